/- Contracts of the statements' own helpers of layer 7: awake. LinX: the text with package line's contracts (LineRight_any ..). -/
import Derived.Test.YtgpiaibklokhmaaArgD
import Derived.Test.YtgpiaibklokhmaaLinX
set_option linter.unusedVariables false
set_option linter.unusedSimpArgs false
namespace Go.Proofs.Ytgpiaibklokhmaa
open Go.RowKit
namespace Cm

/-- Answers, the slice written out. -/
def GetsJS (r : List Int × Int × Int) (w : World) (e : Ending) (w' : World) : Prop :=
  ∃ a p, e = .returned (.tuple #[.slice a r.1.length p, .int .i64 r.2.1, .int .i64 r.2.2]) ∧ RdI w' (.slice a r.1.length p) r.1 ∧ Below w.heap.size w w'
theorem GetsJ.s {r : List Int × Int × Int} {w : World} {e : Ending} {w' : World} (h : GetsJ r w e w') : GetsJS r w e w' := by
  obtain ⟨u, q1, q2, q3⟩ := h
  obtain ⟨a, p, rfl⟩ := Rw.own_form q2
  exact ⟨a, p, q1, RdX.own cellsI_length q2, q3⟩
def GetsLS (r : List Int × Bool) (w : World) (e : Ending) (w' : World) : Prop :=
  ∃ a p, e = .returned (.tuple #[.slice a r.1.length p, .bool r.2]) ∧ RdI w' (.slice a r.1.length p) r.1 ∧ Below w.heap.size w w'
theorem GetsL.s {r : List Int × Bool} {w : World} {e : Ending} {w' : World} (h : GetsL r w e w') : GetsLS r w e w' := by
  obtain ⟨u, q1, q2, q3⟩ := h
  obtain ⟨a, p, rfl⟩ := Rw.own_form q2
  exact ⟨a, p, q1, RdX.own cellsI_length q2, q3⟩
def GetsXS (r : Int × List Int × Bool) (w : World) (e : Ending) (w' : World) : Prop :=
  ∃ a p, e = .returned (.tuple #[.int .i64 r.1, .slice a r.2.1.length p, .bool r.2.2]) ∧ RdI w' (.slice a r.2.1.length p) r.2.1 ∧ Below w.heap.size w w'
theorem GetsX.s {r : Int × List Int × Bool} {w : World} {e : Ending} {w' : World} (h : GetsX r w e w') : GetsXS r w e w' := by
  obtain ⟨u, q1, q2, q3⟩ := h
  obtain ⟨a, p, rfl⟩ := Rw.own_form q2
  exact ⟨a, p, q1, RdX.own cellsI_length q2, q3⟩
def GetsNS (r : List Int) (w : World) (e : Ending) (w' : World) : Prop :=
  ∃ a p, e = .returned (.slice a r.length p) ∧ RdI w' (.slice a r.length p) r ∧ Below w.heap.size w w'
theorem GetsN.s {r : List Int} {w : World} {e : Ending} {w' : World} (h : GetsN r w e w') : GetsNS r w e w' := by
  obtain ⟨u, q1, q2, q3⟩ := h
  obtain ⟨a, p, rfl⟩ := Rw.own_form q2
  exact ⟨a, p, q1, RdX.own cellsI_length q2, q3⟩

theorem alloc_at7 (w : World) (o : Obj) : (w.alloc o).heap[w.heap.size]? = some o := by
  show (w.heap.push o)[w.heap.size]? = _
  simp

theorem same_refl (u v : Value) (l : List Int) (w : World) (h : RdI w u l) (h2 : RdI w v l) : Calls Try.prog 11 #[u, v] w (SaysB true w) := by
  have := SameInts_any u v l l w h h2
  rwa [(sameI_iff l l).2 rfl] at this

theorem lit1 (w : World) (x : Int) : RdI (w.alloc (.cells #[.int .i64 x] 3)) (.slice (some ⟨w.heap.size, 0, none⟩) 1 1) [x] :=
  RdX.one (alloc_at7 w _) rfl
theorem lit2 (w : World) (x y : Int) : RdI (w.alloc (.cells #[.int .i64 x, .int .i64 y] 3)) (.slice (some ⟨w.heap.size, 0, none⟩) 2 2) [x, y] :=
  RdX.block (l := [x, y]) cellsI_length (alloc_at7 w _) rfl (by unfold maxLen; simp)

theorem acts2_at {w : World} {a : Option Addr} {n cap : Nat} {l : List Act2} (h : RdX 2 cells2 w (.slice a n cap) l) (i : Nat) (hi : i < l.length) :
    ∃ b o, a = some ⟨b, o, none⟩ ∧ ∀ w' : World, Below w.heap.size w w' → w'.cell? ⟨b, o + i * 2, none⟩ = some (.int .i64 l[i].do_) ∧ w'.cell? ⟨b, o + i * 2 + 1, none⟩ = some (.int .i64 l[i].client) := by
  obtain ⟨b, o, e, c⟩ := h.at i hi
  exact ⟨b, o, e, fun w' hb => ⟨c w' hb 0 _ rfl, c w' hb 1 _ rfl⟩⟩

set_option maxHeartbeats 2000000 in
theorem awake7_ok (w : World) : Calls Try.prog 8 #[] w (SaysB true w) := by
  have e1 : joinL [4] 2 = ([4, 2], 1, 0) := by decide +kernel
  have e2 : rightL [4, 2] = true := by decide +kernel
  have e3 : withoutL [4, 2] [4] = [2] := by decide +kernel
  have c1 : ∀ v w, RdI w v [4] → Calls Try.prog 9 #[v, .int .i64 2] w (GetsJS ([4, 2], 1, 0) w) := fun v w h => by
    have := LineJoin_any v [4] 2 w h
    rw [e1] at this
    exact this.mono fun e w' h => GetsJ.s h
  have c2 : ∀ v w, RdI w v [4, 2] → Calls Try.prog 17 #[v] w (SaysB true w) := fun v w h => by
    have := LineRight_any v [4, 2] w h
    rwa [e2] at this
  have c3 : ∀ v u w, RdI w v [4, 2] → RdI w u [4] → Calls Try.prog 18 #[v, u] w (GetsNS [2] w) := fun v u w h h2 => by
    have := LineWithout_any v u [4, 2] [4] w h h2 (by simp)
    rw [e3] at this
    exact this.mono fun e w' h => GetsN.s h
  have C1 := Lib.hid c1
  have C2 := Lib.hid c2
  have C3 := Lib.hid c3
  clear c1 c2 c3 e1 e2 e3
  unfold GetsJS at C1
  unfold GetsNS at C3
  simp only [List.length_cons, List.length_nil] at C1 C3
  go_enter Try.func8, Try.ntmps8
  go_wp2_with fail
  refine (C1.out _ _ (lit1 w 4)).mono ?_
  rintro e w1 ⟨a1, p1, rfl, hr1, hb1⟩
  have HR1 := Lib.hid hr1
  have HB1 := Lib.hid (step (newAlloc w (.cells #[.int .i64 4] 3)) hb1)
  clear hr1 hb1
  go_wp2_with fail
  refine (same_refl _ _ [4, 2] _ (HR1.out.later (newAlloc _ _)) (lit2 w1 4 2)).mono ?_
  rintro e w2 ⟨rfl, hb2⟩
  have HB2 := Lib.hid (step HB1.out (step (newAlloc w1 (.cells #[.int .i64 4, .int .i64 2] 3)) hb2))
  have HR2 := Lib.hid (HR1.out.later (step (newAlloc w1 (.cells #[.int .i64 4, .int .i64 2] 3)) hb2))
  clear hb2
  go_wp2_with fail
  refine (C2.out _ _ HR2.out).mono ?_
  rintro e w3 ⟨rfl, hb3⟩
  have HB3 := Lib.hid (step HB2.out hb3)
  have HR3 := Lib.hid (HR2.out.later hb3)
  clear hb3
  go_wp2_with fail
  refine (C3.out _ _ _ (HR3.out.later (newAlloc _ _)) (lit1 w3 4)).mono ?_
  rintro e w4 ⟨a4, p4, rfl, hr4, hb4⟩
  have HR4 := Lib.hid hr4
  have HB4 := Lib.hid (step HB3.out (step (newAlloc w3 (.cells #[.int .i64 4] 3)) hb4))
  clear hr4 hb4
  go_wp2_with fail
  refine (same_refl _ _ [2] _ (HR4.out.later (newAlloc _ _)) (lit1 w4 2)).mono ?_
  rintro e w5 ⟨rfl, hb5⟩
  have HB5 := Lib.hid (step HB4.out (step (newAlloc w4 (.cells #[.int .i64 2] 3)) hb5))
  clear hb5
  go_wp2
  go_ret
  exact ⟨rfl, HB5.out⟩
end Cm
end Go.Proofs.Ytgpiaibklokhmaa
