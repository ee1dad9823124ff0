/- Contracts of the statements' own helpers of layer 6: awake. SesX: the text with package session's contracts (SesFind_any ..), of the same forms as the document's. -/
import Derived.Test.YtkhcnhfdcbellaaArgC
import Derived.Test.YtkhcnhfdcbellaaFSesB
import Derived.Test.YtkhcnhfdcbellaaSesO
set_option linter.unusedVariables false
set_option linter.unusedSimpArgs false
namespace Go.Proofs.Ytkhcnhfdcbellaa
open Go.RowKit
namespace Cm

/-- Sessions told, the slice written out. -/
def GetsSS (r : List SesV × Int) (w : World) (e : Ending) (w' : World) : Prop :=
  ∃ a p, e = .returned (.tuple #[.slice a r.1.length p, .int .i64 r.2]) ∧ RdS w' (.slice a r.1.length p) r.1 ∧ Below w.heap.size w w'

theorem GetsS.s {r : List SesV × Int} {w : World} {e : Ending} {w' : World} (h : GetsS r w e w') : GetsSS r w e w' := by
  obtain ⟨u, q1, q2, q3⟩ := h
  obtain ⟨a, p, rfl⟩ := Rw.own_form q2
  exact ⟨a, p, q1, RdX.own cellsS_length q2, q3⟩

/-- Numbers told, the slice written out. -/
def GetsNS (r : List Int) (w : World) (e : Ending) (w' : World) : Prop :=
  ∃ a p, e = .returned (.slice a r.length p) ∧ RdI w' (.slice a r.length p) r ∧ Below w.heap.size w w'

theorem GetsN.s {r : List Int} {w : World} {e : Ending} {w' : World} (h : GetsN r w e w') : GetsNS r w e w' := by
  obtain ⟨u, q1, q2, q3⟩ := h
  obtain ⟨a, p, rfl⟩ := Rw.own_form q2
  exact ⟨a, p, q1, RdX.own cellsI_length q2, q3⟩

theorem alloc_at6 (w : World) (o : Obj) : (w.alloc o).heap[w.heap.size]? = some o := by
  show (w.heap.push o)[w.heap.size]? = _
  simp

set_option maxHeartbeats 2000000 in
theorem awake6_ok (w : World) : Calls Try.prog 8 #[] w (SaysB true w) := by
  have e1 : openS [] 2 1 5 = ([⟨2, 1, 5⟩], 0) := by simp [openS, clientF, highF, takenS, findS, putS]
  have e2 : dueS [⟨2, 1, 5⟩] 15 10 = [2] := by decide +kernel
  have e3 : dueS [⟨2, 1, 5⟩] 14 10 = [] := by decide +kernel
  have c1 : ∀ w, Calls Try.prog 9 #[.slice none 0 0, .int .i64 2, .int .i64 1, .int .i64 5] w (GetsSS ([⟨2, 1, 5⟩], 0) w) := fun w => by
    have := SesOpen_any (.slice none 0 0) [] 2 1 5 w (RdX.nil w)
    rw [e1] at this
    exact this.mono fun e w' h => GetsS.s h
  have c2 : ∀ u v w, RdS w u [⟨2, 1, 5⟩] → RdS w v [⟨2, 1, 5⟩] → Calls Try.prog 15 #[u, v] w (SaysB true w) := fun u v w h1 h2 => SameSes_any u v [⟨2, 1, 5⟩] [⟨2, 1, 5⟩] w h1 h2
  have hr : ∀ s ∈ [(⟨2, 1, 5⟩ : SesV)], highF s.ren 0 = true := by decide +kernel
  have c3 : ∀ v w, RdS w v [⟨2, 1, 5⟩] → Calls Try.prog 20 #[v, .int .i64 15, .int .i64 10] w (GetsNS [2] w) := fun v w h => by
    have := SesDue_any v [⟨2, 1, 5⟩] 15 10 w h (by simp) hr
    rw [e2] at this
    exact this.mono fun e w' h => GetsN.s h
  have c4 : ∀ v w, RdS w v [⟨2, 1, 5⟩] → Calls Try.prog 20 #[v, .int .i64 14, .int .i64 10] w (GetsNS [] w) := fun v w h => by
    have := SesDue_any v [⟨2, 1, 5⟩] 14 10 w h (by simp) hr
    rw [e3] at this
    exact this.mono fun e w' h => GetsN.s h
  have c5 : ∀ u v w, RdI w u [2] → RdI w v [2] → Calls Try.prog 19 #[u, v] w (SaysB true w) := fun u v w h1 h2 => SameInts_any u v [2] [2] w h1 h2
  have C1 := Lib.hid c1
  have C2 := Lib.hid c2
  have C3 := Lib.hid c3
  have C4 := Lib.hid c4
  have C5 := Lib.hid c5
  clear c1 c2 c3 c4 c5 e1 e2 e3 hr
  go_enter Try.func8, Try.ntmps8
  go_wp2_with (first
    | (go_at_call 9; refine (C1.out _).mono ?_; rintro e w1 ⟨a1, p1, rfl, hr1, hb1⟩; have HR1 := Lib.hid hr1; have HB1 := Lib.hid hb1; clear hr1 hb1)
    | (go_at_call 15; refine (C2.out _ _ _ (HR1.out.later (newAlloc _ _)) (RdX.one (alloc_at6 w1 _) rfl)).mono ?_; rintro e w2 ⟨rfl, hb2⟩; have HR2 := Lib.hid (HR1.out.later (step (newAlloc _ _) hb2)); have HB2 := Lib.hid (step HB1.out (step (newAlloc _ _) hb2)); clear hb2))
  refine (C3.out _ _ HR2.out).mono ?_
  rintro e w3 ⟨a3, p3, rfl, hr3, hb3⟩
  have HR3 := Lib.hid hr3
  have HB3 := Lib.hid (step HB2.out hb3)
  have HR4 := Lib.hid (HR2.out.later hb3)
  clear hr3 hb3
  go_wp2_with (go_at_call 19; refine (C5.out _ _ _ (HR3.out.later (newAlloc _ _)) (RdX.one (alloc_at6 w3 _) rfl)).mono ?_; rintro e w4 ⟨rfl, hb4⟩; have HR5 := Lib.hid (HR4.out.later (step (newAlloc _ _) hb4)); have HB5 := Lib.hid (step HB3.out (step (newAlloc _ _) hb4)); clear hb4)
  refine (C4.out _ _ HR5.out).mono ?_
  rintro e w5 ⟨a5, p5, rfl, hr5, hb5⟩
  go_wp2
  go_ret
  exact ⟨rfl, step HB5.out hb5⟩

theorem quad_cells {w : World} {b : Nat} {x y z u : Value} {t : TypeId} (h : w.heap[b]? = some (.cells #[x, y, z, u] t)) : w.cell? ⟨b, 0, none⟩ = some x ∧ w.cell? ⟨b, 1, none⟩ = some y ∧ w.cell? ⟨b, 2, none⟩ = some z ∧ w.cell? ⟨b, 3, none⟩ = some u := by
  refine ⟨?_, ?_, ?_, ?_⟩ <;> simp [World.cell?, h]

theorem tri_cells {w : World} {b : Nat} {x y z : Value} {t : TypeId} (h : w.heap[b]? = some (.cells #[x, y, z] t)) : w.cell? ⟨b, 0, none⟩ = some x ∧ w.cell? ⟨b, 1, none⟩ = some y ∧ w.cell? ⟨b, 2, none⟩ = some z := by
  refine ⟨?_, ?_, ?_⟩ <;> simp [World.cell?, h]

theorem size_lt {w : World} {b : Nat} {o : Obj} (h : w.heap[b]? = some o) : b < w.heap.size := (Array.getElem?_eq_some_iff.1 h).1

theorem block_later {w w' : World} {b : Nat} {o : Obj} (h : w.heap[b]? = some o) (hb : Below w.heap.size w w') : w'.heap[b]? = some o := (hb.block b (size_lt h)).trans h

theorem acts_at {w : World} {a : Option Addr} {n cap : Nat} {l : List ActV} (h : RdX 4 cellsA w (.slice a n cap) l) (i : Nat) (hi : i < l.length) :
    ∃ b o, a = some ⟨b, o, none⟩ ∧ ∀ w' : World, Below w.heap.size w w' → w'.cell? ⟨b, o + i * 4, none⟩ = some (.int .i64 l[i].do_) ∧ w'.cell? ⟨b, o + i * 4 + 1, none⟩ = some (.int .i64 l[i].client) ∧ w'.cell? ⟨b, o + i * 4 + 2, none⟩ = some (.int .i64 l[i].num) ∧ w'.cell? ⟨b, o + i * 4 + 3, none⟩ = some (.int .i64 l[i].now) := by
  obtain ⟨b, o, e, c⟩ := h.at i hi
  exact ⟨b, o, e, fun w' hb => ⟨c w' hb 0 _ rfl, c w' hb 1 _ rfl, c w' hb 2 _ rfl, c w' hb 3 _ rfl⟩⟩

theorem right_ren {l : List SesV} (h : rightS l = true) : ∀ s ∈ l, highF s.ren 0 = true := fun s hs => by
  have := ((rightS_iff l).1 h).2.one s hs
  unfold oneS at this
  simp only [Bool.and_eq_true] at this
  exact this.2

theorem open_bad (l : List SesV) (c n t : Int) (h : (clientF c && highF n 1 && highF t 0) = false ∨ takenS l c n = true) : openS l c n t = ([], 1) := by
  unfold openS
  rcases h with h | h
  · rw [if_pos h]
  · by_cases q : (clientF c && highF n 1 && highF t 0) = false
    · rw [if_pos q]
    · rw [if_neg q, if_pos h]

theorem open_good (l : List SesV) (c n t : Int) (h : (clientF c && highF n 1 && highF t 0) = true) (h2 : takenS l c n = false) :
    (openS l c n t).2 ≠ 1 ∧ (((openS l c n t).2 = 0 ∧ (openS l c n t).1.length = l.length + 1) ∨ ((openS l c n t).2 ≠ 0 ∧ (openS l c n t).1.length = 0)) := by
  unfold openS
  rw [if_neg (by rw [h]; simp), if_neg (by rw [h2]; simp)]
  split
  · exact ⟨by simp, .inr ⟨by simp, rfl⟩⟩
  · split
    · exact ⟨by simp, .inr ⟨by simp, rfl⟩⟩
    · exact ⟨by simp, .inl ⟨rfl, putS_length _ _⟩⟩

theorem renew_code (l : List SesV) (c t : Int) : (highF t 0 = false → (renewS l c t).2 = 1) ∧ (highF t 0 = true → (renewS l c t).2 ≠ 1) := by
  unfold renewS
  constructor
  · intro h
    rw [if_pos h]
  · intro h
    rw [if_neg (by rw [h]; simp)]
    split <;> simp

theorem taken_take (l : List SesV) (c n : Int) (k : Nat) (h : k < l.length) : takenS (l.take (k + 1)) c n = (takenS (l.take k) c n || (decide (l[k].num = n) && !decide (l[k].client = c))) := by
  unfold takenS
  rw [List.take_succ_eq_append_getElem h, List.any_append]
  simp

/-- Fine sessions made, the slice written out. -/
def MadeFS (w : World) (e : Ending) (w' : World) : Prop :=
  ∃ l a p, e = .returned (.slice a (List.length l) p) ∧ Fine l ∧ RdS w' (.slice a l.length p) l ∧ Below w.heap.size w w'

theorem MadeF.s {w w' : World} {e : Ending} (h : MadeF w e w') : MadeFS w e w' := by
  obtain ⟨l, v, q1, q2, q3, q4⟩ := h
  obtain ⟨a, p, rfl⟩ := Rw.own_form q3
  exact ⟨l, a, p, q1, q2, RdX.own cellsS_length q3, q4⟩
end Cm
end Go.Proofs.Ytkhcnhfdcbellaa
