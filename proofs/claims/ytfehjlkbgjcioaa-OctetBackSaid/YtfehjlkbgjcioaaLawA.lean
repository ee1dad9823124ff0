/- Contracts of the statements' own helpers of layer 1: Same, awake. -/
import Derived.Test.YtfehjlkbgjcioaaRefB
set_option linter.unusedVariables false
set_option linter.unusedSimpArgs false
namespace Go.Proofs.Ytfehjlkbgjcioaa
open Go.RowKit

theorem Same_any (u v : Value) (a b : List UInt8) (w : World) (hu : Rd w u a) (hv : Rd w v b) :
    Calls Try.prog 18 #[u, v] w fun e w' => e = .returned (.bool (a == b)) ∧ w = w' := by
  have h1 := conv_rd w (P := Try.prog) Try.underlying22 Try.underlying5 Try.underlying9 u a hu
  have h2 := conv_rd w (P := Try.prog) Try.underlying22 Try.underlying5 Try.underlying9 v b hv
  clear hu hv
  go_enter Try.func18, Try.ntmps18
  go_wp2
  go_ret
  exact ⟨by simp only [ByteArray.toList_eq, bstr_toList]; rfl, rfl⟩

theorem Same_yes (u v : Value) (a : List UInt8) (w : World) (hu : Rd w u a) (hv : Rd w v a) :
    Calls Try.prog 18 #[u, v] w fun e w' => e = .returned (.bool true) ∧ w = w' :=
  (Same_any u v a a w hu hv).mono fun e w' h => by simpa using h

/-- Bytes told, to be read. -/
def MadeRd (r : List UInt8 × Int) (w : World) (e : Ending) (w' : World) : Prop :=
  ∃ v, e = .returned (.tuple #[v, .int .i64 r.2]) ∧ Rd w' v r.1 ∧ Below w.heap.size w w'

theorem Made.rd {r : List UInt8 × Int} {w : World} {e : Ending} {w' : World} (h : Made r w e w') : MadeRd r w e w' := by
  obtain ⟨v, he, ho, hb⟩ := h
  exact ⟨v, he, Rd.own ho, hb⟩

theorem rd_lit (w : World) (cs : Array Value) (bs : List UInt8) (h : cs.toList = cellsOf bs) (hm : bs.length ≤ maxLen) : Rd (w.alloc (.cells cs 5)) (.slice (some ⟨w.heap.size, 0, none⟩) bs.length bs.length) bs :=
  Rd.own (owns_lit w cs bs h hm)

set_option maxRecDepth 100000 in
theorem awake_ok (w : World) : Calls Try.prog 9 #[] w fun e w' => e = .returned (.bool true) ∧ Below w.heap.size w w' := by
  have c1 : ∀ w, Calls Try.prog 10 #[.int .i64 258] w (MadeRd ([0, 0, 0, 0, 0, 0, 1, 2], 0) w) := fun w => (PutNum_any 258 w).mono fun e w' h => Made.rd h
  have c2 : ∀ v w, Rd w v [0, 0, 0, 0, 0, 0, 1, 2] → Calls Try.prog 12 #[v, .int .i64 0] w (Three (258, 8, 0) w) := fun v w h => Num_any v _ 0 w h (by omega)
  have c3 : ∀ w, Calls Try.prog 19 #[.string ⟨#[97, 98]⟩] w (MadeRd ([2, 97, 98], 0) w) := fun w => (PutText_any ⟨#[97, 98]⟩ w).mono fun e w' h => Made.rd h
  have c4 : ∀ v w, Rd w v [0, 0, 0, 0, 0, 0, 1, 2] → Calls Try.prog 23 #[v, .int .i64 7] w (OneTold 3 w) := fun v w h => End_any v _ 7 w h (by omega)
  have C1 := Lib.hid c1
  have C2 := Lib.hid c2
  have C3 := Lib.hid c3
  have C4 := Lib.hid c4
  clear c1 c2 c3 c4
  go_enter Try.func9, Try.ntmps9
  go_wp2_with (first
    | (go_at_call 10; refine (C1.out _).mono ?_; rintro e w1 ⟨v1, rfl, hr1, hb1⟩)
    | (go_at_call 12; refine (C2.out _ _ hr1).mono ?_; rintro e w2 ⟨rfl, hb2⟩)
    | (go_at_call 19; refine (C3.out _).mono ?_; rintro e w3 ⟨v3, rfl, hr3, hb3⟩))
  have L1 := fun w0 => rd_lit w0 #[.int .u8 0, .int .u8 0, .int .u8 0, .int .u8 0, .int .u8 0, .int .u8 0, .int .u8 1, .int .u8 2] [0, 0, 0, 0, 0, 0, 1, 2] rfl (by simp [maxLen])
  have L2 := fun w0 => rd_lit w0 #[.int .u8 2, .int .u8 97, .int .u8 98] [2, 97, 98] rfl (by simp [maxLen])
  have r1 := hr1.later (stepAlloc (step hb2 hb3) (.cells #[.int .u8 0, .int .u8 0, .int .u8 0, .int .u8 0, .int .u8 0, .int .u8 0, .int .u8 1, .int .u8 2] 5))
  refine (Same_yes v1 _ _ _ r1 (L1 w3)).mono ?_
  rintro e w' ⟨rfl, rfl⟩
  go_wp2_with fail
  refine (Same_yes v3 _ _ _ (hr3.later (stepAlloc (newAlloc _ _) _)) (by simpa using L2 (w3.alloc _))).mono ?_
  rintro e w' ⟨rfl, rfl⟩
  go_wp2_with fail
  refine (C4.out v1 _ (r1.later (newAlloc _ _))).mono ?_
  rintro e w' ⟨rfl, hb4⟩
  go_wp2
  go_ret
  exact ⟨rfl, step (stepAlloc (stepAlloc (step (step hb1 hb2) hb3) _) _) hb4⟩
end Go.Proofs.Ytfehjlkbgjcioaa
