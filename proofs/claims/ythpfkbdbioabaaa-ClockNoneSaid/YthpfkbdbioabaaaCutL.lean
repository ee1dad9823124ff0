/- A region's operations, cut in two: the walk of the second part stands behind a name while the first is walked. No program is named here. -/
import Derived.WalkKit
import Derived.ProofKit
import Derived.Lib.Hide
import Derived.Below
import Derived.Tactics
import Derived.Orders
set_option linter.unusedVariables false
set_option linter.unusedSimpArgs false
namespace Go.Proofs.Ythpfkbdbioabaaa
open Go.RowKit

theorem wp_then {P : Program} {Q : Exit → Act → World → Prop} {o : Oper} {a : Act} {w : World} {K K' N : Act → World → Prop} (h : ∀ a w, K a w → K' a w) (hh : o.wp P a w K (Exit.then N Q)) : o.wp P a w K' Q := by
  unfold Oper.wp at *
  generalize (execOp a.eval o).run P w = r at *
  cases r with
  | ok n w' =>
    cases n <;> simp only [Oper.upon] at hh ⊢ <;>
      first
        | exact h _ _ hh
        | exact Calls.mono hh (fun e w'' he => by cases e <;> first | exact h _ _ he | exact he)
        | exact Rows.mono hh (fun _ _ he => h _ _ he)
  | halt x w' => cases x <;> simp only [Oper.upon] at hh ⊢ <;> exact hh

theorem wpList_seq {P : Program} {ops : Array Oper} {Q : Exit → Act → World → Prop} {L2 : List Oper} (L1 : List Oper) : ∀ (a : Act) (w : World), wpList P ops (Exit.then (wpList P ops Q L2) Q) L1 a w → wpList P ops Q (L1 ++ L2) a w := by
  induction L1 with
  | nil => intro a w h; exact h
  | cons o rest ih =>
    intro a w h
    show wpList P ops Q (o :: (rest ++ L2)) a w
    unfold wpList at h ⊢
    split
    · rename_i hw
      rw [if_pos hw] at h
      rcases h with h | ⟨h1, h2⟩
      · exact .inl (wp_then ih h)
      · exact .inr ⟨h1, h2⟩
    · rename_i hw
      rw [if_neg hw] at h
      exact ih _ _ h

/-- What is behind the first n operations stands behind a name. -/
theorem wpList_cut {P : Program} {ops : Array Oper} {Q : Exit → Act → World → Prop} {L : List Oper} {a : Act} {w : World} (n : Nat)
    (h : ∀ K : Act → World → Prop, Hid (∀ a w, wpList P ops Q (L.drop n) a w → K a w) → wpList P ops (Exit.then K Q) (L.take n) a w) : wpList P ops Q L a w := by
  have := wpList_seq (L.take n) a w (h _ (fun _ _ q => q))
  rwa [List.take_append_drop] at this
end Go.Proofs.Ythpfkbdbioabaaa
