/- Contracts: codeOf and the deferred closures of package octet. -/
import Derived.Test.YtklnopgnlnfbnaaOctB
import Derived.Laws.Pointers
set_option linter.unusedVariables false
set_option linter.unusedSimpArgs false
namespace Go.Proofs.Ytklnopgnlnfbnaa
open Go.RowKit

theorem assert_failure (v : Value) (w : World) : (Instr.typeAssert (.iface 79 v) 20 79 true).run Try.prog w = .ok (.tuple #[v, .bool true]) w := by kernel_rfl

theorem codeOf_any (c : Int) (w : World) :
    Calls Try.prog 47 #[.iface 79 (.agg #[.int .i64 c])] w fun e w' => e = .returned (.int .i64 c) ∧ w.alloc (.cells #[.int .i64 c] 79) = w' := by
  have ha := assert_failure
  go_enter Try.func47, Try.ntmps47
  go_wp2
  go_ret
  exact ⟨rfl, rfl⟩

theorem catch_Num (b o : Nat) (x c : Int) (older : List PanicEntry) (w : World) (hc : w.cell? ⟨b, o, none⟩ = some (.int .i64 x)) (hz : w.frozen? ⟨b, o, none⟩ = false) :
    CallsD Try.prog 49 #[.pointer (some ⟨b, o, none⟩)] (.panicking ({ v := .iface 79 (.agg #[.int .i64 c]), recovered := false } :: older)) w fun e u' w' =>
      e = .returned (.tuple #[]) ∧ u' = .panicking ({ v := .iface 79 (.agg #[.int .i64 c]), recovered := true } :: older) ∧ w' = (w.setCell ⟨b, o, none⟩ (.int .i64 c)).alloc (.cells #[.int .i64 c] 79) := by
  refine callsD_of_wpS Try.func49 rfl fun c₀ cs hu => ?_
  apply wpS_seq
  apply wpS_region
  simp [wpOpsS, go_sem, recoverD, hu, Try.ntmps49, Exit.thenS]
  apply wpS_seq
  apply wpS_region
  simp [wpOpsS, go_sem, Exit.thenS]
  refine wpS_cond (t := true) (by simp [Act.eval, Array.replicate]) ?_
  simp only [if_true]
  refine wpS_of_wp ?_
  have hp : b < w.heap.size := lt_of_cell hc
  have hcell : (w.alloc (.cells #[.int .i64 c] 79)).cell? ⟨b, o, none⟩ = some (.int .i64 x) := by rw [World.cell?_alloc_past _ _ _ hp]; exact hc
  have hfz : (w.alloc (.cells #[.int .i64 c] 79)).frozen? ⟨b, o, none⟩ = false := by rw [((Below.refl w.heap.size w).alloc (Nat.le_refl _) _).frozen hp]; exact hz
  go_wp2_with (go_at_call 47; refine (codeOf_any _ _).mono ?_; rintro e w' ⟨rfl, rfl⟩)
  cases c₀
  simp_all [bodyPostS, results, Try.results49]

theorem idle_Num (p : Addr) (w : World) :
    CallsD Try.prog 49 #[.pointer (some p)] .returning w fun e u' w' => e = .returned (.tuple #[]) ∧ u' = .returning ∧ w' = w := by
  refine callsD_of_wpS Try.func49 rfl fun c₀ cs hu => ?_
  apply wpS_seq
  apply wpS_region
  simp [wpOpsS, go_sem, recoverD, hu, Try.ntmps49, Exit.thenS]
  apply wpS_seq
  apply wpS_region
  simp [wpOpsS, go_sem, Exit.thenS]
  refine wpS_cond (t := false) (by simp [Act.eval, Array.replicate]) ?_
  simp only [Bool.false_eq_true, if_false]
  refine wpS_of_wp (wp_skip ?_)
  cases c₀
  simp_all [bodyPostS, results, Try.results49]

theorem catch_Byte (b o : Nat) (x c : Int) (older : List PanicEntry) (w : World) (hc : w.cell? ⟨b, o, none⟩ = some (.int .i64 x)) (hz : w.frozen? ⟨b, o, none⟩ = false) :
    CallsD Try.prog 46 #[.pointer (some ⟨b, o, none⟩)] (.panicking ({ v := .iface 79 (.agg #[.int .i64 c]), recovered := false } :: older)) w fun e u' w' =>
      e = .returned (.tuple #[]) ∧ u' = .panicking ({ v := .iface 79 (.agg #[.int .i64 c]), recovered := true } :: older) ∧ w' = (w.setCell ⟨b, o, none⟩ (.int .i64 c)).alloc (.cells #[.int .i64 c] 79) := by
  refine callsD_of_wpS Try.func46 rfl fun c₀ cs hu => ?_
  apply wpS_seq
  apply wpS_region
  simp [wpOpsS, go_sem, recoverD, hu, Try.ntmps46, Exit.thenS]
  apply wpS_seq
  apply wpS_region
  simp [wpOpsS, go_sem, Exit.thenS]
  refine wpS_cond (t := true) (by simp [Act.eval, Array.replicate]) ?_
  simp only [if_true]
  refine wpS_of_wp ?_
  have hp : b < w.heap.size := lt_of_cell hc
  have hcell : (w.alloc (.cells #[.int .i64 c] 79)).cell? ⟨b, o, none⟩ = some (.int .i64 x) := by rw [World.cell?_alloc_past _ _ _ hp]; exact hc
  have hfz : (w.alloc (.cells #[.int .i64 c] 79)).frozen? ⟨b, o, none⟩ = false := by rw [((Below.refl w.heap.size w).alloc (Nat.le_refl _) _).frozen hp]; exact hz
  go_wp2_with (go_at_call 47; refine (codeOf_any _ _).mono ?_; rintro e w' ⟨rfl, rfl⟩)
  cases c₀
  simp_all [bodyPostS, results, Try.results46]

theorem idle_Byte (p : Addr) (w : World) :
    CallsD Try.prog 46 #[.pointer (some p)] .returning w fun e u' w' => e = .returned (.tuple #[]) ∧ u' = .returning ∧ w' = w := by
  refine callsD_of_wpS Try.func46 rfl fun c₀ cs hu => ?_
  apply wpS_seq
  apply wpS_region
  simp [wpOpsS, go_sem, recoverD, hu, Try.ntmps46, Exit.thenS]
  apply wpS_seq
  apply wpS_region
  simp [wpOpsS, go_sem, Exit.thenS]
  refine wpS_cond (t := false) (by simp [Act.eval, Array.replicate]) ?_
  simp only [Bool.false_eq_true, if_false]
  refine wpS_of_wp (wp_skip ?_)
  cases c₀
  simp_all [bodyPostS, results, Try.results46]

theorem catch_Text (b o : Nat) (x c : Int) (older : List PanicEntry) (w : World) (hc : w.cell? ⟨b, o, none⟩ = some (.int .i64 x)) (hz : w.frozen? ⟨b, o, none⟩ = false) :
    CallsD Try.prog 57 #[.pointer (some ⟨b, o, none⟩)] (.panicking ({ v := .iface 79 (.agg #[.int .i64 c]), recovered := false } :: older)) w fun e u' w' =>
      e = .returned (.tuple #[]) ∧ u' = .panicking ({ v := .iface 79 (.agg #[.int .i64 c]), recovered := true } :: older) ∧ w' = (w.setCell ⟨b, o, none⟩ (.int .i64 c)).alloc (.cells #[.int .i64 c] 79) := by
  refine callsD_of_wpS Try.func57 rfl fun c₀ cs hu => ?_
  apply wpS_seq
  apply wpS_region
  simp [wpOpsS, go_sem, recoverD, hu, Try.ntmps57, Exit.thenS]
  apply wpS_seq
  apply wpS_region
  simp [wpOpsS, go_sem, Exit.thenS]
  refine wpS_cond (t := true) (by simp [Act.eval, Array.replicate]) ?_
  simp only [if_true]
  refine wpS_of_wp ?_
  have hp : b < w.heap.size := lt_of_cell hc
  have hcell : (w.alloc (.cells #[.int .i64 c] 79)).cell? ⟨b, o, none⟩ = some (.int .i64 x) := by rw [World.cell?_alloc_past _ _ _ hp]; exact hc
  have hfz : (w.alloc (.cells #[.int .i64 c] 79)).frozen? ⟨b, o, none⟩ = false := by rw [((Below.refl w.heap.size w).alloc (Nat.le_refl _) _).frozen hp]; exact hz
  go_wp2_with (go_at_call 47; refine (codeOf_any _ _).mono ?_; rintro e w' ⟨rfl, rfl⟩)
  cases c₀
  simp_all [bodyPostS, results, Try.results57]

theorem idle_Text (p : Addr) (w : World) :
    CallsD Try.prog 57 #[.pointer (some p)] .returning w fun e u' w' => e = .returned (.tuple #[]) ∧ u' = .returning ∧ w' = w := by
  refine callsD_of_wpS Try.func57 rfl fun c₀ cs hu => ?_
  apply wpS_seq
  apply wpS_region
  simp [wpOpsS, go_sem, recoverD, hu, Try.ntmps57, Exit.thenS]
  apply wpS_seq
  apply wpS_region
  simp [wpOpsS, go_sem, Exit.thenS]
  refine wpS_cond (t := false) (by simp [Act.eval, Array.replicate]) ?_
  simp only [Bool.false_eq_true, if_false]
  refine wpS_of_wp (wp_skip ?_)
  cases c₀
  simp_all [bodyPostS, results, Try.results57]



end Go.Proofs.Ytklnopgnlnfbnaa
