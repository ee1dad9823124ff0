/- Contracts of package clock, on: Len, Ref, Worst, has, Now, Set. -/
import Derived.Test.YthpfkbdbioabaaaClkA
import Derived.Deep.RegionWith
set_option linter.unusedVariables false
set_option linter.unusedSimpArgs false
namespace Go.Proofs.Ythpfkbdbioabaaa
open Go.RowKit
attribute [local go_sem] Dbl.run_fadd Dbl.run_fsub Dbl.run_fmul Dbl.run_fdiv Dbl.run_fmax Dbl.run_fmin Dbl.unary_fneg Dbl.ford_lt Dbl.ford_gt Dbl.ford_eq Dbl.ford_ne Dbl.pick_told Dbl.pickW_told run_store_float

open Clk (St)

theorem grown_drew {w w' : World} {r : Option Nat} (h : w.grownBy w' r) : w.grownBy w'.drew r := ⟨h.os, h.tape, h.output, h.size, h.block⟩
theorem grown_set (w : World) (a : Addr) (v : Value) : w.grownBy (w.setCell a v) (some a.block) :=
  ⟨rfl, rfl, rfl, by simp [World.setCell], fun j hj hne => Below.heap_setCell _ _ _ _ (by intro e; subst e; exact hne rfl)⟩

/-- The pointer to clocks. -/
abbrev pt (b : Nat) : Value := .pointer (some ⟨b, 0, none⟩)

theorem Len_any (w : World) (b : Nat) (s : St) (h : HasC w b s) :
    Calls Try.prog 21 #[pt b] w fun e w' => e = .returned (.int .i64 s.n) ∧ w = w' := by
  have h1 := h.cnt
  clear h
  go_enter Try.func21, Try.ntmps21
  go_wp2
  go_ret
  exact ⟨rfl, rfl⟩

theorem Len_nil (w : World) :
    Calls Try.prog 21 #[.pointer none] w fun e w' => e = .returned (.int .i64 0) ∧ w = w' := by
  go_enter Try.func21, Try.ntmps21
  go_wp2
  go_ret
  exact ⟨rfl, rfl⟩

theorem Ref_any (w : World) (b : Nat) (s : St) (h : HasC w b s) :
    Calls Try.prog 17 #[pt b] w fun e w' => e = .returned (.int .i64 s.ref) ∧ w = w' := by
  have h1 := h.ref
  clear h
  go_enter Try.func17, Try.ntmps17
  go_wp2
  go_ret
  exact ⟨rfl, rfl⟩

theorem Ref_nil (w : World) :
    Calls Try.prog 17 #[.pointer none] w fun e w' => e = .returned (.int .i64 0) ∧ w = w' := by
  go_enter Try.func17, Try.ntmps17
  go_wp2
  go_ret
  exact ⟨rfl, rfl⟩

theorem Worst_any (w : World) (b : Nat) (s : St) (h : HasC w b s) :
    Calls Try.prog 18 #[pt b] w fun e w' => e = .returned (.int .i64 s.worst) ∧ w = w' := by
  have h1 := h.worst
  clear h
  go_enter Try.func18, Try.ntmps18
  go_wp2
  go_ret
  exact ⟨rfl, rfl⟩

theorem Worst_nil (w : World) :
    Calls Try.prog 18 #[.pointer none] w fun e w' => e = .returned (.int .i64 0) ∧ w = w' := by
  go_enter Try.func18, Try.ntmps18
  go_wp2
  go_ret
  exact ⟨rfl, rfl⟩

theorem has_any (w : World) (b : Nat) (s : St) (i : Int) (h : HasC w b s) :
    Calls Try.prog 26 #[pt b, .int .i64 i] w fun e w' => e = .returned (.bool (decide (0 ≤ i ∧ i < s.n))) ∧ w = w' := by
  have C := Lib.hid (Len_any w b s h)
  clear h
  by_cases h0 : 0 ≤ i
  · by_cases h1 : i < s.n
    · rw [show decide (0 ≤ i ∧ i < (s.n : Int)) = true by simp [h0, h1]]
      go_enter Try.func26, Try.ntmps26
      go_wp2_with (go_at_call 21; refine C.out.mono ?_; rintro e w' ⟨rfl, rfl⟩)
      go_ret
      exact ⟨rfl, rfl⟩
    · rw [show decide (0 ≤ i ∧ i < (s.n : Int)) = false by simp [h1]]
      have e1 : decide (i < (s.n : Int)) = false := decide_eq_false h1
      go_enter Try.func26, Try.ntmps26
      go_wp2_with (go_at_call 21; refine C.out.mono ?_; rintro e w' ⟨rfl, rfl⟩)
      go_ret
      exact ⟨rfl, rfl⟩
  · rw [show decide (0 ≤ i ∧ i < (s.n : Int)) = false by simp [h0]]
    go_enter Try.func26, Try.ntmps26
    go_wp2_with (go_at_call 21; refine C.out.mono ?_; rintro e w' ⟨rfl, rfl⟩)
    go_ret
    exact ⟨rfl, rfl⟩

theorem has_nil (w : World) (i : Int) :
    Calls Try.prog 26 #[.pointer none, .int .i64 i] w fun e w' => e = .returned (.bool false) ∧ w = w' := by
  have C := Lib.hid (Len_nil w)
  by_cases h0 : 0 ≤ i
  · have e1 : decide (i < (0 : Int)) = false := decide_eq_false (by omega)
    go_enter Try.func26, Try.ntmps26
    go_wp2_with (go_at_call 21; refine C.out.mono ?_; rintro e w' ⟨rfl, rfl⟩)
    go_ret
    exact ⟨rfl, rfl⟩
  · go_enter Try.func26, Try.ntmps26
    go_wp2_with (go_at_call 21; refine C.out.mono ?_; rintro e w' ⟨rfl, rfl⟩)
    go_ret
    exact ⟨rfl, rfl⟩

theorem Now_any (w : World) (b : Nat) (s : St) (i : Int) (h : HasC w b s) (hn : s.n ≤ 15) :
    Calls Try.prog 19 #[pt b, .int .i64 i] w fun e w' => e = .returned (.int .i64 (Clk.nowI s i)) ∧ w = w' := by
  have C := Lib.hid (has_any w b s i h)
  unfold Clk.nowI
  by_cases hi : 0 ≤ i ∧ i < s.n
  · rw [if_pos hi]
    have e : decide (0 ≤ i ∧ i < (s.n : Int)) = true := decide_eq_true hi
    rw [e] at C
    obtain ⟨k, rfl⟩ : ∃ k : Nat, i = k := ⟨i.toNat, by omega⟩
    rw [Int.toNat_natCast]
    have hk : k < 15 := by omega
    have h1 := h.shown k hk
    generalize s.shown k = v at *
    clear h e hi
    go_enter Try.func19, Try.ntmps19
    go_wp2_with (go_at_call 26; refine C.out.mono ?_; rintro e w' ⟨rfl, rfl⟩)
    go_ret
    exact ⟨rfl, rfl⟩
  · rw [if_neg hi]
    have e : decide (0 ≤ i ∧ i < (s.n : Int)) = false := decide_eq_false hi
    rw [e] at C
    clear h e hi
    go_enter Try.func19, Try.ntmps19
    go_wp2_with (go_at_call 26; refine C.out.mono ?_; rintro e w' ⟨rfl, rfl⟩)
    go_ret
    exact ⟨rfl, rfl⟩

theorem Now_nil (w : World) (i : Int) :
    Calls Try.prog 19 #[.pointer none, .int .i64 i] w fun e w' => e = .returned (.int .i64 0) ∧ w = w' := by
  have C := Lib.hid (has_nil w i)
  go_enter Try.func19, Try.ntmps19
  go_wp2_with (go_at_call 26; refine C.out.mono ?_; rintro e w' ⟨rfl, rfl⟩)
  go_ret
  exact ⟨rfl, rfl⟩

/-- What Set says. -/
def setCode (s : St) (i : Int) : Int := if 0 ≤ i ∧ i < s.n then 0 else 6

theorem Set_any (w : World) (b : Nat) (s : St) (i : Int) (x : Nat) (h : HasC w b s) (hn : s.n ≤ 15) :
    Calls Try.prog 14 #[pt b, .int .i64 i, .float .f64 x] w fun e w' => e = .returned (.int .i64 (setCode s i)) ∧ HasC w' b (Clk.setI s i x) ∧ w.grownBy w' (some b) := by
  have C := Lib.hid (has_any w b s i h)
  unfold Clk.setI setCode
  by_cases hi : 0 ≤ i ∧ i < s.n
  · rw [if_pos hi, if_pos hi]
    have e : decide (0 ≤ i ∧ i < (s.n : Int)) = true := decide_eq_true hi
    rw [e] at C
    obtain ⟨k, rfl⟩ : ∃ k : Nat, i = k := ⟨i.toNat, by omega⟩
    rw [Int.toNat_natCast]
    have hk : k < 15 := by omega
    have h1 := h.rate k hk
    have h2 := h.open_ (k * 2)
    have K : Hid (HasC (w.setCell ⟨b, k * 2, none⟩ (.float .f64 (Dbl.cleanF x))) b (Clk.set s k x)) := h.setRate k hk (Dbl.cleanF x)
    have D : Hid (∀ w, Calls Try.prog 27 #[.float .f64 x] w fun e w' => e = .returned (.float .f64 (Dbl.cleanF x)) ∧ w = w') := Clean_any x
    have G : Hid (∀ v, w.grownBy (w.setCell ⟨b, k * 2, none⟩ v) (some b)) := fun v => ⟨rfl, rfl, rfl, by simp [World.setCell], fun j hj hne => Below.heap_setCell _ _ _ _ (by intro e; subst e; exact hne rfl)⟩
    generalize s.rate k = v at *
    generalize Clk.set s k x = s' at *
    generalize Dbl.cleanF x = cx at *
    clear h e hi
    go_enter Try.func14, Try.ntmps14
    go_wp2_with (go_at_call 26; refine C.out.mono ?_; rintro e w' ⟨rfl, rfl⟩)
    go_region_with (go_at_call 27; refine (D.out _).mono ?_; rintro e w' ⟨rfl, rfl⟩)
    all_goals go_wp2_with fail
    all_goals go_ret
    all_goals first | exact ⟨rfl, K.out, G.out _⟩ | exact ⟨rfl, K.out, grown_drew (G.out _)⟩
  · rw [if_neg hi, if_neg hi]
    have e : decide (0 ≤ i ∧ i < (s.n : Int)) = false := decide_eq_false hi
    rw [e] at C
    have H := Lib.hid h
    clear h e hi
    go_enter Try.func14, Try.ntmps14
    go_wp2_with (go_at_call 26; refine C.out.mono ?_; rintro e w' ⟨rfl, rfl⟩)
    go_ret
    exact ⟨rfl, H.out, World.grownBy.refl _ _⟩

theorem Set_nil (w : World) (i : Int) (x : Nat) :
    Calls Try.prog 14 #[.pointer none, .int .i64 i, .float .f64 x] w fun e w' => e = .returned (.int .i64 6) ∧ w = w' := by
  have C := Lib.hid (has_nil w i)
  go_enter Try.func14, Try.ntmps14
  go_wp2_with (go_at_call 26; refine C.out.mono ?_; rintro e w' ⟨rfl, rfl⟩)
  go_ret
  exact ⟨rfl, rfl⟩
end Go.Proofs.Ythpfkbdbioabaaa
