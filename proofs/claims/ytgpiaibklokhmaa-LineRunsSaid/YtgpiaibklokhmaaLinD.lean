/- Contracts: slices.Index, slices.Contains of numbers. -/
import Derived.Test.YtgpiaibklokhmaaLinC
set_option linter.unusedVariables false
set_option linter.unusedSimpArgs false
namespace Go.Proofs.Ytgpiaibklokhmaa
open Go.RowKit
namespace Cm

/-- A number told, the world as it was. -/
def SaysN (r : Int) (w : World) (e : Ending) (w' : World) : Prop := e = .returned (.int .i64 r) ∧ w' = w

theorem Index_num (v : Value) (l : List Int) (c : Int) (w : World) (h : RdI w v l) : Calls Try.prog 27 #[v, .int .i64 c] w (SaysN (idxI (isN c) l) w) := by
  have hm := h.len
  obtain ⟨a, cap, rfl⟩ := h.form
  have HA := Lib.hid (fun i hi => rdi_at h i hi)
  have HH := Lib.hid (idxI_hit (isN c) l)
  have HM := Lib.hid (idxI_miss (isN c) l)
  clear h
  obtain ⟨L, hL⟩ : ∃ L, l.length = L := ⟨_, rfl⟩
  have HLL := Lib.hid hL
  rw [hL] at hm ⊢
  clear hL
  go_enter Try.func27, Try.ntmps27
  go_wp2
  go_loop [8] (fun i => ∃ k : Nat, k ≤ L ∧ i = .int .i64 k ∧ Hid (∀ j (hj : j < k) (hl : j < l.length), isN c l[j] = false)) (fun i => L - (intOf i).toNat)
  case atStart => exact ⟨0, by omega, rfl, Lib.hid (fun j hj => absurd hj (Nat.not_lt_zero _))⟩
  case round =>
    obtain ⟨k, hk, rfl, HJ⟩ := hrel
    by_cases hlt : k < L
    · have hkl : k < l.length := by rw [HLL.out]; exact hlt
      obtain ⟨b, o, rfl, hc⟩ := HA.out k hkl
      have q1 := hc w (Below.refl _ _)
      have HI : Hid (isN c l[k] = true → idxI (isN c) l = k) := Lib.hid (fun q => HH.out k hkl q (fun j hj => HJ.out j hj (by omega)))
      have HN : Hid (isN c l[k] = false → ∀ j (hj : j < k + 1) (hl : j < l.length), isN c l[j] = false) := Lib.hid (fun q j hj hl => by
        by_cases e : j = k
        · subst e; exact q
        · exact HJ.out j (by omega) hl)
      clear HA HH HM hc
      generalize l[k] = g at q1 HI HN
      by_cases hq : g = c
      · have d : (c == g) = true := by simpa using hq.symm
        have H := Lib.hid (HI.out (by unfold isN; exact decide_eq_true hq))
        clear hq HI HN
        go_wp2
        go_ret
        exact ⟨by rw [H.out]; rfl, rfl⟩
      · have d : (c == g) = false := by simpa using fun q => hq q.symm
        have H := Lib.hid (HN.out (by unfold isN; exact decide_eq_false hq))
        clear hq HI HN
        go_wp2
        go_round
        case rel => exact ⟨k + 1, by omega, by go_num, H⟩
        case measure => simp [intOf]; omega
    · obtain rfl : k = L := by omega
      have H := Lib.hid (HM.out (fun j hj => HJ.out j (by rw [← HLL.out]; exact hj) hj))
      clear HM HH
      go_wp2
      go_ret
      exact ⟨by rw [H.out]; rfl, rfl⟩

theorem Contains_num (v : Value) (l : List Int) (c : Int) (w : World) (h : RdI w v l) : Calls Try.prog 23 #[v, .int .i64 c] w (Says (hasL l c) w) := by
  rw [hasL_idx]
  have HC := Lib.hid (Index_num v l c w h)
  obtain ⟨a, cap, rfl⟩ := h.form
  clear h
  generalize idxI (isN c) l = r at HC ⊢
  generalize l.length = L at *
  go_enter Try.func23, Try.ntmps23
  go_wp2_with (go_at_call 27; refine HC.out.mono ?_; rintro e w' ⟨rfl, rfl⟩)
  go_ret
  exact ⟨by simp, rfl⟩
end Cm
end Go.Proofs.Ytgpiaibklokhmaa
