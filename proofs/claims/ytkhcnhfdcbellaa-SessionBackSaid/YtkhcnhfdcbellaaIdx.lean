/- Contracts: slices.IndexFunc, slices.ContainsFunc over sessions, whatever the test. -/
import Derived.Test.YtkhcnhfdcbellaaSesG
import Derived.Shelf.Abstract
set_option linter.unusedVariables false
set_option linter.unusedSimpArgs false
namespace Go.Proofs.Ytkhcnhfdcbellaa
open Go.RowKit Go.Shelf
namespace Cm

/-- The place of the first that meets the test, or -1. -/
def idxI {α : Type} (p : α → Bool) (l : List α) : Int := if l.findIdx p < l.length then (l.findIdx p : Int) else -1

theorem idxI_hit {α : Type} (p : α → Bool) (l : List α) (k : Nat) (h : k < l.length) (hp : p l[k] = true) (hb : ∀ j (hj : j < k), p (l[j]'(by omega)) = false) : idxI p l = k := by
  have e : l.findIdx p = k := (List.findIdx_eq h).2 ⟨hp, hb⟩
  unfold idxI
  rw [e, if_pos h]

theorem idxI_miss {α : Type} (p : α → Bool) (l : List α) (hb : ∀ j (hj : j < l.length), p l[j] = false) : idxI p l = -1 := by
  have : ¬ l.findIdx p < l.length := fun q => by
    have h1 := List.findIdx_getElem (w := q)
    rw [hb _ q] at h1
    cases h1
  unfold idxI
  rw [if_neg this]

theorem idxI_ge {α : Type} (p : α → Bool) (l : List α) : -1 ≤ idxI p l := by unfold idxI; split <;> omega
theorem idxI_lt {α : Type} (p : α → Bool) (l : List α) : idxI p l < l.length := by unfold idxI; split <;> omega

theorem idxI_any {α : Type} (p : α → Bool) (l : List α) : decide (0 ≤ idxI p l) = l.any p := by
  unfold idxI
  by_cases h : l.findIdx p < l.length
  · rw [if_pos h, decide_eq_true (by omega), Eq.comm, List.any_eq_true]
    exact ⟨l[l.findIdx p], List.getElem_mem _, List.findIdx_getElem (w := h)⟩
  · rw [if_neg h, decide_eq_false (by omega), Eq.comm, List.any_eq_false]
    intro x hx q
    exact h (List.findIdx_lt_length_of_exists ⟨x, hx, q⟩)

/-- A number told, new blocks laid. -/
def SaysI (r : Int) (w : World) (e : Ending) (w' : World) : Prop := e = .returned (.int .i64 r) ∧ Below w.heap.size w w'

set_option maxHeartbeats 2000000 in
theorem IdxS_any (p : SesV → Bool) (g : Nat) (lb : Array Value) (eg : ∀ args w, (callFunc g args).run Try.prog w = .ok (.enter g args) w) (v : Value) (l : List SesV) (w : World) (h : RdS w v l)
    (hp : ∀ (W : World) (x : SesV), Below w.heap.size w W → Calls Try.prog g (#[sesVal x] ++ lb) W (SaysB (p x) W)) :
    Calls Try.prog 36 #[v, .func (.func g) #[] lb] w (SaysI (idxI p l) w) := by
  have hm := h.len
  obtain ⟨a, cap, rfl⟩ := h.form
  have HA := Lib.hid (fun i hi => rds_at h i hi)
  have HP := Lib.hid hp
  have HH := Lib.hid (idxI_hit p l)
  have HM := Lib.hid (idxI_miss p l)
  clear h hp
  obtain ⟨L, hL⟩ : ∃ L, l.length = L := ⟨_, rfl⟩
  have HLL := Lib.hid hL
  rw [hL] at hm ⊢
  clear hL
  go_enter Try.func36, Try.ntmps36
  go_wp2
  go_loopg [5, 8] L (fun gg _ s8 wr => ∃ kk : Nat, kk ≤ L ∧ L - kk ≤ gg ∧ s8 = .int .i64 kk ∧ Hid (Below w.heap.size w wr) ∧ Hid (∀ j (hj : j < kk) (hl : j < l.length), p l[j] = false))
  case atStart => exact ⟨0, Nat.zero_le _, by omega, rfl, Lib.hid (Below.refl _ w), Lib.hid (fun j hj => absurd hj (Nat.not_lt_zero _))⟩
  case round =>
    obtain ⟨kk, hkk, hg, rfl, HB, HJ⟩ := hrel
    by_cases hlt : kk < L
    · have hkl : kk < l.length := by rw [HLL.out]; exact hlt
      obtain ⟨b, o, rfl, hc⟩ := HA.out kk hkl
      obtain ⟨q0, q1, q2⟩ := hc _ HB.out
      have hcall := HP.out wr l[kk] HB.out
      have HI : Hid (p l[kk] = true → idxI p l = kk) := Lib.hid (fun q => HH.out kk hkl q (fun j hj => HJ.out j hj (by omega)))
      have HN : Hid (p l[kk] = false → ∀ j (hj : j < kk + 1) (hl : j < l.length), p l[j] = false) := Lib.hid (fun q j hj hl => by
        by_cases e : j = kk
        · subst e; exact q
        · exact HJ.out j (by omega) hl)
      clear hc HH HM HA HP
      generalize l[kk] = x at q0 q1 q2 hcall HI HN
      obtain ⟨gc, gn, gr⟩ := x
      dsimp only at q0 q1 q2
      unfold sesVal at hcall
      dsimp only at hcall
      cases hq : p ⟨gc, gn, gr⟩ with
      | true =>
        rw [hq] at hcall
        have HC := Lib.hid hcall
        have HI := Lib.hid (HI.out hq)
        clear hcall hq HN
        go_wp2_with (go_at_fn g; refine HC.out.mono ?_; rintro e w' ⟨rfl, hb'⟩)
        go_ret
        exact ⟨by rw [HI.out]; rfl, step HB.out hb'⟩
      | false =>
        rw [hq] at hcall
        have HC := Lib.hid hcall
        have HN := Lib.hid (HN.out hq)
        clear hcall hq HI
        go_wp2_with (go_at_fn g; refine HC.out.mono ?_; rintro e w' ⟨rfl, hb'⟩)
        go_roundg (L - (kk + 1))
        case measure => omega
        case rel => exact ⟨kk + 1, by omega, by omega, by go_num, Lib.hid (step HB.out hb'), HN⟩
    · obtain rfl : kk = L := by omega
      have hmiss := HM.out (fun j hj => HJ.out j (by rw [← HLL.out]; exact hj) hj)
      have HMM := Lib.hid hmiss
      clear hmiss HM HH HP
      go_wp2
      go_ret
      exact ⟨by rw [HMM.out]; rfl, HB.out⟩

theorem HasS_any (p : SesV → Bool) (g : Nat) (lb : Array Value) (eg : ∀ args w, (callFunc g args).run Try.prog w = .ok (.enter g args) w) (v : Value) (l : List SesV) (w : World) (h : RdS w v l)
    (hp : ∀ (W : World) (x : SesV), Below w.heap.size w W → Calls Try.prog g (#[sesVal x] ++ lb) W (SaysB (p x) W)) :
    Calls Try.prog 34 #[v, .func (.func g) #[] lb] w (SaysB (l.any p) w) := by
  rw [← idxI_any]
  have HC := Lib.hid (IdxS_any p g lb eg v l w h hp)
  clear hp h
  generalize idxI p l = r at HC ⊢
  go_enter Try.func34, Try.ntmps34
  go_wp2_with (go_at_call 36; refine HC.out.mono ?_; rintro e w' ⟨rfl, hb'⟩)
  go_ret
  exact ⟨by simp, hb'⟩
end Cm
end Go.Proofs.Ytkhcnhfdcbellaa
