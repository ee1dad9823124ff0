/- Contracts: padlockref6's SameSessions; padlockref4's SameInts. -/
import Derived.Test.YtgpiaibklokhmaaSesA
set_option linter.unusedVariables false
set_option linter.unusedSimpArgs false
namespace Go.Proofs.Ytgpiaibklokhmaa
open Go.RowKit
namespace Cm

theorem below_drewN6 {B : Nat} {a w : World} (h : Below B a w) (n : Nat) : Below B a (w.drewN n) := ⟨h.os, h.tape, h.output, h.size, h.block⟩

def sameI : List Int → List Int → Bool
  | [], [] => true
  | x :: l, y :: m => decide (x = y) && sameI l m
  | _, _ => false

theorem sameI_len : ∀ (l m : List Int), l.length ≠ m.length → sameI l m = false
  | [], [], h => absurd rfl h
  | [], _ :: _, _ => rfl
  | _ :: _, [], _ => rfl
  | g :: l, h :: m, q => by
    have := sameI_len l m (by simpa using q)
    unfold sameI
    rw [this, Bool.and_false]

theorem sameI_iff : ∀ (l m : List Int), sameI l m = true ↔ l = m
  | [], [] => by simp [sameI]
  | [], _ :: _ => by simp [sameI]
  | _ :: _, [] => by simp [sameI]
  | a :: l, c :: m => by
    unfold sameI
    simp [sameI_iff l m]

theorem sameI_drop (l m : List Int) (j : Nat) (h : j < l.length) (hm : j < m.length) : sameI (l.drop j) (m.drop j) = (decide (l[j] = m[j]) && sameI (l.drop (j + 1)) (m.drop (j + 1))) := by
  rw [List.drop_eq_getElem_cons h, List.drop_eq_getElem_cons hm]
  rfl

set_option maxHeartbeats 1000000 in
theorem SameInts_any (u v : Value) (l m : List Int) (w : World) (h : RdI w u l) (h2 : RdI w v m) :
    Calls Try.prog 11 #[u, v] w (SaysB (sameI l m) w) := by
  have hm := h.len
  have hm2 := h2.len
  obtain ⟨a, cap, rfl⟩ := h.form
  obtain ⟨a2, cap2, rfl⟩ := h2.form
  by_cases hn : l.length = m.length
  · have HA := Lib.hid (fun i hi => rdi_at h i hi)
    have HA2 := Lib.hid (fun i hi => rdi_at h2 i hi)
    have HD := Lib.hid (sameI_drop l m)
    clear h h2
    obtain ⟨L, hL⟩ : ∃ L, l.length = L := ⟨_, rfl⟩
    have hL2 : m.length = L := by omega
    rw [hL] at hm ⊢
    rw [hL2] at hm2 ⊢
    go_enter Try.func11, Try.ntmps11
    go_wp2
    go_loopw [5] (fun i wr => ∃ j : Nat, j ≤ L ∧ i = .int .i64 j ∧ Below w.heap.size w wr ∧ Hid (sameI l m = sameI (l.drop j) (m.drop j))) (fun i _ => L - (intOf i).toNat)
    case atStart => exact ⟨0, by omega, rfl, Below.refl _ _, Lib.hid rfl⟩
    case round =>
      obtain ⟨j, hj, rfl, hb, ha⟩ := hrel
      have HB := Lib.hid hb
      clear hb
      by_cases hlt : j < L
      · obtain ⟨b, o, rfl, hc⟩ := HA.out j (by omega)
        obtain ⟨b', o', rfl, hc2⟩ := HA2.out j (by omega)
        have q1 := hc _ HB.out
        have q2 := hc2 _ HB.out
        have hd := HD.out j (by omega) (by omega)
        clear HA HA2 HD hc hc2
        generalize l[j] = x at q1 hd
        generalize m[j] = y at q2 hd
        by_cases e1 : x = y
        · have d1 : (x != y) = false := by simp [e1]
          rw [decide_eq_true e1, Bool.true_and] at hd
          have H := Lib.hid hd
          clear hd e1
          go_upto_region 6 with fail
          go_quiet (fail)
          go_wp2
          go_roundw
          case rel => exact ⟨j + 1, by omega, by go_num, below_drewN6 HB.out nq, Lib.hid (by rw [ha.out, H.out])⟩
          case measure => simp [intOf]; omega
        · have d1 : (x != y) = true := by simpa using e1
          rw [decide_eq_false e1, Bool.false_and] at hd
          have H := Lib.hid hd
          clear hd e1
          go_upto_region 6 with fail
          go_quiet (fail)
          go_wp2
          go_ret
          exact ⟨by rw [ha.out, H.out]; rfl, below_drewN6 HB.out nq⟩
      · obtain rfl : j = L := by omega
        go_wp2
        go_ret
        have ha := ha.out
        rw [← hL, List.drop_length, hL, ← hL2, List.drop_length] at ha
        exact ⟨by rw [ha]; rfl, HB.out⟩
  · have d1 : ((l.length : Int) != (m.length : Int)) = true := by simp; omega
    have e : sameI l m = false := sameI_len l m hn
    rw [e]
    clear h h2 hn e
    generalize l.length = L at *
    generalize m.length = M at *
    go_enter Try.func11, Try.ntmps11
    go_wp2
    go_ret
    exact ⟨rfl, Below.refl _ _⟩

def sameE (x y : SesV) : Bool := decide (x.client = y.client) && decide (x.num = y.num) && decide (x.ren = y.ren)
theorem sameE_iff (x y : SesV) : sameE x y = true ↔ x = y := by
  obtain ⟨a, b, c⟩ := x
  obtain ⟨d, e, f⟩ := y
  unfold sameE
  simp [and_assoc]

def sameL : List SesV → List SesV → Bool
  | [], [] => true
  | x :: l, y :: m => sameE x y && sameL l m
  | _, _ => false

theorem sameL_len : ∀ (l m : List SesV), l.length ≠ m.length → sameL l m = false
  | [], [], h => absurd rfl h
  | [], _ :: _, _ => rfl
  | _ :: _, [], _ => rfl
  | g :: l, h :: m, q => by
    have := sameL_len l m (by simpa using q)
    unfold sameL
    rw [this, Bool.and_false]

theorem sameL_iff : ∀ (l m : List SesV), sameL l m = true ↔ l = m
  | [], [] => by simp [sameL]
  | [], _ :: _ => by simp [sameL]
  | _ :: _, [] => by simp [sameL]
  | a :: l, c :: m => by
    unfold sameL
    simp [sameL_iff l m, sameE_iff]

theorem sameL_drop (l m : List SesV) (j : Nat) (h : j < l.length) (hm : j < m.length) : sameL (l.drop j) (m.drop j) = (sameE l[j] m[j] && sameL (l.drop (j + 1)) (m.drop (j + 1))) := by
  rw [List.drop_eq_getElem_cons h, List.drop_eq_getElem_cons hm]
  rfl


end Cm
end Go.Proofs.Ytgpiaibklokhmaa
