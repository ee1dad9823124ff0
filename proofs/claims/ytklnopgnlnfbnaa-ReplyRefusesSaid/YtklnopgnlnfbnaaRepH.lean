/- Contracts: padlocklaw5's great. -/
import Derived.Test.YtklnopgnlnfbnaaRepG
set_option linter.unusedVariables false
set_option linter.unusedSimpArgs false
namespace Go.Proofs.Ytklnopgnlnfbnaa
open Go.RowKit
namespace Cm

def greatF (l : List GrantV) : Bool := decide (20 < l.length) || l.any fun g => decide (300 < g.name.length)

theorem any_drop (l : List GrantV) (j : Nat) (h : j < l.length) : (l.drop j).any (fun g => decide (300 < g.name.length)) = (decide (300 < l[j].name.length) || (l.drop (j + 1)).any fun g => decide (300 < g.name.length)) := by
  rw [List.drop_eq_getElem_cons h, List.any_cons]

set_option maxHeartbeats 1000000 in
theorem great_any (r : ReplyV) (v : Value) (w : World) (h : RdH w v r.held) :
    Calls Try.prog 8 #[repVal r v] w (SaysB (greatF r.held) w) := by
  obtain ⟨k, s, d, l⟩ := r
  unfold repVal greatF
  dsimp only at h ⊢
  have hm := h.len
  obtain ⟨a, cap, rfl, -⟩ := h.ex
  have HA := Lib.hid (fun i hi => h.at i hi)
  have HD := Lib.hid (any_drop l)
  clear h
  obtain ⟨L, hL⟩ : ∃ L, l.length = L := ⟨_, rfl⟩
  rw [hL] at hm ⊢
  by_cases h20 : 20 < L
  · rw [decide_eq_true h20]
    have d1 : decide (20 < (L : Int)) = true := by simp; omega
    go_enter Try.func8, Try.ntmps8
    go_wp2
    go_ret
    exact ⟨rfl, newAlloc _ _⟩
  · rw [decide_eq_false h20]
    have d1 : decide (20 < (L : Int)) = false := by simp; omega
    go_enter Try.func8, Try.ntmps8
    go_wp2
    go_loop [3] (fun i => ∃ j : Nat, j ≤ L ∧ i = .int .i64 j ∧ Hid ((l.any fun g => decide (300 < g.name.length)) = (l.drop j).any fun g => decide (300 < g.name.length))) (fun i => L - (intOf i).toNat)
    case atStart => exact ⟨0, by omega, rfl, Lib.hid rfl⟩
    case round =>
      obtain ⟨j, hj, rfl, ha⟩ := hrel
      by_cases hlt : j < L
      · obtain ⟨b, o, rfl, q1, q2⟩ := HA.out j (by omega) _ (newAlloc w (.cells #[.int .i64 k, .int .i64 s, .int .i64 d, .slice a L cap] 25))
        have hd := HD.out j (by omega)
        clear HA HD
        generalize l[j] = g at q1 q2 hd
        have hs := bstr_size g.name
        by_cases hq : 300 < g.name.length
        · rw [decide_eq_true hq, Bool.true_or] at hd
          have H := Lib.hid hd
          clear hd
          have d2 : decide (300 < (g.name.length : Int)) = true := by simp; omega
          go_wp2
          go_ret
          exact ⟨by rw [ha.out, H.out]; rfl, newAlloc _ _⟩
        · rw [decide_eq_false hq, Bool.false_or] at hd
          have H := Lib.hid hd
          clear hd
          have d2 : decide (300 < (g.name.length : Int)) = false := by simp; omega
          go_wp2
          go_round
          case rel => exact ⟨j + 1, by omega, by go_num, Lib.hid (by rw [ha.out, H.out])⟩
          case measure => simp [intOf]; omega
      · obtain rfl : j = L := by omega
        go_wp2
        go_ret
        have ha := ha.out
        rw [← hL, List.drop_length] at ha
        exact ⟨by rw [ha]; rfl, newAlloc _ _⟩
end Cm
end Go.Proofs.Ytklnopgnlnfbnaa
