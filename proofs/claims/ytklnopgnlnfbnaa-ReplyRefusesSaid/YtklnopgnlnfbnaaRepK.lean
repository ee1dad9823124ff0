/- Contracts: package reply's isNumber, mayHold, May, Token. -/
import Derived.Test.YtklnopgnlnfbnaaRepI
set_option linter.unusedVariables false
set_option linter.unusedSimpArgs false
namespace Go.Proofs.Ytklnopgnlnfbnaa
open Go.RowKit
namespace Cm

theorem repNum_any (v : Int) (w : World) : Calls Try.prog 43 #[.int .i64 v] w (Says (highF v 1) w) := by
  unfold highF
  by_cases h1 : 1 ≤ v <;> by_cases h2 : v ≤ 2305843009213693952 <;>
    (go_enter Try.func43, Try.ntmps43
     go_wp2
     go_ret
     exact ⟨by simp [h1, h2] <;> omega, rfl⟩)

set_option maxHeartbeats 4000000 in
theorem mayHold_any (v : Value) (l : List GrantV) (w : World) (h : RdH w v l) :
    Calls Try.prog 39 #[v] w (SaysB (decide (l.length ≤ 4) && heldOk none l) w) := by
  have hm := h.len
  obtain ⟨a, cap, rfl, -⟩ := h.ex
  by_cases c6 : l.length ≤ 4
  case neg =>
    rw [decide_eq_false c6]
    clear h
    have d5 : decide (4 < (l.length : Int)) = true := by simp; omega
    go_enter Try.func39, Try.ntmps39
    go_wp2
    go_ret
    exact ⟨by simp, Below.refl _ _⟩
  have d5 : decide (4 < (l.length : Int)) = false := by simp; omega
  rw [decide_eq_true c6]
  have HA := Lib.hid (fun i hi => h.at i hi)
  have HD := Lib.hid (heldOk_drop l)
  have HP := Lib.hid (prevN_succ l)
  clear h
  obtain ⟨L, hL⟩ : ∃ L, l.length = L := ⟨_, rfl⟩
  rw [hL] at hm c6 d5 ⊢
  go_enter Try.func39, Try.ntmps39
  go_wp2
  go_loopw [10] (fun i wr => ∃ j : Nat, j ≤ L ∧ i = .int .i64 j ∧ Below w.heap.size w wr ∧ Hid (heldOk none l = heldOk (prevN l j) (l.drop j))) (fun i _ => L - (intOf i).toNat)
  case atStart => exact ⟨0, by omega, rfl, Below.refl _ _, Lib.hid rfl⟩
  case round =>
    obtain ⟨j, hj, rfl, hb, ha⟩ := hrel
    have HB := Lib.hid hb
    clear hb
    by_cases hlt : j < L
    · have hd := HD.out j (by omega)
      have hp := HP.out j (by omega)
      obtain ⟨b, o, rfl, q1, q2⟩ := HA.out j (by omega) _ HB.out
      generalize hg : l[j] = g at q1 q2 hd
      have HG := Lib.hid hg
      clear hg
      have CN := Lib.hid (fun w => Name_any g.name w)
      have CT := Lib.hid (fun w => repNum_any g.token w)
      have HB1 := Lib.hid (stepAlloc HB.out (.cells #[.string (bstr g.name), .int .i64 g.token] 49))
      unfold grantOk at hd
      by_cases n1 : nameF g.name = true
      case neg =>
        have n1 : nameF g.name = false := by simpa using n1
        rw [n1, Bool.false_and, Bool.false_and, Bool.false_and] at hd
        have H := Lib.hid hd
        have H1 := Lib.hid n1
        clear hd n1
        go_wp2_with (go_at_call 53; refine (CN.out _).mono ?_; rw [H1.out]; rintro e w1 ⟨rfl, rfl⟩)
        go_ret
        exact ⟨by rw [ha.out, H.out]; rfl, HB1.out⟩
      by_cases n2 : highF g.token 1 = true
      case neg =>
        have n2 : highF g.token 1 = false := by simpa using n2
        rw [n2, Bool.and_false, Bool.false_and, Bool.false_and] at hd
        have H := Lib.hid hd
        have H1 := Lib.hid n1
        have H2 := Lib.hid n2
        clear hd n1 n2
        go_wp2_with (first
          | (go_at_call 53; refine (CN.out _).mono ?_; rw [H1.out]; rintro e w1 ⟨rfl, rfl⟩)
          | (go_at_call 43; refine (CT.out _).mono ?_; rw [H2.out]; rintro e w1 ⟨rfl, rfl⟩))
        go_ret
        exact ⟨by rw [ha.out, H.out]; rfl, HB1.out⟩
      rw [n1, n2, Bool.true_and, Bool.true_and] at hd
      have H1 := Lib.hid n1
      have H2 := Lib.hid n2
      clear n1 n2
      rcases Nat.eq_zero_or_pos j with hj0 | hj0
      · have HJ := Lib.hid hj0
        have d0 : decide (0 < j) = false := by simp; omega
        rw [hj0, prevN_zero, ← hj0] at hd
        dsimp only at hd
        rw [Bool.true_and] at hd
        have H := Lib.hid hd
        clear hd hp hj0
        go_upto_region 8 with (first
          | (go_at_call 53; refine (CN.out _).mono ?_; rw [H1.out]; rintro e w1 ⟨rfl, rfl⟩)
          | (go_at_call 43; refine (CT.out _).mono ?_; rw [H2.out]; rintro e w1 ⟨rfl, rfl⟩))
        go_quiet (fail)
        go_wp2
        go_roundw
        case rel => exact ⟨j + 1, by omega, by go_num, below_drewN HB1.out nq, Lib.hid (by rw [ha.out]; have e := H.out; rw [← prevN_zero l, ← HJ.out] at e; exact e)⟩
        case measure => simp [intOf]; omega
      · obtain ⟨q, hq⟩ : ∃ q, j = q + 1 := ⟨j - 1, by omega⟩
        have d0 : decide (0 < j) = true := by simp; omega
        have hpn := HP.out q (by omega)
        obtain ⟨b', o', hbo, p1, -⟩ := HA.out q (by omega) _ HB1.out
        cases hbo
        rw [← hq] at hpn
        rw [hpn] at hd
        dsimp only at hd
        generalize l[q] = pv at p1 hd hpn
        have e1 : IntKind.i64.wrap ((j : Int) - 1) = (q : Int) := by rw [IntKind.wrap_i64]; omega
        have e2 : (0 : Int) ≤ (q : Int) := by omega
        have e3 : (q : Int) < (L : Int) := by omega
        have hl1 := str_less g.name pv.name
        have hl2 := str_eq g.name pv.name
        rcases less_tri pv.name g.name with ⟨t1, t2, t3⟩ | ⟨t1, t2, t3⟩ | ⟨t3, t1⟩
        · rw [t2] at hl1
          rw [decide_eq_false (fun h => t3 h.symm)] at hl2
          rw [t1, Bool.true_and] at hd
          have H := Lib.hid hd
          have HPN := Lib.hid hpn
          clear hd hp t1 t2 t3 hq hpn
          go_upto_region 8 with (first
            | (go_at_call 53; refine (CN.out _).mono ?_; rw [H1.out]; rintro e w1 ⟨rfl, rfl⟩)
            | (go_at_call 43; refine (CT.out _).mono ?_; rw [H2.out]; rintro e w1 ⟨rfl, rfl⟩))
          go_quiet (fail)
          go_wp2
          go_roundw
          case rel => exact ⟨j + 1, by omega, by go_num, below_drewN HB1.out nq, Lib.hid (by rw [ha.out, HPN.out, H.out])⟩
          case measure => simp [intOf]; omega
        · rw [t2] at hl1
          rw [t1, Bool.false_and] at hd
          have H := Lib.hid hd
          have HPN := Lib.hid hpn
          clear hd hp t1 t2 t3 hq hpn hl2
          go_upto_region 8 with (first
            | (go_at_call 53; refine (CN.out _).mono ?_; rw [H1.out]; rintro e w1 ⟨rfl, rfl⟩)
            | (go_at_call 43; refine (CT.out _).mono ?_; rw [H2.out]; rintro e w1 ⟨rfl, rfl⟩))
          go_quiet (fail)
          go_wp2
          go_ret
          exact ⟨by rw [ha.out, HPN.out, H.out]; rfl, below_drewN HB1.out nq⟩
        · have t2 : Op.bytesLess g.name pv.name = false := by rw [← t3] at t1 ⊢; exact t1
          rw [t2] at hl1
          rw [decide_eq_true t3.symm] at hl2
          rw [t1, Bool.false_and] at hd
          have H := Lib.hid hd
          have HPN := Lib.hid hpn
          clear hd hp t1 t2 t3 hq hpn
          go_upto_region 8 with (first
            | (go_at_call 53; refine (CN.out _).mono ?_; rw [H1.out]; rintro e w1 ⟨rfl, rfl⟩)
            | (go_at_call 43; refine (CT.out _).mono ?_; rw [H2.out]; rintro e w1 ⟨rfl, rfl⟩))
          go_quiet (fail)
          go_wp2
          go_ret
          exact ⟨by rw [ha.out, HPN.out, H.out]; rfl, below_drewN HB1.out nq⟩
    · obtain rfl : j = L := by omega
      go_wp2
      go_ret
      have ha := ha.out
      rw [← hL, List.drop_length] at ha
      exact ⟨by rw [ha]; rfl, HB.out⟩

theorem mayP_told (k s d : Int) (l : List GrantV) : mayP ⟨k, s, d, l⟩ = (decide (0 ≤ k) && (decide (k ≤ 12) && (decide (0 ≤ s) && (decide (s ≤ 2305843009213693952) && (decide (0 ≤ d) && (decide (d ≤ 3) && ((decide (l.length ≤ 4) && heldOk none l) && (!decide (s = 0) || decide (l.length = 0))))))))) := by
  unfold mayP highF
  dsimp only
  have e : decide (0 < l.length) = !decide (l.length = 0) := by cases l <;> simp
  rw [e]
  generalize decide (0 ≤ k) = b1
  generalize decide (k ≤ 12) = b2
  generalize decide (0 ≤ s) = b3
  generalize decide (s ≤ 2305843009213693952) = b4
  generalize decide (0 ≤ d) = b5
  generalize decide (d ≤ 3) = b6
  generalize decide (l.length ≤ 4) = b7
  generalize heldOk none l = b8
  generalize decide (s = 0) = b9
  generalize decide (l.length = 0) = b10
  revert b1 b2 b3 b4 b5 b6 b7 b8 b9 b10
  decide

set_option maxHeartbeats 4000000 in
theorem RepMay_any (r : ReplyV) (v : Value) (w : World) (h : RdH w v r.held) :
    Calls Try.prog 14 #[repVal r v] w (SaysB (mayP r) w) := by
  obtain ⟨k, s, d, l⟩ := r
  unfold repVal
  dsimp only at h ⊢
  rw [mayP_told]
  have hm := h.len
  have C : Hid (∀ w', Below w.heap.size w w' → Calls Try.prog 39 #[v] w' (SaysB (decide (l.length ≤ 4) && heldOk none l) w')) := fun w' hb => mayHold_any v l w' (h.later hb)
  obtain ⟨a, cap, rfl, -⟩ := h.ex
  clear h
  generalize (decide (l.length ≤ 4) && heldOk none l) = M at *
  generalize l.length = L at *
  by_cases c1 : 0 ≤ k
  case neg =>
    have d1 : decide (0 ≤ k) = false := decide_eq_false c1
    rw [d1]
    go_enter Try.func14, Try.ntmps14
    go_wp2
    go_ret
    exact ⟨by simp, newAlloc _ _⟩
  have d1 : decide (0 ≤ k) = true := decide_eq_true c1
  rw [d1, Bool.true_and]
  by_cases c2 : k ≤ 12
  case neg =>
    have d2 : decide (k ≤ 12) = false := decide_eq_false c2
    rw [d2]
    go_enter Try.func14, Try.ntmps14
    go_wp2
    go_ret
    exact ⟨by simp, newAlloc _ _⟩
  have d2 : decide (k ≤ 12) = true := decide_eq_true c2
  rw [d2, Bool.true_and]
  by_cases c3 : 0 ≤ s
  case neg =>
    have d3 : decide (0 ≤ s) = false := decide_eq_false c3
    rw [d3]
    go_enter Try.func14, Try.ntmps14
    go_wp2
    go_ret
    exact ⟨by simp, newAlloc _ _⟩
  have d3 : decide (0 ≤ s) = true := decide_eq_true c3
  rw [d3, Bool.true_and]
  by_cases c4 : s ≤ 2305843009213693952
  case neg =>
    have d4 : decide (s ≤ 2305843009213693952) = false := decide_eq_false c4
    rw [d4]
    go_enter Try.func14, Try.ntmps14
    go_wp2
    go_ret
    exact ⟨by simp, newAlloc _ _⟩
  have d4 : decide (s ≤ 2305843009213693952) = true := decide_eq_true c4
  rw [d4, Bool.true_and]
  by_cases c5 : 0 ≤ d
  case neg =>
    have d5 : decide (0 ≤ d) = false := decide_eq_false c5
    rw [d5]
    go_enter Try.func14, Try.ntmps14
    go_wp2
    go_ret
    exact ⟨by simp, newAlloc _ _⟩
  have d5 : decide (0 ≤ d) = true := decide_eq_true c5
  rw [d5, Bool.true_and]
  by_cases c6 : d ≤ 3
  case neg =>
    have d6 : decide (d ≤ 3) = false := decide_eq_false c6
    rw [d6]
    go_enter Try.func14, Try.ntmps14
    go_wp2
    go_ret
    exact ⟨by simp, newAlloc _ _⟩
  have d6 : decide (d ≤ 3) = true := decide_eq_true c6
  rw [d6, Bool.true_and]
  cases M
  case false =>
    go_enter Try.func14, Try.ntmps14
    go_wp2_with (go_at_call 39; refine (C.out _ (newAlloc _ _)).mono ?_; rintro e w1 ⟨rfl, hb1⟩; obtain ⟨x0, x1, x2, x3⟩ := box4 hb1)
    go_ret
    exact ⟨by simp, step (newAlloc _ _) hb1⟩
  rw [Bool.true_and]
  by_cases c7 : s = 0
  · subst c7
    by_cases c8 : L = 0
    · subst c8
      go_enter Try.func14, Try.ntmps14
      go_wp2_with (go_at_call 39; refine (C.out _ (newAlloc _ _)).mono ?_; rintro e w1 ⟨rfl, hb1⟩; obtain ⟨x0, x1, x2, x3⟩ := box4 hb1)
      go_ret
      exact ⟨by simp, step (newAlloc _ _) hb1⟩
    · have d8 : ((L : Int) == 0) = false := by simp; omega
      have d8' : decide (L = 0) = false := decide_eq_false c8
      rw [d8']
      go_enter Try.func14, Try.ntmps14
      go_wp2_with (go_at_call 39; refine (C.out _ (newAlloc _ _)).mono ?_; rintro e w1 ⟨rfl, hb1⟩; obtain ⟨x0, x1, x2, x3⟩ := box4 hb1)
      go_ret
      exact ⟨by simp, step (newAlloc _ _) hb1⟩
  · have d7 : (s != 0) = true := by simpa using c7
    have d7' : decide (s = 0) = false := decide_eq_false c7
    rw [d7']
    go_enter Try.func14, Try.ntmps14
    go_wp2_with (go_at_call 39; refine (C.out _ (newAlloc _ _)).mono ?_; rintro e w1 ⟨rfl, hb1⟩; obtain ⟨x0, x1, x2, x3⟩ := box4 hb1)
    go_ret
    exact ⟨by simp, step (newAlloc _ _) hb1⟩

set_option maxHeartbeats 1000000 in
theorem RepToken_any (r : ReplyV) (v : Value) (n : List UInt8) (w : World) (h : RdH w v r.held) :
    Calls Try.prog 17 #[repVal r v, .string (bstr n)] w fun e w' => e = .returned (.int .i64 (tokenF r.held n)) ∧ Below w.heap.size w w' := by
  obtain ⟨k, s, d, l⟩ := r
  unfold repVal
  dsimp only at h ⊢
  have hm := h.len
  obtain ⟨a, cap, rfl, -⟩ := h.ex
  have HA := Lib.hid (fun i hi => h.at i hi)
  have HD := Lib.hid (tokenF_drop l n)
  clear h
  obtain ⟨L, hL⟩ : ∃ L, l.length = L := ⟨_, rfl⟩
  rw [hL] at hm ⊢
  go_enter Try.func17, Try.ntmps17
  go_wp2
  go_loopw [10] (fun i wr => ∃ j : Nat, j ≤ L ∧ i = .int .i64 j ∧ Below w.heap.size w wr ∧ Hid (tokenF l n = tokenF (l.drop j) n)) (fun i _ => L - (intOf i).toNat)
  case atStart => exact ⟨0, by omega, rfl, newAlloc _ _, Lib.hid rfl⟩
  case round =>
    obtain ⟨j, hj, rfl, hb, ha⟩ := hrel
    have HB := Lib.hid hb
    clear hb
    by_cases hlt : j < L
    · obtain ⟨b, o, rfl, q1, q2⟩ := HA.out j (by omega) _ HB.out
      have hd := HD.out j (by omega)
      clear HA HD
      generalize l[j] = g at q1 q2 hd
      have HB1 := Lib.hid (stepAlloc HB.out (.cells #[.string (bstr g.name), .int .i64 g.token] 49))
      by_cases hq : g.name = n
      · have hE := str_eq g.name n
        rw [if_pos hq] at hd
        rw [decide_eq_true hq] at hE
        have H := Lib.hid hd
        clear hd hq
        go_wp2
        go_ret
        exact ⟨by rw [ha.out, H.out]; rfl, HB1.out⟩
      · have hE := str_eq g.name n
        rw [if_neg hq] at hd
        rw [decide_eq_false hq] at hE
        have H := Lib.hid hd
        clear hd hq
        go_wp2
        go_roundw
        case rel => exact ⟨j + 1, by omega, by go_num, HB1.out, Lib.hid (by rw [ha.out, H.out])⟩
        case measure => simp [intOf]; omega
    · obtain rfl : j = L := by omega
      go_wp2
      go_ret
      have ha := ha.out
      rw [← hL, List.drop_length] at ha
      exact ⟨by rw [ha]; rfl, HB.out⟩
end Cm
end Go.Proofs.Ytklnopgnlnfbnaa
