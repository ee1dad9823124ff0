/- Contracts of package view, and of the document's answers for it: leaders, who leads next, timeouts, the first that is long enough. -/
import Derived.Test.YtdocoflcelhmbaaVewA
set_option linter.unusedVariables false
set_option maxRecDepth 8000
set_option linter.unusedSimpArgs false
namespace Go.Proofs.Ytdocoflcelhmbaa
open Go.RowKit
namespace Vw

theorem wrap_in (x : Int) (h0 : -9223372036854775808 ≤ x) (h1 : x ≤ 9223372036854775807) : IntKind.i64.wrap x = x := by rw [IntKind.wrap_i64]; omega
theorem leaderF_in {v n : Int} (h : hiF v = true) (h' : someF n = true) : leaderF v n = v % n := by unfold leaderF; rw [h, h']; rfl
theorem leaderF_out {v n : Int} (h : (hiF v && someF n) = false) : leaderF v n = -1 := by unfold leaderF; rw [h]; rfl

theorem Leader_any (v n : Int) (w : World) : Calls Try.prog 12 #[.int .i64 v, .int .i64 n] w (Tells (.int .i64 (leaderF v n)) w) := by
  have CH := Lib.hid (fun w => isView_any v w)
  have CA := Lib.hid (fun w => areReplicas_any n w)
  unfold leaderF
  cases h : hiF v <;> rw [h] at CH
  · go_enter Try.func12, Try.ntmps12
    go_wp2_with (go_at_call 24; refine (CH.out _).mono ?_; rintro e w' ⟨rfl, rfl⟩)
    go_ret
    exact ⟨rfl, rfl⟩
  cases h' : someF n <;> rw [h'] at CA
  · go_enter Try.func12, Try.ntmps12
    go_wp2_with (first | (go_at_call 24; refine (CH.out _).mono ?_; rintro e w' ⟨rfl, rfl⟩) | (go_at_call 22; refine (CA.out _).mono ?_; rintro e w' ⟨rfl, rfl⟩))
    go_ret
    exact ⟨rfl, rfl⟩
  · obtain ⟨h1, h2⟩ := someF_iff.1 h'
    obtain ⟨h3, h4⟩ := hiF_iff.1 h
    have e : v.tmod n = v % n := Int.tmod_eq_emod_of_nonneg h3
    have hb := dist_bound v n h1
    have e2 : IntKind.i64.wrap (v % n) = v % n := wrap_in _ (by omega) (by omega)
    have hz : (n == 0) = false := by simp; omega
    clear h h'
    go_enter Try.func12, Try.ntmps12
    go_wp2_with (first | (go_at_call 24; refine (CH.out _).mono ?_; rintro e w' ⟨rfl, rfl⟩) | (go_at_call 22; refine (CA.out _).mono ?_; rintro e w' ⟨rfl, rfl⟩))
    go_ret
    exact ⟨by simp [e, e2], rfl⟩

theorem RefLeader_any (v n : Int) (w : World) : Calls Try.prog 13 #[.int .i64 v, .int .i64 n] w (Tells (.int .i64 (leaderF v n)) w) := by
  have CH := Lib.hid (fun w => high12_any v w)
  have CA := Lib.hid (fun w => some_any n w)
  unfold leaderF
  cases h : hiF v <;> rw [h] at CH
  · go_enter Try.func13, Try.ntmps13
    go_wp2_with (go_at_call 25; refine (CH.out _).mono ?_; rintro e w' ⟨rfl, rfl⟩)
    go_ret
    exact ⟨rfl, rfl⟩
  cases h' : someF n <;> rw [h'] at CA
  · go_enter Try.func13, Try.ntmps13
    go_wp2_with (first | (go_at_call 25; refine (CH.out _).mono ?_; rintro e w' ⟨rfl, rfl⟩) | (go_at_call 23; refine (CA.out _).mono ?_; rintro e w' ⟨rfl, rfl⟩))
    go_ret
    exact ⟨rfl, rfl⟩
  · obtain ⟨h1, h2⟩ := someF_iff.1 h'
    obtain ⟨h3, h4⟩ := hiF_iff.1 h
    have e : v.tmod n = v % n := Int.tmod_eq_emod_of_nonneg h3
    have hb := dist_bound v n h1
    have e2 : IntKind.i64.wrap (v % n) = v % n := wrap_in _ (by omega) (by omega)
    have hz : (n == 0) = false := by simp; omega
    clear h h'
    go_enter Try.func13, Try.ntmps13
    go_wp2_with (first | (go_at_call 25; refine (CH.out _).mono ?_; rintro e w' ⟨rfl, rfl⟩) | (go_at_call 23; refine (CA.out _).mono ?_; rintro e w' ⟨rfl, rfl⟩))
    go_ret
    exact ⟨by simp [e, e2], rfl⟩

theorem ledF_out {v n h : Int} (g : (hiF v && someF n && withinF h 0 (n - 1)) = false) : ledF v n h = -1 := by unfold ledF; rw [g]; rfl
theorem ledF_in {v n h : Int} (g : (hiF v && someF n && withinF h 0 (n - 1)) = true) : ledF v n h = v + (h - v % n + n) % n := by unfold ledF; rw [g]; rfl

theorem Led_any (v n h : Int) (hh : -9223372036854775808 ≤ h ∧ h ≤ 9223372036854775807) (w : World) : Calls Try.prog 14 #[.int .i64 v, .int .i64 n, .int .i64 h] w (Tells (.int .i64 (ledF v n h)) w) := by
  have CL := Lib.hid (fun w => Leader_any v n w)
  by_cases g : (hiF v && someF n) = true
  · have g1 := (Bool.and_eq_true_iff.1 g).1
    have g2 := (Bool.and_eq_true_iff.1 g).2
    obtain ⟨h1, h2⟩ := someF_iff.1 g2
    obtain ⟨h3, h4⟩ := hiF_iff.1 g1
    obtain ⟨q0, q1⟩ := dist_bound v n h1
    rw [leaderF_in g1 g2] at CL
    have en : IntKind.i64.wrap (n - 1) = n - 1 := wrap_in _ (by omega) (by omega)
    have CW := Lib.hid (fun w => within_any h 0 (n - 1) w)
    have hz : (v % n == -1) = false := by simp; omega
    have hnz : (n == 0) = false := by simp; omega
    cases g3 : withinF h 0 (n - 1) <;> rw [g3] at CW
    · rw [ledF_out (by rw [g3]; simp)]
      clear g g1 g2 g3
      generalize v % n = r at *
      go_enter Try.func14, Try.ntmps14
      go_wp2_with (first | (go_at_call 12; refine (CL.out _).mono ?_; rintro e w' ⟨rfl, rfl⟩) | (go_at_call 26; refine (CW.out _).mono ?_; rintro e w' ⟨rfl, rfl⟩))
      go_ret
      exact ⟨rfl, rfl⟩
    · rw [ledF_in (by rw [g, g3]; rfl)]
      have g4 : 0 ≤ h ∧ h ≤ n - 1 := by simpa [withinF] using g3
      clear g g1 g2 g3
      have p0 : 0 ≤ h - v % n + n := by omega
      have e1 : (h - v % n + n).tmod n = (h - v % n + n) % n := Int.tmod_eq_emod_of_nonneg p0
      obtain ⟨q2, q3⟩ := dist_bound (h - v % n + n) n h1
      have e2 : IntKind.i64.wrap ((h - v % n + n) % n) = (h - v % n + n) % n := wrap_in _ (by omega) (by omega)
      have e3 : IntKind.i64.wrap (h - v % n + n) = h - v % n + n := wrap_in _ (by omega) (by omega)
      have e4 : IntKind.i64.wrap (h - v % n) = h - v % n := wrap_in _ (by omega) (by omega)
      have e5 : IntKind.i64.wrap (v + (h - v % n + n) % n) = v + (h - v % n + n) % n := wrap_in _ (by omega) (by omega)
      generalize (h - v % n + n) % n = d at *
      generalize v % n = r at *
      go_enter Try.func14, Try.ntmps14
      go_wp2_with (first | (go_at_call 12; refine (CL.out _).mono ?_; rintro e w' ⟨rfl, rfl⟩) | (go_at_call 26; refine (CW.out _).mono ?_; rintro e w' ⟨rfl, rfl⟩))
      go_ret
      exact ⟨by simp [e1, e2, e3, e4, e5], rfl⟩
  · have g := Bool.eq_false_iff.2 g
    rw [leaderF_out g] at CL
    rw [ledF_out (by rw [g]; rfl)]
    clear g
    go_enter Try.func14, Try.ntmps14
    go_wp2_with (go_at_call 12; refine (CL.out _).mono ?_; rintro e w' ⟨rfl, rfl⟩)
    go_ret
    exact ⟨rfl, rfl⟩

theorem RefLed_any (v n h : Int) (w : World) : Calls Try.prog 15 #[.int .i64 v, .int .i64 n, .int .i64 h] w (Tells (.int .i64 (ledF v n h)) w) := by
  have CL := Lib.hid (fun w => RefLeader_any v n w)
  by_cases g : (hiF v && someF n) = true
  · have g1 := (Bool.and_eq_true_iff.1 g).1
    have g2 := (Bool.and_eq_true_iff.1 g).2
    obtain ⟨h1, h2⟩ := someF_iff.1 g2
    obtain ⟨h3, h4⟩ := hiF_iff.1 g1
    obtain ⟨q0, q1⟩ := dist_bound v n h1
    rw [leaderF_in g1 g2] at CL
    have hz : decide (v % n < 0) = false := by simp; omega
    have hnz : (n == 0) = false := by simp; omega
    by_cases k0 : h < 0
    · rw [ledF_out (by rw [show withinF h 0 (n - 1) = false by simp [withinF]; omega]; simp)]
      clear g g1 g2
      generalize v % n = r at *
      go_enter Try.func15, Try.ntmps15
      go_wp2_with (go_at_call 13; refine (CL.out _).mono ?_; rintro e w' ⟨rfl, rfl⟩)
      go_ret
      exact ⟨rfl, rfl⟩
    by_cases k1 : n ≤ h
    · rw [ledF_out (by rw [show withinF h 0 (n - 1) = false by simp [withinF]; omega]; simp)]
      clear g g1 g2
      generalize v % n = r at *
      go_enter Try.func15, Try.ntmps15
      go_wp2_with (go_at_call 13; refine (CL.out _).mono ?_; rintro e w' ⟨rfl, rfl⟩)
      go_ret
      exact ⟨rfl, rfl⟩
    rw [ledF_in (by rw [g, show withinF h 0 (n - 1) = true by simp [withinF]; omega]; rfl)]
    obtain ⟨q2, q3⟩ := dist_bound (h - v % n + n) n h1
    have HR := Lib.hid (rem_cases v n h h3 h1 h2 (by omega) (by omega))
    have HM := Lib.hid (fun j (hj : 0 ≤ j) => Int.tmod_eq_emod_of_nonneg (a := v + j) (b := n) (by omega))
    have HW := Lib.hid (fun j => dist_bound (v + j) n h1)
    clear g g1 g2
    generalize hD : (h - v % n + n) % n = d at *
    have hd7 : d < 7 := by omega
    clear hD
    generalize v % n = r at *
    go_enter Try.func15, Try.ntmps15
    go_wp2_with (go_at_call 13; refine (CL.out _).mono ?_; rintro e w' ⟨rfl, rfl⟩)
    go_loop [0] (fun i => ∃ j : Int, 0 ≤ j ∧ j ≤ d ∧ i = .int .i64 (v + j)) (fun i => (v + d - intOf i).toNat)
    case atStart => exact ⟨0, by omega, by omega, by rw [Int.add_zero]⟩
    case round =>
      obtain ⟨j, hj, hjd, rfl⟩ := hrel
      have hr := HR.out j hj hjd
      have hm := HM.out j hj
      obtain ⟨x, hX⟩ : ∃ x, x = v + j := ⟨_, rfl⟩
      rw [← hX] at hm hr ⊢
      have x0 : 0 ≤ x := by omega
      have x1 : x ≤ 2305843009213694000 := by omega
      have HX := Lib.hid hX
      by_cases hlt : j = d
      · have he : (x % n != h) = false := by simpa using hr.2 hlt
        have HE : Hid (x = v + d) := Lib.hid (by rw [hX, hlt])
        clear HR HM HW hr hlt hX hm
        go_wp2
        go_ret
        exact ⟨by rw [HE.out]; rfl, rfl⟩
      · have he : (x % n != h) = true := by simpa using fun q => hlt (hr.1 q)
        have HJ := Lib.hid hlt
        clear HR HM HW hr hX hm hlt
        go_wp2
        go_round
        case rel => exact ⟨j + 1, by omega, by have := HJ.out; omega, by rw [show v + (j + 1) = x + 1 by have := HX.out; omega]⟩
        case measure => have := HX.out; have := HJ.out; simp [intOf]; omega
  · have g := Bool.eq_false_iff.2 g
    rw [leaderF_out g] at CL
    rw [ledF_out (by rw [g]; rfl)]
    clear g
    go_enter Try.func15, Try.ntmps15
    go_wp2_with (go_at_call 13; refine (CL.out _).mono ?_; rintro e w' ⟨rfl, rfl⟩)
    go_ret
    exact ⟨rfl, rfl⟩

theorem timeF_out {b m v : Int} (h : okT b m v = false) : timeF b m v = 0 := by unfold timeF; rw [h]; rfl
theorem timeF_in {b m v : Int} (h : okT b m v = true) : timeF b m v = dblF m v.toNat b := by unfold timeF; rw [h]; rfl

set_option maxHeartbeats 1000000 in
theorem Timeout_any (b m v : Int) (w : World) : Calls Try.prog 16 #[.int .i64 b, .int .i64 m, .int .i64 v] w (Tells (.int .i64 (timeF b m v)) w) := by
  have CV := Lib.hid (fun w => isView_any v w)
  by_cases c1 : b < 1
  · rw [timeF_out (by simp [okT]; omega)]
    go_enter Try.func16, Try.ntmps16
    go_wp2
    go_ret
    exact ⟨rfl, rfl⟩
  by_cases c2 : m < b
  · rw [timeF_out (by simp [okT]; omega)]
    go_enter Try.func16, Try.ntmps16
    go_wp2
    go_ret
    exact ⟨rfl, rfl⟩
  by_cases c3 : 1000000 < m
  · rw [timeF_out (by simp [okT]; omega)]
    go_enter Try.func16, Try.ntmps16
    go_wp2
    go_ret
    exact ⟨rfl, rfl⟩
  cases c4 : hiF v <;> rw [c4] at CV
  · rw [timeF_out (by rw [okT, c4]; simp)]
    clear c4
    go_enter Try.func16, Try.ntmps16
    go_wp2_with (go_at_call 24; refine (CV.out _).mono ?_; rintro e w' ⟨rfl, rfl⟩)
    go_ret
    exact ⟨rfl, rfl⟩
  obtain ⟨h3, h4⟩ := hiF_iff.1 c4
  rw [timeF_in (okT_iff.2 (by omega))]
  clear c4
  go_enter Try.func16, Try.ntmps16
  go_wp2_with (go_at_call 24; refine (CV.out _).mono ?_; rintro e w' ⟨rfl, rfl⟩)
  go_loop [2, 7] (fun i t => ∃ (k : Nat) (T : Int), (k : Int) ≤ v ∧ i = .int .i64 (k : Int) ∧ t = .int .i64 T ∧ 1 ≤ T ∧ T ≤ 2000000 ∧ Hid (dblF m v.toNat b = dblF m k T)) (fun i t => (intOf i).toNat)
  case atStart => exact ⟨v.toNat, b, by omega, by rw [Int.toNat_of_nonneg h3], rfl, by omega, by omega, Lib.hid rfl⟩
  case round =>
    obtain ⟨k, T, hk, rfl, rfl, hT, hT2, HE⟩ := hrel
    by_cases hk0 : k = 0
    · subst hk0
      have HM := Lib.hid (show dblF m 0 T = min T m from rfl)
      by_cases hTm : T ≤ m
      · have HQ : Hid (dblF m v.toNat b = T) := Lib.hid (by rw [HE.out, HM.out]; omega)
        go_wp2
        go_ret
        exact ⟨by rw [HQ.out] <;> simp <;> omega, rfl⟩
      · have HQ : Hid (dblF m v.toNat b = m) := Lib.hid (by rw [HE.out, HM.out]; omega)
        go_wp2
        go_ret
        exact ⟨by rw [HQ.out] <;> simp <;> omega, rfl⟩
    have hkp : 0 < k := by omega
    by_cases hTm : T < m
    · obtain ⟨k, rfl⟩ : ∃ q, k = q + 1 := ⟨k - 1, by omega⟩
      have HQ : Hid (dblF m v.toNat b = dblF m k (2 * T)) := Lib.hid (by rw [HE.out, dblF_step, if_pos hTm])
      go_wp2
      go_round
      case rel => exact ⟨k, 2 * T, by omega, by first | rfl | go_num, by first | rfl | go_num, by omega, by omega, HQ⟩
      case measure => simp [intOf] <;> omega
    · have HQ : Hid (dblF m v.toNat b = m) := Lib.hid (by rw [HE.out, dblF_done k (by omega)])
      go_wp2
      all_goals
        go_ret
        exact ⟨by rw [HQ.out] <;> simp <;> omega, rfl⟩

set_option maxHeartbeats 1000000 in
theorem RefTimeout_any (b m v : Int) (w : World) : Calls Try.prog 17 #[.int .i64 b, .int .i64 m, .int .i64 v] w (Tells (.int .i64 (timeF b m v)) w) := by
  have CV := Lib.hid (fun w => high12_any v w)
  by_cases c1 : b < 1
  · rw [timeF_out (by simp [okT]; omega)]
    go_enter Try.func17, Try.ntmps17
    go_wp2
    go_ret
    exact ⟨rfl, rfl⟩
  by_cases c2 : m < b
  · rw [timeF_out (by simp [okT]; omega)]
    go_enter Try.func17, Try.ntmps17
    go_wp2
    go_ret
    exact ⟨rfl, rfl⟩
  by_cases c3 : 1000000 < m
  · rw [timeF_out (by simp [okT]; omega)]
    go_enter Try.func17, Try.ntmps17
    go_wp2
    go_ret
    exact ⟨rfl, rfl⟩
  cases c4 : hiF v <;> rw [c4] at CV
  · rw [timeF_out (by rw [okT, c4]; simp)]
    clear c4
    go_enter Try.func17, Try.ntmps17
    go_wp2_with (go_at_call 25; refine (CV.out _).mono ?_; rintro e w' ⟨rfl, rfl⟩)
    go_ret
    exact ⟨rfl, rfl⟩
  obtain ⟨h3, h4⟩ := hiF_iff.1 c4
  rw [timeF_in (okT_iff.2 (by omega))]
  clear c4
  go_enter Try.func17, Try.ntmps17
  go_wp2_with (go_at_call 25; refine (CV.out _).mono ?_; rintro e w' ⟨rfl, rfl⟩)
  go_loop [7, 8] (fun t i => ∃ (k : Nat) (T : Int), (k : Int) ≤ v ∧ i = .int .i64 (k : Int) ∧ t = .int .i64 T ∧ 1 ≤ T ∧ T ≤ 2000000 ∧ Hid (dblF m v.toNat b = dblF m (v.toNat - k) T)) (fun t i => (v - intOf i).toNat)
  case atStart => exact ⟨0, b, by omega, rfl, rfl, by omega, by omega, Lib.hid rfl⟩
  case round =>
    obtain ⟨k, T, hk, rfl, rfl, hT, hT2, HE⟩ := hrel
    by_cases hk0 : (k : Int) = v
    · have HM := Lib.hid (show dblF m 0 T = min T m from rfl)
      have h0 : v.toNat - k = 0 := by omega
      rw [h0] at HE
      clear h0
      by_cases hTm : T ≤ m
      · have HQ : Hid (dblF m v.toNat b = T) := Lib.hid (by rw [HE.out, HM.out]; omega)
        go_wp2
        go_ret
        exact ⟨by rw [HQ.out] <;> simp <;> omega, rfl⟩
      · have HQ : Hid (dblF m v.toNat b = m) := Lib.hid (by rw [HE.out, HM.out]; omega)
        go_wp2
        go_ret
        exact ⟨by rw [HQ.out] <;> simp <;> omega, rfl⟩
    have hkp : (k : Int) < v := by omega
    by_cases hTm : T < m
    · have HQ : Hid (dblF m v.toNat b = dblF m (v.toNat - (k + 1)) (2 * T)) := Lib.hid (by rw [HE.out, show v.toNat - k = (v.toNat - (k + 1)) + 1 by omega, dblF_step, if_pos hTm])
      go_wp2
      go_round
      case rel => exact ⟨k + 1, 2 * T, by omega, by first | rfl | go_num, by first | rfl | go_num, by omega, by omega, HQ⟩
      case measure => simp [intOf] <;> omega
    · have HQ : Hid (dblF m v.toNat b = m) := Lib.hid (by rw [HE.out, dblF_done _ (by omega)])
      go_wp2
      all_goals
        go_ret
        exact ⟨by rw [HQ.out] <;> simp <;> omega, rfl⟩

theorem okT_zero {b m : Int} : okT b m 0 = (decide (1 ≤ b) && decide (b ≤ m) && decide (m ≤ 1000000)) := by simp [okT, hiF, withinF]
theorem timeF_zero {b m : Int} (h1 : 1 ≤ b) (h2 : b ≤ m) (h3 : m ≤ 1000000) : timeF b m 0 = b := by
  rw [timeF_in (okT_iff.2 (by omega))]; simp only [Int.toNat_zero, dblF]; omega
theorem timeF_nat {b m : Int} (k : Nat) (h1 : 1 ≤ b) (h2 : b ≤ m) (h3 : m ≤ 1000000) (hk : k ≤ 1000000) : timeF b m (k : Int) = dblF m k b := by
  rw [timeF_in (okT_iff.2 (by omega)), Int.toNat_natCast]
theorem timeF_bad {b m v : Int} (h : ¬(1 ≤ b ∧ b ≤ m ∧ m ≤ 1000000)) : timeF b m v = 0 := by
  refine timeF_out (Bool.eq_false_iff.2 fun g => h ?_)
  have := okT_iff.1 g; omega

set_option maxHeartbeats 1000000 in
theorem Reach_any (b m n : Int) (w : World) : Calls Try.prog 8 #[.int .i64 b, .int .i64 m, .int .i64 n] w (fun e w' => ∃ k ok, e = .returned (.tuple #[.int .i64 k, .bool ok]) ∧ ReachV b m n k ok ∧ w = w') := by
  have CT := Lib.hid (fun w => Timeout_any b m 0 w)
  by_cases g : 1 ≤ b ∧ b ≤ m ∧ m ≤ 1000000
  · obtain ⟨h1, h2, h3⟩ := g
    rw [timeF_zero h1 h2 h3] at CT
    have hb0 : (b == 0) = false := by simp; omega
    by_cases hn : m < n
    · have d : decide (m < n) = true := by simpa using hn
      go_enter Try.func8, Try.ntmps8
      go_wp2_with (go_at_call 16; refine (CT.out _).mono ?_; rintro e w' ⟨rfl, rfl⟩)
      go_ret2
      exact ⟨0, false, rfl, .inl ⟨by omega, rfl, rfl⟩, rfl⟩
    · have d : decide (m < n) = false := by simpa using hn
      have CN := Lib.hid (fun (k : Nat) (hk : k ≤ 1000000) w => by have := Timeout_any b m (k : Int) w; rw [timeF_nat k h1 h2 h3 hk] at this; exact this)
      have HG := Lib.hid (fun k => dblF_le m k b)
      have HM := Lib.hid (fun k => dblF_more m k b n h1 h2 (by omega))
      have HB := Lib.hid (show 1 ≤ dblF m 0 b from dblF_ge m 0 b (by omega) h2 |> fun h => by omega)
      go_enter Try.func8, Try.ntmps8
      go_wp2_with (go_at_call 16; refine (CT.out _).mono ?_; rintro e w' ⟨rfl, rfl⟩)
      go_loop [8] (fun i => ∃ k : Nat, i = .int .i64 (k : Int) ∧ (k : Int) + 1 ≤ dblF m k b ∧ ∀ j : Nat, j < k → dblF m j b < n) (fun i => (m - dblF m (intOf i).toNat b).toNat)
      case atStart => exact ⟨0, rfl, HB.out, fun j hj => absurd hj (by omega)⟩
      case round =>
        obtain ⟨k, rfl, hk, ha⟩ := hrel
        have hg := HG.out k
        have hk6 : k ≤ 1000000 := by omega
        have C := Lib.hid (CN.out k hk6)
        have hm1 := HM.out k
        have HA := Lib.hid ha
        have HGG := Lib.hid (HG.out (k + 1))
        obtain ⟨X, hX⟩ : ∃ X, X = dblF m k b := ⟨_, rfl⟩
        have HX := Lib.hid hX
        rw [← hX] at C hk hg hm1
        have HM1 := Lib.hid hm1
        clear CN HG HM HB hX ha hm1
        by_cases hq : X < n
        · have d2 : decide (X < n) = true := by simpa using hq
          go_wp2_with (go_at_call 16; refine (C.out _).mono ?_; rintro e w' ⟨rfl, rfl⟩)
          go_round
          case rel =>
            have h1' := HM1.out hq
            refine ⟨k + 1, by first | rfl | go_num, by omega, fun j hj => ?_⟩
            by_cases hjk : j < k
            · exact HA.out j hjk
            · obtain rfl : j = k := by omega
              rw [← HX.out]; exact hq
          case measure =>
            have h1' := HM1.out hq
            have := HGG.out
            have := HX.out
            have e : (intOf (.int .i64 (k : Int))).toNat = k := by simp [intOf]
            have e2 : (intOf (.int .i64 ((k : Int) + 1))).toNat = k + 1 := by simp [intOf] <;> omega
            simp only [List.getElem?_toArray, Array.getD_eq_getD_getElem?, List.getElem?_cons_zero, List.getElem?_cons_succ, Option.getD_some, e, e2]
            omega
        · have d2 : decide (X < n) = false := by simpa using hq
          go_wp2_with (go_at_call 16; refine (C.out _).mono ?_; rintro e w' ⟨rfl, rfl⟩)
          go_ret2
          exact ⟨k, true, rfl, .inr ⟨by omega, rfl, by omega, by omega, by rw [Int.toNat_natCast, ← HX.out]; omega, fun j hj => HA.out j (by omega)⟩, rfl⟩
  · rw [timeF_bad g] at CT
    go_enter Try.func8, Try.ntmps8
    go_wp2_with (go_at_call 16; refine (CT.out _).mono ?_; rintro e w' ⟨rfl, rfl⟩)
    go_ret2
    exact ⟨0, false, rfl, .inl ⟨by omega, rfl, rfl⟩, rfl⟩

set_option maxHeartbeats 1000000 in
theorem RefReach_any (b m n : Int) (w : World) : Calls Try.prog 9 #[.int .i64 b, .int .i64 m, .int .i64 n] w (fun e w' => ∃ k ok, e = .returned (.tuple #[.int .i64 k, .bool ok]) ∧ ReachV b m n k ok ∧ w = w') := by
  have CT := Lib.hid (fun w => RefTimeout_any b m 0 w)
  by_cases g : 1 ≤ b ∧ b ≤ m ∧ m ≤ 1000000
  · obtain ⟨h1, h2, h3⟩ := g
    rw [timeF_zero h1 h2 h3] at CT
    have hb0 : (b == 0) = false := by simp; omega
    by_cases hn : m < n
    · have d : decide (m < n) = true := by simpa using hn
      go_enter Try.func9, Try.ntmps9
      go_wp2_with (go_at_call 17; refine (CT.out _).mono ?_; rintro e w' ⟨rfl, rfl⟩)
      go_ret2
      exact ⟨0, false, rfl, .inl ⟨by omega, rfl, rfl⟩, rfl⟩
    · have d : decide (m < n) = false := by simpa using hn
      have CN := Lib.hid (fun (k : Nat) (hk : k ≤ 1000000) w => by have := RefTimeout_any b m (k : Int) w; rw [timeF_nat k h1 h2 h3 hk] at this; exact this)
      have HG := Lib.hid (fun k => dblF_le m k b)
      have HM := Lib.hid (fun k => dblF_more m k b n h1 h2 (by omega))
      have HB := Lib.hid (show 1 ≤ dblF m 0 b from dblF_ge m 0 b (by omega) h2 |> fun h => by omega)
      go_enter Try.func9, Try.ntmps9
      go_wp2_with (go_at_call 17; refine (CT.out _).mono ?_; rintro e w' ⟨rfl, rfl⟩)
      go_loop [8] (fun i => ∃ k : Nat, i = .int .i64 (k : Int) ∧ (k : Int) + 1 ≤ dblF m k b ∧ ∀ j : Nat, j < k → dblF m j b < n) (fun i => (m - dblF m (intOf i).toNat b).toNat)
      case atStart => exact ⟨0, rfl, HB.out, fun j hj => absurd hj (by omega)⟩
      case round =>
        obtain ⟨k, rfl, hk, ha⟩ := hrel
        have hg := HG.out k
        have hk6 : k ≤ 1000000 := by omega
        have C := Lib.hid (CN.out k hk6)
        have hm1 := HM.out k
        have HA := Lib.hid ha
        have HGG := Lib.hid (HG.out (k + 1))
        obtain ⟨X, hX⟩ : ∃ X, X = dblF m k b := ⟨_, rfl⟩
        have HX := Lib.hid hX
        rw [← hX] at C hk hg hm1
        have HM1 := Lib.hid hm1
        clear CN HG HM HB hX ha hm1
        by_cases hq : X < n
        · have d2 : decide (X < n) = true := by simpa using hq
          go_wp2_with (go_at_call 17; refine (C.out _).mono ?_; rintro e w' ⟨rfl, rfl⟩)
          go_round
          case rel =>
            have h1' := HM1.out hq
            refine ⟨k + 1, by first | rfl | go_num, by omega, fun j hj => ?_⟩
            by_cases hjk : j < k
            · exact HA.out j hjk
            · obtain rfl : j = k := by omega
              rw [← HX.out]; exact hq
          case measure =>
            have h1' := HM1.out hq
            have := HGG.out
            have := HX.out
            have e : (intOf (.int .i64 (k : Int))).toNat = k := by simp [intOf]
            have e2 : (intOf (.int .i64 ((k : Int) + 1))).toNat = k + 1 := by simp [intOf] <;> omega
            simp only [List.getElem?_toArray, Array.getD_eq_getD_getElem?, List.getElem?_cons_zero, List.getElem?_cons_succ, Option.getD_some, e, e2]
            omega
        · have d2 : decide (X < n) = false := by simpa using hq
          go_wp2_with (go_at_call 17; refine (C.out _).mono ?_; rintro e w' ⟨rfl, rfl⟩)
          go_ret2
          exact ⟨k, true, rfl, .inr ⟨by omega, rfl, by omega, by omega, by rw [Int.toNat_natCast, ← HX.out]; omega, fun j hj => HA.out j (by omega)⟩, rfl⟩
  · rw [timeF_bad g] at CT
    go_enter Try.func9, Try.ntmps9
    go_wp2_with (go_at_call 17; refine (CT.out _).mono ?_; rintro e w' ⟨rfl, rfl⟩)
    go_ret2
    exact ⟨0, false, rfl, .inl ⟨by omega, rfl, rfl⟩, rfl⟩
end Vw
end Go.Proofs.Ytdocoflcelhmbaa
