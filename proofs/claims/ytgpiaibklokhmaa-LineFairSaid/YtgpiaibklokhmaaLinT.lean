/- Contracts: package line's Right, Ahead, Join, Leave, Next, Without (THE TRIAL's own text: to be turned to what landed). -/
import Derived.Test.YtgpiaibklokhmaaLinD
import Derived.Deep.RegionHeld3
set_option linter.unusedVariables false
set_option linter.unusedSimpArgs false
namespace Go.Proofs.Ytgpiaibklokhmaa
open Go.RowKit
namespace Cm

theorem isClient_any (c : Int) (w : World) : Calls Try.prog 22 #[.int .i64 c] w (Says (clientF c) w) := by
  unfold clientF
  by_cases h1 : 0 ≤ c <;> by_cases h2 : c < 8 <;>
    (go_enter Try.func22, Try.ntmps22
     go_wp2
     go_ret
     exact ⟨by simp [h1, h2] <;> omega, rfl⟩)

set_option maxHeartbeats 2000000 in
theorem LineRight_any (v : Value) (l : List Int) (w : World) (h : RdI w v l) : Calls Try.prog 17 #[v] w (SaysB (rightL l) w) := by
  have hm := h.len
  obtain ⟨a, cap, rfl⟩ := h.form
  unfold rightL
  by_cases c6 : l.length ≤ 3
  case neg =>
    rw [decide_eq_false c6, Bool.false_and]
    clear h
    have d5 : decide (3 < (l.length : Int)) = true := by simp; omega
    generalize l.length = L at *
    go_enter Try.func17, Try.ntmps17
    go_wp2
    go_ret
    exact ⟨rfl, Below.refl _ _⟩
  rw [decide_eq_true c6, Bool.true_and]
  have d5 : decide (3 < (l.length : Int)) = false := by simp; omega
  have hcap : l.length ≤ cap ∧ cap ≤ maxLen := by
    obtain ⟨a', cap', hv, q1, q2, _⟩ := h.ex
    cases hv
    exact ⟨q1, q2⟩
  have HA := Lib.hid (fun i hi => rdi_at h i hi)
  have HT := Lib.hid (fun k (hk : k ≤ l.length) x => Contains_num _ (l.take k) x w (h.take k hk))
  have HD := Lib.hid (lineGo_drop l)
  clear h
  obtain ⟨L, hL⟩ : ∃ L, l.length = L := ⟨_, rfl⟩
  have HLL := Lib.hid hL
  rw [hL] at hm c6 d5 hcap ⊢
  clear hL
  obtain ⟨hc1, hc2⟩ := hcap
  go_enter Try.func17, Try.ntmps17
  go_wp2
  go_loop [10] (fun i => ∃ j : Nat, j ≤ L ∧ i = .int .i64 j ∧ Hid (lineGo [] l = lineGo (l.take j) (l.drop j))) (fun i => L - (intOf i).toNat)
  case atStart => exact ⟨0, by omega, rfl, Lib.hid rfl⟩
  case round =>
    obtain ⟨j, hj, rfl, HG⟩ := hrel
    by_cases hlt : j < L
    · have hjl : j < l.length := by rw [HLL.out]; exact hlt
      obtain ⟨b, o, rfl, hc⟩ := HA.out j hjl
      have q0 := hc _ (Below.refl _ _)
      have HT2 := Lib.hid (HT.out j (by rw [HLL.out]; exact hj))
      have hd := HD.out j hjl
      clear hc HT HA HD
      generalize l[j] = x at q0 hd
      have HI := Lib.hid (HT2.out x)
      clear HT2
      have g1 : (0 : Int) ≤ (j : Int) := by omega
      have g2 : (j : Int) < (L : Int) := by omega
      have g3 : (j : Int) ≤ (cap : Int) := by omega
      generalize l.take j = P at HI hd HG
      have CC := Lib.hid (isClient_any x w)
      cases n1 : clientF x with
      | false =>
        rw [n1] at hd CC
        have H := Lib.hid hd
        clear hd n1
        go_wp2_with (go_at_call 22; refine CC.out.mono ?_; rintro e w1 ⟨rfl, rfl⟩)
        go_ret
        exact ⟨by rw [HG.out, H.out]; rfl, Below.refl _ _⟩
      | true =>
        rw [n1] at hd CC
        cases n2 : hasL P x with
        | true =>
          rw [n2] at hd HI
          have H := Lib.hid hd
          clear hd n1 n2
          go_wp2_with (first
            | (go_at_call 22; refine CC.out.mono ?_; rintro e w1 ⟨rfl, rfl⟩)
            | (go_at_call 23; refine HI.out.mono ?_; rintro e w1 ⟨rfl, rfl⟩))
          go_ret
          exact ⟨by rw [HG.out, H.out]; rfl, Below.refl _ _⟩
        | false =>
          rw [n2] at hd HI
          have H := Lib.hid hd
          clear hd n1 n2
          go_wp2_with (first
            | (go_at_call 22; refine CC.out.mono ?_; rintro e w1 ⟨rfl, rfl⟩)
            | (go_at_call 23; refine HI.out.mono ?_; rintro e w1 ⟨rfl, rfl⟩))
          go_round
          case rel => exact ⟨j + 1, by omega, by go_num, Lib.hid (by rw [HG.out, H.out]; simp)⟩
          case measure => simp [intOf]; omega
    · obtain rfl : j = L := by omega
      have hg := HG.out
      rw [← HLL.out, List.drop_length] at hg
      have HE := Lib.hid hg
      clear hg HT
      go_wp2
      go_ret
      exact ⟨by rw [HE.out]; rfl, Below.refl _ _⟩

theorem LineAhead_any (v : Value) (l : List Int) (c : Int) (w : World) (h : RdI w v l) : Calls Try.prog 16 #[v, .int .i64 c] w (StandsB (aheadL l c) w) := by
  have HC := Lib.hid (Index_num v l c w h)
  obtain ⟨a, cap, rfl⟩ := h.form
  clear h
  unfold aheadL
  have hge := idxI_ge (isN c) l
  generalize idxI (isN c) l = r at HC hge ⊢
  generalize l.length = L at *
  by_cases h0 : r < 0
  · rw [if_pos h0]
    go_enter Try.func16, Try.ntmps16
    go_wp2_with (go_at_call 27; refine HC.out.mono ?_; rintro e w' ⟨rfl, rfl⟩)
    go_ret2
    exact ⟨rfl, Below.refl _ _⟩
  · rw [if_neg h0]
    go_enter Try.func16, Try.ntmps16
    go_wp2_with (go_at_call 27; refine HC.out.mono ?_; rintro e w' ⟨rfl, rfl⟩)
    go_ret2
    exact ⟨rfl, Below.refl _ _⟩

set_option maxHeartbeats 2000000 in
theorem LineWithout_any (v u : Value) (l g : List Int) (w : World) (h : RdI w v l) (h2 : RdI w u g) (h5 : l.length ≤ 1000) : Calls Try.prog 18 #[v, u] w (GetsN (withoutL l g) w) := by
  have hm := h.len
  obtain ⟨a, cap, rfl⟩ := h.form
  have HA := Lib.hid (fun i hi => rdi_at h i hi)
  have HF := Lib.hid (withoutL_succ l g)
  have HG := Lib.hid (fun x w' (hb : Below w.heap.size w w') => Contains_num u g x w' (h2.later hb))
  obtain ⟨a2, cap2, rfl⟩ := h2.form
  clear h h2
  obtain ⟨i0, hi, hz0, hz1, hz2⟩ := info_parts infoN
  obtain ⟨L, hL⟩ : ∃ L, l.length = L := ⟨_, rfl⟩
  have HLL := Lib.hid hL
  rw [hL] at hm h5 ⊢
  clear hL
  generalize g.length = GL at *
  go_enter Try.func18, Try.ntmps18
  go_wp2
  go_loopw [5, 10] (fun m i wr => ∃ (k : Nat) (M : List Int), k ≤ L ∧ i = .int .i64 k ∧ Hid (withoutL (l.take k) g = M) ∧ M.length ≤ k ∧ Hid (wr.ownsRow w.heap.size 3 1 m M.length (flatX cellsI M)) ∧ Hid (Below w.heap.size w wr)) (fun _ i _ => L - (intOf i).toNat)
  case atStart => exact ⟨0, [], by omega, rfl, Lib.hid rfl, by simp, Lib.hid (World.ownsRow_nil _ _ _ _), Lib.hid (Below.refl _ _)⟩
  case round =>
    obtain ⟨k, M, hk, rfl, HM, hMk, HO, HB⟩ := hrel
    by_cases hlt : k < L
    · have hkl : k < l.length := by rw [HLL.out]; exact hlt
      obtain ⟨b, o, rfl, hc⟩ := HA.out k hkl
      have q0 := hc _ HB.out
      have hp := HF.out k hkl
      rw [HM.out] at hp
      clear hc HA HF
      generalize l[k] = x at q0 hp
      have HI := Lib.hid (HG.out x wr HB.out)
      clear HG
      cases n1 : hasL g x with
      | true =>
        have H : Hid (withoutL (l.take (k + 1)) g = M) := Lib.hid (by rw [hp, n1]; simp)
        rw [n1] at HI
        clear hp n1
        go_wp2_with fail
        refine HI.out.mono ?_
        rintro e w1 ⟨rfl, rfl⟩
        go_wp2
        go_roundw
        case rel => exact ⟨k + 1, M, by omega, by go_num, H, by omega, HO, HB⟩
        case measure => simp [intOf]; omega
      | false =>
        have H : Hid (withoutL (l.take (k + 1)) g = M ++ [x]) := Lib.hid (by rw [hp, n1]; simp)
        rw [n1] at HI
        clear hp n1
        go_wp2_with fail
        refine HI.out.mono ?_
        rintro e w1 ⟨rfl, rfl⟩
        go_wp2_with (at_builtin; (refine wpList_append_one cellsI_length (by omega) rfl (.tmp 18) (.tmp 20) 23 rfl 3 i0 _ 8 Try.underlying23 hi hz0 hz1 hz2 rfl #[.int .i64 x] x rfl (cellsI_one _) M w.heap.size w.heap.size w _ rfl rfl HO.out (by unfold maxLen; omega) (by omega) HB.out.size HB.out (Nat.le_refl _) ?_); intro v5 w5 ho5 hb5 _; have HO5 := Lib.hid ho5; have HB5 := Lib.hid hb5; clear ho5 hb5)
        go_roundw
        case rel => exact ⟨k + 1, M ++ [x], by omega, by go_num, H, by simp; omega, HO5, HB5⟩
        case measure => simp [intOf]; omega
    · obtain rfl : k = L := by omega
      have hM := HM.out
      rw [← HLL.out, List.take_length] at hM
      have H := Lib.hid hM
      clear hM
      go_wp2
      go_ret
      rw [H.out]
      exact ⟨_, rfl, HO.out, HB.out⟩
end Cm
end Go.Proofs.Ytgpiaibklokhmaa
