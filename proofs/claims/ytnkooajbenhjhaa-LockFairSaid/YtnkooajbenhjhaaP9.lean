/- Texts laid together by program: LinT, LinX, LckE, LckF, LckG, LckH, LckI, LckJ, LckK. -/
import Derived.Test.YtnkooajbenhjhaaP8
import Derived.Deep.RegionHeld3
import Derived.Test.YtnkooajbenhjhaaP3
/- Contracts: package line's Right, Ahead, Join, Leave, Next, Without. -/
set_option linter.unusedVariables false
set_option linter.unusedSimpArgs false
namespace Go.Proofs.Ytnkooajbenhjhaa
open Go.RowKit
namespace Cm

theorem isClient_any (c : Int) (w : World) : Calls Try.prog 67 #[.int .i64 c] w (Says (clientF c) w) := by
  unfold clientF
  by_cases h1 : 0 ≤ c <;> by_cases h2 : c < 8 <;>
    (go_enter Try.func67, Try.ntmps67
     go_wp2
     go_ret
     exact ⟨by simp [h1, h2] <;> omega, rfl⟩)

set_option maxHeartbeats 2000000 in
theorem LineRight_any (v : Value) (l : List Int) (w : World) (h : RdI w v l) : Calls Try.prog 61 #[v] w (SaysB (rightL l) w) := by
  have hm := h.len
  obtain ⟨a, cap, rfl⟩ := h.form
  unfold rightL
  by_cases c6 : l.length ≤ 3
  case neg =>
    rw [decide_eq_false c6, Bool.false_and]
    clear h
    have d5 : decide (3 < (l.length : Int)) = true := by simp; omega
    generalize l.length = L at *
    go_enter Try.func61, Try.ntmps61
    go_wp2
    go_ret
    exact ⟨rfl, Below.refl _ _⟩
  rw [decide_eq_true c6, Bool.true_and]
  have d5 : decide (3 < (l.length : Int)) = false := by simp; omega
  have hcap : l.length ≤ cap ∧ cap ≤ maxLen := by
    obtain ⟨a', cap', hv, q1, q2, _⟩ := h.ex
    cases hv
    exact ⟨q1, q2⟩
  have HA := Lib.hid (fun i hi => rdi_at h i hi)
  have HT := Lib.hid (fun k (hk : k ≤ l.length) x => Contains_num _ (l.take k) x w (h.take k hk))
  have HD := Lib.hid (lineGo_drop l)
  clear h
  obtain ⟨L, hL⟩ : ∃ L, l.length = L := ⟨_, rfl⟩
  have HLL := Lib.hid hL
  rw [hL] at hm c6 d5 hcap ⊢
  clear hL
  obtain ⟨hc1, hc2⟩ := hcap
  go_enter Try.func61, Try.ntmps61
  go_wp2
  go_loop [10] (fun i => ∃ j : Nat, j ≤ L ∧ i = .int .i64 j ∧ Hid (lineGo [] l = lineGo (l.take j) (l.drop j))) (fun i => L - (intOf i).toNat)
  case atStart => exact ⟨0, by omega, rfl, Lib.hid rfl⟩
  case round =>
    obtain ⟨j, hj, rfl, HG⟩ := hrel
    by_cases hlt : j < L
    · have hjl : j < l.length := by rw [HLL.out]; exact hlt
      obtain ⟨b, o, rfl, hc⟩ := HA.out j hjl
      have q0 := hc _ (Below.refl _ _)
      have HT2 := Lib.hid (HT.out j (by rw [HLL.out]; exact hj))
      have hd := HD.out j hjl
      clear hc HT HA HD
      generalize l[j] = x at q0 hd
      have HI := Lib.hid (HT2.out x)
      clear HT2
      have g1 : (0 : Int) ≤ (j : Int) := by omega
      have g2 : (j : Int) < (L : Int) := by omega
      have g3 : (j : Int) ≤ (cap : Int) := by omega
      generalize l.take j = P at HI hd HG
      have CC := Lib.hid (isClient_any x w)
      cases n1 : clientF x with
      | false =>
        rw [n1] at hd CC
        have H := Lib.hid hd
        clear hd n1
        go_wp2_with (go_at_call 67; refine CC.out.mono ?_; rintro e w1 ⟨rfl, rfl⟩)
        go_ret
        exact ⟨by rw [HG.out, H.out]; rfl, Below.refl _ _⟩
      | true =>
        rw [n1] at hd CC
        cases n2 : hasL P x with
        | true =>
          rw [n2] at hd HI
          have H := Lib.hid hd
          clear hd n1 n2
          go_wp2_with (first
            | (go_at_call 67; refine CC.out.mono ?_; rintro e w1 ⟨rfl, rfl⟩)
            | (go_at_call 41; refine HI.out.mono ?_; rintro e w1 ⟨rfl, rfl⟩))
          go_ret
          exact ⟨by rw [HG.out, H.out]; rfl, Below.refl _ _⟩
        | false =>
          rw [n2] at hd HI
          have H := Lib.hid hd
          clear hd n1 n2
          go_wp2_with (first
            | (go_at_call 67; refine CC.out.mono ?_; rintro e w1 ⟨rfl, rfl⟩)
            | (go_at_call 41; refine HI.out.mono ?_; rintro e w1 ⟨rfl, rfl⟩))
          go_round
          case rel => exact ⟨j + 1, by omega, by go_num, Lib.hid (by rw [HG.out, H.out]; simp)⟩
          case measure => simp [intOf]; omega
    · obtain rfl : j = L := by omega
      have hg := HG.out
      rw [← HLL.out, List.drop_length] at hg
      have HE := Lib.hid hg
      clear hg HT
      go_wp2
      go_ret
      exact ⟨by rw [HE.out]; rfl, Below.refl _ _⟩

theorem LineAhead_any (v : Value) (l : List Int) (c : Int) (w : World) (h : RdI w v l) : Calls Try.prog 54 #[v, .int .i64 c] w (StandsB (aheadL l c) w) := by
  have HC := Lib.hid (Index_num v l c w h)
  obtain ⟨a, cap, rfl⟩ := h.form
  clear h
  unfold aheadL
  have hge := idxI_ge (isN c) l
  generalize idxI (isN c) l = r at HC hge ⊢
  generalize l.length = L at *
  by_cases h0 : r < 0
  · rw [if_pos h0]
    go_enter Try.func54, Try.ntmps54
    go_wp2_with (go_at_call 58; refine HC.out.mono ?_; rintro e w' ⟨rfl, rfl⟩)
    go_ret2
    exact ⟨rfl, Below.refl _ _⟩
  · rw [if_neg h0]
    go_enter Try.func54, Try.ntmps54
    go_wp2_with (go_at_call 58; refine HC.out.mono ?_; rintro e w' ⟨rfl, rfl⟩)
    go_ret2
    exact ⟨rfl, Below.refl _ _⟩

set_option maxHeartbeats 2000000 in
theorem LineWithout_any (v u : Value) (l g : List Int) (w : World) (h : RdI w v l) (h2 : RdI w u g) (h5 : l.length ≤ 1000) : Calls Try.prog 40 #[v, u] w (GetsN (withoutL l g) w) := by
  have hm := h.len
  obtain ⟨a, cap, rfl⟩ := h.form
  have HA := Lib.hid (fun i hi => rdi_at h i hi)
  have HF := Lib.hid (withoutL_succ l g)
  have HG := Lib.hid (fun x w' (hb : Below w.heap.size w w') => Contains_num u g x w' (h2.later hb))
  obtain ⟨a2, cap2, rfl⟩ := h2.form
  clear h h2
  obtain ⟨i0, hi, hz0, hz1, hz2⟩ := info_parts infoN
  obtain ⟨L, hL⟩ : ∃ L, l.length = L := ⟨_, rfl⟩
  have HLL := Lib.hid hL
  rw [hL] at hm h5 ⊢
  clear hL
  generalize g.length = GL at *
  go_enter Try.func40, Try.ntmps40
  go_wp2
  go_loopw [5, 10] (fun m i wr => ∃ (k : Nat) (M : List Int), k ≤ L ∧ i = .int .i64 k ∧ Hid (withoutL (l.take k) g = M) ∧ M.length ≤ k ∧ Hid (wr.ownsRow w.heap.size 3 1 m M.length (flatX cellsI M)) ∧ Hid (Below w.heap.size w wr)) (fun _ i _ => L - (intOf i).toNat)
  case atStart => exact ⟨0, [], by omega, rfl, Lib.hid rfl, by simp, Lib.hid (World.ownsRow_nil _ _ _ _), Lib.hid (Below.refl _ _)⟩
  case round =>
    obtain ⟨k, M, hk, rfl, HM, hMk, HO, HB⟩ := hrel
    by_cases hlt : k < L
    · have hkl : k < l.length := by rw [HLL.out]; exact hlt
      obtain ⟨b, o, rfl, hc⟩ := HA.out k hkl
      have q0 := hc _ HB.out
      have hp := HF.out k hkl
      rw [HM.out] at hp
      clear hc HA HF
      generalize l[k] = x at q0 hp
      have HI := Lib.hid (HG.out x wr HB.out)
      clear HG
      cases n1 : hasL g x with
      | true =>
        have H : Hid (withoutL (l.take (k + 1)) g = M) := Lib.hid (by rw [hp, n1]; simp)
        rw [n1] at HI
        clear hp n1
        go_wp2_with fail
        refine HI.out.mono ?_
        rintro e w1 ⟨rfl, rfl⟩
        go_wp2
        go_roundw
        case rel => exact ⟨k + 1, M, by omega, by go_num, H, by omega, HO, HB⟩
        case measure => simp [intOf]; omega
      | false =>
        have H : Hid (withoutL (l.take (k + 1)) g = M ++ [x]) := Lib.hid (by rw [hp, n1]; simp)
        rw [n1] at HI
        clear hp n1
        go_wp2_with fail
        refine HI.out.mono ?_
        rintro e w1 ⟨rfl, rfl⟩
        go_wp2_with (at_builtin; (refine wpList_append_one cellsI_length (by omega) rfl (.tmp 18) (.tmp 20) 35 rfl 3 i0 _ 8 Try.underlying35 hi hz0 hz1 hz2 rfl #[.int .i64 x] x rfl (cellsI_one _) M w.heap.size w.heap.size w _ rfl rfl HO.out (by unfold maxLen; omega) (by omega) HB.out.size HB.out (Nat.le_refl _) ?_); intro v5 w5 ho5 hb5 _; have HO5 := Lib.hid ho5; have HB5 := Lib.hid hb5; clear ho5 hb5)
        go_roundw
        case rel => exact ⟨k + 1, M ++ [x], by omega, by go_num, H, by simp; omega, HO5, HB5⟩
        case measure => simp [intOf]; omega
    · obtain rfl : k = L := by omega
      have hM := HM.out
      rw [← HLL.out, List.take_length] at hM
      have H := Lib.hid hM
      clear hM
      go_wp2
      go_ret
      rw [H.out]
      exact ⟨_, rfl, HO.out, HB.out⟩
end Cm
end Go.Proofs.Ytnkooajbenhjhaa

/- Contracts: package line's Join, Leave, Next (Leave as it landed: Ahead, then Without). -/
set_option linter.unusedVariables false
set_option linter.unusedSimpArgs false
namespace Go.Proofs.Ytnkooajbenhjhaa
open Go.RowKit
namespace Cm

/-- The world in which Join lays its row of two lists together. -/
def joinW (w : World) (c : Int) (u : Value) : World :=
  (w.alloc (.cells #[.int .i64 c] 3)).alloc (.cells #[u, .slice (some ⟨w.heap.size, 0, none⟩) 1 1] 35)
theorem joinW_below (w : World) (c : Int) (u : Value) : Below w.heap.size w (joinW w c u) := step (newAlloc _ _) (newAlloc _ _)
theorem join_cat (w : World) (c : Int) (u : Value) (A : List Int) (hl : A.length + 1 ≤ 1000000) (hu : RdI w u A) :
    Calls Try.prog 68 #[.slice (some ⟨w.heap.size + 1, 0, none⟩) 2 2] (joinW w c u) (MadeI (A ++ [c]) (joinW w c u)) := by
  have hb := joinW_below w c u
  refine ConcatI_two (joinW w c u) (w.heap.size + 1) u (.slice (some ⟨w.heap.size, 0, none⟩) 1 1) A [c] (hu.later hb) ?_ ?_ ?_ (by simpa using hl)
  · refine RdX.one (cs := #[.int .i64 c]) (t := 3) ?_ rfl
    show ((w.heap.push _).push _)[w.heap.size]? = _
    simp [Array.getElem?_push]
  all_goals (unfold joinW; simp [go_sem])

set_option maxHeartbeats 2000000 in
theorem LineJoin_any (v : Value) (l : List Int) (c : Int) (w : World) (h : RdI w v l) : Calls Try.prog 55 #[v, .int .i64 c] w (GetsJ (joinL l c) w) := by
  have hm := h.len
  have CI := Lib.hid (Contains_num v l c w h)
  have CC := Lib.hid (isClient_any c w)
  obtain ⟨a, cap, rfl⟩ := h.form
  unfold joinL
  cases n1 : clientF c
  case false =>
    rw [if_pos rfl]
    rw [n1] at CC
    clear CI n1
    generalize l.length = L at *
    go_enter Try.func55, Try.ntmps55
    go_wp2_with (go_at_call 67; refine CC.out.mono ?_; rintro e w1 ⟨rfl, rfl⟩)
    refine bodyPost_ret (by simp [results, Try.results55, go_sem] <;> rfl) rfl ?_
    exact GetsJ.empty rfl (Below.refl _ _)
  rw [if_neg (by simp)]
  rw [n1] at CC
  cases n2 : hasL l c
  case true =>
    rw [if_pos rfl]
    rw [n2] at CI
    clear n2
    generalize l.length = L at *
    go_enter Try.func55, Try.ntmps55
    go_wp2_with (first
      | (go_at_call 67; refine CC.out.mono ?_; rintro e w1 ⟨rfl, rfl⟩)
      | (go_at_call 41; refine CI.out.mono ?_; rintro e w1 ⟨rfl, rfl⟩))
    refine bodyPost_ret (by simp [results, Try.results55, go_sem] <;> rfl) rfl ?_
    exact GetsJ.empty rfl (Below.refl _ _)
  rw [if_neg (by simp)]
  rw [n2] at CI
  by_cases h3 : 3 ≤ l.length
  · rw [if_pos h3]
    have d3 : decide ((3 : Int) ≤ (l.length : Int)) = true := by simp; omega
    clear n2
    generalize l.length = L at *
    clear h3
    go_enter Try.func55, Try.ntmps55
    go_wp2_with (first
      | (go_at_call 67; refine CC.out.mono ?_; rintro e w1 ⟨rfl, rfl⟩)
      | (go_at_call 41; refine CI.out.mono ?_; rintro e w1 ⟨rfl, rfl⟩))
    refine bodyPost_ret (by simp [results, Try.results55, go_sem] <;> rfl) rfl ?_
    exact GetsJ.empty rfl (Below.refl _ _)
  rw [if_neg h3]
  have d3 : decide ((3 : Int) ≤ (l.length : Int)) = false := by simp; omega
  have HZ := Lib.hid (join_cat w c _ l (by omega) h)
  clear h3 n2 h n1
  go_enter Try.func55, Try.ntmps55
  go_wp2_with (first
    | (go_at_call 67; refine CC.out.mono ?_; rintro e w1 ⟨rfl, rfl⟩)
    | (go_at_call 41; refine CI.out.mono ?_; rintro e w1 ⟨rfl, rfl⟩)
    | (go_at_call 68; refine HZ.out.mono ?_; rintro e w6 ⟨v6, rfl, ho6, hb6⟩))
  refine bodyPost_ret (by simp [results, Try.results55, go_sem] <;> rfl) rfl ?_
  exact ⟨v6, rfl, own_lowerX ho6 (joinW_below _ _ _).size, step (joinW_below _ _ _) hb6⟩

theorem LineLeave_any (v : Value) (l : List Int) (c : Int) (w : World) (h : RdI w v l) (h5 : l.length ≤ 1000) : Calls Try.prog 38 #[v, .int .i64 c] w (GetsL (leaveL l c) w) := by
  have KC := Lib.hid (LineAhead_any v l c w h)
  have KW := Lib.hid (fun w1 (hb : Below w.heap.size w w1) => LineWithout_any v _ l [c] _ (h.later (step hb (newAlloc w1 (.cells #[.int .i64 c] 3)))) (RdX.one (cs := #[.int .i64 c]) (t := 3) (y := c) (w := w1.alloc (.cells #[.int .i64 c] 3)) (b := w1.heap.size) (by show (w1.heap.push _)[w1.heap.size]? = _; simp) rfl) h5)
  obtain ⟨a, cap, rfl⟩ := h.form
  unfold leaveL
  rw [← aheadL_has l c]
  generalize aheadL l c = b at KC ⊢
  obtain ⟨n, b⟩ := b
  generalize withoutL l [c] = M at KW ⊢
  clear h h5
  generalize l.length = L at *
  go_enter Try.func38, Try.ntmps38
  go_wp2_with (first
    | (go_at_call 54; refine KC.out.mono ?_; rintro e w1 ⟨rfl, hb1⟩; have HB0 := Lib.hid hb1; have KW1 := Lib.hid (KW.out _ hb1); have HB1 := Lib.hid (step hb1 (newAlloc w1 (.cells #[.int .i64 c] 3))); clear hb1)
    | (go_at_call 40; refine KW1.out.mono ?_; rintro e w2 ⟨v1, rfl, ho1, hb2⟩; have HB2 := Lib.hid (step HB1.out hb2)))
  go_ret2
  exact ⟨v1, rfl, own_lowerX ho1 HB1.out.size, HB2.out⟩

theorem LineNext_any (v : Value) (l : List Int) (w : World) (h : RdI w v l) (h5 : l.length ≤ 1000) : Calls Try.prog 56 #[v] w (GetsX (nextL l) w) := by
  have HR := Lib.hid h
  obtain ⟨a, cap, rfl⟩ := h.form
  have hcap : l.length ≤ cap ∧ cap ≤ maxLen := by
    obtain ⟨a', cap', hv, q1, q2, _⟩ := h.ex
    cases hv
    exact ⟨q1, q2⟩
  unfold maxLen at hcap
  obtain ⟨hc1, hc2⟩ := hcap
  match l, HR, h5, h, hc1 with
  | [], HR, h5, h, hc1 =>
    unfold nextL
    clear h
    rw [List.length_nil] at *
    go_enter Try.func56, Try.ntmps56
    go_wp2
    refine bodyPost_ret (by simp [results, Try.results56, go_sem] <;> rfl) rfl ?_
    exact ⟨_, rfl, World.ownsRow_nil _ _ _ _, Below.refl _ _⟩
  | x :: l, HR, h5, h, hc1 =>
    unfold nextL
    obtain ⟨b, o, rfl, hc⟩ := rdi_at h 0 (by simp)
    have HX := Lib.hid (fun n => hc (w.drewN n) (below_drewN6 (Below.refl _ _) n))
    have x0 := hc w (Below.refl _ _)
    simp only [List.getElem_cons_zero, Nat.add_zero] at HX x0
    have HD := Lib.hid (HR.out.drop (by omega) 1 (by simp))
    rw [List.drop_one, List.tail_cons] at HD
    clear h HR hc
    obtain ⟨L, hL⟩ : ∃ L, (x :: l).length = L := ⟨_, rfl⟩
    have hL1 : l.length + 1 = L := by rw [← hL]; simp
    rw [hL] at h5 hc1 HD ⊢
    have g1 : (0 : Int) < (L : Int) := by omega
    have g2 : (1 : Int) ≤ (L : Int) := by omega
    have z0 : ((L : Int) == 0) = false := by simp; omega
    have HLL : Hid (l.length + 1 = L ∧ L ≤ 1000) := Lib.hid ⟨hL1, h5⟩
    clear hL hL1
    have g0 : 0 < L := by omega
    have g3 : 1 ≤ L := by omega
    by_cases hcp : cap = 1
    · rw [if_pos hcp] at HD
      obtain rfl : L = 1 := by omega
      subst hcp
      have KC := Lib.hid (fun w' (hb : Below w.heap.size w w') => CloneI_any _ l w' (HD.out.later hb) (by have := HLL.out; omega))
      clear g0 g1 g2 g3 z0 hc1 hc2
      go_enter Try.func56, Try.ntmps56
      go_upto_region 3 with fail
      go_region_held3 (fun w' => w'.cell? ⟨b, o, none⟩ = some (.int .i64 x)) (first | exact x0 | exact (hb6.cell (lt_of_cell x0)).trans x0 | go_keep) (first
        | (go_at_call 59; refine (KC.out _ (Below.refl _ _).drew).mono ?_; rintro e w6 ⟨v6, rfl, ho6, hb6⟩))
      go_wp2
      refine bodyPost_ret (by simp [results, Try.results56, go_sem] <;> rfl) rfl ?_
      exact ⟨v6, rfl, ho6, step (Below.refl _ _).drew hb6⟩
    · rw [if_neg hcp] at HD
      have KC := Lib.hid (fun w' (hb : Below w.heap.size w w') => CloneI_any _ l w' (HD.out.later hb) (by have := HLL.out; omega))
      have hadd : (⟨b, o, none⟩ : Addr).add (1 * 1) = ⟨b, o + 1, none⟩ := by unfold Addr.add; split <;> simp_all
      rw [Option.map_some, hadd] at KC
      clear hadd
      go_enter Try.func56, Try.ntmps56
      go_upto_region 3 with fail
      go_region_held3 (fun w' => w'.cell? ⟨b, o, none⟩ = some (.int .i64 x)) (first | exact x0 | exact (hb6.cell (lt_of_cell x0)).trans x0 | go_keep) (first
        | (go_at_call 59; refine (KC.out _ (Below.refl _ _).drew).mono ?_; rintro e w6 ⟨v6, rfl, ho6, hb6⟩))
      go_wp2
      refine bodyPost_ret (by simp [results, Try.results56, go_sem] <;> rfl) rfl ?_
      exact ⟨v6, rfl, ho6, step (Below.refl _ _).drew hb6⟩
end Cm
end Go.Proofs.Ytnkooajbenhjhaa

/- Contracts: package lock's pass, await. -/
set_option linter.unusedVariables false
set_option linter.unusedSimpArgs false
namespace Go.Proofs.Ytnkooajbenhjhaa
open Go.RowKit Go.Shelf
namespace Cm

def passL (k : LockV) (t : Int) : List LockV × Int := if k.line = [] then ([], 0) else ([passK k t], 1)

/-- None or one lock told. -/
def Passed (r : List LockV × Int) (w : World) (e : Ending) (w' : World) : Prop :=
  ∃ u n c Y, e = .returned (.tuple #[.slice u n c, .int .i64 r.2]) ∧ vals Y = r.1 ∧ RdX 4 cellsK w' (.slice u n c) Y ∧ (∀ y ∈ Y, NewI w.heap.size w' y.lv y.line) ∧ Below w.heap.size w w'

set_option maxHeartbeats 2000000 in
theorem pass_any (x : LockC) (t : Int) (w : World) (hl : RdI w x.lv x.line) (h5 : x.line.length ≤ 1000) (ht : 0 ≤ t ∧ t ≤ 4611686018427387904) :
    Calls Try.prog 36 #[lockVal x, .int .i64 t] w (Passed (passL x.val t) w) := by
  obtain ⟨xn, xh, xt, xl, xa, xc⟩ := x
  unfold lockVal passL LockC.val passK
  unfold LockC.lv at hl ⊢
  dsimp only at hl h5 ⊢
  have hb1 := newAlloc w (.cells #[.string (bstr xn), .int .i64 xh, .int .i64 xt, .slice xa xl.length xc] 39)
  obtain ⟨c0, c1, c2, c3⟩ := box4 (Below.refl _ (w.alloc (.cells #[.string (bstr xn), .int .i64 xh, .int .i64 xt, .slice xa xl.length xc] 39)))
  obtain ⟨W1, hW1⟩ : ∃ W1, W1 = w.alloc (.cells #[.string (bstr xn), .int .i64 xh, .int .i64 xt, .slice xa xl.length xc] 39) := ⟨_, rfl⟩
  rw [← hW1] at hb1 c0 c1 c2 c3
  have HB := Lib.hid hb1
  have KN := Lib.hid (LineNext_any (.slice xa xl.length xc) xl W1 (hl.later hb1) h5)
  have hw1 : IntKind.i64.wrap (t + 1) = t + 1 := by rw [IntKind.wrap_i64]; omega
  clear hl hb1 ht
  match xl, KN with
  | [], KN =>
    rw [if_pos rfl]
    unfold nextL at KN
    rw [List.length_nil] at *
    go_enter Try.func36, Try.ntmps36
    go_upto_region 1 with fail
    rw [← hW1]
    clear hW1
    go_wp2_with (go_at_call 56; refine KN.out.mono ?_; rintro e w2 ⟨v2, rfl, ho2, hb2⟩)
    go_ret2
    exact ⟨_, _, _, [], rfl, rfl, RdX.nil _, (fun y hy => by cases hy), step HB.out hb2⟩
  | c :: l, KN =>
    rw [if_neg (by simp)]
    unfold nextL at KN
    dsimp only at KN
    have HCL : Hid (∀ (P : Prop), P → P) := Lib.hid fun _ h => h
    simp only [List.headD_cons, List.drop_one, List.tail_cons]
    generalize (c :: l).length = L at *
    go_enter Try.func36, Try.ntmps36
    go_upto_region 1 with fail
    rw [← hW1]
    clear hW1
    go_wp2_with (go_at_call 56; refine KN.out.mono ?_; rintro e w2 ⟨v2, rfl, ho2, hb2⟩; have HO2 := Lib.hid ho2; obtain ⟨a2, d2, rfl⟩ := Rw.own_form HO2.out; have HB2 := Lib.hid hb2; have y0 := (HB2.out.cell (lt_of_cell c0)).trans c0; clear ho2 hb2)
    go_ret2
    refine ⟨_, _, _, [(⟨xn, c, t + 1, l, a2, d2⟩ : LockC)], rfl, rfl, RdX.one (heap_alloc_new w2 _) rfl, fun y hy => ?_, step HB.out (stepAlloc HB2.out _)⟩
    rw [List.mem_singleton] at hy
    subst hy
    exact ((NewI.own HO2.out).later (newAlloc w2 _)).lower HB.out.size
end Cm
end Go.Proofs.Ytnkooajbenhjhaa

/- Contracts: package lock's await. -/
set_option linter.unusedVariables false
set_option linter.unusedSimpArgs false
namespace Go.Proofs.Ytnkooajbenhjhaa
open Go.RowKit Go.Shelf
namespace Cm

theorem set_split {α : Type} (l : List α) (k : Nat) (h : k < l.length) (y : α) : l.take k ++ ([y] ++ l.drop (k + 1)) = l.set k y := by
  rw [List.set_eq_take_append_cons_drop, if_pos h]
  rfl

def awaitK (l : List LockV) (k : Nat) (x : LockV) (c : Int) : List LockV × Int × Int :=
  if (aheadL x.line c).2 = true then (l, (aheadL x.line c).1, 10) else
  if 3 ≤ x.line.length then ([], 0, 5) else (l.set k ⟨x.name, x.holder, x.token, x.line ++ [c]⟩, x.line.length, 10)

set_option maxHeartbeats 4000000 in
theorem await_any (v : Value) (L : List LockC) (k : Nat) (c : Int) (w : World) (h : RdK w v L) (hk : k < L.length) (h5 : L.length ≤ 1000) (h6 : ∀ x ∈ L, x.line.length ≤ 1000) (hc : clientF c = true) :
    Calls Try.prog 35 #[v, .int .i64 (k : Int), .int .i64 c] w (GetsT (awaitK (vals L) k L[k].val c) w) := by
  have hm := h.len
  have KC : Hid (∀ w', Below w.heap.size w w' → Calls Try.prog 52 #[v] w' (MadeC (vals L) w')) := Lib.hid fun w' hb => copies_any _ _ w' (h.later hb) h5 h6
  have KR : Hid (∀ (w' : World) (u : Value) (y : LockC), Below w.heap.size w w' → RdX 4 cellsK w' u [y] → NewI w.heap.size w' y.lv y.line → Calls Try.prog 37 #[v, .int .i64 (k : Int), u] w' (MadeT w.heap.size ((vals L).set k y.val) w')) := Lib.hid fun w' u y hb hu hy => by
    have := replaced_any w.heap.size v u L [y] k w' hk (h.later hb) h5 h6 hu (by simp) (fun z hz => by rw [List.mem_singleton] at hz; subst hz; exact hy) hb.size
    have e : vals [y] = [y.val] := rfl
    rw [e, set_split _ _ (by rw [vals_length]; exact hk)] at this
    exact this
  have hxl : RdI w L[k].lv L[k].line := h.line _ (List.getElem_mem hk)
  obtain ⟨a, cap, rfl⟩ := h.form
  obtain ⟨b, o, rfl, hcell⟩ := rdk_at h.row k hk
  have HQ := Lib.hid hcell
  clear h h6 hcell
  generalize L[k] = x at *
  generalize hN : L.length = N at *
  clear hN
  obtain ⟨xn, xh, xt, xl, xa, xc⟩ := x
  unfold awaitK LockC.val
  unfold LockC.lv at HQ hxl
  dsimp only at HQ hxl ⊢
  have f1 : (0 : Int) ≤ (k : Int) := by omega
  have f2 : (k : Int) < (N : Int) := by omega
  have KA := Lib.hid (LineAhead_any (.slice xa xl.length xc) xl c w hxl)
  have KJ : Hid (∀ w', Below w.heap.size w w' → Calls Try.prog 55 #[.slice xa xl.length xc, .int .i64 c] w' (GetsJ (joinL xl c) w')) := Lib.hid fun w' hb => LineJoin_any _ xl c w' (hxl.later hb)
  obtain ⟨q0, q1, q2, q3⟩ := HQ.out w (Below.refl _ _)
  have hhas : (aheadL xl c).2 = hasL xl c := aheadL_has xl c
  generalize aheadL xl c = r at KA hhas ⊢
  obtain ⟨p, d⟩ := r
  dsimp only at hhas ⊢
  unfold StandsB at KA
  dsimp only at KA
  clear hxl
  cases d with
  | true =>
    rw [if_pos rfl]
    clear KJ KR HQ hhas
    generalize vals L = V at *
    go_enter Try.func35, Try.ntmps35
    go_wp2_with (first
      | (go_at_call 54; refine KA.out.mono ?_; rintro e w2 ⟨rfl, hb2⟩; have HB2 := Lib.hid hb2; clear hb2)
      | (go_at_call 52; refine (KC.out _ HB2.out).mono ?_; rintro e w3 ⟨v3, M3, rfl, hm3, ho3, hb3⟩))
    refine bodyPost_ret (by simp [results, Try.results35, go_sem] <;> rfl) rfl ?_
    exact ⟨v3, M3, rfl, hm3, ho3.n.lower HB2.out.size, step HB2.out hb3⟩
  | false =>
    rw [if_neg (by simp)]
    have hj : joinL xl c = if 3 ≤ xl.length then ([], 0, 5) else (xl ++ [c], (xl.length : Int), 0) := by
      unfold joinL
      rw [if_neg (by rw [hc]; simp), if_neg (by rw [← hhas]; simp)]
    rw [hj] at KJ
    clear hhas hj KC hc
    by_cases h3 : 3 ≤ xl.length
    · rw [if_pos h3]
      rw [if_pos h3] at KJ
      clear KR h3
      generalize vals L = V at *
      generalize xl.length = XN at *
      go_enter Try.func35, Try.ntmps35
      go_wp2_with (first
        | (go_at_call 54; refine KA.out.mono ?_; rintro e w2 ⟨rfl, hb2⟩; have HB2 := Lib.hid hb2; obtain ⟨y0, y1, y2, y3⟩ := HQ.out w2 hb2; clear hb2)
        | (go_at_call 55; refine (KJ.out _ HB2.out).mono ?_; rintro e w3 ⟨v3, rfl, ho3, hb3⟩))
      refine bodyPost_ret (by simp [results, Try.results35, go_sem] <;> rfl) rfl ?_
      exact GetsT.empty rfl (step HB2.out hb3)
    · rw [if_neg h3]
      rw [if_neg h3] at KJ
      clear h3
      generalize vals L = V at *
      obtain ⟨XN, hXN⟩ : ∃ XN, xl.length = XN := ⟨_, rfl⟩
      rw [hXN] at KA KJ q3 HQ ⊢
      have HXN : Hid ((xl ++ [c]).length = XN + 1) := Lib.hid (by simp [hXN])
      clear hXN
      go_enter Try.func35, Try.ntmps35
      go_wp2_with (first
        | (go_at_call 54; refine KA.out.mono ?_; rintro e w2 ⟨rfl, hb2⟩; have HB2 := Lib.hid hb2; obtain ⟨y0, y1, y2, y3⟩ := HQ.out w2 hb2; clear hb2)
        | (go_at_call 55; refine (KJ.out _ HB2.out).mono ?_; rintro e w3 ⟨v3, rfl, ho3, hb3⟩; dsimp only at ho3; rw [HXN.out] at ho3; have HO3 := Lib.hid ho3; obtain ⟨a3, c3, rfl⟩ := Rw.own_form HO3.out; have HB3 := Lib.hid (step HB2.out hb3); obtain ⟨z0, z1, z2, z3⟩ := HQ.out w3 HB3.out; clear ho3 hb3)
        | (go_at_call 39; refine (withLine_any xn xh xt _ _ _ _ _ _ _).mono ?_; rintro e w4 ⟨rfl, hb4⟩; have HO4 := Lib.hid (Rw.own_below HO3.out hb4); have HB4 := Lib.hid (step HB3.out hb4); clear hb4)
        | (go_at_call 37; refine (KR.out _ _ (⟨xn, xh, xt, xl ++ [c], a3, c3⟩ : LockC) (stepAlloc HB4.out _) (RdX.one (heap_alloc_new w4 _) (by unfold cellsK LockC.lv; dsimp only; rw [HXN.out])) (by unfold LockC.lv; dsimp only; rw [HXN.out]; exact ((NewI.own (by rw [HXN.out]; exact HO4.out)).lower HB2.out.size).later (newAlloc w4 _))).mono ?_; rintro e w5 ⟨v5, M5, rfl, hm5, ho5, hb5⟩))
      refine bodyPost_ret (by simp [results, Try.results35, go_sem] <;> rfl) rfl ?_
      exact ⟨v5, M5, rfl, hm5, ho5, step (stepAlloc HB4.out _) hb5⟩
end Cm
end Go.Proofs.Ytnkooajbenhjhaa

/- Contracts: package lock's Take, Free. -/
set_option linter.unusedVariables false
set_option linter.unusedSimpArgs false
namespace Go.Proofs.Ytnkooajbenhjhaa
open Go.RowKit Go.Shelf
namespace Cm

theorem good_small {L : List LockC} {t : Int} (h : Good (vals L) t) : L.length ≤ 4 ∧ ∀ x ∈ L, x.line.length ≤ 3 := by
  refine ⟨by have := h.len; rw [vals_length] at this; exact this, fun x hx => ?_⟩
  have h1 := h.rk.one x.val (List.mem_map.2 ⟨x, hx, rfl⟩)
  have h2 := ((oneK_iff _).1 h1).2.2.2.1
  exact ((rightL_iff _).1 h2).1

theorem idx_two (l : List LockV) (n : List UInt8) : idxI (isNm n) l = -1 ∨ ∃ k : Nat, ∃ hk : k < l.length, idxI (isNm n) l = (k : Int) := by
  by_cases h : idxI (isNm n) l < 0
  · have := idxI_ge (isNm n) l
    exact .inl (by omega)
  · obtain ⟨k, hk, e, _⟩ := idx_some n l h
    exact .inr ⟨k, hk, e⟩

theorem getK_at (L : List LockC) (k : Nat) (hk : k < L.length) : getK (vals L) (k : Int) = L[k].val := by
  unfold getK
  rw [Int.toNat_natCast, List.getD_eq_getElem?_getD, List.getElem?_eq_getElem (by rw [vals_length]; exact hk), Option.getD_some, vals_get L k hk]

theorem take_hit (L : List LockC) (n : List UInt8) (c t : Int) (wt : Bool) (k : Nat) (hk : k < L.length) (hi : idxI (isNm n) (vals L) = (k : Int)) :
    takeK (vals L) n c t wt = if L[k].holder = c then ([], 0, 7) else if wt = false then ([], 0, 8) else awaitK (vals L) k L[k].val c := by
  unfold takeK awaitK
  rw [hi, if_neg (by omega), getK_at L k hk, Int.toNat_natCast]
  rfl

set_option maxHeartbeats 4000000 in
theorem LckTake_any (v : Value) (L : List LockC) (n : List UInt8) (c t : Int) (wt : Bool) (w : World) (h : RdK w v L) (hg : Good (vals L) t) (hn : nameF n = true) (hc : clientF c = true) (ht : t < 1000000) :
    Calls Try.prog 11 #[v, .string (bstr n), .int .i64 c, .int .i64 t, .bool wt] w (GetsT (takeK (vals L) n c t wt) w) := by
  obtain ⟨s1, s2⟩ := good_small hg
  have h5 : L.length ≤ 1000 := by omega
  have h6 : ∀ x ∈ L, x.line.length ≤ 1000 := fun x hx => by have := s2 x hx; omega
  have hp := hg.pos
  have hm := h.len
  have hw1 : IntKind.i64.wrap (t + 1) = t + 1 := by rw [IntKind.wrap_i64]; omega
  have KI := Lib.hid (indexOfK_any v L n w h.row)
  rcases idx_two (vals L) n with hi | ⟨k, hk, hi⟩
  · have KA : Hid (∀ w', Below w.heap.size w w' → Calls Try.prog 34 #[v, .agg #[.string (bstr n), .int .i64 c, .int .i64 (t + 1), .slice none 0 0]] w' (GetsB (if 4 ≤ L.length then ([], 5) else (putK ⟨n, c, t + 1, []⟩ (vals L), 0)) w')) := Lib.hid fun w' hb => add_any v L n c (t + 1) w' (h.later hb) h5 h6 hi
    have e : takeK (vals L) n c t wt = ((if 4 ≤ L.length then ([], (5 : Int)) else (putK ⟨n, c, t + 1, []⟩ (vals L), 0)).1, 0, (if 4 ≤ L.length then ([], (5 : Int)) else (putK ⟨n, c, t + 1, []⟩ (vals L), 0)).2) := by
      unfold takeK
      rw [hi, if_pos (by omega), vals_length]
      split <;> rfl
    rw [e]
    rw [hi] at KI
    clear e hi
    obtain ⟨a, cap, rfl⟩ := h.form
    clear h h6 s2 hg
    generalize (if 4 ≤ L.length then (([] : List LockV), (5 : Int)) else (putK ⟨n, c, t + 1, []⟩ (vals L), 0)) = R at KA ⊢
    obtain ⟨R1, R2⟩ := R
    unfold GetsB at KA
    dsimp only at KA ⊢
    generalize L.length = N at *
    go_enter Try.func11, Try.ntmps11
    go_wp2_with (first
      | (go_at_call 33; refine KI.out.mono ?_; rintro e w2 ⟨rfl, hb2⟩; have HB2 := Lib.hid hb2; clear hb2)
      | (go_at_call 34; refine (KA.out _ HB2.out).mono ?_; rintro e w3 ⟨v3, M3, rfl, hm3, ho3, hb3⟩))
    refine bodyPost_ret (by simp [results, Try.results11, go_sem] <;> rfl) rfl ?_
    exact ⟨v3, M3, rfl, hm3, ho3.lower HB2.out.size, step HB2.out hb3⟩
  · have hk' : k < L.length := by rw [vals_length] at hk; exact hk
    rw [take_hit L n c t wt k hk' hi]
    rw [hi] at KI
    have KW : Hid (∀ w', Below w.heap.size w w' → Calls Try.prog 35 #[v, .int .i64 (k : Int), .int .i64 c] w' (GetsT (awaitK (vals L) k L[k].val c) w')) := Lib.hid fun w' hb => await_any v L k c w' (h.later hb) hk' h5 h6 hc
    obtain ⟨a, cap, rfl⟩ := h.form
    obtain ⟨b, o, rfl, hcell⟩ := rdk_at h.row k hk'
    have HQ := Lib.hid hcell
    clear h h6 s2 hg hcell hi hk
    generalize awaitK (vals L) k L[k].val c = R at KW ⊢
    generalize L[k] = x at HQ ⊢
    obtain ⟨xn, xh, xt, xl, xa, xc⟩ := x
    unfold LockC.lv at HQ
    dsimp only at HQ ⊢
    generalize L.length = N at *
    have f1 : (0 : Int) ≤ (k : Int) := by omega
    have f2 : (k : Int) < (N : Int) := by omega
    have f3 : decide ((k : Int) < 0) = false := by simp
    by_cases e1 : xh = c
    · rw [if_pos e1]
      have d1 : (xh == c) = true := by simpa using e1
      clear e1 KW
      go_enter Try.func11, Try.ntmps11
      go_wp2_with (go_at_call 33; refine KI.out.mono ?_; rintro e w2 ⟨rfl, hb2⟩; have HB2 := Lib.hid hb2; obtain ⟨y0, y1, y2, y3⟩ := HQ.out w2 hb2; clear hb2)
      refine bodyPost_ret (by simp [results, Try.results11, go_sem] <;> rfl) rfl ?_
      exact GetsT.empty rfl HB2.out
    rw [if_neg e1]
    have d1 : (xh == c) = false := by simpa using e1
    clear e1
    cases wt with
    | false =>
      rw [if_pos rfl]
      clear KW
      go_enter Try.func11, Try.ntmps11
      go_wp2_with (go_at_call 33; refine KI.out.mono ?_; rintro e w2 ⟨rfl, hb2⟩; have HB2 := Lib.hid hb2; obtain ⟨y0, y1, y2, y3⟩ := HQ.out w2 hb2; clear hb2)
      refine bodyPost_ret (by simp [results, Try.results11, go_sem] <;> rfl) rfl ?_
      exact GetsT.empty rfl HB2.out
    | true =>
      rw [if_neg (by simp)]
      go_enter Try.func11, Try.ntmps11
      go_wp2_with (first
        | (go_at_call 33; refine KI.out.mono ?_; rintro e w2 ⟨rfl, hb2⟩; have HB2 := Lib.hid hb2; obtain ⟨y0, y1, y2, y3⟩ := HQ.out w2 hb2; clear hb2)
        | (go_at_call 35; refine (KW.out _ HB2.out).mono ?_; rintro e w3 ⟨v3, M3, rfl, hm3, ho3, hb3⟩))
      refine bodyPost_ret (by simp [results, Try.results11, go_sem] <;> rfl) rfl ?_
      exact ⟨v3, M3, rfl, hm3, ho3.lower HB2.out.size, step HB2.out hb3⟩
end Cm
end Go.Proofs.Ytnkooajbenhjhaa

/- Contracts: package lock's Free. -/
set_option linter.unusedVariables false
set_option linter.unusedSimpArgs false
namespace Go.Proofs.Ytnkooajbenhjhaa
open Go.RowKit Go.Shelf
namespace Cm

theorem free_hit (L : List LockC) (n : List UInt8) (c t : Int) (k : Nat) (hk : k < L.length) (hi : idxI (isNm n) (vals L) = (k : Int)) :
    freeK (vals L) n c t = if L[k].holder = c then ((vals L).take k ++ ((passL L[k].val t).1 ++ (vals L).drop (k + 1)), (passL L[k].val t).2, 0) else
      if hasL L[k].line c = false then ([], 0, 6) else ((vals L).set k ⟨L[k].name, L[k].holder, L[k].token, withoutL L[k].line [c]⟩, 0, 0) := by
  unfold freeK
  rw [hi, if_neg (by omega), getK_at L k hk, Int.toNat_natCast, aheadL_has]
  show (if L[k].holder ≠ c then (if hasL L[k].line c = false then ([], 0, 6) else ((vals L).set k ⟨L[k].name, L[k].holder, L[k].token, withoutL L[k].line [c]⟩, 0, 0)) else if L[k].line = [] then _ else _) = _
  by_cases e : L[k].holder = c
  · rw [if_neg (by simpa using e), if_pos e]
    unfold passL
    by_cases e2 : L[k].line = []
    · rw [if_pos e2, if_pos (show L[k].val.line = [] from e2)]
      rfl
    · rw [if_neg e2, if_neg (show ¬ L[k].val.line = [] from e2)]
      simp only
      rw [set_split _ _ (by rw [vals_length]; exact hk)]
  · rw [if_pos e, if_neg e]

set_option maxHeartbeats 4000000 in
theorem LckFree_any (v : Value) (L : List LockC) (n : List UInt8) (c t : Int) (w : World) (h : RdK w v L) (hg : Good (vals L) t) (hn : nameF n = true) (hc : clientF c = true) (ht : t < 1000000) :
    Calls Try.prog 14 #[v, .string (bstr n), .int .i64 c, .int .i64 t] w (GetsT (freeK (vals L) n c t) w) := by
  obtain ⟨s1, s2⟩ := good_small hg
  have h5 : L.length ≤ 1000 := by omega
  have h6 : ∀ x ∈ L, x.line.length ≤ 1000 := fun x hx => by have := s2 x hx; omega
  have hp := hg.pos
  have hm := h.len
  have KI := Lib.hid (indexOfK_any v L n w h.row)
  rcases idx_two (vals L) n with hi | ⟨k, hk, hi⟩
  · have e : freeK (vals L) n c t = ([], 0, 6) := by unfold freeK; rw [hi, if_pos (by omega)]
    rw [e]
    rw [hi] at KI
    clear e hi
    obtain ⟨a, cap, rfl⟩ := h.form
    clear h h6 s2 hg
    generalize L.length = N at *
    go_enter Try.func14, Try.ntmps14
    go_wp2_with (go_at_call 33; refine KI.out.mono ?_; rintro e w2 ⟨rfl, hb2⟩)
    refine bodyPost_ret (by simp [results, Try.results14, go_sem] <;> rfl) rfl ?_
    exact GetsT.empty rfl hb2
  · have hk' : k < L.length := by rw [vals_length] at hk; exact hk
    rw [free_hit L n c t k hk' hi]
    rw [hi] at KI
    have hxl : RdI w L[k].lv L[k].line := h.line _ (List.getElem_mem hk')
    have hxn := h6 _ (List.getElem_mem hk')
    have KR : Hid (∀ (w' : World) (u : Value) (Y : List LockC), Below w.heap.size w w' → RdX 4 cellsK w' u Y → (∀ y ∈ Y, NewI w.heap.size w' y.lv y.line) → Y.length ≤ 1000 → Calls Try.prog 37 #[v, .int .i64 (k : Int), u] w' (MadeT w.heap.size ((vals L).take k ++ (vals Y ++ (vals L).drop (k + 1))) w')) := Lib.hid fun w' u Y hb hu hy hl => replaced_any w.heap.size v u L Y k w' hk' (h.later hb) h5 h6 hu hl hy hb.size
    have KP : Hid (∀ w', Below w.heap.size w w' → Calls Try.prog 36 #[lockVal L[k], .int .i64 t] w' (Passed (passL L[k].val t) w')) := Lib.hid fun w' hb => pass_any L[k] t w' (hxl.later hb) hxn ⟨hp, by omega⟩
    have KL : Hid (∀ w', Below w.heap.size w w' → Calls Try.prog 38 #[L[k].lv, .int .i64 c] w' (GetsL (leaveL L[k].line c) w')) := Lib.hid fun w' hb => LineLeave_any _ _ c w' (hxl.later hb) hxn
    have hpl : ∀ Y : List LockC, vals Y = (passL L[k].val t).1 → Y.length ≤ 1000 := fun Y hY => by
      rw [← vals_length Y, hY]
      unfold passL
      split <;> simp
    have HPL := Lib.hid hpl
    obtain ⟨a, cap, rfl⟩ := h.form
    obtain ⟨b, o, rfl, hcell⟩ := rdk_at h.row k hk'
    have HQ := Lib.hid hcell
    have HSP := Lib.hid (set_split (vals L) k hk)
    clear h h6 s2 hg hcell hi hk hxl hpl
    generalize passL L[k].val t = R at KP HPL ⊢
    obtain ⟨R1, R2⟩ := R
    unfold leaveL GetsL at KL
    unfold Passed at KP
    unfold lockVal at KP
    generalize L[k] = x at HQ KP KL hxn ⊢
    obtain ⟨xn, xh, xt, xl, xa, xc⟩ := x
    unfold LockC.lv at HQ KP KL
    dsimp only at HQ KP KL hxn HPL ⊢
    generalize vals L = V at *
    generalize L.length = N at *
    have f1 : (0 : Int) ≤ (k : Int) := by omega
    have f2 : (k : Int) < (N : Int) := by omega
    have f3 : decide ((k : Int) < 0) = false := by simp
    by_cases e1 : xh = c
    · rw [if_pos e1]
      have d1 : (xh == c) = true := by simpa using e1
      clear e1 KL HSP
      generalize xl.length = XN at *
      go_enter Try.func14, Try.ntmps14
      go_wp2_with (first
        | (go_at_call 33; refine KI.out.mono ?_; rintro e w2 ⟨rfl, hb2⟩; have HB2 := Lib.hid hb2; obtain ⟨y0, y1, y2, y3⟩ := HQ.out w2 hb2; clear hb2)
        | (go_at_call 36; refine (KP.out _ HB2.out).mono ?_; rintro e w3 ⟨u3, n3, c3, Y3, rfl, hv3, hr3, hl3, hb3⟩; have HR3 := Lib.hid hr3; have HL3 := Lib.hid (fun y hy => (hl3 y hy).lower HB2.out.size); have HV3 := Lib.hid hv3; have HB3 := Lib.hid (step HB2.out hb3); clear hr3 hl3 hv3 hb3)
        | (go_at_call 37; refine (KR.out _ _ Y3 HB3.out HR3.out HL3.out (HPL.out _ HV3.out)).mono ?_; rintro e w5 ⟨v5, M5, rfl, hm5, ho5, hb5⟩))
      refine bodyPost_ret (by simp [results, Try.results14, go_sem] <;> rfl) rfl ?_
      rw [HV3.out] at hm5
      exact ⟨v5, M5, rfl, hm5, ho5, step HB3.out hb5⟩
    rw [if_neg e1]
    have d1 : (xh == c) = false := by simpa using e1
    clear e1 KP HPL
    cases hh : hasL xl c with
    | false =>
      rw [if_pos rfl]
      rw [hh] at KL
      clear KR HSP hh
      generalize xl.length = XN at *
      go_enter Try.func14, Try.ntmps14
      go_wp2_with (first
        | (go_at_call 33; refine KI.out.mono ?_; rintro e w2 ⟨rfl, hb2⟩; have HB2 := Lib.hid hb2; obtain ⟨y0, y1, y2, y3⟩ := HQ.out w2 hb2; clear hb2)
        | (go_at_call 38; refine (KL.out _ HB2.out).mono ?_; rintro e w3 ⟨v3, rfl, ho3, hb3⟩; have HB3 := Lib.hid (step HB2.out hb3); clear hb3))
      refine bodyPost_ret (by simp [results, Try.results14, go_sem] <;> rfl) rfl ?_
      exact GetsT.empty rfl HB3.out
    | true =>
      rw [if_neg (by simp)]
      rw [hh] at KL
      clear hh
      generalize withoutL xl [c] = WL at *
      generalize xl.length = XN at *
      go_enter Try.func14, Try.ntmps14
      go_wp2_with (first
        | (go_at_call 33; refine KI.out.mono ?_; rintro e w2 ⟨rfl, hb2⟩; have HB2 := Lib.hid hb2; obtain ⟨y0, y1, y2, y3⟩ := HQ.out w2 hb2; clear hb2)
        | (go_at_call 38; refine (KL.out _ HB2.out).mono ?_; rintro e w3 ⟨v3, rfl, ho3, hb3⟩; have HO3 := Lib.hid ho3; obtain ⟨a3, c3, rfl⟩ := Rw.own_form HO3.out; have HB3 := Lib.hid (step HB2.out hb3); obtain ⟨z0, z1, z2, z3⟩ := HQ.out w3 HB3.out; clear ho3 hb3)
        | (go_at_call 39; refine (withLine_any xn xh xt _ _ _ _ _ _ _).mono ?_; rintro e w4 ⟨rfl, hb4⟩; have HO4 := Lib.hid (Rw.own_below HO3.out hb4); have HB4 := Lib.hid (step HB3.out hb4); clear hb4)
        | (go_at_call 37; refine (KR.out _ _ [(⟨xn, xh, xt, WL, a3, c3⟩ : LockC)] (stepAlloc HB4.out _) (RdX.one (heap_alloc_new w4 _) rfl) (fun y hy => by rw [List.mem_singleton] at hy; subst hy; exact ((NewI.own HO4.out).lower HB2.out.size).later (newAlloc w4 _)) (by simp)).mono ?_; rintro e w5 ⟨v5, M5, rfl, hm5, ho5, hb5⟩))
      refine bodyPost_ret (by simp [results, Try.results14, go_sem] <;> rfl) rfl ?_
      exact ⟨v5, M5, rfl, hm5.trans (HSP.out _), ho5, step (stepAlloc HB4.out _) hb5⟩
end Cm
end Go.Proofs.Ytnkooajbenhjhaa

/- Contracts: package lock's Find, Held. -/
set_option linter.unusedVariables false
set_option linter.unusedSimpArgs false
namespace Go.Proofs.Ytnkooajbenhjhaa
open Go.RowKit Go.Shelf
namespace Cm

set_option maxHeartbeats 4000000 in
theorem LckFind_any (v : Value) (L : List LockC) (n : List UInt8) (w : World) (t : Int) (h : RdK w v L) (hg : Good (vals L) t) (hn : nameF n = true) : Calls Try.prog 20 #[v, .string (bstr n)] w (GetsF (findK (vals L) n) w) := by
  obtain ⟨s1, s2⟩ := good_small hg
  have hm := h.len
  have hB := newAlloc w (.cells #[.string ⟨#[]⟩, .int .i64 0, .int .i64 0, .slice none 0 0] 39)
  obtain ⟨c0, c1, c2, c3⟩ := box4 (Below.refl _ (w.alloc (.cells #[.string ⟨#[]⟩, .int .i64 0, .int .i64 0, .slice none 0 0] 39)))
  have cf := free4k (Below.refl _ (w.alloc (.cells #[.string ⟨#[]⟩, .int .i64 0, .int .i64 0, .slice none 0 0] 39)))
  obtain ⟨W1, hW1⟩ : ∃ W1, W1 = w.alloc (.cells #[.string ⟨#[]⟩, .int .i64 0, .int .i64 0, .slice none 0 0] 39) := ⟨_, rfl⟩
  have hs1 : W1.heap.size = w.heap.size + 1 := by rw [hW1]; simp
  have HS1 := Lib.hid hs1
  rw [← hW1] at hB c0 c1 c2 c3 cf
  clear hs1
  have HB := Lib.hid hB
  have KI := Lib.hid (indexOfK_any v L n W1 (h.row.later hB))
  have HD : Hid (∀ w', Below W1.heap.size W1 w' → (w'.cell? ⟨w.heap.size, 0, none⟩ = some (.string ⟨#[]⟩) ∧ w'.cell? ⟨w.heap.size, 1, none⟩ = some (.int .i64 0) ∧ w'.cell? ⟨w.heap.size, 2, none⟩ = some (.int .i64 0) ∧ w'.cell? ⟨w.heap.size, 3, none⟩ = some (.slice none 0 0)) ∧ ∀ k, w'.frozen? ⟨w.heap.size, k, none⟩ = false) := Lib.hid fun w' hb => ⟨⟨(hb.cell (lt_of_cell c0)).trans c0, (hb.cell (lt_of_cell c1)).trans c1, (hb.cell (lt_of_cell c2)).trans c2, (hb.cell (lt_of_cell c3)).trans c3⟩, fun k => (hb.frozen (p := ⟨w.heap.size, k, none⟩) (show w.heap.size < _ from lt_of_cell c0)).trans (cf k)⟩
  unfold findK
  rcases idx_two (vals L) n with hi | ⟨k, hk, hi⟩
  · rw [hi, if_pos (by omega)]
    rw [hi] at KI
    obtain ⟨a, cap, rfl⟩ := h.form
    clear h s2 hg c0 c1 c2 c3 cf hB hi
    generalize L.length = N at *
    go_enter Try.func20, Try.ntmps20
    go_upto_region 1 with fail
    rw [← hW1]
    clear hW1
    go_wp2_with (go_at_call 33; refine KI.out.mono ?_; rintro e w2 ⟨rfl, hb2⟩; obtain ⟨⟨y0, y1, y2, y3⟩, yf⟩ := HD.out _ hb2; have HB2 := Lib.hid (step HB.out hb2); clear hb2)
    refine bodyPost_ret (by simp [results, Try.results20, go_sem, y0, y1, y2, y3, yf] <;> rfl) rfl ?_
    exact ⟨⟨[], 0, 0, [], none, 0⟩, rfl, rfl, RdX.nil _, set4k HB2.out _ (Nat.le_refl _) _ _ _ _⟩
  · have hk' : k < L.length := by rw [vals_length] at hk; exact hk
    rw [hi, if_neg (by omega), getK_at L k hk']
    rw [hi] at KI
    have KC : Hid (∀ w', Below w.heap.size w w' → Calls Try.prog 42 #[lockVal L[k]] w' (IsCopy L[k] w')) := Lib.hid fun w' hb => copyOf_any _ w' ((h.line _ (List.getElem_mem hk')).later hb) (by have := s2 _ (List.getElem_mem hk'); omega)
    obtain ⟨a, cap, rfl⟩ := h.form
    obtain ⟨b, o, rfl, hcell⟩ := rdk_at h.row k hk'
    have HQ := Lib.hid hcell
    clear h s2 hg c0 c1 c2 c3 cf hB hi hcell
    generalize L[k] = x at *
    obtain ⟨xn, xh, xt, xl, xa, xc⟩ := x
    unfold lockVal LockC.lv IsCopy at KC
    unfold LockC.lv at HQ
    dsimp only at HQ KC
    generalize L.length = N at *
    have f1 : (0 : Int) ≤ (k : Int) := by omega
    have f2 : (k : Int) < (N : Int) := by omega
    have f3 : decide ((k : Int) < 0) = false := by simp
    go_enter Try.func20, Try.ntmps20
    go_upto_region 1 with fail
    rw [← hW1]
    clear hW1
    go_wp2_with (first
      | (go_at_call 33; refine KI.out.mono ?_; rintro e w2 ⟨rfl, hb2⟩; have HB2 := Lib.hid hb2; have HB20 := Lib.hid (step HB.out hb2); obtain ⟨z0, z1, z2, z3⟩ := HQ.out w2 HB20.out; clear hb2)
      | (go_at_call 42; refine (KC.out _ HB20.out).mono ?_; rintro e w3 ⟨a3, c3, rfl, ho3, hb3⟩; have HO3 := Lib.hid ho3; have HB3 := Lib.hid (step HB20.out hb3); obtain ⟨⟨y0, y1, y2, y3⟩, yf⟩ := HD.out _ (step HB2.out hb3); clear hb3 ho3))
    refine bodyPost_ret (by simp [results, Try.results20, go_sem, y0, y1, y2, y3, yf] <;> rfl) rfl ?_
    have hlt : w.heap.size < w2.heap.size := by have := HB2.out.size; rw [HS1.out] at this; omega
    exact ⟨⟨xn, xh, xt, xl, a3, c3⟩, rfl, rfl, RdX.own cellsI_length (ownsRow_setCell_below (ownsRow_setCell_below (ownsRow_setCell_below (ownsRow_setCell_below HO3.out hlt _) hlt _) hlt _) hlt _), set4k HB3.out _ (Nat.le_refl _) _ _ _ _⟩

set_option maxHeartbeats 4000000 in
theorem LckHeld_any (v : Value) (L : List LockC) (c : Int) (w : World) (t : Int) (h : RdK w v L) (hg : Good (vals L) t) (hc : clientF c = true) : Calls Try.prog 24 #[v, .int .i64 c] w (GetsH (heldK (vals L) c) w) := by
  have h5 : L.length ≤ 1000 := by have := (good_small hg).1; omega
  have hm := h.len
  obtain ⟨a, cap, rfl⟩ := h.form
  have HA := Lib.hid (fun i hi => rdk_at h.row i hi)
  obtain ⟨N, hN⟩ : ∃ N, L.length = N := ⟨_, rfl⟩
  have HD : Hid (∀ j (hj : j < L.length), heldK ((vals L).take (j + 1)) c = heldK ((vals L).take j) c ++ if L[j].holder = c then [⟨L[j].name, L[j].token⟩] else []) := Lib.hid fun j hj => by
    have := heldK_drop (vals L) c j (by rw [vals_length]; exact hj)
    rw [vals_get L j hj] at this
    exact this
  have HLE : Hid (∀ j, j ≤ N → (heldK ((vals L).take j) c).length ≤ 1000) := Lib.hid fun j hj => by
    have := heldK_length ((vals L).take j) c
    rw [List.length_take, vals_length] at this
    omega
  have HALL : Hid (heldK ((vals L).take N) c = heldK (vals L) c) := Lib.hid (by rw [List.take_of_length_le (by rw [vals_length]; omega)])
  rw [hN] at hm h5 ⊢
  clear h hg hc
  obtain ⟨i0, hi, hz0, hz1, hz2⟩ := info_parts infoG8
  go_enter Try.func24, Try.ntmps24
  go_wp2
  go_loopw [5, 10] (fun m i wr => ∃ (k : Nat) (M : List GrantV), k ≤ N ∧ i = .int .i64 k ∧ M.length ≤ 1000 ∧ Hid (M = heldK ((vals L).take k) c) ∧ Hid (wr.ownsRow w.heap.size 74 2 m M.length (flatX cellsG M)) ∧ Hid (Below w.heap.size w wr)) (fun _ i _ => N - (intOf i).toNat)
  case atStart => exact ⟨0, [], by omega, rfl, by simp, Lib.hid rfl, Lib.hid (World.ownsRow_nil _ _ _ _), Lib.hid (Below.refl _ _)⟩
  case round =>
    obtain ⟨k, M, hk, rfl, hMl, HM, HO, HB⟩ := hrel
    by_cases hlt : k < N
    · have hkl : k < L.length := by omega
      obtain ⟨b, o, rfl, hc⟩ := HA.out k hkl
      obtain ⟨q0, q1, q2, q3⟩ := hc _ HB.out
      have hd := HD.out k hkl
      have hle := HLE.out (k + 1) (by omega)
      clear hc HA HD HLE
      generalize L[k] = x at q0 q1 q2 q3 hd
      obtain ⟨xn, xh, xt, xl, xa, xc⟩ := x
      unfold LockC.lv at q3
      dsimp only at q0 q1 q2 q3 hd
      have f1 : (0 : Int) ≤ (k : Int) := by omega
      have f2 : (k : Int) < (N : Int) := by omega
      obtain ⟨W1, hW1⟩ : ∃ W1, W1 = wr.alloc (.cells #[.string (bstr xn), .int .i64 xh, .int .i64 xt, .slice xa xl.length xc] 39) := ⟨_, rfl⟩
      have HB1 : Hid (Below w.heap.size w W1) := Lib.hid (by rw [hW1]; exact step HB.out (newAlloc _ _))
      have HO1 : Hid (W1.ownsRow w.heap.size 74 2 u5 M.length (flatX cellsG M)) := Lib.hid (by rw [hW1]; exact Rw.own_alloc HO.out _)
      obtain ⟨z0, z1, z2, z3⟩ := box4 (Below.refl _ (wr.alloc (.cells #[.string (bstr xn), .int .i64 xh, .int .i64 xt, .slice xa xl.length xc] 39)))
      rw [← hW1] at z0 z1 z2 z3
      have HWW := Lib.hid hW1
      clear hW1
      generalize xl.length = XN at *
      by_cases e1 : xh = c
      · have d1 : (xh == c) = true := by simpa using e1
        rw [if_pos e1, ← HM.out] at hd
        rw [hd, List.length_append, List.length_singleton] at hle
        have H := Lib.hid hd
        have HLE := Lib.hid hle
        have hle2 := hle
        clear hd e1 hle
        go_upto_region 5 with fail
        rw [← HWW.out]
        clear HWW q0 q1 q2 q3
        go_wp2_with (at_builtin; refine wpList_append_one cellsG_length (by omega) rfl (.tmp 18) (.tmp 24) 45 rfl 74 i0 _ 24 Try.underlying45 hi hz0 hz1 hz2 rfl #[.string (bstr xn), .int .i64 xt] ⟨xn, xt⟩ rfl (cellsG_one _) M w.heap.size w.heap.size w _ rfl rfl HO1.out (by unfold maxLen; omega) (by omega) HB1.out.size HB1.out (Nat.le_refl _) ?_; intro v5 w5 ho5 hb5 _; have HO5 := Lib.hid ho5; have HB5 := Lib.hid hb5; clear ho5 hb5)
        go_roundw
        case rel => exact ⟨k + 1, M ++ [⟨xn, xt⟩], by omega, by go_num, by simpa using HLE.out, Lib.hid H.out.symm, HO5, HB5⟩
        case measure => simp [intOf]; omega
      · have d1 : (xh == c) = false := by simpa using e1
        rw [if_neg e1, List.append_nil, ← HM.out] at hd
        have H := Lib.hid hd
        clear hd e1 hle
        go_upto_region 5 with fail
        rw [← HWW.out]
        clear HWW q0 q1 q2 q3
        go_wp2
        go_roundw
        case rel => exact ⟨k + 1, M, by omega, by go_num, hMl, Lib.hid H.out.symm, HO1, HB1⟩
        case measure => simp [intOf]; omega
    · obtain rfl : k = N := by omega
      have hM := HM.out
      rw [HALL.out] at hM
      have H := Lib.hid hM
      clear hM
      obtain ⟨ua, uc, rfl⟩ := Rw.own_form HO.out
      have HRR := Lib.hid (RdH.of (RdX.own cellsG_length HO.out))
      clear HM
      go_wp2
      go_ret
      rw [← H.out]
      exact ⟨_, _, rfl, HRR.out, HB.out⟩
end Cm
end Go.Proofs.Ytnkooajbenhjhaa

/- Contracts: package lock's Drop. -/
set_option linter.unusedVariables false
set_option linter.unusedSimpArgs false
namespace Go.Proofs.Ytnkooajbenhjhaa
open Go.RowKit Go.Shelf
namespace Cm

theorem drop_step (G : List Int) (l : List LockV) (t : Int) (j : Nat) (h : j < l.length) : dropK G (l.take (j + 1)) t =
    if hasL G l[j].holder = false then ((dropK G (l.take j) t).1 ++ [leftK G l[j]], (dropK G (l.take j) t).2) else
      ((dropK G (l.take j) t).1 ++ (passL (leftK G l[j]) (t + (dropK G (l.take j) t).2)).1, (dropK G (l.take j) t).2 + (passL (leftK G l[j]) (t + (dropK G (l.take j) t).2)).2) := by
  rw [List.take_succ_eq_append_getElem h, dropK_snoc]
  unfold passL
  split
  · rfl
  · split
    · simp
    · rfl

theorem NewI.other {base b1 s n : Nat} {w w' : World} {u v : Value} {l : List Int} {xs : List Value} (h : NewI base w u l) (hr : w.ownsRow b1 39 s v n xs) (hg : w.grownBy w' v.ownBlock) : NewI base w' u l := by
  refine h.keep fun g' hg' => ?_
  obtain ⟨h1, cs, h2⟩ := h.2 g' hg'
  refine hg.block g' (Array.getElem?_eq_some_iff.1 h2).1 fun q => ?_
  rcases hr.2 with ⟨rfl, _⟩ | ⟨g1, cap1, cur, rfl, _, q2, _⟩
  · cases q
  · have e : g' = g1 := by simpa [Value.ownBlock] using q
    subst e
    rw [h2] at q2
    injection q2 with q2
    injection q2 with _ q2
    exact absurd q2 (by decide)

theorem OwnN.push {base : Nat} {w3 w6 : World} {m v' : Value} {M Y : List LockC} (h : OwnN base w3 m M) (hY : ∀ y ∈ Y, NewI base w3 y.lv y.line) (hg : w3.grownBy w6 m.ownBlock)
    (ho : w6.ownsRow base 39 4 v' (M.length + Y.length) (flatX cellsK M ++ flatX cellsK Y)) : OwnN base w6 v' (M ++ Y) := by
  refine ⟨by rw [List.length_append, flatX_append]; exact ho, fun x hx => ?_⟩
  rcases List.mem_append.1 hx with q | q
  · exact (h.line x q).other h.row hg
  · exact (hY x q).other h.row hg

set_option maxHeartbeats 8000000 in
theorem LckDrop_any (v u : Value) (L : List LockC) (G : List Int) (t : Int) (w : World) (h : RdK w v L) (hg : Good (vals L) t) (hG : RdI w u G) (h8 : G.length ≤ 1000) (ht : t < 1000000) :
    Calls Try.prog 16 #[v, u, .int .i64 t] w (GetsD (dropK G (vals L) t) w) := by
  obtain ⟨s1, s2⟩ := good_small hg
  have h5 : L.length ≤ 1000 := by omega
  have hp := hg.pos
  have hm := h.len
  obtain ⟨a, cap, rfl⟩ := h.form
  have HA := Lib.hid (fun i hi => rdk_at h.row i hi)
  have HW : Hid (∀ i (hi : i < L.length) (w' : World), Below w.heap.size w w' → Calls Try.prog 40 #[L[i].lv, u] w' (GetsN (withoutL L[i].line G) w')) := Lib.hid fun i hi w' hb => LineWithout_any _ _ _ _ w' ((h.line _ (List.getElem_mem hi)).later hb) (hG.later hb) (by have := s2 _ (List.getElem_mem hi); omega)
  have HWL : Hid (∀ i (hi : i < L.length), (withoutL L[i].line G).length ≤ 1000) := Lib.hid fun i hi => by
    have h1 := without_le L[i].line G
    have h2 := s2 _ (List.getElem_mem hi)
    omega
  have HG : Hid (∀ w', Below w.heap.size w w' → ∀ c, Calls Try.prog 41 #[u, .int .i64 c] w' (Says (hasL G c) w')) := Lib.hid fun w' hb c => Contains_num u G c w' (hG.later hb)
  have HV : Hid (∀ j (hj : j < L.length), dropK G ((vals L).take (j + 1)) t = if hasL G L[j].holder = false then ((dropK G ((vals L).take j) t).1 ++ [leftK G L[j].val], (dropK G ((vals L).take j) t).2) else
      ((dropK G ((vals L).take j) t).1 ++ (passL (leftK G L[j].val) (t + (dropK G ((vals L).take j) t).2)).1, (dropK G ((vals L).take j) t).2 + (passL (leftK G L[j].val) (t + (dropK G ((vals L).take j) t).2)).2)) := Lib.hid fun j hj => by
    have := drop_step G (vals L) t j (by rw [vals_length]; exact hj)
    rw [vals_get L j hj] at this
    exact this
  have HN : Hid (∀ j, 0 ≤ (dropK G ((vals L).take j) t).2 ∧ (dropK G ((vals L).take j) t).2 ≤ 4 ∧ (dropK G ((vals L).take j) t).1.length ≤ 4) := Lib.hid fun j => by
    have h1 := dropK_count G ((vals L).take j) t
    have h2 := dropK_length G ((vals L).take j) t
    have h3 : ((vals L).take j).length ≤ 4 := by rw [List.length_take, vals_length]; omega
    omega
  obtain ⟨ua, uc, rfl⟩ := hG.form
  clear h hg hG s2
  obtain ⟨N, hN⟩ : ∃ N, L.length = N := ⟨_, rfl⟩
  have HLL := Lib.hid hN
  rw [hN] at hm h5 s1 ⊢
  clear hN
  generalize G.length = NG at *
  obtain ⟨i1, hi', hz0', hz1', hz2'⟩ := info_parts infoK
  go_enter Try.func16, Try.ntmps16
  go_wp2
  go_loopw [8, 9, 16] (fun m gv i wr => ∃ (k : Nat) (M : List LockC) (gi : Int), k ≤ N ∧ i = .int .i64 k ∧ gv = .int .i64 gi ∧ Hid (gi = (dropK G ((vals L).take k) t).2) ∧ Hid (vals M = (dropK G ((vals L).take k) t).1) ∧ Hid (OwnN w.heap.size wr m M) ∧ Hid (Below w.heap.size w wr)) (fun _ _ i _ => N - (intOf i).toNat)
  case atStart => exact ⟨0, [], 0, by omega, rfl, rfl, Lib.hid rfl, Lib.hid rfl, Lib.hid (OwnN.nil _ _), Lib.hid (Below.refl _ _)⟩
  case round =>
    obtain ⟨k, M, gi, hk, rfl, rfl, hgi, HM, HO, HB⟩ := hrel
    by_cases hlt : k < N
    · have hkl : k < L.length := by rw [HLL.out]; exact hlt
      obtain ⟨b, o, rfl, hc⟩ := HA.out k hkl
      obtain ⟨q0, q1, q2, q3⟩ := hc _ HB.out
      have hw := HW.out k hkl
      have hwl := HWL.out k hkl
      have hv := HV.out k hkl
      obtain ⟨n1, n2, n3⟩ := HN.out k
      have hml : M.length ≤ 4 := by rw [← vals_length M, HM.out]; exact n3
      clear hc HA HW HV HN HWL n3
      generalize L[k] = x at q0 q1 q2 q3 hw hwl hv
      obtain ⟨xn, xh, xt, xl, xa, xc⟩ := x
      unfold LockC.lv at hw q3
      unfold LockC.val leftK at hv
      dsimp only at q0 q1 q2 q3 hw hwl hv
      rw [← hgi.out] at n1 n2 hv
      rw [← HM.out] at hv
      clear HM
      obtain ⟨WL, hWL⟩ : ∃ WL, withoutL xl G = WL := ⟨_, rfl⟩
      rw [hWL] at hw hwl hv
      clear hWL
      obtain ⟨WN, hWN⟩ : ∃ WN, WL.length = WN := ⟨_, rfl⟩
      unfold GetsN at hw
      rw [hWN] at hw hwl
      have HWN := Lib.hid hWN
      clear hWN
      have HW := Lib.hid hw
      have HV := Lib.hid hv
      clear hw hv
      obtain ⟨W1, hW1⟩ : ∃ W1, W1 = wr.alloc (.cells #[.string (bstr xn), .int .i64 xh, .int .i64 xt, .slice xa xl.length xc] 39) := ⟨_, rfl⟩
      have HB1 : Hid (Below wr.heap.size wr W1) := Lib.hid (by rw [hW1]; exact newAlloc _ _)
      have hs1 : W1.heap.size = wr.heap.size + 1 := by rw [hW1]; simp
      have HS1 := Lib.hid hs1
      obtain ⟨z0, z1, z2, z3⟩ := box4 (Below.refl _ (wr.alloc (.cells #[.string (bstr xn), .int .i64 xh, .int .i64 xt, .slice xa xl.length xc] 39)))
      have zf := free4k (Below.refl _ (wr.alloc (.cells #[.string (bstr xn), .int .i64 xh, .int .i64 xt, .slice xa xl.length xc] 39)))
      rw [← hW1] at z0 z1 z2 z3 zf
      have HQ : Hid (∀ w', Below W1.heap.size W1 w' → w'.cell? ⟨wr.heap.size, 0, none⟩ = some (.string (bstr xn)) ∧ w'.cell? ⟨wr.heap.size, 1, none⟩ = some (.int .i64 xh) ∧ w'.cell? ⟨wr.heap.size, 2, none⟩ = some (.int .i64 xt) ∧ w'.cell? ⟨wr.heap.size, 3, none⟩ = some (.slice xa xl.length xc)) := Lib.hid fun w' hb => ⟨(hb.cell (lt_of_cell z0)).trans z0, (hb.cell (lt_of_cell z1)).trans z1, (hb.cell (lt_of_cell z2)).trans z2, (hb.cell (lt_of_cell z3)).trans z3⟩
      have HF : Hid (∀ w', Below W1.heap.size W1 w' → ∀ k, w'.frozen? ⟨wr.heap.size, k, none⟩ = false) := Lib.hid fun w' hb k => (hb.frozen (p := ⟨wr.heap.size, k, none⟩) (show wr.heap.size < _ from lt_of_cell z0)).trans (zf k)
      have HWW := Lib.hid hW1
      clear hW1 hs1 zf
      generalize xl.length = XN at *
      go_upto_region 6 with fail
      rw [← HWW.out]
      clear HWW q0 q1 q2 q3
      go_region_with (first
        | (go_at_call 40; refine (HW.out _ ((step HB.out HB1.out).drew)).mono ?_; rintro e w6 ⟨v6, rfl, ho6, hb6⟩; have HO6 := Lib.hid ho6; obtain ⟨a6, c6, rfl⟩ := Rw.own_form HO6.out; have HB6 : Hid (Below W1.heap.size W1 w6) := Lib.hid (step (Below.refl _ _).drew hb6); obtain ⟨x0, x1, x2, x3⟩ := HQ.out _ HB6.out; clear ho6 hb6)
        | (go_at_call 39; refine (withLine_any xn xh xt _ _ _ _ _ _ _).mono ?_; rintro e w7 ⟨rfl, hb7⟩; have HO7 := Lib.hid (Rw.own_below HO6.out hb7); have HB7 : Hid (Below W1.heap.size W1 w7) := Lib.hid (step HB6.out hb7); obtain ⟨y0, y1, y2, y3⟩ := HQ.out _ HB7.out; have yf := HF.out _ HB7.out; clear hb7))
      all_goals
        obtain ⟨W8, hW8⟩ : ∃ W8, W8 = ((((w7.setCell ⟨wr.heap.size, 0, none⟩ (.string (bstr xn))).setCell ⟨wr.heap.size, 1, none⟩ (.int .i64 xh)).setCell ⟨wr.heap.size, 2, none⟩ (.int .i64 xt)).setCell ⟨wr.heap.size, 3, none⟩ (.slice a6 WN c6)) := ⟨_, rfl⟩
        have t0 : W8.cell? ⟨wr.heap.size, 0, none⟩ = some (.string (bstr xn)) := by rw [hW8]; simp [go_sem, y0, yf]
        have t1 : W8.cell? ⟨wr.heap.size, 1, none⟩ = some (.int .i64 xh) := by rw [hW8]; simp [go_sem, y1, yf]
        have t2 : W8.cell? ⟨wr.heap.size, 2, none⟩ = some (.int .i64 xt) := by rw [hW8]; simp [go_sem, y2, yf]
        have t3 : W8.cell? ⟨wr.heap.size, 3, none⟩ = some (.slice a6 WN c6) := by rw [hW8]; simp [go_sem, y3, yf]
        have HB8 : Hid (Below wr.heap.size wr W8) := Lib.hid (by rw [hW8]; exact set4k (step HB1.out HB7.out) _ (Nat.le_refl _) _ _ _ _)
        have hlt8 : wr.heap.size < W1.heap.size := by rw [HS1.out]; omega
        have HO8 : Hid (NewI w.heap.size W8 (.slice a6 WN c6) WL) := Lib.hid (by
          rw [hW8]
          exact (NewI.own (by rw [HWN.out]; exact ownsRow_setCell_below (ownsRow_setCell_below (ownsRow_setCell_below (ownsRow_setCell_below HO7.out hlt8 _) hlt8 _) hlt8 _) hlt8 _)).lower (Nat.le_trans HB.out.size HB1.out.size))
        have HM8 := Lib.hid (HO.out.later HB8.out)
        have HBW := Lib.hid (step HB.out HB8.out)
        rw [← hW8]
        clear hW8 y0 y1 y2 y3 yf HO7 HB7 HO6 HB6 HQ HF hlt8 z0 z1 z2 z3 HB1 HW HS1
        have KG := Lib.hid (HG.out W8 HBW.out xh)
        have KP : Hid (∀ t', 0 ≤ t' → t' ≤ 4611686018427387904 → Calls Try.prog 36 #[.agg #[.string (bstr xn), .int .i64 xh, .int .i64 xt, .slice a6 WN c6], .int .i64 t'] W8 (Passed (passL ⟨xn, xh, xt, WL⟩ t') W8)) := Lib.hid fun t' h0 h1 => by
          have := pass_any ⟨xn, xh, xt, WL, a6, c6⟩ t' W8 (by unfold LockC.lv; dsimp only; rw [HWN.out]; exact HO8.out.1) (by dsimp only; rw [HWN.out]; exact hwl) ⟨h0, h1⟩
          unfold lockVal LockC.lv at this
          dsimp only at this
          rw [HWN.out] at this
          exact this
        have hvv := HV.out
        cases hh : hasL G xh with
        | false =>
          rw [hh, if_pos rfl] at hvv
          rw [hh] at KG
          have HVV := Lib.hid hvv
          clear hvv HV hh KP HG
          have hbs := HBW.out.size
          go_wp2_with (first
            | (go_at_call 41; refine KG.out.mono ?_; rintro e w2 ⟨rfl, rfl⟩)
            | (at_builtin; refine wpList_append_one_gr cellsK_length (by omega) rfl (.tmp 31) (.tmp 33) 24 rfl 39 i1 _ 56 Try.underlying24 hi' hz0' hz1' hz2' rfl #[.string (bstr xn), .int .i64 xh, .int .i64 xt, .slice a6 WN c6] (⟨xn, xh, xt, WL, a6, c6⟩ : LockC) (by unfold cellsK LockC.lv; dsimp only; rw [HWN.out]) (cellsK_one _) M w.heap.size u8 rfl rfl HM8.out.row (by unfold maxLen; omega) (by omega) hbs ?_; intro v9 w9 ho9 hg9 _; have HO9 : Hid (OwnN w.heap.size w9 v9 (M ++ [⟨xn, xh, xt, WL, a6, c6⟩])) := Lib.hid ((HM8.out.later (newAlloc W8 _)).push (fun y hy => by rw [List.mem_singleton] at hy; subst hy; unfold LockC.lv; dsimp only; rw [HWN.out]; exact HO8.out.later (newAlloc W8 _)) hg9 (by rw [List.length_append, flatX_append] at ho9; exact ho9)); have HB9 : Hid (Below w.heap.size w w9) := Lib.hid ((stepAlloc HBW.out _).grown hg9 (by simp; omega) (fun g hg => (Rw.own_lt HM8.out.row g hg).1)); clear ho9 hg9))
          go_roundw
          case rel => exact ⟨k + 1, M ++ [⟨xn, xh, xt, WL, a6, c6⟩], gi, by omega, by go_num, rfl, Lib.hid (by rw [HVV.out]), Lib.hid (by rw [vals_append, HVV.out]; rfl), HO9, HB9⟩
          case measure => simp [intOf]; omega
        | true =>
          rw [hh, if_neg (by simp)] at hvv
          rw [hh] at KG
          have HVV := Lib.hid hvv
          clear hvv HV hh HG
          have hbs := HBW.out.size
          have KP := Lib.hid (KP.out (t + gi) (by omega) (by omega))
          have hR : (passL ⟨xn, xh, xt, WL⟩ (t + gi)).1.length ≤ 1 ∧ 0 ≤ (passL ⟨xn, xh, xt, WL⟩ (t + gi)).2 ∧ (passL ⟨xn, xh, xt, WL⟩ (t + gi)).2 ≤ 1 := by unfold passL; split <;> simp
          generalize passL ⟨xn, xh, xt, WL⟩ (t + gi) = R at KP HVV hR
          obtain ⟨R1, R2⟩ := R
          unfold Passed at KP
          dsimp only at KP HVV hR
          obtain ⟨r1, r2, r3⟩ := hR
          have wr1 : IntKind.i64.wrap (t + gi) = t + gi := by rw [IntKind.wrap_i64]; omega
          have wr2 : IntKind.i64.wrap (gi + R2) = gi + R2 := by rw [IntKind.wrap_i64]; omega
          go_wp2_with (first
            | (go_at_call 41; refine KG.out.mono ?_; rintro e w2 ⟨rfl, rfl⟩)
            | (go_at_call 36; refine KP.out.mono ?_; rintro e w9 ⟨u9, n9, c9, Y9, rfl, hv9, hr9, hl9, hb9⟩; have HM9 := Lib.hid (HM8.out.later hb9); have HR9 := Lib.hid hr9; have HL9 := Lib.hid (fun y hy => (hl9 y hy).lower hbs); have HV9 := Lib.hid hv9; have hy9 : Y9.length ≤ 1 := (by rw [← vals_length Y9, hv9]; exact r1); have HB9 := Lib.hid (step HBW.out hb9); clear hr9 hl9 hv9 hb9)
            | (at_builtin; refine wpList_append_rdx cellsK_length (by omega) cellsK_one rfl (.tmp 43) (.tmp 44) 24 rfl w.heap.size 39 i1 _ 56 Try.underlying24 hi' hz0' hz1' hz2' rfl u8 M.length (flatX cellsK M) rfl HM9.out.row _ Y9 rfl HR9.out (by unfold maxLen; omega) (by omega) HB9.out.size ?_; intro v10 w10 hown2 hgrow2; have HO10 : Hid (OwnN w.heap.size w10 v10 (M ++ Y9)) := Lib.hid (HM9.out.push HL9.out hgrow2 hown2); have HB10 : Hid (Below w.heap.size w w10) := Lib.hid (HB9.out.grown hgrow2 HB9.out.size (fun g hg => (Rw.own_lt HM9.out.row g hg).1)); clear hown2 hgrow2))
          go_roundw
          case rel => exact ⟨k + 1, M ++ Y9, gi + R2, by omega, by go_num, rfl, Lib.hid (by rw [HVV.out]), Lib.hid (by rw [vals_append, HVV.out, HV9.out]), HO10, HB10⟩
          case measure => simp [intOf]; omega
    · obtain rfl : k = N := by omega
      go_wp2
      refine bodyPost_ret (by simp [results, Try.results16, go_sem] <;> rfl) rfl ?_
      have ha : (vals L).take k = vals L := List.take_of_length_le (by rw [vals_length, HLL.out]; exact Nat.le_refl _)
      have hM := HM.out
      have hgj := hgi.out
      rw [ha] at hM hgj
      exact ⟨_, M, by rw [← hgj], hM, HO.out, HB.out⟩
end Cm
end Go.Proofs.Ytnkooajbenhjhaa

/- Contracts: package lock's isRight, Right. -/
set_option linter.unusedVariables false
set_option linter.unusedSimpArgs false
namespace Go.Proofs.Ytnkooajbenhjhaa
open Go.RowKit Go.Shelf
namespace Cm

theorem oneK_split (n : List UInt8) (h t : Int) (l : List Int) : oneK ⟨n, h, t, l⟩ = (nameF n && (decide (0 ≤ h) && (decide (h < 8) && (decide (1 ≤ t) && (decide (t ≤ 2305843009213693952) && (rightL l && !hasL l h)))))) := by
  unfold oneK clientF highF
  simp only [Bool.and_assoc]

set_option maxHeartbeats 4000000 in
theorem isRightK_any (x : LockC) (w : World) (hl : RdI w x.lv x.line) : Calls Try.prog 43 #[lockVal x] w (SaysB (oneK x.val) w) := by
  obtain ⟨xn, xh, xt, xl, xa, xc⟩ := x
  unfold LockC.val
  unfold lockVal
  unfold LockC.lv at hl ⊢
  dsimp only at hl ⊢
  rw [oneK_split]
  have hb1 := newAlloc w (.cells #[.string (bstr xn), .int .i64 xh, .int .i64 xt, .slice xa xl.length xc] 39)
  obtain ⟨c0, c1, c2, c3⟩ := box4 (Below.refl _ (w.alloc (.cells #[.string (bstr xn), .int .i64 xh, .int .i64 xt, .slice xa xl.length xc] 39)))
  obtain ⟨W1, hW1⟩ : ∃ W1, W1 = w.alloc (.cells #[.string (bstr xn), .int .i64 xh, .int .i64 xt, .slice xa xl.length xc] 39) := ⟨_, rfl⟩
  rw [← hW1] at hb1 c0 c1 c2 c3
  have HB := Lib.hid hb1
  have KN := Lib.hid (fun w => Name_any xn w)
  have KR := Lib.hid (LineRight_any (.slice xa xl.length xc) xl W1 (hl.later hb1))
  have KH := Lib.hid (fun w2 (hb : Below W1.heap.size W1 w2) => Contains_num (.slice xa xl.length xc) xl xh w2 (hl.later (step hb1 hb)))
  have HQ : Hid (∀ w', Below W1.heap.size W1 w' → w'.cell? ⟨w.heap.size, 1, none⟩ = some (.int .i64 xh) ∧ w'.cell? ⟨w.heap.size, 3, none⟩ = some (.slice xa xl.length xc)) := Lib.hid fun w' hb => ⟨(hb.cell (lt_of_cell c1)).trans c1, (hb.cell (lt_of_cell c3)).trans c3⟩
  clear hl hb1
  generalize xl.length = XN at *
  generalize rightL xl = R at *
  generalize hasL xl xh = H at *
  cases n1 : nameF xn with
  | false =>
    simp only [n1] at KN
    rw [Bool.false_and]
    go_enter Try.func43, Try.ntmps43
    go_upto_region 1 with fail
    rw [← hW1]
    clear hW1
    go_wp2_with (go_at_call 60; refine (KN.out _).mono ?_; rintro e w2 ⟨rfl, rfl⟩)
    go_ret
    exact ⟨rfl, HB.out⟩
  | true =>
  simp only [n1] at KN
  rw [Bool.true_and]
  by_cases e2 : 0 ≤ xh
  case neg =>
    have d2 : decide (0 ≤ xh) = false := decide_eq_false e2
    rw [d2, Bool.false_and]
    clear e2
    go_enter Try.func43, Try.ntmps43
    go_upto_region 1 with fail
    rw [← hW1]
    clear hW1
    go_wp2_with (go_at_call 60; refine (KN.out _).mono ?_; rintro e w2 ⟨rfl, rfl⟩)
    go_ret
    exact ⟨rfl, HB.out⟩
  have d2 : decide (0 ≤ xh) = true := decide_eq_true e2
  rw [d2, Bool.true_and]
  clear e2
  by_cases e3 : xh < 8
  case neg =>
    have d3 : decide (xh < 8) = false := decide_eq_false e3
    rw [d3, Bool.false_and]
    clear e3
    go_enter Try.func43, Try.ntmps43
    go_upto_region 1 with fail
    rw [← hW1]
    clear hW1
    go_wp2_with (go_at_call 60; refine (KN.out _).mono ?_; rintro e w2 ⟨rfl, rfl⟩)
    go_ret
    exact ⟨rfl, HB.out⟩
  have d3 : decide (xh < 8) = true := decide_eq_true e3
  rw [d3, Bool.true_and]
  clear e3
  by_cases e4 : 1 ≤ xt
  case neg =>
    have d4 : decide (1 ≤ xt) = false := decide_eq_false e4
    rw [d4, Bool.false_and]
    clear e4
    go_enter Try.func43, Try.ntmps43
    go_upto_region 1 with fail
    rw [← hW1]
    clear hW1
    go_wp2_with (go_at_call 60; refine (KN.out _).mono ?_; rintro e w2 ⟨rfl, rfl⟩)
    go_ret
    exact ⟨rfl, HB.out⟩
  have d4 : decide (1 ≤ xt) = true := decide_eq_true e4
  rw [d4, Bool.true_and]
  clear e4
  by_cases e5 : xt ≤ 2305843009213693952
  case neg =>
    have d5 : decide (xt ≤ 2305843009213693952) = false := decide_eq_false e5
    rw [d5, Bool.false_and]
    clear e5
    go_enter Try.func43, Try.ntmps43
    go_upto_region 1 with fail
    rw [← hW1]
    clear hW1
    go_wp2_with (go_at_call 60; refine (KN.out _).mono ?_; rintro e w2 ⟨rfl, rfl⟩)
    go_ret
    exact ⟨rfl, HB.out⟩
  have d5 : decide (xt ≤ 2305843009213693952) = true := decide_eq_true e5
  rw [d5, Bool.true_and]
  clear e5
  cases R with
  | false =>
    rw [Bool.false_and]
    go_enter Try.func43, Try.ntmps43
    go_upto_region 1 with fail
    rw [← hW1]
    clear hW1
    go_wp2_with (first
      | (go_at_call 60; refine (KN.out _).mono ?_; rintro e w2 ⟨rfl, rfl⟩)
      | (go_at_call 61; refine KR.out.mono ?_; rintro e w3 ⟨rfl, hb3⟩))
    go_ret
    exact ⟨rfl, step HB.out hb3⟩
  | true =>
    rw [Bool.true_and]
    go_enter Try.func43, Try.ntmps43
    go_upto_region 1 with fail
    rw [← hW1]
    clear hW1
    go_wp2_with (first
      | (go_at_call 60; refine (KN.out _).mono ?_; rintro e w2 ⟨rfl, rfl⟩)
      | (go_at_call 61; refine KR.out.mono ?_; rintro e w3 ⟨rfl, hb3⟩; obtain ⟨y1, y3⟩ := HQ.out _ hb3)
      | (go_at_call 41; refine (KH.out _ hb3).mono ?_; rintro e w4 ⟨rfl, rfl⟩))
    go_ret
    exact ⟨rfl, step HB.out hb3⟩
end Cm
end Go.Proofs.Ytnkooajbenhjhaa
