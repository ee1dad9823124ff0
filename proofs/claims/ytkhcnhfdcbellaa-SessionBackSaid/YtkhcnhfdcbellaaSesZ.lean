/- Contracts: package session's Due, Renew, Right, Open. -/
import Derived.Test.YtkhcnhfdcbellaaSesY
import Derived.Deep.RegionHeld3
set_option linter.unusedVariables false
set_option linter.unusedSimpArgs false
namespace Go.Proofs.Ytkhcnhfdcbellaa
open Go.RowKit Go.Shelf
namespace Cm

set_option maxHeartbeats 4000000 in
theorem SesDue_any (v : Value) (l : List SesV) (t d : Int) (w : World) (h : RdS w v l) (h5 : l.length ≤ 1000) (hr : ∀ s ∈ l, highF s.ren 0 = true) : Calls Try.prog 20 #[v, .int .i64 t, .int .i64 d] w (GetsN (dueS l t d) w) := by
  have hm := h.len
  obtain ⟨a, cap, rfl⟩ := h.form
  have HA := Lib.hid (fun i hi => rds_at h i hi)
  have HF := Lib.hid (map_filter_take l (lateS t d))
  have HR := Lib.hid hr
  clear h hr
  obtain ⟨L, hL⟩ : ∃ L, l.length = L := ⟨_, rfl⟩
  have HLL := Lib.hid hL
  rw [hL] at hm h5 ⊢
  clear hL
  obtain ⟨i0, hi, hz0, hz1, hz2⟩ := info_parts infoN
  cases n1 : highF t 0
  case false =>
    have e : dueS l t d = [] := by unfold dueS; simp [n1]
    rw [e]
    go_enter Try.func20, Try.ntmps20
    go_wp2_with fail
    refine (isNumber_any _ _).mono ?_
    rw [n1]
    rintro e w1 ⟨rfl, rfl⟩
    go_wp2
    go_ret
    exact ⟨_, rfl, World.ownsRow_nil _ _ _ _, Below.refl _ _⟩
  cases n2 : highF d 0
  case false =>
    have e : dueS l t d = [] := by unfold dueS; simp [n2]
    rw [e]
    go_enter Try.func20, Try.ntmps20
    go_wp2_with fail
    refine (isNumber_any _ _).mono ?_
    rw [n1]
    rintro e w1 ⟨rfl, rfl⟩
    go_wp2_with fail
    refine (isNumber_any _ _).mono ?_
    rw [n2]
    rintro e w1 ⟨rfl, rfl⟩
    go_wp2
    go_ret
    exact ⟨_, rfl, World.ownsRow_nil _ _ _ _, Below.refl _ _⟩
  have e : dueS l t d = (l.filter (lateS t d)).map (·.client) := by unfold dueS; rw [if_neg (by simp [n1, n2])]; rfl
  rw [e]
  have ht : 0 ≤ t ∧ t ≤ 2305843009213693952 := by unfold highF at n1; simpa using n1
  go_enter Try.func20, Try.ntmps20
  go_wp2_with fail
  refine (isNumber_any _ _).mono ?_
  rw [n1]
  rintro e w1 ⟨rfl, rfl⟩
  go_wp2_with fail
  refine (isNumber_any _ _).mono ?_
  rw [n2]
  rintro e w1 ⟨rfl, rfl⟩
  clear n1 n2 e
  go_wp2
  go_loopw [7, 20] (fun m i wr => ∃ (k : Nat) (M : List Int), k ≤ L ∧ i = .int .i64 k ∧ Hid (((l.take k).filter (lateS t d)).map (·.client) = M) ∧ M.length ≤ k ∧ Hid (wr.ownsRow w.heap.size 3 1 m M.length (flatX cellsI M)) ∧ Hid (Below w.heap.size w wr)) (fun _ i _ => L - (intOf i).toNat)
  case atStart => exact ⟨0, [], by omega, rfl, Lib.hid rfl, by simp, Lib.hid (World.ownsRow_nil _ _ _ _), Lib.hid (Below.refl _ _)⟩
  case round =>
    obtain ⟨k, M, hk, rfl, HM, hMk, HO, HB⟩ := hrel
    by_cases hlt : k < L
    · have hkl : k < l.length := by rw [HLL.out]; exact hlt
      obtain ⟨b, o, rfl, hc⟩ := HA.out k hkl
      obtain ⟨q0, q1, q2⟩ := hc _ HB.out
      have hp := HF.out k hkl
      rw [HM.out] at hp
      have hgr := HR.out l[k] (List.getElem_mem _)
      clear hc
      generalize l[k] = g at q0 q1 q2 hp hgr
      obtain ⟨gc, gn, gr⟩ := g
      dsimp only at q0 q1 q2 hgr hp
      have hg2 : 0 ≤ gr ∧ gr ≤ 2305843009213693952 := by unfold highF at hgr; simpa using hgr
      have hw1 : IntKind.i64.wrap (t - gr) = t - gr := by rw [IntKind.wrap_i64]; omega
      clear hgr
      have HB1 := Lib.hid (stepAlloc HB.out (.cells #[.int .i64 gc, .int .i64 gn, .int .i64 gr] 34))
      have HO1 := Lib.hid (Rw.own_alloc HO.out (.cells #[.int .i64 gc, .int .i64 gn, .int .i64 gr] 34))
      obtain ⟨y0, y1, y2⟩ := box3 (Below.refl _ (wr.alloc (.cells #[.int .i64 gc, .int .i64 gn, .int .i64 gr] 34)))
      by_cases e1 : d ≤ t - gr
      · have d1 : decide (d ≤ t - gr) = true := decide_eq_true e1
        have hp2 : ((l.take (k + 1)).filter (lateS t d)).map (·.client) = M ++ [gc] := by rw [hp]; simp [lateS, e1]
        have H := Lib.hid hp2
        clear hp hp2 e1
        go_wp2_with (first
          | (at_builtin; (refine wpList_append_one cellsI_length (by omega) rfl (.tmp 30) (.tmp 33) 39 rfl 3 i0 _ 8 Try.underlying39 hi hz0 hz1 hz2 rfl #[.int .i64 gc] gc rfl (cellsI_one _) M w.heap.size w.heap.size w _ rfl (show Value.slice (some ⟨wr.heap.size + 1, 0, none⟩) 1 1 = _ by simp) HO1.out (by unfold maxLen; omega) (by omega) HB1.out.size HB1.out (Nat.le_refl _) ?_); intro v5 w5 ho5 hb5 _; have HO5 := Lib.hid ho5; have HB5 := Lib.hid hb5; clear ho5 hb5))
        go_roundw
        case rel => exact ⟨k + 1, M ++ [gc], by omega, by go_num, H, by simp; omega, HO5, HB5⟩
        case measure => simp [intOf]; omega
      · have d1 : decide (d ≤ t - gr) = false := decide_eq_false e1
        have hp2 : ((l.take (k + 1)).filter (lateS t d)).map (·.client) = M := by rw [hp]; simp [lateS, e1]
        have H := Lib.hid hp2
        clear hp hp2 e1
        go_wp2
        go_roundw
        case rel => exact ⟨k + 1, M, by omega, by go_num, H, by omega, HO1, HB1⟩
        case measure => simp [intOf]; omega
    · obtain rfl : k = L := by omega
      have hM := HM.out
      rw [← HLL.out, List.take_length] at hM
      have H := Lib.hid hM
      clear hM
      go_wp2
      go_ret
      rw [H.out]
      exact ⟨_, rfl, HO.out, HB.out⟩

set_option maxHeartbeats 2000000 in
theorem SesRenew_any (v : Value) (l : List SesV) (c t : Int) (w : World) (h : RdS w v l) (hr : rightS l = true) : Calls Try.prog 11 #[v, .int .i64 c, .int .i64 t] w (GetsS (renewS l c t) w) := by
  obtain ⟨h5, hup⟩ := rights_up hr
  have HI := Lib.hid (Index_any v l c w h)
  have HK := Lib.hid (fun w' (hb : Below w.heap.size w w') => CloneS_any v l w' (h.later hb) (by omega))
  obtain ⟨a, cap, rfl⟩ := h.form
  have HA := Lib.hid (fun i hi => rds_at h i hi)
  clear h hr
  cases n1 : highF t 0
  case false =>
    have e : renewS l c t = ([], 1) := by unfold renewS; simp [n1]
    rw [e]
    clear HI HK HA
    generalize l.length = L at *
    go_enter Try.func11, Try.ntmps11
    go_wp2_with fail
    refine (isNumber_any _ _).mono ?_
    rw [n1]
    rintro e w1 ⟨rfl, rfl⟩
    go_wp2
    go_ret2
    exact GetsS.empty rfl (Below.refl _ _)
  rcases idx_cases l c with e | ⟨k, e⟩
  · have he : renewS l c t = ([], 6) := by unfold renewS; rw [if_neg (by simp [n1]), findS_miss l c e, if_pos rfl]
    rw [he]
    rw [e] at HI
    clear e he hup HK HA
    generalize l.length = L at *
    go_enter Try.func11, Try.ntmps11
    go_wp2_with fail
    refine (isNumber_any _ _).mono ?_
    rw [n1]
    rintro e w1 ⟨rfl, rfl⟩
    go_wp2_with (go_at_call 27; refine HI.out.mono ?_; rintro e w1 ⟨rfl, hb1⟩)
    go_ret2
    exact GetsS.empty rfl hb1
  · obtain ⟨hk, hkc, hf⟩ := findS_hit l c k e
    have he : renewS l c t = (l.set k ⟨l[k].client, l[k].num, if l[k].ren < t then t else l[k].ren⟩, 0) := by unfold renewS; rw [if_neg (by simp [n1]), hf, if_neg (by simp), map_idx l hup c t k hk hkc]
    rw [he]
    rw [e] at HI
    obtain ⟨b, o, rfl, hc⟩ := HA.out k hk
    have HC := Lib.hid hc
    have g1 : (0 : Int) ≤ (k : Int) := by omega
    have g2 : (k : Int) < (l.length : Int) := by omega
    have g7 : decide ((k : Int) < 0) = false := by simp
    have HKL : Hid (k < l.length) := Lib.hid hk
    clear e he hup hf hc HA hkc
    generalize hgk : l[k] = s at HC ⊢
    have HGK := Lib.hid hgk
    clear hgk
    obtain ⟨gc, gn, gr⟩ := s
    dsimp only at HC ⊢
    obtain ⟨L, hL⟩ : ∃ L, l.length = L := ⟨_, rfl⟩
    have HLL := Lib.hid hL
    rw [hL] at g2 HI HK h5 hk ⊢
    clear hL
    generalize hR : (if gr < t then t else gr) = r
    have HRR := Lib.hid hR
    clear hR
    go_enter Try.func11, Try.ntmps11
    go_wp2_with fail
    refine (isNumber_any _ _).mono ?_
    rw [n1]
    rintro e w1 ⟨rfl, rfl⟩
    clear n1
    go_upto_region 7 with (first
      | (go_at_call 27; refine HI.out.mono ?_; rintro e w1 ⟨rfl, hb1⟩)
      | (go_at_call 33; refine (HK.out _ hb1).mono ?_; rintro e w2 ⟨v2, rfl, ho2, hb2⟩))
    obtain ⟨a2, cap2, rfl⟩ := Rw.own_form ho2
    rw [HLL.out] at ho2 ⊢
    obtain ⟨g, rfl, hg⟩ := own_some ho2 (by omega)
    have ho3 := own_lowerX ho2 hb1.size
    have HB := Lib.hid (step hb1 hb2)
    obtain ⟨q0, q1, q2⟩ := HC.out _ HB.out
    obtain ⟨p0, p1, p2, pf⟩ := ownS_at ho3 HLL.out k HKL.out
    have HOR := Lib.hid (fun r => ownS_ren ho3 k HKL.out r)
    have hgw : w.heap.size ≤ g := Nat.le_trans hb1.size hg
    have hgk : l[k]'HKL.out = ⟨gc, gn, gr⟩ := HGK.out
    rw [hgk] at p0
    rw [hgk] at p1
    rw [hgk] at p2
    rw [hgk] at HOR
    dsimp only at p0 p1 p2 HOR
    clear ho2 ho3 hb1 hb2 HC HK HI hg
    have hgt : (l.set k ⟨gc, gn, r⟩).length = L := by rw [List.length_set]; exact HLL.out
    have HS := Lib.hid (HOR.out r)
    clear HOR
    have h1 := HRR.out
    by_cases e2 : gr < t
    · rw [if_pos e2] at h1
      subst h1
      have d2 : decide (gr < t) = true := decide_eq_true e2
      go_wp2
      go_ret2
      exact ⟨_, rfl, by dsimp only; rw [hgt]; exact HS.out, HB.out.setCell hgw _⟩
    · rw [if_neg e2] at h1
      subst h1
      have d2 : decide (gr < t) = false := decide_eq_false e2
      go_wp2
      go_ret2
      exact ⟨_, rfl, by dsimp only; rw [hgt]; exact HS.out, HB.out.setCell hgw _⟩
end Cm
end Go.Proofs.Ytkhcnhfdcbellaa
