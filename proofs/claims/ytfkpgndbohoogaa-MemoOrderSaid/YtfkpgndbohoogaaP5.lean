/- Texts laid together by program: MemD, GenC, IdxM, MemE, RepD, RepE, RepF, RepG, RepH. -/
import Derived.Test.YtfkpgndbohoogaaP4
import Derived.Test.YtfkpgndbohoogaaP3
import Derived.Test.YtfkpgndbohoogaaP2
import Derived.Shelf.Abstract
import Derived.Deep.RegionHeld3
import Derived.Maps.AppendAt
/- Contracts: padlockref6's Keep, where an answer is kept; all of it. -/
set_option linter.unusedVariables false
set_option linter.unusedSimpArgs false
namespace Go.Proofs.Ytfkpgndbohoogaa
open Go.RowKit
namespace Cm

set_option maxHeartbeats 8000000 in
theorem RefKeep_yes (v u : Value) (L : List MemC) (A : AnsV) (w : World) (h : RdM w v L) (h5 : L.length ≤ 100000) (hu : RdH w u A.rep.held) (hr : Rm (valsM L)) (h1 : mayA A = true) (h2 : freshM (valsM L) A.client A.seq = 1) :
    Calls Try.prog 10 #[v, ansVal A u] w (GetsK (insM A (valsM L)) w) := by
  rw [← goM_ins A _ hr.up]
  clear hr
  obtain ⟨ua, uc, rfl, -⟩ := hu.ex
  obtain ⟨y, hy⟩ : ∃ y : MemC, y = ⟨A, ua, uc⟩ := ⟨_, rfl⟩
  have HY : Hid (RdH w y.hv y.m.rep.held) := Lib.hid (by rw [hy]; exact hu)
  have HYM : Hid (y.m = A) := Lib.hid (by rw [hy])
  have HYC : Hid (cellsM y = [.int .i64 A.client, .int .i64 A.seq, .int .i64 A.rep.code, .int .i64 A.rep.session, .int .i64 A.rep.ahead, .slice ua A.rep.held.length uc]) := Lib.hid (by rw [hy]; rfl)
  clear hy
  have HD : Hid (∀ put k (hk : k < L.length), goM A put ((valsM L).drop k) = if L[k].m.client = A.client then A :: goM A true ((valsM L).drop (k + 1)) else if (!put && decide (A.client < L[k].m.client)) = true then A :: L[k].m :: goM A true ((valsM L).drop (k + 1)) else L[k].m :: goM A put ((valsM L).drop (k + 1))) := Lib.hid fun put k hk => by
    have := goM_drop A put (valsM L) k (by rw [valsM_length]; exact hk)
    rw [valsM_get L k hk] at this
    exact this
  have KM := RefMayAnswer_any A (.slice ua A.rep.held.length uc)
  have KF0 := RefFresh_any v L A.client A.seq
  rw [h2] at KF0
  have HYI : Hid (∀ M : List MemC, valsM (M ++ [y]) = valsM M ++ [A]) := Lib.hid fun M => by rw [valsM_append]; show _ ++ [y.m] = _; rw [HYM.out]
  have HEND : Hid (∀ put, goM A put ((valsM L).drop L.length) = if put then [] else [A]) := Lib.hid fun put => by
    rw [List.drop_eq_nil_of_le (by rw [valsM_length]; exact Nat.le_refl _)]
    rfl
  obtain ⟨R, hR⟩ : ∃ R, goM A false (valsM L) = R := ⟨_, rfl⟩
  rw [hR]
  have HGO := Lib.hid hR
  clear hR
  obtain ⟨ac, sq, ⟨ak, an, ad, al⟩⟩ := A
  unfold ansVal at KM ⊢
  dsimp only at hu KM KF0 HYC ⊢
  have hb1 := newAlloc w (.cells #[.int .i64 ac, .int .i64 sq, .int .i64 ak, .int .i64 an, .int .i64 ad, .slice ua al.length uc] 30)
  obtain ⟨c0, c1, c2, c3, c4, c5⟩ := box6 (Below.refl _ (w.alloc (.cells #[.int .i64 ac, .int .i64 sq, .int .i64 ak, .int .i64 an, .int .i64 ad, .slice ua al.length uc] 30)))
  obtain ⟨W1, hW1⟩ : ∃ W1, W1 = w.alloc (.cells #[.int .i64 ac, .int .i64 sq, .int .i64 ak, .int .i64 an, .int .i64 ad, .slice ua al.length uc] 30) := ⟨_, rfl⟩
  rw [← hW1] at hb1 c0 c1 c2 c3 c4 c5
  have HB := Lib.hid hb1
  have HQ : Hid (∀ w', Below W1.heap.size W1 w' → w'.cell? ⟨w.heap.size, 0, none⟩ = some (.int .i64 ac) ∧ w'.cell? ⟨w.heap.size, 1, none⟩ = some (.int .i64 sq) ∧ w'.cell? ⟨w.heap.size, 2, none⟩ = some (.int .i64 ak) ∧ w'.cell? ⟨w.heap.size, 3, none⟩ = some (.int .i64 an) ∧ w'.cell? ⟨w.heap.size, 4, none⟩ = some (.int .i64 ad) ∧ w'.cell? ⟨w.heap.size, 5, none⟩ = some (.slice ua al.length uc)) := Lib.hid fun w' hb => ⟨(hb.cell (lt_of_cell c0)).trans c0, (hb.cell (lt_of_cell c1)).trans c1, (hb.cell (lt_of_cell c2)).trans c2, (hb.cell (lt_of_cell c3)).trans c3, (hb.cell (lt_of_cell c4)).trans c4, (hb.cell (lt_of_cell c5)).trans c5⟩
  have KM := KM W1 (hu.later hb1)
  rw [h1] at KM
  have KM := Lib.hid KM
  have KF : Hid (∀ W, Below W1.heap.size W1 W → Calls Try.prog 14 #[v, .int .i64 ac, .int .i64 sq] W (SaysI 1 W)) := Lib.hid fun W hb => KF0 W (h.later (step hb1 hb))
  clear KF0 h1 h2 hu
  have HHL : Hid (∀ i (hi : i < L.length), RdH w L[i].hv L[i].m.rep.held) := Lib.hid fun i hi => h.held _ (List.getElem_mem hi)
  obtain ⟨a, cap, rfl⟩ := h.form
  have HA := Lib.hid (fun i hi => rdm_at h.row i hi)
  obtain ⟨i1, hi, hz0, hz1, hz2⟩ := info_parts infoM
  clear h hb1
  obtain ⟨N, hN⟩ : ∃ N, L.length = N := ⟨_, rfl⟩
  have HNN := Lib.hid hN
  rw [hN] at KF h5 HEND ⊢
  clear hN
  generalize al.length = AN at *
  go_enter Try.func10, Try.ntmps10
  go_upto_region 1 with fail
  rw [← hW1]
  clear hW1
  go_upto_region 3 with (first
    | (go_at_call 26; refine KM.out.mono ?_; rintro e w2 ⟨rfl, hb2⟩; obtain ⟨y0, y1, -⟩ := HQ.out _ hb2; have HB1 := Lib.hid hb2; clear hb2)
    | (go_at_call 14; refine (KF.out _ HB1.out).mono ?_; rintro e w3 ⟨rfl, hb3⟩; have HB3 := Lib.hid (step HB1.out hb3); clear hb3))
  obtain ⟨y0, y1, y2, y3, y4, y5⟩ := HQ.out _ HB3.out
  obtain ⟨W4, hW4⟩ : ∃ W4, W4 = w3.alloc (.cells #[.int .i64 ac, .int .i64 sq, .int .i64 ak, .int .i64 an, .int .i64 ad, .slice ua AN uc] 35) := ⟨_, rfl⟩
  have HB4 : Hid (Below W1.heap.size W1 W4) := Lib.hid (by rw [hW4]; exact stepAlloc HB3.out _)
  have hz := box6 (Below.refl _ (w3.alloc (.cells #[.int .i64 ac, .int .i64 sq, .int .i64 ak, .int .i64 an, .int .i64 ad, .slice ua AN uc] 35)))
  rw [← hW4] at hz
  obtain ⟨z0, z1, z2, z3, z4, z5⟩ := hz
  have HZ : Hid (∀ w', Below W4.heap.size W4 w' → w'.cell? ⟨w.heap.size, 0, none⟩ = some (.int .i64 ac) ∧ w'.cell? ⟨w3.heap.size, 0, none⟩ = some (.int .i64 ac) ∧ w'.cell? ⟨w3.heap.size, 1, none⟩ = some (.int .i64 sq) ∧ w'.cell? ⟨w3.heap.size, 2, none⟩ = some (.int .i64 ak) ∧ w'.cell? ⟨w3.heap.size, 3, none⟩ = some (.int .i64 an) ∧ w'.cell? ⟨w3.heap.size, 4, none⟩ = some (.int .i64 ad) ∧ w'.cell? ⟨w3.heap.size, 5, none⟩ = some (.slice ua AN uc)) := Lib.hid fun w' hb => ⟨(HQ.out _ (step HB4.out hb)).1, (hb.cell (lt_of_cell z0)).trans z0, (hb.cell (lt_of_cell z1)).trans z1, (hb.cell (lt_of_cell z2)).trans z2, (hb.cell (lt_of_cell z3)).trans z3, (hb.cell (lt_of_cell z4)).trans z4, (hb.cell (lt_of_cell z5)).trans z5⟩
  have HBW := Lib.hid (step HB.out HB4.out)
  go_upto_region 4 with fail
  rw [← hW4]
  clear hW4 y0 y1 y2 y3 y4 y5 z0 z1 z2 z3 z4 z5 c0 c1 c2 c3 c4 c5 HB1 HB3 HB KM KF
  go_wp2
  go_loopw [6, 7, 8] (fun m pt i wr => ∃ (k : Nat) (M : List MemC) (put : Bool), k ≤ N ∧ M.length ≤ k + 1 ∧ i = .int .i64 k ∧ pt = .bool put ∧ Hid (R = valsM M ++ goM ⟨ac, sq, ⟨ak, an, ad, al⟩⟩ put ((valsM L).drop k)) ∧ Hid (∀ x ∈ M, RdH w x.hv x.m.rep.held) ∧ Hid (wr.ownsRow W4.heap.size 35 6 m M.length (flatX cellsM M)) ∧ (put = false → M.length ≤ k) ∧ Hid (Below W4.heap.size W4 wr)) (fun _ _ i _ => N - (intOf i).toNat)
  case atStart => exact ⟨0, [], false, by omega, by simp, rfl, rfl, Lib.hid (by rw [← HGO.out]; rfl), Lib.hid (fun x hx => by cases hx), Lib.hid (World.ownsRow_nil _ _ _ _), fun _ => by simp, Lib.hid (Below.refl _ _)⟩
  case round =>
    obtain ⟨k, M, put, hk, hMl, rfl, rfl, HM, HH, HO, hpk, HB⟩ := hrel
    by_cases hlt : k < N
    · have hkl : k < L.length := by rw [HNN.out]; exact hlt
      obtain ⟨b, o, rfl, hc⟩ := HA.out k hkl
      obtain ⟨x0, x1, x2, x3, x4, x5, x6⟩ := HZ.out _ HB.out
      have hd := HD.out put k hkl
      have hh := HHL.out k hkl
      have HC : Hid (∀ W, Below w.heap.size w W → _) := Lib.hid hc
      have HX := Lib.hid (rfl : L[k] = L[k])
      have HCX : Hid (cellsM L[k] = [.int .i64 L[k].m.client, .int .i64 L[k].m.seq, .int .i64 L[k].m.rep.code, .int .i64 L[k].m.rep.session, .int .i64 L[k].m.rep.ahead, L[k].hv]) := Lib.hid rfl
      have HXI : Hid (∀ M : List MemC, valsM (M ++ [L[k]]) = valsM M ++ [L[k].m]) := Lib.hid fun M => by rw [valsM_append]; rfl
      have hxv : ∃ xn, L[k].hv = .slice L[k].ha xn L[k].hc := ⟨_, rfl⟩
      obtain ⟨XN, hxv⟩ := hxv
      rw [hxv] at HCX hc
      have HCC := Lib.hid hc
      rw [hxv] at hh
      clear HC hc HA HHL HD HX
      have HHX : Hid (RdH w L[k].hv L[k].m.rep.held) := Lib.hid (by rw [hxv]; exact hh)
      generalize L[k] = x at hd HCX HXI HHX HCC
      clear hh hxv hkl
      obtain ⟨q0, q1, q2, q3, q4, q5⟩ := HCC.out _ (step HBW.out HB.out)
      have hbs := HB.out.size
      obtain ⟨⟨⟨xc, xs, ⟨xk, xn, xd, xl⟩⟩, xa, xp⟩, hx⟩ : ∃ x', x' = x := ⟨_, rfl⟩
      rw [← hx] at hd HCX HXI q0 q1 q2 q3 q4 q5 HCC
      dsimp only at hd HCX HXI q0 q1 q2 q3 q4 q5 HCC
      have HXE := Lib.hid hx
      clear hx
      have f1 : (0 : Int) ≤ (k : Int) := by omega
      have f2 : (k : Int) < (N : Int) := by omega
      by_cases e1 : xc = ac
      · rw [if_pos e1] at hd
        have d1 : (xc == ac) = true := by simpa using e1
        have HDD := Lib.hid hd
        clear hd e1
        go_upto_region 9 with fail
        go_quiet (fail)
        obtain ⟨W5, hW5⟩ : ∃ W5, W5 = wr.drewN nq := ⟨_, rfl⟩
        have HB5 : Hid (Below W4.heap.size W4 W5) := Lib.hid (by rw [hW5]; exact below_drewN6 HB.out nq)
        have HO5 : Hid (W5.ownsRow W4.heap.size 35 6 u6 M.length (flatX cellsM M)) := Lib.hid (by rw [hW5]; exact Rw.own_below HO.out (below_drewN6 (Below.refl _ _) nq))
        obtain ⟨x0, x1, x2, x3, x4, x5, x6⟩ := HZ.out _ HB5.out
        obtain ⟨q0, q1, q2, q3, q4, q5⟩ := HCC.out _ (step HBW.out HB5.out)
        have hbsW5 := HB5.out.size
        rw [← hW5]
        clear hW5
        go_wp2_with (at_builtin; refine wpList_append_one cellsM_length (by omega) rfl (.tmp 45) (.tmp 47) 24 rfl 35 i1 _ 64 Try.underlying24 hi hz0 hz1 hz2 rfl #[.int .i64 ac, .int .i64 sq, .int .i64 ak, .int .i64 an, .int .i64 ad, .slice ua AN uc] y (by rw [HYC.out]) (cellsM_one _) M W4.heap.size W4.heap.size W4 _ rfl rfl HO5.out (by first | (unfold maxLen; omega) | (rw [List.length_append, List.length_singleton]; unfold maxLen; omega)) (by first | omega | (rw [List.length_append, List.length_singleton]; omega)) hbsW5 HB5.out (Nat.le_refl _) ?_; intro v7 w7 how7 hbw7 _; have HO7 := Lib.hid how7; have HB7 := Lib.hid hbw7; clear how7 hbw7)
        go_roundw
        case rel => exact ⟨k + 1, M ++ [y], true, by omega, by simp; omega, by go_num, rfl, Lib.hid (by rw [HM.out, HDD.out, HYI.out]; simp), Lib.hid (fun z hz => by
          rcases List.mem_append.1 hz with q | q
          · exact HH.out z q
          · rw [List.mem_singleton] at q; subst q; exact HY.out), HO7, (fun q => by cases q), HB7⟩
        case measure => simp [intOf]; omega
      · rw [if_neg e1] at hd
        have d1 : (xc == ac) = false := by simpa using e1
        clear e1
        by_cases e2 : put = false ∧ ac < xc
        · obtain ⟨e3, e4⟩ := e2
          subst e3
          have d2 : decide (ac < xc) = true := decide_eq_true e4
          rw [if_pos (by simp [e4])] at hd
          have HDD := Lib.hid hd
          have hml := hpk rfl
          clear hd e4
          go_upto_region 9 with fail
          go_quiet (fail)
          obtain ⟨W5, hW5⟩ : ∃ W5, W5 = wr.drewN nq := ⟨_, rfl⟩
          have HB5 : Hid (Below W4.heap.size W4 W5) := Lib.hid (by rw [hW5]; exact below_drewN6 HB.out nq)
          have HO5 : Hid (W5.ownsRow W4.heap.size 35 6 u6 M.length (flatX cellsM M)) := Lib.hid (by rw [hW5]; exact Rw.own_below HO.out (below_drewN6 (Below.refl _ _) nq))
          obtain ⟨x0, x1, x2, x3, x4, x5, x6⟩ := HZ.out _ HB5.out
          obtain ⟨q0, q1, q2, q3, q4, q5⟩ := HCC.out _ (step HBW.out HB5.out)
          have hbsW5 := HB5.out.size
          rw [← hW5]
          clear hW5
          go_upto_region 12 with fail
          go_quiet (fail)
          obtain ⟨W6, hW6⟩ : ∃ W6, W6 = W5.drewN nq := ⟨_, rfl⟩
          have HB6 : Hid (Below W4.heap.size W4 W6) := Lib.hid (by rw [hW6]; exact below_drewN6 HB5.out nq)
          have HO6 : Hid (W6.ownsRow W4.heap.size 35 6 u6 M.length (flatX cellsM M)) := Lib.hid (by rw [hW6]; exact Rw.own_below HO5.out (below_drewN6 (Below.refl _ _) nq))
          obtain ⟨x0, x1, x2, x3, x4, x5, x6⟩ := HZ.out _ HB6.out
          obtain ⟨q0, q1, q2, q3, q4, q5⟩ := HCC.out _ (step HBW.out HB6.out)
          have hbsW6 := HB6.out.size
          rw [← hW6]
          clear hW6
          go_wp2_with (first
            | (at_builtin; refine wpList_append_one cellsM_length (by omega) rfl (.tmp 61) (.tmp 63) 24 rfl 35 i1 _ 64 Try.underlying24 hi hz0 hz1 hz2 rfl #[.int .i64 ac, .int .i64 sq, .int .i64 ak, .int .i64 an, .int .i64 ad, .slice ua AN uc] y (by rw [HYC.out]) (cellsM_one _) M W4.heap.size W4.heap.size W4 _ rfl rfl HO6.out (by first | (unfold maxLen; omega) | (rw [List.length_append, List.length_singleton]; unfold maxLen; omega)) (by first | omega | (rw [List.length_append, List.length_singleton]; omega)) hbsW6 HB6.out (Nat.le_refl _) ?_; intro v7 w7 how7 hbw7 _; have HO7 := Lib.hid how7; have HB7 := Lib.hid hbw7; have hbs7 := HB7.out.size; obtain ⟨r0, r1, r2, r3, r4, r5⟩ := HCC.out _ (step HBW.out HB7.out); clear how7 hbw7)
            | (at_builtin; refine wpList_append_one cellsM_length (by omega) rfl (.tmp 65) (.tmp 70) 24 rfl 35 i1 _ 64 Try.underlying24 hi hz0 hz1 hz2 rfl #[.int .i64 xc, .int .i64 xs, .int .i64 xk, .int .i64 xn, .int .i64 xd, .slice xa XN xp] x (by rw [← HXE.out, HCX.out]) (cellsM_one _) (M ++ [y]) W4.heap.size W4.heap.size W4 _ rfl rfl HO7.out (by first | (unfold maxLen; omega) | (rw [List.length_append, List.length_singleton]; unfold maxLen; omega)) (by first | omega | (rw [List.length_append, List.length_singleton]; omega)) hbs7 HB7.out (Nat.le_refl _) ?_; intro v8 w8 how8 hbw8 _; have HO8 := Lib.hid how8; have HB8 := Lib.hid hbw8; clear how8 hbw8))
          go_roundw
          case rel => exact ⟨k + 1, M ++ [y] ++ [x], true, by omega, by simp; omega, by go_num, rfl, Lib.hid (by rw [HM.out, HDD.out, ← HXE.out, HXI.out, HYI.out]; simp), Lib.hid (fun z hz => by
            rcases List.mem_append.1 hz with q | q
            · rcases List.mem_append.1 q with q | q
              · exact HH.out z q
              · rw [List.mem_singleton] at q; subst q; exact HY.out
            · rw [List.mem_singleton] at q; subst q; exact HHX.out), HO8, (fun q => by cases q), HB8⟩
          case measure => simp [intOf]; omega
        · have hcase : (!put && decide (ac < xc)) = false := by
            cases put with
            | true => rfl
            | false => simp at e2 ⊢; exact e2
          rw [if_neg (by rw [hcase]; simp)] at hd
          have HDD := Lib.hid hd
          have hp2 : put = true ∨ (put = false ∧ decide (ac < xc) = false) := by
            cases put with
            | true => exact .inl rfl
            | false => exact .inr ⟨rfl, by simpa using hcase⟩
          clear hd hcase e2
          rcases hp2 with e3 | ⟨e3, d2⟩
          all_goals
            subst e3
            go_upto_region 9 with fail
            go_quiet (fail)
            obtain ⟨W5, hW5⟩ : ∃ W5, W5 = wr.drewN nq := ⟨_, rfl⟩
            have HB5 : Hid (Below W4.heap.size W4 W5) := Lib.hid (by rw [hW5]; exact below_drewN6 HB.out nq)
            have HO5 : Hid (W5.ownsRow W4.heap.size 35 6 u6 M.length (flatX cellsM M)) := Lib.hid (by rw [hW5]; exact Rw.own_below HO.out (below_drewN6 (Below.refl _ _) nq))
            obtain ⟨x0, x1, x2, x3, x4, x5, x6⟩ := HZ.out _ HB5.out
            obtain ⟨q0, q1, q2, q3, q4, q5⟩ := HCC.out _ (step HBW.out HB5.out)
            have hbsW5 := HB5.out.size
            rw [← hW5]
            clear hW5
            go_upto_region 12 with fail
            go_quiet (fail)
            obtain ⟨W6, hW6⟩ : ∃ W6, W6 = W5.drewN nq := ⟨_, rfl⟩
            have HB6 : Hid (Below W4.heap.size W4 W6) := Lib.hid (by rw [hW6]; exact below_drewN6 HB5.out nq)
            have HO6 : Hid (W6.ownsRow W4.heap.size 35 6 u6 M.length (flatX cellsM M)) := Lib.hid (by rw [hW6]; exact Rw.own_below HO5.out (below_drewN6 (Below.refl _ _) nq))
            obtain ⟨x0, x1, x2, x3, x4, x5, x6⟩ := HZ.out _ HB6.out
            obtain ⟨q0, q1, q2, q3, q4, q5⟩ := HCC.out _ (step HBW.out HB6.out)
            have hbsW6 := HB6.out.size
            rw [← hW6]
            clear hW6
            go_wp2_with (at_builtin; refine wpList_append_one cellsM_length (by omega) rfl (.tmp 65) (.tmp 70) 24 rfl 35 i1 _ 64 Try.underlying24 hi hz0 hz1 hz2 rfl #[.int .i64 xc, .int .i64 xs, .int .i64 xk, .int .i64 xn, .int .i64 xd, .slice xa XN xp] x (by rw [← HXE.out, HCX.out]) (cellsM_one _) M W4.heap.size W4.heap.size W4 _ rfl rfl HO6.out (by first | (unfold maxLen; omega) | (rw [List.length_append, List.length_singleton]; unfold maxLen; omega)) (by first | omega | (rw [List.length_append, List.length_singleton]; omega)) hbsW6 HB6.out (Nat.le_refl _) ?_; intro v8 w8 how8 hbw8 _; have HO8 := Lib.hid how8; have HB8 := Lib.hid hbw8; clear how8 hbw8)
            go_roundw
            case rel => exact ⟨k + 1, M ++ [x], _, by omega, by simp; omega, by go_num, rfl, Lib.hid (by rw [HM.out, HDD.out, ← HXE.out, HXI.out]; simp), Lib.hid (fun z hz => by
              rcases List.mem_append.1 hz with q | q
              · exact HH.out z q
              · rw [List.mem_singleton] at q; subst q; exact HHX.out), HO8, (fun q => by first | (have hq := hpk rfl; rw [List.length_append, List.length_singleton]; omega) | (cases q; done)), HB8⟩
            case measure => simp [intOf]; omega
    · obtain rfl : k = N := by omega
      have hR := HM.out
      rw [HEND.out] at hR
      cases put with
      | true =>
        rw [if_pos rfl, List.append_nil] at hR
        have HRR := Lib.hid hR
        clear hR HM HD HGO HEND HYI
        obtain ⟨ua6, uc6, rfl⟩ := Rw.own_form HO.out
        go_wp2
        go_ret
        exact ⟨_, _, M, rfl, HRR.out.symm, RdM.made HO.out HH.out (step HBW.out HB.out), step HBW.out HB.out⟩
      | false =>
        rw [if_neg (by simp)] at hR
        have HRR := Lib.hid hR
        have hml := hpk rfl
        have hbs := HB.out.size
        obtain ⟨-, x0, x1, x2, x3, x4, x5⟩ := HZ.out _ HB.out
        clear hR HM HD HGO HEND
        go_wp2_with (at_builtin; refine wpList_append_one cellsM_length (by omega) rfl (.tmp 74) (.tmp 76) 24 rfl 35 i1 _ 64 Try.underlying24 hi hz0 hz1 hz2 rfl #[.int .i64 ac, .int .i64 sq, .int .i64 ak, .int .i64 an, .int .i64 ad, .slice ua AN uc] y (by rw [HYC.out]) (cellsM_one _) M W4.heap.size W4.heap.size W4 _ rfl rfl HO.out (by unfold maxLen; omega) (by omega) hbs HB.out (Nat.le_refl _) ?_; intro v5 w5 ho5 hb5 _; have HO5 := Lib.hid ho5; have HB5 := Lib.hid hb5; clear ho5 hb5)
        obtain ⟨ua6, uc6, rfl⟩ := Rw.own_form HO5.out
        go_ret
        exact ⟨_, _, M ++ [y], rfl, by rw [HYI.out, HRR.out], RdM.made HO5.out (fun x hx => by
          rcases List.mem_append.1 hx with q | q
          · exact HH.out x q
          · rw [List.mem_singleton] at q; subst q; exact HY.out) (step HBW.out HB5.out), step HBW.out HB5.out⟩

theorem RefKeep_any (v u : Value) (L : List MemC) (A : AnsV) (w : World) (h : RdM w v L) (h5 : L.length ≤ 100000) (hu : RdH w u A.rep.held) (hr : Rm (valsM L)) :
    Calls Try.prog 10 #[v, ansVal A u] w (GetsK (keepM (valsM L) A) w) := by
  by_cases h1 : mayA A = true
  · by_cases h2 : freshM (valsM L) A.client A.seq = 1
    · rw [keepM_yes h1 h2]
      exact RefKeep_yes v u L A w h h5 hu hr h1 h2
    · rw [keepM_no (.inr h2)]
      exact RefKeep_no v u L A w h h5 hu (.inr h2)
  · rw [keepM_no (.inl (by simpa using h1))]
    exact RefKeep_no v u L A w h h5 hu (.inl (by simpa using h1))
end Cm
end Go.Proofs.Ytfkpgndbohoogaa

/- Rows that grow, rows of unlike elements; locks that are held, as rows; the place of the first that meets a test. -/
set_option linter.unusedVariables false
set_option linter.unusedSimpArgs false
namespace Go.Proofs.Ytfkpgndbohoogaa
open Go.RowKit
namespace Cm

section
variable {α : Type} {sz : Nat} {f : α → List Value}
/-- One appended, and what grew: the row's own block alone. -/
theorem wpList_append_one_gr (hf : ∀ x, (f x).length = sz) (hsz : 0 < sz) {P : Program} {ops : Array Oper} {rest : List Oper} {o : Oper} {a : Act} {Q : Exit → Act → World → Prop} {W : World} (hgd : o.guard = none) (s x : Operand) (t : TypeId)
    (ho : o.op = .call { callee := .builtin .append, args := #[s, x], argTypes := #[t, t] })
    (e : TypeId) (i : TypeInfo) (z : Value) (bytes : Nat) (ht : P.underlying t = some (.slice e)) (hi : P.info? e = some i) (hz : i.zero = some z) (hsize : i.size = sz) (hby : i.bytes = bytes) (hzs : z.cells.size = sz)
    (cs : Array Value) (y : α) (hcs : cs.toList = f y) (h1 : ∀ u ∈ f y, u.oneCell' = true) (M : List α) (base : Nat) (m : Value) (hs : a.eval s = m) (hx : a.eval x = .slice (some ⟨W.heap.size, 0, none⟩) 1 1)
    (hown : W.ownsRow base e sz m M.length (flatX f M)) (h63 : M.length + 1 ≤ maxLen) (hlen : (M.length + 1) * bytes ≤ 140737488355328) (hbase : base ≤ W.heap.size)
    (h : ∀ v' w', w'.ownsRow base e sz v' (M ++ [y]).length (flatX f (M ++ [y])) → (W.alloc (.cells cs e)).grownBy w' m.ownBlock → (v'.ownBlock = m.ownBlock ∨ v'.ownBlock = some (W.alloc (.cells cs e)).heap.size) → wpList P ops Q rest (a.put o.dst v') w') :
    wpList P ops Q (o :: rest) a (W.alloc (.cells cs e)) := by
  have hz1 : (W.alloc (.cells cs e)).heap.size = W.heap.size + 1 := by simp
  refine wpList_append_own_at (W.alloc (.cells cs e)) hgd s x t ho base e i z sz bytes ht hi hz hsize hby hzs hsz m M.length (flatX f M) hs (Rw.own_alloc hown _) ⟨W.heap.size, 0, none⟩ 1 1 (f y) hx (by rw [hf]; omega) ?_ h1 h63 hlen (by rw [hz1]; omega) ?_
  · rw [← hcs]
    exact World.news_of_block (w := W.alloc (.cells cs e)) (B := W.heap.size) (cs := cs) (t := e) (fr := (0, 0)) (by show (W.heap.push _)[W.heap.size]? = _; simp)
  · intro v' w' ho' hg _ hat
    refine h v' w' ?_ hg hat
    rw [List.length_append, flatX_snoc]
    exact ho'
end

/-- Rows of unlike elements lie apart. -/
theorem own_types {w : World} {b1 b2 s1 s2 n1 n2 : Nat} {e1 e2 : TypeId} {u v : Value} {xs ys : List Value} (h : w.ownsRow b1 e1 s1 u n1 xs) (h2 : w.ownsRow b2 e2 s2 v n2 ys) (hne : e1 ≠ e2) : Rw.Apart u v := by
  intro g hu hv
  rcases h.2 with ⟨rfl, _⟩ | ⟨g1, cap, cur, rfl, _, q1, _⟩
  · cases hu
  rcases h2.2 with ⟨rfl, _⟩ | ⟨g2, cap2, cur2, rfl, _, q2, _⟩
  · cases hv
  have r1 : g1 = g := by simpa [Value.ownBlock] using hu
  have r2 : g2 = g := by simpa [Value.ownBlock] using hv
  subst r1
  subst r2
  rw [q1] at q2
  injection q2 with q2
  injection q2 with _ q2
  exact hne q2

theorem box1k_at (w : World) (v : Value) (t : TypeId) (w' : World) (hb : Below (w.alloc (.cells #[v] t)).heap.size (w.alloc (.cells #[v] t)) w') : w'.cell? ⟨w.heap.size, 0, none⟩ = some v := by
  have h : (w.alloc (.cells #[v] t)).cell? ⟨w.heap.size, 0, none⟩ = some v := by simp
  exact (hb.cell (lt_of_cell h)).trans h

theorem idx_noneK {α : Type} (p : α → Bool) (l : List α) (h : idxI p l = -1) : ∀ x ∈ l, p x = false := by
  intro x hx
  cases q : p x with
  | false => rfl
  | true =>
    have h1 : l.any p = true := List.any_eq_true.2 ⟨x, hx, q⟩
    rw [← idxI_any, h] at h1
    simp at h1

theorem idx_casesG {α : Type} (p : α → Bool) (l : List α) : idxI p l = -1 ∨ ∃ k, ∃ h : k < l.length, idxI p l = (k : Int) ∧ p l[k] = true := by
  unfold idxI
  split
  · rename_i h
    exact .inr ⟨_, h, rfl, List.findIdx_getElem⟩
  · exact .inl rfl

theorem own_ne_lt {w : World} {base size n b : Nat} {e : TypeId} {v : Value} {xs : List Value} (h : w.ownsRow base e size v n xs) (hb : w.heap.size ≤ b) : v.ownBlock ≠ some b := fun q => by
  have := (Rw.own_lt h _ q).2
  omega

theorem infoG8 : (Try.prog.info? 61).map (fun i => (i.zero, i.size, i.bytes)) = some (some (.agg #[.string ⟨#[]⟩, .int .i64 0]), 2, 24) := by kernel_rfl
def cellsG (g : GrantV) : List Value := [.string (bstr g.name), .int .i64 g.token]
theorem cellsG_length (g : GrantV) : (cellsG g).length = 2 := rfl
theorem cellsG_one (g : GrantV) : ∀ u ∈ cellsG g, u.oneCell' = true := by
  intro u hu
  unfold cellsG at hu
  simp only [List.mem_cons, List.not_mem_nil, or_false] at hu
  rcases hu with rfl | rfl <;> rfl

theorem RdH.of {w : World} {v : Value} {l : List GrantV} (h : RdX 2 cellsG w v l) : RdH w v l := by
  obtain ⟨a, cap, hv, h1, h2, h3, h4⟩ := h.ex
  refine ⟨a, cap, hv, h1, h2, fun q => (h3 q).1, fun x hx hp => ?_⟩
  obtain ⟨hs, hc⟩ := h4 x hx hp
  exact ⟨hs, fun i hi => ⟨hc i hi 0 _ rfl, hc i hi 1 _ rfl⟩⟩

end Cm
end Go.Proofs.Ytfkpgndbohoogaa

/- Contracts: slices.IndexFunc over memos, whatever the test; package memo's closures, indexOf, placeOf. -/
set_option linter.unusedVariables false
set_option linter.unusedSimpArgs false
namespace Go.Proofs.Ytfkpgndbohoogaa
open Go.RowKit Go.Shelf
namespace Cm

set_option maxHeartbeats 2000000 in
theorem IdxM_any (p : MemC → Bool) (g : Nat) (lb : Array Value) (eg : ∀ args w, (callFunc g args).run Try.prog w = .ok (.enter g args) w) (v : Value) (l : List MemC) (w : World) (h : RdX 6 cellsM w v l)
    (hp : ∀ (W : World) (x : MemC), Below w.heap.size w W → Calls Try.prog g (#[memVal x] ++ lb) W (SaysB (p x) W)) :
    Calls Try.prog 32 #[v, .func (.func g) #[] lb] w (SaysI (idxI p l) w) := by
  have hm := h.len
  obtain ⟨a, cap, rfl⟩ := h.form
  have HA := Lib.hid (fun i hi => rdm_at h i hi)
  have HP := Lib.hid hp
  have HH := Lib.hid (idxI_hit p l)
  have HM := Lib.hid (idxI_miss p l)
  clear h hp
  obtain ⟨L, hL⟩ : ∃ L, l.length = L := ⟨_, rfl⟩
  have HLL := Lib.hid hL
  rw [hL] at hm ⊢
  clear hL
  go_enter Try.func32, Try.ntmps32
  go_wp2
  go_loopg [5, 8] L (fun gg _ s8 wr => ∃ kk : Nat, kk ≤ L ∧ L - kk ≤ gg ∧ s8 = .int .i64 kk ∧ Hid (Below w.heap.size w wr) ∧ Hid (∀ j (hj : j < kk) (hl : j < l.length), p l[j] = false))
  case atStart => exact ⟨0, Nat.zero_le _, by omega, rfl, Lib.hid (Below.refl _ w), Lib.hid (fun j hj => absurd hj (Nat.not_lt_zero _))⟩
  case round =>
    obtain ⟨kk, hkk, hg, rfl, HB, HJ⟩ := hrel
    by_cases hlt : kk < L
    · have hkl : kk < l.length := by rw [HLL.out]; exact hlt
      obtain ⟨b, o, rfl, hc⟩ := HA.out kk hkl
      obtain ⟨q0, q1, q2, q3, q4, q5⟩ := hc _ HB.out
      have hcall := HP.out wr l[kk] HB.out
      have HI : Hid (p l[kk] = true → idxI p l = kk) := Lib.hid (fun q => HH.out kk hkl q (fun j hj => HJ.out j hj (by omega)))
      have HN : Hid (p l[kk] = false → ∀ j (hj : j < kk + 1) (hl : j < l.length), p l[j] = false) := Lib.hid (fun q j hj hl => by
        by_cases e : j = kk
        · subst e; exact q
        · exact HJ.out j (by omega) hl)
      clear hc HH HM HA HP
      generalize l[kk] = x at q0 q1 q2 q3 q4 q5 hcall HI HN
      obtain ⟨⟨xc, xs, xk, xn, xd, xl⟩, xa, xp⟩ := x
      unfold MemC.hv at q5
      unfold memVal MemC.hv at hcall
      dsimp only at q0 q1 q2 q3 q4 q5 hcall
      cases hq : p ⟨⟨xc, xs, xk, xn, xd, xl⟩, xa, xp⟩ with
      | true =>
        rw [hq] at hcall
        have HC := Lib.hid hcall
        have HI := Lib.hid (HI.out hq)
        clear hcall hq HN
        go_wp2_with (go_at_fn g; refine HC.out.mono ?_; rintro e w' ⟨rfl, hb'⟩)
        go_ret
        exact ⟨by rw [HI.out]; rfl, step HB.out hb'⟩
      | false =>
        rw [hq] at hcall
        have HC := Lib.hid hcall
        have HN := Lib.hid (HN.out hq)
        clear hcall hq HI
        go_wp2_with (go_at_fn g; refine HC.out.mono ?_; rintro e w' ⟨rfl, hb'⟩)
        go_roundg (L - (kk + 1))
        case measure => omega
        case rel => exact ⟨kk + 1, by omega, by omega, by go_num, Lib.hid (step HB.out hb'), HN⟩
    · obtain rfl : kk = L := by omega
      have hmiss := HM.out (fun j hj => HJ.out j (by rw [← HLL.out]; exact hj) hj)
      have HMM := Lib.hid hmiss
      clear hmiss HM HH HP
      go_wp2
      go_ret
      exact ⟨by rw [HMM.out]; rfl, HB.out⟩

theorem indexM1_any (x : MemC) (w : World) (b : Nat) (c : Int) (hb : w.cell? ⟨b, 0, none⟩ = some (.int .i64 c)) :
    Calls Try.prog 33 #[memVal x, .pointer (some ⟨b, 0, none⟩)] w (SaysB (isCl c x.m) w) := by
  obtain ⟨⟨xc, xs, xk, xn, xd, xl⟩, xa, xp⟩ := x
  unfold memVal MemC.hv isCl
  dsimp only
  have HB := Lib.hid (newAlloc w (.cells #[.int .i64 xc, .int .i64 xs, .int .i64 xk, .int .i64 xn, .int .i64 xd, .slice xa xl.length xp] 35))
  obtain ⟨y0, y1, y2, y3, y4, y5⟩ := box6 (Below.refl _ (w.alloc (.cells #[.int .i64 xc, .int .i64 xs, .int .i64 xk, .int .i64 xn, .int .i64 xd, .slice xa xl.length xp] 35)))
  have z1 := (HB.out.cell (lt_of_cell hb)).trans hb
  clear hb
  generalize xl.length = N at *
  go_enter Try.func33, Try.ntmps33
  go_wp2
  go_ret
  exact ⟨by simp <;> rfl, HB.out⟩

theorem placeM1_any (x : MemC) (w : World) (b : Nat) (c : Int) (hb : w.cell? ⟨b, 0, none⟩ = some (.int .i64 c)) :
    Calls Try.prog 36 #[memVal x, .pointer (some ⟨b, 0, none⟩)] w (SaysB (decide (c < x.m.client)) w) := by
  obtain ⟨⟨xc, xs, xk, xn, xd, xl⟩, xa, xp⟩ := x
  unfold memVal MemC.hv
  dsimp only
  have HB := Lib.hid (newAlloc w (.cells #[.int .i64 xc, .int .i64 xs, .int .i64 xk, .int .i64 xn, .int .i64 xd, .slice xa xl.length xp] 35))
  obtain ⟨y0, y1, y2, y3, y4, y5⟩ := box6 (Below.refl _ (w.alloc (.cells #[.int .i64 xc, .int .i64 xs, .int .i64 xk, .int .i64 xn, .int .i64 xd, .slice xa xl.length xp] 35)))
  have z1 := (HB.out.cell (lt_of_cell hb)).trans hb
  clear hb
  generalize xl.length = N at *
  go_enter Try.func36, Try.ntmps36
  go_wp2
  go_ret
  exact ⟨by simp <;> rfl, HB.out⟩

theorem enters_indexM : ∀ args w, (callFunc 33 args).run Try.prog w = .ok (.enter 33 args) w := enters_of Try.func33 (by kernel_rfl) rfl
theorem enters_placeM : ∀ args w, (callFunc 36 args).run Try.prog w = .ok (.enter 36 args) w := enters_of Try.func36 (by kernel_rfl) rfl

theorem idx_valsM (p : AnsV → Bool) (l : List MemC) : idxI p (valsM l) = idxI (fun x : MemC => p x.m) l := by
  unfold idxI valsM
  rw [List.findIdx_map, List.length_map]
  rfl

theorem indexOfM_any (v : Value) (l : List MemC) (c : Int) (w : World) (h : RdX 6 cellsM w v l) : Calls Try.prog 23 #[v, .int .i64 c] w (SaysI (idxI (isCl c) (valsM l)) w) := by
  rw [idx_valsM]
  have hmf : ∀ (fn : Fn) (first cap : Array Value) (w : World), (Instr.makeFunc fn first cap).run Try.prog w = .ok (.func fn first cap) w := fun _ _ _ _ => rfl
  have HI := Lib.hid (IdxM_any (fun x => isCl c x.m) 33 #[.pointer (some ⟨w.heap.size, 0, none⟩)] enters_indexM v l (w.alloc (.cells #[.int .i64 c] 3)) (h.later (newAlloc _ _))
    (fun W x hb => indexM1_any x W w.heap.size c (box1k_at w _ _ W hb)))
  have HB := Lib.hid (newAlloc w (.cells #[.int .i64 c] 3))
  obtain ⟨a, cap, rfl⟩ := h.form
  clear h
  generalize idxI (fun x : MemC => isCl c x.m) l = r at HI ⊢
  generalize l.length = L at *
  go_enter Try.func23, Try.ntmps23
  go_wp2_with (go_at_call 32; refine HI.out.mono ?_; rintro e w' ⟨rfl, hb'⟩)
  go_ret
  exact ⟨rfl, step HB.out hb'⟩

theorem placeM_le (c : Int) (l : List AnsV) : placeM c l ≤ l.length := List.findIdx_le_length

theorem placeOfM_any (v : Value) (l : List MemC) (c : Int) (w : World) (h : RdX 6 cellsM w v l) : Calls Try.prog 25 #[v, .int .i64 c] w (SaysI (placeM c (valsM l) : Int) w) := by
  have hmf : ∀ (fn : Fn) (first cap : Array Value) (w : World), (Instr.makeFunc fn first cap).run Try.prog w = .ok (.func fn first cap) w := fun _ _ _ _ => rfl
  have HI := Lib.hid (IdxM_any (fun x => decide (c < x.m.client)) 36 #[.pointer (some ⟨w.heap.size, 0, none⟩)] enters_placeM v l (w.alloc (.cells #[.int .i64 c] 3)) (h.later (newAlloc _ _))
    (fun W x hb => placeM1_any x W w.heap.size c (box1k_at w _ _ W hb)))
  have HB := Lib.hid (newAlloc w (.cells #[.int .i64 c] 3))
  have hpl : l.findIdx (fun x : MemC => decide (c < x.m.client)) = placeM c (valsM l) := by
    unfold placeM valsM
    rw [List.findIdx_map]
    rfl
  have hm := h.len
  have hle : placeM c (valsM l) ≤ l.length := by have := placeM_le c (valsM l); rw [valsM_length] at this; exact this
  obtain ⟨a, cap, rfl⟩ := h.form
  clear h
  by_cases hq : placeM c (valsM l) < l.length
  · have e : idxI (fun x : MemC => decide (c < x.m.client)) l = (placeM c (valsM l) : Int) := by unfold idxI; rw [hpl]; exact if_pos hq
    rw [e] at HI
    clear e hq hpl
    generalize placeM c (valsM l) = r at HI hle ⊢
    generalize l.length = L at *
    go_enter Try.func25, Try.ntmps25
    go_wp2_with (go_at_call 32; refine HI.out.mono ?_; rintro e w' ⟨rfl, hb'⟩)
    go_ret
    exact ⟨rfl, step HB.out hb'⟩
  · have e : idxI (fun x : MemC => decide (c < x.m.client)) l = -1 := by unfold idxI; rw [hpl]; exact if_neg hq
    have e2 : placeM c (valsM l) = l.length := by omega
    rw [e] at HI
    rw [e2]
    clear e hq e2 hle hpl
    generalize l.length = L at *
    go_enter Try.func25, Try.ntmps25
    go_wp2_with (go_at_call 32; refine HI.out.mono ?_; rintro e w' ⟨rfl, hb'⟩)
    go_ret
    exact ⟨rfl, step HB.out hb'⟩
end Cm
end Go.Proofs.Ytfkpgndbohoogaa

/- Contracts: slices.Clone over what is held; package memo's copyOf, copies. -/
set_option linter.unusedVariables false
set_option linter.unusedSimpArgs false
namespace Go.Proofs.Ytfkpgndbohoogaa
open Go.RowKit Go.Shelf
namespace Cm

/-- What is held, told in new memory of the call's own. -/
def MadeH (l : List GrantV) (w : World) (e : Ending) (w' : World) : Prop :=
  ∃ v, e = .returned v ∧ w'.ownsRow w.heap.size 61 2 v l.length (flatX cellsG l) ∧ Below w.heap.size w w'

theorem RdH.x {w : World} {x : Addr} {n cap : Nat} {l : List GrantV} (h : RdH w (.slice (some x) n cap) l) : RdX 2 cellsG w (.slice (some x) n cap) l := by
  obtain ⟨a', cap', hv, h1, h2, h3, h4⟩ := h.ex
  cases hv
  refine ⟨some x, cap, rfl, h1, h2, (fun q => by cases q), fun y hy hp => ?_⟩
  obtain ⟨hs, hc⟩ := h4 y hy hp
  refine ⟨hs, fun i hi j u hu => ?_⟩
  obtain ⟨c1, c2⟩ := hc i hi
  match j, hu with
  | 0, hu => cases hu; exact c1
  | 1, hu => cases hu; exact c2

theorem CloneH_any (v : Value) (l : List GrantV) (w : World) (h : RdH w v l) (h5 : l.length ≤ 1000000) :
    Calls Try.prog 31 #[v] w (MadeH l w) := by
  obtain ⟨i0, hi, hz0, hz1, hz2⟩ := info_parts infoG8
  have heq : ∀ w a n c, (binOp .eql 26 (.slice a n c) (.slice none 0 0)).run Try.prog w = .ok (.bool a.isNone) w := fun w a n c => Lib.run_eql_slice_nil w 26 61 a n c 0 0 Try.underlying26
  obtain ⟨a, cap, rfl, -, -, hn, -⟩ := h.ex
  cases a with
  | none =>
    have hl : l = [] := hn rfl
    subst hl
    clear h hn
    go_enter Try.func31, Try.ntmps31
    go_wp2
    go_ret
    exact ⟨_, rfl, World.ownsRow_nil _ _ _ _, Below.refl _ _⟩
  | some ad =>
    have HR2 := Lib.hid (fun o => h.x.later (newAlloc w o))
    clear h hn
    go_enter Try.func31, Try.ntmps31
    go_wp2_with (at_builtin; refine wpList_append_rdx cellsG_length (by omega) cellsG_one rfl _ _ 26 rfl w.heap.size 61 i0 _ 24 Try.underlying26 hi hz0 hz1 hz2 rfl _ 0 [] rfl (own_new w _ 2 _ _ rfl (Nat.le_refl _)) _ l rfl (HR2.out _) (by unfold maxLen; omega) (by omega) (newAlloc w (.cells #[] 61)).size ?_; intro v1 w2 hown2 hgrow2)
    go_ret
    refine ⟨_, rfl, by simpa using hown2, (newAlloc w (.cells #[] 61)).grown hgrow2 (newAlloc w (.cells #[] 61)).size (fun k hk => ?_)⟩
    cases hk
    exact Nat.le_refl _

/-- A memo told, what it holds in memory of the call's own. -/
def IsCopyM (x : AnsV) (w : World) (e : Ending) (w' : World) : Prop :=
  ∃ a c, e = .returned (.agg #[.int .i64 x.client, .int .i64 x.seq, .int .i64 x.rep.code, .int .i64 x.rep.session, .int .i64 x.rep.ahead, .slice a x.rep.held.length c]) ∧ w'.ownsRow w.heap.size 61 2 (.slice a x.rep.held.length c) x.rep.held.length (flatX cellsG x.rep.held) ∧ Below w.heap.size w w'

set_option maxHeartbeats 2000000 in
theorem copyOfM_any (x : MemC) (w : World) (hl : RdH w x.hv x.m.rep.held) (h5 : x.m.rep.held.length ≤ 1000) : Calls Try.prog 22 #[memVal x] w (IsCopyM x.m w) := by
  obtain ⟨⟨xc, xs, xk, xn, xd, xl⟩, xa, xp⟩ := x
  unfold memVal IsCopyM
  unfold MemC.hv at hl ⊢
  dsimp only at hl h5 ⊢
  have hb1 := newAlloc w (.cells #[.int .i64 xc, .int .i64 xs, .int .i64 xk, .int .i64 xn, .int .i64 xd, .slice xa xl.length xp] 35)
  obtain ⟨c0, c1, c2, c3, c4, c5⟩ := box6 (Below.refl _ (w.alloc (.cells #[.int .i64 xc, .int .i64 xs, .int .i64 xk, .int .i64 xn, .int .i64 xd, .slice xa xl.length xp] 35)))
  have cf := free6m (Below.refl _ (w.alloc (.cells #[.int .i64 xc, .int .i64 xs, .int .i64 xk, .int .i64 xn, .int .i64 xd, .slice xa xl.length xp] 35)))
  obtain ⟨W1, hW1⟩ : ∃ W1, W1 = w.alloc (.cells #[.int .i64 xc, .int .i64 xs, .int .i64 xk, .int .i64 xn, .int .i64 xd, .slice xa xl.length xp] 35) := ⟨_, rfl⟩
  rw [← hW1] at hb1 c0 c1 c2 c3 c4 c5 cf
  have hs : W1.heap.size = w.heap.size + 1 := by rw [hW1]; simp
  have hb2 := newAlloc W1 (.cells #[.int .i64 0, .int .i64 0, .int .i64 0, .int .i64 0, .int .i64 0, .slice none 0 0] 35)
  have k0 := (hb2.cell (lt_of_cell c0)).trans c0
  have k1 := (hb2.cell (lt_of_cell c1)).trans c1
  have k2 := (hb2.cell (lt_of_cell c2)).trans c2
  have k3 := (hb2.cell (lt_of_cell c3)).trans c3
  have k4 := (hb2.cell (lt_of_cell c4)).trans c4
  have k5 := (hb2.cell (lt_of_cell c5)).trans c5
  have kf : ∀ k, (W1.alloc (.cells #[.int .i64 0, .int .i64 0, .int .i64 0, .int .i64 0, .int .i64 0, .slice none 0 0] 35)).frozen? ⟨w.heap.size, k, none⟩ = false := fun k => (hb2.frozen (p := ⟨w.heap.size, k, none⟩) (show w.heap.size < _ from lt_of_cell c0)).trans (cf k)
  obtain ⟨d0, d1, d2, d3, d4, d5⟩ := box6 (Below.refl _ (W1.alloc (.cells #[.int .i64 0, .int .i64 0, .int .i64 0, .int .i64 0, .int .i64 0, .slice none 0 0] 35)))
  have df := free6m (Below.refl _ (W1.alloc (.cells #[.int .i64 0, .int .i64 0, .int .i64 0, .int .i64 0, .int .i64 0, .slice none 0 0] 35)))
  obtain ⟨W2, hW2⟩ : ∃ W2, W2 = W1.alloc (.cells #[.int .i64 0, .int .i64 0, .int .i64 0, .int .i64 0, .int .i64 0, .slice none 0 0] 35) := ⟨_, rfl⟩
  rw [← hW2] at hb2 k0 k1 k2 k3 k4 k5 kf d0 d1 d2 d3 d4 d5 df
  rw [hs] at d0 d1 d2 d3 d4 d5 df
  have HB := Lib.hid (step hb1 hb2)
  have hs2 : W2.heap.size = w.heap.size + 2 := by rw [hW2]; simp [hs]
  have HS2 := Lib.hid hs2
  have HQ : Hid (∀ w', Below W2.heap.size W2 w' → (w'.cell? ⟨w.heap.size, 0, none⟩ = some (.int .i64 xc) ∧ w'.cell? ⟨w.heap.size, 1, none⟩ = some (.int .i64 xs) ∧ w'.cell? ⟨w.heap.size, 2, none⟩ = some (.int .i64 xk) ∧ w'.cell? ⟨w.heap.size, 3, none⟩ = some (.int .i64 xn) ∧ w'.cell? ⟨w.heap.size, 4, none⟩ = some (.int .i64 xd) ∧ w'.cell? ⟨w.heap.size, 5, none⟩ = some (.slice xa xl.length xp)) ∧ ∀ k, w'.frozen? ⟨w.heap.size, k, none⟩ = false) := Lib.hid fun w' hb => ⟨⟨(hb.cell (lt_of_cell k0)).trans k0, (hb.cell (lt_of_cell k1)).trans k1, (hb.cell (lt_of_cell k2)).trans k2, (hb.cell (lt_of_cell k3)).trans k3, (hb.cell (lt_of_cell k4)).trans k4, (hb.cell (lt_of_cell k5)).trans k5⟩, fun k => (hb.frozen (p := ⟨w.heap.size, k, none⟩) (show w.heap.size < _ from lt_of_cell k0)).trans (kf k)⟩
  have HD : Hid (∀ w', Below W2.heap.size W2 w' → (w'.cell? ⟨w.heap.size + 1, 0, none⟩ = some (.int .i64 0) ∧ w'.cell? ⟨w.heap.size + 1, 1, none⟩ = some (.int .i64 0) ∧ w'.cell? ⟨w.heap.size + 1, 2, none⟩ = some (.int .i64 0) ∧ w'.cell? ⟨w.heap.size + 1, 3, none⟩ = some (.int .i64 0) ∧ w'.cell? ⟨w.heap.size + 1, 4, none⟩ = some (.int .i64 0) ∧ w'.cell? ⟨w.heap.size + 1, 5, none⟩ = some (.slice none 0 0)) ∧ ∀ k, w'.frozen? ⟨w.heap.size + 1, k, none⟩ = false) := Lib.hid fun w' hb => ⟨⟨(hb.cell (lt_of_cell d0)).trans d0, (hb.cell (lt_of_cell d1)).trans d1, (hb.cell (lt_of_cell d2)).trans d2, (hb.cell (lt_of_cell d3)).trans d3, (hb.cell (lt_of_cell d4)).trans d4, (hb.cell (lt_of_cell d5)).trans d5⟩, fun k => (hb.frozen (p := ⟨w.heap.size + 1, k, none⟩) (show w.heap.size + 1 < _ from lt_of_cell d0)).trans (df k)⟩
  have KC : Hid (∀ w', Below W2.heap.size W2 w' → Calls Try.prog 31 #[.slice xa xl.length xp] w' (MadeH xl w')) := Lib.hid fun w' hb => CloneH_any _ xl w' (hl.later (step HB.out hb)) (by omega)
  clear hb1 hb2 c0 c1 c2 c3 c4 c5 cf k0 k1 k2 k3 k4 k5 kf d0 d1 d2 d3 d4 d5 df hl
  obtain ⟨L, hL⟩ : ∃ L, xl.length = L := ⟨_, rfl⟩
  have HL := Lib.hid hL
  rw [hL] at h5 HQ KC ⊢
  rw [hL] at hW1
  clear hL
  go_enter Try.func22, Try.ntmps22
  go_upto_region 1 with fail
  rw [← hW1, ← hW2]
  clear hW1 hW2 hs hs2
  obtain ⟨⟨k0, k1, k2, k3, k4, k5⟩, -⟩ := HQ.out _ (Below.refl _ W2)
  go_upto_region 2 with (go_at_call 31; refine (KC.out _ (Below.refl _ _)).mono ?_; rintro e w6 ⟨v6, rfl, ho6, hb6⟩; have HO6 := Lib.hid ho6; obtain ⟨a6, c6, rfl⟩ := Rw.own_form HO6.out; have HB6 := Lib.hid hb6; obtain ⟨⟨p0, p1, p2, p3, p4, p5⟩, pf⟩ := HQ.out _ hb6; clear ho6 hb6)
  obtain ⟨W7, hW7⟩ : ∃ W7, W7 = w6.setCell ⟨w.heap.size, 5, none⟩ (.slice a6 xl.length c6) := ⟨_, rfl⟩
  obtain ⟨⟨y0, y1, y2, y3, y4, y5⟩, yf⟩ := HD.out _ HB6.out
  have t0 : W7.cell? ⟨w.heap.size, 0, none⟩ = some (.int .i64 xc) := by rw [hW7]; simp [go_sem, p0]
  have t1 : W7.cell? ⟨w.heap.size, 1, none⟩ = some (.int .i64 xs) := by rw [hW7]; simp [go_sem, p1]
  have t2 : W7.cell? ⟨w.heap.size, 2, none⟩ = some (.int .i64 xk) := by rw [hW7]; simp [go_sem, p2]
  have t3 : W7.cell? ⟨w.heap.size, 3, none⟩ = some (.int .i64 xn) := by rw [hW7]; simp [go_sem, p3]
  have t4 : W7.cell? ⟨w.heap.size, 4, none⟩ = some (.int .i64 xd) := by rw [hW7]; simp [go_sem, p4]
  have t5 : W7.cell? ⟨w.heap.size, 5, none⟩ = some (.slice a6 xl.length c6) := by rw [hW7]; simp [go_sem, p5, pf]
  have e0 : W7.cell? ⟨w.heap.size + 1, 0, none⟩ = some (.int .i64 0) := by rw [hW7]; simp [go_sem, y0]
  have e1 : W7.cell? ⟨w.heap.size + 1, 1, none⟩ = some (.int .i64 0) := by rw [hW7]; simp [go_sem, y1]
  have e2 : W7.cell? ⟨w.heap.size + 1, 2, none⟩ = some (.int .i64 0) := by rw [hW7]; simp [go_sem, y2]
  have e3 : W7.cell? ⟨w.heap.size + 1, 3, none⟩ = some (.int .i64 0) := by rw [hW7]; simp [go_sem, y3]
  have e4 : W7.cell? ⟨w.heap.size + 1, 4, none⟩ = some (.int .i64 0) := by rw [hW7]; simp [go_sem, y4]
  have e5 : W7.cell? ⟨w.heap.size + 1, 5, none⟩ = some (.slice none 0 0) := by rw [hW7]; simp [go_sem, y5]
  have ef : ∀ k, W7.frozen? ⟨w.heap.size + 1, k, none⟩ = false := fun k => by rw [hW7]; simp [go_sem, yf]
  have hs2 := HS2.out
  have hlt : w.heap.size + 1 < W2.heap.size := by omega
  have hlt0 : w.heap.size < W2.heap.size := by omega
  have HO7 : Hid (W7.ownsRow W2.heap.size 61 2 (.slice a6 xl.length c6) xl.length (flatX cellsG xl)) := Lib.hid (by rw [hW7]; exact ownsRow_setCell_below HO6.out hlt0 _)
  have HB7 : Hid (Below w.heap.size w W7) := Lib.hid (by rw [hW7]; exact (step HB.out HB6.out).setCell (Nat.le_refl _) _)
  rw [← hW7]
  clear hW7 HO6 HQ HD KC k0 k1 k2 k3 k4 k5 p0 p1 p2 p3 p4 p5 pf y0 y1 y2 y3 y4 y5 yf hs2
  go_wp2
  refine bodyPost_ret (by simp [results, Try.results22, go_sem, e0, e1, e2, e3, e4, e5, ef] <;> rfl) rfl ?_
  have ho := HO7.out
  rw [HL.out] at ho ⊢
  refine ⟨a6, c6, rfl, own_lowerX (ownsRow_setCell_below (ownsRow_setCell_below (ownsRow_setCell_below (ownsRow_setCell_below (ownsRow_setCell_below (ownsRow_setCell_below ho hlt _) hlt _) hlt _) hlt _) hlt _) hlt _) HB.out.size, set6m HB7.out _ (Nat.le_succ _) _ _ _ _ _ _⟩

/-- Memos in memory of the call's own, what they hold too. -/
structure OwnM (base : Nat) (w : World) (v : Value) (M : List MemC) : Prop where
  row : w.ownsRow base 35 6 v M.length (flatX cellsM M)
  held : ∀ x ∈ M, w.ownsRow base 61 2 x.hv x.m.rep.held.length (flatX cellsG x.m.rep.held)

theorem OwnM.nil (base : Nat) (w : World) : OwnM base w (.slice none 0 0) [] := ⟨World.ownsRow_nil _ _ _ _, fun x hx => by cases hx⟩
theorem OwnM.rd {base : Nat} {w : World} {v : Value} {M : List MemC} (h : OwnM base w v M) : RdM w v M := ⟨RdX.own cellsM_length h.row, fun x hx => RdH.of (RdX.own cellsG_length (h.held x hx))⟩
theorem OwnM.later {base : Nat} {w w' : World} {v : Value} {M : List MemC} (h : OwnM base w v M) (hb : Below w.heap.size w w') : OwnM base w' v M := ⟨Rw.own_below h.row hb, fun x hx => Rw.own_below (h.held x hx) hb⟩
theorem OwnM.lower {base base' : Nat} {w : World} {v : Value} {M : List MemC} (h : OwnM base w v M) (hb : base' ≤ base) : OwnM base' w v M := ⟨own_lowerX h.row hb, fun x hx => own_lowerX (h.held x hx) hb⟩
/-- What they hold, where their row alone has grown. -/
theorem OwnM.kept {base : Nat} {w w' : World} {v : Value} {M : List MemC} (h : OwnM base w v M) (hg : w.grownBy w' v.ownBlock) : ∀ x ∈ M, w'.ownsRow base 61 2 x.hv x.m.rep.held.length (flatX cellsG x.m.rep.held) :=
  fun x hx => Rw.own_other (h.held x hx) hg (own_types h.row (h.held x hx) (by decide))

theorem OwnM.push {base base' : Nat} {wr w3 w6 : World} {m v' : Value} {M : List MemC} {x : MemC} (h : OwnM base wr m M) (hb : Below wr.heap.size wr w3)
    (hl : w3.ownsRow base' 61 2 x.hv x.m.rep.held.length (flatX cellsG x.m.rep.held)) (hbs : base ≤ base') (hg : w3.grownBy w6 m.ownBlock)
    (ho : w6.ownsRow base 35 6 v' (M ++ [x]).length (flatX cellsM (M ++ [x]))) : OwnM base w6 v' (M ++ [x]) := by
  have hm := h.later hb
  refine ⟨ho, fun y hy => ?_⟩
  rcases List.mem_append.1 hy with q | q
  · exact hm.kept hg y q
  · rw [List.mem_singleton] at q
    subst q
    exact own_lowerX (Rw.own_other hl hg (own_types hm.row hl (by decide))) hbs

/-- Memos told, in memory of the call's own. -/
def MadeM (l : List AnsV) (w : World) (e : Ending) (w' : World) : Prop :=
  ∃ v M, e = .returned v ∧ valsM M = l ∧ OwnM w.heap.size w' v M ∧ Below w.heap.size w w'

set_option maxHeartbeats 4000000 in
theorem copiesM_any (v : Value) (L : List MemC) (w : World) (h : RdM w v L) (h5 : L.length ≤ 1000) (h6 : ∀ x ∈ L, x.m.rep.held.length ≤ 1000) : Calls Try.prog 20 #[v] w (MadeM (valsM L) w) := by
  have hm := h.len
  obtain ⟨a, cap, rfl⟩ := h.form
  have HA := Lib.hid (fun i hi => rdm_at h.row i hi)
  have HL : Hid (∀ i (hi : i < L.length) (w' : World), Below w.heap.size w w' → Calls Try.prog 22 #[memVal L[i]] w' (IsCopyM L[i].m w')) := Lib.hid fun i hi w' hb => copyOfM_any _ w' ((h.held _ (List.getElem_mem hi)).later hb) (h6 _ (List.getElem_mem hi))
  have HV : Hid (∀ i (hi : i < L.length), valsM (L.take (i + 1)) = valsM (L.take i) ++ [L[i].m]) := Lib.hid fun i hi => by
    rw [List.take_succ_eq_append_getElem hi]
    unfold valsM
    rw [List.map_append]
    rfl
  clear h h6
  obtain ⟨N, hN⟩ : ∃ N, L.length = N := ⟨_, rfl⟩
  have HLL := Lib.hid hN
  rw [hN] at hm h5 ⊢
  clear hN
  obtain ⟨i1, hi', hz0', hz1', hz2'⟩ := info_parts infoM
  go_enter Try.func20, Try.ntmps20
  go_wp2
  go_loopw [3, 8] (fun m i wr => ∃ (k : Nat) (M : List MemC), k ≤ N ∧ i = .int .i64 k ∧ M.length = k ∧ Hid (valsM M = valsM (L.take k)) ∧ Hid (OwnM w.heap.size wr m M) ∧ Hid (Below w.heap.size w wr)) (fun _ i _ => N - (intOf i).toNat)
  case atStart => exact ⟨0, [], by omega, rfl, rfl, Lib.hid rfl, Lib.hid (OwnM.nil _ _), Lib.hid (Below.refl _ _)⟩
  case round =>
    obtain ⟨k, M, hk, rfl, hMk, HM, HO, HB⟩ := hrel
    by_cases hlt : k < N
    · have hkl : k < L.length := by rw [HLL.out]; exact hlt
      obtain ⟨b, o, rfl, hc⟩ := HA.out k hkl
      obtain ⟨q0, q1, q2, q3, q4, q5⟩ := hc _ HB.out
      have hl := HL.out k hkl
      have hv := HV.out k hkl
      clear hc HA HL HV
      generalize L[k] = x at q0 q1 q2 q3 q4 q5 hl hv
      obtain ⟨⟨xc, xs, xk, xn, xd, xl⟩, xa, xp⟩ := x
      unfold memVal MemC.hv IsCopyM at hl
      unfold MemC.hv at q5
      dsimp only at q0 q1 q2 q3 q4 q5 hl hv
      have HVV := Lib.hid hv
      have HCC := Lib.hid hl
      clear hl hv
      go_upto_region 5 with fail
      obtain ⟨W1, hW1⟩ : ∃ W1, W1 = wr.alloc (.cells #[.int .i64 xc, .int .i64 xs, .int .i64 xk, .int .i64 xn, .int .i64 xd, .slice xa xl.length xp] 35) := ⟨_, rfl⟩
      have HB1 : Hid (Below wr.heap.size wr W1) := Lib.hid (by rw [hW1]; exact newAlloc _ _)
      obtain ⟨z0, z1, z2, z3, z4, z5⟩ := box6 (Below.refl _ (wr.alloc (.cells #[.int .i64 xc, .int .i64 xs, .int .i64 xk, .int .i64 xn, .int .i64 xd, .slice xa xl.length xp] 35)))
      rw [← hW1] at z0 z1 z2 z3 z4 z5 ⊢
      clear hW1 q0 q1 q2 q3 q4 q5
      have HCC := Lib.hid (HCC.out W1 (step HB.out HB1.out))
      have hb1 := HB1.out.size
      have hbw := HB.out.size
      go_wp2_with (first
        | (go_at_call 22; refine HCC.out.mono ?_; rintro e w3 ⟨ya, yc, rfl, hl3, hb3⟩; have HO3 := Lib.hid hl3; have HB3 := Lib.hid (step HB1.out hb3); have HM3 : Hid (w3.ownsRow w.heap.size 35 6 u3 M.length (flatX cellsM M)) := Lib.hid (HO.out.later HB3.out).row; have hb3s := hb3.size; clear hl3 hb3)
        | (at_builtin; refine wpList_append_one_gr cellsM_length (by omega) rfl (.tmp 12) (.tmp 15) 24 rfl 35 i1 _ 64 Try.underlying24 hi' hz0' hz1' hz2' rfl #[.int .i64 xc, .int .i64 xs, .int .i64 xk, .int .i64 xn, .int .i64 xd, .slice ya xl.length yc] (⟨⟨xc, xs, xk, xn, xd, xl⟩, ya, yc⟩ : MemC) rfl (cellsM_one _) M w.heap.size u3 rfl rfl HM3.out (by unfold maxLen; omega) (by omega) (by omega) ?_; intro v6 w6 ho6 hg6 _; have HO6 : Hid (OwnM w.heap.size w6 v6 (M ++ [⟨⟨xc, xs, xk, xn, xd, xl⟩, ya, yc⟩])) := Lib.hid (HO.out.push (x := ⟨⟨xc, xs, xk, xn, xd, xl⟩, ya, yc⟩) (stepAlloc HB3.out _) (Rw.own_alloc HO3.out _) (Nat.le_trans hbw hb1) hg6 ho6); have HB6 : Hid (Below w.heap.size w w6) := Lib.hid ((step HB.out (stepAlloc HB3.out _)).grown hg6 (by simp; omega) (fun g hg => (Rw.own_lt HM3.out g hg).1)); clear ho6 hg6))
      go_roundw
      case rel => exact ⟨k + 1, M ++ [⟨⟨xc, xs, xk, xn, xd, xl⟩, ya, yc⟩], by omega, by go_num, by simp; omega, Lib.hid (by rw [HVV.out, ← HM.out]; unfold valsM; rw [List.map_append]; rfl), HO6, HB6⟩
      case measure => simp [intOf]; omega
    · obtain rfl : k = N := by omega
      go_wp2
      go_ret
      have hM := HM.out
      rw [← HLL.out, List.take_length] at hM
      exact ⟨_, M, rfl, hM, HO.out, HB.out⟩
end Cm
end Go.Proofs.Ytfkpgndbohoogaa

/- Contracts: the document's PutReply. -/
set_option linter.unusedVariables false
set_option linter.unusedSimpArgs false
namespace Go.Proofs.Ytfkpgndbohoogaa
open Go.RowKit
namespace Cm

theorem bytesH_take (l : List GrantV) (j : Nat) (h : j < l.length) : bytesH (l.take (j + 1)) = bytesH (l.take j) ++ bytesG l[j] := by
  rw [List.take_succ_eq_append_getElem h, bytesH_snoc]

theorem bytesH_le : ∀ (l : List GrantV), (∀ g ∈ l, g.name.length ≤ 12 ∧ 1 ≤ g.token ∧ g.token ≤ 2305843009213693952) → (bytesH l).length ≤ l.length * 21
  | [], _ => by simp [bytesH]
  | g :: l, h => by
    have := bytesH_le l (fun x hx => h x (List.mem_cons_of_mem _ hx))
    have hg := (h g List.mem_cons_self).1
    rw [bytesH_cons, List.length_append, bytesG_length, List.length_cons]
    omega

theorem two_cells (a b : Nat) (ha : a < 256) (hb : b < 256) : cellsOf [UInt8.ofNat a, UInt8.ofNat b] = [.int .u8 (a : Int), .int .u8 (b : Int)] := by simp [cellsOf]; omega

theorem rd2 (w : World) (a b : Nat) (ha : a < 256) (hb : b < 256) : Rd (w.alloc (.cells #[.int .u8 (a : Int), .int .u8 (b : Int)] 5)) (.slice (some ⟨w.heap.size, 0, none⟩) 2 2) [UInt8.ofNat a, UInt8.ofNat b] :=
  rd_lit w _ _ (two_cells a b ha hb).symm (by unfold maxLen; simp)


end Cm
end Go.Proofs.Ytfkpgndbohoogaa

/- Contracts: the document's PutAnswer. -/
set_option linter.unusedVariables false
set_option linter.unusedSimpArgs false
namespace Go.Proofs.Ytfkpgndbohoogaa
open Go.RowKit
namespace Cm


theorem bytesP_le (r : ReplyV) (hm : mayP r = true) : (bytesP r).length ≤ 95 := by
  obtain ⟨hk, hs, hd, hl4, hall⟩ := mayP_bounds r hm
  have := bytesH_le r.held hall
  rw [bytesP_length]
  omega


end Cm
end Go.Proofs.Ytfkpgndbohoogaa

/- Contracts: the document's GetReply. -/
set_option linter.unusedVariables false
set_option linter.unusedSimpArgs false
namespace Go.Proofs.Ytfkpgndbohoogaa
open Go.RowKit
namespace Cm

def gCells : List GrantV → List Value
  | [] => []
  | g :: l => .string (bstr g.name) :: .int .i64 g.token :: gCells l

theorem gCells_length : ∀ l : List GrantV, (gCells l).length = l.length * 2
  | [] => rfl
  | g :: l => by rw [gCells, List.length_cons, List.length_cons, gCells_length l, List.length_cons]; omega

theorem gCells_snoc : ∀ (l : List GrantV) (g : GrantV), gCells (l ++ [g]) = gCells l ++ [.string (bstr g.name), .int .i64 g.token]
  | [], g => rfl
  | x :: l, g => by rw [List.cons_append, gCells, gCells_snoc l g]; rfl

theorem gCells_get : ∀ (l : List GrantV) (i : Nat) (h : i < l.length), (gCells l)[i * 2]? = some (.string (bstr l[i].name)) ∧ (gCells l)[i * 2 + 1]? = some (.int .i64 l[i].token)
  | g :: l, 0, _ => ⟨rfl, rfl⟩
  | g :: l, i + 1, h => by
    have := gCells_get l i (by simpa using h)
    rw [show (i + 1) * 2 = i * 2 + 1 + 1 by omega, show i * 2 + 1 + 1 + 1 = (i * 2 + 1) + 1 + 1 by omega]
    exact this

theorem RdH.own {w : World} {base : Nat} {e : TypeId} {v : Value} {l : List GrantV} (h : w.ownsRow base e 2 v l.length (gCells l)) : RdH w v l := by
  rcases h.2 with ⟨rfl, hn⟩ | ⟨g, cap, cur, rfl, hb, hg, hn, hc, hs, ht⟩
  · have : l = [] := List.length_eq_zero_iff.1 hn
    subst this
    exact RdH.nil w
  · refine ⟨some ⟨g, 0, none⟩, cap, rfl, hn, hc, (fun q => by cases q), fun x hx hp => ?_⟩
    cases hx
    refine ⟨rfl, fun i hi => ?_⟩
    obtain ⟨h1, h2⟩ := gCells_get l i hi
    have a1 := h.cellAt (i * 2) (by omega)
    have a2 := h.cellAt (i * 2 + 1) (by omega)
    rw [h1] at a1
    rw [h2] at a2
    simp only [Nat.zero_add]
    exact ⟨a1, a2⟩

def repZero : Obj := .cells #[.int .i64 0, .int .i64 0, .int .i64 0, .slice none 0 0] 28
def repBox (k s d : Int) (v : Value) : Obj := .cells #[.int .i64 k, .int .i64 s, .int .i64 d, v] 28

/-- While what is held is read: the answer's place, the reply's box, the list so far. -/
structure GR (w : World) (A : Nat) (k s d : Int) (v : Value) (G : List GrantV) (wr : World) : Prop where
  below : Below w.heap.size w wr
  zero : wr.heap[w.heap.size]? = some repZero
  box : wr.heap[A]? = some (repBox k s d v)
  own : wr.ownsRow (A + 1) 61 2 v G.length (gCells G)
  lt : w.heap.size < A

theorem get_lt {w : World} {a : Nat} {o : Obj} (h : w.heap[a]? = some o) : a < w.heap.size := (Array.getElem?_eq_some_iff.1 h).1

theorem GR.later {w : World} {A : Nat} {k s d : Int} {v : Value} {G : List GrantV} {wr wr' : World} (h : GR w A k s d v G wr) (hb : Below wr.heap.size wr wr') : GR w A k s d v G wr' :=
  ⟨h.below.trans (hb.mono h.below.size), (hb.block _ (get_lt h.zero)).trans h.zero, (hb.block _ (get_lt h.box)).trans h.box, Rw.own_below h.own hb, h.lt⟩

theorem GR.zc {w : World} {A : Nat} {k s d : Int} {v : Value} {G : List GrantV} {wr : World} (h : GR w A k s d v G wr) :
    wr.cell? ⟨w.heap.size, 0, none⟩ = some (.int .i64 0) ∧ wr.cell? ⟨w.heap.size, 1, none⟩ = some (.int .i64 0) ∧ wr.cell? ⟨w.heap.size, 2, none⟩ = some (.int .i64 0) ∧ wr.cell? ⟨w.heap.size, 3, none⟩ = some (.slice none 0 0) ∧ ∀ k, wr.frozen? ⟨w.heap.size, k, none⟩ = false := by
  have hz := h.zero
  unfold repZero at hz
  refine ⟨?_, ?_, ?_, ?_, ?_⟩ <;> simp [World.cell?, World.frozen?, hz]

theorem GR.bc {w : World} {A : Nat} {k s d : Int} {v : Value} {G : List GrantV} {wr : World} (h : GR w A k s d v G wr) :
    wr.cell? ⟨A, 0, none⟩ = some (.int .i64 k) ∧ wr.cell? ⟨A, 1, none⟩ = some (.int .i64 s) ∧ wr.cell? ⟨A, 2, none⟩ = some (.int .i64 d) ∧ wr.cell? ⟨A, 3, none⟩ = some v ∧ ∀ k, wr.frozen? ⟨A, k, none⟩ = false := by
  have hz := h.box
  unfold repBox at hz
  refine ⟨?_, ?_, ?_, ?_, ?_⟩ <;> simp [World.cell?, World.frozen?, hz]

theorem set_box {w : World} {A : Nat} {k s d : Int} {v : Value} (h : w.heap[A]? = some (repBox k s d v)) (u : Value) : (w.setCell ⟨A, 3, none⟩ u).heap[A]? = some (repBox k s d u) := by
  have hl := get_lt h
  unfold repBox at h ⊢
  have h' : w.heap[A] = .cells #[.int .i64 k, .int .i64 s, .int .i64 d, v] 28 := by simpa [hl] using h
  simp [World.setCell, h', hl, Array.getElem_modify]

theorem box_cells {A : Nat} {k s d : Int} {v : Value} {wr : World} (hz : wr.heap[A]? = some (repBox k s d v)) :
    wr.cell? ⟨A, 0, none⟩ = some (.int .i64 k) ∧ wr.cell? ⟨A, 1, none⟩ = some (.int .i64 s) ∧ wr.cell? ⟨A, 2, none⟩ = some (.int .i64 d) ∧ wr.cell? ⟨A, 3, none⟩ = some v ∧ ∀ k, wr.frozen? ⟨A, k, none⟩ = false := by
  unfold repBox at hz
  refine ⟨?_, ?_, ?_, ?_, ?_⟩ <;> simp [World.cell?, World.frozen?, hz]

theorem GR.mid {w : World} {A : Nat} {k s d : Int} {v : Value} {G : List GrantV} {w1 w2 : World} {o : Obj} (h : GR w A k s d v G w1) (hg : (w1.alloc o).grownBy w2 v.ownBlock) : w2.heap[A]? = some (repBox k s d v) := by
  have h1 := h.later (newAlloc w1 o)
  exact (hg.block A (get_lt h1.box) (fun q => by have := (Rw.own_lt h1.own A q.symm).1; omega)).trans h1.box

theorem GR.push {w : World} {A : Nat} {k s d : Int} {v v' : Value} {G : List GrantV} {g : GrantV} {w1 w2 : World} {o : Obj} (h : GR w A k s d v G w1)
    (ho : w2.ownsRow (A + 1) 61 2 v' (G.length + 1) (gCells G ++ [.string (bstr g.name), .int .i64 g.token])) (hg : (w1.alloc o).grownBy w2 v.ownBlock) : GR w A k s d v' (G ++ [g]) (w2.setCell ⟨A, 3, none⟩ v') := by
  have h1 := h.later (newAlloc w1 o)
  have hAl := get_lt h1.box
  have hne : ∀ x, x ≤ A → some x ≠ v.ownBlock := fun x hx q => by
    have := (Rw.own_lt h1.own x q.symm).1
    omega
  have hb2 : w2.heap[A]? = some (repBox k s d v) := (hg.block A hAl (hne A (Nat.le_refl _))).trans h1.box
  have hz2 : w2.heap[w.heap.size]? = some repZero := (hg.block _ (get_lt h1.zero) (hne _ (Nat.le_of_lt h.lt))).trans h1.zero
  have hbelow : Below w.heap.size w w2 := h1.below.grown hg h1.below.size (fun x hx => by have := (Rw.own_lt h1.own x hx).1; have := h.lt; omega)
  refine ⟨hbelow.setCell (Nat.le_of_lt h.lt) _, ?_, set_box hb2 v', ?_, h.lt⟩
  · rw [Below.heap_setCell _ _ _ _ (Nat.ne_of_lt h.lt)]
    exact hz2
  · rw [List.length_append, gCells_snoc]
    refine Rw.own_keep ho fun x hx => ?_
    have := (Rw.own_lt ho x hx).1
    exact Below.heap_setCell _ _ _ _ (by show x ≠ A; omega)

theorem GR.start {w w4 : World} (k s d : Int) (hb : Below (w.alloc repZero).heap.size (w.alloc repZero) w4) : GR w w4.heap.size k s d (.slice none 0 0) [] (w4.alloc (repBox k s d (.slice none 0 0))) := by
  have hs := hb.size
  simp at hs
  have hz : w4.heap[w.heap.size]? = some repZero := by
    rw [hb.block _ (by simp)]
    show (w.heap.push _)[w.heap.size]? = _
    simp
  refine ⟨stepAlloc (step (newAlloc _ _) hb) _, ?_, ?_, World.ownsRow_nil _ _ _ _, by omega⟩
  · rw [(newAlloc w4 _).block _ (get_lt hz)]
    exact hz
  · show (w4.heap.push _)[w4.heap.size]? = _
    simp

theorem own_lower {w : World} {base base' : Nat} {e : TypeId} {size n : Nat} {v : Value} {xs : List Value} (h : w.ownsRow base e size v n xs) (hb : base' ≤ base) : w.ownsRow base' e size v n xs := by
  refine ⟨h.1, ?_⟩
  rcases h.2 with q | ⟨g, cap, cur, h1, h2, r⟩
  · exact .inl q
  · exact .inr ⟨g, cap, cur, h1, Nat.le_trans hb h2, r⟩

/-- The answer, and what it holds, once it lies in its place. -/
theorem GR.fin {w : World} {A : Nat} {k s d : Int} {v : Value} {G : List GrantV} {wr : World} (h : GR w A k s d v G wr) (x y z u : Value) :
    ((((wr.setCell ⟨w.heap.size, 0, none⟩ x).setCell ⟨w.heap.size, 1, none⟩ y).setCell ⟨w.heap.size, 2, none⟩ z).setCell ⟨w.heap.size, 3, none⟩ u).ownsRow (w.heap.size + 1) 61 2 v G.length (gCells G) := by
  refine own_lower (base := A + 1) (Rw.own_keep h.own fun g hg => ?_) (by have := h.lt; omega)
  have h1 := (Rw.own_lt h.own g hg).1
  have h2 := h.lt
  rw [Below.heap_setCell _ _ _ _ (by show g ≠ w.heap.size; omega), Below.heap_setCell _ _ _ _ (by show g ≠ w.heap.size; omega), Below.heap_setCell _ _ _ _ (by show g ≠ w.heap.size; omega), Below.heap_setCell _ _ _ _ (by show g ≠ w.heap.size; omega)]

theorem set4 {w w1 : World} (h : Below w.heap.size w w1) (x y z u : Value) : Below w.heap.size w ((((w1.setCell ⟨w.heap.size, 0, none⟩ x).setCell ⟨w.heap.size, 1, none⟩ y).setCell ⟨w.heap.size, 2, none⟩ z).setCell ⟨w.heap.size, 3, none⟩ u) :=
  (((h.setCell (Nat.le_refl _) _).setCell (Nat.le_refl _) _).setCell (Nat.le_refl _) _).setCell (Nat.le_refl _) _

/-- A reply, a place and a code told; what it holds is new. -/
def GetsP (r : ReplyV × Int × Int) (w : World) (e : Ending) (w' : World) : Prop :=
  ∃ v, e = .returned (.tuple #[repVal r.1 v, .int .i64 r.2.1, .int .i64 r.2.2]) ∧ w'.ownsRow (w.heap.size + 1) 61 2 v r.1.held.length (gCells r.1.held) ∧ Below w.heap.size w w'

theorem GetsP.zeroed {w w' : World} {e : Ending} {c : Int} (he : e = .returned (.tuple #[.agg #[.int .i64 0, .int .i64 0, .int .i64 0, .slice none 0 0], .int .i64 0, .int .i64 c])) (hb : Below w.heap.size w w') : GetsP (zeroP, 0, c) w e w' :=
  ⟨.slice none 0 0, he, World.ownsRow_nil _ _ _ _, hb⟩

/-- What is answered when some are read, and so many are to come. -/
def finP (bs : List UInt8) (k s a : Int) (G : List GrantV) (T : Int) (m : Nat) : ReplyV × Int × Int :=
  if (getHeld bs m T).2.2 ≠ 0 then (zeroP, 0, (getHeld bs m T).2.2) else if mayP ⟨k, s, a, G ++ (getHeld bs m T).1⟩ then (⟨k, s, a, G ++ (getHeld bs m T).1⟩, (getHeld bs m T).2.1, 0) else (zeroP, 0, 4)

theorem finP_zero (bs : List UInt8) (k s a : Int) (G : List GrantV) (T : Int) : finP bs k s a G T 0 = if mayP ⟨k, s, a, G⟩ then (⟨k, s, a, G⟩, T, 0) else (zeroP, 0, 4) := by
  unfold finP
  rw [show getHeld bs 0 T = ([], T, 0) from rfl]
  simp

theorem finP_text (bs : List UInt8) (k s a : Int) (G : List GrantV) (T : Int) (m : Nat) (n : List UInt8) (t e : Int) (h : textOf bs T 12 = (n, t, e)) (he : e ≠ 0) : finP bs k s a G T (m + 1) = (zeroP, 0, e) := by
  unfold finP
  rw [getHeld_succ, h]
  simp [he]

theorem finP_num (bs : List UInt8) (k s a : Int) (G : List GrantV) (T : Int) (m : Nat) (n : List UInt8) (t x u e : Int) (h : textOf bs T 12 = (n, t, 0)) (h2 : numOf bs t = (x, u, e)) (he : e ≠ 0) : finP bs k s a G T (m + 1) = (zeroP, 0, e) := by
  unfold finP
  rw [getHeld_succ, h]
  simp [h2, he]

theorem finP_succ (bs : List UInt8) (k s a : Int) (G : List GrantV) (T : Int) (m : Nat) (n : List UInt8) (t x u : Int) (h : textOf bs T 12 = (n, t, 0)) (h2 : numOf bs t = (x, u, 0)) : finP bs k s a G T (m + 1) = finP bs k s a (G ++ [⟨n, x⟩]) u m := by
  unfold finP
  rw [getHeld_step _ _ _ _ _ _ _ h h2]
  by_cases q : (getHeld bs m u).2.2 ≠ 0
  · rw [if_pos q, if_pos q]
    simp [q]
  · rw [if_neg q, if_neg q]
    simp

theorem byteOf_pos (bs : List UInt8) (t : Int) : 0 ≤ (byteOf bs t).1 := by
  unfold byteOf
  split
  · simp
  · simp only; omega

theorem getP_told (bs : List UInt8) (t : Int) {k t1 e1 s t2 e2 a t3 e3 n t4 e4 : Int} (h1 : byteOf bs t = (k, t1, e1)) (h2 : numOf bs t1 = (s, t2, e2)) (h3 : byteOf bs t2 = (a, t3, e3)) (h4 : byteOf bs t3 = (n, t4, e4)) :
    getP bs t = if e1 ≠ 0 then (zeroP, 0, e1) else if e2 ≠ 0 then (zeroP, 0, e2) else if e3 ≠ 0 then (zeroP, 0, e3) else if e4 ≠ 0 then (zeroP, 0, e4) else if 4 < n then (zeroP, 0, 4) else finP bs k s a [] t4 n.toNat := by
  unfold getP finP
  rw [h1]
  dsimp only
  rw [h2]
  dsimp only
  rw [h3]
  dsimp only
  rw [h4]
  dsimp only
  simp only [List.nil_append]

theorem info49 : (Try.prog.info? 61).map (fun i => (i.zero, i.size, i.bytes)) = some (some (.agg #[.string ⟨#[]⟩, .int .i64 0]), 2, 24) := by kernel_rfl


end Cm
end Go.Proofs.Ytfkpgndbohoogaa

/- Contracts: the document's GetAnswer. -/
set_option linter.unusedVariables false
set_option linter.unusedSimpArgs false
namespace Go.Proofs.Ytfkpgndbohoogaa
open Go.RowKit
namespace Cm

theorem set6 {w w1 : World} (h : Below w.heap.size w w1) (x y z u v s : Value) : Below w.heap.size w ((((((w1.setCell ⟨w.heap.size, 0, none⟩ x).setCell ⟨w.heap.size, 1, none⟩ y).setCell ⟨w.heap.size, 2, none⟩ z).setCell ⟨w.heap.size, 3, none⟩ u).setCell ⟨w.heap.size, 4, none⟩ v).setCell ⟨w.heap.size, 5, none⟩ s) :=
  (((((h.setCell (Nat.le_refl _) _).setCell (Nat.le_refl _) _).setCell (Nat.le_refl _) _).setCell (Nat.le_refl _) _).setCell (Nat.le_refl _) _).setCell (Nat.le_refl _) _

theorem own_set6 {w w1 : World} {base n : Nat} {e : TypeId} {v : Value} {xs : List Value} (h : w1.ownsRow base e 2 v n xs) (hb : w.heap.size < base) (x y z u t s : Value) :
    ((((((w1.setCell ⟨w.heap.size, 0, none⟩ x).setCell ⟨w.heap.size, 1, none⟩ y).setCell ⟨w.heap.size, 2, none⟩ z).setCell ⟨w.heap.size, 3, none⟩ u).setCell ⟨w.heap.size, 4, none⟩ t).setCell ⟨w.heap.size, 5, none⟩ s).ownsRow base e 2 v n xs := by
  refine Rw.own_keep h fun g hg => ?_
  have h1 := (Rw.own_lt h g hg).1
  rw [Below.heap_setCell _ _ _ _ (by show g ≠ w.heap.size; omega), Below.heap_setCell _ _ _ _ (by show g ≠ w.heap.size; omega), Below.heap_setCell _ _ _ _ (by show g ≠ w.heap.size; omega), Below.heap_setCell _ _ _ _ (by show g ≠ w.heap.size; omega), Below.heap_setCell _ _ _ _ (by show g ≠ w.heap.size; omega), Below.heap_setCell _ _ _ _ (by show g ≠ w.heap.size; omega)]

/-- An answer, a place and a code told; what it holds is new. -/
def GetsA (r : AnsV × Int × Int) (w : World) (e : Ending) (w' : World) : Prop :=
  ∃ v, e = .returned (.tuple #[ansVal r.1 v, .int .i64 r.2.1, .int .i64 r.2.2]) ∧ w'.ownsRow (w.heap.size + 1) 61 2 v r.1.rep.held.length (gCells r.1.rep.held) ∧ Below w.heap.size w w'

theorem GetsA.zeroed {w w' : World} {e : Ending} {c : Int} (he : e = .returned (.tuple #[.agg #[.int .i64 0, .int .i64 0, .int .i64 0, .int .i64 0, .int .i64 0, .slice none 0 0], .int .i64 0, .int .i64 c])) (hb : Below w.heap.size w w') : GetsA (zeroA, 0, c) w e w' :=
  ⟨.slice none 0 0, he, World.ownsRow_nil _ _ _ _, hb⟩

theorem getA_told (bs : List UInt8) (t : Int) {k t1 e1 s t2 e2 t3 e3 : Int} {c : ReplyV} (hB : byteOf bs t = (k, t1, e1)) (hN : numOf bs t1 = (s, t2, e2)) (hT : getP bs t2 = (c, t3, e3)) :
    getA bs t = if e1 ≠ 0 then (zeroA, 0, e1) else if e2 ≠ 0 then (zeroA, 0, e2) else if e3 ≠ 0 then (zeroA, 0, e3) else if mayA ⟨k, s, c⟩ then (⟨k, s, c⟩, t3, 0) else (zeroA, 0, 4) := by
  unfold getA
  rw [hB]
  dsimp only
  rw [hN]
  dsimp only
  rw [hT]


end Cm
end Go.Proofs.Ytfkpgndbohoogaa

/- Contracts: padlocklaw5's great. -/
set_option linter.unusedVariables false
set_option linter.unusedSimpArgs false
namespace Go.Proofs.Ytfkpgndbohoogaa
open Go.RowKit
namespace Cm

def greatF (l : List GrantV) : Bool := decide (20 < l.length) || l.any fun g => decide (300 < g.name.length)

theorem any_drop (l : List GrantV) (j : Nat) (h : j < l.length) : (l.drop j).any (fun g => decide (300 < g.name.length)) = (decide (300 < l[j].name.length) || (l.drop (j + 1)).any fun g => decide (300 < g.name.length)) := by
  rw [List.drop_eq_getElem_cons h, List.any_cons]


end Cm
end Go.Proofs.Ytfkpgndbohoogaa
