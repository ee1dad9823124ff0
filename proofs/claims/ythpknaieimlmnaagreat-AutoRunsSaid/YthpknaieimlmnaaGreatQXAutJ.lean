/- Contract: padlockref6's Gone (made by tools/gen_autj.py). -/
import Derived.Test.YthpknaieimlmnaaGreatQ4
import Derived.Test.YthpknaieimlmnaaGreatQXOld
import Derived.Deep.RegionHeld3
import Derived.Deep.RegionWith
set_option linter.unusedVariables false
set_option maxRecDepth 8000
set_option linter.unusedSimpArgs false
namespace Go.Proofs.YthpknaieimlmnaaGreat
open Go.RowKit
namespace Cm

set_option maxRecDepth 100000 in
set_option maxHeartbeats 8000000 in
theorem RefGone_any (x y : StC) (w : World) (h : RdSt w x) (h2 : RdSt w y) (h5 : x.S.length ≤ 1000) : Calls Tryz.prog 21 #[stVal x, stVal y] w (GetsN (goneA x.v y.v) w) := by
  obtain ⟨W1, hW1⟩ : ∃ W1, W1 = w.alloc (.cells #[.int .i64 x.time, .int .i64 x.num, .int .i64 x.token, x.sv, x.kv, x.mv] 28) := ⟨_, rfl⟩
  have hb1 : Below w.heap.size w W1 := by rw [hW1]; exact newAlloc _ _
  have hB1 : BoxS W1 w.heap.size x := by rw [hW1]; exact BoxS.new w x _
  have hs1 : W1.heap.size = w.heap.size + 1 := by rw [hW1]; simp
  obtain ⟨W2, hW2⟩ : ∃ W2, W2 = W1.alloc (.cells #[.int .i64 y.time, .int .i64 y.num, .int .i64 y.token, y.sv, y.kv, y.mv] 28) := ⟨_, rfl⟩
  have hb2 : Below W1.heap.size W1 W2 := by rw [hW2]; exact newAlloc _ _
  have hY : BoxS W2 (w.heap.size + 1) y := by rw [← hs1, hW2]; exact BoxS.new W1 y _
  have HX0 := Lib.hid (hB1.later hb2)
  have HY0 := Lib.hid hY
  have HB0 := Lib.hid (step hb1 hb2)
  have KF0 := Lib.hid (fun c W (hb : Below w.heap.size w W) => Find_any y.sv y.S c W (h2.later hb).s)
  have hS : RdS w x.sv x.S := h.s
  have HAT := Lib.hid (fun i (hi : i < x.S.length) => rds_at hS i hi)
  have HF := Lib.hid (map_filter_take x.S (goneE y.v))
  have HG : Hid (goneA x.v y.v = (x.S.filter (goneE y.v)).map (·.client)) := Lib.hid rfl
  have HE : Hid (∀ s : SesV, goneE y.v s = (!(findS y.S s.client).2 || !decide ((findS y.S s.client).1.num = s.num))) := Lib.hid fun s => rfl
  generalize goneE y.v = p at HF HG HE
  rw [HG.out]
  have hm := hS.len
  obtain ⟨nb, hnb⟩ : ∃ nb, w.heap.size = nb := ⟨_, rfl⟩
  have HNB := Lib.hid hnb
  rw [hnb] at HX0 HY0
  clear hnb h h2 hb1 hb2 hB1 hY hs1 hS
  obtain ⟨xt, xn, xk, xS, sa, sc, xK, ka, kc, xM, ma, mc⟩ := x
  obtain ⟨yt, yn, yk, yS, ya, yc, yK, yka, ykc, yM, yma, ymc⟩ := y
  unfold stVal
  simp only [StC.sv, StC.kv, StC.mv] at hW1 hW2 KF0 HAT hm ⊢
  dsimp only at h5 HF HG HE
  obtain ⟨c0, c1, c2, c3, c4, c5, cf⟩ := HX0.out
  simp only [StC.sv, StC.kv, StC.mv] at c0 c1 c2 c3 c4 c5
  obtain ⟨d0, d1, d2, d3, d4, d5, df⟩ := HY0.out
  simp only [StC.sv, StC.kv, StC.mv] at d0 d1 d2 d3 d4 d5
  obtain ⟨SL, hL⟩ : ∃ L, xS.length = L := ⟨_, rfl⟩
  have HLL := Lib.hid hL
  obtain ⟨YL, hYL⟩ : ∃ L, yS.length = L := ⟨_, rfl⟩
  rw [hL] at hm h5 c3
  rw [hYL] at KF0 d3
  rw [hL] at hW1 ⊢
  rw [hYL] at hW2 ⊢
  have HC3 : Hid (∀ W, Below W2.heap.size W2 W → W.cell? ⟨nb, 3, none⟩ = some (.slice sa SL sc)) := Lib.hid fun W hb => (hb.cell (lt_of_cell c3)).trans c3
  have HD3 : Hid (∀ W, Below W2.heap.size W2 W → W.cell? ⟨nb + 1, 3, none⟩ = some (.slice ya YL yc)) := Lib.hid fun W hb => (hb.cell (lt_of_cell d3)).trans d3
  clear hL hYL c0 c1 c2 c4 c5 cf d0 d1 d2 d4 d5 df HX0 HY0
  obtain ⟨i0, hi, hz0, hz1, hz2⟩ := info_parts infoN
  go_enter Tryz.func21, Tryz.ntmps21
  go_upto_region 1 with fail
  rw [← hW1, ← hW2]
  rw [HNB.out]
  clear hW1 hW2 c3 d3
  go_wp2
  go_loopw [5, 6] (fun m i wr => ∃ (k : Nat) (M : List Int), k ≤ SL ∧ i = .int .i64 k ∧ Hid (((xS.take k).filter p).map (·.client) = M) ∧ M.length ≤ k ∧ Hid (wr.ownsRow W2.heap.size 3 1 m M.length (flatX cellsI M)) ∧ Hid (Below W2.heap.size W2 wr)) (fun _ i _ => SL - (intOf i).toNat)
  case atStart => exact ⟨0, [], by omega, rfl, Lib.hid rfl, by simp, Lib.hid (World.ownsRow_nil _ _ _ _), Lib.hid (Below.refl _ _)⟩
  case round =>
    obtain ⟨k, M, hk, rfl, HM, hMk, HO, HB⟩ := hrel
    have c3 := HC3.out wr HB.out
    have d3 := HD3.out wr HB.out
    by_cases hlt : k < SL
    · have hkl : k < xS.length := by rw [HLL.out]; exact hlt
      obtain ⟨b, o, rfl, hc⟩ := HAT.out k hkl
      have hp := HF.out k hkl
      rw [HM.out, HE.out] at hp
      have HC := Lib.hid hc
      clear hc HAT
      generalize xS[k] = g at HC hp
      obtain ⟨gc, gn, gr⟩ := g
      dsimp only at HC hp
      have f1 : (0 : Int) ≤ (k : Int) := by omega
      have f2 : (k : Int) < (SL : Int) := by omega
      have t1 : decide ((k : Int) < (SL : Int)) = true := decide_eq_true f2
      obtain ⟨⟨⟨fc, fn, fe⟩, fb⟩, hfs⟩ : ∃ l, findS yS gc = l := ⟨_, rfl⟩
      rw [hfs] at hp
      have KF := Lib.hid (fun W (hb : Below wr.heap.size wr W) => KF0.out gc W (step HB0.out (step HB.out hb)))
      rw [hfs] at KF
      unfold Found sesVal at KF
      dsimp only at KF hp
      have HP := Lib.hid hp
      have HKP : Hid (∀ W, Below wr.heap.size wr W → W.cell? ⟨nb, 3, none⟩ = some (.slice (some ⟨b, o, none⟩) SL sc) ∧ W.cell? ⟨nb + 1, 3, none⟩ = some (.slice ya YL yc) ∧ W.cell? ⟨b, o + k * 3, none⟩ = some (.int .i64 gc) ∧ W.cell? ⟨b, o + k * 3 + 1, none⟩ = some (.int .i64 gn)) := Lib.hid fun W hb => by
        obtain ⟨q0, q1, q2⟩ := HC.out W (step HB0.out (step HB.out hb))
        exact ⟨HC3.out W (step HB.out hb), HD3.out W (step HB.out hb), q0, q1⟩
      clear hfs hp hkl HF HE KF0
      go_upto_region 5 with fail
      go_cut [7, 8] from 16 to 27 (fun s7 s8 wc => ∃ b5 : Nat, s7 = .pointer (some ⟨b5, 0, none⟩) ∧ s8 = .bool fb ∧ Hid (BoxE wc b5 ⟨fc, fn, fe⟩) ∧ Hid (Below wr.heap.size wr wc))
      case first =>
        refine wp_region_held_drew (S := (fun W => W.cell? ⟨nb, 3, none⟩ = some (.slice (some ⟨b, o, none⟩) SL sc) ∧ W.cell? ⟨nb + 1, 3, none⟩ = some (.slice ya YL yc) ∧ W.cell? ⟨b, o + k * 3, none⟩ = some (.int .i64 gc) ∧ W.cell? ⟨b, o + k * 3 + 1, none⟩ = some (.int .i64 gn))) (by kernel_rfl) (HKP.out _ (Below.refl _ _).drew) (fun hHeld => ?_)
        obtain ⟨V, hV⟩ : ∃ V, V = wr.drew := ⟨_, rfl⟩
        have HBR : Hid (Below wr.heap.size wr V) := Lib.hid (by rw [hV]; exact (Below.refl _ _).drew)
        rw [← hV] at hHeld ⊢
        clear hV
        refine wpAnyH_take (i := 0) (v := ?_) rfl (by kernel_rfl) (by kernel_rfl) (by kernel_rfl) (fun _ _ _ h => h) (Or.inl ⟨by rfl, ?_⟩) (by assumption) ?_
        rotate_left
        · intro w hSw; (try dsimp only at hSw); go_simp <;> with_reducible rfl
        try simp only [Act.put, List.getElem_toArray, List.getElem_cons_succ, List.getElem_cons_zero, List.setIfInBounds_toArray, List.set_cons_zero, List.set_cons_succ]
        refine wpAnyH_take (i := 1) (v := ?_) rfl (by kernel_rfl) (by kernel_rfl) (by kernel_rfl) (fun _ _ _ h => h) (Or.inl ⟨by rfl, ?_⟩) (by assumption) ?_
        rotate_left
        · intro w hSw; (try dsimp only at hSw); go_simp <;> with_reducible rfl
        try simp only [Act.put, List.getElem_toArray, List.getElem_cons_succ, List.getElem_cons_zero, List.setIfInBounds_toArray, List.set_cons_zero, List.set_cons_succ]
        refine wpAnyH_take (i := 2) (v := ?_) rfl (by kernel_rfl) (by kernel_rfl) (by kernel_rfl) (fun _ _ _ h => h) (Or.inl ⟨by rfl, ?_⟩) (by assumption) ?_
        rotate_left
        · intro w hSw; (try dsimp only at hSw); go_simp <;> with_reducible rfl
        try simp only [Act.put, List.getElem_toArray, List.getElem_cons_succ, List.getElem_cons_zero, List.setIfInBounds_toArray, List.set_cons_zero, List.set_cons_succ]
        refine wpAnyH_take (i := 3) (v := ?_) rfl (by kernel_rfl) (by kernel_rfl) (by kernel_rfl) (fun _ _ _ h => h) (Or.inl ⟨by rfl, ?_⟩) (by assumption) ?_
        rotate_left
        · intro w hSw; (try dsimp only at hSw); go_simp <;> with_reducible rfl
        try simp only [Act.put, List.getElem_toArray, List.getElem_cons_succ, List.getElem_cons_zero, List.setIfInBounds_toArray, List.set_cons_zero, List.set_cons_succ]
        refine wpAnyH_take (i := 4) (v := ?_) rfl (by kernel_rfl) (by kernel_rfl) (by kernel_rfl) (fun _ _ _ h => h) (Or.inl ⟨by rfl, ?_⟩) (by assumption) ?_
        rotate_left
        · intro w hSw; (try dsimp only at hSw); go_simp <;> with_reducible rfl
        try simp only [Act.put, List.getElem_toArray, List.getElem_cons_succ, List.getElem_cons_zero, List.setIfInBounds_toArray, List.set_cons_zero, List.set_cons_succ]
        refine wpAnyH_take (i := 5) (v := ?_) rfl (by kernel_rfl) (by kernel_rfl) (by kernel_rfl) (fun _ _ _ h => h) (Or.inl ⟨by rfl, ?_⟩) (by assumption) ?_
        rotate_left
        · intro w hSw; (try dsimp only at hSw); go_simp <;> with_reducible rfl
        try simp only [Act.put, List.getElem_toArray, List.getElem_cons_succ, List.getElem_cons_zero, List.setIfInBounds_toArray, List.set_cons_zero, List.set_cons_succ]
        refine wpAnyH_take (i := 6) (v := ?_) rfl (by kernel_rfl) (by kernel_rfl) (by kernel_rfl) (fun _ _ _ h => h) (Or.inl ⟨by rfl, ?_⟩) (by assumption) ?_
        rotate_left
        · intro w hSw; (try dsimp only at hSw); go_simp <;> with_reducible rfl
        try simp only [Act.put, List.getElem_toArray, List.getElem_cons_succ, List.getElem_cons_zero, List.setIfInBounds_toArray, List.set_cons_zero, List.set_cons_succ]
        refine wpAnyH_take (i := 7) (v := ?_) rfl (by kernel_rfl) (by kernel_rfl) (by kernel_rfl) (fun _ _ _ h => h) (Or.inl ⟨by rfl, ?_⟩) (by assumption) ?_
        rotate_left
        · intro w hSw; (try dsimp only at hSw); go_simp <;> with_reducible rfl
        try simp only [Act.put, List.getElem_toArray, List.getElem_cons_succ, List.getElem_cons_zero, List.setIfInBounds_toArray, List.set_cons_zero, List.set_cons_succ]
        have HNC : Hid (Old V fun _ => True) := Lib.hid fun _ _ => trivial
        have HNA : Hid (Old V fun _ => True) := Lib.hid fun _ _ => trivial
        all_goals
          refine wpAnyH_ready (rs := [8, 12]) (by kernel_rfl) (by simp) ?_
          refine AllReadyH.cons rfl (fun K hK => ?_) (AllReadyH.cons rfl (fun K hK => ?_) AllReadyH.nil)
        all_goals
          go_simp
          first
            | (go_at_call 32
               refine (KF.out _ HBR.out).mono ?_
               rintro e V ⟨rfl, hb⟩
               have HNC : Hid (Old V (fun _ => True)) := Lib.hid fun W hw => trivial
               have HNA := Lib.hid (HNA.out.later hb)
               have HBR := Lib.hid (step HBR.out hb)
               clear hb
               have mC := trivial
               refine hK.out _ _ (HKP.out _ HBR.out) (fun hHeld => ?_)
               clear hK K
               try simp only [Act.put, List.getElem_toArray, List.getElem_cons_succ, List.getElem_cons_zero, List.setIfInBounds_toArray, List.set_cons_zero, List.set_cons_succ]
               refine wpAnyH_take (i := 9) (v := ?_) rfl (by kernel_rfl) (by kernel_rfl) (by kernel_rfl) (fun _ _ _ h => h) (Or.inl ⟨by rfl, ?_⟩) (by assumption) ?_
               rotate_left
               · intro w hSw; (try dsimp only at hSw); go_simp <;> with_reducible rfl
               try simp only [Act.put, List.getElem_toArray, List.getElem_cons_succ, List.getElem_cons_zero, List.setIfInBounds_toArray, List.set_cons_zero, List.set_cons_succ]
               refine wpAnyH_take (i := 10) (v := ?_) rfl (by kernel_rfl) (by kernel_rfl) (by kernel_rfl) (fun _ _ _ h => h) (Or.inl ⟨by rfl, ?_⟩) (by assumption) ?_
               rotate_left
               · intro w hSw; (try dsimp only at hSw); go_simp <;> with_reducible rfl
               try simp only [Act.put, List.getElem_toArray, List.getElem_cons_succ, List.getElem_cons_zero, List.setIfInBounds_toArray, List.set_cons_zero, List.set_cons_succ]
               refine wpAnyH_take (i := 11) (v := ?_) rfl (by kernel_rfl) (by kernel_rfl) (by kernel_rfl) (fun _ _ _ h => h) (Or.inl ⟨by rfl, ?_⟩) (by assumption) ?_
               rotate_left
               · intro w hSw; (try dsimp only at hSw); go_simp <;> with_reducible rfl
               try simp only [Act.put, List.getElem_toArray, List.getElem_cons_succ, List.getElem_cons_zero, List.setIfInBounds_toArray, List.set_cons_zero, List.set_cons_succ])
            | (obtain ⟨V', hV'⟩ : ∃ V', V' = V.alloc (.cells #[.int .i64 0, .int .i64 0, .int .i64 0] 56) := ⟨_, rfl⟩
               rw [← hV']
               have hb : Below V.heap.size V V' := (by rw [hV']; exact newAlloc _ _)
               have hn : BoxE V' V.heap.size ⟨0, 0, 0⟩ := (by rw [hV']; exact BoxE.new V ⟨0, 0, 0⟩ _)
               have hgeb5 : wr.heap.size ≤ V.heap.size := HBR.out.size
               obtain ⟨b5, hb5⟩ : ∃ b5, V.heap.size = b5 := ⟨_, rfl⟩
               rw [hb5] at hn hgeb5 ⊢
               have HNA : Hid (Old V' (fun W => BoxE W b5 ⟨0, 0, 0⟩)) := Lib.hid fun W hw => hn.later hw
               have HNC := Lib.hid (HNC.out.later hb)
               have HBR := Lib.hid (step HBR.out hb)
               clear hV' hb hn hb5
               obtain ⟨V, rfl⟩ : ∃ V, V = V' := ⟨_, rfl⟩
               have mA := trivial
               refine hK.out _ _ (HKP.out _ HBR.out) (fun hHeld => ?_)
               clear hK K
               try simp only [Act.put, List.getElem_toArray, List.getElem_cons_succ, List.getElem_cons_zero, List.setIfInBounds_toArray, List.set_cons_zero, List.set_cons_succ])
        all_goals
          first
            | (revert mA; intro mA; refine wpAnyH_ready (rs := [8]) (by kernel_rfl) (by simp) ?_; refine AllReadyH.cons rfl (fun K hK => ?_) AllReadyH.nil)
            | (revert mC; intro mC; refine wpAnyH_ready (rs := [12]) (by kernel_rfl) (by simp) ?_; refine AllReadyH.cons rfl (fun K hK => ?_) AllReadyH.nil)
        all_goals
          go_simp
          first
            | (go_at_call 32
               refine (KF.out _ HBR.out).mono ?_
               rintro e V ⟨rfl, hb⟩
               have HNC : Hid (Old V (fun _ => True)) := Lib.hid fun W hw => trivial
               have HNA := Lib.hid (HNA.out.later hb)
               have HBR := Lib.hid (step HBR.out hb)
               clear hb
               have mC := trivial
               refine hK.out _ _ (HKP.out _ HBR.out) (fun hHeld => ?_)
               clear hK K
               try simp only [Act.put, List.getElem_toArray, List.getElem_cons_succ, List.getElem_cons_zero, List.setIfInBounds_toArray, List.set_cons_zero, List.set_cons_succ]
               refine wpAnyH_take (i := 9) (v := ?_) rfl (by kernel_rfl) (by kernel_rfl) (by kernel_rfl) (fun _ _ _ h => h) (Or.inl ⟨by rfl, ?_⟩) (by assumption) ?_
               rotate_left
               · intro w hSw; (try dsimp only at hSw); go_simp <;> with_reducible rfl
               try simp only [Act.put, List.getElem_toArray, List.getElem_cons_succ, List.getElem_cons_zero, List.setIfInBounds_toArray, List.set_cons_zero, List.set_cons_succ]
               refine wpAnyH_take (i := 10) (v := ?_) rfl (by kernel_rfl) (by kernel_rfl) (by kernel_rfl) (fun _ _ _ h => h) (Or.inl ⟨by rfl, ?_⟩) (by assumption) ?_
               rotate_left
               · intro w hSw; (try dsimp only at hSw); go_simp <;> with_reducible rfl
               try simp only [Act.put, List.getElem_toArray, List.getElem_cons_succ, List.getElem_cons_zero, List.setIfInBounds_toArray, List.set_cons_zero, List.set_cons_succ]
               refine wpAnyH_take (i := 11) (v := ?_) rfl (by kernel_rfl) (by kernel_rfl) (by kernel_rfl) (fun _ _ _ h => h) (Or.inl ⟨by rfl, ?_⟩) (by assumption) ?_
               rotate_left
               · intro w hSw; (try dsimp only at hSw); go_simp <;> with_reducible rfl
               try simp only [Act.put, List.getElem_toArray, List.getElem_cons_succ, List.getElem_cons_zero, List.setIfInBounds_toArray, List.set_cons_zero, List.set_cons_succ])
            | (obtain ⟨V', hV'⟩ : ∃ V', V' = V.alloc (.cells #[.int .i64 0, .int .i64 0, .int .i64 0] 56) := ⟨_, rfl⟩
               rw [← hV']
               have hb : Below V.heap.size V V' := (by rw [hV']; exact newAlloc _ _)
               have hn : BoxE V' V.heap.size ⟨0, 0, 0⟩ := (by rw [hV']; exact BoxE.new V ⟨0, 0, 0⟩ _)
               have hgeb5 : wr.heap.size ≤ V.heap.size := HBR.out.size
               obtain ⟨b5, hb5⟩ : ∃ b5, V.heap.size = b5 := ⟨_, rfl⟩
               rw [hb5] at hn hgeb5 ⊢
               have HNA : Hid (Old V' (fun W => BoxE W b5 ⟨0, 0, 0⟩)) := Lib.hid fun W hw => hn.later hw
               have HNC := Lib.hid (HNC.out.later hb)
               have HBR := Lib.hid (step HBR.out hb)
               clear hV' hb hn hb5
               obtain ⟨V, rfl⟩ : ∃ V, V = V' := ⟨_, rfl⟩
               have mA := trivial
               refine hK.out _ _ (HKP.out _ HBR.out) (fun hHeld => ?_)
               clear hK K
               try simp only [Act.put, List.getElem_toArray, List.getElem_cons_succ, List.getElem_cons_zero, List.setIfInBounds_toArray, List.set_cons_zero, List.set_cons_succ])
        all_goals
          obtain ⟨x0, x1, x2, xf⟩ := HNA.out.now
          dsimp only at x0 x1 x2
        all_goals
          refine wpAnyH_ready (rs := [13]) (by kernel_rfl) (by simp) ?_
          refine AllReadyH.cons rfl (fun K hK => ?_) AllReadyH.nil
          go_simp
          refine hK.out _ _ (HKP.out _ (below_set3 HBR.out b5 hgeb5 _ _ _)) (fun hHeld => ?_)
          clear hK K
          try simp only [Act.put, List.getElem_toArray, List.getElem_cons_succ, List.getElem_cons_zero, List.setIfInBounds_toArray, List.set_cons_zero, List.set_cons_succ]
        all_goals
          refine wpAnyH_take (i := 14) (v := ?_) rfl (by kernel_rfl) (by kernel_rfl) (by kernel_rfl) (fun _ _ _ h => h) (Or.inl ⟨by rfl, ?_⟩) (by assumption) ?_
          rotate_left
          · intro w hSw; (try dsimp only at hSw); go_simp <;> with_reducible rfl
          try simp only [Act.put, List.getElem_toArray, List.getElem_cons_succ, List.getElem_cons_zero, List.setIfInBounds_toArray, List.set_cons_zero, List.set_cons_succ]
        all_goals refine wpAnyH_done (by kernel_rfl) ?_ _
        all_goals
          have HXE := Lib.hid ((HNA.out.now).put fc fn fe)
          have HBE := Lib.hid (below_set3 HBR.out b5 hgeb5 (.int .i64 fc) (.int .i64 fn) (.int .i64 fe))
          clear x0 x1 x2 xf HNA HNC HBR hHeld
          go_wp2
          go_meet
          case rel => exact ⟨b5, rfl, rfl, HXE, HBE⟩
      case rest =>
        obtain ⟨b5, rfl, rfl, HXE, HBE⟩ := hcut
        obtain ⟨ws, rfl⟩ : ∃ ws, ws = wc := ⟨_, rfl⟩
        clear c3 d3
        obtain ⟨c3, d3, q0, q1⟩ := HKP.out ws HBE.out
        obtain ⟨x0, x1, x2, xf⟩ := HXE.out
        dsimp only at x0 x1 x2
        have HBW := Lib.hid (step HB.out HBE.out)
        have HO2 := Lib.hid (Rw.own_below HO.out HBE.out)
        clear KF HXE
        by_cases e1 : fb = true ∧ fn = gn
        · obtain ⟨rfl, rfl⟩ := e1
          have hp2 : ((xS.take (k + 1)).filter p).map (·.client) = M := by rw [HP.out]; simp
          have H := Lib.hid hp2
          clear hp2 HP
          go_upto_region 6 with fail
          go_quiet (fail)
          obtain ⟨wd, hwd⟩ : ∃ wd, wd = ws.drewN nq := ⟨_, rfl⟩
          have hbd : Below ws.heap.size ws wd := by rw [hwd]; exact below_drewN6 (Below.refl _ _) _
          have HO3 := Lib.hid (Rw.own_below HO2.out hbd)
          have HB3 := Lib.hid (step HBW.out hbd)
          rw [← hwd]
          clear hwd hbd
          go_wp2
          go_roundw
          case rel => exact ⟨k + 1, M, by omega, by go_num, H, by omega, HO3, HB3⟩
          case measure => simp [intOf]; omega
        · have hp2 : ((xS.take (k + 1)).filter p).map (·.client) = M ++ [gc] := by
            rw [HP.out]
            have : (!fb || !decide (fn = gn)) = true := by
              cases fb with
              | false => rfl
              | true => have : ¬ fn = gn := fun q => e1 ⟨rfl, q⟩; simp [this]
            rw [this]; rfl
          have H := Lib.hid hp2
          have hs2 : W2.heap.size ≤ ws.heap.size := HBW.out.size
          have HNE : Hid (fb = true → ¬ fn = gn) := Lib.hid fun q q2 => e1 ⟨q, q2⟩
          clear hp2 HP e1
          go_upto_region 6 with fail
          cases fb
          case' true =>
            have d9 : decide (fn = gn) = false := decide_eq_false (HNE.out rfl)
            have d8 : (fn == gn) = false := by rw [beq_eq_false_iff_ne]; exact HNE.out rfl
            have d7 : (fn != gn) = true := by rw [bne_iff_ne]; exact HNE.out rfl
          all_goals
            go_quiet (fail)
            obtain ⟨wd, hwd⟩ : ∃ wd, wd = ws.drewN nq := ⟨_, rfl⟩
            have hbd : Below ws.heap.size ws wd := by rw [hwd]; exact below_drewN6 (Below.refl _ _) _
            have HO3 := Lib.hid (Rw.own_below HO2.out hbd)
            have HB3 := Lib.hid (step HBW.out hbd)
            clear c3 d3 q0 q1
            obtain ⟨c3, d3, q0, q1⟩ := HKP.out wd (step HBE.out hbd)
            rw [← hwd]
            clear hwd hbd
            go_wp2_with (first
              | (at_builtin; refine wpList_append_one cellsI_length (by omega) rfl (.tmp 41) (.tmp 48) 34 rfl 3 i0 _ 8 Tryz.underlying34 hi hz0 hz1 hz2 rfl #[.int .i64 gc] gc rfl (cellsI_one _) M W2.heap.size W2.heap.size W2 _ rfl rfl HO3.out (by unfold maxLen; omega) (by omega) HB3.out.size HB3.out (Nat.le_refl _) ?_; intro v5 w5 ho5 hb5 _; have HO5 := Lib.hid ho5; have HB5 := Lib.hid hb5; clear ho5 hb5))
            go_roundw
            case rel => exact ⟨k + 1, M ++ [gc], by omega, by go_num, H, by simp; omega, HO5, HB5⟩
            case measure => simp [intOf]; omega
    · obtain rfl : k = SL := by omega
      have hM := HM.out
      rw [← HLL.out, List.take_length] at hM
      have H := Lib.hid hM
      clear hM
      go_wp2
      go_ret
      rw [H.out]
      exact ⟨_, rfl, own_lowerX HO.out HB0.out.size, (step HB0.out HB.out)⟩
end Cm
end Go.Proofs.YthpknaieimlmnaaGreat
