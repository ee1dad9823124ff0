/- AutoRuns, as a contract (made by tools/gen_runs.py). -/
import Derived.Test.YthpknaieimlmnaaGreatQ50
import Derived.Test.YthpknaieimlmnaaGreatQXAutJ
import Derived.Deep.RegionHeld3
import Derived.Deep.RegionWith
set_option linter.unusedVariables false
set_option maxRecDepth 8000
set_option linter.unusedSimpArgs false
namespace Go.Proofs.YthpknaieimlmnaaGreat
open Go.RowKit Go.Shelf
namespace Cm

theorem sameP_refl (r : ReplyV) : sameP r r = true := (sameP_iff r r).2 rfl
theorem BoxQ.put {w : World} {b : Nat} {r : ReqV} (h : BoxQ w b r) (c q x y : Int) (z : List UInt8) : BoxQ (((((w.setCell ⟨b, 0, none⟩ (.int .i64 c)).setCell ⟨b, 1, none⟩ (.int .i64 q)).setCell ⟨b, 2, none⟩ (.int .i64 x)).setCell ⟨b, 3, none⟩ (.int .i64 y)).setCell ⟨b, 4, none⟩ (.string (bstr z))) b ⟨c, q, ⟨x, y, z⟩⟩ := by
  obtain ⟨⟨c0, c1, c2, c3, c4⟩, fr⟩ := h
  refine ⟨⟨?_, ?_, ?_, ?_, ?_⟩, fun k => ?_⟩ <;> simp [go_sem, c0, c1, c2, c3, c4, fr]
set_option maxRecDepth 100000 in
set_option maxHeartbeats 16000000 in
theorem Runs_any (v : Value) (L : List Act10) (d : Int) (w : World) (h : RdA w v L) : Calls Tryz.prog 3 #[v, .int .i64 d] w (SaysB true w) := by
  have hm := h.row.len
  have C0 := Lib.hid (fun W => awake10_ok W)
  obtain ⟨a, cap, rfl⟩ := h.row.form
  by_cases h60 : 60 < L.length
  · have t0 : decide ((60 : Int) < (L.length : Int)) = true := decide_eq_true (by omega)
    have t00 : decide (60 < L.length) = true := decide_eq_true h60
    clear h
    generalize L.length = N at *
    go_enter Tryz.func3, Tryz.ntmps3
    go_wp2_with (go_at_call 15; refine (C0.out _).mono ?_; rintro e w9 ⟨rfl, hb9⟩)
    go_ret
    exact ⟨rfl, hb9⟩
  have h60' : L.length ≤ 60 := by omega
  have t0 : decide ((60 : Int) < (L.length : Int)) = false := decide_eq_false (by omega)
  have t00 : decide (60 < L.length) = false := decide_eq_false h60
  obtain ⟨W1, hW1⟩ : ∃ W1, W1 = w.alloc (.cells #[.int .i64 0, .int .i64 0, .int .i64 0, .slice none 0 0, .slice none 0 0, .slice none 0 0] 28) := ⟨_, rfl⟩
  have hb1 : Below w.heap.size w W1 := by rw [hW1]; exact newAlloc _ _
  have hZ : BoxS W1 w.heap.size zeroC10 := by rw [hW1]; exact BoxS.new w zeroC10 _
  have HZ0 := Lib.hid hZ
  have HB0 := Lib.hid hb1
  have HAT := Lib.hid (fun i hi => rda_at h.row i hi)
  have HAO := Lib.hid (fun i (hi : i < L.length) => h.ok _ (List.getElem_mem hi))
  obtain ⟨N, hN⟩ : ∃ N, L.length = N := ⟨_, rfl⟩
  have HNN := Lib.hid hN
  obtain ⟨HI, hHI'⟩ : ∃ HI, W1.heap.size = HI := ⟨_, rfl⟩
  obtain ⟨nb, hnb⟩ : ∃ nb, w.heap.size = nb := ⟨_, rfl⟩
  have HNB := Lib.hid hnb
  have hlt1 : nb < HI := by rw [← hHI', ← hnb]; exact hZ.lt
  have hsz0 : HI ≤ W1.heap.size := Nat.le_of_eq hHI'.symm
  rw [hnb] at HZ0
  rw [hN] at hm h60' t0 t00 ⊢
  clear hN hnb h hb1 hZ hHI' h60
  go_enter Tryz.func3, Tryz.ntmps3
  go_upto_region 4 with fail
  rw [← hW1]
  rw [HNB.out]
  clear hW1 t0 t00
  go_wp2
  go_loopw [6] (fun i wr => ∃ (k : Nat) (y : StC), k ≤ N ∧ i = .int .i64 k ∧ HI ≤ wr.heap.size ∧ Hid (BoxS wr nb y) ∧ Hid (FromS HI wr zeroC10 y) ∧ Hid (Few10 k y.v) ∧ Hid (Below w.heap.size w wr)) (fun i _ => N - (intOf i).toNat)
  case atStart => exact ⟨0, zeroC10, by omega, rfl, hsz0, HZ0, Lib.hid (FromS.refl _ _ _), Lib.hid Few10.zero, HB0⟩
  case round =>
    obtain ⟨k, ⟨yt, yn, yk, yS, ya, yc, yK, yka, ykc, yM, yma, ymc⟩, hk, rfl, hsz, HX, HF, HV, HB⟩ := hrel
    by_cases hlt : k < N
    · have hkl : k < L.length := by rw [HNN.out]; exact hlt
      have f1 : (0 : Int) ≤ (k : Int) := by omega
      have f2 : (k : Int) < (N : Int) := by omega
      have t1 : decide ((k : Int) < (N : Int)) = true := decide_eq_true f2
      obtain ⟨b, o, rfl, hc⟩ := HAT.out k hkl
      have hok := HAO.out k hkl
      have hfew := HV.out
      have HAC := Lib.hid hc
      clear hc HAT HAO
      generalize L[k] = x at HAC hok
      obtain ⟨at', ac, aq, ak, an, am⟩ := x
      dsimp only at HAC
      have hat := hfew.at (by omega) ⟨at', ac, aq, ak, an, am⟩ d
      have hstep := hfew.next (by omega) ⟨at', ac, aq, ak, an, am⟩ d
      have HAR : Hid (Rst (atA (StC.v ⟨yt, yn, yk, yS, ya, yc, yK, yka, ykc, yM, yma, ymc⟩) ⟨at', ac, aq, ak, an, am⟩ d)) := Lib.hid hat.1
      have HRY : Hid (Rst (StC.v ⟨yt, yn, yk, yS, ya, yc, yK, yka, ykc, yM, yma, ymc⟩)) := Lib.hid hfew.right
      have htm : 0 ≤ yt ∧ yt ≤ 2305843009213693952 := hfew.right.time
      have hq0 : (at' : Int).tmod 16 = ((at' % 16 : Nat) : Int) := by rw [Int.tmod_eq_emod_of_nonneg (by omega)]; omega
      have hw1 : IntKind.i64.wrap (at' : Int) = (at' : Int) := by rw [IntKind.wrap_i64]; have := hok.time; dsimp only at this; omega
      have hT0 : IntKind.i64.wrap (yt + ((at' % 16 : Nat) : Int)) = yt + ((at' % 16 : Nat) : Int) := by rw [IntKind.wrap_i64]; omega
      obtain ⟨T, hT⟩ : ∃ T, T = yt + ((at' % 16 : Nat) : Int) := ⟨_, rfl⟩
      have KD := Lib.hid (fun W (hb : Below wr.heap.size wr W) => DevAdv ⟨yt, yn, yk, yS, ya, yc, yK, yka, ykc, yM, yma, ymc⟩ T d W ((HF.out.later hb).rd (RdSt.zero W)) hfew.right)
      have KR := Lib.hid (fun W (hb : Below wr.heap.size wr W) => RefAdv_any ⟨yt, yn, yk, yS, ya, yc, yK, yka, ykc, yM, yma, ymc⟩ T d W ((HF.out.later hb).rd (RdSt.zero W)) hfew.right.small hfew.right.rens)
      have HATV : Hid (advA (StC.v ⟨yt, yn, yk, yS, ya, yc, yK, yka, ykc, yM, yma, ymc⟩) T d = atA (StC.v ⟨yt, yn, yk, yS, ya, yc, yK, yka, ykc, yM, yma, ymc⟩) ⟨at', ac, aq, ak, an, am⟩ d) := Lib.hid (by rw [hT]; rfl)
      rw [HATV.out] at KD KR
      have HOK := Lib.hid hok
      have hT1 := hT0.trans hT.symm
      obtain ⟨SA, hSA⟩ : ∃ s, atA (StC.v ⟨yt, yn, yk, yS, ya, yc, yK, yka, ykc, yM, yma, ymc⟩) ⟨at', ac, aq, ak, an, am⟩ d = s := ⟨_, rfl⟩
      obtain ⟨rq, hrq⟩ : ∃ rq, requestA SA ⟨at', ac, aq, ak, an, am⟩ = rq := ⟨_, rfl⟩
      unfold stepA at hstep
      rw [hSA] at KD KR hstep HAR hat
      rw [hrq] at hstep
      obtain ⟨⟨US, ⟨pc, ps, pd, pl⟩, did⟩, hRR⟩ : ∃ R, applyA SA rq = R := ⟨_, rfl⟩
      rw [hRR] at hstep
      dsimp only at hstep
      have HFW := Lib.hid hstep
      have hbd : SA.num < 2305843009213693900 ∧ SA.token < 2305843009213693900 := ⟨by have := hfew.num; have := hat.2.2.2; omega, by have := hfew.tok; have := hat.2.2.1; omega⟩
      have HBD := Lib.hid hbd
      clear hT hok hfew htm hT0 hat hstep hbd HATV hSA
      generalize ((at' % 16 : Nat) : Int) = q16 at hq0 hT1
      unfold ReadsSt stVal at KD
      unfold GetsSt stVal at KR
      simp only [StC.sv, StC.kv, StC.mv] at KD KR
      obtain ⟨c0, c1, c2, c3, c4, c5, cf⟩ := HX.out
      simp only [StC.sv, StC.kv, StC.mv] at c0 c1 c2 c3 c4 c5
      obtain ⟨p0, p1, p2, p3, p4, p5⟩ := HAC.out wr HB.out
      go_upto_region 7 with fail
      go_quiet (fail)
      obtain ⟨W7, hW7⟩ : ∃ W7, W7 = wr.drewN nq := ⟨_, rfl⟩
      have hb7 : Below wr.heap.size wr W7 := by rw [hW7]; exact below_drewN6 (Below.refl _ _) _
      rw [← hW7]
      have HB7 := Lib.hid hb7
      clear hW7 hb7 c0 c1 c2 c3 c4 c5 cf p0 p1 p2 p3 p4 p5 hq0 hw1 hT1
      obtain ⟨c0, c1, c2, c3, c4, c5, cf⟩ := HX.out.later HB7.out
      simp only [StC.sv, StC.kv, StC.mv] at c0 c1 c2 c3 c4 c5
      go_upto_region 9 with (go_at_call 16; refine (KD.out _ HB7.out).mono ?_; rintro e w8 ⟨⟨et, en, ek, eS, ea, ec, eK, eka, ekc, eM, ema, emc⟩, he, hv8, hr8, hb8⟩; simp only [StC.sv, StC.kv, StC.mv] at he; subst he; have HV8 := Lib.hid hv8; have HR8 := Lib.hid hr8; have HB8 := Lib.hid (step HB7.out hb8); clear hv8 hr8 hb8)
      obtain ⟨W8, hW8⟩ : ∃ W8, W8 = w8.alloc (.cells #[.int .i64 et, .int .i64 en, .int .i64 ek, .slice ea eS.length ec, .slice eka eK.length ekc, .slice ema eM.length emc] 28) := ⟨_, rfl⟩
      have hx8 : BoxS W8 w8.heap.size ⟨et, en, ek, eS, ea, ec, eK, eka, ekc, eM, ema, emc⟩ := by rw [hW8]; exact BoxS.new w8 ⟨et, en, ek, eS, ea, ec, eK, eka, ekc, eM, ema, emc⟩ _
      have hn8 : Below w8.heap.size w8 W8 := by rw [hW8]; exact newAlloc _ _
      obtain ⟨b8, hbk8⟩ : ∃ b, w8.heap.size = b := ⟨_, rfl⟩
      rw [← hW8]
      rw [hbk8] at hx8 ⊢
      have HX8 := Lib.hid hx8
      have HR8 := Lib.hid (HR8.out.later hn8)
      have HB8 := Lib.hid (step HB8.out hn8)
      clear hW8 hx8 hn8 hbk8 c0 c1 c2 c3 c4 c5 cf KD
      obtain ⟨c0, c1, c2, c3, c4, c5, cf⟩ := HX.out.later HB8.out
      simp only [StC.sv, StC.kv, StC.mv] at c0 c1 c2 c3 c4 c5
      go_upto_region 10 with (go_at_call 17; refine (KR.out _ HB8.out).mono ?_; rintro e w9 ⟨⟨zt, zn, zk, zS, za, zc, zK, zka, zkc, zM, zma, zmc⟩, he, hv9, hf9, hb9⟩; simp only [StC.sv, StC.kv, StC.mv] at he; subst he; have HV9 := Lib.hid hv9; have HF9 := Lib.hid ((HF.out.later (step HB8.out hb9)).trans (hf9.lower (Nat.le_trans hsz HB8.out.size))); have HN9 := Lib.hid hb9; clear hv9 hf9 hb9)
      obtain ⟨W9, hW9⟩ : ∃ W9, W9 = w9.alloc (.cells #[.int .i64 zt, .int .i64 zn, .int .i64 zk, .slice za zS.length zc, .slice zka zK.length zkc, .slice zma zM.length zmc] 28) := ⟨_, rfl⟩
      have hx9 : BoxS W9 w9.heap.size ⟨zt, zn, zk, zS, za, zc, zK, zka, zkc, zM, zma, zmc⟩ := by rw [hW9]; exact BoxS.new w9 ⟨zt, zn, zk, zS, za, zc, zK, zka, zkc, zM, zma, zmc⟩ _
      have hn9 : Below w9.heap.size w9 W9 := by rw [hW9]; exact newAlloc _ _
      obtain ⟨b9, hbk9⟩ : ∃ b, w9.heap.size = b := ⟨_, rfl⟩
      rw [← hW9]
      rw [hbk9] at hx9 ⊢
      have HX9 := Lib.hid hx9
      have HF9 := Lib.hid (HF9.out.later hn9)
      have HN9 := Lib.hid (step HN9.out hn9)
      have HB9 := Lib.hid (step HB8.out HN9.out)
      have HX8 := Lib.hid (HX8.out.later HN9.out)
      have HR8 := Lib.hid (HR8.out.later HN9.out)
      have HXY := Lib.hid (HX.out.later HB9.out)
      have HFY := Lib.hid (HF.out.later HB9.out)
      clear hW9 hx9 hn9 hbk9 c0 c1 c2 c3 c4 c5 cf KR HN9 HX HF
      have KS1 := Lib.hid (fun W (hb : Below W9.heap.size W9 W) => same_states ⟨et, en, ek, eS, ea, ec, eK, eka, ekc, eM, ema, emc⟩ ⟨zt, zn, zk, zS, za, zc, zK, zka, zkc, zM, zma, zmc⟩ W (HR8.out.later hb) ((HF9.out.later hb).rd (RdSt.zero W)) (HV8.out.trans HV9.out.symm))
      have KG1 := Lib.hid (fun W (hb : Below W9.heap.size W9 W) => DevGone ⟨yt, yn, yk, yS, ya, yc, yK, yka, ykc, yM, yma, ymc⟩ ⟨zt, zn, zk, zS, za, zc, zK, zka, zkc, zM, zma, zmc⟩ W ((HFY.out.later hb).rd (RdSt.zero W)) ((HF9.out.later hb).rd (RdSt.zero W)) HRY.out (by rw [HV9.out]; exact HAR.out))
      have KG2 := Lib.hid (fun W (hb : Below W9.heap.size W9 W) => RefGone_any ⟨yt, yn, yk, yS, ya, yc, yK, yka, ykc, yM, yma, ymc⟩ ⟨zt, zn, zk, zS, za, zc, zK, zka, zkc, zM, zma, zmc⟩ W ((HFY.out.later hb).rd (RdSt.zero W)) ((HF9.out.later hb).rd (RdSt.zero W)) HRY.out.small.s)
      have KI := Lib.hid (fun (u v : Value) (l : List Int) W (h : RdI W u l) (h2 : RdI W v l) => by
        have := SameInts_any u v l l W h h2
        rw [(sameI_iff l l).2 rfl] at this
        exact this)
      generalize goneA (StC.v ⟨yt, yn, yk, yS, ya, yc, yK, yka, ykc, yM, yma, ymc⟩) (StC.v ⟨zt, zn, zk, zS, za, zc, zK, zka, zkc, zM, zma, zmc⟩) = G at KG1 KG2
      unfold stVal at KS1 KG1 KG2
      unfold GetsN at KG1 KG2
      simp only [StC.sv, StC.kv, StC.mv] at KS1 KG1 KG2
      have HKP : Hid (∀ W, Below W9.heap.size W9 W → (fun W => ((W.cell? ⟨nb, 0, none⟩ = some (.int .i64 yt) ∧ W.cell? ⟨nb, 1, none⟩ = some (.int .i64 yn) ∧ W.cell? ⟨nb, 2, none⟩ = some (.int .i64 yk)) ∧ W.cell? ⟨nb, 3, none⟩ = some (.slice ya yS.length yc) ∧ W.cell? ⟨nb, 4, none⟩ = some (.slice yka yK.length ykc) ∧ W.cell? ⟨nb, 5, none⟩ = some (.slice yma yM.length ymc)) ∧ ((W.cell? ⟨b8, 0, none⟩ = some (.int .i64 et) ∧ W.cell? ⟨b8, 1, none⟩ = some (.int .i64 en) ∧ W.cell? ⟨b8, 2, none⟩ = some (.int .i64 ek)) ∧ W.cell? ⟨b8, 3, none⟩ = some (.slice ea eS.length ec) ∧ W.cell? ⟨b8, 4, none⟩ = some (.slice eka eK.length ekc) ∧ W.cell? ⟨b8, 5, none⟩ = some (.slice ema eM.length emc)) ∧ ((W.cell? ⟨b9, 0, none⟩ = some (.int .i64 zt) ∧ W.cell? ⟨b9, 1, none⟩ = some (.int .i64 zn) ∧ W.cell? ⟨b9, 2, none⟩ = some (.int .i64 zk)) ∧ W.cell? ⟨b9, 3, none⟩ = some (.slice za zS.length zc) ∧ W.cell? ⟨b9, 4, none⟩ = some (.slice zka zK.length zkc) ∧ W.cell? ⟨b9, 5, none⟩ = some (.slice zma zM.length zmc))) W) := Lib.hid fun W hb => ⟨(HXY.out.later hb).cells, (HX8.out.later hb).cells, (HX9.out.later hb).cells⟩
      go_upto_region 10 with fail
      refine wp_region_held_drew (S := (fun W => ((W.cell? ⟨nb, 0, none⟩ = some (.int .i64 yt) ∧ W.cell? ⟨nb, 1, none⟩ = some (.int .i64 yn) ∧ W.cell? ⟨nb, 2, none⟩ = some (.int .i64 yk)) ∧ W.cell? ⟨nb, 3, none⟩ = some (.slice ya yS.length yc) ∧ W.cell? ⟨nb, 4, none⟩ = some (.slice yka yK.length ykc) ∧ W.cell? ⟨nb, 5, none⟩ = some (.slice yma yM.length ymc)) ∧ ((W.cell? ⟨b8, 0, none⟩ = some (.int .i64 et) ∧ W.cell? ⟨b8, 1, none⟩ = some (.int .i64 en) ∧ W.cell? ⟨b8, 2, none⟩ = some (.int .i64 ek)) ∧ W.cell? ⟨b8, 3, none⟩ = some (.slice ea eS.length ec) ∧ W.cell? ⟨b8, 4, none⟩ = some (.slice eka eK.length ekc) ∧ W.cell? ⟨b8, 5, none⟩ = some (.slice ema eM.length emc)) ∧ ((W.cell? ⟨b9, 0, none⟩ = some (.int .i64 zt) ∧ W.cell? ⟨b9, 1, none⟩ = some (.int .i64 zn) ∧ W.cell? ⟨b9, 2, none⟩ = some (.int .i64 zk)) ∧ W.cell? ⟨b9, 3, none⟩ = some (.slice za zS.length zc) ∧ W.cell? ⟨b9, 4, none⟩ = some (.slice zka zK.length zkc) ∧ W.cell? ⟨b9, 5, none⟩ = some (.slice zma zM.length zmc)))) (by kernel_rfl) (HKP.out _ (Below.refl _ _).drew) (fun hHeld => ?_)
      obtain ⟨V, hV⟩ : ∃ V, V = W9.drew := ⟨_, rfl⟩
      have HBR : Hid (Below W9.heap.size W9 V) := Lib.hid (by rw [hV]; exact (Below.refl _ _).drew)
      rw [← hV] at hHeld ⊢
      clear hV
      refine wpAnyH_take (i := 0) (v := ?_) rfl (by kernel_rfl) (by kernel_rfl) (by kernel_rfl) (fun _ _ _ h => h) (Or.inl ⟨by rfl, ?_⟩) (by assumption) ?_
      rotate_left
      · intro w hSw; (try dsimp only at hSw); go_simp <;> with_reducible rfl
      try simp only [Act.put, List.getElem_toArray, List.getElem_cons_zero, List.setIfInBounds_toArray, List.set_cons_zero, List.set_cons_succ]
      refine wpAnyH_take (i := 1) (v := ?_) rfl (by kernel_rfl) (by kernel_rfl) (by kernel_rfl) (fun _ _ _ h => h) (Or.inl ⟨by rfl, ?_⟩) (by assumption) ?_
      rotate_left
      · intro w hSw; (try dsimp only at hSw); go_simp <;> with_reducible rfl
      try simp only [Act.put, List.getElem_toArray, List.getElem_cons_succ, List.getElem_cons_zero, List.setIfInBounds_toArray, List.set_cons_zero, List.set_cons_succ]
      refine wpAnyH_ready (rs := [2]) (by kernel_rfl) (by simp) ?_
      refine AllReadyH.cons rfl (fun K hK => ?_) AllReadyH.nil
      go_simp
      go_at_call 18
      refine (KS1.out _ HBR.out).mono ?_
      rintro e V ⟨rfl, hb⟩
      have HBR := Lib.hid (step HBR.out hb)
      clear hb
      refine hK.out _ _ (HKP.out _ HBR.out) (fun hHeld => ?_)
      clear hK K
      try simp only [Act.put, List.getElem_toArray, List.getElem_cons_succ, List.getElem_cons_zero, List.setIfInBounds_toArray, List.set_cons_zero, List.set_cons_succ]
      refine wpAnyH_take (i := 3) (v := ?_) rfl (by kernel_rfl) (by kernel_rfl) (by kernel_rfl) (fun _ _ _ h => h) (Or.inl ⟨by rfl, ?_⟩) (by assumption) ?_
      rotate_left
      · intro w hSw; (try dsimp only at hSw); go_simp <;> with_reducible rfl
      try simp only [Act.put, List.getElem_toArray, List.getElem_cons_succ, List.getElem_cons_zero, List.setIfInBounds_toArray, List.set_cons_zero, List.set_cons_succ]
      refine wpAnyH_take (i := 4) (v := ?_) rfl (by kernel_rfl) (by kernel_rfl) (by kernel_rfl) (fun _ _ _ h => h) (Or.inl ⟨by rfl, ?_⟩) (by assumption) ?_
      rotate_left
      · intro w hSw; (try dsimp only at hSw); go_simp <;> with_reducible rfl
      try simp only [Act.put, List.getElem_toArray, List.getElem_cons_succ, List.getElem_cons_zero, List.setIfInBounds_toArray, List.set_cons_zero, List.set_cons_succ]
      refine wpAnyH_take (i := 5) (v := ?_) rfl (by kernel_rfl) (by kernel_rfl) (by kernel_rfl) (fun _ _ _ h => h) (Or.inl ⟨by rfl, ?_⟩) (by assumption) ?_
      rotate_left
      · intro w hSw; (try dsimp only at hSw); go_simp <;> with_reducible rfl
      try simp only [Act.put, List.getElem_toArray, List.getElem_cons_succ, List.getElem_cons_zero, List.setIfInBounds_toArray, List.set_cons_zero, List.set_cons_succ]
      refine wpAnyH_take (i := 6) (v := ?_) rfl (by kernel_rfl) (by kernel_rfl) (by kernel_rfl) (fun _ _ _ h => h) (Or.inl ⟨by rfl, ?_⟩) (by assumption) ?_
      rotate_left
      · intro w hSw; (try dsimp only at hSw); go_simp <;> with_reducible rfl
      try simp only [Act.put, List.getElem_toArray, List.getElem_cons_succ, List.getElem_cons_zero, List.setIfInBounds_toArray, List.set_cons_zero, List.set_cons_succ]
      refine wpAnyH_take (i := 8) (v := ?_) rfl (by kernel_rfl) (by kernel_rfl) (by kernel_rfl) (fun _ _ _ h => h) (Or.inl ⟨by rfl, ?_⟩) (by assumption) ?_
      rotate_left
      · intro w hSw; (try dsimp only at hSw); go_simp <;> with_reducible rfl
      try simp only [Act.put, List.getElem_toArray, List.getElem_cons_succ, List.getElem_cons_zero, List.setIfInBounds_toArray, List.set_cons_zero, List.set_cons_succ]
      refine wpAnyH_take (i := 9) (v := ?_) rfl (by kernel_rfl) (by kernel_rfl) (by kernel_rfl) (fun _ _ _ h => h) (Or.inl ⟨by rfl, ?_⟩) (by assumption) ?_
      rotate_left
      · intro w hSw; (try dsimp only at hSw); go_simp <;> with_reducible rfl
      try simp only [Act.put, List.getElem_toArray, List.getElem_cons_succ, List.getElem_cons_zero, List.setIfInBounds_toArray, List.set_cons_zero, List.set_cons_succ]
      refine wpAnyH_ready (rs := [7]) (by kernel_rfl) (by simp) ?_
      refine AllReadyH.cons rfl (fun K hK => ?_) AllReadyH.nil
      go_simp
      go_at_call 20
      refine (KG1.out _ HBR.out).mono ?_
      rintro e V ⟨v1, rfl, ho1, hb⟩
      have HO1 := Lib.hid (RdX.own cellsI_length ho1)
      clear ho1
      have HBR := Lib.hid (step HBR.out hb)
      clear hb
      refine hK.out _ _ (HKP.out _ HBR.out) (fun hHeld => ?_)
      clear hK K
      try simp only [Act.put, List.getElem_toArray, List.getElem_cons_succ, List.getElem_cons_zero, List.setIfInBounds_toArray, List.set_cons_zero, List.set_cons_succ]
      refine wpAnyH_ready (rs := [10]) (by kernel_rfl) (by simp) ?_
      refine AllReadyH.cons rfl (fun K hK => ?_) AllReadyH.nil
      go_simp
      go_at_call 21
      refine (KG2.out _ HBR.out).mono ?_
      rintro e V ⟨v2, rfl, ho2, hb⟩
      have HO1 := Lib.hid (HO1.out.later hb)
      have HO2 := Lib.hid (RdX.own cellsI_length ho2)
      clear ho2
      have HBR := Lib.hid (step HBR.out hb)
      clear hb
      refine hK.out _ _ (HKP.out _ HBR.out) (fun hHeld => ?_)
      clear hK K
      try simp only [Act.put, List.getElem_toArray, List.getElem_cons_succ, List.getElem_cons_zero, List.setIfInBounds_toArray, List.set_cons_zero, List.set_cons_succ]
      refine wpAnyH_ready (rs := [11]) (by kernel_rfl) (by simp) ?_
      refine AllReadyH.cons rfl (fun K hK => ?_) AllReadyH.nil
      go_simp
      go_at_call 19
      refine (KI.out _ _ _ _ HO1.out HO2.out).mono ?_
      rintro e V ⟨rfl, hb⟩
      have HBR := Lib.hid (step HBR.out hb)
      clear hb
      refine hK.out _ _ (HKP.out _ HBR.out) (fun hHeld => ?_)
      clear hK K
      try simp only [Act.put, List.getElem_toArray, List.getElem_cons_succ, List.getElem_cons_zero, List.setIfInBounds_toArray, List.set_cons_zero, List.set_cons_succ]
      refine wpAnyH_take (i := 12) (v := ?_) rfl (by kernel_rfl) (by kernel_rfl) (by kernel_rfl) (fun _ _ _ h => h) (Or.inl ⟨by rfl, ?_⟩) (by assumption) ?_
      rotate_left
      · intro w hSw; (try dsimp only at hSw); go_simp <;> with_reducible rfl
      try simp only [Act.put, List.getElem_toArray, List.getElem_cons_succ, List.getElem_cons_zero, List.setIfInBounds_toArray, List.set_cons_zero, List.set_cons_succ]
      refine wpAnyH_take (i := 13) (v := ?_) rfl (by kernel_rfl) (by kernel_rfl) (by kernel_rfl) (fun _ _ _ h => h) (Or.inl ⟨by rfl, ?_⟩) (by assumption) ?_
      rotate_left
      · intro w hSw; (try dsimp only at hSw); go_simp <;> with_reducible rfl
      try simp only [Act.put, List.getElem_toArray, List.getElem_cons_succ, List.getElem_cons_zero, List.setIfInBounds_toArray, List.set_cons_zero, List.set_cons_succ]
      refine wpAnyH_done (by kernel_rfl) ?_ _
      have HX9 := Lib.hid (HX9.out.later HBR.out)
      have HF9 := Lib.hid (HF9.out.later HBR.out)
      have HXY := Lib.hid (HXY.out.later HBR.out)
      have HBV := Lib.hid (step HB9.out HBR.out)
      obtain ⟨wz, rfl⟩ : ∃ wz, wz = V := ⟨_, rfl⟩
      clear hHeld HKP KS1 KG1 KG2 KI HX8 HR8 HBR HB9 HO1 HO2 HFY HV8 HRY
      have KQ := Lib.hid (fun W (hb : Below wz.heap.size wz W) => Request_any ⟨zt, zn, zk, zS, za, zc, zK, zka, zkc, zM, zma, zmc⟩ ⟨at', ac, aq, ak, an, am⟩ W ((HF9.out.later hb).rd (RdSt.zero W)) (by rw [HV9.out]; exact HAR.out) HOK.out)
      have KA := Lib.hid (fun W (hb : Below wz.heap.size wz W) => DevApply ⟨zt, zn, zk, zS, za, zc, zK, zka, zkc, zM, zma, zmc⟩ rq W ((HF9.out.later hb).rd (RdSt.zero W)) (by rw [HV9.out]; exact HAR.out) (by have := HBD.out.1; rw [← HV9.out] at this; exact this) (by have := HBD.out.2; rw [← HV9.out] at this; exact this))
      have KB := Lib.hid (fun W (hb : Below wz.heap.size wz W) => RefApply_any ⟨zt, zn, zk, zS, za, zc, zK, zka, zkc, zM, zma, zmc⟩ rq W ((HF9.out.later hb).rd (RdSt.zero W)) (by rw [HV9.out]; exact HAR.out))
      rw [HV9.out, hrq] at KQ
      rw [HV9.out, hRR] at KA KB
      clear hrq hRR
      obtain ⟨rc, rs, ⟨rk, rn, rm⟩⟩ := rq
      unfold stVal actVal reqVal at KQ
      unfold stVal reqVal ReadsAp at KA
      unfold stVal reqVal GetsAp at KB
      try dsimp only at KQ KA KB
      unfold stVal at KA KB
      simp only [StC.sv, StC.kv, StC.mv] at KQ KA KB
      have HKP : Hid (∀ W, Below wz.heap.size wz W → (fun W => ((W.cell? ⟨b9, 0, none⟩ = some (.int .i64 zt) ∧ W.cell? ⟨b9, 1, none⟩ = some (.int .i64 zn) ∧ W.cell? ⟨b9, 2, none⟩ = some (.int .i64 zk)) ∧ W.cell? ⟨b9, 3, none⟩ = some (.slice za zS.length zc) ∧ W.cell? ⟨b9, 4, none⟩ = some (.slice zka zK.length zkc) ∧ W.cell? ⟨b9, 5, none⟩ = some (.slice zma zM.length zmc)) ∧ W.cell? ⟨b, o + k * 6, none⟩ = some (.int .u8 (at' : Int)) ∧ W.cell? ⟨b, o + k * 6 + 1, none⟩ = some (.int .u8 (ac : Int)) ∧ W.cell? ⟨b, o + k * 6 + 2, none⟩ = some (.int .u8 (aq : Int)) ∧ W.cell? ⟨b, o + k * 6 + 3, none⟩ = some (.int .u8 (ak : Int)) ∧ W.cell? ⟨b, o + k * 6 + 4, none⟩ = some (.int .u8 (an : Int)) ∧ W.cell? ⟨b, o + k * 6 + 5, none⟩ = some (.int .u8 (am : Int))) W) := Lib.hid fun W hb => ⟨(HX9.out.later hb).cells, HAC.out W (step (step HB.out HBV.out) hb)⟩
      go_upto_region 12 with fail
      go_cut [10] from 59 to 64 (fun s10 wc => ∃ bq : Nat, s10 = .pointer (some ⟨bq, 0, none⟩) ∧ Hid (BoxQ wc bq ⟨rc, rs, ⟨rk, rn, rm⟩⟩) ∧ Hid (Below wz.heap.size wz wc))
      case first =>
        refine wp_region_held_drew (S := (fun W => ((W.cell? ⟨b9, 0, none⟩ = some (.int .i64 zt) ∧ W.cell? ⟨b9, 1, none⟩ = some (.int .i64 zn) ∧ W.cell? ⟨b9, 2, none⟩ = some (.int .i64 zk)) ∧ W.cell? ⟨b9, 3, none⟩ = some (.slice za zS.length zc) ∧ W.cell? ⟨b9, 4, none⟩ = some (.slice zka zK.length zkc) ∧ W.cell? ⟨b9, 5, none⟩ = some (.slice zma zM.length zmc)) ∧ W.cell? ⟨b, o + k * 6, none⟩ = some (.int .u8 (at' : Int)) ∧ W.cell? ⟨b, o + k * 6 + 1, none⟩ = some (.int .u8 (ac : Int)) ∧ W.cell? ⟨b, o + k * 6 + 2, none⟩ = some (.int .u8 (aq : Int)) ∧ W.cell? ⟨b, o + k * 6 + 3, none⟩ = some (.int .u8 (ak : Int)) ∧ W.cell? ⟨b, o + k * 6 + 4, none⟩ = some (.int .u8 (an : Int)) ∧ W.cell? ⟨b, o + k * 6 + 5, none⟩ = some (.int .u8 (am : Int)))) (by kernel_rfl) (HKP.out _ (Below.refl _ _).drew) (fun hHeld => ?_)
        obtain ⟨V, hV⟩ : ∃ V, V = wz.drew := ⟨_, rfl⟩
        have HBR : Hid (Below wz.heap.size wz V) := Lib.hid (by rw [hV]; exact (Below.refl _ _).drew)
        rw [← hV] at hHeld ⊢
        clear hV
        refine wpAnyH_take (i := 0) (v := ?_) rfl (by kernel_rfl) (by kernel_rfl) (by kernel_rfl) (fun _ _ _ h => h) (Or.inl ⟨by rfl, ?_⟩) (by assumption) ?_
        rotate_left
        · intro w hSw; (try dsimp only at hSw); go_simp <;> with_reducible rfl
        try simp only [Act.put, List.getElem_toArray, List.getElem_cons_succ, List.getElem_cons_zero, List.setIfInBounds_toArray, List.set_cons_zero, List.set_cons_succ]
        refine wpAnyH_take (i := 1) (v := ?_) rfl (by kernel_rfl) (by kernel_rfl) (by kernel_rfl) (fun _ _ _ h => h) (Or.inl ⟨by rfl, ?_⟩) (by assumption) ?_
        rotate_left
        · intro w hSw; (try dsimp only at hSw); go_simp <;> with_reducible rfl
        try simp only [Act.put, List.getElem_toArray, List.getElem_cons_succ, List.getElem_cons_zero, List.setIfInBounds_toArray, List.set_cons_zero, List.set_cons_succ]
        refine wpAnyH_take (i := 2) (v := ?_) rfl (by kernel_rfl) (by kernel_rfl) (by kernel_rfl) (fun _ _ _ h => h) (Or.inl ⟨by rfl, ?_⟩) (by assumption) ?_
        rotate_left
        · intro w hSw; (try dsimp only at hSw); go_simp <;> with_reducible rfl
        try simp only [Act.put, List.getElem_toArray, List.getElem_cons_succ, List.getElem_cons_zero, List.setIfInBounds_toArray, List.set_cons_zero, List.set_cons_succ]
        refine wpAnyH_take (i := 3) (v := ?_) rfl (by kernel_rfl) (by kernel_rfl) (by kernel_rfl) (fun _ _ _ h => h) (Or.inl ⟨by rfl, ?_⟩) (by assumption) ?_
        rotate_left
        · intro w hSw; (try dsimp only at hSw); go_simp <;> with_reducible rfl
        try simp only [Act.put, List.getElem_toArray, List.getElem_cons_succ, List.getElem_cons_zero, List.setIfInBounds_toArray, List.set_cons_zero, List.set_cons_succ]
        refine wpAnyH_take (i := 4) (v := ?_) rfl (by kernel_rfl) (by kernel_rfl) (by kernel_rfl) (fun _ _ _ h => h) (Or.inl ⟨by rfl, ?_⟩) (by assumption) ?_
        rotate_left
        · intro w hSw; (try dsimp only at hSw); go_simp <;> with_reducible rfl
        try simp only [Act.put, List.getElem_toArray, List.getElem_cons_succ, List.getElem_cons_zero, List.setIfInBounds_toArray, List.set_cons_zero, List.set_cons_succ]
        have HNC : Hid (Old V fun _ => True) := Lib.hid fun _ _ => trivial
        have HNA : Hid (Old V fun _ => True) := Lib.hid fun _ _ => trivial
        all_goals
          refine wpAnyH_ready (rs := [5, 6]) (by kernel_rfl) (by simp) ?_
          refine AllReadyH.cons rfl (fun K hK => ?_) (AllReadyH.cons rfl (fun K hK => ?_) AllReadyH.nil)
        all_goals
          go_simp
          first
            | (go_at_call 22
               refine (KQ.out _ HBR.out).mono ?_
               rintro e V ⟨rfl, hb⟩
               have HNC : Hid (Old V (fun _ => True)) := Lib.hid fun W hw => trivial
               have HNA := Lib.hid (HNA.out.later hb)
               have HBR := Lib.hid (step HBR.out hb)
               clear hb
               have mC := trivial
               refine hK.out _ _ (HKP.out _ HBR.out) (fun hHeld => ?_)
               clear hK K
               try simp only [Act.put, List.getElem_toArray, List.getElem_cons_succ, List.getElem_cons_zero, List.setIfInBounds_toArray, List.set_cons_zero, List.set_cons_succ])
            | (obtain ⟨V', hV'⟩ : ∃ V', V' = V.alloc (.cells #[.int .i64 0, .int .i64 0, .int .i64 0, .int .i64 0, .string ⟨#[]⟩] 39) := ⟨_, rfl⟩
               rw [← hV']
               have hb : Below V.heap.size V V' := (by rw [hV']; exact newAlloc _ _)
               have hn : BoxQ V' V.heap.size ⟨0, 0, ⟨0, 0, []⟩⟩ := (by rw [hV']; exact BoxQ.new V ⟨0, 0, ⟨0, 0, []⟩⟩ _)
               have hgebq : wz.heap.size ≤ V.heap.size := HBR.out.size
               obtain ⟨bq, hbq⟩ : ∃ bq, V.heap.size = bq := ⟨_, rfl⟩
               rw [hbq] at hn hgebq ⊢
               have HNA : Hid (Old V' (fun W => BoxQ W bq ⟨0, 0, ⟨0, 0, []⟩⟩)) := Lib.hid fun W hw => hn.later hw
               have HNC := Lib.hid (HNC.out.later hb)
               have HBR := Lib.hid (step HBR.out hb)
               clear hV' hb hn hbq
               obtain ⟨V, rfl⟩ : ∃ V, V = V' := ⟨_, rfl⟩
               have mA := trivial
               refine hK.out _ _ (HKP.out _ HBR.out) (fun hHeld => ?_)
               clear hK K
               try simp only [Act.put, List.getElem_toArray, List.getElem_cons_succ, List.getElem_cons_zero, List.setIfInBounds_toArray, List.set_cons_zero, List.set_cons_succ])
        all_goals
          first
            | (revert mA; intro mA; refine wpAnyH_ready (rs := [5]) (by kernel_rfl) (by simp) ?_; refine AllReadyH.cons rfl (fun K hK => ?_) AllReadyH.nil)
            | (revert mC; intro mC; refine wpAnyH_ready (rs := [6]) (by kernel_rfl) (by simp) ?_; refine AllReadyH.cons rfl (fun K hK => ?_) AllReadyH.nil)
        all_goals
          go_simp
          first
            | (go_at_call 22
               refine (KQ.out _ HBR.out).mono ?_
               rintro e V ⟨rfl, hb⟩
               have HNC : Hid (Old V (fun _ => True)) := Lib.hid fun W hw => trivial
               have HNA := Lib.hid (HNA.out.later hb)
               have HBR := Lib.hid (step HBR.out hb)
               clear hb
               have mC := trivial
               refine hK.out _ _ (HKP.out _ HBR.out) (fun hHeld => ?_)
               clear hK K
               try simp only [Act.put, List.getElem_toArray, List.getElem_cons_succ, List.getElem_cons_zero, List.setIfInBounds_toArray, List.set_cons_zero, List.set_cons_succ])
            | (obtain ⟨V', hV'⟩ : ∃ V', V' = V.alloc (.cells #[.int .i64 0, .int .i64 0, .int .i64 0, .int .i64 0, .string ⟨#[]⟩] 39) := ⟨_, rfl⟩
               rw [← hV']
               have hb : Below V.heap.size V V' := (by rw [hV']; exact newAlloc _ _)
               have hn : BoxQ V' V.heap.size ⟨0, 0, ⟨0, 0, []⟩⟩ := (by rw [hV']; exact BoxQ.new V ⟨0, 0, ⟨0, 0, []⟩⟩ _)
               have hgebq : wz.heap.size ≤ V.heap.size := HBR.out.size
               obtain ⟨bq, hbq⟩ : ∃ bq, V.heap.size = bq := ⟨_, rfl⟩
               rw [hbq] at hn hgebq ⊢
               have HNA : Hid (Old V' (fun W => BoxQ W bq ⟨0, 0, ⟨0, 0, []⟩⟩)) := Lib.hid fun W hw => hn.later hw
               have HNC := Lib.hid (HNC.out.later hb)
               have HBR := Lib.hid (step HBR.out hb)
               clear hV' hb hn hbq
               obtain ⟨V, rfl⟩ : ∃ V, V = V' := ⟨_, rfl⟩
               have mA := trivial
               refine hK.out _ _ (HKP.out _ HBR.out) (fun hHeld => ?_)
               clear hK K
               try simp only [Act.put, List.getElem_toArray, List.getElem_cons_succ, List.getElem_cons_zero, List.setIfInBounds_toArray, List.set_cons_zero, List.set_cons_succ])
        all_goals
          obtain ⟨⟨x0, x1, x2, x3, x4⟩, xf⟩ := HNA.out.now
          dsimp only at x0 x1 x2 x3 x4
        all_goals
          refine wpAnyH_ready (rs := [7]) (by kernel_rfl) (by simp) ?_
          refine AllReadyH.cons rfl (fun K hK => ?_) AllReadyH.nil
          go_simp
          refine hK.out _ _ (HKP.out _ (set5q HBR.out bq hgebq _ _ _ _ _)) (fun hHeld => ?_)
          clear hK K
          try simp only [Act.put, List.getElem_toArray, List.getElem_cons_succ, List.getElem_cons_zero, List.setIfInBounds_toArray, List.set_cons_zero, List.set_cons_succ]
        all_goals refine wpAnyH_done (by kernel_rfl) ?_ _
        all_goals
          have HQE := Lib.hid (BoxQ.put HNA.out.now rc rs rk rn rm)
          have HBE := Lib.hid (set5q HBR.out bq hgebq (.int .i64 rc) (.int .i64 rs) (.int .i64 rk) (.int .i64 rn) (.string (bstr rm)))
          clear x0 x1 x2 x3 x4 xf HNA HNC HBR hHeld
          go_wp2
          go_meet
          case rel => exact ⟨bq, rfl, HQE, HBE⟩
      case rest =>
        obtain ⟨bq, rfl, HQ, HBQ⟩ := hcut
        obtain ⟨wq, rfl⟩ : ∃ wq, wq = wc := ⟨_, rfl⟩
        clear HKP KQ
        obtain ⟨c0, c1, c2, c3, c4, c5, cf⟩ := HX9.out.later HBQ.out
        simp only [StC.sv, StC.kv, StC.mv] at c0 c1 c2 c3 c4 c5
        obtain ⟨⟨q0, q1, q2, q3, q4⟩, qf⟩ := HQ.out
        dsimp only at q0 q1 q2 q3 q4
        go_upto_region 14 with (go_at_call 23; refine (KA.out _ HBQ.out).mono ?_; rintro e w13 ⟨⟨dt, dn, dk, dS, da, dc, dK, dka, dkc, dM, dma, dmc⟩, h13, p13, he, hv13, hr13, hh13, hb13⟩; simp only [StC.sv, StC.kv, StC.mv] at he; subst he; have HV13 := Lib.hid hv13; have HR13 := Lib.hid hr13; have HH13 := Lib.hid hh13; have HB13 := Lib.hid hb13; clear hv13 hr13 hh13 hb13)
        have hbx13 := two_boxes w13 ⟨dt, dn, dk, dS, da, dc, dK, dka, dkc, dM, dma, dmc⟩ ⟨pc, ps, pd, pl⟩ (.slice h13 pl.length p13) 28 44 (b := w13.heap.size) rfl
        simp only [StC.sv, StC.kv, StC.mv] at hbx13
        obtain ⟨W13, hW13⟩ : ∃ W13, W13 = (w13.alloc (.cells #[.int .i64 dt, .int .i64 dn, .int .i64 dk, .slice da dS.length dc, .slice dka dK.length dkc, .slice dma dM.length dmc] 28)).alloc (.cells #[.int .i64 pc, .int .i64 ps, .int .i64 pd, .slice h13 pl.length p13] 44) := ⟨_, rfl⟩
        rw [← hW13] at hbx13 ⊢
        obtain ⟨t13, ht13⟩ : ∃ t, w13.heap.size = t := ⟨_, rfl⟩
        have hn13 := hbx13.2.2
        rw [ht13] at hbx13 ⊢
        have HX13 := Lib.hid hbx13.1
        have HP13 := Lib.hid hbx13.2.1
        have HR13 := Lib.hid (HR13.out.later hn13)
        have HH13 := Lib.hid (HH13.out.later hn13)
        have HN13 := Lib.hid (step HB13.out hn13)
        have HB13 := Lib.hid (step HBQ.out HN13.out)
        have HQ := Lib.hid (HQ.out.later HN13.out)
        clear hW13 hbx13 hn13 ht13 c0 c1 c2 c3 c4 c5 cf q0 q1 q2 q3 q4 qf KA HN13
        obtain ⟨c0, c1, c2, c3, c4, c5, cf⟩ := HX9.out.later HB13.out
        simp only [StC.sv, StC.kv, StC.mv] at c0 c1 c2 c3 c4 c5
        obtain ⟨⟨q0, q1, q2, q3, q4⟩, qf⟩ := HQ.out
        dsimp only at q0 q1 q2 q3 q4
        go_upto_region 15 with (go_at_call 24; refine (KB.out _ HB13.out).mono ?_; rintro e w14 ⟨⟨ut, un, uk, uS, ua, uc, uK, uka, ukc, uM, uma, umc⟩, h14, p14, he, hv14, hf14, hh14, hb14⟩; simp only [StC.sv, StC.kv, StC.mv] at he; subst he; have HV14 := Lib.hid hv14; have HF14 := Lib.hid hf14; have HH14 := Lib.hid hh14; have HB14 := Lib.hid hb14; clear hv14 hf14 hh14 hb14)
        have hbx14 := two_boxes w14 ⟨ut, un, uk, uS, ua, uc, uK, uka, ukc, uM, uma, umc⟩ ⟨pc, ps, pd, pl⟩ (.slice h14 pl.length p14) 28 44 (b := w14.heap.size) rfl
        simp only [StC.sv, StC.kv, StC.mv] at hbx14
        obtain ⟨W14, hW14⟩ : ∃ W14, W14 = (w14.alloc (.cells #[.int .i64 ut, .int .i64 un, .int .i64 uk, .slice ua uS.length uc, .slice uka uK.length ukc, .slice uma uM.length umc] 28)).alloc (.cells #[.int .i64 pc, .int .i64 ps, .int .i64 pd, .slice h14 pl.length p14] 44) := ⟨_, rfl⟩
        rw [← hW14] at hbx14 ⊢
        obtain ⟨t14, ht14⟩ : ∃ t, w14.heap.size = t := ⟨_, rfl⟩
        have hn14 := hbx14.2.2
        rw [ht14] at hbx14 ⊢
        have HX14 := Lib.hid hbx14.1
        have HP14 := Lib.hid hbx14.2.1
        have HN14 := Lib.hid (step HB14.out hn14)
        have HF14 := Lib.hid (((HF9.out.later (step HB13.out HB14.out)).trans (HF14.out.lower (Nat.le_trans hsz (Nat.le_trans HBV.out.size HB13.out.size)))).later hn14)
        have HH14 := Lib.hid (HH14.out.later hn14)
        have HR13 := Lib.hid (HR13.out.later HN14.out)
        have HH13 := Lib.hid (HH13.out.later HN14.out)
        have HX13 := Lib.hid (HX13.out.later HN14.out)
        have HP13 := Lib.hid (HP13.out.later HN14.out)
        have HXY := Lib.hid (HXY.out.later (step HB13.out HN14.out))
        have HB14 := Lib.hid (step (step HB.out HBV.out) (step HB13.out HN14.out))
        have hsz14 : HI ≤ W14.heap.size := Nat.le_trans (Nat.le_trans hsz HBV.out.size) (step HB13.out HN14.out).size
        clear hW14 hbx14 hn14 ht14 c0 c1 c2 c3 c4 c5 cf q0 q1 q2 q3 q4 qf KB HN14 HQ
        have hnx := HFW.out.2
        rw [← HV14.out] at hnx
        have hru := hnx.right
        clear hnx
        have KS2 := Lib.hid (fun W (hb : Below W14.heap.size W14 W) => same_states ⟨dt, dn, dk, dS, da, dc, dK, dka, dkc, dM, dma, dmc⟩ ⟨ut, un, uk, uS, ua, uc, uK, uka, ukc, uM, uma, umc⟩ W (HR13.out.later hb) ((HF14.out.later hb).rd (RdSt.zero W)) (HV13.out.trans HV14.out.symm))
        have KP := Lib.hid (fun W (hb : Below W14.heap.size W14 W) => SameReply_any ⟨pc, ps, pd, pl⟩ ⟨pc, ps, pd, pl⟩ _ _ W (HH13.out.later hb) (HH14.out.later hb))
        rw [sameP_refl] at KP
        have KT := Lib.hid (fun W (hb : Below W14.heap.size W14 W) => DevRight ⟨ut, un, uk, uS, ua, uc, uK, uka, ukc, uM, uma, umc⟩ W ((HF14.out.later hb).rd (RdSt.zero W)) hru)
        unfold stVal at KS2 KT
        unfold repVal at KP
        simp only [StC.sv, StC.kv, StC.mv] at KS2 KT
        dsimp only at KP
        clear hru
        have t9 : (did != did) = false := by simp
        obtain ⟨d0, d1, d2, d3, d4, d5, df⟩ := HX13.out
        simp only [StC.sv, StC.kv, StC.mv] at d0 d1 d2 d3 d4 d5
        obtain ⟨u0, u1, u2, u3, u4, u5, uf⟩ := HX14.out
        simp only [StC.sv, StC.kv, StC.mv] at u0 u1 u2 u3 u4 u5
        go_wp2_with fail
        refine (KS2.out _ (Below.refl _ _)).mono ?_
        rintro e w15 ⟨rfl, hb15⟩
        have HB15 := Lib.hid hb15
        clear hb15 d0 d1 d2 d3 d4 d5 df u0 u1 u2 u3 u4 u5 uf
        obtain ⟨r0, r1, r2, r3⟩ := HP13.out.later HB15.out
        dsimp only at r0 r1 r2 r3
        obtain ⟨s0, s1, s2, s3⟩ := HP14.out.later HB15.out
        dsimp only at s0 s1 s2 s3
        go_wp2_with fail
        refine (KP.out _ HB15.out).mono ?_
        rintro e w16 ⟨rfl, hb16⟩
        have HB16 := Lib.hid (step HB15.out hb16)
        clear hb16 r0 r1 r2 r3 s0 s1 s2 s3
        obtain ⟨u0, u1, u2, u3, u4, u5, uf⟩ := HX14.out.later HB16.out
        simp only [StC.sv, StC.kv, StC.mv] at u0 u1 u2 u3 u4 u5
        go_wp2_with fail
        refine (KT.out _ HB16.out).mono ?_
        rintro e w17 ⟨rfl, hb17⟩
        have HB17 := Lib.hid (step HB16.out hb17)
        clear hb17 u0 u1 u2 u3 u4 u5 uf
        obtain ⟨u0, u1, u2, u3, u4, u5, uf⟩ := HX14.out.later HB17.out
        simp only [StC.sv, StC.kv, StC.mv] at u0 u1 u2 u3 u4 u5
        have HXS := Lib.hid (HXY.out.later HB17.out)
        obtain ⟨c0, c1, c2, c3, c4, c5, cf⟩ := HXS.out
        simp only [StC.sv, StC.kv, StC.mv] at c0 c1 c2 c3 c4 c5
        have HXE := Lib.hid (HXS.out.put ut un uk uS ua uc uK uka ukc uM uma umc)
        have HFE := Lib.hid ((HF14.out.later HB17.out).set6 hlt1 (.int .i64 ut) (.int .i64 un) (.int .i64 uk) (.slice ua uS.length uc) (.slice uka uK.length ukc) (.slice uma uM.length umc))
        have HBE := Lib.hid (below_set6 (step HB14.out HB17.out) nb (Nat.le_of_eq HNB.out) (.int .i64 ut) (.int .i64 un) (.int .i64 uk) (.slice ua uS.length uc) (.slice uka uK.length ukc) (.slice uma uM.length umc))
        have HVE : Hid (Few10 (k + 1) (StC.v ⟨ut, un, uk, uS, ua, uc, uK, uka, ukc, uM, uma, umc⟩)) := Lib.hid (by rw [HV14.out]; exact HFW.out.1)
        have hszv : HI ≤ w17.heap.size := Nat.le_trans hsz14 HB17.out.size
        go_wp2_with fail
        go_roundw
        case rel => exact ⟨k + 1, ⟨ut, un, uk, uS, ua, uc, uK, uka, ukc, uM, uma, umc⟩, by omega, by go_num, by simpa using hszv, HXE, HFE, HVE, HBE⟩
        case measure => simp [intOf]; omega
    · obtain rfl : k = N := by omega
      clear hlt HAT HAO
      go_wp2_with (go_at_call 15; refine (C0.out _).mono ?_; rintro e w9 ⟨rfl, hb9⟩)
      go_ret
      exact ⟨rfl, step HB.out hb9⟩
end Cm
end Go.Proofs.YthpknaieimlmnaaGreat
