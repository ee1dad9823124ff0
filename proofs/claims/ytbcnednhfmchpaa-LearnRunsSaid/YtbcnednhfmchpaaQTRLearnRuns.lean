/- PROVED: the statement LearnRuns of layer 15: for every input that can be read, the law returns true and leaves its arguments as they were. No condition. -/
import Derived.Test.YtbcnednhfmchpaaRows
import Derived.Test.YtbcnednhfmchpaaQT6
import Derived.WalkKit
import Derived.ProofKit
import Derived.OpenShut
import Derived.ShutString
import Derived.ChangeOld
import Derived.Below
import Derived.BigQuiet
import Derived.Lib.QuietBelow
import Derived.SizedLaws
import Derived.Deep.Cut
import Derived.Deep.CutBlock
import Derived.Deep.DeepCutAuto
namespace Go.Proofs.Ytbcnednhfmchpaa.learnRuns
open Go.ChangeShapes Go.WideShapes Go.ChangeAt Go.RowKit
open Go.ChangeMaps (open_string shut_string)
open Go.Sort (grow)
set_option linter.unusedVariables false
set_option maxRecDepth 8000
set_option linter.unusedSimpArgs false

theorem own : ownKnob Try.prog.godebug = none := by kernel_rfl
theorem laidOut : laidOutB Try.prog = true := by kernel_rfl

/-! ### STEP 1: THE WALK -/
set_option maxRecDepth 100000 in
set_option maxHeartbeats 20000000 in
theorem walk (a0 : Int) (a1 : Ln.ActsC) (w : World) (w0 : (Lit.int .i64 a0).wf = true) (w1 : Ln.actsOk w a1) :
    Calls Try.prog 3 #[.int .i64 a0, Ln.actsVal a1] w fun e w' => e = .returned (.bool true) ∧ Below w.heap.size w w' := by
  obtain ⟨AL, va⟩ := a1
  obtain ⟨hrow, hok⟩ := w1
  unfold Ln.actsVal
  dsimp only at hrow hok ⊢
  obtain ⟨aa, ac, rfl⟩ := hrow.form
  have hn := hrow.len
  have C0 := Lib.hid (fun w => Ln.awake15_ok w)
  have HAT := Lib.hid (fun i hi => Ln.acts_at hrow i hi)
  have HOK := Lib.hid hok
  clear hrow hok w0
  obtain ⟨n, hn2⟩ : ∃ n, AL.length = n := ⟨_, rfl⟩
  have HN := Lib.hid hn2
  rw [hn2] at hn ⊢
  clear hn2
  obtain ⟨g, hgw⟩ : ∃ g, w.heap.size = g := ⟨_, rfl⟩
  have HGW := Lib.hid hgw
  by_cases h60 : 60 < n
  · have d0 : decide ((60 : Int) < (n : Int)) = true := by simp; omega
    clear h60 hgw
    go_enter Try.func3, Try.ntmps3
    go_wp2_with (go_at_call 8; refine (C0.out _).mono ?_; rintro e w8 ⟨rfl, hb⟩; have HB8 := Lib.hid hb; clear hb)
    go_ret
    exact ⟨rfl, HB8.out⟩
  have d0 : decide ((60 : Int) < (n : Int)) = false := by simp; omega
  have hn60 : n ≤ 60 := by omega
  clear h60
  cases hsn : Ln.someN a0
  · have CN := Lib.hid (fun w => Ln.New_no a0 w hsn)
    have CM := Lib.hid (fun w => Ln.RefNew_no a0 w hsn)
    clear hgw hsn
    go_enter Try.func3, Try.ntmps3
    go_wp2_with (first
      | (go_at_call 9; refine (CN.out _).mono ?_; rintro e wz ⟨rfl, hwz⟩; rw [hwz]; clear hwz wz)
      | (go_at_call 10; refine (CM.out _).mono ?_; rintro e wz ⟨rfl, hwz⟩; rw [hwz]; clear hwz wz)
      | (go_at_call 8; refine (C0.out _).mono ?_; rintro e w8 ⟨rfl, hb⟩; have HB8 := Lib.hid hb; clear hb))
    go_ret
    exact ⟨rfl, HB8.out⟩
  have hab := Ln.some_iff hsn
  have CN := Lib.hid (Ln.New_yes a0 w hsn)
  have CM := Lib.hid (fun w => Ln.RefNew_yes a0 w hsn)
  rw [hgw] at CN
  have HG0 : Hid (Ln.GoodN (Ln.newL a0)) := Lib.hid (Ln.newL_good a0 hab.1 hab.2)
  clear hgw hsn hab
  go_enter Try.func3, Try.ntmps3
  go_upto_region 9 with (first
    | (go_at_call 9; refine CN.out.mono ?_; rintro e w1 ⟨rfl, hw⟩; have HGZ : Hid (w1.heap[g]? = some (.cells (Ln.lrnCells a0 0 (List.replicate 9 Ln.zeroPC)) 63)) := Lib.hid (by rw [hw]; exact Cm.alloc_atB _ _ _ HGW.out); have HB1 : Hid (Below w.heap.size w w1) := Lib.hid (by rw [hw]; exact newAlloc _ _); have hs1 : w1.heap.size = g + 1 := (by rw [hw]; simp [HGW.out]); clear hw)
    | (go_at_call 10; refine (CM.out _).mono ?_; rintro e w2 ⟨rfl, hw⟩; have HL2 : Hid (Ln.HasL w2 (g + 1) (g + 2) (Ln.newL a0)) := Lib.hid (Ln.HasL.new (by rw [hw]; exact Cm.alloc_atB _ _ _ hs1) (by omega) (by rw [hw]; simp [hs1])); have hb : Below w1.heap.size w1 w2 := (by rw [hw]; exact newAlloc _ _); have HA2 : Hid (Ln.HasD w2 g (g + 2) (Ln.newL a0)) := Lib.hid (Ln.HasD.fresh (Cm.cells_later HGZ.out hb) _ (by omega) (by rw [hw]; simp [hs1])); have HB2 := Lib.hid (step HB1.out hb); try rw [hs1]; clear hw hb))
  try rw [hs1]
  clear hs1
  go_loopw [7, 8, 9, 10, 11, 12, 13, 14, 15, 16, 17] (fun i _ _ _ _ _ _ _ _ _ _ wr => ∃ (I : Nat) (st : Ln.LrnV), I ≤ n ∧ i = .int .i64 (I : Int) ∧ Hid (Ln.GoodN st) ∧ Hid (Ln.HasD wr g (g + 2) st) ∧ Hid (Ln.HasL wr (g + 1) (g + 2) st) ∧ Hid (Below w.heap.size w wr)) (fun i _ _ _ _ _ _ _ _ _ _ _ => n - (intOf i).toNat)
  case atStart => exact ⟨0, Ln.newL a0, by omega, rfl, HG0, HA2, HL2, HB2⟩
  case round =>
    obtain ⟨I, st, hI, rfl, HGS0, HAR, HLR, HBR⟩ := hrel
    by_cases hlt : I < n
    · have hil : I < AL.length := by rw [HN.out]; exact hlt
      obtain ⟨b, o, rfl, hc⟩ := HAT.out I hil
      obtain ⟨q0, q1, q2, q3, q4⟩ := hc _ HBR.out
      have hox := HOK.out AL[I] (List.getElem_mem hil)
      clear hc HAT HOK
      generalize AL[I] = x at q0 q1 q2 q3 q4 hox
      obtain ⟨xf, xb, xs, ns, na, nc, xt⟩ := x
      unfold Ln.ActC.u at q3
      dsimp only at q0 q1 q2 q3 q4
      have CBX := Lib.hid (fun (W : World) (hb : Below w.heap.size w W) => Cm.Batch_F (.slice na ns.length nc) ns W (hox.1.later hb) (by have h2 : ns.length ≤ 140737488355328 := hox.2; omega))
      clear hox
      have i0 : (0 : Int) ≤ (I : Int) := by omega
      have i1 : (I : Int) < (n : Int) := by omega
      obtain ⟨px, hpx⟩ : ∃ x, wr.heap.size = x := ⟨_, rfl⟩
      have hgp : g + 1 < px := by rw [← hpx]; exact HLR.out.lt
      have hb := newAlloc wr (.cells #[.int .i64 xf, .int .i64 xb, .int .i64 xs, .slice na ns.length nc, .bool xt] 30)
      have HPX10 : Hid ((wr.alloc (.cells #[.int .i64 xf, .int .i64 xb, .int .i64 xs, .slice na ns.length nc, .bool xt] 30)).heap[px]? = some (.cells #[.int .i64 xf, .int .i64 xb, .int .i64 xs, .slice na ns.length nc, .bool xt] 30)) := Lib.hid (Cm.alloc_atB wr _ _ hpx)
      have HPC : Hid (∀ W : World, W.heap[px]? = some (.cells #[.int .i64 xf, .int .i64 xb, .int .i64 xs, .slice na ns.length nc, .bool xt] 30) → W.cell? ⟨px, 0, none⟩ = some (.int .i64 xf) ∧ W.cell? ⟨px, 1, none⟩ = some (.int .i64 xb) ∧ W.cell? ⟨px, 2, none⟩ = some (.int .i64 xs) ∧ W.cell? ⟨px, 3, none⟩ = some (.slice na ns.length nc)) := Lib.hid fun W h => ⟨Cm.cell_at h 0, Cm.cell_at h 1, Cm.cell_at h 2, Cm.cell_at h 3⟩
      have HA10 := Lib.hid (HAR.out.later hb)
      have HL10 := Lib.hid (HLR.out.later hb)
      have HB10 := Lib.hid (step HBR.out hb)
      go_upto_region 12 with fail
      try rw [hpx]
      generalize wr.alloc (.cells #[.int .i64 xf, .int .i64 xb, .int .i64 xs, .slice na ns.length nc, .bool xt] 30) = w10 at HPX10 HA10 HL10 HB10 ⊢
      clear hb q0 q1 q2 q3 q4 hpx
      have p4 := Cm.cell_at HPX10.out 4
      simp at p4
      cases xt
      · go_upto_region 15 with fail
        clear p4
        refine wp_region_held_drew (S := (fun W => W.cell? ⟨px, 0, none⟩ = some (.int .i64 xf) ∧ W.cell? ⟨px, 1, none⟩ = some (.int .i64 xb) ∧ W.cell? ⟨px, 2, none⟩ = some (.int .i64 xs) ∧ W.cell? ⟨px, 3, none⟩ = some (.slice na ns.length nc))) (by kernel_rfl) (HPC.out _ (Cm.cells_later HPX10.out (Below.refl _ _).drew)) (fun hHeld => ?_)
        obtain ⟨V, hV⟩ : ∃ V, V = w10.drew := ⟨_, rfl⟩
        have hb : Below w10.heap.size w10 V := by rw [hV]; exact (Below.refl _ _).drew
        have HAV := Lib.hid (HA10.out.later hb)
        have HLV := Lib.hid (HL10.out.later hb)
        have HBV := Lib.hid (step HB10.out hb)
        have HPV := Lib.hid (Cm.cells_later HPX10.out hb)
        clear hb
        rw [← hV] at hHeld ⊢
        clear hV
        refine wpAnyH_take (i := 0) (v := ?_) rfl (by kernel_rfl) (by kernel_rfl) (by kernel_rfl) (fun _ _ _ h => h) (Or.inl ⟨by rfl, ?_⟩) (by assumption) ?_
        rotate_left
        · intro w hSw; (try dsimp only at hSw); go_simp <;> with_reducible rfl
        try simp only [Act.put, List.getElem_toArray, List.getElem_cons_zero, List.setIfInBounds_toArray, List.set_cons_zero, List.set_cons_succ]
        refine wpAnyH_take (i := 1) (v := ?_) rfl (by kernel_rfl) (by kernel_rfl) (by kernel_rfl) (fun _ _ _ h => h) (Or.inl ⟨by rfl, ?_⟩) (by assumption) ?_
        rotate_left
        · intro w hSw; (try dsimp only at hSw); go_simp <;> with_reducible rfl
        try simp only [Act.put, List.getElem_toArray, List.getElem_cons_succ, List.getElem_cons_zero, List.setIfInBounds_toArray, List.set_cons_zero, List.set_cons_succ]
        refine wpAnyH_take (i := 2) (v := ?_) rfl (by kernel_rfl) (by kernel_rfl) (by kernel_rfl) (fun _ _ _ h => h) (Or.inl ⟨by rfl, ?_⟩) (by assumption) ?_
        rotate_left
        · intro w hSw; (try dsimp only at hSw); go_simp <;> with_reducible rfl
        try simp only [Act.put, List.getElem_toArray, List.getElem_cons_succ, List.getElem_cons_zero, List.setIfInBounds_toArray, List.set_cons_zero, List.set_cons_succ]
        refine wpAnyH_take (i := 3) (v := ?_) rfl (by kernel_rfl) (by kernel_rfl) (by kernel_rfl) (fun _ _ _ h => h) (Or.inl ⟨by rfl, ?_⟩) (by assumption) ?_
        rotate_left
        · intro w hSw; (try dsimp only at hSw); go_simp <;> with_reducible rfl
        try simp only [Act.put, List.getElem_toArray, List.getElem_cons_succ, List.getElem_cons_zero, List.setIfInBounds_toArray, List.set_cons_zero, List.set_cons_succ]
        refine wpAnyH_take (i := 4) (v := ?_) rfl (by kernel_rfl) (by kernel_rfl) (by kernel_rfl) (fun _ _ _ h => h) (Or.inl ⟨by rfl, ?_⟩) (by assumption) ?_
        rotate_left
        · intro w hSw; (try dsimp only at hSw); go_simp <;> with_reducible rfl
        try simp only [Act.put, List.getElem_toArray, List.getElem_cons_succ, List.getElem_cons_zero, List.setIfInBounds_toArray, List.set_cons_zero, List.set_cons_succ]
        refine wpAnyH_take (i := 5) (v := ?_) rfl (by kernel_rfl) (by kernel_rfl) (by kernel_rfl) (fun _ _ _ h => h) (Or.inl ⟨by rfl, ?_⟩) (by assumption) ?_
        rotate_left
        · intro w hSw; (try dsimp only at hSw); go_simp <;> with_reducible rfl
        try simp only [Act.put, List.getElem_toArray, List.getElem_cons_succ, List.getElem_cons_zero, List.setIfInBounds_toArray, List.set_cons_zero, List.set_cons_succ]
        refine wpAnyH_take (i := 6) (v := ?_) rfl (by kernel_rfl) (by kernel_rfl) (by kernel_rfl) (fun _ _ _ h => h) (Or.inl ⟨by rfl, ?_⟩) (by assumption) ?_
        rotate_left
        · intro w hSw; (try dsimp only at hSw); go_simp <;> with_reducible rfl
        try simp only [Act.put, List.getElem_toArray, List.getElem_cons_succ, List.getElem_cons_zero, List.setIfInBounds_toArray, List.set_cons_zero, List.set_cons_succ]
        refine wpAnyH_take (i := 7) (v := ?_) rfl (by kernel_rfl) (by kernel_rfl) (by kernel_rfl) (fun _ _ _ h => h) (Or.inl ⟨by rfl, ?_⟩) (by assumption) ?_
        rotate_left
        · intro w hSw; (try dsimp only at hSw); go_simp <;> with_reducible rfl
        try simp only [Act.put, List.getElem_toArray, List.getElem_cons_succ, List.getElem_cons_zero, List.setIfInBounds_toArray, List.set_cons_zero, List.set_cons_succ]
        refine wpAnyH_take (i := 8) (v := ?_) rfl (by kernel_rfl) (by kernel_rfl) (by kernel_rfl) (fun _ _ _ h => h) (Or.inl ⟨by rfl, ?_⟩) (by assumption) ?_
        rotate_left
        · intro w hSw; (try dsimp only at hSw); go_simp <;> with_reducible rfl
        try simp only [Act.put, List.getElem_toArray, List.getElem_cons_succ, List.getElem_cons_zero, List.setIfInBounds_toArray, List.set_cons_zero, List.set_cons_succ]
        refine wpAnyH_take (i := 11) (v := ?_) rfl (by kernel_rfl) (by kernel_rfl) (by kernel_rfl) (fun _ _ _ h => h) (Or.inl ⟨by rfl, ?_⟩) (by assumption) ?_
        rotate_left
        · intro w hSw; (try dsimp only at hSw); go_simp <;> with_reducible rfl
        try simp only [Act.put, List.getElem_toArray, List.getElem_cons_succ, List.getElem_cons_zero, List.setIfInBounds_toArray, List.set_cons_zero, List.set_cons_succ]
        refine wpAnyH_take (i := 12) (v := ?_) rfl (by kernel_rfl) (by kernel_rfl) (by kernel_rfl) (fun _ _ _ h => h) (Or.inl ⟨by rfl, ?_⟩) (by assumption) ?_
        rotate_left
        · intro w hSw; (try dsimp only at hSw); go_simp <;> with_reducible rfl
        try simp only [Act.put, List.getElem_toArray, List.getElem_cons_succ, List.getElem_cons_zero, List.setIfInBounds_toArray, List.set_cons_zero, List.set_cons_succ]
        refine wpAnyH_take (i := 13) (v := ?_) rfl (by kernel_rfl) (by kernel_rfl) (by kernel_rfl) (fun _ _ _ h => h) (Or.inl ⟨by rfl, ?_⟩) (by assumption) ?_
        rotate_left
        · intro w hSw; (try dsimp only at hSw); go_simp <;> with_reducible rfl
        try simp only [Act.put, List.getElem_toArray, List.getElem_cons_succ, List.getElem_cons_zero, List.setIfInBounds_toArray, List.set_cons_zero, List.set_cons_succ]
        refine wpAnyH_take (i := 14) (v := ?_) rfl (by kernel_rfl) (by kernel_rfl) (by kernel_rfl) (fun _ _ _ h => h) (Or.inl ⟨by rfl, ?_⟩) (by assumption) ?_
        rotate_left
        · intro w hSw; (try dsimp only at hSw); go_simp <;> with_reducible rfl
        try simp only [Act.put, List.getElem_toArray, List.getElem_cons_succ, List.getElem_cons_zero, List.setIfInBounds_toArray, List.set_cons_zero, List.set_cons_succ]
        refine wpAnyH_take (i := 15) (v := ?_) rfl (by kernel_rfl) (by kernel_rfl) (by kernel_rfl) (fun _ _ _ h => h) (Or.inl ⟨by rfl, ?_⟩) (by assumption) ?_
        rotate_left
        · intro w hSw; (try dsimp only at hSw); go_simp <;> with_reducible rfl
        try simp only [Act.put, List.getElem_toArray, List.getElem_cons_succ, List.getElem_cons_zero, List.setIfInBounds_toArray, List.set_cons_zero, List.set_cons_succ]
        refine wpAnyH_take (i := 16) (v := ?_) rfl (by kernel_rfl) (by kernel_rfl) (by kernel_rfl) (fun _ _ _ h => h) (Or.inl ⟨by rfl, ?_⟩) (by assumption) ?_
        rotate_left
        · intro w hSw; (try dsimp only at hSw); go_simp <;> with_reducible rfl
        try simp only [Act.put, List.getElem_toArray, List.getElem_cons_succ, List.getElem_cons_zero, List.setIfInBounds_toArray, List.set_cons_zero, List.set_cons_succ]
        refine wpAnyH_take (i := 17) (v := ?_) rfl (by kernel_rfl) (by kernel_rfl) (by kernel_rfl) (fun _ _ _ h => h) (Or.inl ⟨by rfl, ?_⟩) (by assumption) ?_
        rotate_left
        · intro w hSw; (try dsimp only at hSw); go_simp <;> with_reducible rfl
        try simp only [Act.put, List.getElem_toArray, List.getElem_cons_succ, List.getElem_cons_zero, List.setIfInBounds_toArray, List.set_cons_zero, List.set_cons_succ]
        refine wpAnyH_take (i := 18) (v := ?_) rfl (by kernel_rfl) (by kernel_rfl) (by kernel_rfl) (fun _ _ _ h => h) (Or.inl ⟨by rfl, ?_⟩) (by assumption) ?_
        rotate_left
        · intro w hSw; (try dsimp only at hSw); go_simp <;> with_reducible rfl
        try simp only [Act.put, List.getElem_toArray, List.getElem_cons_succ, List.getElem_cons_zero, List.setIfInBounds_toArray, List.set_cons_zero, List.set_cons_succ]
        refine wpAnyH_take (i := 19) (v := ?_) rfl (by kernel_rfl) (by kernel_rfl) (by kernel_rfl) (fun _ _ _ h => h) (Or.inl ⟨by rfl, ?_⟩) (by assumption) ?_
        rotate_left
        · intro w hSw; (try dsimp only at hSw); go_simp <;> with_reducible rfl
        try simp only [Act.put, List.getElem_toArray, List.getElem_cons_succ, List.getElem_cons_zero, List.setIfInBounds_toArray, List.set_cons_zero, List.set_cons_succ]
        refine wpAnyH_ready (rs := [9]) (by kernel_rfl) (by simp) ?_
        refine AllReadyH.cons rfl (fun K hK => ?_) AllReadyH.nil
        go_simp
        go_at_call 14
        refine (CBX.out _ HBV.out).mono ?_
        intro e w11 hmb
        obtain ⟨v, rfl, -, ho, hb⟩ := hmb.out
        obtain ⟨va, vc, hv⟩ := Rw.own_form ho
        subst hv
        have HA11 := Lib.hid (HAV.out.later hb)
        have HL11 := Lib.hid (HLV.out.later hb)
        have HB11 := Lib.hid (step HBV.out hb)
        have HP11 := Lib.hid (Cm.cells_later HPV.out hb)
        have HO11 := Lib.hid (own_lowerX (base' := g + 2) ho (by have := HLV.out.mw; omega))
        clear hmb ho hb
        unfold Cm.batVal
        dsimp only
        refine hK.out _ _ (HPC.out _ HP11.out) (fun hHeld => ?_)
        clear hK K
        try simp only [Act.put, List.getElem_toArray, List.getElem_cons_succ, List.getElem_cons_zero, List.setIfInBounds_toArray, List.set_cons_zero, List.set_cons_succ]
        have CA := Lib.hid (Ln.Hear_any g (g + 2) st xf xb xs (Cm.batchF ns) (.slice va (Cm.batchF ns).reqs.length vc) w11 HA11.out HGS0.out (RdX.own Cm.cellsR_length HO11.out))
        have HGS := Lib.hid (HGS0.out.hear xf xb xs (Cm.batchF ns))
        have hcd : ∃ st' cd, Ln.hearF st xf xb xs (Cm.batchF ns) = (st', cd) := ⟨_, _, rfl⟩
        obtain ⟨st', cd, hcd⟩ := hcd
        rw [hcd] at CA HGS
        have HCD := Lib.hid hcd
        clear hcd
        unfold Cm.batVal at CA
        refine wpAnyH_ready (rs := [10]) (by kernel_rfl) (by simp) ?_
        refine AllReadyH.cons rfl (fun K hK => ?_) AllReadyH.nil
        go_simp
        go_at_call 13
        refine CA.out.mono ?_
        rintro e w12 ⟨rfl, ha, hg⟩
        have HA12 := Lib.hid ha
        have HL12 := Lib.hid (HL11.out.other hg (by omega) (by omega))
        have HB12 := Lib.hid (Ln.step_grL HB11.out hg (by rw [HGW.out]; exact Nat.le_refl _) HB11.out.size)
        have HP12 := Lib.hid (Ln.at_gr HP11.out hg (by omega))
        clear ha hg CA
        dsimp only
        refine hK.out _ _ (HPC.out _ HP12.out) (fun hHeld => ?_)
        clear hK K
        try simp only [Act.put, List.getElem_toArray, List.getElem_cons_succ, List.getElem_cons_zero, List.setIfInBounds_toArray, List.set_cons_zero, List.set_cons_succ]
        refine wpAnyH_ready (rs := [20]) (by kernel_rfl) (by simp) ?_
        refine AllReadyH.cons rfl (fun K hK => ?_) AllReadyH.nil
        go_simp
        go_at_call 14
        refine (CBX.out _ HB12.out).mono ?_
        intro e w13 hmb
        obtain ⟨v2, rfl, -, ho, hb⟩ := hmb.out
        obtain ⟨v2a, v2c, hv⟩ := Rw.own_form ho
        subst hv
        have HA13 := Lib.hid (HA12.out.later hb)
        have HL13 := Lib.hid (HL12.out.later hb)
        have HB13 := Lib.hid (step HB12.out hb)
        have HP13 := Lib.hid (Cm.cells_later HP12.out hb)
        have HO13 := Lib.hid (own_lowerX (base' := g + 2) ho (by have := HL12.out.mw; omega))
        clear hmb ho hb
        unfold Cm.batVal
        dsimp only
        refine hK.out _ _ (HPC.out _ HP13.out) (fun hHeld => ?_)
        clear hK K
        try simp only [Act.put, List.getElem_toArray, List.getElem_cons_succ, List.getElem_cons_zero, List.setIfInBounds_toArray, List.set_cons_zero, List.set_cons_succ]
        have CR := Lib.hid (Ln.RefHear_any (g + 1) (g + 2) st xf xb xs (Cm.batchF ns) (.slice v2a (Cm.batchF ns).reqs.length v2c) w13 HL13.out HGS0.out HO13.out)
        rw [HCD.out] at CR
        unfold Cm.batVal at CR
        refine wpAnyH_ready (rs := [21]) (by kernel_rfl) (by simp) ?_
        refine AllReadyH.cons rfl (fun K hK => ?_) AllReadyH.nil
        go_simp
        go_at_call 15
        refine CR.out.mono ?_
        rintro e w20 ⟨rfl, hl, ht⟩
        have HL20 := Lib.hid hl
        have HA20 := Lib.hid (HA13.out.turns ht (by omega) (by omega))
        have HB20 := Lib.hid (Ln.below_turns HB13.out ht (by have := HGW.out; omega) (by have := HGW.out; omega) HB13.out.size)
        have hpx := ht.at_ HP13.out (by omega) (fun cs q => by injection q with _ q; exact absurd q (by decide))
        clear hl ht CR
        dsimp only
        refine hK.out _ _ (HPC.out _ hpx) (fun hHeld => ?_)
        clear hK K
        try simp only [Act.put, List.getElem_toArray, List.getElem_cons_succ, List.getElem_cons_zero, List.setIfInBounds_toArray, List.set_cons_zero, List.set_cons_succ]
        refine wpAnyH_take (i := 22) (v := ?_) rfl (by kernel_rfl) (by kernel_rfl) (by kernel_rfl) (fun _ _ _ h => h) (Or.inl ⟨by rfl, ?_⟩) (by assumption) ?_
        rotate_left
        · intro w hSw; (try dsimp only at hSw); go_simp <;> with_reducible rfl
        try simp only [Act.put, List.getElem_toArray, List.getElem_cons_succ, List.getElem_cons_zero, List.setIfInBounds_toArray, List.set_cons_zero, List.set_cons_succ]
        refine wpAnyH_done (by kernel_rfl) ?_ _
        have dcd : (cd != cd) = false := by simp
        go_upto_region 17 with fail
        clear dcd HPX10 HPV HP11 HP12 HP13 hpx
        have hgd0 := HGS.out.d0
        have hgd1 := HGS.out.d1
        have c1 := HL20.out.c1
        obtain ⟨D, hD⟩ : ∃ D, st'.done = D := ⟨_, rfl⟩
        have HD := Lib.hid hD
        rw [hD] at hgd0 hgd1 c1
        have e1 : IntKind.i64.wrap (D - 1) = D - 1 := by rw [IntKind.wrap_i64]; omega
        have e10 : IntKind.i64.wrap (D + 10) = D + 10 := by rw [IntKind.wrap_i64]; omega
        clear hD
        go_upto_region 18 with fail
        clear c1
        go_loopw [9, 10, 11, 12, 13, 14, 15, 16, 17] (fun v _ _ _ _ _ _ _ _ wr => ∃ J : Nat, J ≤ 12 ∧ v = .int .i64 (D - 1 + (J : Int)) ∧ Hid (Ln.HasD wr g (g + 2) st') ∧ Hid (Ln.HasL wr (g + 1) (g + 2) st') ∧ Hid (Below w.heap.size w wr)) (fun v _ _ _ _ _ _ _ _ _ => (D + 11 - intOf v).toNat)
        case atStart => exact ⟨0, by omega, by simp, HA20, HL20, HB20⟩
        case round =>
          obtain ⟨J, hJ, rfl, HA30, HL30, HB30⟩ := hrel
          have c1 := HL30.out.c1
          rw [HD.out] at c1
          have e2 : IntKind.i64.wrap (D - 1 + (J : Int) + 1) = D - 1 + ((J + 1 : Nat) : Int) := by rw [IntKind.wrap_i64]; omega
          by_cases hj : J < 12
          · have dj : decide (D - 1 + (J : Int) ≤ D + 10) = true := decide_eq_true (by omega)
            obtain ⟨S, hS⟩ : ∃ S, D - 1 + (J : Int) = S := ⟨_, rfl⟩
            have hS0 : -9223372036854775808 ≤ S := by omega
            have HS := Lib.hid hS
            have CC := Lib.hid (fun (w' : World) h => Ln.Chosen_any g (g + 2) st' S w' h HGS.out hS0)
            have CRC := Lib.hid (fun (w' : World) h => Ln.RefChosen_any (g + 1) (g + 2) st' S w' h (by have := Ln.goodN_len HGS.out; omega))
            have CH := Lib.hid (fun (w' : World) h => Ln.Heard_any g (g + 2) st' S w' h HGS.out hS0)
            have CRH := Lib.hid (fun (w' : World) h => Ln.RefHeard_any (g + 1) (g + 2) st' S w' h (by have := Ln.goodN_len HGS.out; omega) (fun y hy => by have := Ln.goodN_who HGS.out y hy; omega))
            obtain ⟨q, ok, hq⟩ : ∃ q ok, Ln.chosenF st' S = (q, ok) := ⟨_, _, rfl⟩
            obtain ⟨bl, who, hh⟩ : ∃ bl who, Ln.heardF st' S = (bl, who) := ⟨_, _, rfl⟩
            rw [hq] at CC CRC
            rw [hh] at CH CRH
            have dok : (ok != ok) = false := by cases ok <;> rfl
            rw [hS] at dj e2 ⊢
            clear hq hh hS hS0
            go_upto_region 21 with (go_at_call 16; refine (CC.out _ HA30.out).mono ?_; rintro e w31 ⟨u31, rfl, hr, hb⟩; obtain ⟨u31a, u31c, hv⟩ := hr.form; subst hv; have HA31 := Lib.hid (HA30.out.later hb); have HL31 := Lib.hid (HL30.out.later hb); have HB31 := Lib.hid (step HB30.out hb); have HRu31 := Lib.hid hr; clear hr hb; unfold Cm.batVal; dsimp only)
            obtain ⟨w32, hw32⟩ : ∃ x, x = w31.alloc (.cells #[.bool q.fill, .int .i64 q.view, .int .i64 q.tv, .int .i64 q.ts, .int .i64 q.time, .slice u31a q.reqs.length u31c] 38) := ⟨_, rfl⟩
            have hb := newAlloc w31 (.cells #[.bool q.fill, .int .i64 q.view, .int .i64 q.tv, .int .i64 q.ts, .int .i64 q.time, .slice u31a q.reqs.length u31c] 38)
            obtain ⟨ba, hba⟩ : ∃ x, w31.heap.size = x := ⟨_, rfl⟩
            have HKba32 := Lib.hid (Ln.BoxB.new w31 q (.slice u31a q.reqs.length u31c) ba hba)
            rw [← hw32] at hb HKba32 ⊢
            try rw [hba]
            have HA32 := Lib.hid (HA31.out.later hb)
            have HL32 := Lib.hid (HL31.out.later hb)
            have HB32 := Lib.hid (step HB31.out hb)
            have HRba := Lib.hid (HRu31.out.later hb)
            clear hw32 hb hba
            clear c1
            go_upto_region 22 with (go_at_call 17; refine (CRC.out _ HL32.out).mono ?_; rintro e w33 ⟨u33, rfl, hr, hb⟩; obtain ⟨u33a, u33c, hv⟩ := hr.form; subst hv; have HA33 := Lib.hid (HA32.out.later hb); have HL33 := Lib.hid (HL32.out.later hb); have HB33 := Lib.hid (step HB32.out hb); have HRu33 := Lib.hid hr; have HKba33 := Lib.hid (HKba32.out.later hb); have HRba3 := Lib.hid (HRba.out.later hb); clear hr hb; unfold Cm.batVal; dsimp only)
            obtain ⟨w34, hw34⟩ : ∃ x, x = w33.alloc (.cells #[.bool q.fill, .int .i64 q.view, .int .i64 q.tv, .int .i64 q.ts, .int .i64 q.time, .slice u33a q.reqs.length u33c] 38) := ⟨_, rfl⟩
            have hb := newAlloc w33 (.cells #[.bool q.fill, .int .i64 q.view, .int .i64 q.tv, .int .i64 q.ts, .int .i64 q.time, .slice u33a q.reqs.length u33c] 38)
            obtain ⟨bb, hbb⟩ : ∃ x, w33.heap.size = x := ⟨_, rfl⟩
            have HKbb34 := Lib.hid (Ln.BoxB.new w33 q (.slice u33a q.reqs.length u33c) bb hbb)
            rw [← hw34] at hb HKbb34 ⊢
            try rw [hbb]
            have HA34 := Lib.hid (HA33.out.later hb)
            have HL34 := Lib.hid (HL33.out.later hb)
            have HB34 := Lib.hid (step HB33.out hb)
            have HRbb := Lib.hid (HRu33.out.later hb)
            have HKba34 := Lib.hid (HKba33.out.later hb)
            have HRba4 := Lib.hid (HRba3.out.later hb)
            clear hw34 hb hbb
            go_upto_region 23 with (go_at_call 18; refine (CH.out _ HA34.out).mono ?_; rintro e w35 ⟨u35, rfl, hr, hb⟩; obtain ⟨u35a, u35c, hv⟩ := hr.form; subst hv; have HA35 := Lib.hid (HA34.out.later hb); have HL35 := Lib.hid (HL34.out.later hb); have HB35 := Lib.hid (step HB34.out hb); have HRu35 := Lib.hid hr; have HKba35 := Lib.hid (HKba34.out.later hb); have HKbb35 := Lib.hid (HKbb34.out.later hb); have HRba5 := Lib.hid (HRba4.out.later hb); have HRbb5 := Lib.hid (HRbb.out.later hb); clear hr hb; dsimp only)
            go_upto_region 24 with (go_at_call 19; refine (CRH.out _ HL35.out).mono ?_; rintro e w36 ⟨u36, rfl, hr, hb⟩; obtain ⟨u36a, u36c, hv⟩ := hr.form; subst hv; have HA36 := Lib.hid (HA35.out.later hb); have HL36 := Lib.hid (HL35.out.later hb); have HB36 := Lib.hid (step HB35.out hb); have HRu36 := Lib.hid hr; have HKba36 := Lib.hid (HKba35.out.later hb); have HKbb36 := Lib.hid (HKbb35.out.later hb); have HRba6 := Lib.hid (HRba5.out.later hb); have HRbb6 := Lib.hid (HRbb5.out.later hb); have HRI := Lib.hid (HRu35.out.later hb); clear hr hb; dsimp only)
            have CS := Lib.hid (Cm.RefSameB_any q q (.slice u31a q.reqs.length u31c) (.slice u33a q.reqs.length u33c) w36 HRba6.out HRbb6.out)
            rw [Cm.sameB_refl] at CS
            unfold Cm.batVal at CS
            have z0 := HKba36.out.c0
            have y0 := HKbb36.out.c0
            have z1 := HKba36.out.c1
            have y1 := HKbb36.out.c1
            have z2 := HKba36.out.c2
            have y2 := HKbb36.out.c2
            have z3 := HKba36.out.c3
            have y3 := HKbb36.out.c3
            have z4 := HKba36.out.c4
            have y4 := HKbb36.out.c4
            have z5 := HKba36.out.c5
            have y5 := HKbb36.out.c5
            go_wp2_with (first
              | (go_at_call 20; refine CS.out.mono ?_; rintro e w37 ⟨rfl, hb⟩; have HA37 := Lib.hid (HA36.out.later hb); have HL37 := Lib.hid (HL36.out.later hb); have HB37 := Lib.hid (step HB36.out hb); have HI1 := Lib.hid (HRI.out.later hb); have HI2 := Lib.hid (HRu36.out.later hb); clear hb)
              | (go_at_call 21; refine (Ln.SameInts_any _ _ who who w37 HI1.out HI2.out).mono ?_; rw [(Ln.sameI_iff who who).2 rfl]; rintro e w38 ⟨rfl, hb⟩; have HA38 := Lib.hid (HA37.out.later hb); have HL38 := Lib.hid (HL37.out.later hb); have HB38 := Lib.hid (step HB37.out hb); clear hb))
            go_roundw
            case rel => exact ⟨J + 1, by omega, by first | rfl | go_num, HA38, HL38, HB38⟩
            case measure => simp [intOf]; have := HS.out; omega
          · have dj : decide (D - 1 + (J : Int) ≤ D + 10) = false := decide_eq_false (by omega)
            go_upto_region 26 with fail
            clear dj hj e2
            have CD := Lib.hid (fun (w' : World) h => Ln.Done_any g (g + 2) st' w' h)
            rw [HD.out] at CD
            have HKD : Hid (∀ W, Below wr.heap.size wr W → W.cell? ⟨g + 1, 1, none⟩ = some (.int .i64 D)) := Lib.hid fun W hb => by
              have h := (HL30.out.later hb).c1
              rw [HD.out] at h
              exact h
            refine wp_region_held_drew (S := (fun W => W.cell? ⟨g + 1, 1, none⟩ = some (.int .i64 D))) (by kernel_rfl) (HKD.out _ (Below.refl _ _).drew) (fun hHeld => ?_)
            obtain ⟨V, hV⟩ : ∃ V, V = wr.drew := ⟨_, rfl⟩
            have HBV : Hid (Below wr.heap.size wr V) := Lib.hid (by rw [hV]; exact (Below.refl _ _).drew)
            rw [← hV] at hHeld ⊢
            clear hV
            refine wpAnyH_take (i := 0) (v := ?_) rfl (by kernel_rfl) (by kernel_rfl) (by kernel_rfl) (fun _ _ _ h => h) (Or.inl ⟨by rfl, ?_⟩) (by assumption) ?_
            rotate_left
            · intro w hSw; (try dsimp only at hSw); go_simp <;> with_reducible rfl
            try simp only [Act.put, List.getElem_toArray, List.getElem_cons_zero, List.setIfInBounds_toArray, List.set_cons_zero, List.set_cons_succ]
            refine wpAnyH_take (i := 2) (v := ?_) rfl (by kernel_rfl) (by kernel_rfl) (by kernel_rfl) (fun _ _ _ h => h) (Or.inl ⟨by rfl, ?_⟩) (by assumption) ?_
            rotate_left
            · intro w hSw; (try dsimp only at hSw); go_simp <;> with_reducible rfl
            try simp only [Act.put, List.getElem_toArray, List.getElem_cons_succ, List.getElem_cons_zero, List.setIfInBounds_toArray, List.set_cons_zero, List.set_cons_succ]
            refine wpAnyH_take (i := 3) (v := ?_) rfl (by kernel_rfl) (by kernel_rfl) (by kernel_rfl) (fun _ _ _ h => h) (Or.inl ⟨by rfl, ?_⟩) (by assumption) ?_
            rotate_left
            · intro w hSw; (try dsimp only at hSw); go_simp <;> with_reducible rfl
            try simp only [Act.put, List.getElem_toArray, List.getElem_cons_succ, List.getElem_cons_zero, List.setIfInBounds_toArray, List.set_cons_zero, List.set_cons_succ]
            refine wpAnyH_take (i := 4) (v := ?_) rfl (by kernel_rfl) (by kernel_rfl) (by kernel_rfl) (fun _ _ _ h => h) (Or.inl ⟨by rfl, ?_⟩) (by assumption) ?_
            rotate_left
            · intro w hSw; (try dsimp only at hSw); go_simp <;> with_reducible rfl
            try simp only [Act.put, List.getElem_toArray, List.getElem_cons_succ, List.getElem_cons_zero, List.setIfInBounds_toArray, List.set_cons_zero, List.set_cons_succ]
            refine wpAnyH_take (i := 5) (v := ?_) rfl (by kernel_rfl) (by kernel_rfl) (by kernel_rfl) (fun _ _ _ h => h) (Or.inl ⟨by rfl, ?_⟩) (by assumption) ?_
            rotate_left
            · intro w hSw; (try dsimp only at hSw); go_simp <;> with_reducible rfl
            try simp only [Act.put, List.getElem_toArray, List.getElem_cons_succ, List.getElem_cons_zero, List.setIfInBounds_toArray, List.set_cons_zero, List.set_cons_succ]
            refine wpAnyH_ready (rs := [1]) (by kernel_rfl) (by simp) ?_
            refine AllReadyH.cons rfl (fun K hK => ?_) AllReadyH.nil
            go_simp
            go_at_call 22
            refine (CD.out _ (HA30.out.later HBV.out)).mono ?_
            rintro e wz ⟨rfl, hwz⟩
            rw [hwz]
            clear hwz wz
            refine hK.out _ _ (HKD.out _ HBV.out) (fun hHeld => ?_)
            clear hK K
            try simp only [Act.put, List.getElem_toArray, List.getElem_cons_succ, List.getElem_cons_zero, List.setIfInBounds_toArray, List.set_cons_zero, List.set_cons_succ]
            refine wpAnyH_take (i := 6) (v := ?_) rfl (by kernel_rfl) (by kernel_rfl) (by kernel_rfl) (fun _ _ _ h => h) (Or.inl ⟨by rfl, ?_⟩) (by assumption) ?_
            rotate_left
            · intro w hSw; (try dsimp only at hSw); go_simp <;> with_reducible rfl
            try simp only [Act.put, List.getElem_toArray, List.getElem_cons_succ, List.getElem_cons_zero, List.setIfInBounds_toArray, List.set_cons_zero, List.set_cons_succ]
            refine wpAnyH_done (by kernel_rfl) ?_ _
            have HA40 := Lib.hid (HA30.out.later HBV.out)
            have HL40 := Lib.hid (HL30.out.later HBV.out)
            have HB40 := Lib.hid (step HB30.out HBV.out)
            go_wp2_with fail
            go_roundw
            case rel => exact ⟨I + 1, st', by omega, by go_num, HGS, HA40, HL40, HB40⟩
            case measure => simp [intOf]; omega
      · have p2 := Cm.cell_at HPX10.out 2
        simp at p2
        have CT := Lib.hid (fun (w' : World) h => Ln.Trim_any g (g + 2) st xs w' h HGS0.out)
        have CRT := Lib.hid (fun (w' : World) h => Ln.RefTrim_any (g + 1) (g + 2) st xs w' h HGS0.out (by have := Ln.goodN_len HGS0.out; omega))
        have HGS := Lib.hid (HGS0.out.trim xs)
        generalize Ln.trimL st xs = st' at CT CRT HGS
        go_upto_region 14 with (go_at_call 11; refine (CT.out _ HA10.out).mono ?_; rintro e w11 ⟨rfl, ha, hg⟩; have HA11 := Lib.hid ha; have HL11 := Lib.hid (HL10.out.other hg (by omega) (by omega)); have HB11 := Lib.hid (Ln.step_grL HB10.out hg (by rw [HGW.out]; exact Nat.le_refl _) HB10.out.size); have HPX11 := Lib.hid (Ln.at_gr HPX10.out hg (by omega)); clear ha hg p2 p4)
        have p2 := Cm.cell_at HPX11.out 2
        simp at p2
        go_upto_region 17 with (go_at_call 12; refine (CRT.out _ HL11.out).mono ?_; rintro e w20 ⟨rfl, hl, hg⟩; have HL20 := Lib.hid hl; have HA20 := Lib.hid (HA11.out.other hg (by omega) (by omega)); have HB20 := Lib.hid (Ln.step_grL HB11.out hg (by rw [HGW.out]; omega) HB11.out.size); clear hl hg)
        clear p2
        have hgd0 := HGS.out.d0
        have hgd1 := HGS.out.d1
        have c1 := HL20.out.c1
        obtain ⟨D, hD⟩ : ∃ D, st'.done = D := ⟨_, rfl⟩
        have HD := Lib.hid hD
        rw [hD] at hgd0 hgd1 c1
        have e1 : IntKind.i64.wrap (D - 1) = D - 1 := by rw [IntKind.wrap_i64]; omega
        have e10 : IntKind.i64.wrap (D + 10) = D + 10 := by rw [IntKind.wrap_i64]; omega
        clear hD
        go_upto_region 18 with fail
        clear c1
        go_loopw [9, 10, 11, 12, 13, 14, 15, 16, 17] (fun v _ _ _ _ _ _ _ _ wr => ∃ J : Nat, J ≤ 12 ∧ v = .int .i64 (D - 1 + (J : Int)) ∧ Hid (Ln.HasD wr g (g + 2) st') ∧ Hid (Ln.HasL wr (g + 1) (g + 2) st') ∧ Hid (Below w.heap.size w wr)) (fun v _ _ _ _ _ _ _ _ _ => (D + 11 - intOf v).toNat)
        case atStart => exact ⟨0, by omega, by simp, HA20, HL20, HB20⟩
        case round =>
          obtain ⟨J, hJ, rfl, HA30, HL30, HB30⟩ := hrel
          have c1 := HL30.out.c1
          rw [HD.out] at c1
          have e2 : IntKind.i64.wrap (D - 1 + (J : Int) + 1) = D - 1 + ((J + 1 : Nat) : Int) := by rw [IntKind.wrap_i64]; omega
          by_cases hj : J < 12
          · have dj : decide (D - 1 + (J : Int) ≤ D + 10) = true := decide_eq_true (by omega)
            obtain ⟨S, hS⟩ : ∃ S, D - 1 + (J : Int) = S := ⟨_, rfl⟩
            have hS0 : -9223372036854775808 ≤ S := by omega
            have HS := Lib.hid hS
            have CC := Lib.hid (fun (w' : World) h => Ln.Chosen_any g (g + 2) st' S w' h HGS.out hS0)
            have CRC := Lib.hid (fun (w' : World) h => Ln.RefChosen_any (g + 1) (g + 2) st' S w' h (by have := Ln.goodN_len HGS.out; omega))
            have CH := Lib.hid (fun (w' : World) h => Ln.Heard_any g (g + 2) st' S w' h HGS.out hS0)
            have CRH := Lib.hid (fun (w' : World) h => Ln.RefHeard_any (g + 1) (g + 2) st' S w' h (by have := Ln.goodN_len HGS.out; omega) (fun y hy => by have := Ln.goodN_who HGS.out y hy; omega))
            obtain ⟨q, ok, hq⟩ : ∃ q ok, Ln.chosenF st' S = (q, ok) := ⟨_, _, rfl⟩
            obtain ⟨bl, who, hh⟩ : ∃ bl who, Ln.heardF st' S = (bl, who) := ⟨_, _, rfl⟩
            rw [hq] at CC CRC
            rw [hh] at CH CRH
            have dok : (ok != ok) = false := by cases ok <;> rfl
            rw [hS] at dj e2 ⊢
            clear hq hh hS hS0
            go_upto_region 21 with (go_at_call 16; refine (CC.out _ HA30.out).mono ?_; rintro e w31 ⟨u31, rfl, hr, hb⟩; obtain ⟨u31a, u31c, hv⟩ := hr.form; subst hv; have HA31 := Lib.hid (HA30.out.later hb); have HL31 := Lib.hid (HL30.out.later hb); have HB31 := Lib.hid (step HB30.out hb); have HRu31 := Lib.hid hr; clear hr hb; unfold Cm.batVal; dsimp only)
            obtain ⟨w32, hw32⟩ : ∃ x, x = w31.alloc (.cells #[.bool q.fill, .int .i64 q.view, .int .i64 q.tv, .int .i64 q.ts, .int .i64 q.time, .slice u31a q.reqs.length u31c] 38) := ⟨_, rfl⟩
            have hb := newAlloc w31 (.cells #[.bool q.fill, .int .i64 q.view, .int .i64 q.tv, .int .i64 q.ts, .int .i64 q.time, .slice u31a q.reqs.length u31c] 38)
            obtain ⟨ba, hba⟩ : ∃ x, w31.heap.size = x := ⟨_, rfl⟩
            have HKba32 := Lib.hid (Ln.BoxB.new w31 q (.slice u31a q.reqs.length u31c) ba hba)
            rw [← hw32] at hb HKba32 ⊢
            try rw [hba]
            have HA32 := Lib.hid (HA31.out.later hb)
            have HL32 := Lib.hid (HL31.out.later hb)
            have HB32 := Lib.hid (step HB31.out hb)
            have HRba := Lib.hid (HRu31.out.later hb)
            clear hw32 hb hba
            clear c1
            go_upto_region 22 with (go_at_call 17; refine (CRC.out _ HL32.out).mono ?_; rintro e w33 ⟨u33, rfl, hr, hb⟩; obtain ⟨u33a, u33c, hv⟩ := hr.form; subst hv; have HA33 := Lib.hid (HA32.out.later hb); have HL33 := Lib.hid (HL32.out.later hb); have HB33 := Lib.hid (step HB32.out hb); have HRu33 := Lib.hid hr; have HKba33 := Lib.hid (HKba32.out.later hb); have HRba3 := Lib.hid (HRba.out.later hb); clear hr hb; unfold Cm.batVal; dsimp only)
            obtain ⟨w34, hw34⟩ : ∃ x, x = w33.alloc (.cells #[.bool q.fill, .int .i64 q.view, .int .i64 q.tv, .int .i64 q.ts, .int .i64 q.time, .slice u33a q.reqs.length u33c] 38) := ⟨_, rfl⟩
            have hb := newAlloc w33 (.cells #[.bool q.fill, .int .i64 q.view, .int .i64 q.tv, .int .i64 q.ts, .int .i64 q.time, .slice u33a q.reqs.length u33c] 38)
            obtain ⟨bb, hbb⟩ : ∃ x, w33.heap.size = x := ⟨_, rfl⟩
            have HKbb34 := Lib.hid (Ln.BoxB.new w33 q (.slice u33a q.reqs.length u33c) bb hbb)
            rw [← hw34] at hb HKbb34 ⊢
            try rw [hbb]
            have HA34 := Lib.hid (HA33.out.later hb)
            have HL34 := Lib.hid (HL33.out.later hb)
            have HB34 := Lib.hid (step HB33.out hb)
            have HRbb := Lib.hid (HRu33.out.later hb)
            have HKba34 := Lib.hid (HKba33.out.later hb)
            have HRba4 := Lib.hid (HRba3.out.later hb)
            clear hw34 hb hbb
            go_upto_region 23 with (go_at_call 18; refine (CH.out _ HA34.out).mono ?_; rintro e w35 ⟨u35, rfl, hr, hb⟩; obtain ⟨u35a, u35c, hv⟩ := hr.form; subst hv; have HA35 := Lib.hid (HA34.out.later hb); have HL35 := Lib.hid (HL34.out.later hb); have HB35 := Lib.hid (step HB34.out hb); have HRu35 := Lib.hid hr; have HKba35 := Lib.hid (HKba34.out.later hb); have HKbb35 := Lib.hid (HKbb34.out.later hb); have HRba5 := Lib.hid (HRba4.out.later hb); have HRbb5 := Lib.hid (HRbb.out.later hb); clear hr hb; dsimp only)
            go_upto_region 24 with (go_at_call 19; refine (CRH.out _ HL35.out).mono ?_; rintro e w36 ⟨u36, rfl, hr, hb⟩; obtain ⟨u36a, u36c, hv⟩ := hr.form; subst hv; have HA36 := Lib.hid (HA35.out.later hb); have HL36 := Lib.hid (HL35.out.later hb); have HB36 := Lib.hid (step HB35.out hb); have HRu36 := Lib.hid hr; have HKba36 := Lib.hid (HKba35.out.later hb); have HKbb36 := Lib.hid (HKbb35.out.later hb); have HRba6 := Lib.hid (HRba5.out.later hb); have HRbb6 := Lib.hid (HRbb5.out.later hb); have HRI := Lib.hid (HRu35.out.later hb); clear hr hb; dsimp only)
            have CS := Lib.hid (Cm.RefSameB_any q q (.slice u31a q.reqs.length u31c) (.slice u33a q.reqs.length u33c) w36 HRba6.out HRbb6.out)
            rw [Cm.sameB_refl] at CS
            unfold Cm.batVal at CS
            have z0 := HKba36.out.c0
            have y0 := HKbb36.out.c0
            have z1 := HKba36.out.c1
            have y1 := HKbb36.out.c1
            have z2 := HKba36.out.c2
            have y2 := HKbb36.out.c2
            have z3 := HKba36.out.c3
            have y3 := HKbb36.out.c3
            have z4 := HKba36.out.c4
            have y4 := HKbb36.out.c4
            have z5 := HKba36.out.c5
            have y5 := HKbb36.out.c5
            go_wp2_with (first
              | (go_at_call 20; refine CS.out.mono ?_; rintro e w37 ⟨rfl, hb⟩; have HA37 := Lib.hid (HA36.out.later hb); have HL37 := Lib.hid (HL36.out.later hb); have HB37 := Lib.hid (step HB36.out hb); have HI1 := Lib.hid (HRI.out.later hb); have HI2 := Lib.hid (HRu36.out.later hb); clear hb)
              | (go_at_call 21; refine (Ln.SameInts_any _ _ who who w37 HI1.out HI2.out).mono ?_; rw [(Ln.sameI_iff who who).2 rfl]; rintro e w38 ⟨rfl, hb⟩; have HA38 := Lib.hid (HA37.out.later hb); have HL38 := Lib.hid (HL37.out.later hb); have HB38 := Lib.hid (step HB37.out hb); clear hb))
            go_roundw
            case rel => exact ⟨J + 1, by omega, by first | rfl | go_num, HA38, HL38, HB38⟩
            case measure => simp [intOf]; have := HS.out; omega
          · have dj : decide (D - 1 + (J : Int) ≤ D + 10) = false := decide_eq_false (by omega)
            go_upto_region 26 with fail
            clear dj hj e2
            have CD := Lib.hid (fun (w' : World) h => Ln.Done_any g (g + 2) st' w' h)
            rw [HD.out] at CD
            have HKD : Hid (∀ W, Below wr.heap.size wr W → W.cell? ⟨g + 1, 1, none⟩ = some (.int .i64 D)) := Lib.hid fun W hb => by
              have h := (HL30.out.later hb).c1
              rw [HD.out] at h
              exact h
            refine wp_region_held_drew (S := (fun W => W.cell? ⟨g + 1, 1, none⟩ = some (.int .i64 D))) (by kernel_rfl) (HKD.out _ (Below.refl _ _).drew) (fun hHeld => ?_)
            obtain ⟨V, hV⟩ : ∃ V, V = wr.drew := ⟨_, rfl⟩
            have HBV : Hid (Below wr.heap.size wr V) := Lib.hid (by rw [hV]; exact (Below.refl _ _).drew)
            rw [← hV] at hHeld ⊢
            clear hV
            refine wpAnyH_take (i := 0) (v := ?_) rfl (by kernel_rfl) (by kernel_rfl) (by kernel_rfl) (fun _ _ _ h => h) (Or.inl ⟨by rfl, ?_⟩) (by assumption) ?_
            rotate_left
            · intro w hSw; (try dsimp only at hSw); go_simp <;> with_reducible rfl
            try simp only [Act.put, List.getElem_toArray, List.getElem_cons_zero, List.setIfInBounds_toArray, List.set_cons_zero, List.set_cons_succ]
            refine wpAnyH_take (i := 2) (v := ?_) rfl (by kernel_rfl) (by kernel_rfl) (by kernel_rfl) (fun _ _ _ h => h) (Or.inl ⟨by rfl, ?_⟩) (by assumption) ?_
            rotate_left
            · intro w hSw; (try dsimp only at hSw); go_simp <;> with_reducible rfl
            try simp only [Act.put, List.getElem_toArray, List.getElem_cons_succ, List.getElem_cons_zero, List.setIfInBounds_toArray, List.set_cons_zero, List.set_cons_succ]
            refine wpAnyH_take (i := 3) (v := ?_) rfl (by kernel_rfl) (by kernel_rfl) (by kernel_rfl) (fun _ _ _ h => h) (Or.inl ⟨by rfl, ?_⟩) (by assumption) ?_
            rotate_left
            · intro w hSw; (try dsimp only at hSw); go_simp <;> with_reducible rfl
            try simp only [Act.put, List.getElem_toArray, List.getElem_cons_succ, List.getElem_cons_zero, List.setIfInBounds_toArray, List.set_cons_zero, List.set_cons_succ]
            refine wpAnyH_take (i := 4) (v := ?_) rfl (by kernel_rfl) (by kernel_rfl) (by kernel_rfl) (fun _ _ _ h => h) (Or.inl ⟨by rfl, ?_⟩) (by assumption) ?_
            rotate_left
            · intro w hSw; (try dsimp only at hSw); go_simp <;> with_reducible rfl
            try simp only [Act.put, List.getElem_toArray, List.getElem_cons_succ, List.getElem_cons_zero, List.setIfInBounds_toArray, List.set_cons_zero, List.set_cons_succ]
            refine wpAnyH_take (i := 5) (v := ?_) rfl (by kernel_rfl) (by kernel_rfl) (by kernel_rfl) (fun _ _ _ h => h) (Or.inl ⟨by rfl, ?_⟩) (by assumption) ?_
            rotate_left
            · intro w hSw; (try dsimp only at hSw); go_simp <;> with_reducible rfl
            try simp only [Act.put, List.getElem_toArray, List.getElem_cons_succ, List.getElem_cons_zero, List.setIfInBounds_toArray, List.set_cons_zero, List.set_cons_succ]
            refine wpAnyH_ready (rs := [1]) (by kernel_rfl) (by simp) ?_
            refine AllReadyH.cons rfl (fun K hK => ?_) AllReadyH.nil
            go_simp
            go_at_call 22
            refine (CD.out _ (HA30.out.later HBV.out)).mono ?_
            rintro e wz ⟨rfl, hwz⟩
            rw [hwz]
            clear hwz wz
            refine hK.out _ _ (HKD.out _ HBV.out) (fun hHeld => ?_)
            clear hK K
            try simp only [Act.put, List.getElem_toArray, List.getElem_cons_succ, List.getElem_cons_zero, List.setIfInBounds_toArray, List.set_cons_zero, List.set_cons_succ]
            refine wpAnyH_take (i := 6) (v := ?_) rfl (by kernel_rfl) (by kernel_rfl) (by kernel_rfl) (fun _ _ _ h => h) (Or.inl ⟨by rfl, ?_⟩) (by assumption) ?_
            rotate_left
            · intro w hSw; (try dsimp only at hSw); go_simp <;> with_reducible rfl
            try simp only [Act.put, List.getElem_toArray, List.getElem_cons_succ, List.getElem_cons_zero, List.setIfInBounds_toArray, List.set_cons_zero, List.set_cons_succ]
            refine wpAnyH_done (by kernel_rfl) ?_ _
            have HA40 := Lib.hid (HA30.out.later HBV.out)
            have HL40 := Lib.hid (HL30.out.later HBV.out)
            have HB40 := Lib.hid (step HB30.out HBV.out)
            go_wp2_with fail
            go_roundw
            case rel => exact ⟨I + 1, st', by omega, by go_num, HGS, HA40, HL40, HB40⟩
            case measure => simp [intOf]; omega
    · obtain rfl : I = n := by omega
      go_wp2_with (go_at_call 8; refine (C0.out _).mono ?_; rintro e w8 ⟨rfl, hb⟩; have HB8 := Lib.hid (step HBR.out hb); clear hb)
      go_ret
      exact ⟨rfl, HB8.out⟩

/-! ### THE ROW's STEP -/
set_option maxRecDepth 100000 in
theorem lifted (os : Os) (started : os.Started) (H : Type) (enc : TypeId × Value → H) :
    ReturnsInHanded {} Try.checked os 3 .any (Rows.learnRunsSpec.pre6 enc Try.prog Try.f3 Rows.learnRunsRow.domain false) (Rows.learnRunsSpec.post enc Try.prog Try.f3 false true false false) := by
  refine returnsInHanded_of_change_sized (C := Try.checked) own started (by kernel_rfl) Try.func3
    (ChangeSpec.witness6 (enc := enc) (C := Try.checked) false ⟨#[], #[.int .i64 0, .slice none 0 0], []⟩ 8 (by kernel_rfl) (by kernel_rfl) (by kernel_rfl) (by kernel_rfl)) ?_
  intro W base args ds gs before hval0 hW hcnd hsz _
  have hval : ∀ (j : Nat) t v, Try.f3.params[j]? = some t → args[j]? = some v → Value.okWide Try.prog W .any base t v := hval0
  have hW' := hW
  obtain ⟨p, q, hA0, hV, rfl, hfz, hnd⟩ := hW
  have hA : DataW.TrodAll enc Try.prog W 0 (fun _ => true) true Try.f3.params.toList args.toList ds p := hA0
  rw [Try.params3] at hA hval hsz
  obtain ⟨v0, vs0, d0, ds0, p0, q0, hargs, rfl, rfl, h0, r0⟩ := trodAll_cons hA
  obtain ⟨v1, vs1, d1, ds1, p1, q1, rfl, rfl, rfl, h1, r1⟩ := trodAll_cons r0
  obtain ⟨rfl, rfl, rfl⟩ := trodAll_nil r1
  obtain rfl : args = #[v0, v1] := by cases args; simp_all
  obtain ⟨rfl, rfl⟩ := trodVars_none hV
  obtain ⟨a0, rfl, rfl, rfl, w0⟩ := open_int Try.underlying3 (hval 0 3 v0 rfl rfl) h0
  have k1 := h1
  have lt1 : ∀ x ∈ p1, x.block < W.heap.size := by obtain ⟨m, hm⟩ := k1; exact DataW.trod_lt m _ _ _ hm
  obtain ⟨a1, rfl, w1⟩ := Ln.open_acts15 (hval 1 22 v1 rfl rfl) h1 (fun n hn => by have := List.all_eq_true.1 hsz n (DataW.weights_mem_each (j := 1) rfl rfl n hn); simpa using this)
  clear hA0 hval0
  refine (walk a0 a1 W w0 w1).mono fun e W' ⟨he, bel⟩ => ?_
  subst he
  exact ⟨_, rfl, _, _, _, [], _, [], hW', trodAll_mk1 (shut_bool Try.underlying4 _), (trodAll_cons_mk (shut_int Try.underlying3 w0) (trodAll_cons_mk (Below.trod laidOut (by kernel_rfl) (of_decide_eq_true (by kernel_rfl)) k1 bel lt1) trodAll_mk0)), rfl, bel.frame _, fun h => by cases h⟩

theorem over : Rows.learnRunsRow.holds Try.pinned (OpenSpec.ofChange Rows.learnRunsSpec) :=
  OpenClaim.holds_of_wide 3 Try.f3 rfl rfl rfl rfl rfl rfl rfl ⟨rfl, rfl, rfl, rfl, rfl⟩ rfl rfl rfl rfl rfl (by kernel_rfl) Try.func3 (by kernel_rfl)
    (of_decide_eq_true (by kernel_rfl)) (by unfold Func.isWrapper; first | (rw [if_pos (by decide +kernel)]; kernel_rfl) | (rw [if_neg (by decide +kernel)]; exact ⟨rfl, rfl⟩))
    (fun os started H enc _ => lifted os started H enc)

/-- THE STATEMENT -/
theorem proved : Rows.LearnRunsSaid := over
end Go.Proofs.Ytbcnednhfmchpaa.learnRuns
