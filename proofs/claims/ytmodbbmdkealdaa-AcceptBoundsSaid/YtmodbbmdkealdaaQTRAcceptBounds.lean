/- PROVED: the statement AcceptBounds of layer 14: for every input that can be read, the law returns true and leaves its arguments as they were. No condition. -/
import Derived.Test.YtmodbbmdkealdaaRows
import Derived.Test.YtmodbbmdkealdaaQT2
import Derived.WalkKit
import Derived.ProofKit
import Derived.OpenShut
import Derived.ShutString
import Derived.ChangeOld
import Derived.Below
import Derived.BigQuiet
import Derived.Lib.QuietBelow
import Derived.SizedLaws
import Derived.Deep.Cut
import Derived.Deep.CutBlock
import Derived.Deep.DeepCutAuto
namespace Go.Proofs.Ytmodbbmdkealdaa.acceptBounds
open Go.ChangeShapes Go.WideShapes Go.ChangeAt Go.RowKit
open Go.ChangeMaps (open_string shut_string)
open Go.Sort (grow)
set_option linter.unusedVariables false
set_option maxRecDepth 8000
set_option linter.unusedSimpArgs false

theorem own : ownKnob Try.prog.godebug = none := by kernel_rfl
theorem laidOut : laidOutB Try.prog = true := by kernel_rfl

/-! ### STEP 1: THE WALK -/
set_option maxRecDepth 100000 in
set_option maxHeartbeats 4000000 in
theorem walk (a0 : Ac.ActsC) (w : World) (w0 : Ac.actsOk w a0) :
    Calls Try.prog 4 #[Ac.actsVal a0] w fun e w' => e = .returned (.bool true) ∧ Below w.heap.size w w' := by
  obtain ⟨L, va⟩ := a0
  obtain ⟨hrow, hok⟩ := w0
  unfold Ac.actsVal
  dsimp only at hrow hok ⊢
  obtain ⟨aa, ac, rfl⟩ := hrow.form
  have hn := hrow.len
  have C0 := Lib.hid (fun w => Ac.awake14_ok w)
  have HAT := Lib.hid (fun i hi => Ac.acts_at hrow i hi)
  have HOK := Lib.hid hok
  clear hrow hok
  obtain ⟨n, hn2⟩ : ∃ n, L.length = n := ⟨_, rfl⟩
  have HN := Lib.hid hn2
  rw [hn2] at hn ⊢
  clear hn2
  by_cases h60 : 60 < n
  · go_enter Try.func4, Try.ntmps4
    go_wp2_with (go_at_call 9; refine (C0.out _).mono ?_; rintro e w8 ⟨rfl, hb⟩; have HB8 := Lib.hid hb; clear hb)
    go_ret
    exact ⟨rfl, HB8.out⟩
  have CN := Lib.hid (Ac.New_any w)
  obtain ⟨g, hgw⟩ : ∃ g, w.heap.size = g := ⟨_, rfl⟩
  rw [hgw] at CN
  have HGW := Lib.hid hgw
  clear hgw
  go_enter Try.func4, Try.ntmps4
  go_upto_region 7 with (go_at_call 10; refine CN.out.mono ?_; rintro e w1 ⟨rfl, hw⟩; have HA1 : Hid (Ac.HasA w1 g (g + 1) Ac.newA) := Lib.hid (Ac.HasA.new (by rw [hw]; exact Cm.alloc_atB _ _ _ HGW.out) (by omega) (by rw [hw]; simp [HGW.out])); have HB1 : Hid (Below w.heap.size w w1) := Lib.hid (by rw [hw]; exact newAlloc _ _); clear hw)
  go_loopw [4, 5, 6, 7, 8, 9, 10, 11] (fun i _ _ _ _ _ _ _ wr => ∃ (I : Nat) (st : Ac.AccV), I ≤ n ∧ i = .int .i64 (I : Int) ∧ Hid (Ac.Good st) ∧ Hid (Ac.HasA wr g (g + 1) st) ∧ Hid (Below w.heap.size w wr)) (fun i _ _ _ _ _ _ _ _ => n - (intOf i).toNat)
  case atStart => exact ⟨0, Ac.newA, by omega, rfl, Lib.hid Ac.newA_good, HA1, HB1⟩
  case round =>
    obtain ⟨I, st, hI, rfl, HGS, HAR, HBR⟩ := hrel
    by_cases hlt : I < n
    · have hil : I < L.length := by rw [HN.out]; exact hlt
      obtain ⟨b, o, rfl, hc⟩ := HAT.out I hil
      obtain ⟨q0, q1, q2, q3⟩ := hc _ HBR.out
      have hox := HOK.out L[I] (List.getElem_mem hil)
      clear hc HAT HOK
      generalize L[I] = x at q0 q1 q2 q3 hox
      obtain ⟨xd, xb, xs, ns, na, nc⟩ := x
      unfold Ac.ActC.u at q3
      dsimp only at q0 q1 q2 q3
      have CBT := Lib.hid (fun (W : World) (hb : Below w.heap.size w W) => Cm.Batch_F (.slice na ns.length nc) ns W (hox.1.later hb) (by have h2 : ns.length ≤ 140737488355328 := hox.2; omega))
      clear hox
      have CBL := Lib.hid (fun (w' : World) h => Ac.Ballot_any g (g + 1) st w' h)
      have CDN := Lib.hid (fun (w' : World) h => Ac.Done_any g (g + 1) st w' h)
      have HA2' := Lib.hid (HAR.out.later (newAlloc wr (.cells #[.int .i64 xd, .int .i64 xb, .int .i64 xs, .slice na ns.length nc] 38)))
      have HB2' := Lib.hid (stepAlloc HBR.out (.cells #[.int .i64 xd, .int .i64 xb, .int .i64 xs, .slice na ns.length nc] 38))
      have hpx := Cm.alloc_atB wr (.cells #[.int .i64 xd, .int .i64 xb, .int .i64 xs, .slice na ns.length nc] 38) _ rfl
      have HPX' : Hid (∀ W, Below (wr.alloc (.cells #[.int .i64 xd, .int .i64 xb, .int .i64 xs, .slice na ns.length nc] 38)).heap.size (wr.alloc (.cells #[.int .i64 xd, .int .i64 xb, .int .i64 xs, .slice na ns.length nc] 38)) W → W.cell? ⟨wr.heap.size, 0, none⟩ = some (.int .i64 xd) ∧ W.cell? ⟨wr.heap.size, 1, none⟩ = some (.int .i64 xb) ∧ W.cell? ⟨wr.heap.size, 2, none⟩ = some (.int .i64 xs) ∧ W.cell? ⟨wr.heap.size, 3, none⟩ = some (.slice na ns.length nc)) := Lib.hid fun W hb => by
        have h := Cm.cells_later hpx hb
        exact ⟨Cm.cell_at h 0, Cm.cell_at h 1, Cm.cell_at h 2, Cm.cell_at h 3⟩
      have HPL' : Hid (wr.heap.size < (wr.alloc (.cells #[.int .i64 xd, .int .i64 xb, .int .i64 xs, .slice na ns.length nc] 38)).heap.size) := Lib.hid (by simp)
      have HPG' : Hid (g < wr.heap.size) := Lib.hid HAR.out.lt
      clear hpx
      go_upto_region 10 with fail
      generalize wr.alloc (.cells #[.int .i64 xd, .int .i64 xb, .int .i64 xs, .slice na ns.length nc] 38) = W2 at HA2' HB2' HPX' HPL' ⊢
      generalize wr.heap.size = px at HPX' HPL' HPG' ⊢
      have HA2 := HA2'
      have HB2 := HB2'
      have HPX := HPX'
      have HPL := HPL'
      have HPG := HPG'
      clear HA2' HB2' HPX' HPL' HPG' q0 q1 q2 q3 HAR HBR
      obtain ⟨p0, p1, p2, p3⟩ := HPX.out _ (Below.refl _ _)
      go_upto_region 11 with (first
        | (go_at_call 18; refine (CBL.out _ HA2.out).mono ?_; rintro e wz ⟨rfl, hwz⟩; rw [hwz]; clear hwz wz; dsimp only)
        | (go_at_call 19; refine (CDN.out _ HA2.out).mono ?_; rintro e wz ⟨rfl, hwz⟩; rw [hwz]; clear hwz wz; dsimp only))
      go_upto_block 2 with fail
      go_cut [] from 33 to 55 (fun wc => ∃ st' : Ac.AccV, Hid (Ac.Good st') ∧ Hid (st.ballot ≤ st'.ballot ∧ st.done ≤ st'.done) ∧ Hid (Ac.HasA wc g (g + 1) st') ∧ Hid (Below w.heap.size w wc))
      case first =>
        by_cases h0 : xd = 0
        · subst h0
          have CP := Lib.hid (Ac.Promise_any g (g + 1) st xb W2 HA2.out)
          go_wp2_with (go_at_call 12; refine CP.out.mono ?_; rintro e w3 ⟨rfl, ha, hg⟩; have HA3 := Lib.hid ha; have HB3 := Lib.hid (Ac.step_gr HB2.out hg (by rw [HGW.out]; exact Nat.le_refl _) HB2.out.size); clear ha hg)
          go_meet
          exact ⟨(Ac.promF st xb).1, Lib.hid (HGS.out.prom xb), Lib.hid (Ac.prom_up st xb), HA3, HB3⟩
        have d0 : (xd == 0) = false := by simpa using h0
        by_cases h1 : xd = 1
        · subst h1
          go_upto_region 16 with fail
          clear p0 p1 p2 p3
          refine wp_region_held_drew (S := (fun W => W.cell? ⟨px, 1, none⟩ = some (.int .i64 xb) ∧ W.cell? ⟨px, 2, none⟩ = some (.int .i64 xs) ∧ W.cell? ⟨px, 3, none⟩ = some (.slice na ns.length nc))) (by kernel_rfl) ((HPX.out _ (Below.refl _ _).drew).2) (fun hHeld => ?_)
          obtain ⟨V, hV⟩ : ∃ V, V = W2.drew := ⟨_, rfl⟩
          have HBV : Hid (Below W2.heap.size W2 V) := Lib.hid (by rw [hV]; exact (Below.refl _ _).drew)
          rw [← hV] at hHeld ⊢
          clear hV
          refine wpAnyH_take (i := 0) (v := ?_) rfl (by kernel_rfl) (by kernel_rfl) (by kernel_rfl) (fun _ _ _ h => h) (Or.inl ⟨by rfl, ?_⟩) (by assumption) ?_
          rotate_left
          · intro w hSw; (try dsimp only at hSw); go_simp <;> with_reducible rfl
          try simp only [Act.put, List.getElem_toArray, List.getElem_cons_zero, List.setIfInBounds_toArray, List.set_cons_zero, List.set_cons_succ]
          refine wpAnyH_take (i := 1) (v := ?_) rfl (by kernel_rfl) (by kernel_rfl) (by kernel_rfl) (fun _ _ _ h => h) (Or.inl ⟨by rfl, ?_⟩) (by assumption) ?_
          rotate_left
          · intro w hSw; (try dsimp only at hSw); go_simp <;> with_reducible rfl
          try simp only [Act.put, List.getElem_toArray, List.getElem_cons_succ, List.getElem_cons_zero, List.setIfInBounds_toArray, List.set_cons_zero, List.set_cons_succ]
          refine wpAnyH_take (i := 2) (v := ?_) rfl (by kernel_rfl) (by kernel_rfl) (by kernel_rfl) (fun _ _ _ h => h) (Or.inl ⟨by rfl, ?_⟩) (by assumption) ?_
          rotate_left
          · intro w hSw; (try dsimp only at hSw); go_simp <;> with_reducible rfl
          try simp only [Act.put, List.getElem_toArray, List.getElem_cons_succ, List.getElem_cons_zero, List.setIfInBounds_toArray, List.set_cons_zero, List.set_cons_succ]
          refine wpAnyH_take (i := 3) (v := ?_) rfl (by kernel_rfl) (by kernel_rfl) (by kernel_rfl) (fun _ _ _ h => h) (Or.inl ⟨by rfl, ?_⟩) (by assumption) ?_
          rotate_left
          · intro w hSw; (try dsimp only at hSw); go_simp <;> with_reducible rfl
          try simp only [Act.put, List.getElem_toArray, List.getElem_cons_succ, List.getElem_cons_zero, List.setIfInBounds_toArray, List.set_cons_zero, List.set_cons_succ]
          refine wpAnyH_take (i := 4) (v := ?_) rfl (by kernel_rfl) (by kernel_rfl) (by kernel_rfl) (fun _ _ _ h => h) (Or.inl ⟨by rfl, ?_⟩) (by assumption) ?_
          rotate_left
          · intro w hSw; (try dsimp only at hSw); go_simp <;> with_reducible rfl
          try simp only [Act.put, List.getElem_toArray, List.getElem_cons_succ, List.getElem_cons_zero, List.setIfInBounds_toArray, List.set_cons_zero, List.set_cons_succ]
          refine wpAnyH_take (i := 5) (v := ?_) rfl (by kernel_rfl) (by kernel_rfl) (by kernel_rfl) (fun _ _ _ h => h) (Or.inl ⟨by rfl, ?_⟩) (by assumption) ?_
          rotate_left
          · intro w hSw; (try dsimp only at hSw); go_simp <;> with_reducible rfl
          try simp only [Act.put, List.getElem_toArray, List.getElem_cons_succ, List.getElem_cons_zero, List.setIfInBounds_toArray, List.set_cons_zero, List.set_cons_succ]
          refine wpAnyH_take (i := 6) (v := ?_) rfl (by kernel_rfl) (by kernel_rfl) (by kernel_rfl) (fun _ _ _ h => h) (Or.inl ⟨by rfl, ?_⟩) (by assumption) ?_
          rotate_left
          · intro w hSw; (try dsimp only at hSw); go_simp <;> with_reducible rfl
          try simp only [Act.put, List.getElem_toArray, List.getElem_cons_succ, List.getElem_cons_zero, List.setIfInBounds_toArray, List.set_cons_zero, List.set_cons_succ]
          refine wpAnyH_ready (rs := [7]) (by kernel_rfl) (by simp) ?_
          refine AllReadyH.cons rfl (fun K hK => ?_) AllReadyH.nil
          go_simp
          go_at_call 11
          refine (CBT.out _ (step HB2.out HBV.out)).mono ?_
          intro e V2 hmb
          obtain ⟨u, rfl, -, ho, hb⟩ := hmb.out
          have HBV2 := Lib.hid (step HBV.out hb)
          have HU : Hid (u.ownBlock ≠ some g) := Lib.hid (fun q => by have := (Rw.own_lt ho g q).1; have := HA2.out.lt; have := HBV.out.size; omega)
          have HRU := Lib.hid (RdX.own Cm.cellsR_length ho)
          clear hmb ho hb HBV
          unfold Cm.batVal
          dsimp only
          refine hK.out _ _ ((HPX.out _ HBV2.out).2) (fun hHeld => ?_)
          clear hK K
          try simp only [Act.put, List.getElem_toArray, List.getElem_cons_succ, List.getElem_cons_zero, List.setIfInBounds_toArray, List.set_cons_zero, List.set_cons_succ]
          have CA := Lib.hid (Ac.Accept_any g (g + 1) st xb xs (Cm.batchF ns) u V2 (HA2.out.later HBV2.out) HGS.out HRU.out HU.out)
          unfold Cm.batVal at CA
          refine wpAnyH_ready (rs := [8]) (by kernel_rfl) (by simp) ?_
          refine AllReadyH.cons rfl (fun K hK => ?_) AllReadyH.nil
          go_simp
          go_at_call 14
          refine CA.out.mono ?_
          rintro e V3 ⟨rfl, ha, hg⟩
          have HA3 := Lib.hid ha
          have HB3 := Lib.hid (Ac.step_gr (step HB2.out HBV2.out) hg (by rw [HGW.out]; exact Nat.le_refl _) (step HB2.out HBV2.out).size)
          have HSX := Lib.hid ((HPX.out _ HBV2.out).2)
          have hsx : V3.heap[px]? = V2.heap[px]? := hg.block px (Nat.lt_of_lt_of_le HPL.out HBV2.out.size) (fun q => by injection q with q; have := HPG.out; omega)
          clear ha hg CA
          refine hK.out _ _ (by rw [World.cell?_of_block (a := ⟨px, 1, none⟩) hsx, World.cell?_of_block (a := ⟨px, 2, none⟩) hsx, World.cell?_of_block (a := ⟨px, 3, none⟩) hsx]; exact HSX.out) (fun hHeld => ?_)
          clear hK K
          try simp only [Act.put, List.getElem_toArray, List.getElem_cons_succ, List.getElem_cons_zero, List.setIfInBounds_toArray, List.set_cons_zero, List.set_cons_succ]
          refine wpAnyH_done (by kernel_rfl) ?_ _
          go_wp2_with fail
          go_meet
          exact ⟨(Ac.accF st xb xs (Cm.batchF ns)).1, Lib.hid (HGS.out.acc _ _ _), Lib.hid (Ac.acc_up st xb xs _), HA3, HB3⟩
        have d1 : (xd == 1) = false := by simpa using h1
        have CT := Lib.hid (Ac.Trim_any g (g + 1) st xs W2 HA2.out HGS.out)
        go_wp2_with (go_at_call 16; refine CT.out.mono ?_; rintro e w3 ⟨rfl, ha, hg⟩; have HA3 := Lib.hid ha; have HB3 := Lib.hid (Ac.step_gr HB2.out hg (by rw [HGW.out]; exact Nat.le_refl _) HB2.out.size); clear ha hg)
        go_meet
        exact ⟨Ac.trimF st xs, Lib.hid (HGS.out.trim xs), Lib.hid (Ac.trim_up st xs), HA3, HB3⟩
      case rest =>
        obtain ⟨st', HGS', HUP, HA3, HB3⟩ := hcut
        have CV := Lib.hid (Ac.Votes_any g (g + 1) st' wc HA3.out HGS'.out)
        have CBL2 := Lib.hid (fun (w' : World) h => Ac.Ballot_any g (g + 1) st' w' h)
        have CDN2 := Lib.hid (fun (w' : World) h => Ac.Done_any g (g + 1) st' w' h)
        clear HPX HPL HPG HA2 HB2 CBL CDN CBT p0 p1 p2 p3
        go_upto_region 18 with (go_at_call 21; refine CV.out.mono ?_; rintro e w5 ⟨v, M, rfl, hM, ho, hb⟩; have HA5 := Lib.hid (HA3.out.later hb); have HB5 := Lib.hid (step HB3.out hb); have HO5 := Lib.hid ho; have HV5 := Lib.hid hM; have HBV5 := Lib.hid hb; clear hM ho hb)
        obtain ⟨va, vc, hv⟩ := HO5.out.rd.form
        subst hv
        have h9 : M.length ≤ 9 := by rw [← Ac.valsV_length, HV5.out]; exact Ac.good_len HGS'.out
        obtain ⟨m, hm⟩ : ∃ m, M.length = m := ⟨_, rfl⟩
        have HM := Lib.hid hm
        rw [hm] at h9 ⊢
        clear hm CV
        have h9n : ¬ 9 < m := by omega
        have u1 : decide (st'.ballot < st.ballot) = false := decide_eq_false (by have := HUP.out.1; omega)
        have u2 : decide (st'.done < st.done) = false := decide_eq_false (by have := HUP.out.2; omega)
        go_upto_region 21 with (first
          | (go_at_call 18; refine (CBL2.out _ HA5.out).mono ?_; rintro e wz ⟨rfl, hwz⟩; rw [hwz]; clear hwz wz; dsimp only)
          | (go_at_call 19; refine (CDN2.out _ HA5.out).mono ?_; rintro e wz ⟨rfl, hwz⟩; rw [hwz]; clear hwz wz; dsimp only))
        clear u1 u2 h9n
        have HMT := Lib.hid (fun i hi => Ac.rdv_at HO5.out.rd.row i hi)
        have HGV : Hid (∀ i (hi : i < M.length), st'.done < M[i].slot ∧ M[i].slot ≤ st'.done + 9 ∧ M[i].ballot ≤ st'.ballot) := Lib.hid fun i hi => by
          have hx : M[i].val ∈ st'.votes := by rw [← HV5.out]; exact List.mem_map.2 ⟨M[i], List.getElem_mem hi, rfl⟩
          exact ⟨HGS'.out.list.low _ hx, HGS'.out.list.most _ hx, HGS'.out.bal _ hx⟩
        have HRI : Hid (∀ i j (hij : i < j) (hj : j < M.length), (M[i]'(by omega)).slot < M[j].slot) := Lib.hid fun i j hij hj => by
          have h := Ac.rise_at HGS'.out.list.rise i j hij (by rw [← HV5.out, Ac.valsV_length]; exact hj)
          simp only [← HV5.out] at h
          rw [Ac.valsV_get M i (by omega), Ac.valsV_get M j hj] at h
          exact h
        go_loopw [9] (fun k wr => ∃ k' : Nat, k' ≤ m ∧ k = .int .i64 (k' : Int) ∧ Hid (Below w5.heap.size w5 wr)) (fun k _ => m - (intOf k).toNat)
        case atStart => exact ⟨0, by omega, rfl, Lib.hid (Below.refl _ _)⟩
        case round =>
          obtain ⟨k, hk, rfl, HBK⟩ := hrel
          by_cases hkl : k < m
          · have hkM : k < M.length := by rw [HM.out]; exact hkl
            obtain ⟨bv, ov, rfl, hc⟩ := HMT.out k hkM
            obtain ⟨q0, q1, -⟩ := hc _ HBK.out
            obtain ⟨g1, g2, g3⟩ := HGV.out k hkM
            have CQD : Hid (∀ N, Calls Try.prog 19 #[.pointer (some ⟨g, 0, none⟩)] (wr.drewN N) (fun e w'' => e = .returned (.int .i64 st'.done) ∧ ∃ m, w'' = wr.drewN m)) := Lib.hid fun N => (CDN2.out _ (HA5.out.later (Cm.below_drewB HBK.out N))).mono fun e w' h => ⟨h.1, N, h.2⟩
            have CQB : Hid (∀ N, Calls Try.prog 18 #[.pointer (some ⟨g, 0, none⟩)] (wr.drewN N) (fun e w'' => e = .returned (.int .i64 st'.ballot) ∧ ∃ m, w'' = wr.drewN m)) := Lib.hid fun N => (CBL2.out _ (HA5.out.later (Cm.below_drewB HBK.out N))).mono fun e w' h => ⟨h.1, N, h.2⟩
            have hd0 := HGS'.out.d0
            have hd1 := HGS'.out.d1
            have v1 : decide (M[k].slot ≤ st'.done) = false := decide_eq_false (by omega)
            have v2 : IntKind.i64.wrap (M[k].slot - st'.done) = M[k].slot - st'.done := by rw [IntKind.wrap_i64]; omega
            have v3 : decide (9 < M[k].slot - st'.done) = false := decide_eq_false (by omega)
            have v4 : decide (st'.ballot < M[k].ballot) = false := decide_eq_false (by omega)
            rcases Nat.eq_zero_or_pos k with h0 | h0
            · subst h0
              generalize M[0].slot = x1 at *
              generalize M[0].ballot = x2 at *
              clear g1 g2 g3 hc HMT HGV HRI hd0 hd1
              have q0' : wr.cell? ⟨bv, ov, none⟩ = some (.int .i64 x1) := by simpa using q0
              have q1' : wr.cell? ⟨bv, ov + 1, none⟩ = some (.int .i64 x2) := by simpa using q1
              have k1 : (0 : Int) < (m : Int) := by omega
              clear q0 q1
              go_upto_region 23 with fail
              go_quiet (first
                | (go_at_call 19; exact CQD.out _)
                | (go_at_call 18; exact CQB.out _))
              go_wp2
              go_roundw
              case rel => exact ⟨1, by omega, by go_num, Lib.hid (Cm.below_drewB HBK.out nq)⟩
              case measure => simp [intOf]; omega
            · obtain ⟨j, rfl⟩ : ∃ j, k = j + 1 := ⟨k - 1, by omega⟩
              have hri := HRI.out j (j + 1) (by omega) hkM
              obtain ⟨bv', ov', hbv, hc'⟩ := HMT.out j (by omega)
              cases hbv
              obtain ⟨r0, -⟩ := hc' _ HBK.out
              have v5 : decide ((M[j + 1]'hkM).slot ≤ (M[j]'(by omega)).slot) = false := decide_eq_false (by omega)
              generalize (M[j + 1]'hkM).slot = x1 at *
              generalize (M[j + 1]'hkM).ballot = x2 at *
              generalize (M[j]'(by omega)).slot = y1 at *
              clear g1 g2 g3 hc hc' HMT HGV HRI hd0 hd1 hri
              have k1 : ((j : Int) + 1) < (m : Int) := by omega
              have k2 : (j : Int) < (m : Int) := by omega
              have k3 : (0 : Int) ≤ (j : Int) + 1 := by omega
              have k4 : ((j : Int) + 1).toNat = j + 1 := by omega
              have k5 : (0 : Int) < (j : Int) + 1 := by omega
              have k6 : IntKind.i64.wrap (j : Int) = (j : Int) := by rw [IntKind.wrap_i64]; omega
              have k7 : IntKind.i64.wrap ((j : Int) + 1 + 1) = (j : Int) + 1 + 1 := by rw [IntKind.wrap_i64]; omega
              go_upto_region 23 with fail
              go_quiet (first
                | (go_at_call 19; exact CQD.out _)
                | (go_at_call 18; exact CQB.out _))
              go_wp2
              go_roundw
              case rel => exact ⟨j + 1 + 1, by omega, by simp, Lib.hid (Cm.below_drewB HBK.out nq)⟩
              case measure => simp [intOf]; omega
          · obtain rfl : k = m := by omega
            have HOV : Hid (∀ vb, va = some ⟨vb, 0, none⟩ → Ac.Ovr wr vb M) := Lib.hid fun vb hvb => by
              have h := HO5.out
              rw [hvb] at h
              exact (Ac.Ovr.of h).later HBK.out
            have HBW : Hid (Below wc.heap.size wc wr) := Lib.hid (step HBV5.out HBK.out)
            have HGE : Hid (∀ vb, va = some ⟨vb, 0, none⟩ → wc.heap.size ≤ vb) := Lib.hid fun vb hvb => by
              have h := HO5.out
              rw [hvb] at h
              exact h.ge
            have HSO : Hid (0 < k → ∃ vb, va = some ⟨vb, 0, none⟩) := Lib.hid fun h0 => by
              obtain ⟨vb, h, _⟩ := own_some HO5.out.row (by rw [HM.out]; exact h0)
              exact ⟨vb, h⟩
            have HRO : Hid (∀ x ∈ M, (x.ua = none → x.bat.reqs.length = 0) ∧ (∀ bb, x.ua = some ⟨bb, 0, none⟩ → wc.heap.size ≤ bb) ∧ x.bat.reqs.length ≤ 9223372036854775807) := Lib.hid fun x hx => ⟨(HO5.out.reqs x hx).nought, fun bb hb => (HO5.out.reqs x hx).ge hb, RdX.len (HO5.out.reqs x hx).rd⟩
            clear HBK HMT HGV HRI HO5 HBV5 HB5 HA5 HV5 CBL2 CDN2 HUP
            go_wp2
            go_loopw [10, 11] (fun i _ wr => ∃ i' : Nat, i' ≤ k ∧ i = .int .i64 (i' : Int) ∧ Hid (∀ vb, va = some ⟨vb, 0, none⟩ → Ac.Ovr wr vb M) ∧ Hid (Below wc.heap.size wc wr)) (fun i _ _ => k - (intOf i).toNat)
            case atStart => exact ⟨0, by omega, rfl, HOV, HBW⟩
            case round =>
              obtain ⟨i, hi, rfl, HOI, HBI⟩ := hrel
              by_cases hil : i < k
              · obtain ⟨vb, rfl⟩ := HSO.out (by omega)
                have hiM : i < M.length := by rw [HM.out]; exact hil
                obtain ⟨⟨s0, hs0⟩, -, hsf⟩ := (HOI.out vb rfl).slot i hiM
                have HGV := Lib.hid (HGE.out vb rfl)
                have HO6' := Lib.hid ((HOI.out vb rfl).setV i (.int .i64 99))
                have HB6' := Lib.hid (HBI.out.setCell (p := ⟨vb, i * 8, none⟩) (HGE.out vb rfl) (.int .i64 99))
                have HXM := Lib.hid (List.getElem_mem hiM)
                have HSL : Hid (∀ W, Ac.Ovr W vb M → W.cell? ⟨vb, i * 8 + 7, none⟩ = some (.slice M[i].ua M[i].bat.reqs.length M[i].uc)) := Lib.hid fun W h => (h.slot i hiM).2.1
                obtain ⟨hr1, hr2, hr3⟩ := HRO.out M[i] HXM.out
                have HR1 := Lib.hid hr1
                have HR2 := Lib.hid hr2
                clear hr1 hr2 HOI HBI
                generalize M[i] = x at HXM HSL HR1 HR2 hr3
                obtain ⟨lr, hlr⟩ : ∃ lr, x.bat.reqs.length = lr := ⟨_, rfl⟩
                rw [hlr] at HSL hr3
                have HLR := Lib.hid hlr
                clear hlr
                have k2 : (i : Int) < (k : Int) := by omega
                go_upto_region 29 with fail
                clear hs0 hsf
                generalize wr.setCell ⟨vb, i * 8, none⟩ (.int .i64 99) = W6 at HO6' HB6' ⊢
                go_wp2
                go_loopw [11] (fun j wj => ∃ j' : Nat, j' ≤ lr ∧ j = .int .i64 (j' : Int) ∧ Hid (Ac.Ovr wj vb M) ∧ Hid (Below wc.heap.size wc wj)) (fun j _ => lr - (intOf j).toNat)
                case atStart => exact ⟨0, by omega, rfl, HO6', HB6'⟩
                case round =>
                  obtain ⟨j, hj, rfl, HOJ, HBJ⟩ := hrel
                  have c7 := HSL.out _ HOJ.out
                  by_cases hjl : j < lr
                  · obtain ⟨bb, hbb, ⟨s1, hs1⟩, hsf⟩ := HOJ.out.seq HXM.out j (by rw [HLR.out]; exact hjl) HR1.out
                    have HO7 := Lib.hid (HOJ.out.setR (i := j * 5 + 1) HXM.out hbb (.int .i64 77))
                    have HB7 := Lib.hid (HBJ.out.setCell (p := ⟨bb, j * 5 + 1, none⟩) (HR2.out bb hbb) (.int .i64 77))
                    rw [hbb] at c7
                    clear hbb
                    have k3 : (j : Int) < (lr : Int) := by omega
                    go_wp2
                    go_roundw
                    case rel => exact ⟨j + 1, by omega, by go_num, HO7, HB7⟩
                    case measure => simp [intOf]; omega
                  · obtain rfl : j = lr := by omega
                    go_wp2
                    go_roundw
                    case rel => exact ⟨i + 1, by omega, by go_num, Lib.hid (fun vb' h => by cases h; exact HOJ.out), HBJ⟩
                    case measure => simp [intOf]; omega
              · obtain rfl : i = k := by omega
                go_wp2
                go_roundw
                case rel => exact ⟨I + 1, st', by omega, by go_num, HGS', Lib.hid (HA3.out.later HBI.out), Lib.hid (step HB3.out HBI.out)⟩
                case measure => simp [intOf]; omega
    · obtain rfl : I = n := by omega
      go_wp2_with (go_at_call 9; refine (C0.out _).mono ?_; rintro e w8 ⟨rfl, hb⟩; have HB8 := Lib.hid (step HBR.out hb); clear hb)
      go_ret
      exact ⟨rfl, HB8.out⟩

/-! ### THE ROW's STEP -/
set_option maxRecDepth 100000 in
theorem lifted (os : Os) (started : os.Started) (H : Type) (enc : TypeId × Value → H) :
    ReturnsInHanded {} Try.checked os 4 .any (Rows.acceptBoundsSpec.pre6 enc Try.prog Try.f4 Rows.acceptBoundsRow.domain false) (Rows.acceptBoundsSpec.post enc Try.prog Try.f4 false true false false) := by
  refine returnsInHanded_of_change_sized (C := Try.checked) own started (by kernel_rfl) Try.func4
    (ChangeSpec.witness6 (enc := enc) (C := Try.checked) false ⟨#[], #[.slice none 0 0], []⟩ 8 (by kernel_rfl) (by kernel_rfl) (by kernel_rfl) (by kernel_rfl)) ?_
  intro W base args ds gs before hval0 hW hcnd hsz _
  have hval : ∀ (j : Nat) t v, Try.f4.params[j]? = some t → args[j]? = some v → Value.okWide Try.prog W .any base t v := hval0
  have hW' := hW
  obtain ⟨p, q, hA0, hV, rfl, hfz, hnd⟩ := hW
  have hA : DataW.TrodAll enc Try.prog W 0 (fun _ => true) true Try.f4.params.toList args.toList ds p := hA0
  rw [Try.params4] at hA hval hsz
  obtain ⟨v0, vs0, d0, ds0, p0, q0, hargs, rfl, rfl, h0, r0⟩ := trodAll_cons hA
  obtain ⟨rfl, rfl, rfl⟩ := trodAll_nil r0
  obtain rfl : args = #[v0] := by cases args; simp_all
  obtain ⟨rfl, rfl⟩ := trodVars_none hV
  have k0 := h0
  have lt0 : ∀ x ∈ p0, x.block < W.heap.size := by obtain ⟨m, hm⟩ := k0; exact DataW.trod_lt m _ _ _ hm
  obtain ⟨a0, rfl, w0⟩ := Ac.open_acts14 (hval 0 22 v0 rfl rfl) h0 (fun n hn => by have := List.all_eq_true.1 hsz n (DataW.weights_mem_each (j := 0) rfl rfl n hn); simpa using this)
  clear hA0 hval0
  refine (walk a0 W w0).mono fun e W' ⟨he, bel⟩ => ?_
  subst he
  exact ⟨_, rfl, _, _, _, [], _, [], hW', trodAll_mk1 (shut_bool Try.underlying4 _), (trodAll_cons_mk (Below.trod laidOut (by kernel_rfl) (of_decide_eq_true (by kernel_rfl)) k0 bel lt0) trodAll_mk0), rfl, bel.frame _, fun h => by cases h⟩

theorem over : Rows.acceptBoundsRow.holds Try.pinned (OpenSpec.ofChange Rows.acceptBoundsSpec) :=
  OpenClaim.holds_of_wide 4 Try.f4 rfl rfl rfl rfl rfl rfl rfl ⟨rfl, rfl, rfl, rfl, rfl⟩ rfl rfl rfl rfl rfl (by kernel_rfl) Try.func4 (by kernel_rfl)
    (of_decide_eq_true (by kernel_rfl)) (by unfold Func.isWrapper; first | (rw [if_pos (by decide +kernel)]; kernel_rfl) | (rw [if_neg (by decide +kernel)]; exact ⟨rfl, rfl⟩))
    (fun os started H enc _ => lifted os started H enc)

/-- THE STATEMENT -/
theorem proved : Rows.AcceptBoundsSaid := over
end Go.Proofs.Ytmodbbmdkealdaa.acceptBounds
