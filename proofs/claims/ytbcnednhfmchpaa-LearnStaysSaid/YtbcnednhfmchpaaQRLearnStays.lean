/- PROVED: the statement LearnStays of layer 15: for every input that can be read, the law returns true and leaves its arguments as they were. No condition. -/
import Derived.Test.YtbcnednhfmchpaaRows
import Derived.Test.YtbcnednhfmchpaaQ14
import Derived.WalkKit
import Derived.ProofKit
import Derived.OpenShut
import Derived.ShutString
import Derived.ChangeOld
import Derived.Below
import Derived.BigQuiet
import Derived.Lib.QuietBelow
import Derived.SizedLaws
import Derived.Deep.Cut
import Derived.Deep.CutBlock
import Derived.Deep.DeepCutAuto
namespace Go.Proofs.Ytbcnednhfmchpaa.learnStays
open Go.ChangeShapes Go.WideShapes Go.ChangeAt Go.RowKit
open Go.ChangeMaps (open_string shut_string)
open Go.Sort (grow)
set_option linter.unusedVariables false
set_option maxRecDepth 8000
set_option linter.unusedSimpArgs false

theorem own : ownKnob Try.prog.godebug = none := by kernel_rfl
theorem laidOut : laidOutB Try.prog = true := by kernel_rfl

/-! ### STEP 1: THE WALK -/
set_option maxRecDepth 100000 in
set_option maxHeartbeats 20000000 in
theorem walk (a0 : Ln.ActsC) (a1 : Int) (a2 : Option Addr) (len2 cap2 : Nat) (z2 : List Int) (w : World) (w0 : Ln.actsOk w a0) (w1 : (Lit.int .u8 a1).wf = true) (w2 : IsRow .u8 w a2 len2 cap2 z2) (s2 : len2 ≤ 140737488355328) :
    Calls Try.prog 6 #[Ln.actsVal a0, .int .u8 a1, .slice a2 len2 cap2] w fun e w' => e = .returned (.bool true) ∧ Below w.heap.size w w' := by
  obtain ⟨AL, va⟩ := a0
  obtain ⟨hrow, hok⟩ := w0
  unfold Ln.actsVal
  dsimp only at hrow hok ⊢
  obtain ⟨aa, ac, rfl⟩ := hrow.form
  have hn := hrow.len
  obtain ⟨hrNS, hrlNS⟩ := w2.rd
  generalize bytesOf z2 len2 = NS at hrNS hrlNS
  obtain ⟨S, rfl⟩ : ∃ S : Nat, a1 = (S : Int) := Int.eq_ofNat_of_zero_le (by have := w1; simp [Lit.wf, IntKind.min, IntKind.max, IntKind.signed, IntKind.bits] at this; omega)
  have hS : S < 256 := by have := w1; simp [Lit.wf, IntKind.min, IntKind.max, IntKind.signed, IntKind.bits] at this; omega
  obtain ⟨s0, hs0⟩ : ∃ s0, S % 9 = s0 := ⟨_, rfl⟩
  have hs9 : s0 < 9 := by omega
  have tm : (S : Int).tmod 9 = (s0 : Int) := by rw [Int.tmod_eq_emod_of_nonneg (by omega)]; omega
  have e0 : IntKind.i64.wrap (S : Int) = (S : Int) := by rw [IntKind.wrap_i64]; omega
  obtain ⟨s, hs⟩ : ∃ s : Nat, s = s0 + 1 := ⟨_, rfl⟩
  have e1 : IntKind.i64.wrap (1 + (s0 : Int)) = (s : Int) := by rw [IntKind.wrap_i64]; omega
  obtain ⟨r, hr⟩ : ∃ r : Int, (s : Int) - 1 = r := ⟨_, rfl⟩
  have e2 : IntKind.i64.wrap ((s : Int) - 1) = r := by rw [IntKind.wrap_i64]; omega
  have hrs : r < (s : Int) := by omega
  clear hr
  have hsl : 1 ≤ s := by omega
  have hsh : s ≤ 9 := by omega
  have C0 := Lib.hid (fun w => Ln.awake15_ok w)
  have hL4 : NS.length ≤ 4611686018427387904 := by omega
  have CBT := Lib.hid (fun (W : World) (hb : Below w.heap.size w W) => Cm.Batch_F _ NS W (hrNS.later hb) hL4)
  have HAT := Lib.hid (fun i hi => Ln.acts_at hrow i hi)
  have HOK := Lib.hid hok
  clear hrow hok w1 w2 hrNS hrlNS hs0 hs hs9 hS hL4
  obtain ⟨n, hn2⟩ : ∃ n, AL.length = n := ⟨_, rfl⟩
  have HN := Lib.hid hn2
  rw [hn2] at hn ⊢
  clear hn2
  obtain ⟨B, hB⟩ : ∃ B, Cm.batchF NS = B := ⟨_, rfl⟩
  have HBD := Lib.hid hB
  have HMB : Hid (Cm.mayB B = true) := Lib.hid (by rw [← hB]; exact Cm.batchF_mayL NS)
  clear hB
  have CN := Lib.hid (Ln.New_yes 3 w (by rfl))
  obtain ⟨g, hgw⟩ : ∃ g, w.heap.size = g := ⟨_, rfl⟩
  rw [hgw] at CN
  have HGW := Lib.hid hgw
  clear hgw
  by_cases h40 : 40 < n
  · have d0 : decide ((40 : Int) < (n : Int)) = true := by simp; omega
    clear h40
    go_enter Try.func6, Try.ntmps6
    go_wp2_with (go_at_call 8; refine (C0.out _).mono ?_; rintro e w8 ⟨rfl, hb⟩; have HB8 := Lib.hid hb; clear hb)
    go_ret
    exact ⟨rfl, HB8.out⟩
  have d0 : decide ((40 : Int) < (n : Int)) = false := by simp; omega
  have hn40 : n ≤ 40 := by omega
  obtain ⟨st1, st2, h1, hg1, h2, hk2⟩ := Ln.stays_start (s : Int) B (by omega) (by omega) HMB.out
  have CA1 := Lib.hid (fun (w' : World) u h hr => Ln.Hear_any g (g + 1) (Ln.newL 3) 0 2 (s : Int) B u w' h (Ln.newL_good 3 (by decide) (by decide)) hr)
  rw [h1] at CA1
  have CA2 := Lib.hid (fun (w' : World) u h hr => Ln.Hear_any g (g + 1) st1 1 2 (s : Int) B u w' h hg1 hr)
  rw [h2] at CA2
  unfold Cm.batVal at CA1 CA2
  have HK2 := Lib.hid hk2
  clear h1 hg1 h2 hk2 h40
  go_enter Try.func6, Try.ntmps6
  go_upto_region 8 with (first
    | (go_at_call 9; refine CN.out.mono ?_; rintro e w1 hnw; obtain ⟨rfl, hw⟩ := hnw; have HA1 : Hid (Ln.HasD w1 g (g + 1) (Ln.newL 3)) := Lib.hid (Ln.HasD.new (by rw [hw]; exact Cm.alloc_atB _ _ _ HGW.out) (by omega) (by rw [hw]; simp [HGW.out])); have HB1 : Hid (Below w.heap.size w w1) := Lib.hid (by rw [hw]; exact newAlloc _ _); have hs1 : Hid (w1.heap.size = g + 1) := Lib.hid (by rw [hw]; simp [HGW.out]); clear hw)
    | (go_at_call 14; refine (CBT.out _ HB1.out).mono ?_; intro e w2 hmb; obtain ⟨u, rfl, -, ho, hb⟩ := hmb.out; rw [HBD.out] at ho; rw [HBD.out]; obtain ⟨ua, uc, hv⟩ := Rw.own_form ho; subst hv; have HB2 := Lib.hid (step HB1.out hb); have HA2 := Lib.hid (HA1.out.later hb); have HO2 := Lib.hid ho; have HS2 := Lib.hid hb.size; clear hmb ho hb; unfold Cm.batVal; dsimp only))
  obtain ⟨bx, hbx⟩ : ∃ x, w2.heap.size = x := ⟨_, rfl⟩
  have hb3 := newAlloc w2 (.cells #[.bool B.fill, .int .i64 B.view, .int .i64 B.tv, .int .i64 B.ts, .int .i64 B.time, .slice ua B.reqs.length uc] 38)
  have HK3 := Lib.hid (Ln.BoxB.new w2 B (.slice ua B.reqs.length uc) bx hbx)
  obtain ⟨w3, hw3⟩ : ∃ x, x = w2.alloc (.cells #[.bool B.fill, .int .i64 B.view, .int .i64 B.tv, .int .i64 B.ts, .int .i64 B.time, .slice ua B.reqs.length uc] 38) := ⟨_, rfl⟩
  have hs3 : w3.heap.size = bx + 1 := by rw [hw3]; simp [hbx]
  rw [← hw3] at hb3 HK3 ⊢
  rw [hbx]
  have hg1 : g + 1 ≤ bx := by rw [← hbx, ← hs1.out]; exact HS2.out
  have HU : Hid (∀ k, (Value.slice ua B.reqs.length uc).ownBlock = some k → g + 1 ≤ k ∧ k < bx) := Lib.hid fun k hk => by
    have h := Rw.own_lt HO2.out k hk
    rw [hs1.out, hbx] at h
    exact ⟨by omega, h.2⟩
  have HB3 := Lib.hid (step HB2.out hb3)
  have HA3 := Lib.hid (HA2.out.later hb3)
  have HO3 : Hid (w3.ownsRow (g + 1) 73 5 (.slice ua B.reqs.length uc) B.reqs.length (flatX Cm.cellsR B.reqs)) := Lib.hid (Rw.own_below (own_lowerX HO2.out (by rw [hs1.out]; omega)) hb3)
  clear hw3 hb3 hs3 hbx HO2 CN
  have k0 := HK3.out.c0
  have k1 := HK3.out.c1
  have k2 := HK3.out.c2
  have k3 := HK3.out.c3
  have k4 := HK3.out.c4
  have k5 := HK3.out.c5
  go_wp2_with fail
  refine (CA1.out _ _ HA3.out (RdX.own Cm.cellsR_length HO3.out)).mono ?_
  rintro e w4 ⟨rfl, ha, hg⟩
  have HA4 := Lib.hid ha
  have HB4 := Lib.hid (Ln.step_grL HB3.out hg (by rw [HGW.out]; exact Nat.le_refl _) HB3.out.size)
  have HK4 := Lib.hid (HK3.out.gr hg (by omega)); have HO4 := Lib.hid (Ln.own_gr HO3.out HU.out hg (.inl (by omega)))
  clear ha hg k0 k1 k2 k3 k4 k5
  have k0 := HK4.out.c0
  have k1 := HK4.out.c1
  have k2 := HK4.out.c2
  have k3 := HK4.out.c3
  have k4 := HK4.out.c4
  have k5 := HK4.out.c5
  dsimp only
  go_wp2_with fail
  refine (CA2.out _ _ HA4.out (RdX.own Cm.cellsR_length HO4.out)).mono ?_
  rintro e w5 ⟨rfl, ha, hg⟩
  have HA5 := Lib.hid ha
  have HB5 := Lib.hid (Ln.step_grL HB4.out hg (by rw [HGW.out]; exact Nat.le_refl _) HB4.out.size)
  have HK5 := Lib.hid (HK4.out.gr hg (by omega)); have HO5 := Lib.hid (Ln.own_gr HO4.out HU.out hg (.inl (by omega)))
  clear ha hg k0 k1 k2 k3 k4 k5
  dsimp only
  clear CA1 CA2
  go_upto_region 10 with fail
  go_wp2
  go_loopw [10, 11, 12, 13, 14, 15, 16, 17, 18, 19] (fun i _ _ _ _ _ _ _ _ _ wr => ∃ (I : Nat) (st : Ln.LrnV), I ≤ n ∧ i = .int .i64 (I : Int) ∧ Hid (Ln.Kept st (s : Int) B) ∧ Hid (Ln.HasD wr g (g + 1) st) ∧ Hid (Ln.BoxB wr bx B (.slice ua B.reqs.length uc)) ∧ Hid (wr.ownsRow (g + 1) 73 5 (.slice ua B.reqs.length uc) B.reqs.length (flatX Cm.cellsR B.reqs)) ∧ Hid (Below w.heap.size w wr)) (fun i _ _ _ _ _ _ _ _ _ _ => n - (intOf i).toNat)
  case atStart => exact ⟨0, st2, by omega, rfl, HK2, HA5, HK5, HO5, HB5⟩
  case round =>
    obtain ⟨I, st, hI, rfl, HKP, HAR, HKR, HOW, HBR⟩ := hrel
    by_cases hlt : I < n
    · have hil : I < AL.length := by rw [HN.out]; exact hlt
      obtain ⟨b, o, rfl, hc⟩ := HAT.out I hil
      obtain ⟨q0, q1, q2, q3, q4⟩ := hc _ HBR.out
      have hox := HOK.out AL[I] (List.getElem_mem hil)
      clear hc HAT HOK
      generalize AL[I] = x at q0 q1 q2 q3 q4 hox
      obtain ⟨xf, xb, xs, ns, na, nc, xt⟩ := x
      unfold Ln.ActC.u at q3
      dsimp only at q0 q1 q2 q3 q4
      have CBX := Lib.hid (fun (W : World) (hb : Below w.heap.size w W) => Cm.Batch_F (.slice na ns.length nc) ns W (hox.1.later hb) (by have h2 : ns.length ≤ 140737488355328 := hox.2; omega))
      clear hox
      have i0 : (0 : Int) ≤ (I : Int) := by omega
      have i1 : (I : Int) < (n : Int) := by omega
      obtain ⟨px, hpx⟩ : ∃ x, wr.heap.size = x := ⟨_, rfl⟩
      have hgp : g < px := by rw [← hpx]; exact HAR.out.lt
      have hb := newAlloc wr (.cells #[.int .i64 xf, .int .i64 xb, .int .i64 xs, .slice na ns.length nc, .bool xt] 30)
      have HPX10 : Hid ((wr.alloc (.cells #[.int .i64 xf, .int .i64 xb, .int .i64 xs, .slice na ns.length nc, .bool xt] 30)).heap[px]? = some (.cells #[.int .i64 xf, .int .i64 xb, .int .i64 xs, .slice na ns.length nc, .bool xt] 30)) := Lib.hid (Cm.alloc_atB wr _ _ hpx)
      have HPC : Hid (∀ W : World, W.heap[px]? = some (.cells #[.int .i64 xf, .int .i64 xb, .int .i64 xs, .slice na ns.length nc, .bool xt] 30) → W.cell? ⟨px, 0, none⟩ = some (.int .i64 xf) ∧ W.cell? ⟨px, 1, none⟩ = some (.int .i64 xb) ∧ W.cell? ⟨px, 3, none⟩ = some (.slice na ns.length nc)) := Lib.hid fun W h => ⟨Cm.cell_at h 0, Cm.cell_at h 1, Cm.cell_at h 3⟩
      have HA10 := Lib.hid (HAR.out.later hb)
      have HB10 := Lib.hid (step HBR.out hb)
      have HK10 := Lib.hid (HKR.out.later hb)
      have HO10 := Lib.hid (Rw.own_below HOW.out hb)
      go_upto_region 14 with fail
      try rw [hpx]
      generalize wr.alloc (.cells #[.int .i64 xf, .int .i64 xb, .int .i64 xs, .slice na ns.length nc, .bool xt] 30) = w10 at HPX10 HA10 HB10 HK10 HO10 ⊢
      clear hb q0 q1 q2 q3 q4 hpx
      have p2 := Cm.cell_at HPX10.out 2
      have p4 := Cm.cell_at HPX10.out 4
      simp at p2 p4
      cases xt
      · have CH := Lib.hid (fun (w' : World) h => Ln.Heard_anyO g (g + 1) st (s : Int) w' h HKP.out.good (by omega))
        rw [HKP.out.heard] at CH
        go_upto_region 19 with (go_at_call 18; refine (CH.out _ HA10.out).mono ?_; rintro e w11 ⟨u11a, u11c, rfl, hr, hb⟩; have HA11 := Lib.hid (HA10.out.later hb); have HB11 := Lib.hid (step HB10.out hb); have HU11 := Lib.hid (own_lowerX (base' := g + 1) hr (by have := HA10.out.lt; omega)); have HK11 := Lib.hid (HK10.out.later hb); have HO11 := Lib.hid (Rw.own_below HO10.out hb); have HPX11 := Lib.hid (Cm.cells_later HPX10.out hb); clear hr hb; dsimp only)
        refine wp_region_held_drew (S := (fun W => W.cell? ⟨px, 0, none⟩ = some (.int .i64 xf) ∧ W.cell? ⟨px, 1, none⟩ = some (.int .i64 xb) ∧ W.cell? ⟨px, 3, none⟩ = some (.slice na ns.length nc))) (by kernel_rfl) (HPC.out _ (Cm.cells_later HPX11.out (Below.refl _ _).drew)) (fun hHeld => ?_)
        obtain ⟨V, hV⟩ : ∃ V, V = w11.drew := ⟨_, rfl⟩
        have HBV : Hid (Below w11.heap.size w11 V) := Lib.hid (by rw [hV]; exact (Below.refl _ _).drew)
        rw [← hV] at hHeld ⊢
        clear hV
        refine wpAnyH_take (i := 0) (v := ?_) rfl (by kernel_rfl) (by kernel_rfl) (by kernel_rfl) (fun _ _ _ h => h) (Or.inl ⟨by rfl, ?_⟩) (by assumption) ?_
        rotate_left
        · intro w hSw; (try dsimp only at hSw); go_simp <;> with_reducible rfl
        try simp only [Act.put, List.getElem_toArray, List.getElem_cons_zero, List.setIfInBounds_toArray, List.set_cons_zero, List.set_cons_succ]
        refine wpAnyH_take (i := 1) (v := ?_) rfl (by kernel_rfl) (by kernel_rfl) (by kernel_rfl) (fun _ _ _ h => h) (Or.inl ⟨by rfl, ?_⟩) (by assumption) ?_
        rotate_left
        · intro w hSw; (try dsimp only at hSw); go_simp <;> with_reducible rfl
        try simp only [Act.put, List.getElem_toArray, List.getElem_cons_succ, List.getElem_cons_zero, List.setIfInBounds_toArray, List.set_cons_zero, List.set_cons_succ]
        refine wpAnyH_take (i := 2) (v := ?_) rfl (by kernel_rfl) (by kernel_rfl) (by kernel_rfl) (fun _ _ _ h => h) (Or.inl ⟨by rfl, ?_⟩) (by assumption) ?_
        rotate_left
        · intro w hSw; (try dsimp only at hSw); go_simp <;> with_reducible rfl
        try simp only [Act.put, List.getElem_toArray, List.getElem_cons_succ, List.getElem_cons_zero, List.setIfInBounds_toArray, List.set_cons_zero, List.set_cons_succ]
        refine wpAnyH_take (i := 3) (v := ?_) rfl (by kernel_rfl) (by kernel_rfl) (by kernel_rfl) (fun _ _ _ h => h) (Or.inl ⟨by rfl, ?_⟩) (by assumption) ?_
        rotate_left
        · intro w hSw; (try dsimp only at hSw); go_simp <;> with_reducible rfl
        try simp only [Act.put, List.getElem_toArray, List.getElem_cons_succ, List.getElem_cons_zero, List.setIfInBounds_toArray, List.set_cons_zero, List.set_cons_succ]
        refine wpAnyH_take (i := 4) (v := ?_) rfl (by kernel_rfl) (by kernel_rfl) (by kernel_rfl) (fun _ _ _ h => h) (Or.inl ⟨by rfl, ?_⟩) (by assumption) ?_
        rotate_left
        · intro w hSw; (try dsimp only at hSw); go_simp <;> with_reducible rfl
        try simp only [Act.put, List.getElem_toArray, List.getElem_cons_succ, List.getElem_cons_zero, List.setIfInBounds_toArray, List.set_cons_zero, List.set_cons_succ]
        refine wpAnyH_take (i := 5) (v := ?_) rfl (by kernel_rfl) (by kernel_rfl) (by kernel_rfl) (fun _ _ _ h => h) (Or.inl ⟨by rfl, ?_⟩) (by assumption) ?_
        rotate_left
        · intro w hSw; (try dsimp only at hSw); go_simp <;> with_reducible rfl
        try simp only [Act.put, List.getElem_toArray, List.getElem_cons_succ, List.getElem_cons_zero, List.setIfInBounds_toArray, List.set_cons_zero, List.set_cons_succ]
        refine wpAnyH_take (i := 6) (v := ?_) rfl (by kernel_rfl) (by kernel_rfl) (by kernel_rfl) (fun _ _ _ h => h) (Or.inl ⟨by rfl, ?_⟩) (by assumption) ?_
        rotate_left
        · intro w hSw; (try dsimp only at hSw); go_simp <;> with_reducible rfl
        try simp only [Act.put, List.getElem_toArray, List.getElem_cons_succ, List.getElem_cons_zero, List.setIfInBounds_toArray, List.set_cons_zero, List.set_cons_succ]
        refine wpAnyH_take (i := 7) (v := ?_) rfl (by kernel_rfl) (by kernel_rfl) (by kernel_rfl) (fun _ _ _ h => h) (Or.inl ⟨by rfl, ?_⟩) (by assumption) ?_
        rotate_left
        · intro w hSw; (try dsimp only at hSw); go_simp <;> with_reducible rfl
        try simp only [Act.put, List.getElem_toArray, List.getElem_cons_succ, List.getElem_cons_zero, List.setIfInBounds_toArray, List.set_cons_zero, List.set_cons_succ]
        refine wpAnyH_ready (rs := [8]) (by kernel_rfl) (by simp) ?_
        refine AllReadyH.cons rfl (fun K hK => ?_) AllReadyH.nil
        go_simp
        go_at_call 14
        refine (CBX.out _ (step HB11.out HBV.out)).mono ?_
        intro e V2 hmb
        obtain ⟨v, rfl, -, ho, hb⟩ := hmb.out
        have HBV2 := Lib.hid (step HBV.out hb)
        have HRV := Lib.hid (RdX.own Cm.cellsR_length ho)
        clear hmb ho hb HBV
        unfold Cm.batVal
        dsimp only
        refine hK.out _ _ (HPC.out _ (Cm.cells_later HPX11.out HBV2.out)) (fun hHeld => ?_)
        clear hK K
        try simp only [Act.put, List.getElem_toArray, List.getElem_cons_succ, List.getElem_cons_zero, List.setIfInBounds_toArray, List.set_cons_zero, List.set_cons_succ]
        have CA := Lib.hid (Ln.Hear_any g (g + 1) st xf xb xs (Cm.batchF ns) v V2 (HA11.out.later HBV2.out) HKP.out.good HRV.out)
        unfold Cm.batVal at CA
        have HN := Lib.hid (HKP.out.hear xf xb xs (Cm.batchF ns))
        have HNO : Hid (xs = (s : Int) → (Ln.hearF st xf xb xs (Cm.batchF ns)).2 ≠ 0) := Lib.hid (fun q => by rw [q]; exact HKP.out.no xf xb (Cm.batchF ns))
        obtain ⟨st', cd, hcd⟩ : ∃ st' cd, Ln.hearF st xf xb xs (Cm.batchF ns) = (st', cd) := ⟨_, _, rfl⟩
        rw [hcd] at CA HN HNO
        dsimp only at HN HNO
        clear hcd
        have HKV := Lib.hid (HK11.out.later HBV2.out)
        have HOV := Lib.hid (Rw.own_below HO11.out HBV2.out)
        have HPV := Lib.hid (Cm.cells_later HPX11.out HBV2.out)
        refine wpAnyH_ready (rs := [9]) (by kernel_rfl) (by simp) ?_
        refine AllReadyH.cons rfl (fun K hK => ?_) AllReadyH.nil
        go_simp
        go_at_call 13
        refine CA.out.mono ?_
        rintro e w12 ⟨rfl, ha, hg⟩
        have HA12 := Lib.hid ha
        have HB12 := Lib.hid (Ln.step_grL (step HB11.out HBV2.out) hg (by rw [HGW.out]; exact Nat.le_refl _) (step HB11.out HBV2.out).size)
        have HK12 := Lib.hid (HKV.out.gr hg (by omega))
        have HO12 := Lib.hid (Ln.own_gr HOV.out HU.out hg (.inl (by omega)))
        have hpx := Ln.at_gr HPV.out hg (by omega)
        have HR12 := Lib.hid (RdX.own Ln.cellsI_length (Ln.own_grX (Rw.own_below HU11.out HBV2.out) hg (by omega)))
        clear ha hg CA
        dsimp only
        refine hK.out _ _ (HPC.out _ hpx) (fun hHeld => ?_)
        clear hK K
        try simp only [Act.put, List.getElem_toArray, List.getElem_cons_succ, List.getElem_cons_zero, List.setIfInBounds_toArray, List.set_cons_zero, List.set_cons_succ]
        refine wpAnyH_take (i := 10) (v := ?_) rfl (by kernel_rfl) (by kernel_rfl) (by kernel_rfl) (fun _ _ _ h => h) (Or.inl ⟨by rfl, ?_⟩) (by assumption) ?_
        rotate_left
        · intro w hSw; (try dsimp only at hSw); go_simp <;> with_reducible rfl
        try simp only [Act.put, List.getElem_toArray, List.getElem_cons_succ, List.getElem_cons_zero, List.setIfInBounds_toArray, List.set_cons_zero, List.set_cons_succ]
        refine wpAnyH_done (by kernel_rfl) ?_ _
        have CH2 := Lib.hid (fun (w' : World) h => Ln.Heard_any g (g + 1) st' (s : Int) w' h HN.out.good (by omega))
        rw [HN.out.heard] at CH2
        go_upto_region 21 with (go_at_call 18; refine (CH2.out _ HA12.out).mono ?_; rintro e w13 ⟨u13, rfl, hr, hb⟩; obtain ⟨u13a, u13c, hv⟩ := hr.form; subst hv; have HA13 := Lib.hid (HA12.out.later hb); have HB13 := Lib.hid (step HB12.out hb); have HRu13 := Lib.hid hr; have HK13 := Lib.hid (HK12.out.later hb); have HO13 := Lib.hid (Rw.own_below HO12.out hb); have HR13 := Lib.hid (HR12.out.later hb); clear hr hb; dsimp only)
        have CI := Lib.hid (Ln.SameInts_any _ _ [0, 1] [0, 1] w13 HR13.out HRu13.out)
        rw [show Ln.sameI [0, 1] [0, 1] = true by rfl] at CI
        by_cases hxs : xs = (s : Int)
        · have dq : (xs == (s : Int)) = true := by simpa using hxs
          have dz : (cd == 0) = false := by simpa using HNO.out hxs
          clear hxs HNO
          go_upto_region 23 with (go_at_call 21; refine CI.out.mono ?_; rintro e w14 ⟨rfl, hb⟩; have HA14 := Lib.hid (HA13.out.later hb); have HB14 := Lib.hid (step HB13.out hb); have HK14 := Lib.hid (HK13.out.later hb); have HO14 := Lib.hid (Rw.own_below HO13.out hb); clear hb)
          have CC := Lib.hid (fun (w' : World) h => Ln.Chosen_any g (g + 1) st' (s : Int) w' h HN.out.good (by omega))
          rw [HN.out.chosen] at CC
          go_upto_region 24 with (go_at_call 16; refine (CC.out _ HA14.out).mono ?_; rintro e w30 ⟨u30, rfl, hr, hb⟩; obtain ⟨u30a, u30c, hv⟩ := hr.form; subst hv; have HA30 := Lib.hid (HA14.out.later hb); have HB30 := Lib.hid (step HB14.out hb); have HRu30 := Lib.hid hr; have HK30 := Lib.hid (HK14.out.later hb); have HO30 := Lib.hid (Rw.own_below HO14.out hb); clear hr hb; unfold Cm.batVal; dsimp only)
          obtain ⟨w31, hw31⟩ : ∃ x, x = w30.alloc (.cells #[.bool B.fill, .int .i64 B.view, .int .i64 B.tv, .int .i64 B.ts, .int .i64 B.time, .slice u30a B.reqs.length u30c] 38) := ⟨_, rfl⟩
          have hb := newAlloc w30 (.cells #[.bool B.fill, .int .i64 B.view, .int .i64 B.tv, .int .i64 B.ts, .int .i64 B.time, .slice u30a B.reqs.length u30c] 38)
          obtain ⟨xz, hxz⟩ : ∃ x, w30.heap.size = x := ⟨_, rfl⟩
          have HZ31 := Lib.hid (Ln.BoxB.new w30 B (.slice u30a B.reqs.length u30c) xz hxz)
          rw [← hw31] at hb HZ31 ⊢
          rw [hxz]
          have HA31 := Lib.hid (HA30.out.later hb)
          have HB31 := Lib.hid (step HB30.out hb)
          have HK31 := Lib.hid (HK30.out.later hb)
          have HO31 := Lib.hid (Rw.own_below HO30.out hb)
          have HR31 := Lib.hid (HRu30.out.later hb)
          clear hw31 hb hxz
          have CS := Lib.hid (Cm.RefSameB_any B B (.slice u30a B.reqs.length u30c) (.slice ua B.reqs.length uc) w31 HR31.out (RdX.own Cm.cellsR_length HO31.out))
          rw [Cm.sameB_refl] at CS
          unfold Cm.batVal at CS
          have z0 := HZ31.out.c0
          have k0 := HK31.out.c0
          have z1 := HZ31.out.c1
          have k1 := HK31.out.c1
          have z2 := HZ31.out.c2
          have k2 := HK31.out.c2
          have z3 := HZ31.out.c3
          have k3 := HK31.out.c3
          have z4 := HZ31.out.c4
          have k4 := HK31.out.c4
          have z5 := HZ31.out.c5
          have k5 := HK31.out.c5
          go_wp2_with (go_at_call 20; refine CS.out.mono ?_; rintro e w32 ⟨rfl, hb⟩; have HA32 := Lib.hid (HA31.out.later hb); have HB32 := Lib.hid (step HB31.out hb); have HK32 := Lib.hid (HK31.out.later hb); have HO32 := Lib.hid (Rw.own_below HO31.out hb); clear hb)
          go_roundw
          case rel => exact ⟨I + 1, st', by omega, by go_num, HN, HA32, HK32, HO32, HB32⟩
          case measure => simp [intOf]; omega
        · have dq : (xs == (s : Int)) = false := by simpa using hxs
          clear hxs HNO
          go_upto_region 23 with (go_at_call 21; refine CI.out.mono ?_; rintro e w14 ⟨rfl, hb⟩; have HA14 := Lib.hid (HA13.out.later hb); have HB14 := Lib.hid (step HB13.out hb); have HK14 := Lib.hid (HK13.out.later hb); have HO14 := Lib.hid (Rw.own_below HO13.out hb); clear hb)
          have CC := Lib.hid (fun (w' : World) h => Ln.Chosen_any g (g + 1) st' (s : Int) w' h HN.out.good (by omega))
          rw [HN.out.chosen] at CC
          go_upto_region 24 with (go_at_call 16; refine (CC.out _ HA14.out).mono ?_; rintro e w30 ⟨u30, rfl, hr, hb⟩; obtain ⟨u30a, u30c, hv⟩ := hr.form; subst hv; have HA30 := Lib.hid (HA14.out.later hb); have HB30 := Lib.hid (step HB14.out hb); have HRu30 := Lib.hid hr; have HK30 := Lib.hid (HK14.out.later hb); have HO30 := Lib.hid (Rw.own_below HO14.out hb); clear hr hb; unfold Cm.batVal; dsimp only)
          obtain ⟨w31, hw31⟩ : ∃ x, x = w30.alloc (.cells #[.bool B.fill, .int .i64 B.view, .int .i64 B.tv, .int .i64 B.ts, .int .i64 B.time, .slice u30a B.reqs.length u30c] 38) := ⟨_, rfl⟩
          have hb := newAlloc w30 (.cells #[.bool B.fill, .int .i64 B.view, .int .i64 B.tv, .int .i64 B.ts, .int .i64 B.time, .slice u30a B.reqs.length u30c] 38)
          obtain ⟨xz, hxz⟩ : ∃ x, w30.heap.size = x := ⟨_, rfl⟩
          have HZ31 := Lib.hid (Ln.BoxB.new w30 B (.slice u30a B.reqs.length u30c) xz hxz)
          rw [← hw31] at hb HZ31 ⊢
          rw [hxz]
          have HA31 := Lib.hid (HA30.out.later hb)
          have HB31 := Lib.hid (step HB30.out hb)
          have HK31 := Lib.hid (HK30.out.later hb)
          have HO31 := Lib.hid (Rw.own_below HO30.out hb)
          have HR31 := Lib.hid (HRu30.out.later hb)
          clear hw31 hb hxz
          have CS := Lib.hid (Cm.RefSameB_any B B (.slice u30a B.reqs.length u30c) (.slice ua B.reqs.length uc) w31 HR31.out (RdX.own Cm.cellsR_length HO31.out))
          rw [Cm.sameB_refl] at CS
          unfold Cm.batVal at CS
          have z0 := HZ31.out.c0
          have k0 := HK31.out.c0
          have z1 := HZ31.out.c1
          have k1 := HK31.out.c1
          have z2 := HZ31.out.c2
          have k2 := HK31.out.c2
          have z3 := HZ31.out.c3
          have k3 := HK31.out.c3
          have z4 := HZ31.out.c4
          have k4 := HK31.out.c4
          have z5 := HZ31.out.c5
          have k5 := HK31.out.c5
          go_wp2_with (go_at_call 20; refine CS.out.mono ?_; rintro e w32 ⟨rfl, hb⟩; have HA32 := Lib.hid (HA31.out.later hb); have HB32 := Lib.hid (step HB31.out hb); have HK32 := Lib.hid (HK31.out.later hb); have HO32 := Lib.hid (Rw.own_below HO31.out hb); clear hb)
          go_roundw
          case rel => exact ⟨I + 1, st', by omega, by go_num, HN, HA32, HK32, HO32, HB32⟩
          case measure => simp [intOf]; omega
      · obtain ⟨M, hM⟩ : ∃ M, (if r < xs then r else xs) = M := ⟨_, rfl⟩
        have HMS : Hid (M < (s : Int)) := Lib.hid (by rw [← hM]; split <;> omega)
        have HN := Lib.hid (HKP.out.trim M (HMS.out))
        have CT := Lib.hid (fun (w' : World) h => Ln.Trim_any g (g + 1) st M w' h HKP.out.good)
        generalize Ln.trimL st M = st' at HN CT
        go_upto_region 23 with (go_at_call 11; refine (CT.out _ HA10.out).mono ?_; rintro e w11 ⟨rfl, ha, hg⟩; have HA11 := Lib.hid ha; have HB11 := Lib.hid (Ln.step_grL HB10.out hg (by rw [HGW.out]; exact Nat.le_refl _) HB10.out.size); have HK11 := Lib.hid (HK10.out.gr hg (by omega)); have HO11 := Lib.hid (Ln.own_gr HO10.out HU.out hg (.inl (by omega))); clear ha hg)
        have CC := Lib.hid (fun (w' : World) h => Ln.Chosen_any g (g + 1) st' (s : Int) w' h HN.out.good (by omega))
        rw [HN.out.chosen] at CC
        go_upto_region 24 with (go_at_call 16; refine (CC.out _ HA11.out).mono ?_; rintro e w30 ⟨u30, rfl, hr, hb⟩; obtain ⟨u30a, u30c, hv⟩ := hr.form; subst hv; have HA30 := Lib.hid (HA11.out.later hb); have HB30 := Lib.hid (step HB11.out hb); have HRu30 := Lib.hid hr; have HK30 := Lib.hid (HK11.out.later hb); have HO30 := Lib.hid (Rw.own_below HO11.out hb); clear hr hb; unfold Cm.batVal; dsimp only)
        obtain ⟨w31, hw31⟩ : ∃ x, x = w30.alloc (.cells #[.bool B.fill, .int .i64 B.view, .int .i64 B.tv, .int .i64 B.ts, .int .i64 B.time, .slice u30a B.reqs.length u30c] 38) := ⟨_, rfl⟩
        have hb := newAlloc w30 (.cells #[.bool B.fill, .int .i64 B.view, .int .i64 B.tv, .int .i64 B.ts, .int .i64 B.time, .slice u30a B.reqs.length u30c] 38)
        obtain ⟨xz, hxz⟩ : ∃ x, w30.heap.size = x := ⟨_, rfl⟩
        have HZ31 := Lib.hid (Ln.BoxB.new w30 B (.slice u30a B.reqs.length u30c) xz hxz)
        rw [← hw31] at hb HZ31 ⊢
        rw [hxz]
        have HA31 := Lib.hid (HA30.out.later hb)
        have HB31 := Lib.hid (step HB30.out hb)
        have HK31 := Lib.hid (HK30.out.later hb)
        have HO31 := Lib.hid (Rw.own_below HO30.out hb)
        have HR31 := Lib.hid (HRu30.out.later hb)
        clear hw31 hb hxz
        have CS := Lib.hid (Cm.RefSameB_any B B (.slice u30a B.reqs.length u30c) (.slice ua B.reqs.length uc) w31 HR31.out (RdX.own Cm.cellsR_length HO31.out))
        rw [Cm.sameB_refl] at CS
        unfold Cm.batVal at CS
        have z0 := HZ31.out.c0
        have k0 := HK31.out.c0
        have z1 := HZ31.out.c1
        have k1 := HK31.out.c1
        have z2 := HZ31.out.c2
        have k2 := HK31.out.c2
        have z3 := HZ31.out.c3
        have k3 := HK31.out.c3
        have z4 := HZ31.out.c4
        have k4 := HK31.out.c4
        have z5 := HZ31.out.c5
        have k5 := HK31.out.c5
        go_wp2_with (go_at_call 20; refine CS.out.mono ?_; rintro e w32 ⟨rfl, hb⟩; have HA32 := Lib.hid (HA31.out.later hb); have HB32 := Lib.hid (step HB31.out hb); have HK32 := Lib.hid (HK31.out.later hb); have HO32 := Lib.hid (Rw.own_below HO31.out hb); clear hb)
        go_roundw
        case rel => exact ⟨I + 1, st', by omega, by go_num, HN, HA32, HK32, HO32, HB32⟩
        case measure => simp [intOf]; omega
    · obtain rfl : I = n := by omega
      obtain ⟨st', htr, hgd, hdn, hch, hhd, hhr⟩ := HKP.out.over (by omega) (by omega) HMB.out
      have CT := Lib.hid (fun (w' : World) h => Ln.Trim_any g (g + 1) st (s : Int) w' h HKP.out.good)
      rw [htr] at CT
      have CC := Lib.hid (fun (w' : World) h => Ln.Chosen_any g (g + 1) st' (s : Int) w' h hgd (by omega))
      rw [hch] at CC
      have CH := Lib.hid (fun (w' : World) h => Ln.Heard_any g (g + 1) st' (s : Int) w' h hgd (by omega))
      rw [hhd] at CH
      have CA := Lib.hid (fun (w' : World) u h hr => Ln.Hear_any g (g + 1) st' 0 9 (s : Int) B u w' h hgd hr)
      rw [hhr] at CA
      have CD := Lib.hid (fun (w' : World) h => Ln.Done_any g (g + 1) st' w' h)
      rw [hdn] at CD
      unfold Cm.batVal at CA
      clear htr hgd hdn hch hhd hhr
      have HA10 := HAR
      have HB10 := HBR
      have HK10 := HKR
      have HO10 := HOW
      clear HAR HBR HKR HOW
      go_upto_region 27 with (go_at_call 11; refine (CT.out _ HA10.out).mono ?_; rintro e w11 ⟨rfl, ha, hg⟩; have HA11 := Lib.hid ha; have HB11 := Lib.hid (Ln.step_grL HB10.out hg (by rw [HGW.out]; exact Nat.le_refl _) HB10.out.size); have HK11 := Lib.hid (HK10.out.gr hg (by omega)); have HO11 := Lib.hid (Ln.own_gr HO10.out HU.out hg (.inl (by omega))); clear ha hg)
      go_upto_region 28 with (go_at_call 16; refine (CC.out _ HA11.out).mono ?_; rintro e w12 ⟨u12, rfl, hr, hb⟩; obtain ⟨u12a, u12c, hv⟩ := hr.form; subst hv; have HA12 := Lib.hid (HA11.out.later hb); have HB12 := Lib.hid (step HB11.out hb); have HRu12 := Lib.hid hr; have HK12 := Lib.hid (HK11.out.later hb); have HO12 := Lib.hid (Rw.own_below HO11.out hb); clear hr hb; unfold Cm.batVal; dsimp only)
      obtain ⟨w13, hw13⟩ : ∃ x, x = w12.alloc (.cells #[.bool Cm.zeroB.fill, .int .i64 Cm.zeroB.view, .int .i64 Cm.zeroB.tv, .int .i64 Cm.zeroB.ts, .int .i64 Cm.zeroB.time, .slice u12a Cm.zeroB.reqs.length u12c] 38) := ⟨_, rfl⟩
      have hb := newAlloc w12 (.cells #[.bool Cm.zeroB.fill, .int .i64 Cm.zeroB.view, .int .i64 Cm.zeroB.tv, .int .i64 Cm.zeroB.ts, .int .i64 Cm.zeroB.time, .slice u12a Cm.zeroB.reqs.length u12c] 38)
      obtain ⟨xz, hxz⟩ : ∃ x, w12.heap.size = x := ⟨_, rfl⟩
      have HZ13 := Lib.hid (Ln.BoxB.new w12 Cm.zeroB (.slice u12a Cm.zeroB.reqs.length u12c) xz hxz)
      rw [← hw13] at hb HZ13 ⊢
      rw [hxz]
      have HA13 := Lib.hid (HA12.out.later hb)
      have HB13 := Lib.hid (step HB12.out hb)
      have HK13 := Lib.hid (HK12.out.later hb)
      have HO13 := Lib.hid (Rw.own_below HO12.out hb)
      have HR13 := Lib.hid (HRu12.out.later hb)
      clear hw13 hb hxz
      go_upto_region 29 with (go_at_call 18; refine (CH.out _ HA13.out).mono ?_; rintro e w14 ⟨u14, rfl, hr, hb⟩; obtain ⟨u14a, u14c, hv⟩ := hr.form; subst hv; have HA14 := Lib.hid (HA13.out.later hb); have HB14 := Lib.hid (step HB13.out hb); have HRu14 := Lib.hid hr; have HK14 := Lib.hid (HK13.out.later hb); have HO14 := Lib.hid (Rw.own_below HO13.out hb); clear hr hb; dsimp only)
      have k0 := HK14.out.c0
      have k1 := HK14.out.c1
      have k2 := HK14.out.c2
      have k3 := HK14.out.c3
      have k4 := HK14.out.c4
      have k5 := HK14.out.c5
      go_wp2_with (first
        | (go_at_call 13; refine (CA.out _ _ HA14.out (RdX.own Cm.cellsR_length HO14.out)).mono ?_; rintro e w15 ⟨rfl, ha, hg⟩; have HA15 := Lib.hid ha; have HB15 := Lib.hid (Ln.step_grL HB14.out hg (by rw [HGW.out]; exact Nat.le_refl _) HB14.out.size); clear ha hg; dsimp only)
        | (go_at_call 22; refine (CD.out _ HA15.out).mono ?_; rintro e wz ⟨rfl, hwz⟩; rw [hwz]; clear hwz wz)
        | (go_at_call 8; refine (C0.out _).mono ?_; rintro e w16 ⟨rfl, hb⟩; have HB16 := Lib.hid (step HB15.out hb); clear hb))
      go_ret
      exact ⟨rfl, HB16.out⟩

/-! ### THE ROW's STEP -/
set_option maxRecDepth 100000 in
theorem lifted (os : Os) (started : os.Started) (H : Type) (enc : TypeId × Value → H) :
    ReturnsInHanded {} Try.checked os 6 .any (Rows.learnStaysSpec.pre6 enc Try.prog Try.f6 Rows.learnStaysRow.domain false) (Rows.learnStaysSpec.post enc Try.prog Try.f6 false true false false) := by
  refine returnsInHanded_of_change_sized (C := Try.checked) own started (by kernel_rfl) Try.func6
    (ChangeSpec.witness6 (enc := enc) (C := Try.checked) false ⟨#[], #[.slice none 0 0, .int .u8 0, .slice none 0 0], []⟩ 8 (by kernel_rfl) (by kernel_rfl) (by kernel_rfl) (by kernel_rfl)) ?_
  intro W base args ds gs before hval0 hW hcnd hsz _
  have hval : ∀ (j : Nat) t v, Try.f6.params[j]? = some t → args[j]? = some v → Value.okWide Try.prog W .any base t v := hval0
  have hW' := hW
  obtain ⟨p, q, hA0, hV, rfl, hfz, hnd⟩ := hW
  have hA : DataW.TrodAll enc Try.prog W 0 (fun _ => true) true Try.f6.params.toList args.toList ds p := hA0
  rw [Try.params6] at hA hval hsz
  obtain ⟨v0, vs0, d0, ds0, p0, q0, hargs, rfl, rfl, h0, r0⟩ := trodAll_cons hA
  obtain ⟨v1, vs1, d1, ds1, p1, q1, rfl, rfl, rfl, h1, r1⟩ := trodAll_cons r0
  obtain ⟨v2, vs2, d2, ds2, p2, q2, rfl, rfl, rfl, h2, r2⟩ := trodAll_cons r1
  obtain ⟨rfl, rfl, rfl⟩ := trodAll_nil r2
  obtain rfl : args = #[v0, v1, v2] := by cases args; simp_all
  obtain ⟨rfl, rfl⟩ := trodVars_none hV
  have k0 := h0
  have lt0 : ∀ x ∈ p0, x.block < W.heap.size := by obtain ⟨m, hm⟩ := k0; exact DataW.trod_lt m _ _ _ hm
  obtain ⟨a0, rfl, w0⟩ := Ln.open_acts15 (hval 0 22 v0 rfl rfl) h0 (fun n hn => by have := List.all_eq_true.1 hsz n (DataW.weights_mem_each (j := 0) rfl rfl n hn); simpa using this)
  obtain ⟨a1, rfl, rfl, rfl, w1⟩ := open_int Try.underlying5 (hval 1 5 v1 rfl rfl) h1
  obtain ⟨a2, len2, cap2, rfl⟩ := okWide_slice Try.underlying28 (hval 2 28 v2 rfl rfl)
  have k2 := h2
  have lt2 : ∀ x ∈ p2, x.block < W.heap.size := by obtain ⟨m, hm⟩ := k2; exact DataW.trod_lt m _ _ _ hm
  obtain ⟨z2, w2, s2⟩ : ∃ zs, IsRow .u8 W a2 len2 cap2 zs ∧ len2 ≤ 140737488355328 := by
    obtain ⟨fuel, hf⟩ := h2
    rcases open_ints Try.underlying28 Try.underlying5 (by kernel_rfl) hf with ⟨hcs, _⟩ | ⟨x, l, c, zs, hcs, _, hl, hm, hz, hdd, hcell, hwz⟩
    · simp [Value.cells] at hcs
      obtain ⟨rfl, rfl, rfl⟩ := hcs
      exact ⟨[], .inl ⟨rfl, rfl, rfl, rfl⟩, by omega⟩
    · simp [Value.cells] at hcs
      obtain ⟨rfl, rfl, rfl⟩ := hcs
      have hd' := congrArg Prod.fst hdd
      have hs := sized_slice (j := 2) hsz rfl (show (_ : List (DataW H))[2]? = some (.slice (lits .u8 (zs.take len2)) (lits .u8 (zs.drop len2))) from congrArg some hd') Try.underlying28
      have hb : Try.checked.prog.bytesOf 5 = 1 := by kernel_rfl
      rw [hb] at hs
      have hr := reachBytes_lt
      simp [lits] at hs
      exact ⟨zs, .inr ⟨_, rfl, hl, hm, by simpa using hz, hcell, hwz⟩, by simp at hz; omega⟩
  clear hA0 hval0
  refine (walk a0 a1 a2 len2 cap2 z2 W w0 w1 w2 s2).mono fun e W' ⟨he, bel⟩ => ?_
  subst he
  exact ⟨_, rfl, _, _, _, [], _, [], hW', trodAll_mk1 (shut_bool Try.underlying4 _), (trodAll_cons_mk (Below.trod laidOut (by kernel_rfl) (of_decide_eq_true (by kernel_rfl)) k0 bel lt0) (trodAll_cons_mk (shut_int Try.underlying5 w1) (trodAll_cons_mk (Below.trod laidOut (by kernel_rfl) (of_decide_eq_true (by kernel_rfl)) k2 bel lt2) trodAll_mk0))), rfl, bel.frame _, fun h => by cases h⟩

theorem over : Rows.learnStaysRow.holds Try.pinned (OpenSpec.ofChange Rows.learnStaysSpec) :=
  OpenClaim.holds_of_wide 6 Try.f6 rfl rfl rfl rfl rfl rfl rfl ⟨rfl, rfl, rfl, rfl, rfl⟩ rfl rfl rfl rfl rfl (by kernel_rfl) Try.func6 (by kernel_rfl)
    (of_decide_eq_true (by kernel_rfl)) (by unfold Func.isWrapper; first | (rw [if_pos (by decide +kernel)]; kernel_rfl) | (rw [if_neg (by decide +kernel)]; exact ⟨rfl, rfl⟩))
    (fun os started H enc _ => lifted os started H enc)

/-- THE STATEMENT -/
theorem proved : Rows.LearnStaysSaid := over
end Go.Proofs.Ytbcnednhfmchpaa.learnStays
