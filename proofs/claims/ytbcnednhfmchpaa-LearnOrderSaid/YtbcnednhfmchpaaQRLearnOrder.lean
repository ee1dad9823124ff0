/- PROVED: the statement LearnOrder of layer 15: for every input that can be read, the law returns true and leaves its arguments as they were. No condition. -/
import Derived.Test.YtbcnednhfmchpaaRows
import Derived.Test.YtbcnednhfmchpaaQ14
import Derived.WalkKit
import Derived.ProofKit
import Derived.OpenShut
import Derived.ShutString
import Derived.ChangeOld
import Derived.Below
import Derived.BigQuiet
import Derived.Lib.QuietBelow
import Derived.SizedLaws
import Derived.Deep.Cut
import Derived.Deep.CutBlock
import Derived.Deep.DeepCutAuto
namespace Go.Proofs.Ytbcnednhfmchpaa.learnOrder
open Go.ChangeShapes Go.WideShapes Go.ChangeAt Go.RowKit
open Go.ChangeMaps (open_string shut_string)
open Go.Sort (grow)
set_option linter.unusedVariables false
set_option maxRecDepth 8000
set_option linter.unusedSimpArgs false

theorem own : ownKnob Try.prog.godebug = none := by kernel_rfl
theorem laidOut : laidOutB Try.prog = true := by kernel_rfl

/-! ### STEP 1: THE WALK -/
set_option maxRecDepth 100000 in
set_option maxHeartbeats 4000000 in
theorem walk (a0 : Int) (a1 : Option Addr) (len1 cap1 : Nat) (z1 : List Int) (a2 : Option Addr) (len2 cap2 : Nat) (z2 : List Int) (a3 : Int) (w : World) (w0 : (Lit.int .u8 a0).wf = true) (w1 : IsRow .u8 w a1 len1 cap1 z1) (s1 : len1 ≤ 140737488355328) (w2 : IsRow .u8 w a2 len2 cap2 z2) (s2 : len2 ≤ 140737488355328) (w3 : (Lit.int .u16 a3).wf = true) :
    Calls Try.prog 4 #[.int .u8 a0, .slice a1 len1 cap1, .slice a2 len2 cap2, .int .u16 a3] w fun e w' => e = .returned (.bool true) ∧ Below w.heap.size w w' := by
  obtain ⟨hrSA, hrlSA⟩ := w1.rd
  generalize bytesOf z1 len1 = SA at hrSA hrlSA
  obtain ⟨hrNS, hrlNS⟩ := w2.rd
  generalize bytesOf z2 len2 = NS at hrNS hrlNS
  obtain ⟨N, rfl⟩ : ∃ N : Nat, a0 = (N : Int) := Int.eq_ofNat_of_zero_le (by have := w0; simp [Lit.wf, IntKind.min, IntKind.max, IntKind.signed, IntKind.bits] at this; omega)
  have hN : N < 256 := by have := w0; simp [Lit.wf, IntKind.min, IntKind.max, IntKind.signed, IntKind.bits] at this; omega
  obtain ⟨Q, rfl⟩ : ∃ Q : Nat, a3 = (Q : Int) := Int.eq_ofNat_of_zero_le (by have := w3; simp [Lit.wf, IntKind.min, IntKind.max, IntKind.signed, IntKind.bits] at this; omega)
  have hQ : Q < 65536 := by have := w3; simp [Lit.wf, IntKind.min, IntKind.max, IntKind.signed, IntKind.bits] at this; omega
  obtain ⟨r, hr⟩ : ∃ r, N % 4 = r := ⟨_, rfl⟩
  have hr4 : r < 4 := by omega
  have tn : (N : Int).tmod 4 = (r : Int) := by rw [Int.tmod_eq_emod_of_nonneg (by omega)]; omega
  have r0 : (0 : Int) ≤ (r : Int) := by omega
  have r1 : (r : Int) < 4 := by omega
  have e0 : IntKind.u8.wrap (r : Int) = (r : Int) := by rw [IntKind.wrap_u8]; omega
  have e1 : IntKind.i64.wrap (Q : Int) = (Q : Int) := by rw [IntKind.wrap_i64]; omega
  have HHQ : Hid (Cm.highF (Q : Int) 0 = true) := Lib.hid (by simp [Cm.highF]; omega)
  obtain ⟨K, hK, hK4⟩ := Ln.four_at r hr4
  have HKO := Lib.hid hK
  have CN := Lib.hid (fun w => Ln.New_yes K w (Ln.some_odd hK))
  have C0 := Lib.hid (fun w => Ln.awake15_ok w)
  have hL4 : NS.length ≤ 4611686018427387904 := by omega
  have CBT := Lib.hid (fun (W : World) (hb : Below w.heap.size w W) => Cm.Batch_F _ NS W (hrNS.later hb) hL4)
  have HYSA : Hid (0 < len1 → ∃ b o, a1 = some ⟨b, o, none⟩ ∧ ∀ w' : World, Below w.heap.size w w' → ∀ i, i < len1 → w'.cell? ⟨b, o + i, none⟩ = some (.int .u8 (Cm.bAtB SA i : Int))) := Lib.hid fun h0 => Cm.byte_at hrSA h0
  clear w0 w1 w2 w3 hrSA hrNS hrlSA hrlNS hr hr4 hQ hN hL4
  obtain ⟨B, hB⟩ : ∃ B, Cm.batchF NS = B := ⟨_, rfl⟩
  have HBD := Lib.hid hB
  have HMB : Hid (Cm.mayB B = true) := Lib.hid (by rw [← hB]; exact Cm.batchF_mayL NS)
  clear hB
  have hrow := Cm.cell_at (Cm.alloc_atB w (.cells #[.int .i64 1, .int .i64 3, .int .i64 5, .int .i64 7] 3) _ rfl) r
  rw [hK4] at hrow
  have HB0 := Lib.hid (newAlloc w (.cells #[.int .i64 1, .int .i64 3, .int .i64 5, .int .i64 7] 3))
  clear hK hK4
  go_enter Try.func4, Try.ntmps4
  go_upto_region 2 with fail
  clear hrow
  generalize w.alloc (.cells #[.int .i64 1, .int .i64 3, .int .i64 5, .int .i64 7] 3) = w0 at HB0 ⊢
  go_upto_region 3 with (go_at_call 9; refine (CN.out _).mono ?_; rintro e w1 ⟨rfl, hw⟩; obtain ⟨g, hg⟩ : ∃ g, w0.heap.size = g := ⟨_, rfl⟩; have hgz : w1.heap[g]? = some (.cells (Ln.lrnCells K 0 (List.replicate 9 Ln.zeroPC)) 63) := (by rw [hw]; exact Cm.alloc_atB _ _ _ hg); have HGZ := Lib.hid hgz; have HB1 : Hid (Below w.heap.size w w1) := Lib.hid (by rw [hw]; exact stepAlloc HB0.out _); have HS1 : Hid (w1.heap.size = g + 1) := Lib.hid (by rw [hw]; simp [hg]); have HWG : Hid (w.heap.size ≤ g) := Lib.hid (by rw [← hg]; exact HB0.out.size); rw [hg]; clear hw hgz hg)
  by_cases hl : 30 < len1
  · have d0 : decide ((30 : Int) < (len1 : Int)) = true := by simp; omega
    clear hl
    go_wp2_with (go_at_call 8; refine (C0.out _).mono ?_; rintro e w2 ⟨rfl, hb⟩; have HB2 := Lib.hid (step HB1.out hb); clear hb)
    go_ret
    exact ⟨rfl, HB2.out⟩
  have d0 : decide ((30 : Int) < (len1 : Int)) = false := by simp; omega
  go_upto_region 6 with (go_at_call 14; refine (CBT.out _ HB1.out).mono ?_; intro e w2 hmb; obtain ⟨u, rfl, -, ho, hb⟩ := hmb.out; rw [HBD.out] at ho; rw [HBD.out]; obtain ⟨ua, uc, hv⟩ := Rw.own_form ho; subst hv; have HB2 := Lib.hid (step HB1.out hb); have HG2 := Lib.hid (Cm.cells_later HGZ.out hb); have HO2 := Lib.hid ho; have HS2 := Lib.hid hb.size; clear hmb ho hb; unfold Cm.batVal; dsimp only)
  obtain ⟨bx, hbx⟩ : ∃ x, w2.heap.size = x := ⟨_, rfl⟩
  have hb3 := newAlloc w2 (.cells #[.bool B.fill, .int .i64 B.view, .int .i64 B.tv, .int .i64 B.ts, .int .i64 B.time, .slice ua B.reqs.length uc] 38)
  have HK3 := Lib.hid (Ln.BoxB.new w2 B (.slice ua B.reqs.length uc) bx hbx)
  obtain ⟨w3, hw3⟩ : ∃ x, x = w2.alloc (.cells #[.bool B.fill, .int .i64 B.view, .int .i64 B.tv, .int .i64 B.ts, .int .i64 B.time, .slice ua B.reqs.length uc] 38) := ⟨_, rfl⟩
  have hs3 : w3.heap.size = bx + 1 := by rw [hw3]; simp [hbx]
  rw [← hw3] at hb3 HK3
  rw [← hw3, hbx]
  clear hw3
  go_upto_region 7 with fail
  have hb4 := newAlloc w3 (.cells #[.bool false, .bool false, .bool false, .bool false, .bool false, .bool false, .bool false] 53)
  have HM4 : Hid ((w3.alloc (.cells #[.bool false, .bool false, .bool false, .bool false, .bool false, .bool false, .bool false] 53)).heap[bx + 1]? = some (.cells (Ln.marks []) 53)) := Lib.hid (by rw [Ln.marks_nil]; exact Cm.alloc_atB w3 _ _ hs3)
  obtain ⟨w4, hw4⟩ : ∃ x, x = w3.alloc (.cells #[.bool false, .bool false, .bool false, .bool false, .bool false, .bool false, .bool false] 53) := ⟨_, rfl⟩
  have hs4 : w4.heap.size = bx + 2 := by rw [hw4]; simp [hs3]
  rw [← hw4] at hb4 HM4 ⊢
  have HB4 := Lib.hid (step (step HB2.out hb3) hb4)
  have HK4 := Lib.hid (HK3.out.later hb4)
  have hg1 : g + 1 ≤ bx := by rw [← hbx, ← HS1.out]; exact HS2.out
  have HU : Hid (∀ k, (Value.slice ua B.reqs.length uc).ownBlock = some k → g + 1 ≤ k ∧ k < bx) := Lib.hid fun k hk => by
    have h := Rw.own_lt HO2.out k hk
    rw [HS1.out, hbx] at h
    exact ⟨by omega, h.2⟩
  have HO4 : Hid (w4.ownsRow (g + 1) 73 5 (.slice ua B.reqs.length uc) B.reqs.length (flatX Cm.cellsR B.reqs)) := Lib.hid (Rw.own_below (Rw.own_below (own_lowerX HO2.out (by rw [HS1.out]; omega)) hb3) hb4)
  have HA4 : Hid (Ln.HasD w4 g (bx + 2) (Ln.newL K)) := Lib.hid (Ln.HasD.fresh (Cm.cells_later (Cm.cells_later HG2.out hb3) hb4) _ (by omega) (by rw [hs4]; exact Nat.le_refl _))
  have HGB : Hid (g ≠ bx + 1) := Lib.hid (by omega)
  have HGX : Hid (w.heap.size ≤ bx + 1) := Lib.hid (by have := HWG.out; omega)
  have hl30 : len1 ≤ 30 := by omega
  have hK0 : (K == 0) = false := by have := HKO.out.lo; have : K ≠ 0 := by omega
                                    simpa using this
  have hK1 : K ≠ 0 := by have := HKO.out.lo; omega
  clear hw4 hb3 hb4 hs3 hs4 hbx HO2 HK3 HG2 HGZ CBT CN hl
  go_wp2
  go_loopw [13, 14, 15, 16, 17, 18] (fun mn i _ _ _ _ wr => ∃ (I : Nat) (st : Ln.LrnV) (who : List Int), I ≤ len1 ∧ i = .int .i64 (I : Int) ∧ mn = .int .i64 (who.length : Int) ∧ Hid (Ln.Ord st K (Q : Int) B who) ∧ Hid (Ln.HasD wr g (bx + 2) st) ∧ Hid (wr.heap[bx + 1]? = some (.cells (Ln.marks who) 53)) ∧ Hid (Ln.BoxB wr bx B (.slice ua B.reqs.length uc)) ∧ Hid (wr.ownsRow (g + 1) 73 5 (.slice ua B.reqs.length uc) B.reqs.length (flatX Cm.cellsR B.reqs)) ∧ Hid (Below w.heap.size w wr)) (fun _ i _ _ _ _ _ => len1 - (intOf i).toNat)
  case atStart => exact ⟨0, Ln.newL K, [], by omega, rfl, rfl, Lib.hid (Ln.Ord.new K _ B HKO.out), HA4, HM4, HK4, HO4, HB4⟩
  case round =>
    obtain ⟨I, st, who, hI, rfl, rfl, HOR, HAR, HMR, HKR, HOW, HBR⟩ := hrel
    by_cases hlt : I < len1
    · obtain ⟨b, o, rfl, hby⟩ := HYSA.out (by omega)
      have c0 := hby wr HBR.out I hlt
      have hx := Cm.bAtB_lt SA I
      clear hby
      generalize Cm.bAtB SA I = x at c0 hx
      have hKl := HKO.out.lo
      have hKh := HKO.out.hi
      obtain ⟨p, hp⟩ : ∃ p : Nat, (x : Int) % K = (p : Int) := ⟨((x : Int) % K).toNat, (Int.toNat_of_nonneg (Int.emod_nonneg _ hK1)).symm⟩
      have hpK : (p : Int) < K := by rw [← hp]; exact Int.emod_lt_of_pos _ (by omega)
      have hp7 : p < 7 := by omega
      have t1 : (x : Int).tmod K = (p : Int) := by rw [Int.tmod_eq_emod_of_nonneg (by omega)]; exact hp
      have t3 : IntKind.i64.wrap (x : Int) = (x : Int) := by rw [IntKind.wrap_i64]; omega
      have t4 : IntKind.i64.wrap (p : Int) = (p : Int) := by rw [IntKind.wrap_i64]; omega
      have i0 : (0 : Int) ≤ (I : Int) := by omega
      have i1 : (I : Int) < (len1 : Int) := by omega
      have hwl : who.length ≤ 7 := by have := HOR.out.len HKO.out; omega
      have hw0 : IntKind.i64.wrap (2 * (who.length : Int)) = 2 * (who.length : Int) := by rw [IntKind.wrap_i64]; omega
      have q0 : (0 : Int) ≤ (p : Int) := by omega
      have q7 : (p : Int) < 7 := by omega
      have k0 := HKR.out.c0
      have k1 := HKR.out.c1
      have k2 := HKR.out.c2
      have k3 := HKR.out.c3
      have k4 := HKR.out.c4
      have k5 := HKR.out.c5
      have CA := Lib.hid (Ln.Hear_any g (bx + 2) st (p : Int) (Q : Int) 1 B (.slice ua B.reqs.length uc) wr HAR.out HOR.out.good (RdX.own Cm.cellsR_length HOW.out))
      by_cases hc : K < 2 * (who.length : Int)
      · have dc : decide (K < 2 * (who.length : Int)) = true := decide_eq_true hc
        rw [HOR.out.over HKO.out (by omega) hpK HHQ.out HMB.out hc] at CA
        unfold Cm.batVal at CA
        clear hc hp hx hKl hKh hpK
        go_upto_region 13 with (go_at_call 13; refine (CA.out).mono ?_; rintro e w5 ⟨rfl, ha, hg⟩; have HA5 := Lib.hid ha; have HB5 := Lib.hid (Ln.step_grL HBR.out hg HWG.out HBR.out.size); have HM5 := Lib.hid (Ln.at_gr HMR.out hg (by omega)); have HK5 := Lib.hid (HKR.out.gr hg (by omega)); have HO5 := Lib.hid (Ln.own_gr HOW.out HU.out hg (.inl (by omega))); clear ha hg; dsimp only)
        go_wp2
        go_roundw
        case rel => exact ⟨I + 1, st, who, by omega, by go_num, rfl, HOR, HA5, HM5, HK5, HO5, HB5⟩
        case measure => simp [intOf]; omega
      · have dc : decide (K < 2 * (who.length : Int)) = false := decide_eq_false hc
        have hst := HOR.out.step HKO.out (by omega) hpK HHQ.out HMB.out hc
        have hcd : (Ln.hearF st (p : Int) (Q : Int) 1 B) = ((Ln.hearF st (p : Int) (Q : Int) 1 B).1, 0) := by rw [← hst.1]
        rw [hcd] at CA
        have HN := Lib.hid hst.2
        clear hcd hst
        generalize (Ln.hearF st (p : Int) (Q : Int) 1 B).1 = st' at CA HN
        unfold Cm.batVal at CA
        clear hp hx hpK
        go_upto_region 16 with (go_at_call 13; refine (CA.out).mono ?_; rintro e w5 ⟨rfl, ha, hg⟩; have HA5 := Lib.hid ha; have HB5 := Lib.hid (Ln.step_grL HBR.out hg HWG.out HBR.out.size); have HM5 := Lib.hid (Ln.at_gr HMR.out hg (by omega)); have HK5 := Lib.hid (HKR.out.gr hg (by omega)); have HO5 := Lib.hid (Ln.own_gr HOW.out HU.out hg (.inl (by omega))); clear ha hg; dsimp only)
        clear k0 k1 k2 k3 k4 k5 c0
        by_cases hmem : (p : Int) ∈ who
        · have hin : Ln.addW (p : Int) who = who := Ln.addW_in _ _ HOR.out.rise.rise hmem
          rw [hin] at HN
          have d8 : Ln.inW who p = true := decide_eq_true hmem
          have c8 := Cm.cell_at HM5.out p
          rw [Ln.marks_get who p hp7, d8] at c8
          have hch := HN.out.chosen HKO.out
          rw [if_neg hc] at hch
          have CC := Lib.hid (fun (w' : World) h => Ln.Chosen_any g (bx + 2) st' 1 w' h HN.out.good (by decide))
          rw [hch] at CC
          clear hin hmem hch d8
          go_upto_region 20 with (go_at_call 16; refine (CC.out _ HA5.out).mono ?_; rintro e w6 ⟨u6, rfl, hr, hb⟩; obtain ⟨u6a, u6c, hv⟩ := hr.form; subst hv; have HA6 := Lib.hid (HA5.out.later hb); have HB6 := Lib.hid (step HB5.out hb); have HRu6 := Lib.hid hr; have HM6 := Lib.hid (Cm.cells_later HM5.out hb); have HK6 := Lib.hid (HK5.out.later hb); have HO6 := Lib.hid (Rw.own_below HO5.out hb); clear hr hb; unfold Cm.batVal; dsimp only)
          obtain ⟨w7, hw7⟩ : ∃ x, x = w6.alloc (.cells #[.bool Cm.zeroB.fill, .int .i64 Cm.zeroB.view, .int .i64 Cm.zeroB.tv, .int .i64 Cm.zeroB.ts, .int .i64 Cm.zeroB.time, .slice u6a Cm.zeroB.reqs.length u6c] 38) := ⟨_, rfl⟩
          have hb := newAlloc w6 (.cells #[.bool Cm.zeroB.fill, .int .i64 Cm.zeroB.view, .int .i64 Cm.zeroB.tv, .int .i64 Cm.zeroB.ts, .int .i64 Cm.zeroB.time, .slice u6a Cm.zeroB.reqs.length u6c] 38)
          obtain ⟨xz, hxz⟩ : ∃ x, w6.heap.size = x := ⟨_, rfl⟩
          have HZ7 := Lib.hid (Ln.BoxB.new w6 Cm.zeroB (.slice u6a Cm.zeroB.reqs.length u6c) xz hxz)
          rw [← hw7] at hb HZ7 ⊢
          rw [hxz]
          have HA7 := Lib.hid (HA6.out.later hb)
          have HB7 := Lib.hid (step HB6.out hb)
          have HM7 := Lib.hid (Cm.cells_later HM6.out hb)
          have HK7 := Lib.hid (HK6.out.later hb)
          have HO7 := Lib.hid (Rw.own_below HO6.out hb)
          have HR7 := Lib.hid (HRu6.out.later hb)
          clear hw7 hb hxz
          go_wp2
          go_roundw
          case rel => exact ⟨I + 1, st', who, by omega, by go_num, rfl, HN, HA7, HM7, HK7, HO7, HB7⟩
          case measure => simp [intOf]; omega
        · have hlen : (Ln.addW (p : Int) who).length = who.length + 1 := Ln.addW_out _ _ hmem
          have d8 : Ln.inW who p = false := decide_eq_false hmem
          have c8 := Cm.cell_at HM5.out p
          rw [Ln.marks_get who p hp7, d8] at c8
          have cf := Cm.frozen_at HM5.out
          have hg6 := Ln.grown_setL w5 (bx + 1) p (.bool true)
          have HM6 : Hid ((w5.setCell ⟨bx + 1, p, none⟩ (.bool true)).heap[bx + 1]? = some (.cells (Ln.marks (Ln.addW (p : Int) who)) 53)) := Lib.hid (by rw [Cm.set_atB HM5.out, Ln.marks_put who p hp7])
          have HA6 := Lib.hid (HA5.out.other hg6 (by omega) HGB.out)
          have HK6 := Lib.hid (HK5.out.gr hg6 (by omega))
          have HO6 := Lib.hid (Ln.own_gr HO5.out HU.out hg6 (.inr (by omega)))
          have HB6 := Lib.hid (HB5.out.grown hg6 HB5.out.size (fun k hk => by cases hk; exact HGX.out))
          have hw1 : IntKind.i64.wrap ((who.length : Int) + 1) = (who.length : Int) + 1 := by rw [IntKind.wrap_i64]; omega
          have hw2 : IntKind.i64.wrap (2 * ((who.length : Int) + 1)) = 2 * ((who.length : Int) + 1) := by rw [IntKind.wrap_i64]; omega
          have hch := HN.out.chosen HKO.out
          rw [hlen] at hch
          have HLN := Lib.hid hlen
          clear hmem hg6 d8 hlen
          go_upto_region 19 with fail
          clear c8 cf
          generalize w5.setCell ⟨bx + 1, p, none⟩ (.bool true) = w6 at HM6 HA6 HK6 HO6 HB6 ⊢
          by_cases hc2 : K < 2 * ((who.length + 1 : Nat) : Int)
          · have dk : decide (K < 2 * ((who.length : Int) + 1)) = true := decide_eq_true (by omega)
            rw [if_pos hc2] at hch
            have CC := Lib.hid (fun (w' : World) h => Ln.Chosen_any g (bx + 2) st' 1 w' h HN.out.good (by decide))
            rw [hch] at CC
            clear hch hc2
            go_upto_region 20 with (go_at_call 16; refine (CC.out _ HA6.out).mono ?_; rintro e w7 ⟨u7, rfl, hr, hb⟩; obtain ⟨u7a, u7c, hv⟩ := hr.form; subst hv; have HA7 := Lib.hid (HA6.out.later hb); have HB7 := Lib.hid (step HB6.out hb); have HRu7 := Lib.hid hr; have HM7 := Lib.hid (Cm.cells_later HM6.out hb); have HK7 := Lib.hid (HK6.out.later hb); have HO7 := Lib.hid (Rw.own_below HO6.out hb); clear hr hb; unfold Cm.batVal; dsimp only)
            obtain ⟨w8, hw8⟩ : ∃ x, x = w7.alloc (.cells #[.bool B.fill, .int .i64 B.view, .int .i64 B.tv, .int .i64 B.ts, .int .i64 B.time, .slice u7a B.reqs.length u7c] 38) := ⟨_, rfl⟩
            have hb := newAlloc w7 (.cells #[.bool B.fill, .int .i64 B.view, .int .i64 B.tv, .int .i64 B.ts, .int .i64 B.time, .slice u7a B.reqs.length u7c] 38)
            obtain ⟨xz, hxz⟩ : ∃ x, w7.heap.size = x := ⟨_, rfl⟩
            have HZ8 := Lib.hid (Ln.BoxB.new w7 B (.slice u7a B.reqs.length u7c) xz hxz)
            rw [← hw8] at hb HZ8 ⊢
            rw [hxz]
            have HA8 := Lib.hid (HA7.out.later hb)
            have HB8 := Lib.hid (step HB7.out hb)
            have HM8 := Lib.hid (Cm.cells_later HM7.out hb)
            have HK8 := Lib.hid (HK7.out.later hb)
            have HO8 := Lib.hid (Rw.own_below HO7.out hb)
            have HR8 := Lib.hid (HRu7.out.later hb)
            clear hw8 hb hxz
            have CS := Lib.hid (Cm.RefSameB_any B B (.slice u7a B.reqs.length u7c) (.slice ua B.reqs.length uc) w8 HR8.out (RdX.own Cm.cellsR_length HO8.out))
            rw [Cm.sameB_refl] at CS
            unfold Cm.batVal at CS
            have z0 := HZ8.out.c0
            have z1 := HZ8.out.c1
            have z2 := HZ8.out.c2
            have z3 := HZ8.out.c3
            have z4 := HZ8.out.c4
            have z5 := HZ8.out.c5
            have k0 := HK8.out.c0
            have k1 := HK8.out.c1
            have k2 := HK8.out.c2
            have k3 := HK8.out.c3
            have k4 := HK8.out.c4
            have k5 := HK8.out.c5
            go_wp2_with (go_at_call 20; refine CS.out.mono ?_; rintro e w9 ⟨rfl, hb⟩; have HA9 := Lib.hid (HA8.out.later hb); have HB9 := Lib.hid (step HB8.out hb); have HM9 := Lib.hid (Cm.cells_later HM8.out hb); have HK9 := Lib.hid (HK8.out.later hb); have HO9 := Lib.hid (Rw.own_below HO8.out hb); clear hb)
            go_roundw
            case rel => exact ⟨I + 1, st', Ln.addW (p : Int) who, by omega, by go_num, by rw [HLN.out]; go_num, HN, HA9, HM9, HK9, HO9, HB9⟩
            case measure => simp [intOf]; omega
          · have dk : decide (K < 2 * ((who.length : Int) + 1)) = false := decide_eq_false (by omega)
            rw [if_neg hc2] at hch
            have CC := Lib.hid (fun (w' : World) h => Ln.Chosen_any g (bx + 2) st' 1 w' h HN.out.good (by decide))
            rw [hch] at CC
            clear hch hc2
            go_upto_region 20 with (go_at_call 16; refine (CC.out _ HA6.out).mono ?_; rintro e w7 ⟨u7, rfl, hr, hb⟩; obtain ⟨u7a, u7c, hv⟩ := hr.form; subst hv; have HA7 := Lib.hid (HA6.out.later hb); have HB7 := Lib.hid (step HB6.out hb); have HRu7 := Lib.hid hr; have HM7 := Lib.hid (Cm.cells_later HM6.out hb); have HK7 := Lib.hid (HK6.out.later hb); have HO7 := Lib.hid (Rw.own_below HO6.out hb); clear hr hb; unfold Cm.batVal; dsimp only)
            obtain ⟨w8, hw8⟩ : ∃ x, x = w7.alloc (.cells #[.bool Cm.zeroB.fill, .int .i64 Cm.zeroB.view, .int .i64 Cm.zeroB.tv, .int .i64 Cm.zeroB.ts, .int .i64 Cm.zeroB.time, .slice u7a Cm.zeroB.reqs.length u7c] 38) := ⟨_, rfl⟩
            have hb := newAlloc w7 (.cells #[.bool Cm.zeroB.fill, .int .i64 Cm.zeroB.view, .int .i64 Cm.zeroB.tv, .int .i64 Cm.zeroB.ts, .int .i64 Cm.zeroB.time, .slice u7a Cm.zeroB.reqs.length u7c] 38)
            obtain ⟨xz, hxz⟩ : ∃ x, w7.heap.size = x := ⟨_, rfl⟩
            have HZ8 := Lib.hid (Ln.BoxB.new w7 Cm.zeroB (.slice u7a Cm.zeroB.reqs.length u7c) xz hxz)
            rw [← hw8] at hb HZ8 ⊢
            rw [hxz]
            have HA8 := Lib.hid (HA7.out.later hb)
            have HB8 := Lib.hid (step HB7.out hb)
            have HM8 := Lib.hid (Cm.cells_later HM7.out hb)
            have HK8 := Lib.hid (HK7.out.later hb)
            have HO8 := Lib.hid (Rw.own_below HO7.out hb)
            have HR8 := Lib.hid (HRu7.out.later hb)
            clear hw8 hb hxz
            go_wp2
            go_roundw
            case rel => exact ⟨I + 1, st', Ln.addW (p : Int) who, by omega, by go_num, by rw [HLN.out]; go_num, HN, HA8, HM8, HK8, HO8, HB8⟩
            case measure => simp [intOf]; omega
    · obtain rfl : I = len1 := by omega
      go_wp2_with (go_at_call 8; refine (C0.out _).mono ?_; rintro e w5 ⟨rfl, hb⟩; have HB5 := Lib.hid (step HBR.out hb); clear hb)
      go_ret
      exact ⟨rfl, HB5.out⟩

/-! ### THE ROW's STEP -/
set_option maxRecDepth 100000 in
theorem lifted (os : Os) (started : os.Started) (H : Type) (enc : TypeId × Value → H) :
    ReturnsInHanded {} Try.checked os 4 .any (Rows.learnOrderSpec.pre6 enc Try.prog Try.f4 Rows.learnOrderRow.domain false) (Rows.learnOrderSpec.post enc Try.prog Try.f4 false true false false) := by
  refine returnsInHanded_of_change_sized (C := Try.checked) own started (by kernel_rfl) Try.func4
    (ChangeSpec.witness6 (enc := enc) (C := Try.checked) false ⟨#[], #[.int .u8 0, .slice none 0 0, .slice none 0 0, .int .u16 0], []⟩ 8 (by kernel_rfl) (by kernel_rfl) (by kernel_rfl) (by kernel_rfl)) ?_
  intro W base args ds gs before hval0 hW hcnd hsz _
  have hval : ∀ (j : Nat) t v, Try.f4.params[j]? = some t → args[j]? = some v → Value.okWide Try.prog W .any base t v := hval0
  have hW' := hW
  obtain ⟨p, q, hA0, hV, rfl, hfz, hnd⟩ := hW
  have hA : DataW.TrodAll enc Try.prog W 0 (fun _ => true) true Try.f4.params.toList args.toList ds p := hA0
  rw [Try.params4] at hA hval hsz
  obtain ⟨v0, vs0, d0, ds0, p0, q0, hargs, rfl, rfl, h0, r0⟩ := trodAll_cons hA
  obtain ⟨v1, vs1, d1, ds1, p1, q1, rfl, rfl, rfl, h1, r1⟩ := trodAll_cons r0
  obtain ⟨v2, vs2, d2, ds2, p2, q2, rfl, rfl, rfl, h2, r2⟩ := trodAll_cons r1
  obtain ⟨v3, vs3, d3, ds3, p3, q3, rfl, rfl, rfl, h3, r3⟩ := trodAll_cons r2
  obtain ⟨rfl, rfl, rfl⟩ := trodAll_nil r3
  obtain rfl : args = #[v0, v1, v2, v3] := by cases args; simp_all
  obtain ⟨rfl, rfl⟩ := trodVars_none hV
  obtain ⟨a0, rfl, rfl, rfl, w0⟩ := open_int Try.underlying5 (hval 0 5 v0 rfl rfl) h0
  obtain ⟨a1, len1, cap1, rfl⟩ := okWide_slice Try.underlying28 (hval 1 28 v1 rfl rfl)
  have k1 := h1
  have lt1 : ∀ x ∈ p1, x.block < W.heap.size := by obtain ⟨m, hm⟩ := k1; exact DataW.trod_lt m _ _ _ hm
  obtain ⟨z1, w1, s1⟩ : ∃ zs, IsRow .u8 W a1 len1 cap1 zs ∧ len1 ≤ 140737488355328 := by
    obtain ⟨fuel, hf⟩ := h1
    rcases open_ints Try.underlying28 Try.underlying5 (by kernel_rfl) hf with ⟨hcs, _⟩ | ⟨x, l, c, zs, hcs, _, hl, hm, hz, hdd, hcell, hwz⟩
    · simp [Value.cells] at hcs
      obtain ⟨rfl, rfl, rfl⟩ := hcs
      exact ⟨[], .inl ⟨rfl, rfl, rfl, rfl⟩, by omega⟩
    · simp [Value.cells] at hcs
      obtain ⟨rfl, rfl, rfl⟩ := hcs
      have hd' := congrArg Prod.fst hdd
      have hs := sized_slice (j := 1) hsz rfl (show (_ : List (DataW H))[1]? = some (.slice (lits .u8 (zs.take len1)) (lits .u8 (zs.drop len1))) from congrArg some hd') Try.underlying28
      have hb : Try.checked.prog.bytesOf 5 = 1 := by kernel_rfl
      rw [hb] at hs
      have hr := reachBytes_lt
      simp [lits] at hs
      exact ⟨zs, .inr ⟨_, rfl, hl, hm, by simpa using hz, hcell, hwz⟩, by simp at hz; omega⟩
  obtain ⟨a2, len2, cap2, rfl⟩ := okWide_slice Try.underlying28 (hval 2 28 v2 rfl rfl)
  have k2 := h2
  have lt2 : ∀ x ∈ p2, x.block < W.heap.size := by obtain ⟨m, hm⟩ := k2; exact DataW.trod_lt m _ _ _ hm
  obtain ⟨z2, w2, s2⟩ : ∃ zs, IsRow .u8 W a2 len2 cap2 zs ∧ len2 ≤ 140737488355328 := by
    obtain ⟨fuel, hf⟩ := h2
    rcases open_ints Try.underlying28 Try.underlying5 (by kernel_rfl) hf with ⟨hcs, _⟩ | ⟨x, l, c, zs, hcs, _, hl, hm, hz, hdd, hcell, hwz⟩
    · simp [Value.cells] at hcs
      obtain ⟨rfl, rfl, rfl⟩ := hcs
      exact ⟨[], .inl ⟨rfl, rfl, rfl, rfl⟩, by omega⟩
    · simp [Value.cells] at hcs
      obtain ⟨rfl, rfl, rfl⟩ := hcs
      have hd' := congrArg Prod.fst hdd
      have hs := sized_slice (j := 2) hsz rfl (show (_ : List (DataW H))[2]? = some (.slice (lits .u8 (zs.take len2)) (lits .u8 (zs.drop len2))) from congrArg some hd') Try.underlying28
      have hb : Try.checked.prog.bytesOf 5 = 1 := by kernel_rfl
      rw [hb] at hs
      have hr := reachBytes_lt
      simp [lits] at hs
      exact ⟨zs, .inr ⟨_, rfl, hl, hm, by simpa using hz, hcell, hwz⟩, by simp at hz; omega⟩
  obtain ⟨a3, rfl, rfl, rfl, w3⟩ := open_int Try.underlying52 (hval 3 52 v3 rfl rfl) h3
  clear hA0 hval0
  refine (walk a0 a1 len1 cap1 z1 a2 len2 cap2 z2 a3 W w0 w1 s1 w2 s2 w3).mono fun e W' ⟨he, bel⟩ => ?_
  subst he
  exact ⟨_, rfl, _, _, _, [], _, [], hW', trodAll_mk1 (shut_bool Try.underlying4 _), (trodAll_cons_mk (shut_int Try.underlying5 w0) (trodAll_cons_mk (Below.trod laidOut (by kernel_rfl) (of_decide_eq_true (by kernel_rfl)) k1 bel lt1) (trodAll_cons_mk (Below.trod laidOut (by kernel_rfl) (of_decide_eq_true (by kernel_rfl)) k2 bel lt2) (trodAll_cons_mk (shut_int Try.underlying52 w3) trodAll_mk0)))), rfl, bel.frame _, fun h => by cases h⟩

theorem over : Rows.learnOrderRow.holds Try.pinned (OpenSpec.ofChange Rows.learnOrderSpec) :=
  OpenClaim.holds_of_wide 4 Try.f4 rfl rfl rfl rfl rfl rfl rfl ⟨rfl, rfl, rfl, rfl, rfl⟩ rfl rfl rfl rfl rfl (by kernel_rfl) Try.func4 (by kernel_rfl)
    (of_decide_eq_true (by kernel_rfl)) (by unfold Func.isWrapper; first | (rw [if_pos (by decide +kernel)]; kernel_rfl) | (rw [if_neg (by decide +kernel)]; exact ⟨rfl, rfl⟩))
    (fun os started H enc _ => lifted os started H enc)

/-- THE STATEMENT -/
theorem proved : Rows.LearnOrderSaid := over
end Go.Proofs.Ytbcnednhfmchpaa.learnOrder
