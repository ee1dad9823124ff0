/- PROVED: the statement BatchRefuses of layer 12: for every input that can be read, the law returns true and leaves its arguments as they were. No condition. -/
import Derived.Test.YtlaomehfhooiaaaRows
import Derived.Test.YtlaomehfhooiaaaQ18
import Derived.WalkKit
import Derived.ProofKit
import Derived.OpenShut
import Derived.ShutString
import Derived.ChangeOld
import Derived.Below
import Derived.SizedLaws
import Derived.Deep.Cut
import Derived.Deep.CutBlock
import Derived.Deep.DeepCutAuto
namespace Go.Proofs.Ytlaomehfhooiaaa.batchRefuses
open Go.ChangeShapes Go.WideShapes Go.ChangeAt Go.RowKit
open Go.ChangeMaps (open_string shut_string)
open Go.Sort (grow)
set_option linter.unusedVariables false
set_option maxRecDepth 8000
set_option linter.unusedSimpArgs false

theorem own : ownKnob Try.prog.godebug = none := by kernel_rfl
theorem laidOut : laidOutB Try.prog = true := by kernel_rfl

/-! ### STEP 1: THE WALK -/
set_option maxRecDepth 100000 in
set_option maxHeartbeats 4000000 in
theorem walk (a0 : Option Addr) (len0 cap0 : Nat) (z0 : List Int) (a1 : Int) (a2 : Int) (w : World) (w0 : IsRow .u8 w a0 len0 cap0 z0) (s0 : len0 ≤ 140737488355328) (w1 : (Lit.int .u8 a1).wf = true) (w2 : (Lit.int .u8 a2).wf = true) :
    Calls Try.prog 5 #[.slice a0 len0 cap0, .int .u8 a1, .int .u8 a2] w fun e w' => e = .returned (.bool true) ∧ Below w.heap.size w w' := by
  obtain ⟨hr, hrl⟩ := w0.rd
  generalize bytesOf z0 len0 = NS at hr hrl
  obtain ⟨h, rfl⟩ : ∃ h : Nat, a1 = (h : Int) := Int.eq_ofNat_of_zero_le (by have := w1; simp [Lit.wf, IntKind.min, IntKind.max, IntKind.signed, IntKind.bits] at this; omega)
  have hh : h < 256 := by have := w1; simp [Lit.wf, IntKind.min, IntKind.max, IntKind.signed, IntKind.bits] at this; omega
  obtain ⟨n, rfl⟩ : ∃ n : Nat, a2 = (n : Int) := Int.eq_ofNat_of_zero_le (by have := w2; simp [Lit.wf, IntKind.min, IntKind.max, IntKind.signed, IntKind.bits] at this; omega)
  have hn : n < 256 := by have := w2; simp [Lit.wf, IntKind.min, IntKind.max, IntKind.signed, IntKind.bits] at this; omega
  have C0 := Lib.hid (fun w => Cm.awake12_ok w)
  have CB := Lib.hid (Cm.Batch_any _ NS w hr (by omega))
  have CQ := Lib.hid (fun W => Cm.Req_any n n n n n W hn hn hn hn hn)
  have CJ := Lib.hid (fun j (hj : j < 256) W => Cm.Req_any j n n n n W hj hn hn hn hn)
  generalize hR : Cm.reqOf n n n n n = R at CQ
  clear hR w0 w1 w2 hr hrl
  obtain ⟨rc, rq, rk, rs, rn⟩ := R
  unfold Cm.reqVal at CQ
  dsimp only at CQ
  obtain ⟨m, hm⟩ : ∃ m, h % 6 = m := ⟨_, rfl⟩
  have hm6 : m < 6 := by omega
  have hM : (h : Int) % 6 = (m : Int) := by omega
  have hM2 : (h : Int).tmod 6 = (m : Int) := by rw [Int.tmod_eq_emod_of_nonneg (by omega)]; exact hM
  clear hm
  go_enter Try.func5, Try.ntmps5
  go_wp2_with fail
  refine CB.out.mono ?_
  rintro e w1 ⟨b, v, rfl, hmb, ho, hb⟩
  obtain ⟨ba, bc, rfl⟩ := Rw.own_form ho
  obtain ⟨fb, vb, tb, sb, mb, lb⟩ := b
  unfold Cm.batVal
  dsimp only at hmb ho ⊢
  have HB1 := Lib.hid hb
  have HO1 := Lib.hid ho
  clear hb ho hmb CB
  obtain ⟨LB, hLB⟩ : ∃ LB, lb.length = LB := ⟨_, rfl⟩
  have HLB := Lib.hid hLB
  rw [hLB] at HO1 ⊢
  clear hLB
  go_upto_region 2 with fail
  have HA0 : Hid (Cm.HeapAt (w1.alloc (.cells #[.bool fb, .int .i64 vb, .int .i64 tb, .int .i64 sb, .int .i64 mb, .slice ba LB bc] 26)) w1.heap.size (.cells #[.bool fb, .int .i64 vb, .int .i64 tb, .int .i64 sb, .int .i64 mb, .slice ba LB bc] 26)) := Lib.hid (Cm.alloc_atB _ _ _ rfl)
  have HO2 := Lib.hid (Rw.own_below HO1.out (newAlloc _ (.cells #[.bool fb, .int .i64 vb, .int .i64 tb, .int .i64 sb, .int .i64 mb, .slice ba LB bc] 26)))
  have HBN := Lib.hid (stepAlloc HB1.out (.cells #[.bool fb, .int .i64 vb, .int .i64 tb, .int .i64 sb, .int .i64 mb, .slice ba LB bc] 26))
  have HNE : Hid ((Value.slice ba LB bc).ownBlock ≠ some w1.heap.size) := Lib.hid (Rw.own_ne HO1.out (Nat.le_refl _))
  have HWA : Hid (w.heap.size ≤ w1.heap.size) := Lib.hid HB1.out.size
  generalize hW : w1.alloc _ = W at HA0 HO2 HBN ⊢
  generalize w1.heap.size = A at HA0 HNE HWA ⊢
  clear hW HB1 HO1
  have hA := HA0.out
  have k0 := Cm.cell_at hA 0
  have kf := Cm.frozen_at hA
  simp only [List.getElem?_toArray, List.getElem?_cons_zero, List.getElem?_cons_succ] at k0
  clear hA
  go_upto_region 3 with fail
  have HA1 : Hid (Cm.HeapAt (W.setCell ⟨A, 0, none⟩ (.bool false)) A (.cells #[.bool false, .int .i64 vb, .int .i64 tb, .int .i64 sb, .int .i64 mb, .slice ba LB bc] 26)) := Lib.hid (HA0.out.set (i := 0) (.bool false))
  have HO3 := Lib.hid (Cm.own_set (i := 0) HO2.out HNE.out (.bool false))
  have HBN := Lib.hid (HBN.out.setCell (p := ⟨A, 0, none⟩) HWA.out (.bool false))
  generalize W.setCell ⟨A, 0, none⟩ (.bool false) = W at HA1 HO3 HBN ⊢
  clear HA0 HO2 k0 kf
  go_wp2_with fail
  refine (CQ.out _).mono ?_
  rintro e w4 ⟨rfl, hb⟩
  go_upto_region 4 with fail
  have hs := stepAlloc hb (.cells #[.int .i64 rc, .int .i64 rq, .int .i64 rk, .int .i64 rs, .string (bstr rn)] 44)
  have HA2 := Lib.hid (HA1.out.later hs)
  have HO4 := Lib.hid (Rw.own_below HO3.out hs)
  have HBN := Lib.hid (step HBN.out hs)
  have HR2 : Hid (Cm.HeapAt (w4.alloc (.cells #[.int .i64 rc, .int .i64 rq, .int .i64 rk, .int .i64 rs, .string (bstr rn)] 44)) w4.heap.size (.cells #[.int .i64 rc, .int .i64 rq, .int .i64 rk, .int .i64 rs, .string (bstr rn)] 44)) := Lib.hid (Cm.alloc_atB _ _ _ rfl)
  have hAB : A < w4.heap.size := Nat.lt_of_lt_of_le HA1.out.lt hb.size
  have hNB : (Value.slice ba LB bc).ownBlock ≠ some w4.heap.size := Rw.own_ne (Rw.own_below HO3.out hb) (Nat.le_refl _)
  generalize hW4 : w4.alloc _ = W4 at HA2 HO4 HBN HR2 ⊢
  generalize w4.heap.size = B at HR2 hAB hNB ⊢
  clear hW4 hb hs HA1 HO3 CQ
  have HAB := Lib.hid hAB
  have HNB := Lib.hid hNB
  clear hAB hNB
  match m, hm6 with
  | 0, _ =>
    have hA := HA2.out
    have k0 := Cm.cell_at hA 0
    have k1 := Cm.cell_at hA 1
    have k2 := Cm.cell_at hA 2
    have k3 := Cm.cell_at hA 3
    have k4 := Cm.cell_at hA 4
    have k5 := Cm.cell_at hA 5
    have kf := Cm.frozen_at hA
    have hB := HR2.out
    have r0 := Cm.cell_at hB 0
    have r1 := Cm.cell_at hB 1
    have r2 := Cm.cell_at hB 2
    have r3 := Cm.cell_at hB 3
    have r4 := Cm.cell_at hB 4
    have rf := Cm.frozen_at hB
    simp only [List.getElem?_toArray, List.getElem?_cons_zero, List.getElem?_cons_succ] at k0 k1 k2 k3 k4 k5 r0 r1 r2 r3 r4
    clear hA hB
    have hA := HA2.out.later (newAlloc W4 (.cells #[.int .i64 rc, .int .i64 rq, .int .i64 rk, .int .i64 rs, .string (bstr rn), .int .i64 rc, .int .i64 rq, .int .i64 rk, .int .i64 rs, .string (bstr rn)] 44))
    have k5' := Cm.cell_at hA 5
    have kf' := Cm.frozen_at hA
    simp only [List.getElem?_toArray, List.getElem?_cons_zero, List.getElem?_cons_succ] at k5'
    clear hA
    go_upto_region 22 with fail
    clear k5' kf'
    have HA9 : Hid (Cm.HeapAt ((W4.alloc (.cells #[.int .i64 rc, .int .i64 rq, .int .i64 rk, .int .i64 rs, .string (bstr rn), .int .i64 rc, .int .i64 rq, .int .i64 rk, .int .i64 rs, .string (bstr rn)] 44)).setCell ⟨A, 5, none⟩ (.slice (some ⟨W4.heap.size, 0, none⟩) 2 2)) A (.cells #[.bool false, .int .i64 vb, .int .i64 tb, .int .i64 sb, .int .i64 mb, .slice (some ⟨W4.heap.size, 0, none⟩) 2 2] 26)) := Lib.hid ((HA2.out.later (newAlloc _ _)).set (i := 5) _)
    have HL9 : Hid (Cm.HeapAt ((W4.alloc (.cells #[.int .i64 rc, .int .i64 rq, .int .i64 rk, .int .i64 rs, .string (bstr rn), .int .i64 rc, .int .i64 rq, .int .i64 rk, .int .i64 rs, .string (bstr rn)] 44)).setCell ⟨A, 5, none⟩ (.slice (some ⟨W4.heap.size, 0, none⟩) 2 2)) W4.heap.size (.cells #[.int .i64 rc, .int .i64 rq, .int .i64 rk, .int .i64 rs, .string (bstr rn), .int .i64 rc, .int .i64 rq, .int .i64 rk, .int .i64 rs, .string (bstr rn)] 44)) := Lib.hid (Cm.HeapAt.other (Cm.alloc_atB _ _ _ rfl) (by have := HA2.out.lt; omega) _)
    have HBN := Lib.hid ((stepAlloc HBN.out (.cells #[.int .i64 rc, .int .i64 rq, .int .i64 rk, .int .i64 rs, .string (bstr rn), .int .i64 rc, .int .i64 rq, .int .i64 rk, .int .i64 rs, .string (bstr rn)] 44)).setCell (p := ⟨A, 5, none⟩) HWA.out (.slice (some ⟨W4.heap.size, 0, none⟩) 2 2))
    generalize (W4.alloc (.cells #[.int .i64 rc, .int .i64 rq, .int .i64 rk, .int .i64 rs, .string (bstr rn), .int .i64 rc, .int .i64 rq, .int .i64 rk, .int .i64 rs, .string (bstr rn)] 44)).setCell ⟨A, 5, none⟩ (.slice (some ⟨W4.heap.size, 0, none⟩) 2 2) = W9 at HA9 HL9 HBN ⊢
    generalize W4.heap.size = g at HA9 HL9 ⊢
    have HRD : Hid (Cm.RdR W9 (.slice (some ⟨g, 0, none⟩) 2 2) [⟨rc, rq, ⟨rk, rs, rn⟩⟩, ⟨rc, rq, ⟨rk, rs, rn⟩⟩]) := Lib.hid (Cm.rdr_block (l := [⟨rc, rq, ⟨rk, rs, rn⟩⟩, ⟨rc, rq, ⟨rk, rs, rn⟩⟩]) HL9.out rfl (by unfold maxLen; simp))
    clear k0 k1 k2 k3 k4 k5 kf r0 r1 r2 r3 r4 rf
    have hA := HA9.out
    have k0 := Cm.cell_at hA 0
    have k1 := Cm.cell_at hA 1
    have k2 := Cm.cell_at hA 2
    have k3 := Cm.cell_at hA 3
    have k4 := Cm.cell_at hA 4
    have k5 := Cm.cell_at hA 5
    simp only [List.getElem?_toArray, List.getElem?_cons_zero, List.getElem?_cons_succ] at k0 k1 k2 k3 k4 k5
    clear hA
    have HME := Lib.hid (Cm.not_two false vb tb sb mb ⟨rc, rq, ⟨rk, rs, rn⟩⟩)
    have CP : Hid (∀ W, Below W9.heap.size W9 W → Calls Try.prog 8 #[.agg #[.bool false, .int .i64 vb, .int .i64 tb, .int .i64 sb, .int .i64 mb, .slice (some ⟨g, 0, none⟩) 2 2]] W (fun e w' => ∃ a c, e = .returned (.tuple #[.slice a 0 c, .int .i64 1]) ∧ Below W.heap.size W w')) := Lib.hid fun W hb => Cm.PutB_none ⟨false, vb, tb, sb, mb, [⟨rc, rq, ⟨rk, rs, rn⟩⟩, ⟨rc, rq, ⟨rk, rs, rn⟩⟩]⟩ _ W (HRD.out.later hb) HME.out
    have CM : Hid (∀ W, Below W9.heap.size W9 W → Calls Try.prog 12 #[.agg #[.bool false, .int .i64 vb, .int .i64 tb, .int .i64 sb, .int .i64 mb, .slice (some ⟨g, 0, none⟩) 2 2]] W (Cm.SaysB false W)) := Lib.hid fun W hb => by have := Cm.MayB_any ⟨false, vb, tb, sb, mb, [⟨rc, rq, ⟨rk, rs, rn⟩⟩, ⟨rc, rq, ⟨rk, rs, rn⟩⟩]⟩ _ W (HRD.out.later hb); rw [HME.out] at this; exact this
    go_wp2_with (first
      | (go_at_call 8; refine (CP.out _ (Below.refl _ _)).mono ?_; rintro e w6 ⟨pa, pcap, rfl, hb6⟩; have HB6 := Lib.hid hb6; have hA := HA9.out.later hb6; have k0 := Cm.cell_at hA 0; have k1 := Cm.cell_at hA 1; have k2 := Cm.cell_at hA 2; have k3 := Cm.cell_at hA 3; have k4 := Cm.cell_at hA 4; have k5 := Cm.cell_at hA 5; simp only [List.getElem?_toArray, List.getElem?_cons_zero, List.getElem?_cons_succ] at k0 k1 k2 k3 k4 k5; clear hA)
      | (go_at_call 12; refine (CM.out _ HB6.out).mono ?_; rintro e w7 ⟨rfl, hb7⟩)
      | (go_at_call 7; refine (C0.out _).mono ?_; rintro e w8 ⟨rfl, hb8⟩))
    go_ret
    exact ⟨rfl, step HBN.out (step (step HB6.out hb7) hb8)⟩
  | 1, _ =>
    have hA := HA2.out
    have k0 := Cm.cell_at hA 0
    have k1 := Cm.cell_at hA 1
    have k2 := Cm.cell_at hA 2
    have k3 := Cm.cell_at hA 3
    have k4 := Cm.cell_at hA 4
    have k5 := Cm.cell_at hA 5
    have kf := Cm.frozen_at hA
    have hB := HR2.out
    have r0 := Cm.cell_at hB 0
    have r1 := Cm.cell_at hB 1
    have r2 := Cm.cell_at hB 2
    have r3 := Cm.cell_at hB 3
    have r4 := Cm.cell_at hB 4
    have rf := Cm.frozen_at hB
    simp only [List.getElem?_toArray, List.getElem?_cons_zero, List.getElem?_cons_succ] at k0 k1 k2 k3 k4 k5 r0 r1 r2 r3 r4
    clear hA hB
    obtain ⟨i5, hi5, h50, h51, h52⟩ := Cm.info_partsB Cm.infoReqB
    go_upto_region 10 with fail
    have HA3 : Hid (Cm.HeapAt (W4.setCell ⟨A, 5, none⟩ (.slice none 0 0)) A (.cells #[.bool false, .int .i64 vb, .int .i64 tb, .int .i64 sb, .int .i64 mb, .slice none 0 0] 26)) := Lib.hid (HA2.out.set (i := 5) _)
    have HBN := Lib.hid (HBN.out.setCell (p := ⟨A, 5, none⟩) HWA.out (.slice none 0 0))
    generalize W4.setCell ⟨A, 5, none⟩ (.slice none 0 0) = W5 at HA3 HBN ⊢
    clear k0 k1 k2 k3 k4 k5 kf r0 r1 r2 r3 r4 rf HA2 HR2 HO4
    go_wp2_with fail
    go_loopw [9] (fun i wr => ∃ (j : Nat) (G : List Cm.ReqV) (u : Value), j ≤ 4 ∧ i = .int .i64 (j : Int) ∧ G.length = j ∧ Hid (Below w.heap.size w wr) ∧ Hid (Cm.HeapAt wr A (.cells #[.bool false, .int .i64 vb, .int .i64 tb, .int .i64 sb, .int .i64 mb, u] 26)) ∧ Hid (wr.ownsRow (A + 1) 44 5 u G.length (flatX Cm.cellsR G))) (fun i _ => 4 - (intOf i).toNat)
    case atStart => exact ⟨0, [], .slice none 0 0, by omega, rfl, rfl, HBN, HA3, Lib.hid (World.ownsRow_nil _ _ _ _)⟩
    case round =>
      obtain ⟨j, G, u, hj, rfl, hGl, HB, HA, HO⟩ := hrel
      obtain ⟨ua, uc, hu⟩ := Rw.own_form HO.out
      subst hu
      by_cases hlt : j < 4
      · have hjw : IntKind.u8.wrap (j : Int) = (j : Int) := by rw [IntKind.wrap_u8]; omega
        have CK := Lib.hid (CJ.out j (by omega))
        generalize Cm.reqOf j n n n n = Q at CK
        have hone := Cm.cellsR_one Q
        obtain ⟨qc, qq, qk, qs, qn⟩ := Q
        unfold Cm.reqVal at CK
        dsimp only at CK
        subst hGl
        go_upto_region 13 with fail
        refine wp_region_held_drew (S := fun _ => True) (by kernel_rfl) trivial (fun hHeld => ?_)
        obtain ⟨V, hV⟩ : ∃ V, V = wr.drew := ⟨_, rfl⟩
        have HB : Hid (Below w.heap.size w V) := Lib.hid (by rw [hV]; exact step HB.out (Below.refl _ _).drew)
        have HO : Hid (V.ownsRow (A + 1) 44 5 (.slice ua G.length uc) G.length (flatX Cm.cellsR G)) := Lib.hid (by rw [hV]; exact Rw.own_below HO.out (Below.refl _ _).drew)
        have HA : Hid (Cm.HeapAt V A (.cells #[.bool false, .int .i64 vb, .int .i64 tb, .int .i64 sb, .int .i64 mb, .slice ua G.length uc] 26)) := Lib.hid (by rw [hV]; exact HA.out.later (Below.refl _ _).drew)
        rw [← hV]
        clear hV
        refine wpAnyH_take (i := 0) (v := ?_) rfl (by kernel_rfl) (by kernel_rfl) (by kernel_rfl) (fun _ _ _ h => h) (Or.inl ⟨by rfl, ?_⟩) (by assumption) ?_
        rotate_left
        · intro w hSw; (try dsimp only at hSw); go_simp <;> with_reducible rfl
        try simp only [Act.put, List.getElem_toArray, List.getElem_cons_succ, List.getElem_cons_zero, List.setIfInBounds_toArray, List.set_cons_zero, List.set_cons_succ]
        refine wpAnyH_take (i := 2) (v := ?_) rfl (by kernel_rfl) (by kernel_rfl) (by kernel_rfl) (fun _ _ _ h => h) (Or.inl ⟨by rfl, ?_⟩) (by assumption) ?_
        rotate_left
        · intro w hSw; (try dsimp only at hSw); go_simp <;> with_reducible rfl
        try simp only [Act.put, List.getElem_toArray, List.getElem_cons_succ, List.getElem_cons_zero, List.setIfInBounds_toArray, List.set_cons_zero, List.set_cons_succ]
        refine wpAnyH_take (i := 3) (v := ?_) rfl (by kernel_rfl) (by kernel_rfl) (by kernel_rfl) (fun _ _ _ h => h) (Or.inl ⟨by rfl, ?_⟩) (by assumption) ?_
        rotate_left
        · intro w hSw; (try dsimp only at hSw); go_simp <;> with_reducible rfl
        try simp only [Act.put, List.getElem_toArray, List.getElem_cons_succ, List.getElem_cons_zero, List.setIfInBounds_toArray, List.set_cons_zero, List.set_cons_succ]
        refine wpAnyH_take (i := 4) (v := ?_) rfl (by kernel_rfl) (by kernel_rfl) (by kernel_rfl) (fun _ _ _ h => h) (Or.inl ⟨by rfl, ?_⟩) (by assumption) ?_
        rotate_left
        · intro w hSw; (try dsimp only at hSw); go_simp <;> with_reducible rfl
        try simp only [Act.put, List.getElem_toArray, List.getElem_cons_succ, List.getElem_cons_zero, List.setIfInBounds_toArray, List.set_cons_zero, List.set_cons_succ]
        refine wpAnyH_take (i := 5) (v := ?_) rfl (by kernel_rfl) (by kernel_rfl) (by kernel_rfl) (fun _ _ _ h => h) (Or.inl ⟨by rfl, ?_⟩) (by assumption) ?_
        rotate_left
        · intro w hSw; (try dsimp only at hSw); go_simp <;> with_reducible rfl
        try simp only [Act.put, List.getElem_toArray, List.getElem_cons_succ, List.getElem_cons_zero, List.setIfInBounds_toArray, List.set_cons_zero, List.set_cons_succ]
        refine wpAnyH_take (i := 6) (v := ?_) rfl (by kernel_rfl) (by kernel_rfl) (by kernel_rfl) (fun _ _ _ h => h) (Or.inl ⟨by rfl, ?_⟩) (by assumption) ?_
        rotate_left
        · intro w hSw; (try dsimp only at hSw); go_simp <;> with_reducible rfl
        try simp only [Act.put, List.getElem_toArray, List.getElem_cons_succ, List.getElem_cons_zero, List.setIfInBounds_toArray, List.set_cons_zero, List.set_cons_succ]
        refine wpAnyH_take (i := 7) (v := ?_) rfl (by kernel_rfl) (by kernel_rfl) (by kernel_rfl) (fun _ _ _ h => h) (Or.inl ⟨by rfl, ?_⟩) (by assumption) ?_
        rotate_left
        · intro w hSw; (try dsimp only at hSw); go_simp <;> with_reducible rfl
        try simp only [Act.put, List.getElem_toArray, List.getElem_cons_succ, List.getElem_cons_zero, List.setIfInBounds_toArray, List.set_cons_zero, List.set_cons_succ]
        refine wpAnyH_ready (rs := [1, 8]) (by kernel_rfl) (by simp) ?_
        refine AllReadyH.cons rfl (fun K hK => ?_) (AllReadyH.cons rfl (fun K hK => ?_) AllReadyH.nil)
        · skip
          have k5 := Cm.cell_at HA.out 5
          simp only [List.getElem?_toArray, List.getElem?_cons_zero, List.getElem?_cons_succ] at k5
          go_simp
          clear k5
          refine hK.out _ _ trivial (fun hHeld => ?_)
          clear hK K
          try simp only [Act.put, List.getElem_toArray, List.getElem_cons_succ, List.getElem_cons_zero, List.setIfInBounds_toArray, List.set_cons_zero, List.set_cons_succ]
          refine wpAnyH_ready (rs := [8]) (by kernel_rfl) (by simp) ?_
          refine AllReadyH.cons rfl (fun K hK => ?_) AllReadyH.nil
          · skip
            go_simp
            go_at_call 19
            refine (CK.out V).mono ?_
            rintro e V' ⟨rfl, hb⟩
            have HB := Lib.hid (step HB.out hb)
            have HO := Lib.hid (Rw.own_below HO.out hb)
            have HA := Lib.hid (HA.out.later hb)
            clear hb
            obtain ⟨V, rfl⟩ : ∃ V, V = V' := ⟨_, rfl⟩
            refine hK.out _ _ trivial (fun hHeld => ?_)
            clear hK K
            try simp only [Act.put, List.getElem_toArray, List.getElem_cons_succ, List.getElem_cons_zero, List.setIfInBounds_toArray, List.set_cons_zero, List.set_cons_succ]
            refine wpAnyH_ready (rs := [9]) (by kernel_rfl) (by simp) ?_
            refine AllReadyH.cons rfl (fun K hK => ?_) AllReadyH.nil
            · skip
              go_simp
              obtain ⟨V', hV'⟩ : ∃ V', V' = V.alloc (.cells #[.int .i64 qc, .int .i64 qq, .int .i64 qk, .int .i64 qs, .string (bstr qn)] 44) := ⟨_, rfl⟩
              have hb : Below V.heap.size V V' := (by rw [hV']; exact newAlloc _ _)
              have HZ : Hid (Cm.HeapAt V' V.heap.size (.cells #[.int .i64 qc, .int .i64 qq, .int .i64 qk, .int .i64 qs, .string (bstr qn)] 44)) := Lib.hid (by rw [hV']; exact Cm.alloc_atB _ _ _ rfl)
              rw [← hV']
              have HB := Lib.hid (step HB.out hb)
              have HO := Lib.hid (Rw.own_below HO.out hb)
              have HA := Lib.hid (HA.out.later hb)
              clear hV' hb
              generalize V.heap.size = g at HZ ⊢
              obtain ⟨V, rfl⟩ : ∃ V, V = V' := ⟨_, rfl⟩
              refine hK.out _ _ trivial (fun hHeld => ?_)
              clear hK K
              try simp only [Act.put, List.getElem_toArray, List.getElem_cons_succ, List.getElem_cons_zero, List.setIfInBounds_toArray, List.set_cons_zero, List.set_cons_succ]
              refine wpAnyH_ready (rs := [10]) (by kernel_rfl) (by simp) ?_
              refine AllReadyH.cons rfl (fun K hK => ?_) AllReadyH.nil
              · skip
                refine Cm.step_append_ownB (by rfl) _ _ _ (by rfl) (A + 1) 44 i5 _ 5 48 Try.underlying24 hi5 h50 h51 h52 rfl (by omega) (.slice ua G.length uc) G.length _ (by rfl) HO.out ⟨g, 0, none⟩ 1 1 (Cm.cellsR ⟨qc, qq, ⟨qk, qs, qn⟩⟩) (by rfl) rfl (World.news_of_block (cs := #[.int .i64 qc, .int .i64 qq, .int .i64 qk, .int .i64 qs, .string (bstr qn)]) (t := 44) (fr := (0, 0)) HZ.out) hone (by unfold maxLen; omega) (by omega) HA.out.lt ?_
                intro v' V' hown hgrow _
                have hA' := (hgrow.block A HA.out.lt (fun q => by have := (Rw.own_lt HO.out A q.symm).1; omega)).trans HA.out
                have HB := Lib.hid (HB.out.grown hgrow HB.out.size (fun k hk => by have := (Rw.own_lt HO.out k hk).1; have := HWA.out; omega))
                have HA : Hid (Cm.HeapAt V' A (.cells #[.bool false, .int .i64 vb, .int .i64 tb, .int .i64 sb, .int .i64 mb, .slice ua G.length uc] 26)) := Lib.hid hA'
                have HO := Lib.hid hown
                obtain ⟨va, vc, rfl⟩ := Rw.own_form hown
                clear hA' hown hgrow
                obtain ⟨V, rfl⟩ : ∃ V, V = V' := ⟨_, rfl⟩
                refine hK.out _ _ trivial (fun hHeld => ?_)
                clear hK K
                try simp only [Act.put, List.getElem_toArray, List.getElem_cons_succ, List.getElem_cons_zero, List.setIfInBounds_toArray, List.set_cons_zero, List.set_cons_succ]
                refine wpAnyH_take (i := 11) (v := ?_) rfl (by kernel_rfl) (by kernel_rfl) (by kernel_rfl) (fun _ _ _ h => h) (Or.inl ⟨by rfl, ?_⟩) (by assumption) ?_
                rotate_left
                · intro w hSw; (try dsimp only at hSw); go_simp <;> with_reducible rfl
                try simp only [Act.put, List.getElem_toArray, List.getElem_cons_succ, List.getElem_cons_zero, List.setIfInBounds_toArray, List.set_cons_zero, List.set_cons_succ]
                refine wpAnyH_ready (rs := [12]) (by kernel_rfl) (by simp) ?_
                refine AllReadyH.cons rfl (fun K hK => ?_) AllReadyH.nil
                · skip
                  have k5 := Cm.cell_at HA.out 5
                  have kf := Cm.frozen_at HA.out
                  simp only [List.getElem?_toArray, List.getElem?_cons_zero, List.getElem?_cons_succ] at k5
                  go_simp
                  have HO : Hid ((V.setCell ⟨A, 5, none⟩ (.slice va (G.length + 1) vc)).ownsRow (A + 1) 44 5 (.slice va (G.length + 1) vc) (G ++ [(⟨qc, qq, ⟨qk, qs, qn⟩⟩ : Cm.ReqV)]).length (flatX Cm.cellsR (G ++ [(⟨qc, qq, ⟨qk, qs, qn⟩⟩ : Cm.ReqV)]))) := Lib.hid (by have q := Cm.own_box HO.out (Nat.lt_succ_self _) (.slice va (G.length + 1) vc); rw [List.length_append, flatX_snoc]; exact q)
                  have HA : Hid (Cm.HeapAt (V.setCell ⟨A, 5, none⟩ (.slice va (G.length + 1) vc)) A (.cells #[.bool false, .int .i64 vb, .int .i64 tb, .int .i64 sb, .int .i64 mb, .slice va (G.length + 1) vc] 26)) := Lib.hid (HA.out.set (i := 5) _)
                  have HB := Lib.hid (HB.out.setCell (p := ⟨A, 5, none⟩) HWA.out (.slice va (G.length + 1) vc))
                  clear k5 kf
                  refine hK.out _ _ trivial (fun hHeld => ?_)
                  clear hK K
                  try simp only [Act.put, List.getElem_toArray, List.getElem_cons_succ, List.getElem_cons_zero, List.setIfInBounds_toArray, List.set_cons_zero, List.set_cons_succ]
                  refine wpAnyH_done (by kernel_rfl) ?_ _
                  go_wp2
                  go_roundw
                  case rel => exact ⟨G.length + 1, G ++ [⟨qc, qq, ⟨qk, qs, qn⟩⟩], _, by omega, by go_num, by simp, HB, HA, HO⟩
                  case measure => simp [intOf]; omega
        · skip
          go_simp
          go_at_call 19
          refine (CK.out V).mono ?_
          rintro e V' ⟨rfl, hb⟩
          have HB := Lib.hid (step HB.out hb)
          have HO := Lib.hid (Rw.own_below HO.out hb)
          have HA := Lib.hid (HA.out.later hb)
          clear hb
          obtain ⟨V, rfl⟩ : ∃ V, V = V' := ⟨_, rfl⟩
          refine hK.out _ _ trivial (fun hHeld => ?_)
          clear hK K
          try simp only [Act.put, List.getElem_toArray, List.getElem_cons_succ, List.getElem_cons_zero, List.setIfInBounds_toArray, List.set_cons_zero, List.set_cons_succ]
          refine wpAnyH_ready (rs := [1, 9]) (by kernel_rfl) (by simp) ?_
          refine AllReadyH.cons rfl (fun K hK => ?_) (AllReadyH.cons rfl (fun K hK => ?_) AllReadyH.nil)
          · skip
            have k5 := Cm.cell_at HA.out 5
            simp only [List.getElem?_toArray, List.getElem?_cons_zero, List.getElem?_cons_succ] at k5
            go_simp
            clear k5
            refine hK.out _ _ trivial (fun hHeld => ?_)
            clear hK K
            try simp only [Act.put, List.getElem_toArray, List.getElem_cons_succ, List.getElem_cons_zero, List.setIfInBounds_toArray, List.set_cons_zero, List.set_cons_succ]
            refine wpAnyH_ready (rs := [9]) (by kernel_rfl) (by simp) ?_
            refine AllReadyH.cons rfl (fun K hK => ?_) AllReadyH.nil
            · skip
              go_simp
              obtain ⟨V', hV'⟩ : ∃ V', V' = V.alloc (.cells #[.int .i64 qc, .int .i64 qq, .int .i64 qk, .int .i64 qs, .string (bstr qn)] 44) := ⟨_, rfl⟩
              have hb : Below V.heap.size V V' := (by rw [hV']; exact newAlloc _ _)
              have HZ : Hid (Cm.HeapAt V' V.heap.size (.cells #[.int .i64 qc, .int .i64 qq, .int .i64 qk, .int .i64 qs, .string (bstr qn)] 44)) := Lib.hid (by rw [hV']; exact Cm.alloc_atB _ _ _ rfl)
              rw [← hV']
              have HB := Lib.hid (step HB.out hb)
              have HO := Lib.hid (Rw.own_below HO.out hb)
              have HA := Lib.hid (HA.out.later hb)
              clear hV' hb
              generalize V.heap.size = g at HZ ⊢
              obtain ⟨V, rfl⟩ : ∃ V, V = V' := ⟨_, rfl⟩
              refine hK.out _ _ trivial (fun hHeld => ?_)
              clear hK K
              try simp only [Act.put, List.getElem_toArray, List.getElem_cons_succ, List.getElem_cons_zero, List.setIfInBounds_toArray, List.set_cons_zero, List.set_cons_succ]
              refine wpAnyH_ready (rs := [10]) (by kernel_rfl) (by simp) ?_
              refine AllReadyH.cons rfl (fun K hK => ?_) AllReadyH.nil
              · skip
                refine Cm.step_append_ownB (by rfl) _ _ _ (by rfl) (A + 1) 44 i5 _ 5 48 Try.underlying24 hi5 h50 h51 h52 rfl (by omega) (.slice ua G.length uc) G.length _ (by rfl) HO.out ⟨g, 0, none⟩ 1 1 (Cm.cellsR ⟨qc, qq, ⟨qk, qs, qn⟩⟩) (by rfl) rfl (World.news_of_block (cs := #[.int .i64 qc, .int .i64 qq, .int .i64 qk, .int .i64 qs, .string (bstr qn)]) (t := 44) (fr := (0, 0)) HZ.out) hone (by unfold maxLen; omega) (by omega) HA.out.lt ?_
                intro v' V' hown hgrow _
                have hA' := (hgrow.block A HA.out.lt (fun q => by have := (Rw.own_lt HO.out A q.symm).1; omega)).trans HA.out
                have HB := Lib.hid (HB.out.grown hgrow HB.out.size (fun k hk => by have := (Rw.own_lt HO.out k hk).1; have := HWA.out; omega))
                have HA : Hid (Cm.HeapAt V' A (.cells #[.bool false, .int .i64 vb, .int .i64 tb, .int .i64 sb, .int .i64 mb, .slice ua G.length uc] 26)) := Lib.hid hA'
                have HO := Lib.hid hown
                obtain ⟨va, vc, rfl⟩ := Rw.own_form hown
                clear hA' hown hgrow
                obtain ⟨V, rfl⟩ : ∃ V, V = V' := ⟨_, rfl⟩
                refine hK.out _ _ trivial (fun hHeld => ?_)
                clear hK K
                try simp only [Act.put, List.getElem_toArray, List.getElem_cons_succ, List.getElem_cons_zero, List.setIfInBounds_toArray, List.set_cons_zero, List.set_cons_succ]
                refine wpAnyH_take (i := 11) (v := ?_) rfl (by kernel_rfl) (by kernel_rfl) (by kernel_rfl) (fun _ _ _ h => h) (Or.inl ⟨by rfl, ?_⟩) (by assumption) ?_
                rotate_left
                · intro w hSw; (try dsimp only at hSw); go_simp <;> with_reducible rfl
                try simp only [Act.put, List.getElem_toArray, List.getElem_cons_succ, List.getElem_cons_zero, List.setIfInBounds_toArray, List.set_cons_zero, List.set_cons_succ]
                refine wpAnyH_ready (rs := [12]) (by kernel_rfl) (by simp) ?_
                refine AllReadyH.cons rfl (fun K hK => ?_) AllReadyH.nil
                · skip
                  have k5 := Cm.cell_at HA.out 5
                  have kf := Cm.frozen_at HA.out
                  simp only [List.getElem?_toArray, List.getElem?_cons_zero, List.getElem?_cons_succ] at k5
                  go_simp
                  have HO : Hid ((V.setCell ⟨A, 5, none⟩ (.slice va (G.length + 1) vc)).ownsRow (A + 1) 44 5 (.slice va (G.length + 1) vc) (G ++ [(⟨qc, qq, ⟨qk, qs, qn⟩⟩ : Cm.ReqV)]).length (flatX Cm.cellsR (G ++ [(⟨qc, qq, ⟨qk, qs, qn⟩⟩ : Cm.ReqV)]))) := Lib.hid (by have q := Cm.own_box HO.out (Nat.lt_succ_self _) (.slice va (G.length + 1) vc); rw [List.length_append, flatX_snoc]; exact q)
                  have HA : Hid (Cm.HeapAt (V.setCell ⟨A, 5, none⟩ (.slice va (G.length + 1) vc)) A (.cells #[.bool false, .int .i64 vb, .int .i64 tb, .int .i64 sb, .int .i64 mb, .slice va (G.length + 1) vc] 26)) := Lib.hid (HA.out.set (i := 5) _)
                  have HB := Lib.hid (HB.out.setCell (p := ⟨A, 5, none⟩) HWA.out (.slice va (G.length + 1) vc))
                  clear k5 kf
                  refine hK.out _ _ trivial (fun hHeld => ?_)
                  clear hK K
                  try simp only [Act.put, List.getElem_toArray, List.getElem_cons_succ, List.getElem_cons_zero, List.setIfInBounds_toArray, List.set_cons_zero, List.set_cons_succ]
                  refine wpAnyH_done (by kernel_rfl) ?_ _
                  go_wp2
                  go_roundw
                  case rel => exact ⟨G.length + 1, G ++ [⟨qc, qq, ⟨qk, qs, qn⟩⟩], _, by omega, by go_num, by simp, HB, HA, HO⟩
                  case measure => simp [intOf]; omega
          · skip
            go_simp
            obtain ⟨V', hV'⟩ : ∃ V', V' = V.alloc (.cells #[.int .i64 qc, .int .i64 qq, .int .i64 qk, .int .i64 qs, .string (bstr qn)] 44) := ⟨_, rfl⟩
            have hb : Below V.heap.size V V' := (by rw [hV']; exact newAlloc _ _)
            have HZ : Hid (Cm.HeapAt V' V.heap.size (.cells #[.int .i64 qc, .int .i64 qq, .int .i64 qk, .int .i64 qs, .string (bstr qn)] 44)) := Lib.hid (by rw [hV']; exact Cm.alloc_atB _ _ _ rfl)
            rw [← hV']
            have HB := Lib.hid (step HB.out hb)
            have HO := Lib.hid (Rw.own_below HO.out hb)
            have HA := Lib.hid (HA.out.later hb)
            clear hV' hb
            generalize V.heap.size = g at HZ ⊢
            obtain ⟨V, rfl⟩ : ∃ V, V = V' := ⟨_, rfl⟩
            refine hK.out _ _ trivial (fun hHeld => ?_)
            clear hK K
            try simp only [Act.put, List.getElem_toArray, List.getElem_cons_succ, List.getElem_cons_zero, List.setIfInBounds_toArray, List.set_cons_zero, List.set_cons_succ]
            refine wpAnyH_ready (rs := [1]) (by kernel_rfl) (by simp) ?_
            refine AllReadyH.cons rfl (fun K hK => ?_) AllReadyH.nil
            · skip
              have k5 := Cm.cell_at HA.out 5
              simp only [List.getElem?_toArray, List.getElem?_cons_zero, List.getElem?_cons_succ] at k5
              go_simp
              clear k5
              refine hK.out _ _ trivial (fun hHeld => ?_)
              clear hK K
              try simp only [Act.put, List.getElem_toArray, List.getElem_cons_succ, List.getElem_cons_zero, List.setIfInBounds_toArray, List.set_cons_zero, List.set_cons_succ]
              refine wpAnyH_ready (rs := [10]) (by kernel_rfl) (by simp) ?_
              refine AllReadyH.cons rfl (fun K hK => ?_) AllReadyH.nil
              · skip
                refine Cm.step_append_ownB (by rfl) _ _ _ (by rfl) (A + 1) 44 i5 _ 5 48 Try.underlying24 hi5 h50 h51 h52 rfl (by omega) (.slice ua G.length uc) G.length _ (by rfl) HO.out ⟨g, 0, none⟩ 1 1 (Cm.cellsR ⟨qc, qq, ⟨qk, qs, qn⟩⟩) (by rfl) rfl (World.news_of_block (cs := #[.int .i64 qc, .int .i64 qq, .int .i64 qk, .int .i64 qs, .string (bstr qn)]) (t := 44) (fr := (0, 0)) HZ.out) hone (by unfold maxLen; omega) (by omega) HA.out.lt ?_
                intro v' V' hown hgrow _
                have hA' := (hgrow.block A HA.out.lt (fun q => by have := (Rw.own_lt HO.out A q.symm).1; omega)).trans HA.out
                have HB := Lib.hid (HB.out.grown hgrow HB.out.size (fun k hk => by have := (Rw.own_lt HO.out k hk).1; have := HWA.out; omega))
                have HA : Hid (Cm.HeapAt V' A (.cells #[.bool false, .int .i64 vb, .int .i64 tb, .int .i64 sb, .int .i64 mb, .slice ua G.length uc] 26)) := Lib.hid hA'
                have HO := Lib.hid hown
                obtain ⟨va, vc, rfl⟩ := Rw.own_form hown
                clear hA' hown hgrow
                obtain ⟨V, rfl⟩ : ∃ V, V = V' := ⟨_, rfl⟩
                refine hK.out _ _ trivial (fun hHeld => ?_)
                clear hK K
                try simp only [Act.put, List.getElem_toArray, List.getElem_cons_succ, List.getElem_cons_zero, List.setIfInBounds_toArray, List.set_cons_zero, List.set_cons_succ]
                refine wpAnyH_take (i := 11) (v := ?_) rfl (by kernel_rfl) (by kernel_rfl) (by kernel_rfl) (fun _ _ _ h => h) (Or.inl ⟨by rfl, ?_⟩) (by assumption) ?_
                rotate_left
                · intro w hSw; (try dsimp only at hSw); go_simp <;> with_reducible rfl
                try simp only [Act.put, List.getElem_toArray, List.getElem_cons_succ, List.getElem_cons_zero, List.setIfInBounds_toArray, List.set_cons_zero, List.set_cons_succ]
                refine wpAnyH_ready (rs := [12]) (by kernel_rfl) (by simp) ?_
                refine AllReadyH.cons rfl (fun K hK => ?_) AllReadyH.nil
                · skip
                  have k5 := Cm.cell_at HA.out 5
                  have kf := Cm.frozen_at HA.out
                  simp only [List.getElem?_toArray, List.getElem?_cons_zero, List.getElem?_cons_succ] at k5
                  go_simp
                  have HO : Hid ((V.setCell ⟨A, 5, none⟩ (.slice va (G.length + 1) vc)).ownsRow (A + 1) 44 5 (.slice va (G.length + 1) vc) (G ++ [(⟨qc, qq, ⟨qk, qs, qn⟩⟩ : Cm.ReqV)]).length (flatX Cm.cellsR (G ++ [(⟨qc, qq, ⟨qk, qs, qn⟩⟩ : Cm.ReqV)]))) := Lib.hid (by have q := Cm.own_box HO.out (Nat.lt_succ_self _) (.slice va (G.length + 1) vc); rw [List.length_append, flatX_snoc]; exact q)
                  have HA : Hid (Cm.HeapAt (V.setCell ⟨A, 5, none⟩ (.slice va (G.length + 1) vc)) A (.cells #[.bool false, .int .i64 vb, .int .i64 tb, .int .i64 sb, .int .i64 mb, .slice va (G.length + 1) vc] 26)) := Lib.hid (HA.out.set (i := 5) _)
                  have HB := Lib.hid (HB.out.setCell (p := ⟨A, 5, none⟩) HWA.out (.slice va (G.length + 1) vc))
                  clear k5 kf
                  refine hK.out _ _ trivial (fun hHeld => ?_)
                  clear hK K
                  try simp only [Act.put, List.getElem_toArray, List.getElem_cons_succ, List.getElem_cons_zero, List.setIfInBounds_toArray, List.set_cons_zero, List.set_cons_succ]
                  refine wpAnyH_done (by kernel_rfl) ?_ _
                  go_wp2
                  go_roundw
                  case rel => exact ⟨G.length + 1, G ++ [⟨qc, qq, ⟨qk, qs, qn⟩⟩], _, by omega, by go_num, by simp, HB, HA, HO⟩
                  case measure => simp [intOf]; omega
      · obtain rfl : j = 4 := by omega
        have HGL := Lib.hid hGl
        clear hGl
        go_upto_region 22 with fail
        have HA9 := HA
        have HRD : Hid (Cm.RdR wr (.slice ua G.length uc) G) := Lib.hid (RdX.own Cm.cellsR_length HO.out)
        have HBN := HB
        obtain ⟨W9, rfl⟩ : ∃ W9, W9 = wr := ⟨_, rfl⟩
        clear HA HO HB
        have hA := HA9.out
        have k0 := Cm.cell_at hA 0
        have k1 := Cm.cell_at hA 1
        have k2 := Cm.cell_at hA 2
        have k3 := Cm.cell_at hA 3
        have k4 := Cm.cell_at hA 4
        have k5 := Cm.cell_at hA 5
        simp only [List.getElem?_toArray, List.getElem?_cons_zero, List.getElem?_cons_succ] at k0 k1 k2 k3 k4 k5
        clear hA
        have HME := Lib.hid (Cm.not_four vb tb sb mb G HGL.out)
        have CP : Hid (∀ W, Below W9.heap.size W9 W → Calls Try.prog 8 #[.agg #[.bool false, .int .i64 vb, .int .i64 tb, .int .i64 sb, .int .i64 mb, .slice ua G.length uc]] W (fun e w' => ∃ a c, e = .returned (.tuple #[.slice a 0 c, .int .i64 1]) ∧ Below W.heap.size W w')) := Lib.hid fun W hb => Cm.PutB_none ⟨false, vb, tb, sb, mb, G⟩ _ W (HRD.out.later hb) HME.out
        have CM : Hid (∀ W, Below W9.heap.size W9 W → Calls Try.prog 12 #[.agg #[.bool false, .int .i64 vb, .int .i64 tb, .int .i64 sb, .int .i64 mb, .slice ua G.length uc]] W (Cm.SaysB false W)) := Lib.hid fun W hb => by have := Cm.MayB_any ⟨false, vb, tb, sb, mb, G⟩ _ W (HRD.out.later hb); rw [HME.out] at this; exact this
        go_wp2_with (first
          | (go_at_call 8; refine (CP.out _ (Below.refl _ _)).mono ?_; rintro e w6 ⟨pa, pcap, rfl, hb6⟩; have HB6 := Lib.hid hb6; have hA := HA9.out.later hb6; have k0 := Cm.cell_at hA 0; have k1 := Cm.cell_at hA 1; have k2 := Cm.cell_at hA 2; have k3 := Cm.cell_at hA 3; have k4 := Cm.cell_at hA 4; have k5 := Cm.cell_at hA 5; simp only [List.getElem?_toArray, List.getElem?_cons_zero, List.getElem?_cons_succ] at k0 k1 k2 k3 k4 k5; clear hA)
          | (go_at_call 12; refine (CM.out _ HB6.out).mono ?_; rintro e w7 ⟨rfl, hb7⟩)
          | (go_at_call 7; refine (C0.out _).mono ?_; rintro e w8 ⟨rfl, hb8⟩))
        go_ret
        exact ⟨rfl, step HBN.out (step (step HB6.out hb7) hb8)⟩
  | 2, _ =>
    have hA := HA2.out
    have k0 := Cm.cell_at hA 0
    have k1 := Cm.cell_at hA 1
    have k2 := Cm.cell_at hA 2
    have k3 := Cm.cell_at hA 3
    have k4 := Cm.cell_at hA 4
    have k5 := Cm.cell_at hA 5
    have kf := Cm.frozen_at hA
    have hB := HR2.out
    have r0 := Cm.cell_at hB 0
    have r1 := Cm.cell_at hB 1
    have r2 := Cm.cell_at hB 2
    have r3 := Cm.cell_at hB 3
    have r4 := Cm.cell_at hB 4
    have rf := Cm.frozen_at hB
    simp only [List.getElem?_toArray, List.getElem?_cons_zero, List.getElem?_cons_succ] at k0 k1 k2 k3 k4 k5 r0 r1 r2 r3 r4
    clear hA hB
    go_upto_region 16 with fail
    have HA3 : Hid (Cm.HeapAt (W4.setCell ⟨B, 1, none⟩ (.int .i64 0)) A (.cells #[.bool false, .int .i64 vb, .int .i64 tb, .int .i64 sb, .int .i64 mb, .slice ba LB bc] 26)) := Lib.hid (HA2.out.other (by have := HAB.out; omega) _)
    have HR3 : Hid (Cm.HeapAt (W4.setCell ⟨B, 1, none⟩ (.int .i64 0)) B (.cells #[.int .i64 rc, .int .i64 0, .int .i64 rk, .int .i64 rs, .string (bstr rn)] 44)) := Lib.hid (HR2.out.set (i := 1) _)
    have HBN := Lib.hid (HBN.out.setCell (p := ⟨B, 1, none⟩) (by have := HAB.out; have := HWA.out; show w.heap.size ≤ B; omega) (.int .i64 0))
    generalize W4.setCell ⟨B, 1, none⟩ (.int .i64 0) = W5 at HA3 HR3 HBN ⊢
    clear k0 k1 k2 k3 k4 k5 kf r0 r1 r2 r3 r4 rf
    have hA := HA3.out
    have k5 := Cm.cell_at hA 5
    have kf := Cm.frozen_at hA
    have hB := HR3.out
    have r0 := Cm.cell_at hB 0
    have r1 := Cm.cell_at hB 1
    have r2 := Cm.cell_at hB 2
    have r3 := Cm.cell_at hB 3
    have r4 := Cm.cell_at hB 4
    simp only [List.getElem?_toArray, List.getElem?_cons_zero, List.getElem?_cons_succ] at k5 r0 r1 r2 r3 r4
    clear hA hB
    have hA := HA3.out.later (newAlloc W5 (.cells #[.int .i64 rc, .int .i64 0, .int .i64 rk, .int .i64 rs, .string (bstr rn)] 44))
    have k5' := Cm.cell_at hA 5
    have kf' := Cm.frozen_at hA
    simp only [List.getElem?_toArray, List.getElem?_cons_zero, List.getElem?_cons_succ] at k5'
    clear hA
    go_upto_region 22 with fail
    clear k5' kf'
    have HA9 : Hid (Cm.HeapAt ((W5.alloc (.cells #[.int .i64 rc, .int .i64 0, .int .i64 rk, .int .i64 rs, .string (bstr rn)] 44)).setCell ⟨A, 5, none⟩ (.slice (some ⟨W5.heap.size, 0, none⟩) 1 1)) A (.cells #[.bool false, .int .i64 vb, .int .i64 tb, .int .i64 sb, .int .i64 mb, .slice (some ⟨W5.heap.size, 0, none⟩) 1 1] 26)) := Lib.hid ((HA3.out.later (newAlloc _ _)).set (i := 5) _)
    have HL9 : Hid (Cm.HeapAt ((W5.alloc (.cells #[.int .i64 rc, .int .i64 0, .int .i64 rk, .int .i64 rs, .string (bstr rn)] 44)).setCell ⟨A, 5, none⟩ (.slice (some ⟨W5.heap.size, 0, none⟩) 1 1)) W5.heap.size (.cells #[.int .i64 rc, .int .i64 0, .int .i64 rk, .int .i64 rs, .string (bstr rn)] 44)) := Lib.hid (Cm.HeapAt.other (Cm.alloc_atB _ _ _ rfl) (by have := HA3.out.lt; omega) _)
    have HBN := Lib.hid ((stepAlloc HBN.out (.cells #[.int .i64 rc, .int .i64 0, .int .i64 rk, .int .i64 rs, .string (bstr rn)] 44)).setCell (p := ⟨A, 5, none⟩) HWA.out (.slice (some ⟨W5.heap.size, 0, none⟩) 1 1))
    generalize (W5.alloc (.cells #[.int .i64 rc, .int .i64 0, .int .i64 rk, .int .i64 rs, .string (bstr rn)] 44)).setCell ⟨A, 5, none⟩ (.slice (some ⟨W5.heap.size, 0, none⟩) 1 1) = W9 at HA9 HL9 HBN ⊢
    generalize W5.heap.size = g at HA9 HL9 ⊢
    have HRD : Hid (Cm.RdR W9 (.slice (some ⟨g, 0, none⟩) 1 1) [⟨rc, 0, ⟨rk, rs, rn⟩⟩]) := Lib.hid (Cm.rdr_block (l := [⟨rc, 0, ⟨rk, rs, rn⟩⟩]) HL9.out rfl (by unfold maxLen; simp))
    clear k5 kf r0 r1 r2 r3 r4
    have hA := HA9.out
    have k0 := Cm.cell_at hA 0
    have k1 := Cm.cell_at hA 1
    have k2 := Cm.cell_at hA 2
    have k3 := Cm.cell_at hA 3
    have k4 := Cm.cell_at hA 4
    have k5 := Cm.cell_at hA 5
    simp only [List.getElem?_toArray, List.getElem?_cons_zero, List.getElem?_cons_succ] at k0 k1 k2 k3 k4 k5
    clear hA
    have HME := Lib.hid (Cm.not_nought vb tb sb mb rc ⟨rk, rs, rn⟩)
    have CP : Hid (∀ W, Below W9.heap.size W9 W → Calls Try.prog 8 #[.agg #[.bool false, .int .i64 vb, .int .i64 tb, .int .i64 sb, .int .i64 mb, .slice (some ⟨g, 0, none⟩) 1 1]] W (fun e w' => ∃ a c, e = .returned (.tuple #[.slice a 0 c, .int .i64 1]) ∧ Below W.heap.size W w')) := Lib.hid fun W hb => Cm.PutB_none ⟨false, vb, tb, sb, mb, [⟨rc, 0, ⟨rk, rs, rn⟩⟩]⟩ _ W (HRD.out.later hb) HME.out
    have CM : Hid (∀ W, Below W9.heap.size W9 W → Calls Try.prog 12 #[.agg #[.bool false, .int .i64 vb, .int .i64 tb, .int .i64 sb, .int .i64 mb, .slice (some ⟨g, 0, none⟩) 1 1]] W (Cm.SaysB false W)) := Lib.hid fun W hb => by have := Cm.MayB_any ⟨false, vb, tb, sb, mb, [⟨rc, 0, ⟨rk, rs, rn⟩⟩]⟩ _ W (HRD.out.later hb); rw [HME.out] at this; exact this
    go_wp2_with (first
      | (go_at_call 8; refine (CP.out _ (Below.refl _ _)).mono ?_; rintro e w6 ⟨pa, pcap, rfl, hb6⟩; have HB6 := Lib.hid hb6; have hA := HA9.out.later hb6; have k0 := Cm.cell_at hA 0; have k1 := Cm.cell_at hA 1; have k2 := Cm.cell_at hA 2; have k3 := Cm.cell_at hA 3; have k4 := Cm.cell_at hA 4; have k5 := Cm.cell_at hA 5; simp only [List.getElem?_toArray, List.getElem?_cons_zero, List.getElem?_cons_succ] at k0 k1 k2 k3 k4 k5; clear hA)
      | (go_at_call 12; refine (CM.out _ HB6.out).mono ?_; rintro e w7 ⟨rfl, hb7⟩)
      | (go_at_call 7; refine (C0.out _).mono ?_; rintro e w8 ⟨rfl, hb8⟩))
    go_ret
    exact ⟨rfl, step HBN.out (step (step HB6.out hb7) hb8)⟩
  | 3, _ =>
    have hA := HA2.out
    have k0 := Cm.cell_at hA 0
    have k1 := Cm.cell_at hA 1
    have k2 := Cm.cell_at hA 2
    have k3 := Cm.cell_at hA 3
    have k4 := Cm.cell_at hA 4
    have k5 := Cm.cell_at hA 5
    have kf := Cm.frozen_at hA
    have hB := HR2.out
    have r0 := Cm.cell_at hB 0
    have r1 := Cm.cell_at hB 1
    have r2 := Cm.cell_at hB 2
    have r3 := Cm.cell_at hB 3
    have r4 := Cm.cell_at hB 4
    have rf := Cm.frozen_at hB
    simp only [List.getElem?_toArray, List.getElem?_cons_zero, List.getElem?_cons_succ] at k0 k1 k2 k3 k4 k5 r0 r1 r2 r3 r4
    clear hA hB
    have hnw : IntKind.i64.wrap (n : Int) = (n : Int) := by rw [IntKind.wrap_i64]; omega
    have hnw1 : IntKind.i64.wrap (1 + (n : Int)) = 1 + (n : Int) := by rw [IntKind.wrap_i64]; omega
    go_upto_region 22 with fail
    have HA9 : Hid (Cm.HeapAt ((W4.setCell ⟨A, 0, none⟩ (.bool true)).setCell ⟨A, 4, none⟩ (.int .i64 (1 + (n : Int)))) A (.cells #[.bool true, .int .i64 vb, .int .i64 tb, .int .i64 sb, .int .i64 (1 + (n : Int)), .slice ba LB bc] 26)) := Lib.hid ((HA2.out.set (i := 0) _).set (i := 4) _)
    have HO9 := Lib.hid (Cm.own_set (i := 4) (Cm.own_set (i := 0) HO4.out HNE.out (.bool true)) HNE.out (.int .i64 (1 + (n : Int))))
    have HBN := Lib.hid ((HBN.out.setCell (p := ⟨A, 0, none⟩) HWA.out (.bool true)).setCell (p := ⟨A, 4, none⟩) HWA.out (.int .i64 (1 + (n : Int))))
    generalize (W4.setCell ⟨A, 0, none⟩ (.bool true)).setCell ⟨A, 4, none⟩ (.int .i64 (1 + (n : Int))) = W9 at HA9 HO9 HBN ⊢
    have HRD : Hid (Cm.RdR W9 (.slice ba LB bc) lb) := Lib.hid (RdX.own Cm.cellsR_length (by have := HO9.out; rw [← HLB.out] at this ⊢; exact this))
    clear k0 k1 k2 k3 k4 k5 kf r0 r1 r2 r3 r4 rf
    have hA := HA9.out
    have k0 := Cm.cell_at hA 0
    have k1 := Cm.cell_at hA 1
    have k2 := Cm.cell_at hA 2
    have k3 := Cm.cell_at hA 3
    have k4 := Cm.cell_at hA 4
    have k5 := Cm.cell_at hA 5
    simp only [List.getElem?_toArray, List.getElem?_cons_zero, List.getElem?_cons_succ] at k0 k1 k2 k3 k4 k5
    clear hA
    have HME := Lib.hid (Cm.not_fill vb tb sb (1 + (n : Int)) lb (by omega))
    have CP : Hid (∀ W, Below W9.heap.size W9 W → Calls Try.prog 8 #[.agg #[.bool true, .int .i64 vb, .int .i64 tb, .int .i64 sb, .int .i64 (1 + (n : Int)), .slice ba LB bc]] W (fun e w' => ∃ a c, e = .returned (.tuple #[.slice a 0 c, .int .i64 1]) ∧ Below W.heap.size W w')) := Lib.hid fun W hb => Cm.PutB_none ⟨true, vb, tb, sb, 1 + (n : Int), lb⟩ _ W (HRD.out.later hb) HME.out
    have CM : Hid (∀ W, Below W9.heap.size W9 W → Calls Try.prog 12 #[.agg #[.bool true, .int .i64 vb, .int .i64 tb, .int .i64 sb, .int .i64 (1 + (n : Int)), .slice ba LB bc]] W (Cm.SaysB false W)) := Lib.hid fun W hb => by have := Cm.MayB_any ⟨true, vb, tb, sb, 1 + (n : Int), lb⟩ _ W (HRD.out.later hb); rw [HME.out] at this; exact this
    go_wp2_with (first
      | (go_at_call 8; refine (CP.out _ (Below.refl _ _)).mono ?_; rintro e w6 ⟨pa, pcap, rfl, hb6⟩; have HB6 := Lib.hid hb6; have hA := HA9.out.later hb6; have k0 := Cm.cell_at hA 0; have k1 := Cm.cell_at hA 1; have k2 := Cm.cell_at hA 2; have k3 := Cm.cell_at hA 3; have k4 := Cm.cell_at hA 4; have k5 := Cm.cell_at hA 5; simp only [List.getElem?_toArray, List.getElem?_cons_zero, List.getElem?_cons_succ] at k0 k1 k2 k3 k4 k5; clear hA)
      | (go_at_call 12; refine (CM.out _ HB6.out).mono ?_; rintro e w7 ⟨rfl, hb7⟩)
      | (go_at_call 7; refine (C0.out _).mono ?_; rintro e w8 ⟨rfl, hb8⟩))
    go_ret
    exact ⟨rfl, step HBN.out (step (step HB6.out hb7) hb8)⟩
  | 4, _ =>
    have hA := HA2.out
    have k0 := Cm.cell_at hA 0
    have k1 := Cm.cell_at hA 1
    have k2 := Cm.cell_at hA 2
    have k3 := Cm.cell_at hA 3
    have k4 := Cm.cell_at hA 4
    have k5 := Cm.cell_at hA 5
    have kf := Cm.frozen_at hA
    have hB := HR2.out
    have r0 := Cm.cell_at hB 0
    have r1 := Cm.cell_at hB 1
    have r2 := Cm.cell_at hB 2
    have r3 := Cm.cell_at hB 3
    have r4 := Cm.cell_at hB 4
    have rf := Cm.frozen_at hB
    simp only [List.getElem?_toArray, List.getElem?_cons_zero, List.getElem?_cons_succ] at k0 k1 k2 k3 k4 k5 r0 r1 r2 r3 r4
    clear hA hB
    go_upto_region 22 with fail
    have HA9 : Hid (Cm.HeapAt (W4.setCell ⟨A, 1, none⟩ (.int .i64 (-1))) A (.cells #[.bool false, .int .i64 (-1), .int .i64 tb, .int .i64 sb, .int .i64 mb, .slice ba LB bc] 26)) := Lib.hid (HA2.out.set (i := 1) _)
    have HO9 := Lib.hid (Cm.own_set (i := 1) HO4.out HNE.out (.int .i64 (-1)))
    have HBN := Lib.hid (HBN.out.setCell (p := ⟨A, 1, none⟩) HWA.out (.int .i64 (-1)))
    generalize W4.setCell ⟨A, 1, none⟩ (.int .i64 (-1)) = W9 at HA9 HO9 HBN ⊢
    have HRD : Hid (Cm.RdR W9 (.slice ba LB bc) lb) := Lib.hid (RdX.own Cm.cellsR_length (by have := HO9.out; rw [← HLB.out] at this ⊢; exact this))
    clear k0 k1 k2 k3 k4 k5 kf r0 r1 r2 r3 r4 rf
    have hA := HA9.out
    have k0 := Cm.cell_at hA 0
    have k1 := Cm.cell_at hA 1
    have k2 := Cm.cell_at hA 2
    have k3 := Cm.cell_at hA 3
    have k4 := Cm.cell_at hA 4
    have k5 := Cm.cell_at hA 5
    simp only [List.getElem?_toArray, List.getElem?_cons_zero, List.getElem?_cons_succ] at k0 k1 k2 k3 k4 k5
    clear hA
    have HME := Lib.hid (Cm.not_view tb sb mb lb)
    have CP : Hid (∀ W, Below W9.heap.size W9 W → Calls Try.prog 8 #[.agg #[.bool false, .int .i64 (-1), .int .i64 tb, .int .i64 sb, .int .i64 mb, .slice ba LB bc]] W (fun e w' => ∃ a c, e = .returned (.tuple #[.slice a 0 c, .int .i64 1]) ∧ Below W.heap.size W w')) := Lib.hid fun W hb => Cm.PutB_none ⟨false, -1, tb, sb, mb, lb⟩ _ W (HRD.out.later hb) HME.out
    have CM : Hid (∀ W, Below W9.heap.size W9 W → Calls Try.prog 12 #[.agg #[.bool false, .int .i64 (-1), .int .i64 tb, .int .i64 sb, .int .i64 mb, .slice ba LB bc]] W (Cm.SaysB false W)) := Lib.hid fun W hb => by have := Cm.MayB_any ⟨false, -1, tb, sb, mb, lb⟩ _ W (HRD.out.later hb); rw [HME.out] at this; exact this
    go_wp2_with (first
      | (go_at_call 8; refine (CP.out _ (Below.refl _ _)).mono ?_; rintro e w6 ⟨pa, pcap, rfl, hb6⟩; have HB6 := Lib.hid hb6; have hA := HA9.out.later hb6; have k0 := Cm.cell_at hA 0; have k1 := Cm.cell_at hA 1; have k2 := Cm.cell_at hA 2; have k3 := Cm.cell_at hA 3; have k4 := Cm.cell_at hA 4; have k5 := Cm.cell_at hA 5; simp only [List.getElem?_toArray, List.getElem?_cons_zero, List.getElem?_cons_succ] at k0 k1 k2 k3 k4 k5; clear hA)
      | (go_at_call 12; refine (CM.out _ HB6.out).mono ?_; rintro e w7 ⟨rfl, hb7⟩)
      | (go_at_call 7; refine (C0.out _).mono ?_; rintro e w8 ⟨rfl, hb8⟩))
    go_ret
    exact ⟨rfl, step HBN.out (step (step HB6.out hb7) hb8)⟩
  | 5, _ =>
    have hA := HA2.out
    have k0 := Cm.cell_at hA 0
    have k1 := Cm.cell_at hA 1
    have k2 := Cm.cell_at hA 2
    have k3 := Cm.cell_at hA 3
    have k4 := Cm.cell_at hA 4
    have k5 := Cm.cell_at hA 5
    have kf := Cm.frozen_at hA
    have hB := HR2.out
    have r0 := Cm.cell_at hB 0
    have r1 := Cm.cell_at hB 1
    have r2 := Cm.cell_at hB 2
    have r3 := Cm.cell_at hB 3
    have r4 := Cm.cell_at hB 4
    have rf := Cm.frozen_at hB
    simp only [List.getElem?_toArray, List.getElem?_cons_zero, List.getElem?_cons_succ] at k0 k1 k2 k3 k4 k5 r0 r1 r2 r3 r4
    clear hA hB
    go_upto_region 22 with fail
    have HA9 : Hid (Cm.HeapAt (W4.setCell ⟨A, 3, none⟩ (.int .i64 2305843009213693953)) A (.cells #[.bool false, .int .i64 vb, .int .i64 tb, .int .i64 2305843009213693953, .int .i64 mb, .slice ba LB bc] 26)) := Lib.hid (HA2.out.set (i := 3) _)
    have HO9 := Lib.hid (Cm.own_set (i := 3) HO4.out HNE.out (.int .i64 2305843009213693953))
    have HBN := Lib.hid (HBN.out.setCell (p := ⟨A, 3, none⟩) HWA.out (.int .i64 2305843009213693953))
    generalize W4.setCell ⟨A, 3, none⟩ (.int .i64 2305843009213693953) = W9 at HA9 HO9 HBN ⊢
    have HRD : Hid (Cm.RdR W9 (.slice ba LB bc) lb) := Lib.hid (RdX.own Cm.cellsR_length (by have := HO9.out; rw [← HLB.out] at this ⊢; exact this))
    clear k0 k1 k2 k3 k4 k5 kf r0 r1 r2 r3 r4 rf
    have hA := HA9.out
    have k0 := Cm.cell_at hA 0
    have k1 := Cm.cell_at hA 1
    have k2 := Cm.cell_at hA 2
    have k3 := Cm.cell_at hA 3
    have k4 := Cm.cell_at hA 4
    have k5 := Cm.cell_at hA 5
    simp only [List.getElem?_toArray, List.getElem?_cons_zero, List.getElem?_cons_succ] at k0 k1 k2 k3 k4 k5
    clear hA
    have HME := Lib.hid (Cm.not_slot vb tb mb lb)
    have CP : Hid (∀ W, Below W9.heap.size W9 W → Calls Try.prog 8 #[.agg #[.bool false, .int .i64 vb, .int .i64 tb, .int .i64 2305843009213693953, .int .i64 mb, .slice ba LB bc]] W (fun e w' => ∃ a c, e = .returned (.tuple #[.slice a 0 c, .int .i64 1]) ∧ Below W.heap.size W w')) := Lib.hid fun W hb => Cm.PutB_none ⟨false, vb, tb, 2305843009213693953, mb, lb⟩ _ W (HRD.out.later hb) HME.out
    have CM : Hid (∀ W, Below W9.heap.size W9 W → Calls Try.prog 12 #[.agg #[.bool false, .int .i64 vb, .int .i64 tb, .int .i64 2305843009213693953, .int .i64 mb, .slice ba LB bc]] W (Cm.SaysB false W)) := Lib.hid fun W hb => by have := Cm.MayB_any ⟨false, vb, tb, 2305843009213693953, mb, lb⟩ _ W (HRD.out.later hb); rw [HME.out] at this; exact this
    go_wp2_with (first
      | (go_at_call 8; refine (CP.out _ (Below.refl _ _)).mono ?_; rintro e w6 ⟨pa, pcap, rfl, hb6⟩; have HB6 := Lib.hid hb6; have hA := HA9.out.later hb6; have k0 := Cm.cell_at hA 0; have k1 := Cm.cell_at hA 1; have k2 := Cm.cell_at hA 2; have k3 := Cm.cell_at hA 3; have k4 := Cm.cell_at hA 4; have k5 := Cm.cell_at hA 5; simp only [List.getElem?_toArray, List.getElem?_cons_zero, List.getElem?_cons_succ] at k0 k1 k2 k3 k4 k5; clear hA)
      | (go_at_call 12; refine (CM.out _ HB6.out).mono ?_; rintro e w7 ⟨rfl, hb7⟩)
      | (go_at_call 7; refine (C0.out _).mono ?_; rintro e w8 ⟨rfl, hb8⟩))
    go_ret
    exact ⟨rfl, step HBN.out (step (step HB6.out hb7) hb8)⟩

/-! ### THE ROW's STEP -/
set_option maxRecDepth 100000 in
theorem lifted (os : Os) (started : os.Started) (H : Type) (enc : TypeId × Value → H) :
    ReturnsInHanded {} Try.checked os 5 .any (Rows.batchRefusesSpec.pre6 enc Try.prog Try.f5 Rows.batchRefusesRow.domain false) (Rows.batchRefusesSpec.post enc Try.prog Try.f5 false true false false) := by
  refine returnsInHanded_of_change_sized (C := Try.checked) own started (by kernel_rfl) Try.func5
    (ChangeSpec.witness6 (enc := enc) (C := Try.checked) false ⟨#[], #[.slice none 0 0, .int .u8 0, .int .u8 0], []⟩ 8 (by kernel_rfl) (by kernel_rfl) (by kernel_rfl) (by kernel_rfl)) ?_
  intro W base args ds gs before hval0 hW hcnd hsz _
  have hval : ∀ (j : Nat) t v, Try.f5.params[j]? = some t → args[j]? = some v → Value.okWide Try.prog W .any base t v := hval0
  have hW' := hW
  obtain ⟨p, q, hA0, hV, rfl, hfz, hnd⟩ := hW
  have hA : DataW.TrodAll enc Try.prog W 0 (fun _ => true) true Try.f5.params.toList args.toList ds p := hA0
  rw [Try.params5] at hA hval hsz
  obtain ⟨v0, vs0, d0, ds0, p0, q0, hargs, rfl, rfl, h0, r0⟩ := trodAll_cons hA
  obtain ⟨v1, vs1, d1, ds1, p1, q1, rfl, rfl, rfl, h1, r1⟩ := trodAll_cons r0
  obtain ⟨v2, vs2, d2, ds2, p2, q2, rfl, rfl, rfl, h2, r2⟩ := trodAll_cons r1
  obtain ⟨rfl, rfl, rfl⟩ := trodAll_nil r2
  obtain rfl : args = #[v0, v1, v2] := by cases args; simp_all
  obtain ⟨rfl, rfl⟩ := trodVars_none hV
  obtain ⟨a0, len0, cap0, rfl⟩ := okWide_slice Try.underlying27 (hval 0 27 v0 rfl rfl)
  have k0 := h0
  have lt0 : ∀ x ∈ p0, x.block < W.heap.size := by obtain ⟨m, hm⟩ := k0; exact DataW.trod_lt m _ _ _ hm
  obtain ⟨z0, w0, s0⟩ : ∃ zs, IsRow .u8 W a0 len0 cap0 zs ∧ len0 ≤ 140737488355328 := by
    obtain ⟨fuel, hf⟩ := h0
    rcases open_ints Try.underlying27 Try.underlying5 (by kernel_rfl) hf with ⟨hcs, _⟩ | ⟨x, l, c, zs, hcs, _, hl, hm, hz, hdd, hcell, hwz⟩
    · simp [Value.cells] at hcs
      obtain ⟨rfl, rfl, rfl⟩ := hcs
      exact ⟨[], .inl ⟨rfl, rfl, rfl, rfl⟩, by omega⟩
    · simp [Value.cells] at hcs
      obtain ⟨rfl, rfl, rfl⟩ := hcs
      have hd' := congrArg Prod.fst hdd
      have hs := sized_slice (j := 0) hsz rfl (show (_ : List (DataW H))[0]? = some (.slice (lits .u8 (zs.take len0)) (lits .u8 (zs.drop len0))) from congrArg some hd') Try.underlying27
      have hb : Try.checked.prog.bytesOf 5 = 1 := by kernel_rfl
      rw [hb] at hs
      have hr := reachBytes_lt
      simp [lits] at hs
      exact ⟨zs, .inr ⟨_, rfl, hl, hm, by simpa using hz, hcell, hwz⟩, by simp at hz; omega⟩
  obtain ⟨a1, rfl, rfl, rfl, w1⟩ := open_int Try.underlying5 (hval 1 5 v1 rfl rfl) h1
  obtain ⟨a2, rfl, rfl, rfl, w2⟩ := open_int Try.underlying5 (hval 2 5 v2 rfl rfl) h2
  clear hA0 hval0
  refine (walk a0 len0 cap0 z0 a1 a2 W w0 s0 w1 w2).mono fun e W' ⟨he, bel⟩ => ?_
  subst he
  exact ⟨_, rfl, _, _, _, [], _, [], hW', trodAll_mk1 (shut_bool Try.underlying4 _), (trodAll_cons_mk (Below.trod laidOut (by kernel_rfl) (of_decide_eq_true (by kernel_rfl)) k0 bel lt0) (trodAll_cons_mk (shut_int Try.underlying5 w1) (trodAll_cons_mk (shut_int Try.underlying5 w2) trodAll_mk0))), rfl, bel.frame _, fun h => by cases h⟩

theorem over : Rows.batchRefusesRow.holds Try.pinned (OpenSpec.ofChange Rows.batchRefusesSpec) :=
  OpenClaim.holds_of_wide 5 Try.f5 rfl rfl rfl rfl rfl rfl rfl ⟨rfl, rfl, rfl, rfl, rfl⟩ rfl rfl rfl rfl rfl (by kernel_rfl) Try.func5 (by kernel_rfl)
    (of_decide_eq_true (by kernel_rfl)) (by unfold Func.isWrapper; first | (rw [if_pos (by decide +kernel)]; kernel_rfl) | (rw [if_neg (by decide +kernel)]; exact ⟨rfl, rfl⟩))
    (fun os started H enc _ => lifted os started H enc)

/-- THE STATEMENT -/
theorem proved : Rows.BatchRefusesSaid := over
end Go.Proofs.Ytlaomehfhooiaaa.batchRefuses
