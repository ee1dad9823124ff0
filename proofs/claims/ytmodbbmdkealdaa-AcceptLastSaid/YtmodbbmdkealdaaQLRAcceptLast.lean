/- PROVED: the statement AcceptLast of layer 14: for every input that can be read, the law returns true and leaves its arguments as they were. No condition. -/
import Derived.Test.YtmodbbmdkealdaaRows
import Derived.Test.YtmodbbmdkealdaaQL1
import Derived.WalkKit
import Derived.ProofKit
import Derived.OpenShut
import Derived.ShutString
import Derived.ChangeOld
import Derived.Below
import Derived.BigQuiet
import Derived.Lib.QuietBelow
import Derived.SizedLaws
import Derived.Deep.Cut
import Derived.Deep.CutBlock
import Derived.Deep.DeepCutAuto
namespace Go.Proofs.Ytmodbbmdkealdaa.acceptLast
open Go.ChangeShapes Go.WideShapes Go.ChangeAt Go.RowKit
open Go.ChangeMaps (open_string shut_string)
open Go.Sort (grow)
set_option linter.unusedVariables false
set_option maxRecDepth 8000
set_option linter.unusedSimpArgs false

theorem own : ownKnob Try.prog.godebug = none := by kernel_rfl
theorem laidOut : laidOutB Try.prog = true := by kernel_rfl

/-! ### STEP 1: THE WALK -/
set_option maxRecDepth 100000 in
set_option maxHeartbeats 4000000 in
theorem walk (a0 : Option Addr) (len0 cap0 : Nat) (z0 : List Int) (a1 : Int) (a2 : Option Addr) (len2 cap2 : Nat) (z2 : List Int) (a3 : Option Addr) (len3 cap3 : Nat) (z3 : List Int) (w : World) (w0 : IsRow .u8 w a0 len0 cap0 z0) (s0 : len0 ≤ 140737488355328) (w1 : (Lit.int .u8 a1).wf = true) (w2 : IsRow .u8 w a2 len2 cap2 z2) (s2 : len2 ≤ 140737488355328) (w3 : IsRow .u8 w a3 len3 cap3 z3) (s3 : len3 ≤ 140737488355328) :
    Calls Try.prog 7 #[.slice a0 len0 cap0, .int .u8 a1, .slice a2 len2 cap2, .slice a3 len3 cap3] w fun e w' => e = .returned (.bool true) ∧ Below w.heap.size w w' := by
  obtain ⟨hra, hrla⟩ := w2.rd
  generalize bytesOf z2 len2 = NA at hra hrla
  obtain ⟨hrb, hrlb⟩ := w3.rd
  generalize bytesOf z3 len3 = NB at hrb hrlb
  obtain ⟨hr0, hrl0⟩ := w0.rd
  generalize bytesOf z0 len0 = SL at hr0 hrl0
  obtain ⟨D, rfl⟩ : ∃ D : Nat, a1 = (D : Int) := Int.eq_ofNat_of_zero_le (by have := w1; simp [Lit.wf, IntKind.min, IntKind.max, IntKind.signed, IntKind.bits] at this; omega)
  have hD : D < 256 := by have := w1; simp [Lit.wf, IntKind.min, IntKind.max, IntKind.signed, IntKind.bits] at this; omega
  obtain ⟨s, hd⟩ : ∃ s, D % 9 = s := ⟨_, rfl⟩
  have hs9 : s < 9 := by omega
  have hD2 : (D : Int).tmod 9 = (s : Int) := by rw [Int.tmod_eq_emod_of_nonneg (by omega)]; omega
  have e1 : IntKind.i64.wrap (D : Int) = (D : Int) := by rw [IntKind.wrap_i64]; omega
  have e2 : IntKind.i64.wrap (1 + (s : Int)) = 1 + (s : Int) := by rw [IntKind.wrap_i64]; omega
  have C0 := Lib.hid (fun w => Ac.awake14_ok w)
  have hL4 : NA.length ≤ 4611686018427387904 := by omega
  have hL5 : NB.length ≤ 4611686018427387904 := by omega
  have CBT := Lib.hid (fun (W : World) (hb : Below w.heap.size w W) => Cm.Batch_F _ NA W (hra.later hb) hL4)
  have CBb := Lib.hid (fun (W : World) (hb : Below w.heap.size w W) => Cm.Batch_F _ NB W (hrb.later hb) hL5)
  have HY : Hid (0 < len0 → ∃ b o, a0 = some ⟨b, o, none⟩ ∧ ∀ w' : World, Below w.heap.size w w' → ∀ i, i < len0 → w'.cell? ⟨b, o + i, none⟩ = some (.int .u8 (Cm.bAtB SL i : Int))) := Lib.hid fun h0 => Cm.byte_at hr0 h0
  clear w0 w1 w2 w3 hra hrb hr0 hrla hrlb hrl0 hd hL4 hL5
  obtain ⟨B, hB⟩ : ∃ B, Cm.batchF NA = B := ⟨_, rfl⟩
  have HBD := Lib.hid hB
  clear hB
  obtain ⟨Bb, hB⟩ : ∃ B, Cm.batchF NB = B := ⟨_, rfl⟩
  have HDb := Lib.hid hB
  have HMb : Hid (Cm.mayB Bb = true) := Lib.hid (by rw [← hB]; exact Cm.batchF_may NB)
  clear hB
  have CN := Lib.hid (Ac.New_any w)
  obtain ⟨g, hgw⟩ : ∃ g, w.heap.size = g := ⟨_, rfl⟩
  rw [hgw] at CN
  have HGW := Lib.hid hgw
  clear hgw
  go_enter Try.func7, Try.ntmps7
  go_upto_region 5 with (go_at_call 10; refine CN.out.mono ?_; rintro e w1 ⟨rfl, hw⟩; have HA1 : Hid (Ac.HasA w1 g (g + 1) Ac.newA) := Lib.hid (Ac.HasA.new (by rw [hw]; exact Cm.alloc_atB _ _ _ HGW.out) (by omega) (by rw [hw]; simp [HGW.out])); have HB1 : Hid (Below w.heap.size w w1) := Lib.hid (by rw [hw]; exact newAlloc _ _); clear hw)
  go_loopw [10] (fun i wr => ∃ (I : Nat) (st : Ac.AccV), I ≤ 20 ∧ I ≤ len0 ∧ i = .int .i64 (I : Int) ∧ Hid (Ac.Good st) ∧ Hid (st.done = 0) ∧ Hid (st.ballot ≤ 1) ∧ Hid (Ac.HasA wr g (g + 1) st) ∧ Hid (Below w.heap.size w wr)) (fun i _ => 20 - (intOf i).toNat)
  case atStart => exact ⟨0, Ac.newA, by omega, by omega, rfl, Lib.hid Ac.newA_good, Lib.hid rfl, Lib.hid (by decide), HA1, HB1⟩
  case round =>
    obtain ⟨I, st, hI, hIl, rfl, HGS, HDS, HBS, HAR, HBR⟩ := hrel
    by_cases hlt : I < len0 ∧ I < 20
    · obtain ⟨hl1, hl2⟩ := hlt
      obtain ⟨b, o, rfl, hby⟩ := HY.out (by omega)
      have HKQ : Hid (∀ W, Below w.heap.size w W → W.cell? ⟨b, o + I, none⟩ = some (.int .u8 (Cm.bAtB SL I : Int))) := Lib.hid fun W hb => hby W hb I hl1
      have hx := Cm.bAtB_lt SL I
      clear hby
      generalize Cm.bAtB SL I = x at HKQ hx
      have HKP : Hid (∀ W, Below wr.heap.size wr W → W.cell? ⟨b, o + I, none⟩ = some (.int .u8 (x : Int))) := Lib.hid fun W hb => HKQ.out W (step HBR.out hb)
      obtain ⟨p, hp⟩ : ∃ p, x % 9 = p := ⟨_, rfl⟩
      have hp9 : p < 9 := by omega
      have t1 : (x : Int).tmod 9 = (p : Int) := by rw [Int.tmod_eq_emod_of_nonneg (by omega)]; omega
      have t2 : IntKind.i64.wrap (1 + (p : Int)) = 1 + (p : Int) := by rw [IntKind.wrap_i64]; omega
      have t3 : IntKind.i64.wrap (x : Int) = (x : Int) := by rw [IntKind.wrap_i64]; omega
      have i0 : (0 : Int) ≤ (I : Int) := by omega
      have i1 : (I : Int) < (len0 : Int) := by omega
      clear hp hx
      go_upto_region 7 with fail
      refine wp_region_held_drew (S := (fun W => W.cell? ⟨b, o + I, none⟩ = some (.int .u8 (x : Int)))) (by kernel_rfl) (HKP.out _ (Below.refl _ _).drew) (fun hHeld => ?_)
      obtain ⟨V, hV⟩ : ∃ V, V = wr.drew := ⟨_, rfl⟩
      have HBV : Hid (Below wr.heap.size wr V) := Lib.hid (by rw [hV]; exact (Below.refl _ _).drew)
      rw [← hV] at hHeld ⊢
      clear hV
      refine wpAnyH_take (i := 0) (v := ?_) rfl (by kernel_rfl) (by kernel_rfl) (by kernel_rfl) (fun _ _ _ h => h) (Or.inl ⟨by rfl, ?_⟩) (by assumption) ?_
      rotate_left
      · intro w hSw; (try dsimp only at hSw); go_simp <;> with_reducible rfl
      try simp only [Act.put, List.getElem_toArray, List.getElem_cons_zero, List.setIfInBounds_toArray, List.set_cons_zero, List.set_cons_succ]
      refine wpAnyH_take (i := 1) (v := ?_) rfl (by kernel_rfl) (by kernel_rfl) (by kernel_rfl) (fun _ _ _ h => h) (Or.inl ⟨by rfl, ?_⟩) (by assumption) ?_
      rotate_left
      · intro w hSw; (try dsimp only at hSw); go_simp <;> with_reducible rfl
      try simp only [Act.put, List.getElem_toArray, List.getElem_cons_succ, List.getElem_cons_zero, List.setIfInBounds_toArray, List.set_cons_zero, List.set_cons_succ]
      refine wpAnyH_take (i := 2) (v := ?_) rfl (by kernel_rfl) (by kernel_rfl) (by kernel_rfl) (fun _ _ _ h => h) (Or.inl ⟨by rfl, ?_⟩) (by assumption) ?_
      rotate_left
      · intro w hSw; (try dsimp only at hSw); go_simp <;> with_reducible rfl
      try simp only [Act.put, List.getElem_toArray, List.getElem_cons_succ, List.getElem_cons_zero, List.setIfInBounds_toArray, List.set_cons_zero, List.set_cons_succ]
      refine wpAnyH_take (i := 3) (v := ?_) rfl (by kernel_rfl) (by kernel_rfl) (by kernel_rfl) (fun _ _ _ h => h) (Or.inl ⟨by rfl, ?_⟩) (by assumption) ?_
      rotate_left
      · intro w hSw; (try dsimp only at hSw); go_simp <;> with_reducible rfl
      try simp only [Act.put, List.getElem_toArray, List.getElem_cons_succ, List.getElem_cons_zero, List.setIfInBounds_toArray, List.set_cons_zero, List.set_cons_succ]
      refine wpAnyH_take (i := 4) (v := ?_) rfl (by kernel_rfl) (by kernel_rfl) (by kernel_rfl) (fun _ _ _ h => h) (Or.inl ⟨by rfl, ?_⟩) (by assumption) ?_
      rotate_left
      · intro w hSw; (try dsimp only at hSw); go_simp <;> with_reducible rfl
      try simp only [Act.put, List.getElem_toArray, List.getElem_cons_succ, List.getElem_cons_zero, List.setIfInBounds_toArray, List.set_cons_zero, List.set_cons_succ]
      refine wpAnyH_take (i := 5) (v := ?_) rfl (by kernel_rfl) (by kernel_rfl) (by kernel_rfl) (fun _ _ _ h => h) (Or.inl ⟨by rfl, ?_⟩) (by assumption) ?_
      rotate_left
      · intro w hSw; (try dsimp only at hSw); go_simp <;> with_reducible rfl
      try simp only [Act.put, List.getElem_toArray, List.getElem_cons_succ, List.getElem_cons_zero, List.setIfInBounds_toArray, List.set_cons_zero, List.set_cons_succ]
      refine wpAnyH_take (i := 6) (v := ?_) rfl (by kernel_rfl) (by kernel_rfl) (by kernel_rfl) (fun _ _ _ h => h) (Or.inl ⟨by rfl, ?_⟩) (by assumption) ?_
      rotate_left
      · intro w hSw; (try dsimp only at hSw); go_simp <;> with_reducible rfl
      try simp only [Act.put, List.getElem_toArray, List.getElem_cons_succ, List.getElem_cons_zero, List.setIfInBounds_toArray, List.set_cons_zero, List.set_cons_succ]
      refine wpAnyH_take (i := 7) (v := ?_) rfl (by kernel_rfl) (by kernel_rfl) (by kernel_rfl) (fun _ _ _ h => h) (Or.inl ⟨by rfl, ?_⟩) (by assumption) ?_
      rotate_left
      · intro w hSw; (try dsimp only at hSw); go_simp <;> with_reducible rfl
      try simp only [Act.put, List.getElem_toArray, List.getElem_cons_succ, List.getElem_cons_zero, List.setIfInBounds_toArray, List.set_cons_zero, List.set_cons_succ]
      refine wpAnyH_take (i := 8) (v := ?_) rfl (by kernel_rfl) (by kernel_rfl) (by kernel_rfl) (fun _ _ _ h => h) (Or.inl ⟨by rfl, ?_⟩) (by assumption) ?_
      rotate_left
      · intro w hSw; (try dsimp only at hSw); go_simp <;> with_reducible rfl
      try simp only [Act.put, List.getElem_toArray, List.getElem_cons_succ, List.getElem_cons_zero, List.setIfInBounds_toArray, List.set_cons_zero, List.set_cons_succ]
      refine wpAnyH_ready (rs := [9]) (by kernel_rfl) (by simp) ?_
      refine AllReadyH.cons rfl (fun K hK => ?_) AllReadyH.nil
      go_simp
      go_at_call 11
      refine (CBT.out _ (step HBR.out HBV.out)).mono ?_
      intro e V2 hmb
      obtain ⟨u, rfl, -, ho, hb⟩ := hmb.out
      rw [HBD.out] at ho
      rw [HBD.out]
      have HBV2 := Lib.hid (step HBV.out hb)
      have HU : Hid (u.ownBlock ≠ some g) := Lib.hid (fun q => by have := (Rw.own_lt ho g q).1; have := HAR.out.lt; have := HBV.out.size; omega)
      have HRU := Lib.hid (RdX.own Cm.cellsR_length ho)
      clear hmb ho hb HBV
      unfold Cm.batVal
      dsimp only
      refine hK.out _ _ (HKP.out _ HBV2.out) (fun hHeld => ?_)
      clear hK K
      try simp only [Act.put, List.getElem_toArray, List.getElem_cons_succ, List.getElem_cons_zero, List.setIfInBounds_toArray, List.set_cons_zero, List.set_cons_succ]
      have CA := Lib.hid (Ac.Accept_any g (g + 1) st 1 (1 + (p : Int)) B u V2 (HAR.out.later HBV2.out) HGS.out HRU.out HU.out)
      unfold Cm.batVal at CA
      refine wpAnyH_ready (rs := [10]) (by kernel_rfl) (by simp) ?_
      refine AllReadyH.cons rfl (fun K hK => ?_) AllReadyH.nil
      go_simp
      go_at_call 14
      refine CA.out.mono ?_
      rintro e V3 ⟨rfl, ha, hg⟩
      have HA3 := Lib.hid ha
      have HB3 := Lib.hid (Ac.step_gr (step HBR.out HBV2.out) hg (by rw [HGW.out]; exact Nat.le_refl _) (step HBR.out HBV2.out).size)
      clear ha hg CA
      refine hK.out _ _ (HKQ.out _ HB3.out) (fun hHeld => ?_)
      clear hK K
      try simp only [Act.put, List.getElem_toArray, List.getElem_cons_succ, List.getElem_cons_zero, List.setIfInBounds_toArray, List.set_cons_zero, List.set_cons_succ]
      refine wpAnyH_done (by kernel_rfl) ?_ _
      go_wp2
      go_roundw
      case rel => exact ⟨I + 1, (Ac.accF st 1 (1 + (p : Int)) B).1, by omega, by omega, by go_num, Lib.hid (HGS.out.acc _ _ _), Lib.hid ((Ac.acc_done _ _ _ _).trans HDS.out), Lib.hid (Ac.acc_ballot _ _ _ _ _ HBS.out (by decide)), HA3, HB3⟩
      case measure => simp [intOf]; omega
    · have d0 : I < len0 ∧ ¬ I < 20 ∨ ¬ I < len0 := by
        by_cases q : I < len0
        · exact .inl ⟨q, by omega⟩
        · exact .inr q
      obtain ⟨l0, hl0⟩ : ∃ l0, st.votes = l0 := ⟨_, rfl⟩
      have HL0 : Hid (Ac.GoodL 0 l0) := Lib.hid (by have := HGS.out.list; rw [HDS.out, hl0] at this; exact this)
      have ha1 : Ac.accF st 2 (1 + (s : Int)) Bb = (⟨2, 0, Ac.putV ⟨1 + (s : Int), 2, Bb⟩ l0⟩, 0) := by
        have hb := HBS.out
        have hdn := HDS.out
        unfold Ac.accF
        rw [if_neg (by rw [HMb.out]; simp [Cm.highF]; omega), if_neg (show ¬ ((2 : Int) < st.ballot ∨ 1 + (s : Int) ≤ st.done) by omega), if_neg (show ¬ (st.done + 9 < 1 + (s : Int)) by omega), hdn, hl0]
      have hG2 : Ac.Good ⟨2, 0, Ac.putV ⟨1 + (s : Int), 2, Bb⟩ l0⟩ := by have := HGS.out.acc 2 (1 + (s : Int)) Bb; rw [ha1] at this; exact this
      have ha2 : Ac.accF ⟨2, 0, Ac.putV ⟨1 + (s : Int), 2, Bb⟩ l0⟩ 2 (1 + (s : Int)) ⟨false, -1, 0, 0, 0, []⟩ = (⟨2, 0, Ac.putV ⟨1 + (s : Int), 2, Bb⟩ l0⟩, 1) := by
        unfold Ac.accF
        rw [if_pos (by simp [Cm.mayB, Cm.highF])]
      have ha3 : Ac.accF ⟨2, 0, Ac.putV ⟨1 + (s : Int), 2, Bb⟩ l0⟩ 2 0 Bb = (⟨2, 0, Ac.putV ⟨1 + (s : Int), 2, Bb⟩ l0⟩, 1) := by
        unfold Ac.accF
        rw [if_pos (by simp [Cm.highF])]
      have hp4 : Ac.promF ⟨2, 0, Ac.putV ⟨1 + (s : Int), 2, Bb⟩ l0⟩ (-1) = (⟨2, 0, Ac.putV ⟨1 + (s : Int), 2, Bb⟩ l0⟩, 1) := by
        unfold Ac.promF
        rw [if_pos (by simp [Cm.highF])]
      have CV := Lib.hid (fun (w' : World) h => Ac.Votes_any g (g + 1) st w' h HGS.out)
      rw [hl0] at CV
      have CA1 := Lib.hid (fun (w' : World) h u hr hu => Ac.Accept_any g (g + 1) st 2 (1 + (s : Int)) Bb u w' h HGS.out hr hu)
      rw [ha1] at CA1
      have CA2 := Lib.hid (fun (w' : World) h => Ac.Accept_any g (g + 1) ⟨2, 0, Ac.putV ⟨1 + (s : Int), 2, Bb⟩ l0⟩ 2 (1 + (s : Int)) ⟨false, -1, 0, 0, 0, []⟩ (.slice none 0 0) w' h hG2 (RdX.nil _) (by intro q; cases q))
      rw [ha2] at CA2
      have CA3 := Lib.hid (fun (w' : World) h u hr hu => Ac.Accept_any g (g + 1) ⟨2, 0, Ac.putV ⟨1 + (s : Int), 2, Bb⟩ l0⟩ 2 0 Bb u w' h hG2 hr hu)
      rw [ha3] at CA3
      have CP4 := Lib.hid (fun (w' : World) h => Ac.Promise_any g (g + 1) ⟨2, 0, Ac.putV ⟨1 + (s : Int), 2, Bb⟩ l0⟩ (-1) w' h)
      rw [hp4] at CP4
      have CV2 := Lib.hid (fun (w' : World) h => Ac.Votes_any g (g + 1) ⟨2, 0, Ac.putV ⟨1 + (s : Int), 2, Bb⟩ l0⟩ w' h hG2)
      have HLEN0 : Hid (l0.length ≤ 9) := Lib.hid (by rw [← hl0]; exact Ac.good_len HGS.out)
      have HLEN1 : Hid ((Ac.putV ⟨1 + (s : Int), 2, Bb⟩ l0).length ≤ 9) := Lib.hid (Ac.good_len hG2)
      unfold Cm.batVal at CA1 CA2 CA3
      obtain ⟨S2, hS2⟩ : ∃ S2 : Ac.AccV, S2 = ⟨2, 0, Ac.putV ⟨1 + (s : Int), 2, Bb⟩ l0⟩ := ⟨_, rfl⟩
      rw [← hS2] at CA1 CA2 CA3 CP4 CV2
      have HS2V : Hid (S2.votes = Ac.putV ⟨1 + (s : Int), 2, Bb⟩ l0) := Lib.hid (by rw [hS2])
      rw [HS2V.out] at CV2
      clear hG2 ha1 ha2 ha3 hp4 hl0 hS2 HY HGS HDS HBS HS2V
      rcases d0 with ⟨d1, d2⟩ | d1 <;>
      · go_upto_region 9 with (go_at_call 21; refine (CV.out _ HAR.out).mono ?_; rintro e w4 ⟨v, L, rfl, hL, ho, hb⟩; have HA4 := Lib.hid (HAR.out.later hb); have HB4 := Lib.hid (step HBR.out hb); have HL := Lib.hid hL; have HO4 := Lib.hid ho; have HGL : Hid (g < wr.heap.size) := Lib.hid HAR.out.lt; clear ho hb hL)
        obtain ⟨va, vc, hv⟩ := HO4.out.rd.form
        subst hv
        clear CV HAR HBR
        go_upto_region 11 with (first
          | (go_at_call 11; refine (CBb.out _ HB4.out).mono ?_; intro e w5 hmb; obtain ⟨u5, rfl, hm, ho, hb⟩ := hmb.out; rw [HDb.out] at hm ho; rw [HDb.out]; have HA5 := Lib.hid (HA4.out.later hb); have HB5 := Lib.hid (step HB4.out hb); have HU5 : Hid (u5.ownBlock ≠ some g) := Lib.hid (fun q => by (have := (Rw.own_lt ho g q).1; have := HA4.out.lt; omega)); have HR5 := Lib.hid (RdX.own Cm.cellsR_length ho); have HO5 := Lib.hid (HO4.out.later hb); clear hmb hm ho hb; unfold Cm.batVal; dsimp only)
          | (go_at_call 14; refine (CA1.out _ HA5.out u5 HR5.out HU5.out).mono ?_; rintro e w6 ⟨rfl, ha, hg⟩; have HA6 := Lib.hid ha; have HB6 := Lib.hid (Ac.step_gr HB5.out hg (by rw [HGW.out]; exact Nat.le_refl _) HB5.out.size); have HO6 := Lib.hid (HO5.out.keep hg HGL.out); clear ha hg; dsimp only))
        go_upto_region 12 with (go_at_call 14; refine (CA2.out _ HA6.out).mono ?_; rintro e w7 ⟨rfl, ha, hg⟩; have HA7 := Lib.hid ha; have HB7 := Lib.hid (Ac.step_gr HB6.out hg (by rw [HGW.out]; exact Nat.le_refl _) HB6.out.size); have HO7 := Lib.hid (HO6.out.keep hg HGL.out); clear ha hg; dsimp only)
        go_upto_region 13 with (first
          | (go_at_call 11; refine (CBb.out _ HB7.out).mono ?_; intro e w8 hmb; obtain ⟨u8, rfl, hm, ho, hb⟩ := hmb.out; rw [HDb.out] at hm ho; rw [HDb.out]; have HA8 := Lib.hid (HA7.out.later hb); have HB8 := Lib.hid (step HB7.out hb); have HU8 : Hid (u8.ownBlock ≠ some g) := Lib.hid (fun q => by (have := (Rw.own_lt ho g q).1; have := HA7.out.lt; omega)); have HR8 := Lib.hid (RdX.own Cm.cellsR_length ho); have HO8 := Lib.hid (HO7.out.later hb); clear hmb hm ho hb; unfold Cm.batVal; dsimp only)
          | (go_at_call 14; refine (CA3.out _ HA8.out u8 HR8.out HU8.out).mono ?_; rintro e w9 ⟨rfl, ha, hg⟩; have HA9 := Lib.hid ha; have HB9 := Lib.hid (Ac.step_gr HB8.out hg (by rw [HGW.out]; exact Nat.le_refl _) HB8.out.size); have HO9 := Lib.hid (HO8.out.keep hg HGL.out); clear ha hg; dsimp only))
        go_upto_region 14 with (go_at_call 12; refine (CP4.out _ HA9.out).mono ?_; rintro e w10 ⟨rfl, ha, hg⟩; have HA10 := Lib.hid ha; have HB10 := Lib.hid (Ac.step_gr HB9.out hg (by rw [HGW.out]; exact Nat.le_refl _) HB9.out.size); have HO10 := Lib.hid (HO9.out.keep hg HGL.out); clear ha hg; dsimp only)
        go_upto_region 15 with (go_at_call 21; refine (CV2.out _ HA10.out).mono ?_; rintro e w11 ⟨v, K, rfl, hK, ho, hb⟩; have HB11 := Lib.hid (step HB10.out hb); have HK := Lib.hid hK; have HQ11 := Lib.hid ho.rd; have HO11 := Lib.hid (HO10.out.later hb).rd; clear ho hb hK)
        obtain ⟨ka, kc, hv⟩ := HQ11.out.form
        subst hv
        clear HA4 HB4 HO4 HA5 HB5 HO5 HA6 HB6 HO6 HA7 HB7 HO7 HA8 HB8 HO8 HA9 HB9 HO9 HA10 HB10 HO10 HR5 HU5 HR8 HU8 CA1 CA2 CA3 CP4 CV2
        obtain ⟨PV, hPV⟩ : ∃ PV, Ac.putV ⟨(1 + (s : Int)), 2, Bb⟩ l0 = PV := ⟨_, rfl⟩
        rw [hPV] at HK HLEN1
        have HPV := Lib.hid hPV
        clear hPV
        obtain ⟨n1, hn1⟩ : ∃ n1, K.length = n1 := ⟨_, rfl⟩
        obtain ⟨n0, hn0⟩ : ∃ n0, L.length = n0 := ⟨_, rfl⟩
        have HN1 := Lib.hid hn1
        have HN0 := Lib.hid hn0
        have HPL : Hid (PV.length = n1) := Lib.hid (by rw [← HK.out, Ac.valsV_length, hn1])
        have HLL : Hid (l0.length = n0) := Lib.hid (by rw [← HL.out, Ac.valsV_length, hn0])
        have h19 : n1 ≤ 9 := by rw [← HPL.out]; exact HLEN1.out
        have h09 : n0 ≤ 9 := by rw [← HLL.out]; exact HLEN0.out
        have hcK := Ac.RdX.cap HQ11.out.row
        have hcL := Ac.RdX.cap HO11.out.row
        rw [hn1] at hcK ⊢
        rw [hn0] at hcL ⊢
        have HCK := Lib.hid hcK
        have HCL := Lib.hid hcL
        clear hn1 hn0 hcK hcL
        have HKT := Lib.hid (fun i hi => Ac.rdv_at HQ11.out.row i hi)
        have HLT := Lib.hid (fun i hi => Ac.rdv_at HO11.out.row i hi)
        have HKV : Hid (∀ i (hi : i < K.length) (hp : i < PV.length), PV[i] = K[i].val) := Lib.hid fun i hi hp => by
          have h := Ac.valsV_get K i hi (by rw [Ac.valsV_length]; exact hi)
          simp only [HK.out] at h
          exact h
        have HLV : Hid (∀ i (hi : i < L.length) (hp : i < l0.length), l0[i] = L[i].val) := Lib.hid fun i hi hp => by
          have h := Ac.valsV_get L i hi (by rw [Ac.valsV_length]; exact hi)
          simp only [HL.out] at h
          exact h
        have HV : Hid (∀ x ∈ PV, x.slot = (1 + (s : Int)) → x = ⟨(1 + (s : Int)), 2, Bb⟩) := Lib.hid fun x hx e => by
          have h2 : PV.Pairwise fun x y => x.slot < y.slot := by rw [← HPV.out]; exact Ac.putV_rise _ _ HL0.out.rise
          exact Ac.rise_inj h2 hx (by rw [← HPV.out]; exact Ac.putV_mem _ _) e
        go_wp2
        go_loopw [18, 19] (fun f i wx => ∃ i' : Nat, i' ≤ n1 ∧ i = .int .i64 (i' : Int) ∧ f = .bool ((PV.take i').any fun y => decide (y.slot = (1 + (s : Int)))) ∧ Hid (Below w11.heap.size w11 wx)) (fun _ i _ => n1 - (intOf i).toNat)
        case atStart => exact ⟨0, by omega, rfl, rfl, Lib.hid (Below.refl _ _)⟩
        case round =>
          obtain ⟨i, hi, rfl, rfl, HBX⟩ := hrel
          by_cases hil : i < n1
          · have hiK : i < K.length := by rw [HN1.out]; exact hil
            have hiP : i < PV.length := by rw [HPL.out]; exact hil
            obtain ⟨bv, ov, rfl, hc⟩ := HKT.out i hiK
            have hany : (PV.take (i + 1)).any (fun y => decide (y.slot = (1 + (s : Int)))) = ((PV.take i).any (fun y => decide (y.slot = (1 + (s : Int)))) || decide (K[i].slot = (1 + (s : Int)))) := by
              rw [List.take_succ_eq_append_getElem hiP, List.any_append, HKV.out i hiK hiP]
              simp [Ac.VoteC.val]
            have hval : K[i].slot = (1 + (s : Int)) → K[i].val = ⟨(1 + (s : Int)), 2, Bb⟩ := fun e => by
              have h := HV.out PV[i] (List.getElem_mem hiP)
              rw [HKV.out i hiK hiP] at h
              exact h e
            have hrx := HQ11.out.reqs K[i] (List.getElem_mem hiK)
            generalize (PV.take i).any (fun y => decide (y.slot = (1 + (s : Int)))) = F0 at hany ⊢
            generalize K[i] = x at hc hany hval hrx
            obtain ⟨x1, x2, ⟨x3, x4, x5, x6, x7, x8⟩, xa, xc⟩ := x
            unfold Ac.VoteC.u at hc hrx
            unfold Ac.VoteC.val at hval
            dsimp only at hc hany hval hrx
            obtain ⟨q0, -⟩ := hc _ HBX.out
            have HBI : Hid (Below w.heap.size w wr) := Lib.hid (step HB11.out HBX.out)
            have k1 : (i : Int) < (n1 : Int) := by omega
            by_cases e : x1 = (1 + (s : Int))
            · have hv2 := hval e
              subst e
              injection hv2 with g1 g2 g3
              subst g2 g3
              have HF := Lib.hid hany
              have HRX : Hid (Cm.RdR wr (.slice xa x8.length xc) x8) := Lib.hid (hrx.later HBX.out)
              have HKX : Hid (∀ W, Below wr.heap.size wr W → W.cell? ⟨bv, ov + i * 8 + 1, none⟩ = some (.int .i64 2) ∧ W.cell? ⟨bv, ov + i * 8 + 2, none⟩ = some (.bool x3) ∧ W.cell? ⟨bv, ov + i * 8 + 3, none⟩ = some (.int .i64 x4) ∧ W.cell? ⟨bv, ov + i * 8 + 4, none⟩ = some (.int .i64 x5) ∧ W.cell? ⟨bv, ov + i * 8 + 5, none⟩ = some (.int .i64 x6) ∧ W.cell? ⟨bv, ov + i * 8 + 6, none⟩ = some (.int .i64 x7) ∧ W.cell? ⟨bv, ov + i * 8 + 7, none⟩ = some (.slice xa x8.length xc)) := Lib.hid fun W hb => (hc W (step HBX.out hb)).2
              have CS := Lib.hid (fun v W h1 h2 => Cm.RefSameB_any ⟨x3, x4, x5, x6, x7, x8⟩ ⟨x3, x4, x5, x6, x7, x8⟩ (.slice xa x8.length xc) v W h1 h2)
              rw [Cm.sameB_refl] at CS
              unfold Cm.batVal at CS
              dsimp only at CS
              clear hc hany hval hrx HKT HLT HKV HLV
              go_upto_region 20 with fail
              clear q0
              refine wp_region_held_drew (S := (fun W => W.cell? ⟨bv, ov + i * 8 + 1, none⟩ = some (.int .i64 2) ∧ W.cell? ⟨bv, ov + i * 8 + 2, none⟩ = some (.bool x3) ∧ W.cell? ⟨bv, ov + i * 8 + 3, none⟩ = some (.int .i64 x4) ∧ W.cell? ⟨bv, ov + i * 8 + 4, none⟩ = some (.int .i64 x5) ∧ W.cell? ⟨bv, ov + i * 8 + 5, none⟩ = some (.int .i64 x6) ∧ W.cell? ⟨bv, ov + i * 8 + 6, none⟩ = some (.int .i64 x7) ∧ W.cell? ⟨bv, ov + i * 8 + 7, none⟩ = some (.slice xa x8.length xc))) (by kernel_rfl) (HKX.out _ (Below.refl _ _).drew) (fun hHeld => ?_)
              obtain ⟨V, hV⟩ : ∃ V, V = wr.drew := ⟨_, rfl⟩
              have HBV : Hid (Below wr.heap.size wr V) := Lib.hid (by rw [hV]; exact (Below.refl _ _).drew)
              rw [← hV] at hHeld ⊢
              clear hV
              refine wpAnyH_take (i := 0) (v := ?_) rfl (by kernel_rfl) (by kernel_rfl) (by kernel_rfl) (fun _ _ _ h => h) (Or.inl ⟨by rfl, ?_⟩) (by assumption) ?_
              rotate_left
              · intro w hSw; (try dsimp only at hSw); go_simp <;> with_reducible rfl
              try simp only [Act.put, List.getElem_toArray, List.getElem_cons_zero, List.setIfInBounds_toArray, List.set_cons_zero, List.set_cons_succ]
              refine wpAnyH_take (i := 1) (v := ?_) rfl (by kernel_rfl) (by kernel_rfl) (by kernel_rfl) (fun _ _ _ h => h) (Or.inl ⟨by rfl, ?_⟩) (by assumption) ?_
              rotate_left
              · intro w hSw; (try dsimp only at hSw); go_simp <;> with_reducible rfl
              try simp only [Act.put, List.getElem_toArray, List.getElem_cons_succ, List.getElem_cons_zero, List.setIfInBounds_toArray, List.set_cons_zero, List.set_cons_succ]
              refine wpAnyH_take (i := 2) (v := ?_) rfl (by kernel_rfl) (by kernel_rfl) (by kernel_rfl) (fun _ _ _ h => h) (Or.inl ⟨by rfl, ?_⟩) (by assumption) ?_
              rotate_left
              · intro w hSw; (try dsimp only at hSw); go_simp <;> with_reducible rfl
              try simp only [Act.put, List.getElem_toArray, List.getElem_cons_succ, List.getElem_cons_zero, List.setIfInBounds_toArray, List.set_cons_zero, List.set_cons_succ]
              refine wpAnyH_take (i := 3) (v := ?_) rfl (by kernel_rfl) (by kernel_rfl) (by kernel_rfl) (fun _ _ _ h => h) (Or.inl ⟨by rfl, ?_⟩) (by assumption) ?_
              rotate_left
              · intro w hSw; (try dsimp only at hSw); go_simp <;> with_reducible rfl
              try simp only [Act.put, List.getElem_toArray, List.getElem_cons_succ, List.getElem_cons_zero, List.setIfInBounds_toArray, List.set_cons_zero, List.set_cons_succ]
              refine wpAnyH_take (i := 4) (v := ?_) rfl (by kernel_rfl) (by kernel_rfl) (by kernel_rfl) (fun _ _ _ h => h) (Or.inl ⟨by rfl, ?_⟩) (by assumption) ?_
              rotate_left
              · intro w hSw; (try dsimp only at hSw); go_simp <;> with_reducible rfl
              try simp only [Act.put, List.getElem_toArray, List.getElem_cons_succ, List.getElem_cons_zero, List.setIfInBounds_toArray, List.set_cons_zero, List.set_cons_succ]
              refine wpAnyH_take (i := 5) (v := ?_) rfl (by kernel_rfl) (by kernel_rfl) (by kernel_rfl) (fun _ _ _ h => h) (Or.inl ⟨by rfl, ?_⟩) (by assumption) ?_
              rotate_left
              · intro w hSw; (try dsimp only at hSw); go_simp <;> with_reducible rfl
              try simp only [Act.put, List.getElem_toArray, List.getElem_cons_succ, List.getElem_cons_zero, List.setIfInBounds_toArray, List.set_cons_zero, List.set_cons_succ]
              refine wpAnyH_take (i := 6) (v := ?_) rfl (by kernel_rfl) (by kernel_rfl) (by kernel_rfl) (fun _ _ _ h => h) (Or.inl ⟨by rfl, ?_⟩) (by assumption) ?_
              rotate_left
              · intro w hSw; (try dsimp only at hSw); go_simp <;> with_reducible rfl
              try simp only [Act.put, List.getElem_toArray, List.getElem_cons_succ, List.getElem_cons_zero, List.setIfInBounds_toArray, List.set_cons_zero, List.set_cons_succ]
              refine wpAnyH_take (i := 7) (v := ?_) rfl (by kernel_rfl) (by kernel_rfl) (by kernel_rfl) (fun _ _ _ h => h) (Or.inl ⟨by rfl, ?_⟩) (by assumption) ?_
              rotate_left
              · intro w hSw; (try dsimp only at hSw); go_simp <;> with_reducible rfl
              try simp only [Act.put, List.getElem_toArray, List.getElem_cons_succ, List.getElem_cons_zero, List.setIfInBounds_toArray, List.set_cons_zero, List.set_cons_succ]
              refine wpAnyH_take (i := 8) (v := ?_) rfl (by kernel_rfl) (by kernel_rfl) (by kernel_rfl) (fun _ _ _ h => h) (Or.inl ⟨by rfl, ?_⟩) (by assumption) ?_
              rotate_left
              · intro w hSw; (try dsimp only at hSw); go_simp <;> with_reducible rfl
              try simp only [Act.put, List.getElem_toArray, List.getElem_cons_succ, List.getElem_cons_zero, List.setIfInBounds_toArray, List.set_cons_zero, List.set_cons_succ]
              refine wpAnyH_take (i := 9) (v := ?_) rfl (by kernel_rfl) (by kernel_rfl) (by kernel_rfl) (fun _ _ _ h => h) (Or.inl ⟨by rfl, ?_⟩) (by assumption) ?_
              rotate_left
              · intro w hSw; (try dsimp only at hSw); go_simp <;> with_reducible rfl
              try simp only [Act.put, List.getElem_toArray, List.getElem_cons_succ, List.getElem_cons_zero, List.setIfInBounds_toArray, List.set_cons_zero, List.set_cons_succ]
              refine wpAnyH_take (i := 10) (v := ?_) rfl (by kernel_rfl) (by kernel_rfl) (by kernel_rfl) (fun _ _ _ h => h) (Or.inl ⟨by rfl, ?_⟩) (by assumption) ?_
              rotate_left
              · intro w hSw; (try dsimp only at hSw); go_simp <;> with_reducible rfl
              try simp only [Act.put, List.getElem_toArray, List.getElem_cons_succ, List.getElem_cons_zero, List.setIfInBounds_toArray, List.set_cons_zero, List.set_cons_succ]
              refine wpAnyH_take (i := 11) (v := ?_) rfl (by kernel_rfl) (by kernel_rfl) (by kernel_rfl) (fun _ _ _ h => h) (Or.inl ⟨by rfl, ?_⟩) (by assumption) ?_
              rotate_left
              · intro w hSw; (try dsimp only at hSw); go_simp <;> with_reducible rfl
              try simp only [Act.put, List.getElem_toArray, List.getElem_cons_succ, List.getElem_cons_zero, List.setIfInBounds_toArray, List.set_cons_zero, List.set_cons_succ]
              refine wpAnyH_take (i := 12) (v := ?_) rfl (by kernel_rfl) (by kernel_rfl) (by kernel_rfl) (fun _ _ _ h => h) (Or.inl ⟨by rfl, ?_⟩) (by assumption) ?_
              rotate_left
              · intro w hSw; (try dsimp only at hSw); go_simp <;> with_reducible rfl
              try simp only [Act.put, List.getElem_toArray, List.getElem_cons_succ, List.getElem_cons_zero, List.setIfInBounds_toArray, List.set_cons_zero, List.set_cons_succ]
              refine wpAnyH_ready (rs := [13]) (by kernel_rfl) (by simp) ?_
              refine AllReadyH.cons rfl (fun K hK => ?_) AllReadyH.nil
              go_simp
              go_at_call 11
              refine (CBb.out _ (step HBI.out HBV.out)).mono ?_
              intro e V2 hmb
              obtain ⟨u, rfl, -, ho, hb⟩ := hmb.out
              rw [HDb.out] at ho
              rw [HDb.out]
              have HR2 := Lib.hid (RdX.own Cm.cellsR_length ho)
              have HBV2 := Lib.hid (step HBV.out hb)
              clear hmb ho hb HBV
              unfold Cm.batVal
              dsimp only
              refine hK.out _ _ (HKX.out _ HBV2.out) (fun hHeld => ?_)
              clear hK K
              try simp only [Act.put, List.getElem_toArray, List.getElem_cons_succ, List.getElem_cons_zero, List.setIfInBounds_toArray, List.set_cons_zero, List.set_cons_succ]
              refine wpAnyH_ready (rs := [14]) (by kernel_rfl) (by simp) ?_
              refine AllReadyH.cons rfl (fun K hK => ?_) AllReadyH.nil
              go_simp
              go_at_call 22
              refine (CS.out _ _ (HRX.out.later HBV2.out) HR2.out).mono ?_
              rintro e V3 ⟨rfl, hb⟩
              have HBV3 := Lib.hid (step HBV2.out hb)
              clear hb
              refine hK.out _ _ (HKX.out _ HBV3.out) (fun hHeld => ?_)
              clear hK K
              try simp only [Act.put, List.getElem_toArray, List.getElem_cons_succ, List.getElem_cons_zero, List.setIfInBounds_toArray, List.set_cons_zero, List.set_cons_succ]
              refine wpAnyH_take (i := 15) (v := ?_) rfl (by kernel_rfl) (by kernel_rfl) (by kernel_rfl) (fun _ _ _ h => h) (Or.inl ⟨by rfl, ?_⟩) (by assumption) ?_
              rotate_left
              · intro w hSw; (try dsimp only at hSw); go_simp <;> with_reducible rfl
              try simp only [Act.put, List.getElem_toArray, List.getElem_cons_succ, List.getElem_cons_zero, List.setIfInBounds_toArray, List.set_cons_zero, List.set_cons_succ]
              refine wpAnyH_take (i := 16) (v := ?_) rfl (by kernel_rfl) (by kernel_rfl) (by kernel_rfl) (fun _ _ _ h => h) (Or.inl ⟨by rfl, ?_⟩) (by assumption) ?_
              rotate_left
              · intro w hSw; (try dsimp only at hSw); go_simp <;> with_reducible rfl
              try simp only [Act.put, List.getElem_toArray, List.getElem_cons_succ, List.getElem_cons_zero, List.setIfInBounds_toArray, List.set_cons_zero, List.set_cons_succ]
              refine wpAnyH_done (by kernel_rfl) ?_ _
              go_wp2
              go_roundw
              case rel => exact ⟨i + 1, by omega, by go_num, by rw [HF.out, decide_eq_true rfl, Bool.or_true], Lib.hid (step HBX.out HBV3.out)⟩
              case measure => simp [intOf]; omega
            · rw [decide_eq_false e, Bool.or_false] at hany
              have HF := Lib.hid hany
              have e5 : (x1 == (1 + (s : Int))) = false := by simpa using e
              clear hc hany hval hrx HKT HLT HKV HLV e
              go_wp2
              go_roundw
              case rel => exact ⟨i + 1, by omega, by go_num, by rw [HF.out], HBX⟩
              case measure => simp [intOf]; omega
          · obtain rfl : i = n1 := by omega
            have hall : (PV.take i).any (fun y => decide (y.slot = (1 + (s : Int)))) = true := by
              rw [← HPL.out, List.take_length, List.any_eq_true]
              exact ⟨⟨(1 + (s : Int)), 2, Bb⟩, by rw [← HPV.out]; exact Ac.putV_mem _ _, decide_eq_true rfl⟩
            rw [hall]
            clear hall
            go_wp2
            go_loopw [20, 21, 22] (fun c j _ wx => ∃ j' : Nat, j' ≤ n0 ∧ j = .int .i64 (j' : Int) ∧ c = .int .i64 ((Ac.othV (l0.take j') (1 + (s : Int)) : Nat) : Int) ∧ Hid (Below w11.heap.size w11 wx)) (fun _ j _ _ => n0 - (intOf j).toNat)
            case atStart => exact ⟨0, by omega, rfl, rfl, HBX⟩
            case round =>
              obtain ⟨j, hj, rfl, rfl, HBY⟩ := hrel
              by_cases hjl : j < n0
              · have hjL : j < L.length := by rw [HN0.out]; exact hjl
                have hjP : j < l0.length := by rw [HLL.out]; exact hjl
                have hoth := Ac.othV_next l0 j hjP (1 + (s : Int))
                have hcnt := Ac.cntV_put (v := ⟨(1 + (s : Int)), 2, Bb⟩) HL0.out.rise (List.getElem_mem hjP)
                rw [HPV.out] at hcnt
                have hsam : ∀ y ∈ PV, l0[j].slot = y.slot → l0[j].slot ≠ (1 + (s : Int)) → l0[j] = y := fun y hy e hne => Ac.putV_same (v := ⟨(1 + (s : Int)), 2, Bb⟩) HL0.out.rise (List.getElem_mem hjP) (by rw [HPV.out]; exact hy) e hne
                rw [HLV.out j hjL hjP] at hoth hcnt hsam
                have HOTH := Lib.hid hoth
                have HCNT := Lib.hid hcnt
                have HSAM := Lib.hid hsam
                clear hoth hcnt hsam
                have hle : Ac.othV (l0.take j) (1 + (s : Int)) ≤ 9 := Nat.le_trans (List.length_filter_le _ _) (by rw [List.length_take]; omega)
                generalize Ac.othV (l0.take j) (1 + (s : Int)) = o0 at HOTH hle ⊢
                go_wp2
                go_loopw [20, 22] (fun c k wx => ∃ k' : Nat, k' ≤ i ∧ k = .int .i64 (k' : Int) ∧ c = .int .i64 ((o0 + Ac.cntV (PV.take k') L[j].val.slot (1 + (s : Int)) : Nat) : Int) ∧ Hid (Below w11.heap.size w11 wx)) (fun _ k _ => i - (intOf k).toNat)
                case atStart => exact ⟨0, by omega, rfl, by rw [List.take_zero, Ac.cntV_zero, Nat.add_zero], HBY⟩
                case round =>
                  obtain ⟨k, hk, rfl, rfl, HBZ⟩ := hrel
                  by_cases hkl : k < i
                  · have hkK : k < K.length := by rw [HN1.out]; exact hkl
                    have hkP : k < PV.length := by rw [HPL.out]; exact hkl
                    obtain ⟨bv, ov, rfl, hc⟩ := HKT.out k hkK
                    obtain ⟨bw, ow, rfl, hc2⟩ := HLT.out j hjL
                    obtain ⟨q0, -⟩ := hc _ HBZ.out
                    obtain ⟨p0, -⟩ := hc2 _ HBZ.out
                    have hnx := Ac.cntV_next PV k hkP L[j].val.slot (1 + (s : Int))
                    rw [HKV.out k hkK hkP] at hnx
                    have hcl : Ac.cntV (PV.take k) L[j].val.slot (1 + (s : Int)) ≤ 9 := Nat.le_trans (List.length_filter_le _ _) (by rw [List.length_take]; omega)
                    have hsm : L[j].val.slot = K[k].val.slot → L[j].val.slot ≠ (1 + (s : Int)) → L[j].val = K[k].val := fun e hne => by
                      have h := HSAM.out PV[k] (List.getElem_mem hkP)
                      rw [HKV.out k hkK hkP] at h
                      exact h e hne
                    have hs1 : ∀ c, 1 ≤ c → c ≤ maxLen → Ac.RdV w11 (.slice (some ⟨bw, ow + j * 8, none⟩) 1 c) [L[j]] := fun c h1 h2 => HO11.out.sub1 j hjL c h1 h2
                    have hs2 : ∀ c, 1 ≤ c → c ≤ maxLen → Ac.RdV w11 (.slice (some ⟨bv, ov + k * 8, none⟩) 1 c) [K[k]] := fun c h1 h2 => HQ11.out.sub1 k hkK c h1 h2
                    have HS1 := Lib.hid hs1
                    have HS2 := Lib.hid hs2
                    rw [show L[j].val.slot = L[j].slot from rfl, show K[k].val.slot = K[k].slot from rfl] at hnx hsm
                    rw [show L[j].val.slot = L[j].slot from rfl] at hcl ⊢
                    clear hc hc2 hs1 hs2
                    generalize Ac.cntV (PV.take k) L[j].slot (1 + (s : Int)) = c0 at hnx hcl ⊢
                    have k1 : (k : Int) < (i : Int) := by omega
                    have k2 : (j : Int) < (n0 : Int) := by omega
                    by_cases e : L[j].slot = K[k].slot
                    case neg =>
                      rw [if_neg (fun q => e q.1), Nat.add_zero] at hnx
                      have HF := Lib.hid hnx
                      have e5 : (L[j].slot == K[k].slot) = false := by simpa using e
                      generalize L[j].slot = x1 at *
                      generalize K[k].slot = y1 at *
                      clear hnx hsm e
                      go_upto_region 28 with fail
                      go_quiet (fail)
                      go_wp2
                      go_roundw
                      case rel => exact ⟨k + 1, by omega, by go_num, by rw [HF.out]; rfl, Lib.hid (Cm.below_drewB HBZ.out nq)⟩
                      case measure => simp [intOf]; omega
                    by_cases e2 : L[j].slot = (1 + (s : Int))
                    case pos =>
                      rw [if_neg (fun q => q.2 e2), Nat.add_zero] at hnx
                      have HF := Lib.hid hnx
                      have e5 : (L[j].slot == K[k].slot) = true := by simpa using e
                      have e6 : (L[j].slot != (1 + (s : Int))) = false := by simpa using e2
                      generalize L[j].slot = x1 at *
                      generalize K[k].slot = y1 at *
                      clear hnx hsm e e2
                      go_upto_region 28 with fail
                      go_quiet (fail)
                      go_wp2
                      go_roundw
                      case rel => exact ⟨k + 1, by omega, by go_num, by rw [HF.out]; rfl, Lib.hid (Cm.below_drewB HBZ.out nq)⟩
                      case measure => simp [intOf]; omega
                    rw [if_pos ⟨e, e2⟩] at hnx
                    have HF := Lib.hid hnx
                    have e5 : (L[j].slot == K[k].slot) = true := by simpa using e
                    have e6 : (L[j].slot != (1 + (s : Int))) = true := by simpa using e2
                    have HEQ := Lib.hid (hsm e e2)
                    have HCX := HCL.out
                    have HCY := HCK.out
                    unfold maxLen at HCX HCY
                    have k3 : IntKind.i64.wrap ((j : Int) + 1) = (j : Int) + 1 := by rw [IntKind.wrap_i64]; omega
                    have k4 : IntKind.i64.wrap ((k : Int) + 1) = (k : Int) + 1 := by rw [IntKind.wrap_i64]; omega
                    have CSV := Lib.hid (fun (c1 c2 : Nat) (W : World) (h1 : Ac.RdV W (.slice (some ⟨bw, ow + j * 8, none⟩) 1 c1) [L[j]]) (h2 : Ac.RdV W (.slice (some ⟨bv, ov + k * 8, none⟩) 1 c2) [K[k]]) => Ac.SameVotes_any (.slice (some ⟨bw, ow + j * 8, none⟩) 1 c1) (.slice (some ⟨bv, ov + k * 8, none⟩) 1 c2) [L[j]] [K[k]] W h1 h2)
                    generalize L[j] = x at *
                    generalize K[k] = y at *
                    have HSV : Hid (Ac.sameVs (Ac.valsV [x]) (Ac.valsV [y]) = true) := Lib.hid (by
                      rw [show Ac.valsV [x] = [x.val] from rfl, show Ac.valsV [y] = [y.val] from rfl, HEQ.out]
                      exact Ac.sameVs_refl _)
                    rw [HSV.out] at CSV
                    clear hnx hsm e e2
                    go_upto_region 28 with fail
                    have r0 := cell_regrown q0
                    have r1 := cell_regrown p0
                    refine wp_region_quiet_below (by kernel_rfl) (by kernel_rfl) ?_
                    try simp only [List.append_eq, List.cons_append, List.nil_append]
                    have D1 := Lib.hid (fun d os => Calls.regrown_of (w := wr) (d := d) (os := os) (CSV.out (vc - j) (kc - k) _ ((HS1.out (vc - j) (by omega) (by unfold maxLen; omega)).later (step HBZ.out (below_regrown wr d os))) ((HS2.out (kc - k) (by omega) (by unfold maxLen; omega)).later (step HBZ.out (below_regrown wr d os)))))
                    clear CSV HS1 HS2
                    repeat (go_big_quiet_step (fail))
                    go_big_quiet_step (exact D1.out _ _)
                    repeat (go_big_quiet_step (fail))
                    refine wpQuiet_nil ?_
                    intro _ hw'
                    obtain ⟨⟨dq, osq⟩, hw2⟩ := hw'
                    subst hw2
                    have HBN := Lib.hid (step HBZ.out (below_regrown wr dq osq))
                    clear D1 r0 r1
                    have k5 : IntKind.i64.wrap (((o0 + c0 : Nat) : Int) + 1) = ((o0 + c0 : Nat) : Int) + 1 := by rw [IntKind.wrap_i64]; omega
                    go_wp2
                    go_roundw
                    case rel => exact ⟨k + 1, by omega, by go_num, by rw [HF.out]; simp <;> omega, HBN⟩
                    case measure => simp [intOf]; omega
                  · obtain rfl : k = i := by omega
                    have hT : PV.take k = PV := by rw [← HPL.out]; exact List.take_length
                    rw [hT, HCNT.out]
                    have HF : Hid (o0 + (if L[j].val.slot ≠ (1 + (s : Int)) then 1 else 0) = Ac.othV (l0.take (j + 1)) (1 + (s : Int))) := Lib.hid HOTH.out.symm
                    rw [HF.out]
                    clear hT
                    go_wp2
                    go_roundw
                    case rel => exact ⟨j + 1, by omega, by go_num, rfl, HBZ⟩
                    case measure => simp [intOf]; omega
              · obtain rfl : j = n0 := by omega
                have hT : l0.take j = l0 := by rw [← HLL.out]; exact List.take_length
                have hlen := Ac.putV_len ⟨(1 + (s : Int)), 2, Bb⟩ l0 HL0.out.rise
                rw [HPV.out, HPL.out] at hlen
                rw [hT]
                replace hlen : i = Ac.othV l0 (1 + (s : Int)) + 1 := hlen
                generalize Ac.othV l0 (1 + (s : Int)) = o1 at hlen ⊢
                subst hlen
                clear hT HKT HLT HKV HLV HV HQ11 HO11 HCK HCL HK HL
                have HBW := Lib.hid (step HB11.out HBY.out)
                have k6 : IntKind.i64.wrap (o1 : Int) = (o1 : Int) := by rw [IntKind.wrap_i64]; omega
                have CAN := Lib.hid (fun u W => Ac.Accept_nil 1 1 Bb u W)
                unfold Cm.batVal at CAN
                go_wp2_with (first
                  | (go_at_call 16; refine (Ac.Trim_nil _ _).mono ?_; rintro e wz ⟨rfl, hwz⟩; rw [hwz]; clear hwz wz)
                  | (go_at_call 12; refine (Ac.Promise_nil _ _).mono ?_; rintro e wz ⟨rfl, hwz⟩; rw [hwz]; clear hwz wz)
                  | (go_at_call 11; refine (CBb.out _ HBW.out).mono ?_; intro e w20 hmb; obtain ⟨u20, rfl, -, -, hb⟩ := hmb.out; rw [HDb.out]; have HB20 := Lib.hid (step HBW.out hb); clear hmb hb; unfold Cm.batVal; dsimp only)
                  | (go_at_call 14; refine (CAN.out _ _).mono ?_; rintro e w21 ⟨rfl, hb⟩; have HB21 := Lib.hid (step HB20.out hb); clear hb)
                  | (go_at_call 21; refine (Ac.Votes_nil _).mono ?_; rintro e wz ⟨rfl, hwz⟩; rw [hwz]; clear hwz wz)
                  | (go_at_call 18; refine (Ac.Ballot_nil _).mono ?_; rintro e wz ⟨rfl, hwz⟩; rw [hwz]; clear hwz wz)
                  | (go_at_call 19; refine (Ac.Done_nil _).mono ?_; rintro e wz ⟨rfl, hwz⟩; rw [hwz]; clear hwz wz)
                  | (go_at_call 9; refine (C0.out _).mono ?_; rintro e w22 ⟨rfl, hb⟩; have HB22 := Lib.hid (step HB21.out hb); clear hb))
                go_ret
                exact ⟨rfl, HB22.out⟩

/-! ### THE ROW's STEP -/
set_option maxRecDepth 100000 in
theorem lifted (os : Os) (started : os.Started) (H : Type) (enc : TypeId × Value → H) :
    ReturnsInHanded {} Try.checked os 7 .any (Rows.acceptLastSpec.pre6 enc Try.prog Try.f7 Rows.acceptLastRow.domain false) (Rows.acceptLastSpec.post enc Try.prog Try.f7 false true false false) := by
  refine returnsInHanded_of_change_sized (C := Try.checked) own started (by kernel_rfl) Try.func7
    (ChangeSpec.witness6 (enc := enc) (C := Try.checked) false ⟨#[], #[.slice none 0 0, .int .u8 0, .slice none 0 0, .slice none 0 0], []⟩ 8 (by kernel_rfl) (by kernel_rfl) (by kernel_rfl) (by kernel_rfl)) ?_
  intro W base args ds gs before hval0 hW hcnd hsz _
  have hval : ∀ (j : Nat) t v, Try.f7.params[j]? = some t → args[j]? = some v → Value.okWide Try.prog W .any base t v := hval0
  have hW' := hW
  obtain ⟨p, q, hA0, hV, rfl, hfz, hnd⟩ := hW
  have hA : DataW.TrodAll enc Try.prog W 0 (fun _ => true) true Try.f7.params.toList args.toList ds p := hA0
  rw [Try.params7] at hA hval hsz
  obtain ⟨v0, vs0, d0, ds0, p0, q0, hargs, rfl, rfl, h0, r0⟩ := trodAll_cons hA
  obtain ⟨v1, vs1, d1, ds1, p1, q1, rfl, rfl, rfl, h1, r1⟩ := trodAll_cons r0
  obtain ⟨v2, vs2, d2, ds2, p2, q2, rfl, rfl, rfl, h2, r2⟩ := trodAll_cons r1
  obtain ⟨v3, vs3, d3, ds3, p3, q3, rfl, rfl, rfl, h3, r3⟩ := trodAll_cons r2
  obtain ⟨rfl, rfl, rfl⟩ := trodAll_nil r3
  obtain rfl : args = #[v0, v1, v2, v3] := by cases args; simp_all
  obtain ⟨rfl, rfl⟩ := trodVars_none hV
  obtain ⟨a0, len0, cap0, rfl⟩ := okWide_slice Try.underlying36 (hval 0 36 v0 rfl rfl)
  have k0 := h0
  have lt0 : ∀ x ∈ p0, x.block < W.heap.size := by obtain ⟨m, hm⟩ := k0; exact DataW.trod_lt m _ _ _ hm
  obtain ⟨z0, w0, s0⟩ : ∃ zs, IsRow .u8 W a0 len0 cap0 zs ∧ len0 ≤ 140737488355328 := by
    obtain ⟨fuel, hf⟩ := h0
    rcases open_ints Try.underlying36 Try.underlying5 (by kernel_rfl) hf with ⟨hcs, _⟩ | ⟨x, l, c, zs, hcs, _, hl, hm, hz, hdd, hcell, hwz⟩
    · simp [Value.cells] at hcs
      obtain ⟨rfl, rfl, rfl⟩ := hcs
      exact ⟨[], .inl ⟨rfl, rfl, rfl, rfl⟩, by omega⟩
    · simp [Value.cells] at hcs
      obtain ⟨rfl, rfl, rfl⟩ := hcs
      have hd' := congrArg Prod.fst hdd
      have hs := sized_slice (j := 0) hsz rfl (show (_ : List (DataW H))[0]? = some (.slice (lits .u8 (zs.take len0)) (lits .u8 (zs.drop len0))) from congrArg some hd') Try.underlying36
      have hb : Try.checked.prog.bytesOf 5 = 1 := by kernel_rfl
      rw [hb] at hs
      have hr := reachBytes_lt
      simp [lits] at hs
      exact ⟨zs, .inr ⟨_, rfl, hl, hm, by simpa using hz, hcell, hwz⟩, by simp at hz; omega⟩
  obtain ⟨a1, rfl, rfl, rfl, w1⟩ := open_int Try.underlying5 (hval 1 5 v1 rfl rfl) h1
  obtain ⟨a2, len2, cap2, rfl⟩ := okWide_slice Try.underlying36 (hval 2 36 v2 rfl rfl)
  have k2 := h2
  have lt2 : ∀ x ∈ p2, x.block < W.heap.size := by obtain ⟨m, hm⟩ := k2; exact DataW.trod_lt m _ _ _ hm
  obtain ⟨z2, w2, s2⟩ : ∃ zs, IsRow .u8 W a2 len2 cap2 zs ∧ len2 ≤ 140737488355328 := by
    obtain ⟨fuel, hf⟩ := h2
    rcases open_ints Try.underlying36 Try.underlying5 (by kernel_rfl) hf with ⟨hcs, _⟩ | ⟨x, l, c, zs, hcs, _, hl, hm, hz, hdd, hcell, hwz⟩
    · simp [Value.cells] at hcs
      obtain ⟨rfl, rfl, rfl⟩ := hcs
      exact ⟨[], .inl ⟨rfl, rfl, rfl, rfl⟩, by omega⟩
    · simp [Value.cells] at hcs
      obtain ⟨rfl, rfl, rfl⟩ := hcs
      have hd' := congrArg Prod.fst hdd
      have hs := sized_slice (j := 2) hsz rfl (show (_ : List (DataW H))[2]? = some (.slice (lits .u8 (zs.take len2)) (lits .u8 (zs.drop len2))) from congrArg some hd') Try.underlying36
      have hb : Try.checked.prog.bytesOf 5 = 1 := by kernel_rfl
      rw [hb] at hs
      have hr := reachBytes_lt
      simp [lits] at hs
      exact ⟨zs, .inr ⟨_, rfl, hl, hm, by simpa using hz, hcell, hwz⟩, by simp at hz; omega⟩
  obtain ⟨a3, len3, cap3, rfl⟩ := okWide_slice Try.underlying36 (hval 3 36 v3 rfl rfl)
  have k3 := h3
  have lt3 : ∀ x ∈ p3, x.block < W.heap.size := by obtain ⟨m, hm⟩ := k3; exact DataW.trod_lt m _ _ _ hm
  obtain ⟨z3, w3, s3⟩ : ∃ zs, IsRow .u8 W a3 len3 cap3 zs ∧ len3 ≤ 140737488355328 := by
    obtain ⟨fuel, hf⟩ := h3
    rcases open_ints Try.underlying36 Try.underlying5 (by kernel_rfl) hf with ⟨hcs, _⟩ | ⟨x, l, c, zs, hcs, _, hl, hm, hz, hdd, hcell, hwz⟩
    · simp [Value.cells] at hcs
      obtain ⟨rfl, rfl, rfl⟩ := hcs
      exact ⟨[], .inl ⟨rfl, rfl, rfl, rfl⟩, by omega⟩
    · simp [Value.cells] at hcs
      obtain ⟨rfl, rfl, rfl⟩ := hcs
      have hd' := congrArg Prod.fst hdd
      have hs := sized_slice (j := 3) hsz rfl (show (_ : List (DataW H))[3]? = some (.slice (lits .u8 (zs.take len3)) (lits .u8 (zs.drop len3))) from congrArg some hd') Try.underlying36
      have hb : Try.checked.prog.bytesOf 5 = 1 := by kernel_rfl
      rw [hb] at hs
      have hr := reachBytes_lt
      simp [lits] at hs
      exact ⟨zs, .inr ⟨_, rfl, hl, hm, by simpa using hz, hcell, hwz⟩, by simp at hz; omega⟩
  clear hA0 hval0
  refine (walk a0 len0 cap0 z0 a1 a2 len2 cap2 z2 a3 len3 cap3 z3 W w0 s0 w1 w2 s2 w3 s3).mono fun e W' ⟨he, bel⟩ => ?_
  subst he
  exact ⟨_, rfl, _, _, _, [], _, [], hW', trodAll_mk1 (shut_bool Try.underlying4 _), (trodAll_cons_mk (Below.trod laidOut (by kernel_rfl) (of_decide_eq_true (by kernel_rfl)) k0 bel lt0) (trodAll_cons_mk (shut_int Try.underlying5 w1) (trodAll_cons_mk (Below.trod laidOut (by kernel_rfl) (of_decide_eq_true (by kernel_rfl)) k2 bel lt2) (trodAll_cons_mk (Below.trod laidOut (by kernel_rfl) (of_decide_eq_true (by kernel_rfl)) k3 bel lt3) trodAll_mk0)))), rfl, bel.frame _, fun h => by cases h⟩

theorem over : Rows.acceptLastRow.holds Try.pinned (OpenSpec.ofChange Rows.acceptLastSpec) :=
  OpenClaim.holds_of_wide 7 Try.f7 rfl rfl rfl rfl rfl rfl rfl ⟨rfl, rfl, rfl, rfl, rfl⟩ rfl rfl rfl rfl rfl (by kernel_rfl) Try.func7 (by kernel_rfl)
    (of_decide_eq_true (by kernel_rfl)) (by unfold Func.isWrapper; first | (rw [if_pos (by decide +kernel)]; kernel_rfl) | (rw [if_neg (by decide +kernel)]; exact ⟨rfl, rfl⟩))
    (fun os started H enc _ => lifted os started H enc)

/-- THE STATEMENT -/
theorem proved : Rows.AcceptLastSaid := over
end Go.Proofs.Ytmodbbmdkealdaa.acceptLast
