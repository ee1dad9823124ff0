/- PROVED: the statement AcceptTrims of layer 14: for every input that can be read, the law returns true and leaves its arguments as they were. No condition. -/
import Derived.Test.YtmodbbmdkealdaaRows
import Derived.Test.YtmodbbmdkealdaaQT2
import Derived.WalkKit
import Derived.ProofKit
import Derived.OpenShut
import Derived.ShutString
import Derived.ChangeOld
import Derived.Below
import Derived.BigQuiet
import Derived.Lib.QuietBelow
import Derived.SizedLaws
import Derived.Deep.Cut
import Derived.Deep.CutBlock
import Derived.Deep.DeepCutAuto
namespace Go.Proofs.Ytmodbbmdkealdaa.acceptTrims
open Go.ChangeShapes Go.WideShapes Go.ChangeAt Go.RowKit
open Go.ChangeMaps (open_string shut_string)
open Go.Sort (grow)
set_option linter.unusedVariables false
set_option maxRecDepth 8000
set_option linter.unusedSimpArgs false

theorem own : ownKnob Try.prog.godebug = none := by kernel_rfl
theorem laidOut : laidOutB Try.prog = true := by kernel_rfl

/-! ### STEP 1: THE WALK -/
set_option maxRecDepth 100000 in
set_option maxHeartbeats 4000000 in
theorem walk (a0 : Option Addr) (len0 cap0 : Nat) (z0 : List Int) (a1 : Int) (a2 : Option Addr) (len2 cap2 : Nat) (z2 : List Int) (w : World) (w0 : IsRow .u8 w a0 len0 cap0 z0) (s0 : len0 ≤ 140737488355328) (w1 : (Lit.int .u8 a1).wf = true) (w2 : IsRow .u8 w a2 len2 cap2 z2) (s2 : len2 ≤ 140737488355328) :
    Calls Try.prog 6 #[.slice a0 len0 cap0, .int .u8 a1, .slice a2 len2 cap2] w fun e w' => e = .returned (.bool true) ∧ Below w.heap.size w w' := by
  obtain ⟨hr, hrl⟩ := w2.rd
  generalize bytesOf z2 len2 = NS at hr hrl
  obtain ⟨hr0, hrl0⟩ := w0.rd
  generalize bytesOf z0 len0 = SL at hr0 hrl0
  obtain ⟨D, rfl⟩ : ∃ D : Nat, a1 = (D : Int) := Int.eq_ofNat_of_zero_le (by have := w1; simp [Lit.wf, IntKind.min, IntKind.max, IntKind.signed, IntKind.bits] at this; omega)
  have hD : D < 256 := by have := w1; simp [Lit.wf, IntKind.min, IntKind.max, IntKind.signed, IntKind.bits] at this; omega
  obtain ⟨d, hd⟩ : ∃ d, D % 10 = d := ⟨_, rfl⟩
  have hd9 : d < 10 := by omega
  have hD2 : (D : Int).tmod 10 = (d : Int) := by rw [Int.tmod_eq_emod_of_nonneg (by omega)]; omega
  have e1 : IntKind.i64.wrap (D : Int) = (D : Int) := by rw [IntKind.wrap_i64]; omega
  have e2 : IntKind.i64.wrap ((d : Int) + 9) = (d : Int) + 9 := by rw [IntKind.wrap_i64]; omega
  have e3 : IntKind.i64.wrap ((d : Int) + 10) = (d : Int) + 10 := by rw [IntKind.wrap_i64]; omega
  have e4 : IntKind.i64.wrap ((d : Int) - 1) = (d : Int) - 1 := by rw [IntKind.wrap_i64]; omega
  have C0 := Lib.hid (fun w => Ac.awake14_ok w)
  have hL4 : NS.length ≤ 4611686018427387904 := by omega
  have CBT := Lib.hid (fun (W : World) (hb : Below w.heap.size w W) => Cm.Batch_F _ NS W (hr.later hb) hL4)
  have HY : Hid (0 < len0 → ∃ b o, a0 = some ⟨b, o, none⟩ ∧ ∀ w' : World, Below w.heap.size w w' → ∀ i, i < len0 → w'.cell? ⟨b, o + i, none⟩ = some (.int .u8 (Cm.bAtB SL i : Int))) := Lib.hid fun h0 => Cm.byte_at hr0 h0
  clear w0 w1 w2 hr hr0 hrl hrl0 hd hL4
  obtain ⟨B, hB⟩ : ∃ B, Cm.batchF NS = B := ⟨_, rfl⟩
  have HBD := Lib.hid hB
  have HMB : Hid (Cm.mayB B = true) := Lib.hid (by rw [← hB]; exact Cm.batchF_may NS)
  clear hB
  have CN := Lib.hid (Ac.New_any w)
  obtain ⟨g, hgw⟩ : ∃ g, w.heap.size = g := ⟨_, rfl⟩
  rw [hgw] at CN
  have HGW := Lib.hid hgw
  clear hgw
  go_enter Try.func6, Try.ntmps6
  go_upto_region 5 with (go_at_call 10; refine CN.out.mono ?_; rintro e w1 ⟨rfl, hw⟩; have HA1 : Hid (Ac.HasA w1 g (g + 1) Ac.newA) := Lib.hid (Ac.HasA.new (by rw [hw]; exact Cm.alloc_atB _ _ _ HGW.out) (by omega) (by rw [hw]; simp [HGW.out])); have HB1 : Hid (Below w.heap.size w w1) := Lib.hid (by rw [hw]; exact newAlloc _ _); clear hw)
  go_loopw [8] (fun i wr => ∃ (I : Nat) (st : Ac.AccV), I ≤ 20 ∧ I ≤ len0 ∧ i = .int .i64 (I : Int) ∧ Hid (Ac.Good st) ∧ Hid (st.done = 0) ∧ Hid (st.ballot ≤ 1) ∧ Hid (Ac.HasA wr g (g + 1) st) ∧ Hid (Below w.heap.size w wr)) (fun i _ => 20 - (intOf i).toNat)
  case atStart => exact ⟨0, Ac.newA, by omega, by omega, rfl, Lib.hid Ac.newA_good, Lib.hid rfl, Lib.hid (by decide), HA1, HB1⟩
  case round =>
    obtain ⟨I, st, hI, hIl, rfl, HGS, HDS, HBS, HAR, HBR⟩ := hrel
    by_cases hlt : I < len0 ∧ I < 20
    · obtain ⟨hl1, hl2⟩ := hlt
      obtain ⟨b, o, rfl, hby⟩ := HY.out (by omega)
      have HKQ : Hid (∀ W, Below w.heap.size w W → W.cell? ⟨b, o + I, none⟩ = some (.int .u8 (Cm.bAtB SL I : Int))) := Lib.hid fun W hb => hby W hb I hl1
      have hx := Cm.bAtB_lt SL I
      clear hby
      generalize Cm.bAtB SL I = x at HKQ hx
      have HKP : Hid (∀ W, Below wr.heap.size wr W → W.cell? ⟨b, o + I, none⟩ = some (.int .u8 (x : Int))) := Lib.hid fun W hb => HKQ.out W (step HBR.out hb)
      obtain ⟨p, hp⟩ : ∃ p, x % 9 = p := ⟨_, rfl⟩
      have hp9 : p < 9 := by omega
      have t1 : (x : Int).tmod 9 = (p : Int) := by rw [Int.tmod_eq_emod_of_nonneg (by omega)]; omega
      have t2 : IntKind.i64.wrap (1 + (p : Int)) = 1 + (p : Int) := by rw [IntKind.wrap_i64]; omega
      have t3 : IntKind.i64.wrap (x : Int) = (x : Int) := by rw [IntKind.wrap_i64]; omega
      have i0 : (0 : Int) ≤ (I : Int) := by omega
      have i1 : (I : Int) < (len0 : Int) := by omega
      clear hp hx
      go_upto_region 7 with fail
      refine wp_region_held_drew (S := (fun W => W.cell? ⟨b, o + I, none⟩ = some (.int .u8 (x : Int)))) (by kernel_rfl) (HKP.out _ (Below.refl _ _).drew) (fun hHeld => ?_)
      obtain ⟨V, hV⟩ : ∃ V, V = wr.drew := ⟨_, rfl⟩
      have HBV : Hid (Below wr.heap.size wr V) := Lib.hid (by rw [hV]; exact (Below.refl _ _).drew)
      rw [← hV] at hHeld ⊢
      clear hV
      refine wpAnyH_take (i := 0) (v := ?_) rfl (by kernel_rfl) (by kernel_rfl) (by kernel_rfl) (fun _ _ _ h => h) (Or.inl ⟨by rfl, ?_⟩) (by assumption) ?_
      rotate_left
      · intro w hSw; (try dsimp only at hSw); go_simp <;> with_reducible rfl
      try simp only [Act.put, List.getElem_toArray, List.getElem_cons_zero, List.setIfInBounds_toArray, List.set_cons_zero, List.set_cons_succ]
      refine wpAnyH_take (i := 1) (v := ?_) rfl (by kernel_rfl) (by kernel_rfl) (by kernel_rfl) (fun _ _ _ h => h) (Or.inl ⟨by rfl, ?_⟩) (by assumption) ?_
      rotate_left
      · intro w hSw; (try dsimp only at hSw); go_simp <;> with_reducible rfl
      try simp only [Act.put, List.getElem_toArray, List.getElem_cons_succ, List.getElem_cons_zero, List.setIfInBounds_toArray, List.set_cons_zero, List.set_cons_succ]
      refine wpAnyH_take (i := 2) (v := ?_) rfl (by kernel_rfl) (by kernel_rfl) (by kernel_rfl) (fun _ _ _ h => h) (Or.inl ⟨by rfl, ?_⟩) (by assumption) ?_
      rotate_left
      · intro w hSw; (try dsimp only at hSw); go_simp <;> with_reducible rfl
      try simp only [Act.put, List.getElem_toArray, List.getElem_cons_succ, List.getElem_cons_zero, List.setIfInBounds_toArray, List.set_cons_zero, List.set_cons_succ]
      refine wpAnyH_take (i := 3) (v := ?_) rfl (by kernel_rfl) (by kernel_rfl) (by kernel_rfl) (fun _ _ _ h => h) (Or.inl ⟨by rfl, ?_⟩) (by assumption) ?_
      rotate_left
      · intro w hSw; (try dsimp only at hSw); go_simp <;> with_reducible rfl
      try simp only [Act.put, List.getElem_toArray, List.getElem_cons_succ, List.getElem_cons_zero, List.setIfInBounds_toArray, List.set_cons_zero, List.set_cons_succ]
      refine wpAnyH_take (i := 4) (v := ?_) rfl (by kernel_rfl) (by kernel_rfl) (by kernel_rfl) (fun _ _ _ h => h) (Or.inl ⟨by rfl, ?_⟩) (by assumption) ?_
      rotate_left
      · intro w hSw; (try dsimp only at hSw); go_simp <;> with_reducible rfl
      try simp only [Act.put, List.getElem_toArray, List.getElem_cons_succ, List.getElem_cons_zero, List.setIfInBounds_toArray, List.set_cons_zero, List.set_cons_succ]
      refine wpAnyH_take (i := 5) (v := ?_) rfl (by kernel_rfl) (by kernel_rfl) (by kernel_rfl) (fun _ _ _ h => h) (Or.inl ⟨by rfl, ?_⟩) (by assumption) ?_
      rotate_left
      · intro w hSw; (try dsimp only at hSw); go_simp <;> with_reducible rfl
      try simp only [Act.put, List.getElem_toArray, List.getElem_cons_succ, List.getElem_cons_zero, List.setIfInBounds_toArray, List.set_cons_zero, List.set_cons_succ]
      refine wpAnyH_take (i := 6) (v := ?_) rfl (by kernel_rfl) (by kernel_rfl) (by kernel_rfl) (fun _ _ _ h => h) (Or.inl ⟨by rfl, ?_⟩) (by assumption) ?_
      rotate_left
      · intro w hSw; (try dsimp only at hSw); go_simp <;> with_reducible rfl
      try simp only [Act.put, List.getElem_toArray, List.getElem_cons_succ, List.getElem_cons_zero, List.setIfInBounds_toArray, List.set_cons_zero, List.set_cons_succ]
      refine wpAnyH_take (i := 7) (v := ?_) rfl (by kernel_rfl) (by kernel_rfl) (by kernel_rfl) (fun _ _ _ h => h) (Or.inl ⟨by rfl, ?_⟩) (by assumption) ?_
      rotate_left
      · intro w hSw; (try dsimp only at hSw); go_simp <;> with_reducible rfl
      try simp only [Act.put, List.getElem_toArray, List.getElem_cons_succ, List.getElem_cons_zero, List.setIfInBounds_toArray, List.set_cons_zero, List.set_cons_succ]
      refine wpAnyH_take (i := 8) (v := ?_) rfl (by kernel_rfl) (by kernel_rfl) (by kernel_rfl) (fun _ _ _ h => h) (Or.inl ⟨by rfl, ?_⟩) (by assumption) ?_
      rotate_left
      · intro w hSw; (try dsimp only at hSw); go_simp <;> with_reducible rfl
      try simp only [Act.put, List.getElem_toArray, List.getElem_cons_succ, List.getElem_cons_zero, List.setIfInBounds_toArray, List.set_cons_zero, List.set_cons_succ]
      refine wpAnyH_ready (rs := [9]) (by kernel_rfl) (by simp) ?_
      refine AllReadyH.cons rfl (fun K hK => ?_) AllReadyH.nil
      go_simp
      go_at_call 11
      refine (CBT.out _ (step HBR.out HBV.out)).mono ?_
      intro e V2 hmb
      obtain ⟨u, rfl, -, ho, hb⟩ := hmb.out
      rw [HBD.out] at ho
      rw [HBD.out]
      have HBV2 := Lib.hid (step HBV.out hb)
      have HU : Hid (u.ownBlock ≠ some g) := Lib.hid (fun q => by have := (Rw.own_lt ho g q).1; have := HAR.out.lt; have := HBV.out.size; omega)
      have HRU := Lib.hid (RdX.own Cm.cellsR_length ho)
      clear hmb ho hb HBV
      unfold Cm.batVal
      dsimp only
      refine hK.out _ _ (HKP.out _ HBV2.out) (fun hHeld => ?_)
      clear hK K
      try simp only [Act.put, List.getElem_toArray, List.getElem_cons_succ, List.getElem_cons_zero, List.setIfInBounds_toArray, List.set_cons_zero, List.set_cons_succ]
      have CA := Lib.hid (Ac.Accept_any g (g + 1) st 1 (1 + (p : Int)) B u V2 (HAR.out.later HBV2.out) HGS.out HRU.out HU.out)
      unfold Cm.batVal at CA
      refine wpAnyH_ready (rs := [10]) (by kernel_rfl) (by simp) ?_
      refine AllReadyH.cons rfl (fun K hK => ?_) AllReadyH.nil
      go_simp
      go_at_call 14
      refine CA.out.mono ?_
      rintro e V3 ⟨rfl, ha, hg⟩
      have HA3 := Lib.hid ha
      have HB3 := Lib.hid (Ac.step_gr (step HBR.out HBV2.out) hg (by rw [HGW.out]; exact Nat.le_refl _) (step HBR.out HBV2.out).size)
      clear ha hg CA
      refine hK.out _ _ (HKQ.out _ HB3.out) (fun hHeld => ?_)
      clear hK K
      try simp only [Act.put, List.getElem_toArray, List.getElem_cons_succ, List.getElem_cons_zero, List.setIfInBounds_toArray, List.set_cons_zero, List.set_cons_succ]
      refine wpAnyH_done (by kernel_rfl) ?_ _
      go_wp2
      go_roundw
      case rel => exact ⟨I + 1, (Ac.accF st 1 (1 + (p : Int)) B).1, by omega, by omega, by go_num, Lib.hid (HGS.out.acc _ _ _), Lib.hid ((Ac.acc_done _ _ _ _).trans HDS.out), Lib.hid (Ac.acc_ballot _ _ _ _ _ HBS.out (by decide)), HA3, HB3⟩
      case measure => simp [intOf]; omega
    · have d0 : I < len0 ∧ ¬ I < 20 ∨ ¬ I < len0 := by
        by_cases q : I < len0
        · exact .inl ⟨q, by omega⟩
        · exact .inr q
      have HD3 : Hid (0 < d ∧ Ac.accF ⟨st.ballot, (d : Int), st.votes.filter fun v => decide ((d : Int) < v.slot)⟩ 1 (d : Int) B = (⟨st.ballot, (d : Int), st.votes.filter fun v => decide ((d : Int) < v.slot)⟩, 11) ∨ d = 0 ∧ Ac.accF ⟨st.ballot, (d : Int), st.votes.filter fun v => decide ((d : Int) < v.slot)⟩ 1 (d : Int) B = (⟨st.ballot, (d : Int), st.votes.filter fun v => decide ((d : Int) < v.slot)⟩, 1)) := Lib.hid (by
        have hb := HBS.out
        by_cases q : d = 0
        · refine .inr ⟨q, ?_⟩
          unfold Ac.accF
          rw [if_pos (by simp [Cm.highF]; omega)]
        · refine .inl ⟨by omega, ?_⟩
          unfold Ac.accF
          rw [if_neg (by rw [HMB.out]; simp [Cm.highF]; omega), if_pos (.inr (Int.le_refl _))])
      obtain ⟨st3, h3⟩ : ∃ st3, (Ac.accF ⟨st.ballot, (d : Int), st.votes.filter fun v => decide ((d : Int) < v.slot)⟩ 1 ((d : Int) + 9) B).1 = st3 := ⟨_, rfl⟩
      have hG2 : Ac.Good ⟨st.ballot, (d : Int), st.votes.filter fun v => decide ((d : Int) < v.slot)⟩ := by
        have := HGS.out.trim (d : Int)
        rw [Ac.trim_eq HGS.out HDS.out d (by omega)] at this
        exact this
      have HACF : Hid (Ac.accF ⟨st.ballot, (d : Int), st.votes.filter fun v => decide ((d : Int) < v.slot)⟩ 1 ((d : Int) + 9) B = (st3, 0) ∧ st3.done = (d : Int) ∧ st3.ballot = 1) := Lib.hid (by
        have hb := HBS.out
        rw [← h3]
        unfold Ac.accF
        rw [if_neg (by rw [HMB.out]; simp [Cm.highF]; omega), if_neg (show ¬ ((1 : Int) < st.ballot ∨ (d : Int) + 9 ≤ (d : Int)) by omega), if_neg (show ¬ ((d : Int) + 9 < (d : Int) + 9) by omega)]
        exact ⟨rfl, rfl, rfl⟩)
      have hG3 : Ac.Good st3 := by rw [← h3]; exact hG2.acc _ _ _
      have HACG : Hid (Ac.accF st3 1 ((d : Int) + 10) B = (st3, 5)) := Lib.hid (by
        unfold Ac.accF
        rw [if_neg (by rw [HMB.out]; simp [Cm.highF]; omega), if_neg (by rw [HACF.out.2.1, HACF.out.2.2]; omega), if_pos (by rw [HACF.out.2.1]; omega)])
      have HTR : Hid (Ac.trimF st3 ((d : Int) - 1) = st3) := Lib.hid (by
        unfold Ac.trimF
        rw [if_pos (.inl (by rw [HACF.out.2.1]; omega))])
      have CV := Lib.hid (fun (w' : World) h => Ac.Votes_any g (g + 1) st w' h HGS.out)
      have CT := Lib.hid (fun (w' : World) h => Ac.Trim_any g (g + 1) st (d : Int) w' h HGS.out)
      rw [Ac.trim_eq HGS.out HDS.out d (by omega)] at CT
      obtain ⟨cd, hcd⟩ : ∃ cd : Int, Ac.accF ⟨st.ballot, (d : Int), st.votes.filter fun v => decide ((d : Int) < v.slot)⟩ 1 (d : Int) B = (⟨st.ballot, (d : Int), st.votes.filter fun v => decide ((d : Int) < v.slot)⟩, cd) ∧ (0 < d ∧ cd = 11 ∨ d = 0 ∧ cd = 1) := by
        rcases HD3.out with ⟨q, h⟩ | ⟨q, h⟩
        · exact ⟨11, h, .inl ⟨q, rfl⟩⟩
        · exact ⟨1, h, .inr ⟨q, rfl⟩⟩
      have HCD := Lib.hid hcd.2
      have CA1 := Lib.hid (fun (w' : World) h u hr hu => Ac.Accept_any g (g + 1) ⟨st.ballot, (d : Int), st.votes.filter fun v => decide ((d : Int) < v.slot)⟩ 1 (d : Int) B u w' h hG2 hr hu)
      rw [hcd.1] at CA1
      have CA2 := Lib.hid (fun (w' : World) h u hr hu => Ac.Accept_any g (g + 1) ⟨st.ballot, (d : Int), st.votes.filter fun v => decide ((d : Int) < v.slot)⟩ 1 ((d : Int) + 9) B u w' h hG2 hr hu)
      rw [HACF.out.1] at CA2
      have CA3 := Lib.hid (fun (w' : World) h u hr hu => Ac.Accept_any g (g + 1) st3 1 ((d : Int) + 10) B u w' h hG3 hr hu)
      rw [HACG.out] at CA3
      have CT2 := Lib.hid (fun (w' : World) h => Ac.Trim_any g (g + 1) st3 ((d : Int) - 1) w' h hG3)
      rw [HTR.out] at CT2
      have CV2 := Lib.hid (fun (w' : World) h => Ac.Votes_any g (g + 1) ⟨st.ballot, (d : Int), st.votes.filter fun v => decide ((d : Int) < v.slot)⟩ w' h hG2)
      have CDN := Lib.hid (fun (w' : World) h => Ac.Done_any g (g + 1) ⟨st.ballot, (d : Int), st.votes.filter fun v => decide ((d : Int) < v.slot)⟩ w' h)
      have CDN3 := Lib.hid (fun (w' : World) h => Ac.Done_any g (g + 1) st3 w' h)
      rw [HACF.out.2.1] at CDN3
      unfold Cm.batVal at CA1 CA2 CA3
      obtain ⟨SV, hSV⟩ : ∃ SV, st.votes = SV := ⟨_, rfl⟩
      obtain ⟨SB, hSB⟩ : ∃ SB, st.ballot = SB := ⟨_, rfl⟩
      have HSV := Lib.hid hSV
      rw [hSV] at CV CT CA1 CA2 CV2 CDN
      rw [hSB] at CT CA1 CA2 CV2 CDN
      obtain ⟨S2, hS2⟩ : ∃ S2 : Ac.AccV, S2 = ⟨SB, (d : Int), SV.filter fun v => decide ((d : Int) < v.slot)⟩ := ⟨_, rfl⟩
      rw [← hS2] at CT CA1 CA2 CV2 CDN
      have HS2V : Hid (S2.votes = SV.filter fun v => decide ((d : Int) < v.slot)) := Lib.hid (by rw [hS2])
      have HLEN : Hid (SV.length ≤ 9) := Lib.hid (by rw [← HSV.out]; exact Ac.good_len HGS.out)
      have HS2D : Hid (S2.done = (d : Int)) := Lib.hid (by rw [hS2])
      rw [HS2D.out] at CDN
      clear hG2 hG3 h3 hSV hSB hS2 HD3 hcd HSV HY HGS HDS HBS HACF HACG HTR
      rcases d0 with ⟨d1, d2⟩ | d1 <;>
      · go_upto_region 9 with (go_at_call 21; refine (CV.out _ HAR.out).mono ?_; rintro e w4 ⟨v, L, rfl, hL, ho, hb⟩; have HA4 := Lib.hid (HAR.out.later hb); have HB4 := Lib.hid (step HBR.out hb); have HL := Lib.hid hL; have HO4 := Lib.hid ho; have HGL : Hid (g < wr.heap.size) := Lib.hid HAR.out.lt; clear ho hb hL)
        obtain ⟨va, vc, hv⟩ := HO4.out.rd.form
        subst hv
        clear CV HAR HBR
        go_upto_region 12 with (go_at_call 16; refine (CT.out _ HA4.out).mono ?_; rintro e w5 ⟨rfl, ha, hg⟩; have HA5 := Lib.hid ha; have HB5 := Lib.hid (Ac.step_gr HB4.out hg (by rw [HGW.out]; exact Nat.le_refl _) HB4.out.size); have HO5 := Lib.hid (HO4.out.keep hg HGL.out).rd; clear ha hg HO4 HA4 HB4)
        have HAT := Lib.hid (fun i hi => Ac.rdv_at HO5.out.row i hi)
        have hn := HO5.out.len
        obtain ⟨n, hn2⟩ : ∃ n, L.length = n := ⟨_, rfl⟩
        have HN := Lib.hid hn2
        rw [hn2] at hn ⊢
        clear hn2
        have HNS : Hid (n ≤ 9) := Lib.hid (by rw [← HN.out, ← Ac.valsV_length, HL.out]; exact HLEN.out)
        obtain ⟨i1, hi1, hz0, hz1, hz2⟩ := Ac.info_partsA Ac.infoV
        go_wp2
        go_loopw [11, 12] (fun v i wr => ∃ k : Nat, k ≤ n ∧ i = .int .i64 (k : Int) ∧ Hid (wr.ownsRow w5.heap.size 49 8 v ((L.take k).filter fun x => decide ((d : Int) < x.slot)).length (flatX Ac.cellsV ((L.take k).filter fun x => decide ((d : Int) < x.slot)))) ∧ Hid (Below w5.heap.size w5 wr)) (fun _ i _ => n - (intOf i).toNat)
        case atStart => exact ⟨0, by omega, rfl, Lib.hid (World.ownsRow_nil _ _ _ _), Lib.hid (Below.refl _ _)⟩
        case round =>
          obtain ⟨k, hk, rfl, HOW, HBW⟩ := hrel
          by_cases hlt : k < n
          · have hkl : k < L.length := by rw [HN.out]; exact hlt
            obtain ⟨b', o', rfl, hc⟩ := HAT.out k hkl
            obtain ⟨q0, q1, q2, q3, q4, q5, q6, q7⟩ := hc _ HBW.out
            have hf := Ac.filter_take L (d : Int) k hkl
            clear hc HAT
            generalize L[k] = x at q0 q1 q2 q3 q4 q5 q6 q7 hf
            obtain ⟨x1, x2, ⟨x3, x4, x5, x6, x7, x8⟩, xa, xc⟩ := x
            unfold Ac.VoteC.u at q7
            dsimp only at q0 q1 q2 q3 q4 q5 q6 q7 hf
            have hlen : ((L.take k).filter fun x => decide ((d : Int) < x.slot)).length ≤ k := Nat.le_trans (List.length_filter_le _ _) (by rw [List.length_take]; omega)
            generalize (L.take k).filter (fun x => decide ((d : Int) < x.slot)) = M at HOW hf hlen
            by_cases e : (d : Int) < x1
            · have d1 : decide ((d : Int) < x1) = true := decide_eq_true e
              rw [if_pos e] at hf
              have HF := Lib.hid hf
              have HLM := Lib.hid hlen
              have hb5 := HBW.out.size
              have h9 := HNS.out
              clear e hf
              obtain ⟨ma, mc, hmv⟩ := Rw.own_form HOW.out
              subst hmv
              go_wp2_with (at_builtin; refine wpList_append_one Ac.cellsV_length (by omega) rfl _ _ 33 rfl 49 i1 _ 80 Try.underlying33 hi1 hz0 hz1 hz2 rfl #[.int .i64 x1, .int .i64 x2, .bool x3, .int .i64 x4, .int .i64 x5, .int .i64 x6, .int .i64 x7, .slice xa x8.length xc] (⟨x1, x2, ⟨x3, x4, x5, x6, x7, x8⟩, xa, xc⟩ : Ac.VoteC) rfl (Ac.cellsV_one _) M w5.heap.size w5.heap.size w5 (.slice ma M.length mc) rfl rfl HOW.out (by unfold maxLen; omega) (by omega) hb5 HBW.out (Nat.le_refl _) ?_; intro v6 w6 ho6 hb6 _; have HO6 := Lib.hid ho6; have HB6 := Lib.hid hb6; clear ho6 hb6)
              go_roundw
              case rel => exact ⟨k + 1, by omega, by go_num, by rw [HF.out]; exact HO6, HB6⟩
              case measure => simp [intOf]; omega
            · have d1 : decide ((d : Int) < x1) = false := decide_eq_false e
              rw [if_neg e, List.append_nil] at hf
              have HF := Lib.hid hf
              clear e hf
              go_wp2
              go_roundw
              case rel => exact ⟨k + 1, by omega, by go_num, by rw [HF.out]; exact HOW, HBW⟩
              case measure => simp [intOf]; omega
          · obtain rfl : k = n := by omega
            have hT : L.take k = L := by rw [← HN.out]; exact List.take_length
            rw [hT] at HOW
            clear hT HAT
            obtain ⟨ta, tc, hta⟩ := Rw.own_form HOW.out
            subst hta
            have HA6 := Lib.hid (HA5.out.later HBW.out)
            have HB6 := Lib.hid (step HB5.out HBW.out)
            have HRW : Hid (Ac.RdV wr (.slice ta (L.filter fun x => decide ((d : Int) < x.slot)).length tc) (L.filter fun x => decide ((d : Int) < x.slot))) := Lib.hid ((HO5.out.later HBW.out).sub HOW.out (fun x hx => (List.mem_filter.1 hx).1))
            have HVM : Hid (Ac.valsV (L.filter fun x => decide ((d : Int) < x.slot)) = S2.votes) := Lib.hid (by rw [Ac.vals_filter, HL.out, HS2V.out])
            clear HA5 HB5 HO5 HOW HBW HL
            generalize L.filter (fun x => decide ((d : Int) < x.slot)) = M at HRW HVM ⊢
            generalize M.length = ml at HRW ⊢
            have CSV := Lib.hid (fun (v : Value) (K : List Ac.VoteC) (W : World) (h1 : Ac.RdV W v K) (h2 : Ac.RdV W (.slice ta ml tc) M) => Ac.SameVotes_any v (.slice ta ml tc) K M W h1 h2)
            rw [HVM.out] at CSV
            go_upto_region 20 with (first
              | (go_at_call 21; refine (CV2.out _ HA6.out).mono ?_; rintro e w7 ⟨v7, L7, rfl, hL7, ho7, hb7⟩; have HA7 := Lib.hid (HA6.out.later hb7); have HB7 := Lib.hid (step HB6.out hb7); have HR7 := Lib.hid (HRW.out.later hb7); have HO7 := Lib.hid ho7.rd; have HL7 := Lib.hid hL7; clear hL7 ho7 hb7)
              | (go_at_call 20; refine (CSV.out _ L7 _ HO7.out HR7.out).mono ?_; rw [HL7.out, Ac.sameVs_refl]; rintro e w8 ⟨rfl, hb8⟩; have HA8 := Lib.hid (HA7.out.later hb8); have HB8 := Lib.hid (step HB7.out hb8); clear hb8)
              | (go_at_call 19; refine (CDN.out _ HA8.out).mono ?_; rintro e wz ⟨rfl, rfl⟩; dsimp only)
              | (go_at_call 11; refine (CBT.out _ HB8.out).mono ?_; intro e w9 hmb; obtain ⟨u9, rfl, hm, ho, hb⟩ := hmb.out; rw [HBD.out] at hm ho; rw [HBD.out]; have HA9 := Lib.hid (HA8.out.later hb); have HB9 := Lib.hid (step HB8.out hb); have HU9 : Hid (u9.ownBlock ≠ some g) := Lib.hid (fun q => by (have := (Rw.own_lt ho g q).1; have := HA8.out.lt; omega)); have HR9 := Lib.hid (RdX.own Cm.cellsR_length ho); clear hmb hm ho hb; unfold Cm.batVal; dsimp only)
              | (go_at_call 14; refine (CA1.out _ HA9.out u9 HR9.out HU9.out).mono ?_; rintro e w10 ⟨rfl, ha, hg⟩; have HA10 := Lib.hid ha; have HB10 := Lib.hid (Ac.step_gr HB9.out hg (by rw [HGW.out]; exact Nat.le_refl _) HB9.out.size); clear ha hg; dsimp only))
            go_upto_region 21 with (first
              | (go_at_call 11; refine (CBT.out _ HB10.out).mono ?_; intro e w11 hmb; obtain ⟨u11, rfl, hm, ho, hb⟩ := hmb.out; rw [HBD.out] at hm ho; rw [HBD.out]; have HA11 := Lib.hid (HA10.out.later hb); have HB11 := Lib.hid (step HB10.out hb); have HU11 : Hid (u11.ownBlock ≠ some g) := Lib.hid (fun q => by (have := (Rw.own_lt ho g q).1; have := HA10.out.lt; omega)); have HR11 := Lib.hid (RdX.own Cm.cellsR_length ho); clear hmb hm ho hb; unfold Cm.batVal; dsimp only)
              | (go_at_call 14; refine (CA2.out _ HA11.out u11 HR11.out HU11.out).mono ?_; rintro e w12 ⟨rfl, ha, hg⟩; have HA12 := Lib.hid ha; have HB12 := Lib.hid (Ac.step_gr HB11.out hg (by rw [HGW.out]; exact Nat.le_refl _) HB11.out.size); clear ha hg; dsimp only))
            go_upto_region 22 with (first
              | (go_at_call 11; refine (CBT.out _ HB12.out).mono ?_; intro e w13 hmb; obtain ⟨u13, rfl, hm, ho, hb⟩ := hmb.out; rw [HBD.out] at hm ho; rw [HBD.out]; have HA13 := Lib.hid (HA12.out.later hb); have HB13 := Lib.hid (step HB12.out hb); have HU13 : Hid (u13.ownBlock ≠ some g) := Lib.hid (fun q => by (have := (Rw.own_lt ho g q).1; have := HA12.out.lt; omega)); have HR13 := Lib.hid (RdX.own Cm.cellsR_length ho); clear hmb hm ho hb; unfold Cm.batVal; dsimp only)
              | (go_at_call 14; refine (CA3.out _ HA13.out u13 HR13.out HU13.out).mono ?_; rintro e w14 ⟨rfl, ha, hg⟩; have HA14 := Lib.hid ha; have HB14 := Lib.hid (Ac.step_gr HB13.out hg (by rw [HGW.out]; exact Nat.le_refl _) HB13.out.size); clear ha hg; dsimp only))
            go_upto_region 23 with (go_at_call 16; refine (CT2.out _ HA14.out).mono ?_; rintro e w15 ⟨rfl, ha, hg⟩; have HA15 := Lib.hid ha; have HB15 := Lib.hid (Ac.step_gr HB14.out hg (by rw [HGW.out]; exact Nat.le_refl _) HB14.out.size); clear ha hg; dsimp only)
            rcases HCD.out with ⟨h0, rfl⟩ | ⟨h0, rfl⟩
            · have d5 : decide (0 < d) = true := decide_eq_true h0
              go_wp2_with (first
                | (go_at_call 19; refine (CDN3.out _ HA15.out).mono ?_; rintro e wz ⟨rfl, rfl⟩; dsimp only)
                | (go_at_call 9; refine (C0.out _).mono ?_; rintro e w16 ⟨rfl, hb⟩; have HB16 := Lib.hid (step HB15.out hb); clear hb))
              go_ret
              exact ⟨rfl, HB16.out⟩
            · have d5 : ((d : Int) == 0) = true := by simp; omega
              go_wp2_with (first
                | (go_at_call 19; refine (CDN3.out _ HA15.out).mono ?_; rintro e wz ⟨rfl, rfl⟩; dsimp only)
                | (go_at_call 9; refine (C0.out _).mono ?_; rintro e w16 ⟨rfl, hb⟩; have HB16 := Lib.hid (step HB15.out hb); clear hb))
              go_ret
              exact ⟨rfl, HB16.out⟩

/-! ### THE ROW's STEP -/
set_option maxRecDepth 100000 in
theorem lifted (os : Os) (started : os.Started) (H : Type) (enc : TypeId × Value → H) :
    ReturnsInHanded {} Try.checked os 6 .any (Rows.acceptTrimsSpec.pre6 enc Try.prog Try.f6 Rows.acceptTrimsRow.domain false) (Rows.acceptTrimsSpec.post enc Try.prog Try.f6 false true false false) := by
  refine returnsInHanded_of_change_sized (C := Try.checked) own started (by kernel_rfl) Try.func6
    (ChangeSpec.witness6 (enc := enc) (C := Try.checked) false ⟨#[], #[.slice none 0 0, .int .u8 0, .slice none 0 0], []⟩ 8 (by kernel_rfl) (by kernel_rfl) (by kernel_rfl) (by kernel_rfl)) ?_
  intro W base args ds gs before hval0 hW hcnd hsz _
  have hval : ∀ (j : Nat) t v, Try.f6.params[j]? = some t → args[j]? = some v → Value.okWide Try.prog W .any base t v := hval0
  have hW' := hW
  obtain ⟨p, q, hA0, hV, rfl, hfz, hnd⟩ := hW
  have hA : DataW.TrodAll enc Try.prog W 0 (fun _ => true) true Try.f6.params.toList args.toList ds p := hA0
  rw [Try.params6] at hA hval hsz
  obtain ⟨v0, vs0, d0, ds0, p0, q0, hargs, rfl, rfl, h0, r0⟩ := trodAll_cons hA
  obtain ⟨v1, vs1, d1, ds1, p1, q1, rfl, rfl, rfl, h1, r1⟩ := trodAll_cons r0
  obtain ⟨v2, vs2, d2, ds2, p2, q2, rfl, rfl, rfl, h2, r2⟩ := trodAll_cons r1
  obtain ⟨rfl, rfl, rfl⟩ := trodAll_nil r2
  obtain rfl : args = #[v0, v1, v2] := by cases args; simp_all
  obtain ⟨rfl, rfl⟩ := trodVars_none hV
  obtain ⟨a0, len0, cap0, rfl⟩ := okWide_slice Try.underlying36 (hval 0 36 v0 rfl rfl)
  have k0 := h0
  have lt0 : ∀ x ∈ p0, x.block < W.heap.size := by obtain ⟨m, hm⟩ := k0; exact DataW.trod_lt m _ _ _ hm
  obtain ⟨z0, w0, s0⟩ : ∃ zs, IsRow .u8 W a0 len0 cap0 zs ∧ len0 ≤ 140737488355328 := by
    obtain ⟨fuel, hf⟩ := h0
    rcases open_ints Try.underlying36 Try.underlying5 (by kernel_rfl) hf with ⟨hcs, _⟩ | ⟨x, l, c, zs, hcs, _, hl, hm, hz, hdd, hcell, hwz⟩
    · simp [Value.cells] at hcs
      obtain ⟨rfl, rfl, rfl⟩ := hcs
      exact ⟨[], .inl ⟨rfl, rfl, rfl, rfl⟩, by omega⟩
    · simp [Value.cells] at hcs
      obtain ⟨rfl, rfl, rfl⟩ := hcs
      have hd' := congrArg Prod.fst hdd
      have hs := sized_slice (j := 0) hsz rfl (show (_ : List (DataW H))[0]? = some (.slice (lits .u8 (zs.take len0)) (lits .u8 (zs.drop len0))) from congrArg some hd') Try.underlying36
      have hb : Try.checked.prog.bytesOf 5 = 1 := by kernel_rfl
      rw [hb] at hs
      have hr := reachBytes_lt
      simp [lits] at hs
      exact ⟨zs, .inr ⟨_, rfl, hl, hm, by simpa using hz, hcell, hwz⟩, by simp at hz; omega⟩
  obtain ⟨a1, rfl, rfl, rfl, w1⟩ := open_int Try.underlying5 (hval 1 5 v1 rfl rfl) h1
  obtain ⟨a2, len2, cap2, rfl⟩ := okWide_slice Try.underlying36 (hval 2 36 v2 rfl rfl)
  have k2 := h2
  have lt2 : ∀ x ∈ p2, x.block < W.heap.size := by obtain ⟨m, hm⟩ := k2; exact DataW.trod_lt m _ _ _ hm
  obtain ⟨z2, w2, s2⟩ : ∃ zs, IsRow .u8 W a2 len2 cap2 zs ∧ len2 ≤ 140737488355328 := by
    obtain ⟨fuel, hf⟩ := h2
    rcases open_ints Try.underlying36 Try.underlying5 (by kernel_rfl) hf with ⟨hcs, _⟩ | ⟨x, l, c, zs, hcs, _, hl, hm, hz, hdd, hcell, hwz⟩
    · simp [Value.cells] at hcs
      obtain ⟨rfl, rfl, rfl⟩ := hcs
      exact ⟨[], .inl ⟨rfl, rfl, rfl, rfl⟩, by omega⟩
    · simp [Value.cells] at hcs
      obtain ⟨rfl, rfl, rfl⟩ := hcs
      have hd' := congrArg Prod.fst hdd
      have hs := sized_slice (j := 2) hsz rfl (show (_ : List (DataW H))[2]? = some (.slice (lits .u8 (zs.take len2)) (lits .u8 (zs.drop len2))) from congrArg some hd') Try.underlying36
      have hb : Try.checked.prog.bytesOf 5 = 1 := by kernel_rfl
      rw [hb] at hs
      have hr := reachBytes_lt
      simp [lits] at hs
      exact ⟨zs, .inr ⟨_, rfl, hl, hm, by simpa using hz, hcell, hwz⟩, by simp at hz; omega⟩
  clear hA0 hval0
  refine (walk a0 len0 cap0 z0 a1 a2 len2 cap2 z2 W w0 s0 w1 w2 s2).mono fun e W' ⟨he, bel⟩ => ?_
  subst he
  exact ⟨_, rfl, _, _, _, [], _, [], hW', trodAll_mk1 (shut_bool Try.underlying4 _), (trodAll_cons_mk (Below.trod laidOut (by kernel_rfl) (of_decide_eq_true (by kernel_rfl)) k0 bel lt0) (trodAll_cons_mk (shut_int Try.underlying5 w1) (trodAll_cons_mk (Below.trod laidOut (by kernel_rfl) (of_decide_eq_true (by kernel_rfl)) k2 bel lt2) trodAll_mk0))), rfl, bel.frame _, fun h => by cases h⟩

theorem over : Rows.acceptTrimsRow.holds Try.pinned (OpenSpec.ofChange Rows.acceptTrimsSpec) :=
  OpenClaim.holds_of_wide 6 Try.f6 rfl rfl rfl rfl rfl rfl rfl ⟨rfl, rfl, rfl, rfl, rfl⟩ rfl rfl rfl rfl rfl (by kernel_rfl) Try.func6 (by kernel_rfl)
    (of_decide_eq_true (by kernel_rfl)) (by unfold Func.isWrapper; first | (rw [if_pos (by decide +kernel)]; kernel_rfl) | (rw [if_neg (by decide +kernel)]; exact ⟨rfl, rfl⟩))
    (fun os started H enc _ => lifted os started H enc)

/-- THE STATEMENT -/
theorem proved : Rows.AcceptTrimsSaid := over
end Go.Proofs.Ytmodbbmdkealdaa.acceptTrims
