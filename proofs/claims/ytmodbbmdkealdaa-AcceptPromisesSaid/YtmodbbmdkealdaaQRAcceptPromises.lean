/- PROVED: the statement AcceptPromises of layer 14: for every input that can be read, the law returns true and leaves its arguments as they were. No condition. -/
import Derived.Test.YtmodbbmdkealdaaRows
import Derived.Test.YtmodbbmdkealdaaQ8
import Derived.WalkKit
import Derived.ProofKit
import Derived.OpenShut
import Derived.ShutString
import Derived.ChangeOld
import Derived.Below
import Derived.BigQuiet
import Derived.Lib.QuietBelow
import Derived.SizedLaws
import Derived.Deep.Cut
import Derived.Deep.CutBlock
import Derived.Deep.DeepCutAuto
namespace Go.Proofs.Ytmodbbmdkealdaa.acceptPromises
open Go.ChangeShapes Go.WideShapes Go.ChangeAt Go.RowKit
open Go.ChangeMaps (open_string shut_string)
open Go.Sort (grow)
set_option linter.unusedVariables false
set_option maxRecDepth 8000
set_option linter.unusedSimpArgs false

theorem own : ownKnob Try.prog.godebug = none := by kernel_rfl
theorem laidOut : laidOutB Try.prog = true := by kernel_rfl

/-! ### STEP 1: THE WALK -/
set_option maxRecDepth 100000 in
set_option maxHeartbeats 4000000 in
theorem walk (a0 : Int) (a1 : Int) (a2 : Int) (a3 : Option Addr) (len3 cap3 : Nat) (z3 : List Int) (w : World) (w0 : (Lit.int .u16 a0).wf = true) (w1 : (Lit.int .u16 a1).wf = true) (w2 : (Lit.int .u8 a2).wf = true) (w3 : IsRow .u8 w a3 len3 cap3 z3) (s3 : len3 ≤ 140737488355328) :
    Calls Try.prog 5 #[.int .u16 a0, .int .u16 a1, .int .u8 a2, .slice a3 len3 cap3] w fun e w' => e = .returned (.bool true) ∧ Below w.heap.size w w' := by
  obtain ⟨hr, hrl⟩ := w3.rd
  generalize bytesOf z3 len3 = NS at hr hrl
  obtain ⟨P, rfl⟩ : ∃ P : Nat, a0 = (P : Int) := Int.eq_ofNat_of_zero_le (by have := w0; simp [Lit.wf, IntKind.min, IntKind.max, IntKind.signed, IntKind.bits] at this; omega)
  have hP : P < 65536 := by have := w0; simp [Lit.wf, IntKind.min, IntKind.max, IntKind.signed, IntKind.bits] at this; omega
  obtain ⟨Q, rfl⟩ : ∃ Q : Nat, a1 = (Q : Int) := Int.eq_ofNat_of_zero_le (by have := w1; simp [Lit.wf, IntKind.min, IntKind.max, IntKind.signed, IntKind.bits] at this; omega)
  have hQ : Q < 65536 := by have := w1; simp [Lit.wf, IntKind.min, IntKind.max, IntKind.signed, IntKind.bits] at this; omega
  obtain ⟨S, rfl⟩ : ∃ S : Nat, a2 = (S : Int) := Int.eq_ofNat_of_zero_le (by have := w2; simp [Lit.wf, IntKind.min, IntKind.max, IntKind.signed, IntKind.bits] at this; omega)
  have hS : S < 256 := by have := w2; simp [Lit.wf, IntKind.min, IntKind.max, IntKind.signed, IntKind.bits] at this; omega
  obtain ⟨s, hs⟩ : ∃ s, S % 9 = s := ⟨_, rfl⟩
  have hs9 : s < 9 := by omega
  have hS : (S : Int) % 9 = (s : Int) := by omega
  have hS2 : (S : Int).tmod 9 = (s : Int) := by rw [Int.tmod_eq_emod_of_nonneg (by omega)]; exact hS
  have e1 : IntKind.i64.wrap (1 + (s : Int)) = 1 + (s : Int) := by rw [IntKind.wrap_i64]; omega
  have e2 : IntKind.i64.wrap (P : Int) = (P : Int) := by rw [IntKind.wrap_i64]; omega
  have e3 : IntKind.i64.wrap (Q : Int) = (Q : Int) := by rw [IntKind.wrap_i64]; omega
  have e4 : IntKind.i64.wrap (S : Int) = (S : Int) := by rw [IntKind.wrap_i64]; omega
  have C0 := Lib.hid (fun w => Ac.awake14_ok w)
  have hL4 : NS.length ≤ 4611686018427387904 := by omega
  have CBT := Lib.hid (fun (W : World) (hb : Below w.heap.size w W) => Cm.Batch_F _ NS W (hr.later hb) hL4)
  clear w0 w1 w2 w3 hr hrl hs hL4 hS
  obtain ⟨B, hB⟩ : ∃ B, Cm.batchF NS = B := ⟨_, rfl⟩
  have CN := Lib.hid (Ac.New_any w)
  obtain ⟨g, hgw⟩ : ∃ g, w.heap.size = g := ⟨_, rfl⟩
  rw [hgw] at CN
  have HGW := Lib.hid hgw
  clear hgw
  have hb0 : Cm.highF (P : Int) 0 = true := by simp [Cm.highF]; omega
  have hb1 : Cm.highF (Q : Int) 0 = true := by simp [Cm.highF]; omega
  have hb2 : Cm.highF (1 + (s : Int)) 1 = true := by simp [Cm.highF]; omega
  have hp1 : Ac.promF Ac.newA (P : Int) = (⟨P, 0, []⟩, 0) := by
    unfold Ac.promF
    rw [if_neg (by rw [hb0]; decide), if_neg (show ¬ ((P : Int) < Ac.newA.ballot) from fun q => by have q : (P : Int) < 0 := q; omega)]
    rfl
  have hg1 : Ac.Good ⟨P, 0, []⟩ := by have := Ac.newA_good.prom (P : Int); rw [hp1] at this; exact this
  have CP := Lib.hid (fun (w' : World) h => Ac.Promise_any g (g + 1) Ac.newA P w' h)
  have CP2 := Lib.hid (fun (w' : World) h => Ac.Promise_any g (g + 1) ⟨P, 0, []⟩ Q w' h)
  rw [hp1] at CP
  have HBD := Lib.hid hB
  by_cases hlt : Q < P
  · have hp2 : Ac.promF ⟨P, 0, []⟩ (Q : Int) = (⟨P, 0, []⟩, 11) := by
      unfold Ac.promF
      rw [if_neg (by rw [hb1]; decide), if_pos (show (Q : Int) < (P : Int) by omega)]
    have ha : Cm.mayB B = true → Ac.accF ⟨P, 0, []⟩ Q (1 + (s : Int)) B = (⟨P, 0, []⟩, 11) := fun hm => by
      unfold Ac.accF
      rw [if_neg (by rw [hb1, hb2, hm]; decide), if_pos (.inl (show (Q : Int) < (P : Int) by omega))]
    have HAC := Lib.hid ha
    rw [hp2] at CP2
    have CA := Lib.hid (fun (w' : World) h u hr hu => Ac.Accept_any g (g + 1) ⟨P, 0, []⟩ Q (1 + (s : Int)) B u w' h hg1 hr hu)
    have CV := Lib.hid (fun (w' : World) h => Ac.Votes_any g (g + 1) ⟨P, 0, []⟩ w' h hg1)
    have CL := Lib.hid (fun (w' : World) h => Ac.Ballot_any g (g + 1) ⟨P, 0, []⟩ w' h)
    have d1 : decide ((Q : Int) < (P : Int)) = true := by simp; omega
    clear hb0 hb1 hb2 hp1 hp2 hg1 ha hB
    go_enter Try.func5, Try.ntmps5
    go_upto_region 5 with (first
      | (go_at_call 10; refine CN.out.mono ?_; rintro e w1 ⟨rfl, hw⟩; have HA1 : Hid (Ac.HasA w1 g (g + 1) Ac.newA) := Lib.hid (Ac.HasA.new (by rw [hw]; exact Cm.alloc_atB _ _ _ HGW.out) (by omega) (by rw [hw]; simp [HGW.out])); have HB1 : Hid (Below w.heap.size w w1) := Lib.hid (by rw [hw]; exact newAlloc _ _); clear hw)
      | (go_at_call 12; refine (CP.out _ HA1.out).mono ?_; rintro e w2 ⟨rfl, ha, hg⟩; have HA2 := Lib.hid ha; have HB2 := Lib.hid (Ac.step_gr HB1.out hg (by rw [HGW.out]; exact Nat.le_refl _) HB1.out.size); clear ha hg; dsimp only))
    go_wp2_with (first
      | (go_at_call 12; refine (CP2.out _ HA2.out).mono ?_; rintro e w3 ⟨rfl, ha, hg⟩; have HA3 := Lib.hid ha; have HB3 := Lib.hid (Ac.step_gr HB2.out hg (by rw [HGW.out]; exact Nat.le_refl _) HB2.out.size); clear ha hg; dsimp only)
      | (go_at_call 11; refine (CBT.out _ HB3.out).mono ?_; intro e w4 hmb; obtain ⟨u, rfl, hm, ho, hb⟩ := hmb.out; rw [HBD.out] at hm ho; rw [HBD.out]; have HA4 := Lib.hid (HA3.out.later hb); have HB4 := Lib.hid (step HB3.out hb); have HU : Hid (u.ownBlock ≠ some g) := Lib.hid (fun q => by (have := (Rw.own_lt ho g q).1; have := HA3.out.lt; omega)); have HRU := Lib.hid (RdX.own Cm.cellsR_length ho); have HMB := Lib.hid hm; clear hmb hm ho hb)
      | (go_at_call 14; refine (CA.out _ HA4.out u HRU.out HU.out).mono ?_; rw [HAC.out HMB.out]; rintro e w5 ⟨rfl, ha, hg⟩; have HA5 := Lib.hid ha; have HB5 := Lib.hid (Ac.step_gr HB4.out hg (by rw [HGW.out]; exact Nat.le_refl _) HB4.out.size); clear ha hg; dsimp only)
      | (go_at_call 18; refine (CL.out _ HA5.out).mono ?_; rintro e w6 ⟨rfl, rfl⟩; dsimp only)
      | (go_at_call 21; refine (CV.out _ HA5.out).mono ?_; rintro e w7 ⟨v, L, rfl, hL, ho, hb⟩; have HB7 := Lib.hid (step HB5.out hb); have hlen : L.length = 0 := (by rw [← Ac.valsV_length, hL]; rfl); obtain ⟨va, vc, hv⟩ := ho.rd.form; rw [hlen] at hv; subst hv; clear ho hb hL)
      | (go_at_call 9; refine (C0.out _).mono ?_; rintro e w8 ⟨rfl, hb⟩; have HB8 := Lib.hid (step HB7.out hb); clear hb))
    go_ret
    exact ⟨rfl, HB8.out⟩
  · have hp2 : Ac.promF ⟨P, 0, []⟩ (Q : Int) = (⟨Q, 0, []⟩, 0) := by
      unfold Ac.promF
      rw [if_neg (by rw [hb1]; decide), if_neg (show ¬ ((Q : Int) < (P : Int)) by omega)]
    have hg2 : Ac.Good ⟨Q, 0, []⟩ := by have := hg1.prom (Q : Int); rw [hp2] at this; exact this
    have ha : Cm.mayB B = true → Ac.accF ⟨Q, 0, []⟩ Q (1 + (s : Int)) B = (⟨Q, 0, [⟨1 + (s : Int), Q, B⟩]⟩, 0) := fun hm => by
      unfold Ac.accF
      rw [if_neg (by rw [hb1, hb2, hm]; decide), if_neg (show ¬ ((Q : Int) < (Q : Int) ∨ 1 + (s : Int) ≤ 0) by omega), if_neg (show ¬ ((0 : Int) + 9 < 1 + (s : Int)) by omega)]
      rfl
    have HAC := Lib.hid ha
    have hg3 : Cm.mayB B = true → Ac.Good ⟨Q, 0, [⟨1 + (s : Int), Q, B⟩]⟩ := fun hm => by have := hg2.acc Q (1 + (s : Int)) B; rw [ha hm] at this; exact this
    rw [hp2] at CP2
    have CA := Lib.hid (fun (w' : World) h u hr hu => Ac.Accept_any g (g + 1) ⟨Q, 0, []⟩ Q (1 + (s : Int)) B u w' h hg2 hr hu)
    have CV := Lib.hid (fun (w' : World) hm h => Ac.Votes_any g (g + 1) ⟨Q, 0, [⟨1 + (s : Int), Q, B⟩]⟩ w' h (hg3 hm))
    have CL := Lib.hid (fun (w' : World) h => Ac.Ballot_any g (g + 1) ⟨Q, 0, [⟨1 + (s : Int), Q, B⟩]⟩ w' h)
    have d1 : decide ((Q : Int) < (P : Int)) = false := by simp; omega
    clear hb0 hb1 hb2 hp1 hp2 hg1 hg2 hg3 ha hB
    go_enter Try.func5, Try.ntmps5
    go_upto_region 5 with (first
      | (go_at_call 10; refine CN.out.mono ?_; rintro e w1 ⟨rfl, hw⟩; have HA1 : Hid (Ac.HasA w1 g (g + 1) Ac.newA) := Lib.hid (Ac.HasA.new (by rw [hw]; exact Cm.alloc_atB _ _ _ HGW.out) (by omega) (by rw [hw]; simp [HGW.out])); have HB1 : Hid (Below w.heap.size w w1) := Lib.hid (by rw [hw]; exact newAlloc _ _); clear hw)
      | (go_at_call 12; refine (CP.out _ HA1.out).mono ?_; rintro e w2 ⟨rfl, ha, hg⟩; have HA2 := Lib.hid ha; have HB2 := Lib.hid (Ac.step_gr HB1.out hg (by rw [HGW.out]; exact Nat.le_refl _) HB1.out.size); clear ha hg; dsimp only))
    go_upto_region 10 with (first
      | (go_at_call 12; refine (CP2.out _ HA2.out).mono ?_; rintro e w3 ⟨rfl, ha, hg⟩; have HA3 := Lib.hid ha; have HB3 := Lib.hid (Ac.step_gr HB2.out hg (by rw [HGW.out]; exact Nat.le_refl _) HB2.out.size); clear ha hg; dsimp only)
      | (go_at_call 11; refine (CBT.out _ HB3.out).mono ?_; intro e w4 hmb; obtain ⟨u, rfl, hm, ho, hb⟩ := hmb.out; rw [HBD.out] at hm ho; rw [HBD.out]; have HA4 := Lib.hid (HA3.out.later hb); have HB4 := Lib.hid (step HB3.out hb); have HU : Hid (u.ownBlock ≠ some g) := Lib.hid (fun q => by (have := (Rw.own_lt ho g q).1; have := HA3.out.lt; omega)); have HRU := Lib.hid (RdX.own Cm.cellsR_length ho); have HMB := Lib.hid hm; clear hmb hm ho hb)
      | (go_at_call 14; refine (CA.out _ HA4.out u HRU.out HU.out).mono ?_; rw [HAC.out HMB.out]; rintro e w5 ⟨rfl, ha, hg⟩; have HA5 := Lib.hid ha; have HB5 := Lib.hid (Ac.step_gr HB4.out hg (by rw [HGW.out]; exact Nat.le_refl _) HB4.out.size); clear ha hg; dsimp only)
      | (go_at_call 21; refine (CV.out _ HMB.out HA5.out).mono ?_; rintro e w6 ⟨v, L, rfl, hL, ho, hb⟩; have HA6 := Lib.hid (HA5.out.later hb); have HB6 := Lib.hid (step HB5.out hb); have HL := Lib.hid hL; have HO6 := Lib.hid ho.rd; clear ho hb hL))
    have hlen : L.length = 1 := by rw [← Ac.valsV_length, HL.out]; rfl
    obtain ⟨va, vc, hv⟩ := HO6.out.form
    rw [hlen] at hv
    subst hv
    obtain ⟨x, hx⟩ : ∃ x, L = [x] := List.length_eq_one_iff.1 hlen
    subst hx
    have hxv : x.val = ⟨1 + (s : Int), Q, B⟩ := by have := HL.out; simpa [Ac.valsV] using this
    obtain ⟨x1, x2, ⟨x3, x4, x5, x6, x7, x8⟩, xa, xc⟩ := x
    unfold Ac.VoteC.val at hxv
    dsimp only at hxv
    injection hxv with g1 g2 g3
    subst g1 g2 g3
    obtain ⟨vb, vo, rfl, hc⟩ := Ac.rdv_at HO6.out.row 0 (by simp)
    have HRX : Hid (Cm.RdR w6 (.slice xa x8.length xc) x8) := Lib.hid (HO6.out.reqs _ List.mem_cons_self)
    simp only [Nat.zero_mul, Nat.add_zero, List.getElem_cons_zero, Ac.VoteC.u] at hc
    have HKP := Lib.hid hc
    have CS := Lib.hid (fun v W h1 h2 => Cm.RefSameB_any ⟨x3, x4, x5, x6, x7, x8⟩ ⟨x3, x4, x5, x6, x7, x8⟩ (.slice xa x8.length xc) v W h1 h2)
    rw [Cm.sameB_refl] at CS
    unfold Cm.batVal at CS
    dsimp only at CS
    clear hc hlen HL HO6 CP CP2 CA CV HAC CN HMB HRU HU HA5 HB1 HB2 HB3 HB4 HB5 HA1 HA2 HA3 HA4
    refine wp_region_held_drew (S := (fun W => W.cell? ⟨vb, vo, none⟩ = some (.int .i64 (1 + (s : Int))) ∧ W.cell? ⟨vb, vo + 1, none⟩ = some (.int .i64 (Q : Int)) ∧ W.cell? ⟨vb, vo + 2, none⟩ = some (.bool x3) ∧ W.cell? ⟨vb, vo + 3, none⟩ = some (.int .i64 x4) ∧ W.cell? ⟨vb, vo + 4, none⟩ = some (.int .i64 x5) ∧ W.cell? ⟨vb, vo + 5, none⟩ = some (.int .i64 x6) ∧ W.cell? ⟨vb, vo + 6, none⟩ = some (.int .i64 x7) ∧ W.cell? ⟨vb, vo + 7, none⟩ = some (.slice xa x8.length xc))) (by kernel_rfl) (HKP.out _ (Below.refl _ _).drew) (fun hHeld => ?_)
    obtain ⟨V, hV⟩ : ∃ V, V = w6.drew := ⟨_, rfl⟩
    have HBV : Hid (Below w6.heap.size w6 V) := Lib.hid (by rw [hV]; exact (Below.refl _ _).drew)
    rw [← hV] at hHeld ⊢
    clear hV
    refine wpAnyH_take (i := 0) (v := ?_) rfl (by kernel_rfl) (by kernel_rfl) (by kernel_rfl) (fun _ _ _ h => h) (Or.inl ⟨by rfl, ?_⟩) (by assumption) ?_
    rotate_left
    · intro w hSw; (try dsimp only at hSw); go_simp <;> with_reducible rfl
    try simp only [Act.put, List.getElem_toArray, List.getElem_cons_zero, List.setIfInBounds_toArray, List.set_cons_zero, List.set_cons_succ]
    refine wpAnyH_take (i := 1) (v := ?_) rfl (by kernel_rfl) (by kernel_rfl) (by kernel_rfl) (fun _ _ _ h => h) (Or.inl ⟨by rfl, ?_⟩) (by assumption) ?_
    rotate_left
    · intro w hSw; (try dsimp only at hSw); go_simp <;> with_reducible rfl
    try simp only [Act.put, List.getElem_toArray, List.getElem_cons_succ, List.getElem_cons_zero, List.setIfInBounds_toArray, List.set_cons_zero, List.set_cons_succ]
    refine wpAnyH_take (i := 2) (v := ?_) rfl (by kernel_rfl) (by kernel_rfl) (by kernel_rfl) (fun _ _ _ h => h) (Or.inl ⟨by rfl, ?_⟩) (by assumption) ?_
    rotate_left
    · intro w hSw; (try dsimp only at hSw); go_simp <;> with_reducible rfl
    try simp only [Act.put, List.getElem_toArray, List.getElem_cons_succ, List.getElem_cons_zero, List.setIfInBounds_toArray, List.set_cons_zero, List.set_cons_succ]
    refine wpAnyH_take (i := 3) (v := ?_) rfl (by kernel_rfl) (by kernel_rfl) (by kernel_rfl) (fun _ _ _ h => h) (Or.inl ⟨by rfl, ?_⟩) (by assumption) ?_
    rotate_left
    · intro w hSw; (try dsimp only at hSw); go_simp <;> with_reducible rfl
    try simp only [Act.put, List.getElem_toArray, List.getElem_cons_succ, List.getElem_cons_zero, List.setIfInBounds_toArray, List.set_cons_zero, List.set_cons_succ]
    refine wpAnyH_take (i := 4) (v := ?_) rfl (by kernel_rfl) (by kernel_rfl) (by kernel_rfl) (fun _ _ _ h => h) (Or.inl ⟨by rfl, ?_⟩) (by assumption) ?_
    rotate_left
    · intro w hSw; (try dsimp only at hSw); go_simp <;> with_reducible rfl
    try simp only [Act.put, List.getElem_toArray, List.getElem_cons_succ, List.getElem_cons_zero, List.setIfInBounds_toArray, List.set_cons_zero, List.set_cons_succ]
    refine wpAnyH_take (i := 5) (v := ?_) rfl (by kernel_rfl) (by kernel_rfl) (by kernel_rfl) (fun _ _ _ h => h) (Or.inl ⟨by rfl, ?_⟩) (by assumption) ?_
    rotate_left
    · intro w hSw; (try dsimp only at hSw); go_simp <;> with_reducible rfl
    try simp only [Act.put, List.getElem_toArray, List.getElem_cons_succ, List.getElem_cons_zero, List.setIfInBounds_toArray, List.set_cons_zero, List.set_cons_succ]
    refine wpAnyH_take (i := 6) (v := ?_) rfl (by kernel_rfl) (by kernel_rfl) (by kernel_rfl) (fun _ _ _ h => h) (Or.inl ⟨by rfl, ?_⟩) (by assumption) ?_
    rotate_left
    · intro w hSw; (try dsimp only at hSw); go_simp <;> with_reducible rfl
    try simp only [Act.put, List.getElem_toArray, List.getElem_cons_succ, List.getElem_cons_zero, List.setIfInBounds_toArray, List.set_cons_zero, List.set_cons_succ]
    refine wpAnyH_take (i := 7) (v := ?_) rfl (by kernel_rfl) (by kernel_rfl) (by kernel_rfl) (fun _ _ _ h => h) (Or.inl ⟨by rfl, ?_⟩) (by assumption) ?_
    rotate_left
    · intro w hSw; (try dsimp only at hSw); go_simp <;> with_reducible rfl
    try simp only [Act.put, List.getElem_toArray, List.getElem_cons_succ, List.getElem_cons_zero, List.setIfInBounds_toArray, List.set_cons_zero, List.set_cons_succ]
    refine wpAnyH_take (i := 9) (v := ?_) rfl (by kernel_rfl) (by kernel_rfl) (by kernel_rfl) (fun _ _ _ h => h) (Or.inl ⟨by rfl, ?_⟩) (by assumption) ?_
    rotate_left
    · intro w hSw; (try dsimp only at hSw); go_simp <;> with_reducible rfl
    try simp only [Act.put, List.getElem_toArray, List.getElem_cons_succ, List.getElem_cons_zero, List.setIfInBounds_toArray, List.set_cons_zero, List.set_cons_succ]
    refine wpAnyH_take (i := 10) (v := ?_) rfl (by kernel_rfl) (by kernel_rfl) (by kernel_rfl) (fun _ _ _ h => h) (Or.inl ⟨by rfl, ?_⟩) (by assumption) ?_
    rotate_left
    · intro w hSw; (try dsimp only at hSw); go_simp <;> with_reducible rfl
    try simp only [Act.put, List.getElem_toArray, List.getElem_cons_succ, List.getElem_cons_zero, List.setIfInBounds_toArray, List.set_cons_zero, List.set_cons_succ]
    refine wpAnyH_ready (rs := [8]) (by kernel_rfl) (by simp) ?_
    refine AllReadyH.cons rfl (fun K hK => ?_) AllReadyH.nil
    go_simp
    go_at_call 18
    refine (CL.out _ (HA6.out.later HBV.out)).mono ?_
    rintro e w7 ⟨rfl, rfl⟩
    refine hK.out _ _ (HKP.out _ HBV.out) (fun hHeld => ?_)
    clear hK K
    try simp only [Act.put, List.getElem_toArray, List.getElem_cons_succ, List.getElem_cons_zero, List.setIfInBounds_toArray, List.set_cons_zero, List.set_cons_succ]
    refine wpAnyH_take (i := 11) (v := ?_) rfl (by kernel_rfl) (by kernel_rfl) (by kernel_rfl) (fun _ _ _ h => h) (Or.inl ⟨by rfl, ?_⟩) (by assumption) ?_
    rotate_left
    · intro w hSw; (try dsimp only at hSw); go_simp <;> with_reducible rfl
    try simp only [Act.put, List.getElem_toArray, List.getElem_cons_succ, List.getElem_cons_zero, List.setIfInBounds_toArray, List.set_cons_zero, List.set_cons_succ]
    refine wpAnyH_take (i := 12) (v := ?_) rfl (by kernel_rfl) (by kernel_rfl) (by kernel_rfl) (fun _ _ _ h => h) (Or.inl ⟨by rfl, ?_⟩) (by assumption) ?_
    rotate_left
    · intro w hSw; (try dsimp only at hSw); go_simp <;> with_reducible rfl
    try simp only [Act.put, List.getElem_toArray, List.getElem_cons_succ, List.getElem_cons_zero, List.setIfInBounds_toArray, List.set_cons_zero, List.set_cons_succ]
    refine wpAnyH_take (i := 13) (v := ?_) rfl (by kernel_rfl) (by kernel_rfl) (by kernel_rfl) (fun _ _ _ h => h) (Or.inl ⟨by rfl, ?_⟩) (by assumption) ?_
    rotate_left
    · intro w hSw; (try dsimp only at hSw); go_simp <;> with_reducible rfl
    try simp only [Act.put, List.getElem_toArray, List.getElem_cons_succ, List.getElem_cons_zero, List.setIfInBounds_toArray, List.set_cons_zero, List.set_cons_succ]
    refine wpAnyH_take (i := 14) (v := ?_) rfl (by kernel_rfl) (by kernel_rfl) (by kernel_rfl) (fun _ _ _ h => h) (Or.inl ⟨by rfl, ?_⟩) (by assumption) ?_
    rotate_left
    · intro w hSw; (try dsimp only at hSw); go_simp <;> with_reducible rfl
    try simp only [Act.put, List.getElem_toArray, List.getElem_cons_succ, List.getElem_cons_zero, List.setIfInBounds_toArray, List.set_cons_zero, List.set_cons_succ]
    refine wpAnyH_take (i := 15) (v := ?_) rfl (by kernel_rfl) (by kernel_rfl) (by kernel_rfl) (fun _ _ _ h => h) (Or.inl ⟨by rfl, ?_⟩) (by assumption) ?_
    rotate_left
    · intro w hSw; (try dsimp only at hSw); go_simp <;> with_reducible rfl
    try simp only [Act.put, List.getElem_toArray, List.getElem_cons_succ, List.getElem_cons_zero, List.setIfInBounds_toArray, List.set_cons_zero, List.set_cons_succ]
    refine wpAnyH_take (i := 16) (v := ?_) rfl (by kernel_rfl) (by kernel_rfl) (by kernel_rfl) (fun _ _ _ h => h) (Or.inl ⟨by rfl, ?_⟩) (by assumption) ?_
    rotate_left
    · intro w hSw; (try dsimp only at hSw); go_simp <;> with_reducible rfl
    try simp only [Act.put, List.getElem_toArray, List.getElem_cons_succ, List.getElem_cons_zero, List.setIfInBounds_toArray, List.set_cons_zero, List.set_cons_succ]
    refine wpAnyH_take (i := 17) (v := ?_) rfl (by kernel_rfl) (by kernel_rfl) (by kernel_rfl) (fun _ _ _ h => h) (Or.inl ⟨by rfl, ?_⟩) (by assumption) ?_
    rotate_left
    · intro w hSw; (try dsimp only at hSw); go_simp <;> with_reducible rfl
    try simp only [Act.put, List.getElem_toArray, List.getElem_cons_succ, List.getElem_cons_zero, List.setIfInBounds_toArray, List.set_cons_zero, List.set_cons_succ]
    refine wpAnyH_take (i := 18) (v := ?_) rfl (by kernel_rfl) (by kernel_rfl) (by kernel_rfl) (fun _ _ _ h => h) (Or.inl ⟨by rfl, ?_⟩) (by assumption) ?_
    rotate_left
    · intro w hSw; (try dsimp only at hSw); go_simp <;> with_reducible rfl
    try simp only [Act.put, List.getElem_toArray, List.getElem_cons_succ, List.getElem_cons_zero, List.setIfInBounds_toArray, List.set_cons_zero, List.set_cons_succ]
    refine wpAnyH_take (i := 19) (v := ?_) rfl (by kernel_rfl) (by kernel_rfl) (by kernel_rfl) (fun _ _ _ h => h) (Or.inl ⟨by rfl, ?_⟩) (by assumption) ?_
    rotate_left
    · intro w hSw; (try dsimp only at hSw); go_simp <;> with_reducible rfl
    try simp only [Act.put, List.getElem_toArray, List.getElem_cons_succ, List.getElem_cons_zero, List.setIfInBounds_toArray, List.set_cons_zero, List.set_cons_succ]
    refine wpAnyH_take (i := 20) (v := ?_) rfl (by kernel_rfl) (by kernel_rfl) (by kernel_rfl) (fun _ _ _ h => h) (Or.inl ⟨by rfl, ?_⟩) (by assumption) ?_
    rotate_left
    · intro w hSw; (try dsimp only at hSw); go_simp <;> with_reducible rfl
    try simp only [Act.put, List.getElem_toArray, List.getElem_cons_succ, List.getElem_cons_zero, List.setIfInBounds_toArray, List.set_cons_zero, List.set_cons_succ]
    refine wpAnyH_take (i := 21) (v := ?_) rfl (by kernel_rfl) (by kernel_rfl) (by kernel_rfl) (fun _ _ _ h => h) (Or.inl ⟨by rfl, ?_⟩) (by assumption) ?_
    rotate_left
    · intro w hSw; (try dsimp only at hSw); go_simp <;> with_reducible rfl
    try simp only [Act.put, List.getElem_toArray, List.getElem_cons_succ, List.getElem_cons_zero, List.setIfInBounds_toArray, List.set_cons_zero, List.set_cons_succ]
    refine wpAnyH_take (i := 22) (v := ?_) rfl (by kernel_rfl) (by kernel_rfl) (by kernel_rfl) (fun _ _ _ h => h) (Or.inl ⟨by rfl, ?_⟩) (by assumption) ?_
    rotate_left
    · intro w hSw; (try dsimp only at hSw); go_simp <;> with_reducible rfl
    try simp only [Act.put, List.getElem_toArray, List.getElem_cons_succ, List.getElem_cons_zero, List.setIfInBounds_toArray, List.set_cons_zero, List.set_cons_succ]
    refine wpAnyH_take (i := 23) (v := ?_) rfl (by kernel_rfl) (by kernel_rfl) (by kernel_rfl) (fun _ _ _ h => h) (Or.inl ⟨by rfl, ?_⟩) (by assumption) ?_
    rotate_left
    · intro w hSw; (try dsimp only at hSw); go_simp <;> with_reducible rfl
    try simp only [Act.put, List.getElem_toArray, List.getElem_cons_succ, List.getElem_cons_zero, List.setIfInBounds_toArray, List.set_cons_zero, List.set_cons_succ]
    refine wpAnyH_take (i := 24) (v := ?_) rfl (by kernel_rfl) (by kernel_rfl) (by kernel_rfl) (fun _ _ _ h => h) (Or.inl ⟨by rfl, ?_⟩) (by assumption) ?_
    rotate_left
    · intro w hSw; (try dsimp only at hSw); go_simp <;> with_reducible rfl
    try simp only [Act.put, List.getElem_toArray, List.getElem_cons_succ, List.getElem_cons_zero, List.setIfInBounds_toArray, List.set_cons_zero, List.set_cons_succ]
    refine wpAnyH_take (i := 25) (v := ?_) rfl (by kernel_rfl) (by kernel_rfl) (by kernel_rfl) (fun _ _ _ h => h) (Or.inl ⟨by rfl, ?_⟩) (by assumption) ?_
    rotate_left
    · intro w hSw; (try dsimp only at hSw); go_simp <;> with_reducible rfl
    try simp only [Act.put, List.getElem_toArray, List.getElem_cons_succ, List.getElem_cons_zero, List.setIfInBounds_toArray, List.set_cons_zero, List.set_cons_succ]
    refine wpAnyH_take (i := 26) (v := ?_) rfl (by kernel_rfl) (by kernel_rfl) (by kernel_rfl) (fun _ _ _ h => h) (Or.inl ⟨by rfl, ?_⟩) (by assumption) ?_
    rotate_left
    · intro w hSw; (try dsimp only at hSw); go_simp <;> with_reducible rfl
    try simp only [Act.put, List.getElem_toArray, List.getElem_cons_succ, List.getElem_cons_zero, List.setIfInBounds_toArray, List.set_cons_zero, List.set_cons_succ]
    refine wpAnyH_take (i := 27) (v := ?_) rfl (by kernel_rfl) (by kernel_rfl) (by kernel_rfl) (fun _ _ _ h => h) (Or.inl ⟨by rfl, ?_⟩) (by assumption) ?_
    rotate_left
    · intro w hSw; (try dsimp only at hSw); go_simp <;> with_reducible rfl
    try simp only [Act.put, List.getElem_toArray, List.getElem_cons_succ, List.getElem_cons_zero, List.setIfInBounds_toArray, List.set_cons_zero, List.set_cons_succ]
    refine wpAnyH_take (i := 28) (v := ?_) rfl (by kernel_rfl) (by kernel_rfl) (by kernel_rfl) (fun _ _ _ h => h) (Or.inl ⟨by rfl, ?_⟩) (by assumption) ?_
    rotate_left
    · intro w hSw; (try dsimp only at hSw); go_simp <;> with_reducible rfl
    try simp only [Act.put, List.getElem_toArray, List.getElem_cons_succ, List.getElem_cons_zero, List.setIfInBounds_toArray, List.set_cons_zero, List.set_cons_succ]
    refine wpAnyH_take (i := 29) (v := ?_) rfl (by kernel_rfl) (by kernel_rfl) (by kernel_rfl) (fun _ _ _ h => h) (Or.inl ⟨by rfl, ?_⟩) (by assumption) ?_
    rotate_left
    · intro w hSw; (try dsimp only at hSw); go_simp <;> with_reducible rfl
    try simp only [Act.put, List.getElem_toArray, List.getElem_cons_succ, List.getElem_cons_zero, List.setIfInBounds_toArray, List.set_cons_zero, List.set_cons_succ]
    refine wpAnyH_take (i := 30) (v := ?_) rfl (by kernel_rfl) (by kernel_rfl) (by kernel_rfl) (fun _ _ _ h => h) (Or.inl ⟨by rfl, ?_⟩) (by assumption) ?_
    rotate_left
    · intro w hSw; (try dsimp only at hSw); go_simp <;> with_reducible rfl
    try simp only [Act.put, List.getElem_toArray, List.getElem_cons_succ, List.getElem_cons_zero, List.setIfInBounds_toArray, List.set_cons_zero, List.set_cons_succ]
    refine wpAnyH_take (i := 31) (v := ?_) rfl (by kernel_rfl) (by kernel_rfl) (by kernel_rfl) (fun _ _ _ h => h) (Or.inl ⟨by rfl, ?_⟩) (by assumption) ?_
    rotate_left
    · intro w hSw; (try dsimp only at hSw); go_simp <;> with_reducible rfl
    try simp only [Act.put, List.getElem_toArray, List.getElem_cons_succ, List.getElem_cons_zero, List.setIfInBounds_toArray, List.set_cons_zero, List.set_cons_succ]
    refine wpAnyH_take (i := 32) (v := ?_) rfl (by kernel_rfl) (by kernel_rfl) (by kernel_rfl) (fun _ _ _ h => h) (Or.inl ⟨by rfl, ?_⟩) (by assumption) ?_
    rotate_left
    · intro w hSw; (try dsimp only at hSw); go_simp <;> with_reducible rfl
    try simp only [Act.put, List.getElem_toArray, List.getElem_cons_succ, List.getElem_cons_zero, List.setIfInBounds_toArray, List.set_cons_zero, List.set_cons_succ]
    refine wpAnyH_take (i := 33) (v := ?_) rfl (by kernel_rfl) (by kernel_rfl) (by kernel_rfl) (fun _ _ _ h => h) (Or.inl ⟨by rfl, ?_⟩) (by assumption) ?_
    rotate_left
    · intro w hSw; (try dsimp only at hSw); go_simp <;> with_reducible rfl
    try simp only [Act.put, List.getElem_toArray, List.getElem_cons_succ, List.getElem_cons_zero, List.setIfInBounds_toArray, List.set_cons_zero, List.set_cons_succ]
    refine wpAnyH_take (i := 34) (v := ?_) rfl (by kernel_rfl) (by kernel_rfl) (by kernel_rfl) (fun _ _ _ h => h) (Or.inl ⟨by rfl, ?_⟩) (by assumption) ?_
    rotate_left
    · intro w hSw; (try dsimp only at hSw); go_simp <;> with_reducible rfl
    try simp only [Act.put, List.getElem_toArray, List.getElem_cons_succ, List.getElem_cons_zero, List.setIfInBounds_toArray, List.set_cons_zero, List.set_cons_succ]
    refine wpAnyH_take (i := 35) (v := ?_) rfl (by kernel_rfl) (by kernel_rfl) (by kernel_rfl) (fun _ _ _ h => h) (Or.inl ⟨by rfl, ?_⟩) (by assumption) ?_
    rotate_left
    · intro w hSw; (try dsimp only at hSw); go_simp <;> with_reducible rfl
    try simp only [Act.put, List.getElem_toArray, List.getElem_cons_succ, List.getElem_cons_zero, List.setIfInBounds_toArray, List.set_cons_zero, List.set_cons_succ]
    refine wpAnyH_take (i := 36) (v := ?_) rfl (by kernel_rfl) (by kernel_rfl) (by kernel_rfl) (fun _ _ _ h => h) (Or.inl ⟨by rfl, ?_⟩) (by assumption) ?_
    rotate_left
    · intro w hSw; (try dsimp only at hSw); go_simp <;> with_reducible rfl
    try simp only [Act.put, List.getElem_toArray, List.getElem_cons_succ, List.getElem_cons_zero, List.setIfInBounds_toArray, List.set_cons_zero, List.set_cons_succ]
    refine wpAnyH_take (i := 37) (v := ?_) rfl (by kernel_rfl) (by kernel_rfl) (by kernel_rfl) (fun _ _ _ h => h) (Or.inl ⟨by rfl, ?_⟩) (by assumption) ?_
    rotate_left
    · intro w hSw; (try dsimp only at hSw); go_simp <;> with_reducible rfl
    try simp only [Act.put, List.getElem_toArray, List.getElem_cons_succ, List.getElem_cons_zero, List.setIfInBounds_toArray, List.set_cons_zero, List.set_cons_succ]
    refine wpAnyH_take (i := 38) (v := ?_) rfl (by kernel_rfl) (by kernel_rfl) (by kernel_rfl) (fun _ _ _ h => h) (Or.inl ⟨by rfl, ?_⟩) (by assumption) ?_
    rotate_left
    · intro w hSw; (try dsimp only at hSw); go_simp <;> with_reducible rfl
    try simp only [Act.put, List.getElem_toArray, List.getElem_cons_succ, List.getElem_cons_zero, List.setIfInBounds_toArray, List.set_cons_zero, List.set_cons_succ]
    refine wpAnyH_take (i := 39) (v := ?_) rfl (by kernel_rfl) (by kernel_rfl) (by kernel_rfl) (fun _ _ _ h => h) (Or.inl ⟨by rfl, ?_⟩) (by assumption) ?_
    rotate_left
    · intro w hSw; (try dsimp only at hSw); go_simp <;> with_reducible rfl
    try simp only [Act.put, List.getElem_toArray, List.getElem_cons_succ, List.getElem_cons_zero, List.setIfInBounds_toArray, List.set_cons_zero, List.set_cons_succ]
    refine wpAnyH_take (i := 40) (v := ?_) rfl (by kernel_rfl) (by kernel_rfl) (by kernel_rfl) (fun _ _ _ h => h) (Or.inl ⟨by rfl, ?_⟩) (by assumption) ?_
    rotate_left
    · intro w hSw; (try dsimp only at hSw); go_simp <;> with_reducible rfl
    try simp only [Act.put, List.getElem_toArray, List.getElem_cons_succ, List.getElem_cons_zero, List.setIfInBounds_toArray, List.set_cons_zero, List.set_cons_succ]
    refine wpAnyH_ready (rs := [41]) (by kernel_rfl) (by simp) ?_
    refine AllReadyH.cons rfl (fun K hK => ?_) AllReadyH.nil
    go_simp
    go_at_call 11
    refine (CBT.out _ (step HB6.out HBV.out)).mono ?_
    intro e V2 hmb
    obtain ⟨u, rfl, -, ho, hb⟩ := hmb.out
    rw [HBD.out] at ho
    rw [HBD.out]
    have HR2 := Lib.hid (RdX.own Cm.cellsR_length ho)
    have HBV2 := Lib.hid (step HBV.out hb)
    clear hmb ho hb HBV
    unfold Cm.batVal
    dsimp only
    refine hK.out _ _ (HKP.out _ HBV2.out) (fun hHeld => ?_)
    clear hK K
    try simp only [Act.put, List.getElem_toArray, List.getElem_cons_succ, List.getElem_cons_zero, List.setIfInBounds_toArray, List.set_cons_zero, List.set_cons_succ]
    refine wpAnyH_ready (rs := [42]) (by kernel_rfl) (by simp) ?_
    refine AllReadyH.cons rfl (fun K hK => ?_) AllReadyH.nil
    go_simp
    go_at_call 22
    refine (CS.out _ _ (HRX.out.later HBV2.out) HR2.out).mono ?_
    rintro e V3 ⟨rfl, hb⟩
    have HBV3 := Lib.hid (step HBV2.out hb)
    clear hb
    refine hK.out _ _ (HKP.out _ HBV3.out) (fun hHeld => ?_)
    clear hK K
    try simp only [Act.put, List.getElem_toArray, List.getElem_cons_succ, List.getElem_cons_zero, List.setIfInBounds_toArray, List.set_cons_zero, List.set_cons_succ]
    refine wpAnyH_take (i := 43) (v := ?_) rfl (by kernel_rfl) (by kernel_rfl) (by kernel_rfl) (fun _ _ _ h => h) (Or.inl ⟨by rfl, ?_⟩) (by assumption) ?_
    rotate_left
    · intro w hSw; (try dsimp only at hSw); go_simp <;> with_reducible rfl
    try simp only [Act.put, List.getElem_toArray, List.getElem_cons_succ, List.getElem_cons_zero, List.setIfInBounds_toArray, List.set_cons_zero, List.set_cons_succ]
    refine wpAnyH_take (i := 44) (v := ?_) rfl (by kernel_rfl) (by kernel_rfl) (by kernel_rfl) (fun _ _ _ h => h) (Or.inl ⟨by rfl, ?_⟩) (by assumption) ?_
    rotate_left
    · intro w hSw; (try dsimp only at hSw); go_simp <;> with_reducible rfl
    try simp only [Act.put, List.getElem_toArray, List.getElem_cons_succ, List.getElem_cons_zero, List.setIfInBounds_toArray, List.set_cons_zero, List.set_cons_succ]
    refine wpAnyH_ready (rs := [45]) (by kernel_rfl) (by simp) ?_
    refine AllReadyH.cons rfl (fun K hK => ?_) AllReadyH.nil
    go_simp
    go_at_call 9
    refine (C0.out _).mono ?_
    rintro e V4 ⟨rfl, hb⟩
    have HBV4 := Lib.hid (step HBV3.out hb)
    clear hb
    refine hK.out _ _ (HKP.out _ HBV4.out) (fun hHeld => ?_)
    clear hK K
    try simp only [Act.put, List.getElem_toArray, List.getElem_cons_succ, List.getElem_cons_zero, List.setIfInBounds_toArray, List.set_cons_zero, List.set_cons_succ]
    refine wpAnyH_take (i := 46) (v := ?_) rfl (by kernel_rfl) (by kernel_rfl) (by kernel_rfl) (fun _ _ _ h => h) (Or.inl ⟨by rfl, ?_⟩) (by assumption) ?_
    rotate_left
    · intro w hSw; (try dsimp only at hSw); go_simp <;> with_reducible rfl
    try simp only [Act.put, List.getElem_toArray, List.getElem_cons_succ, List.getElem_cons_zero, List.setIfInBounds_toArray, List.set_cons_zero, List.set_cons_succ]
    refine wpAnyH_take (i := 47) (v := ?_) rfl (by kernel_rfl) (by kernel_rfl) (by kernel_rfl) (fun _ _ _ h => h) (Or.inl ⟨by rfl, ?_⟩) (by assumption) ?_
    rotate_left
    · intro w hSw; (try dsimp only at hSw); go_simp <;> with_reducible rfl
    try simp only [Act.put, List.getElem_toArray, List.getElem_cons_succ, List.getElem_cons_zero, List.setIfInBounds_toArray, List.set_cons_zero, List.set_cons_succ]
    refine wpAnyH_done (by kernel_rfl) ?_ _
    go_wp2_with fail
    go_ret
    exact ⟨rfl, step HB6.out HBV4.out⟩

/-! ### THE ROW's STEP -/
set_option maxRecDepth 100000 in
theorem lifted (os : Os) (started : os.Started) (H : Type) (enc : TypeId × Value → H) :
    ReturnsInHanded {} Try.checked os 5 .any (Rows.acceptPromisesSpec.pre6 enc Try.prog Try.f5 Rows.acceptPromisesRow.domain false) (Rows.acceptPromisesSpec.post enc Try.prog Try.f5 false true false false) := by
  refine returnsInHanded_of_change_sized (C := Try.checked) own started (by kernel_rfl) Try.func5
    (ChangeSpec.witness6 (enc := enc) (C := Try.checked) false ⟨#[], #[.int .u16 0, .int .u16 0, .int .u8 0, .slice none 0 0], []⟩ 8 (by kernel_rfl) (by kernel_rfl) (by kernel_rfl) (by kernel_rfl)) ?_
  intro W base args ds gs before hval0 hW hcnd hsz _
  have hval : ∀ (j : Nat) t v, Try.f5.params[j]? = some t → args[j]? = some v → Value.okWide Try.prog W .any base t v := hval0
  have hW' := hW
  obtain ⟨p, q, hA0, hV, rfl, hfz, hnd⟩ := hW
  have hA : DataW.TrodAll enc Try.prog W 0 (fun _ => true) true Try.f5.params.toList args.toList ds p := hA0
  rw [Try.params5] at hA hval hsz
  obtain ⟨v0, vs0, d0, ds0, p0, q0, hargs, rfl, rfl, h0, r0⟩ := trodAll_cons hA
  obtain ⟨v1, vs1, d1, ds1, p1, q1, rfl, rfl, rfl, h1, r1⟩ := trodAll_cons r0
  obtain ⟨v2, vs2, d2, ds2, p2, q2, rfl, rfl, rfl, h2, r2⟩ := trodAll_cons r1
  obtain ⟨v3, vs3, d3, ds3, p3, q3, rfl, rfl, rfl, h3, r3⟩ := trodAll_cons r2
  obtain ⟨rfl, rfl, rfl⟩ := trodAll_nil r3
  obtain rfl : args = #[v0, v1, v2, v3] := by cases args; simp_all
  obtain ⟨rfl, rfl⟩ := trodVars_none hV
  obtain ⟨a0, rfl, rfl, rfl, w0⟩ := open_int Try.underlying55 (hval 0 55 v0 rfl rfl) h0
  obtain ⟨a1, rfl, rfl, rfl, w1⟩ := open_int Try.underlying55 (hval 1 55 v1 rfl rfl) h1
  obtain ⟨a2, rfl, rfl, rfl, w2⟩ := open_int Try.underlying5 (hval 2 5 v2 rfl rfl) h2
  obtain ⟨a3, len3, cap3, rfl⟩ := okWide_slice Try.underlying36 (hval 3 36 v3 rfl rfl)
  have k3 := h3
  have lt3 : ∀ x ∈ p3, x.block < W.heap.size := by obtain ⟨m, hm⟩ := k3; exact DataW.trod_lt m _ _ _ hm
  obtain ⟨z3, w3, s3⟩ : ∃ zs, IsRow .u8 W a3 len3 cap3 zs ∧ len3 ≤ 140737488355328 := by
    obtain ⟨fuel, hf⟩ := h3
    rcases open_ints Try.underlying36 Try.underlying5 (by kernel_rfl) hf with ⟨hcs, _⟩ | ⟨x, l, c, zs, hcs, _, hl, hm, hz, hdd, hcell, hwz⟩
    · simp [Value.cells] at hcs
      obtain ⟨rfl, rfl, rfl⟩ := hcs
      exact ⟨[], .inl ⟨rfl, rfl, rfl, rfl⟩, by omega⟩
    · simp [Value.cells] at hcs
      obtain ⟨rfl, rfl, rfl⟩ := hcs
      have hd' := congrArg Prod.fst hdd
      have hs := sized_slice (j := 3) hsz rfl (show (_ : List (DataW H))[3]? = some (.slice (lits .u8 (zs.take len3)) (lits .u8 (zs.drop len3))) from congrArg some hd') Try.underlying36
      have hb : Try.checked.prog.bytesOf 5 = 1 := by kernel_rfl
      rw [hb] at hs
      have hr := reachBytes_lt
      simp [lits] at hs
      exact ⟨zs, .inr ⟨_, rfl, hl, hm, by simpa using hz, hcell, hwz⟩, by simp at hz; omega⟩
  clear hA0 hval0
  refine (walk a0 a1 a2 a3 len3 cap3 z3 W w0 w1 w2 w3 s3).mono fun e W' ⟨he, bel⟩ => ?_
  subst he
  exact ⟨_, rfl, _, _, _, [], _, [], hW', trodAll_mk1 (shut_bool Try.underlying4 _), (trodAll_cons_mk (shut_int Try.underlying55 w0) (trodAll_cons_mk (shut_int Try.underlying55 w1) (trodAll_cons_mk (shut_int Try.underlying5 w2) (trodAll_cons_mk (Below.trod laidOut (by kernel_rfl) (of_decide_eq_true (by kernel_rfl)) k3 bel lt3) trodAll_mk0)))), rfl, bel.frame _, fun h => by cases h⟩

theorem over : Rows.acceptPromisesRow.holds Try.pinned (OpenSpec.ofChange Rows.acceptPromisesSpec) :=
  OpenClaim.holds_of_wide 5 Try.f5 rfl rfl rfl rfl rfl rfl rfl ⟨rfl, rfl, rfl, rfl, rfl⟩ rfl rfl rfl rfl rfl (by kernel_rfl) Try.func5 (by kernel_rfl)
    (of_decide_eq_true (by kernel_rfl)) (by unfold Func.isWrapper; first | (rw [if_pos (by decide +kernel)]; kernel_rfl) | (rw [if_neg (by decide +kernel)]; exact ⟨rfl, rfl⟩))
    (fun os started H enc _ => lifted os started H enc)

/-- THE STATEMENT -/
theorem proved : Rows.AcceptPromisesSaid := over
end Go.Proofs.Ytmodbbmdkealdaa.acceptPromises
