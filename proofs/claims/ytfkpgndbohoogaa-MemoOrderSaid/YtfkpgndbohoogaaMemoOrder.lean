/- PROVED: the statement MemoOrder of layer 9: for every input that can be read, the law returns true and leaves its arguments as they were. No condition. -/
import Derived.Test.YtfkpgndbohoogaaRows
import Derived.Test.YtfkpgndbohoogaaP8
import Derived.WalkKit
import Derived.ProofKit
import Derived.OpenShut
import Derived.ShutString
import Derived.ChangeOld
import Derived.Below
import Derived.Deep.Cut
import Derived.Deep.CutBlock
import Derived.Deep.DeepCutAuto
namespace Go.Proofs.Ytfkpgndbohoogaa.memoOrder
open Go.ChangeShapes Go.WideShapes Go.ChangeAt Go.RowKit
open Go.ChangeMaps (open_string shut_string)
open Go.Sort (grow)
set_option linter.unusedVariables false

theorem own : ownKnob Try.prog.godebug = none := by kernel_rfl
theorem laidOut : laidOutB Try.prog = true := by kernel_rfl

/-! ### STEP 1: THE WALK -/
set_option maxRecDepth 100000 in
set_option maxHeartbeats 4000000 in
theorem walk (a0 : List Cm.Bytes9 × Value) (a1 : Int) (w : World) (w0 : Cm.bytes9OkA w a0) (w1 : (Lit.int .u8 a1).wf = true) :
    Calls Try.prog 6 #[Cm.bytes9A a0, .int .u8 a1] w fun e w' => e = .returned (.bool true) ∧ Below w.heap.size w w' := by
  obtain ⟨L, v⟩ := a0
  unfold Cm.bytes9OkA at w0
  unfold Cm.bytes9A
  dsimp only at w0 ⊢
  obtain ⟨w0, wa⟩ := w0
  obtain ⟨t9, rfl⟩ : ∃ n : Nat, a1 = (n : Int) := Int.eq_ofNat_of_zero_le (by have := w1; simp [Lit.wf, IntKind.min, IntKind.max, IntKind.signed, IntKind.bits] at this; omega)
  have ht9 : t9 < 256 := by have := w1; simp [Lit.wf, IntKind.min, IntKind.max, IntKind.signed, IntKind.bits] at this; omega
  have hm := w0.len
  have C0 := Lib.hid (fun w => Cm.awake9_ok w)
  obtain ⟨a, cap, rfl⟩ := w0.form
  have HA := Lib.hid (fun i hi => Cm.bytes9_at w0 i hi)
  have HOK : Hid (∀ i (hi : i < L.length), Rd w L[i].nv L[i].ns) := Lib.hid fun i hi => wa _ (List.getElem_mem hi)
  clear w0 wa w1
  obtain ⟨N, hN⟩ : ∃ N, L.length = N := ⟨_, rfl⟩
  have HLL := Lib.hid hN
  rw [hN] at hm ⊢
  clear hN
  obtain ⟨i1, hi, hz0, hz1, hz2⟩ := info_parts Cm.infoA9
  go_enter Try.func6, Try.ntmps6
  go_wp2
  go_loopw [5, 6] (fun m i wr => ∃ (k : Nat) (M : List Cm.MemC) (am : Option Addr) (cm : Nat), k ≤ N ∧ k ≤ 8 ∧ i = .int .i64 k ∧ m = .slice am M.length cm ∧ M.length = k ∧ Hid (∀ j (hj : j < M.length), M[j].m.client = (j : Int) ∧ Cm.mayA M[j].m = true ∧ M[j].m.rep.held.length ≤ 4) ∧ Hid (Cm.OwnA w.heap.size wr (.slice am M.length cm) M) ∧ Hid (Below w.heap.size w wr)) (fun _ i _ => 8 - (intOf i).toNat)
  case atStart => exact ⟨0, [], none, 0, by omega, by omega, rfl, rfl, rfl, Lib.hid (fun j hj => absurd hj (Nat.not_lt_zero _)), Lib.hid (Cm.OwnA.nil _ _), Lib.hid (Below.refl _ _)⟩
  case round =>
    obtain ⟨k, M, am, cm, hk, hk8, rfl, rfl, hMk, HG, HO, HB⟩ := hrel
    have HMK := Lib.hid hMk
    clear hMk
    by_cases hlt : k < N ∧ k < 8
    · obtain ⟨g1, g3⟩ := hlt
      have hkl : k < L.length := by rw [HLL.out]; exact g1
      obtain ⟨b, o, rfl, hc⟩ := HA.out k hkl
      have hok := HOK.out k hkl
      have HC := Lib.hid hc
      clear hc HA HOK
      generalize L[k] = x at hok HC
      obtain ⟨xl, xa, xp⟩ := x
      unfold Cm.Bytes9.nv at HC hok
      dsimp only at HC hok
      have KA := Lib.hid (fun W (hb : Below w.heap.size w W) => Cm.Answer_own k (7 * k) (.slice xa xl.length xp) xl W (by omega) (by omega) (hok.later hb))
      have d1 : decide (k < N) = true := decide_eq_true g1
      have d3 : decide (k < 8) = true := decide_eq_true g3
      have f1 : (0 : Int) ≤ (k : Int) := by omega
      have f2 : (k : Int) < (N : Int) := by omega
      have v1 : IntKind.u8.wrap (k : Int) = (k : Int) := by rw [IntKind.wrap_u8]; omega
      have v2 : IntKind.i64.wrap (7 * (k : Int)) = 7 * (k : Int) := by rw [IntKind.wrap_i64]; omega
      have v3 : IntKind.u8.wrap (7 * (k : Int)) = 7 * (k : Int) := by rw [IntKind.wrap_u8]; omega
      rw [show ((7 * k : Nat) : Int) = 7 * (k : Int) by omega] at KA
      clear hok hkl
      generalize xl.length = XN at *
      have q0 := HC.out _ HB.out
      have hbw := HB.out.size
      go_wp2_with (first
        | (go_at_call 18; refine (KA.out _ HB.out).mono ?_; rintro e w5 ⟨⟨ac, sq, ⟨ak, an, ad, al⟩⟩, ua, up, he, hA1, hA2, -, hA4, ho5, hb5⟩; unfold Cm.ansVal at he; dsimp only at he hA1 hA2 hA4 ho5; subst he; have HB5 := Lib.hid hb5; have HO5 := Lib.hid ho5; have HA1 := Lib.hid hA1; have HA2 := Lib.hid hA2; have HA4 := Lib.hid hA4; have HM5 : Hid (w5.ownsRow w.heap.size 30 6 (.slice am M.length cm) M.length (flatX Cm.cellsM M)) := Lib.hid (HO.out.later hb5).row; have hbs5 := hb5.size; clear hb5 ho5 hA1 hA2 hA4)
        | (at_builtin; refine Cm.wpList_append_one_gr Cm.cellsM_length (by omega) rfl (.tmp 20) (.tmp 31) 22 rfl 30 i1 _ 64 Try.underlying22 hi hz0 hz1 hz2 rfl #[.int .i64 ac, .int .i64 sq, .int .i64 ak, .int .i64 an, .int .i64 ad, .slice ua al.length up] (⟨⟨ac, sq, ⟨ak, an, ad, al⟩⟩, ua, up⟩ : Cm.MemC) rfl (Cm.cellsM_one _) M w.heap.size (.slice am M.length cm) rfl rfl HM5.out (by rw [HMK.out]; unfold maxLen; omega) (by rw [HMK.out]; omega) (by omega) ?_; intro v6 w6 ho6 hg6 _; have HO6 : Hid (Cm.OwnA w.heap.size w6 v6 (M ++ [⟨⟨ac, sq, ⟨ak, an, ad, al⟩⟩, ua, up⟩])) := Lib.hid (HO.out.push (x := ⟨⟨ac, sq, ⟨ak, an, ad, al⟩⟩, ua, up⟩) (stepAlloc HB5.out _) (Rw.own_alloc HO5.out _) hbw hg6 ho6); have HB6 : Hid (Below w.heap.size w w6) := Lib.hid ((step HB.out (stepAlloc HB5.out _)).grown hg6 (by simp; omega) (fun g hg => (Rw.own_lt HM5.out g hg).1)); clear ho6 hg6))
      obtain ⟨a6, c6, rfl⟩ := Rw.own_form HO6.out.row
      go_roundw
      case rel => exact ⟨k + 1, M ++ [⟨⟨ac, sq, ⟨ak, an, ad, al⟩⟩, ua, up⟩], a6, c6, by omega, by omega, by go_num, rfl, by simp [HMK.out], Lib.hid (fun j hj => by
        rw [List.getElem_append]
        split
        · rename_i q
          exact HG.out j q
        · rename_i q
          rw [List.getElem_singleton]
          have hjk : j = k := by rw [List.length_append, List.length_singleton, HMK.out] at hj; rw [HMK.out] at q; omega
          subst hjk
          exact ⟨by rw [HA2.out, Nat.mod_eq_of_lt g3], HA1.out, HA4.out⟩), HO6, HB6⟩
      case measure => simp [intOf]; omega
    · have hcs : ¬ k < N ∨ (k < N ∧ ¬ k < 8) := by omega
      clear hlt HA HOK
      obtain ⟨V, hV⟩ : ∃ V, Cm.valsM M = V := ⟨_, rfl⟩
      have HVV := Lib.hid hV
      have hVl : V.length = k := by rw [← hV, Cm.valsM_length, HMK.out]
      have HVL := Lib.hid hVl
      have HVG : Hid (∀ j (hj : j < k), ∃ h1 : j < V.length, ∃ h2 : j < M.length, V[j] = M[j].m) := Lib.hid fun j hj => by
        have h2 : j < M.length := by rw [HMK.out]; exact hj
        subst hV
        exact ⟨by rw [Cm.valsM_length]; exact h2, h2, Cm.valsM_get M j h2 _⟩
      have HD : Hid (Cm.Dist V) := Lib.hid (Cm.Dist.of (fun x hx => by
          obtain ⟨j, hj, rfl⟩ := List.mem_iff_getElem.1 hx
          obtain ⟨h1, h2, e⟩ := HVG.out j (by omega)
          rw [e]; exact (HG.out j h2).2.1) (fun j hj => by
          obtain ⟨h1, h2, e⟩ := HVG.out j (by omega)
          rw [e]; exact (HG.out j h2).1))
      have HH4 : Hid (∀ x ∈ V, x.rep.held.length ≤ 4) := Lib.hid (fun x hx => by
          obtain ⟨j, hj, rfl⟩ := List.mem_iff_getElem.1 hx
          obtain ⟨h1, h2, e⟩ := HVG.out j (by omega)
          rw [e]; exact (HG.out j h2).2.2)
      have HRD : Hid (Cm.RdM wr (.slice am M.length cm) M) := Lib.hid HO.out.rd
      have HT := Lib.hid (HD.out.turn (t9 % k))
      have HTL := Lib.hid (Cm.rot_len V (t9 % k))
      have HTA : Hid (∀ j (hj : j < k), ∃ h : j < (V.drop (t9 % k) ++ V.take (t9 % k)).length, ∃ h2 : (j + t9) % k < V.length, (V.drop (t9 % k) ++ V.take (t9 % k))[j] = V[(j + t9) % k]) := Lib.hid (fun j hj => by
        obtain ⟨K, hK⟩ : ∃ K, K = V.length := ⟨_, rfl⟩
        have hKk : k = K := by omega
        subst hKk
        subst hK
        have h2 : (j + t9) % V.length < V.length := Nat.mod_lt _ (by omega)
        exact ⟨by rw [Cm.rot_len]; exact hj, h2, Cm.rot_at V t9 j hj _ h2⟩)
      have HTS := Lib.hid (HD.out.same (t9 % k))
      have HTF := Lib.hid (Cm.held_rot HH4.out (t9 % k))
      have HAT : Hid (∀ j (hj : j < k), ∃ b o, am = some ⟨b, o, none⟩ ∧ ∃ x : Cm.MemC, (∃ h1 : j < V.length, V[j] = x.m) ∧ Cm.RdH wr x.hv x.m.rep.held ∧ ∀ w' : World, Below wr.heap.size wr w' → w'.cell? ⟨b, o + j * 6, none⟩ = some (.int .i64 x.m.client) ∧ w'.cell? ⟨b, o + j * 6 + 1, none⟩ = some (.int .i64 x.m.seq) ∧ w'.cell? ⟨b, o + j * 6 + 2, none⟩ = some (.int .i64 x.m.rep.code) ∧ w'.cell? ⟨b, o + j * 6 + 3, none⟩ = some (.int .i64 x.m.rep.session) ∧ w'.cell? ⟨b, o + j * 6 + 4, none⟩ = some (.int .i64 x.m.rep.ahead) ∧ w'.cell? ⟨b, o + j * 6 + 5, none⟩ = some x.hv) := Lib.hid fun j hj => by
        obtain ⟨h1, h2, e⟩ := HVG.out j hj
        obtain ⟨b, o, ea, hc⟩ := Cm.rdm_at HRD.out.row j h2
        exact ⟨b, o, ea, M[j], ⟨h1, e⟩, HRD.out.held _ (List.getElem_mem h2), hc⟩
      generalize V.drop (t9 % k) ++ V.take (t9 % k) = R at HT HTL HTS HTF HTA
      have HMKe := HMK.out
      rw [HMKe]
      clear HMKe HMK HG HO HRD HVG HVV hV hVl HLL
      have HVK : Hid (Cm.valsM ([] : List Cm.MemC) = Cm.allM (V.take 0) ∧ Cm.valsM ([] : List Cm.MemC) = Cm.allM (R.take 0)) := Lib.hid ⟨rfl, rfl⟩
      obtain ⟨wo, rfl⟩ : ∃ wo, wo = wr := ⟨_, rfl⟩
      have HX : Hid (∀ j (hj : j < k), Cm.keepM (Cm.allM (V.take j)) (V[j]'(by have := HVL.out; omega)) = Cm.allM (V.take (j + 1))) := Lib.hid fun j hj => HD.out.step j (by have := HVL.out; omega)
      have HY : Hid (∀ j (hj : j < k), Cm.keepM (Cm.allM (R.take j)) (R[j]'(by have := HVL.out; have := HTL.out; omega)) = Cm.allM (R.take (j + 1))) := Lib.hid fun j hj => HT.out.step j (by have := HVL.out; have := HTL.out; omega)
      rcases hcs with c1 | ⟨c1, c2⟩
      all_goals
        go_wp2
        go_loopw [7, 8, 9] (fun ma mb i w2 => ∃ (j : Nat) (A B : List Cm.MemC) (aa : Option Addr) (ca : Nat) (ab : Option Addr) (cb : Nat), j ≤ k ∧ i = .int .i64 j ∧ ma = .slice aa j ca ∧ mb = .slice ab j cb ∧ Hid (A.length = j ∧ B.length = j) ∧ Hid (Cm.valsM A = Cm.allM (V.take j)) ∧ Hid (Cm.valsM B = Cm.allM (R.take j)) ∧ Hid (Cm.RdM w2 (.slice aa j ca) A) ∧ Hid (Cm.RdM w2 (.slice ab j cb) B) ∧ Hid (Below wo.heap.size wo w2)) (fun _ _ i _ => k - (intOf i).toNat)
        case atStart => exact ⟨0, [], [], none, 0, none, 0, by omega, rfl, rfl, rfl, Lib.hid ⟨rfl, rfl⟩, Lib.hid HVK.out.1, Lib.hid HVK.out.2, Lib.hid (Cm.RdM.nil _), Lib.hid (Cm.RdM.nil _), Lib.hid (Below.refl _ _)⟩
        case round =>
          obtain ⟨j, A, B, aa, ca, ab, cb, hj, rfl, rfl, rfl, HAB, HVA, HVB, HRA, HRB, HBW⟩ := hrel
          by_cases hjk : j < k
          · obtain ⟨r, hr⟩ : ∃ r, (j + t9) % k = r := ⟨_, rfl⟩
            have hrk : r < k := by rw [← hr]; exact Nat.mod_lt _ (by omega)
            obtain ⟨b, o, rfl, xa, ⟨h1, e1⟩, hh, hc⟩ := HAT.out j hjk
            obtain ⟨b', o', eb, xb, ⟨h2, e2⟩, hh2, hc2⟩ := HAT.out r hrk
            cases eb
            have eA : Cm.keepM (Cm.valsM A) xa.m = Cm.allM (V.take (j + 1)) := by rw [HVA.out, ← e1]; exact HX.out j hjk
            have eB : Cm.keepM (Cm.valsM B) xb.m = Cm.allM (R.take (j + 1)) := by
              obtain ⟨q1, q2, q3⟩ := HTA.out j hjk
              subst hr
              rw [HVB.out, ← e2, ← q3]
              exact HY.out j hjk
            have ha4 : xa.m.rep.held.length ≤ 4 := by rw [← e1]; exact HH4.out _ (List.getElem_mem h1)
            have hb4 : xb.m.rep.held.length ≤ 4 := by rw [← e2]; exact HH4.out _ (List.getElem_mem h2)
            have KA := fun W (hb : Below wr.heap.size wr W) => Cm.MemKeep_any (.slice aa j ca) xa.hv A xa.m W (HRA.out.later hb) (by rw [HVA.out]; exact (HD.out.take j).rm) (by have := HAB.out; omega) (hh.later (step HBW.out hb)) (by omega) (Cm.Few.mem (by rw [HVA.out]; exact Cm.held_all HH4.out j))
            have KB := fun W (hb : Below wr.heap.size wr W) => Cm.MemKeep_any (.slice ab j cb) xb.hv B xb.m W (HRB.out.later hb) (by rw [HVB.out]; exact (HT.out.take j).rm) (by have := HAB.out; omega) (hh2.later (step HBW.out hb)) (by omega) (Cm.Few.mem (by rw [HVB.out]; exact Cm.held_all HTF.out j))
            rw [eA] at KA
            rw [eB] at KB
            obtain ⟨q0, q1, q2, q3, q4, q5⟩ := hc _ HBW.out
            have HC2 := Lib.hid (fun W (hb : Below wr.heap.size wr W) => hc2 W (step HBW.out hb))
            have hLA : (Cm.allM (V.take (j + 1))).length = j + 1 := HD.out.len (j + 1) (by have := HVL.out; omega)
            have hLB : (Cm.allM (R.take (j + 1))).length = j + 1 := HT.out.len (j + 1) (by have := HVL.out; have := HTL.out; omega)
            have HLAB := Lib.hid (And.intro hLA hLB)
            clear hc hc2 hh hh2 eA eB e1 e2 ha4 hb4 hLA hLB HAT HTA HX HY HVK h1 h2
            obtain ⟨⟨xc, xs, ⟨xk, xn, xd, xl⟩⟩, xp, xq⟩ := xa
            obtain ⟨⟨yc, ys, ⟨yk, yn, yd, yl⟩⟩, yp, yq⟩ := xb
            unfold Cm.ansVal Cm.MemC.hv Cm.GetsK at KA KB
            unfold Cm.MemC.hv at q5 HC2
            dsimp only at q0 q1 q2 q3 q4 q5 HC2 KA KB
            have KA := Lib.hid KA
            have KB := Lib.hid KB
            generalize xl.length = XN at *
            generalize yl.length = YN at *
            have f1 : (0 : Int) ≤ (j : Int) := by omega
            have f2 : (j : Int) < (k : Int) := by omega
            have f3 : (0 : Int) ≤ (r : Int) := by omega
            have f4 : (r : Int) < (k : Int) := by omega
            have v1 : IntKind.i64.wrap (t9 : Int) = (t9 : Int) := by rw [IntKind.wrap_i64]; omega
            have v2 : IntKind.i64.wrap ((j : Int) + (t9 : Int)) = (j : Int) + (t9 : Int) := by rw [IntKind.wrap_i64]; omega
            have v3 : ((j : Int) + (t9 : Int)).tmod (k : Int) = (r : Int) := by rw [show (j : Int) + (t9 : Int) = ((j + t9 : Nat) : Int) by omega, Cm.tmod_nat, hr]
            have v4 : IntKind.i64.wrap (r : Int) = (r : Int) := by rw [IntKind.wrap_i64]; omega
            have v5 : ¬ ((k : Int) = 0) := by omega
            have v6 : ¬ (k = 0) := by omega
            clear hr
            go_upto_region 11 with (go_at_call 9; refine (KA.out _ (Below.refl _ _)).mono ?_; rintro e w5 ⟨a5, c5, M5, rfl, hv5, hr5, hb5⟩; have HV5 := Lib.hid hv5; have HR5 := Lib.hid hr5; have HB5 := Lib.hid hb5; clear hv5 hr5 hb5)
            obtain ⟨p0, p1, p2, p3, p4, p5⟩ := HC2.out _ HB5.out
            go_wp2_with (go_at_call 9; refine (KB.out _ HB5.out).mono ?_; rintro e w6 ⟨a6, c6, M6, rfl, hv6, hr6, hb6⟩; have HV6 := Lib.hid hv6; have HR6 := Lib.hid hr6; have HB6 := Lib.hid (step HB5.out hb6); have HR56 := Lib.hid (HR5.out.later hb6); clear hv6 hr6 hb6)
            have hl5 : M5.length = j + 1 := by rw [← Cm.valsM_length, HV5.out]; exact HLAB.out.1
            have hl6 : M6.length = j + 1 := by rw [← Cm.valsM_length, HV6.out]; exact HLAB.out.2
            rw [hl5] at HR56 ⊢
            rw [hl6] at HR6 ⊢
            go_roundw
            case rel => exact ⟨j + 1, M5, M6, a5, c5, a6, c6, by omega, by go_num, rfl, rfl, Lib.hid ⟨hl5, hl6⟩, HV5, HV6, HR56, HR6, Lib.hid (step HBW.out HB6.out)⟩
            case measure => simp [intOf]; omega
          · obtain rfl : j = k := by omega
            have hvl := HVL.out
            have hA : Cm.valsM A = Cm.allM V := by rw [HVA.out, List.take_of_length_le (by omega)]
            have hB : Cm.valsM B = Cm.allM V := by rw [HVB.out, List.take_of_length_le (by rw [HTL.out]; omega), HTS.out]
            have KS := Lib.hid (Cm.same_mems _ _ A B wr HRA.out HRB.out (by rw [hA, hB]))
            have KR := fun W (hb : Below wr.heap.size wr W) => Cm.MemRight_any (.slice aa j ca) A W (HRA.out.later hb)
            rw [hA, (Cm.rightM_iff _).2 HD.out.rm] at KR
            have KR := Lib.hid KR
            have dkk : ((j : Int) == (j : Int)) = true := by simp
            clear hA hB hvl HX HY HAT HTA HVK
            go_wp2_with (first
              | (go_at_call 11; refine KS.out.mono ?_; rintro e w5 ⟨rfl, hb5⟩; have HB5 := Lib.hid hb5; clear hb5)
              | (go_at_call 12; refine (KR.out _ HB5.out).mono ?_; rintro e w6 ⟨rfl, hb6⟩; have HB6 := Lib.hid (step HB5.out hb6); clear hb6)
              | (go_at_call 8; refine (C0.out _).mono ?_; rintro e w7 ⟨rfl, hb7⟩))
            go_ret
            exact ⟨rfl, step HB.out (step HBW.out (step HB6.out hb7))⟩

/-! ### THE ROW's STEP -/
set_option maxRecDepth 100000 in
theorem lifted (os : Os) (started : os.Started) (H : Type) (enc : TypeId × Value → H) :
    ReturnsInHanded {} Try.checked os 6 .any (Rows.memoOrderSpec.pre6 enc Try.prog Try.f6 Rows.memoOrderRow.domain false) (Rows.memoOrderSpec.post enc Try.prog Try.f6 false true false false) := by
  refine returnsInHanded_of_change (C := Try.checked) own started (by kernel_rfl) Try.func6
    (ChangeSpec.witness6 (enc := enc) (C := Try.checked) false ⟨#[], #[.slice none 0 0, .int .u8 0], []⟩ 8 (by kernel_rfl) (by kernel_rfl) (by kernel_rfl) (by kernel_rfl)) ?_
  intro W base args ds gs before hval0 hW hcnd _
  have hval : ∀ (j : Nat) t v, Try.f6.params[j]? = some t → args[j]? = some v → Value.okWide Try.prog W .any base t v := hval0
  have hW' := hW
  obtain ⟨p, q, hA0, hV, rfl, hfz, hnd⟩ := hW
  have hA : DataW.TrodAll enc Try.prog W 0 (fun _ => true) true Try.f6.params.toList args.toList ds p := hA0
  rw [Try.params6] at hA hval
  obtain ⟨v0, vs0, d0, ds0, p0, q0, hargs, rfl, rfl, h0, r0⟩ := trodAll_cons hA
  obtain ⟨v1, vs1, d1, ds1, p1, q1, rfl, rfl, rfl, h1, r1⟩ := trodAll_cons r0
  obtain ⟨rfl, rfl, rfl⟩ := trodAll_nil r1
  obtain rfl : args = #[v0, v1] := by cases args; simp_all
  obtain ⟨rfl, rfl⟩ := trodVars_none hV
  have k0 := h0
  have lt0 : ∀ x ∈ p0, x.block < W.heap.size := by obtain ⟨m, hm⟩ := k0; exact DataW.trod_lt m _ _ _ hm
  obtain ⟨a0, rfl, w0⟩ := Cm.open_bytes9 (hval 0 47 v0 rfl rfl) h0
  obtain ⟨a1, rfl, rfl, rfl, w1⟩ := open_int Try.underlying5 (hval 1 5 v1 rfl rfl) h1
  clear hA0 hval0
  refine (walk a0 a1 W w0 w1).mono fun e W' ⟨he, bel⟩ => ?_
  subst he
  exact ⟨_, rfl, _, _, _, [], _, [], hW', trodAll_mk1 (shut_bool Try.underlying4 _), (trodAll_cons_mk (Below.trod laidOut (by kernel_rfl) (of_decide_eq_true (by kernel_rfl)) k0 bel lt0) (trodAll_cons_mk (shut_int Try.underlying5 w1) trodAll_mk0)), rfl, bel.frame _, fun h => by cases h⟩

theorem over : Rows.memoOrderRow.holds Try.pinned (OpenSpec.ofChange Rows.memoOrderSpec) :=
  OpenClaim.holds_of_wide 6 Try.f6 rfl rfl rfl rfl rfl rfl rfl ⟨rfl, rfl, rfl, rfl, rfl⟩ rfl rfl rfl rfl rfl (by kernel_rfl) Try.func6 (by kernel_rfl)
    (of_decide_eq_true (by kernel_rfl)) (by unfold Func.isWrapper; first | (rw [if_pos (by decide +kernel)]; kernel_rfl) | (rw [if_neg (by decide +kernel)]; exact ⟨rfl, rfl⟩))
    (fun os started H enc _ => lifted os started H enc)

/-- THE STATEMENT -/
theorem proved : Rows.MemoOrderSaid := over
end Go.Proofs.Ytfkpgndbohoogaa.memoOrder
