/- PROVED: the statement LockOwn of layer 8: for every input that can be read, the law returns true and leaves its arguments as they were. No condition. -/
import Derived.Test.YtnkooajbenhjhaaRows
import Derived.Test.YtnkooajbenhjhaaP10
import Derived.WalkKit
import Derived.ProofKit
import Derived.OpenShut
import Derived.ShutString
import Derived.ChangeOld
import Derived.Below
import Derived.Deep.Cut
import Derived.Deep.CutBlock
import Derived.Deep.DeepCutAuto
namespace Go.Proofs.Ytnkooajbenhjhaa.lockOwn
open Go.ChangeShapes Go.WideShapes Go.ChangeAt Go.RowKit
open Go.ChangeMaps (open_string shut_string)
open Go.Sort (grow)
set_option linter.unusedVariables false

theorem own : ownKnob Try.prog.godebug = none := by kernel_rfl
theorem laidOut : laidOutB Try.prog = true := by kernel_rfl

/-! ### STEP 1: THE WALK -/
set_option maxRecDepth 100000 in
set_option maxHeartbeats 4000000 in
theorem walk (a0 : List Cm.Act3 × Value) (a1 : Int) (a2 : Int) (w : World) (w0 : Cm.act3OkA w a0) (w1 : (Lit.int .u8 a1).wf = true) (w2 : (Lit.int .u8 a2).wf = true) :
    Calls Try.prog 8 #[Cm.act3A a0, .int .u8 a1, .int .u8 a2] w fun e w' => e = .returned (.bool true) ∧ Below w.heap.size w w' := by
  obtain ⟨ac, v⟩ := a0
  unfold Cm.act3OkA at w0
  unfold Cm.act3A
  dsimp only at w0 ⊢
  obtain ⟨w0, wa⟩ := w0
  obtain ⟨n, rfl⟩ : ∃ n : Nat, a1 = (n : Int) := Int.eq_ofNat_of_zero_le (by have := w1; simp [Lit.wf, IntKind.min, IntKind.max, IntKind.signed, IntKind.bits] at this; omega)
  have hn8 : n < 256 := by have := w1; simp [Lit.wf, IntKind.min, IntKind.max, IntKind.signed, IntKind.bits] at this; omega
  obtain ⟨c, rfl⟩ : ∃ n : Nat, a2 = (n : Int) := Int.eq_ofNat_of_zero_le (by have := w2; simp [Lit.wf, IntKind.min, IntKind.max, IntKind.signed, IntKind.bits] at this; omega)
  have hc8 : c < 256 := by have := w2; simp [Lit.wf, IntKind.min, IntKind.max, IntKind.signed, IntKind.bits] at this; omega
  have hgd := Cm.madeK_good (ac.take 60) (by rw [List.length_take]; omega)
  have htt : (Cm.madeK (ac.take 60)).2 < 1000000 := by have := hgd.2; rw [List.length_take] at this; omega
  have CM := Lib.hid (Cm.Made_any v ac w w0 wa)
  have CN := Lib.hid (fun W => Cm.Named_any n W hn8)
  have C0 := Lib.hid (fun w => Cm.awake8_ok w)
  have HGD := Lib.hid hgd.1
  have hnmd := Cm.nmd_made (ac.take 60)
  have hnm := Cm.namedF_ok (n % 6) (Nat.mod_lt _ (by omega))
  have hcl : Cm.clientF ((c % 8 : Nat) : Int) = true := Cm.Act3.cl_ok ⟨0, 0, c⟩
  have e2 : (c : Int).tmod 8 = ((c % 8 : Nat) : Int) := Cm.tmod_cast c 8
  have hm8 : c % 8 < 8 := Nat.mod_lt _ (by omega)
  have e3 : IntKind.i64.wrap (c : Int) = (c : Int) := by rw [IntKind.wrap_i64]; omega
  have e4 : IntKind.i64.wrap ((c % 8 : Nat) : Int) = ((c % 8 : Nat) : Int) := by rw [IntKind.wrap_i64]; omega
  generalize Cm.madeK (ac.take 60) = mk at CM HGD htt hnmd
  obtain ⟨ml, T⟩ := mk
  dsimp only at HGD htt hnmd
  unfold Cm.GetsU at CM
  dsimp only at CM
  generalize c % 8 = C at *
  generalize Cm.namedF (n % 6) = nm at *
  have hT := HGD.out.pos
  have hml := HGD.out.len
  have hx1 := Cm.nmd_other hnmd [110, 111, 116, 45, 116, 104, 101, 114, 101] (by decide +kernel)
  have hx2 := Cm.nmd_other hnmd [111, 110, 101, 45, 109, 111, 114, 101] (by decide +kernel)
  have F1 := Cm.free_code ml nm (C : Int) T
  have F2 := Cm.free_other [110, 111, 116, 45, 116, 104, 101, 114, 101] (C : Int) T hx1
  have F3 := Cm.take_none ml nm (C : Int) T
  have F4 := Cm.take_other [111, 110, 101, 45, 109, 111, 114, 101] (C : Int) T hx2
  clear hgd w0 wa w1 w2 hnmd hx1 hx2 hm8
  go_enter Try.func8, Try.ntmps8
  go_wp2_with fail
  refine CM.out.mono ?_
  rintro e w1 ⟨am, cm, M, rfl, hv, hr, hb⟩
  obtain rfl : ml = Cm.vals M := hv.symm
  have HR1 := Lib.hid hr
  have HB1 := Lib.hid hb
  have hbd := Cm.good_bounds HGD.out
  rw [Cm.vals_length] at hml F3 F4
  have KF := Lib.hid (fun W (h : Cm.RdK W (.slice am M.length cm) M) => (Cm.LckFind_any (.slice am M.length cm) M nm W T h HGD.out hnm).mono fun e w' h => Cm.GetsF.s h)
  have KT := Lib.hid (fun W (h : Cm.RdK W (.slice am M.length cm) M) => Cm.LckTake_any (.slice am M.length cm) M nm (C : Int) T true W h HGD.out hnm hcl htt)
  have KR := Lib.hid (fun W (h : Cm.RdK W (.slice am M.length cm) M) => (Cm.LckFree_any (.slice am M.length cm) M nm (C : Int) T W h HGD.out hnm hcl htt).mono fun e w' h => Cm.GetsT.s h)
  have KN := Lib.hid (fun W (h : Cm.RdK W (.slice am M.length cm) M) => (Cm.LckFree_any (.slice am M.length cm) M [110, 111, 116, 45, 116, 104, 101, 114, 101] (C : Int) T W h HGD.out (by decide +kernel) hcl htt).mono fun e w' h => Cm.GetsT.s h)
  have KO := Lib.hid (fun W (h : Cm.RdK W (.slice am M.length cm) M) => (Cm.LckTake_any (.slice am M.length cm) M [111, 110, 101, 45, 109, 111, 114, 101] (C : Int) T true W h HGD.out (by decide +kernel) hcl htt).mono fun e w' h => Cm.GetsT.s h)
  have KC := Lib.hid (fun W (h : Cm.RdK W (.slice am M.length cm) M) => Cm.CopyK_any (.slice am M.length cm) M W h hbd.1 hbd.2)
  have KS := Lib.hid (fun W M2 u (h : Cm.RdK W (.slice am M.length cm) M) (h2 : Cm.RdK W u M2) (e : Cm.vals M = Cm.vals M2) => Cm.same_locks (.slice am M.length cm) u M M2 W h h2 e)
  rw [F2] at KN
  generalize Cm.takeK (Cm.vals M) [111, 110, 101, 45, 109, 111, 114, 101] (C : Int) T true = ro at F4 KO
  generalize Cm.takeK (Cm.vals M) nm (C : Int) T true = rt at F3 KT
  generalize Cm.freeK (Cm.vals M) nm (C : Int) T = rf at F1 KR
  generalize Cm.findK (Cm.vals M) nm = r at F1 F3 KF
  obtain ⟨ol, on, oc⟩ := ro
  obtain ⟨tl, tn, tc⟩ := rt
  obtain ⟨fl, fn, fc⟩ := rf
  obtain ⟨⟨yn, yh, yt, yl⟩, yb⟩ := r
  unfold Cm.GetsTS at KN KO KR
  unfold Cm.GetsT at KT
  dsimp only at F1 F3 F4 KT KF KR KO KN
  have HF1 := Lib.hid F1
  have HF3 := Lib.hid F3
  have HF4 := Lib.hid F4
  clear hr hb hv F1 F2 F3 F4 hbd hnm hcl
  generalize M.length = N at *
  go_wp2_with fail
  refine (KC.out _ HR1.out).mono ?_
  rintro e w2 ⟨uc, Mc, rfl, hvc, hoc, hbc⟩
  have HVC := Lib.hid hvc
  have HRC := Lib.hid hoc.rd
  have HR2 := Lib.hid (HR1.out.later hbc)
  have HB2 := Lib.hid (step HB1.out hbc)
  obtain ⟨ca, cc, rfl⟩ := Rw.own_form hoc.row
  clear hvc hoc hbc KC
  go_wp2_with fail
  refine (CN.out _).mono ?_
  rintro e w3 ⟨rfl, hb3⟩
  have HRC3 := Lib.hid (HRC.out.later hb3)
  have HR3 := Lib.hid (HR2.out.later hb3)
  have HB3 := Lib.hid (step HB2.out hb3)
  clear hb3 CN
  go_wp2_with fail
  refine (KF.out _ HR3.out).mono ?_
  rintro e w4 ⟨Xa, Xc, rfl, hx, hb4⟩
  obtain ⟨W5, hW5⟩ : ∃ W5, W5 = w4.alloc (.cells #[.string (bstr yn), .int .i64 yh, .int .i64 yt, .slice Xa yl.length Xc] 39) := ⟨_, rfl⟩
  have hb5 : Below w3.heap.size w3 W5 := by rw [hW5]; exact stepAlloc hb4 _
  have HX5 := Lib.hid (hx.later (show Below w4.heap.size w4 W5 by rw [hW5]; exact newAlloc _ _))
  have HRC5 := Lib.hid (HRC3.out.later hb5)
  have HR5 := Lib.hid (HR3.out.later hb5)
  have HB5 := Lib.hid (step HB3.out hb5)
  obtain ⟨z0, z1, z2, z3⟩ := Cm.box4 (Below.refl _ (w4.alloc (.cells #[.string (bstr yn), .int .i64 yh, .int .i64 yt, .slice Xa yl.length Xc] 39)))
  rw [← hW5] at z0 z1 z2 z3
  have HZ : Hid (∀ W, Below W5.heap.size W5 W → W.cell? ⟨w4.heap.size, 1, none⟩ = some (.int .i64 yh) ∧ W.cell? ⟨w4.heap.size, 3, none⟩ = some (.slice Xa yl.length Xc)) := Lib.hid fun W hb => ⟨(hb.cell (lt_of_cell z1)).trans z1, (hb.cell (lt_of_cell z3)).trans z3⟩
  go_upto_region 5 with fail
  rw [← hW5]
  clear hx hb4 hb5 hW5 z0 z1 z2 z3 KF
  go_wp2_with fail
  refine (KT.out _ HR5.out).mono ?_
  rintro e w6 ⟨vt, Mt, rfl, hvt, hot, hbt⟩
  obtain ⟨ta, tp, rfl⟩ := Rw.own_form hot.row
  have HO6 := Lib.hid hot.over
  have hTL := hot.rd.len
  have HB6 := Lib.hid hbt
  have HR6 := Lib.hid (HR5.out.later hbt)
  clear hvt hot hbt KT
  go_upto_region 7 with (go_at_call 14; refine (KR.out _ HR6.out).mono ?_; rintro e w7 ⟨a7, c7, M7, rfl, -, -, hb7⟩)
  have HO7 := Lib.hid (HO6.out.later hb7)
  have HB7 := Lib.hid (step HB6.out hb7)
  have HR7 := Lib.hid (HR6.out.later hb7)
  clear hb7 KR HO6 HR6 HB6
  go_upto_region 8 with (go_at_call 14; refine (KN.out _ HR7.out).mono ?_; rintro e w8 ⟨a8, c8, M8, rfl, -, -, hb8⟩)
  have HO8 := Lib.hid (HO7.out.later hb8)
  have HB8 := Lib.hid (step HB7.out hb8)
  have HR8 := Lib.hid (HR7.out.later hb8)
  clear hb8 KN HO7 HR7 HB7
  go_upto_region 9 with (go_at_call 11; refine (KO.out _ HR8.out).mono ?_; rintro e w9 ⟨a9, c9, M9, rfl, -, -, hb9⟩)
  have HO9 := Lib.hid (HO8.out.later hb9)
  have HB9 := Lib.hid (step HB8.out hb9)
  clear hb9 KO HO8 HR8 HB8 HR2 HR3 HRC HRC3 HB2 HB3 HB1 HR1 CM e2 e3 e4
  obtain ⟨Nt, hNt⟩ : ∃ Nt, Mt.length = Nt := ⟨_, rfl⟩
  rw [hNt] at HO9 hTL ⊢
  clear hNt
  go_wp2
  go_loopw [26] (fun i wr => ∃ (j : Nat) (Mk : List Cm.LockC), j ≤ Nt ∧ i = .int .i64 j ∧ Hid (Cm.Over W5.heap.size wr (.slice ta Nt tp) Nt Mk) ∧ Hid (Below W5.heap.size W5 wr)) (fun i _ => Nt - (intOf i).toNat)
  case atStart => exact ⟨0, Mt, by omega, rfl, HO9, HB9⟩
  case round =>
    obtain ⟨j, Mk, hj, rfl, HOV, HBJ⟩ := hrel
    by_cases hlt : j < Nt
    · have hjk : j < Mk.length := by rw [HOV.out.len]; exact hlt
      obtain ⟨g, rfl, hg⟩ := own_some (sz := 4) HOV.out.row (by omega)
      have HAT := Lib.hid (fun W M' (h : Cm.Over W5.heap.size W (.slice (some ⟨g, 0, none⟩) Nt tp) Nt M') (hk : j < M'.length) => Cm.ownK_at h.row h.len j hk)
      have f1 : (0 : Int) ≤ (j : Int) := by omega
      have f2 : (j : Int) < (Nt : Int) := by omega
      obtain ⟨L, hL⟩ : ∃ L, Mk[j].line.length = L := ⟨_, rfl⟩
      have hLm : L ≤ 9223372036854775807 := by rw [← hL]; exact HOV.out.small _ (List.getElem_mem hjk)
      have HLV : Hid (Mk[j].lv = .slice Mk[j].la L Mk[j].lc) := Lib.hid (by rw [← hL]; rfl)
      have HCE := Lib.hid (fun W (h : Cm.Over W5.heap.size W (.slice (some ⟨g, 0, none⟩) Nt tp) Nt Mk) q (hq : q < L) => h.cell j hjk q (by rw [hL]; exact hq))
      generalize hla : Mk[j].la = la at HLV HCE
      generalize Mk[j].lc = lc at HLV
      go_wp2
      go_loopw [27] (fun i wk => ∃ q : Nat, q ≤ L ∧ i = .int .i64 q ∧ Hid (Cm.Over W5.heap.size wk (.slice (some ⟨g, 0, none⟩) Nt tp) Nt Mk) ∧ Hid (Below W5.heap.size W5 wk)) (fun i _ => L - (intOf i).toNat)
      case atStart => exact ⟨0, by omega, rfl, HOV, HBJ⟩
      case round =>
        obtain ⟨q, hq, rfl, HOQ, HBQ⟩ := hrel
        obtain ⟨-, y1, -, y3, yf⟩ := HAT.out _ _ HOQ.out hjk
        rw [HLV.out] at y3
        by_cases hql : q < L
        · obtain ⟨gl, ol, rfl, hgl, ⟨u, hu⟩, hfz, hset⟩ := HCE.out _ HOQ.out q hql
          have HSET := Lib.hid (hset (.int .i64 99))
          clear hset
          have f3 : (0 : Int) ≤ (q : Int) := by omega
          have f4 : (q : Int) < (L : Int) := by omega
          go_wp2
          go_roundw
          case rel => exact ⟨q + 1, by omega, by go_num, HSET, Lib.hid (HBQ.out.setCell hgl _)⟩
          case measure => simp [intOf]; omega
        · obtain rfl : q = L := by omega
          have HSH := Lib.hid (HOQ.out.set_holder j hjk 98)
          have yf1 := yf (j * 4 + 1)
          go_wp2
          go_roundw
          case rel => exact ⟨j + 1, _, by omega, by go_num, HSH, Lib.hid (HBQ.out.setCell hg _)⟩
          case measure => simp [intOf]; omega
    · obtain rfl : j = Nt := by omega
      obtain ⟨x1, x3⟩ := HZ.out _ HBJ.out
      have HII := Lib.hid (fun W (hb : Below W5.heap.size W5 W) => Cm.In_has _ yl (C : Int) W (HX5.out.later hb))
      have KS2 := Lib.hid (fun W (hb : Below W5.heap.size W5 W) => KS.out W Mc _ (HR5.out.later hb) (HRC5.out.later hb) HVC.out.symm)
      have hf1 := HF1.out
      have hf3 := HF3.out
      have hf4 := HF4.out
      clear HF1 HF3 HF4 KS HR5 HRC5 HX5 HZ HOV HO9 HB9
      by_cases hn4 : 4 ≤ N
      case' pos =>
        rw [if_pos hn4] at hf3 hf4
        have d4 : decide ((N : Int) < 4) = false := by simp; omega
      case' neg =>
        rw [if_neg hn4] at hf3 hf4
        have d4 : decide ((N : Int) < 4) = true := by simp; omega
      all_goals
        subst hf4
        clear hn4
        cases yb
        case' false =>
          have h3 := hf3 rfl
          simp only [Bool.false_and, Bool.false_eq_true, if_false] at hf1
          subst h3 hf1
          clear hf3
        case' true =>
          clear hf3
          by_cases hh : yh = (C : Int)
          case' pos =>
            rw [decide_eq_true hh, Bool.true_or, Bool.and_self, if_pos rfl] at hf1
            subst hf1
            have dh : (yh == (C : Int)) = true := by simpa using hh
            clear hh
          case' neg =>
            rw [decide_eq_false hh, Bool.false_or, Bool.true_and] at hf1
            have dh : (yh == (C : Int)) = false := by simpa using hh
            clear hh
            cases hl : Cm.hasL yl (C : Int)
            case' false =>
              rw [hl, if_neg (by simp)] at hf1
              subst hf1
              rw [hl] at HII
              clear hl
            case' true =>
              rw [hl, if_pos rfl] at hf1
              subst hf1
              rw [hl] at HII
              clear hl
      all_goals
        go_wp2_with (first
          | (go_at_call 28; refine (HII.out _ HBJ.out).mono ?_; rintro e w10 ⟨rfl, rfl⟩)
          | (go_at_call 13; refine (KS2.out _ HBJ.out).mono ?_; rintro e w11 ⟨rfl, hb11⟩; have HB11 := Lib.hid (step HBJ.out hb11); clear hb11)
          | (go_at_call 9; refine (C0.out _).mono ?_; rintro e w12 ⟨rfl, hb12⟩))
        go_ret
        exact ⟨rfl, step HB5.out (step HB11.out hb12)⟩

/-! ### THE ROW's STEP -/
set_option maxRecDepth 100000 in
theorem lifted (os : Os) (started : os.Started) (H : Type) (enc : TypeId × Value → H) :
    ReturnsInHanded {} Try.checked os 8 .any (Rows.lockOwnSpec.pre6 enc Try.prog Try.f8 Rows.lockOwnRow.domain false) (Rows.lockOwnSpec.post enc Try.prog Try.f8 false true false false) := by
  refine returnsInHanded_of_change (C := Try.checked) own started (by kernel_rfl) Try.func8
    (ChangeSpec.witness6 (enc := enc) (C := Try.checked) false ⟨#[], #[.slice none 0 0, .int .u8 0, .int .u8 0], []⟩ 8 (by kernel_rfl) (by kernel_rfl) (by kernel_rfl) (by kernel_rfl)) ?_
  intro W base args ds gs before hval0 hW hcnd _
  have hval : ∀ (j : Nat) t v, Try.f8.params[j]? = some t → args[j]? = some v → Value.okWide Try.prog W .any base t v := hval0
  have hW' := hW
  obtain ⟨p, q, hA0, hV, rfl, hfz, hnd⟩ := hW
  have hA : DataW.TrodAll enc Try.prog W 0 (fun _ => true) true Try.f8.params.toList args.toList ds p := hA0
  rw [Try.params8] at hA hval
  obtain ⟨v0, vs0, d0, ds0, p0, q0, hargs, rfl, rfl, h0, r0⟩ := trodAll_cons hA
  obtain ⟨v1, vs1, d1, ds1, p1, q1, rfl, rfl, rfl, h1, r1⟩ := trodAll_cons r0
  obtain ⟨v2, vs2, d2, ds2, p2, q2, rfl, rfl, rfl, h2, r2⟩ := trodAll_cons r1
  obtain ⟨rfl, rfl, rfl⟩ := trodAll_nil r2
  obtain rfl : args = #[v0, v1, v2] := by cases args; simp_all
  obtain ⟨rfl, rfl⟩ := trodVars_none hV
  have k0 := h0
  have lt0 : ∀ x ∈ p0, x.block < W.heap.size := by obtain ⟨m, hm⟩ := k0; exact DataW.trod_lt m _ _ _ hm
  obtain ⟨a0, rfl, w0⟩ := Cm.open_act3 (hval 0 22 v0 rfl rfl) h0
  obtain ⟨a1, rfl, rfl, rfl, w1⟩ := open_int Try.underlying5 (hval 1 5 v1 rfl rfl) h1
  obtain ⟨a2, rfl, rfl, rfl, w2⟩ := open_int Try.underlying5 (hval 2 5 v2 rfl rfl) h2
  clear hA0 hval0
  refine (walk a0 a1 a2 W w0 w1 w2).mono fun e W' ⟨he, bel⟩ => ?_
  subst he
  exact ⟨_, rfl, _, _, _, [], _, [], hW', trodAll_mk1 (shut_bool Try.underlying4 _), (trodAll_cons_mk (Below.trod laidOut (by kernel_rfl) (of_decide_eq_true (by kernel_rfl)) k0 bel lt0) (trodAll_cons_mk (shut_int Try.underlying5 w1) (trodAll_cons_mk (shut_int Try.underlying5 w2) trodAll_mk0))), rfl, bel.frame _, fun h => by cases h⟩

theorem over : Rows.lockOwnRow.holds Try.pinned (OpenSpec.ofChange Rows.lockOwnSpec) :=
  OpenClaim.holds_of_wide 8 Try.f8 rfl rfl rfl rfl rfl rfl rfl ⟨rfl, rfl, rfl, rfl, rfl⟩ rfl rfl rfl rfl rfl (by kernel_rfl) Try.func8 (by kernel_rfl)
    (of_decide_eq_true (by kernel_rfl)) (by unfold Func.isWrapper; first | (rw [if_pos (by decide +kernel)]; kernel_rfl) | (rw [if_neg (by decide +kernel)]; exact ⟨rfl, rfl⟩))
    (fun os started H enc _ => lifted os started H enc)

/-- THE STATEMENT -/
theorem proved : Rows.LockOwnSaid := over
end Go.Proofs.Ytnkooajbenhjhaa.lockOwn
