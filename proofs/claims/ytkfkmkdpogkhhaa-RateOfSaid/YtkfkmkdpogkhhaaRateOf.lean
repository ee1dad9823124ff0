/- PROVED: the statement RateOf of layer 2: for every input that can be read, the law returns true and leaves its arguments as they were. No condition. -/
import Derived.Test.YtkfkmkdpogkhhaaRows
import Derived.Test.YtkfkmkdpogkhhaaRateF
import Derived.Test.YtkfkmkdpogkhhaaFTop
import Derived.WalkKit
import Derived.ProofKit
import Derived.OpenShut
import Derived.ShutString
import Derived.ChangeOld
import Derived.Below
namespace Go.Proofs.Ytkfkmkdpogkhhaa.rateOf
open Go.ChangeShapes Go.WideShapes Go.ChangeAt Go.RowKit
open Go.ChangeMaps (open_string shut_string)
set_option linter.unusedVariables false

theorem own : ownKnob Try.prog.godebug = none := by kernel_rfl
theorem laidOut : laidOutB Try.prog = true := by kernel_rfl

attribute [local go_sem] Dbl.run_fadd Dbl.run_fsub Dbl.run_fmul Dbl.run_fdiv Dbl.run_fmax Dbl.run_fmin Dbl.unary_fneg Dbl.ford_lt Dbl.ford_gt Dbl.ford_eq Dbl.ford_ne Dbl.pick_told Dbl.pickW_told

/-! ### STEP 1: THE WALK: the Go text returns true, AND WRITES NOTHING THAT WAS THERE: 'Below w.heap.size w w'' (Derived/Below.lean: '.refl', '.alloc', '.drew', '.setCell' at a new block, '.trans'). Open each 'IsRow' by 'rcases' AHEAD of 'go_enter'; part every test ahead of the walk. -/
set_option maxHeartbeats 2000000 in
theorem walk (a0 : Int) (a1 : Int) (a2 : Option Addr) (len2 cap2 : Nat) (z2 : List Int) (a3 : Int) (w : World) (w0 : (Lit.int .u16 a0).wf = true) (w1 : (Lit.int .u16 a1).wf = true) (w2 : IsRow .u64 w a2 len2 cap2 z2) (w3 : (Lit.int .u8 a3).wf = true) :
    Calls Try.prog 8 #[.int .u16 a0, .int .u16 a1, .slice a2 len2 cap2, .int .u8 a3] w fun e w' => e = .returned (.bool true) ∧ Below w.heap.size w w' := by
  have hb0 : 0 ≤ a0 ∧ a0 ≤ 65535 := by have := w0; simp [Lit.wf, IntKind.min, IntKind.max, IntKind.signed, IntKind.bits] at this; omega
  have hb1 : 0 ≤ a1 ∧ a1 ≤ 65535 := by have := w1; simp [Lit.wf, IntKind.min, IntKind.max, IntKind.signed, IntKind.bits] at this; omega
  clear w0 w1 w3
  obtain ⟨hr, hzl⟩ := w2.rdl
  have hlt := wordsOf_lt w2
  have hwl := wordsOf_length z2 len2 hzl
  have hget := fun i (hi : i < len2) => wordsOf_getD z2 len2 i hzl hi
  have hnn : ∀ i, i < len2 → (((z2.take len2).map (Value.int .u64))[i]? = some (.int .u64 (z2.getD i 0))) := fun i hi => by
    simp [List.getD, hi, List.getElem?_eq_getElem (show i < z2.length by omega)]
  obtain ⟨a, len, cap, hv, hl, hc, hm, hn, hx⟩ := hr.ex
  cases hv
  have HX := Lib.hid hx
  have HN := Lib.hid hn
  have HG := Lib.hid hget
  have HNN := Lib.hid hnn
  have HW := Lib.hid hlt
  clear hx hn hget hnn hr w2 hlt hc
  generalize wordsOf z2 len2 = xs at *
  by_cases hbig : 30 < len2
  · clear HX HN HG HNN HW hwl hl hzl
    go_enter Try.func8, Try.ntmps8
    go_wp2_with (go_at_call 19; refine (awake_ok _).mono ?_; rintro e w' ⟨rfl, hb⟩)
    go_ret
    exact ⟨rfl, hb⟩
  · obtain ⟨i0, hi, hz0, hz1, hz2⟩ := info_parts infoF
    have HI := Lib.hid hi
    clear hi
    clear hl hm
    obtain ⟨k, hk, hk1, hk2⟩ : ∃ k : Nat, a0 % 1000 + 1 = (k : Int) ∧ 1 ≤ k ∧ k ≤ 1000 := ⟨(a0 % 1000 + 1).toNat, by omega, by omega, by omega⟩
    obtain ⟨m, hm, hm2⟩ : ∃ m : Nat, a1 % 2000 = (m : Int) ∧ m ≤ 2000 := ⟨(a1 % 2000).toNat, by omega, by omega⟩
    obtain ⟨q, p, d, hq, hp, hd, hdl, hfl⟩ := Dbl.of_near k m hk1 hk2 hm2
    have CO : Hid (∀ w, Calls Try.prog 17 #[.int .i64 (k : Int), .int .i64 (m : Int)] w fun e w' => e = .returned (.float .f64 q) ∧ Below w.heap.size w w') := fun w => (Of_any k m w).mono (by
      rintro e w' ⟨b, rfl, h, hb⟩
      rw [hq] at h
      have h2 : b = q := h.2
      rw [h2]
      exact ⟨rfl, hb⟩)
    have CP : Hid (∀ w, Calls Try.prog 17 #[.int .i64 0, .int .i64 ((m : Int) + 1)] w fun e w' => e = .returned (.float .f64 9218868437227405312) ∧ Below w.heap.size w w') := fun w => (Of_any 0 _ w).mono (by
      rintro e w' ⟨b, rfl, h, hb⟩
      have e1 := Dbl.nat_pos (m + 1) (by omega) (by omega)
      rw [show ((m + 1 : Nat) : Int) = (m : Int) + 1 by omega] at e1
      rw [e1] at h
      have h2 : b = 9218868437227405312 := h.2
      rw [h2]
      exact ⟨rfl, hb⟩)
    have CN : Hid (∀ w, Calls Try.prog 17 #[.int .i64 0, .int .i64 (-1 - (m : Int))] w fun e w' => e = .returned (.float .f64 18442240474082181120) ∧ Below w.heap.size w w') := fun w => (Of_any 0 _ w).mono (by
      rintro e w' ⟨b, rfl, h, hb⟩
      have e1 := Dbl.nat_neg (m + 1) (by omega) (by omega)
      rw [show -((m + 1 : Nat) : Int) = -1 - (m : Int) by omega] at e1
      rw [e1] at h
      have h2 : b = 18442240474082181120 := h.2
      rw [h2]
      exact ⟨rfl, hb⟩)
    have CZ : Hid (∀ w, Calls Try.prog 17 #[.int .i64 0, .int .i64 0] w fun e w' => ∃ b, e = .returned (.float .f64 b) ∧ Dbl.isNan b = true ∧ Below w.heap.size w w') := fun w => (Of_any 0 0 w).mono (by
      rintro e w' ⟨b, rfl, h, hb⟩
      rw [Dbl.div_none] at h
      exact ⟨b, rfl, h.2, hb⟩)
    have e1 : Ieee.double.mul q (floatOfInt .f64 (k : Int)) = some p := hp
    have e2 : Ieee.double.sub p (floatOfInt .f64 (m : Int)) = some d := hd
    have CI : Hid (∀ w, Calls Try.prog 27 #[.float .f64 9218868437227405312, .int .i64 1] w fun e w' => e = .returned (.bool true) ∧ w = w') := fun w => by
      have i1 : Dbl.flt 9218868437227405311 9218868437227405312 = true := by decide +kernel
      have := IsInf_pos 9218868437227405312 w
      rwa [i1] at this
    have CJ : Hid (∀ w, Calls Try.prog 27 #[.float .f64 18442240474082181120, .int .i64 (-1)] w fun e w' => e = .returned (.bool true) ∧ w = w') := fun w => by
      have i2 : Dbl.flt 9218868437227405311 (18442240474082181120 ^^^ 9223372036854775808) = true := by decide +kernel
      have := IsInf_neg 18442240474082181120 w
      rwa [i2] at this
    have HDL := Lib.hid hdl
    clear hq hp hd hdl
    have hkb : 1 ≤ (k : Int) ∧ (k : Int) ≤ 1000 := by omega
    have hmb : 0 ≤ (m : Int) ∧ (m : Int) ≤ 2000 := by omega
    go_enter Try.func8, Try.ntmps8
    go_wp2_with fail
    refine (CO.out _).mono ?_
    rintro e wa ⟨rfl, hba⟩
    have HBA := Lib.hid hba
    clear hba
    go_wp2_with fail
    refine (Abs_any d _ HDL.out).mono ?_
    rintro e w' ⟨rfl, rfl⟩
    go_wp2_with fail
    refine (CP.out _).mono ?_
    rintro e wb ⟨rfl, hbb⟩
    have HBB := Lib.hid (step HBA.out hbb)
    clear hbb
    go_wp2_with fail
    refine (CI.out _).mono ?_
    rintro e w' ⟨rfl, rfl⟩
    go_wp2_with fail
    refine (CN.out _).mono ?_
    rintro e wc ⟨rfl, hbc⟩
    have HBC := Lib.hid (step HBB.out hbc)
    clear hbc
    go_wp2_with fail
    refine (CJ.out _).mono ?_
    rintro e w' ⟨rfl, rfl⟩
    go_wp2_with fail
    refine (CZ.out _).mono ?_
    rintro e wd ⟨bz, rfl, hnz, hbd⟩
    have HBD := Lib.hid (step HBC.out hbd)
    clear hbd
    go_wp2_with fail
    refine (IsNaN_any _ _).mono ?_
    rintro e w' ⟨rfl, rfl⟩
    rw [Dbl.feq_self, hnz]
    clear hnz
    go_wp2_with fail
    go_loopw [12, 13] (fun u i wr => ∃ k : Nat, k ≤ len2 ∧ i = .int .i64 k ∧ wr.ownsRow w.heap.size 23 1 u k (fl (xs.take k)) ∧ Below w.heap.size w wr) (fun _ i _ => len2 - (intOf i).toNat)
    case atStart => exact ⟨0, by omega, rfl, World.ownsRow_nil _ _ _ _, HBD.out⟩
    case round =>
      obtain ⟨j, hj, rfl, ho1, hbr⟩ := hrel
      have O1 := Lib.hid ho1
      have HB := Lib.hid hbr
      clear ho1 hbr
      by_cases hlt : j < len2
      · match a2, HX, HN with
        | none, _, HN => have := (HN.out rfl).1; omega
        | some ⟨blk, off, spot⟩, HX, _ =>
          obtain ⟨hs, hi⟩ := HX.out _ rfl (by omega)
          simp only at hs hi
          subst hs
          have hc0 := hi j _ (HNN.out j hlt)
          have hcell : wr.cell? ⟨blk, off + j, none⟩ = some (.int .u64 (z2.getD j 0)) := by
            rw [HB.out.cell (lt_of_cell hc0)]
            exact hc0
          have hxk := HG.out j hlt
          have CF : Hid (∀ w, Calls Try.prog 9 #[.int .u64 (z2.getD j 0)] w fun e w' => e = .returned (.float .f64 (xs.getD j 0)) ∧ w = w') := by rw [hxk]; exact Float_any _
          have HS := Lib.hid (fl_snoc xs j (by omega))
          clear hi hc0 hxk
          generalize z2.getD j 0 = zk at *
          generalize xs.getD j 0 = xk at *
          have hsz := HB.out.size
          go_wp2_with (first
            | (go_at_call 9; refine (CF.out _).mono ?_; rintro e w' ⟨rfl, rfl⟩)
            | (at_builtin; refine wpList_append_own_at _ rfl _ _ 33 rfl w.heap.size 23 i0 (.float .f64 0) 1 8 Try.underlying33 HI.out hz0 hz1 hz2 rfl (by decide) u12 j (fl (xs.take j)) rfl (own_alloc O1.out _) _ 1 1 [.float .f64 xk] rfl rfl (cell_one_new _ _ _) (by simp [Value.oneCell']) (by unfold maxLen; omega) (by omega) (by simp; omega) ?_; intro u' wx hu hgr _ hat; have HB2 := Lib.hid (below_grown (stepAlloc HB.out _) (own_alloc O1.out _) hgr (Nat.le_refl _) (by simp; omega)); have O1' := Lib.hid hu; clear hu hgr hat))
          go_roundw
          case rel =>
            refine ⟨j + 1, by omega, by go_num, ?_, HB2.out⟩
            rw [HS.out]; exact O1'.out
          case measure => simp [intOf]; omega
      · obtain rfl : j = len2 := by omega
        have e : xs.take xs.length = xs := List.take_length
        rw [← hwl, e] at O1
        have R1 := Lib.hid (RdL.own O1.out)
        clear e
        go_wp2_with fail
        refine (Far_any _ _ _ R1.out).mono ?_
        rintro e wf ⟨b, rfl, hib, hbf⟩
        have IB := Lib.hid hib
        have HBF := Lib.hid (step HB.out hbf)
        have R2 := Lib.hid (R1.out.later hbf)
        clear hib hbf
        obtain ⟨p1, l1, c1, rfl, q1, q2, q3, q4, q5⟩ := R2.out.ex
        rw [fl_length] at q1
        subst q1
        have Q4 := Lib.hid q4
        have Q5 := Lib.hid q5
        have GL := Lib.hid (fl_get xs)
        have OZ := Lib.hid (Dbl.oneOf_zero xs)
        have OA := Lib.hid (Dbl.oneOf_all xs)
        have z00 : Dbl.feq 0 0 = true := by decide +kernel
        clear q4 q5 q2 q3 R1 R2 HX HN HNN HG O1 HB
        by_cases h0 : xs.length = 0
        · have hb : b = 0 := by
            have hx0 : xs = [] := List.length_eq_zero_iff.1 h0
            have := IB.out
            rw [hx0] at this
            exact this.2
          subst hb
          have hz : decide (xs.length = 0) = true := by simp [h0]
          rw [hz] at OZ
          have hzI : decide ((xs.length : Int) = 0) = true := by simp; exact List.length_eq_zero_iff.1 h0
          go_wp2_with (go_at_call 22; refine (Signbit_no 0 _ (by omega)).mono ?_; rintro e w' ⟨rfl, rfl⟩)
          go_loopw [15, 16] (fun o i wr => ∃ j : Nat, j ≤ xs.length ∧ i = .int .i64 j ∧ o = .bool (Dbl.oneOf xs j) ∧ Below wf.heap.size wf wr) (fun _ i _ => xs.length - (intOf i).toNat)
          case atStart => exact ⟨0, by omega, rfl, by rw [OZ.out], Below.refl _ _⟩
          case round =>
            obtain ⟨j, hj, rfl, rfl, hbj⟩ := hrel
            have HJ := Lib.hid hbj
            clear hbj
            by_cases hlj : j < xs.length
            · omega
            · obtain rfl : j = xs.length := by omega
              rw [OA.out]
              go_wp2_with fail
              refine (awake_ok _).mono ?_
              rintro e wz ⟨rfl, hbz⟩
              go_wp2_with fail
              go_ret
              exact ⟨rfl, step (step HBF.out HJ.out) hbz⟩
        · have hz : decide (xs.length = 0) = false := by simp [h0]
          rw [hz] at OZ
          have hzI : decide ((xs.length : Int) = 0) = false := by simp; intro q; rw [q] at h0; exact h0 rfl
          go_wp2_with fail
          go_loopw [15, 16] (fun o i wr => ∃ j : Nat, j ≤ xs.length ∧ i = .int .i64 j ∧ o = .bool (Dbl.oneOf xs j) ∧ Below wf.heap.size wf wr) (fun _ i _ => xs.length - (intOf i).toNat)
          case atStart => exact ⟨0, by omega, rfl, by rw [OZ.out], Below.refl _ _⟩
          case round =>
            obtain ⟨j, hj, rfl, rfl, hbj⟩ := hrel
            have HJ := Lib.hid hbj
            clear hbj
            by_cases hlj : j < xs.length
            · match p1, Q4, Q5 with
              | none, Q4, _ => have := (Q4.out rfl).1; omega
              | some ⟨g1, o1, s1⟩, _, Q5 =>
                obtain ⟨e3, f1⟩ := Q5.out _ rfl (by omega)
                simp only at e3 f1
                subst e3
                have k1 := f1 j _ (GL.out j hlj)
                have m1 : wr.cell? ⟨g1, o1 + j, none⟩ = some (.float .f64 (xs.getD j 0)) := by rw [HJ.out.cell (lt_of_cell k1)]; exact k1
                have hmem : xs.getD j 0 ∈ xs := by simp [List.getD, List.getElem?_eq_getElem hlj]
                have RN := Lib.hid (fun c hc => Dbl.round_no xs (xs.getD j 0) b c hmem IB.out hc)
                have OS := Lib.hid (Dbl.oneOf_succ xs j hlj)
                clear f1 k1 hmem
                generalize hxx : xs.getD j 0 = x at *
                clear hxx
                go_wp2_with fail
                refine (Far_any _ [x] _ (rdl_lit wr #[.float .f64 x] (by simp [maxLen]))).mono ?_
                rintro e wg ⟨c, rfl, hic, hbg⟩
                have HBG := Lib.hid (stepAlloc HJ.out (.cells #[.float .f64 x] 23))
                have HBH := Lib.hid (step HBG.out hbg)
                have hr := RN.out c hic
                have CA : Hid (∀ w, Calls Try.prog 10 #[.float .f64 c, .float .f64 b] w fun e w' => e = .returned (.bool (Dbl.farF [x] == Dbl.farF xs)) ∧ w = w') := fun w => by
                  have := Alike_any c b w hic.1 IB.out.1
                  rwa [Dbl.alike_opt _ _ _ _ hic IB.out (Dbl.far_good _) (Dbl.far_good _)] at this
                obtain ⟨t1, t2⟩ := hr
                clear hic hbg
                generalize (Dbl.farF [x] == Dbl.farF xs) = al at *
                cases hO : Dbl.oneOf xs j <;> cases t3 : Dbl.feq c c <;> cases t4 : Dbl.feq b b <;> first | (exfalso; simp [t3, t4] at t2; done) | skip
                all_goals clear t2
                all_goals go_wp2_with (go_at_call 10; refine (CA.out _).mono ?_; rintro e w' ⟨rfl, rfl⟩)
                all_goals go_roundw
                all_goals first
                  | exact ⟨j + 1, by omega, by go_num, by rw [OS.out, hO]; simp, HBH.out⟩
                  | (simp [intOf]; omega)
            · obtain rfl : j = xs.length := by omega
              rw [OA.out]
              go_wp2_with fail
              refine (awake_ok _).mono ?_
              rintro e wz ⟨rfl, hbz⟩
              go_wp2_with fail
              go_ret
              exact ⟨rfl, step (step HBF.out HJ.out) hbz⟩

/-! ### THE ROW's STEP: WRITTEN OUT: LEAVE IT -/
set_option maxRecDepth 100000 in
theorem lifted (os : Os) (started : os.Started) (H : Type) (enc : TypeId × Value → H) :
    ReturnsInHanded {} Try.checked os 8 .any (Rows.rateOfSpec.pre6 enc Try.prog Try.f8 Rows.rateOfRow.domain false) (Rows.rateOfSpec.post enc Try.prog Try.f8 false true false false) := by
  refine returnsInHanded_of_change (C := Try.checked) own started (by kernel_rfl) Try.func8
    (ChangeSpec.witness6 (enc := enc) (C := Try.checked) false ⟨#[], #[.int .u16 0, .int .u16 0, .slice none 0 0, .int .u8 0], []⟩ 8 (by kernel_rfl) (by kernel_rfl) (by kernel_rfl) (by kernel_rfl)) ?_
  intro W base args ds gs before hval0 hW hcnd _
  have hval : ∀ (j : Nat) t v, Try.f8.params[j]? = some t → args[j]? = some v → Value.okWide Try.prog W .any base t v := hval0
  have hW' := hW
  obtain ⟨p, q, hA0, hV, rfl, hfz, hnd⟩ := hW
  have hA : DataW.TrodAll enc Try.prog W 0 (fun _ => true) true Try.f8.params.toList args.toList ds p := hA0
  rw [Try.params8] at hA hval
  obtain ⟨v0, vs0, d0, ds0, p0, q0, hargs, rfl, rfl, h0, r0⟩ := trodAll_cons hA
  obtain ⟨v1, vs1, d1, ds1, p1, q1, rfl, rfl, rfl, h1, r1⟩ := trodAll_cons r0
  obtain ⟨v2, vs2, d2, ds2, p2, q2, rfl, rfl, rfl, h2, r2⟩ := trodAll_cons r1
  obtain ⟨v3, vs3, d3, ds3, p3, q3, rfl, rfl, rfl, h3, r3⟩ := trodAll_cons r2
  obtain ⟨rfl, rfl, rfl⟩ := trodAll_nil r3
  obtain rfl : args = #[v0, v1, v2, v3] := by cases args; simp_all
  obtain ⟨rfl, rfl⟩ := trodVars_none hV
  obtain ⟨a0, rfl, rfl, rfl, w0⟩ := open_int Try.underlying37 (hval 0 37 v0 rfl rfl) h0
  obtain ⟨a1, rfl, rfl, rfl, w1⟩ := open_int Try.underlying37 (hval 1 37 v1 rfl rfl) h1
  obtain ⟨a2, len2, cap2, rfl⟩ := okWide_slice Try.underlying32 (hval 2 32 v2 rfl rfl)
  have k2 := h2
  have lt2 : ∀ x ∈ p2, x.block < W.heap.size := by obtain ⟨m, hm⟩ := k2; exact DataW.trod_lt m _ _ _ hm
  obtain ⟨z2, w2⟩ : ∃ zs, IsRow .u64 W a2 len2 cap2 zs := by
    obtain ⟨fuel, hf⟩ := h2
    rcases open_ints Try.underlying32 Try.underlying22 (by kernel_rfl) hf with ⟨hcs, _⟩ | ⟨x, l, c, zs, hcs, _, hl, hm, hz, _, hcell, hwz⟩
    · simp [Value.cells] at hcs
      obtain ⟨rfl, rfl, rfl⟩ := hcs
      exact ⟨[], .inl ⟨rfl, rfl, rfl, rfl⟩⟩
    · simp [Value.cells] at hcs
      obtain ⟨rfl, rfl, rfl⟩ := hcs
      exact ⟨zs, .inr ⟨_, rfl, hl, hm, by simpa using hz, hcell, hwz⟩⟩
  obtain ⟨a3, rfl, rfl, rfl, w3⟩ := open_int Try.underlying5 (hval 3 5 v3 rfl rfl) h3
  clear hA0 hval0
  refine (walk a0 a1 a2 len2 cap2 z2 a3 W w0 w1 w2 w3).mono fun e W' ⟨he, bel⟩ => ?_
  subst he
  exact ⟨_, rfl, _, _, _, [], _, [], hW', trodAll_mk1 (shut_bool Try.underlying4 _), (trodAll_cons_mk (shut_int Try.underlying37 w0) (trodAll_cons_mk (shut_int Try.underlying37 w1) (trodAll_cons_mk (Below.trod laidOut (by kernel_rfl) (of_decide_eq_true (by kernel_rfl)) k2 bel lt2) (trodAll_cons_mk (shut_int Try.underlying5 w3) trodAll_mk0)))), rfl, bel.frame _, fun h => by cases h⟩

theorem over : Rows.rateOfRow.holds Try.pinned (OpenSpec.ofChange Rows.rateOfSpec) :=
  OpenClaim.holds_of_wide 8 Try.f8 rfl rfl rfl rfl rfl rfl rfl ⟨rfl, rfl, rfl, rfl, rfl⟩ rfl rfl rfl rfl rfl (by kernel_rfl) Try.func8 (by kernel_rfl)
    (of_decide_eq_true (by kernel_rfl)) (by unfold Func.isWrapper; first | (rw [if_pos (by decide +kernel)]; kernel_rfl) | (rw [if_neg (by decide +kernel)]; exact ⟨rfl, rfl⟩))
    (fun os started H enc _ => lifted os started H enc)

/-- THE STATEMENT -/
theorem proved : Rows.RateOfSaid := over
end Go.Proofs.Ytkfkmkdpogkhhaa.rateOf
