/- PROVED: the statement ClockApart of layer 3: for every input that can be read, the law returns true and leaves its arguments as they were. No condition. -/
import Derived.Test.YthpfkbdbioabaaaRows
import Derived.Test.YthpfkbdbioabaaaClkF
import Derived.Test.YthpfkbdbioabaaaFApart
import Derived.WalkKit
import Derived.ProofKit
import Derived.OpenShut
import Derived.ShutString
import Derived.ChangeOld
import Derived.Below
namespace Go.Proofs.Ythpfkbdbioabaaa.clockApart
open Go.ChangeShapes Go.WideShapes Go.ChangeAt Go.RowKit
open Go.ChangeMaps (open_string shut_string)
set_option linter.unusedVariables false

theorem own : ownKnob Try.prog.godebug = none := by kernel_rfl
theorem laidOut : laidOutB Try.prog = true := by kernel_rfl

attribute [local go_sem] Dbl.run_fadd Dbl.run_fsub Dbl.run_fmul Dbl.run_fdiv Dbl.run_fmax Dbl.run_fmin Dbl.unary_fneg Dbl.ford_lt Dbl.ford_gt Dbl.ford_eq Dbl.ford_ne Dbl.pick_told Dbl.pickW_told

/-! ### STEP 1: THE WALK: the Go text returns true, AND WRITES NOTHING THAT WAS THERE: 'Below w.heap.size w w'' (Derived/Below.lean: '.refl', '.alloc', '.drew', '.setCell' at a new block, '.trans'). Open each 'IsRow' by 'rcases' AHEAD of 'go_enter'; part every test ahead of the walk. -/
open Clk (St)
set_option maxHeartbeats 2000000 in
theorem walk (a0 : Int) (a1 : Int) (a2 : Int) (a3 : Option Addr) (len3 cap3 : Nat) (z3 : List Int) (w : World) (w0 : (Lit.int .u8 a0).wf = true) (w1 : (Lit.int .u8 a1).wf = true) (w2 : (Lit.int .u64 a2).wf = true) (w3 : IsRow .u16 w a3 len3 cap3 z3) :
    Calls Try.prog 5 #[.int .u8 a0, .int .u8 a1, .int .u64 a2, .slice a3 len3 cap3] w fun e w' => e = .returned (.bool true) ∧ Below w.heap.size w w' := by
  have k0 := u8_wf w0
  have k1 := u8_wf w1
  have k2 := u64_wf w2
  have W3 := Lib.hid w3
  have b3 := w3.len_
  clear w0 w1 w2 w3
  by_cases hbig : 30 < len3
  · go_enter Try.func5, Try.ntmps5
    go_wp2_with (go_at_call 8; refine (awake_ok _).mono ?_; rintro e w' ⟨rfl, hb⟩)
    go_ret
    exact ⟨rfl, hb⟩
  · obtain ⟨K, hK⟩ : ∃ K : Nat, 2 + a0 % 10 = (K : Int) := ⟨(2 + a0 % 10).toNat, by omega⟩
    have hK2 : 2 ≤ K ∧ K ≤ 15 := by omega
    have hz : ¬ (K : Int) = 0 := by omega
    have hm1 : 0 ≤ a1 % (K : Int) := Int.emod_nonneg _ (by omega)
    have hm2 : a1 % (K : Int) < K := Int.emod_lt_of_pos _ (by omega)
    obtain ⟨i, hI⟩ : ∃ i : Nat, a1 % (K : Int) = (i : Int) := ⟨(a1 % (K : Int)).toNat, by omega⟩
    have hi : i < K := by omega
    obtain ⟨q, hq⟩ : ∃ q : Nat, a2 = (q : Int) := ⟨a2.toNat, by omega⟩
    have hq64 : q < 18446744073709551616 := by omega
    subst hq
    have CF : Hid (∀ w, Calls Try.prog 15 #[.int .u64 (q : Int)] w fun e w' => e = .returned (.float .f64 q) ∧ w = w') := fun w => by
      have := Float_any (q : Int) w
      rwa [Int.toNat_natCast] at this
    have AP0 := Lib.hid (Clk.ap_new K i q hK2.2 hi)
    have OK0 : Hid (Clk.Ok (Clk.new (K : Int)) 0) := Clk.ok_new _
    have SC : Hid (setCode (Clk.new (K : Int)) (i : Int) = 0) := by
      show setCode _ _ = 0
      unfold setCode
      rw [show (Clk.new (K : Int)).n = K from AP0.out.n2, if_pos (by omega)]
    have hI' : a1.tmod (K : Int) = (i : Int) := by rw [Int.tmod_eq_emod_of_nonneg k1.1]; exact hI
    clear hm1 hm2 k2
    go_enter Try.func5, Try.ntmps5
    go_wp2_with fail
    refine (New_any (K : Int) w).mono ?_
    rintro e w1 ⟨rfl, hc1, hb1⟩
    have HC1 := Lib.hid hc1
    have HB1 := Lib.hid hb1
    have LT1 := Lib.hid hc1.lt
    clear hc1 hb1
    go_wp2_with fail
    refine (New_any (K : Int) w1).mono ?_
    rintro e w2 ⟨rfl, hd2, hb2⟩
    have HC2 := Lib.hid (HC1.out.below hb2)
    have HD2 := Lib.hid hd2
    have HB2 := Lib.hid (HB1.out.trans (hb2.mono HB1.out.size))
    have hsz := HB1.out.size
    have hne : w.heap.size < w1.heap.size := LT1.out
    have hne2 : Hid (w1.heap.size ≠ w.heap.size) := by show w1.heap.size ≠ w.heap.size; omega
    clear hd2 hb2 HC1
    generalize w1.heap.size = bd at *
    go_wp2_with fail
    refine (CF.out _).mono ?_
    rintro e w' ⟨rfl, rfl⟩
    go_wp2_with fail
    refine (Set_any w2 _ _ (i : Int) q HC2.out (by have := OK0.out.n; omega)).mono ?_
    rintro e w3 ⟨rfl, hc3, hg3⟩
    have HC3 := Lib.hid hc3
    have HD3 := Lib.hid (HD2.out.later (hg3.block _ HD2.out.lt (by intro x; injection x with x; omega)))
    have HB3 := Lib.hid (HB2.out.trans (grown_below hg3 (Nat.le_refl _) HB2.out.size))
    have OK1 := Lib.hid (OK0.out.setI (i : Int) q hq64)
    rw [SC.out]
    clear hc3 hg3 HC2 HD2 HB2 SC
    go_wp2_with fail
    go_loopw [13, 14] (fun u j wr => ∃ (k : Nat) (c d : St) (sum : Int), k ≤ len3 ∧ j = .int .i64 k ∧ u = .int .i64 sum ∧ HasC wr w.heap.size c ∧ HasC wr bd d ∧ Clk.Ok c (16000 * k) ∧ Clk.Ok d (16000 * k) ∧ Clk.AP c d K i q sum ∧ Below w.heap.size w wr) (fun _ j _ => len3 - (intOf j).toNat)
    case atStart => exact ⟨0, _, _, 0, by omega, rfl, rfl, HC3.out, HD3.out, OK1.out, OK0.out, AP0.out, HB3.out⟩
    case round =>
      obtain ⟨k, c, d, sum, hk, rfl, rfl, hc, hd, okc, okd, hap, hb⟩ := hrel
      have HC := Lib.hid hc
      have HD := Lib.hid hd
      have OC := Lib.hid okc
      have OD := Lib.hid okd
      have AP := Lib.hid hap
      have HB := Lib.hid hb
      have hs : 0 ≤ sum ∧ sum ≤ 16000 * k := by have := okc.ref; rwa [hap.ref] at this
      clear hc hd okc okd hap hb HC3 HD3 HB3 OK1 OK0 AP0
      by_cases hlt : k < len3
      · obtain ⟨g3, o3, rfl, hc3⟩ := W3.out.cells_ (by omega)
        obtain ⟨x3, y3⟩ := hc3 k hlt
        have m3 : wr.cell? ⟨g3, o3 + k, none⟩ = some (.int .u16 (z3.getD k 0)) := by rw [HB.out.cell (lt_of_cell x3)]; exact x3
        have r3 := u16_wf y3
        clear hc3 x3 y3
        generalize z3.getD k 0 = zp at *
        go_wp2_with fail
        have hp1 : 1 ≤ 1 + zp % 1000 := by omega
        have hp2 : 1 + zp % 1000 ≤ 1000 := by omega
        generalize 1 + zp % 1000 = p at *
        refine (Pass_any wr _ c p (16000 * k) HC.out OC.out (by omega) (by omega) hp1 hp2).mono ?_
        rintro e w4 ⟨⟨g, hg, rfl, hr4⟩, hc4, hg4⟩
        have HC4 := Lib.hid hc4
        have HD4 := Lib.hid (HD.out.later (hg4.block _ HD.out.lt (by intro x; injection x with x; omega)))
        have HB4 := Lib.hid (HB.out.trans (grown_below hg4 (Nat.le_refl _) HB.out.size))
        rw [AP.out.n1] at hr4 ⊢
        have R4 := Lib.hid hr4
        have NG : Hid (bd ≠ g) := by have := HD.out.lt; show bd ≠ g; omega
        clear hg hr4 hc4 hg4 m3
        go_wp2_with fail
        refine (Pass_any w4 _ d p (16000 * k) HD4.out OD.out (by omega) (by omega) hp1 hp2).mono ?_
        rintro e w5 ⟨⟨g', hg', rfl, hr5⟩, hd5, hg5⟩
        have HD5 := Lib.hid hd5
        have HC5 := Lib.hid (HC4.out.later (hg5.block _ HC4.out.lt (by intro x; injection x with x; omega)))
        have HB5 := Lib.hid (HB4.out.trans (grown_below hg5 (by omega) HB4.out.size))
        have R5 := Lib.hid (R4.out.of_block (hg5.block _ R4.out.lt (by intro x; injection x with x; exact NG.out x.symm)))
        have mc : w5.cell? ⟨g, i, none⟩ = some (.int .i64 (Dbl.moveF q p)) := by
          rw [R5.out.cell hi, mvK_all _ _ _ _ hi, AP.out.mv_i p hq64]
        rw [AP.out.n2]
        have MV : Hid (∀ w, Calls Try.prog 23 #[.float .f64 q, .int .i64 p] w fun e w' => e = .returned (.int .i64 (Dbl.moveF q p)) ∧ w = w') := fun w => Move_any q p w hq64
        have AP2 := Lib.hid (AP.out.pass hp1 hp2)
        have OC2 : Hid (Clk.Ok (Clk.pass c p) (16000 * ((k + 1 : Nat) : Int))) := (OC.out.pass p hp1 hp2 (by omega)).mono (by omega)
        have OD2 : Hid (Clk.Ok (Clk.pass d p) (16000 * ((k + 1 : Nat) : Int))) := (OD.out.pass p hp1 hp2 (by omega)).mono (by omega)
        clear hg' hr5 hd5 hg5 R4 R5 HC HD HB HC4 HD4 HB4 OC OD
        generalize Dbl.moveF q p = mq at *
        go_wp2_with fail
        go_quiet (first
          | (go_at_call 15; exact quiet_eq (CF.out _))
          | (go_at_call 23; exact quiet_eq (MV.out _)))
        set_option maxRecDepth 8000 in
        go_wp2_with fail
        refine ⟨⟨k + 1, _, _, sum + p, by omega, by go_num, rfl, HC5.out.later rfl, HD5.out.later rfl, OC2.out, OD2.out, AP2.out, below_drewN HB5.out nq⟩, rounds k _ hlt⟩
      · obtain rfl : k = len3 := by omega
        have N1 : Hid (∀ t : Nat, t < K → t ≠ i → Calls Try.prog 19 #[pt w.heap.size, .int .i64 (t : Int)] wr fun e w' => e = .returned (.int .i64 sum) ∧ wr = w') := fun t ht hne => by
          have := Now_any wr _ c (t : Int) HC.out OC.out.n
          rwa [AP.out.now1 t ht hne] at this
        have N2 : Hid (∀ t : Nat, t < K → Calls Try.prog 19 #[pt bd, .int .i64 (t : Int)] wr fun e w' => e = .returned (.int .i64 sum) ∧ wr = w') := fun t ht => by
          have := Now_any wr _ d (t : Int) HD.out OD.out.n
          rwa [AP.out.now2 t ht] at this
        have RC := Lib.hid (Ref_any wr _ c HC.out)
        have WC := Lib.hid (Worst_any wr _ d HD.out)
        rw [AP.out.ref] at RC
        rw [AP.out.worst] at WC
        clear HC HD OC OD AP
        go_wp2_with fail
        go_loopw [20] (fun j wx => ∃ t : Nat, t ≤ K ∧ j = .int .i64 t ∧ wr = wx) (fun j _ => K - (intOf j).toNat)
        case atStart => exact ⟨0, by omega, rfl, rfl⟩
        case round =>
          obtain ⟨t, ht, rfl, hw⟩ := hrel
          subst hw
          by_cases htl : t < K
          · by_cases hti : t = i
            · subst hti
              have Y2 := Lib.hid (N2.out t htl)
              go_wp2_with fail
              refine Y2.out.mono ?_
              rintro e w' ⟨rfl, rfl⟩
              go_wp2_with fail
              exact ⟨⟨t + 1, by omega, by go_num, by trivial⟩, rounds t _ htl⟩
            · have Y1 := Lib.hid (N1.out t htl hti)
              have Y2 := Lib.hid (N2.out t htl)
              have e1 : ((t : Int) != (i : Int)) = true := by simp; omega
              go_wp2_with fail
              refine Y1.out.mono ?_
              rintro e w' ⟨rfl, rfl⟩
              go_wp2_with fail
              refine Y2.out.mono ?_
              rintro e w' ⟨rfl, rfl⟩
              go_wp2_with fail
              exact ⟨⟨t + 1, by omega, by go_num, by trivial⟩, rounds t _ htl⟩
          · go_wp2_with fail
            refine RC.out.mono ?_
            rintro e w' ⟨rfl, rfl⟩
            go_wp2_with fail
            refine WC.out.mono ?_
            rintro e w' ⟨rfl, rfl⟩
            go_wp2_with fail
            refine (awake_ok _).mono ?_
            rintro e w4 ⟨rfl, hb4⟩
            go_wp2_with fail
            go_ret
            exact ⟨rfl, HB.out.trans (hb4.mono HB.out.size)⟩

/-! ### THE ROW's STEP: WRITTEN OUT: LEAVE IT -/
set_option maxRecDepth 100000 in
theorem lifted (os : Os) (started : os.Started) (H : Type) (enc : TypeId × Value → H) :
    ReturnsInHanded {} Try.checked os 5 .any (Rows.clockApartSpec.pre6 enc Try.prog Try.f5 Rows.clockApartRow.domain false) (Rows.clockApartSpec.post enc Try.prog Try.f5 false true false false) := by
  refine returnsInHanded_of_change (C := Try.checked) own started (by kernel_rfl) Try.func5
    (ChangeSpec.witness6 (enc := enc) (C := Try.checked) false ⟨#[], #[.int .u8 0, .int .u8 0, .int .u64 0, .slice none 0 0], []⟩ 8 (by kernel_rfl) (by kernel_rfl) (by kernel_rfl) (by kernel_rfl)) ?_
  intro W base args ds gs before hval0 hW hcnd _
  have hval : ∀ (j : Nat) t v, Try.f5.params[j]? = some t → args[j]? = some v → Value.okWide Try.prog W .any base t v := hval0
  have hW' := hW
  obtain ⟨p, q, hA0, hV, rfl, hfz, hnd⟩ := hW
  have hA : DataW.TrodAll enc Try.prog W 0 (fun _ => true) true Try.f5.params.toList args.toList ds p := hA0
  rw [Try.params5] at hA hval
  obtain ⟨v0, vs0, d0, ds0, p0, q0, hargs, rfl, rfl, h0, r0⟩ := trodAll_cons hA
  obtain ⟨v1, vs1, d1, ds1, p1, q1, rfl, rfl, rfl, h1, r1⟩ := trodAll_cons r0
  obtain ⟨v2, vs2, d2, ds2, p2, q2, rfl, rfl, rfl, h2, r2⟩ := trodAll_cons r1
  obtain ⟨v3, vs3, d3, ds3, p3, q3, rfl, rfl, rfl, h3, r3⟩ := trodAll_cons r2
  obtain ⟨rfl, rfl, rfl⟩ := trodAll_nil r3
  obtain rfl : args = #[v0, v1, v2, v3] := by cases args; simp_all
  obtain ⟨rfl, rfl⟩ := trodVars_none hV
  obtain ⟨a0, rfl, rfl, rfl, w0⟩ := open_int Try.underlying5 (hval 0 5 v0 rfl rfl) h0
  obtain ⟨a1, rfl, rfl, rfl, w1⟩ := open_int Try.underlying5 (hval 1 5 v1 rfl rfl) h1
  obtain ⟨a2, rfl, rfl, rfl, w2⟩ := open_int Try.underlying28 (hval 2 28 v2 rfl rfl) h2
  obtain ⟨a3, len3, cap3, rfl⟩ := okWide_slice Try.underlying45 (hval 3 45 v3 rfl rfl)
  have k3 := h3
  have lt3 : ∀ x ∈ p3, x.block < W.heap.size := by obtain ⟨m, hm⟩ := k3; exact DataW.trod_lt m _ _ _ hm
  obtain ⟨z3, w3⟩ : ∃ zs, IsRow .u16 W a3 len3 cap3 zs := by
    obtain ⟨fuel, hf⟩ := h3
    rcases open_ints Try.underlying45 Try.underlying47 (by kernel_rfl) hf with ⟨hcs, _⟩ | ⟨x, l, c, zs, hcs, _, hl, hm, hz, _, hcell, hwz⟩
    · simp [Value.cells] at hcs
      obtain ⟨rfl, rfl, rfl⟩ := hcs
      exact ⟨[], .inl ⟨rfl, rfl, rfl, rfl⟩⟩
    · simp [Value.cells] at hcs
      obtain ⟨rfl, rfl, rfl⟩ := hcs
      exact ⟨zs, .inr ⟨_, rfl, hl, hm, by simpa using hz, hcell, hwz⟩⟩
  clear hA0 hval0
  refine (walk a0 a1 a2 a3 len3 cap3 z3 W w0 w1 w2 w3).mono fun e W' ⟨he, bel⟩ => ?_
  subst he
  exact ⟨_, rfl, _, _, _, [], _, [], hW', trodAll_mk1 (shut_bool Try.underlying4 _), (trodAll_cons_mk (shut_int Try.underlying5 w0) (trodAll_cons_mk (shut_int Try.underlying5 w1) (trodAll_cons_mk (shut_int Try.underlying28 w2) (trodAll_cons_mk (Below.trod laidOut (by kernel_rfl) (of_decide_eq_true (by kernel_rfl)) k3 bel lt3) trodAll_mk0)))), rfl, bel.frame _, fun h => by cases h⟩

theorem over : Rows.clockApartRow.holds Try.pinned (OpenSpec.ofChange Rows.clockApartSpec) :=
  OpenClaim.holds_of_wide 5 Try.f5 rfl rfl rfl rfl rfl rfl rfl ⟨rfl, rfl, rfl, rfl, rfl⟩ rfl rfl rfl rfl rfl (by kernel_rfl) Try.func5 (by kernel_rfl)
    (of_decide_eq_true (by kernel_rfl)) (by unfold Func.isWrapper; first | (rw [if_pos (by decide +kernel)]; kernel_rfl) | (rw [if_neg (by decide +kernel)]; exact ⟨rfl, rfl⟩))
    (fun os started H enc _ => lifted os started H enc)

/-- THE STATEMENT -/
theorem proved : Rows.ClockApartSaid := over
end Go.Proofs.Ythpfkbdbioabaaa.clockApart
