/- PROVED: the statement ClockRuns of layer 3: for every input that can be read, the law returns true and leaves its arguments as they were. No condition. -/
import Derived.Test.YthpfkbdbioabaaaRows
import Derived.Test.YthpfkbdbioabaaaActs
import Derived.WalkKit
import Derived.Deep.RegionHeld3
import Derived.Deep.CutRange
import Derived.Deep.Cut
import Derived.ProofKit
import Derived.OpenShut
import Derived.ShutString
import Derived.ChangeOld
import Derived.Below
namespace Go.Proofs.Ythpfkbdbioabaaa.clockRuns
open Go.ChangeShapes Go.WideShapes Go.ChangeAt Go.RowKit
open Go.ChangeMaps (open_string shut_string)
set_option linter.unusedVariables false

theorem own : ownKnob Try.prog.godebug = none := by kernel_rfl
theorem laidOut : laidOutB Try.prog = true := by kernel_rfl

attribute [local go_sem] Dbl.run_fadd Dbl.run_fsub Dbl.run_fmul Dbl.run_fdiv Dbl.run_fmax Dbl.run_fmin Dbl.unary_fneg Dbl.ford_lt Dbl.ford_gt Dbl.ford_eq Dbl.ford_ne Dbl.pick_told Dbl.pickW_told

/-! ### STEP 1: THE WALK: the Go text returns true, AND WRITES NOTHING THAT WAS THERE: 'Below w.heap.size w w'' (Derived/Below.lean: '.refl', '.alloc', '.drew', '.setCell' at a new block, '.trans'). Open each 'IsRow' by 'rcases' AHEAD of 'go_enter'; part every test ahead of the walk. -/
open Clk (St)
set_option maxHeartbeats 4000000 in
theorem walk (a0 : Int) (a1 : Option Addr) (len1 cap1 : Nat) (w : World) (w1 : IsActs w a1 len1 cap1) :
    Calls Try.prog 3 #[.int .i64 a0, .slice a1 len1 cap1] w fun e w' => e = .returned (.bool true) ∧ Below w.heap.size w w' := by
  have b1 := w1.1
  have b2 := w1.2.1
  have W1 := Lib.hid w1.2.2
  clear w1
  by_cases hbig : 60 < len1
  · go_enter Try.func3, Try.ntmps3
    go_wp2_with (go_at_call 8; refine (awake_ok _).mono ?_; rintro e w' ⟨rfl, hb⟩)
    go_ret
    exact ⟨rfl, hb⟩
  · go_enter Try.func3, Try.ntmps3
    go_wp2_with fail
    refine (New_any a0 w).mono ?_
    rintro e wa ⟨rfl, hc1, hb1⟩
    have HC1 := Lib.hid hc1
    have HB1 := Lib.hid hb1
    have LT1 := Lib.hid hc1.lt
    clear hc1 hb1
    go_wp2_with fail
    refine (RefNew_any a0 wa).mono ?_
    rintro e wb ⟨b, bs, br, rfl, lb, lbs, lbr, hr, hb2⟩
    have HC2 := Lib.hid (HC1.out.below hb2)
    have HR2 := Lib.hid hr
    have HB2 := Lib.hid (HB1.out.trans (hb2.mono HB1.out.size))
    have hlt1 : w.heap.size < wa.heap.size := LT1.out
    have L : w.heap.size < b ∧ w.heap.size < bs ∧ w.heap.size < br := by omega
    clear hr hb2 HC1 HB1 LT1 hlt1 lb lbs lbr
    go_wp2_with fail
    go_loopw [7] (fun i wr => ∃ (k : Nat) (s : St), k ≤ len1 ∧ i = .int .i64 k ∧ HasC wr w.heap.size s ∧ HasR wr b bs br s ∧ Clk.Ok s (16000 * k) ∧ Below w.heap.size w wr) (fun i _ => len1 - (intOf i).toNat)
    case atStart => exact ⟨0, _, by omega, rfl, HC2.out, HR2.out, Clk.ok_new a0, HB2.out⟩
    case round =>
      obtain ⟨k, s, hk, rfl, hc, hr, hok, hb⟩ := hrel
      have HC := Lib.hid hc
      have HR := Lib.hid hr
      have OK := Lib.hid hok
      have HB := Lib.hid hb
      clear hc hr hok hb HC2 HR2 HB2
      by_cases hlt : k < len1
      · obtain ⟨g, o, rfl, hcell⟩ := W1.out (by omega)
        obtain ⟨d, m, q, x0, x1, x2, wq⟩ := hcell k hlt
        have M1 : Hid (∀ w', Below w.heap.size w w' → w'.cell? ⟨g, o + k * 3 + 1, none⟩ = some (.int .i64 m)) := fun w' hb => by rw [hb.cell (lt_of_cell x1)]; exact x1
        have M2 : Hid (∀ w', Below w.heap.size w w' → w'.cell? ⟨g, o + k * 3 + 2, none⟩ = some (.int .u64 q)) := fun w' hb => by rw [hb.cell (lt_of_cell x2)]; exact x2
        have m0 : wr.cell? ⟨g, o + k * 3, none⟩ = some (.int .i64 d) := by rw [HB.out.cell (lt_of_cell x0)]; exact x0
        have m1 := M1.out wr HB.out
        have hq := u64_wf wq
        have N1 : w.heap.size ≠ b := by omega
        have N2 : w.heap.size ≠ bs := by omega
        have N3 : w.heap.size ≠ br := by omega
        clear hcell x0 x1 x2 wq
        by_cases hd : d = 0
        · subst hd
          go_wp2_with fail
          refine (Pass_new wr _ s m (16000 * k) HC.out OK.out (by omega) (by omega)).mono ?_
          rintro e w3 ⟨⟨a, l, c, rfl, ra⟩, hc3, hg3⟩
          have HC3 := Lib.hid hc3
          have HR3 := Lib.hid (HR.out.later (hg3.block _ HR.out.obj.lt (by intro x; injection x with x; omega)) (hg3.block _ HR.out.sh.lt (by intro x; injection x with x; omega)) (hg3.block _ HR.out.rt.lt (by intro x; injection x with x; omega)))
          have HB3 := Lib.hid (HB.out.trans (grown_below hg3 (Nat.le_refl _) HB.out.size))
          have RA := Lib.hid ra
          have LH := Lib.hid (And.intro HR.out.obj.lt (And.intro HR.out.sh.lt HR.out.rt.lt))
          clear ra hc3 hg3 m0 m1 HC HR HB
          have m1 := M1.out w3 HB3.out
          go_wp2_with fail
          refine (RefPass_all w3 b bs br s m (16000 * k) HR3.out OK.out (by omega) (by omega)).mono ?_
          rintro e w4 ⟨⟨a', l', c', rfl, ra'⟩, hr4, hg4⟩
          have HR4 := Lib.hid hr4
          have HC4 := Lib.hid (HC3.out.later (hg4.block _ HC3.out.lt N1 N2 N3))
          have HB4 := Lib.hid (HB3.out.trans (hg4.below (Nat.le_of_lt L.1) (Nat.le_of_lt L.2.1) (Nat.le_of_lt L.2.2) HB3.out.size))
          have RA4 := Lib.hid (RA.out w4 (fun j h1 h2 => by
            have := LH.out
            exact hg4.block j h2 (by omega) (by omega) (by omega)))
          have RB4 := Lib.hid ra'
          have OK5 := Lib.hid ((ok_passI OK.out m (by omega)).mono (show (16000 * (k : Int) + 16000 ≤ 16000 * ((k + 1 : Nat) : Int)) by omega))
          clear ra' hr4 hg4 RA LH m1 HC3 HR3 HB3
          generalize passCode m = pc at *
          go_wp2_with fail
          refine (SameInts_any _ _ _ _ w4 RA4.out RB4.out).mono ?_
          rintro e w5 ⟨rfl, hb5⟩
          rw [show decide (movesI s m = movesI s m) = true from decide_eq_true rfl]
          have HC5 := Lib.hid (HC4.out.below hb5)
          have HR5 := Lib.hid (HR4.out.below hb5)
          have HB5 := Lib.hid (HB4.out.trans (hb5.mono HB4.out.size))
          clear RA4 RB4 HC4 HR4 HB4 hb5
          generalize passI s m = s5 at *
          go_wp2_with fail
          have m5 := M1.out w5 HB5.out
          have r2 := HR5.out.c2
          have r3 := HR5.out.c3
          have RF5 : Hid (∀ n, Calls Try.prog 17 #[pt w.heap.size] (w5.drewN n) fun e w' => e = .returned (.int .i64 s5.ref) ∧ w5.drewN n = w') := fun n => Ref_any (w5.drewN n) _ s5 (HC5.out.later rfl)
          have WF5 : Hid (∀ n, Calls Try.prog 18 #[pt w.heap.size] (w5.drewN n) fun e w' => e = .returned (.int .i64 s5.worst) ∧ w5.drewN n = w') := fun n => Worst_any (w5.drewN n) _ s5 (HC5.out.later rfl)
          have NC5 : Hid (∀ n, Calls Try.prog 19 #[pt w.heap.size, .int .i64 m] (w5.drewN n) fun e w' => e = .returned (.int .i64 (Clk.nowI s5 m)) ∧ w5.drewN n = w') := fun n => Now_any (w5.drewN n) _ s5 m (HC5.out.later rfl) OK5.out.n
          have NR5 : Hid (∀ n, Calls Try.prog 20 #[pt b, .int .i64 m] (w5.drewN n) fun e w' => e = .returned (.int .i64 (Clk.nowI s5 m)) ∧ w5.drewN n = w') := fun n => RefNow_any (w5.drewN n) b bs br s5 m (HR5.out.later rfl rfl rfl) OK5.out.n
          generalize Clk.nowI s5 m = nm at *
          go_quiet (first
            | (go_at_call 17; exact quiet_eq (RF5.out _))
            | (go_at_call 18; exact quiet_eq (WF5.out _))
            | (go_at_call 19; exact quiet_eq (NC5.out _))
            | (go_at_call 20; exact quiet_eq (NR5.out _)))
          set_option maxRecDepth 8000 in
          go_wp2_with fail
          exact ⟨⟨k + 1, s5, by omega, by go_num, HC5.out.later rfl, HR5.out.later rfl rfl rfl, OK5.out, below_drewN HB5.out nq⟩, rounds k _ hlt⟩
        · have e0 : decide (d = 0) = false := decide_eq_false hd
          have e1 : (d == 0) = false := by simp [hd]
          have hqn : (q.toNat : Int) = q := by omega
          have FL := Lib.hid (Float_any q)
          have SC : Hid (∀ w', HasC w' w.heap.size s → Calls Try.prog 14 #[pt w.heap.size, .int .i64 m, .float .f64 q.toNat] w' fun e w'' => e = .returned (.int .i64 (setCode s m)) ∧ HasC w'' w.heap.size (Clk.setI s m q.toNat) ∧ w'.grownBy w'' (some w.heap.size)) := fun w' h => Set_any w' _ s m q.toNat h OK.out.n
          have SR : Hid (∀ w', HasR w' b bs br s → Calls Try.prog 16 #[pt b, .int .i64 m, .float .f64 q.toNat] w' fun e w'' => e = .returned (.int .i64 (setCode s m)) ∧ HasR w'' b bs br (Clk.setI s m q.toNat) ∧ Chg b bs br w' w'') := fun w' h => RefSet_any w' b bs br s m q.toNat h OK.out.n
          have m2 := M2.out wr HB.out
          have OK5 : Hid (Clk.Ok (Clk.setI s m q.toNat) (16000 * ((k + 1 : Nat) : Int))) := (OK.out.setI m q.toNat (by omega)).mono (by omega)
          generalize Clk.setI s m q.toNat = s5 at *
          generalize setCode s m = sc at *
          clear hq hqn
          go_upto_region 14 with fail
          set_option maxRecDepth 8000 in
          go_region_held3 (fun w' => w'.cell? ⟨g, o + k * 3 + 1, none⟩ = some (.int .i64 m) ∧ w'.cell? ⟨g, o + k * 3 + 2, none⟩ = some (.int .u64 q)) (first | exact ⟨m1, m2⟩ | exact ⟨m1x, m2x⟩ | exact ⟨m1y, m2y⟩) (first
            | (go_at_call 15; refine (FL.out _).mono ?_; rintro e w' ⟨rfl, rfl⟩)
            | (go_at_call 14; refine (SC.out _ ?_).mono ?_; (exact HC.out.later rfl); rintro e w6 ⟨rfl, hc6, hg6⟩; have HC7 := Lib.hid hc6; have HRx := Lib.hid (HR.out.later (hg6.block _ HR.out.obj.lt (by intro x; injection x with x; omega)) (hg6.block _ HR.out.sh.lt (by intro x; injection x with x; omega)) (hg6.block _ HR.out.rt.lt (by intro x; injection x with x; omega))); have HB7 := Lib.hid (HB.out.drew.trans (grown_below hg6 (Nat.le_refl _) HB.out.size)); have m1x := M1.out w6 HB7.out; have m2x := M2.out w6 HB7.out; clear hc6 hg6)
            | (go_at_call 16; refine (SR.out _ ?_).mono ?_; (exact HRx.out); rintro e w5 ⟨rfl, hr6, hg6⟩; have HR5 := Lib.hid hr6; have HC5 := Lib.hid (HC7.out.later (hg6.block _ HC7.out.lt N1 N2 N3)); have HB5 := Lib.hid (HB7.out.trans (hg6.below (Nat.le_of_lt L.1) (Nat.le_of_lt L.2.1) (Nat.le_of_lt L.2.2) HB7.out.size)); have m1y := M1.out w5 HB5.out; have m2y := M2.out w5 HB5.out; clear hr6 hg6))
          set_option maxRecDepth 8000 in
          go_wp2_with fail
          have m5 := M1.out w5 HB5.out
          have r2 := HR5.out.c2
          have r3 := HR5.out.c3
          have RF5 : Hid (∀ n, Calls Try.prog 17 #[pt w.heap.size] (w5.drewN n) fun e w' => e = .returned (.int .i64 s5.ref) ∧ w5.drewN n = w') := fun n => Ref_any (w5.drewN n) _ s5 (HC5.out.later rfl)
          have WF5 : Hid (∀ n, Calls Try.prog 18 #[pt w.heap.size] (w5.drewN n) fun e w' => e = .returned (.int .i64 s5.worst) ∧ w5.drewN n = w') := fun n => Worst_any (w5.drewN n) _ s5 (HC5.out.later rfl)
          have NC5 : Hid (∀ n, Calls Try.prog 19 #[pt w.heap.size, .int .i64 m] (w5.drewN n) fun e w' => e = .returned (.int .i64 (Clk.nowI s5 m)) ∧ w5.drewN n = w') := fun n => Now_any (w5.drewN n) _ s5 m (HC5.out.later rfl) OK5.out.n
          have NR5 : Hid (∀ n, Calls Try.prog 20 #[pt b, .int .i64 m] (w5.drewN n) fun e w' => e = .returned (.int .i64 (Clk.nowI s5 m)) ∧ w5.drewN n = w') := fun n => RefNow_any (w5.drewN n) b bs br s5 m (HR5.out.later rfl rfl rfl) OK5.out.n
          generalize Clk.nowI s5 m = nm at *
          go_quiet (first
            | (go_at_call 17; exact quiet_eq (RF5.out _))
            | (go_at_call 18; exact quiet_eq (WF5.out _))
            | (go_at_call 19; exact quiet_eq (NC5.out _))
            | (go_at_call 20; exact quiet_eq (NR5.out _)))
          set_option maxRecDepth 8000 in
          go_wp2_with fail
          exact ⟨⟨k + 1, s5, by omega, by go_num, HC5.out.later rfl, HR5.out.later rfl rfl rfl, OK5.out, below_drewN HB5.out nq⟩, rounds k _ hlt⟩
      · obtain rfl : k = len1 := by omega
        go_wp2_with fail
        go_loopw [12] (fun j wx => ∃ t : Nat, t ≤ s.n ∧ j = .int .i64 t ∧ HasC wx w.heap.size s ∧ HasR wx b bs br s ∧ Below w.heap.size w wx) (fun j _ => s.n - (intOf j).toNat)
        case atStart => exact ⟨0, by omega, rfl, HC.out, HR.out, HB.out⟩
        case round =>
          obtain ⟨t, ht, rfl, hc, hr, hb⟩ := hrel
          have c0 := hr.c0
          have hn15 := OK.out.n
          have HC' := Lib.hid hc
          have HR' := Lib.hid hr
          have HB' := Lib.hid hb
          clear hc hr hb HC HR HB
          by_cases htl : t < s.n
          · have NT : Hid (∀ n, Calls Try.prog 19 #[pt w.heap.size, .int .i64 (t : Int)] (wr.drewN n) fun e w'' => e = .returned (.int .i64 (s.shown t)) ∧ wr.drewN n = w'') := fun n => by
              have := Now_any (wr.drewN n) _ s (t : Int) (HC'.out.later rfl) OK.out.n
              unfold Clk.nowI at this
              rwa [if_pos (by omega), Int.toNat_natCast] at this
            have cs := HR'.out.sh.cell htl
            generalize s.shown t = st at *
            go_wp2_with fail
            set_option maxRecDepth 8000 in
            go_quiet (first | (go_at_call 19; exact quiet_eq (NT.out _)))
            set_option maxRecDepth 8000 in
            go_wp2_with fail
            exact ⟨⟨t + 1, by omega, by go_num, HC'.out.later rfl, HR'.out.later rfl rfl rfl, below_drewN HB'.out nq⟩, rounds t _ htl⟩
          · have LC := Lib.hid (Len_any wr.drew _ s (HC'.out.later rfl))
            go_wp2_with fail
            set_option maxRecDepth 8000 in
            go_region_held3 (fun w' => w'.cell? ⟨b, 0, none⟩ = some (.slice (some ⟨bs, 0, none⟩) s.n s.n)) (first | exact c0 | exact c0x) (first
              | (go_at_call 21; refine LC.out.mono ?_; rintro e w' ⟨rfl, rfl⟩)
              | (go_at_call 8; refine (awake_ok _).mono ?_; rintro e w9 ⟨rfl, hb9⟩; have HB9 := Lib.hid (HB'.out.drew.trans (hb9.mono HB'.out.size)); have c0x := (HR'.out.drew.below hb9).c0; clear hb9))
            set_option maxRecDepth 8000 in
            go_wp2_with fail
            go_ret
            exact ⟨rfl, HB9.out⟩
/-! ### THE ROW's STEP: WRITTEN OUT: LEAVE IT -/
set_option maxRecDepth 100000 in
theorem lifted (os : Os) (started : os.Started) (H : Type) (enc : TypeId × Value → H) :
    ReturnsInHanded {} Try.checked os 3 .any (Rows.clockRunsSpec.pre6 enc Try.prog Try.f3 Rows.clockRunsRow.domain false) (Rows.clockRunsSpec.post enc Try.prog Try.f3 false true false false) := by
  refine returnsInHanded_of_change (C := Try.checked) own started (by kernel_rfl) Try.func3
    (ChangeSpec.witness6 (enc := enc) (C := Try.checked) false ⟨#[], #[.int .i64 0, .slice none 0 0], []⟩ 8 (by kernel_rfl) (by kernel_rfl) (by kernel_rfl) (by kernel_rfl)) ?_
  intro W base args ds gs before hval0 hW hcnd _
  have hval : ∀ (j : Nat) t v, Try.f3.params[j]? = some t → args[j]? = some v → Value.okWide Try.prog W .any base t v := hval0
  have hW' := hW
  obtain ⟨p, q, hA0, hV, rfl, hfz, hnd⟩ := hW
  have hA : DataW.TrodAll enc Try.prog W 0 (fun _ => true) true Try.f3.params.toList args.toList ds p := hA0
  rw [Try.params3] at hA hval
  obtain ⟨v0, vs0, d0, ds0, p0, q0, hargs, rfl, rfl, h0, r0⟩ := trodAll_cons hA
  obtain ⟨v1, vs1, d1, ds1, p1, q1, rfl, rfl, rfl, h1, r1⟩ := trodAll_cons r0
  obtain ⟨rfl, rfl, rfl⟩ := trodAll_nil r1
  obtain rfl : args = #[v0, v1] := by cases args; simp_all
  obtain ⟨rfl, rfl⟩ := trodVars_none hV
  obtain ⟨a0, rfl, rfl, rfl, w0⟩ := open_int Try.underlying3 (hval 0 3 v0 rfl rfl) h0
  obtain ⟨a1, len1, cap1, rfl⟩ := okWide_slice Try.underlying22 (hval 1 22 v1 rfl rfl)
  have k1 := h1
  have lt1 : ∀ x ∈ p1, x.block < W.heap.size := by obtain ⟨m, hm⟩ := k1; exact DataW.trod_lt m _ _ _ hm
  have w1 : IsActs W a1 len1 cap1 := by
    obtain ⟨fuel, hf⟩ := h1
    exact acts_of hf a1 len1 cap1 (by simp [Value.cells])
  clear hA0 hval0
  refine (walk a0 a1 len1 cap1 W w1).mono fun e W' ⟨he, bel⟩ => ?_
  subst he
  exact ⟨_, rfl, _, _, _, [], _, [], hW', trodAll_mk1 (shut_bool Try.underlying4 _), (trodAll_cons_mk (shut_int Try.underlying3 w0) (trodAll_cons_mk (Below.trod laidOut (by kernel_rfl) (of_decide_eq_true (by kernel_rfl)) k1 bel lt1) trodAll_mk0)), rfl, bel.frame _, fun h => by cases h⟩

theorem over : Rows.clockRunsRow.holds Try.pinned (OpenSpec.ofChange Rows.clockRunsSpec) :=
  OpenClaim.holds_of_wide 3 Try.f3 rfl rfl rfl rfl rfl rfl rfl ⟨rfl, rfl, rfl, rfl, rfl⟩ rfl rfl rfl rfl rfl (by kernel_rfl) Try.func3 (by kernel_rfl)
    (of_decide_eq_true (by kernel_rfl)) (by unfold Func.isWrapper; first | (rw [if_pos (by decide +kernel)]; kernel_rfl) | (rw [if_neg (by decide +kernel)]; exact ⟨rfl, rfl⟩))
    (fun os started H enc _ => lifted os started H enc)

/-- THE STATEMENT -/
theorem proved : Rows.ClockRunsSaid := over
end Go.Proofs.Ythpfkbdbioabaaa.clockRuns
