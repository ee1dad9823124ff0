/- PROVED: the statement ClockWorst of layer 3: for every input that can be read, the law returns true and leaves its arguments as they were. No condition. -/
import Derived.Test.YthpfkbdbioabaaaRows
import Derived.Test.YthpfkbdbioabaaaClkF
import Derived.Test.YthpfkbdbioabaaaFSmall
import Derived.WalkKit
import Derived.ProofKit
import Derived.OpenShut
import Derived.ShutString
import Derived.ChangeOld
import Derived.Below
namespace Go.Proofs.Ythpfkbdbioabaaa.clockWorst
open Go.ChangeShapes Go.WideShapes Go.ChangeAt Go.RowKit
open Go.ChangeMaps (open_string shut_string)
set_option linter.unusedVariables false

theorem own : ownKnob Try.prog.godebug = none := by kernel_rfl
theorem laidOut : laidOutB Try.prog = true := by kernel_rfl

attribute [local go_sem] Dbl.run_fadd Dbl.run_fsub Dbl.run_fmul Dbl.run_fdiv Dbl.run_fmax Dbl.run_fmin Dbl.unary_fneg Dbl.ford_lt Dbl.ford_gt Dbl.ford_eq Dbl.ford_ne Dbl.pick_told Dbl.pickW_told

/-! ### STEP 1: THE WALK: the Go text returns true, AND WRITES NOTHING THAT WAS THERE: 'Below w.heap.size w w'' (Derived/Below.lean: '.refl', '.alloc', '.drew', '.setCell' at a new block, '.trans'). Open each 'IsRow' by 'rcases' AHEAD of 'go_enter'; part every test ahead of the walk. -/
open Clk (St)
set_option maxHeartbeats 2000000 in
theorem walk (a0 : Option Addr) (len0 cap0 : Nat) (z0 : List Int) (a1 : Option Addr) (len1 cap1 : Nat) (z1 : List Int) (w : World) (w0 : IsRow .u16 w a0 len0 cap0 z0) (w1 : IsRow .u16 w a1 len1 cap1 z1) :
    Calls Try.prog 7 #[.slice a0 len0 cap0, .slice a1 len1 cap1] w fun e w' => e = .returned (.bool true) ∧ Below w.heap.size w w' := by
  have W0 := Lib.hid w0
  have W1 := Lib.hid w1
  have b0 := w0.len_
  have b1 := w1.len_
  clear w0 w1
  by_cases hbig : 40 < len1
  · go_enter Try.func7, Try.ntmps7
    go_wp2_with (go_at_call 8; refine (awake_ok _).mono ?_; rintro e w' ⟨rfl, hb⟩)
    go_ret
    exact ⟨rfl, hb⟩
  · by_cases hless : len0 < len1
    · go_enter Try.func7, Try.ntmps7
      go_wp2_with (go_at_call 8; refine (awake_ok _).mono ?_; rintro e w' ⟨rfl, hb⟩)
      go_ret
      exact ⟨rfl, hb⟩
    · go_enter Try.func7, Try.ntmps7
      go_wp2_with fail
      refine (New_any 2 w).mono ?_
      rintro e wn ⟨rfl, hc1, hb1⟩
      have HC1 := Lib.hid hc1
      have HB1 := Lib.hid hb1
      clear hc1 hb1
      go_wp2_with fail
      go_loopw [6, 7] (fun v i wr => ∃ (k : Nat) (s : St), k ≤ len1 ∧ i = .int .i64 k ∧ v = .int .i64 s.worst ∧ HasC wr w.heap.size s ∧ Clk.Ok s (16000 * k) ∧ s.n = 2 ∧ Clk.Slow s ∧ Below w.heap.size w wr) (fun _ i _ => len1 - (intOf i).toNat)
      case atStart => exact ⟨0, Clk.new 2, by omega, rfl, rfl, HC1.out, Clk.ok_new 2, rfl, Clk.slow_new 2, HB1.out⟩
      case round =>
        obtain ⟨k, s, hk, rfl, rfl, hc, hok, hn, hsl, hb⟩ := hrel
        have HC := Lib.hid hc
        have OK := Lib.hid hok
        have HN := Lib.hid hn
        have SL := Lib.hid hsl
        have HB := Lib.hid hb
        clear hc hok hn hsl hb
        by_cases hlt : k < len1
        · obtain ⟨g0, o0, rfl, hc0⟩ := W0.out.cells_ (by omega)
          obtain ⟨g1, o1, rfl, hc1⟩ := W1.out.cells_ (by omega)
          obtain ⟨x0, y0⟩ := hc0 k (by omega)
          obtain ⟨x1, y1⟩ := hc1 k hlt
          have m0 : wr.cell? ⟨g0, o0 + k, none⟩ = some (.int .u16 (z0.getD k 0)) := by rw [HB.out.cell (lt_of_cell x0)]; exact x0
          have M1 : Hid (∀ w', Below w.heap.size w w' → w'.cell? ⟨g1, o1 + k, none⟩ = some (.int .u16 (z1.getD k 0))) := fun w' hb => by rw [hb.cell (lt_of_cell x1)]; exact x1
          have r0 := u16_wf y0
          have r1 := u16_wf y1
          clear hc0 hc1 x0 x1 y0 y1
          generalize z0.getD k 0 = zr at *
          generalize z1.getD k 0 = zp at *
          obtain ⟨q, hq, hq64, hq2⟩ := Dbl.small_rate (zr % 3000).toNat (by omega)
          rw [show (((zr % 3000).toNat : Nat) : Int) = zr % 3000 by omega] at hq
          have hq' : Ieee.double.div (floatOfInt .f64 (zr % 3000)) 4652007308841189376 = some q := hq
          have Q2 := Lib.hid hq2
          clear hq2 hq
          go_wp2_with fail
          refine (Set_any wr _ s _ q HC.out (by have := OK.out.n; omega)).mono ?_
          rintro e w2 ⟨rfl, hc2, hg2⟩
          have HC2 := Lib.hid hc2
          have HB2 := Lib.hid (HB.out.trans (grown_below hg2 (Nat.le_refl _) HB.out.size))
          have m1 := M1.out w2 HB2.out
          have OK2 := Lib.hid (OK.out.setI ((k : Int) % 2) q hq64)
          have SL2 := Lib.hid (SL.out.setI ((k : Int) % 2) q hq64 Q2.out)
          have hn2 : (Clk.setI s ((k : Int) % 2) q).n = 2 := by rw [Clk.setI_n]; exact HN.out
          have hw2 : (Clk.setI s ((k : Int) % 2) q).worst = s.worst := Clk.setI_worst _ _ _
          clear hc2 hg2 M1 hq' m0
          generalize hs2 : Clk.setI s ((k : Int) % 2) q = s2 at *
          rw [← hw2]
          have HN2 := Lib.hid hn2
          clear hn2 hs2 hw2 HC OK HN SL HB
          go_wp2_with fail
          have hp1 : 1 ≤ 1 + zp % 1000 := by omega
          have hp2 : 1 + zp % 1000 ≤ 1000 := by omega
          generalize 1 + zp % 1000 = p at *
          refine (Pass_any w2 _ s2 p (16000 * k) HC2.out OK2.out (by omega) (by omega) hp1 hp2).mono ?_
          rintro e w3 ⟨⟨g, hg, rfl, hr3⟩, hc3, hg3⟩
          have HC3 := Lib.hid hc3
          have HB3 := Lib.hid (HB2.out.trans (grown_below hg3 (Nat.le_refl _) HB2.out.size))
          rw [HN2.out] at hr3 ⊢
          have MC : Hid (∀ j, j < 2 → w3.cell? ⟨g, j, none⟩ = some (.int .i64 (Clk.mv s2 p j))) := fun j hj => by rw [hr3.cell hj, mvK_all _ _ _ _ hj]
          have MB : Hid (∀ j, 0 ≤ Clk.mv s2 p j ∧ Clk.mv s2 p j ≤ 16000) := fun j => OK2.out.mv p j
          have WB : Hid (∀ j, s2.worst ≤ Clk.wk s2 p j ∧ Clk.wk s2 p j ≤ 1001) := Clk.wk_bounds s2 p hp1 OK2.out.worst
          have sw := OK2.out.worst
          have FW : Hid ((Clk.pass s2 p).worst = Clk.wk s2 p 2) := by
            show Clk.wk s2 p s2.n = _
            rw [HN2.out]
          have OK3 : Hid (Clk.Ok (Clk.pass s2 p) (16000 * ((k + 1 : Nat) : Int))) := (OK2.out.pass p hp1 hp2 (by omega)).mono (by omega)
          have SL3 : Hid (Clk.Slow (Clk.pass s2 p)) := SL2.out
          have HN3 : Hid ((Clk.pass s2 p).n = 2) := HN2.out
          have WW := Lib.hid (Worst_any w3 _ _ HC3.out)
          clear hg hr3 hc3 hg3 m1 HC2 HB2 OK2 SL2 HN2 r0 r1 hq64
          go_wp2_with fail
          go_loopw [6, 11] (fun v j wr => ∃ t : Nat, t ≤ 2 ∧ j = .int .i64 t ∧ v = .int .i64 (Clk.wk s2 p t) ∧ w3 = wr) (fun _ j _ => 2 - (intOf j).toNat)
          case atStart => exact ⟨0, by omega, rfl, rfl, rfl⟩
          case round =>
            obtain ⟨t, ht, rfl, rfl, hw⟩ := hrel
            subst hw
            by_cases htl : t < 2
            · have mc := MC.out t htl
              have mb := MB.out t
              have nd := Clk.need_bounds p (Clk.mv s2 p t) hp1
              have wb := WB.out t
              have FS : Hid (Clk.wk s2 p (t + 1) = max (Clk.wk s2 p t) (Clk.need p (Clk.mv s2 p t))) := rfl
              have CW : Hid (∀ v w, 0 ≤ v → v ≤ 1000 → Calls Try.prog 22 #[.int .i64 p, .int .i64 (Clk.mv s2 p t), .int .i64 v] w fun e w' => e = .returned (.bool (decide (Clk.need p (Clk.mv s2 p t) ≤ v))) ∧ w = w') := fun v w v0 v1 => by
                have := Within_any p (Clk.mv s2 p t) v w
                rwa [within_need p _ v hp1 hp2 mb.1 mb.2 v0 v1] at this
              generalize Clk.need p (Clk.mv s2 p t) = n0 at *
              generalize Clk.mv s2 p t = m0 at *
              generalize Clk.wk s2 p t = v0 at *
              have e0 : decide ((t : Int) < 2) = true := decide_eq_true (by omega)
              go_wp2_with fail
              go_loopw [6] (fun x wr => ∃ v : Int, v0 ≤ v ∧ v ≤ max v0 n0 ∧ x = .int .i64 v ∧ w3 = wr) (fun x _ => (1002 - intOf x).toNat)
              case atStart => exact ⟨v0, by omega, by omega, rfl, rfl⟩
              case round =>
                obtain ⟨v, v1, v2, rfl, hw⟩ := hrel
                subst hw
                by_cases hv : v ≤ 1000
                · by_cases hd : n0 ≤ v
                  · have e1 : decide (n0 ≤ v) = true := decide_eq_true hd
                    have CW' := Lib.hid (CW.out v w3 (by omega) hv)
                    rw [e1] at CW'
                    have e2 : Hid (max v0 n0 = v) := by show max v0 n0 = v; omega
                    go_wp2_with (go_at_call 22; refine CW'.out.mono ?_; rintro e w' ⟨rfl, rfl⟩)
                    go_roundw
                    case rel => exact ⟨t + 1, by omega, by go_num, by rw [FS.out, e2.out], by trivial⟩
                    case measure => simp [intOf]; omega
                  · have e1 : decide (n0 ≤ v) = false := decide_eq_false hd
                    have CW' := Lib.hid (CW.out v w3 (by omega) hv)
                    rw [e1] at CW'
                    go_wp2_with (go_at_call 22; refine CW'.out.mono ?_; rintro e w' ⟨rfl, rfl⟩)
                    go_roundw
                    case rel =>
                      exact ⟨v + 1, by omega, by omega, rfl, by trivial⟩
                    case measure => simp [intOf]; omega
                · have e2 : Hid (max v0 n0 = v) := by show max v0 n0 = v; omega
                  go_wp2_with fail
                  go_roundw
                  case rel => exact ⟨t + 1, by omega, by go_num, by rw [FS.out, e2.out], by trivial⟩
                  case measure => simp [intOf]; omega
            · obtain rfl : t = 2 := by omega
              rw [← FW.out] at *
              go_wp2_with fail
              refine WW.out.mono ?_
              rintro e w' ⟨rfl, rfl⟩
              go_wp2_with fail
              refine ⟨⟨k + 1, Clk.pass s2 p, by omega, by go_num, rfl, HC3.out, OK3.out, HN3.out, SL3.out, HB3.out⟩, ?_⟩
              simp [intOf]
              omega
        · obtain rfl : k = len1 := by omega
          have SW := Lib.hid (Clk.still_worst s SL.out HN.out OK.out.rate)
          go_wp2_with fail
          refine (Set_any wr _ s 0 0 HC.out (by have := OK.out.n; omega)).mono ?_
          rintro e w2 ⟨rfl, hc2, hg2⟩
          have HC2 := Lib.hid hc2
          have HB2 := Lib.hid (HB.out.trans (grown_below hg2 (Nat.le_refl _) HB.out.size))
          clear hc2 hg2
          go_wp2_with fail
          refine (Pass_any w2 _ _ 1 (16000 * k) HC2.out (OK.out.setI 0 0 (by omega)) (by omega) (by omega) (by omega) (by omega)).mono ?_
          rintro e w3 ⟨⟨g, hg, rfl, hr3⟩, hc3, hg3⟩
          have HC3 := Lib.hid hc3
          have HB3 := Lib.hid (HB2.out.trans (grown_below hg3 (Nat.le_refl _) HB2.out.size))
          clear hg hr3 hc3 hg3
          go_wp2_with fail
          refine (Worst_any w3 _ _ HC3.out).mono ?_
          rintro e w' ⟨rfl, rfl⟩
          rw [SW.out]
          clear SW
          by_cases hm : s.worst < 1000
          · rw [show max s.worst 1000 = 1000 by omega]
            go_wp2_with fail
            refine (awake_ok _).mono ?_
            rintro e w4 ⟨rfl, hb4⟩
            go_wp2_with fail
            go_ret
            exact ⟨rfl, HB3.out.trans (hb4.mono HB3.out.size)⟩
          · rw [show max s.worst 1000 = s.worst by omega]
            go_wp2_with fail
            refine (awake_ok _).mono ?_
            rintro e w4 ⟨rfl, hb4⟩
            go_wp2_with fail
            go_ret
            exact ⟨rfl, HB3.out.trans (hb4.mono HB3.out.size)⟩

/-! ### THE ROW's STEP: WRITTEN OUT: LEAVE IT -/
set_option maxRecDepth 100000 in
theorem lifted (os : Os) (started : os.Started) (H : Type) (enc : TypeId × Value → H) :
    ReturnsInHanded {} Try.checked os 7 .any (Rows.clockWorstSpec.pre6 enc Try.prog Try.f7 Rows.clockWorstRow.domain false) (Rows.clockWorstSpec.post enc Try.prog Try.f7 false true false false) := by
  refine returnsInHanded_of_change (C := Try.checked) own started (by kernel_rfl) Try.func7
    (ChangeSpec.witness6 (enc := enc) (C := Try.checked) false ⟨#[], #[.slice none 0 0, .slice none 0 0], []⟩ 8 (by kernel_rfl) (by kernel_rfl) (by kernel_rfl) (by kernel_rfl)) ?_
  intro W base args ds gs before hval0 hW hcnd _
  have hval : ∀ (j : Nat) t v, Try.f7.params[j]? = some t → args[j]? = some v → Value.okWide Try.prog W .any base t v := hval0
  have hW' := hW
  obtain ⟨p, q, hA0, hV, rfl, hfz, hnd⟩ := hW
  have hA : DataW.TrodAll enc Try.prog W 0 (fun _ => true) true Try.f7.params.toList args.toList ds p := hA0
  rw [Try.params7] at hA hval
  obtain ⟨v0, vs0, d0, ds0, p0, q0, hargs, rfl, rfl, h0, r0⟩ := trodAll_cons hA
  obtain ⟨v1, vs1, d1, ds1, p1, q1, rfl, rfl, rfl, h1, r1⟩ := trodAll_cons r0
  obtain ⟨rfl, rfl, rfl⟩ := trodAll_nil r1
  obtain rfl : args = #[v0, v1] := by cases args; simp_all
  obtain ⟨rfl, rfl⟩ := trodVars_none hV
  obtain ⟨a0, len0, cap0, rfl⟩ := okWide_slice Try.underlying45 (hval 0 45 v0 rfl rfl)
  have k0 := h0
  have lt0 : ∀ x ∈ p0, x.block < W.heap.size := by obtain ⟨m, hm⟩ := k0; exact DataW.trod_lt m _ _ _ hm
  obtain ⟨z0, w0⟩ : ∃ zs, IsRow .u16 W a0 len0 cap0 zs := by
    obtain ⟨fuel, hf⟩ := h0
    rcases open_ints Try.underlying45 Try.underlying47 (by kernel_rfl) hf with ⟨hcs, _⟩ | ⟨x, l, c, zs, hcs, _, hl, hm, hz, _, hcell, hwz⟩
    · simp [Value.cells] at hcs
      obtain ⟨rfl, rfl, rfl⟩ := hcs
      exact ⟨[], .inl ⟨rfl, rfl, rfl, rfl⟩⟩
    · simp [Value.cells] at hcs
      obtain ⟨rfl, rfl, rfl⟩ := hcs
      exact ⟨zs, .inr ⟨_, rfl, hl, hm, by simpa using hz, hcell, hwz⟩⟩
  obtain ⟨a1, len1, cap1, rfl⟩ := okWide_slice Try.underlying45 (hval 1 45 v1 rfl rfl)
  have k1 := h1
  have lt1 : ∀ x ∈ p1, x.block < W.heap.size := by obtain ⟨m, hm⟩ := k1; exact DataW.trod_lt m _ _ _ hm
  obtain ⟨z1, w1⟩ : ∃ zs, IsRow .u16 W a1 len1 cap1 zs := by
    obtain ⟨fuel, hf⟩ := h1
    rcases open_ints Try.underlying45 Try.underlying47 (by kernel_rfl) hf with ⟨hcs, _⟩ | ⟨x, l, c, zs, hcs, _, hl, hm, hz, _, hcell, hwz⟩
    · simp [Value.cells] at hcs
      obtain ⟨rfl, rfl, rfl⟩ := hcs
      exact ⟨[], .inl ⟨rfl, rfl, rfl, rfl⟩⟩
    · simp [Value.cells] at hcs
      obtain ⟨rfl, rfl, rfl⟩ := hcs
      exact ⟨zs, .inr ⟨_, rfl, hl, hm, by simpa using hz, hcell, hwz⟩⟩
  clear hA0 hval0
  refine (walk a0 len0 cap0 z0 a1 len1 cap1 z1 W w0 w1).mono fun e W' ⟨he, bel⟩ => ?_
  subst he
  exact ⟨_, rfl, _, _, _, [], _, [], hW', trodAll_mk1 (shut_bool Try.underlying4 _), (trodAll_cons_mk (Below.trod laidOut (by kernel_rfl) (of_decide_eq_true (by kernel_rfl)) k0 bel lt0) (trodAll_cons_mk (Below.trod laidOut (by kernel_rfl) (of_decide_eq_true (by kernel_rfl)) k1 bel lt1) trodAll_mk0)), rfl, bel.frame _, fun h => by cases h⟩

theorem over : Rows.clockWorstRow.holds Try.pinned (OpenSpec.ofChange Rows.clockWorstSpec) :=
  OpenClaim.holds_of_wide 7 Try.f7 rfl rfl rfl rfl rfl rfl rfl ⟨rfl, rfl, rfl, rfl, rfl⟩ rfl rfl rfl rfl rfl (by kernel_rfl) Try.func7 (by kernel_rfl)
    (of_decide_eq_true (by kernel_rfl)) (by unfold Func.isWrapper; first | (rw [if_pos (by decide +kernel)]; kernel_rfl) | (rw [if_neg (by decide +kernel)]; exact ⟨rfl, rfl⟩))
    (fun os started H enc _ => lifted os started H enc)

/-- THE STATEMENT -/
theorem proved : Rows.ClockWorstSaid := over
end Go.Proofs.Ythpfkbdbioabaaa.clockWorst
