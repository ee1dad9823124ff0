/- PROVED: the statement ClockDrift of layer 3: for every input that can be read, the law returns true and leaves its arguments as they were. No condition. -/
import Derived.Test.YthpfkbdbioabaaaRows
import Derived.Test.YthpfkbdbioabaaaClkF
import Derived.Test.YthpfkbdbioabaaaFDrift
import Derived.Test.YthpfkbdbioabaaaFSmall
import Derived.WalkKit
import Derived.Deep.Cut
import Derived.ProofKit
import Derived.OpenShut
import Derived.ShutString
import Derived.ChangeOld
import Derived.Below
namespace Go.Proofs.Ythpfkbdbioabaaa.clockDrift
open Go.ChangeShapes Go.WideShapes Go.ChangeAt Go.RowKit
open Go.ChangeMaps (open_string shut_string)
set_option linter.unusedVariables false

theorem own : ownKnob Try.prog.godebug = none := by kernel_rfl
theorem laidOut : laidOutB Try.prog = true := by kernel_rfl

attribute [local go_sem] Dbl.run_fadd Dbl.run_fsub Dbl.run_fmul Dbl.run_fdiv Dbl.run_fmax Dbl.run_fmin Dbl.unary_fneg Dbl.ford_lt Dbl.ford_gt Dbl.ford_eq Dbl.ford_ne Dbl.pick_told Dbl.pickW_told

/-! ### STEP 1: THE WALK: the Go text returns true, AND WRITES NOTHING THAT WAS THERE: 'Below w.heap.size w w'' (Derived/Below.lean: '.refl', '.alloc', '.drew', '.setCell' at a new block, '.trans'). Open each 'IsRow' by 'rcases' AHEAD of 'go_enter'; part every test ahead of the walk. -/
open Clk (St)
set_option maxHeartbeats 2000000 in
theorem walk (a0 : Option Addr) (len0 cap0 : Nat) (z0 : List Int) (a1 : Option Addr) (len1 cap1 : Nat) (z1 : List Int) (a2 : Int) (a3 : Int) (w : World) (w0 : IsRow .u16 w a0 len0 cap0 z0) (w1 : IsRow .u16 w a1 len1 cap1 z1) (w2 : (Lit.int .u8 a2).wf = true) (w3 : (Lit.int .u8 a3).wf = true) :
    Calls Try.prog 4 #[.slice a0 len0 cap0, .slice a1 len1 cap1, .int .u8 a2, .int .u8 a3] w fun e w' => e = .returned (.bool true) ∧ Below w.heap.size w w' := by
  have W0 := Lib.hid w0
  have W1 := Lib.hid w1
  have b0 := w0.len_
  have b1 := w1.len_
  have k2 := u8_wf w2
  have k3 := u8_wf w3
  clear w0 w1 w2 w3
  by_cases hbig : 40 < len1
  · go_enter Try.func4, Try.ntmps4
    go_wp2_with (go_at_call 8; refine (awake_ok _).mono ?_; rintro e w' ⟨rfl, hb⟩)
    go_ret
    exact ⟨rfl, hb⟩
  · have hz : decide ((len1 : Int) + 1 = 0) = false := decide_eq_false (by omega)
    have q1 : 0 ≤ a2 % ((len1 : Int) + 1) := Int.emod_nonneg _ (by omega)
    have q2 : a2 % ((len1 : Int) + 1) < (len1 : Int) + 1 := Int.emod_lt_of_pos _ (by omega)
    have q3 : 0 ≤ a3 % ((len1 : Int) + 1) := Int.emod_nonneg _ (by omega)
    have q4 : a3 % ((len1 : Int) + 1) < (len1 : Int) + 1 := Int.emod_lt_of_pos _ (by omega)
    have t2 : a2.tmod ((len1 : Int) + 1) = a2 % ((len1 : Int) + 1) := Int.tmod_eq_emod_of_nonneg k2.1
    have t3 : a3.tmod ((len1 : Int) + 1) = a3 % ((len1 : Int) + 1) := Int.tmod_eq_emod_of_nonneg k3.1
    generalize hX : a2 % ((len1 : Int) + 1) = X at *
    generalize hY : a3 % ((len1 : Int) + 1) = Y at *
    obtain ⟨A, hA⟩ : ∃ A : Nat, (if Y < X then Y else X) = (A : Int) := ⟨(if Y < X then Y else X).toNat, by split <;> omega⟩
    obtain ⟨B, hB⟩ : ∃ B : Nat, (if X < Y then Y else X) = (B : Int) := ⟨(if X < Y then Y else X).toNat, by split <;> omega⟩
    have hAB : A ≤ B ∧ B ≤ len1 := by
      split at hA <;> split at hB <;> omega
    clear q1 q2 q3 q4
    go_enter Try.func4, Try.ntmps4
    go_wp2_with fail
    refine (New_any 3 w).mono ?_
    rintro e wn ⟨rfl, hc1, hb1⟩
    have HC1 := Lib.hid hc1
    have HB1 := Lib.hid hb1
    have LT1 := Lib.hid hc1.lt
    clear hc1 hb1
    go_wp2_with fail
    go_region
    --CUT
    go_wp2_with fail
    have hbw : w.heap.size < wn.heap.size := LT1.out
    obtain ⟨ws, hws⟩ : ∃ x, x = (wn.alloc (.cells #[.int .i64 0, .int .i64 0, .int .i64 0] 46)).drew := ⟨_, rfl⟩
    have HC2 : Hid (HasC ws w.heap.size (Clk.new 3)) := by rw [hws]; exact (HC1.out.below (newAlloc wn _)).later rfl
    have HR2 : Hid (ws.rowIs wn.heap.size 46 3 (fun _ => .int .i64 0)) := by
      rw [hws]
      exact (World.rowIs_alloc wn _ _ _ (fun i hi => by
        have hi' : i < 3 := hi
        clear hi
        iterate 3 (first | omega | (rcases i with _ | i; · rfl))
        omega)).drew
    have HB2 : Hid (Below w.heap.size w ws) := by rw [hws]; exact (HB1.out.alloc HB1.out.size _).drew
    have NB : Hid (wn.heap.size ≠ w.heap.size) := by show wn.heap.size ≠ w.heap.size; omega
    rw [← hws]
    clear hws HC1 HB1 LT1
    generalize wn.heap.size = bw at *
    go_loopw [13, 14] (fun r i wr => ∃ (k : Nat) (s : St) (y : Nat → Int) (z : Int), k ≤ B ∧ i = .int .i64 k ∧ r = .int .i64 z ∧ HasC wr w.heap.size s ∧ wr.rowIs bw 46 3 (fun j => .int .i64 (y j)) ∧ Clk.Ok s (16000 * k) ∧ s.n = 3 ∧ (∀ j, 0 ≤ y j) ∧ 0 ≤ z ∧ (A < k → Clk.DR s y z) ∧ Below w.heap.size w wr) (fun _ i _ => B - (intOf i).toNat)
    case atStart => exact ⟨0, Clk.new 3, fun _ => 0, 0, by omega, rfl, rfl, HC2.out, HR2.out, Clk.ok_new 3, rfl, fun _ => Int.le_refl _, Int.le_refl _, fun h => by omega, HB2.out⟩
    case round =>
      obtain ⟨k, s, y, z, hk, rfl, rfl, hc, hr, hok, hn, hy, hz0, hdr, hb⟩ := hrel
      have HC := Lib.hid hc
      have HR := Lib.hid hr
      have OK := Lib.hid hok
      have HN := Lib.hid hn
      have HY := Lib.hid hy
      have HD := Lib.hid hdr
      have HB := Lib.hid hb
      clear hc hr hok hn hy hdr hb HC2 HR2 HB2
      by_cases hlt : k < B
      · obtain ⟨g1, o1, rfl, hc1⟩ := W1.out.cells_ (by omega)
        obtain ⟨x1, y1⟩ := hc1 k (by omega)
        have M1 : Hid (∀ w', Below w.heap.size w w' → w'.cell? ⟨g1, o1 + k, none⟩ = some (.int .u16 (z1.getD k 0))) := fun w' hb => by rw [hb.cell (lt_of_cell x1)]; exact x1
        have r1 := u16_wf y1
        clear hc1 x1 y1
        generalize z1.getD k 0 = zp at *
        by_cases hkA : k = A
        · subst hkA
          have n0 : Clk.nowI s 0 = s.shown 0 := by unfold Clk.nowI; rw [HN.out]; rfl
          have n1 : Clk.nowI s 1 = s.shown 1 := by unfold Clk.nowI; rw [HN.out]; rfl
          have n2 : Clk.nowI s 2 = s.shown 2 := by unfold Clk.nowI; rw [HN.out]; rfl
          have NW : Hid (∀ i w', HasC w' w.heap.size s → Calls Try.prog 19 #[pt w.heap.size, .int .i64 i] w' fun e w'' => e = .returned (.int .i64 (Clk.nowI s i)) ∧ w' = w'') := fun i w' h => Now_any w' _ s i h OK.out.n
          have N0 := Lib.hid (NW.out 0 wr HC.out)
          have N1 := Lib.hid (NW.out 1 wr HC.out)
          have N2 := Lib.hid (NW.out 2 wr HC.out)
          rw [n0] at N0
          rw [n1] at N1
          rw [n2] at N2
          have c0 := HR.out.cell (show 0 < 3 by omega)
          have c1 := HR.out.cell (show 1 < 3 by omega)
          have c2 := HR.out.cell (show 2 < 3 by omega)
          have f0 := HR.out.frozen 0
          have f1 := HR.out.frozen 1
          have f2 := HR.out.frozen 2
          clear NW n0 n1 n2
          go_wp2_with fail
          refine N0.out.mono ?_
          rintro e w' ⟨rfl, rfl⟩
          go_wp2_with fail
          refine N1.out.mono ?_
          rintro e w' ⟨rfl, rfl⟩
          go_wp2_with fail
          refine N2.out.mono ?_
          rintro e w' ⟨rfl, rfl⟩
          go_wp2_with fail
          obtain ⟨w5, e5⟩ : ∃ x, x = ((wr.setCell ⟨bw, 0, none⟩ (.int .i64 (s.shown 0))).setCell ⟨bw, 1, none⟩ (.int .i64 (s.shown 1))).setCell ⟨bw, 2, none⟩ (.int .i64 (s.shown 2)) := ⟨_, rfl⟩
          have HC5 : Hid (HasC w5 w.heap.size s) := by
            rw [e5]
            refine HC.out.later ?_
            rw [Go.Deep.blk_setCell_other _ _ _ _ (fun h => NB.out h.symm), Go.Deep.blk_setCell_other _ _ _ _ (fun h => NB.out h.symm), Go.Deep.blk_setCell_other _ _ _ _ (fun h => NB.out h.symm)]
          have HB5 : Hid (Below w.heap.size w w5) := by
            rw [e5]
            exact ((HB.out.setCell (Nat.le_of_lt hbw) _).setCell (Nat.le_of_lt hbw) _).setCell (Nat.le_of_lt hbw) _
          have HR5 : Hid (w5.rowIs bw 46 3 (fun j => .int .i64 (s.shown j))) := by
            rw [e5]
            refine (((HR.out.set 0 _).set 1 _).set 2 _).congr fun j hj => ?_
            rcases (by omega : j = 0 ∨ j = 1 ∨ j = 2) with rfl | rfl | rfl <;> rfl
          rw [← e5]
          have RF := Lib.hid (Ref_any w5 _ s HC5.out)
          have Z5 : 0 ≤ s.ref := OK.out.ref.1
          have Y5 : Hid (∀ j, 0 ≤ s.shown j) := fun j => (OK.out.shown j).1
          have D5 : Hid (k ≤ k → Clk.DR s s.shown s.ref) := fun _ => Clk.dr_start s s.shown (fun _ _ => rfl)
          clear e5 HC HR HY HD HB hz0 c0 c1 c2 f0 f1 f2 N0 N1 N2
          refine RF.out.mono ?_
          rintro e w' ⟨rfl, rfl⟩
          obtain ⟨y5, e6⟩ : ∃ x, x = s.shown := ⟨_, rfl⟩
          obtain ⟨z5, e7⟩ : ∃ x, x = s.ref := ⟨_, rfl⟩
          rw [← e6] at HR5 Y5 D5
          rw [← e7] at D5 Z5 ⊢
          clear e6 e7 RF
          go_upto_region 16 with fail
          by_cases h0 : k < len0
          · obtain ⟨g0, o0, rfl, hc0⟩ := W0.out.cells_ (by omega)
            obtain ⟨x0, y0⟩ := hc0 k h0
            have m0 : w5.cell? ⟨g0, o0 + k, none⟩ = some (.int .u16 (z0.getD k 0)) := by rw [HB5.out.cell (lt_of_cell x0)]; exact x0
            have r0 := u16_wf y0
            clear hc0 x0 y0
            generalize z0.getD k 0 = zr at *
            obtain ⟨q, hq, hq64, _⟩ := Dbl.small_rate (zr % 2400).toNat (by omega)
            rw [show (((zr % 2400).toNat : Nat) : Int) = zr % 2400 by omega] at hq
            have hq' : Ieee.double.div (floatOfInt .f64 (zr % 2400)) 4652007308841189376 = some q := hq
            clear hq
            go_wp2_with fail
            refine (Set_any w5 _ s _ q HC5.out (by have := OK.out.n; omega)).mono ?_
            rintro e w6 ⟨rfl, hc6, hg6⟩
            have HC6 := Lib.hid hc6
            have HB6 := Lib.hid (HB5.out.trans (grown_below hg6 (Nat.le_refl _) HB5.out.size))
            have HR6 := Lib.hid (HR5.out.of_block (hg6.block _ HR5.out.lt (by intro x; injection x with x; exact NB.out x)))
            have OK6 := Lib.hid (OK.out.setI ((k : Int) % 3) q hq64)
            have D6 : Hid (k ≤ k → Clk.DR (Clk.setI s ((k : Int) % 3) q) y5 z5) := fun h => (D5.out h).setI _ _
            have N6 : Hid ((Clk.setI s ((k : Int) % 3) q).n = 3) := (Clk.setI_n s _ q).trans HN.out
            clear hc6 hg6 hq' m0 r0 hq64
            generalize Clk.setI s ((k : Int) % 3) q = s6 at *
            have hp1 : 1 ≤ 1 + zp % 1000 := by omega
            have hp2 : 1 + zp % 1000 ≤ 1000 := by omega
            have m1 := M1.out w6 HB6.out
            go_wp2_with fail
            generalize 1 + zp % 1000 = p at *
            refine (Pass_any w6 _ s6 p (16000 * k) HC6.out OK6.out (by omega) (by omega) hp1 hp2).mono ?_
            rintro e w7 ⟨⟨g, hg, rfl, hr7⟩, hc7, hg7⟩
            have HC7 := Lib.hid hc7
            have HB7 := Lib.hid (HB6.out.trans (grown_below hg7 (Nat.le_refl _) HB6.out.size))
            have HR7 := Lib.hid (HR6.out.of_block (hg7.block _ HR6.out.lt (by intro x; injection x with x; exact NB.out x)))
            have OK7 : Hid (Clk.Ok (Clk.pass s6 p) (16000 * ((k + 1 : Nat) : Int))) := (OK6.out.pass p hp1 hp2 (by omega)).mono (by omega)
            have D7 : Hid (k < k + 1 → Clk.DR (Clk.pass s6 p) y5 z5) := fun h => (D6.out (by omega)).pass p hp1 (fun j => (OK6.out.mv p j).1)
            have N7 : Hid ((Clk.pass s6 p).n = 3) := N6.out
            clear hg hr7 hc7 hg7 m1
            go_wp2_with fail
            exact ⟨⟨k + 1, Clk.pass s6 p, y5, z5, by omega, by go_num, rfl, HC7.out, HR7.out, OK7.out, N7.out, Y5.out, Z5, D7.out, HB7.out⟩, rounds k _ hlt⟩
          · obtain ⟨w6, e6⟩ : ∃ x, x = w5 := ⟨_, rfl⟩
            obtain ⟨s6, e7⟩ : ∃ x, x = s := ⟨_, rfl⟩
            have HC6 : Hid (HasC w6 w.heap.size s6) := by rw [e6, e7]; exact HC5.out
            have HB6 : Hid (Below w.heap.size w w6) := by rw [e6]; exact HB5.out
            have HR6 : Hid (w6.rowIs bw 46 3 (fun j => .int .i64 (y5 j))) := by rw [e6]; exact HR5.out
            have OK6 : Hid (Clk.Ok s6 (16000 * k)) := by rw [e7]; exact OK.out
            have D6 : Hid (k ≤ k → Clk.DR s6 y5 z5) := by rw [e7]; exact D5.out
            have N6 : Hid (s6.n = 3) := by rw [e7]; exact HN.out
            rw [← e6]
            clear e6 e7
            have hp1 : 1 ≤ 1 + zp % 1000 := by omega
            have hp2 : 1 + zp % 1000 ≤ 1000 := by omega
            have m1 := M1.out w6 HB6.out
            go_wp2_with fail
            generalize 1 + zp % 1000 = p at *
            refine (Pass_any w6 _ s6 p (16000 * k) HC6.out OK6.out (by omega) (by omega) hp1 hp2).mono ?_
            rintro e w7 ⟨⟨g, hg, rfl, hr7⟩, hc7, hg7⟩
            have HC7 := Lib.hid hc7
            have HB7 := Lib.hid (HB6.out.trans (grown_below hg7 (Nat.le_refl _) HB6.out.size))
            have HR7 := Lib.hid (HR6.out.of_block (hg7.block _ HR6.out.lt (by intro x; injection x with x; exact NB.out x)))
            have OK7 : Hid (Clk.Ok (Clk.pass s6 p) (16000 * ((k + 1 : Nat) : Int))) := (OK6.out.pass p hp1 hp2 (by omega)).mono (by omega)
            have D7 : Hid (k < k + 1 → Clk.DR (Clk.pass s6 p) y5 z5) := fun h => (D6.out (by omega)).pass p hp1 (fun j => (OK6.out.mv p j).1)
            have N7 : Hid ((Clk.pass s6 p).n = 3) := N6.out
            clear hg hr7 hc7 hg7 m1
            go_wp2_with fail
            exact ⟨⟨k + 1, Clk.pass s6 p, y5, z5, by omega, by go_num, rfl, HC7.out, HR7.out, OK7.out, N7.out, Y5.out, Z5, D7.out, HB7.out⟩, rounds k _ hlt⟩
        · obtain ⟨w5, e5⟩ : ∃ x, x = wr := ⟨_, rfl⟩
          obtain ⟨y5, e6⟩ : ∃ x, x = y := ⟨_, rfl⟩
          obtain ⟨z5, e7⟩ : ∃ x, x = z := ⟨_, rfl⟩
          have HC5 : Hid (HasC w5 w.heap.size s) := by rw [e5]; exact HC.out
          have HB5 : Hid (Below w.heap.size w w5) := by rw [e5]; exact HB.out
          have HR5 : Hid (w5.rowIs bw 46 3 (fun j => .int .i64 (y5 j))) := by rw [e5, e6]; exact HR.out
          have Y5 : Hid (∀ j, 0 ≤ y5 j) := by rw [e6]; exact HY.out
          have Z5 : 0 ≤ z5 := by rw [e7]; exact hz0
          have D5 : Hid (A ≤ k → Clk.DR s y5 z5) := by rw [e6, e7]; exact fun h => HD.out (by omega)
          rw [← e5, ← e7]
          clear e5 e6 e7 HC HR HY HD HB hz0
          go_upto_region 16 with fail
          by_cases h0 : k < len0
          · obtain ⟨g0, o0, rfl, hc0⟩ := W0.out.cells_ (by omega)
            obtain ⟨x0, y0⟩ := hc0 k h0
            have m0 : w5.cell? ⟨g0, o0 + k, none⟩ = some (.int .u16 (z0.getD k 0)) := by rw [HB5.out.cell (lt_of_cell x0)]; exact x0
            have r0 := u16_wf y0
            clear hc0 x0 y0
            generalize z0.getD k 0 = zr at *
            obtain ⟨q, hq, hq64, _⟩ := Dbl.small_rate (zr % 2400).toNat (by omega)
            rw [show (((zr % 2400).toNat : Nat) : Int) = zr % 2400 by omega] at hq
            have hq' : Ieee.double.div (floatOfInt .f64 (zr % 2400)) 4652007308841189376 = some q := hq
            clear hq
            go_wp2_with fail
            refine (Set_any w5 _ s _ q HC5.out (by have := OK.out.n; omega)).mono ?_
            rintro e w6 ⟨rfl, hc6, hg6⟩
            have HC6 := Lib.hid hc6
            have HB6 := Lib.hid (HB5.out.trans (grown_below hg6 (Nat.le_refl _) HB5.out.size))
            have HR6 := Lib.hid (HR5.out.of_block (hg6.block _ HR5.out.lt (by intro x; injection x with x; exact NB.out x)))
            have OK6 := Lib.hid (OK.out.setI ((k : Int) % 3) q hq64)
            have D6 : Hid (A ≤ k → Clk.DR (Clk.setI s ((k : Int) % 3) q) y5 z5) := fun h => (D5.out h).setI _ _
            have N6 : Hid ((Clk.setI s ((k : Int) % 3) q).n = 3) := (Clk.setI_n s _ q).trans HN.out
            clear hc6 hg6 hq' m0 r0 hq64
            generalize Clk.setI s ((k : Int) % 3) q = s6 at *
            have hp1 : 1 ≤ 1 + zp % 1000 := by omega
            have hp2 : 1 + zp % 1000 ≤ 1000 := by omega
            have m1 := M1.out w6 HB6.out
            go_wp2_with fail
            generalize 1 + zp % 1000 = p at *
            refine (Pass_any w6 _ s6 p (16000 * k) HC6.out OK6.out (by omega) (by omega) hp1 hp2).mono ?_
            rintro e w7 ⟨⟨g, hg, rfl, hr7⟩, hc7, hg7⟩
            have HC7 := Lib.hid hc7
            have HB7 := Lib.hid (HB6.out.trans (grown_below hg7 (Nat.le_refl _) HB6.out.size))
            have HR7 := Lib.hid (HR6.out.of_block (hg7.block _ HR6.out.lt (by intro x; injection x with x; exact NB.out x)))
            have OK7 : Hid (Clk.Ok (Clk.pass s6 p) (16000 * ((k + 1 : Nat) : Int))) := (OK6.out.pass p hp1 hp2 (by omega)).mono (by omega)
            have D7 : Hid (A < k + 1 → Clk.DR (Clk.pass s6 p) y5 z5) := fun h => (D6.out (by omega)).pass p hp1 (fun j => (OK6.out.mv p j).1)
            have N7 : Hid ((Clk.pass s6 p).n = 3) := N6.out
            clear hg hr7 hc7 hg7 m1
            go_wp2_with fail
            exact ⟨⟨k + 1, Clk.pass s6 p, y5, z5, by omega, by go_num, rfl, HC7.out, HR7.out, OK7.out, N7.out, Y5.out, Z5, D7.out, HB7.out⟩, rounds k _ hlt⟩
          · obtain ⟨w6, e6⟩ : ∃ x, x = w5 := ⟨_, rfl⟩
            obtain ⟨s6, e7⟩ : ∃ x, x = s := ⟨_, rfl⟩
            have HC6 : Hid (HasC w6 w.heap.size s6) := by rw [e6, e7]; exact HC5.out
            have HB6 : Hid (Below w.heap.size w w6) := by rw [e6]; exact HB5.out
            have HR6 : Hid (w6.rowIs bw 46 3 (fun j => .int .i64 (y5 j))) := by rw [e6]; exact HR5.out
            have OK6 : Hid (Clk.Ok s6 (16000 * k)) := by rw [e7]; exact OK.out
            have D6 : Hid (A ≤ k → Clk.DR s6 y5 z5) := by rw [e7]; exact D5.out
            have N6 : Hid (s6.n = 3) := by rw [e7]; exact HN.out
            rw [← e6]
            clear e6 e7
            have hp1 : 1 ≤ 1 + zp % 1000 := by omega
            have hp2 : 1 + zp % 1000 ≤ 1000 := by omega
            have m1 := M1.out w6 HB6.out
            go_wp2_with fail
            generalize 1 + zp % 1000 = p at *
            refine (Pass_any w6 _ s6 p (16000 * k) HC6.out OK6.out (by omega) (by omega) hp1 hp2).mono ?_
            rintro e w7 ⟨⟨g, hg, rfl, hr7⟩, hc7, hg7⟩
            have HC7 := Lib.hid hc7
            have HB7 := Lib.hid (HB6.out.trans (grown_below hg7 (Nat.le_refl _) HB6.out.size))
            have HR7 := Lib.hid (HR6.out.of_block (hg7.block _ HR6.out.lt (by intro x; injection x with x; exact NB.out x)))
            have OK7 : Hid (Clk.Ok (Clk.pass s6 p) (16000 * ((k + 1 : Nat) : Int))) := (OK6.out.pass p hp1 hp2 (by omega)).mono (by omega)
            have D7 : Hid (A < k + 1 → Clk.DR (Clk.pass s6 p) y5 z5) := fun h => (D6.out (by omega)).pass p hp1 (fun j => (OK6.out.mv p j).1)
            have N7 : Hid ((Clk.pass s6 p).n = 3) := N6.out
            clear hg hr7 hc7 hg7 m1
            go_wp2_with fail
            exact ⟨⟨k + 1, Clk.pass s6 p, y5, z5, by omega, by go_num, rfl, HC7.out, HR7.out, OK7.out, N7.out, Y5.out, Z5, D7.out, HB7.out⟩, rounds k _ hlt⟩
      · obtain rfl : k = B := by omega
        by_cases hAk : A = k
        · subst hAk
          go_wp2_with fail
          refine (awake_ok _).mono ?_
          rintro e w4 ⟨rfl, hb4⟩
          go_wp2_with fail
          go_ret
          exact ⟨rfl, HB.out.trans (hb4.mono HB.out.size)⟩
        · have e1 : ((A : Int) == (k : Int)) = false := by simp; omega
          have DK := Lib.hid (HD.out (by omega))
          have RF := Lib.hid (Ref_any wr _ s HC.out)
          have WF := Lib.hid (Worst_any wr _ s HC.out)
          have NW : Hid (∀ (t : Nat) w', t < 3 → HasC w' w.heap.size s → Calls Try.prog 19 #[pt w.heap.size, .int .i64 (t : Int)] w' fun e w'' => e = .returned (.int .i64 (s.shown t)) ∧ w' = w'') := fun t w' ht h => by
            have := Now_any w' _ s (t : Int) h OK.out.n
            unfold Clk.nowI at this
            rwa [HN.out, if_pos (by omega), Int.toNat_natCast] at this
          have SH : Hid (∀ t, 0 ≤ s.shown t ∧ s.shown t ≤ 16000 * k) := OK.out.shown
          have UP : Hid (∀ t, t < 3 → y t ≤ s.shown t) := fun t ht => DK.out.up t (by rw [HN.out]; exact ht)
          have rr := OK.out.ref
          have rz := DK.out.rf
          have ww := OK.out.worst
          have WI : Hid (∀ t, t < 3 → s.worst ≤ 1000 → ∀ w', Calls Try.prog 22 #[.int .i64 (s.ref - z), .int .i64 (s.shown t - y t), .int .i64 s.worst] w' fun e w'' => e = .returned (.bool true) ∧ w' = w'') := fun t ht hw w' => by
            have h1 := Within_any (s.ref - z) (s.shown t - y t) s.worst w'
            have h2 := DK.out.off hw t (by rw [HN.out]; exact ht)
            have h3 := SH.out t
            have h4 := HY.out t
            have h5 := UP.out t ht
            unfold withinF at h1
            rwa [if_neg (by omega), decide_eq_true h2] at h1
          clear DK HD
          generalize s.ref = R at *
          generalize s.worst = W at *
          go_wp2_with fail
          refine RF.out.mono ?_
          rintro e w' ⟨rfl, rfl⟩
          go_wp2_with fail
          refine WF.out.mono ?_
          rintro e w' ⟨rfl, rfl⟩
          clear RF WF
          go_wp2_with fail
          go_loopw [17] (fun j wx => ∃ t : Nat, t ≤ 3 ∧ j = .int .i64 t ∧ HasC wx w.heap.size s ∧ wx.rowIs bw 46 3 (fun j => .int .i64 (y j)) ∧ Below w.heap.size w wx) (fun j _ => 3 - (intOf j).toNat)
          case atStart => exact ⟨0, by omega, rfl, HC.out, HR.out, HB.out⟩
          case round =>
            obtain ⟨t, ht, rfl, hc, hr, hb⟩ := hrel
            have HC' := Lib.hid hc
            have HR' := Lib.hid hr
            have HB' := Lib.hid hb
            clear hc hr hb HC HR HB
            by_cases htl : t < 3
            · have NT : Hid (∀ n, Calls Try.prog 19 #[pt w.heap.size, .int .i64 (t : Int)] (wr.drewN n) fun e w'' => e = .returned (.int .i64 (s.shown t)) ∧ wr.drewN n = w'') := fun n => NW.out t _ htl (HC'.out.later rfl)
              have WT := Lib.hid (WI.out t htl)
              have cy := HR'.out.cell htl
              have s1 := SH.out t
              have s2 := UP.out t htl
              have s3 := HY.out t
              have e2 : decide (s.shown t < y t) = false := decide_eq_false (by omega)
              generalize s.shown t = st at *
              generalize y t = yt at *
              by_cases hW : W ≤ 1000
              · have e3 : decide (W ≤ 1000) = true := decide_eq_true hW
                have WT' := Lib.hid (WT.out hW)
                go_wp2_with fail
                go_quiet (first
                  | (go_at_call 19; exact quiet_eq (NT.out _))
                  | (go_at_call 22; exact quiet_eq (WT'.out _)))
                set_option maxRecDepth 8000 in
                go_wp2_with fail
                exact ⟨⟨t + 1, by omega, by go_num, HC'.out.later rfl, HR'.out.of_block rfl, below_drewN HB'.out nq⟩, rounds t _ htl⟩
              · have e3 : decide (W ≤ 1000) = false := decide_eq_false hW
                go_wp2_with fail
                go_quiet (first
                  | (go_at_call 19; exact quiet_eq (NT.out _)))
                set_option maxRecDepth 8000 in
                go_wp2_with fail
                exact ⟨⟨t + 1, by omega, by go_num, HC'.out.later rfl, HR'.out.of_block rfl, below_drewN HB'.out nq⟩, rounds t _ htl⟩
            · go_wp2_with fail
              refine (awake_ok _).mono ?_
              rintro e w4 ⟨rfl, hb4⟩
              go_wp2_with fail
              go_ret
              exact ⟨rfl, HB'.out.trans (hb4.mono HB'.out.size)⟩

/-! ### THE ROW's STEP: WRITTEN OUT: LEAVE IT -/
set_option maxRecDepth 100000 in
theorem lifted (os : Os) (started : os.Started) (H : Type) (enc : TypeId × Value → H) :
    ReturnsInHanded {} Try.checked os 4 .any (Rows.clockDriftSpec.pre6 enc Try.prog Try.f4 Rows.clockDriftRow.domain false) (Rows.clockDriftSpec.post enc Try.prog Try.f4 false true false false) := by
  refine returnsInHanded_of_change (C := Try.checked) own started (by kernel_rfl) Try.func4
    (ChangeSpec.witness6 (enc := enc) (C := Try.checked) false ⟨#[], #[.slice none 0 0, .slice none 0 0, .int .u8 0, .int .u8 0], []⟩ 8 (by kernel_rfl) (by kernel_rfl) (by kernel_rfl) (by kernel_rfl)) ?_
  intro W base args ds gs before hval0 hW hcnd _
  have hval : ∀ (j : Nat) t v, Try.f4.params[j]? = some t → args[j]? = some v → Value.okWide Try.prog W .any base t v := hval0
  have hW' := hW
  obtain ⟨p, q, hA0, hV, rfl, hfz, hnd⟩ := hW
  have hA : DataW.TrodAll enc Try.prog W 0 (fun _ => true) true Try.f4.params.toList args.toList ds p := hA0
  rw [Try.params4] at hA hval
  obtain ⟨v0, vs0, d0, ds0, p0, q0, hargs, rfl, rfl, h0, r0⟩ := trodAll_cons hA
  obtain ⟨v1, vs1, d1, ds1, p1, q1, rfl, rfl, rfl, h1, r1⟩ := trodAll_cons r0
  obtain ⟨v2, vs2, d2, ds2, p2, q2, rfl, rfl, rfl, h2, r2⟩ := trodAll_cons r1
  obtain ⟨v3, vs3, d3, ds3, p3, q3, rfl, rfl, rfl, h3, r3⟩ := trodAll_cons r2
  obtain ⟨rfl, rfl, rfl⟩ := trodAll_nil r3
  obtain rfl : args = #[v0, v1, v2, v3] := by cases args; simp_all
  obtain ⟨rfl, rfl⟩ := trodVars_none hV
  obtain ⟨a0, len0, cap0, rfl⟩ := okWide_slice Try.underlying45 (hval 0 45 v0 rfl rfl)
  have k0 := h0
  have lt0 : ∀ x ∈ p0, x.block < W.heap.size := by obtain ⟨m, hm⟩ := k0; exact DataW.trod_lt m _ _ _ hm
  obtain ⟨z0, w0⟩ : ∃ zs, IsRow .u16 W a0 len0 cap0 zs := by
    obtain ⟨fuel, hf⟩ := h0
    rcases open_ints Try.underlying45 Try.underlying47 (by kernel_rfl) hf with ⟨hcs, _⟩ | ⟨x, l, c, zs, hcs, _, hl, hm, hz, _, hcell, hwz⟩
    · simp [Value.cells] at hcs
      obtain ⟨rfl, rfl, rfl⟩ := hcs
      exact ⟨[], .inl ⟨rfl, rfl, rfl, rfl⟩⟩
    · simp [Value.cells] at hcs
      obtain ⟨rfl, rfl, rfl⟩ := hcs
      exact ⟨zs, .inr ⟨_, rfl, hl, hm, by simpa using hz, hcell, hwz⟩⟩
  obtain ⟨a1, len1, cap1, rfl⟩ := okWide_slice Try.underlying45 (hval 1 45 v1 rfl rfl)
  have k1 := h1
  have lt1 : ∀ x ∈ p1, x.block < W.heap.size := by obtain ⟨m, hm⟩ := k1; exact DataW.trod_lt m _ _ _ hm
  obtain ⟨z1, w1⟩ : ∃ zs, IsRow .u16 W a1 len1 cap1 zs := by
    obtain ⟨fuel, hf⟩ := h1
    rcases open_ints Try.underlying45 Try.underlying47 (by kernel_rfl) hf with ⟨hcs, _⟩ | ⟨x, l, c, zs, hcs, _, hl, hm, hz, _, hcell, hwz⟩
    · simp [Value.cells] at hcs
      obtain ⟨rfl, rfl, rfl⟩ := hcs
      exact ⟨[], .inl ⟨rfl, rfl, rfl, rfl⟩⟩
    · simp [Value.cells] at hcs
      obtain ⟨rfl, rfl, rfl⟩ := hcs
      exact ⟨zs, .inr ⟨_, rfl, hl, hm, by simpa using hz, hcell, hwz⟩⟩
  obtain ⟨a2, rfl, rfl, rfl, w2⟩ := open_int Try.underlying5 (hval 2 5 v2 rfl rfl) h2
  obtain ⟨a3, rfl, rfl, rfl, w3⟩ := open_int Try.underlying5 (hval 3 5 v3 rfl rfl) h3
  clear hA0 hval0
  refine (walk a0 len0 cap0 z0 a1 len1 cap1 z1 a2 a3 W w0 w1 w2 w3).mono fun e W' ⟨he, bel⟩ => ?_
  subst he
  exact ⟨_, rfl, _, _, _, [], _, [], hW', trodAll_mk1 (shut_bool Try.underlying4 _), (trodAll_cons_mk (Below.trod laidOut (by kernel_rfl) (of_decide_eq_true (by kernel_rfl)) k0 bel lt0) (trodAll_cons_mk (Below.trod laidOut (by kernel_rfl) (of_decide_eq_true (by kernel_rfl)) k1 bel lt1) (trodAll_cons_mk (shut_int Try.underlying5 w2) (trodAll_cons_mk (shut_int Try.underlying5 w3) trodAll_mk0)))), rfl, bel.frame _, fun h => by cases h⟩

theorem over : Rows.clockDriftRow.holds Try.pinned (OpenSpec.ofChange Rows.clockDriftSpec) :=
  OpenClaim.holds_of_wide 4 Try.f4 rfl rfl rfl rfl rfl rfl rfl ⟨rfl, rfl, rfl, rfl, rfl⟩ rfl rfl rfl rfl rfl (by kernel_rfl) Try.func4 (by kernel_rfl)
    (of_decide_eq_true (by kernel_rfl)) (by unfold Func.isWrapper; first | (rw [if_pos (by decide +kernel)]; kernel_rfl) | (rw [if_neg (by decide +kernel)]; exact ⟨rfl, rfl⟩))
    (fun os started H enc _ => lifted os started H enc)

/-- THE STATEMENT -/
theorem proved : Rows.ClockDriftSaid := over
end Go.Proofs.Ythpfkbdbioabaaa.clockDrift
