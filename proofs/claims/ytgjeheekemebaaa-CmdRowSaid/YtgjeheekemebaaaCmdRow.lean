/- PROVED: the statement CmdRow of layer 4: for every input that can be read, the law returns true and leaves its arguments as they were. No condition. -/
import Derived.Test.YtgjeheekemebaaaRows
import Derived.Test.YtgjeheekemebaaaFRow
import Derived.WalkKit
import Derived.ProofKit
import Derived.OpenShut
import Derived.ShutString
import Derived.ChangeOld
import Derived.Below
import Derived.Deep.Cut
import Derived.Deep.CutBlock
import Derived.Deep.DeepCutAuto
namespace Go.Proofs.Ytgjeheekemebaaa.cmdRow
open Go.ChangeShapes Go.WideShapes Go.ChangeAt Go.RowKit
open Go.ChangeMaps (open_string shut_string)
open Go.Sort (grow)
set_option linter.unusedVariables false

theorem own : ownKnob Try.prog.godebug = none := by kernel_rfl
theorem laidOut : laidOutB Try.prog = true := by kernel_rfl

/-! ### STEP 1: THE WALK -/
set_option maxRecDepth 100000 in
set_option maxHeartbeats 4000000 in
theorem walk (a0 : Option Addr) (len0 cap0 : Nat) (z0 : List Int) (w : World) (w0 : IsRow .u8 w a0 len0 cap0 z0) :
    Calls Try.prog 8 #[.slice a0 len0 cap0] w fun e w' => e = .returned (.bool true) ∧ Below w.heap.size w w' := by
  obtain ⟨hr, hrl⟩ := w0.rd
  generalize bytesOf z0 len0 = A at hr hrl
  clear w0
  have C0 := Lib.hid (fun w => Cm.awake_ok w)
  have hmx := Cm.Rd.len_le hr
  unfold maxLen at hmx
  obtain ⟨i0, hi, hz0, hz1, hz2⟩ := info_parts info8
  obtain ⟨i5, hi5, h50, h51, h52⟩ := info_parts Cm.info35
  have CR := Lib.hid (fun t w => Cm.Req_any _ _ _ _ _ w (Cm.bAt_lt A (t * 5)) (Cm.bAt_lt A (t * 5 + 1)) (Cm.bAt_lt A (t * 5 + 2)) (Cm.bAt_lt A (t * 5 + 3)) (Cm.bAt_lt A (t * 5 + 4)))
  have CP := Lib.hid (fun t w => Cm.PutReq_row (Cm.reqAt A t) (Cm.reqAt_may A t) w)
  have HR := Lib.hid hr
  have HF := Lib.hid (Cm.row_cell hr)
  clear hr
  go_enter Try.func8, Try.ntmps8
  go_wp2_with fail
  go_loopw [3, 4, 5] (fun l b i wr => ∃ j : Nat, j ≤ 20 ∧ i = .int .i64 ((j * 5 : Nat) : Int) ∧ wr.ownsRow w.heap.size 35 5 l j (Cm.rowCells A j) ∧ wr.ownsRow w.heap.size 5 1 b (Cm.rowBytes A j).length (cellsOf (Cm.rowBytes A j)) ∧ Rw.Apart l b ∧ Below w.heap.size w wr) (fun _ _ i _ => 105 - (intOf i).toNat)
  case atStart => exact ⟨0, by omega, rfl, World.ownsRow_nil _ _ _ _, World.ownsRow_nil _ _ _ _, Rw.Apart.nil _, Below.refl _ _⟩
  case round =>
    obtain ⟨j, hj, rfl, hol, hob, hap, hbw⟩ := hrel
    obtain ⟨la, lc, rfl⟩ := Rw.own_form hol
    obtain ⟨ba, bc, rfl⟩ := Rw.own_form hob
    have HOL := Lib.hid hol
    have HOB := Lib.hid hob
    have HAP := Lib.hid hap
    have HBW := Lib.hid hbw
    clear hol hob hap hbw
    by_cases c1 : j * 5 + 4 < len0
    · have d1 : decide (((j * 5 : Nat) : Int) + 4 < (len0 : Int)) = true := by simp; omega
      by_cases c2 : j < 20
      · have d2 : decide ((j : Int) < 20) = true := by simp; omega
        obtain ⟨gb, go, rfl, q0, q1, q2, q3, q4⟩ := HF.out j (by omega) wr HBW.out
        have CRj : Hid (∀ w, Calls Try.prog 24 #[.int .u8 (Cm.bAt A (j * 5) : Int), .int .u8 (Cm.bAt A (j * 5 + 1) : Int), .int .u8 (Cm.bAt A (j * 5 + 2) : Int), .int .u8 (Cm.bAt A (j * 5 + 3) : Int), .int .u8 (Cm.bAt A (j * 5 + 4) : Int)] w fun e w' => e = .returned (Cm.reqVal (Cm.reqAt A j)) ∧ Below w.heap.size w w') := fun w => CR.out j w
        have CPj := Lib.hid (CP.out j)
        have hL0 : 0 < (Cm.bytesR (Cm.reqAt A j)).length := by rw [Cm.bytesR_length]; omega
        have hL1 : (Cm.bytesR (Cm.reqAt A j)).length ≤ 31 := by have := Cm.rowBytes_le A 1; have h := (Cm.may_bounds _ (Cm.mayR_bounds _ (Cm.reqAt_may A j)).2.2).2.2; rw [Cm.bytesR_length]; omega
        have hSB : Cm.rowBytes A (j + 1) = Cm.rowBytes A j ++ Cm.bytesR (Cm.reqAt A j) := rfl
        have hSC : Cm.rowCells A (j + 1) = Cm.rowCells A j ++ Cm.reqCells (Cm.reqAt A j) := rfl
        have hlb := Cm.rowBytes_le A j
        generalize Cm.reqAt A j = R at CRj CPj hL0 hL1 hSB hSC
        generalize Cm.bytesR R = P at CPj hL0 hL1 hSB
        generalize hL : P.length = L at CPj hL0 hL1
        have hI0 : (0 : Int) ≤ ((j * 5 : Nat) : Int) := by omega
        generalize Cm.bAt A (j * 5) = b0 at *
        generalize Cm.bAt A (j * 5 + 1) = b1 at *
        generalize Cm.bAt A (j * 5 + 2) = b2 at *
        generalize Cm.bAt A (j * 5 + 3) = b3 at *
        generalize Cm.bAt A (j * 5 + 4) = b4 at *
        have HSB := Lib.hid hSB
        have HSC := Lib.hid hSC
        have HPL := Lib.hid hL
        clear hSB hSC hL
        obtain ⟨rc, rq, rk, rs, rn⟩ := R
        unfold Cm.reqVal at CRj CPj
        dsimp only at CRj CPj
        unfold Cm.reqCells at HSC
        dsimp only at HSC
        have hI1 : ((j * 5 : Nat) : Int) + 4 < (len0 : Int) := by omega
        generalize hI : j * 5 = I at *
        have u0 : (I : Int) < (len0 : Int) := by omega
        have u1 : (I : Int) + 1 < (len0 : Int) := by omega
        have u2 : (I : Int) + 2 < (len0 : Int) := by omega
        have u3 : (I : Int) + 3 < (len0 : Int) := by omega
        have e1 : IntKind.i64.wrap ((I : Int) + 1) = (I : Int) + 1 := by rw [IntKind.wrap_i64]; omega
        have e2 : IntKind.i64.wrap ((I : Int) + 2) = (I : Int) + 2 := by rw [IntKind.wrap_i64]; omega
        have e3 : IntKind.i64.wrap ((I : Int) + 3) = (I : Int) + 3 := by rw [IntKind.wrap_i64]; omega
        have e4 : IntKind.i64.wrap ((I : Int) + 4) = (I : Int) + 4 := by rw [IntKind.wrap_i64]; omega
        have p1 : (0 : Int) ≤ (I : Int) + 1 := by omega
        have p2 : (0 : Int) ≤ (I : Int) + 2 := by omega
        have p3 : (0 : Int) ≤ (I : Int) + 3 := by omega
        have p4 : (0 : Int) ≤ (I : Int) + 4 := by omega
        have t1 : ((I : Int) + 1).toNat = I + 1 := by omega
        have t2 : ((I : Int) + 2).toNat = I + 2 := by omega
        have t3 : ((I : Int) + 3).toNat = I + 3 := by omega
        have t4 : ((I : Int) + 4).toNat = I + 4 := by omega
        have HQ : Hid (∀ w', Below wr.heap.size wr w' → w'.cell? ⟨gb, go + I, none⟩ = some (.int .u8 (b0 : Int)) ∧ w'.cell? ⟨gb, go + (I + 1), none⟩ = some (.int .u8 (b1 : Int)) ∧ w'.cell? ⟨gb, go + (I + 2), none⟩ = some (.int .u8 (b2 : Int)) ∧ w'.cell? ⟨gb, go + (I + 3), none⟩ = some (.int .u8 (b3 : Int)) ∧ w'.cell? ⟨gb, go + (I + 4), none⟩ = some (.int .u8 (b4 : Int))) := fun w' hb =>
          ⟨(hb.cell (lt_of_cell q0)).trans q0, (hb.cell (lt_of_cell q1)).trans q1, (hb.cell (lt_of_cell q2)).trans q2, (hb.cell (lt_of_cell q3)).trans q3, (hb.cell (lt_of_cell q4)).trans q4⟩
        have CRz := Lib.hid ((CRj.out (wr.alloc (.cells #[.int .i64 0, .int .i64 0, .int .i64 0, .int .i64 0, .string ⟨#[]⟩] 35)).drew).mono fun e w' h => And.intro h.1 (And.intro h.2 (Cm.box5d h.2)))
        go_upto_region 6 with fail
        go_cut [6] from 17 to 67 (fun s6 wc => ∃ g, s6 = .pointer (some ⟨g, 0, none⟩) ∧ wr.heap.size ≤ g ∧ (wc.cell? ⟨g, 0, none⟩ = some (.int .i64 rc) ∧ wc.cell? ⟨g, 1, none⟩ = some (.int .i64 rq) ∧ wc.cell? ⟨g, 2, none⟩ = some (.int .i64 rk) ∧ wc.cell? ⟨g, 3, none⟩ = some (.int .i64 rs) ∧ wc.cell? ⟨g, 4, none⟩ = some (.string (bstr rn))) ∧ Below wr.heap.size wr wc)
        case first =>
          go_region_held3 (fun w' => w'.cell? ⟨gb, go + I, none⟩ = some (.int .u8 (b0 : Int)) ∧ w'.cell? ⟨gb, go + (I + 1), none⟩ = some (.int .u8 (b1 : Int)) ∧ w'.cell? ⟨gb, go + (I + 2), none⟩ = some (.int .u8 (b2 : Int)) ∧ w'.cell? ⟨gb, go + (I + 3), none⟩ = some (.int .u8 (b3 : Int)) ∧ w'.cell? ⟨gb, go + (I + 4), none⟩ = some (.int .u8 (b4 : Int)))
            (first | exact HQ.out _ (step (Below.refl _ wr).drew hb2) | exact HQ.out _ (stepAlloc (step (Below.refl _ wr).drew hb2) _) | exact HQ.out _ (step ((newAlloc wr _).drew) hb2) | exact HQ.out _ ((newAlloc wr _).drew) | exact HQ.out _ (Cm.set5 (step ((newAlloc wr _).drew) hb2) _ _ _ _ _) | go_keep)
            (first
              | (go_at_call 24; refine CRz.out.mono ?_; rintro e w2 ⟨rfl, hb2, ⟨z0, z1, z2, z3, z4⟩, zf⟩)
              | (go_at_call 24; refine (CRj.out _).mono ?_; rintro e w2 ⟨rfl, hb2⟩))
          all_goals
            go_wp2_with fail
            go_meet
          case rel => exact ⟨w2.heap.size, rfl, (step (Below.refl _ wr).drew hb2).size, Cm.box5 (Below.refl _ _), stepAlloc (step (Below.refl _ wr).drew hb2) _⟩
          case rel => exact ⟨wr.heap.size, rfl, Nat.le_refl _, by simp [go_sem, z0, z1, z2, z3, z4], Cm.set5 (step ((newAlloc wr _).drew) hb2) _ _ _ _ _⟩
        case rest =>
          obtain ⟨sg, rfl, hsg, hs5, hbc⟩ := hcut
          have HS5 := Lib.hid hs5
          have HBC := Lib.hid hbc
          have HOL2 := Lib.hid (Rw.own_below HOL.out hbc)
          have HOB2 := Lib.hid (Rw.own_below HOB.out hbc)
          obtain ⟨s0, s1, s2, s3, s4⟩ := hs5
          have hlb' := hlb
          clear hbc u0 u1 u2 u3 e1 e2 e3 e4 p1 p2 p3 p4 t1 t2 t3 t4 q0 q1 q2 q3 q4 CRj CRz HQ d1 d2
          go_wp2_with (first
            | (go_at_call 18; refine (CPj.out _).mono ?_; rintro e w3 ⟨pg, pc, rfl, ⟨_, _, ho3⟩, hr3, hb3⟩; have hpg := (ho3.lt pg rfl).1; have hpl := (ho3.lt pg rfl).2; have hne := Rw.own_ne HOL2.out hpg; obtain ⟨x0, x1, x2, x3, x4⟩ := Cm.cells5_later hb3 HS5.out; have HOL3 := Lib.hid (Rw.own_below HOL2.out hb3); have HOB3 := Lib.hid (Rw.own_below HOB2.out hb3); have HR3 := Lib.hid hr3; have HB3 := Lib.hid (step (step HBW.out HBC.out) hb3); have hz3 := HB3.out.size; clear hr3 hb3 ho3)
            | (at_builtin; refine wpList_append_own_at (w3.alloc (.cells #[.int .i64 rc, .int .i64 rq, .int .i64 rk, .int .i64 rs, .string (bstr rn)] 35)) rfl (.tmp 61) (.tmp 63) 46 rfl w.heap.size 35 i5 _ 5 48 Try.underlying46 hi5 h50 h51 h52 rfl (by omega) _ j _ rfl (Rw.own_alloc HOL3.out _) ⟨w3.heap.size, 0, none⟩ 1 1 [.int .i64 rc, .int .i64 rq, .int .i64 rk, .int .i64 rs, .string (bstr rn)] rfl rfl (World.news_of_block (cs := #[.int .i64 rc, .int .i64 rq, .int .i64 rk, .int .i64 rs, .string (bstr rn)]) (t := 35) (fr := (0, 0)) (by show (w3.heap.push _)[w3.heap.size]? = _; simp)) (by simp [Value.oneCell']) (by unfold maxLen; omega) (by omega) (by simp; omega) ?_; intro v4 w4 hown4 hgrow4 _ hat4; have HOL4 := Lib.hid hown4; have HAP4 := Lib.hid (Rw.apart_grown (Rw.own_alloc HOB3.out _) HAP.out hat4); have HOB4 := Lib.hid (Rw.own_other (Rw.own_alloc HOB3.out _) hgrow4 HAP.out); have HB4 := Lib.hid (Rw.below_grown (stepAlloc HB3.out _) (Rw.own_alloc HOL3.out _) hgrow4 (Nat.le_refl _) (by simp; omega)); have HR4 := Lib.hid (Rw.rd_other (HR3.out.later (newAlloc w3 _)) (by simp; omega) hgrow4 hne);  have hz4 := HB4.out.size; clear hown4 hgrow4 hat4)
            | (at_builtin; refine Rw.wpList_append_rd_at rfl (.tmp 65) (.tmp 66) 24 rfl w.heap.size 5 i0 Try.underlying24 hi hz0 hz1 hz2 _ _ _ rfl HOB4.out _ P rfl HR4.out (by rw [HPL.out]; omega) hz4 ?_; intro v5 w5 hown5 hgrow5 hat5; have HOB5 := Lib.hid hown5; have HAP5 := Lib.hid (Rw.apart_grown HOL4.out HAP4.out.symm hat5).symm; have HOL5 := Lib.hid (Rw.own_other HOL4.out hgrow5 HAP4.out.symm); have HB5 := Lib.hid (Rw.below_grown HB4.out HOB4.out hgrow5 (Nat.le_refl _) hz4); clear hown5 hgrow5 hat5))
          go_roundw
          case rel => exact ⟨j + 1, by omega, by rw [show (j + 1) * 5 = I + 5 by omega]; go_num, by rw [HSC.out]; exact HOL5.out, by rw [HSB.out, List.length_append, cellsOf_append]; exact HOB5.out, HAP5.out, HB5.out⟩
          case measure => simp [intOf]; omega
      · have d2 : decide ((j : Int) < 20) = false := by simp; omega
        have HRB : Hid (Rd wr (.slice ba (Cm.rowBytes A j).length bc) (Cm.rowBytes A j)) := Rd.own HOB.out
        have HLD := Lib.hid (Cm.row_load HOL.out)
        have HG : Hid (∀ t, t < j → ∀ w1, Below wr.heap.size wr w1 → Calls Try.prog 20 #[.slice ba (Cm.rowBytes A j).length bc, .int .i64 ((Cm.rowBytes A t).length : Int)] w1 (Cm.GetsR (Cm.reqAt A t, ((Cm.rowBytes A (t + 1)).length : Int), 0) w1)) := fun t ht w1 hb => by
          have hle := Cm.rowBytes_le A t
          have := Cm.GetReq_any _ _ ((Cm.rowBytes A t).length : Int) w1 (HRB.out.later hb) (by omega)
          rwa [Cm.getR_row A j t ht] at this
        have HE : Hid (∀ w1, Below wr.heap.size wr w1 → Calls Try.prog 20 #[.slice ba (Cm.rowBytes A j).length bc, .int .i64 ((Cm.rowBytes A j).length : Int)] w1 (Cm.GetsR (Cm.zeroR, 0, 2) w1)) := fun w1 hb => by
          have hle := Cm.rowBytes_le A j
          have := Cm.GetReq_any _ _ ((Cm.rowBytes A j).length : Int) w1 (HRB.out.later hb) (by omega)
          rwa [Cm.getR_row_end A j] at this
        unfold Cm.GetsR Cm.reqVal at HG HE
        simp only [Cm.zeroR, Cm.zero] at HE
        dsimp only at HG
        clear CR CP HR HF HOL HOB HAP
        go_wp2_with fail
        go_loopw [9, 10] (fun x i w1 => ∃ t : Nat, t ≤ j ∧ i = .int .i64 (t : Int) ∧ x = .int .i64 ((Cm.rowBytes A t).length : Int) ∧ Below wr.heap.size wr w1) (fun _ i _ => j - (intOf i).toNat)
        case atStart => exact ⟨0, by omega, rfl, rfl, Below.refl _ _⟩
        case round =>
          obtain ⟨t, ht, rfl, rfl, hb1⟩ := hrel
          have HB1 := Lib.hid hb1
          clear hb1
          by_cases hlt : t < j
          · have HGt := Lib.hid (HG.out t hlt)
            have hless := Cm.rowBytes_less A t
            have hle := Cm.rowBytes_le A (t + 1)
            have HLt := Lib.hid (HLD.out t hlt)
            generalize (Cm.rowBytes A t).length = M at hless HGt ⊢
            generalize hM2 : (Cm.rowBytes A (t + 1)).length = M2 at hless hle HGt
            generalize Cm.reqAt A t = R at HGt HLt
            obtain ⟨rc, rq, rk, rs, rn⟩ := R
            dsimp only at HGt HLt
            have dle : decide ((M2 : Int) ≤ (M : Int)) = false := by simp; omega
            have ht0 : (0 : Int) ≤ (t : Int) := by omega
            have ht1 : (t : Int) < (j : Int) := by omega
            have HM2 := Lib.hid hM2
            clear hM2
            go_upto_region 17 with (go_at_call 20; refine (HGt.out _ HB1.out).mono ?_; rintro e w2 ⟨rfl, hb2⟩; have HB2 := Lib.hid (stepAlloc (step HB1.out hb2) (.cells #[.int .i64 rc, .int .i64 rq, .int .i64 rk, .int .i64 rs, .string (bstr rn)] 35)); obtain ⟨lg, rfl, y0, y1, y2, y3, y4⟩ := HLt.out _ HB2.out; obtain ⟨x0, x1, x2, x3, x4⟩ := Cm.box5 (Below.refl _ (w2.alloc (.cells #[.int .i64 rc, .int .i64 rq, .int .i64 rk, .int .i64 rs, .string (bstr rn)] 35))); clear hb2)
            go_quiet (fail)
            go_wp2
            go_roundw
            case rel => exact ⟨t + 1, by omega, by go_num, by rw [HM2.out], below_drewN HB2.out nq⟩
            case measure => simp [intOf]; omega
          · obtain rfl : t = j := by omega
            go_wp2_with (first
              | (go_at_call 20; refine (HE.out _ HB1.out).mono ?_; rintro e w2 ⟨rfl, hb2⟩; have HB2 := Lib.hid (stepAlloc (step HB1.out hb2) (.cells #[.int .i64 0, .int .i64 0, .int .i64 0, .int .i64 0, .string (bstr [])] 35)))
              | (go_at_call 9; refine (C0.out _).mono ?_; rintro e w3 ⟨rfl, hb3⟩))
            go_ret
            exact ⟨rfl, step (step HBW.out HB2.out) hb3⟩
    · have d1 : decide (((j * 5 : Nat) : Int) + 4 < (len0 : Int)) = false := by simp; omega
      have HRB : Hid (Rd wr (.slice ba (Cm.rowBytes A j).length bc) (Cm.rowBytes A j)) := Rd.own HOB.out
      have HLD := Lib.hid (Cm.row_load HOL.out)
      have HG : Hid (∀ t, t < j → ∀ w1, Below wr.heap.size wr w1 → Calls Try.prog 20 #[.slice ba (Cm.rowBytes A j).length bc, .int .i64 ((Cm.rowBytes A t).length : Int)] w1 (Cm.GetsR (Cm.reqAt A t, ((Cm.rowBytes A (t + 1)).length : Int), 0) w1)) := fun t ht w1 hb => by
        have hle := Cm.rowBytes_le A t
        have := Cm.GetReq_any _ _ ((Cm.rowBytes A t).length : Int) w1 (HRB.out.later hb) (by omega)
        rwa [Cm.getR_row A j t ht] at this
      have HE : Hid (∀ w1, Below wr.heap.size wr w1 → Calls Try.prog 20 #[.slice ba (Cm.rowBytes A j).length bc, .int .i64 ((Cm.rowBytes A j).length : Int)] w1 (Cm.GetsR (Cm.zeroR, 0, 2) w1)) := fun w1 hb => by
        have hle := Cm.rowBytes_le A j
        have := Cm.GetReq_any _ _ ((Cm.rowBytes A j).length : Int) w1 (HRB.out.later hb) (by omega)
        rwa [Cm.getR_row_end A j] at this
      unfold Cm.GetsR Cm.reqVal at HG HE
      simp only [Cm.zeroR, Cm.zero] at HE
      dsimp only at HG
      clear CR CP HR HF HOL HOB HAP
      go_wp2_with fail
      go_loopw [9, 10] (fun x i w1 => ∃ t : Nat, t ≤ j ∧ i = .int .i64 (t : Int) ∧ x = .int .i64 ((Cm.rowBytes A t).length : Int) ∧ Below wr.heap.size wr w1) (fun _ i _ => j - (intOf i).toNat)
      case atStart => exact ⟨0, by omega, rfl, rfl, Below.refl _ _⟩
      case round =>
        obtain ⟨t, ht, rfl, rfl, hb1⟩ := hrel
        have HB1 := Lib.hid hb1
        clear hb1
        by_cases hlt : t < j
        · have HGt := Lib.hid (HG.out t hlt)
          have hless := Cm.rowBytes_less A t
          have hle := Cm.rowBytes_le A (t + 1)
          have HLt := Lib.hid (HLD.out t hlt)
          generalize (Cm.rowBytes A t).length = M at hless HGt ⊢
          generalize hM2 : (Cm.rowBytes A (t + 1)).length = M2 at hless hle HGt
          generalize Cm.reqAt A t = R at HGt HLt
          obtain ⟨rc, rq, rk, rs, rn⟩ := R
          dsimp only at HGt HLt
          have dle : decide ((M2 : Int) ≤ (M : Int)) = false := by simp; omega
          have ht0 : (0 : Int) ≤ (t : Int) := by omega
          have ht1 : (t : Int) < (j : Int) := by omega
          have HM2 := Lib.hid hM2
          clear hM2
          go_upto_region 17 with (go_at_call 20; refine (HGt.out _ HB1.out).mono ?_; rintro e w2 ⟨rfl, hb2⟩; have HB2 := Lib.hid (stepAlloc (step HB1.out hb2) (.cells #[.int .i64 rc, .int .i64 rq, .int .i64 rk, .int .i64 rs, .string (bstr rn)] 35)); obtain ⟨lg, rfl, y0, y1, y2, y3, y4⟩ := HLt.out _ HB2.out; obtain ⟨x0, x1, x2, x3, x4⟩ := Cm.box5 (Below.refl _ (w2.alloc (.cells #[.int .i64 rc, .int .i64 rq, .int .i64 rk, .int .i64 rs, .string (bstr rn)] 35))); clear hb2)
          go_quiet (fail)
          go_wp2
          go_roundw
          case rel => exact ⟨t + 1, by omega, by go_num, by rw [HM2.out], below_drewN HB2.out nq⟩
          case measure => simp [intOf]; omega
        · obtain rfl : t = j := by omega
          go_wp2_with (first
            | (go_at_call 20; refine (HE.out _ HB1.out).mono ?_; rintro e w2 ⟨rfl, hb2⟩; have HB2 := Lib.hid (stepAlloc (step HB1.out hb2) (.cells #[.int .i64 0, .int .i64 0, .int .i64 0, .int .i64 0, .string (bstr [])] 35)))
            | (go_at_call 9; refine (C0.out _).mono ?_; rintro e w3 ⟨rfl, hb3⟩))
          go_ret
          exact ⟨rfl, step (step HBW.out HB2.out) hb3⟩

/-! ### THE ROW's STEP -/
set_option maxRecDepth 100000 in
theorem lifted (os : Os) (started : os.Started) (H : Type) (enc : TypeId × Value → H) :
    ReturnsInHanded {} Try.checked os 8 .any (Rows.cmdRowSpec.pre6 enc Try.prog Try.f8 Rows.cmdRowRow.domain false) (Rows.cmdRowSpec.post enc Try.prog Try.f8 false true false false) := by
  refine returnsInHanded_of_change (C := Try.checked) own started (by kernel_rfl) Try.func8
    (ChangeSpec.witness6 (enc := enc) (C := Try.checked) false ⟨#[], #[.slice none 0 0], []⟩ 8 (by kernel_rfl) (by kernel_rfl) (by kernel_rfl) (by kernel_rfl)) ?_
  intro W base args ds gs before hval0 hW hcnd _
  have hval : ∀ (j : Nat) t v, Try.f8.params[j]? = some t → args[j]? = some v → Value.okWide Try.prog W .any base t v := hval0
  have hW' := hW
  obtain ⟨p, q, hA0, hV, rfl, hfz, hnd⟩ := hW
  have hA : DataW.TrodAll enc Try.prog W 0 (fun _ => true) true Try.f8.params.toList args.toList ds p := hA0
  rw [Try.params8] at hA hval
  obtain ⟨v0, vs0, d0, ds0, p0, q0, hargs, rfl, rfl, h0, r0⟩ := trodAll_cons hA
  obtain ⟨rfl, rfl, rfl⟩ := trodAll_nil r0
  obtain rfl : args = #[v0] := by cases args; simp_all
  obtain ⟨rfl, rfl⟩ := trodVars_none hV
  obtain ⟨a0, len0, cap0, rfl⟩ := okWide_slice Try.underlying24 (hval 0 24 v0 rfl rfl)
  have k0 := h0
  have lt0 : ∀ x ∈ p0, x.block < W.heap.size := by obtain ⟨m, hm⟩ := k0; exact DataW.trod_lt m _ _ _ hm
  obtain ⟨z0, w0⟩ : ∃ zs, IsRow .u8 W a0 len0 cap0 zs := by
    obtain ⟨fuel, hf⟩ := h0
    rcases open_ints Try.underlying24 Try.underlying5 (by kernel_rfl) hf with ⟨hcs, _⟩ | ⟨x, l, c, zs, hcs, _, hl, hm, hz, _, hcell, hwz⟩
    · simp [Value.cells] at hcs
      obtain ⟨rfl, rfl, rfl⟩ := hcs
      exact ⟨[], .inl ⟨rfl, rfl, rfl, rfl⟩⟩
    · simp [Value.cells] at hcs
      obtain ⟨rfl, rfl, rfl⟩ := hcs
      exact ⟨zs, .inr ⟨_, rfl, hl, hm, by simpa using hz, hcell, hwz⟩⟩
  clear hA0 hval0
  refine (walk a0 len0 cap0 z0 W w0).mono fun e W' ⟨he, bel⟩ => ?_
  subst he
  exact ⟨_, rfl, _, _, _, [], _, [], hW', trodAll_mk1 (shut_bool Try.underlying4 _), (trodAll_cons_mk (Below.trod laidOut (by kernel_rfl) (of_decide_eq_true (by kernel_rfl)) k0 bel lt0) trodAll_mk0), rfl, bel.frame _, fun h => by cases h⟩

theorem over : Rows.cmdRowRow.holds Try.pinned (OpenSpec.ofChange Rows.cmdRowSpec) :=
  OpenClaim.holds_of_wide 8 Try.f8 rfl rfl rfl rfl rfl rfl rfl ⟨rfl, rfl, rfl, rfl, rfl⟩ rfl rfl rfl rfl rfl (by kernel_rfl) Try.func8 (by kernel_rfl)
    (of_decide_eq_true (by kernel_rfl)) (by unfold Func.isWrapper; first | (rw [if_pos (by decide +kernel)]; kernel_rfl) | (rw [if_neg (by decide +kernel)]; exact ⟨rfl, rfl⟩))
    (fun os started H enc _ => lifted os started H enc)

/-- THE STATEMENT -/
theorem proved : Rows.CmdRowSaid := over
end Go.Proofs.Ytgjeheekemebaaa.cmdRow
