/- Contracts, on: Far of both, Alike, awake. -/
import Derived.Test.YtkfkmkdpogkhhaaRateC
import Derived.Test.YtkfkmkdpogkhhaaFFar
set_option linter.unusedVariables false
set_option linter.unusedSimpArgs false
namespace Go.Proofs.Ytkfkmkdpogkhhaa
open Go.RowKit
attribute [local go_sem] Dbl.run_fadd Dbl.run_fsub Dbl.run_fmul Dbl.run_fdiv Dbl.run_fmax Dbl.run_fmin Dbl.unary_fneg Dbl.ford_lt Dbl.ford_gt Dbl.ford_eq Dbl.ford_ne Dbl.pick_told Dbl.pickW_told

theorem Alike_any (a b : Nat) (w : World) (ha : a < 18446744073709551616) (hb : b < 18446744073709551616) :
    Calls Try.prog 10 #[.float .f64 a, .float .f64 b] w fun e w' => e = .returned (.bool (Dbl.alikeF a b)) ∧ w = w' := by
  unfold Dbl.alikeF
  have ea := Dbl.feq_self a
  have eb := Dbl.feq_self b
  cases na : Dbl.isNan a with
  | true =>
    rw [na] at ea
    cases nb : Dbl.isNan b <;> rw [nb] at eb <;> (
      clear na nb ha hb
      go_enter Try.func10, Try.ntmps10
      go_wp2
      go_ret
      exact ⟨rfl, rfl⟩)
  | false =>
    rw [na] at ea
    cases nb : Dbl.isNan b with
    | true =>
      rw [nb] at eb
      clear na nb ha hb
      go_enter Try.func10, Try.ntmps10
      go_wp2
      go_ret
      exact ⟨rfl, rfl⟩
    | false =>
      rw [nb] at eb
      have e1 := Dbl.feq_not a b na nb
      have e2 := Dbl.feq_not a 0 na Dbl.nan_zero
      rw [Dbl.val_zero] at e2
      by_cases hv : Dbl.val a = Dbl.val b
      · by_cases h0 : Dbl.val a = 0
        · have z1 := Dbl.val_rung_zero a h0
          have z2 := Dbl.val_rung_zero b (by omega)
          have d1 := Dbl.div_zero a z1
          have d2 := Dbl.div_zero b z2
          have w1 := Dbl.word_self a ha
          have w2 := Dbl.word_self b hb
          rw [z1] at w1
          rw [z2] at w2
          have e3 : Dbl.feq a b = true := by rw [e1]; simp [hv]
          have e4 : Dbl.feq a 0 = true := by rw [e2]; simp [h0]
          have e5 : Dbl.feq (Dbl.word (Dbl.sgn a) 9218868437227405312) (Dbl.word (Dbl.sgn b) 9218868437227405312) = (a == b) := by
            rw [w1, w2, Dbl.sgn_word _ _ (by omega), Dbl.sgn_word _ _ (by omega)]
            cases Dbl.sgn a <;> cases Dbl.sgn b <;> decide +kernel
          clear e1 e2 hv h0 z1 z2 w1 w2 na nb ha hb
          generalize Dbl.word (Dbl.sgn a) 9218868437227405312 = q1 at *
          generalize Dbl.word (Dbl.sgn b) 9218868437227405312 = q2 at *
          simp only [Bool.or_false, if_neg (show ¬ (false = true) by simp)]
          generalize (a == b) = r at *
          go_enter Try.func10, Try.ntmps10
          go_wp2
          go_ret
          exact ⟨rfl, rfl⟩
        · have e3 : Dbl.feq a b = true := by rw [e1]; simp [hv]
          have e4 : Dbl.feq a 0 = false := by rw [e2]; simp [h0]
          have e5 : (a == b) = true := by
            rw [Dbl.val_inj a b ha hb hv h0]; simp
          rw [e5]
          clear e1 e2 e5 hv h0 na nb ha hb
          go_enter Try.func10, Try.ntmps10
          go_wp2
          go_ret
          exact ⟨rfl, rfl⟩
      · have e3 : Dbl.feq a b = false := by rw [e1]; simp [hv]
        have e5 : (a == b) = false := by
          cases h : (a == b) with
          | false => rfl
          | true => exact absurd (by rw [eq_of_beq h]) hv
        rw [e5]
        clear e1 e2 e5 hv na nb ha hb
        go_enter Try.func10, Try.ntmps10
        go_wp2
        go_ret
        exact ⟨rfl, rfl⟩

/-- A float told: what it is, or that it is no number. -/
def Told (o : Option Nat) (w : World) (e : Ending) (w' : World) : Prop := ∃ b, e = .returned (.float .f64 b) ∧ Dbl.Is o b ∧ Below w.heap.size w w'

theorem abs_is (x : Nat) (w : World) : Dbl.pick (Ieee.double.sub x 4607182418800017408) (.nanBits .f64 x 4607182418800017408) w < 18446744073709551616 ∧
    Dbl.Is (Dbl.absOf x) (Dbl.rung (Dbl.pick (Ieee.double.sub x 4607182418800017408) (.nanBits .f64 x 4607182418800017408) w)) := by
  have hp := Dbl.pick_is (Ieee.double.sub x 4607182418800017408) x 4607182418800017408 w (fun r h => Ieee.Format.sub_lt _ h)
  refine ⟨hp.1, ?_⟩
  generalize Dbl.pick (Ieee.double.sub x 4607182418800017408) (.nanBits .f64 x 4607182418800017408) w = b at *
  have hl := Dbl.rung_lt b
  unfold Dbl.absOf
  refine ⟨by omega, ?_⟩
  have h2 := hp.2
  cases hq : Ieee.double.sub x 4607182418800017408 with
  | none =>
    rw [hq] at h2
    show Dbl.isNan (Dbl.rung b) = true
    rw [Dbl.nan_rung]
    exact h2
  | some r =>
    rw [hq] at h2
    have h3 : b = r := h2
    subst h3
    rfl

theorem Far_any (v : Value) (xs : List Nat) (w : World) (h : RdL w v (fl xs)) :
    Calls Try.prog 20 #[v] w (Told (Dbl.farF xs) w) := by
  obtain ⟨a, len, cap, rfl, hl, hc, hm, hn, hx⟩ := h.ex
  rw [fl_length] at hl
  have HX := Lib.hid hx
  have HN := Lib.hid hn
  have HR := Lib.hid h
  have HM := Lib.hid hm
  unfold maxLen at hm
  clear hx hn h
  subst hl
  go_enter Try.func20, Try.ntmps20
  go_wp2
  go_loopw [3, 8] (fun f i wr => ∃ k b : Nat, k ≤ xs.length ∧ i = .int .i64 k ∧ f = .float .f64 b ∧ Dbl.Is (Dbl.farF (xs.take k)) b ∧ Below w.heap.size w wr) (fun _ i _ => xs.length - (intOf i).toNat)
  case atStart => exact ⟨0, 0, by omega, rfl, rfl, ⟨by omega, rfl⟩, Below.refl _ _⟩
  case round =>
    obtain ⟨k, b, hk, rfl, rfl, his, hbr⟩ := hrel
    have HI := Lib.hid his
    have HB := Lib.hid hbr
    clear his hbr
    by_cases hlt : k < xs.length
    · match a, HX, HN with
      | none, _, HN => have := (HN.out rfl).1; omega
      | some ⟨blk, off, spot⟩, HX, _ =>
        obtain ⟨hs, hi⟩ := HX.out _ rfl (by omega)
        simp only at hs hi
        subst hs
        have hcell : wr.cell? ⟨blk, off + k, none⟩ = some (.float .f64 (xs.getD k 0)) := by
          have c0 := hi k _ (fl_get xs k hlt)
          rw [HB.out.cell (lt_of_cell c0)]
          exact c0
        clear hi
        have ha := abs_is (xs.getD k 0) wr
        have HS := Lib.hid (Dbl.far_snoc xs k hlt)
        have HG := Lib.hid (Dbl.abs_good (xs.getD k 0))
        have HW := Lib.hid (Dbl.pickW_below (Ieee.double.sub (xs.getD k 0) 4607182418800017408) wr)
        generalize hx : xs.getD k 0 = x at *
        clear hx
        have HA := Lib.hid ha
        clear ha
        go_wp2_with (go_at_call 26; refine (Abs_any _ _ HA.out.1).mono ?_; rintro e w' ⟨rfl, rfl⟩)
        go_roundw
        case rel =>
          refine ⟨k + 1, _, by omega, by go_num, rfl, ?_, ?_⟩
          · rw [HS.out]
            exact Dbl.step_max _ _ _ _ HI.out HA.out.2 (Dbl.far_good _) HG.out _
          · exact step (step HB.out HW.out) (Dbl.pickW_below _ _)
        case measure => simp [intOf]; omega
    · obtain rfl : k = xs.length := by omega
      go_wp2
      go_ret
      refine ⟨_, rfl, ?_, HB.out⟩
      have := HI.out
      rwa [List.take_length] at this

theorem RefFar_any (v : Value) (xs : List Nat) (w : World) (h : RdL w v (fl xs)) :
    Calls Try.prog 21 #[v] w (Told (Dbl.farF xs) w) := by
  obtain ⟨a, len, cap, rfl, hl, hc, hm, hn, hx⟩ := h.ex
  rw [fl_length] at hl
  have HX := Lib.hid hx
  have HN := Lib.hid hn
  have HR := Lib.hid h
  have HM := Lib.hid hm
  unfold maxLen at hm
  clear hx hn h
  subst hl
  go_enter Try.func21, Try.ntmps21
  go_wp2
  go_loopw [3, 4] (fun f i wr => ∃ k b : Nat, k ≤ xs.length ∧ i = .int .i64 k ∧ f = .float .f64 b ∧ Dbl.farF (xs.take k) = some b ∧ Below w.heap.size w wr) (fun _ i _ => xs.length - (intOf i).toNat)
  case atStart => exact ⟨0, 0, by omega, rfl, rfl, rfl, Below.refl _ _⟩
  case round =>
    obtain ⟨k, b, hk, rfl, rfl, his, hbr⟩ := hrel
    have HI := Lib.hid his
    have HB := Lib.hid hbr
    clear his hbr
    by_cases hlt : k < xs.length
    · match a, HX, HN with
      | none, _, HN => have := (HN.out rfl).1; omega
      | some ⟨blk, off, spot⟩, HX, _ =>
        obtain ⟨hs, hi⟩ := HX.out _ rfl (by omega)
        simp only at hs hi
        subst hs
        have hcell : wr.cell? ⟨blk, off + k, none⟩ = some (.float .f64 (xs.getD k 0)) := by
          have c0 := hi k _ (fl_get xs k hlt)
          rw [HB.out.cell (lt_of_cell c0)]
          exact c0
        clear hi
        have hs := Dbl.far_snoc xs k hlt
        have gb := Dbl.far_good (xs.take k) b HI.out
        generalize hx : xs.getD k 0 = x at *
        rcases Dbl.sub_one x with ⟨_, h1⟩ | ⟨_, d, h1, h2, h3⟩
        · have ho : Dbl.absOf x = none := by unfold Dbl.absOf; rw [h1]; rfl
          rw [ho, Dbl.step_none] at hs
          have HF := Lib.hid (Dbl.far_none xs (k + 1) hs)
          have hp := Dbl.pick_is none x 4607182418800017408 wr (fun r h => by cases h)
          have hb := Dbl.pickW_below none wr
          have hq : Dbl.feq (Dbl.pick none (.nanBits .f64 x 4607182418800017408) wr) (Dbl.pick none (.nanBits .f64 x 4607182418800017408) wr) = false := by
            rw [Dbl.feq_self]
            have := hp.2
            simp only at this
            rw [this]
            rfl
          have HP := Lib.hid hp
          have HQ := Lib.hid hb
          clear hx ho hs hp hb gb
          go_wp2
          go_ret
          refine ⟨_, rfl, ?_, step HB.out HQ.out⟩
          rw [HF.out]
          exact HP.out
        · have ho : Dbl.absOf x = some (Dbl.rung d) := by unfold Dbl.absOf; rw [h1]; rfl
          rw [ho, HI.out, Dbl.step_ref b d gb.1 gb.2 h3 h2] at hs
          have hq : Dbl.feq d d = true := by rw [Dbl.feq_self, h2]; rfl
          have HS := Lib.hid hs
          clear hx ho hs gb h2 h3
          cases t1 : Dbl.flt d 0 <;> cases t2 : Dbl.flt b d <;> cases t3 : Dbl.flt b (d ^^^ 9223372036854775808) <;> (
            go_wp2
            go_roundw
            case rel =>
              refine ⟨k + 1, _, by omega, by go_num, rfl, ?_, HB.out⟩
              have := HS.out
              rw [this]
              simp [t1, t2, t3]
            case measure => simp [intOf]; omega)
    · obtain rfl : k = xs.length := by omega
      go_wp2
      go_ret
      refine ⟨_, rfl, ?_, HB.out⟩
      have := HI.out
      rw [List.take_length] at this
      rw [this]
      have g := Dbl.far_good xs b this
      exact ⟨by omega, rfl⟩
end Go.Proofs.Ytkfkmkdpogkhhaa
