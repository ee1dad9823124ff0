/- What package rate's Far answers, as a plain function; cells in memory, whatever they hold. No program is named here. -/
import Derived.Test.YthpfkbdbioabaaaFRate
set_option linter.unusedVariables false
set_option linter.unusedSimpArgs false
namespace Go.Proofs.Ythpfkbdbioabaaa
open Go.RowKit

/-- The slice value v reads in w as the cells cs. -/
structure RdL (w : World) (v : Value) (cs : List Value) : Prop where
  ex : ∃ a len cap, v = .slice a len cap ∧ cs.length = len ∧ len ≤ cap ∧ cap ≤ maxLen ∧ (a = none → len = 0 ∧ cap = 0) ∧
    ∀ x, a = some x → 0 < len → x.spot = none ∧ ∀ i u, cs[i]? = some u → w.cell? ⟨x.block, x.off + i, none⟩ = some u

theorem RdL.later {w w' : World} {v : Value} {cs : List Value} (h : RdL w v cs) (hb : Below w.heap.size w w') : RdL w' v cs := by
  obtain ⟨a, len, cap, hv, hl, hc, hm, hn, hx⟩ := h.ex
  refine ⟨a, len, cap, hv, hl, hc, hm, hn, fun x ha hp => ?_⟩
  obtain ⟨hs, hi⟩ := hx x ha hp
  refine ⟨hs, fun i u h => ?_⟩
  rw [hb.cell (lt_of_cell (hi i u h))]
  exact hi i u h

/-- What the call owns reads so. -/
theorem RdL.own {w : World} {base : Nat} {e : TypeId} {v : Value} {n : Nat} {cs : List Value} (h : w.ownsRow base e 1 v n cs) : RdL w v cs := by
  have hlen : cs.length = n := by simpa using h.1
  rcases h.2 with ⟨rfl, hn⟩ | ⟨g, cap, cur, rfl, hb, hg, hn, hc, hs, ht⟩
  · exact ⟨none, 0, 0, rfl, by omega, Nat.le_refl _, by unfold maxLen; omega, fun _ => ⟨rfl, rfl⟩, fun x hx => by cases hx⟩
  · refine ⟨some ⟨g, 0, none⟩, n, cap, rfl, hlen, hn, hc, (fun h => by cases h), fun x hx hp => ?_⟩
    cases hx
    refine ⟨rfl, fun i u hi => ?_⟩
    have := h.cells (g := g) rfl i u hi
    rw [Nat.zero_add]
    have e : ({ block := g, off := 0, spot := none } : Addr).add i = ⟨g, i, none⟩ := by unfold Addr.add; simp; intro q; exact q.symm
    rw [e] at this
    exact this

def fl (xs : List Nat) : List Value := xs.map fun x => .float .f64 x
theorem fl_length (xs : List Nat) : (fl xs).length = xs.length := by simp [fl]
theorem fl_get (xs : List Nat) (i : Nat) (h : i < xs.length) : (fl xs)[i]? = some (.float .f64 (xs.getD i 0)) := by
  simp [fl, List.getElem?_eq_getElem h]

namespace Dbl
open Ieee

theorem rung_rung (x : Nat) : rung (rung x) = rung x := by unfold rung; omega
theorem rung_lt (x : Nat) : rung x < 9223372036854775808 := by unfold rung; omega
theorem nan_rung (x : Nat) : isNan (rung x) = isNan x := by
  unfold isNan
  rw [rung_rung]

/-- How far a float is from 1. 4607182418800017408 is 1. -/
def absOf (x : Nat) : Option Nat := (double.sub x 4607182418800017408).map rung

def farStep (f a : Option Nat) : Option Nat := match f, a with
  | some f, some a => some (if flt f a then a else f)
  | _, _ => none

def farF (xs : List Nat) : Option Nat := xs.foldl (fun f x => farStep f (absOf x)) (some 0)

/-- A magnitude that is a number. -/
def Good (o : Option Nat) : Prop := ∀ r, o = some r → r < 9223372036854775808 ∧ isNan r = false

theorem write_notNan_num (s : Bool) (m : Nat) (p : Int) : ∃ r, double.write (.number s m p) = word s r ∧ r ≤ 9218868437227405312 := by
  show ∃ r, double.nearest s m p = word s r ∧ _
  rw [nearest_def]
  split
  · exact ⟨0, rfl, by omega⟩
  · exact ⟨_, rfl, Nat.min_le_right _ _⟩

theorem word_inf (s : Bool) : double.write (.infinity s) = word s 9218868437227405312 := rfl

theorem good_word (s : Bool) (r : Nat) (h : r ≤ 9218868437227405312) : isNan (word s r) = false := by
  rw [isNan_not, rung_word _ _ (by omega)]
  exact h

theorem sum_notNan (d e : Datum) (hd : d.isNaN = false) (he : e.isNaN = false) (b : Nat) (h : (d.sum e).map double.write = some b) : isNan b = false := by
  cases d with
  | nan _ _ => cases hd
  | infinity s =>
    cases e with
    | nan _ _ => cases he
    | infinity t =>
      by_cases hst : s = t
      · simp [Datum.sum, hst] at h
        rw [← h, word_inf]
        exact good_word _ _ (by omega)
      · simp [Datum.sum, hst] at h
    | number t n j =>
      simp [Datum.sum] at h
      rw [← h, word_inf]
      exact good_word _ _ (by omega)
  | number s m i =>
    cases e with
    | nan _ _ => cases he
    | infinity t =>
      simp [Datum.sum] at h
      rw [← h, word_inf]
      exact good_word _ _ (by omega)
    | number t n j =>
      unfold Datum.sum at h
      dsimp only [Option.map] at h
      obtain ⟨r, e1, e2⟩ := write_notNan_num (if signed s m (i - min i j).toNat + signed t n (j - min i j).toNat = 0 then s && t else decide (signed s m (i - min i j).toNat + signed t n (j - min i j).toNat < 0)) (signed s m (i - min i j).toNat + signed t n (j - min i j).toNat).natAbs (min i j)
      rw [e1] at h
      injection h with h
      rw [← h]
      exact good_word _ _ e2

theorem read_isNaN (x : Nat) : (double.read x).isNaN = isNan x := by
  cases hn : isNan x with
  | true => rw [read_nan x hn]; rfl
  | false =>
    rcases not_nan_cases x hn with p | p
    · obtain ⟨m, e, h, _⟩ := read_fin x p
      rw [h]; rfl
    · rw [read_inf x p]; rfl

theorem read_one : double.read 4607182418800017408 = .number false 4503599627370496 (-52) := by decide

/-- A float less 1: a number just where it is one. -/
theorem sub_one (x : Nat) : (isNan x = true ∧ double.sub x 4607182418800017408 = none) ∨ (isNan x = false ∧ ∃ d, double.sub x 4607182418800017408 = some d ∧ isNan d = false ∧ d < 18446744073709551616) := by
  cases hn : isNan x with
  | true =>
    left
    refine ⟨rfl, ?_⟩
    unfold Format.sub
    rw [read_nan x hn]
    rfl
  | false =>
    right
    refine ⟨rfl, ?_⟩
    have h1 : (double.read x).isNaN = false := by rw [read_isNaN, hn]
    cases h : double.sub x 4607182418800017408 with
    | none =>
      exfalso
      unfold Format.sub at h
      rw [read_one] at h
      cases hr : double.read x with
      | nan _ _ => rw [hr] at h1; cases h1
      | infinity s => rw [hr] at h; simp [Datum.sum, Datum.opposite] at h
      | number s m i => rw [hr] at h; simp [Datum.sum, Datum.opposite] at h
    | some d =>
      refine ⟨d, rfl, ?_, double.sub_lt h⟩
      unfold Format.sub at h
      exact sum_notNan _ _ h1 (by rw [read_one]; rfl) d h

theorem abs_good (x : Nat) : Good (absOf x) := by
  intro r hr
  unfold absOf at hr
  rcases sub_one x with ⟨_, h⟩ | ⟨_, d, h, h2, h3⟩
  · rw [h] at hr; cases hr
  · rw [h] at hr
    injection hr with hr
    rw [← hr, nan_rung]
    exact ⟨rung_lt d, h2⟩

theorem step_good (f a : Option Nat) (hf : Good f) (ha : Good a) : Good (farStep f a) := by
  cases f with
  | none => intro r h; cases h
  | some f =>
    cases a with
    | none => intro r h; cases h
    | some a =>
      intro r h
      unfold farStep at h
      dsimp only at h
      injection h with h
      rw [← h]
      split
      · exact ha a rfl
      · exact hf f rfl

theorem fold_good (xs : List Nat) (f : Option Nat) (hf : Good f) : Good (xs.foldl (fun f x => farStep f (absOf x)) f) := by
  induction xs generalizing f with
  | nil => exact hf
  | cons x xs ih => exact ih _ (step_good _ _ hf (abs_good x))

theorem good_zero : Good (some 0) := by
  intro r h
  cases h
  exact ⟨by omega, rfl⟩

theorem far_good (xs : List Nat) : Good (farF xs) := fold_good xs _ good_zero

theorem far_snoc (xs : List Nat) (k : Nat) (h : k < xs.length) : farF (xs.take (k + 1)) = farStep (farF (xs.take k)) (absOf (xs.getD k 0)) := by
  unfold farF
  rw [List.take_succ_eq_append_getElem h, List.foldl_append]
  simp [List.getD, List.getElem?_eq_getElem h]

theorem fold_none (xs : List Nat) : xs.foldl (fun f x => farStep f (absOf x)) none = none := by
  induction xs with
  | nil => rfl
  | cons x xs ih => exact ih

theorem far_none (xs : List Nat) (k : Nat) (h : farF (xs.take k) = none) : farF xs = none := by
  unfold farF at *
  rw [← List.take_append_drop k xs, List.foldl_append, h]
  exact fold_none _

theorem step_none (f : Option Nat) : farStep f none = none := by cases f <;> rfl

/-- One step of the greatest: by the built-in max. -/
theorem step_max (F A : Option Nat) (f a : Nat) (hf : Is F f) (ha : Is A a) (gF : Good F) (gA : Good A) (w : World) : Is (farStep F A) (pick (fmax f a) (.nanMinMax .f64 true f a) w) := by
  have nn : (isNan f || isNan a) = true → pick (fmax f a) (.nanMinMax .f64 true f a) w = nanOf (.nanMinMax .f64 true f a) w := by
    intro h
    unfold fmax
    rw [if_pos h]
    rfl
  have hn := nan_minmax true f a w
  cases F with
  | none =>
    have h1 : isNan f = true := hf.2
    rw [nn (by rw [h1]; rfl)]
    exact ⟨hn.2, hn.1⟩
  | some f' =>
    obtain ⟨hf0, hf1⟩ := hf
    have hf1 : f = f' := hf1
    subst hf1
    cases A with
    | none =>
      have h1 : isNan a = true := ha.2
      rw [nn (by rw [h1]; simp)]
      exact ⟨hn.2, hn.1⟩
    | some a' =>
      obtain ⟨ha0, ha1⟩ := ha
      have ha1 : a = a' := ha1
      subst ha1
      have g1 := gF f rfl
      have g2 := gA a rfl
      have e : fmax f a = some (if flt f a then a else f) := by
        unfold fmax
        rw [g1.2, g2.2, sgn_small f g1.1]
        simp
      rw [e]
      unfold farStep pick
      dsimp only
      refine ⟨?_, rfl⟩
      split <;> omega

theorem xor_top (r : Nat) (h : r < 9223372036854775808) : (9223372036854775808 + r) ^^^ 9223372036854775808 = r := by
  apply Nat.eq_of_testBit_eq
  intro i
  rw [Nat.testBit_xor]
  rw [show (9223372036854775808 : Nat) = 2 ^ 63 from rfl] at *
  rcases Nat.lt_trichotomy i 63 with g | g | g
  · rw [Nat.testBit_two_pow_add_gt g, Nat.testBit_two_pow_of_ne (by omega)]
    simp
  · subst g
    rw [Nat.testBit_two_pow_add_eq, Nat.testBit_two_pow_self]
    simp
  · rw [Nat.testBit_lt_two_pow (x := 2 ^ 63 + r) (by
      have : 2 ^ 64 ≤ 2 ^ i := Nat.pow_le_pow_right (by omega) (by omega)
      omega), Nat.testBit_two_pow_of_ne (by omega), Nat.testBit_lt_two_pow (x := r) (by
      have : 2 ^ 64 ≤ 2 ^ i := Nat.pow_le_pow_right (by omega) (by omega)
      omega)]
    rfl

theorem word_self (d : Nat) (h : d < 18446744073709551616) : d = word (sgn d) (rung d) := by
  unfold word sgn rung
  rcases Nat.lt_or_ge d 9223372036854775808 with g | g
  · rw [show d / 9223372036854775808 = 0 by omega]
    show d = d % 9223372036854775808
    omega
  · rw [show d / 9223372036854775808 = 1 by omega]
    show d = 9223372036854775808 + d % 9223372036854775808
    omega

theorem val_inj (a b : Nat) (ha : a < 18446744073709551616) (hb : b < 18446744073709551616) (h : val a = val b) (h0 : val a ≠ 0) : a = b := by
  rw [word_self a ha, word_self b hb]
  unfold val at h h0
  cases hsa : sgn a <;> cases hsb : sgn b <;> rw [hsa] at h h0 <;> rw [hsb] at h <;> simp at h h0
  · rw [mag_inj (rung a) (rung b) (by omega)]
  · omega
  · omega
  · rw [mag_inj (rung a) (rung b) (by omega)]

theorem val_rung_zero (a : Nat) (h : val a = 0) : rung a = 0 := by
  unfold val at h
  have : mag (rung a) = 0 := by
    split at h <;> omega
  rcases Nat.eq_zero_or_pos (rung a) with g | g
  · exact g
  · have := mag_pos _ g
    omega

/-- How the document's own steps reach the greatest: what is above nought, turned, and greater is taken. -/
theorem step_ref (f d : Nat) (hf : f < 9223372036854775808) (nf : isNan f = false) (hd : d < 18446744073709551616) (nd : isNan d = false) :
    farStep (some f) (some (rung d)) = some (if flt d 0 then (if flt f (d ^^^ 9223372036854775808) then d ^^^ 9223372036854775808 else f) else (if flt f d then d else f)) := by
  unfold farStep
  dsimp only
  congr 1
  have nr : isNan (rung d) = false := by rw [nan_rung, nd]
  rw [flt_not d 0 nd nan_zero, flt_not f _ nf nr, val_zero]
  have vr : val (rung d) = mag (rung d) := by rw [val_small _ (rung_lt d), ]
  have vf : val f = mag f := val_small f hf
  cases hs : sgn d with
  | false =>
    have e : rung d = d := by
      have := word_self d hd
      rw [hs] at this
      exact this.symm
    rw [e, flt_not f d nf nd]
    have hv : val d = mag d := by
      rw [e] at vr
      exact vr
    rw [hv, vf]
    have h0 : decide ((mag d : Int) < 0) = false := by simp
    rw [h0]
    rfl
  | true =>
    have e : d = 9223372036854775808 + rung d := by
      have := word_self d hd
      rw [hs] at this
      exact this
    have hv : val d = -(mag (rung d) : Int) := by unfold val; rw [hs]; rfl
    have hx : d ^^^ 9223372036854775808 = rung d := by
      conv => lhs; rw [e]
      exact xor_top _ (rung_lt d)
    rw [hx, flt_not f _ nf nr, flt_not f d nf nd, hv, vr, vf]
    by_cases hz : mag (rung d) = 0
    · rw [hz]
      have h1 : decide (-((0 : Nat) : Int) < 0) = false := by simp
      have h2 : decide ((mag f : Int) < ((0 : Nat) : Int)) = false := by simp
      have h3 : decide ((mag f : Int) < -((0 : Nat) : Int)) = false := by simp
      rw [h1, h2, h3]
      rfl
    · have h1 : decide (-(mag (rung d) : Int) < 0) = true := by simp; omega
      rw [h1]
      rfl

/-- 1 over a nought. -/
theorem div_zero (y : Nat) (h : rung y = 0) : double.div 4607182418800017408 y = some (word (sgn y) 9218868437227405312) := by
  unfold Format.div
  rw [read_one, read_eq, h]
  cases sgn y <;> decide

def alikeF (a b : Nat) : Bool := if isNan a || isNan b then isNan a && isNan b else a == b
end Dbl
end Go.Proofs.Ythpfkbdbioabaaa
