/- Clocks of which one alone has another rate than 1. No program is named here. -/
import Derived.Test.YthpfkbdbioabaaaFClk
set_option linter.unusedVariables false
set_option linter.unusedSimpArgs false
namespace Go.Proofs.Ythpfkbdbioabaaa
open Go.RowKit
namespace Clk

/-- Two clocks' states: of the first, clock i alone has a rate of its own; what passed is sum. -/
structure AP (c d : St) (K i q : Nat) (sum : Int) : Prop where
  n1 : c.n = K
  n2 : d.n = K
  r1 : ∀ j, j < K → j ≠ i → c.rate j = 4607182418800017408
  ri : c.rate i = Dbl.cleanF q
  r2 : ∀ j, j < K → d.rate j = 4607182418800017408
  s1 : ∀ j, j < K → j ≠ i → c.shown j = sum
  s2 : ∀ j, j < K → d.shown j = sum
  ref : c.ref = sum
  worst : d.worst = 0

theorem need_same (p : Int) (h : 1 ≤ p) : need p p = 0 := by
  unfold need
  rw [Int.sub_self, Int.max_self, Int.mul_zero, Int.zero_add, Int.ediv_eq_zero_of_lt (by omega) (by omega)]
  omega

theorem ap_new (K i q : Nat) (h : K ≤ 15) (hi : i < K) : AP (setI (new (K : Int)) i q) (new (K : Int)) K i q 0 := by
  have hk : clampH (K : Int) = K := by unfold clampH; omega
  have hn : (new (K : Int)).n = K := hk
  have hs : setI (new (K : Int)) (i : Int) q = set (new (K : Int)) i q := by
    unfold setI
    rw [hn, if_pos (by omega), Int.toNat_natCast]
  have hr : ∀ j, j < K → (new (K : Int)).rate j = 4607182418800017408 := fun j hj => by
    show (if j < clampH (K : Int) then _ else _) = _
    rw [hk, if_pos hj]
  rw [hs]
  refine ⟨hk, hk, fun j hj hne => ?_, upd_same _ _ _, hr, fun _ _ _ => rfl, fun _ _ => rfl, rfl, rfl⟩
  show upd _ _ _ j = _
  rw [upd_other _ _ _ _ hne]
  exact hr j hj

theorem AP.pass {c d : St} {K i q : Nat} {sum p : Int} (h : AP c d K i q sum) (h1 : 1 ≤ p) (h2 : p ≤ 1000) : AP (pass c p) (pass d p) K i q (sum + p) := by
  have m1 : ∀ j, j < K → j ≠ i → mv c p j = p := fun j hj hne => by
    unfold mv
    rw [h.r1 j hj hne, Dbl.move_one p (by omega) h2]
  have m2 : ∀ j, j < K → mv d p j = p := fun j hj => by
    unfold mv
    rw [h.r2 j hj, Dbl.move_one p (by omega) h2]
  have hw : ∀ k, k ≤ K → wk d p k = 0 := by
    intro k
    induction k with
    | zero => intro _; exact h.worst
    | succ k ih =>
      intro hk
      show max (wk d p k) (need p (mv d p k)) = 0
      rw [ih (by omega), m2 k (by omega), need_same p h1]
      omega
  refine ⟨h.n1, h.n2, h.r1, h.ri, h.r2, fun j hj hne => ?_, fun j hj => ?_, ?_, ?_⟩
  · show (if j < c.n then c.shown j + mv c p j else c.shown j) = _
    rw [h.n1, if_pos hj, h.s1 j hj hne, m1 j hj hne]
  · show (if j < d.n then d.shown j + mv d p j else d.shown j) = _
    rw [h.n2, if_pos hj, h.s2 j hj, m2 j hj]
  · show c.ref + p = _
    rw [h.ref]
  · show wk d p d.n = 0
    exact hw _ (by rw [h.n2]; exact Nat.le_refl _)

theorem AP.mv_i {c d : St} {K i q : Nat} {sum : Int} (h : AP c d K i q sum) (p : Int) (hq : q < 18446744073709551616) : mv c p i = Dbl.moveF q p := by
  unfold mv
  rw [h.ri, Dbl.move_clean q p hq]

theorem AP.now1 {c d : St} {K i q : Nat} {sum : Int} (h : AP c d K i q sum) (t : Nat) (ht : t < K) (hne : t ≠ i) : nowI c t = sum := by
  unfold nowI
  rw [h.n1, if_pos (by omega), Int.toNat_natCast]
  exact h.s1 t ht hne
theorem AP.now2 {c d : St} {K i q : Nat} {sum : Int} (h : AP c d K i q sum) (t : Nat) (ht : t < K) : nowI d t = sum := by
  unfold nowI
  rw [h.n2, if_pos (by omega), Int.toNat_natCast]
  exact h.s2 t ht
end Clk
end Go.Proofs.Ythpfkbdbioabaaa
