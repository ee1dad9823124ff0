/- Texts laid together by program: LckA, LckB, LckC, InsK, InsL, LckD, LinD. -/
import Derived.Test.YtnkooajbenhjhaaP7
import Derived.Deep.RegionHeld3
import Derived.Deep.RegionWith
import Derived.Laws.CopyOwn
import Derived.Lib.Overlaps
import Derived.Lib.AppendZerosOnto
import Derived.Shelf.RegionOpenPlain
import Derived.Test.YtnkooajbenhjhaaP4
/- Contracts: package lock's withLine, copyOf, copies. -/
set_option linter.unusedVariables false
set_option linter.unusedSimpArgs false
namespace Go.Proofs.Ytnkooajbenhjhaa
open Go.RowKit Go.Shelf
namespace Cm

theorem free4k {w w' : World} {x y z u : Value} {t : TypeId} (h : Below (w.alloc (.cells #[x, y, z, u] t)).heap.size (w.alloc (.cells #[x, y, z, u] t)) w') :
    ∀ k, w'.frozen? ⟨w.heap.size, k, none⟩ = false := by
  intro k
  have hl : w.heap.size < (w.alloc (.cells #[x, y, z, u] t)).heap.size := by simp
  rw [h.frozen (p := ⟨w.heap.size, k, none⟩) hl]
  simp [go_sem]

theorem set4k {a w : World} {b : Nat} (h : Below b a w) (g : Nat) (hg : b ≤ g) (x y z u : Value) : Below b a ((((w.setCell ⟨g, 0, none⟩ x).setCell ⟨g, 1, none⟩ y).setCell ⟨g, 2, none⟩ z).setCell ⟨g, 3, none⟩ u) :=
  (((h.setCell hg _).setCell hg _).setCell hg _).setCell hg _

/-- A lock told, whose line is this slice. -/
def IsL (x : LockV) (r : Value) (w : World) (e : Ending) (w' : World) : Prop := e = .returned (.agg #[.string (bstr x.name), .int .i64 x.holder, .int .i64 x.token, r]) ∧ Below w.heap.size w w'

set_option maxHeartbeats 1000000 in
theorem withLine_any (n : List UInt8) (h t : Int) (la ra : Option Addr) (ln lc rn rc : Nat) (w : World) :
    Calls Try.prog 39 #[.agg #[.string (bstr n), .int .i64 h, .int .i64 t, .slice la ln lc], .slice ra rn rc] w (IsL ⟨n, h, t, []⟩ (.slice ra rn rc) w) := by
  unfold IsL
  dsimp only
  have hb1 := newAlloc w (.cells #[.string (bstr n), .int .i64 h, .int .i64 t, .slice la ln lc] 39)
  obtain ⟨c0, c1, c2, c3⟩ := box4 (Below.refl _ (w.alloc (.cells #[.string (bstr n), .int .i64 h, .int .i64 t, .slice la ln lc] 39)))
  have f0 := free4k (Below.refl _ (w.alloc (.cells #[.string (bstr n), .int .i64 h, .int .i64 t, .slice la ln lc] 39)))
  obtain ⟨W1, hW1⟩ : ∃ W1, W1 = w.alloc (.cells #[.string (bstr n), .int .i64 h, .int .i64 t, .slice la ln lc] 39) := ⟨_, rfl⟩
  rw [← hW1] at hb1 c0 c1 c2 c3 f0
  have hs : W1.heap.size = w.heap.size + 1 := by rw [hW1]; simp
  have hb2 := newAlloc W1 (.cells #[.string ⟨#[]⟩, .int .i64 0, .int .i64 0, .slice none 0 0] 39)
  have k0 := (hb2.cell (lt_of_cell c0)).trans c0
  have k1 := (hb2.cell (lt_of_cell c1)).trans c1
  have k2 := (hb2.cell (lt_of_cell c2)).trans c2
  have k3 := (hb2.cell (lt_of_cell c3)).trans c3
  have kf : ∀ k, (W1.alloc (.cells #[.string ⟨#[]⟩, .int .i64 0, .int .i64 0, .slice none 0 0] 39)).frozen? ⟨w.heap.size, k, none⟩ = false := fun k => (hb2.frozen (p := ⟨w.heap.size, k, none⟩) (show w.heap.size < _ from lt_of_cell c0)).trans (f0 k)
  obtain ⟨d0, d1, d2, d3⟩ := box4 (Below.refl _ (W1.alloc (.cells #[.string ⟨#[]⟩, .int .i64 0, .int .i64 0, .slice none 0 0] 39)))
  have df := free4k (Below.refl _ (W1.alloc (.cells #[.string ⟨#[]⟩, .int .i64 0, .int .i64 0, .slice none 0 0] 39)))
  obtain ⟨W2, hW2⟩ : ∃ W2, W2 = W1.alloc (.cells #[.string ⟨#[]⟩, .int .i64 0, .int .i64 0, .slice none 0 0] 39) := ⟨_, rfl⟩
  rw [← hW2] at hb2 k0 k1 k2 k3 kf d0 d1 d2 d3 df
  rw [hs] at d0 d1 d2 d3 df
  have HB := Lib.hid (step hb1 hb2)
  obtain ⟨W3, hW3⟩ : ∃ W3, W3 = W2.setCell ⟨w.heap.size, 3, none⟩ (.slice ra rn rc) := ⟨_, rfl⟩
  have HB3 : Hid (Below w.heap.size w W3) := Lib.hid (by rw [hW3]; exact HB.out.setCell (Nat.le_refl _) _)
  have t0 : W3.cell? ⟨w.heap.size, 0, none⟩ = some (.string (bstr n)) := by rw [hW3]; simp [go_sem, k0]
  have t1 : W3.cell? ⟨w.heap.size, 1, none⟩ = some (.int .i64 h) := by rw [hW3]; simp [go_sem, k1]
  have t2 : W3.cell? ⟨w.heap.size, 2, none⟩ = some (.int .i64 t) := by rw [hW3]; simp [go_sem, k2]
  have t3 : W3.cell? ⟨w.heap.size, 3, none⟩ = some (.slice ra rn rc) := by rw [hW3]; simp [go_sem, k3, kf]
  have e0 : W3.cell? ⟨w.heap.size + 1, 0, none⟩ = some (.string ⟨#[]⟩) := by rw [hW3]; simp [go_sem, d0]
  have e1 : W3.cell? ⟨w.heap.size + 1, 1, none⟩ = some (.int .i64 0) := by rw [hW3]; simp [go_sem, d1]
  have e2 : W3.cell? ⟨w.heap.size + 1, 2, none⟩ = some (.int .i64 0) := by rw [hW3]; simp [go_sem, d2]
  have e3 : W3.cell? ⟨w.heap.size + 1, 3, none⟩ = some (.slice none 0 0) := by rw [hW3]; simp [go_sem, d3]
  have ef : ∀ k, W3.frozen? ⟨w.heap.size + 1, k, none⟩ = false := fun k => by rw [hW3]; simp [go_sem, df]
  clear hb1 hb2 c0 c1 c2 c3 f0 d0 d1 d2 d3 df
  go_enter Try.func39, Try.ntmps39
  go_upto_region 1 with fail
  rw [← hW1, ← hW2]
  clear hW1 hW2 hs
  have HW3 := Lib.hid hW3
  clear hW3
  go_upto_region 2 with fail
  rw [← HW3.out]
  clear HW3 HB k0 k1 k2 k3 kf
  go_wp2
  refine bodyPost_ret (by simp [results, Try.results39, go_sem, e0, e1, e2, e3, ef] <;> rfl) rfl ⟨rfl, ?_⟩
  exact set4k HB3.out _ (Nat.le_succ _) _ _ _ _

/-- A lock told, with a line of its own. -/
def IsCopy (x : LockC) (w : World) (e : Ending) (w' : World) : Prop :=
  ∃ a c, e = .returned (.agg #[.string (bstr x.name), .int .i64 x.holder, .int .i64 x.token, .slice a x.line.length c]) ∧ w'.ownsRow w.heap.size 3 1 (.slice a x.line.length c) x.line.length (flatX cellsI x.line) ∧ Below w.heap.size w w'

set_option maxHeartbeats 2000000 in
theorem copyOf_any (x : LockC) (w : World) (hl : RdI w x.lv x.line) (h5 : x.line.length ≤ 1000) : Calls Try.prog 42 #[lockVal x] w (IsCopy x w) := by
  obtain ⟨xn, xh, xt, xl, xa, xc⟩ := x
  unfold lockVal IsCopy
  unfold LockC.lv at hl ⊢
  dsimp only at hl h5 ⊢
  have hb1 := newAlloc w (.cells #[.string (bstr xn), .int .i64 xh, .int .i64 xt, .slice xa xl.length xc] 39)
  obtain ⟨c0, c1, c2, c3⟩ := box4 (Below.refl _ (w.alloc (.cells #[.string (bstr xn), .int .i64 xh, .int .i64 xt, .slice xa xl.length xc] 39)))
  obtain ⟨W1, hW1⟩ : ∃ W1, W1 = w.alloc (.cells #[.string (bstr xn), .int .i64 xh, .int .i64 xt, .slice xa xl.length xc] 39) := ⟨_, rfl⟩
  rw [← hW1] at hb1 c0 c1 c2 c3
  have hs : W1.heap.size = w.heap.size + 1 := by rw [hW1]; simp
  have hb2 := newAlloc W1 (.cells #[.string ⟨#[]⟩, .int .i64 0, .int .i64 0, .slice none 0 0] 39)
  have k0 := (hb2.cell (lt_of_cell c0)).trans c0
  have k1 := (hb2.cell (lt_of_cell c1)).trans c1
  have k2 := (hb2.cell (lt_of_cell c2)).trans c2
  have k3 := (hb2.cell (lt_of_cell c3)).trans c3
  obtain ⟨d0, d1, d2, d3⟩ := box4 (Below.refl _ (W1.alloc (.cells #[.string ⟨#[]⟩, .int .i64 0, .int .i64 0, .slice none 0 0] 39)))
  have df := free4k (Below.refl _ (W1.alloc (.cells #[.string ⟨#[]⟩, .int .i64 0, .int .i64 0, .slice none 0 0] 39)))
  obtain ⟨W2, hW2⟩ : ∃ W2, W2 = W1.alloc (.cells #[.string ⟨#[]⟩, .int .i64 0, .int .i64 0, .slice none 0 0] 39) := ⟨_, rfl⟩
  rw [← hW2] at hb2 k0 k1 k2 k3 d0 d1 d2 d3 df
  rw [hs] at d0 d1 d2 d3 df
  have HB := Lib.hid (step hb1 hb2)
  have hs2 : W2.heap.size = w.heap.size + 2 := by rw [hW2]; simp [hs]
  have HS2 := Lib.hid hs2
  have HQ : Hid (∀ w', Below W2.heap.size W2 w' → w'.cell? ⟨w.heap.size, 0, none⟩ = some (.string (bstr xn)) ∧ w'.cell? ⟨w.heap.size, 1, none⟩ = some (.int .i64 xh) ∧ w'.cell? ⟨w.heap.size, 2, none⟩ = some (.int .i64 xt) ∧ w'.cell? ⟨w.heap.size, 3, none⟩ = some (.slice xa xl.length xc)) := Lib.hid fun w' hb => ⟨(hb.cell (lt_of_cell k0)).trans k0, (hb.cell (lt_of_cell k1)).trans k1, (hb.cell (lt_of_cell k2)).trans k2, (hb.cell (lt_of_cell k3)).trans k3⟩
  have HD : Hid (∀ w', Below W2.heap.size W2 w' → (w'.cell? ⟨w.heap.size + 1, 0, none⟩ = some (.string ⟨#[]⟩) ∧ w'.cell? ⟨w.heap.size + 1, 1, none⟩ = some (.int .i64 0) ∧ w'.cell? ⟨w.heap.size + 1, 2, none⟩ = some (.int .i64 0) ∧ w'.cell? ⟨w.heap.size + 1, 3, none⟩ = some (.slice none 0 0)) ∧ ∀ k, w'.frozen? ⟨w.heap.size + 1, k, none⟩ = false) := Lib.hid fun w' hb => ⟨⟨(hb.cell (lt_of_cell d0)).trans d0, (hb.cell (lt_of_cell d1)).trans d1, (hb.cell (lt_of_cell d2)).trans d2, (hb.cell (lt_of_cell d3)).trans d3⟩, fun k => (hb.frozen (p := ⟨w.heap.size + 1, k, none⟩) (show w.heap.size + 1 < _ from lt_of_cell d0)).trans (df k)⟩
  have KC : Hid (∀ w', Below W2.heap.size W2 w' → Calls Try.prog 59 #[.slice xa xl.length xc] w' (MadeI xl w')) := Lib.hid fun w' hb => CloneI_any _ xl w' (hl.later (step HB.out hb)) (by omega)
  clear hb1 hb2 c0 c1 c2 c3 k0 k1 k2 k3 d0 d1 d2 d3 df hl
  obtain ⟨L, hL⟩ : ∃ L, xl.length = L := ⟨_, rfl⟩
  have HL := Lib.hid hL
  rw [hL] at h5 HQ KC ⊢
  rw [hL] at hW1
  clear hL
  go_enter Try.func42, Try.ntmps42
  go_upto_region 1 with fail
  rw [← hW1, ← hW2]
  clear hW1 hW2 hs hs2
  obtain ⟨k0, k1, k2, k3⟩ := HQ.out _ (Below.refl _ W2)
  go_region_held3 (fun w' => w'.cell? ⟨w.heap.size, 0, none⟩ = some (.string (bstr xn)) ∧ w'.cell? ⟨w.heap.size, 1, none⟩ = some (.int .i64 xh) ∧ w'.cell? ⟨w.heap.size, 2, none⟩ = some (.int .i64 xt) ∧ w'.cell? ⟨w.heap.size, 3, none⟩ = some (.slice xa L xc)) (first | exact ⟨k0, k1, k2, k3⟩ | exact HQ.out _ (step (Below.refl _ _).drew hb6) | exact HQ.out _ (step (step (Below.refl _ _).drew hb6) hb7) | exact HQ.out _ (Below.refl _ _).drew | go_keep) (first
    | (go_at_call 59; refine (KC.out _ (Below.refl _ _).drew).mono ?_; rintro e w6 ⟨v6, rfl, ho6, hb6⟩; have HO6 := Lib.hid ho6; obtain ⟨a6, c6, rfl⟩ := Rw.own_form HO6.out; have hb6 : Below W2.heap.size W2.drew w6 := hb6; clear ho6)
    | (go_at_call 39; refine (withLine_any xn xh xt _ _ _ _ _ _ _).mono ?_; rintro e w7 ⟨rfl, hb7⟩; obtain ⟨⟨y0, y1, y2, y3⟩, yf⟩ := HD.out _ (step (step (Below.refl _ _).drew hb6) hb7)))
  have HB7 := Lib.hid (step (step (Below.refl W2.heap.size W2).drew hb6) hb7)
  have HO7 := Lib.hid (Rw.own_below HO6.out hb7)
  clear hb6 hb7 HO6 HQ HD KC k0 k1 k2 k3
  go_wp2
  refine bodyPost_ret (by simp [results, Try.results42, go_sem, y0, y1, y2, y3, yf] <;> rfl) rfl ?_
  have ho := HO7.out
  rw [HL.out] at ho ⊢
  have hlt : w.heap.size + 1 < W2.heap.size := by rw [HS2.out]; omega
  refine ⟨a6, c6, rfl, own_lowerX (ownsRow_setCell_below (ownsRow_setCell_below (ownsRow_setCell_below (ownsRow_setCell_below ho hlt _) hlt _) hlt _) hlt _) HB.out.size, set4k (step HB.out HB7.out) _ (Nat.le_succ _) _ _ _ _⟩
end Cm
end Go.Proofs.Ytnkooajbenhjhaa

/- Contracts: package lock's copies. -/
set_option linter.unusedVariables false
set_option linter.unusedSimpArgs false
namespace Go.Proofs.Ytnkooajbenhjhaa
open Go.RowKit Go.Shelf
namespace Cm

set_option maxHeartbeats 4000000 in
theorem copies_any (v : Value) (L : List LockC) (w : World) (h : RdK w v L) (h5 : L.length ≤ 1000) (h6 : ∀ x ∈ L, x.line.length ≤ 1000) : Calls Try.prog 52 #[v] w (MadeC (vals L) w) := by
  have hm := h.len
  obtain ⟨a, cap, rfl⟩ := h.form
  have HA := Lib.hid (fun i hi => rdk_at h.row i hi)
  have HL : Hid (∀ i (hi : i < L.length) (w' : World), Below w.heap.size w w' → Calls Try.prog 42 #[lockVal L[i]] w' (IsCopy L[i] w')) := Lib.hid fun i hi w' hb => copyOf_any _ w' ((h.line _ (List.getElem_mem hi)).later hb) (h6 _ (List.getElem_mem hi))
  have HV : Hid (∀ i (hi : i < L.length), vals (L.take (i + 1)) = vals (L.take i) ++ [L[i].val]) := Lib.hid fun i hi => by
    rw [List.take_succ_eq_append_getElem hi]
    unfold vals
    rw [List.map_append]
    rfl
  clear h h6
  obtain ⟨N, hN⟩ : ∃ N, L.length = N := ⟨_, rfl⟩
  have HLL := Lib.hid hN
  rw [hN] at hm h5 ⊢
  clear hN
  obtain ⟨i1, hi', hz0', hz1', hz2'⟩ := info_parts infoK
  go_enter Try.func52, Try.ntmps52
  go_wp2
  go_loopw [3, 8] (fun m i wr => ∃ (k : Nat) (M : List LockC), k ≤ N ∧ i = .int .i64 k ∧ M.length = k ∧ Hid (vals M = vals (L.take k)) ∧ Hid (OwnD w.heap.size wr m M) ∧ Hid (Below w.heap.size w wr)) (fun _ i _ => N - (intOf i).toNat)
  case atStart => exact ⟨0, [], by omega, rfl, rfl, Lib.hid rfl, Lib.hid (OwnD.nil _ _), Lib.hid (Below.refl _ _)⟩
  case round =>
    obtain ⟨k, M, hk, rfl, hMk, HM, HO, HB⟩ := hrel
    by_cases hlt : k < N
    · have hkl : k < L.length := by rw [HLL.out]; exact hlt
      obtain ⟨b, o, rfl, hc⟩ := HA.out k hkl
      obtain ⟨q0, q1, q2, q3⟩ := hc _ HB.out
      have hl := HL.out k hkl
      have hv := HV.out k hkl
      clear hc HA HL HV
      generalize L[k] = x at q0 q1 q2 q3 hl hv
      obtain ⟨xn, xh, xt, xl, xa, xc⟩ := x
      unfold lockVal LockC.lv IsCopy at hl
      unfold LockC.lv at q3
      unfold LockC.val at hv
      dsimp only at q0 q1 q2 q3 hl hv
      have HVV := Lib.hid hv
      have HCC := Lib.hid hl
      clear hl hv
      go_upto_region 5 with fail
      obtain ⟨W1, hW1⟩ : ∃ W1, W1 = wr.alloc (.cells #[.string (bstr xn), .int .i64 xh, .int .i64 xt, .slice xa xl.length xc] 39) := ⟨_, rfl⟩
      have HB1 : Hid (Below wr.heap.size wr W1) := Lib.hid (by rw [hW1]; exact newAlloc _ _)
      obtain ⟨z0, z1, z2, z3⟩ := box4 (Below.refl _ (wr.alloc (.cells #[.string (bstr xn), .int .i64 xh, .int .i64 xt, .slice xa xl.length xc] 39)))
      rw [← hW1] at z0 z1 z2 z3 ⊢
      clear hW1 q0 q1 q2 q3
      have HCC := Lib.hid (HCC.out W1 (step HB.out HB1.out))
      have hb1 := HB1.out.size
      have hbw := HB.out.size
      go_wp2_with (first
        | (go_at_call 42; refine HCC.out.mono ?_; rintro e w3 ⟨ya, yc, rfl, hl3, hb3⟩; have HO3 := Lib.hid hl3; have HB3 := Lib.hid (step HB1.out hb3); have HM3 : Hid (w3.ownsRow w.heap.size 39 4 u3 M.length (flatX cellsK M)) := Lib.hid (HO.out.later HB3.out).row; have hb3s := hb3.size; clear hl3 hb3)
        | (at_builtin; refine wpList_append_one_gr cellsK_length (by omega) rfl (.tmp 12) (.tmp 15) 24 rfl 39 i1 _ 56 Try.underlying24 hi' hz0' hz1' hz2' rfl #[.string (bstr xn), .int .i64 xh, .int .i64 xt, .slice ya xl.length yc] (⟨xn, xh, xt, xl, ya, yc⟩ : LockC) rfl (cellsK_one _) M w.heap.size u3 rfl rfl HM3.out (by unfold maxLen; omega) (by omega) (by omega) ?_; intro v6 w6 ho6 hg6 _; have HO6 : Hid (OwnD w.heap.size w6 v6 (M ++ [⟨xn, xh, xt, xl, ya, yc⟩])) := Lib.hid (HO.out.push (x := ⟨xn, xh, xt, xl, ya, yc⟩) (stepAlloc HB3.out _) (Rw.own_alloc HO3.out _) hb1 (Nat.le_trans hbw hb1) hg6 ho6); have HB6 : Hid (Below w.heap.size w w6) := Lib.hid ((step HB.out (stepAlloc HB3.out _)).grown hg6 (by simp; omega) (fun g hg => (Rw.own_lt HM3.out g hg).1)); clear ho6 hg6))
      go_roundw
      case rel => exact ⟨k + 1, M ++ [⟨xn, xh, xt, xl, ya, yc⟩], by omega, by go_num, by simp; omega, Lib.hid (by rw [HVV.out, ← HM.out]; unfold vals; rw [List.map_append]; rfl), HO6, HB6⟩
      case measure => simp [intOf]; omega
    · obtain rfl : k = N := by omega
      go_wp2
      go_ret
      have hM := HM.out
      rw [← HLL.out, List.take_length] at hM
      exact ⟨_, M, rfl, hM, HO.out, HB.out⟩
end Cm
end Go.Proofs.Ytnkooajbenhjhaa

/- Contracts: package lock's replaced. -/
set_option linter.unusedVariables false
set_option linter.unusedSimpArgs false
namespace Go.Proofs.Ytnkooajbenhjhaa
open Go.RowKit Go.Shelf
namespace Cm

theorem RdK.take {w : World} {a : Option Addr} {n cap : Nat} {L : List LockC} (h : RdK w (.slice a n cap) L) (k : Nat) (hk : k ≤ n) : RdK w (.slice a k cap) (L.take k) :=
  ⟨h.row.take k hk, fun x hx => h.line x (List.mem_of_mem_take hx)⟩
theorem RdK.drop {w : World} {a : Option Addr} {n cap : Nat} {L : List LockC} (h : RdK w (.slice a n cap) L) (k : Nat) (hk : k ≤ n) : RdK w (.slice (if cap = k then a else a.map (·.add (k * 4))) (n - k) (cap - k)) (L.drop k) :=
  ⟨h.row.drop (by omega) k hk, fun x hx => h.line x (List.mem_of_mem_drop hx)⟩

/-- Locks told, in memory of the call's own. -/
def MadeT (base : Nat) (l : List LockV) (w : World) (e : Ending) (w' : World) : Prop :=
  ∃ v M, e = .returned v ∧ vals M = l ∧ OwnN base w' v M ∧ Below w.heap.size w w'

theorem vals_append (A B : List LockC) : vals (A ++ B) = vals A ++ vals B := by unfold vals; rw [List.map_append]

theorem NewI.lower {base base' : Nat} {w : World} {u : Value} {l : List Int} (h : NewI base w u l) (hb : base' ≤ base) : NewI base' w u l := ⟨h.1, fun g hg => ⟨Nat.le_trans hb (h.2 g hg).1, (h.2 g hg).2⟩⟩

theorem vlen {M A : List LockC} (h : vals M = vals A) : M.length = A.length := by rw [← vals_length M, h, vals_length]

/-- What has been laid together. -/
theorem cat_done {base : Nat} {w w1 w2 w3 : World} {v1 v2 v3 : Value} {M1 Y M2 : List LockC} (h1 : OwnD w.heap.size w1 v1 M1) (hY : ∀ y ∈ Y, NewI base w y.lv y.line) (h2 : OwnD w1.heap.size w2 v2 M2)
    (hb : base ≤ w.heap.size) (b1 : Below w.heap.size w w1) (b2 : Below w1.heap.size w1 w2) (b3 : Below w2.heap.size w2 w3)
    (ho : w3.ownsRow w2.heap.size 39 4 v3 (M1 ++ (Y ++ M2)).length (flatX cellsK (M1 ++ (Y ++ M2)))) : OwnN base w3 v3 (M1 ++ (Y ++ M2)) := by
  have s1 := b1.size
  have s2 := b2.size
  refine ⟨own_lowerX ho (by omega), fun x hx => ?_⟩
  rcases List.mem_append.1 hx with q | q
  · exact ((h1.n.later (step b2 b3)).line x q).lower hb
  rcases List.mem_append.1 q with q | q
  · exact (hY x q).later (step b1 (step b2 b3))
  · exact ((h2.n.later b3).line x q).lower (by omega)

set_option maxHeartbeats 4000000 in
theorem replaced_any (base : Nat) (v u : Value) (L Y : List LockC) (k : Nat) (w : World) (hk : k < L.length) (h : RdK w v L) (h5 : L.length ≤ 1000) (h6 : ∀ x ∈ L, x.line.length ≤ 1000) (hu : RdX 4 cellsK w u Y) (h7 : Y.length ≤ 1000) (hY : ∀ y ∈ Y, NewI base w y.lv y.line) (hb : base ≤ w.heap.size) :
    Calls Try.prog 37 #[v, .int .i64 (k : Int), u] w (MadeT base ((vals L).take k ++ (vals Y ++ (vals L).drop (k + 1))) w) := by
  have hm := h.len
  have HR := Lib.hid h
  obtain ⟨a, cap, rfl⟩ := h.form
  have hcap : L.length ≤ cap ∧ cap ≤ maxLen := by
    obtain ⟨a', cap', hv, q1, q2, _⟩ := h.row.ex
    cases hv
    exact ⟨q1, q2⟩
  unfold maxLen at hcap
  obtain ⟨hc1, hc2⟩ := hcap
  have HT : Hid (∀ w', Below w.heap.size w w' → Calls Try.prog 52 #[.slice a k cap] w' (MadeC (vals (L.take k)) w')) := Lib.hid fun w' hb => copies_any _ _ w' ((h.take k (by omega)).later hb) (by rw [List.length_take]; omega) (fun x hx => h6 x (List.mem_of_mem_take hx))
  have HD : Hid (∀ w', Below w.heap.size w w' → Calls Try.prog 52 #[.slice (if cap = k + 1 then a else a.map (·.add ((k + 1) * 4))) (L.length - (k + 1)) (cap - (k + 1))] w' (MadeC (vals (L.drop (k + 1))) w')) := Lib.hid fun w' hb => copies_any _ _ w' ((h.drop (k + 1) (by omega)).later hb) (by rw [List.length_drop]; omega) (fun x hx => h6 x (List.mem_of_mem_drop hx))
  have HU := Lib.hid hu
  have HY := Lib.hid hY
  have H7 : Hid (Y.length ≤ 1000) := Lib.hid h7
  have HBB := Lib.hid hb
  have HT1 : Hid ((L.take k).length ≤ 1000) := Lib.hid (by rw [List.length_take]; omega)
  have HD1 : Hid ((L.drop (k + 1)).length ≤ 1000) := Lib.hid (by rw [List.length_drop]; omega)
  obtain ⟨ua, uc, rfl⟩ := hu.form
  clear hu hY h7 hb
  rw [← vals_take, ← vals_drop]
  have g1 : (0 : Int) ≤ (k : Int) := by omega
  have g2 : (k : Int) ≤ (cap : Int) := by omega
  have g3 : IntKind.i64.wrap ((k : Int) + 1) = (k : Int) + 1 := by rw [IntKind.wrap_i64]; omega
  have g4 : (0 : Int) ≤ (k : Int) + 1 := by omega
  have g5 : (k : Int) + 1 ≤ (L.length : Int) := by omega
  have g6 : ((k : Int) + 1).toNat = k + 1 := by omega
  have g7 : decide ((k : Int) < 0) = false := by simp
  have g8 : (k : Int) ≤ (L.length : Int) := by omega
  clear HR h h6
  generalize L.take k = A at HT HT1 ⊢
  generalize L.drop (k + 1) = B at HD HD1 ⊢
  generalize L.length = N at *
  by_cases hcp : cap = k + 1
  · rw [if_pos hcp] at HD
    obtain rfl : N = k + 1 := by omega
    subst hcp
    rw [Nat.sub_self] at HD
    have g9 : (k : Int) ≤ (k : Int) + 1 := by omega
    clear g2
    go_enter Try.func37, Try.ntmps37
    go_upto_region 1 with fail
    go_region_held3 (fun _ => True) (trivial) (first
      | (go_at_call 52; refine (HD.out _ (step (Below.refl _ _).drew hb1)).mono ?_; rintro e w2 ⟨v2, M2, rfl, hm2, ho2, hb2⟩; obtain ⟨a2, c2, rfl⟩ := Rw.own_form ho2.row)
      | (go_at_call 52; refine (HT.out _ (Below.refl _ _).drew).mono ?_; rintro e w1 ⟨v1, M1, rfl, hm1, ho1, hb1⟩; obtain ⟨a1, c1, rfl⟩ := Rw.own_form ho1.row)
      | (go_at_call 57; refine (ConcatK_three _ _ _ _ _ M1 Y M2 ((ho1.later hb2).rd.row.later (newAlloc w2 _)) (HU.out.later (step (step (Below.refl _ _).drew hb1) (step hb2 (newAlloc w2 _)))) (ho2.rd.row.later (newAlloc w2 _)) (by simp [go_sem]) (by simp [go_sem]) (by simp [go_sem]) (by have q1 := vlen hm1; have q2 := vlen hm2; have q3 := HT1.out; have q4 := HD1.out; have q5 := H7.out; omega)).mono ?_; rintro e w3 ⟨v3, rfl, ho3, hb3⟩))
    go_wp2
    go_ret
    exact ⟨v3, M1 ++ (Y ++ M2), rfl, by rw [vals_append, vals_append, hm1, hm2], cat_done ho1 (fun y hy => (HY.out y hy).later (Below.refl _ _).drew) ho2 HBB.out hb1 hb2 (step (newAlloc w2 _) hb3) (own_lowerX ho3 (newAlloc w2 _).size), step (step (Below.refl w.heap.size w).drew hb1) (step hb2 (step (newAlloc w2 _) hb3))⟩
  · rw [if_neg hcp] at HD
    go_enter Try.func37, Try.ntmps37
    go_upto_region 1 with fail
    go_region_held3 (fun _ => True) (trivial) (first
      | (go_at_call 52; refine (HD.out _ (step (Below.refl _ _).drew hb1)).mono ?_; rintro e w2 ⟨v2, M2, rfl, hm2, ho2, hb2⟩; obtain ⟨a2, c2, rfl⟩ := Rw.own_form ho2.row)
      | (go_at_call 52; refine (HT.out _ (Below.refl _ _).drew).mono ?_; rintro e w1 ⟨v1, M1, rfl, hm1, ho1, hb1⟩; obtain ⟨a1, c1, rfl⟩ := Rw.own_form ho1.row)
      | (go_at_call 57; refine (ConcatK_three _ _ _ _ _ M1 Y M2 ((ho1.later hb2).rd.row.later (newAlloc w2 _)) (HU.out.later (step (step (Below.refl _ _).drew hb1) (step hb2 (newAlloc w2 _)))) (ho2.rd.row.later (newAlloc w2 _)) (by simp [go_sem]) (by simp [go_sem]) (by simp [go_sem]) (by have q1 := vlen hm1; have q2 := vlen hm2; have q3 := HT1.out; have q4 := HD1.out; have q5 := H7.out; omega)).mono ?_; rintro e w3 ⟨v3, rfl, ho3, hb3⟩))
    go_wp2
    go_ret
    exact ⟨v3, M1 ++ (Y ++ M2), rfl, by rw [vals_append, vals_append, hm1, hm2], cat_done ho1 (fun y hy => (HY.out y hy).later (Below.refl _ _).drew) ho2 HBB.out hb1 hb2 (step (newAlloc w2 _) hb3) (own_lowerX ho3 (newAlloc w2 _).size), step (step (Below.refl w.heap.size w).drew hb1) (step hb2 (step (newAlloc w2 _) hb3))⟩
end Cm
end Go.Proofs.Ytnkooajbenhjhaa

/- Contract: slices.Insert of one lock. The laws of a copy of elements of more than one cell. -/
set_option linter.unusedVariables false
set_option linter.unusedSimpArgs false
namespace Go.Proofs.Ytnkooajbenhjhaa
open Go.RowKit Go.Shelf

section
variable {P : Program}
theorem run_copy_rowN (w : World) (dT sT ty elem : TypeId) (g o dLen dCap : Nat) (a : Addr) (sLen sCap sz : Nat) (cur : Array Value) (t : TypeId) (cs : List Value)
    (hu : P.underlying dT = some (.slice elem)) (hs : (P.info? elem).map (·.size) = some sz)
    (hg : w.heap[g]? = some (.cells cur t (0, 0))) (hn : cs.length = Nat.min sLen dLen * sz)
    (hsrc : ∀ j v, cs[j]? = some v → w.cell? (a.add j) = some v) (hfit : o + cs.length ≤ cur.size) (h1 : ∀ v ∈ cs, v.oneCell' = true) :
    (Builtin.copy_ #[dT, sT] ty #[.slice (some ⟨g, o, none⟩) dLen dCap, .slice (some a) sLen sCap]).run P w =
      .ok (goInt (Nat.min sLen dLen)) (w.setRow g (cur.toList.take o ++ cs ++ cur.toList.drop (o + cs.length)).toArray) := by
  have hl := run_loadCells_list (P := P) w a cs hsrc
  have hst := run_storeCells_at P g o t cs 0 cur w hg (by simpa using hfit) h1
  cases hq : P.info? elem with
  | none => simp [hq] at hs
  | some i =>
    have hi : i.size = sz := by simpa [hq] using hs
    simp [Builtin.copy_, run_underlying hu, Builtin.lenOf, Builtin.firstCells, sizeOf, typeInfo, hq, hi, ← hn, hl, hst]

theorem grown_setRow (w : World) (g : Nat) (cs : Array Value) : w.grownBy (w.setRow g cs) (some g) := ⟨rfl, rfl, rfl, by simp [World.setRow], fun k hk hne => setRow_other w g k cs (fun e => hne (by rw [e]))⟩

theorem wpList_copy_N {w : World} {ops : Array Oper} {rest : List Oper} {o : Oper} {a : Act} {Q : Exit → Act → World → Prop} (hgd : o.guard = none) (d s : Operand) (dT sT : TypeId)
    (ho : o.op = .call { callee := .builtin .copy, args := #[d, s], argTypes := #[dT, sT] }) (elem : TypeId) (sz : Nat) (hu : P.underlying dT = some (.slice elem)) (hsz : (P.info? elem).map (·.size) = some sz)
    (g off dLen dCap : Nat) (ad : Addr) (sLen sCap : Nat) (hd : a.eval d = .slice (some ⟨g, off, none⟩) dLen dCap) (hs : a.eval s = .slice (some ad) sLen sCap)
    (cur : List Value) (t : TypeId) (hg : w.heap[g]? = some (.cells cur.toArray t (0, 0))) (cs : List Value) (hn : cs.length = Nat.min sLen dLen * sz)
    (hsrc : ∀ j v, cs[j]? = some v → w.cell? (ad.add j) = some v) (hfit : off + cs.length ≤ cur.length) (h1 : ∀ v ∈ cs, v.oneCell' = true)
    (h : ∀ w', Hid (w'.heap[g]? = some (.cells (splice cur off cs).toArray t (0, 0))) → Hid (w.grownBy w' (some g)) → ∀ r, wpList P ops Q rest (a.put o.dst r) w') : wpList P ops Q (o :: rest) a w := by
  refine wpList_plain hgd fun K hK => ?_
  have hrun := run_copy_rowN (P := P) w dT sT o.type elem g off dLen dCap ad sLen sCap sz cur.toArray t cs hu hsz hg hn hsrc (by simpa using hfit) h1
  unfold Oper.wp
  simp [execOp, ho, resolve, invoke, builtin, hd, hs, hrun, Result.andThen]
  exact hK _ _ (h _ (Lib.hid (by simpa [splice] using setRow_heap w g _ _ t _ hg)) (Lib.hid (grown_setRow _ _ _)) _)

theorem step_copy_N {ops : Array Oper} {o : Oper} {a : Act} {w : World} {K : Act → World → Prop} {Q : Exit → Act → World → Prop} {E : Prop} (hgd : o.guard = none) (d s : Operand) (dT sT : TypeId)
    (ho : o.op = .call { callee := .builtin .copy, args := #[d, s], argTypes := #[dT, sT] }) (elem : TypeId) (sz : Nat) (hu : P.underlying dT = some (.slice elem)) (hsz : (P.info? elem).map (·.size) = some sz)
    (g off dLen dCap : Nat) (ad : Addr) (sLen sCap : Nat) (hd : a.eval d = .slice (some ⟨g, off, none⟩) dLen dCap) (hs : a.eval s = .slice (some ad) sLen sCap)
    (cur : List Value) (t : TypeId) (hg : w.heap[g]? = some (.cells cur.toArray t (0, 0))) (cs : List Value) (hn : cs.length = Nat.min sLen dLen * sz)
    (hsrc : ∀ j v, cs[j]? = some v → w.cell? (ad.add j) = some v) (hfit : off + cs.length ≤ cur.length) (h1 : ∀ v ∈ cs, v.oneCell' = true)
    (h : ∀ w', Hid (w'.heap[g]? = some (.cells (splice cur off cs).toArray t (0, 0))) → Hid (w.grownBy w' (some g)) → ∀ r, K (a.put o.dst r) w') :
    if Region.wanted o (yielded ops a.tmps) = true then Oper.wp P o a w K Q else E := by
  have hw : Region.wanted o (yielded ops a.tmps) = true := by simp [Region.wanted, hgd]
  rw [if_pos hw]
  have hrun := run_copy_rowN (P := P) w dT sT o.type elem g off dLen dCap ad sLen sCap sz cur.toArray t cs hu hsz hg hn hsrc (by simpa using hfit) h1
  unfold Oper.wp
  simp [execOp, ho, resolve, invoke, builtin, hd, hs, hrun, Result.andThen]
  exact h _ (Lib.hid (by simpa [splice] using setRow_heap w g _ _ t _ hg)) (Lib.hid (grown_setRow _ _ _)) _
end

theorem splice_in {α : Type} (A D E Y : List α) (h : Y.length ≤ E.length) : splice (splice (A ++ (D ++ E)) (A.length + Y.length) D) A.length Y = A ++ (Y ++ (D ++ E.drop Y.length)) := by
  have e1 : (A ++ (D ++ E)).drop (A.length + Y.length + D.length) = E.drop Y.length := by
    rw [List.drop_append, List.drop_append]
    simp only [List.drop_eq_nil_of_le (show A.length ≤ A.length + Y.length + D.length by omega), List.drop_eq_nil_of_le (show D.length ≤ A.length + Y.length + D.length - A.length by omega), List.nil_append]
    congr 1
    omega
  have hl : ((A ++ (D ++ E)).take (A.length + Y.length)).length = A.length + Y.length := by rw [List.length_take]; simp; omega
  unfold splice
  rw [e1]
  generalize hX : (A ++ (D ++ E)).take (A.length + Y.length) = X at hl
  have e2 : X.take A.length = A := by rw [← hX, List.take_take, Nat.min_eq_left (by omega), List.take_left']; rfl
  rw [List.take_append_of_le_length (by omega), e2, ← hl, List.drop_left']
  rfl

theorem splice_new {α : Type} (A Z Y D : List α) : splice (splice (A ++ Z) A.length Y) (A.length + Y.length) D = A ++ (Y ++ (D ++ Z.drop (Y.length + D.length))) := by
  have e1 : splice (A ++ Z) A.length Y = (A ++ Y) ++ Z.drop Y.length := by
    unfold splice
    rw [List.take_left', List.drop_append]
    · simp
    · rfl
  rw [e1]
  unfold splice
  rw [show A.length + Y.length = (A ++ Y).length by simp, List.take_left', List.drop_append, List.drop_drop]
  · simp
  · rfl
end Go.Proofs.Ytnkooajbenhjhaa

/- Contract: slices.Insert of one lock. -/
set_option linter.unusedVariables false
set_option linter.unusedSimpArgs false
namespace Go.Proofs.Ytnkooajbenhjhaa
open Go.RowKit Go.Shelf
namespace Cm

/-- A row grown by one, at this place. -/
def Inserted (base : Nat) (m : Value) (M : List LockC) (k : Nat) (y : LockC) (w : World) (e : Ending) (w' : World) : Prop :=
  ∃ v, e = .returned v ∧ w'.ownsRow base 39 4 v (M.length + 1) (flatX cellsK (M.take k ++ y :: M.drop k)) ∧ w.grownBy w' m.ownBlock

section
variable (base : Nat) (M : List LockC) (k : Nat) (y : LockC) (b : Nat) (w : World)

theorem sizeK : (Try.prog.info? 39).map (·.size) = some 4 := by
  obtain ⟨i1, hi', _, hz1', _⟩ := info_parts infoK
  rw [hi']
  simp [hz1']

theorem src_one (hy : w.heap[b]? = some (.cells #[.string (bstr y.name), .int .i64 y.holder, .int .i64 y.token, y.lv] 39)) : RdX 4 cellsK w (.slice (some ⟨b, 0, none⟩) 1 1) [y] := RdX.one hy rfl

set_option maxHeartbeats 1000000 in
theorem Insert_end (m : Value) (hown : w.ownsRow base 39 4 m M.length (flatX cellsK M)) (h5 : M.length ≤ 1000) (hb : base ≤ w.heap.size) (hy : w.heap[b]? = some (.cells #[.string (bstr y.name), .int .i64 y.holder, .int .i64 y.token, y.lv] 39)) (hk : k = M.length) :
    Calls Try.prog 51 #[m, .int .i64 (k : Int), .slice (some ⟨b, 0, none⟩) 1 1] w (Inserted base m M k y w) := by
  subst hk
  have HR := Lib.hid (src_one y b w hy)
  obtain ⟨a, c, rfl⟩ := Rw.own_form hown
  have HO := Lib.hid hown
  have hc : M.length ≤ c := by
    rcases hown.2 with ⟨q, _⟩ | ⟨g, cap, cur, q, _, _, q2, _⟩
    · injection q with _ q1 q2; omega
    · injection q with _ q1 q3; omega
  obtain ⟨i1, hi', hz0', hz1', hz2'⟩ := info_parts infoK
  have HT : Hid (flatX cellsK (M.take M.length ++ y :: M.drop M.length) = flatX cellsK M ++ flatX cellsK [y]) := Lib.hid (by rw [List.take_length, List.drop_length, flatX_append])
  clear hown hy
  obtain ⟨N, hN⟩ : ∃ N, M.length = N := ⟨_, rfl⟩
  unfold Inserted
  rw [hN] at HT HO h5 hc ⊢
  clear hN
  generalize hF : flatX cellsK (M.take N ++ y :: M.drop N) = F at HT ⊢
  clear hF
  generalize flatX cellsK M = FM at HT HO
  have g1 : (0 : Int) ≤ (N : Int) := by omega
  have g2 : (N : Int) ≤ (c : Int) := by omega
  have g3 : decide ((N : Int) < 0) = false := by simp
  go_enter Try.func51, Try.ntmps51
  go_wp2_with (at_builtin; refine wpList_append_rdx cellsK_length (by omega) cellsK_one rfl (.tmp 23) (.tmp 24) 24 rfl base 39 i1 _ 56 Try.underlying24 hi' hz0' hz1' hz2' rfl (.slice a N c) N FM rfl HO.out _ [y] rfl HR.out (by unfold maxLen; simp; omega) (by simp; omega) hb ?_; intro v1 w2 hown2 hgrow2)
  all_goals
    go_ret
    exact ⟨v1, rfl, by rw [HT.out]; exact hown2, by cases a <;> exact hgrow2⟩

theorem row_open {v : Value} (h : w.ownsRow base 39 4 v M.length (flatX cellsK M)) (h0 : 0 < M.length) : ∃ g c cur, v = .slice (some ⟨g, 0, none⟩) M.length c ∧ base ≤ g ∧ w.heap[g]? = some (.cells cur 39 (0, 0)) ∧ M.length ≤ c ∧ c ≤ maxLen ∧ cur.size = c * 4 ∧ cur.toList.take (M.length * 4) = flatX cellsK M := by
  rcases h.2 with ⟨_, q⟩ | q
  · omega
  · exact q

theorem setRow_below {base : Nat} {w w' : World} {g : Nat} (hg : w.grownBy w' (some g)) (h : w.heap.size ≤ g) : Below w.heap.size w w' :=
  ⟨hg.os, hg.tape, hg.output, hg.size, fun k hk => hg.block k hk (fun e => by cases e; omega)⟩

theorem grown_below {w w' : World} (h : Below w.heap.size w w') (row : Option Nat) : w.grownBy w' row := ⟨h.os, h.tape, h.output, h.size, fun k hk _ => h.block k hk⟩

theorem grown_trans {w w1 w2 : World} {row : Option Nat} (h : w.grownBy w1 row) (h2 : w1.grownBy w2 row) : w.grownBy w2 row :=
  ⟨h2.os.trans h.os, h2.tape.trans h.tape, h2.output.trans h.output, Nat.le_trans h.size h2.size, fun k hk hne => (h2.block k (Nat.lt_of_lt_of_le hk h.size) hne).trans (h.block k hk hne)⟩

set_option maxHeartbeats 2000000 in
/-- In the middle, no room: a new row. -/
theorem Insert_grow (m : Value) (hown : w.ownsRow base 39 4 m M.length (flatX cellsK M)) (h5 : M.length ≤ 1000) (hb : base ≤ w.heap.size) (hy : w.heap[b]? = some (.cells #[.string (bstr y.name), .int .i64 y.holder, .int .i64 y.token, y.lv] 39)) (hk : k < M.length)
    (g c : Nat) (hm : m = .slice (some ⟨g, 0, none⟩) M.length c) (hroom : c < M.length + 1) :
    Calls Try.prog 51 #[m, .int .i64 (k : Int), .slice (some ⟨b, 0, none⟩) 1 1] w (Inserted base m M k y w) := by
  obtain ⟨g', c', cur, hm', hbg, hcur, hc1, hc2, hc3, hc4⟩ := row_open base M w hown (by omega)
  rw [hm] at hm'
  injection hm' with e1 e2 e3
  cases e1
  subst e3
  subst hm
  obtain rfl : c = M.length := by omega
  unfold maxLen at hc2
  have HR := Lib.hid (RdX.own cellsK_length hown)
  have HY := Lib.hid (src_one y b w hy)
  have hgw : g < w.heap.size := (Rw.own_lt hown g rfl).2
  have HM : Hid (flatX cellsK (M.take k ++ y :: M.drop k) = flatX cellsK (M.take k) ++ (flatX cellsK [y] ++ flatX cellsK (M.drop k))) := Lib.hid (by
    rw [flatX_append, flatX_cons, ← flatX_cons, show y :: M.drop k = [y] ++ M.drop k from rfl, flatX_append])
  have hA : (flatX cellsK (M.take k)).length = k * 4 := by rw [flatX_length cellsK_length, List.length_take, Nat.min_eq_left (by omega)]
  have hD : (flatX cellsK (M.drop k)).length = (M.length - k) * 4 := by rw [flatX_length cellsK_length, List.length_drop]
  obtain ⟨i1, hi', hz0', hz1', hz2'⟩ := info_parts infoK
  have hold : (Builtin.firstCells i1.size k (.slice (some ⟨g, 0, none⟩) k M.length)).run Try.prog w.drew = .ok (flatX cellsK (M.take k)).toArray w.drew := by
    rw [hz1']
    exact run_firstCells_some (P := Try.prog) (w := w.drew) 4 k ⟨g, 0, none⟩ k M.length _ hA (RdX.news cellsK_length (by omega) ((HR.out.take k (by omega)).later (Below.refl _ _).drew))
  have hrz : ∀ ty, (Builtin.append_ #[24, 3] ty #[.slice (some ⟨g, 0, none⟩) k M.length, .int .i64 ((M.length + 1 - k : Nat) : Int)]).run Try.prog w = _ := fun ty =>
    Lib.run_append_grow_zeros (P := Try.prog) w 24 3 ty 39 i1 _ .i64 .i64 Try.underlying24 Try.underlying3 hi' hz0' (some ⟨g, 0, none⟩) k M.length _ hold (M.length + 1 - k) (by omega) (by omega) (by omega) (by omega) (by rw [hz2']; omega) (by rw [hz2', show k + (M.length + 1 - k) = M.length + 1 by omega]; exact growslice_fits (by omega) (by omega))
  rw [show k + (M.length + 1 - k) = M.length + 1 by omega] at hrz
  have hge := grownCap_ge w (M.length + 1) M.length 39
  have hle := grownCap_le_maxLen w (M.length + 1) M.length 39 (by unfold maxLen; omega)
  generalize grownCap w (M.length + 1) M.length 39 = G at hrz hge hle
  have hle' := hle
  unfold maxLen at hle'
  have hbw : b < w.heap.size := (Array.getElem?_eq_some_iff.1 hy).1
  obtain ⟨Z, hZ⟩ : ∃ Z : List Value, Z = (Builtin.zeroCells (Value.agg #[.string ⟨#[]⟩, .int .i64 0, .int .i64 0, .slice none 0 0]).cells (M.length + 1 - k)).toList ++ (Builtin.zeroCells (Value.agg #[.string ⟨#[]⟩, .int .i64 0, .int .i64 0, .slice none 0 0]).cells (G - (M.length + 1))).toList := ⟨_, rfl⟩
  have hZl : Z.length = (G - k) * 4 := by
    rw [hZ]
    simp [Builtin.zeroCells, Value.cells]
    omega
  have hZe : (flatX cellsK (M.take k)).toArray ++ Builtin.zeroCells (Value.agg #[.string ⟨#[]⟩, .int .i64 0, .int .i64 0, .slice none 0 0]).cells (M.length + 1 - k) ++ Builtin.zeroCells (Value.agg #[.string ⟨#[]⟩, .int .i64 0, .int .i64 0, .slice none 0 0]).cells (G - (M.length + 1)) = (flatX cellsK (M.take k) ++ Z).toArray := by
    rw [hZ]
    apply Array.ext'
    simp
  rw [hZe] at hrz
  clear hZe hZ hold
  have HDR := Lib.hid (HR.out.drop (by omega) k (by omega))
  rw [if_neg (by omega), Option.map_some, show (⟨g, 0, none⟩ : Addr).add (k * 4) = ⟨g, k * 4, none⟩ by unfold Addr.add; split <;> simp_all] at HDR
  have HYN := Lib.hid (RdX.news cellsK_length (by omega) HY.out)
  obtain ⟨W1, hW1⟩ : ∃ W1, W1 = w.drew.alloc (.cells (flatX cellsK (M.take k) ++ Z).toArray 39) := ⟨_, rfl⟩
  have HG1 : Hid (W1.heap[w.heap.size]? = some (.cells (flatX cellsK (M.take k) ++ Z).toArray 39 (0, 0))) := Lib.hid (by rw [hW1]; exact heap_alloc_new w.drew _)
  have HB1 : Hid (Below w.heap.size w W1) := Lib.hid (by rw [hW1]; exact (Below.refl _ _).drew.alloc (Nat.le_refl _) _)
  rw [← hW1] at hrz
  have HY1 := Lib.hid (RdX.news cellsK_length (by omega) (HY.out.later HB1.out))
  have HDN : Hid (∀ w', Below w.heap.size w w' → ∀ j u, (flatX cellsK (M.drop k))[j]? = some u → w'.cell? ((⟨g, k * 4, none⟩ : Addr).add j) = some u) := Lib.hid (fun w' hbb => RdX.news cellsK_length (by omega) (HDR.out.later hbb))
  have hlY : (flatX cellsK [y]).length = 4 := by rw [flatX_length cellsK_length]; rfl
  have HF := Lib.hid (splice_new (flatX cellsK (M.take k)) Z (flatX cellsK [y]) (flatX cellsK (M.drop k)))
  rw [hA, hlY] at HF
  have H1Y := Lib.hid (flatX_one cellsK_one [y])
  have H1D := Lib.hid (flatX_one cellsK_one (M.drop k))
  have hpl : (flatX cellsK (M.take k) ++ Z).length = G * 4 := by rw [List.length_append, hA, hZl]; omega
  have hsl : (splice (flatX cellsK (M.take k) ++ Z) (k * 4) (flatX cellsK [y])).length = G * 4 := by rw [length_splice _ _ _ (by rw [hpl, hlY]; omega), hpl]
  have HRZ := Lib.hid hrz
  clear hrz hW1 hcur hc3 hc4 hc1 hy hown
  unfold Inserted
  rw [HM.out]
  generalize flatX cellsK (M.take k) = A at *
  generalize flatX cellsK (M.drop k) = D at *
  generalize flatX cellsK [y] = Y at *
  generalize M.length = N at *
  have hw1 : IntKind.i64.wrap ((k : Int) + 1) = (k : Int) + 1 := by rw [IntKind.wrap_i64]; omega
  have hkk : ((N + 1 - k : Nat) : Int) = (N : Int) + 1 - (k : Int) := by omega
  rw [hkk] at HRZ
  have z1 : ((k : Int) == (N : Int)) = false := by simp; omega
  have z2 : decide ((N : Int) < (N : Int) + 1) = true := decide_eq_true (by omega)
  have g1 : (0 : Int) ≤ (k : Int) := by omega
  have g2 : (k : Int) ≤ (N : Int) := by omega
  have g3 : decide ((k : Int) < 0) = false := by simp
  have g4 : (0 : Int) ≤ (k : Int) + 1 := by omega
  have g5 : ((k : Int) + 1).toNat = k + 1 := by omega
  have n1 : ¬ (N = k) := by omega
  have n2 : ¬ (G = k) := by omega
  have n3 : ¬ (G = k + 1) := by omega
  clear hkk
  go_enter Try.func51, Try.ntmps51
  go_wp2_with (first
    | (at_builtin; refine Lib.wpList_append_run _ rfl _ _ _ _ rfl _ _ rfl rfl _ _ (HRZ.out _) ?_)
    | (refine wpList_copy_N rfl (.tmp 43) (.tmp 44) 24 24 rfl 39 4 Try.underlying24 sizeK w.heap.size (k * 4) _ _ ⟨b, 0, none⟩ 1 1 rfl rfl (A ++ Z) 39 HG1.out Y (by rw [hlY]; simp only [Nat.min_def]; split <;> omega) HY1.out (by rw [hlY, hpl]; omega) H1Y.out ?_; intro w2 HG2 HW2 r2))
  have mixed : Try.prog.follows Departure.mixedOrders = true := by kernel_rfl
  have HB2 : Hid (Below w.heap.size w w2) := Lib.hid (HB1.out.grown HW2.out HB1.out.size (fun q hq => by cases hq; exact Nat.le_refl _))
  go_region_law_o (refine step_copy_N rfl (.tmp 50) (.tmp 53) 24 24 rfl 39 4 Try.underlying24 sizeK w.heap.size ((k + 1) * 4) (N + 1 - (k + 1)) (G - (k + 1)) ⟨g, k * 4, none⟩ (N - k) (N - k) (by simp [Act.eval, Act.put]) (by simp [Act.eval, Act.put]) (splice (A ++ Z) (k * 4) Y) 39 HG2.out D (by rw [hD]; simp only [Nat.min_def]; split <;> omega) (HDN.out _ HB2.out.drew) (by rw [hsl, hD]; omega) H1D.out ?_; intro w3 HG3 HW3 r3)
  have HB3 : Hid (Below w.heap.size w w3) := Lib.hid (HB2.out.drew.grown HW3.out HB2.out.size (fun q hq => by cases hq; exact Nat.le_refl _))
  have hg3 := HG3.out
  rw [show (k + 1) * 4 = k * 4 + 4 by omega, HF.out] at hg3
  have HGG := Lib.hid hg3
  clear hg3 HG3 HG2 HG1 HRZ HF HDN HYN HY1 HB1 HB2 HW2 HW3
  go_wp2
  go_ret
  refine ⟨_, rfl, ⟨by simp [hA, hlY, hD]; omega, .inr ⟨w.heap.size, G, _, rfl, hb, HGG.out, hge, hle, ?_, ?_⟩⟩, grown_below HB3.out _⟩
  · simp [hA, hlY, hD, hZl]
    omega
  · have e : (N + 1) * 4 = (A ++ (Y ++ D)).length := by simp [hA, hlY, hD]; omega
    rw [e, show A ++ (Y ++ (D ++ Z.drop (4 + D.length))) = (A ++ (Y ++ D)) ++ Z.drop (4 + D.length) by simp]
    exact List.take_left' rfl

theorem add_at (g j : Nat) : (⟨g, 0, none⟩ : Addr).add j = ⟨g, j, none⟩ := by unfold Addr.add; split <;> simp_all

theorem shape_at {w : World} {g : Nat} {cs : Array Value} {t : TypeId} (h : w.heap[g]? = some (.cells cs t (0, 0))) : w.shape? g = some (t, cs.size) := by
  simp [World.shape?, h]
theorem frozen_at {w : World} {g o : Nat} {cs : Array Value} {t : TypeId} (h : w.heap[g]? = some (.cells cs t (0, 0))) : w.frozen? ⟨g, o, none⟩ = false := by
  simp [World.frozen?, h]

set_option maxHeartbeats 2000000 in
/-- In the middle, there is room: in place. -/
theorem Insert_shift (m : Value) (hown : w.ownsRow base 39 4 m M.length (flatX cellsK M)) (h5 : M.length ≤ 1000) (hb : base ≤ w.heap.size) (hy : w.heap[b]? = some (.cells #[.string (bstr y.name), .int .i64 y.holder, .int .i64 y.token, y.lv] 39)) (hk : k < M.length)
    (g c : Nat) (hm : m = .slice (some ⟨g, 0, none⟩) M.length c) (hroom : M.length + 1 ≤ c) (hne : b ≠ g) :
    Calls Try.prog 51 #[m, .int .i64 (k : Int), .slice (some ⟨b, 0, none⟩) 1 1] w (Inserted base m M k y w) := by
  obtain ⟨g', c', cur, hm', hbg, hcur, hc1, hc2, hc3, hc4⟩ := row_open base M w hown (by omega)
  rw [hm] at hm'
  injection hm' with e1 e2 e3
  cases e1
  subst e3
  subst hm
  have hmx := hc2
  unfold maxLen at hc2
  have hgw : g < w.heap.size := (Rw.own_lt hown g rfl).2
  have hbw : b < w.heap.size := (Array.getElem?_eq_some_iff.1 hy).1
  have HM : Hid (flatX cellsK (M.take k ++ y :: M.drop k) = flatX cellsK (M.take k) ++ (flatX cellsK [y] ++ flatX cellsK (M.drop k))) := Lib.hid (by
    rw [flatX_append, flatX_cons, ← flatX_cons, show y :: M.drop k = [y] ++ M.drop k from rfl, flatX_append])
  have hA : (flatX cellsK (M.take k)).length = k * 4 := by rw [flatX_length cellsK_length, List.length_take, Nat.min_eq_left (by omega)]
  have hD : (flatX cellsK (M.drop k)).length = (M.length - k) * 4 := by rw [flatX_length cellsK_length, List.length_drop]
  have hlY : (flatX cellsK [y]).length = 4 := by rw [flatX_length cellsK_length]; rfl
  obtain ⟨E, hE⟩ : ∃ E, E = cur.toList.drop (M.length * 4) := ⟨_, rfl⟩
  have hEl : E.length = (c - M.length) * 4 := by rw [hE, List.length_drop, Array.length_toList, hc3]; omega
  have hcE : cur.toList = flatX cellsK (M.take k) ++ (flatX cellsK (M.drop k) ++ E) := by
    rw [← List.append_assoc, ← flatX_append, List.take_append_drop, ← hc4, hE, List.take_append_drop]
  have hcA : cur = (flatX cellsK (M.take k) ++ (flatX cellsK (M.drop k) ++ E)).toArray := by rw [← hcE]
  have hov : ∀ lb cb, (callFunc 64 #[.slice (some ⟨b, 0, none⟩) 1 1, .slice (some ⟨g, (k + 1) * 4, none⟩) lb cb]).run Try.prog w = .ok (.value (.bool false)) w := fun lb cb => by
    obtain ⟨i1, hi', hz0', hz1', hz2'⟩ := info_parts infoK
    rw [run_callFunc_extern Try.func64 (by kernel_rfl) (by kernel_rfl) (by kernel_rfl) (e := Extern.SlicesOverlaps.overlaps #[24, 24] #[4]) (by kernel_rfl),
      Lib.run_overlaps_apart w 24 4 39 Try.underlying24 4 (fun w => by simp [sizeOf, typeInfo, hi', hz1']) ⟨b, 0, none⟩ ⟨g, (k + 1) * 4, none⟩ 1 1 lb cb hne 39 39 4 (c * 4) (shape_at hy) (by rw [← hc3]; exact shape_at hcur) (by omega) (frozen_at hy) (frozen_at hy)]
    rfl
  have HOV := Lib.hid hov
  rw [hcA] at hcur
  have HG0 := Lib.hid hcur
  have HR := Lib.hid (RdX.own cellsK_length hown)
  have HDR := Lib.hid (HR.out.drop (by omega) k (by omega))
  rw [if_neg (by omega), Option.map_some, show (⟨g, 0, none⟩ : Addr).add (k * 4) = ⟨g, k * 4, none⟩ from add_at g (k * 4)] at HDR
  have HDN := Lib.hid (RdX.news cellsK_length (by omega) (HDR.out.later (Below.refl _ w).drew))
  have HYN : Hid (∀ w' : World, w'.heap[b]? = w.heap[b]? → ∀ j u, (flatX cellsK [y])[j]? = some u → w'.cell? ((⟨b, 0, none⟩ : Addr).add j) = some u) := Lib.hid (fun w' hw' => RdX.news cellsK_length (by omega) (src_one y b w' (hw'.trans hy)))
  have HF := Lib.hid (splice_in (flatX cellsK (M.take k)) (flatX cellsK (M.drop k)) E (flatX cellsK [y]) (by rw [hlY]; omega))
  rw [hA, hlY] at HF
  have H1Y := Lib.hid (flatX_one cellsK_one [y])
  have H1D := Lib.hid (flatX_one cellsK_one (M.drop k))
  have hpl : (flatX cellsK (M.take k) ++ (flatX cellsK (M.drop k) ++ E)).length = c * 4 := by rw [List.length_append, List.length_append, hA, hD, hEl]; omega
  have hsl : (splice (flatX cellsK (M.take k) ++ (flatX cellsK (M.drop k) ++ E)) ((k + 1) * 4) (flatX cellsK (M.drop k))).length = c * 4 := by rw [length_splice _ _ _ (by rw [hpl, hD]; omega), hpl]
  clear hov hcA hcE hE hcur hc3 hc4 hc1 hy hown HR HDR
  unfold Inserted
  rw [HM.out]
  generalize flatX cellsK (M.take k) = A at *
  generalize flatX cellsK (M.drop k) = D at *
  generalize flatX cellsK [y] = Y at *
  generalize M.length = N at *
  have hw1 : IntKind.i64.wrap ((k : Int) + 1) = (k : Int) + 1 := by rw [IntKind.wrap_i64]; omega
  have z1 : ((k : Int) == (N : Int)) = false := by simp; omega
  have z2 : decide ((c : Int) < (N : Int) + 1) = false := decide_eq_false (by omega)
  have g1 : (0 : Int) ≤ (k : Int) := by omega
  have g2 : (k : Int) ≤ (N : Int) := by omega
  have g3 : decide ((k : Int) < 0) = false := by simp
  have g4 : (0 : Int) ≤ (k : Int) + 1 := by omega
  have g5 : ((k : Int) + 1).toNat = k + 1 := by omega
  have g6 : (N : Int) + 1 ≤ (c : Int) := by omega
  have g7 : (k : Int) ≤ (N : Int) + 1 := by omega
  have g8 : (k : Int) + 1 ≤ (N : Int) + 1 := by omega
  have g9 : ((N : Int) + 1).toNat = N + 1 := by omega
  have g10 : (0 : Int) ≤ (N : Int) + 1 := by omega
  have n2 : ¬ (c = k) := by omega
  have n3 : ¬ (c = k + 1) := by omega
  have mixed : Try.prog.follows Departure.mixedOrders = true := by kernel_rfl
  go_enter Try.func51, Try.ntmps51
  go_wp2_with (simp only [HOV.out])
  go_region_law_o (refine step_copy_N rfl (.tmp 73) (.tmp 76) 24 24 rfl 39 4 Try.underlying24 sizeK g ((k + 1) * 4) (N + 1 - (k + 1)) (c - (k + 1)) ⟨g, k * 4, none⟩ (N + 1 - k) (c - k) (by simp [Act.eval, Act.put]) (by simp [Act.eval, Act.put]) (A ++ (D ++ E)) 39 HG0.out D (by rw [hD]; simp only [Nat.min_def]; split <;> omega) HDN.out (by rw [hpl, hD]; omega) H1D.out ?_; intro w3 HG3 HW3 r3)
  have HY3 := Lib.hid (HYN.out w3 (HW3.out.block b hbw (fun e => by cases e; exact hne rfl)))
  go_wp2_with (refine wpList_copy_N rfl (.tmp 80) (.tmp 81) 24 24 rfl 39 4 Try.underlying24 sizeK g (k * 4) (N + 1 - k) (c - k) ⟨b, 0, none⟩ 1 1 rfl rfl (splice (A ++ (D ++ E)) ((k + 1) * 4) D) 39 HG3.out Y (by rw [hlY]; simp only [Nat.min_def]; split <;> omega) HY3.out (by rw [hlY, hsl]; omega) H1Y.out ?_; intro w4 HG4 HW4 r4)
  go_ret
  have hg4 := HG4.out
  rw [show (k + 1) * 4 = k * 4 + 4 by omega, HF.out] at hg4
  refine ⟨_, rfl, ⟨by simp [hA, hlY, hD]; omega, .inr ⟨g, c, _, rfl, hbg, hg4, hroom, hmx, ?_, ?_⟩⟩, grown_trans (show w.grownBy w3 (some g) from ⟨HW3.out.os, HW3.out.tape, HW3.out.output, HW3.out.size, HW3.out.block⟩) HW4.out⟩
  · simp [hA, hlY, hD, hEl]
    omega
  · have e : (N + 1) * 4 = (A ++ (Y ++ D)).length := by simp [hA, hlY, hD]; omega
    rw [e, show A ++ (Y ++ (D ++ E.drop 4)) = (A ++ (Y ++ D)) ++ E.drop 4 by simp]
    exact List.take_left' rfl

/-- One lock laid in its place. -/
theorem Insert_any (m : Value) (hown : w.ownsRow base 39 4 m M.length (flatX cellsK M)) (h5 : M.length ≤ 1000) (hb : base ≤ w.heap.size) (hy : w.heap[b]? = some (.cells #[.string (bstr y.name), .int .i64 y.holder, .int .i64 y.token, y.lv] 39)) (hk : k ≤ M.length) (hne : m.ownBlock ≠ some b) :
    Calls Try.prog 51 #[m, .int .i64 (k : Int), .slice (some ⟨b, 0, none⟩) 1 1] w (Inserted base m M k y w) := by
  rcases Nat.lt_or_ge k M.length with hlt | hge
  · obtain ⟨g, c, cur, rfl, hbg, hcur, hc1, hc2, hc3, hc4⟩ := row_open base M w hown (by omega)
    rcases Nat.lt_or_ge c (M.length + 1) with q | q
    · exact Insert_grow base M k y b w _ hown h5 hb hy hlt g c rfl q
    · exact Insert_shift base M k y b w _ hown h5 hb hy hlt g c rfl q (fun e => hne (by rw [e]; rfl))
  · exact Insert_end base M k y b w m hown h5 hb hy (by omega)
end
end Cm
end Go.Proofs.Ytnkooajbenhjhaa

/- Contracts: package lock's add. -/
set_option linter.unusedVariables false
set_option linter.unusedSimpArgs false
namespace Go.Proofs.Ytnkooajbenhjhaa
open Go.RowKit Go.Shelf
namespace Cm

theorem own_ne_lt {w : World} {base size n b : Nat} {e : TypeId} {v : Value} {xs : List Value} (h : w.ownsRow base e size v n xs) (hb : w.heap.size ≤ b) : v.ownBlock ≠ some b := fun q => by
  have := (Rw.own_lt h _ q).2
  omega

/-- Locks and a code told. -/
def GetsB (r : List LockV × Int) (w : World) (e : Ending) (w' : World) : Prop :=
  ∃ v M, e = .returned (.tuple #[v, .int .i64 r.2]) ∧ vals M = r.1 ∧ OwnN w.heap.size w' v M ∧ Below w.heap.size w w'

theorem ins_done {base k : Nat} {W w3 : World} {m v : Value} {M : List LockC} {y : LockC} (ho : OwnD base W m M) (hy : ∀ w', NewI base w' y.lv y.line) (hg : W.grownBy w3 m.ownBlock)
    (h3 : w3.ownsRow base 39 4 v (M.length + 1) (flatX cellsK (M.take k ++ y :: M.drop k))) (hk : k ≤ M.length) : OwnN base w3 v (M.take k ++ y :: M.drop k) := by
  refine ⟨?_, fun x hx => ?_⟩
  · have e : (M.take k ++ y :: M.drop k).length = M.length + 1 := by simp; omega
    rw [e]; exact h3
  · have hM : ∀ x ∈ M, NewI base w3 x.lv x.line := fun x hx => NewI.own (Rw.own_other (ho.line x hx) hg (own_types ho.row (ho.line x hx) (by decide)))
    rcases List.mem_append.1 hx with q | q
    · exact hM x (List.mem_of_mem_take q)
    · rcases List.mem_cons.1 q with q | q
      · subst q; exact hy w3
      · exact hM x (List.mem_of_mem_drop q)

set_option maxHeartbeats 4000000 in
theorem add_any (v : Value) (L : List LockC) (n : List UInt8) (c t : Int) (w : World) (h : RdK w v L) (h5 : L.length ≤ 1000) (h6 : ∀ x ∈ L, x.line.length ≤ 1000) (hi : idxI (isNm n) (vals L) = -1) :
    Calls Try.prog 34 #[v, .agg #[.string (bstr n), .int .i64 c, .int .i64 t, .slice none 0 0]] w (GetsB (if 4 ≤ L.length then ([], 5) else (putK ⟨n, c, t, []⟩ (vals L), 0)) w) := by
  have hm := h.len
  have hb1 := newAlloc w (.cells #[.string (bstr n), .int .i64 c, .int .i64 t, .slice none 0 0] 39)
  obtain ⟨c0, c1, c2, c3⟩ := box4 (Below.refl _ (w.alloc (.cells #[.string (bstr n), .int .i64 c, .int .i64 t, .slice none 0 0] 39)))
  obtain ⟨W1, hW1⟩ : ∃ W1, W1 = w.alloc (.cells #[.string (bstr n), .int .i64 c, .int .i64 t, .slice none 0 0] 39) := ⟨_, rfl⟩
  rw [← hW1] at hb1 c0 c1 c2 c3
  have HB := Lib.hid hb1
  have HQ : Hid (∀ w', Below W1.heap.size W1 w' → w'.cell? ⟨w.heap.size, 0, none⟩ = some (.string (bstr n)) ∧ w'.cell? ⟨w.heap.size, 1, none⟩ = some (.int .i64 c) ∧ w'.cell? ⟨w.heap.size, 2, none⟩ = some (.int .i64 t) ∧ w'.cell? ⟨w.heap.size, 3, none⟩ = some (.slice none 0 0)) := Lib.hid fun w' hb => ⟨(hb.cell (lt_of_cell c0)).trans c0, (hb.cell (lt_of_cell c1)).trans c1, (hb.cell (lt_of_cell c2)).trans c2, (hb.cell (lt_of_cell c3)).trans c3⟩
  have KC : Hid (∀ w', Below W1.heap.size W1 w' → Calls Try.prog 52 #[v] w' (MadeC (vals L) w')) := Lib.hid fun w' hb => copies_any _ _ w' (h.later (step hb1 hb)) h5 h6
  have KP : Hid (∀ w', Below W1.heap.size W1 w' → Calls Try.prog 53 #[v, .string (bstr n)] w' (SaysI (placeK n (vals L) : Int) w')) := Lib.hid fun w' hb => placeOfK_any _ _ n w' (h.later (step hb1 hb)).row hi
  have hle : placeK n (vals L) ≤ L.length := by have := placeK_le n (vals L); rw [vals_length] at this; exact this
  have HPP : Hid (putK ⟨n, c, t, []⟩ (vals L) = (vals L).take (placeK n (vals L)) ++ ⟨n, c, t, []⟩ :: (vals L).drop (placeK n (vals L))) := Lib.hid (putK_place _ _)
  have HLL : Hid (L.length = (vals L).length ∧ L.length ≤ 1000) := Lib.hid ⟨(vals_length L).symm, h5⟩
  obtain ⟨a, cap, rfl⟩ := h.form
  clear h h6 hi hb1 c0 c1 c2 c3
  by_cases h4 : 4 ≤ L.length
  · rw [if_pos h4]
    have d3 : decide ((4 : Int) ≤ (L.length : Int)) = true := decide_eq_true (by omega)
    clear HLL HPP KP KC HQ hle h4
    generalize L.length = N at *
    go_enter Try.func34, Try.ntmps34
    go_upto_region 1 with fail
    rw [← hW1]
    clear hW1
    go_wp2
    go_ret2
    exact ⟨_, [], rfl, rfl, OwnN.nil _ _, HB.out⟩
  · rw [if_neg h4]
    have d3 : decide ((4 : Int) ≤ (L.length : Int)) = false := decide_eq_false (by omega)
    clear h4
    generalize putK ⟨n, c, t, []⟩ (vals L) = R at *
    obtain ⟨N, hN⟩ : ∃ N, L.length = N := ⟨_, rfl⟩
    rw [hN] at hm h5 hle d3 KC KP HLL ⊢
    clear hN
    generalize placeK n (vals L) = k at *
    have HIN : Hid (∀ (M6 : List LockC) (a6 : Option Addr) (c6 : Nat) (W : World) (b : Nat), vals M6 = vals L → OwnD W1.heap.size W (.slice a6 M6.length c6) M6 → W1.heap.size ≤ W.heap.size → W.heap[b]? = some (.cells #[.string (bstr n), .int .i64 c, .int .i64 t, .slice none 0 0] 39) → (Value.slice a6 M6.length c6).ownBlock ≠ some b →
        Calls Try.prog 51 #[.slice a6 M6.length c6, .int .i64 (k : Int), .slice (some ⟨b, 0, none⟩) 1 1] W (Inserted W1.heap.size (.slice a6 M6.length c6) M6 k ⟨n, c, t, [], none, 0⟩ W)) := Lib.hid fun M6 a6 c6 W b hm ho hs hy hne => by
      have hml : M6.length = N := (vlen hm).trans ((vals_length L).symm.trans HLL.out.1.symm)
      exact Insert_any W1.heap.size M6 k ⟨n, c, t, [], none, 0⟩ b W _ ho.row (by omega) hs hy (by omega) hne
    go_enter Try.func34, Try.ntmps34
    go_upto_region 1 with fail
    rw [← hW1]
    clear hW1
    go_upto_region 3 with fail
    obtain ⟨k0, k1, k2, k3⟩ := HQ.out _ (Below.refl _ W1)
    go_region_held3 (fun w' => w'.cell? ⟨w.heap.size, 0, none⟩ = some (.string (bstr n)) ∧ w'.cell? ⟨w.heap.size, 1, none⟩ = some (.int .i64 c) ∧ w'.cell? ⟨w.heap.size, 2, none⟩ = some (.int .i64 t) ∧ w'.cell? ⟨w.heap.size, 3, none⟩ = some (.slice none 0 0)) (first | exact ⟨k0, k1, k2, k3⟩ | exact HQ.out _ (Below.refl _ _).drew | exact HQ.out _ ((newAlloc W1 _).drew) | exact HQ.out _ HB6.out | exact HQ.out _ HB7.out | exact HQ.out _ (stepAlloc HB6.out _) | exact HQ.out _ HB8.out | exact HQ.out _ (stepAlloc HB7.out _) | go_keep) (first
      | (go_at_call 52; refine (KC.out _ (Below.refl _ _).drew).mono ?_; rintro e w6 ⟨v6, M6, rfl, hm6, ho6, hb6⟩; obtain ⟨a6, c6, rfl⟩ := Rw.own_form ho6.row; have HO6 : Hid (OwnD W1.heap.size w6 (.slice a6 M6.length c6) M6) := Lib.hid ho6; have HB6 : Hid (Below W1.heap.size W1 w6) := Lib.hid (step (Below.refl _ _).drew hb6); have HM6 := Lib.hid hm6; clear ho6 hb6 hm6)
      | (go_at_call 52; refine (KC.out _ ((newAlloc W1 (.cells #[.string (bstr n), .int .i64 c, .int .i64 t, .slice none 0 0] 39)).drew)).mono ?_; rintro e w6 ⟨v6, M6, rfl, hm6, ho6, hb6⟩; obtain ⟨a6, c6, rfl⟩ := Rw.own_form ho6.row; have HO6 : Hid (OwnD W1.heap.size w6 (.slice a6 M6.length c6) M6) := Lib.hid (ho6.lower (newAlloc W1 (.cells #[.string (bstr n), .int .i64 c, .int .i64 t, .slice none 0 0] 39)).size); have HB6 : Hid (Below W1.heap.size W1 w6) := Lib.hid (step (newAlloc W1 (.cells #[.string (bstr n), .int .i64 c, .int .i64 t, .slice none 0 0] 39)).drew hb6); have HM6 := Lib.hid hm6; have HY6 : Hid (w6.heap[W1.heap.size]? = some (.cells #[.string (bstr n), .int .i64 c, .int .i64 t, .slice none 0 0] 39)) := Lib.hid ((hb6.block W1.heap.size (show W1.heap.size < (W1.alloc (.cells #[.string (bstr n), .int .i64 c, .int .i64 t, .slice none 0 0] 39)).heap.size by simp)).trans (heap_alloc_new W1 _)); have HN6 : Hid ((Value.slice a6 M6.length c6).ownBlock ≠ some W1.heap.size) := Lib.hid (fun q => by have := (Rw.own_lt ho6.row _ q).1; simp at this; omega); clear ho6 hb6 hm6)
      | (go_at_call 53; have HY66 := HY6; refine (KP.out _ HB6.out).mono ?_; rintro e w7 ⟨rfl, hb7⟩; have HOI := Lib.hid (HO6.out.later hb7); have HB7 : Hid (Below W1.heap.size W1 w7) := Lib.hid (step HB6.out hb7); have HBI := HB7; have HYI := Lib.hid ((hb7.block W1.heap.size (by have := (HO6.out); exact (Array.getElem?_eq_some_iff.1 HY6.out).1)).trans HY6.out); have HNI := HN6; clear hb7)
      | (go_at_call 53; refine (KP.out _ HB6.out).mono ?_; rintro e w7 ⟨rfl, hb7⟩; have HOJ := Lib.hid (HO6.out.later hb7); have HB7 : Hid (Below W1.heap.size W1 w7) := Lib.hid (step HB6.out hb7); have HBI : Hid (Below W1.heap.size W1 (w7.alloc (.cells #[.string (bstr n), .int .i64 c, .int .i64 t, .slice none 0 0] 39))) := Lib.hid (stepAlloc HB7.out _); have HOI : Hid (OwnD W1.heap.size (w7.alloc (.cells #[.string (bstr n), .int .i64 c, .int .i64 t, .slice none 0 0] 39)) (.slice a6 M6.length c6) M6) := Lib.hid (HOJ.out.later (newAlloc _ _)); have HNI : Hid ((Value.slice a6 M6.length c6).ownBlock ≠ some w7.heap.size) := Lib.hid (own_ne_lt HOJ.out.row (Nat.le_refl _)); have HYI : Hid ((w7.alloc (.cells #[.string (bstr n), .int .i64 c, .int .i64 t, .slice none 0 0] 39)).heap[w7.heap.size]? = some (.cells #[.string (bstr n), .int .i64 c, .int .i64 t, .slice none 0 0] 39)) := Lib.hid (heap_alloc_new w7 _); clear hb7)
      | (go_at_call 53; refine (KP.out _ (stepAlloc HB6.out _)).mono ?_; rintro e w7 ⟨rfl, hb7⟩; have HOJ := HO6; have HB7 : Hid (Below W1.heap.size W1 w7) := Lib.hid (step (stepAlloc HB6.out _) hb7); have HBI := HB7; have HOI : Hid (OwnD W1.heap.size w7 (.slice a6 M6.length c6) M6) := Lib.hid (HO6.out.later (step (newAlloc w6 _) hb7)); have HNI : Hid ((Value.slice a6 M6.length c6).ownBlock ≠ some w6.heap.size) := Lib.hid (own_ne_lt HOJ.out.row (Nat.le_refl _)); have HYI : Hid (w7.heap[w6.heap.size]? = some (.cells #[.string (bstr n), .int .i64 c, .int .i64 t, .slice none 0 0] 39)) := Lib.hid ((hb7.block w6.heap.size (by simp)).trans (heap_alloc_new w6 _)); clear hb7)
      | (go_at_call 51; refine (HIN.out _ _ _ _ _ HM6.out HOI.out HBI.out.size HYI.out HNI.out).mono ?_; rintro e w8 ⟨v8, rfl, ho8, hg8⟩; have HO8 := Lib.hid ho8; have HG8 := Lib.hid hg8; have HB8 : Hid (Below W1.heap.size W1 w8) := Lib.hid (HBI.out.grown hg8 HBI.out.size (fun g hg => (Rw.own_lt HOI.out.row g hg).1)); clear ho8 hg8))
    all_goals
      go_wp2
      go_ret2
      refine ⟨v8, M6.take k ++ (⟨n, c, t, [], none, 0⟩ : LockC) :: M6.drop k, rfl, ?_, (ins_done HOI.out (fun w' => NewI.nil _ _) HG8.out HO8.out (by have := vlen HM6.out; have := HLL.out; rw [vals_length] at this; omega)).lower HB.out.size, step HB.out HB8.out⟩
      rw [HPP.out, vals_append, vals_take, HM6.out]
      show _ ++ _ :: vals (M6.drop k) = _
      rw [vals_drop, HM6.out]
      rfl
end Cm
end Go.Proofs.Ytnkooajbenhjhaa

/- Contracts: slices.Index, slices.Contains of numbers. -/
set_option linter.unusedVariables false
set_option linter.unusedSimpArgs false
namespace Go.Proofs.Ytnkooajbenhjhaa
open Go.RowKit
namespace Cm

/-- A number told, the world as it was. -/
def SaysN (r : Int) (w : World) (e : Ending) (w' : World) : Prop := e = .returned (.int .i64 r) ∧ w' = w

theorem Index_num (v : Value) (l : List Int) (c : Int) (w : World) (h : RdI w v l) : Calls Try.prog 58 #[v, .int .i64 c] w (SaysN (idxI (isN c) l) w) := by
  have hm := h.len
  obtain ⟨a, cap, rfl⟩ := h.form
  have HA := Lib.hid (fun i hi => rdi_at h i hi)
  have HH := Lib.hid (idxI_hit (isN c) l)
  have HM := Lib.hid (idxI_miss (isN c) l)
  clear h
  obtain ⟨L, hL⟩ : ∃ L, l.length = L := ⟨_, rfl⟩
  have HLL := Lib.hid hL
  rw [hL] at hm ⊢
  clear hL
  go_enter Try.func58, Try.ntmps58
  go_wp2
  go_loop [8] (fun i => ∃ k : Nat, k ≤ L ∧ i = .int .i64 k ∧ Hid (∀ j (hj : j < k) (hl : j < l.length), isN c l[j] = false)) (fun i => L - (intOf i).toNat)
  case atStart => exact ⟨0, by omega, rfl, Lib.hid (fun j hj => absurd hj (Nat.not_lt_zero _))⟩
  case round =>
    obtain ⟨k, hk, rfl, HJ⟩ := hrel
    by_cases hlt : k < L
    · have hkl : k < l.length := by rw [HLL.out]; exact hlt
      obtain ⟨b, o, rfl, hc⟩ := HA.out k hkl
      have q1 := hc w (Below.refl _ _)
      have HI : Hid (isN c l[k] = true → idxI (isN c) l = k) := Lib.hid (fun q => HH.out k hkl q (fun j hj => HJ.out j hj (by omega)))
      have HN : Hid (isN c l[k] = false → ∀ j (hj : j < k + 1) (hl : j < l.length), isN c l[j] = false) := Lib.hid (fun q j hj hl => by
        by_cases e : j = k
        · subst e; exact q
        · exact HJ.out j (by omega) hl)
      clear HA HH HM hc
      generalize l[k] = g at q1 HI HN
      by_cases hq : g = c
      · have d : (c == g) = true := by simpa using hq.symm
        have H := Lib.hid (HI.out (by unfold isN; exact decide_eq_true hq))
        clear hq HI HN
        go_wp2
        go_ret
        exact ⟨by rw [H.out]; rfl, rfl⟩
      · have d : (c == g) = false := by simpa using fun q => hq q.symm
        have H := Lib.hid (HN.out (by unfold isN; exact decide_eq_false hq))
        clear hq HI HN
        go_wp2
        go_round
        case rel => exact ⟨k + 1, by omega, by go_num, H⟩
        case measure => simp [intOf]; omega
    · obtain rfl : k = L := by omega
      have H := Lib.hid (HM.out (fun j hj => HJ.out j (by rw [← HLL.out]; exact hj) hj))
      clear HM HH
      go_wp2
      go_ret
      exact ⟨by rw [H.out]; rfl, rfl⟩

theorem Contains_num (v : Value) (l : List Int) (c : Int) (w : World) (h : RdI w v l) : Calls Try.prog 41 #[v, .int .i64 c] w (Says (hasL l c) w) := by
  rw [hasL_idx]
  have HC := Lib.hid (Index_num v l c w h)
  obtain ⟨a, cap, rfl⟩ := h.form
  clear h
  generalize idxI (isN c) l = r at HC ⊢
  generalize l.length = L at *
  go_enter Try.func41, Try.ntmps41
  go_wp2_with (go_at_call 58; refine HC.out.mono ?_; rintro e w' ⟨rfl, rfl⟩)
  go_ret
  exact ⟨by simp, rfl⟩
end Cm
end Go.Proofs.Ytnkooajbenhjhaa
