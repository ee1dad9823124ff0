/- Contracts: padlockref6's RenewSession. -/
import Derived.Test.YtkhcnhfdcbellaaSesE
set_option linter.unusedVariables false
set_option linter.unusedSimpArgs false
namespace Go.Proofs.Ytkhcnhfdcbellaa
open Go.RowKit
namespace Cm

theorem ownS_at {w : World} {base g n cap : Nat} {M : List SesV} (h : w.ownsRow base 34 3 (.slice (some ⟨g, 0, none⟩) n cap) n (flatX cellsS M)) (hn : M.length = n) (k : Nat) (hk : k < M.length) :
    w.cell? ⟨g, k * 3, none⟩ = some (.int .i64 M[k].client) ∧ w.cell? ⟨g, k * 3 + 1, none⟩ = some (.int .i64 M[k].num) ∧ w.cell? ⟨g, k * 3 + 2, none⟩ = some (.int .i64 M[k].ren) ∧ ∀ j, w.frozen? ⟨g, j, none⟩ = false := by
  have a0 := h.cellAt (k * 3 + 0) (by omega)
  have a1 := h.cellAt (k * 3 + 1) (by omega)
  have a2 := h.cellAt (k * 3 + 2) (by omega)
  rw [flatX_get cellsS_length M k hk 0 (by omega)] at a0
  rw [flatX_get cellsS_length M k hk 1 (by omega)] at a1
  rw [flatX_get cellsS_length M k hk 2 (by omega)] at a2
  exact ⟨a0, a1, a2, fun j => h.frozenAt j⟩

theorem ownS_ren {w : World} {base g n cap : Nat} {M : List SesV} (h : w.ownsRow base 34 3 (.slice (some ⟨g, 0, none⟩) n cap) n (flatX cellsS M)) (k : Nat) (hk : k < M.length) (r : Int) :
    (w.setCell ⟨g, k * 3 + 2, none⟩ (.int .i64 r)).ownsRow base 34 3 (.slice (some ⟨g, 0, none⟩) n cap) n (flatX cellsS (M.set k ⟨M[k].client, M[k].num, r⟩)) := by
  have h1 := (h.stored (k * 3 + 2) (.int .i64 r)).1
  rw [flatX_set cellsS_length 2 (.int .i64 r) (by omega) ⟨M[k].client, M[k].num, r⟩ M k hk rfl] at h1
  exact h1

/-- The first k are renewed. -/
def renN (l : List SesV) (c t : Int) (k : Nat) : List SesV := (l.take k).map (renewE c t) ++ l.drop k

theorem renN_zero (l : List SesV) (c t : Int) : renN l c t 0 = l := by simp [renN]
theorem renN_all (l : List SesV) (c t : Int) : renN l c t l.length = l.map (renewE c t) := by simp [renN]
theorem renN_length (l : List SesV) (c t : Int) (k : Nat) (h : k ≤ l.length) : (renN l c t k).length = l.length := by
  unfold renN
  rw [List.length_append, List.length_map, List.length_take, List.length_drop]
  omega

theorem renN_get (l : List SesV) (c t : Int) (k : Nat) (h : k < l.length) (h' : k < (renN l c t k).length) : (renN l c t k)[k] = l[k] := by
  unfold renN at h' ⊢
  rw [List.getElem_append_right (by rw [List.length_map, List.length_take]; omega)]
  simp only [List.length_map, List.length_take, List.getElem_drop]
  congr 1
  omega

theorem renN_succ (l : List SesV) (c t : Int) (k : Nat) (h : k < l.length) : renN l c t (k + 1) = (renN l c t k).set k (renewE c t l[k]) := by
  unfold renN
  have hk : ((l.take k).map (renewE c t)).length = k := by rw [List.length_map, List.length_take]; omega
  rw [List.take_succ_eq_append_getElem h, List.map_append, List.set_append_right _ _ (by omega), hk, Nat.sub_self, List.append_assoc]
  congr 1
  have e := List.drop_eq_getElem_cons h
  rw [e]
  rfl

theorem renN_same (l : List SesV) (c t : Int) (k : Nat) (h : k < l.length) : (renN l c t k).set k l[k] = renN l c t k := by
  have h' : k < (renN l c t k).length := by rw [renN_length l c t k (by omega)]; exact h
  have := renN_get l c t k h h'
  rw [← this]
  exact List.set_getElem_self h'

set_option maxHeartbeats 4000000 in
theorem Renew_any (v : Value) (l : List SesV) (c t : Int) (w : World) (h : RdS w v l) (h5 : l.length ≤ 1000) : Calls Try.prog 12 #[v, .int .i64 c, .int .i64 t] w (GetsS (renewS l c t) w) := by
  have hm := h.len
  have CF := Lib.hid (Find_any v l c w h)
  have HR0 := Lib.hid h
  obtain ⟨a, cap, rfl⟩ := h.form
  clear h
  cases n1 : highF t 0
  case false =>
    have e : renewS l c t = ([], 1) := by unfold renewS; simp [n1]
    rw [e]
    go_enter Try.func12, Try.ntmps12
    go_wp2_with fail
    refine (high6_any _ _ _).mono ?_
    rw [n1]
    rintro e w1 ⟨rfl, rfl⟩
    go_wp2
    go_ret2
    exact GetsS.empty rfl (Below.refl _ _)
  obtain ⟨L, hL⟩ : ∃ L, l.length = L := ⟨_, rfl⟩
  have HLL := Lib.hid hL
  rw [hL] at hm CF h5 HR0 ⊢
  clear hL
  obtain ⟨i0, hi, hz0, hz1, hz2⟩ := info_parts infoS
  have CF2 := CF.out
  unfold Found at CF2
  cases hf : (findS l c).2
  case false =>
    have e : renewS l c t = ([], 6) := by unfold renewS; rw [if_neg (by simp [n1]), if_pos hf]
    rw [e]
    rw [hf] at CF2
    have CF2 := Lib.hid CF2
    clear hf CF
    generalize (findS l c).1 = fs at CF2
    obtain ⟨fc, fn, fr⟩ := fs
    unfold sesVal at CF2
    dsimp only at CF2
    go_enter Try.func12, Try.ntmps12
    go_wp2_with fail
    refine (high6_any _ _ _).mono ?_
    rw [n1]
    rintro e w1 ⟨rfl, rfl⟩
    go_wp2_with (go_at_call 17; refine CF2.out.mono ?_; rintro e w1 ⟨rfl, hb1⟩)
    go_ret2
    exact GetsS.empty rfl (stepAlloc hb1 _)
  have e : renewS l c t = (l.map (renewE c t), 0) := by unfold renewS; rw [if_neg (by simp [n1]), if_neg (by simp [hf])]
  rw [e]
  have hne : 0 < l.length := by
    cases l with
    | nil => simp [findS] at hf
    | cons x l => simp
  obtain ⟨b, o, rfl, -⟩ := rds_at HR0.out 0 hne
  have hneL : 0 < L := by rw [← HLL.out]; exact hne
  rw [hf] at CF2
  have CF2 := Lib.hid CF2
  clear hf CF e
  generalize (findS l c).1 = fs at CF2
  obtain ⟨fc, fn, fr⟩ := fs
  unfold sesVal at CF2
  dsimp only at CF2
  have HNW := Lib.hid (fun (w' : World) (hb : Below w.heap.size w w') => (RdX.news cellsS_length (by omega) (HR0.out.later hb)))
  have HG1 : Hid (∀ u ∈ flatX cellsS l, u.oneCell' = true) := Lib.hid fun u hu => by
    unfold flatX at hu
    obtain ⟨s, _, hs⟩ := List.mem_flatMap.1 hu
    exact cellsS_one s u hs
  have HGL := Lib.hid (show (flatX cellsS l).length = L * 3 by rw [flatX_length cellsS_length, HLL.out])
  go_enter Try.func12, Try.ntmps12
  go_wp2_with fail
  refine (high6_any _ _ _).mono ?_
  rw [n1]
  rintro e w1 ⟨rfl, rfl⟩
  clear n1
  go_wp2_with (first
    | (go_at_call 17; refine CF2.out.mono ?_; rintro e w1 ⟨rfl, hb1⟩; have HW := Lib.hid (stepAlloc hb1 (.cells #[.int .i64 fc, .int .i64 fn, .int .i64 fr] 34)); clear hb1)
    | (at_builtin; refine wpList_append_own_at ((w1.alloc (.cells #[.int .i64 fc, .int .i64 fn, .int .i64 fr] 34)).alloc (.cells #[] 34)) rfl (.tmp 23) (.tmp 24) 24 rfl (w1.heap.size + 1) 34 i0 _ 3 24 Try.underlying24 hi hz0 hz1 hz2 rfl (by omega) (.slice (some ⟨w1.heap.size + 1, 0, none⟩) 0 0) 0 [] rfl (own_new _ _ _ _ _ (by simp) (Nat.le_refl _)) ⟨b, o, none⟩ L cap (flatX cellsS l) rfl HGL.out (HNW.out _ (stepAlloc HW.out _)) HG1.out (by unfold maxLen; omega) (by omega) (by simp) ?_; intro v8 w8 hown8 hgrow8 _ _; obtain ⟨g, cp, rfl, hg, ho8⟩ := row_shape HLL.out hneL hown8; have HB8 := Lib.hid ((stepAlloc HW.out (.cells #[] 34)).grown hgrow8 (by have := HW.out.size; simp at this; simp; omega) (fun k hk => by simp [Value.ownBlock] at hk; have := HW.out.size; simp at this; omega)); have HO8 := Lib.hid (own_lowerX ho8 (show w.heap.size ≤ w1.heap.size + 1 by have := HW.out.size; simp at this; omega)); clear hown8 hgrow8 ho8))
  have hgw : w.heap.size ≤ g := by have := HW.out.size; simp at this; omega
  clear hg HW HNW HG1 HGL CF2
  go_loopw [11] (fun i wr => ∃ k : Nat, k ≤ L ∧ i = .int .i64 k ∧ Hid (wr.ownsRow w.heap.size 34 3 (.slice (some ⟨g, 0, none⟩) L cp) L (flatX cellsS (renN l c t k))) ∧ Hid (Below w.heap.size w wr)) (fun i _ => L - (intOf i).toNat)
  case atStart => exact ⟨0, by omega, rfl, by rw [renN_zero]; exact HO8, HB8⟩
  case round =>
    obtain ⟨k, hk, rfl, HO, HB⟩ := hrel
    by_cases hlt : k < L
    · have hkl : k < l.length := by rw [HLL.out]; exact hlt
      have hrl : (renN l c t k).length = L := by rw [renN_length l c t k (by omega), HLL.out]
      obtain ⟨q0, q1, q2, qf⟩ := ownS_at HO.out hrl k (by omega)
      have hgk := renN_get l c t k hkl (by omega)
      have HOR := Lib.hid (fun r => ownS_ren HO.out k (by omega) r)
      rw [hgk] at q0 q1 q2 HOR
      have hsu := renN_succ l c t k hkl
      have hsm := renN_same l c t k hkl
      clear hgk hrl
      generalize l[k] = s at q0 q1 q2 HOR hsu hsm
      obtain ⟨gc, gn, gr⟩ := s
      dsimp only at q0 q1 q2 HOR
      have f1 : (0 : Int) ≤ (k : Int) := by omega
      have f2 : (k : Int) < (L : Int) := by omega
      by_cases e1 : gc = c
      · have d1 : (gc == c) = true := by simpa using e1
        have hsu2 : renN l c t (k + 1) = (renN l c t k).set k ⟨gc, gn, if gr < t then t else gr⟩ := by rw [hsu]; simp [renewE, e1]
        have H := Lib.hid hsu2
        clear hsu hsu2 hsm e1
        by_cases e2 : gr < t
        · rw [if_pos e2] at H
          have d2 : decide (gr < t) = true := decide_eq_true e2
          have HS := Lib.hid (HOR.out t)
          clear HOR
          go_wp2
          go_roundw
          case rel => exact ⟨k + 1, by omega, by go_num, by rw [H.out]; exact HS, Lib.hid (HB.out.setCell hgw _)⟩
          case measure => simp [intOf]; omega
        · rw [if_neg e2] at H
          have d2 : decide (gr < t) = false := decide_eq_false e2
          have HS := Lib.hid (HOR.out gr)
          clear HOR
          go_wp2
          go_roundw
          case rel => exact ⟨k + 1, by omega, by go_num, by rw [H.out]; exact HS, Lib.hid (HB.out.setCell hgw _)⟩
          case measure => simp [intOf]; omega
      · have d1 : (gc == c) = false := by simpa using e1
        have hsu2 : renN l c t (k + 1) = renN l c t k := by
          rw [hsu]
          have e : renewE c t ⟨gc, gn, gr⟩ = ⟨gc, gn, gr⟩ := by simp [renewE, e1]
          rw [e]
          exact hsm
        have H := Lib.hid hsu2
        clear hsu hsu2 hsm e1 HOR
        go_wp2
        go_roundw
        case rel => exact ⟨k + 1, by omega, by go_num, by rw [H.out]; exact HO, HB⟩
        case measure => simp [intOf]; omega
    · obtain rfl : k = L := by omega
      have ho := HO.out
      rw [← HLL.out, renN_all, HLL.out] at ho
      have HO := Lib.hid ho
      clear ho
      go_wp2
      go_ret2
      refine ⟨_, rfl, ?_, HB.out⟩
      show World.ownsRow _ _ _ _ _ (List.length (l.map (renewE c t))) _
      rw [List.length_map, HLL.out]
      exact HO.out
end Cm
end Go.Proofs.Ytkhcnhfdcbellaa
