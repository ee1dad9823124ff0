/- Contracts: package session's Find, Due, Close, Renew. -/
import Derived.Test.YtkhcnhfdcbellaaSesX
import Derived.Deep.RegionHeld3
set_option linter.unusedVariables false
set_option linter.unusedSimpArgs false
namespace Go.Proofs.Ytkhcnhfdcbellaa
open Go.RowKit Go.Shelf
namespace Cm

def isC (c : Int) (s : SesV) : Bool := decide (s.client = c)

theorem findS_eq (l : List SesV) (c : Int) : findS l c = if h : l.findIdx (isC c) < l.length then (l[l.findIdx (isC c)], true) else (zeroS, false) := by
  induction l with
  | nil => simp [findS]
  | cons x l ih =>
    unfold findS
    by_cases q : x.client = c
    · simp [List.findIdx_cons, isC, q]
    · rw [if_neg q, ih]
      have e : (x :: l).findIdx (isC c) = l.findIdx (isC c) + 1 := by simp [List.findIdx_cons, isC, q]
      simp only [e, List.length_cons]
      by_cases h : l.findIdx (isC c) < l.length
      · simp [h]
      · simp [h]

theorem findS_hit (l : List SesV) (c : Int) (k : Nat) (h : idxI (isC c) l = k) : ∃ hk : k < l.length, l[k].client = c ∧ findS l c = (l[k], true) := by
  rw [findS_eq]
  unfold idxI at h
  split at h
  · rename_i q
    have e : l.findIdx (isC c) = k := by omega
    subst e
    refine ⟨q, ?_, by rw [dif_pos q]⟩
    have := List.findIdx_getElem (w := q)
    simpa [isC] using this
  · omega

theorem findS_miss (l : List SesV) (c : Int) (h : idxI (isC c) l = -1) : findS l c = (zeroS, false) := by
  rw [findS_eq]
  unfold idxI at h
  split at h
  · omega
  · rename_i q
    rw [dif_neg q]

theorem idx_cases (l : List SesV) (c : Int) : idxI (isC c) l = -1 ∨ ∃ k : Nat, idxI (isC c) l = k := by
  unfold idxI
  split
  · exact .inr ⟨_, rfl⟩
  · exact .inl rfl

theorem Index_any (v : Value) (l : List SesV) (c : Int) (w : World) (h : RdS w v l) : Calls Try.prog 27 #[v, .int .i64 c] w (SaysI (idxI (isC c) l) w) := indexOf_any v l c w h

set_option maxHeartbeats 1000000 in
theorem SesFind_any (v : Value) (l : List SesV) (c : Int) (w : World) (h : RdS w v l) : Calls Try.prog 16 #[v, .int .i64 c] w (Found (findS l c) w) := by
  have hm := h.len
  have hB := newAlloc w (.cells #[.int .i64 0, .int .i64 0, .int .i64 0] 34)
  have HI := Lib.hid (Index_any v l c _ (h.later hB))
  obtain ⟨a, cap, rfl⟩ := h.form
  have HA := Lib.hid (fun i hi => rds_at h i hi)
  clear h
  obtain ⟨c0, c1, c2⟩ := box3 (Below.refl _ (w.alloc (.cells #[.int .i64 0, .int .i64 0, .int .i64 0] 34)))
  have f0 := free3 (Below.refl _ (w.alloc (.cells #[.int .i64 0, .int .i64 0, .int .i64 0] 34)))
  rcases idx_cases l c with e | ⟨k, e⟩
  · have HF := Lib.hid (findS_miss l c e)
    rw [e] at HI
    clear e HA
    generalize l.length = L at *
    go_enter Try.func16, Try.ntmps16
    go_upto_region 1 with fail
    generalize w.alloc (.cells #[.int .i64 0, .int .i64 0, .int .i64 0] 34) = W at *
    have HB := Lib.hid hB
    clear hB
    go_wp2_with fail
    refine HI.out.mono ?_
    rintro e w1 ⟨rfl, hb1⟩
    have d0 := (hb1.cell (lt_of_cell c0)).trans c0
    have d1 := (hb1.cell (lt_of_cell c1)).trans c1
    have d2 := (hb1.cell (lt_of_cell c2)).trans c2
    have f1 : ∀ k, w1.frozen? ⟨w.heap.size, k, none⟩ = false := fun k => (hb1.frozen (p := ⟨w.heap.size, k, none⟩) (show w.heap.size < _ from lt_of_cell c0)).trans (f0 k)
    go_wp2
    refine bodyPost_ret (by simp [results, Try.results16, go_sem, d0, d1, d2, f1] <;> rfl) rfl ⟨by rw [HF.out]; rfl, set3 (step HB.out hb1) _ _ _⟩
  · obtain ⟨hk, -, hf⟩ := findS_hit l c k e
    have HF := Lib.hid hf
    rw [e] at HI
    obtain ⟨b, o, rfl, hc⟩ := HA.out k hk
    have HC := Lib.hid hc
    clear e HA hf hc
    generalize l[k] = g at HC HF
    obtain ⟨gc, gn, gr⟩ := g
    dsimp only at HC
    generalize l.length = L at *
    have g1 : (0 : Int) ≤ (k : Int) := by omega
    have g2 : (k : Int) < (L : Int) := by omega
    go_enter Try.func16, Try.ntmps16
    go_upto_region 1 with fail
    generalize w.alloc (.cells #[.int .i64 0, .int .i64 0, .int .i64 0] 34) = W at *
    have HB := Lib.hid hB
    clear hB
    go_wp2_with fail
    refine HI.out.mono ?_
    rintro e w1 ⟨rfl, hb1⟩
    have d0 := (hb1.cell (lt_of_cell c0)).trans c0
    have d1 := (hb1.cell (lt_of_cell c1)).trans c1
    have d2 := (hb1.cell (lt_of_cell c2)).trans c2
    have f1 : ∀ k, w1.frozen? ⟨w.heap.size, k, none⟩ = false := fun k => (hb1.frozen (p := ⟨w.heap.size, k, none⟩) (show w.heap.size < _ from lt_of_cell c0)).trans (f0 k)
    obtain ⟨q0, q1, q2⟩ := HC.out _ (step HB.out hb1)
    go_wp2
    refine bodyPost_ret (by simp [results, Try.results16, go_sem, d0, d1, d2, f1] <;> rfl) rfl ⟨by rw [HF.out]; rfl, set3 (step HB.out hb1) _ _ _⟩

/-! ### Of right lists: without one, one written over -/
theorem filter_idx (l : List SesV) (hu : l.Pairwise fun a b => a.client < b.client) (c : Int) (k : Nat) (hk : k < l.length) (hc : l[k].client = c) : l.filter (fun s => !decide (s.client = c)) = l.take k ++ l.drop (k + 1) := by
  have e : l = l.take k ++ l[k] :: l.drop (k + 1) := by rw [← List.drop_eq_getElem_cons hk, List.take_append_drop]
  rw [e] at hu
  obtain ⟨_, u2, u3⟩ := List.pairwise_append.1 hu
  obtain ⟨u4, _⟩ := List.pairwise_cons.1 u2
  conv => lhs; rw [e]
  rw [List.filter_append, List.filter_cons]
  have z : (!decide (l[k].client = c)) = false := by simp [hc]
  rw [z]
  simp only [Bool.false_eq_true, if_false]
  congr 1
  · rw [List.filter_eq_self]
    intro a ha
    have := u3 a ha l[k] (List.mem_cons_self)
    simp
    omega
  · rw [List.filter_eq_self]
    intro a ha
    have := u4 a ha
    simp
    omega

theorem map_idx (l : List SesV) (hu : l.Pairwise fun a b => a.client < b.client) (c t : Int) (k : Nat) (hk : k < l.length) (hc : l[k].client = c) : l.map (renewE c t) = l.set k ⟨l[k].client, l[k].num, if l[k].ren < t then t else l[k].ren⟩ := by
  have e : l = l.take k ++ l[k] :: l.drop (k + 1) := by rw [← List.drop_eq_getElem_cons hk, List.take_append_drop]
  have hs : l.set k ⟨l[k].client, l[k].num, if l[k].ren < t then t else l[k].ren⟩ = l.take k ++ ⟨l[k].client, l[k].num, if l[k].ren < t then t else l[k].ren⟩ :: l.drop (k + 1) := by
    rw [List.set_eq_take_append_cons_drop, if_pos hk]
  rw [hs]
  rw [e] at hu
  obtain ⟨_, u2, u3⟩ := List.pairwise_append.1 hu
  obtain ⟨u4, _⟩ := List.pairwise_cons.1 u2
  conv => lhs; rw [e]
  rw [List.map_append, List.map_cons]
  have z : renewE c t l[k] = ⟨l[k].client, l[k].num, if l[k].ren < t then t else l[k].ren⟩ := by unfold renewE; rw [if_pos hc]
  rw [z]
  congr 1
  · conv => rhs; rw [← List.map_id (l.take k)]
    refine List.map_congr_left fun a ha => ?_
    have := u3 a ha l[k] (List.mem_cons_self)
    unfold renewE
    rw [if_neg (by omega)]
    rfl
  · congr 1
    conv => rhs; rw [← List.map_id (l.drop (k + 1))]
    refine List.map_congr_left fun a ha => ?_
    have := u4 a ha
    unfold renewE
    rw [if_neg (by omega)]
    rfl

theorem rights_up {l : List SesV} (h : rightS l = true) : l.length ≤ 5 ∧ l.Pairwise fun a b => a.client < b.client := ⟨((rightS_iff l).1 h).1, ((rightS_iff l).1 h).2.up⟩

set_option maxHeartbeats 2000000 in
theorem SesClose_any (v : Value) (l : List SesV) (c : Int) (w : World) (h : RdS w v l) (hr : rightS l = true) : Calls Try.prog 13 #[v, .int .i64 c] w (GetsS (closeS l c) w) := by
  obtain ⟨h5, hup⟩ := rights_up hr
  have HI := Lib.hid (Index_any v l c w h)
  have HR := Lib.hid h
  obtain ⟨a, cap, rfl⟩ := h.form
  have hcap : l.length ≤ cap ∧ cap ≤ maxLen := by
    obtain ⟨a', cap', hv, q1, q2, _⟩ := h.ex
    cases hv
    exact ⟨q1, q2⟩
  unfold maxLen at hcap
  obtain ⟨hc1, hc2⟩ := hcap
  clear h hr
  rcases idx_cases l c with e | ⟨k, e⟩
  · have he : closeS l c = ([], 6) := by unfold closeS; rw [findS_miss l c e, if_pos rfl]
    rw [he]
    rw [e] at HI
    clear e he hup HR
    generalize l.length = L at *
    go_enter Try.func13, Try.ntmps13
    go_wp2_with (go_at_call 27; refine HI.out.mono ?_; rintro e w1 ⟨rfl, hb1⟩)
    go_ret2
    exact GetsS.empty rfl hb1
  · obtain ⟨hk, hkc, hf⟩ := findS_hit l c k e
    have he : closeS l c = (l.take k ++ l.drop (k + 1), 0) := by unfold closeS; rw [hf, if_neg (by simp), filter_idx l hup c k hk hkc]
    rw [he]
    rw [e] at HI
    have HT := Lib.hid (HR.out.take k (by omega))
    have HD := Lib.hid (HR.out.drop (by omega) (k + 1) (by omega))
    have HL : Hid ((l.take k).length + (l.drop (k + 1)).length ≤ 1000000) := Lib.hid (by rw [List.length_take, List.length_drop]; omega)
    have g1 : (0 : Int) ≤ (k : Int) := by omega
    have g2 : (k : Int) ≤ (cap : Int) := by omega
    have g3 : IntKind.i64.wrap ((k : Int) + 1) = (k : Int) + 1 := by rw [IntKind.wrap_i64]; omega
    have g4 : (0 : Int) ≤ (k : Int) + 1 := by omega
    have g5 : (k : Int) + 1 ≤ (l.length : Int) := by omega
    have g6 : ((k : Int) + 1).toNat = k + 1 := by omega
    have g7 : decide ((k : Int) < 0) = false := by simp
    clear e he hup HR hf hkc hk hc1 hc2 h5
    generalize l.take k = A at HT HL ⊢
    generalize l.drop (k + 1) = B at HD HL ⊢
    generalize l.length = L at *
    by_cases hcp : cap = k + 1
    · rw [if_pos hcp] at HD
      subst hcp
      rw [Nat.sub_self] at HD
      have g8 : (k : Int) ≤ (k : Int) + 1 := by omega
      clear g2
      go_enter Try.func13, Try.ntmps13
      go_upto_region 4 with (go_at_call 27; refine HI.out.mono ?_; rintro e w1 ⟨rfl, hb1⟩)
      go_region_held3 (fun _ => True) (trivial) (first
        | (go_at_call 29; refine (ConcatS_two _ _ _ _ A B (HT.out.later (step hb1 ((newAlloc w1 _).drew))) (HD.out.later (step hb1 ((newAlloc w1 _).drew))) (by simp [go_sem]) (by simp [go_sem]) HL.out).mono ?_; rintro e w2 ⟨v2, rfl, ho2, hb2⟩))
      go_wp2
      go_ret2
      exact ⟨v2, rfl, by simpa [List.length_append] using own_lowerX ho2 (step hb1 ((newAlloc w1 _).drew)).size, step (step hb1 ((newAlloc w1 _).drew)) hb2⟩
    · rw [if_neg hcp] at HD
      go_enter Try.func13, Try.ntmps13
      go_upto_region 4 with (go_at_call 27; refine HI.out.mono ?_; rintro e w1 ⟨rfl, hb1⟩)
      go_region_held3 (fun _ => True) (trivial) (first
        | (go_at_call 29; refine (ConcatS_two _ _ _ _ A B (HT.out.later (step hb1 ((newAlloc w1 _).drew))) (HD.out.later (step hb1 ((newAlloc w1 _).drew))) (by simp [go_sem]) (by simp [go_sem]) HL.out).mono ?_; rintro e w2 ⟨v2, rfl, ho2, hb2⟩))
      go_wp2
      go_ret2
      exact ⟨v2, rfl, by simpa [List.length_append] using own_lowerX ho2 (step hb1 ((newAlloc w1 _).drew)).size, step (step hb1 ((newAlloc w1 _).drew)) hb2⟩
end Cm
end Go.Proofs.Ytkhcnhfdcbellaa
