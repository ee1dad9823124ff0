/- Contracts: padlockref6's CloseSession, Due. -/
import Derived.Test.YtkhcnhfdcbellaaSesD
set_option linter.unusedVariables false
set_option linter.unusedSimpArgs false
namespace Go.Proofs.Ytkhcnhfdcbellaa
open Go.RowKit
namespace Cm

theorem infoN : (Try.prog.info? 3).map (fun i => (i.zero, i.size, i.bytes)) = some (some (.int .i64 0), 1, 8) := by kernel_rfl

theorem cellsI_one (x : Int) : ∀ u ∈ cellsI x, u.oneCell' = true := by
  intro u hu
  unfold cellsI at hu
  rw [List.mem_singleton] at hu
  subst hu
  rfl

theorem filter_take_succ {α : Type} (l : List α) (p : α → Bool) (j : Nat) (h : j < l.length) : (l.take (j + 1)).filter p = (l.take j).filter p ++ if p l[j] then [l[j]] else [] := by
  rw [List.take_succ_eq_append_getElem h, List.filter_append]
  congr 1
  by_cases q : p l[j] = true
  · simp [q]
  · simp [q]

def keepsS (c : Int) (s : SesV) : Bool := !decide (s.client = c)

set_option maxHeartbeats 4000000 in
theorem Close_any (v : Value) (l : List SesV) (c : Int) (w : World) (h : RdS w v l) (h5 : l.length ≤ 1000) : Calls Try.prog 14 #[v, .int .i64 c] w (GetsS (closeS l c) w) := by
  have hm := h.len
  have CF := Lib.hid (Find_any v l c w h)
  obtain ⟨a, cap, rfl⟩ := h.form
  have HA := Lib.hid (fun i hi => rds_at h i hi)
  have HF := Lib.hid (filter_take_succ l (keepsS c))
  clear h
  obtain ⟨L, hL⟩ : ∃ L, l.length = L := ⟨_, rfl⟩
  have HLL := Lib.hid hL
  rw [hL] at hm CF h5 ⊢
  clear hL
  obtain ⟨i0, hi, hz0, hz1, hz2⟩ := info_parts infoS
  have CF2 := CF.out
  unfold Found at CF2
  cases hf : (findS l c).2
  case false =>
    have e : closeS l c = ([], 6) := by unfold closeS; rw [if_pos hf]
    rw [e]
    rw [hf] at CF2
    have CF2 := Lib.hid CF2
    clear hf CF
    generalize (findS l c).1 = fs at CF2
    obtain ⟨fc, fn, fr⟩ := fs
    unfold sesVal at CF2
    dsimp only at CF2
    go_enter Try.func14, Try.ntmps14
    go_wp2_with (go_at_call 17; refine CF2.out.mono ?_; rintro e w1 ⟨rfl, hb1⟩)
    go_ret2
    exact GetsS.empty rfl (stepAlloc hb1 _)
  have e : closeS l c = (l.filter (keepsS c), 0) := by unfold closeS; rw [if_neg (by simp [hf])]; rfl
  rw [e]
  rw [hf] at CF2
  have CF2 := Lib.hid CF2
  clear hf CF e
  generalize (findS l c).1 = fs at CF2
  obtain ⟨fc, fn, fr⟩ := fs
  unfold sesVal at CF2
  dsimp only at CF2
  go_enter Try.func14, Try.ntmps14
  go_wp2_with (go_at_call 17; refine CF2.out.mono ?_; rintro e w1 ⟨rfl, hb1⟩)
  have HW := Lib.hid (stepAlloc hb1 (.cells #[.int .i64 fc, .int .i64 fn, .int .i64 fr] 34))
  clear hb1 CF2
  go_loopw [8, 9] (fun m i wr => ∃ (k : Nat) (M : List SesV), k ≤ L ∧ i = .int .i64 k ∧ Hid ((l.take k).filter (keepsS c) = M) ∧ M.length ≤ k ∧ Hid (wr.ownsRow w.heap.size 34 3 m M.length (flatX cellsS M)) ∧ Hid (Below w.heap.size w wr)) (fun _ i _ => L - (intOf i).toNat)
  case atStart => exact ⟨0, [], by omega, rfl, Lib.hid rfl, by simp, Lib.hid (World.ownsRow_nil _ _ _ _), HW⟩
  case round =>
    obtain ⟨k, M, hk, rfl, HM, hMk, HO, HB⟩ := hrel
    by_cases hlt : k < L
    · have hkl : k < l.length := by rw [HLL.out]; exact hlt
      obtain ⟨b, o, rfl, hc⟩ := HA.out k hkl
      obtain ⟨q0, q1, q2⟩ := hc _ HB.out
      have hp := HF.out k hkl
      rw [HM.out] at hp
      clear hc
      generalize l[k] = g at q0 q1 q2 hp
      obtain ⟨gc, gn, gr⟩ := g
      dsimp only at q0 q1 q2
      by_cases e1 : gc = c
      · have d1 : (gc != c) = false := by simp [e1]
        have hp2 : (l.take (k + 1)).filter (keepsS c) = M := by rw [hp]; simp [keepsS, e1]
        have H := Lib.hid hp2
        clear hp hp2 e1
        go_wp2
        go_roundw
        case rel => exact ⟨k + 1, M, by omega, by go_num, H, by omega, HO, HB⟩
        case measure => simp [intOf]; omega
      · have d1 : (gc != c) = true := by simpa using e1
        have hp2 : (l.take (k + 1)).filter (keepsS c) = M ++ [⟨gc, gn, gr⟩] := by rw [hp]; simp [keepsS, e1]
        have H := Lib.hid hp2
        clear hp hp2 e1
        go_wp2_with (first
          | (at_builtin; refine wpList_append_one cellsS_length (by omega) rfl (.tmp 31) (.tmp 36) 24 rfl 34 i0 _ 24 Try.underlying24 hi hz0 hz1 hz2 rfl #[.int .i64 gc, .int .i64 gn, .int .i64 gr] ⟨gc, gn, gr⟩ rfl (cellsS_one _) M w.heap.size w.heap.size w _ rfl rfl HO.out (by unfold maxLen; omega) (by omega) HB.out.size HB.out (Nat.le_refl _) ?_; intro v5 w5 ho5 hb5 _; have HO5 := Lib.hid ho5; have HB5 := Lib.hid hb5; clear ho5 hb5))
        go_roundw
        case rel => exact ⟨k + 1, M ++ [⟨gc, gn, gr⟩], by omega, by go_num, H, by simp; omega, HO5, HB5⟩
        case measure => simp [intOf]; omega
    · obtain rfl : k = L := by omega
      have hM := HM.out
      rw [← HLL.out, List.take_length] at hM
      have H := Lib.hid hM
      clear hM
      go_wp2
      go_ret2
      rw [H.out]
      exact ⟨_, rfl, HO.out, HB.out⟩

/-- Numbers told, in new memory. -/
def GetsN (r : List Int) (w : World) (e : Ending) (w' : World) : Prop :=
  ∃ v, e = .returned v ∧ w'.ownsRow w.heap.size 3 1 v r.length (flatX cellsI r) ∧ Below w.heap.size w w'

theorem map_filter_take (l : List SesV) (p : SesV → Bool) (j : Nat) (h : j < l.length) : ((l.take (j + 1)).filter p).map (·.client) = ((l.take j).filter p).map (·.client) ++ if p l[j] then [l[j].client] else [] := by
  rw [filter_take_succ l p j h, List.map_append]
  congr 1
  by_cases q : p l[j] = true <;> simp [q]

def lateS (t d : Int) (s : SesV) : Bool := decide (d ≤ t - s.ren)

set_option maxHeartbeats 4000000 in
theorem Due_any (v : Value) (l : List SesV) (t d : Int) (w : World) (h : RdS w v l) (h5 : l.length ≤ 1000) (hr : ∀ s ∈ l, highF s.ren 0 = true) : Calls Try.prog 21 #[v, .int .i64 t, .int .i64 d] w (GetsN (dueS l t d) w) := by
  have hm := h.len
  obtain ⟨a, cap, rfl⟩ := h.form
  have HA := Lib.hid (fun i hi => rds_at h i hi)
  have HF := Lib.hid (map_filter_take l (lateS t d))
  have HR := Lib.hid hr
  clear h hr
  obtain ⟨L, hL⟩ : ∃ L, l.length = L := ⟨_, rfl⟩
  have HLL := Lib.hid hL
  rw [hL] at hm h5 ⊢
  clear hL
  obtain ⟨i0, hi, hz0, hz1, hz2⟩ := info_parts infoN
  cases n1 : highF t 0
  case false =>
    have e : dueS l t d = [] := by unfold dueS; simp [n1]
    rw [e]
    go_enter Try.func21, Try.ntmps21
    go_wp2_with fail
    refine (high6_any _ _ _).mono ?_
    rw [n1]
    rintro e w1 ⟨rfl, rfl⟩
    go_wp2
    go_ret
    exact ⟨_, rfl, World.ownsRow_nil _ _ _ _, Below.refl _ _⟩
  cases n2 : highF d 0
  case false =>
    have e : dueS l t d = [] := by unfold dueS; simp [n2]
    rw [e]
    go_enter Try.func21, Try.ntmps21
    go_wp2_with fail
    refine (high6_any _ _ _).mono ?_
    rw [n1]
    rintro e w1 ⟨rfl, rfl⟩
    go_wp2_with fail
    refine (high6_any _ _ _).mono ?_
    rw [n2]
    rintro e w1 ⟨rfl, rfl⟩
    go_wp2
    go_ret
    exact ⟨_, rfl, World.ownsRow_nil _ _ _ _, Below.refl _ _⟩
  have e : dueS l t d = (l.filter (lateS t d)).map (·.client) := by unfold dueS; rw [if_neg (by simp [n1, n2])]; rfl
  rw [e]
  have ht : 0 ≤ t ∧ t ≤ 2305843009213693952 := by unfold highF at n1; simpa using n1
  go_enter Try.func21, Try.ntmps21
  go_wp2_with fail
  refine (high6_any _ _ _).mono ?_
  rw [n1]
  rintro e w1 ⟨rfl, rfl⟩
  go_wp2_with fail
  refine (high6_any _ _ _).mono ?_
  rw [n2]
  rintro e w1 ⟨rfl, rfl⟩
  clear n1 n2 e
  go_wp2
  go_loopw [7, 8] (fun m i wr => ∃ (k : Nat) (M : List Int), k ≤ L ∧ i = .int .i64 k ∧ Hid (((l.take k).filter (lateS t d)).map (·.client) = M) ∧ M.length ≤ k ∧ Hid (wr.ownsRow w.heap.size 3 1 m M.length (flatX cellsI M)) ∧ Hid (Below w.heap.size w wr)) (fun _ i _ => L - (intOf i).toNat)
  case atStart => exact ⟨0, [], by omega, rfl, Lib.hid rfl, by simp, Lib.hid (World.ownsRow_nil _ _ _ _), Lib.hid (Below.refl _ _)⟩
  case round =>
    obtain ⟨k, M, hk, rfl, HM, hMk, HO, HB⟩ := hrel
    by_cases hlt : k < L
    · have hkl : k < l.length := by rw [HLL.out]; exact hlt
      obtain ⟨b, o, rfl, hc⟩ := HA.out k hkl
      obtain ⟨q0, q1, q2⟩ := hc _ HB.out
      have hp := HF.out k hkl
      rw [HM.out] at hp
      have hgr := HR.out l[k] (List.getElem_mem _)
      clear hc
      generalize l[k] = g at q0 q1 q2 hp hgr
      obtain ⟨gc, gn, gr⟩ := g
      dsimp only at q0 q1 q2 hgr hp
      have hg2 : 0 ≤ gr ∧ gr ≤ 2305843009213693952 := by unfold highF at hgr; simpa using hgr
      have hw1 : IntKind.i64.wrap (t - gr) = t - gr := by rw [IntKind.wrap_i64]; omega
      clear hgr
      by_cases e1 : d ≤ t - gr
      · have d1 : decide (d ≤ t - gr) = true := decide_eq_true e1
        have hp2 : ((l.take (k + 1)).filter (lateS t d)).map (·.client) = M ++ [gc] := by rw [hp]; simp [lateS, e1]
        have H := Lib.hid hp2
        clear hp hp2 e1
        go_wp2_with (first
          | (at_builtin; refine wpList_append_one cellsI_length (by omega) rfl (.tmp 32) (.tmp 38) 39 rfl 3 i0 _ 8 Try.underlying39 hi hz0 hz1 hz2 rfl #[.int .i64 gc] gc rfl (cellsI_one _) M w.heap.size w.heap.size w _ rfl rfl HO.out (by unfold maxLen; omega) (by omega) HB.out.size HB.out (Nat.le_refl _) ?_; intro v5 w5 ho5 hb5 _; have HO5 := Lib.hid ho5; have HB5 := Lib.hid hb5; clear ho5 hb5))
        go_roundw
        case rel => exact ⟨k + 1, M ++ [gc], by omega, by go_num, H, by simp; omega, HO5, HB5⟩
        case measure => simp [intOf]; omega
      · have d1 : decide (d ≤ t - gr) = false := decide_eq_false e1
        have hp2 : ((l.take (k + 1)).filter (lateS t d)).map (·.client) = M := by rw [hp]; simp [lateS, e1]
        have H := Lib.hid hp2
        clear hp hp2 e1
        go_wp2
        go_roundw
        case rel => exact ⟨k + 1, M, by omega, by go_num, H, by omega, HO, HB⟩
        case measure => simp [intOf]; omega
    · obtain rfl : k = L := by omega
      have hM := HM.out
      rw [← HLL.out, List.take_length] at hM
      have H := Lib.hid hM
      clear hM
      go_wp2
      go_ret
      rw [H.out]
      exact ⟨_, rfl, HO.out, HB.out⟩
end Cm
end Go.Proofs.Ytkhcnhfdcbellaa
