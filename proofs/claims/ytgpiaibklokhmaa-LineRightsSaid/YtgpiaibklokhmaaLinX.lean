/- Contracts: package line's Join, Leave, Next (Leave as it landed: Ahead, then Without). -/
import Derived.Test.YtgpiaibklokhmaaLinT
import Derived.Deep.RegionHeld3
set_option linter.unusedVariables false
set_option linter.unusedSimpArgs false
namespace Go.Proofs.Ytgpiaibklokhmaa
open Go.RowKit
namespace Cm

/-- The world in which Join lays its row of two lists together. -/
def joinW (w : World) (c : Int) (u : Value) : World :=
  (w.alloc (.cells #[.int .i64 c] 3)).alloc (.cells #[u, .slice (some ⟨w.heap.size, 0, none⟩) 1 1] 23)
theorem joinW_below (w : World) (c : Int) (u : Value) : Below w.heap.size w (joinW w c u) := step (newAlloc _ _) (newAlloc _ _)
theorem join_cat (w : World) (c : Int) (u : Value) (A : List Int) (hl : A.length + 1 ≤ 1000000) (hu : RdI w u A) :
    Calls Try.prog 24 #[.slice (some ⟨w.heap.size + 1, 0, none⟩) 2 2] (joinW w c u) (MadeI (A ++ [c]) (joinW w c u)) := by
  have hb := joinW_below w c u
  refine ConcatI_two (joinW w c u) (w.heap.size + 1) u (.slice (some ⟨w.heap.size, 0, none⟩) 1 1) A [c] (hu.later hb) ?_ ?_ ?_ (by simpa using hl)
  · refine RdX.one (cs := #[.int .i64 c]) (t := 3) ?_ rfl
    show ((w.heap.push _).push _)[w.heap.size]? = _
    simp [Array.getElem?_push]
  all_goals (unfold joinW; simp [go_sem])

set_option maxHeartbeats 2000000 in
theorem LineJoin_any (v : Value) (l : List Int) (c : Int) (w : World) (h : RdI w v l) : Calls Try.prog 9 #[v, .int .i64 c] w (GetsJ (joinL l c) w) := by
  have hm := h.len
  have CI := Lib.hid (Contains_num v l c w h)
  have CC := Lib.hid (isClient_any c w)
  obtain ⟨a, cap, rfl⟩ := h.form
  unfold joinL
  cases n1 : clientF c
  case false =>
    rw [if_pos rfl]
    rw [n1] at CC
    clear CI n1
    generalize l.length = L at *
    go_enter Try.func9, Try.ntmps9
    go_wp2_with (go_at_call 22; refine CC.out.mono ?_; rintro e w1 ⟨rfl, rfl⟩)
    refine bodyPost_ret (by simp [results, Try.results9, go_sem] <;> rfl) rfl ?_
    exact GetsJ.empty rfl (Below.refl _ _)
  rw [if_neg (by simp)]
  rw [n1] at CC
  cases n2 : hasL l c
  case true =>
    rw [if_pos rfl]
    rw [n2] at CI
    clear n2
    generalize l.length = L at *
    go_enter Try.func9, Try.ntmps9
    go_wp2_with (first
      | (go_at_call 22; refine CC.out.mono ?_; rintro e w1 ⟨rfl, rfl⟩)
      | (go_at_call 23; refine CI.out.mono ?_; rintro e w1 ⟨rfl, rfl⟩))
    refine bodyPost_ret (by simp [results, Try.results9, go_sem] <;> rfl) rfl ?_
    exact GetsJ.empty rfl (Below.refl _ _)
  rw [if_neg (by simp)]
  rw [n2] at CI
  by_cases h3 : 3 ≤ l.length
  · rw [if_pos h3]
    have d3 : decide ((3 : Int) ≤ (l.length : Int)) = true := by simp; omega
    clear n2
    generalize l.length = L at *
    clear h3
    go_enter Try.func9, Try.ntmps9
    go_wp2_with (first
      | (go_at_call 22; refine CC.out.mono ?_; rintro e w1 ⟨rfl, rfl⟩)
      | (go_at_call 23; refine CI.out.mono ?_; rintro e w1 ⟨rfl, rfl⟩))
    refine bodyPost_ret (by simp [results, Try.results9, go_sem] <;> rfl) rfl ?_
    exact GetsJ.empty rfl (Below.refl _ _)
  rw [if_neg h3]
  have d3 : decide ((3 : Int) ≤ (l.length : Int)) = false := by simp; omega
  have HZ := Lib.hid (join_cat w c _ l (by omega) h)
  clear h3 n2 h n1
  go_enter Try.func9, Try.ntmps9
  go_wp2_with (first
    | (go_at_call 22; refine CC.out.mono ?_; rintro e w1 ⟨rfl, rfl⟩)
    | (go_at_call 23; refine CI.out.mono ?_; rintro e w1 ⟨rfl, rfl⟩)
    | (go_at_call 24; refine HZ.out.mono ?_; rintro e w6 ⟨v6, rfl, ho6, hb6⟩))
  refine bodyPost_ret (by simp [results, Try.results9, go_sem] <;> rfl) rfl ?_
  exact ⟨v6, rfl, own_lowerX ho6 (joinW_below _ _ _).size, step (joinW_below _ _ _) hb6⟩

theorem LineLeave_any (v : Value) (l : List Int) (c : Int) (w : World) (h : RdI w v l) (h5 : l.length ≤ 1000) : Calls Try.prog 12 #[v, .int .i64 c] w (GetsL (leaveL l c) w) := by
  have KC := Lib.hid (LineAhead_any v l c w h)
  have KW := Lib.hid (fun w1 (hb : Below w.heap.size w w1) => LineWithout_any v _ l [c] _ (h.later (step hb (newAlloc w1 (.cells #[.int .i64 c] 3)))) (RdX.one (cs := #[.int .i64 c]) (t := 3) (y := c) (w := w1.alloc (.cells #[.int .i64 c] 3)) (b := w1.heap.size) (by show (w1.heap.push _)[w1.heap.size]? = _; simp) rfl) h5)
  obtain ⟨a, cap, rfl⟩ := h.form
  unfold leaveL
  rw [← aheadL_has l c]
  generalize aheadL l c = b at KC ⊢
  obtain ⟨n, b⟩ := b
  generalize withoutL l [c] = M at KW ⊢
  clear h h5
  generalize l.length = L at *
  go_enter Try.func12, Try.ntmps12
  go_wp2_with (first
    | (go_at_call 16; refine KC.out.mono ?_; rintro e w1 ⟨rfl, hb1⟩; have HB0 := Lib.hid hb1; have KW1 := Lib.hid (KW.out _ hb1); have HB1 := Lib.hid (step hb1 (newAlloc w1 (.cells #[.int .i64 c] 3))); clear hb1)
    | (go_at_call 18; refine KW1.out.mono ?_; rintro e w2 ⟨v1, rfl, ho1, hb2⟩; have HB2 := Lib.hid (step HB1.out hb2)))
  go_ret2
  exact ⟨v1, rfl, own_lowerX ho1 HB1.out.size, HB2.out⟩

theorem LineNext_any (v : Value) (l : List Int) (w : World) (h : RdI w v l) (h5 : l.length ≤ 1000) : Calls Try.prog 15 #[v] w (GetsX (nextL l) w) := by
  have HR := Lib.hid h
  obtain ⟨a, cap, rfl⟩ := h.form
  have hcap : l.length ≤ cap ∧ cap ≤ maxLen := by
    obtain ⟨a', cap', hv, q1, q2, _⟩ := h.ex
    cases hv
    exact ⟨q1, q2⟩
  unfold maxLen at hcap
  obtain ⟨hc1, hc2⟩ := hcap
  match l, HR, h5, h, hc1 with
  | [], HR, h5, h, hc1 =>
    unfold nextL
    clear h
    rw [List.length_nil] at *
    go_enter Try.func15, Try.ntmps15
    go_wp2
    refine bodyPost_ret (by simp [results, Try.results15, go_sem] <;> rfl) rfl ?_
    exact ⟨_, rfl, World.ownsRow_nil _ _ _ _, Below.refl _ _⟩
  | x :: l, HR, h5, h, hc1 =>
    unfold nextL
    obtain ⟨b, o, rfl, hc⟩ := rdi_at h 0 (by simp)
    have HX := Lib.hid (fun n => hc (w.drewN n) (below_drewN6 (Below.refl _ _) n))
    have x0 := hc w (Below.refl _ _)
    simp only [List.getElem_cons_zero, Nat.add_zero] at HX x0
    have HD := Lib.hid (HR.out.drop (by omega) 1 (by simp))
    rw [List.drop_one, List.tail_cons] at HD
    clear h HR hc
    obtain ⟨L, hL⟩ : ∃ L, (x :: l).length = L := ⟨_, rfl⟩
    have hL1 : l.length + 1 = L := by rw [← hL]; simp
    rw [hL] at h5 hc1 HD ⊢
    have g1 : (0 : Int) < (L : Int) := by omega
    have g2 : (1 : Int) ≤ (L : Int) := by omega
    have z0 : ((L : Int) == 0) = false := by simp; omega
    have HLL : Hid (l.length + 1 = L ∧ L ≤ 1000) := Lib.hid ⟨hL1, h5⟩
    clear hL hL1
    have g0 : 0 < L := by omega
    have g3 : 1 ≤ L := by omega
    by_cases hcp : cap = 1
    · rw [if_pos hcp] at HD
      obtain rfl : L = 1 := by omega
      subst hcp
      have KC := Lib.hid (fun w' (hb : Below w.heap.size w w') => CloneI_any _ l w' (HD.out.later hb) (by have := HLL.out; omega))
      clear g0 g1 g2 g3 z0 hc1 hc2
      go_enter Try.func15, Try.ntmps15
      go_upto_region 3 with fail
      go_region_held3 (fun w' => w'.cell? ⟨b, o, none⟩ = some (.int .i64 x)) (first | exact x0 | exact (hb6.cell (lt_of_cell x0)).trans x0 | go_keep) (first
        | (go_at_call 26; refine (KC.out _ (Below.refl _ _).drew).mono ?_; rintro e w6 ⟨v6, rfl, ho6, hb6⟩))
      go_wp2
      refine bodyPost_ret (by simp [results, Try.results15, go_sem] <;> rfl) rfl ?_
      exact ⟨v6, rfl, ho6, step (Below.refl _ _).drew hb6⟩
    · rw [if_neg hcp] at HD
      have KC := Lib.hid (fun w' (hb : Below w.heap.size w w') => CloneI_any _ l w' (HD.out.later hb) (by have := HLL.out; omega))
      have hadd : (⟨b, o, none⟩ : Addr).add (1 * 1) = ⟨b, o + 1, none⟩ := by unfold Addr.add; split <;> simp_all
      rw [Option.map_some, hadd] at KC
      clear hadd
      go_enter Try.func15, Try.ntmps15
      go_upto_region 3 with fail
      go_region_held3 (fun w' => w'.cell? ⟨b, o, none⟩ = some (.int .i64 x)) (first | exact x0 | exact (hb6.cell (lt_of_cell x0)).trans x0 | go_keep) (first
        | (go_at_call 26; refine (KC.out _ (Below.refl _ _).drew).mono ?_; rintro e w6 ⟨v6, rfl, ho6, hb6⟩))
      go_wp2
      refine bodyPost_ret (by simp [results, Try.results15, go_sem] <;> rfl) rfl ?_
      exact ⟨v6, rfl, ho6, step (Below.refl _ _).drew hb6⟩
end Cm
end Go.Proofs.Ytgpiaibklokhmaa
