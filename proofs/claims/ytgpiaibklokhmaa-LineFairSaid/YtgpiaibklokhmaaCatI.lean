/- Contracts: slices.Grow, slices.Concat, slices.Clone over numbers. -/
import Derived.Test.YtgpiaibklokhmaaGenB
import Derived.Test.YtgpiaibklokhmaaFLine
import Derived.Lib.AppendZeros
set_option linter.unusedVariables false
set_option linter.unusedSimpArgs false
namespace Go.Proofs.Ytgpiaibklokhmaa
open Go.RowKit
namespace Cm

theorem ownsI_new (w : World) (cs : Array Value) (cap : Nat) (hc : cs.size = cap) (hm : cap ≤ maxLen) :
    (w.alloc (.cells cs 3)).drew.ownsRow w.heap.size 3 1 (.slice (some ⟨w.heap.size, 0, none⟩) 0 cap) 0 [] := by
  refine ⟨rfl, .inr ⟨w.heap.size, cap, cs, rfl, Nat.le_refl _, ?_, Nat.zero_le _, hm, by omega, by simp⟩⟩
  show (w.heap.push (.cells cs 3))[w.heap.size]? = _
  simp

/-- Numbers told, in new memory of the call's own. -/
def MadeI (l : List Int) (w : World) (e : Ending) (w' : World) : Prop :=
  ∃ v, e = .returned v ∧ w'.ownsRow w.heap.size 3 1 v l.length (flatX cellsI l) ∧ Below w.heap.size w w'

theorem GrowI_none (w : World) :
    Calls Try.prog 28 #[.slice none 0 0, .int .i64 0] w (MadeI [] w) := by
  go_enter Try.func28, Try.ntmps28
  go_wp2
  go_ret
  exact ⟨_, rfl, World.ownsRow_nil _ _ _ _, Below.refl _ _⟩

theorem GrowI_some (n : Nat) (w : World) (h0 : 0 < n) (h : n ≤ 1000000) :
    Calls Try.prog 28 #[.slice none 0 0, .int .i64 (n : Int)] w (MadeI [] w) := by
  obtain ⟨i0, hi, hz0, hz1, hz2⟩ := info_parts infoN
  have hr := fun ty => Lib.run_append_nil_zeros (P := Try.prog) w 23 3 ty 3 i0 (.int .i64 0) .i64 .i64 Try.underlying23 Try.underlying3 hi hz0 n h0 (by rw [hz1]; omega) (by omega) (by rw [hz2]; omega)
  have hge := grownCap_ge w n 0 3
  have hle := grownCap_le_maxLen w n 0 3 (by unfold maxLen; omega)
  generalize grownCap w n 0 3 = cap at hr hge hle
  have hmx := hle
  unfold maxLen at hmx
  have HR := Lib.hid hr
  clear hr
  go_enter Try.func28, Try.ntmps28
  go_wp2_with (at_builtin; refine Lib.wpList_append_run _ rfl _ _ _ _ rfl _ _ rfl rfl _ _ (HR.out _) ?_)
  go_ret
  exact ⟨_, rfl, ownsI_new w _ cap (by simp [Builtin.zeroCells, Value.cells]; omega) hle, ((Below.refl _ _).alloc (Nat.le_refl _) _).drew⟩

theorem GrowI_any (n : Nat) (w : World) (h : n ≤ 1000000) :
    Calls Try.prog 28 #[.slice none 0 0, .int .i64 (n : Int)] w (MadeI [] w) := by
  rcases Nat.eq_zero_or_pos n with rfl | h0
  · exact GrowI_none w
  · exact GrowI_some n w h0 h

/-- Lists of lists, one behind the other. -/
def flatQ (l : List (Value × List Int)) : List Int := l.flatMap (·.2)
theorem flatQ_take_succ (l : List (Value × List Int)) (j : Nat) (h : j < l.length) : flatQ (l.take (j + 1)) = flatQ (l.take j) ++ (l[j]).2 := by
  unfold flatQ
  rw [List.take_succ_eq_append_getElem h, List.flatMap_append]
  simp
theorem flatQ_take_le (l : List (Value × List Int)) (j : Nat) : (flatQ (l.take j)).length ≤ (flatQ l).length := by
  conv => rhs; rw [← List.take_append_drop j l]
  unfold flatQ
  rw [List.flatMap_append, List.length_append]
  omega

set_option maxHeartbeats 1000000 in
theorem ConcatI_any (b : Nat) (l : List (Value × List Int)) (w : World) (hc : ∀ j (h : j < l.length), w.cell? ⟨b, j, none⟩ = some (l[j]).1 ∧ RdI w (l[j]).1 (l[j]).2) (hk : l.length ≤ 1000) (h1 : (flatQ l).length ≤ 1000000) :
    Calls Try.prog 24 #[.slice (some ⟨b, 0, none⟩) l.length l.length] w (MadeI (flatQ l) w) := by
  obtain ⟨i0, hi, hz0, hz1, hz2⟩ := info_parts infoN
  have HC := Lib.hid hc
  have HS := Lib.hid (flatQ_take_succ l)
  have HL := Lib.hid (flatQ_take_le l)
  clear hc
  go_enter Try.func24, Try.ntmps24
  go_wp2
  go_loop [3, 11] (fun z i => ∃ j : Nat, j ≤ l.length ∧ i = .int .i64 j ∧ z = .int .i64 ((flatQ (l.take j)).length : Int)) (fun _ i => l.length - (intOf i).toNat)
  case atStart => exact ⟨0, by omega, rfl, rfl⟩
  case round =>
    obtain ⟨j, hj, rfl, rfl⟩ := hrel
    by_cases hlt : j < l.length
    · obtain ⟨hcell, hrd⟩ := HC.out j hlt
      have hsz : (flatQ (l.take (j + 1))).length = (flatQ (l.take j)).length + (l[j]).2.length := by rw [HS.out j hlt, List.length_append]
      have hle := HL.out (j + 1)
      generalize l[j] = x at hcell hrd hsz
      obtain ⟨v, bs⟩ := x
      dsimp only at hcell hsz hrd
      have hm := hrd.len
      obtain ⟨a, cap, rfl⟩ := hrd.form
      clear hrd
      generalize (flatQ (l.take j)).length = A at hsz ⊢
      generalize hB : (flatQ (l.take (j + 1))).length = B at hsz hle ⊢
      generalize bs.length = Z at hsz hm hcell
      have HB := Lib.hid hB
      clear hB
      go_wp2
      go_round
      case rel => exact ⟨j + 1, by omega, by go_num, by rw [HB.out, hsz]; go_num⟩
      case measure => simp [intOf]; omega
    · obtain rfl : j = l.length := by omega
      rw [List.take_length]
      have G := Lib.hid (fun w => GrowI_any (flatQ l).length w h1)
      go_wp2_with (go_at_call 28; refine (G.out _).mono ?_; rintro e w1 ⟨v1, rfl, hown, hb⟩)
      go_loopw [6, 27] (fun v i wr => ∃ j : Nat, j ≤ l.length ∧ i = .int .i64 j ∧ wr.ownsRow w.heap.size 3 1 v (flatQ (l.take j)).length (flatX cellsI (flatQ (l.take j))) ∧ Below w.heap.size w wr) (fun _ i _ => l.length - (intOf i).toNat)
      case atStart => exact ⟨0, by omega, rfl, hown, hb⟩
      case round =>
        obtain ⟨j, hj, rfl, ho, hbw⟩ := hrel
        by_cases hlt : j < l.length
        · obtain ⟨hcell0, hrd0⟩ := HC.out j hlt
          have hcell := hbw.cell (p := ⟨b, j, none⟩) (lt_of_cell hcell0)
          rw [hcell0] at hcell
          have hrd := hrd0.later hbw
          have hsz : flatQ (l.take (j + 1)) = flatQ (l.take j) ++ (l[j]).2 := HS.out j hlt
          have hle := HL.out (j + 1)
          have hbs := hbw.size
          rw [hsz] at hle
          generalize l[j] = x at hcell hrd hsz hle
          clear hcell0 hrd0
          obtain ⟨v, bs⟩ := x
          dsimp only at hcell hrd hsz hle
          rw [List.length_append] at hle
          have HZ := Lib.hid hsz
          clear hsz
          generalize flatQ (l.take j) = A at ho hle HZ
          have HO := Lib.hid ho
          have HR := Lib.hid hrd
          have HB := Lib.hid hbw
          clear ho hrd hbw
          go_wp2_with (at_builtin; refine wpList_append_rdx cellsI_length (by omega) cellsI_one rfl _ _ 23 rfl w.heap.size 3 i0 _ 8 Try.underlying23 hi hz0 hz1 hz2 rfl _ _ _ rfl HO.out _ bs rfl HR.out (by unfold maxLen; omega) (by omega) hbs ?_; intro v1 w2 hown2 hgrow2)
          go_roundw
          case rel => exact ⟨j + 1, by omega, by go_num, by rw [HZ.out, List.length_append, flatX_append]; exact hown2, HB.out.grown hgrow2 hbs (fun k hk => (Rw.own_lt HO.out k hk).1)⟩
          case measure => simp [intOf]; omega
        · obtain rfl : j = l.length := by omega
          rw [List.take_length] at ho
          go_wp2
          go_ret
          exact ⟨_, rfl, ho, hbw⟩

/-- Two, one behind the other. -/
theorem ConcatI_two (w : World) (b : Nat) (u v : Value) (us vs : List Int) (hu : RdI w u us) (hv : RdI w v vs) (h0 : w.cell? ⟨b, 0, none⟩ = some u) (h1 : w.cell? ⟨b, 1, none⟩ = some v)
    (hl : us.length + vs.length ≤ 1000000) :
    Calls Try.prog 24 #[.slice (some ⟨b, 0, none⟩) 2 2] w (MadeI (us ++ vs) w) := by
  have e : flatQ [(u, us), (v, vs)] = us ++ vs := by simp [flatQ]
  have := ConcatI_any b [(u, us), (v, vs)] w (fun j h => by
    match j, h with
    | 0, _ => exact ⟨h0, hu⟩
    | 1, _ => exact ⟨h1, hv⟩) (by simp) (by rw [e]; simp; omega)
  rw [e] at this
  exact this

/-- Three, one behind the other. -/
theorem ConcatI_three (w : World) (b : Nat) (u v x : Value) (us vs xs : List Int) (hu : RdI w u us) (hv : RdI w v vs) (hx : RdI w x xs) (h0 : w.cell? ⟨b, 0, none⟩ = some u) (h1 : w.cell? ⟨b, 1, none⟩ = some v) (h2 : w.cell? ⟨b, 2, none⟩ = some x)
    (hl : us.length + vs.length + xs.length ≤ 1000000) :
    Calls Try.prog 24 #[.slice (some ⟨b, 0, none⟩) 3 3] w (MadeI (us ++ (vs ++ xs)) w) := by
  have e : flatQ [(u, us), (v, vs), (x, xs)] = us ++ (vs ++ xs) := by simp [flatQ]
  have := ConcatI_any b [(u, us), (v, vs), (x, xs)] w (fun j h => by
    match j, h with
    | 0, _ => exact ⟨h0, hu⟩
    | 1, _ => exact ⟨h1, hv⟩
    | 2, _ => exact ⟨h2, hx⟩) (by simp) (by rw [e]; simp; omega)
  rw [e] at this
  exact this

theorem CloneI_any (v : Value) (l : List Int) (w : World) (h : RdI w v l) (h5 : l.length ≤ 1000000) :
    Calls Try.prog 26 #[v] w (MadeI l w) := by
  obtain ⟨i0, hi, hz0, hz1, hz2⟩ := info_parts infoN
  have heq : ∀ w a n c, (binOp .eql 23 (.slice a n c) (.slice none 0 0)).run Try.prog w = .ok (.bool a.isNone) w := fun w a n c => Lib.run_eql_slice_nil w 23 3 a n c 0 0 Try.underlying23
  have HR := Lib.hid h
  obtain ⟨a, cap, rfl⟩ := h.form
  cases a with
  | none =>
    have hl : l = [] := by
      obtain ⟨a', cap', hv, _, _, h3, _⟩ := h.ex
      cases hv
      exact (h3 rfl).1
    subst hl
    clear h
    go_enter Try.func26, Try.ntmps26
    go_wp2
    go_ret
    exact ⟨_, rfl, World.ownsRow_nil _ _ _ _, Below.refl _ _⟩
  | some ad =>
    clear h
    have HR2 := Lib.hid (fun o => HR.out.later (newAlloc w o))
    clear HR
    go_enter Try.func26, Try.ntmps26
    go_wp2_with (at_builtin; refine wpList_append_rdx cellsI_length (by omega) cellsI_one rfl _ _ 23 rfl w.heap.size 3 i0 _ 8 Try.underlying23 hi hz0 hz1 hz2 rfl _ 0 [] rfl (own_new w _ 1 _ _ rfl (Nat.le_refl _)) _ l rfl (HR2.out _) (by unfold maxLen; omega) (by omega) (newAlloc w (.cells #[] 3)).size ?_; intro v1 w2 hown2 hgrow2)
    go_ret
    refine ⟨_, rfl, by simpa using hown2, (newAlloc w (.cells #[] 3)).grown hgrow2 (newAlloc w (.cells #[] 3)).size (fun k hk => ?_)⟩
    cases hk
    exact Nat.le_refl _
end Cm
end Go.Proofs.Ytgpiaibklokhmaa
