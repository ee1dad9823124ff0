/- Contracts: slices.Grow, slices.Concat, slices.Clone over sessions. -/
import Derived.Test.YtkhcnhfdcbellaaGenB
import Derived.Test.YtkhcnhfdcbellaaSesG
import Derived.Lib.AppendZeros
set_option linter.unusedVariables false
set_option linter.unusedSimpArgs false
namespace Go.Proofs.Ytkhcnhfdcbellaa
open Go.RowKit
namespace Cm

theorem ownsS_new (w : World) (cs : Array Value) (cap : Nat) (hc : cs.size = cap * 3) (hm : cap ≤ maxLen) :
    (w.alloc (.cells cs 34)).drew.ownsRow w.heap.size 34 3 (.slice (some ⟨w.heap.size, 0, none⟩) 0 cap) 0 [] := by
  refine ⟨rfl, .inr ⟨w.heap.size, cap, cs, rfl, Nat.le_refl _, ?_, Nat.zero_le _, hm, by omega, by simp⟩⟩
  show (w.heap.push (.cells cs 34))[w.heap.size]? = _
  simp

/-- Sessions told, in new memory of the call's own. -/
def MadeL (l : List SesV) (w : World) (e : Ending) (w' : World) : Prop :=
  ∃ v, e = .returned v ∧ w'.ownsRow w.heap.size 34 3 v l.length (flatX cellsS l) ∧ Below w.heap.size w w'

theorem GrowS_none (w : World) :
    Calls Try.prog 39 #[.slice none 0 0, .int .i64 0] w (MadeL [] w) := by
  go_enter Try.func39, Try.ntmps39
  go_wp2
  go_ret
  exact ⟨_, rfl, World.ownsRow_nil _ _ _ _, Below.refl _ _⟩

theorem GrowS_some (n : Nat) (w : World) (h0 : 0 < n) (h : n ≤ 1000000) :
    Calls Try.prog 39 #[.slice none 0 0, .int .i64 (n : Int)] w (MadeL [] w) := by
  obtain ⟨i0, hi, hz0, hz1, hz2⟩ := info_parts infoS
  have hr := fun ty => Lib.run_append_nil_zeros (P := Try.prog) w 24 3 ty 34 i0 (.agg #[.int .i64 0, .int .i64 0, .int .i64 0]) .i64 .i64 Try.underlying24 Try.underlying3 hi hz0 n h0 (by rw [hz1]; omega) (by omega) (by rw [hz2]; omega)
  have hge := grownCap_ge w n 0 34
  have hle := grownCap_le_maxLen w n 0 34 (by unfold maxLen; omega)
  generalize grownCap w n 0 34 = cap at hr hge hle
  have hmx := hle
  unfold maxLen at hmx
  have HR := Lib.hid hr
  clear hr
  go_enter Try.func39, Try.ntmps39
  go_wp2_with (at_builtin; refine Lib.wpList_append_run _ rfl _ _ _ _ rfl _ _ rfl rfl _ _ (HR.out _) ?_)
  go_ret
  exact ⟨_, rfl, ownsS_new w _ cap (by simp [Builtin.zeroCells, Value.cells]; omega) hle, ((Below.refl _ _).alloc (Nat.le_refl _) _).drew⟩

theorem GrowS_any (n : Nat) (w : World) (h : n ≤ 1000000) :
    Calls Try.prog 39 #[.slice none 0 0, .int .i64 (n : Int)] w (MadeL [] w) := by
  rcases Nat.eq_zero_or_pos n with rfl | h0
  · exact GrowS_none w
  · exact GrowS_some n w h0 h

/-- Lists of lists, one behind the other. -/
def flatP (l : List (Value × List SesV)) : List SesV := l.flatMap (·.2)
theorem flatP_take_succ (l : List (Value × List SesV)) (j : Nat) (h : j < l.length) : flatP (l.take (j + 1)) = flatP (l.take j) ++ (l[j]).2 := by
  unfold flatP
  rw [List.take_succ_eq_append_getElem h, List.flatMap_append]
  simp
theorem flatP_take_le (l : List (Value × List SesV)) (j : Nat) : (flatP (l.take j)).length ≤ (flatP l).length := by
  conv => rhs; rw [← List.take_append_drop j l]
  unfold flatP
  rw [List.flatMap_append, List.length_append]
  omega

set_option maxHeartbeats 1000000 in
theorem ConcatS_any (b : Nat) (l : List (Value × List SesV)) (w : World) (hc : ∀ j (h : j < l.length), w.cell? ⟨b, j, none⟩ = some (l[j]).1 ∧ RdS w (l[j]).1 (l[j]).2) (hk : l.length ≤ 1000) (h1 : (flatP l).length ≤ 1000000) :
    Calls Try.prog 29 #[.slice (some ⟨b, 0, none⟩) l.length l.length] w (MadeL (flatP l) w) := by
  obtain ⟨i0, hi, hz0, hz1, hz2⟩ := info_parts infoS
  have HC := Lib.hid hc
  have HS := Lib.hid (flatP_take_succ l)
  have HL := Lib.hid (flatP_take_le l)
  clear hc
  go_enter Try.func29, Try.ntmps29
  go_wp2
  go_loop [3, 11] (fun z i => ∃ j : Nat, j ≤ l.length ∧ i = .int .i64 j ∧ z = .int .i64 ((flatP (l.take j)).length : Int)) (fun _ i => l.length - (intOf i).toNat)
  case atStart => exact ⟨0, by omega, rfl, rfl⟩
  case round =>
    obtain ⟨j, hj, rfl, rfl⟩ := hrel
    by_cases hlt : j < l.length
    · obtain ⟨hcell, hrd⟩ := HC.out j hlt
      have hsz : (flatP (l.take (j + 1))).length = (flatP (l.take j)).length + (l[j]).2.length := by rw [HS.out j hlt, List.length_append]
      have hle := HL.out (j + 1)
      generalize l[j] = x at hcell hrd hsz
      obtain ⟨v, bs⟩ := x
      dsimp only at hcell hsz hrd
      have hm := hrd.len
      obtain ⟨a, cap, rfl⟩ := hrd.form
      clear hrd
      generalize (flatP (l.take j)).length = A at hsz ⊢
      generalize hB : (flatP (l.take (j + 1))).length = B at hsz hle ⊢
      generalize bs.length = Z at hsz hm hcell
      have HB := Lib.hid hB
      clear hB
      go_wp2
      go_round
      case rel => exact ⟨j + 1, by omega, by go_num, by rw [HB.out, hsz]; go_num⟩
      case measure => simp [intOf]; omega
    · obtain rfl : j = l.length := by omega
      rw [List.take_length]
      have G := Lib.hid (fun w => GrowS_any (flatP l).length w h1)
      go_wp2_with (go_at_call 39; refine (G.out _).mono ?_; rintro e w1 ⟨v1, rfl, hown, hb⟩)
      go_loopw [6, 27] (fun v i wr => ∃ j : Nat, j ≤ l.length ∧ i = .int .i64 j ∧ wr.ownsRow w.heap.size 34 3 v (flatP (l.take j)).length (flatX cellsS (flatP (l.take j))) ∧ Below w.heap.size w wr) (fun _ i _ => l.length - (intOf i).toNat)
      case atStart => exact ⟨0, by omega, rfl, hown, hb⟩
      case round =>
        obtain ⟨j, hj, rfl, ho, hbw⟩ := hrel
        by_cases hlt : j < l.length
        · obtain ⟨hcell0, hrd0⟩ := HC.out j hlt
          have hcell := hbw.cell (p := ⟨b, j, none⟩) (lt_of_cell hcell0)
          rw [hcell0] at hcell
          have hrd := hrd0.later hbw
          have hsz : flatP (l.take (j + 1)) = flatP (l.take j) ++ (l[j]).2 := HS.out j hlt
          have hle := HL.out (j + 1)
          have hbs := hbw.size
          rw [hsz] at hle
          generalize l[j] = x at hcell hrd hsz hle
          clear hcell0 hrd0
          obtain ⟨v, bs⟩ := x
          dsimp only at hcell hrd hsz hle
          rw [List.length_append] at hle
          have HZ := Lib.hid hsz
          clear hsz
          generalize flatP (l.take j) = A at ho hle HZ
          have HO := Lib.hid ho
          have HR := Lib.hid hrd
          have HB := Lib.hid hbw
          clear ho hrd hbw
          go_wp2_with (at_builtin; refine wpList_append_rdx cellsS_length (by omega) cellsS_one rfl _ _ 24 rfl w.heap.size 34 i0 _ 24 Try.underlying24 hi hz0 hz1 hz2 rfl _ _ _ rfl HO.out _ bs rfl HR.out (by unfold maxLen; omega) (by omega) hbs ?_; intro v1 w2 hown2 hgrow2)
          go_roundw
          case rel => exact ⟨j + 1, by omega, by go_num, by rw [HZ.out, List.length_append, flatX_append]; exact hown2, HB.out.grown hgrow2 hbs (fun k hk => (Rw.own_lt HO.out k hk).1)⟩
          case measure => simp [intOf]; omega
        · obtain rfl : j = l.length := by omega
          rw [List.take_length] at ho
          go_wp2
          go_ret
          exact ⟨_, rfl, ho, hbw⟩

/-- Two, one behind the other. -/
theorem ConcatS_two (w : World) (b : Nat) (u v : Value) (us vs : List SesV) (hu : RdS w u us) (hv : RdS w v vs) (h0 : w.cell? ⟨b, 0, none⟩ = some u) (h1 : w.cell? ⟨b, 1, none⟩ = some v)
    (hl : us.length + vs.length ≤ 1000000) :
    Calls Try.prog 29 #[.slice (some ⟨b, 0, none⟩) 2 2] w (MadeL (us ++ vs) w) := by
  have e : flatP [(u, us), (v, vs)] = us ++ vs := by simp [flatP]
  have := ConcatS_any b [(u, us), (v, vs)] w (fun j h => by
    match j, h with
    | 0, _ => exact ⟨h0, hu⟩
    | 1, _ => exact ⟨h1, hv⟩) (by simp) (by rw [e]; simp; omega)
  rw [e] at this
  exact this

/-- Three, one behind the other. -/
theorem ConcatS_three (w : World) (b : Nat) (u v x : Value) (us vs xs : List SesV) (hu : RdS w u us) (hv : RdS w v vs) (hx : RdS w x xs) (h0 : w.cell? ⟨b, 0, none⟩ = some u) (h1 : w.cell? ⟨b, 1, none⟩ = some v) (h2 : w.cell? ⟨b, 2, none⟩ = some x)
    (hl : us.length + vs.length + xs.length ≤ 1000000) :
    Calls Try.prog 29 #[.slice (some ⟨b, 0, none⟩) 3 3] w (MadeL (us ++ (vs ++ xs)) w) := by
  have e : flatP [(u, us), (v, vs), (x, xs)] = us ++ (vs ++ xs) := by simp [flatP]
  have := ConcatS_any b [(u, us), (v, vs), (x, xs)] w (fun j h => by
    match j, h with
    | 0, _ => exact ⟨h0, hu⟩
    | 1, _ => exact ⟨h1, hv⟩
    | 2, _ => exact ⟨h2, hx⟩) (by simp) (by rw [e]; simp; omega)
  rw [e] at this
  exact this

theorem CloneS_any (v : Value) (l : List SesV) (w : World) (h : RdS w v l) (h5 : l.length ≤ 1000000) :
    Calls Try.prog 33 #[v] w (MadeL l w) := by
  obtain ⟨i0, hi, hz0, hz1, hz2⟩ := info_parts infoS
  have heq : ∀ w a n c, (binOp .eql 24 (.slice a n c) (.slice none 0 0)).run Try.prog w = .ok (.bool a.isNone) w := fun w a n c => Lib.run_eql_slice_nil w 24 34 a n c 0 0 Try.underlying24
  have HR := Lib.hid h
  obtain ⟨a, cap, rfl⟩ := h.form
  cases a with
  | none =>
    have hl : l = [] := by
      obtain ⟨a', cap', hv, _, _, h3, _⟩ := h.ex
      cases hv
      exact (h3 rfl).1
    subst hl
    clear h
    go_enter Try.func33, Try.ntmps33
    go_wp2
    go_ret
    exact ⟨_, rfl, World.ownsRow_nil _ _ _ _, Below.refl _ _⟩
  | some ad =>
    clear h
    have HR2 := Lib.hid (fun o => HR.out.later (newAlloc w o))
    clear HR
    go_enter Try.func33, Try.ntmps33
    go_wp2_with (at_builtin; refine wpList_append_rdx cellsS_length (by omega) cellsS_one rfl _ _ 24 rfl w.heap.size 34 i0 _ 24 Try.underlying24 hi hz0 hz1 hz2 rfl _ 0 [] rfl (own_new w _ 3 _ _ rfl (Nat.le_refl _)) _ l rfl (HR2.out _) (by unfold maxLen; omega) (by omega) (newAlloc w (.cells #[] 34)).size ?_; intro v1 w2 hown2 hgrow2)
    go_ret
    refine ⟨_, rfl, by simpa using hown2, (newAlloc w (.cells #[] 34)).grown hgrow2 (newAlloc w (.cells #[] 34)).size (fun k hk => ?_)⟩
    cases hk
    exact Nat.le_refl _
end Cm
end Go.Proofs.Ytkhcnhfdcbellaa
