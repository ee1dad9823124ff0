/- Contracts: slices.Grow and slices.Concat over bytes. -/
import Derived.Test.YtklnopgnlnfbnaaMath2
import Derived.Lib.AppendZeros
set_option linter.unusedVariables false
set_option linter.unusedSimpArgs false
namespace Go.Proofs.Ytklnopgnlnfbnaa
open Go.RowKit

theorem owns_new (w : World) (cs : Array Value) (cap : Nat) (hc : cs.size = cap) (hm : cap ≤ maxLen) :
    (w.alloc (.cells cs 5)).drew.ownsRow w.heap.size 5 1 (.slice (some ⟨w.heap.size, 0, none⟩) 0 cap) 0 [] := by
  refine ⟨rfl, .inr ⟨w.heap.size, cap, cs, rfl, Nat.le_refl _, ?_, Nat.zero_le _, hm, by omega, by simp⟩⟩
  show (w.heap.push (.cells cs 5))[w.heap.size]? = _
  simp

theorem Grow_nil (n : Nat) (w : World) (h0 : 0 < n) (h : n ≤ 1000000) :
    Calls Try.prog 44 #[.slice none 0 0, .int .i64 (n : Int)] w fun e w' => ∃ cap, e = .returned (.slice (some ⟨w.heap.size, 0, none⟩) 0 cap) ∧
      w'.ownsRow w.heap.size 5 1 (.slice (some ⟨w.heap.size, 0, none⟩) 0 cap) 0 [] ∧ Below w.heap.size w w' := by
  obtain ⟨i0, hi, hz0, hz1, hz2⟩ := info_parts info8
  have hr := fun ty => Lib.run_append_nil_zeros (P := Try.prog) w 26 3 ty 5 i0 (.int .u8 0) .i64 .i64 Try.underlying26 Try.underlying3 hi hz0 n h0 (by rw [hz1]; omega) (by omega) (by rw [hz2]; omega)
  have hge := grownCap_ge w n 0 5
  have hle := grownCap_le_maxLen w n 0 5 (by unfold maxLen; omega)
  generalize grownCap w n 0 5 = cap at hr hge hle
  have hmx := hle
  unfold maxLen at hmx
  have HR := Lib.hid hr
  clear hr
  go_enter Try.func44, Try.ntmps44
  go_wp2_with (at_builtin; refine Lib.wpList_append_run _ rfl _ _ _ _ rfl _ _ rfl rfl _ _ (HR.out _) ?_)
  go_ret
  exact ⟨cap, rfl, owns_new w _ cap (by simp [Builtin.zeroCells]; omega) hle, ((Below.refl _ _).alloc (Nat.le_refl _) _).drew⟩

/-- Bytes of bytes, one behind the other. -/
def flat (l : List (Value × List UInt8)) : List UInt8 := l.flatMap (·.2)
theorem flat_take_succ (l : List (Value × List UInt8)) (j : Nat) (h : j < l.length) : flat (l.take (j + 1)) = flat (l.take j) ++ (l[j]).2 := by
  unfold flat
  rw [List.take_succ_eq_append_getElem h, List.flatMap_append]
  simp
theorem flat_take_le (l : List (Value × List UInt8)) (j : Nat) : (flat (l.take j)).length ≤ (flat l).length := by
  conv => rhs; rw [← List.take_append_drop j l]
  unfold flat
  rw [List.flatMap_append, List.length_append]
  omega

/-- Bytes told, in new memory of the call's own. -/
def MadeOne (bs : List UInt8) (w : World) (e : Ending) (w' : World) : Prop :=
  ∃ v, e = .returned v ∧ w'.ownsRow w.heap.size 5 1 v bs.length (cellsOf bs) ∧ Below w.heap.size w w'

theorem Concat_any (b : Nat) (l : List (Value × List UInt8)) (w : World) (hc : ∀ j (h : j < l.length), w.cell? ⟨b, j, none⟩ = some (l[j]).1 ∧ Rd w (l[j]).1 (l[j]).2) (hk : l.length ≤ 1000) (h0 : 0 < (flat l).length) (h1 : (flat l).length ≤ 1000000) :
    Calls Try.prog 30 #[.slice (some ⟨b, 0, none⟩) l.length l.length] w (MadeOne (flat l) w) := by
  obtain ⟨i0, hi, hz0, hz1, hz2⟩ := info_parts info8
  have HC := Lib.hid hc
  have HS := Lib.hid (flat_take_succ l)
  have HL := Lib.hid (flat_take_le l)
  clear hc
  go_enter Try.func30, Try.ntmps30
  go_wp2
  go_loop [3, 11] (fun z i => ∃ j : Nat, j ≤ l.length ∧ i = .int .i64 j ∧ z = .int .i64 ((flat (l.take j)).length : Int)) (fun _ i => l.length - (intOf i).toNat)
  case atStart => exact ⟨0, by omega, rfl, rfl⟩
  case round =>
    obtain ⟨j, hj, rfl, rfl⟩ := hrel
    by_cases hlt : j < l.length
    · obtain ⟨hcell, hrd⟩ := HC.out j hlt
      have hsz : (flat (l.take (j + 1))).length = (flat (l.take j)).length + (l[j]).2.length := by rw [HS.out j hlt, List.length_append]
      have hle := HL.out (j + 1)
      generalize l[j] = x at hcell hrd hsz
      obtain ⟨v, bs⟩ := x
      obtain ⟨a, len, cap, rfl, hl, hcp, hm, hn, hx⟩ := hrd.ex
      clear hn hx hrd
      dsimp only at hcell hsz hl
      subst hl
      unfold maxLen at hm
      generalize (flat (l.take j)).length = A at hsz ⊢
      generalize hB : (flat (l.take (j + 1))).length = B at hsz hle ⊢
      have HB := Lib.hid hB
      clear hB
      go_wp2
      go_round
      case rel => exact ⟨j + 1, by omega, by go_num, by rw [HB.out, hsz]; go_num⟩
      case measure => simp [intOf]; omega
    · obtain rfl : j = l.length := by omega
      rw [List.take_length]
      have G : Hid (∀ w, Calls Try.prog 44 #[.slice none 0 0, .int .i64 ((flat l).length : Int)] w fun e w' => ∃ cap, e = .returned (.slice (some ⟨w.heap.size, 0, none⟩) 0 cap) ∧
        w'.ownsRow w.heap.size 5 1 (.slice (some ⟨w.heap.size, 0, none⟩) 0 cap) 0 [] ∧ Below w.heap.size w w') := fun w => Grow_nil _ w h0 h1
      go_wp2_with (go_at_call 44; refine (G.out _).mono ?_; rintro e w1 ⟨cap, rfl, hown, hb⟩)
      go_loopw [6, 27] (fun v i wr => ∃ j : Nat, j ≤ l.length ∧ i = .int .i64 j ∧ wr.ownsRow w.heap.size 5 1 v (flat (l.take j)).length (cellsOf (flat (l.take j))) ∧ Below w.heap.size w wr) (fun _ i _ => l.length - (intOf i).toNat)
      case atStart => exact ⟨0, by omega, rfl, hown, hb⟩
      case round =>
        obtain ⟨j, hj, rfl, ho, hbw⟩ := hrel
        by_cases hlt : j < l.length
        · obtain ⟨hcell0, hrd0⟩ := HC.out j hlt
          have hcell := hbw.cell (p := ⟨b, j, none⟩) (lt_of_cell hcell0)
          rw [hcell0] at hcell
          have hrd := hrd0.later hbw
          have hsz : flat (l.take (j + 1)) = flat (l.take j) ++ (l[j]).2 := HS.out j hlt
          have hle := HL.out (j + 1)
          have hbs := hbw.size
          rw [hsz] at hle
          generalize l[j] = x at hcell hrd hsz hle
          clear hcell0 hrd0
          obtain ⟨v, bs⟩ := x
          dsimp only at hcell hrd hsz hle
          rw [List.length_append] at hle
          have HZ := Lib.hid hsz
          clear hsz
          generalize flat (l.take j) = A at ho hle HZ
          have HO := Lib.hid ho
          have HR := Lib.hid hrd
          have HB := Lib.hid hbw
          clear ho hrd hbw
          go_wp2_with (at_builtin; refine wpList_append_rd rfl _ _ 26 rfl w.heap.size 5 i0 Try.underlying26 hi hz0 hz1 hz2 _ _ _ rfl HO.out _ bs rfl HR.out (by omega) hbs ?_; intro v1 w2 hown2 hgrow2)
          go_roundw
          case rel => exact ⟨j + 1, by omega, by go_num, by rw [HZ.out, List.length_append, cellsOf_append]; exact hown2, HB.out.grown hgrow2 hbs (fun k hk => (HO.out.lt k hk).1)⟩
          case measure => simp [intOf]; omega
        · obtain rfl : j = l.length := by omega
          rw [List.take_length] at ho
          go_wp2
          go_ret
          exact ⟨_, rfl, ho, hbw⟩

/-- Three, one behind the other. -/
theorem Concat_three (w : World) (b : Nat) (u v x : Value) (us vs xs : List UInt8) (hu : Rd w u us) (hv : Rd w v vs) (hx : Rd w x xs) (h0 : w.cell? ⟨b, 0, none⟩ = some u) (h1 : w.cell? ⟨b, 1, none⟩ = some v) (h2 : w.cell? ⟨b, 2, none⟩ = some x)
    (hp : 0 < us.length) (hl : us.length + vs.length + xs.length ≤ 1000000) :
    Calls Try.prog 30 #[.slice (some ⟨b, 0, none⟩) 3 3] w (MadeOne (us ++ (vs ++ xs)) w) := by
  have e : flat [(u, us), (v, vs), (x, xs)] = us ++ (vs ++ xs) := by simp [flat]
  have := Concat_any b [(u, us), (v, vs), (x, xs)] w (fun j h => by
    match j, h with
    | 0, _ => exact ⟨h0, hu⟩
    | 1, _ => exact ⟨h1, hv⟩
    | 2, _ => exact ⟨h2, hx⟩) (by simp) (by rw [e]; simp; omega) (by rw [e]; simp; omega)
  rw [e] at this
  exact this
end Go.Proofs.Ytklnopgnlnfbnaa
