/- Texts laid together by program: CatI, LinA, LinB, LinC, FLock, LokA, LokB. -/
import Derived.Test.YtnkooajbenhjhaaP1
import Derived.Test.YtnkooajbenhjhaaP3
import Derived.Lib.AppendZeros
import Derived.Lib.QuietBelow
/- Contracts: slices.Grow, slices.Concat, slices.Clone over numbers. -/
set_option linter.unusedVariables false
set_option linter.unusedSimpArgs false
namespace Go.Proofs.Ytnkooajbenhjhaa
open Go.RowKit
namespace Cm

theorem ownsI_new (w : World) (cs : Array Value) (cap : Nat) (hc : cs.size = cap) (hm : cap ≤ maxLen) :
    (w.alloc (.cells cs 3)).drew.ownsRow w.heap.size 3 1 (.slice (some ⟨w.heap.size, 0, none⟩) 0 cap) 0 [] := by
  refine ⟨rfl, .inr ⟨w.heap.size, cap, cs, rfl, Nat.le_refl _, ?_, Nat.zero_le _, hm, by omega, by simp⟩⟩
  show (w.heap.push (.cells cs 3))[w.heap.size]? = _
  simp

/-- Numbers told, in new memory of the call's own. -/
def MadeI (l : List Int) (w : World) (e : Ending) (w' : World) : Prop :=
  ∃ v, e = .returned v ∧ w'.ownsRow w.heap.size 3 1 v l.length (flatX cellsI l) ∧ Below w.heap.size w w'

theorem GrowI_none (w : World) :
    Calls Try.prog 72 #[.slice none 0 0, .int .i64 0] w (MadeI [] w) := by
  go_enter Try.func72, Try.ntmps72
  go_wp2
  go_ret
  exact ⟨_, rfl, World.ownsRow_nil _ _ _ _, Below.refl _ _⟩

theorem GrowI_some (n : Nat) (w : World) (h0 : 0 < n) (h : n ≤ 1000000) :
    Calls Try.prog 72 #[.slice none 0 0, .int .i64 (n : Int)] w (MadeI [] w) := by
  obtain ⟨i0, hi, hz0, hz1, hz2⟩ := info_parts infoN
  have hr := fun ty => Lib.run_append_nil_zeros (P := Try.prog) w 35 3 ty 3 i0 (.int .i64 0) .i64 .i64 Try.underlying35 Try.underlying3 hi hz0 n h0 (by rw [hz1]; omega) (by omega) (by rw [hz2]; omega)
  have hge := grownCap_ge w n 0 3
  have hle := grownCap_le_maxLen w n 0 3 (by unfold maxLen; omega)
  generalize grownCap w n 0 3 = cap at hr hge hle
  have hmx := hle
  unfold maxLen at hmx
  have HR := Lib.hid hr
  clear hr
  go_enter Try.func72, Try.ntmps72
  go_wp2_with (at_builtin; refine Lib.wpList_append_run _ rfl _ _ _ _ rfl _ _ rfl rfl _ _ (HR.out _) ?_)
  go_ret
  exact ⟨_, rfl, ownsI_new w _ cap (by simp [Builtin.zeroCells, Value.cells]; omega) hle, ((Below.refl _ _).alloc (Nat.le_refl _) _).drew⟩

theorem GrowI_any (n : Nat) (w : World) (h : n ≤ 1000000) :
    Calls Try.prog 72 #[.slice none 0 0, .int .i64 (n : Int)] w (MadeI [] w) := by
  rcases Nat.eq_zero_or_pos n with rfl | h0
  · exact GrowI_none w
  · exact GrowI_some n w h0 h

/-- Lists of lists, one behind the other. -/
def flatQ (l : List (Value × List Int)) : List Int := l.flatMap (·.2)
theorem flatQ_take_succ (l : List (Value × List Int)) (j : Nat) (h : j < l.length) : flatQ (l.take (j + 1)) = flatQ (l.take j) ++ (l[j]).2 := by
  unfold flatQ
  rw [List.take_succ_eq_append_getElem h, List.flatMap_append]
  simp
theorem flatQ_take_le (l : List (Value × List Int)) (j : Nat) : (flatQ (l.take j)).length ≤ (flatQ l).length := by
  conv => rhs; rw [← List.take_append_drop j l]
  unfold flatQ
  rw [List.flatMap_append, List.length_append]
  omega

set_option maxHeartbeats 1000000 in
theorem ConcatI_any (b : Nat) (l : List (Value × List Int)) (w : World) (hc : ∀ j (h : j < l.length), w.cell? ⟨b, j, none⟩ = some (l[j]).1 ∧ RdI w (l[j]).1 (l[j]).2) (hk : l.length ≤ 1000) (h1 : (flatQ l).length ≤ 1000000) :
    Calls Try.prog 68 #[.slice (some ⟨b, 0, none⟩) l.length l.length] w (MadeI (flatQ l) w) := by
  obtain ⟨i0, hi, hz0, hz1, hz2⟩ := info_parts infoN
  have HC := Lib.hid hc
  have HS := Lib.hid (flatQ_take_succ l)
  have HL := Lib.hid (flatQ_take_le l)
  clear hc
  go_enter Try.func68, Try.ntmps68
  go_wp2
  go_loop [3, 11] (fun z i => ∃ j : Nat, j ≤ l.length ∧ i = .int .i64 j ∧ z = .int .i64 ((flatQ (l.take j)).length : Int)) (fun _ i => l.length - (intOf i).toNat)
  case atStart => exact ⟨0, by omega, rfl, rfl⟩
  case round =>
    obtain ⟨j, hj, rfl, rfl⟩ := hrel
    by_cases hlt : j < l.length
    · obtain ⟨hcell, hrd⟩ := HC.out j hlt
      have hsz : (flatQ (l.take (j + 1))).length = (flatQ (l.take j)).length + (l[j]).2.length := by rw [HS.out j hlt, List.length_append]
      have hle := HL.out (j + 1)
      generalize l[j] = x at hcell hrd hsz
      obtain ⟨v, bs⟩ := x
      dsimp only at hcell hsz hrd
      have hm := hrd.len
      obtain ⟨a, cap, rfl⟩ := hrd.form
      clear hrd
      generalize (flatQ (l.take j)).length = A at hsz ⊢
      generalize hB : (flatQ (l.take (j + 1))).length = B at hsz hle ⊢
      generalize bs.length = Z at hsz hm hcell
      have HB := Lib.hid hB
      clear hB
      go_wp2
      go_round
      case rel => exact ⟨j + 1, by omega, by go_num, by rw [HB.out, hsz]; go_num⟩
      case measure => simp [intOf]; omega
    · obtain rfl : j = l.length := by omega
      rw [List.take_length]
      have G := Lib.hid (fun w => GrowI_any (flatQ l).length w h1)
      go_wp2_with (go_at_call 72; refine (G.out _).mono ?_; rintro e w1 ⟨v1, rfl, hown, hb⟩)
      go_loopw [6, 27] (fun v i wr => ∃ j : Nat, j ≤ l.length ∧ i = .int .i64 j ∧ wr.ownsRow w.heap.size 3 1 v (flatQ (l.take j)).length (flatX cellsI (flatQ (l.take j))) ∧ Below w.heap.size w wr) (fun _ i _ => l.length - (intOf i).toNat)
      case atStart => exact ⟨0, by omega, rfl, hown, hb⟩
      case round =>
        obtain ⟨j, hj, rfl, ho, hbw⟩ := hrel
        by_cases hlt : j < l.length
        · obtain ⟨hcell0, hrd0⟩ := HC.out j hlt
          have hcell := hbw.cell (p := ⟨b, j, none⟩) (lt_of_cell hcell0)
          rw [hcell0] at hcell
          have hrd := hrd0.later hbw
          have hsz : flatQ (l.take (j + 1)) = flatQ (l.take j) ++ (l[j]).2 := HS.out j hlt
          have hle := HL.out (j + 1)
          have hbs := hbw.size
          rw [hsz] at hle
          generalize l[j] = x at hcell hrd hsz hle
          clear hcell0 hrd0
          obtain ⟨v, bs⟩ := x
          dsimp only at hcell hrd hsz hle
          rw [List.length_append] at hle
          have HZ := Lib.hid hsz
          clear hsz
          generalize flatQ (l.take j) = A at ho hle HZ
          have HO := Lib.hid ho
          have HR := Lib.hid hrd
          have HB := Lib.hid hbw
          clear ho hrd hbw
          go_wp2_with (at_builtin; refine wpList_append_rdx cellsI_length (by omega) cellsI_one rfl _ _ 35 rfl w.heap.size 3 i0 _ 8 Try.underlying35 hi hz0 hz1 hz2 rfl _ _ _ rfl HO.out _ bs rfl HR.out (by unfold maxLen; omega) (by omega) hbs ?_; intro v1 w2 hown2 hgrow2)
          go_roundw
          case rel => exact ⟨j + 1, by omega, by go_num, by rw [HZ.out, List.length_append, flatX_append]; exact hown2, HB.out.grown hgrow2 hbs (fun k hk => (Rw.own_lt HO.out k hk).1)⟩
          case measure => simp [intOf]; omega
        · obtain rfl : j = l.length := by omega
          rw [List.take_length] at ho
          go_wp2
          go_ret
          exact ⟨_, rfl, ho, hbw⟩

/-- Two, one behind the other. -/
theorem ConcatI_two (w : World) (b : Nat) (u v : Value) (us vs : List Int) (hu : RdI w u us) (hv : RdI w v vs) (h0 : w.cell? ⟨b, 0, none⟩ = some u) (h1 : w.cell? ⟨b, 1, none⟩ = some v)
    (hl : us.length + vs.length ≤ 1000000) :
    Calls Try.prog 68 #[.slice (some ⟨b, 0, none⟩) 2 2] w (MadeI (us ++ vs) w) := by
  have e : flatQ [(u, us), (v, vs)] = us ++ vs := by simp [flatQ]
  have := ConcatI_any b [(u, us), (v, vs)] w (fun j h => by
    match j, h with
    | 0, _ => exact ⟨h0, hu⟩
    | 1, _ => exact ⟨h1, hv⟩) (by simp) (by rw [e]; simp; omega)
  rw [e] at this
  exact this

/-- Three, one behind the other. -/
theorem ConcatI_three (w : World) (b : Nat) (u v x : Value) (us vs xs : List Int) (hu : RdI w u us) (hv : RdI w v vs) (hx : RdI w x xs) (h0 : w.cell? ⟨b, 0, none⟩ = some u) (h1 : w.cell? ⟨b, 1, none⟩ = some v) (h2 : w.cell? ⟨b, 2, none⟩ = some x)
    (hl : us.length + vs.length + xs.length ≤ 1000000) :
    Calls Try.prog 68 #[.slice (some ⟨b, 0, none⟩) 3 3] w (MadeI (us ++ (vs ++ xs)) w) := by
  have e : flatQ [(u, us), (v, vs), (x, xs)] = us ++ (vs ++ xs) := by simp [flatQ]
  have := ConcatI_any b [(u, us), (v, vs), (x, xs)] w (fun j h => by
    match j, h with
    | 0, _ => exact ⟨h0, hu⟩
    | 1, _ => exact ⟨h1, hv⟩
    | 2, _ => exact ⟨h2, hx⟩) (by simp) (by rw [e]; simp; omega)
  rw [e] at this
  exact this

theorem CloneI_any (v : Value) (l : List Int) (w : World) (h : RdI w v l) (h5 : l.length ≤ 1000000) :
    Calls Try.prog 59 #[v] w (MadeI l w) := by
  obtain ⟨i0, hi, hz0, hz1, hz2⟩ := info_parts infoN
  have heq : ∀ w a n c, (binOp .eql 35 (.slice a n c) (.slice none 0 0)).run Try.prog w = .ok (.bool a.isNone) w := fun w a n c => Lib.run_eql_slice_nil w 35 3 a n c 0 0 Try.underlying35
  have HR := Lib.hid h
  obtain ⟨a, cap, rfl⟩ := h.form
  cases a with
  | none =>
    have hl : l = [] := by
      obtain ⟨a', cap', hv, _, _, h3, _⟩ := h.ex
      cases hv
      exact (h3 rfl).1
    subst hl
    clear h
    go_enter Try.func59, Try.ntmps59
    go_wp2
    go_ret
    exact ⟨_, rfl, World.ownsRow_nil _ _ _ _, Below.refl _ _⟩
  | some ad =>
    clear h
    have HR2 := Lib.hid (fun o => HR.out.later (newAlloc w o))
    clear HR
    go_enter Try.func59, Try.ntmps59
    go_wp2_with (at_builtin; refine wpList_append_rdx cellsI_length (by omega) cellsI_one rfl _ _ 35 rfl w.heap.size 3 i0 _ 8 Try.underlying35 hi hz0 hz1 hz2 rfl _ 0 [] rfl (own_new w _ 1 _ _ rfl (Nat.le_refl _)) _ l rfl (HR2.out _) (by unfold maxLen; omega) (by omega) (newAlloc w (.cells #[] 3)).size ?_; intro v1 w2 hown2 hgrow2)
    go_ret
    refine ⟨_, rfl, by simpa using hown2, (newAlloc w (.cells #[] 3)).grown hgrow2 (newAlloc w (.cells #[] 3)).size (fun k hk => ?_)⟩
    cases hk
    exact Nat.le_refl _
end Cm
end Go.Proofs.Ytnkooajbenhjhaa

/- Contracts: padlockref6's Ahead, RightLine, Join, Without; slices.Index, Contains of numbers. -/
set_option linter.unusedVariables false
set_option linter.unusedSimpArgs false
namespace Go.Proofs.Ytnkooajbenhjhaa
open Go.RowKit
namespace Cm

theorem In_has (v : Value) (l : List Int) (x : Int) (w : World) (h : RdI w v l) : Calls Try.prog 28 #[v, .int .i64 x] w (Says (hasL l x) w) := In_any v l x w h

/-- A place told, the world as it was. -/
def Stands (r : Int × Bool) (w : World) (e : Ending) (w' : World) : Prop := e = .returned (.tuple #[.int .i64 r.1, .bool r.2]) ∧ w' = w

theorem Ahead_any (v : Value) (l : List Int) (c : Int) (w : World) (h : RdI w v l) : Calls Try.prog 29 #[v, .int .i64 c] w (Stands (aheadL l c) w) := by
  have hm := h.len
  obtain ⟨a, cap, rfl⟩ := h.form
  have HA := Lib.hid (fun i hi => rdi_at h i hi)
  have HH := Lib.hid (idxI_hit (isN c) l)
  have HM := Lib.hid (idxI_miss (isN c) l)
  clear h
  obtain ⟨L, hL⟩ : ∃ L, l.length = L := ⟨_, rfl⟩
  have HLL := Lib.hid hL
  rw [hL] at hm ⊢
  clear hL
  go_enter Try.func29, Try.ntmps29
  go_wp2
  go_loop [6] (fun i => ∃ k : Nat, k ≤ L ∧ i = .int .i64 k ∧ Hid (∀ j (hj : j < k) (hl : j < l.length), isN c l[j] = false)) (fun i => L - (intOf i).toNat)
  case atStart => exact ⟨0, by omega, rfl, Lib.hid (fun j hj => absurd hj (Nat.not_lt_zero _))⟩
  case round =>
    obtain ⟨k, hk, rfl, HJ⟩ := hrel
    by_cases hlt : k < L
    · have hkl : k < l.length := by rw [HLL.out]; exact hlt
      obtain ⟨b, o, rfl, hc⟩ := HA.out k hkl
      have q1 := hc w (Below.refl _ _)
      have HI : Hid (isN c l[k] = true → idxI (isN c) l = k) := Lib.hid (fun q => HH.out k hkl q (fun j hj => HJ.out j hj (by omega)))
      have HN : Hid (isN c l[k] = false → ∀ j (hj : j < k + 1) (hl : j < l.length), isN c l[j] = false) := Lib.hid (fun q j hj hl => by
        by_cases e : j = k
        · subst e; exact q
        · exact HJ.out j (by omega) hl)
      clear HA HH HM hc
      generalize l[k] = g at q1 HI HN
      by_cases hq : g = c
      · have d : (g == c) = true := by simpa using hq
        have H := Lib.hid (HI.out (by unfold isN; exact decide_eq_true hq))
        clear hq HI HN
        go_wp2
        go_ret2
        refine ⟨?_, rfl⟩
        unfold aheadL
        rw [H.out, if_neg (by omega)]
        rfl
      · have d : (g == c) = false := by simpa using hq
        have H := Lib.hid (HN.out (by unfold isN; exact decide_eq_false hq))
        clear hq HI HN
        go_wp2
        go_round
        case rel => exact ⟨k + 1, by omega, by go_num, H⟩
        case measure => simp [intOf]; omega
    · obtain rfl : k = L := by omega
      have H := Lib.hid (HM.out (fun j hj => HJ.out j (by rw [← HLL.out]; exact hj) hj))
      clear HM HH
      go_wp2
      go_ret2
      refine ⟨?_, rfl⟩
      unfold aheadL
      rw [H.out, if_pos (by omega)]
      rfl

/-- A line told with two numbers, in new memory. -/
def GetsJ (r : List Int × Int × Int) (w : World) (e : Ending) (w' : World) : Prop :=
  ∃ v, e = .returned (.tuple #[v, .int .i64 r.2.1, .int .i64 r.2.2]) ∧ w'.ownsRow w.heap.size 3 1 v r.1.length (flatX cellsI r.1) ∧ Below w.heap.size w w'

theorem GetsJ.empty {w w' : World} {e : Ending} {c : Int} (he : e = .returned (.tuple #[.slice none 0 0, .int .i64 0, .int .i64 c])) (hb : Below w.heap.size w w') : GetsJ ([], 0, c) w e w' :=
  ⟨_, he, World.ownsRow_nil _ _ _ _, hb⟩


end Cm
end Go.Proofs.Ytnkooajbenhjhaa

/- Contracts: padlockref6's Without, RightLine; padlocklaw7's Line. -/
set_option linter.unusedVariables false
set_option linter.unusedSimpArgs false
namespace Go.Proofs.Ytnkooajbenhjhaa
open Go.RowKit
namespace Cm

set_option maxHeartbeats 2000000 in
theorem Without_any (v u : Value) (l g : List Int) (w : World) (h : RdI w v l) (h2 : RdI w u g) (h5 : l.length ≤ 1000) : Calls Try.prog 31 #[v, u] w (GetsN (withoutL l g) w) := by
  have hm := h.len
  obtain ⟨a, cap, rfl⟩ := h.form
  have HA := Lib.hid (fun i hi => rdi_at h i hi)
  have HF := Lib.hid (withoutL_succ l g)
  have HG := Lib.hid (fun x w' (hb : Below w.heap.size w w') => In_has u g x w' (h2.later hb))
  obtain ⟨a2, cap2, rfl⟩ := h2.form
  clear h h2
  obtain ⟨i0, hi, hz0, hz1, hz2⟩ := info_parts infoN
  obtain ⟨L, hL⟩ : ∃ L, l.length = L := ⟨_, rfl⟩
  have HLL := Lib.hid hL
  rw [hL] at hm h5 ⊢
  clear hL
  generalize g.length = GL at *
  go_enter Try.func31, Try.ntmps31
  go_wp2
  go_loopw [5, 6] (fun m i wr => ∃ (k : Nat) (M : List Int), k ≤ L ∧ i = .int .i64 k ∧ Hid (withoutL (l.take k) g = M) ∧ M.length ≤ k ∧ Hid (wr.ownsRow w.heap.size 3 1 m M.length (flatX cellsI M)) ∧ Hid (Below w.heap.size w wr)) (fun _ i _ => L - (intOf i).toNat)
  case atStart => exact ⟨0, [], by omega, rfl, Lib.hid rfl, by simp, Lib.hid (World.ownsRow_nil _ _ _ _), Lib.hid (Below.refl _ _)⟩
  case round =>
    obtain ⟨k, M, hk, rfl, HM, hMk, HO, HB⟩ := hrel
    by_cases hlt : k < L
    · have hkl : k < l.length := by rw [HLL.out]; exact hlt
      obtain ⟨b, o, rfl, hc⟩ := HA.out k hkl
      have q0 := hc _ HB.out
      have hp := HF.out k hkl
      rw [HM.out] at hp
      clear hc HA HF
      generalize l[k] = x at q0 hp
      have HI := Lib.hid (HG.out x wr HB.out)
      clear HG
      cases n1 : hasL g x with
      | true =>
        have H : Hid (withoutL (l.take (k + 1)) g = M) := Lib.hid (by rw [hp, n1]; simp)
        rw [n1] at HI
        clear hp n1
        go_wp2_with fail
        refine HI.out.mono ?_
        rintro e w1 ⟨rfl, rfl⟩
        go_wp2
        go_roundw
        case rel => exact ⟨k + 1, M, by omega, by go_num, H, by omega, HO, HB⟩
        case measure => simp [intOf]; omega
      | false =>
        have H : Hid (withoutL (l.take (k + 1)) g = M ++ [x]) := Lib.hid (by rw [hp, n1]; simp)
        rw [n1] at HI
        clear hp n1
        go_wp2_with fail
        refine HI.out.mono ?_
        rintro e w1 ⟨rfl, rfl⟩
        go_wp2_with (at_builtin; (refine wpList_append_one cellsI_length (by omega) rfl (.tmp 20) (.tmp 25) 35 rfl 3 i0 _ 8 Try.underlying35 hi hz0 hz1 hz2 rfl #[.int .i64 x] x rfl (cellsI_one _) M w.heap.size w.heap.size w _ rfl rfl HO.out (by unfold maxLen; omega) (by omega) HB.out.size HB.out (Nat.le_refl _) ?_); intro v5 w5 ho5 hb5 _; have HO5 := Lib.hid ho5; have HB5 := Lib.hid hb5; clear ho5 hb5)
        go_roundw
        case rel => exact ⟨k + 1, M ++ [x], by omega, by go_num, H, by simp; omega, HO5, HB5⟩
        case measure => simp [intOf]; omega
    · obtain rfl : k = L := by omega
      have hM := HM.out
      rw [← HLL.out, List.take_length] at hM
      have H := Lib.hid hM
      clear hM
      go_wp2
      go_ret
      rw [H.out]
      exact ⟨_, rfl, HO.out, HB.out⟩

set_option maxHeartbeats 2000000 in
theorem RightLine_any (v : Value) (l : List Int) (w : World) (h : RdI w v l) : Calls Try.prog 48 #[v] w (SaysB (rightL l) w) := by
  have hm := h.len
  obtain ⟨a, cap, rfl⟩ := h.form
  unfold rightL
  by_cases c6 : l.length ≤ 3
  case neg =>
    rw [decide_eq_false c6, Bool.false_and]
    clear h
    have d5 : decide (3 < (l.length : Int)) = true := by simp; omega
    generalize l.length = L at *
    go_enter Try.func48, Try.ntmps48
    go_wp2
    go_ret
    exact ⟨rfl, Below.refl _ _⟩
  rw [decide_eq_true c6, Bool.true_and]
  have d5 : decide (3 < (l.length : Int)) = false := by simp; omega
  have hcap : l.length ≤ cap ∧ cap ≤ maxLen := by
    obtain ⟨a', cap', hv, q1, q2, _⟩ := h.ex
    cases hv
    exact ⟨q1, q2⟩
  have HA := Lib.hid (fun i hi => rdi_at h i hi)
  have HT := Lib.hid (fun k (hk : k ≤ l.length) x (w' : World) (hb : Below w.heap.size w w') => In_has _ (l.take k) x w' ((h.take k hk).later hb))
  have HD := Lib.hid (lineGo_drop l)
  clear h
  obtain ⟨L, hL⟩ : ∃ L, l.length = L := ⟨_, rfl⟩
  have HLL := Lib.hid hL
  rw [hL] at hm c6 d5 hcap ⊢
  clear hL
  obtain ⟨hc1, hc2⟩ := hcap
  go_enter Try.func48, Try.ntmps48
  go_wp2
  go_loopw [3] (fun i wr => ∃ j : Nat, j ≤ L ∧ i = .int .i64 j ∧ Hid (Below w.heap.size w wr) ∧ Hid (lineGo [] l = lineGo (l.take j) (l.drop j))) (fun i _ => L - (intOf i).toNat)
  case atStart => exact ⟨0, by omega, rfl, Lib.hid (Below.refl _ _), Lib.hid rfl⟩
  case round =>
    obtain ⟨j, hj, rfl, HB, HG⟩ := hrel
    by_cases hlt : j < L
    · have hjl : j < l.length := by rw [HLL.out]; exact hlt
      obtain ⟨b, o, rfl, hc⟩ := HA.out j hjl
      have q0 := hc _ HB.out
      have HT2 := Lib.hid (HT.out j (by rw [HLL.out]; exact hj))
      have hd := HD.out j hjl
      clear hc HT HA HD
      generalize l[j] = x at q0 hd
      have HI := Lib.hid (fun n => HT2.out x (wr.drewN n) (below_drewN6 HB.out n))
      clear HT2
      have g1 : (0 : Int) ≤ (j : Int) := by omega
      have g2 : (j : Int) < (L : Int) := by omega
      have g3 : (j : Int) ≤ (cap : Int) := by omega
      generalize l.take j = P at HI hd HG
      cases n1 : clientF x with
      | false =>
        rw [n1] at hd
        have H := Lib.hid hd
        clear hd
        go_upto_region 6 with fail
        go_quiet (first | (go_at_call 46; exact quiet_eq6 (client6_any _ _)))
        go_wp2
        go_ret
        exact ⟨by rw [HG.out, H.out]; rfl, below_drewN6 HB.out nq⟩
      | true =>
        rw [n1] at hd
        cases n2 : hasL P x with
        | true =>
          rw [n2] at hd
          have H := Lib.hid hd
          clear hd
          go_upto_region 6 with fail
          go_quiet (first | (go_at_call 46; exact quiet_eq6 (client6_any _ _)) | (go_at_call 28; exact quiet_eq6 (HI.out _)))
          go_wp2
          go_ret
          exact ⟨by rw [HG.out, H.out]; rfl, below_drewN6 HB.out nq⟩
        | false =>
          rw [n2] at hd
          have H := Lib.hid hd
          clear hd
          go_upto_region 6 with fail
          go_quiet (first | (go_at_call 46; exact quiet_eq6 (client6_any _ _)) | (go_at_call 28; exact quiet_eq6 (HI.out _)))
          go_wp2
          go_roundw
          case rel => exact ⟨j + 1, by omega, by go_num, Lib.hid (below_drewN6 HB.out nq), Lib.hid (by rw [HG.out, H.out]; simp)⟩
          case measure => simp [intOf]; omega
    · obtain rfl : j = L := by omega
      have hg := HG.out
      rw [← HLL.out, List.drop_length] at hg
      have HE := Lib.hid hg
      clear hg HT
      go_wp2
      go_ret
      exact ⟨by rw [HE.out]; rfl, HB.out⟩
end Cm
end Go.Proofs.Ytnkooajbenhjhaa

/- Contract: padlocklaw7's Line. What the developers' calls answer: forms. -/
set_option linter.unusedVariables false
set_option linter.unusedSimpArgs false
namespace Go.Proofs.Ytnkooajbenhjhaa
open Go.RowKit
namespace Cm

/-- A right line made, the slice written out. -/
def MadeK (w : World) (e : Ending) (w' : World) : Prop :=
  ∃ l a p, e = .returned (.slice a (List.length l) p) ∧ rightL l = true ∧ RdI w' (.slice a l.length p) l ∧ Below w.heap.size w w'

theorem line_push (M : List Int) (c : Int) (h : rightL M = true) (h3 : M.length < 3) (hc : clientF c = true) (hn : hasL M c = false) : rightL (M ++ [c]) = true := by
  have e : joinL M c = (M ++ [c], (M.length : Int), 0) := by
    unfold joinL
    rw [if_neg (by rw [hc]; simp), if_neg (by rw [hn]; simp), if_neg (by omega)]
  have := join_right M c h (by rw [e])
  rw [e] at this
  exact this


/-- What the developers' calls answer. -/
def StandsB (r : Int × Bool) (w : World) (e : Ending) (w' : World) : Prop := e = .returned (.tuple #[.int .i64 r.1, .bool r.2]) ∧ Below w.heap.size w w'
def GetsL (r : List Int × Bool) (w : World) (e : Ending) (w' : World) : Prop :=
  ∃ v, e = .returned (.tuple #[v, .bool r.2]) ∧ w'.ownsRow w.heap.size 3 1 v r.1.length (flatX cellsI r.1) ∧ Below w.heap.size w w'
def GetsX (r : Int × List Int × Bool) (w : World) (e : Ending) (w' : World) : Prop :=
  ∃ v, e = .returned (.tuple #[.int .i64 r.1, v, .bool r.2.2]) ∧ w'.ownsRow w.heap.size 3 1 v r.2.1.length (flatX cellsI r.2.1) ∧ Below w.heap.size w w'
def leaveL (l : List Int) (c : Int) : List Int × Bool := (withoutL l [c], hasL l c)
def nextL : List Int → Int × List Int × Bool
  | [] => (0, [], false)
  | c :: l => (c, l, true)
end Cm
end Go.Proofs.Ytnkooajbenhjhaa

/- What package lock answers, as plain functions over lists of locks. No program is named here. -/
set_option linter.unusedVariables false
set_option linter.unusedSimpArgs false
namespace Go.Proofs.Ytnkooajbenhjhaa
open Go.RowKit
namespace Cm

/-- A lock. -/
structure LockV where
  name : List UInt8
  holder : Int
  token : Int
  line : List Int
deriving DecidableEq

def isNm (n : List UInt8) (k : LockV) : Bool := decide (k.name = n)
def zeroK : LockV := ⟨[], 0, 0, []⟩
def getK (l : List LockV) (i : Int) : LockV := l.getD i.toNat zeroK

def oneK (k : LockV) : Bool := nameF k.name && (clientF k.holder && (highF k.token 1 && (rightL k.line && !hasL k.line k.holder)))
/-- One lock, behind those ahead of it. -/
def lockOk (pre : List LockV) (k : LockV) : Bool :=
  oneK k && ((match pre.getLast? with | none => true | some p => Op.bytesLess p.name k.name) && pre.all fun p => !decide (p.token = k.token))
def rightGoK (pre : List LockV) : List LockV → Bool
  | [] => true
  | k :: l => lockOk pre k && rightGoK (pre ++ [k]) l
def rightK (l : List LockV) : Bool := decide (l.length ≤ 4) && rightGoK [] l

/-- The place of a name, and a lock put there. -/
def placeK (n : List UInt8) : List LockV → Nat
  | [] => 0
  | k :: l => if Op.bytesLess k.name n = true then placeK n l + 1 else 0
def putK (x : LockV) : List LockV → List LockV
  | [] => [x]
  | k :: l => if Op.bytesLess k.name x.name = true then k :: putK x l else x :: k :: l

theorem placeK_le (n : List UInt8) : ∀ l, placeK n l ≤ l.length
  | [] => Nat.le_refl _
  | k :: l => by
    unfold placeK
    split
    · have := placeK_le n l
      rw [List.length_cons]; omega
    · exact Nat.zero_le _

theorem placeK_lt (n : List UInt8) : ∀ (l : List LockV) (i : Nat) (h : i < l.length), i < placeK n l → Op.bytesLess l[i].name n = true
  | k :: l, 0, _, hp => by
    unfold placeK at hp
    split at hp
    · assumption
    · omega
  | k :: l, i + 1, h, hp => by
    unfold placeK at hp
    split at hp
    · exact placeK_lt n l i (by simpa using h) (by omega)
    · omega

theorem placeK_at (n : List UInt8) : ∀ (l : List LockV) (h : placeK n l < l.length), Op.bytesLess l[placeK n l].name n = false
  | k :: l, h => by
    by_cases q : Op.bytesLess k.name n = true
    · have e : placeK n (k :: l) = placeK n l + 1 := by rw [placeK, if_pos q]
      have h' : placeK n l < l.length := by rw [e] at h; simpa using h
      have := placeK_at n l h'
      simp only [e, List.getElem_cons_succ]
      exact this
    · have e : placeK n (k :: l) = 0 := by rw [placeK, if_neg q]
      simp only [e, List.getElem_cons_zero]
      simpa using q

theorem putK_place (x : LockV) : ∀ l, putK x l = l.take (placeK x.name l) ++ x :: l.drop (placeK x.name l)
  | [] => rfl
  | k :: l => by
    by_cases q : Op.bytesLess k.name x.name = true
    · have e : placeK x.name (k :: l) = placeK x.name l + 1 := by rw [placeK, if_pos q]
      rw [e, putK, if_pos q, putK_place x l]
      rfl
    · have e : placeK x.name (k :: l) = 0 := by rw [placeK, if_neg q]
      rw [e, putK, if_neg q]
      rfl

def takeK (l : List LockV) (n : List UInt8) (c t : Int) (wait : Bool) : List LockV × Int × Int :=
  if idxI (isNm n) l < 0 then (if 4 ≤ l.length then ([], 0, 5) else (putK ⟨n, c, t + 1, []⟩ l, 0, 0)) else
  if (getK l (idxI (isNm n) l)).holder = c then ([], 0, 7) else
  if wait = false then ([], 0, 8) else
  if (aheadL (getK l (idxI (isNm n) l)).line c).2 = true then (l, (aheadL (getK l (idxI (isNm n) l)).line c).1, 10) else
  if 3 ≤ (getK l (idxI (isNm n) l)).line.length then ([], 0, 5) else
  (l.set (idxI (isNm n) l).toNat ⟨(getK l (idxI (isNm n) l)).name, (getK l (idxI (isNm n) l)).holder, (getK l (idxI (isNm n) l)).token, (getK l (idxI (isNm n) l)).line ++ [c]⟩, (getK l (idxI (isNm n) l)).line.length, 10)

/-- The first that waits has it. -/
def passK (k : LockV) (t : Int) : LockV := ⟨k.name, k.line.headD 0, t + 1, k.line.drop 1⟩

def freeK (l : List LockV) (n : List UInt8) (c t : Int) : List LockV × Int × Int :=
  if idxI (isNm n) l < 0 then ([], 0, 6) else
  if (getK l (idxI (isNm n) l)).holder ≠ c then
    (if (aheadL (getK l (idxI (isNm n) l)).line c).2 = false then ([], 0, 6) else
      (l.set (idxI (isNm n) l).toNat ⟨(getK l (idxI (isNm n) l)).name, (getK l (idxI (isNm n) l)).holder, (getK l (idxI (isNm n) l)).token, withoutL (getK l (idxI (isNm n) l)).line [c]⟩, 0, 0)) else
  if (getK l (idxI (isNm n) l)).line = [] then (l.take (idxI (isNm n) l).toNat ++ l.drop ((idxI (isNm n) l).toNat + 1), 0, 0) else
  (l.set (idxI (isNm n) l).toNat (passK (getK l (idxI (isNm n) l)) t), 1, 0)

/-- A lock whose line some have left. -/
def leftK (gone : List Int) (k : LockV) : LockV := ⟨k.name, k.holder, k.token, withoutL k.line gone⟩
def dropK (gone : List Int) : List LockV → Int → List LockV × Int
  | [], _ => ([], 0)
  | k :: l, t =>
    if hasL gone k.holder = false then (leftK gone k :: (dropK gone l t).1, (dropK gone l t).2) else
    if (leftK gone k).line = [] then dropK gone l t else
    (passK (leftK gone k) t :: (dropK gone l (t + 1)).1, (dropK gone l (t + 1)).2 + 1)

def heldK (l : List LockV) (c : Int) : List GrantV := (l.filter fun k => decide (k.holder = c)).map fun k => ⟨k.name, k.token⟩

def sameK : List LockV → List LockV → Bool
  | [], [] => true
  | k :: l, h :: m => (decide (k.name = h.name) && (decide (k.holder = h.holder) && (decide (k.token = h.token) && decide (k.line = h.line)))) && sameK l m
  | _, _ => false

theorem LockV.ext' {a b : LockV} (h1 : a.name = b.name) (h2 : a.holder = b.holder) (h3 : a.token = b.token) (h4 : a.line = b.line) : a = b := by
  cases a; cases b; simp_all

theorem sameK_iff : ∀ (l m : List LockV), sameK l m = true ↔ l = m
  | [], [] => by simp [sameK]
  | [], _ :: _ => by simp [sameK]
  | _ :: _, [] => by simp [sameK]
  | ⟨a, b, c, d⟩ :: l, ⟨a', b', c', d'⟩ :: m => by
    unfold sameK
    simp [sameK_iff l m]
theorem sameK_refl (l : List LockV) : sameK l l = true := (sameK_iff l l).2 rfl
theorem sameK_len : ∀ (l m : List LockV), l.length ≠ m.length → sameK l m = false
  | [], [], h => absurd rfl h
  | [], _ :: _, _ => rfl
  | _ :: _, [], _ => rfl
  | g :: l, h :: m, q => by
    have := sameK_len l m (by simpa using q)
    unfold sameK
    rw [this, Bool.and_false]
theorem sameK_drop (l m : List LockV) (j : Nat) (h : j < l.length) (hm : j < m.length) :
    sameK (l.drop j) (m.drop j) = ((decide (l[j].name = m[j].name) && (decide (l[j].holder = m[j].holder) && (decide (l[j].token = m[j].token) && decide (l[j].line = m[j].line)))) && sameK (l.drop (j + 1)) (m.drop (j + 1))) := by
  rw [List.drop_eq_getElem_cons h, List.drop_eq_getElem_cons hm]
  rfl

theorem rightGoK_drop (l : List LockV) (j : Nat) (h : j < l.length) : rightGoK (l.take j) (l.drop j) = (lockOk (l.take j) l[j] && rightGoK (l.take (j + 1)) (l.drop (j + 1))) := by
  rw [List.drop_eq_getElem_cons h, List.take_succ_eq_append_getElem h]
  rfl

theorem heldK_drop (l : List LockV) (c : Int) (j : Nat) (h : j < l.length) : heldK (l.take (j + 1)) c = heldK (l.take j) c ++ if l[j].holder = c then [⟨l[j].name, l[j].token⟩] else [] := by
  unfold heldK
  rw [List.take_succ_eq_append_getElem h, List.filter_append, List.map_append]
  congr 1
  by_cases q : l[j].holder = c <;> simp [q]

/-! ### Right lists, as a relation -/
structure Rk (l : List LockV) : Prop where
  one : ∀ k ∈ l, oneK k = true
  up : l.Pairwise fun a b => Op.bytesLess a.name b.name = true
  tok : l.Pairwise fun a b => a.token ≠ b.token

theorem Rk.nil : Rk [] := ⟨(fun s h => by cases h), List.Pairwise.nil, List.Pairwise.nil⟩

theorem less_tr : ∀ a b c : List UInt8, Op.bytesLess a b = true → Op.bytesLess b c = true → Op.bytesLess a c = true := by
  intro a
  induction a with
  | nil =>
    intro b c h1 h2
    cases c with
    | nil => cases b <;> simp [Op.bytesLess] at h2
    | cons z c => rfl
  | cons x a ih =>
    intro b c h1 h2
    cases b with
    | nil => simp [Op.bytesLess] at h1
    | cons y b =>
      cases c with
      | nil => simp [Op.bytesLess] at h2
      | cons z c =>
        simp only [Op.bytesLess, Bool.or_eq_true, Bool.and_eq_true, decide_eq_true_eq, beq_iff_eq] at h1 h2 ⊢
        rcases h1 with h1 | ⟨rfl, h1⟩
        · rcases h2 with h2 | ⟨rfl, h2⟩
          · exact .inl (show x.toNat < z.toNat from Nat.lt_trans (show x.toNat < y.toNat from h1) (show y.toNat < z.toNat from h2))
          · exact .inl h1
        · rcases h2 with h2 | ⟨rfl, h2⟩
          · exact .inl h2
          · exact .inr ⟨rfl, ih b c h1 h2⟩

theorem rk_snoc (pre : List LockV) (s : LockV) : Rk (pre ++ [s]) ↔ Rk pre ∧ oneK s = true ∧ (∀ a ∈ pre, Op.bytesLess a.name s.name = true) ∧ ∀ a ∈ pre, a.token ≠ s.token := by
  constructor
  · intro h
    obtain ⟨u1, _, u3⟩ := List.pairwise_append.1 h.up
    obtain ⟨n1, _, n3⟩ := List.pairwise_append.1 h.tok
    exact ⟨⟨fun x hx => h.one x (List.mem_append_left _ hx), u1, n1⟩, h.one s (by simp), fun a ha => u3 a ha s (by simp), fun a ha => n3 a ha s (by simp)⟩
  · rintro ⟨h, h1, h2, h3⟩
    refine ⟨fun x hx => ?_, List.pairwise_append.2 ⟨h.up, List.pairwise_singleton _ _, fun a ha b hb => ?_⟩, List.pairwise_append.2 ⟨h.tok, List.pairwise_singleton _ _, fun a ha b hb => ?_⟩⟩
    · rcases List.mem_append.1 hx with q | q
      · exact h.one x q
      · rw [List.mem_singleton] at q; subst q; exact h1
    · rw [List.mem_singleton] at hb; subst hb; exact h2 a ha
    · rw [List.mem_singleton] at hb; subst hb; exact h3 a ha

theorem lockOk_iff (pre : List LockV) (s : LockV) (h : Rk pre) : lockOk pre s = true ↔ Rk (pre ++ [s]) := by
  rw [rk_snoc]
  unfold lockOk
  have hall : (pre.all fun p => !decide (p.token = s.token)) = true ↔ ∀ a ∈ pre, a.token ≠ s.token := by simp [List.all_eq_true]
  have hlast : (match pre.getLast? with | none => true | some p => Op.bytesLess p.name s.name) = true ↔ ∀ a ∈ pre, Op.bytesLess a.name s.name = true := by
    rcases List.eq_nil_or_concat pre with rfl | ⟨q, p, rfl⟩
    · simp
    · rw [List.concat_eq_append] at h ⊢
      rw [List.getLast?_append]
      simp only [List.getLast?_singleton, Option.some_or]
      constructor
      · intro hp a ha
        rcases List.mem_append.1 ha with g | g
        · exact less_tr _ _ _ ((List.pairwise_append.1 h.up).2.2 a g p (by simp)) hp
        · rw [List.mem_singleton] at g; subst g; exact hp
      · intro hp
        exact hp p (by simp)
  rw [Bool.and_eq_true, Bool.and_eq_true, hall, hlast]
  constructor
  · rintro ⟨h1, h2, h3⟩
    exact ⟨h, h1, h2, h3⟩
  · rintro ⟨_, h1, h2, h3⟩
    exact ⟨h1, h2, h3⟩

theorem rightGoK_iff (l : List LockV) : ∀ pre, Rk pre → (rightGoK pre l = true ↔ Rk (pre ++ l)) := by
  induction l with
  | nil => intro pre h; simp [rightGoK, h]
  | cons s l ih =>
    intro pre h
    have e : pre ++ s :: l = (pre ++ [s]) ++ l := by simp
    unfold rightGoK
    rw [Bool.and_eq_true, e]
    constructor
    · rintro ⟨h1, h2⟩
      have h3 := (lockOk_iff pre s h).1 h1
      exact (ih _ h3).1 h2
    · intro h1
      have h3 : Rk (pre ++ [s]) := ⟨fun x hx => h1.one x (List.mem_append_left _ hx), (List.pairwise_append.1 h1.up).1, (List.pairwise_append.1 h1.tok).1⟩
      exact ⟨(lockOk_iff pre s h).2 h3, (ih _ h3).2 h1⟩

theorem rightK_iff (l : List LockV) : rightK l = true ↔ l.length ≤ 4 ∧ Rk l := by
  unfold rightK
  rw [Bool.and_eq_true, decide_eq_true_eq, rightGoK_iff l [] Rk.nil, List.nil_append]
end Cm
end Go.Proofs.Ytnkooajbenhjhaa

/- Locks in memory; contracts: padlockref6's FindLock, SameLocks; padlockref4's SameInts once more (it only draws). -/
set_option linter.unusedVariables false
set_option linter.unusedSimpArgs false
namespace Go.Proofs.Ytnkooajbenhjhaa
open Go.RowKit
namespace Cm

/-- A lock, with where its line lies. -/
structure LockC where
  name : List UInt8
  holder : Int
  token : Int
  line : List Int
  la : Option Addr
  lc : Nat
def LockC.val (x : LockC) : LockV := ⟨x.name, x.holder, x.token, x.line⟩
def LockC.lv (x : LockC) : Value := .slice x.la x.line.length x.lc
def vals (L : List LockC) : List LockV := L.map LockC.val
theorem vals_length (L : List LockC) : (vals L).length = L.length := by simp [vals]
theorem vals_get (L : List LockC) (i : Nat) (h : i < L.length) (h' : i < (vals L).length) : (vals L)[i] = L[i].val := by simp [vals]
theorem vals_take (L : List LockC) (k : Nat) : vals (L.take k) = (vals L).take k := by simp [vals, List.map_take]
theorem vals_drop (L : List LockC) (k : Nat) : vals (L.drop k) = (vals L).drop k := by simp [vals, List.map_drop]
theorem vals_set (L : List LockC) (k : Nat) (x : LockC) : vals (L.set k x) = (vals L).set k x.val := by simp [vals, List.map_set]

def cellsK (x : LockC) : List Value := [.string (bstr x.name), .int .i64 x.holder, .int .i64 x.token, x.lv]
theorem cellsK_length (x : LockC) : (cellsK x).length = 4 := rfl
theorem cellsK_one (x : LockC) : ∀ u ∈ cellsK x, u.oneCell' = true := by
  intro u hu
  unfold cellsK LockC.lv at hu
  simp only [List.mem_cons, List.not_mem_nil, or_false] at hu
  rcases hu with rfl | rfl | rfl | rfl <;> rfl
def lockVal (x : LockC) : Value := .agg #[.string (bstr x.name), .int .i64 x.holder, .int .i64 x.token, x.lv]

/-- The slice reads as these locks, each line too. -/
structure RdK (w : World) (v : Value) (L : List LockC) : Prop where
  row : RdX 4 cellsK w v L
  line : ∀ x ∈ L, RdI w x.lv x.line

theorem RdK.later {w w' : World} {v : Value} {L : List LockC} (h : RdK w v L) (hb : Below w.heap.size w w') : RdK w' v L := ⟨h.row.later hb, fun x hx => (h.line x hx).later hb⟩
theorem RdK.nil (w : World) : RdK w (.slice none 0 0) [] := ⟨RdX.nil w, fun x hx => by cases hx⟩
theorem RdK.form {w : World} {v : Value} {L : List LockC} (h : RdK w v L) : ∃ a cap, v = .slice a L.length cap := h.row.form
theorem RdK.len {w : World} {v : Value} {L : List LockC} (h : RdK w v L) : L.length ≤ 9223372036854775807 := h.row.len

theorem rdk_at {w : World} {a : Option Addr} {n cap : Nat} {L : List LockC} (h : RdX 4 cellsK w (.slice a n cap) L) (i : Nat) (hi : i < L.length) :
    ∃ b o, a = some ⟨b, o, none⟩ ∧ ∀ w' : World, Below w.heap.size w w' → w'.cell? ⟨b, o + i * 4, none⟩ = some (.string (bstr L[i].name)) ∧ w'.cell? ⟨b, o + i * 4 + 1, none⟩ = some (.int .i64 L[i].holder) ∧ w'.cell? ⟨b, o + i * 4 + 2, none⟩ = some (.int .i64 L[i].token) ∧ w'.cell? ⟨b, o + i * 4 + 3, none⟩ = some L[i].lv := by
  obtain ⟨b, o, e, c⟩ := h.at i hi
  exact ⟨b, o, e, fun w' hb => ⟨c w' hb 0 _ rfl, c w' hb 1 _ rfl, c w' hb 2 _ rfl, c w' hb 3 _ rfl⟩⟩

def isNmC (n : List UInt8) (x : LockC) : Bool := isNm n x.val
theorem idx_vals (n : List UInt8) (L : List LockC) : idxI (isNm n) (vals L) = idxI (isNmC n) L := by
  unfold idxI vals
  have : (L.map LockC.val).findIdx (isNm n) = L.findIdx (isNmC n) := by
    rw [List.findIdx_map]
    rfl
  rw [this, List.length_map]

theorem FindLock_any (v : Value) (L : List LockC) (n : List UInt8) (w : World) (h : RdX 4 cellsK w v L) : Calls Try.prog 21 #[v, .string (bstr n)] w (fun e w' => e = .returned (.int .i64 (idxI (isNm n) (vals L))) ∧ w' = w) := by
  rw [idx_vals]
  have hm := h.len
  obtain ⟨a, cap, rfl⟩ := h.form
  have HA := Lib.hid (fun i hi => rdk_at h i hi)
  have HH := Lib.hid (idxI_hit (isNmC n) L)
  have HM := Lib.hid (idxI_miss (isNmC n) L)
  clear h
  obtain ⟨N, hN⟩ : ∃ N, L.length = N := ⟨_, rfl⟩
  have HLL := Lib.hid hN
  rw [hN] at hm ⊢
  clear hN
  go_enter Try.func21, Try.ntmps21
  go_wp2
  go_loop [5] (fun i => ∃ k : Nat, k ≤ N ∧ i = .int .i64 k ∧ Hid (∀ j (hj : j < k) (hl : j < L.length), isNmC n L[j] = false)) (fun i => N - (intOf i).toNat)
  case atStart => exact ⟨0, by omega, rfl, Lib.hid (fun j hj => absurd hj (Nat.not_lt_zero _))⟩
  case round =>
    obtain ⟨k, hk, rfl, HJ⟩ := hrel
    by_cases hlt : k < N
    · have hkl : k < L.length := by rw [HLL.out]; exact hlt
      obtain ⟨b, o, rfl, hc⟩ := HA.out k hkl
      obtain ⟨q0, -⟩ := hc w (Below.refl _ _)
      have HI : Hid (isNmC n L[k] = true → idxI (isNmC n) L = k) := Lib.hid (fun q => HH.out k hkl q (fun j hj => HJ.out j hj (by omega)))
      have HN : Hid (isNmC n L[k] = false → ∀ j (hj : j < k + 1) (hl : j < L.length), isNmC n L[j] = false) := Lib.hid (fun q j hj hl => by
        by_cases e : j = k
        · subst e; exact q
        · exact HJ.out j (by omega) hl)
      clear HA HH HM hc
      generalize L[k] = g at q0 HI HN
      have hE := str_eq g.name n
      by_cases hq : g.name = n
      · rw [decide_eq_true hq] at hE
        have H := Lib.hid (HI.out (by unfold isNmC isNm LockC.val; exact decide_eq_true hq))
        clear hq HI HN
        go_wp2
        go_ret
        exact ⟨by rw [H.out]; rfl, rfl⟩
      · rw [decide_eq_false hq] at hE
        have H := Lib.hid (HN.out (by unfold isNmC isNm LockC.val; exact decide_eq_false hq))
        clear hq HI HN
        go_wp2
        go_round
        case rel => exact ⟨k + 1, by omega, by go_num, H⟩
        case measure => simp [intOf]; omega
    · obtain rfl : k = N := by omega
      have H := Lib.hid (HM.out (fun j hj => HJ.out j (by rw [← HLL.out]; exact hj) hj))
      clear HM HH
      go_wp2
      go_ret
      exact ⟨by rw [H.out]; rfl, rfl⟩

/-- Told, and nothing but draws. -/
def SaysQ (r : Bool) (w : World) (e : Ending) (w' : World) : Prop := e = .returned (.bool r) ∧ ∃ n, w' = w.drewN n

set_option maxHeartbeats 1000000 in
theorem SameInts_q (u v : Value) (l m : List Int) (w : World) (h : RdI w u l) (h2 : RdI w v m) :
    Calls Try.prog 30 #[u, v] w (SaysQ (sameI l m) w) := by
  have hm := h.len
  have hm2 := h2.len
  obtain ⟨a, cap, rfl⟩ := h.form
  obtain ⟨a2, cap2, rfl⟩ := h2.form
  by_cases hn : l.length = m.length
  · have HA := Lib.hid (fun i hi => rdi_at h i hi)
    have HA2 := Lib.hid (fun i hi => rdi_at h2 i hi)
    have HD := Lib.hid (sameI_drop l m)
    clear h h2
    obtain ⟨L, hL⟩ : ∃ L, l.length = L := ⟨_, rfl⟩
    have hL2 : m.length = L := by omega
    rw [hL] at hm ⊢
    rw [hL2] at hm2 ⊢
    go_enter Try.func30, Try.ntmps30
    go_wp2
    go_loopw [5] (fun i wr => ∃ j N : Nat, j ≤ L ∧ i = .int .i64 j ∧ wr = w.drewN N ∧ Hid (sameI l m = sameI (l.drop j) (m.drop j))) (fun i _ => L - (intOf i).toNat)
    case atStart => exact ⟨0, 0, by omega, rfl, rfl, Lib.hid rfl⟩
    case round =>
      obtain ⟨j, N, hj, rfl, rfl, ha⟩ := hrel
      by_cases hlt : j < L
      · obtain ⟨b, o, rfl, hc⟩ := HA.out j (by omega)
        obtain ⟨b', o', rfl, hc2⟩ := HA2.out j (by omega)
        have q1 := hc w (Below.refl _ _)
        have q2 := hc2 w (Below.refl _ _)
        have hd := HD.out j (by omega) (by omega)
        clear HA HA2 HD hc hc2
        generalize l[j] = x at q1 hd
        generalize m[j] = y at q2 hd
        by_cases e1 : x = y
        · have d1 : (x != y) = false := by simp [e1]
          rw [decide_eq_true e1, Bool.true_and] at hd
          have H := Lib.hid hd
          clear hd e1
          go_upto_region 6 with fail
          go_quiet (fail)
          go_wp2
          go_roundw
          case rel => exact ⟨j + 1, _, by omega, by go_num, rfl, Lib.hid (by rw [ha.out, H.out])⟩
          case measure => simp [intOf]; omega
        · have d1 : (x != y) = true := by simpa using e1
          rw [decide_eq_false e1, Bool.false_and] at hd
          have H := Lib.hid hd
          clear hd e1
          go_upto_region 6 with fail
          go_quiet (fail)
          go_wp2
          go_ret
          exact ⟨by rw [ha.out, H.out]; rfl, _, World.drewN_drewN _ _ _⟩
      · obtain rfl : j = L := by omega
        go_wp2
        go_ret
        have ha := ha.out
        rw [← hL, List.drop_length, hL, ← hL2, List.drop_length] at ha
        exact ⟨by rw [ha]; rfl, N, rfl⟩
  · have d1 : ((l.length : Int) != (m.length : Int)) = true := by simp; omega
    have e : sameI l m = false := sameI_len l m hn
    rw [e]
    clear h h2 hn e
    generalize l.length = L at *
    generalize m.length = M at *
    go_enter Try.func30, Try.ntmps30
    go_wp2
    go_ret
    exact ⟨rfl, 0, rfl⟩

theorem sameI_dec (l m : List Int) : sameI l m = decide (l = m) := by
  by_cases h : l = m
  · rw [decide_eq_true h]; exact (sameI_iff _ _).2 h
  · rw [decide_eq_false h]
    cases q : sameI l m with
    | true => exact absurd ((sameI_iff _ _).1 q) h
    | false => rfl

set_option maxHeartbeats 4000000 in
theorem SameLocks_any (u v : Value) (l m : List LockC) (w : World) (h : RdK w u l) (h2 : RdK w v m) :
    Calls Try.prog 13 #[u, v] w (SaysB (sameK (vals l) (vals m)) w) := by
  have hm := h.len
  have hm2 := h2.len
  obtain ⟨a, cap, rfl⟩ := h.form
  obtain ⟨a2, cap2, rfl⟩ := h2.form
  by_cases hn : l.length = m.length
  · have HA := Lib.hid (fun i hi => rdk_at h.row i hi)
    have HA2 := Lib.hid (fun i hi => rdk_at h2.row i hi)
    have HS : Hid (∀ i (hi : i < l.length) (hi2 : i < m.length) (w' : World), Below w.heap.size w w' → Calls Try.prog 30 #[l[i].lv, m[i].lv] w' (SaysQ (sameI l[i].line m[i].line) w')) := Lib.hid fun i hi hi2 w' hb => SameInts_q _ _ _ _ w' ((h.line _ (List.getElem_mem hi)).later hb) ((h2.line _ (List.getElem_mem hi2)).later hb)
    have HD : Hid (∀ j (h : j < l.length) (hm : j < m.length), sameK ((vals l).drop j) ((vals m).drop j) = ((decide (l[j].name = m[j].name) && (decide (l[j].holder = m[j].holder) && (decide (l[j].token = m[j].token) && decide (l[j].line = m[j].line)))) && sameK ((vals l).drop (j + 1)) ((vals m).drop (j + 1)))) := Lib.hid fun j hj hj2 => by
      have := sameK_drop (vals l) (vals m) j (by rw [vals_length]; exact hj) (by rw [vals_length]; exact hj2)
      rw [vals_get l j hj, vals_get m j hj2] at this
      exact this
    clear h h2
    obtain ⟨L, hL⟩ : ∃ L, l.length = L := ⟨_, rfl⟩
    have hL2 : m.length = L := by omega
    have HL := Lib.hid hL
    have HL2 := Lib.hid hL2
    rw [hL] at hm ⊢
    rw [hL2] at hm2 ⊢
    clear hL hL2 hn
    go_enter Try.func13, Try.ntmps13
    go_wp2
    go_loopw [5] (fun i wr => ∃ j : Nat, j ≤ L ∧ i = .int .i64 j ∧ Hid (Below w.heap.size w wr) ∧ Hid (sameK (vals l) (vals m) = sameK ((vals l).drop j) ((vals m).drop j))) (fun i _ => L - (intOf i).toNat)
    case atStart => exact ⟨0, by omega, rfl, Lib.hid (Below.refl _ _), Lib.hid rfl⟩
    case round =>
      obtain ⟨j, hj, rfl, HB, ha⟩ := hrel
      by_cases hlt : j < L
      · have h1 : j < l.length := by rw [HL.out]; exact hlt
        have h2 : j < m.length := by rw [HL2.out]; exact hlt
        obtain ⟨b, o, rfl, hc⟩ := HA.out j h1
        obtain ⟨b', o', rfl, hc2⟩ := HA2.out j h2
        obtain ⟨q0, q1, q2, q3⟩ := hc _ HB.out
        obtain ⟨p0, p1, p2, p3⟩ := hc2 _ HB.out
        have hd := HD.out j h1 h2
        have hs := fun n => HS.out j h1 h2 (wr.drewN n) (below_drewN6 HB.out n)
        clear HA HA2 HD HS hc hc2
        generalize l[j] = x at q0 q1 q2 q3 hd hs
        generalize m[j] = y at p0 p1 p2 p3 hd hs
        obtain ⟨xn, xh, xt, xl, xa, xc⟩ := x
        obtain ⟨yn, yh, yt, yl, ya, yc⟩ := y
        unfold LockC.lv at q3 p3 hs
        dsimp only at q0 q1 q2 q3 p0 p1 p2 p3 hd hs
        clear h1 h2
        have hE := str_eq xn yn
        by_cases e0 : xn = yn
        case neg =>
          rw [decide_eq_false e0] at hE hd
          have H := Lib.hid hd
          clear hd e0 hs
          go_upto_region 6 with fail
          go_quiet (fail)
          go_wp2
          go_ret
          exact ⟨by rw [ha.out, H.out]; rfl, below_drewN6 HB.out nq⟩
        rw [decide_eq_true e0] at hE hd
        clear e0
        by_cases e1 : xh = yh
        case neg =>
          have d1 : (xh != yh) = true := by simpa using e1
          rw [decide_eq_false e1] at hd
          have H := Lib.hid hd
          clear hd e1 hs
          go_upto_region 6 with fail
          go_quiet (fail)
          go_wp2
          go_ret
          exact ⟨by rw [ha.out, H.out]; rfl, below_drewN6 HB.out nq⟩
        have d1 : (xh != yh) = false := by simp [e1]
        rw [decide_eq_true e1] at hd
        clear e1
        by_cases e2 : xt = yt
        case neg =>
          have d2 : (xt != yt) = true := by simpa using e2
          rw [decide_eq_false e2] at hd
          have H := Lib.hid hd
          clear hd e2 hs
          go_upto_region 6 with fail
          go_quiet (fail)
          go_wp2
          go_ret
          exact ⟨by rw [ha.out, H.out]; rfl, below_drewN6 HB.out nq⟩
        have d2 : (xt != yt) = false := by simp [e2]
        rw [decide_eq_true e2] at hd
        clear e2
        rw [← sameI_dec] at hd
        unfold SaysQ at hs
        cases e3 : sameI xl yl with
        | false =>
          rw [e3] at hd hs
          have H := Lib.hid hd
          have HS := Lib.hid hs
          clear hd hs e3
          go_upto_region 6 with fail
          go_quiet (first | (go_at_call 30; exact (HS.out _).mono fun e w2 ⟨he, n, hn⟩ => ⟨he, _, hn.trans (World.drewN_drewN _ _ _)⟩))
          go_wp2
          go_ret
          exact ⟨by rw [ha.out, H.out]; rfl, below_drewN6 HB.out nq⟩
        | true =>
          rw [e3] at hd hs
          have H := Lib.hid hd
          have HS := Lib.hid hs
          clear hd hs e3
          go_upto_region 6 with fail
          go_quiet (first | (go_at_call 30; exact (HS.out _).mono fun e w2 ⟨he, n, hn⟩ => ⟨he, _, hn.trans (World.drewN_drewN _ _ _)⟩))
          go_wp2
          go_roundw
          case rel => exact ⟨j + 1, by omega, by go_num, Lib.hid (below_drewN6 HB.out nq), Lib.hid (by rw [ha.out, H.out]; rfl)⟩
          case measure => simp [intOf]; omega
      · obtain rfl : j = L := by omega
        go_wp2
        go_ret
        have ha := ha.out
        have t1 : (vals l).drop j = [] := List.drop_eq_nil_of_le (by rw [vals_length, HL.out]; exact Nat.le_refl _)
        have t2 : (vals m).drop j = [] := List.drop_eq_nil_of_le (by rw [vals_length, HL2.out]; exact Nat.le_refl _)
        rw [t1, t2] at ha
        exact ⟨by rw [ha]; rfl, HB.out⟩
  · have d1 : ((l.length : Int) != (m.length : Int)) = true := by simp; omega
    have e : sameK (vals l) (vals m) = false := sameK_len _ _ (by rw [vals_length, vals_length]; exact hn)
    rw [e]
    clear h h2 hn e
    generalize l.length = L at *
    generalize m.length = M at *
    go_enter Try.func13, Try.ntmps13
    go_wp2
    go_ret
    exact ⟨rfl, Below.refl _ _⟩
end Cm
end Go.Proofs.Ytnkooajbenhjhaa

/- Contracts: padlockref6's Copy: locks in new memory, lines of their own. -/
set_option linter.unusedVariables false
set_option linter.unusedSimpArgs false
namespace Go.Proofs.Ytnkooajbenhjhaa
open Go.RowKit
namespace Cm

theorem infoK : (Try.prog.info? 39).map (fun i => (i.zero, i.size, i.bytes)) = some (some (.agg #[.string ⟨#[]⟩, .int .i64 0, .int .i64 0, .slice none 0 0]), 4, 56) := by kernel_rfl

section
variable {α : Type} {sz : Nat} {f : α → List Value}
/-- One appended, and what grew: the row's own block alone. -/
theorem wpList_append_one_gr (hf : ∀ x, (f x).length = sz) (hsz : 0 < sz) {P : Program} {ops : Array Oper} {rest : List Oper} {o : Oper} {a : Act} {Q : Exit → Act → World → Prop} {W : World} (hgd : o.guard = none) (s x : Operand) (t : TypeId)
    (ho : o.op = .call { callee := .builtin .append, args := #[s, x], argTypes := #[t, t] })
    (e : TypeId) (i : TypeInfo) (z : Value) (bytes : Nat) (ht : P.underlying t = some (.slice e)) (hi : P.info? e = some i) (hz : i.zero = some z) (hsize : i.size = sz) (hby : i.bytes = bytes) (hzs : z.cells.size = sz)
    (cs : Array Value) (y : α) (hcs : cs.toList = f y) (h1 : ∀ u ∈ f y, u.oneCell' = true) (M : List α) (base : Nat) (m : Value) (hs : a.eval s = m) (hx : a.eval x = .slice (some ⟨W.heap.size, 0, none⟩) 1 1)
    (hown : W.ownsRow base e sz m M.length (flatX f M)) (h63 : M.length + 1 ≤ maxLen) (hlen : (M.length + 1) * bytes ≤ 140737488355328) (hbase : base ≤ W.heap.size)
    (h : ∀ v' w', w'.ownsRow base e sz v' (M ++ [y]).length (flatX f (M ++ [y])) → (W.alloc (.cells cs e)).grownBy w' m.ownBlock → (v'.ownBlock = m.ownBlock ∨ v'.ownBlock = some (W.alloc (.cells cs e)).heap.size) → wpList P ops Q rest (a.put o.dst v') w') :
    wpList P ops Q (o :: rest) a (W.alloc (.cells cs e)) := by
  have hz1 : (W.alloc (.cells cs e)).heap.size = W.heap.size + 1 := by simp
  refine wpList_append_own_at (W.alloc (.cells cs e)) hgd s x t ho base e i z sz bytes ht hi hz hsize hby hzs hsz m M.length (flatX f M) hs (Rw.own_alloc hown _) ⟨W.heap.size, 0, none⟩ 1 1 (f y) hx (by rw [hf]; omega) ?_ h1 h63 hlen (by rw [hz1]; omega) ?_
  · rw [← hcs]
    exact World.news_of_block (w := W.alloc (.cells cs e)) (B := W.heap.size) (cs := cs) (t := e) (fr := (0, 0)) (by show (W.heap.push _)[W.heap.size]? = _; simp)
  · intro v' w' ho' hg _ hat
    refine h v' w' ?_ hg hat
    rw [List.length_append, flatX_snoc]
    exact ho'
end

/-- Rows of unlike elements lie apart. -/
theorem own_types {w : World} {b1 b2 s1 s2 n1 n2 : Nat} {e1 e2 : TypeId} {u v : Value} {xs ys : List Value} (h : w.ownsRow b1 e1 s1 u n1 xs) (h2 : w.ownsRow b2 e2 s2 v n2 ys) (hne : e1 ≠ e2) : Rw.Apart u v := by
  intro g hu hv
  rcases h.2 with ⟨rfl, _⟩ | ⟨g1, cap, cur, rfl, _, q1, _⟩
  · cases hu
  rcases h2.2 with ⟨rfl, _⟩ | ⟨g2, cap2, cur2, rfl, _, q2, _⟩
  · cases hv
  have r1 : g1 = g := by simpa [Value.ownBlock] using hu
  have r2 : g2 = g := by simpa [Value.ownBlock] using hv
  subst r1
  subst r2
  rw [q1] at q2
  injection q2 with q2
  injection q2 with _ q2
  exact hne q2

/-- Locks in memory of the call's own, each line too, no two in one block. -/
structure OwnD (base : Nat) (w : World) (v : Value) (M : List LockC) : Prop where
  row : w.ownsRow base 39 4 v M.length (flatX cellsK M)
  line : ∀ x ∈ M, w.ownsRow base 3 1 x.lv x.line.length (flatX cellsI x.line)
  sep : M.Pairwise fun x y => Rw.Apart x.lv y.lv

theorem OwnD.nil (base : Nat) (w : World) : OwnD base w (.slice none 0 0) [] := ⟨World.ownsRow_nil _ _ _ _, (fun x hx => by cases hx), List.Pairwise.nil⟩
theorem OwnD.rd {base : Nat} {w : World} {v : Value} {M : List LockC} (h : OwnD base w v M) : RdK w v M := ⟨RdX.own cellsK_length h.row, fun x hx => RdX.own cellsI_length (h.line x hx)⟩
theorem OwnD.later {base : Nat} {w w' : World} {v : Value} {M : List LockC} (h : OwnD base w v M) (hb : Below w.heap.size w w') : OwnD base w' v M := ⟨Rw.own_below h.row hb, fun x hx => Rw.own_below (h.line x hx) hb, h.sep⟩
theorem OwnD.lower {base base' : Nat} {w : World} {v : Value} {M : List LockC} (h : OwnD base w v M) (hb : base' ≤ base) : OwnD base' w v M := ⟨own_lowerX h.row hb, fun x hx => own_lowerX (h.line x hx) hb, h.sep⟩

theorem OwnD.push {base base' : Nat} {wr w3 w6 : World} {m v' : Value} {M : List LockC} {x : LockC} (h : OwnD base wr m M) (hb : Below wr.heap.size wr w3)
    (hl : w3.ownsRow base' 3 1 x.lv x.line.length (flatX cellsI x.line)) (h1 : wr.heap.size ≤ base') (hbs : base ≤ base') (hg : w3.grownBy w6 m.ownBlock)
    (ho : w6.ownsRow base 39 4 v' (M ++ [x]).length (flatX cellsK (M ++ [x]))) : OwnD base w6 v' (M ++ [x]) := by
  have hm := (h.later hb).row
  refine ⟨ho, fun y hy => ?_, List.pairwise_append.2 ⟨h.sep, List.pairwise_singleton _ _, fun a ha b hb' => ?_⟩⟩
  · rcases List.mem_append.1 hy with q | q
    · have hy' := (h.later hb).line y q
      exact Rw.own_other hy' hg (own_types hm hy' (by decide))
    · rw [List.mem_singleton] at q
      subst q
      exact own_lowerX (Rw.own_other hl hg (own_types hm hl (by decide))) hbs
  · rw [List.mem_singleton] at hb'
    subst hb'
    intro g q1 q2
    have a1 := (Rw.own_lt (h.line a ha) g q1).2
    have a2 := (Rw.own_lt hl g q2).1
    omega

def MadeC (l : List LockV) (w : World) (e : Ending) (w' : World) : Prop :=
  ∃ v M, e = .returned v ∧ vals M = l ∧ OwnD w.heap.size w' v M ∧ Below w.heap.size w w'

set_option maxHeartbeats 4000000 in
theorem CopyK_any (v : Value) (L : List LockC) (w : World) (h : RdK w v L) (h5 : L.length ≤ 1000) (h6 : ∀ x ∈ L, x.line.length ≤ 1000) : Calls Try.prog 32 #[v] w (MadeC (vals L) w) := by
  have hm := h.len
  obtain ⟨a, cap, rfl⟩ := h.form
  have HA := Lib.hid (fun i hi => rdk_at h.row i hi)
  have HL : Hid (∀ i (hi : i < L.length) (w' : World), Below w.heap.size w w' → RdI w' L[i].lv L[i].line ∧ L[i].line.length ≤ 1000) := Lib.hid fun i hi w' hb => ⟨(h.line _ (List.getElem_mem hi)).later hb, h6 _ (List.getElem_mem hi)⟩
  have HV : Hid (∀ i (hi : i < L.length), vals (L.take (i + 1)) = vals (L.take i) ++ [L[i].val]) := Lib.hid fun i hi => by
    rw [List.take_succ_eq_append_getElem hi]
    unfold vals
    rw [List.map_append]
    rfl
  clear h h6
  obtain ⟨N, hN⟩ : ∃ N, L.length = N := ⟨_, rfl⟩
  have HLL := Lib.hid hN
  rw [hN] at hm h5 ⊢
  clear hN
  obtain ⟨i0, hi, hz0, hz1, hz2⟩ := info_parts infoN
  obtain ⟨i1, hi', hz0', hz1', hz2'⟩ := info_parts infoK
  go_enter Try.func32, Try.ntmps32
  go_wp2
  go_loopw [3, 4] (fun m i wr => ∃ (k : Nat) (M : List LockC), k ≤ N ∧ i = .int .i64 k ∧ M.length = k ∧ Hid (vals M = vals (L.take k)) ∧ Hid (OwnD w.heap.size wr m M) ∧ Hid (Below w.heap.size w wr)) (fun _ i _ => N - (intOf i).toNat)
  case atStart => exact ⟨0, [], by omega, rfl, rfl, Lib.hid rfl, Lib.hid (OwnD.nil _ _), Lib.hid (Below.refl _ _)⟩
  case round =>
    obtain ⟨k, M, hk, rfl, hMk, HM, HO, HB⟩ := hrel
    by_cases hlt : k < N
    · have hkl : k < L.length := by rw [HLL.out]; exact hlt
      obtain ⟨b, o, rfl, hc⟩ := HA.out k hkl
      obtain ⟨q0, q1, q2, q3⟩ := hc _ HB.out
      have hl := HL.out k hkl
      have hv := HV.out k hkl
      clear hc HA HL HV
      generalize L[k] = x at q0 q1 q2 q3 hl hv
      obtain ⟨xn, xh, xt, xl, xa, xc⟩ := x
      unfold LockC.lv at q3 hl
      unfold LockC.val at hv
      dsimp only at q0 q1 q2 q3 hl hv
      obtain ⟨W1, hW1⟩ : ∃ W1, W1 = wr.alloc (.cells #[.string (bstr xn), .int .i64 xh, .int .i64 xt, .slice xa xl.length xc] 39) := ⟨_, rfl⟩
      have HB1 : Hid (Below wr.heap.size wr W1) := Lib.hid (by rw [hW1]; exact newAlloc _ _)
      have hsz : W1.heap.size = wr.heap.size + 1 := by rw [hW1]; simp
      have HR := Lib.hid ((hl _ (step (step HB.out HB1.out) (newAlloc W1 (.cells #[] 3)))).1)
      have hll := (hl _ HB.out).2
      have HVV := Lib.hid hv
      obtain ⟨z0, z1, z2, z3⟩ := box4 (Below.refl _ (wr.alloc (.cells #[.string (bstr xn), .int .i64 xh, .int .i64 xt, .slice xa xl.length xc] 39)))
      rw [← hW1] at z0 z1 z2 z3
      have zf : ∀ j, W1.frozen? ⟨wr.heap.size, j, none⟩ = false := fun j => by rw [hW1]; simp [go_sem]
      clear hl hv
      go_upto_region 6 with fail
      rw [← hW1]
      have z3' : (W1.alloc (.cells #[] 3)).cell? ⟨wr.heap.size, 3, none⟩ = some (.slice xa xl.length xc) := ((newAlloc W1 (.cells #[] 3)).cell (p := ⟨wr.heap.size, 3, none⟩) (by rw [hsz]; exact Nat.lt_succ_self _)).trans z3
      have hbl : wr.heap.size < W1.heap.size := by omega
      clear hW1 hsz
      go_upto_region 7 with (at_builtin; refine wpList_append_rdx cellsI_length (by omega) cellsI_one rfl (.tmp 16) (.tmp 18) 35 rfl W1.heap.size 3 i0 _ 8 Try.underlying35 hi hz0 hz1 hz2 rfl _ 0 [] rfl (own_new W1 _ 1 _ _ rfl (Nat.le_refl _)) _ xl rfl (HR.out) (by unfold maxLen; omega) (by omega) (newAlloc W1 (.cells #[] 3)).size ?_; intro v1 w2 hown2 hgrow2; have HB2 : Hid (Below W1.heap.size W1 w2) := Lib.hid ((newAlloc W1 (.cells #[] 3)).grown hgrow2 (newAlloc W1 (.cells #[] 3)).size (fun k hk => by cases hk; exact Nat.le_refl _)); have HO2 : Hid (w2.ownsRow W1.heap.size 3 1 v1 xl.length (flatX cellsI xl)) := Lib.hid (by simpa using hown2); obtain ⟨ya, yc, rfl⟩ := Rw.own_form HO2.out; have y3 := (HB2.out.cell (p := ⟨wr.heap.size, 3, none⟩) hbl).trans z3; have yf := (HB2.out.frozen (p := ⟨wr.heap.size, 3, none⟩) hbl).trans (zf 3); clear hown2 hgrow2)
      obtain ⟨W3, hW3⟩ : ∃ W3, W3 = w2.setCell ⟨wr.heap.size, 3, none⟩ (.slice ya xl.length yc) := ⟨_, rfl⟩
      have y0 := (HB2.out.cell (p := ⟨wr.heap.size, 0, none⟩) hbl).trans z0
      have y1 := (HB2.out.cell (p := ⟨wr.heap.size, 1, none⟩) hbl).trans z1
      have y2 := (HB2.out.cell (p := ⟨wr.heap.size, 2, none⟩) hbl).trans z2
      have t0 : W3.cell? ⟨wr.heap.size, 0, none⟩ = some (.string (bstr xn)) := by rw [hW3]; simp [go_sem, y0]
      have t1 : W3.cell? ⟨wr.heap.size, 1, none⟩ = some (.int .i64 xh) := by rw [hW3]; simp [go_sem, y1]
      have t2 : W3.cell? ⟨wr.heap.size, 2, none⟩ = some (.int .i64 xt) := by rw [hW3]; simp [go_sem, y2]
      have t3 : W3.cell? ⟨wr.heap.size, 3, none⟩ = some (.slice ya xl.length yc) := by rw [hW3]; simp [go_sem, y3, yf]
      have HB3 : Hid (Below wr.heap.size wr W3) := Lib.hid (by rw [hW3]; exact (step HB1.out HB2.out).setCell (Nat.le_refl _) _)
      have HO3 : Hid (W3.ownsRow W1.heap.size 3 1 (.slice ya xl.length yc) xl.length (flatX cellsI xl)) := Lib.hid (by rw [hW3]; exact ownsRow_setCell_below HO2.out hbl _)
      have HM3 : Hid (W3.ownsRow w.heap.size 39 4 u3 M.length (flatX cellsK M)) := Lib.hid (HO.out.later HB3.out).row
      rw [← hW3]
      clear hW3 y0 y1 y2 y3 yf z0 z1 z2 z3 z3' zf HO2 HB2 HR HB1
      have hb3 := HB3.out.size
      have hbw := HB.out.size
      have HBL := Lib.hid (Nat.le_of_lt hbl)
      clear hbl
      go_wp2_with (at_builtin; refine wpList_append_one_gr cellsK_length (by omega) rfl (.tmp 21) (.tmp 23) 24 rfl 39 i1 _ 56 Try.underlying24 hi' hz0' hz1' hz2' rfl #[.string (bstr xn), .int .i64 xh, .int .i64 xt, .slice ya xl.length yc] (⟨xn, xh, xt, xl, ya, yc⟩ : LockC) rfl (cellsK_one _) M w.heap.size u3 rfl rfl HM3.out (by unfold maxLen; omega) (by omega) (by omega) ?_; intro v6 w6 ho6 hg6 _; have HO6 : Hid (OwnD w.heap.size w6 v6 (M ++ [⟨xn, xh, xt, xl, ya, yc⟩])) := Lib.hid (HO.out.push (x := ⟨xn, xh, xt, xl, ya, yc⟩) (stepAlloc HB3.out _) (Rw.own_alloc HO3.out _) HBL.out (Nat.le_trans hbw HBL.out) hg6 ho6); have HB6 : Hid (Below w.heap.size w w6) := Lib.hid ((step HB.out (stepAlloc HB3.out _)).grown hg6 (by simp; omega) (fun g hg => (Rw.own_lt HM3.out g hg).1)); clear ho6 hg6)
      go_roundw
      case rel => exact ⟨k + 1, M ++ [⟨xn, xh, xt, xl, ya, yc⟩], by omega, by go_num, by simp; omega, Lib.hid (by rw [HVV.out, ← HM.out]; unfold vals; rw [List.map_append]; rfl), HO6, HB6⟩
      case measure => simp [intOf]; omega
    · obtain rfl : k = N := by omega
      go_wp2
      go_ret
      have hM := HM.out
      rw [← HLL.out, List.take_length] at hM
      exact ⟨_, M, rfl, hM, HO.out, HB.out⟩
end Cm
end Go.Proofs.Ytnkooajbenhjhaa
