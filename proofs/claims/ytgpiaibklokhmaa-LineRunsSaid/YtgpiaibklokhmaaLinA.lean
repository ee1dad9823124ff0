/- Contracts: padlockref6's Ahead, RightLine, Join, Without; slices.Index, Contains of numbers. -/
import Derived.Test.YtgpiaibklokhmaaCatI
import Derived.Lib.QuietBelow
set_option linter.unusedVariables false
set_option linter.unusedSimpArgs false
namespace Go.Proofs.Ytgpiaibklokhmaa
open Go.RowKit
namespace Cm

theorem In_has (v : Value) (l : List Int) (x : Int) (w : World) (h : RdI w v l) : Calls Try.prog 20 #[v, .int .i64 x] w (Says (hasL l x) w) := In_any v l x w h

/-- A place told, the world as it was. -/
def Stands (r : Int × Bool) (w : World) (e : Ending) (w' : World) : Prop := e = .returned (.tuple #[.int .i64 r.1, .bool r.2]) ∧ w' = w

theorem Ahead_any (v : Value) (l : List Int) (c : Int) (w : World) (h : RdI w v l) : Calls Try.prog 13 #[v, .int .i64 c] w (Stands (aheadL l c) w) := by
  have hm := h.len
  obtain ⟨a, cap, rfl⟩ := h.form
  have HA := Lib.hid (fun i hi => rdi_at h i hi)
  have HH := Lib.hid (idxI_hit (isN c) l)
  have HM := Lib.hid (idxI_miss (isN c) l)
  clear h
  obtain ⟨L, hL⟩ : ∃ L, l.length = L := ⟨_, rfl⟩
  have HLL := Lib.hid hL
  rw [hL] at hm ⊢
  clear hL
  go_enter Try.func13, Try.ntmps13
  go_wp2
  go_loop [6] (fun i => ∃ k : Nat, k ≤ L ∧ i = .int .i64 k ∧ Hid (∀ j (hj : j < k) (hl : j < l.length), isN c l[j] = false)) (fun i => L - (intOf i).toNat)
  case atStart => exact ⟨0, by omega, rfl, Lib.hid (fun j hj => absurd hj (Nat.not_lt_zero _))⟩
  case round =>
    obtain ⟨k, hk, rfl, HJ⟩ := hrel
    by_cases hlt : k < L
    · have hkl : k < l.length := by rw [HLL.out]; exact hlt
      obtain ⟨b, o, rfl, hc⟩ := HA.out k hkl
      have q1 := hc w (Below.refl _ _)
      have HI : Hid (isN c l[k] = true → idxI (isN c) l = k) := Lib.hid (fun q => HH.out k hkl q (fun j hj => HJ.out j hj (by omega)))
      have HN : Hid (isN c l[k] = false → ∀ j (hj : j < k + 1) (hl : j < l.length), isN c l[j] = false) := Lib.hid (fun q j hj hl => by
        by_cases e : j = k
        · subst e; exact q
        · exact HJ.out j (by omega) hl)
      clear HA HH HM hc
      generalize l[k] = g at q1 HI HN
      by_cases hq : g = c
      · have d : (g == c) = true := by simpa using hq
        have H := Lib.hid (HI.out (by unfold isN; exact decide_eq_true hq))
        clear hq HI HN
        go_wp2
        go_ret2
        refine ⟨?_, rfl⟩
        unfold aheadL
        rw [H.out, if_neg (by omega)]
        rfl
      · have d : (g == c) = false := by simpa using hq
        have H := Lib.hid (HN.out (by unfold isN; exact decide_eq_false hq))
        clear hq HI HN
        go_wp2
        go_round
        case rel => exact ⟨k + 1, by omega, by go_num, H⟩
        case measure => simp [intOf]; omega
    · obtain rfl : k = L := by omega
      have H := Lib.hid (HM.out (fun j hj => HJ.out j (by rw [← HLL.out]; exact hj) hj))
      clear HM HH
      go_wp2
      go_ret2
      refine ⟨?_, rfl⟩
      unfold aheadL
      rw [H.out, if_pos (by omega)]
      rfl

/-- A line told with two numbers, in new memory. -/
def GetsJ (r : List Int × Int × Int) (w : World) (e : Ending) (w' : World) : Prop :=
  ∃ v, e = .returned (.tuple #[v, .int .i64 r.2.1, .int .i64 r.2.2]) ∧ w'.ownsRow w.heap.size 3 1 v r.1.length (flatX cellsI r.1) ∧ Below w.heap.size w w'

theorem GetsJ.empty {w w' : World} {e : Ending} {c : Int} (he : e = .returned (.tuple #[.slice none 0 0, .int .i64 0, .int .i64 c])) (hb : Below w.heap.size w w') : GetsJ ([], 0, c) w e w' :=
  ⟨_, he, World.ownsRow_nil _ _ _ _, hb⟩

set_option maxHeartbeats 2000000 in
theorem Join_any (v : Value) (l : List Int) (c : Int) (w : World) (h : RdI w v l) : Calls Try.prog 10 #[v, .int .i64 c] w (GetsJ (joinL l c) w) := by
  have hm := h.len
  have CI := Lib.hid (In_has v l c w h)
  obtain ⟨a, cap, rfl⟩ := h.form
  unfold joinL
  cases n1 : clientF c
  case false =>
    rw [if_pos rfl]
    clear CI
    generalize l.length = L at *
    go_enter Try.func10, Try.ntmps10
    go_wp2_with fail
    refine (client6_any _ _).mono ?_
    rw [n1]
    rintro e w1 ⟨rfl, rfl⟩
    go_wp2
    refine bodyPost_ret (by simp [results, Try.results10, go_sem] <;> rfl) rfl ?_
    exact GetsJ.empty rfl (Below.refl _ _)
  rw [if_neg (by simp)]
  cases n2 : hasL l c
  case true =>
    rw [if_pos rfl]
    rw [n2] at CI
    clear n2
    generalize l.length = L at *
    go_enter Try.func10, Try.ntmps10
    go_wp2_with fail
    refine (client6_any _ _).mono ?_
    rw [n1]
    rintro e w1 ⟨rfl, rfl⟩
    go_wp2_with fail
    refine CI.out.mono ?_
    rintro e w1 ⟨rfl, rfl⟩
    go_wp2
    refine bodyPost_ret (by simp [results, Try.results10, go_sem] <;> rfl) rfl ?_
    exact GetsJ.empty rfl (Below.refl _ _)
  rw [if_neg (by simp)]
  rw [n2] at CI
  by_cases h3 : 3 ≤ l.length
  · rw [if_pos h3]
    have d3 : decide ((3 : Int) ≤ (l.length : Int)) = true := by simp; omega
    clear n2
    generalize l.length = L at *
    clear h3
    go_enter Try.func10, Try.ntmps10
    go_wp2_with fail
    refine (client6_any _ _).mono ?_
    rw [n1]
    rintro e w1 ⟨rfl, rfl⟩
    go_wp2_with fail
    refine CI.out.mono ?_
    rintro e w1 ⟨rfl, rfl⟩
    go_wp2
    refine bodyPost_ret (by simp [results, Try.results10, go_sem] <;> rfl) rfl ?_
    exact GetsJ.empty rfl (Below.refl _ _)
  rw [if_neg h3]
  have d3 : decide ((3 : Int) ≤ (l.length : Int)) = false := by simp; omega
  obtain ⟨i0, hi, hz0, hz1, hz2⟩ := info_parts infoN
  have HR2 := Lib.hid (h.later (newAlloc w (.cells #[] 3)))
  have hlen : l.length ≤ 2 := by omega
  clear h3 n2 h
  go_enter Try.func10, Try.ntmps10
  go_upto_region 7 with (first
    | (go_at_call 25; refine (client6_any _ _).mono ?_; rw [n1]; rintro e w1 ⟨rfl, rfl⟩)
    | (go_at_call 20; refine CI.out.mono ?_; rintro e w1 ⟨rfl, rfl⟩))
  go_wp2_with (first
    | (at_builtin; refine wpList_append_rdx cellsI_length (by omega) cellsI_one rfl (.tmp 19) (.tmp 20) 23 rfl w.heap.size 3 i0 _ 8 Try.underlying23 hi hz0 hz1 hz2 rfl _ 0 [] rfl (own_new w _ 1 _ _ rfl (Nat.le_refl _)) _ l rfl (HR2.out) (by unfold maxLen; omega) (by omega) (newAlloc w (.cells #[] 3)).size ?_; intro v1 w2 hown2 hgrow2; have HB2 : Hid (Below w.heap.size w w2) := Lib.hid ((newAlloc w (.cells #[] 3)).grown hgrow2 (newAlloc w (.cells #[] 3)).size (fun k hk => by cases hk; exact Nat.le_refl _)); have HO2 : Hid (w2.ownsRow w.heap.size 3 1 v1 l.length (flatX cellsI l)) := Lib.hid (by simpa using hown2); clear hown2 hgrow2)
    | (at_builtin; refine wpList_append_one cellsI_length (by omega) rfl (.tmp 21) (.tmp 23) 23 rfl 3 i0 _ 8 Try.underlying23 hi hz0 hz1 hz2 rfl #[.int .i64 c] c rfl (cellsI_one _) l w.heap.size w.heap.size w _ rfl rfl HO2.out (by unfold maxLen; omega) (by omega) HB2.out.size HB2.out (Nat.le_refl _) ?_; intro v5 w5 ho5 hb5 _; have HO5 := Lib.hid ho5; have HB5 := Lib.hid hb5; clear ho5 hb5))
  refine bodyPost_ret (by simp [results, Try.results10, go_sem] <;> rfl) rfl ?_
  exact ⟨v5, rfl, HO5.out, HB5.out⟩
end Cm
end Go.Proofs.Ytgpiaibklokhmaa
