/- Contract: padlocklaw7's Line. What the developers' calls answer: forms. -/
import Derived.Test.YtgpiaibklokhmaaLinB
set_option linter.unusedVariables false
set_option linter.unusedSimpArgs false
namespace Go.Proofs.Ytgpiaibklokhmaa
open Go.RowKit
namespace Cm

/-- A right line made, the slice written out. -/
def MadeK (w : World) (e : Ending) (w' : World) : Prop :=
  ∃ l a p, e = .returned (.slice a (List.length l) p) ∧ rightL l = true ∧ RdI w' (.slice a l.length p) l ∧ Below w.heap.size w w'

theorem line_push (M : List Int) (c : Int) (h : rightL M = true) (h3 : M.length < 3) (hc : clientF c = true) (hn : hasL M c = false) : rightL (M ++ [c]) = true := by
  have e : joinL M c = (M ++ [c], (M.length : Int), 0) := by
    unfold joinL
    rw [if_neg (by rw [hc]; simp), if_neg (by rw [hn]; simp), if_neg (by omega)]
  have := join_right M c h (by rw [e])
  rw [e] at this
  exact this

set_option maxHeartbeats 4000000 in
theorem Line_any (v : Value) (ns : List UInt8) (w : World) (h : Rd w v ns) : Calls Try.prog 21 #[v] w (MadeK w) := by
  have hlen := Rd.len_le h
  unfold maxLen at hlen
  obtain ⟨a, len, cap, rfl, hl, hc, hm, hn, hx⟩ := h.ex
  subst hl
  have HI : Hid (∀ i, i < ns.length → ∃ b o, a = some ⟨b, o, none⟩ ∧ ∀ w', Below w.heap.size w w' → w'.cell? ⟨b, o + i, none⟩ = some (.int .u8 ((ns.getD i 0).toNat : Int))) := Lib.hid fun i hi' => by
    match a, hn, hx with
    | none, hn, _ => have := (hn rfl).1; omega
    | some ⟨b, o, sp⟩, _, hx =>
      obtain ⟨hs, hi⟩ := hx _ rfl (by omega)
      simp only at hs hi
      subst hs
      exact ⟨b, o, rfl, fun w' hb => by rw [hb.cell (p := ⟨b, o + i, none⟩) (lt_of_cell (hi i hi'))]; exact hi i hi'⟩
  clear h hn hx
  obtain ⟨i0, hi, hz0, hz1, hz2⟩ := info_parts infoN
  generalize ns.length = N at *
  go_enter Try.func21, Try.ntmps21
  go_wp2
  go_loopw [3, 4] (fun m i wr => ∃ (I : Nat) (M : List Int), I ≤ N ∧ i = .int .i64 (I : Int) ∧ M.length ≤ 3 ∧ Hid (rightL M = true) ∧ Hid (wr.ownsRow w.heap.size 3 1 m M.length (flatX cellsI M)) ∧ Hid (Below w.heap.size w wr)) (fun _ i _ => N - (intOf i).toNat)
  case atStart => exact ⟨0, [], by omega, rfl, by simp, Lib.hid nil_right, Lib.hid (World.ownsRow_nil _ _ _ _), Lib.hid (Below.refl _ _)⟩
  case round =>
    obtain ⟨I, M, hIN, rfl, hM5, HR, HO, HB⟩ := hrel
    obtain ⟨ua, uc, rfl⟩ := Rw.own_form HO.out
    have HM := Lib.hid (RdX.own cellsI_length HO.out)
    have CI := Lib.hid (fun x => In_has _ M x wr HM.out)
    by_cases hgo : I < N ∧ M.length < 3
    · obtain ⟨g1, g3⟩ := hgo
      obtain ⟨b, o, rfl, hcell⟩ := HI.out I g1
      have q0 := hcell wr HB.out
      have tx : (ns.getD I 0).toNat < 256 := UInt8.toNat_lt _
      clear hcell HI
      generalize (ns.getD I 0).toNat = X at q0 tx
      have d1 : decide (I < N) = true := decide_eq_true g1
      have d3 : decide (M.length < 3) = true := decide_eq_true g3
      have v1 : IntKind.i64.wrap (X : Int) = (X : Int) := by rw [IntKind.wrap_i64]; omega
      obtain ⟨c, hc⟩ : ∃ c, (X : Int).tmod 8 = c := ⟨_, rfl⟩
      have hcr : 0 ≤ c ∧ c < 8 := by rw [← hc, Int.tmod_eq_emod_of_nonneg (by omega)]; omega
      have v3 : IntKind.i64.wrap c = c := by rw [IntKind.wrap_i64]; omega
      have hcl : clientF c = true := by unfold clientF; simp; omega
      have C1 := Lib.hid (CI.out c)
      have HP := Lib.hid (fun q => line_push M c HR.out g3 hcl q)
      clear hcl hcr CI
      cases n1 : hasL M c with
      | true =>
        rw [n1] at C1
        clear n1 HP
        go_wp2_with (go_at_call 20; refine C1.out.mono ?_; rintro e w1 ⟨rfl, rfl⟩)
        go_roundw
        case rel => exact ⟨I + 1, M, by omega, by go_num, by omega, HR, HO, HB⟩
        case measure => simp [intOf]; omega
      | false =>
        rw [n1] at C1
        have HP := Lib.hid (HP.out n1)
        clear n1
        go_wp2_with (first
          | (go_at_call 20; refine C1.out.mono ?_; rintro e w1 ⟨rfl, rfl⟩)
          | (at_builtin; (refine wpList_append_one cellsI_length (by omega) rfl (.tmp 27) (.tmp 29) 23 rfl 3 i0 _ 8 Try.underlying23 hi hz0 hz1 hz2 rfl #[.int .i64 c] c rfl (cellsI_one _) M w.heap.size w.heap.size w _ rfl rfl HO.out (by unfold maxLen; omega) (by omega) HB.out.size HB.out (Nat.le_refl _) ?_); intro v5 w5 ho5 hb5 _; have HO5 := Lib.hid ho5; have HB5 := Lib.hid hb5; clear ho5 hb5))
        go_roundw
        case rel => exact ⟨I + 1, M ++ [c], by omega, by go_num, by simp; omega, HP, HO5, HB5⟩
        case measure => simp [intOf]; omega
    · have hcs : ¬ I < N ∨ (I < N ∧ ¬ M.length < 3) := by omega
      clear hgo CI
      rcases hcs with c1 | ⟨c1, c2⟩
      all_goals
        go_wp2
        go_ret
        exact ⟨M, ua, uc, rfl, HR.out, HM.out, HB.out⟩

/-- What the developers' calls answer. -/
def StandsB (r : Int × Bool) (w : World) (e : Ending) (w' : World) : Prop := e = .returned (.tuple #[.int .i64 r.1, .bool r.2]) ∧ Below w.heap.size w w'
def GetsL (r : List Int × Bool) (w : World) (e : Ending) (w' : World) : Prop :=
  ∃ v, e = .returned (.tuple #[v, .bool r.2]) ∧ w'.ownsRow w.heap.size 3 1 v r.1.length (flatX cellsI r.1) ∧ Below w.heap.size w w'
def GetsX (r : Int × List Int × Bool) (w : World) (e : Ending) (w' : World) : Prop :=
  ∃ v, e = .returned (.tuple #[.int .i64 r.1, v, .bool r.2.2]) ∧ w'.ownsRow w.heap.size 3 1 v r.2.1.length (flatX cellsI r.2.1) ∧ Below w.heap.size w w'
def leaveL (l : List Int) (c : Int) : List Int × Bool := (withoutL l [c], hasL l c)
def nextL : List Int → Int × List Int × Bool
  | [] => (0, [], false)
  | c :: l => (c, l, true)
end Cm
end Go.Proofs.Ytgpiaibklokhmaa
