/- Contracts: package session's Right, Open. -/
import Derived.Test.YtkhcnhfdcbellaaSesZ
set_option linter.unusedVariables false
set_option linter.unusedSimpArgs false
namespace Go.Proofs.Ytkhcnhfdcbellaa
open Go.RowKit Go.Shelf
namespace Cm

theorem right_one {l : List SesV} (h : rightS l = true) : ∀ s ∈ l, oneS s = true := ((rightS_iff l).1 h).2.one

theorem wrong_one {l : List SesV} {j : Nat} {hj : j < l.length} (h : oneS l[j] = false) : rightS l = false := by
  cases q : rightS l
  · rfl
  · rw [right_one q l[j] (List.getElem_mem hj)] at h
    cases h

theorem wrong_num {l : List SesV} {j : Nat} {hj : j < l.length} (h : takenS l l[j].client l[j].num = true) : rightS l = false := by
  cases q : rightS l
  · rfl
  · obtain ⟨_, hr⟩ := (rightS_iff l).1 q
    unfold takenS at h
    rw [List.any_eq_true] at h
    obtain ⟨s, hs, hp⟩ := h
    obtain ⟨i, hi, rfl⟩ := List.mem_iff_getElem.1 hs
    rw [Bool.and_eq_true, decide_eq_true_eq] at hp
    have h2 : l[i].client ≠ l[j].client := by simpa using hp.2
    have hn := List.pairwise_iff_getElem.1 hr.num
    rcases Nat.lt_trichotomy i j with g | g | g
    · exact absurd hp.1 (hn i j hi hj g)
    · subst g; exact absurd rfl h2
    · exact absurd hp.1.symm (hn j i hj hi g)

theorem wrong_up {l : List SesV} {j : Nat} {hj : j + 1 < l.length} (h : l[j + 1].client ≤ (l[j]'(by omega)).client) : rightS l = false := by
  cases q : rightS l
  · rfl
  · obtain ⟨_, hr⟩ := (rightS_iff l).1 q
    have := List.pairwise_iff_getElem.1 hr.up j (j + 1) (by omega) hj (by omega)
    omega

theorem up_of (l : List SesV) (h : ∀ j (hj : j + 1 < l.length), (l[j]'(by omega)).client < l[j + 1].client) : l.Pairwise fun a b => a.client < b.client := by
  rw [List.pairwise_iff_getElem]
  intro i j hi hj hij
  obtain ⟨d, rfl⟩ : ∃ d, j = i + 1 + d := ⟨j - i - 1, by omega⟩
  clear hij
  induction d with
  | zero => exact h i hj
  | succ d ih =>
    have := ih (by omega)
    have h2 := h (i + 1 + d) (by omega)
    exact Int.lt_trans this h2

theorem right_of (l : List SesV) (h5 : l.length ≤ 5) (h1 : ∀ j (hj : j < l.length), oneS l[j] = true) (h2 : ∀ j (hj : j < l.length), takenS l l[j].client l[j].num = false) (h3 : ∀ j (hj : j + 1 < l.length), (l[j]'(by omega)).client < l[j + 1].client) : rightS l = true := by
  have hup := up_of l h3
  refine (rightS_iff l).2 ⟨h5, fun s hs => ?_, hup, ?_⟩
  · obtain ⟨i, hi, rfl⟩ := List.mem_iff_getElem.1 hs
    exact h1 i hi
  · rw [List.pairwise_iff_getElem]
    intro i j hi hj hij e
    have u := List.pairwise_iff_getElem.1 hup i j hi hj hij
    have t := (takenS_none _ _ _).1 (h2 j hj) l[i] (List.getElem_mem hi) e
    omega

set_option maxHeartbeats 4000000 in
theorem SesRight_any (v : Value) (l : List SesV) (w : World) (h : RdS w v l) : Calls Try.prog 18 #[v] w (SaysB (rightS l) w) := by
  have hm := h.len
  have HT := Lib.hid (fun c n w' (hb : Below w.heap.size w w') => numOf_any v l c n w' (h.later hb))
  obtain ⟨a, cap, rfl⟩ := h.form
  by_cases c6 : l.length ≤ 5
  case neg =>
    have e : rightS l = false := by unfold rightS; rw [decide_eq_false c6, Bool.false_and]
    rw [e]
    clear h HT e
    have d5 : decide (5 < (l.length : Int)) = true := by simp; omega
    generalize l.length = L at *
    go_enter Try.func18, Try.ntmps18
    go_wp2
    go_ret
    exact ⟨rfl, Below.refl _ _⟩
  have d5 : decide (5 < (l.length : Int)) = false := by simp; omega
  have HA := Lib.hid (fun i hi => rds_at h i hi)
  have W1 := Lib.hid (fun j hj => wrong_one (l := l) (j := j) (hj := hj))
  have W2 := Lib.hid (fun j hj => wrong_num (l := l) (j := j) (hj := hj))
  have W3 := Lib.hid (fun j hj => wrong_up (l := l) (j := j) (hj := hj))
  have HR := Lib.hid (right_of l c6)
  clear h
  obtain ⟨L, hL⟩ : ∃ L, l.length = L := ⟨_, rfl⟩
  have HLL := Lib.hid hL
  rw [hL] at hm c6 d5 HT ⊢
  clear hL
  go_enter Try.func18, Try.ntmps18
  go_wp2
  go_loopw [10] (fun i wr => ∃ j : Nat, j ≤ L ∧ i = .int .i64 j ∧ Hid (Below w.heap.size w wr) ∧ Hid (∀ q (hq : q < l.length), q < j → oneS l[q] = true ∧ takenS l l[q].client l[q].num = false ∧ ∀ p (hp : p + 1 = q), (l[p]'(by omega)).client < l[q].client)) (fun i _ => L - (intOf i).toNat)
  case atStart => exact ⟨0, by omega, rfl, Lib.hid (Below.refl _ _), Lib.hid (fun q hq h => absurd h (Nat.not_lt_zero _))⟩
  case round =>
    obtain ⟨j, hj, rfl, HB, HG⟩ := hrel
    by_cases hlt : j < L
    · have hjl : j < l.length := by rw [HLL.out]; exact hlt
      have HJ := Lib.hid hjl
      clear hjl
      obtain ⟨b, o, rfl, hc⟩ := HA.out j HJ.out
      obtain ⟨q0, q1, q2⟩ := hc _ HB.out
      have HC : Hid (∀ i (hi : i < l.length) (w' : World), Below w.heap.size w w' → w'.cell? ⟨b, o + i * 3, none⟩ = some (.int .i64 l[i].client)) := fun i hi w' hb => by
        obtain ⟨b', o', e, hc'⟩ := HA.out i hi
        cases e
        exact (hc' w' hb).1
      clear hc
      have K1 := Lib.hid (W1.out j HJ.out)
      have K2 := Lib.hid (W2.out j HJ.out)
      have HN : Hid (oneS (l[j]'HJ.out) = true → takenS l (l[j]'HJ.out).client (l[j]'HJ.out).num = false → (∀ p (hp : p + 1 = j) (hpl : p < l.length), l[p].client < (l[j]'HJ.out).client) → ∀ q (hq : q < l.length), q < j + 1 → oneS l[q] = true ∧ takenS l l[q].client l[q].num = false ∧ ∀ p (hp : p + 1 = q), (l[p]'(by omega)).client < l[q].client) := Lib.hid (fun a1 a2 a3 q hq hqj => by
        by_cases e : q = j
        · subst e; exact ⟨a1, a2, fun p hp => a3 p hp (by omega)⟩
        · exact HG.out q hq (by omega))
      have K3 : Hid (∀ p (hp : p + 1 = j) (hpl : p < l.length), (l[j]'HJ.out).client ≤ l[p].client → rightS l = false) := Lib.hid (fun p hp _ hle => by
        subst hp
        exact W3.out p HJ.out hle)
      clear W1 W2 W3
      generalize l[j]'HJ.out = g at q0 q1 q2 K1 K2 K3 HN
      obtain ⟨gc, gn, gr⟩ := g
      dsimp only at q0 q1 q2 K2 K3 HN
      have HB1 := Lib.hid (stepAlloc HB.out (.cells #[.int .i64 gc, .int .i64 gn, .int .i64 gr] 34))
      obtain ⟨y0, y1, y2⟩ := box3 (Below.refl _ (wr.alloc (.cells #[.int .i64 gc, .int .i64 gn, .int .i64 gr] 34)))
      have CR : Hid (∀ w, Calls Try.prog 25 #[.agg #[.int .i64 gc, .int .i64 gn, .int .i64 gr]] w (SaysB (oneS ⟨gc, gn, gr⟩) w)) := fun w => isRight_any ⟨gc, gn, gr⟩ w
      cases n1 : oneS ⟨gc, gn, gr⟩
      case false =>
        have HE := Lib.hid (K1.out n1)
        rw [n1] at CR
        clear n1 HN K1 K2 K3
        go_wp2_with (go_at_call 25; refine (CR.out _).mono ?_; rintro e w2 ⟨rfl, hb2⟩)
        go_ret
        exact ⟨by rw [HE.out]; rfl, step HB1.out hb2⟩
      rw [n1] at CR
      cases n2 : takenS l gc gn
      case true =>
        have HE := Lib.hid (K2.out n2)
        have HT2 := Lib.hid (HT.out gc gn)
        rw [n2] at HT2
        clear n1 n2 HN K1 K2 K3
        go_wp2_with (first
          | (go_at_call 25; refine (CR.out _).mono ?_; rintro e w2 ⟨rfl, hb2⟩; have z0 := (hb2.cell (lt_of_cell y0)).trans y0; have z1 := (hb2.cell (lt_of_cell y1)).trans y1; have HB2 := Lib.hid (step HB1.out hb2))
          | (go_at_call 26; refine (HT2.out _ HB2.out).mono ?_; rintro e w3 ⟨rfl, hb3⟩))
        go_ret
        exact ⟨by rw [HE.out]; rfl, step HB2.out hb3⟩
      have HT2 := Lib.hid (HT.out gc gn)
      rw [n2] at HT2
      have HN2 := Lib.hid (HN.out n1 n2)
      clear n1 n2 HN K1 K2
      match j, hj, hlt, q0, q1, q2, K3, HN2, HJ with
      | 0, hj, hlt, q0, q1, q2, K3, HN2, HJ =>
        have HN3 := Lib.hid (HN2.out (fun p hp _ => by omega))
        clear HN2 K3
        simp only [Nat.zero_mul, Nat.add_zero] at q0 q1 q2
        go_upto_region 8 with (first
          | (go_at_call 25; refine (CR.out _).mono ?_; rintro e w2 ⟨rfl, hb2⟩; have z0 := (hb2.cell (lt_of_cell y0)).trans y0; have z1 := (hb2.cell (lt_of_cell y1)).trans y1; have HB2 := Lib.hid (step HB1.out hb2))
          | (go_at_call 26; refine (HT2.out _ HB2.out).mono ?_; rintro e w3 ⟨rfl, hb3⟩))
        have x0 := (hb3.cell (lt_of_cell z0)).trans z0
        have HB3 := Lib.hid (step HB2.out hb3)
        clear hb3 hb2 z0 z1 y0 y1 y2 q0 q1 q2 CR HT2 HT
        go_region
        go_wp2
        go_roundw
        case rel => exact ⟨1, by omega, by go_num, Lib.hid HB3.out.drew, HN3⟩
        case measure => simp [intOf]; omega
      | p + 1, hj, hlt, q0, q1, q2, K3, HN2, HJ =>
        have hpl : p < l.length := by have := HJ.out; omega
        have K4 := Lib.hid (K3.out p rfl hpl)
        have HC2 := Lib.hid (HC.out p hpl)
        have HN3 : Hid ((l[p]'hpl).client < gc → _) := Lib.hid (fun q => HN2.out (fun r hr _ => by cases hr; exact q))
        clear HN2 K3 HC
        generalize (l[p]'hpl).client = pc at K4 HC2 HN3
        have g1 : IntKind.i64.wrap (((p + 1 : Nat) : Int) - 1) = (p : Int) := by rw [IntKind.wrap_i64]; omega
        have g2 : (0 : Int) ≤ (p : Int) := by omega
        have g3 : (p : Int) < (L : Int) := by omega
        have g4 : (0 : Int) < ((p + 1 : Nat) : Int) := by omega
        by_cases e1 : gc ≤ pc
        · have d1 : decide (gc ≤ pc) = true := decide_eq_true e1
          have HE := Lib.hid (K4.out e1)
          clear e1 K4 HN3
          go_upto_region 8 with (first
            | (go_at_call 25; refine (CR.out _).mono ?_; rintro e w2 ⟨rfl, hb2⟩; have z0 := (hb2.cell (lt_of_cell y0)).trans y0; have z1 := (hb2.cell (lt_of_cell y1)).trans y1; have HB2 := Lib.hid (step HB1.out hb2))
            | (go_at_call 26; refine (HT2.out _ HB2.out).mono ?_; rintro e w3 ⟨rfl, hb3⟩))
          have x0 := (hb3.cell (lt_of_cell z0)).trans z0
          have HB3 := Lib.hid (step HB2.out hb3)
          have x1 := HC2.out _ HB3.out
          clear hb3 hb2 z0 z1 y0 y1 y2 q0 q1 q2 CR HT2 HT HC2
          go_region
          go_wp2
          go_ret
          exact ⟨by rw [HE.out]; rfl, HB3.out.drew⟩
        · have d1 : decide (gc ≤ pc) = false := decide_eq_false e1
          have HN4 := Lib.hid (HN3.out (by omega))
          clear e1 K4 HN3
          go_upto_region 8 with (first
            | (go_at_call 25; refine (CR.out _).mono ?_; rintro e w2 ⟨rfl, hb2⟩; have z0 := (hb2.cell (lt_of_cell y0)).trans y0; have z1 := (hb2.cell (lt_of_cell y1)).trans y1; have HB2 := Lib.hid (step HB1.out hb2))
            | (go_at_call 26; refine (HT2.out _ HB2.out).mono ?_; rintro e w3 ⟨rfl, hb3⟩))
          have x0 := (hb3.cell (lt_of_cell z0)).trans z0
          have HB3 := Lib.hid (step HB2.out hb3)
          have x1 := HC2.out _ HB3.out
          clear hb3 hb2 z0 z1 y0 y1 y2 q0 q1 q2 CR HT2 HT HC2
          go_region
          go_wp2
          go_roundw
          case rel => exact ⟨p + 2, by omega, by go_num, Lib.hid HB3.out.drew, HN4⟩
          case measure => simp [intOf]; omega
    · obtain rfl : j = L := by omega
      have hr := HR.out (fun q hq => (HG.out q hq (by rw [← HLL.out]; exact hq)).1) (fun q hq => (HG.out q hq (by rw [← HLL.out]; exact hq)).2.1) (fun q hq => (HG.out (q + 1) hq (by rw [← HLL.out]; exact hq)).2.2 q rfl)
      have HE := Lib.hid hr
      clear hr W1 W2 W3
      go_wp2
      go_ret
      exact ⟨by rw [HE.out]; rfl, HB.out⟩
end Cm
end Go.Proofs.Ytkhcnhfdcbellaa
