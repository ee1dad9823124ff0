/- Contracts: padlocklaw6's Sessions: right ones, by numbers. -/
import Derived.Test.YtgpiaibklokhmaaSesF
import Derived.Deep.RegionHeld3
import Derived.Deep.DrawnRows
set_option linter.unusedVariables false
set_option linter.unusedSimpArgs false
namespace Go.Proofs.Ytgpiaibklokhmaa
open Go.RowKit
attribute [local go_sem ↓] Go.wp_at_zero Go.wp_at_succ
namespace Cm

/-- Clients that rise below i, numbers from 1 to 8, times below 256. -/
structure Rise (l : List SesV) (i : Nat) : Prop where
  up : l.Pairwise fun a b => a.client < b.client
  ok : ∀ s ∈ l, (0 ≤ s.client ∧ s.client < i) ∧ (1 ≤ s.num ∧ s.num ≤ 8) ∧ (0 ≤ s.ren ∧ s.ren ≤ 255)

theorem Rise.more {l : List SesV} {i : Nat} (h : Rise l i) : Rise l (i + 1) := ⟨h.up, fun s hs => by have := h.ok s hs; omega⟩
theorem Rise.push {l : List SesV} {i : Nat} (h : Rise l i) (n r : Int) (hn : 1 ≤ n ∧ n ≤ 8) (hr : 0 ≤ r ∧ r ≤ 255) : Rise (l ++ [⟨i, n, r⟩]) (i + 1) := by
  refine ⟨List.pairwise_append.2 ⟨h.up, List.pairwise_singleton _ _, fun a ha b hb => ?_⟩, fun s hs => ?_⟩
  · rw [List.mem_singleton] at hb
    subst hb
    exact (h.ok a ha).1.2
  · rcases List.mem_append.1 hs with q | q
    · have := h.ok s q; omega
    · rw [List.mem_singleton] at q
      subst q
      dsimp only
      omega

/-- The numbers of all made other than one another. -/
def apartN (i : Nat) : List SesV → List SesV
  | [] => []
  | s :: l => ⟨s.client, 10 * (i : Int) + s.num, s.ren⟩ :: apartN (i + 1) l

theorem apartN_length : ∀ (l : List SesV) (i : Nat), (apartN i l).length = l.length
  | [], _ => rfl
  | s :: l, i => by simp [apartN, apartN_length l (i + 1)]

theorem apartN_mem : ∀ (l : List SesV) (i : Nat) (x : SesV), x ∈ apartN i l → ∃ s ∈ l, ∃ j : Nat, i ≤ j ∧ j < i + l.length ∧ x = ⟨s.client, 10 * (j : Int) + s.num, s.ren⟩
  | [], _, x, h => by cases h
  | s :: l, i, x, h => by
    unfold apartN at h
    rcases List.mem_cons.1 h with rfl | h
    · exact ⟨s, List.mem_cons_self, i, Nat.le_refl _, by simp, rfl⟩
    · obtain ⟨y, hy, j, h1, h2, e⟩ := apartN_mem l (i + 1) x h
      exact ⟨y, List.mem_cons_of_mem _ hy, j, by omega, by simp; omega, e⟩

theorem apartN_rs : ∀ (l : List SesV) (i n : Nat), Rise l n → n ≤ 8 → i + l.length ≤ 5 → Rs (apartN i l)
  | [], _, _, _, _, _ => Rs.nil
  | s :: l, i, n, h, hn, hl => by
    have hu := List.pairwise_cons.1 h.up
    have hr : Rise l n := ⟨hu.2, fun x hx => h.ok x (List.mem_cons_of_mem _ hx)⟩
    have ih := apartN_rs l (i + 1) n hr hn (by simp at hl; omega)
    have hs := h.ok s List.mem_cons_self
    unfold apartN
    refine ⟨fun x hx => ?_, List.pairwise_cons.2 ⟨fun b hb => ?_, ih.up⟩, List.pairwise_cons.2 ⟨fun b hb => ?_, ih.num⟩⟩
    · rcases List.mem_cons.1 hx with rfl | hx
      · unfold oneS clientF highF
        simp
        simp at hl
        omega
      · exact ih.one x hx
    · obtain ⟨y, hy, j, _, _, rfl⟩ := apartN_mem l (i + 1) b hb
      exact hu.1 y hy
    · obtain ⟨y, hy, j, h1, _, rfl⟩ := apartN_mem l (i + 1) b hb
      have := (h.ok y (List.mem_cons_of_mem _ hy)).2.1
      dsimp only
      omega

/-- Sessions that are right, with times below 256, numbers below 100. -/
structure Fine (l : List SesV) : Prop where
  right : rightS l = true
  ok : ∀ s ∈ l, s.num < 100 ∧ 0 ≤ s.ren ∧ s.ren ≤ 255

theorem fine_of (l : List SesV) (n : Nat) (h : Rise l n) (hn : n ≤ 8) (h5 : l.length ≤ 5) : Fine (apartN 0 l) := by
  refine ⟨(rightS_iff _).2 ⟨by rw [apartN_length]; exact h5, apartN_rs l 0 n h hn (by omega)⟩, fun s hs => ?_⟩
  obtain ⟨y, hy, j, _, h2, rfl⟩ := apartN_mem l 0 s hs
  have := h.ok y hy
  dsimp only
  omega

/-- The first k have other numbers. -/
def numN (l : List SesV) (k : Nat) : List SesV := apartN 0 (l.take k) ++ l.drop k

theorem numN_zero (l : List SesV) : numN l 0 = l := by simp [numN, apartN]
theorem numN_all (l : List SesV) : numN l l.length = apartN 0 l := by simp [numN]
theorem numN_length (l : List SesV) (k : Nat) (h : k ≤ l.length) : (numN l k).length = l.length := by
  unfold numN
  rw [List.length_append, apartN_length, List.length_take, List.length_drop]
  omega

theorem apartN_append : ∀ (l m : List SesV) (i : Nat), apartN i (l ++ m) = apartN i l ++ apartN (i + l.length) m
  | [], m, i => by simp [apartN]
  | s :: l, m, i => by
    show (⟨s.client, 10 * (i : Int) + s.num, s.ren⟩ : SesV) :: apartN (i + 1) (l ++ m) = (⟨s.client, 10 * (i : Int) + s.num, s.ren⟩ : SesV) :: (apartN (i + 1) l ++ apartN (i + (l.length + 1)) m)
    rw [apartN_append l m (i + 1), show i + 1 + l.length = i + (l.length + 1) by omega]

theorem numN_get (l : List SesV) (k : Nat) (h : k < l.length) (h' : k < (numN l k).length) : (numN l k)[k] = l[k] := by
  unfold numN at h' ⊢
  have hk : (apartN 0 (l.take k)).length = k := by rw [apartN_length, List.length_take]; omega
  rw [List.getElem_append_right (by omega)]
  simp only [hk, Nat.sub_self, List.getElem_drop]
  rfl

theorem numN_succ (l : List SesV) (k : Nat) (h : k < l.length) : numN l (k + 1) = (numN l k).set k ⟨l[k].client, 10 * (k : Int) + l[k].num, l[k].ren⟩ := by
  unfold numN
  have hk : (apartN 0 (l.take k)).length = k := by rw [apartN_length, List.length_take]; omega
  have hk2 : (l.take k).length = k := by rw [List.length_take]; omega
  rw [List.take_succ_eq_append_getElem h, apartN_append, List.set_append_right _ _ (by omega), hk, Nat.sub_self, List.append_assoc, hk2, Nat.zero_add]
  congr 1
  have e := List.drop_eq_getElem_cons h
  rw [e]
  rfl



theorem ses_num (I X r q : Nat) (hI : I ≤ 8) (hX : X < 256) (hr : (X : Int) % 3 = (r : Int)) (hr3 : r < 3) (hq : ((I : Int) + (r : Int) * 3) % 8 = (q : Int)) (hq8 : q < 8) : (IntKind.i64.wrap (1 + (IntKind.i64.wrap ((I : Int) + IntKind.i64.wrap (IntKind.i64.wrap ((X : Int).tmod 3) * 3))).tmod 8)) = 1 + (q : Int) := by
  have h0 : (X : Int).tmod 3 = (r : Int) := by rw [Int.tmod_eq_emod_of_nonneg (by omega)]; exact hr
  have w0 : IntKind.i64.wrap (r : Int) = (r : Int) := by rw [IntKind.wrap_i64]; omega
  have w1 : IntKind.i64.wrap ((r : Int) * 3) = (r : Int) * 3 := by rw [IntKind.wrap_i64]; omega
  have w2 : IntKind.i64.wrap ((I : Int) + (r : Int) * 3) = (I : Int) + (r : Int) * 3 := by rw [IntKind.wrap_i64]; omega
  have h1 : ((I : Int) + (r : Int) * 3).tmod 8 = (q : Int) := by rw [Int.tmod_eq_emod_of_nonneg (by omega)]; exact hq
  have w3 : IntKind.i64.wrap (1 + (q : Int)) = 1 + (q : Int) := by rw [IntKind.wrap_i64]; omega
  rw [h0, w0, w1, w2, h1, w3]


end Cm
end Go.Proofs.Ytgpiaibklokhmaa
