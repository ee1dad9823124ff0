/- Contracts: padlocklaw6's Sessions: right ones, by numbers. -/
import Derived.Test.YtkhcnhfdcbellaaSesF
import Derived.Deep.RegionHeld3
import Derived.Deep.DrawnRows
set_option linter.unusedVariables false
set_option linter.unusedSimpArgs false
namespace Go.Proofs.Ytkhcnhfdcbellaa
open Go.RowKit
attribute [local go_sem ↓] Go.wp_at_zero Go.wp_at_succ
namespace Cm

/-- Clients that rise below i, numbers from 1 to 8, times below 256. -/
structure Rise (l : List SesV) (i : Nat) : Prop where
  up : l.Pairwise fun a b => a.client < b.client
  ok : ∀ s ∈ l, (0 ≤ s.client ∧ s.client < i) ∧ (1 ≤ s.num ∧ s.num ≤ 8) ∧ (0 ≤ s.ren ∧ s.ren ≤ 255)

theorem Rise.more {l : List SesV} {i : Nat} (h : Rise l i) : Rise l (i + 1) := ⟨h.up, fun s hs => by have := h.ok s hs; omega⟩
theorem Rise.push {l : List SesV} {i : Nat} (h : Rise l i) (n r : Int) (hn : 1 ≤ n ∧ n ≤ 8) (hr : 0 ≤ r ∧ r ≤ 255) : Rise (l ++ [⟨i, n, r⟩]) (i + 1) := by
  refine ⟨List.pairwise_append.2 ⟨h.up, List.pairwise_singleton _ _, fun a ha b hb => ?_⟩, fun s hs => ?_⟩
  · rw [List.mem_singleton] at hb
    subst hb
    exact (h.ok a ha).1.2
  · rcases List.mem_append.1 hs with q | q
    · have := h.ok s q; omega
    · rw [List.mem_singleton] at q
      subst q
      dsimp only
      omega

/-- The numbers of all made other than one another. -/
def apartN (i : Nat) : List SesV → List SesV
  | [] => []
  | s :: l => ⟨s.client, 10 * (i : Int) + s.num, s.ren⟩ :: apartN (i + 1) l

theorem apartN_length : ∀ (l : List SesV) (i : Nat), (apartN i l).length = l.length
  | [], _ => rfl
  | s :: l, i => by simp [apartN, apartN_length l (i + 1)]

theorem apartN_mem : ∀ (l : List SesV) (i : Nat) (x : SesV), x ∈ apartN i l → ∃ s ∈ l, ∃ j : Nat, i ≤ j ∧ j < i + l.length ∧ x = ⟨s.client, 10 * (j : Int) + s.num, s.ren⟩
  | [], _, x, h => by cases h
  | s :: l, i, x, h => by
    unfold apartN at h
    rcases List.mem_cons.1 h with rfl | h
    · exact ⟨s, List.mem_cons_self, i, Nat.le_refl _, by simp, rfl⟩
    · obtain ⟨y, hy, j, h1, h2, e⟩ := apartN_mem l (i + 1) x h
      exact ⟨y, List.mem_cons_of_mem _ hy, j, by omega, by simp; omega, e⟩

theorem apartN_rs : ∀ (l : List SesV) (i n : Nat), Rise l n → n ≤ 8 → i + l.length ≤ 5 → Rs (apartN i l)
  | [], _, _, _, _, _ => Rs.nil
  | s :: l, i, n, h, hn, hl => by
    have hu := List.pairwise_cons.1 h.up
    have hr : Rise l n := ⟨hu.2, fun x hx => h.ok x (List.mem_cons_of_mem _ hx)⟩
    have ih := apartN_rs l (i + 1) n hr hn (by simp at hl; omega)
    have hs := h.ok s List.mem_cons_self
    unfold apartN
    refine ⟨fun x hx => ?_, List.pairwise_cons.2 ⟨fun b hb => ?_, ih.up⟩, List.pairwise_cons.2 ⟨fun b hb => ?_, ih.num⟩⟩
    · rcases List.mem_cons.1 hx with rfl | hx
      · unfold oneS clientF highF
        simp
        simp at hl
        omega
      · exact ih.one x hx
    · obtain ⟨y, hy, j, _, _, rfl⟩ := apartN_mem l (i + 1) b hb
      exact hu.1 y hy
    · obtain ⟨y, hy, j, h1, _, rfl⟩ := apartN_mem l (i + 1) b hb
      have := (h.ok y (List.mem_cons_of_mem _ hy)).2.1
      dsimp only
      omega

/-- Sessions that are right, with times below 256, numbers below 100. -/
structure Fine (l : List SesV) : Prop where
  right : rightS l = true
  ok : ∀ s ∈ l, s.num < 100 ∧ 0 ≤ s.ren ∧ s.ren ≤ 255

theorem fine_of (l : List SesV) (n : Nat) (h : Rise l n) (hn : n ≤ 8) (h5 : l.length ≤ 5) : Fine (apartN 0 l) := by
  refine ⟨(rightS_iff _).2 ⟨by rw [apartN_length]; exact h5, apartN_rs l 0 n h hn (by omega)⟩, fun s hs => ?_⟩
  obtain ⟨y, hy, j, _, h2, rfl⟩ := apartN_mem l 0 s hs
  have := h.ok y hy
  dsimp only
  omega

/-- The first k have other numbers. -/
def numN (l : List SesV) (k : Nat) : List SesV := apartN 0 (l.take k) ++ l.drop k

theorem numN_zero (l : List SesV) : numN l 0 = l := by simp [numN, apartN]
theorem numN_all (l : List SesV) : numN l l.length = apartN 0 l := by simp [numN]
theorem numN_length (l : List SesV) (k : Nat) (h : k ≤ l.length) : (numN l k).length = l.length := by
  unfold numN
  rw [List.length_append, apartN_length, List.length_take, List.length_drop]
  omega

theorem apartN_append : ∀ (l m : List SesV) (i : Nat), apartN i (l ++ m) = apartN i l ++ apartN (i + l.length) m
  | [], m, i => by simp [apartN]
  | s :: l, m, i => by
    show (⟨s.client, 10 * (i : Int) + s.num, s.ren⟩ : SesV) :: apartN (i + 1) (l ++ m) = (⟨s.client, 10 * (i : Int) + s.num, s.ren⟩ : SesV) :: (apartN (i + 1) l ++ apartN (i + (l.length + 1)) m)
    rw [apartN_append l m (i + 1), show i + 1 + l.length = i + (l.length + 1) by omega]

theorem numN_get (l : List SesV) (k : Nat) (h : k < l.length) (h' : k < (numN l k).length) : (numN l k)[k] = l[k] := by
  unfold numN at h' ⊢
  have hk : (apartN 0 (l.take k)).length = k := by rw [apartN_length, List.length_take]; omega
  rw [List.getElem_append_right (by omega)]
  simp only [hk, Nat.sub_self, List.getElem_drop]
  rfl

theorem numN_succ (l : List SesV) (k : Nat) (h : k < l.length) : numN l (k + 1) = (numN l k).set k ⟨l[k].client, 10 * (k : Int) + l[k].num, l[k].ren⟩ := by
  unfold numN
  have hk : (apartN 0 (l.take k)).length = k := by rw [apartN_length, List.length_take]; omega
  have hk2 : (l.take k).length = k := by rw [List.length_take]; omega
  rw [List.take_succ_eq_append_getElem h, apartN_append, List.set_append_right _ _ (by omega), hk, Nat.sub_self, List.append_assoc, hk2, Nat.zero_add]
  congr 1
  have e := List.drop_eq_getElem_cons h
  rw [e]
  rfl

theorem ownS_num {w : World} {base g n cap : Nat} {M : List SesV} (h : w.ownsRow base 34 3 (.slice (some ⟨g, 0, none⟩) n cap) n (flatX cellsS M)) (k : Nat) (hk : k < M.length) (r : Int) :
    (w.setCell ⟨g, k * 3 + 1, none⟩ (.int .i64 r)).ownsRow base 34 3 (.slice (some ⟨g, 0, none⟩) n cap) n (flatX cellsS (M.set k ⟨M[k].client, r, M[k].ren⟩)) := by
  have h1 := (h.stored (k * 3 + 1) (.int .i64 r)).1
  rw [flatX_set cellsS_length 1 (.int .i64 r) (by omega) ⟨M[k].client, r, M[k].ren⟩ M k hk rfl] at h1
  exact h1

/-- Some fine sessions told, in new memory. -/
def MadeF (w : World) (e : Ending) (w' : World) : Prop :=
  ∃ l v, e = .returned v ∧ Fine l ∧ w'.ownsRow w.heap.size 34 3 v l.length (flatX cellsS l) ∧ Below w.heap.size w w'

theorem ses_num (I X r q : Nat) (hI : I ≤ 8) (hX : X < 256) (hr : (X : Int) % 3 = (r : Int)) (hr3 : r < 3) (hq : ((I : Int) + (r : Int) * 3) % 8 = (q : Int)) (hq8 : q < 8) : (IntKind.i64.wrap (1 + (IntKind.i64.wrap ((I : Int) + IntKind.i64.wrap (IntKind.i64.wrap ((X : Int).tmod 3) * 3))).tmod 8)) = 1 + (q : Int) := by
  have h0 : (X : Int).tmod 3 = (r : Int) := by rw [Int.tmod_eq_emod_of_nonneg (by omega)]; exact hr
  have w0 : IntKind.i64.wrap (r : Int) = (r : Int) := by rw [IntKind.wrap_i64]; omega
  have w1 : IntKind.i64.wrap ((r : Int) * 3) = (r : Int) * 3 := by rw [IntKind.wrap_i64]; omega
  have w2 : IntKind.i64.wrap ((I : Int) + (r : Int) * 3) = (I : Int) + (r : Int) * 3 := by rw [IntKind.wrap_i64]; omega
  have h1 : ((I : Int) + (r : Int) * 3).tmod 8 = (q : Int) := by rw [Int.tmod_eq_emod_of_nonneg (by omega)]; exact hq
  have w3 : IntKind.i64.wrap (1 + (q : Int)) = 1 + (q : Int) := by rw [IntKind.wrap_i64]; omega
  rw [h0, w0, w1, w2, h1, w3]

set_option maxHeartbeats 4000000 in
theorem Sessions_any (v : Value) (ns : List UInt8) (w : World) (h : Rd w v ns) : Calls Try.prog 23 #[v] w (MadeF w) := by
  have hlen := Rd.len_le h
  unfold maxLen at hlen
  obtain ⟨a, len, cap, rfl, hl, hc, hm, hn, hx⟩ := h.ex
  subst hl
  have HI : Hid (∀ i, i < ns.length → ∃ b o, a = some ⟨b, o, none⟩ ∧ ∀ w', Below w.heap.size w w' → w'.cell? ⟨b, o + i, none⟩ = some (.int .u8 ((ns.getD i 0).toNat : Int))) := Lib.hid fun i hi' => by
    match a, hn, hx with
    | none, hn, _ => have := (hn rfl).1; omega
    | some ⟨b, o, sp⟩, _, hx =>
      obtain ⟨hs, hi⟩ := hx _ rfl (by omega)
      simp only at hs hi
      subst hs
      exact ⟨b, o, rfl, fun w' hb => by rw [hb.cell (p := ⟨b, o + i, none⟩) (lt_of_cell (hi i hi'))]; exact hi i hi'⟩
  clear h hn hx
  obtain ⟨i0, hi, hz0, hz1, hz2⟩ := info_parts infoS
  generalize ns.length = N at *
  go_enter Try.func23, Try.ntmps23
  go_wp2
  go_loopw [3, 4] (fun m i wr => ∃ (I : Nat) (M : List SesV), I ≤ 8 ∧ i = .int .i64 (I : Int) ∧ M.length ≤ 5 ∧ Hid (Rise M I) ∧ Hid (wr.ownsRow w.heap.size 34 3 m M.length (flatX cellsS M)) ∧ Hid (Below w.heap.size w wr)) (fun _ i _ => 8 - (intOf i).toNat)
  case atStart => exact ⟨0, [], by omega, rfl, by simp, Lib.hid ⟨List.Pairwise.nil, fun s hs => by cases hs⟩, Lib.hid (World.ownsRow_nil _ _ _ _), Lib.hid (Below.refl _ _)⟩
  case round =>
    obtain ⟨I, M, hI8, rfl, hM5, HR, HO, HB⟩ := hrel
    obtain ⟨ua, uc, rfl⟩ := Rw.own_form HO.out
    obtain ⟨L, hL⟩ : ∃ L, M.length = L := ⟨_, rfl⟩
    have HLL := Lib.hid hL
    rw [hL] at hM5 HO ⊢
    clear hL
    by_cases hgo : I < N ∧ I < 8 ∧ L < 5
    · obtain ⟨g1, g2, g3⟩ := hgo
      obtain ⟨b, o, rfl, hcell⟩ := HI.out I g1
      have q0 := hcell wr HB.out
      have HC := Lib.hid hcell
      have tx : (ns.getD I 0).toNat < 256 := UInt8.toNat_lt _
      clear hcell
      generalize (ns.getD I 0).toNat = X at q0 tx HC
      have d1 : decide (I < N) = true := decide_eq_true g1
      have d2 : decide (I < 8) = true := decide_eq_true g2
      have d3 : decide (L < 5) = true := decide_eq_true g3
      obtain ⟨r, hr3, hr⟩ : ∃ r : Nat, (X : Int) % 3 = (r : Int) ∧ r < 3 := ⟨X % 3, (Int.natCast_emod X 3).symm, Nat.mod_lt _ (by omega)⟩
      by_cases h0 : r = 0
      · have d4 : decide (0 < r) = false := by simp; omega
        clear h0
        go_wp2
        go_roundw
        case rel => exact ⟨I + 1, M, by omega, by go_num, by rw [HLL.out]; omega, Lib.hid HR.out.more, by rw [HLL.out]; exact HO, HB⟩
        case measure => simp [intOf]; omega
      · have d4 : decide (0 < r) = true := by simp; omega
        obtain ⟨q, hq, hq8⟩ : ∃ q : Nat, ((I : Int) + (r : Int) * 3) % 8 = (q : Int) ∧ q < 8 := ⟨(I + r * 3) % 8, by omega, Nat.mod_lt _ (by omega)⟩
        have hnum : (IntKind.i64.wrap (1 + (IntKind.i64.wrap ((I : Int) + IntKind.i64.wrap (IntKind.i64.wrap ((X : Int).tmod 3) * 3))).tmod 8)) = 1 + (q : Int) := ses_num I X r q (by omega) tx hr3 hr hq hq8
        have HNUM := Lib.hid hnum
        clear hnum
        have hw4 : IntKind.i64.wrap (X : Int) = (X : Int) := by rw [IntKind.wrap_i64]; omega
        have e2 : (0 : Int) ≤ (I : Int) := by omega
        have e3 : (I : Int) < (N : Int) := by omega
        have HOM : Hid (wr.ownsRow w.heap.size 34 3 (.slice ua L uc) M.length (flatX cellsS M)) := Lib.hid (by rw [HLL.out]; exact HO.out)
        have HM1 : Hid (M.length + 1 ≤ maxLen ∧ (M.length + 1) * 24 ≤ 140737488355328) := Lib.hid (by rw [HLL.out]; unfold maxLen; omega)
        have HRP := Lib.hid (HR.out.push (IntKind.i64.wrap (1 + (IntKind.i64.wrap ((I : Int) + IntKind.i64.wrap (IntKind.i64.wrap ((X : Int).tmod 3) * 3))).tmod 8)) (X : Int) (by rw [HNUM.out]; omega) (by omega))
        go_upto_region 6 with fail
        go_region_held3 (fun w' => w'.cell? ⟨b, o + I, none⟩ = some (.int .u8 (X : Int)))
          (first | exact HC.out _ HB5.out | exact HC.out _ ((stepAlloc HB.out _).drew) | exact HC.out _ (HB.out.drew) | go_keep)
          (first
            | (refine step_append_one cellsS_length (by omega) (by rfl) _ _ _ (by rfl) 34 i0 _ 24 Try.underlying24 hi hz0 hz1 hz2 rfl #[.int .i64 (I : Int), .int .i64 (IntKind.i64.wrap (1 + (IntKind.i64.wrap ((I : Int) + IntKind.i64.wrap (IntKind.i64.wrap ((X : Int).tmod 3) * 3))).tmod 8)), .int .i64 (X : Int)] ⟨(I : Int), (IntKind.i64.wrap (1 + (IntKind.i64.wrap ((I : Int) + IntKind.i64.wrap (IntKind.i64.wrap ((X : Int).tmod 3) * 3))).tmod 8)), (X : Int)⟩ rfl (cellsS_one _) M w.heap.size w.heap.size w _ (by rfl) (by rfl) HOM.out HM1.out.1 HM1.out.2 HB.out.size HB.out (Nat.le_refl _) ?_; intro v5 w5 ho5 hb5 _; have HO5 := Lib.hid ho5; have HB5 := Lib.hid hb5; clear ho5 hb5))
        all_goals
          go_wp2
          go_roundw
          case rel => exact ⟨I + 1, M ++ [⟨(I : Int), _, (X : Int)⟩], by omega, by go_num, by rw [List.length_append, HLL.out]; simp; omega, HRP, HO5, HB5⟩
          case measure => simp [intOf]; omega
    · have hcs : ¬ I < N ∨ (I < N ∧ ¬ I < 8) ∨ (I < N ∧ I < 8 ∧ ¬ L < 5) := by omega
      clear hgo
      rcases hcs with c1 | ⟨c1, c2⟩ | ⟨c1, c2, c3⟩
      all_goals
        go_wp2
        go_loopw [5] (fun i wk => ∃ k : Nat, k ≤ L ∧ i = .int .i64 (k : Int) ∧ Hid (wk.ownsRow w.heap.size 34 3 (.slice ua L uc) L (flatX cellsS (numN M k))) ∧ Hid (Below w.heap.size w wk)) (fun i _ => L - (intOf i).toNat)
        case atStart => exact ⟨0, by omega, rfl, by rw [numN_zero]; exact HO, HB⟩
        case round =>
          obtain ⟨k, hk, rfl, HOK, HBK⟩ := hrel
          by_cases hlt : k < L
          · have hkl : k < M.length := by rw [HLL.out]; exact hlt
            have hrl : (numN M k).length = L := by rw [numN_length M k (by omega), HLL.out]
            obtain ⟨g, rfl, hgw⟩ := own_some HOK.out (by omega)
            obtain ⟨q0, q1, q2, qf⟩ := ownS_at HOK.out hrl k (by omega)
            have hgk := numN_get M k hkl (by omega)
            have HOR := Lib.hid (fun r => ownS_num HOK.out k (by omega) r)
            rw [hgk] at q0 q1 q2 HOR
            have hsu := numN_succ M k hkl
            have hok := HR.out.ok M[k] (List.getElem_mem _)
            clear hgk hrl
            generalize M[k] = s at q0 q1 q2 HOR hsu hok
            obtain ⟨gc, gn, gr⟩ := s
            dsimp only at q0 q1 q2 HOR hsu hok
            have hn18 := hok.2.1
            have H := Lib.hid hsu
            clear hsu hok
            have f1 : (0 : Int) ≤ (k : Int) := by omega
            have f2 : (k : Int) < (L : Int) := by omega
            have hw1 : IntKind.i64.wrap (10 * (k : Int)) = 10 * (k : Int) := by rw [IntKind.wrap_i64]; omega
            have hw2 : IntKind.i64.wrap (10 * (k : Int) + gn) = 10 * (k : Int) + gn := by rw [IntKind.wrap_i64]; omega
            have HS := Lib.hid (HOR.out (10 * (k : Int) + gn))
            clear HOR
            go_wp2
            go_roundw
            case rel => exact ⟨k + 1, by omega, by go_num, by rw [H.out]; exact HS, Lib.hid (HBK.out.setCell hgw _)⟩
            case measure => simp [intOf]; omega
          · obtain rfl : k = L := by omega
            have ho := HOK.out
            rw [← HLL.out, numN_all, HLL.out] at ho
            have HOK := Lib.hid ho
            clear ho
            go_wp2
            go_ret
            refine ⟨apartN 0 M, _, rfl, fine_of M I HR.out hI8 (by rw [HLL.out]; exact hM5), ?_, HBK.out⟩
            rw [apartN_length, HLL.out]
            exact HOK.out
end Cm
end Go.Proofs.Ytkhcnhfdcbellaa
