/- Contracts: padlocklaw5's Reply: its walk. -/
import Derived.Test.YtklnopgnlnfbnaaRepI
import Derived.Deep.RegionLaw
import Derived.Deep.DrawnRows
set_option linter.unusedVariables false
set_option linter.unusedSimpArgs false
namespace Go.Proofs.Ytklnopgnlnfbnaa
open Go.RowKit
attribute [local go_sem ↓] Go.wp_at_zero Go.wp_at_succ
namespace Cm

theorem wrap_one (X : Nat) (h : X < 256) : IntKind.i64.wrap (1 + IntKind.i64.wrap (X : Int)) = 1 + (X : Int) := by
  have a : IntKind.i64.wrap (X : Int) = (X : Int) := by rw [IntKind.wrap_i64]; omega
  rw [a, IntKind.wrap_i64]
  omega

theorem wrap_sub3 (I j : Nat) (h : I = 3 + j) (h2 : j ≤ 5) : IntKind.i64.wrap ((I : Int) - 3) = (j : Int) := by
  subst h
  rw [IntKind.wrap_i64]
  omega

set_option maxHeartbeats 8000000 in
theorem Reply_any (v : Value) (ns : List UInt8) (w : World) (h : Rd w v ns) :
    Calls Try.prog 26 #[v] w (MadeP w) := by
  have hlen := Rd.len_le h
  unfold maxLen at hlen
  obtain ⟨a, len, cap, rfl, hl, hc, hm, hn, hx⟩ := h.ex
  subst hl
  by_cases h2 : 2 < ns.length
  · have d1 : decide (2 < (ns.length : Int)) = true := by simp; omega
    match a, hx, h with
    | none, _, _ => have := (hn rfl).1; omega
    | some ⟨b, o, sp⟩, hx, h =>
      obtain ⟨hs, hi⟩ := hx _ rfl (by omega)
      simp only at hs hi
      subst hs
      have HI : Hid (∀ i, i < ns.length → ∀ w', Below w.heap.size w w' → w'.cell? ⟨b, o + i, none⟩ = some (.int .u8 ((ns.getD i 0).toNat : Int))) := fun i hi' w' hb => by
        rw [hb.cell (p := ⟨b, o + i, none⟩) (lt_of_cell (hi i hi'))]
        exact hi i hi'
      have hblt : b < w.heap.size := lt_of_cell (hi 0 (by omega))
      clear hi hx h hn
      have HB := Lib.hid (stepAlloc (newAlloc w repZero) repZero)
      unfold repZero at HB
      have HB1 : ∀ x y, Below w.heap.size w ((w.alloc (.cells #[.int .i64 0, .int .i64 0, .int .i64 0, .slice none 0 0] 25)).alloc (.cells #[.int .i64 x, .int .i64 y, .int .i64 0, .slice none 0 0] 25)) := fun x y => stepAlloc (newAlloc w _) _
      have q0 := HI.out 0 (by omega) _ HB.out
      have q1 := HI.out 1 (by omega) _ (HB1 (((ns.getD 0 0).toNat : Int) % 13) 0)
      have q2 := HI.out 2 (by omega) _ (HB1 (((ns.getD 0 0).toNat : Int) % 13) (((ns.getD 1 0).toNat : Int) % 5))
      rw [Nat.add_zero] at q0
      have t0 := UInt8.toNat_lt (ns.getD 0 0)
      have t1 := UInt8.toNat_lt (ns.getD 1 0)
      have t2 := UInt8.toNat_lt (ns.getD 2 0)
      clear HB1
      generalize (ns.getD 0 0).toNat = n0 at *
      generalize (ns.getD 1 0).toNat = n1 at *
      generalize (ns.getD 2 0).toNat = n2 at *
      go_enter Try.func26, Try.ntmps26
      have HG : Hid (GW w ((n0 : Int) % 13) ((n1 : Int) % 5) ((n2 : Int) % 4) (.slice none 0 0) [] (((w.alloc (.cells #[.int .i64 0, .int .i64 0, .int .i64 0, .slice none 0 0] 25)).alloc (.cells #[.int .i64 ((n0 : Int) % 13), .int .i64 ((n1 : Int) % 5), .int .i64 ((n2 : Int) % 4), .slice none 0 0] 25)).alloc (.cells #[.string ⟨#[97]⟩, .string ⟨#[98]⟩, .string ⟨#[107, 101, 121, 45, 49]⟩, .string ⟨#[108, 111, 99, 107]⟩, .string ⟨#[120]⟩] 9))) := Lib.hid (GW.start w ((n0 : Int) % 13) ((n1 : Int) % 5) ((n2 : Int) % 4))
      have k1 : 0 ≤ (n0 : Int) % 13 ∧ (n0 : Int) % 13 ≤ 12 := by omega
      have k2 : 0 ≤ (n1 : Int) % 5 ∧ (n1 : Int) % 5 ≤ 4 := by omega
      have k3 : 0 ≤ (n2 : Int) % 4 ∧ (n2 : Int) % 4 ≤ 3 := by omega
      go_upto_region 7 with fail
      generalize ((w.alloc (.cells #[.int .i64 0, .int .i64 0, .int .i64 0, .slice none 0 0] 25)).alloc (.cells #[.int .i64 ((n0 : Int) % 13), .int .i64 ((n1 : Int) % 5), .int .i64 ((n2 : Int) % 4), .slice none 0 0] 25)).alloc (.cells #[.string ⟨#[97]⟩, .string ⟨#[98]⟩, .string ⟨#[107, 101, 121, 45, 49]⟩, .string ⟨#[108, 111, 99, 107]⟩, .string ⟨#[120]⟩] 9) = W at HG ⊢
      generalize (n0 : Int) % 13 = K at *
      generalize (n1 : Int) % 5 = S at *
      generalize (n2 : Int) % 4 = D at *
      clear q0 q1 q2 HB t0 t1 t2
      go_wp2_with fail
      go_loopw [5] (fun i wr => ∃ (j I : Nat) (u : Value) (G : List GrantV), j ≤ 5 ∧ i = .int .i64 (I : Int) ∧ Hid (I = 3 + j) ∧ G.length ≤ 4 ∧ (0 < S ∨ G.length = 0) ∧ Hid (GW w K S D u G wr) ∧ Hid (Ris G j)) (fun i _ => 8 - (intOf i).toNat)
      case atStart => exact ⟨0, 3, .slice none 0 0, [], by omega, rfl, Lib.hid rfl, by simp, .inr rfl, HG, Lib.hid ⟨rfl, fun g hg => by cases hg⟩⟩
      case round =>
        obtain ⟨j, I, u, G, hj, rfl, hI, hG4, hGS, HGW, HRI⟩ := hrel
        have hI' := hI.out
        obtain ⟨ua, uc, rfl⟩ := Rw.own_form HGW.out.own
        obtain ⟨x0, x1, x2, x3, fb⟩ := box_cells HGW.out.box
        obtain ⟨z0, z1, z2, z3, zf⟩ := HGW.out.zc
        have HGL : Hid (∃ L, G.length = L) := ⟨_, rfl⟩
        obtain ⟨L, hL⟩ := HGL.out
        have HLL := Lib.hid hL
        rw [hL] at hG4 hGS x3
        have HMAY : Hid (mayP ⟨K, S, D, G⟩ = true) := by
          unfold mayP highF
          dsimp only
          rw [HRI.out.ok, decide_eq_true k1.1, decide_eq_true k1.2, decide_eq_true k2.1, decide_eq_true (show S ≤ 2305843009213693952 by omega), decide_eq_true k3.1, decide_eq_true k3.2, decide_eq_true (show G.length ≤ 4 by omega)]
          rcases hGS with q | q
          · rw [decide_eq_false (show ¬ S = 0 by omega)]
            rfl
          · rw [hL, q, decide_eq_false (show ¬ 0 < 0 by omega), Bool.and_false]
            rfl
        rcases (by omega : ¬ I < ns.length ∨ (I < ns.length ∧ ¬ I < 8) ∨ (I < ns.length ∧ I < 8 ∧ ¬ 0 < S) ∨ (I < ns.length ∧ I < 8 ∧ 0 < S ∧ ¬ L < 4) ∨ (I < ns.length ∧ I < 8 ∧ 0 < S ∧ L < 4)) with c | ⟨c1, c2⟩ | ⟨c1, c2, c3⟩ | ⟨c1, c2, c3, c4⟩ | ⟨c1, c2, c3, c4⟩
        · have d2 : decide (I < ns.length) = false := decide_eq_false c
          clear hI' HRI HI hGS hL
          go_wp2
          have q := HGW.out.fin (.int .i64 K) (.int .i64 S) (.int .i64 D) (.slice ua L uc)
          rw [HLL.out] at q
          refine bodyPost_ret (by simp [results, Try.results26, go_sem, z0, z1, z2, z3] <;> rfl) rfl ⟨⟨K, S, D, G⟩, _, rfl, HMAY.out, ?_, set4 HGW.out.below _ _ _ _⟩
          show World.ownsRow _ _ _ _ _ G.length _
          rw [HLL.out]
          exact q
        · have d2 : decide (I < ns.length) = true := decide_eq_true c1
          have d3 : decide (I < 8) = false := decide_eq_false c2
          clear hI' HRI HI hGS hL
          go_wp2
          have q := HGW.out.fin (.int .i64 K) (.int .i64 S) (.int .i64 D) (.slice ua L uc)
          rw [HLL.out] at q
          refine bodyPost_ret (by simp [results, Try.results26, go_sem, z0, z1, z2, z3] <;> rfl) rfl ⟨⟨K, S, D, G⟩, _, rfl, HMAY.out, ?_, set4 HGW.out.below _ _ _ _⟩
          show World.ownsRow _ _ _ _ _ G.length _
          rw [HLL.out]
          exact q
        · have d2 : decide (I < ns.length) = true := decide_eq_true c1
          have d3 : decide (I < 8) = true := decide_eq_true c2
          have d4 : decide (0 < S) = false := decide_eq_false c3
          clear hI' HRI HI hGS hL
          go_wp2
          have q := HGW.out.fin (.int .i64 K) (.int .i64 S) (.int .i64 D) (.slice ua L uc)
          rw [HLL.out] at q
          refine bodyPost_ret (by simp [results, Try.results26, go_sem, z0, z1, z2, z3] <;> rfl) rfl ⟨⟨K, S, D, G⟩, _, rfl, HMAY.out, ?_, set4 HGW.out.below _ _ _ _⟩
          show World.ownsRow _ _ _ _ _ G.length _
          rw [HLL.out]
          exact q
        · have d2 : decide (I < ns.length) = true := decide_eq_true c1
          have d3 : decide (I < 8) = true := decide_eq_true c2
          have d4 : decide (0 < S) = true := decide_eq_true c3
          have d5 : decide (L < 4) = false := decide_eq_false c4
          clear hI' HRI HI hGS hL
          go_wp2
          have q := HGW.out.fin (.int .i64 K) (.int .i64 S) (.int .i64 D) (.slice ua L uc)
          rw [HLL.out] at q
          refine bodyPost_ret (by simp [results, Try.results26, go_sem, z0, z1, z2, z3] <;> rfl) rfl ⟨⟨K, S, D, G⟩, _, rfl, HMAY.out, ?_, set4 HGW.out.below _ _ _ _⟩
          show World.ownsRow _ _ _ _ _ G.length _
          rw [HLL.out]
          exact q
        · have d2 : decide (I < ns.length) = true := decide_eq_true c1
          have d3 : decide (I < 8) = true := decide_eq_true c2
          have d4 : decide (0 < S) = true := decide_eq_true c3
          have d5 : decide (L < 4) = true := decide_eq_true c4
          have hj5 : j < 5 := by omega
          have q0 := HI.out I c1 wr HGW.out.below
          have tx := UInt8.toNat_lt (ns.getD I 0)
          have hIall := Lib.hid (HI.out I c1)
          generalize (ns.getD I 0).toNat = X at q0 tx hIall
          clear hL hGS
          by_cases hodd : X % 2 = 1
          · have d6 : ((X : Int) % 2 == 1) = true := by simp; omega
            have e1 : IntKind.i64.wrap ((I : Int) - 3) = (j : Int) := wrap_sub3 I j hI' hj
            have e2 : Hid (IntKind.i64.wrap (1 + IntKind.i64.wrap (X : Int)) = 1 + (X : Int)) := Lib.hid (wrap_one X tx)
            have e3 : (0 : Int) ≤ (j : Int) := by omega
            have e4 : (j : Int) < 5 := by omega
            have qn := HGW.out.name j hj5
            have HQ : Hid (∀ w', Below wr.heap.size wr w' → w'.cell? ⟨w.heap.size + 1, 3, none⟩ = some (.slice ua L uc) ∧ w'.frozen? ⟨w.heap.size + 1, 3, none⟩ = false ∧ w'.cell? ⟨w.heap.size + 1 + 1, j, none⟩ = some (.string (bstr (nameAt j))) ∧ w'.cell? ⟨b, o + I, none⟩ = some (.int .u8 (X : Int))) := fun w' hb => by
              have h1 := HGW.out.later hb
              obtain ⟨-, -, -, y3, yf⟩ := box_cells h1.box
              rw [HLL.out] at y3
              exact ⟨y3, yf _, h1.name j hj5, (hb.cell (lt_of_cell q0)).trans q0⟩
            have HGR := HGW
            rw [HLL.out] at HGR
            obtain ⟨i0, hi, hz0, hz1, hz2⟩ := info_parts info49
            have HG1 := HGW.out.later ((newAlloc wr (.cells #[.string (bstr (nameAt j)), .int .i64 (IntKind.i64.wrap (1 + IntKind.i64.wrap (X : Int)))] 49)).drew)
            have HOW : Hid ((wr.alloc (.cells #[.string (bstr (nameAt j)), .int .i64 (IntKind.i64.wrap (1 + IntKind.i64.wrap (X : Int)))] 49)).drew.ownsRow (w.heap.size + 1 + 1 + 1) 49 2 (.slice ua L uc) L (gCells G)) := by
              have q := HG1.own
              rw [HLL.out] at q
              exact q
            have HG1R := HG1
            have HSZ : Hid (w.heap.size + 1 + 1 + 1 ≤ (wr.alloc (.cells #[.string (bstr (nameAt j)), .int .i64 (IntKind.i64.wrap (1 + IntKind.i64.wrap (X : Int)))] 49)).drew.heap.size) := get_lt HG1.names
            have HNEWS : Hid (∀ j_1 u, [Value.string (bstr (nameAt j)), .int .i64 (IntKind.i64.wrap (1 + IntKind.i64.wrap (X : Int)))][j_1]? = some u → (wr.alloc (.cells #[.string (bstr (nameAt j)), .int .i64 (IntKind.i64.wrap (1 + IntKind.i64.wrap (X : Int)))] 49)).drew.cell? ((⟨wr.heap.size, 0, none⟩ : Addr).add j_1) = some u) :=
              World.news_of_block (w := (wr.alloc (.cells #[.string (bstr (nameAt j)), .int .i64 (IntKind.i64.wrap (1 + IntKind.i64.wrap (X : Int)))] 49)).drew) (cs := #[.string (bstr (nameAt j)), .int .i64 (IntKind.i64.wrap (1 + IntKind.i64.wrap (X : Int)))]) (t := 49) (fr := (0, 0)) (by show (wr.heap.push _)[wr.heap.size]? = _; simp)
            have HQ5 : Hid (∀ w5, (wr.alloc (.cells #[.string (bstr (nameAt j)), .int .i64 (IntKind.i64.wrap (1 + IntKind.i64.wrap (X : Int)))] 49)).drew.grownBy w5 (Value.slice ua L uc).ownBlock → w5.cell? ⟨w.heap.size + 1, 3, none⟩ = some (.slice ua L uc) ∧ w5.frozen? ⟨w.heap.size + 1, 3, none⟩ = false ∧ w5.cell? ⟨w.heap.size + 1 + 1, j, none⟩ = some (.string (bstr (nameAt j))) ∧ w5.cell? ⟨b, o + I, none⟩ = some (.int .u8 (X : Int))) := fun w5 hg => by
              rw [← HLL.out] at hg ⊢
              obtain ⟨g1, g2, g3, g4⟩ := HG1.grown (v' := .slice none 0 0) (xs := []) (n := 0) hg
              obtain ⟨-, -, -, y3, yf⟩ := box_cells g3
              refine ⟨y3, yf _, ?_, hIall.out _ g1⟩
              rw [World.cell?_of_block (w := (wr.alloc (.cells #[.string (bstr (nameAt j)), .int .i64 (IntKind.i64.wrap (1 + IntKind.i64.wrap (X : Int)))] 49)).drew) (a := ⟨w.heap.size + 1 + 1, j, none⟩) (g4.trans HG1.names.symm)]
              exact HG1.name j hj5
            have hbx : b < w.heap.size := hblt
            have HS5 : Hid (∀ w5 v5, (wr.alloc (.cells #[.string (bstr (nameAt j)), .int .i64 (IntKind.i64.wrap (1 + IntKind.i64.wrap (X : Int)))] 49)).drew.grownBy w5 (Value.slice ua L uc).ownBlock → (w5.setCell ⟨w.heap.size + 1, 3, none⟩ v5).cell? ⟨w.heap.size + 1 + 1, j, none⟩ = some (.string (bstr (nameAt j))) ∧ (w5.setCell ⟨w.heap.size + 1, 3, none⟩ v5).cell? ⟨b, o + I, none⟩ = some (.int .u8 (X : Int))) := fun w5 v5 hg => by
              obtain ⟨-, -, p1, p2⟩ := HQ5.out w5 hg
              refine ⟨?_, ?_⟩
              · rw [World.cell?_of_block (w := w5) (a := ⟨w.heap.size + 1 + 1, j, none⟩) (Below.heap_setCell _ _ _ _ (by show w.heap.size + 1 + 1 ≠ w.heap.size + 1; omega))]
                exact p1
              · rw [World.cell?_of_block (w := w5) (a := ⟨b, o + I, none⟩) (Below.heap_setCell _ _ _ _ (by show b ≠ w.heap.size + 1; omega))]
                exact p2
            have hne : w.heap.size + 1 ≠ wr.heap.size := by have := get_lt HGW.out.box; omega
            have HPU := Lib.hid (fun (w5 : World) (a5 : Option Addr) (c5 : Nat) (ho : w5.ownsRow (w.heap.size + 1 + 1 + 1) 49 2 (.slice a5 (L + 1) c5) (L + 1) (gCells G ++ [Value.string (bstr (nameAt j)), .int .i64 (IntKind.i64.wrap (1 + IntKind.i64.wrap (X : Int)))])) (hg : (wr.alloc (.cells #[.string (bstr (nameAt j)), .int .i64 (IntKind.i64.wrap (1 + IntKind.i64.wrap (X : Int)))] 49)).drew.grownBy w5 (Value.slice ua L uc).ownBlock) => GW.push (g := ⟨nameAt j, 1 + (X : Int)⟩) (v' := .slice a5 (L + 1) c5) HG1 (by rw [← e2.out, HLL.out]; exact ho) (by rw [HLL.out]; exact hg))
            clear hI' HG1 HG1R
            go_upto_region 11 with fail
            have c1' : (I : Int) < (ns.length : Int) := by omega
            have HRP := Lib.hid (HRI.out.push hj5 X tx)
            have HS3 := Lib.hid c3
            have HL4 := Lib.hid c4
            have HI8 := Lib.hid c2
            have x3b := (HQ.out _ (newAlloc wr (.cells #[.string (bstr (nameAt j)), .int .i64 (IntKind.i64.wrap (1 + IntKind.i64.wrap (X : Int)))] 49))).1
            clear HS5 HQ HGR HMAY HRI HI hIall z0 z1 z2 z3 zf x0 x1 x2 fb k1 k2 k3 tx hbx hblt c2 c3 c4 hlen
            go_region_law ((refine step_append_own (by rfl) _ _ _ (by rfl) (w.heap.size + 1 + 1 + 1) 49 i0 _ 2 24 Try.underlying23 hi hz0 hz1 hz2 rfl (by omega) _ L _ (by rfl) HOW.out ⟨wr.heap.size, 0, none⟩ 1 1 [.string (bstr (nameAt j)), .int .i64 (IntKind.i64.wrap (1 + IntKind.i64.wrap (X : Int)))] (by rfl) rfl HNEWS.out (by simp [Value.oneCell']) (by unfold maxLen; omega) (by omega) HSZ.out ?_; intro v5 w5 hown5 hgrow5 _; obtain ⟨a5, c5, rfl⟩ := Rw.own_form hown5; obtain ⟨y3, yf, yn, yq⟩ := HQ5.out w5 hgrow5))
            all_goals
              have HG5 := HPU.out w5 _ _ hown5 hgrow5
              clear y3 yf yn yq hown5 hgrow5
              have hI8 := HI8.out
              have hL4 := HL4.out
              go_wp2
              exact ⟨⟨j + 1, I + 1, _, G ++ [⟨nameAt j, 1 + (X : Int)⟩], by omega, by go_num, Lib.hid (by rw [hI.out]; omega), by rw [List.length_append, HLL.out]; simp; omega, .inl HS3.out, Lib.hid HG5, HRP⟩, by simp [intOf]; omega⟩
          · have d6 : ((X : Int) % 2 == 1) = false := by simp; omega
            clear hI'
            go_wp2
            exact ⟨⟨j + 1, I + 1, _, G, by omega, by go_num, Lib.hid (by rw [hI.out]; omega), by rw [HLL.out]; omega, .inl c3, HGW, Lib.hid HRI.out.more⟩, by simp [intOf]; omega⟩
  · have d1 : decide (2 < (ns.length : Int)) = false := by simp; omega
    have d2 : decide (3 < (ns.length : Int)) = false := by simp; omega
    clear h hn hx
    go_enter Try.func26, Try.ntmps26
    have HG : Hid (GW w 0 0 0 (.slice none 0 0) [] (((w.alloc (.cells #[.int .i64 0, .int .i64 0, .int .i64 0, .slice none 0 0] 25)).alloc (.cells #[.int .i64 0, .int .i64 0, .int .i64 0, .slice none 0 0] 25)).alloc (.cells #[.string ⟨#[97]⟩, .string ⟨#[98]⟩, .string ⟨#[107, 101, 121, 45, 49]⟩, .string ⟨#[108, 111, 99, 107]⟩, .string ⟨#[120]⟩] 9))) := Lib.hid (GW.start w 0 0 0)
    go_upto_region 7 with fail
    generalize ((w.alloc (.cells #[.int .i64 0, .int .i64 0, .int .i64 0, .slice none 0 0] 25)).alloc (.cells #[.int .i64 0, .int .i64 0, .int .i64 0, .slice none 0 0] 25)).alloc (.cells #[.string ⟨#[97]⟩, .string ⟨#[98]⟩, .string ⟨#[107, 101, 121, 45, 49]⟩, .string ⟨#[108, 111, 99, 107]⟩, .string ⟨#[120]⟩] 9) = W at HG ⊢
    go_wp2_with fail
    go_loopw [5] (fun i wr => i = .int .i64 3 ∧ wr = W) (fun i _ => 0)
    case atStart => exact ⟨rfl, rfl⟩
    case round =>
      obtain ⟨rfl, rfl⟩ := hrel
      obtain ⟨x0, x1, x2, x3, fb⟩ := box_cells HG.out.box
      obtain ⟨z0, z1, z2, z3, zf⟩ := HG.out.zc
      go_wp2
      have q := HG.out.fin (.int .i64 0) (.int .i64 0) (.int .i64 0) (.slice none 0 0)
      refine bodyPost_ret (by simp [results, Try.results26, go_sem, z0, z1, z2, z3] <;> rfl) rfl ⟨⟨0, 0, 0, []⟩, _, rfl, by decide +kernel, q, set4 HG.out.below _ _ _ _⟩
end Cm
end Go.Proofs.Ytklnopgnlnfbnaa
