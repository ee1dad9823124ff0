/- Contracts: the document's PutReply. -/
import Derived.Test.YtklnopgnlnfbnaaRepC
set_option linter.unusedVariables false
set_option linter.unusedSimpArgs false
namespace Go.Proofs.Ytklnopgnlnfbnaa
open Go.RowKit
namespace Cm

theorem bytesH_take (l : List GrantV) (j : Nat) (h : j < l.length) : bytesH (l.take (j + 1)) = bytesH (l.take j) ++ bytesG l[j] := by
  rw [List.take_succ_eq_append_getElem h, bytesH_snoc]

theorem bytesH_le : ∀ (l : List GrantV), (∀ g ∈ l, g.name.length ≤ 12 ∧ 1 ≤ g.token ∧ g.token ≤ 2305843009213693952) → (bytesH l).length ≤ l.length * 21
  | [], _ => by simp [bytesH]
  | g :: l, h => by
    have := bytesH_le l (fun x hx => h x (List.mem_cons_of_mem _ hx))
    have hg := (h g List.mem_cons_self).1
    rw [bytesH_cons, List.length_append, bytesG_length, List.length_cons]
    omega

theorem two_cells (a b : Nat) (ha : a < 256) (hb : b < 256) : cellsOf [UInt8.ofNat a, UInt8.ofNat b] = [.int .u8 (a : Int), .int .u8 (b : Int)] := by simp [cellsOf]; omega

theorem rd2 (w : World) (a b : Nat) (ha : a < 256) (hb : b < 256) : Rd (w.alloc (.cells #[.int .u8 (a : Int), .int .u8 (b : Int)] 5)) (.slice (some ⟨w.heap.size, 0, none⟩) 2 2) [UInt8.ofNat a, UInt8.ofNat b] :=
  rd_lit w _ _ (two_cells a b ha hb).symm (by unfold maxLen; simp)

set_option maxHeartbeats 4000000 in
theorem PutReply_any (r : ReplyV) (v : Value) (w : World) (h : RdH w v r.held) :
    Calls Try.prog 11 #[repVal r v] w (Made (putP r) w) := by
  have C0 : Hid (∀ w', Below w.heap.size w w' → Calls Try.prog 15 #[repVal r v] w' (SaysB (mayP r) w')) := fun w' hb => MayReply_any r v w' (h.later hb)
  unfold putP
  cases hm : mayP r
  · have HM := Lib.hid hm
    clear hm h
    obtain ⟨k, s, d, l⟩ := r
    unfold repVal at C0 ⊢
    dsimp only at C0 ⊢
    go_enter Try.func11, Try.ntmps11
    go_wp2_with (go_at_call 15; refine (C0.out _ (newAlloc _ _)).mono ?_; rw [HM.out]; rintro e w1 ⟨rfl, hb1⟩)
    go_ret2
    exact ⟨_, rfl, World.ownsRow_nil _ _ _ _, step (newAlloc _ _) hb1⟩
  · obtain ⟨hk, hs, hd, hl4, hall⟩ := mayP_bounds r hm
    have HM := Lib.hid hm
    clear hm
    have HLE := Lib.hid (bytesH_le r.held hall)
    have HT := Lib.hid (bytesH_take r.held)
    obtain ⟨k, s, d, l⟩ := r
    unfold repVal at C0 ⊢
    dsimp only at C0 hk hs hd hl4 hall HM HLE HT h ⊢
    obtain ⟨K, rfl⟩ := Int.eq_ofNat_of_zero_le (show 0 ≤ k by omega)
    obtain ⟨S, rfl⟩ := Int.eq_ofNat_of_zero_le (show 0 ≤ s by omega)
    obtain ⟨D, rfl⟩ := Int.eq_ofNat_of_zero_le (show 0 ≤ d by omega)
    have hK : K < 256 := by omega
    have hKw : IntKind.u8.wrap (K : Int) = (K : Int) := by rw [IntKind.wrap_u8]; omega
    have hDw : IntKind.u8.wrap (D : Int) = (D : Int) := by rw [IntKind.wrap_u8]; omega
    obtain ⟨i0, hi, hz0, hz1, hz2⟩ := info_parts info8
    obtain ⟨a, cap, rfl, -⟩ := h.ex
    have HA := Lib.hid (fun i hi => h.at i hi)
    have HALL := Lib.hid hall
    clear hall h
    obtain ⟨L, hL⟩ : ∃ L, l.length = L := ⟨_, rfl⟩
    have hbl : bytesP ⟨(K : Int), (S : Int), (D : Int), l⟩ = (([UInt8.ofNat K] ++ be8 S) ++ [UInt8.ofNat D, UInt8.ofNat L]) ++ bytesH l := by rw [← hL]; simp [bytesP]
    have HBL := Lib.hid hbl
    clear hbl
    rw [hL] at C0 hl4 ⊢
    have hLw : IntKind.u8.wrap (L : Int) = (L : Int) := by rw [IntKind.wrap_u8]; omega
    go_enter Try.func11, Try.ntmps11
    go_wp2_with (go_at_call 15; refine (C0.out _ (newAlloc _ _)).mono ?_; rw [HM.out]; rintro e w1 ⟨rfl, hb1⟩; obtain ⟨c0, c1, c2, c3⟩ := box4 hb1)
    have hbs := hb1.size
    have hbs1 : w.heap.size ≤ w1.heap.size := by simp at hbs; omega
    have HB1 := Lib.hid hb1
    clear hb1
    go_region_held3 (fun w' => w'.cell? ⟨w.heap.size, 0, none⟩ = some (.int .i64 (K : Int)) ∧ w'.cell? ⟨w.heap.size, 1, none⟩ = some (.int .i64 (S : Int)) ∧ w'.cell? ⟨w.heap.size, 2, none⟩ = some (.int .i64 (D : Int)) ∧ w'.cell? ⟨w.heap.size, 3, none⟩ = some (.slice a L cap))
      (first | go_keep | exact box4 (step HB1.out HB2.out))
      (first
        | (go_at_call 32; refine (Ref1.Eight_ok S _).mono ?_; rintro e w2 ⟨rfl, rfl⟩)
        | (refine step_append_rd (by rfl) _ _ _ (by rfl) w1.heap.size 5 i0 Try.underlying26 hi hz0 hz1 hz2 _ 1 (cellsOf [UInt8.ofNat K]) (by rfl) (byte_eight w1 w1.heap.size K S hK (Nat.le_refl _)).1 _ (be8 S) (by rfl) (byte_eight w1 w1.heap.size K S hK (Nat.le_refl _)).2 (by simp [be8_length]) (by simp; omega) ?_; intro v2 w2 hown2 hgrow2; have HB2 := Lib.hid ((((Below.refl _ _).alloc (Nat.le_refl _) _).alloc (by simp) _).drew.grown hgrow2 (by simp; omega) (fun k hk => by simp [Value.ownBlock] at hk; omega)))
        | (refine step_append_rd (by rfl) _ _ _ (by rfl) w1.heap.size 5 i0 Try.underlying26 hi hz0 hz1 hz2 _ 1 (cellsOf [UInt8.ofNat K]) (by rfl) (eight_byte w1 w1.heap.size K S hK (Nat.le_refl _)).1 _ (be8 S) (by rfl) (eight_byte w1 w1.heap.size K S hK (Nat.le_refl _)).2 (by simp [be8_length]) (by simp; omega) ?_; intro v2 w2 hown2 hgrow2; have HB2 := Lib.hid ((((Below.refl _ _).alloc (Nat.le_refl _) _).alloc (by simp) _).drew.grown hgrow2 (by simp; omega) (fun k hk => by simp [Value.ownBlock] at hk; omega))))
    all_goals
      obtain ⟨c0, c1, c2, c3⟩ := box4 (step HB1.out HB2.out)
      have hz : w1.heap.size ≤ w2.heap.size := HB2.out.size
      rename_i hHeld
      clear hHeld hgrow2
      have e0 : cellsOf [UInt8.ofNat K] ++ cellsOf (be8 S) = cellsOf ([UInt8.ofNat K] ++ be8 S) := (cellsOf_append _ _).symm
      rw [e0] at hown2
      generalize hX : [UInt8.ofNat K] ++ be8 S = X at hown2 HBL
      have hN9 : 1 + (be8 S).length = 9 := by rw [be8_length]
      rw [hN9] at hown2
      have HXL : Hid (X.length = 9) := Lib.hid (by rw [← hX]; simp [be8_length])
      have HO := Lib.hid hown2
      clear hX hown2 hN9 e0 HM C0
      go_wp2_with (at_builtin; refine wpList_append_rd rfl _ _ 26 rfl w1.heap.size 5 i0 Try.underlying26 hi hz0 hz1 hz2 _ 9 (cellsOf X) rfl (HO.out.alloc _) _ [UInt8.ofNat D, UInt8.ofNat L] rfl (rd2 w2 D L (by omega) (by omega)) (by simp) (by simp; omega) ?_; intro v3 w3 hown3 hgrow3; have HB3 := Lib.hid ((HB2.out.alloc hz _).grown hgrow3 (by simp; omega) (fun k hk => (HO.out.lt k hk).1)))
      have HO3 : Hid (w3.ownsRow w1.heap.size 5 1 v3 (X ++ [UInt8.ofNat D, UInt8.ofNat L] ++ bytesH (l.take 0)).length (cellsOf (X ++ [UInt8.ofNat D, UInt8.ofNat L] ++ bytesH (l.take 0)))) := by
        rw [← cellsOf_append] at hown3
        have e : 9 + [UInt8.ofNat D, UInt8.ofNat L].length = (X ++ [UInt8.ofNat D, UInt8.ofNat L]).length := by rw [List.length_append, HXL.out]
        rw [e] at hown3
        rw [List.take_zero, bytesH_nil, List.append_nil]
        exact hown3
      clear hown3 hgrow3 c0 c1 c2 c3
      have HZL : Hid ((X ++ [UInt8.ofNat D, UInt8.ofNat L]).length = 11) := Lib.hid (by rw [List.length_append, HXL.out]; rfl)
      have HQ : Hid (∀ w', Below w1.heap.size w1 w' → w'.cell? ⟨w.heap.size, 3, none⟩ = some (.slice a L cap)) := fun w' hb => (box4 (step HB1.out hb)).2.2.2
      have HAB : Hid (∀ i (hi : i < l.length) w', Below w1.heap.size w1 w' → ∃ b o, a = some ⟨b, o, none⟩ ∧ w'.cell? ⟨b, o + i * 2, none⟩ = some (.string (bstr l[i].name)) ∧ w'.cell? ⟨b, o + i * 2 + 1, none⟩ = some (.int .i64 l[i].token)) := fun i hi w' hb => HA.out i hi w' (step (step (newAlloc _ _) HB1.out) hb)
      have HBW := Lib.hid (step (newAlloc w (.cells #[.int .i64 (K : Int), .int .i64 (S : Int), .int .i64 (D : Int), .slice a L cap] 25)) HB1.out)
      have HLEN : Hid (∀ j, j < L → (bytesH (l.take (j + 1))).length ≤ 84) := fun j hj => by
        have h1 := bytesH_le (l.take (j + 1)) (fun g hg => HALL.out g (List.mem_of_mem_take hg))
        have h2 : (l.take (j + 1)).length ≤ 4 := by rw [List.length_take]; omega
        omega
      generalize X ++ [UInt8.ofNat D, UInt8.ofNat L] = Z at HBL HO3 HZL
      clear HXL HO HB2 hz HA HB1 hKw hDw hLw hK hk hs hd hbs
      go_wp2_with fail
      go_loopw [4, 5] (fun s i wr => ∃ j : Nat, j ≤ L ∧ i = .int .i64 j ∧ Hid (wr.ownsRow w1.heap.size 5 1 s (Z ++ bytesH (l.take j)).length (cellsOf (Z ++ bytesH (l.take j)))) ∧ Hid (Below w1.heap.size w1 wr)) (fun _ i _ => L - (intOf i).toNat)
      case atStart => exact ⟨0, by omega, rfl, HO3, HB3⟩
      case round =>
        obtain ⟨j, hj, rfl, HO, HB⟩ := hrel
        have x3 := HQ.out _ HB.out
        by_cases hlt : j < L
        · obtain ⟨b, o, rfl, q1, q2⟩ := HAB.out j (by omega) _ HB.out
          have hT := HT.out j (by omega)
          have hlen := HLEN.out j hlt
          have HQ2 : Hid (∀ w', Below w1.heap.size w1 w' → w'.cell? ⟨w.heap.size, 3, none⟩ = some (.slice (some ⟨b, o, none⟩) L cap) ∧ w'.cell? ⟨b, o + j * 2, none⟩ = some (.string (bstr (l[j]'(by omega)).name)) ∧ w'.cell? ⟨b, o + j * 2 + 1, none⟩ = some (.int .i64 (l[j]'(by omega)).token)) := fun w' hb => by
            obtain ⟨b', o', e, p1, p2⟩ := HAB.out j (by omega) w' hb
            cases e
            exact ⟨HQ.out w' hb, p1, p2⟩
          obtain ⟨hg1, hg2, hg3⟩ := HALL.out l[j] (List.getElem_mem _)
          generalize l[j] = g at q1 q2 hT hg1 hg2 hg3 HQ2
          obtain ⟨gn, gt⟩ := g
          dsimp only at q1 q2 hg1 hg2 hg3 HQ2
          obtain ⟨T, rfl⟩ := Int.eq_ofNat_of_zero_le (show 0 ≤ gt by omega)
          have hT' : Z ++ bytesH (l.take (j + 1)) = Z ++ bytesH (l.take j) ++ [UInt8.ofNat gn.length] ++ gn ++ be8 T := by rw [hT]; simp [bytesG]
          have hRl : (Z ++ bytesH (l.take j)).length ≤ 95 := by rw [hT] at hlen; rw [List.length_append, HZL.out]; simp at hlen; omega
          generalize Z ++ bytesH (l.take j) = R at HO hT' hRl
          have HT' := Lib.hid hT'
          have HZ := HB.out.size
          have hnl : gn.length < 256 := by omega
          have hnw : IntKind.u8.wrap (gn.length : Int) = (gn.length : Int) := by rw [IntKind.wrap_u8]; omega
          have hns := bstr_size gn
          generalize hN : R.length = N at HO hRl
          have HN := Lib.hid hN
          clear hT hT' hlen HAB HALL HLEN HT hN
          go_upto_region 8 with fail
          go_region_held3 (fun w' => w'.cell? ⟨w.heap.size, 3, none⟩ = some (.slice (some ⟨b, o, none⟩) L cap) ∧ w'.cell? ⟨b, o + j * 2, none⟩ = some (.string (bstr gn)) ∧ w'.cell? ⟨b, o + j * 2 + 1, none⟩ = some (.int .i64 (T : Int)))
            (first | go_keep | exact HQ2.out _ HB6.out | exact HQ2.out _ HB5.out)
            (first
              | (refine step_append_rd (by rfl) _ _ _ (by rfl) w1.heap.size 5 i0 Try.underlying26 hi hz0 hz1 hz2 _ N (cellsOf R) (by rfl) (HO.out.alloc _).drew _ [UInt8.ofNat gn.length] (by rfl) ((rd1 wr _ hnl).later (Below.refl _ _).drew) (by simp; omega) (by simp; omega) ?_; intro v5 w5 hown5 hgrow5; have HB5 := Lib.hid ((HB.out.alloc HZ _).drew.grown hgrow5 (by simp; omega) (fun k hk => (HO.out.lt k hk).1)))
              | (refine step_append_str (by rfl) _ _ _ _ (by rfl) w1.heap.size 5 i0 Try.underlying26 Try.underlying9 hi hz0 hz1 hz2 _ _ _ (by rfl) hown5 gn (by rfl) (by simp; omega) HB5.out.size ?_; intro v6 w6 hown6 hgrow6; have HB6 := Lib.hid (HB5.out.grown hgrow6 HB5.out.size (fun k hk => (hown5.lt k hk).1))))
          all_goals
            rename_i hHeld
            obtain ⟨y3, y1, y2⟩ := hHeld
            have HO6 := Lib.hid hown6
            have HZ6 := HB6.out.size
            clear hown5 hgrow5 hown6 hgrow6 q1 q2 x3 c0 c1 c2 c3 HQ HQ2
            go_wp2_with (first
              | (go_at_call 32; refine (Ref1.Eight_ok T _).mono ?_; rintro e w7 ⟨rfl, rfl⟩)
              | (at_builtin; refine wpList_append_rd rfl _ _ 26 rfl w1.heap.size 5 i0 Try.underlying26 hi hz0 hz1 hz2 _ _ _ rfl (HO6.out.alloc _) _ (be8 T) rfl (rd8 w6 T) (by simp [be8_length]; omega) (by simp; omega) ?_; intro v8 w8 hown8 hgrow8))
            go_roundw
            case rel =>
              refine ⟨j + 1, by omega, by go_num, Lib.hid ?_, Lib.hid ((HB6.out.alloc HZ6 _).grown hgrow8 (by simp; omega) (fun k hk => (HO6.out.lt k hk).1))⟩
              have e : (Z ++ bytesH (l.take (j + 1))).length = N + [UInt8.ofNat gn.length].length + gn.length + (be8 T).length := by rw [HT'.out]; simp only [List.length_append]; rw [HN.out]
              rw [e, HT'.out, cellsOf_append, cellsOf_append, cellsOf_append]
              exact hown8
            case measure => simp [intOf]; omega
        · obtain rfl : j = L := by omega
          go_wp2
          go_ret2
          have ho := HO.out
          rw [← hL, List.take_length, ← HBL.out] at ho
          exact ⟨_, rfl, own_mono ho hbs1, step HBW.out HB.out⟩
end Cm
end Go.Proofs.Ytklnopgnlnfbnaa
