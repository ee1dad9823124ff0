/- Contracts: package reply's putHeld, Put, PutAnswer, MayAnswer. -/
import Derived.Test.YtklnopgnlnfbnaaRepK
set_option linter.unusedVariables false
set_option linter.unusedSimpArgs false
namespace Go.Proofs.Ytklnopgnlnfbnaa
open Go.RowKit
namespace Cm

/-- Four, one behind the other. -/
theorem Concat_four (w : World) (b : Nat) (u v x y : Value) (us vs xs ys : List UInt8) (hu : Rd w u us) (hv : Rd w v vs) (hx : Rd w x xs) (hy : Rd w y ys) (h0 : w.cell? ⟨b, 0, none⟩ = some u) (h1 : w.cell? ⟨b, 1, none⟩ = some v) (h2 : w.cell? ⟨b, 2, none⟩ = some x) (h3 : w.cell? ⟨b, 3, none⟩ = some y)
    (hp : 0 < us.length) (hl : us.length + vs.length + xs.length + ys.length ≤ 1000000) :
    Calls Try.prog 30 #[.slice (some ⟨b, 0, none⟩) 4 4] w (MadeOne (us ++ (vs ++ (xs ++ ys))) w) := by
  have e : flat [(u, us), (v, vs), (x, xs), (y, ys)] = us ++ (vs ++ (xs ++ ys)) := by simp [flat]
  have := Concat_any b [(u, us), (v, vs), (x, xs), (y, ys)] w (fun j h => by
    match j, h with
    | 0, _ => exact ⟨h0, hu⟩
    | 1, _ => exact ⟨h1, hv⟩
    | 2, _ => exact ⟨h2, hx⟩
    | 3, _ => exact ⟨h3, hy⟩) (by simp) (by rw [e]; simp; omega) (by rw [e]; simp; omega)
  rw [e] at this
  exact this

/-- Bytes told; the slice written out. -/
def OneS (bs : List UInt8) (w : World) (e : Ending) (w' : World) : Prop :=
  ∃ a l c, e = .returned (.slice a l c) ∧ Rd w' (.slice a l c) bs ∧ Below w.heap.size w w'

theorem MadeOne.s {bs : List UInt8} {w : World} {e : Ending} {w' : World} (h : MadeOne bs w e w') : OneS bs w e w' := by
  obtain ⟨v, he, ho, hb⟩ := h
  have hr := Rd.own ho
  obtain ⟨a, l, c, rfl, _⟩ := hr.ex
  exact ⟨a, l, c, he, hr, hb⟩

theorem PutByte_own (k : Int) (w : World) (h0 : 0 ≤ k) (h1 : k ≤ 255) : Calls Try.prog 28 #[.int .i64 k] w (Made ([UInt8.ofNat k.toNat], 0) w) := by
  refine (PutByte_any k w).mono fun e w' h => ?_
  unfold putByteOf at h
  rw [if_neg (by omega)] at h
  exact h

theorem box2 {w w' : World} {x y : Value} {t : TypeId} (h : Below (w.alloc (.cells #[x, y] t)).heap.size (w.alloc (.cells #[x, y] t)) w') :
    w'.cell? ⟨w.heap.size, 0, none⟩ = some x ∧ w'.cell? ⟨w.heap.size, 1, none⟩ = some y := by
  have hl : w.heap.size < (w.alloc (.cells #[x, y] t)).heap.size := by simp
  refine ⟨?_, ?_⟩
  · rw [h.cell (p := ⟨w.heap.size, 0, none⟩) hl]; simp [go_sem]
  · rw [h.cell (p := ⟨w.heap.size, 1, none⟩) hl]; simp [go_sem]

/-- Bytes and a code told; the bytes in a new block. -/
def MadeG (r : List UInt8 × Int) (w : World) (e : Ending) (w' : World) : Prop :=
  ∃ g l c, e = .returned (.tuple #[.slice (some ⟨g, 0, none⟩) l c, .int .i64 r.2]) ∧ w.heap.size ≤ g ∧ g < w'.heap.size ∧ Rd w' (.slice (some ⟨g, 0, none⟩) l c) r.1 ∧ Below w.heap.size w w'

theorem Made.g {r : List UInt8 × Int} {w : World} {e : Ending} {w' : World} (h : Made r w e w') (hp : 0 < r.1.length) : MadeG r w e w' := by
  obtain ⟨v, he, ho, hb⟩ := h
  have hr := Rd.own ho
  rcases ho.2 with ⟨rfl, hn⟩ | ⟨g, cap, cur, rfl, h1, h2, -⟩
  · omega
  · exact ⟨g, _, cap, he, h1, get_lt h2, hr, hb⟩

theorem PutNum_new (k : Int) (w : World) (h0 : 0 ≤ k) (h1 : k ≤ 2305843009213693952) : Calls Try.prog 29 #[.int .i64 k] w (MadeG (be8 k.toNat, 0) w) := by
  refine (PutNum_any k w).mono fun e w' h => ?_
  unfold putNumOf at h
  rw [if_neg (by omega)] at h
  exact Made.g h (by simp [be8_length])

set_option maxHeartbeats 4000000 in
theorem putHeld_any (v : Value) (l : List GrantV) (w : World) (h : RdH w v l) (h4 : l.length ≤ 4) (hall : ∀ g ∈ l, g.name.length ≤ 12 ∧ 1 ≤ g.token ∧ g.token ≤ 2305843009213693952) :
    Calls Try.prog 31 #[v] w (MadeOne (UInt8.ofNat l.length :: bytesH l) w) := by
  obtain ⟨a, cap, rfl, -⟩ := h.ex
  obtain ⟨i0, hi, hz0, hz1, hz2⟩ := info_parts info8
  have HA := Lib.hid (fun i hi => h.at i hi)
  have HT := Lib.hid (bytesH_take l)
  have HALL := Lib.hid hall
  have HLE := Lib.hid (fun j => bytesH_le (l.take j) (fun g hg => hall g (List.mem_of_mem_take hg)))
  clear h hall
  obtain ⟨L, hL⟩ : ∃ L, l.length = L := ⟨_, rfl⟩
  have HL := Lib.hid hL
  rw [hL] at h4 ⊢
  have C1 := Lib.hid (fun w => PutByte_own (L : Int) w (by omega) (by omega))
  rw [Int.toNat_natCast] at C1
  generalize hZ : ([UInt8.ofNat L] : List UInt8) = Z at C1
  have hZ1 : Z.length = 1 := by rw [← hZ]; rfl
  have hZE : UInt8.ofNat L :: bytesH l = Z ++ bytesH l := by rw [← hZ]; rfl
  rw [hZE]
  have HZ1 := Lib.hid hZ1
  clear hZ hZ1 hZE
  go_enter Try.func31, Try.ntmps31
  go_wp2_with (go_at_call 28; refine (C1.out _).mono ?_; rintro e w1 ⟨v1, rfl, hown1, hb1⟩)
  have HO1 : Hid (w1.ownsRow w.heap.size 5 1 v1 (Z ++ bytesH (l.take 0)).length (cellsOf (Z ++ bytesH (l.take 0)))) := Lib.hid (by rw [List.take_zero, bytesH_nil, List.append_nil]; exact hown1)
  have HB1 := Lib.hid hb1
  clear hown1 hb1
  go_loopw [3, 19] (fun s i wr => ∃ j : Nat, j ≤ L ∧ i = .int .i64 j ∧ Hid (wr.ownsRow w.heap.size 5 1 s (Z ++ bytesH (l.take j)).length (cellsOf (Z ++ bytesH (l.take j)))) ∧ Hid (Below w.heap.size w wr)) (fun _ i _ => L - (intOf i).toNat)
  case atStart => exact ⟨0, by omega, rfl, HO1, HB1⟩
  case round =>
    obtain ⟨j, hj, rfl, HO, HB⟩ := hrel
    by_cases hlt : j < L
    · have hjl : j < l.length := by omega
      obtain ⟨b, o, rfl, q1, q2⟩ := HA.out j hjl _ HB.out
      have hT := HT.out j hjl
      have hle := HLE.out j
      rw [List.length_take] at hle
      obtain ⟨hg1, hg2, hg3⟩ := HALL.out l[j] (List.getElem_mem _)
      generalize l[j] = g at q1 q2 hT hg1 hg2 hg3
      obtain ⟨gn, gt⟩ := g
      dsimp only at q1 q2 hg1 hg2 hg3
      have C2 := Lib.hid (fun w => PutText_in gn w hg1)
      have C3 := Lib.hid (fun w => PutNum_new gt w (by omega) hg3)
      have hT' : Z ++ bytesH (l.take (j + 1)) = Z ++ bytesH (l.take j) ++ (UInt8.ofNat gn.length :: gn) ++ be8 gt.toNat := by rw [hT]; simp [bytesG]
      have hRl : (Z ++ bytesH (l.take j)).length ≤ 85 := by rw [List.length_append, HZ1.out]; omega
      generalize Z ++ bytesH (l.take j) = R at HO hT' hRl
      have HT' := Lib.hid hT'
      have HZ := HB.out.size
      have hBA := stepAlloc HB.out (.cells #[.string (bstr gn), .int .i64 gt] 49)
      have HBA := Lib.hid hBA
      have HOA := Lib.hid (Rw.own_below HO.out (newAlloc wr (.cells #[.string (bstr gn), .int .i64 gt] 49)))
      generalize hN : R.length = N at HO hRl HOA
      have HN := Lib.hid hN
      have hnl : (UInt8.ofNat gn.length :: gn).length ≤ 13 := by simp; omega
      generalize hG : UInt8.ofNat gn.length :: gn = G at C2 HT' hnl
      clear hT hT' hle hN hBA hG HA HT HALL HLE
      go_wp2_with (first
        | (go_at_call 45; refine (C2.out _).mono ?_; rintro e w2 ⟨a2, l2, d2, rfl, hr2, hb2⟩; obtain ⟨c0, c1⟩ := box2 hb2; have HR2 := Lib.hid hr2; have HB2 := Lib.hid hb2; clear hr2 hb2)
        | (go_at_call 29; refine (C3.out _).mono ?_; rintro e w3 ⟨g3, l3, d3, rfl, hg3a, hg3b, hr3, hb3⟩; have HR3 := Lib.hid hr3; have HB3 := Lib.hid hb3; have HG3 := Lib.hid hg3b; have HNE := Lib.hid (Rw.own_ne (Rw.own_below HOA.out HB2.out) hg3a); have HO3 := Lib.hid (Rw.own_below (Rw.own_below HOA.out HB2.out) hb3); clear hg3a hg3b; have HBW3 := Lib.hid (step (step HBA.out HB2.out) hb3); have HZ3 := HBW3.out.size; clear hr3 hb3)
        | (at_builtin; refine wpList_append_rd rfl _ _ 26 rfl w.heap.size 5 i0 Try.underlying26 hi hz0 hz1 hz2 _ N (cellsOf R) rfl HO3.out _ G rfl (HR2.out.later HB3.out) (by omega) HZ3 ?_; intro v4 w4 hown4 hgrow4; have HB4 := Lib.hid (HBW3.out.grown hgrow4 HZ3 (fun k hk => (HO3.out.lt k hk).1)); have HR4 := Lib.hid (Rw.rd_other HR3.out HG3.out hgrow4 HNE.out); have HO4 := Lib.hid hown4; have HZ4 := HB4.out.size; clear hown4 hgrow4)
        | (at_builtin; refine wpList_append_rd rfl _ _ 26 rfl w.heap.size 5 i0 Try.underlying26 hi hz0 hz1 hz2 _ _ _ rfl HO4.out _ (be8 gt.toNat) rfl HR4.out (by simp [be8_length]; omega) HZ4 ?_; intro v5 w5 hown5 hgrow5))
      go_roundw
      case rel =>
        refine ⟨j + 1, by omega, by go_num, Lib.hid ?_, Lib.hid (HB4.out.grown hgrow5 HZ4 (fun k hk => (HO4.out.lt k hk).1))⟩
        have e : (Z ++ bytesH (l.take (j + 1))).length = N + G.length + (be8 gt.toNat).length := by rw [HT'.out]; simp only [List.length_append]; rw [HN.out]
        rw [e, HT'.out, cellsOf_append, cellsOf_append]
        exact hown5
      case measure => simp [intOf]; omega
    · obtain rfl : j = L := by omega
      have ho := HO.out
      rw [← HL.out, List.take_length] at ho
      have HO := Lib.hid ho
      clear ho
      go_wp2
      go_ret
      exact ⟨_, rfl, HO.out, HB.out⟩

set_option maxHeartbeats 2000000 in
theorem RepPut_any (r : ReplyV) (v : Value) (w : World) (h : RdH w v r.held) :
    Calls Try.prog 10 #[repVal r v] w (Made (putP r) w) := by
  have C0 : Hid (∀ w', Below w.heap.size w w' → Calls Try.prog 14 #[repVal r v] w' (SaysB (mayP r) w')) := Lib.hid fun w' hb => RepMay_any r v w' (h.later hb)
  unfold putP
  cases hm : mayP r
  · have HM := Lib.hid hm
    clear hm h
    obtain ⟨k, s, d, l⟩ := r
    unfold repVal at C0 ⊢
    dsimp only at C0 ⊢
    go_enter Try.func10, Try.ntmps10
    go_wp2_with (go_at_call 14; refine (C0.out _ (newAlloc _ _)).mono ?_; rw [HM.out]; rintro e w1 ⟨rfl, hb1⟩)
    go_ret2
    exact ⟨_, rfl, World.ownsRow_nil _ _ _ _, step (newAlloc _ _) hb1⟩
  · obtain ⟨hk, hs, hd, hl4, hall⟩ := mayP_bounds r hm
    have HM := Lib.hid hm
    clear hm
    have C4 : Hid (∀ w', Below w.heap.size w w' → Calls Try.prog 31 #[v] w' (OneS (UInt8.ofNat r.held.length :: bytesH r.held) w')) := Lib.hid fun w' hb => (putHeld_any v r.held w' (h.later hb) hl4 hall).mono fun _ _ q => MadeOne.s q
    have hle := bytesH_le r.held hall
    have hbl : bytesP r = [UInt8.ofNat r.code.toNat] ++ (be8 r.session.toNat ++ ([UInt8.ofNat r.ahead.toNat] ++ (UInt8.ofNat r.held.length :: bytesH r.held))) := rfl
    have hcl : (UInt8.ofNat r.held.length :: bytesH r.held).length ≤ 85 := by simp; omega
    have HBL := Lib.hid hbl
    clear hbl h hall hle hl4
    obtain ⟨k, s, d, l⟩ := r
    unfold repVal at C0 ⊢
    dsimp only at C0 C4 hk hs hd HBL hcl ⊢
    generalize UInt8.ofNat l.length :: bytesH l = cb at *
    have C1 := Lib.hid (fun w => PutByte_in k w (by omega) (by omega))
    have C2 := Lib.hid (fun w => PutNum_in s w (by omega) (by omega))
    have C3 := Lib.hid (fun w => PutByte_in d w (by omega) (by omega))
    go_enter Try.func10, Try.ntmps10
    go_wp2_with (go_at_call 14; refine (C0.out _ (newAlloc _ _)).mono ?_; rw [HM.out]; rintro e w1 ⟨rfl, hb1⟩; obtain ⟨c0, c1, c2, c3⟩ := box4 hb1)
    refine (C1.out _).mono ?_
    rintro e w2 ⟨a2, l2, d2, rfl, hr2, hb2⟩
    obtain ⟨c0, c1, c2, c3⟩ := box4 (step hb1 hb2)
    go_wp2_with (go_at_call 29; refine (C2.out _).mono ?_; rintro e w3 ⟨a3, l3, d3, rfl, hr3, hb3⟩; have B3 := step (step (step (newAlloc w _) hb1) hb2) hb3; obtain ⟨c0, c1, c2, c3⟩ := box4 (step (step hb1 hb2) hb3))
    refine (C3.out _).mono ?_
    rintro e w4 ⟨a4, l4, d4, rfl, hr4, hb4⟩
    have B4 := step B3 hb4
    obtain ⟨c0, c1, c2, c3⟩ := box4 (step (step (step hb1 hb2) hb3) hb4)
    go_wp2_with (go_at_call 31; refine (C4.out _ B4).mono ?_; rintro e w5 ⟨a5, l5, d5, rfl, hr5, hb5⟩)
    have hb := step B4 hb5
    refine ((Concat_four _ w5.heap.size _ _ _ _ _ _ _ _ (hr2.later (stepAlloc (step (step hb3 hb4) hb5) _)) (hr3.later (stepAlloc (step hb4 hb5) _)) (hr4.later (stepAlloc hb5 _)) (hr5.later (newAlloc _ _)) (by simp [go_sem]) (by simp [go_sem]) (by simp [go_sem]) (by simp [go_sem]) (by simp) (by simp [be8_length]; omega)).mono fun e w' h => MadeOne.made h (w0 := w) (Nat.le_trans hb.size (by simp))).mono ?_
    rintro e w6 ⟨v6, rfl, ho, hb6⟩
    go_wp2
    go_ret2
    rw [HBL.out]
    exact ⟨_, rfl, ho, step (stepAlloc hb _) hb6⟩

theorem RepPut_in (r : ReplyV) (v : Value) (hm : mayP r = true) (w : World) (h : RdH w v r.held) : Calls Try.prog 10 #[repVal r v] w (MadeS (bytesP r, 0) w) := by
  refine (RepPut_any r v w h).mono fun e w' q => ?_
  unfold putP at q
  rw [if_pos hm] at q
  exact Made.s q

theorem RepMayAnswer_any (r : AnsV) (v : Value) (w : World) (h : RdH w v r.rep.held) : Calls Try.prog 23 #[ansVal r v] w (SaysB (mayA r) w) := by
  obtain ⟨c, q, m⟩ := r
  have C1 := Lib.hid (fun w => repNum_any q w)
  have C2 : Hid (∀ w', Below w.heap.size w w' → Calls Try.prog 14 #[repVal m v] w' (SaysB (mayP m) w')) := fun w' hb => RepMay_any m v w' (h.later hb)
  clear h
  unfold ansVal mayA
  unfold repVal at C2
  obtain ⟨k, s, d, l⟩ := m
  dsimp only at C2 ⊢
  by_cases h0 : 0 ≤ c
  · have d0 : decide (0 ≤ c) = true := decide_eq_true h0
    by_cases h1 : c < 8
    · have d1 : decide (c < 8) = true := decide_eq_true h1
      cases hh : highF q 1
      all_goals
        have H := Lib.hid hh
        clear hh
        go_enter Try.func23, Try.ntmps23
        go_wp2_with (first
          | (go_at_call 43; refine (C1.out _).mono ?_; rw [H.out]; rintro e w' ⟨rfl, rfl⟩)
          | (go_at_call 14; refine (C2.out _ (newAlloc _ _)).mono ?_; rintro e w' ⟨rfl, hb⟩))
        go_ret
        first
          | exact ⟨by simp [h0, h1], newAlloc _ _⟩
          | exact ⟨by simp [h0, h1], step (newAlloc _ _) hb⟩
    · have d1 : decide (c < 8) = false := decide_eq_false h1
      go_enter Try.func23, Try.ntmps23
      go_wp2
      go_ret
      exact ⟨by simp [h0, h1], newAlloc _ _⟩
  · have d0 : decide (0 ≤ c) = false := decide_eq_false h0
    go_enter Try.func23, Try.ntmps23
    go_wp2
    go_ret
    exact ⟨by simp [h0], newAlloc _ _⟩

set_option maxHeartbeats 2000000 in
theorem RepPutAnswer_any (r : AnsV) (v : Value) (w : World) (h : RdH w v r.rep.held) :
    Calls Try.prog 19 #[ansVal r v] w (Made (putA r) w) := by
  have C0 : Hid (∀ w', Below w.heap.size w w' → Calls Try.prog 23 #[ansVal r v] w' (SaysB (mayA r) w')) := Lib.hid fun w' hb => RepMayAnswer_any r v w' (h.later hb)
  unfold putA
  cases hm : mayA r
  · have HM := Lib.hid hm
    clear hm h
    obtain ⟨c, q, k, s, d, l⟩ := r
    unfold ansVal at C0 ⊢
    dsimp only at C0 ⊢
    go_enter Try.func19, Try.ntmps19
    go_wp2_with (go_at_call 23; refine (C0.out _ (newAlloc _ _)).mono ?_; rw [HM.out]; rintro e w1 ⟨rfl, hb1⟩)
    go_ret2
    exact ⟨_, rfl, World.ownsRow_nil _ _ _ _, step (newAlloc _ _) hb1⟩
  · obtain ⟨hk, hs, hp⟩ := mayA_bounds r hm
    have C3 : Hid (∀ w', Below w.heap.size w w' → Calls Try.prog 10 #[repVal r.rep v] w' (MadeS (bytesP r.rep, 0) w')) := Lib.hid fun w' hb => RepPut_in r.rep v hp w' (h.later hb)
    have hcb := bytesP_le r.rep hp
    have HM := Lib.hid hm
    have hbl : bytesA r = [UInt8.ofNat r.client.toNat] ++ (be8 r.seq.toNat ++ bytesP r.rep) := rfl
    have HBL := Lib.hid hbl
    clear hbl hm h hp
    obtain ⟨c, q, m⟩ := r
    unfold ansVal at C0 ⊢
    unfold repVal at C3
    dsimp only at C0 C3 hk hs hcb HM HBL ⊢
    generalize bytesP m = cb at hcb C3 HBL
    obtain ⟨k, s, d, l⟩ := m
    dsimp only at C0 C3 ⊢
    have C1 := Lib.hid (fun w => PutByte_in c w (by omega) (by omega))
    have C2 := Lib.hid (fun w => PutNum_in q w (by omega) (by omega))
    go_enter Try.func19, Try.ntmps19
    go_wp2_with (first
      | (go_at_call 23; refine (C0.out _ (newAlloc _ _)).mono ?_; rw [HM.out]; rintro e w1 ⟨rfl, hb1⟩; obtain ⟨c0, c1, c2, c3, c4, c5⟩ := box6 hb1)
      | (go_at_call 28; refine (C1.out _).mono ?_; rintro e w2 ⟨a2, l2, d2, rfl, hr2, hb2⟩; obtain ⟨c0, c1, c2, c3, c4, c5⟩ := box6 (step hb1 hb2))
      | (go_at_call 29; refine (C2.out _).mono ?_; rintro e w3 ⟨a3, l3, d3, rfl, hr3, hb3⟩; have B3 := step (step (step (newAlloc w _) hb1) hb2) hb3; obtain ⟨c0, c1, c2, c3, c4, c5⟩ := box6 (step (step hb1 hb2) hb3))
      | (go_at_call 10; refine (C3.out _ B3).mono ?_; rintro e w4 ⟨a4, l4, d4, rfl, hr4, hb4⟩))
    have hb := step B3 hb4
    refine ((Concat_three _ w4.heap.size _ _ _ _ _ _ (hr2.later (stepAlloc (step hb3 hb4) _)) (hr3.later (stepAlloc hb4 _)) (hr4.later (newAlloc _ _)) (by simp [go_sem]) (by simp [go_sem]) (by simp [go_sem]) (by simp) (by simp [be8_length]; omega)).mono fun e w' h => MadeOne.made h (w0 := w) (Nat.le_trans hb.size (by simp))).mono ?_
    rintro e w5 ⟨v5, rfl, ho, hb5⟩
    go_wp2
    go_ret2
    rw [HBL.out]
    exact ⟨_, rfl, ho, step (stepAlloc hb _) hb5⟩
end Cm
end Go.Proofs.Ytklnopgnlnfbnaa
