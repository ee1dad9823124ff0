/- What is owned and written over; what was put and is read again. -/
import Derived.Test.YtgpiaibklokhmaaMath1
set_option linter.unusedVariables false
set_option linter.unusedSimpArgs false
namespace Go.Proofs.Ytgpiaibklokhmaa
open Go.RowKit

theorem own_mono {w : World} {base base' : Nat} {e : TypeId} {v : Value} {n : Nat} {xs : List Value} (h : w.ownsRow base e 1 v n xs) (hb : base' ≤ base) : w.ownsRow base' e 1 v n xs := by
  refine ⟨h.1, ?_⟩
  rcases h.2 with h' | ⟨g, cap, cur, h1, h2, r⟩
  · exact .inl h'
  · exact .inr ⟨g, cap, cur, h1, by omega, r⟩

/-- What is owned, of some bytes or other. -/
def Owned (w : World) (base : Nat) (v : Value) (n : Nat) : Prop := ∃ bs : List UInt8, bs.length = n ∧ w.ownsRow base 5 1 v n (cellsOf bs)

theorem Owned.cell {w : World} {base g n cap : Nat} (h : Owned w base (.slice (some ⟨g, 0, none⟩) n cap) n) (k : Nat) (hk : k < n) :
    ∃ c : Nat, c < 256 ∧ w.cell? ⟨g, k, none⟩ = some (.int .u8 (c : Int)) ∧ w.frozen? ⟨g, k, none⟩ = false ∧ base ≤ g := by
  obtain ⟨bs, hl, ho⟩ := h
  refine ⟨(bs.getD k 0).toNat, UInt8.toNat_lt _, ?_, ho.frozenAt k, (ho.lt g rfl).1⟩
  rw [ho.cellAt k (by omega)]
  simp [cellsOf, List.getElem?_eq_getElem (show k < bs.length by omega)]

theorem Owned.stored {w : World} {base g n cap : Nat} (h : Owned w base (.slice (some ⟨g, 0, none⟩) n cap) n) (k c : Nat) (hc : c < 256) :
    Owned (w.setCell ⟨g, k, none⟩ (.int .u8 (c : Int))) base (.slice (some ⟨g, 0, none⟩) n cap) n := by
  obtain ⟨bs, hl, ho⟩ := h
  refine ⟨bs.set k (UInt8.ofNat c), by simp [hl], ?_⟩
  have h1 := (ho.stored k (.int .u8 (c : Int))).1
  have e : (cellsOf bs).set k (.int .u8 (c : Int)) = cellsOf (bs.set k (UInt8.ofNat c)) := by
    unfold cellsOf
    rw [List.map_set, toNat_byte c hc]
  rw [e] at h1
  exact h1

theorem Owned.below {w : World} {base n : Nat} {v : Value} (h : Owned w base v n) {a : Addr} (ha : a.block < base) (u : Value) : Owned (w.setCell a u) base v n := by
  obtain ⟨bs, hl, ho⟩ := h
  exact ⟨bs, hl, ownsRow_setCell_below ho ha u⟩

theorem Owned.later {w w' : World} {base n : Nat} {v : Value} (h : Owned w base v n) (hb : Below w.heap.size w w') : Owned w' base v n := by
  obtain ⟨bs, hl, ho⟩ := h
  refine ⟨bs, hl, ho.1, ?_⟩
  rcases ho.2 with h' | ⟨g, cap, cur, h1, h2, h3, r⟩
  · exact .inl h'
  · refine .inr ⟨g, cap, cur, h1, h2, ?_, r⟩
    rw [hb.block g (Array.getElem?_eq_some_iff.1 h3).1]
    exact h3

theorem bstr_self (s : ByteArray) : bstr s.data.toList = s := by cases s; simp [bstr]

theorem sub_whole (a b : List UInt8) (n k : Nat) (h : a.length = k) (hn : b.length = n) (c : List UInt8) : sub (a ++ b ++ c) k n = b := by
  subst h; subst hn
  unfold sub
  rw [List.append_assoc, List.drop_left, List.take_left]

/-- A number that was put is read as it was. -/
theorem numOf_put (n : Nat) (h : n < 2 ^ 62) (a c : List UInt8) : numOf (a ++ be8 n ++ c) a.length = ((n : Int), (a.length : Int) + 8, 0) := by
  unfold numOf
  have hs : sub (a ++ be8 n ++ c) a.length 8 = be8 n := sub_whole a (be8 n) 8 a.length rfl rfl c
  rw [Int.toNat_natCast, hs, val_be8 n (by omega)]
  rw [if_neg (by simp [be8_length]; omega), if_pos h]

/-- A text that was put is read as it was. -/
theorem textOf_put (s : List UInt8) (h : s.length ≤ 255) (a c : List UInt8) (m : Int) (hm : 255 ≤ m) :
    textOf (a ++ (UInt8.ofNat s.length :: s) ++ c) a.length m = (s, (a.length : Int) + 1 + s.length, 0) := by
  unfold textOf
  have h0 : (a ++ (UInt8.ofNat s.length :: s) ++ c).getD a.length 0 = UInt8.ofNat s.length := by
    simp [List.getD]
  have hn : (UInt8.ofNat s.length).toNat = s.length := toNat_byte _ (by omega)
  have hs : sub (a ++ (UInt8.ofNat s.length :: s) ++ c) (a.length + 1) s.length = s := by
    have := sub_whole (a ++ [UInt8.ofNat s.length]) s s.length (a.length + 1) (by simp) rfl c
    simpa using this
  rw [Int.toNat_natCast, h0, hn]
  rw [if_neg (by simp; omega), if_neg (by omega), if_neg (by simp; omega)]
  rw [hs]

/-- A row of new bytes told, of the call's own. -/
def Row (n : Nat) (bs : List UInt8) (w : World) (e : Ending) (w' : World) : Prop :=
  ∃ g cap, e = .returned (.tuple #[.slice (some ⟨g, 0, none⟩) n cap, .int .i64 0]) ∧ Owned w' w.heap.size (.slice (some ⟨g, 0, none⟩) n cap) n ∧ Rd w' (.slice (some ⟨g, 0, none⟩) n cap) bs ∧ Below w.heap.size w w'

theorem row_of {w w' : World} {e : Ending} {n : Nat} {bs : List UInt8} (hl : bs.length = n) (hn : 0 < n) (h : Made (bs, 0) w e w') : Row n bs w e w' := by
  obtain ⟨v, he, ho, hb⟩ := h
  subst hl
  have hr := Rd.own ho
  have hO : Owned w' w.heap.size v bs.length := ⟨bs, rfl, ho⟩
  rcases ho.2 with ⟨_, h'⟩ | ⟨g, cap, cur, rfl, _⟩
  · exact absurd h' (by simp only; omega)
  · exact ⟨g, cap, he, hO, hr, hb⟩



/-- An empty list of bytes that the call makes. -/
theorem own_empty (w : World) (base : Nat) (hb : base ≤ w.heap.size) : (w.alloc (.cells #[] 5)).ownsRow base 5 1 (.slice (some ⟨w.heap.size, 0, none⟩) 0 0) 0 [] :=
  own_mono (World.ownsRow_lit (base := w.heap.size) (e := 5) (size := 1) w #[] 0 (Nat.le_refl _) (by unfold maxLen; omega) rfl) hb

theorem owned_lt {w : World} {base g n cap : Nat} (h : Owned w base (.slice (some ⟨g, 0, none⟩) n cap) n) : g < w.heap.size := by
  obtain ⟨bs, _, ho⟩ := h
  exact (ho.lt g rfl).2

theorem rd_app {w : World} {base : Nat} {v : Value} {bs : List UInt8} (h : w.ownsRow base 5 1 v (0 + bs.length) ([] ++ cellsOf bs)) : Rd w v bs := by
  rw [Nat.zero_add, List.nil_append] at h
  exact Rd.own h

theorem Rd.pre {w : World} {g N cap m : Nat} {T : List UInt8} (h : Rd w (.slice (some ⟨g, 0, none⟩) N cap) T) (hm : m ≤ N) : Rd w (.slice (some ⟨g, 0, none⟩) m cap) (T.take m) := by
  obtain ⟨a, len, c, hv, hl, hc, hmx, hn, hx⟩ := h.ex
  cases hv
  refine ⟨some ⟨g, 0, none⟩, m, cap, rfl, by simp; omega, by omega, hmx, (fun q => by cases q), fun x hx' hp => ?_⟩
  cases hx'
  refine ⟨rfl, fun i hi => ?_⟩
  have := (hx _ rfl (by omega)).2 i (by omega)
  rw [this]
  have e : (T.take m).getD i 0 = T.getD i 0 := by simp [List.getD, List.getElem?_take, hi]
  rw [e]

theorem numOf_short (T : List UInt8) (k : Nat) (h : T.length < k + 8) : numOf T k = (0, 0, 2) := by
  unfold numOf
  rw [if_pos (by omega)]

/-- A text that is cut anywhere is too short. -/
theorem textOf_cut (P s Bh : List UInt8) (j : Nat) (h : s.length ≤ 255) (hj : j < 1 + s.length) :
    textOf (P ++ ((UInt8.ofNat s.length :: s) ++ Bh).take j) P.length 255 = ([], 0, 2) := by
  unfold textOf
  have hlen : (P ++ ((UInt8.ofNat s.length :: s) ++ Bh).take j).length = P.length + j := by simp; omega
  rw [hlen]
  by_cases h0 : j = 0
  · rw [if_pos (by omega)]
  · rw [if_neg (by omega)]
    have hd : (P ++ ((UInt8.ofNat s.length :: s) ++ Bh).take j).getD ((P.length : Int)).toNat 0 = UInt8.ofNat s.length := by
      rw [Int.toNat_natCast]
      match j, h0 with
      | j + 1, _ => simp [List.getD]
    rw [hd, toNat_byte _ (by omega)]
    rw [if_neg (by omega), if_pos (by omega)]

theorem take_cut (A B R : List UInt8) (k : Nat) (h : B.length ≤ k) : (A ++ B ++ R).take (A.length + k) = A ++ B ++ R.take (k - B.length) := by
  rw [List.take_append, List.take_of_length_le (by simp; omega)]
  congr 2
  simp; omega

theorem back_shape {w : World} {base N : Nat} {v : Value} {T A B S R : List UInt8} (h : T.length = N ∧ cellsOf T = [] ++ cellsOf A ++ cellsOf B ++ cellsOf S ++ cellsOf R ∧ T.length = 0 + A.length + B.length + S.length + R.length ∧ 0 < T.length)
    (ho : w.ownsRow base 5 1 v (0 + A.length + B.length + S.length + R.length) ([] ++ cellsOf A ++ cellsOf B ++ cellsOf S ++ cellsOf R)) :
    ∃ g cap, v = .slice (some ⟨g, 0, none⟩) N cap ∧ N ≤ cap ∧ Rd w (.slice (some ⟨g, 0, none⟩) N cap) T := by
  obtain ⟨h1, h2, h3, h4⟩ := h
  rw [← h2, ← h3] at ho
  have hr := Rd.own ho
  rcases ho.2 with ⟨_, h'⟩ | ⟨g, cap, cur, rfl, _, _, hc, _⟩
  · omega
  · subst h1
    exact ⟨g, cap, rfl, hc, hr⟩
end Go.Proofs.Ytgpiaibklokhmaa
