/- Plain facts for CmdBack: a byte of a kind turned; an append beyond what there is room for. -/
import Derived.Test.YtklnopgnlnfbnaaLaw4B
set_option linter.unusedVariables false
set_option linter.unusedSimpArgs false
namespace Go.Proofs.Ytklnopgnlnfbnaa
open Go.RowKit

theorem owns_news (w : World) (cs : Array Value) (n cap : Nat) (xs : List Value) (hx : xs.length = n) (hn : n ≤ cap) (hm : cap ≤ maxLen) (hc : cs.size = cap) (ht : cs.toList.take n = xs) :
    (w.drew.alloc (.cells cs 5)).ownsRow w.heap.size 5 1 (.slice (some ⟨w.heap.size, 0, none⟩) n cap) n xs := by
  refine ⟨by omega, .inr ⟨w.heap.size, cap, cs, rfl, Nat.le_refl _, ?_, hn, hm, by omega, by rw [Nat.mul_one]; exact ht⟩⟩
  show (w.heap.push (.cells cs 5))[w.heap.size]? = _
  simp

section
variable {P : Program} {w : World}
/-- Bytes appended to a slice that has no room: new memory, which reads as both. -/
theorem wpList_append_full {ops : Array Oper} {rest : List Oper} {o : Oper} {a : Act} {Q : Exit → Act → World → Prop} (hgd : o.guard = none) (s x : Operand) (t : TypeId)
    (ho : o.op = .call { callee := .builtin .append, args := #[s, x], argTypes := #[t, t] })
    (e : TypeId) (he : e = 5) (i : TypeInfo) (ht : P.underlying t = some (.slice e)) (hi : P.info? e = some i) (hz : i.zero = some (.int .u8 0)) (hsize : i.size = 1) (hby : i.bytes = 1)
    (g N : Nat) (T : List UInt8) (hs : a.eval s = .slice (some ⟨g, 0, none⟩) N N) (hr : Rd w (.slice (some ⟨g, 0, none⟩) N N) T) (hN : 0 < N) (y : Value) (bs : List UInt8) (hx : a.eval x = y) (hry : Rd w y bs) (hne : 0 < bs.length)
    (hlen : N + bs.length ≤ 1000000)
    (h : ∀ cap w', Rd w' (.slice (some ⟨w.heap.size, 0, none⟩) (N + bs.length) cap) (T ++ bs) → Below w.heap.size w w' → wpList P ops Q rest (a.put o.dst (.slice (some ⟨w.heap.size, 0, none⟩) (N + bs.length) cap)) w') : wpList P ops Q (o :: rest) a w := by
  subst he
  obtain ⟨a1, l1, c1, hv1, hl1, _, hm1, _, hx1⟩ := hr.ex
  cases hv1
  obtain ⟨a2, l2, c2, rfl, hl2, hc2, hm2, hn2, hx2⟩ := hry.ex
  match a2, hn2, hx2 with
  | none, hn2, _ => have := (hn2 rfl).1; omega
  | some ad, _, hx2 =>
    obtain ⟨b2, o2, s2⟩ := ad
    obtain ⟨hsp, hc⟩ := hx2 _ rfl (by omega)
    simp only at hsp hc
    subst hsp
    have add : ∀ (b o j : Nat), (⟨b, o, none⟩ : Addr).add j = ⟨b, o + j, none⟩ := fun b o j => by unfold Addr.add; split <;> simp_all
    have hfit := nextslicecap_le (need := N + l2) (old := N) (by omega)
    have hrun := fun ty => run_append_grow (P := P) (w := w) t ty 5 i (.int .u8 0) ht hi hz ⟨g, 0, none⟩ N N (cellsOf T) (by rw [cellsOf_length, hsize]; omega)
      (fun j v hj => by
        obtain ⟨hj', rfl⟩ := cellsOf_get T j v hj
        rw [add]
        exact (hx1 _ rfl (by omega)).2 j (by omega)) ⟨b2, o2, none⟩ l2 c2 (cellsOf bs) (by rw [cellsOf_length, hsize]; omega)
      (fun j v hj => by
        obtain ⟨hj', rfl⟩ := cellsOf_get bs j v hj
        rw [add]
        exact hc j (by omega)) (by omega) (by omega) (by rw [hby]; omega)
    have hge := grownCap_ge w (N + l2) N 5
    have hle := grownCap_le_maxLen w (N + l2) N 5 (by unfold maxLen; omega)
    generalize grownCap w (N + l2) N 5 = cap at hrun hge hle
    refine Lib.wpList_append_run w hgd s x t t ho _ _ hs hx _ _ (hrun _) ?_
    rw [← hl2]
    refine h cap _ ?_ (((Below.refl _ _).drew).alloc (Nat.le_refl _) _)
    have hTl : (T ++ bs).length = N + bs.length := by rw [List.length_append, hl1]
    have := owns_news w ((cellsOf T).toArray ++ (cellsOf bs).toArray ++ Builtin.zeroCells (Value.int .u8 0).cells (cap - (N + bs.length))) (N + bs.length) cap (cellsOf (T ++ bs)) (by rw [cellsOf_length, hTl]) (by omega) hle
      (by simp [cellsOf_length, Builtin.zeroCells, Value.cells]; omega)
      (by
        simp only [Array.toList_append]
        rw [← cellsOf_append, List.take_append_of_le_length (by rw [cellsOf_length, hTl]; exact Nat.le_refl _), List.take_of_length_le (by rw [cellsOf_length, hTl]; exact Nat.le_refl _)])
    rw [← hTl] at this ⊢
    exact Rd.own this
end
namespace Cm
theorem kind_byte (r : ReqV) : (bytesR r).getD 9 0 = UInt8.ofNat r.cmd.kind.toNat := rfl

theorem set_getD (l : List UInt8) (i : Nat) (h : i < l.length) : l.set i (l.getD i 0) = l := by
  have : l.getD i 0 = l[i] := by simp [List.getD, List.getElem?_eq_getElem h]
  rw [this, List.set_getElem_self]

theorem xor_ne (a b : Nat) (hb : b ≠ 0) : a ^^^ b ≠ a := fun h => hb (by
  have h2 : a ^^^ (a ^^^ b) = a ^^^ a := by rw [h]
  rw [← Nat.xor_assoc, Nat.xor_self, Nat.zero_xor] at h2
  exact h2)

/-- What a request is read as, one byte of which, that of its kind, is turned. -/
theorem turned (r : ReqV) (h : mayR r = true) (k b : Nat) (hk : r.cmd.kind = (k : Int)) (hkb : k < 256) (hb : b < 256) :
    (b = 0 → getR ((bytesR r).set 9 (UInt8.ofNat (k ^^^ b))) 0 = (r, (19 + r.cmd.name.length : Int), 0)) ∧
    (b ≠ 0 → (getR ((bytesR r).set 9 (UInt8.ofNat (k ^^^ b))) 0).2.2 = 0 → (getR ((bytesR r).set 9 (UInt8.ofNat (k ^^^ b))) 0).1.cmd.kind ≠ (k : Int)) := by
  have hl : 19 ≤ (bytesR r).length := by rw [bytesR_length]; omega
  have hx : k ^^^ b < 256 := by have : k ^^^ b < 2 ^ 8 := Nat.xor_lt_two_pow (by omega) (by omega); omega
  refine ⟨fun h0 => ?_, fun hne h0 => ?_⟩
  · subst h0
    have e : UInt8.ofNat k = (bytesR r).getD 9 0 := by rw [kind_byte, hk, Int.toNat_natCast]
    rw [Nat.xor_zero, e, set_getD _ _ (by omega)]
    have := getR_put r h [] []
    simpa using this
  · rw [getR_kind _ h0 (by simp; omega)]
    have : ((bytesR r).set 9 (UInt8.ofNat (k ^^^ b))).getD 9 0 = UInt8.ofNat (k ^^^ b) := by
      simp [List.getD, show 9 < (bytesR r).length by omega]
    rw [this, toNat_byte _ hx]
    have := xor_ne k b hne
    omega


theorem cells5_later {w w' : World} {b : Nat} {x y z u v : Value} (h : Below w.heap.size w w') (q : w.cell? ⟨b, 0, none⟩ = some x ∧ w.cell? ⟨b, 1, none⟩ = some y ∧ w.cell? ⟨b, 2, none⟩ = some z ∧ w.cell? ⟨b, 3, none⟩ = some u ∧ w.cell? ⟨b, 4, none⟩ = some v) :
    w'.cell? ⟨b, 0, none⟩ = some x ∧ w'.cell? ⟨b, 1, none⟩ = some y ∧ w'.cell? ⟨b, 2, none⟩ = some z ∧ w'.cell? ⟨b, 3, none⟩ = some u ∧ w'.cell? ⟨b, 4, none⟩ = some v := by
  obtain ⟨q0, q1, q2, q3, q4⟩ := q
  refine ⟨?_, ?_, ?_, ?_, ?_⟩
  · rw [h.cell (p := ⟨b, 0, none⟩) (lt_of_cell q0)]; exact q0
  · rw [h.cell (p := ⟨b, 1, none⟩) (lt_of_cell q1)]; exact q1
  · rw [h.cell (p := ⟨b, 2, none⟩) (lt_of_cell q2)]; exact q2
  · rw [h.cell (p := ⟨b, 3, none⟩) (lt_of_cell q3)]; exact q3
  · rw [h.cell (p := ⟨b, 4, none⟩) (lt_of_cell q4)]; exact q4
end Cm

theorem back_shape2 {w : World} {base N : Nat} {v : Value} {A B : List UInt8} (h : (A ++ B).length = N ∧ 0 < N) (ho : w.ownsRow base 5 1 v (0 + A.length + B.length) ([] ++ cellsOf A ++ cellsOf B)) :
    ∃ g cap, v = .slice (some ⟨g, 0, none⟩) N cap ∧ N ≤ cap ∧ base ≤ g ∧ Rd w (.slice (some ⟨g, 0, none⟩) N cap) (A ++ B) := by
  obtain ⟨h1, h2⟩ := h
  have e1 : [] ++ cellsOf A ++ cellsOf B = cellsOf (A ++ B) := by rw [List.nil_append, cellsOf_append]
  have e2 : 0 + A.length + B.length = (A ++ B).length := by rw [List.length_append]; omega
  rw [e1, e2] at ho
  have hr := Rd.own ho
  rcases ho.2 with ⟨_, h'⟩ | ⟨g, cap, cur, rfl, hb, _, hc, _⟩
  · omega
  · subst h1
    exact ⟨g, cap, rfl, hc, hb, hr⟩

theorem Rd.full {w : World} {g N cap : Nat} {T : List UInt8} (h : Rd w (.slice (some ⟨g, 0, none⟩) N cap) T) : Rd w (.slice (some ⟨g, 0, none⟩) N N) T := by
  obtain ⟨a, len, c, hv, hl, hc, hmx, hn, hx⟩ := h.ex
  cases hv
  exact ⟨some ⟨g, 0, none⟩, N, N, rfl, hl, Nat.le_refl _, by omega, (fun q => by cases q), hx⟩

theorem cell_of_rd {w : World} {g N cap : Nat} {T : List UInt8} (h : Rd w (.slice (some ⟨g, 0, none⟩) N cap) T) (i : Nat) (hi : i < N) : w.cell? ⟨g, i, none⟩ = some (.int .u8 ((T.getD i 0).toNat : Int)) := by
  obtain ⟨a, len, c, hv, hl, hc, hmx, hn, hx⟩ := h.ex
  cases hv
  have := (hx _ rfl (by omega)).2 i hi
  rwa [Nat.zero_add] at this

/-- A byte of an own row is written over. -/
theorem own_set {w : World} {base g n cap : Nat} {bs : List UInt8} (ho : w.ownsRow base 5 1 (.slice (some ⟨g, 0, none⟩) n cap) n (cellsOf bs)) (k c : Nat) (hc : c < 256) :
    (w.setCell ⟨g, k, none⟩ (.int .u8 (c : Int))).ownsRow base 5 1 (.slice (some ⟨g, 0, none⟩) n cap) n (cellsOf (bs.set k (UInt8.ofNat c))) := by
  have h1 := (ho.stored k (.int .u8 (c : Int))).1
  have e : (cellsOf bs).set k (.int .u8 (c : Int)) = cellsOf (bs.set k (UInt8.ofNat c)) := by
    unfold cellsOf
    rw [List.map_set, toNat_byte c hc]
  rw [e] at h1
  exact h1

theorem own_empty_at (w : World) (base H : Nat) (hH : w.heap.size = H) (hb : base ≤ H) : (w.alloc (.cells #[] 5)).ownsRow base 5 1 (.slice (some ⟨H, 0, none⟩) 0 0) 0 [] := by
  subst hH
  exact own_empty w base hb

theorem back_shape1 {w : World} {base N : Nat} {v : Value} {B : List UInt8} (h : B.length = N ∧ 0 < N) (ho : w.ownsRow base 5 1 v (0 + B.length) ([] ++ cellsOf B)) :
    ∃ g cap, v = .slice (some ⟨g, 0, none⟩) N cap ∧ base ≤ g ∧ w.ownsRow base 5 1 (.slice (some ⟨g, 0, none⟩) N cap) N (cellsOf B) ∧ Rd w (.slice (some ⟨g, 0, none⟩) N cap) B := by
  obtain ⟨h1, h2⟩ := h
  rw [List.nil_append, Nat.zero_add] at ho
  have hr := Rd.own ho
  rcases ho.2 with ⟨_, h'⟩ | ⟨g, cap, cur, rfl, hb, _, hc, _⟩
  · omega
  · subst h1
    exact ⟨g, cap, rfl, hb, ho, hr⟩
end Go.Proofs.Ytklnopgnlnfbnaa
