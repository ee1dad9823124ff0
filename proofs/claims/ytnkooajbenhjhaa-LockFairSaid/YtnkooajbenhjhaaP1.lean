/- Texts laid together by program: Base, Rows2, Gen, GenB, OctA, OctB, OctC, OctD, OctE, RefA, RefB, LawA, Math1, Math2. -/
import Derived.WalkKit
import Derived.ProofKit
import Derived.Laws.BytesArg
import Derived.WalkLawsBesides
import Derived.WalkSpells
import Derived.Lib.Hide
import Derived.Lib.AppendStr
import Derived.Laws.AppendOwnNone
import Derived.Laws.OwnMore
import Derived.Laws.BitsAllLaws
import Derived.Maps.AppendAt
import Derived.Deep.AppendLies
import Derived.Test.YtnkooajbenhjhaaProg
import Derived.Defers
import Derived.Recover
import Derived.Laws.Pointers
/- Byte lists in memory: what a slice of bytes reads as, and that it reads so later. No program is named here. -/
set_option linter.unusedVariables false
set_option linter.unusedSimpArgs false
namespace Go.Proofs.Ytnkooajbenhjhaa
open Go.RowKit

theorem step {a b c : World} (h : Below a.heap.size a b) (k : Below b.heap.size b c) : Below a.heap.size a c := h.trans (k.mono h.size)
theorem stepAlloc {a b : World} (h : Below a.heap.size a b) (o : Obj) : Below a.heap.size a (b.alloc o) := h.alloc h.size o
theorem newAlloc (a : World) (o : Obj) : Below a.heap.size a (a.alloc o) := (Below.refl _ _).alloc (Nat.le_refl _) o

/-- The slice value v reads in w as the bytes bs. -/
structure Rd (w : World) (v : Value) (bs : List UInt8) : Prop where
  ex : ∃ a len cap, v = .slice a len cap ∧ bs.length = len ∧ len ≤ cap ∧ cap ≤ maxLen ∧ (a = none → len = 0 ∧ cap = 0) ∧
    ∀ x, a = some x → 0 < len → x.spot = none ∧ ∀ i, i < len → w.cell? ⟨x.block, x.off + i, none⟩ = some (.int .u8 (bs.getD i 0).toNat)

theorem lt_of_cell {w : World} {a : Addr} {v : Value} (h : w.cell? a = some v) : a.block < w.heap.size := by
  unfold World.cell? at h
  rcases Nat.lt_or_ge a.block w.heap.size with g | g
  · exact g
  · rw [Array.getElem?_eq_none g] at h; simp at h

theorem Rd.later {w w' : World} {v : Value} {bs : List UInt8} (h : Rd w v bs) (hb : Below w.heap.size w w') : Rd w' v bs := by
  obtain ⟨a, len, cap, hv, hl, hc, hm, hn, hx⟩ := h.ex
  refine ⟨a, len, cap, hv, hl, hc, hm, hn, fun x ha hp => ?_⟩
  obtain ⟨hs, hi⟩ := hx x ha hp
  refine ⟨hs, fun i h => ?_⟩
  rw [hb.cell (lt_of_cell (hi i h))]
  exact hi i h


/-- The number that bytes are, the most significant one first. -/
def val (l : List UInt8) : Nat := l.foldl (fun a x => a * 256 + x.toNat) 0

theorem val_snoc (l : List UInt8) (x : UInt8) : val (l ++ [x]) = val l * 256 + x.toNat := by simp [val, List.foldl_append]

theorem val_go (l : List UInt8) (a : Nat) : l.foldl (fun a x => a * 256 + x.toNat) a < (a + 1) * 256 ^ l.length := by
  induction l generalizing a with
  | nil => simp
  | cons x l ih =>
    have hx := UInt8.toNat_lt x
    have h1 := ih (a * 256 + x.toNat)
    have h2 : (a * 256 + x.toNat + 1) * 256 ^ l.length ≤ ((a + 1) * 256) * 256 ^ l.length := Nat.mul_le_mul_right _ (by omega)
    rw [List.foldl_cons, List.length_cons, Nat.pow_succ, Nat.mul_comm (256 ^ l.length) 256, ← Nat.mul_assoc]
    exact Nat.lt_of_lt_of_le h1 h2

theorem val_lt (l : List UInt8) : val l < 256 ^ l.length := by
  have := val_go l 0
  simpa [val] using this

theorem or_nat (v c : Nat) (hc : c < 256) : v * 256 ||| c = v * 256 + c := by
  have h := Nat.two_pow_add_eq_or_of_lt (i := 8) (b := c) (by omega) v
  rw [show 2 ^ 8 * v = v * 256 by omega] at h
  exact h.symm

theorem or_u64 (v c : Nat) (hv : v < 2 ^ 56) (hc : c < 256) : bits .or .u64 (IntKind.u64.wrap ((v : Int) * 256)) (IntKind.u64.wrap (c : Int)) = ((v * 256 + c : Nat) : Int) := by
  have h1 : IntKind.u64.wrap ((v : Int) * 256) = ((v * 256 : Nat) : Int) := by rw [IntKind.wrap_u64]; omega
  have h2 : IntKind.u64.wrap (c : Int) = ((c : Nat) : Int) := by rw [IntKind.wrap_u64]; omega
  rw [h1, h2, u64_or_nat _ _ (by omega) (by omega), or_nat v c hc]

theorem or_u64' (v c : Nat) (hv : v < 72057594037927936) (hc : c < 256) : bits .or .u64 ((v : Int) * 256) (c : Int) = ((v * 256 + c : Nat) : Int) := by
  have := or_u64 v c (by omega) hc
  rwa [show IntKind.u64.wrap ((v : Int) * 256) = (v : Int) * 256 by rw [IntKind.wrap_u64]; omega, show IntKind.u64.wrap (c : Int) = (c : Int) by rw [IntKind.wrap_u64]; omega] at this

theorem ofInt_i64 (a : Nat) (ha : a < 2 ^ 64) : (BitVec.ofInt 64 (a : Int)).toNat = a := by
  rw [BitVec.ofInt_natCast, BitVec.toNat_ofNat]; exact Nat.mod_eq_of_lt (by omega)

theorem or_i64 (v c : Nat) (hv : v < 2 ^ 54) (hc : c < 256) : bits .or .i64 ((v : Int) * 256) (c : Int) = ((v * 256 + c : Nat) : Int) := by
  rw [show ((v : Int) * 256) = ((v * 256 : Nat) : Int) by omega]
  show IntKind.i64.wrap ((BitVec.ofInt 64 ((v * 256 : Nat) : Int) ||| BitVec.ofInt 64 (c : Int)).toNat : Int) = _
  rw [BitVec.toNat_or, ofInt_i64 _ (by omega), ofInt_i64 _ (by omega), or_nat v c hc]
  exact IntWalk.i64_in _ (by omega)

theorem val_le (l : List UInt8) (n : Nat) (h : l.length ≤ n) : val l < 256 ^ n :=
  Nat.lt_of_lt_of_le (val_lt l) (Nat.pow_le_pow_right (by omega) h)

theorem val_sub_succ (bs : List UInt8) (t n : Nat) (h : t + n < bs.length) : val ((bs.drop t).take (n + 1)) = val ((bs.drop t).take n) * 256 + (bs.getD (t + n) 0).toNat := by
  rw [List.take_succ_eq_append_getElem (by simp; omega), val_snoc]
  simp [List.getD, List.getElem?_eq_getElem h]

/-- The bytes from t on, n of them. -/
def sub (bs : List UInt8) (t n : Nat) : List UInt8 := (bs.drop t).take n

theorem sub_succ (bs : List UInt8) (t n : Nat) (h : t + n < bs.length) : sub bs t (n + 1) = sub bs t n ++ [bs.getD (t + n) 0] := by
  unfold sub
  rw [List.take_succ_eq_append_getElem (by simp; omega)]
  simp [List.getD, List.getElem?_eq_getElem h]

theorem sub_length (bs : List UInt8) (t n : Nat) (h : t + n ≤ bs.length) : (sub bs t n).length = n := by
  unfold sub; simp; omega


/-- What a slice of integers that came in is (as the frame of a law's proof hands it over). -/
def IsRow (k : IntKind) (w : World) (a : Option Addr) (len cap : Nat) (zs : List Int) : Prop :=
  (a = none ∧ len = 0 ∧ cap = 0 ∧ zs = []) ∨
  ∃ x, a = some x ∧ len ≤ cap ∧ cap ≤ maxLen ∧ zs.length = cap ∧ (∀ i, i < zs.length → w.cell? (x.add i) = some (.int k (zs.getD i 0))) ∧ ∀ n ∈ zs, (Lit.int k n).wf = true

/-- The bytes that such numbers are. -/
def bytesOf (zs : List Int) (len : Nat) : List UInt8 := (zs.take len).map fun n => UInt8.ofNat n.toNat

theorem IsRow.rd {w : World} {a : Option Addr} {len cap : Nat} {zs : List Int} (h : IsRow .u8 w a len cap zs) : Rd w (.slice a len cap) (bytesOf zs len) ∧ (bytesOf zs len).length = len := by
  rcases h with ⟨rfl, rfl, rfl, rfl⟩ | ⟨x, rfl, hl, hm, hz, hcell, hwz⟩
  · exact ⟨⟨none, 0, 0, rfl, rfl, Nat.le_refl _, by unfold maxLen; omega, fun _ => ⟨rfl, rfl⟩, fun x hx => by cases hx⟩, rfl⟩
  · have hlen : (bytesOf zs len).length = len := by unfold bytesOf; simp; omega
    refine ⟨⟨some x, len, cap, rfl, hlen, hl, hm, (fun q => by cases q), fun y hy hp => ?_⟩, hlen⟩
    cases hy
    obtain ⟨b, off, spot⟩ := x
    have hc := hcell 0 (by omega)
    have hspot : spot = none := by simpa [Addr.add] using World.cell?_spot hc
    subst hspot
    refine ⟨rfl, fun i hi => ?_⟩
    have hadd : (⟨b, off, none⟩ : Addr).add i = ⟨b, off + i, none⟩ := by unfold Addr.add; split <;> simp_all
    have := hcell i (by omega)
    rw [hadd] at this
    rw [this]
    have hiz : i < zs.length := by omega
    have hw := hwz zs[i] (List.getElem_mem hiz)
    have hb : 0 ≤ zs[i] ∧ zs[i] ≤ 255 := by simpa [Lit.wf, IntKind.min, IntKind.max, IntKind.signed, IntKind.bits] using hw
    have e : (bytesOf zs len).getD i 0 = UInt8.ofNat (zs[i]).toNat := by
      unfold bytesOf
      simp [List.getD, List.getElem?_map, List.getElem?_take, hi, List.getElem?_eq_getElem hiz]
    rw [e]
    have e2 : zs.getD i 0 = zs[i] := by simp [List.getD, List.getElem?_eq_getElem hiz]
    rw [e2]
    have e3 : ((UInt8.ofNat (zs[i]).toNat).toNat : Int) = zs[i] := by
      simp; omega
    rw [e3]

def bstr (l : List UInt8) : ByteArray := ⟨l.toArray⟩

theorem bstr_toList (l : List UInt8) : (bstr l).data.toList = l := rfl
theorem bstr_size (l : List UInt8) : (bstr l).size = l.length := rfl

/-- The numbers that the cells of bytes hold. -/
def nums (l : List UInt8) : List Int := l.map fun u => (u.toNat : Int)

theorem nums_length (l : List UInt8) : (nums l).length = l.length := by simp [nums]

theorem nums_getD (l : List UInt8) (i : Nat) : (nums l).getD i 0 = ((l.getD i 0).toNat : Int) := by
  unfold nums
  simp only [List.getD, List.getElem?_map]
  cases l[i]? <;> simp

theorem strOfNums_nums (l : List UInt8) : strOfNums (nums l) = bstr l := by
  unfold strOfNums nums bstr
  rw [List.map_map]
  congr 2
  conv => rhs; rw [← List.map_id l]
  apply List.map_congr_left
  intro u _
  simp

theorem sub_getD (bs : List UInt8) (t n i : Nat) (h : i < n) : (sub bs t n).getD i 0 = bs.getD (t + i) 0 := by
  unfold sub
  simp [List.getD, List.getElem?_take, h]

section
variable {P : Program} (w : World)
theorem conv_sub {src e dst : TypeId} (hs : P.underlying src = some (.slice e)) (he : P.underlying e = some (.int .u8)) (hd : P.underlying dst = some .string) (b off k n cap : Nat) (bs : List UInt8)
    (hc : ∀ i, i < bs.length → w.cell? ⟨b, off + i, none⟩ = some (.int .u8 ((bs.getD i 0).toNat : Int))) (h : k + n ≤ bs.length) :
    (convert src dst (.slice (some ⟨b, off + k, none⟩) n cap)).run P w = .ok (.string (bstr (sub bs k n))) w := by
  rw [← strOfNums_nums]
  refine run_convert_bytes_arg w src e hs he b (off + k) n cap (nums (sub bs k n)) (by rw [nums_length, sub_length _ _ _ h]) ?_ dst hd
  intro i hi
  rw [nums_getD, sub_getD _ _ _ _ hi, Nat.add_assoc]
  exact hc (k + i) (by omega)

theorem conv_zero {src e dst : TypeId} (hs : P.underlying src = some (.slice e)) (he : P.underlying e = some (.int .u8)) (hd : P.underlying dst = some .string) (a : Option Addr) (cap : Nat) :
    (convert src dst (.slice a 0 cap)).run P w = .ok (.string (bstr [])) w := by
  cases a with
  | none => exact run_convert_bytes_nil w src e hs he 0 cap dst hd
  | some a =>
    rw [run_convert_bytes_string w src dst e _ 0 cap hs he hd, run_bytesToString w a 0 cap [] (by simpa using run_loadCells_list (P := P) w a [] (fun j v hj => by simp at hj))]
    rfl

/-- The bytes of a slice as a text. -/
theorem conv_rd {src e dst : TypeId} (hs : P.underlying src = some (.slice e)) (he : P.underlying e = some (.int .u8)) (hd : P.underlying dst = some .string) (v : Value) (bs : List UInt8) (h : Rd w v bs) :
    (convert src dst v).run P w = .ok (.string (bstr bs)) w := by
  obtain ⟨a, len, cap, rfl, hl, hc, hm, hn, hx⟩ := h.ex
  by_cases h0 : len = 0
  · subst h0
    obtain rfl : bs = [] := List.length_eq_zero_iff.1 hl
    exact conv_zero w hs he hd a cap
  · match a, hn, hx with
    | none, hn, _ => exact absurd (hn rfl).1 h0
    | some x, _, hx =>
      obtain ⟨hs', hi⟩ := hx x rfl (by omega)
      obtain ⟨b, off, spot⟩ := x
      simp only at hs' hi
      subst hs'
      have := conv_sub w hs he hd b off 0 len cap bs (fun i hb => hi i (by omega)) (by omega)
      have e : sub bs 0 len = bs := by unfold sub; simp [← hl]
      rw [e] at this
      exact this
end

/-- Bytes as cells. -/
def cellsOf (bs : List UInt8) : List Value := bs.map fun u => .int .u8 (u.toNat : Int)

theorem cellsOf_length (bs : List UInt8) : (cellsOf bs).length = bs.length := by simp [cellsOf]
theorem cellsOf_append (a b : List UInt8) : cellsOf (a ++ b) = cellsOf a ++ cellsOf b := by simp [cellsOf]
theorem cellsOf_one (bs : List UInt8) : ∀ u ∈ cellsOf bs, u.oneCell' = true := by
  intro u hu
  obtain ⟨_, _, rfl⟩ := List.mem_map.1 hu
  rfl
theorem cellsOf_get (bs : List UInt8) (j : Nat) (u : Value) (h : (cellsOf bs)[j]? = some u) : j < bs.length ∧ u = .int .u8 ((bs.getD j 0).toNat : Int) := by
  have hj : j < bs.length := by
    rcases Nat.lt_or_ge j bs.length with g | g
    · exact g
    · rw [List.getElem?_eq_none (by rw [cellsOf_length]; exact g)] at h; simp at h
  refine ⟨hj, ?_⟩
  simp [cellsOf, List.getElem?_eq_getElem hj] at h
  simp [List.getD, List.getElem?_eq_getElem hj, h]
theorem strCells_bstr (bs : List UInt8) : Lib.strCells (bstr bs) = cellsOf bs := rfl

/-- What the call owns reads as bytes. -/
theorem Rd.own {w : World} {base : Nat} {e : TypeId} {v : Value} {bs : List UInt8} (h : w.ownsRow base e 1 v bs.length (cellsOf bs)) : Rd w v bs := by
  rcases h.2 with ⟨rfl, hn⟩ | ⟨g, cap, cur, rfl, hb, hg, hn, hc, hs, ht⟩
  · have : bs = [] := List.length_eq_zero_iff.1 hn
    exact ⟨none, 0, 0, rfl, hn, Nat.le_refl _, by unfold maxLen; omega, fun _ => ⟨rfl, rfl⟩, fun x hx => by cases hx⟩
  · refine ⟨some ⟨g, 0, none⟩, bs.length, cap, rfl, rfl, hn, hc, (fun h => by cases h), fun x hx hp => ?_⟩
    cases hx
    refine ⟨rfl, fun i hi => ?_⟩
    rw [h.cellAt (0 + i) (by omega)]
    simp [cellsOf, List.getElem?_eq_getElem hi]

section
variable {P : Program} {w : World}
theorem wpList_append_rd {ops : Array Oper} {rest : List Oper} {o : Oper} {a : Act} {Q : Exit → Act → World → Prop} (hgd : o.guard = none) (s x : Operand) (t : TypeId)
    (ho : o.op = .call { callee := .builtin .append, args := #[s, x], argTypes := #[t, t] })
    (base : Nat) (e : TypeId) (i : TypeInfo) (ht : P.underlying t = some (.slice e)) (hi : P.info? e = some i) (hz : i.zero = some (.int .u8 0)) (hsize : i.size = 1) (hby : i.bytes = 1)
    (v : Value) (n : Nat) (xs : List Value) (hs : a.eval s = v) (hown : w.ownsRow base e 1 v n xs) (y : Value) (bs : List UInt8) (hx : a.eval x = y) (hr : Rd w y bs)
    (hlen : n + bs.length ≤ 140737488355328) (hbase : base ≤ w.heap.size)
    (h : ∀ v' w', w'.ownsRow base e 1 v' (n + bs.length) (xs ++ cellsOf bs) → w.grownBy w' v.ownBlock → wpList P ops Q rest (a.put o.dst v') w') : wpList P ops Q (o :: rest) a w := by
  obtain ⟨ao, len, cap, rfl, hl, hc, hm, hn, hcells⟩ := hr.ex
  match ao, hn, hcells with
  | none, hn, _ =>
    obtain ⟨rfl, rfl⟩ := hn rfl
    obtain rfl : bs = [] := List.length_eq_zero_iff.1 hl
    refine wpList_append_own_none hgd s x t ho base e i 1 ht hi v n xs hs hown hx ?_
    exact h v w (by simpa [cellsOf] using hown) (World.grownBy.refl _ _)
  | some ad, _, hcells =>
    refine wpList_append_own w hgd s x t ho base e i (.int .u8 0) 1 1 ht hi hz hsize hby rfl (by decide) v n xs hs hown ad len cap (cellsOf bs) hx (by rw [cellsOf_length]; omega) ?_ (cellsOf_one bs) (by unfold maxLen; omega) (by omega) hbase ?_
    · intro j u hj
      obtain ⟨hj', rfl⟩ := cellsOf_get bs j u hj
      obtain ⟨hs', hi'⟩ := hcells ad rfl (by omega)
      obtain ⟨b, off, spot⟩ := ad
      simp only at hs'
      subst hs'
      have hadd : (⟨b, off, none⟩ : Addr).add j = ⟨b, off + j, none⟩ := by unfold Addr.add; split <;> simp_all
      rw [hadd]
      exact hi' j (by omega)
    · intro v' w' h1 h2 _
      rw [← hl] at h1
      exact h v' w' h1 h2
end

end Go.Proofs.Ytnkooajbenhjhaa

/- Rows that a call owns: what stays, two that grow side by side; slices that read as cells. No program is named here. -/
set_option linter.unusedVariables false
set_option linter.unusedSimpArgs false
namespace Go.Proofs.Ytnkooajbenhjhaa
open Go.RowKit
namespace Rw

/-- What the call owns stays so while its block does. -/
theorem own_keep {w w' : World} {base : Nat} {e : TypeId} {size n : Nat} {v : Value} {xs : List Value} (h : w.ownsRow base e size v n xs) (hb : ∀ g, v.ownBlock = some g → w'.heap[g]? = w.heap[g]?) : w'.ownsRow base e size v n xs := by
  refine ⟨h.1, ?_⟩
  rcases h.2 with ⟨rfl, hn⟩ | ⟨g, cap, cur, rfl, h1, h2, h3⟩
  · exact .inl ⟨rfl, hn⟩
  · exact .inr ⟨g, cap, cur, rfl, h1, by rw [hb g rfl]; exact h2, h3⟩

theorem own_lt {w : World} {base : Nat} {e : TypeId} {size n : Nat} {v : Value} {xs : List Value} (h : w.ownsRow base e size v n xs) (g : Nat) (hg : v.ownBlock = some g) : base ≤ g ∧ g < w.heap.size := by
  rcases h.2 with ⟨rfl, hn⟩ | ⟨g', cap, cur, rfl, h1, h2, h3⟩
  · cases hg
  · have : g' = g := by simpa [Value.ownBlock] using hg
    subst this
    refine ⟨h1, ?_⟩
    rcases Nat.lt_or_ge g' w.heap.size with q | q
    · exact q
    · rw [Array.getElem?_eq_none q] at h2; cases h2

theorem own_below {w w' : World} {base : Nat} {e : TypeId} {size n : Nat} {v : Value} {xs : List Value} (h : w.ownsRow base e size v n xs) (hb : Below w.heap.size w w') : w'.ownsRow base e size v n xs :=
  own_keep h fun g hg => hb.block g (own_lt h g hg).2

theorem own_alloc {w : World} {base : Nat} {e : TypeId} {size n : Nat} {v : Value} {xs : List Value} (h : w.ownsRow base e size v n xs) (o : Obj) : (w.alloc o).ownsRow base e size v n xs :=
  own_below h (newAlloc w o)

/-- Two rows lie apart. -/
def Apart (u v : Value) : Prop := ∀ g, u.ownBlock = some g → v.ownBlock ≠ some g

theorem Apart.symm {u v : Value} (h : Apart u v) : Apart v u := fun g hv hu => h g hu hv
theorem Apart.nil (v : Value) : Apart (.slice none 0 0) v := fun g h => by cases h

theorem own_other {w w' : World} {base : Nat} {e : TypeId} {size n : Nat} {u v : Value} {xs : List Value} (h : w.ownsRow base e size v n xs) (hg : w.grownBy w' u.ownBlock) (ha : Apart u v) : w'.ownsRow base e size v n xs :=
  own_keep h fun g q => hg.block g (own_lt h g q).2 (fun e => ha g e.symm q)

theorem apart_grown {w : World} {base : Nat} {e : TypeId} {size n : Nat} {u u' v : Value} {xs : List Value} (h : w.ownsRow base e size v n xs) (ha : Apart u v) (hat : u'.ownBlock = u.ownBlock ∨ u'.ownBlock = some w.heap.size) : Apart u' v := by
  intro g hg hv
  rcases hat with q | q
  · exact ha g (by rw [← q]; exact hg) hv
  · have := (own_lt h g hv).2
    rw [hg] at q
    injection q with q
    omega

theorem below_grown {B : Nat} {a w w' : World} {base : Nat} {e : TypeId} {size n : Nat} {v : Value} {xs : List Value} (h : Below B a w) (ho : w.ownsRow base e size v n xs) (hg : w.grownBy w' v.ownBlock) (hB : B ≤ base) (hs : B ≤ w.heap.size) : Below B a w' :=
  h.grown hg hs fun k hk => Nat.le_trans hB (own_lt ho k hk).1

theorem own_form {w : World} {base : Nat} {e : TypeId} {size n : Nat} {v : Value} {xs : List Value} (h : w.ownsRow base e size v n xs) : ∃ a c, v = .slice a n c := by
  rcases h.2 with ⟨rfl, hn⟩ | ⟨g, cap, cur, rfl, _⟩
  · subst hn; exact ⟨none, 0, rfl⟩
  · exact ⟨_, _, rfl⟩

/-- The slice v of n elements reads as these cells. -/
def RdN (w : World) (v : Value) (n : Nat) (xs : List Value) : Prop :=
  ∃ a cap, v = .slice a n cap ∧ n ≤ cap ∧ cap ≤ maxLen ∧ (a = none → n = 0 ∧ cap = 0) ∧ ∀ x, a = some x → 0 < n → x.spot = none ∧ ∀ i u, xs[i]? = some u → w.cell? ⟨x.block, x.off + i, none⟩ = some u

theorem RdN.later {w w' : World} {v : Value} {n : Nat} {xs : List Value} (h : RdN w v n xs) (hb : Below w.heap.size w w') : RdN w' v n xs := by
  obtain ⟨a, cap, hv, h1, h2, h3, h4⟩ := h
  refine ⟨a, cap, hv, h1, h2, h3, fun x hx hp => ?_⟩
  obtain ⟨hs, hc⟩ := h4 x hx hp
  exact ⟨hs, fun i u hi => by rw [hb.cell (p := ⟨x.block, x.off + i, none⟩) (lt_of_cell (hc i u hi))]; exact hc i u hi⟩

theorem RdN.own {w : World} {base : Nat} {e : TypeId} {size n : Nat} {v : Value} {xs : List Value} (h : w.ownsRow base e size v n xs) : RdN w v n xs := by
  rcases h.2 with ⟨rfl, hn⟩ | ⟨g, cap, cur, rfl, hb, hg, hn, hc, hs, ht⟩
  · exact ⟨none, 0, by rw [hn], by omega, by unfold maxLen; omega, fun _ => ⟨hn, rfl⟩, fun x hx => by cases hx⟩
  · refine ⟨some ⟨g, 0, none⟩, cap, rfl, hn, hc, (fun q => by cases q), fun x hx hp => ?_⟩
    cases hx
    refine ⟨rfl, fun i u hi => ?_⟩
    have hil : i < xs.length := (List.getElem?_eq_some_iff.1 hi).1
    rw [h.1] at hil
    have := h.cellAt (0 + i) (by rw [Nat.zero_add]; exact hil)
    rw [this, Nat.zero_add]
    exact hi

/-- What reads as bytes in a block that does not grow reads so still. -/
theorem rd_other {w w' : World} {u : Value} {g n cap : Nat} {bs : List UInt8} (h : Rd w (.slice (some ⟨g, 0, none⟩) n cap) bs) (hl : g < w.heap.size) (hg : w.grownBy w' u.ownBlock) (hne : u.ownBlock ≠ some g) : Rd w' (.slice (some ⟨g, 0, none⟩) n cap) bs := by
  have hb := hg.block g hl (fun e => hne e.symm)
  obtain ⟨a, len, c, hv, hle, hc, hmx, hn, hx⟩ := h.ex
  cases hv
  refine ⟨some ⟨g, 0, none⟩, n, cap, rfl, hle, hc, hmx, (fun q => by cases q), fun x hx' hp => ?_⟩
  cases hx'
  obtain ⟨h1, h2⟩ := hx _ rfl hp
  refine ⟨rfl, fun i hi => ?_⟩
  rw [World.cell?_of_block (w := w) (a := ⟨g, 0 + i, none⟩) hb]
  exact h2 i hi

theorem own_ne {w : World} {base : Nat} {e : TypeId} {size n : Nat} {v : Value} {xs : List Value} (h : w.ownsRow base e size v n xs) {g : Nat} (hg : w.heap.size ≤ g) : v.ownBlock ≠ some g := fun q => by
  have := (own_lt h g q).2
  omega

section
variable {P : Program} {w : World}
/-- Bytes appended to what the call owns: and where they lie. -/
theorem wpList_append_rd_at {ops : Array Oper} {rest : List Oper} {o : Oper} {a : Act} {Q : Exit → Act → World → Prop} (hgd : o.guard = none) (s x : Operand) (t : TypeId)
    (ho : o.op = .call { callee := .builtin .append, args := #[s, x], argTypes := #[t, t] })
    (base : Nat) (e : TypeId) (i : TypeInfo) (ht : P.underlying t = some (.slice e)) (hi : P.info? e = some i) (hz : i.zero = some (.int .u8 0)) (hsize : i.size = 1) (hby : i.bytes = 1)
    (v : Value) (n : Nat) (xs : List Value) (hs : a.eval s = v) (hown : w.ownsRow base e 1 v n xs) (y : Value) (bs : List UInt8) (hx : a.eval x = y) (hr : Rd w y bs)
    (hlen : n + bs.length ≤ 140737488355328) (hbase : base ≤ w.heap.size)
    (h : ∀ v' w', w'.ownsRow base e 1 v' (n + bs.length) (xs ++ cellsOf bs) → w.grownBy w' v.ownBlock → (v'.ownBlock = v.ownBlock ∨ v'.ownBlock = some w.heap.size) → wpList P ops Q rest (a.put o.dst v') w') : wpList P ops Q (o :: rest) a w := by
  obtain ⟨ao, len, cap, rfl, hl, hc, hm, hn, hcells⟩ := hr.ex
  match ao, hn, hcells with
  | none, hn, _ =>
    obtain ⟨rfl, rfl⟩ := hn rfl
    obtain rfl : bs = [] := List.length_eq_zero_iff.1 hl
    refine wpList_append_own_none hgd s x t ho base e i 1 ht hi v n xs hs hown hx ?_
    exact h v w (by simpa [cellsOf] using hown) (World.grownBy.refl _ _) (.inl rfl)
  | some ad, _, hcells =>
    refine wpList_append_own_at w hgd s x t ho base e i (.int .u8 0) 1 1 ht hi hz hsize hby rfl (by decide) v n xs hs hown ad len cap (cellsOf bs) hx (by rw [cellsOf_length]; omega) ?_ (cellsOf_one bs) (by unfold maxLen; omega) (by omega) hbase ?_
    · intro j u hj
      obtain ⟨hj', rfl⟩ := cellsOf_get bs j u hj
      obtain ⟨hs', hi'⟩ := hcells ad rfl (by omega)
      obtain ⟨b, off, spot⟩ := ad
      simp only at hs'
      subst hs'
      have hadd : (⟨b, off, none⟩ : Addr).add j = ⟨b, off + j, none⟩ := by unfold Addr.add; split <;> simp_all
      rw [hadd]
      exact hi' j (by omega)
    · intro v' w' h1 h2 _ h4
      rw [← hl] at h1
      exact h v' w' h1 h2 h4
end
end Rw
end Go.Proofs.Ytnkooajbenhjhaa

/- Slices that read as lists, whatever their elements are: f x: the cells of one element, sz of them. No program is named here. -/
set_option linter.unusedVariables false
set_option linter.unusedSimpArgs false
namespace Go.Proofs.Ytnkooajbenhjhaa
open Go.RowKit

section
variable {α : Type}
/-- The slice v reads as this list. -/
structure RdX (sz : Nat) (f : α → List Value) (w : World) (v : Value) (l : List α) : Prop where
  ex : ∃ a cap, v = .slice a l.length cap ∧ l.length ≤ cap ∧ cap ≤ maxLen ∧ (a = none → l = [] ∧ cap = 0) ∧
    ∀ x, a = some x → l ≠ [] → x.spot = none ∧ ∀ i (h : i < l.length) k u, (f l[i])[k]? = some u → w.cell? ⟨x.block, x.off + (i * sz + k), none⟩ = some u

variable {sz : Nat} {f : α → List Value}
theorem RdX.later {w w' : World} {v : Value} {l : List α} (h : RdX sz f w v l) (hb : Below w.heap.size w w') : RdX sz f w' v l := by
  obtain ⟨a, cap, hv, h1, h2, h3, h4⟩ := h.ex
  refine ⟨a, cap, hv, h1, h2, h3, fun x hx hp => ?_⟩
  obtain ⟨hs, hc⟩ := h4 x hx hp
  refine ⟨hs, fun i hi k u hu => ?_⟩
  have c := hc i hi k u hu
  exact (hb.cell (lt_of_cell c)).trans c

theorem RdX.nil (w : World) : RdX sz f w (.slice none 0 0) [] := ⟨none, 0, rfl, Nat.le_refl _, by unfold maxLen; omega, fun _ => ⟨rfl, rfl⟩, fun x hx => by cases hx⟩

theorem RdX.len {w : World} {v : Value} {l : List α} (h : RdX sz f w v l) : l.length ≤ 9223372036854775807 := by
  obtain ⟨a, cap, hv, h1, h2, h3, h4⟩ := h.ex
  unfold maxLen at h2
  omega

theorem RdX.form {w : World} {v : Value} {l : List α} (h : RdX sz f w v l) : ∃ a cap, v = .slice a l.length cap := by
  obtain ⟨a, cap, hv, _⟩ := h.ex
  exact ⟨a, cap, hv⟩

/-- The i-th element's cells, in whatever later world; where the slice lies. -/
theorem RdX.at {w : World} {a : Option Addr} {n cap : Nat} {l : List α} (h : RdX sz f w (.slice a n cap) l) (i : Nat) (hi : i < l.length) :
    ∃ b o, a = some ⟨b, o, none⟩ ∧ ∀ w' : World, Below w.heap.size w w' → ∀ k u, (f l[i])[k]? = some u → w'.cell? ⟨b, o + (i * sz + k), none⟩ = some u := by
  obtain ⟨a', cap', hv, h1, h2, h3, h4⟩ := h.ex
  cases hv
  match a, h3, h4 with
  | none, h3, _ => have := (h3 rfl).1; subst this; simp at hi
  | some ⟨b, o, sp⟩, _, h4 =>
    obtain ⟨hs, hc⟩ := h4 _ rfl (by intro q; subst q; simp at hi)
    simp only at hs
    subst hs
    exact ⟨b, o, rfl, fun w' hb k u hu => by
      have c := hc i hi k u hu
      exact (hb.cell (lt_of_cell c)).trans c⟩

/-- All cells, one element behind the other. -/
def flatX (f : α → List Value) (l : List α) : List Value := l.flatMap f

theorem flatX_nil : flatX f ([] : List α) = [] := rfl
theorem flatX_cons (x : α) (l : List α) : flatX f (x :: l) = f x ++ flatX f l := rfl
theorem flatX_snoc (l : List α) (x : α) : flatX f (l ++ [x]) = flatX f l ++ f x := by simp [flatX]
theorem flatX_append (l m : List α) : flatX f (l ++ m) = flatX f l ++ flatX f m := by simp [flatX]

theorem flatX_length (hf : ∀ x, (f x).length = sz) : ∀ l : List α, (flatX f l).length = l.length * sz
  | [] => by simp [flatX]
  | x :: l => by rw [flatX_cons, List.length_append, hf, flatX_length hf l, List.length_cons, Nat.add_mul]; omega

theorem flatX_get (hf : ∀ x, (f x).length = sz) : ∀ (l : List α) (i : Nat) (h : i < l.length) (k : Nat), k < sz → (flatX f l)[i * sz + k]? = (f l[i])[k]?
  | x :: l, 0, _, k, hk => by
    rw [flatX_cons, Nat.zero_mul, Nat.zero_add, List.getElem?_append_left (by rw [hf]; exact hk)]
    rfl
  | x :: l, i + 1, h, k, hk => by
    have := flatX_get hf l i (by simpa using h) k hk
    rw [flatX_cons, List.getElem?_append_right (by rw [hf, Nat.add_mul]; omega), hf, show (i + 1) * sz + k - sz = i * sz + k by rw [Nat.add_mul]; omega]
    exact this

theorem RdX.own (hf : ∀ x, (f x).length = sz) {w : World} {base : Nat} {e : TypeId} {v : Value} {l : List α} (h : w.ownsRow base e sz v l.length (flatX f l)) : RdX sz f w v l := by
  rcases h.2 with ⟨rfl, hn⟩ | ⟨g, cap, cur, rfl, hb, hg, hn, hc, hs, ht⟩
  · have : l = [] := List.length_eq_zero_iff.1 hn
    subst this
    exact RdX.nil w
  · refine ⟨some ⟨g, 0, none⟩, cap, rfl, hn, hc, (fun q => by cases q), fun x hx hp => ?_⟩
    cases hx
    refine ⟨rfl, fun i hi k u hu => ?_⟩
    have hk : k < sz := by rw [← hf l[i]]; exact (List.getElem?_eq_some_iff.1 hu).1
    have a1 := h.cellAt (i * sz + k) (by
      have : i * sz + sz ≤ l.length * sz := by rw [← Nat.succ_mul]; exact Nat.mul_le_mul_right _ hi
      omega)
    rw [flatX_get hf l i hi k hk] at a1
    simp only [Nat.zero_add]
    exact a1.trans hu

/-- The cells that an append of the slice takes. -/
theorem RdX.news (hf : ∀ x, (f x).length = sz) (hsz : 0 < sz) {w : World} {b o n cap : Nat} {l : List α} (h : RdX sz f w (.slice (some ⟨b, o, none⟩) n cap) l) : ∀ j u, (flatX f l)[j]? = some u → w.cell? ((⟨b, o, none⟩ : Addr).add j) = some u := by
  intro j u hu
  have hj : j < (flatX f l).length := (List.getElem?_eq_some_iff.1 hu).1
  rw [flatX_length hf] at hj
  have hadd : (⟨b, o, none⟩ : Addr).add j = ⟨b, o + j, none⟩ := by unfold Addr.add; split <;> simp_all
  rw [hadd]
  have hi : j / sz < l.length := by rw [Nat.div_lt_iff_lt_mul hsz]; exact hj
  have hk : j % sz < sz := Nat.mod_lt _ hsz
  have he : j / sz * sz + j % sz = j := by rw [Nat.mul_comm]; exact Nat.div_add_mod j sz
  obtain ⟨b', o', e, c⟩ := h.at (j / sz) hi
  cases e
  have g := flatX_get hf l (j / sz) hi (j % sz) hk
  rw [he, hu] at g
  have := c w (Below.refl _ _) (j % sz) u g.symm
  rw [he] at this
  exact this

/-- One element appended to a row of one's own: what has been laid for it is W's next block. -/
theorem wpList_append_one (hf : ∀ x, (f x).length = sz) (hsz : 0 < sz) {P : Program} {ops : Array Oper} {rest : List Oper} {o : Oper} {a : Act} {Q : Exit → Act → World → Prop} {W : World} (hgd : o.guard = none) (s x : Operand) (t : TypeId)
    (ho : o.op = .call { callee := .builtin .append, args := #[s, x], argTypes := #[t, t] })
    (e : TypeId) (i : TypeInfo) (z : Value) (bytes : Nat) (ht : P.underlying t = some (.slice e)) (hi : P.info? e = some i) (hz : i.zero = some z) (hsize : i.size = sz) (hby : i.bytes = bytes) (hzs : z.cells.size = sz)
    (cs : Array Value) (y : α) (hcs : cs.toList = f y) (h1 : ∀ u ∈ f y, u.oneCell' = true) (M : List α) (base B : Nat) (w0 : World) (m : Value) (hs : a.eval s = m) (hx : a.eval x = .slice (some ⟨W.heap.size, 0, none⟩) 1 1)
    (hown : W.ownsRow base e sz m M.length (flatX f M)) (h63 : M.length + 1 ≤ maxLen) (hlen : (M.length + 1) * bytes ≤ 140737488355328) (hbase : base ≤ W.heap.size) (hB : Below B w0 W) (hBb : B ≤ base)
    (h : ∀ v' w', w'.ownsRow base e sz v' (M ++ [y]).length (flatX f (M ++ [y])) → Below B w0 w' → (v'.ownBlock = m.ownBlock ∨ v'.ownBlock = some (W.heap.size + 1)) → wpList P ops Q rest (a.put o.dst v') w') :
    wpList P ops Q (o :: rest) a (W.alloc (.cells cs e)) := by
  have hz1 : (W.alloc (.cells cs e)).heap.size = W.heap.size + 1 := by simp
  refine wpList_append_own_at (W.alloc (.cells cs e)) hgd s x t ho base e i z sz bytes ht hi hz hsize hby hzs hsz m M.length (flatX f M) hs (Rw.own_alloc hown _) ⟨W.heap.size, 0, none⟩ 1 1 (f y) hx (by rw [hf]; omega) ?_ h1 h63 hlen (by rw [hz1]; omega) ?_
  · rw [← hcs]
    exact World.news_of_block (w := W.alloc (.cells cs e)) (B := W.heap.size) (cs := cs) (t := e) (fr := (0, 0)) (by show (W.heap.push _)[W.heap.size]? = _; simp)
  · intro v' w' ho' hg _ hat
    refine h v' w' ?_ ((hB.alloc (Nat.le_trans hBb hbase) _).grown hg (by rw [hz1]; omega) (fun k hk => ?_)) (by rw [hz1] at hat; exact hat)
    · rw [List.length_append, flatX_snoc]
      exact ho'
    · have := (Rw.own_lt hown k hk).1
      omega

/-- A new row of none. -/
theorem own_new (w : World) (e : TypeId) (sz base H : Nat) (hH : w.heap.size = H) (hb : base ≤ H) : (w.alloc (.cells #[] e)).ownsRow base e sz (.slice (some ⟨H, 0, none⟩) 0 0) 0 [] := by
  subst hH
  have h := World.ownsRow_lit (base := w.heap.size) (e := e) (size := sz) w #[] 0 (Nat.le_refl _) (by unfold maxLen; omega) (by simp)
  refine ⟨h.1, ?_⟩
  rcases h.2 with q | ⟨g, cap, cur, h1, h2, r⟩
  · exact .inl q
  · exact .inr ⟨g, cap, cur, h1, Nat.le_trans hb h2, r⟩

theorem set_at {β : Type} (a b : List β) (k : Nat) (u : β) (h : k < b.length) : (a ++ b).set (a.length + k) u = a ++ b.set k u := by
  rw [List.set_append_right _ _ (by omega)]
  congr 2
  omega

/-- One cell of one element written over. -/
theorem flatX_set (hf : ∀ x, (f x).length = sz) (k : Nat) (u : Value) (hk : k < sz) (y : α) : ∀ (l : List α) (i : Nat) (h : i < l.length), (f l[i]).set k u = f y → (flatX f l).set (i * sz + k) u = flatX f (l.set i y)
  | x :: l, 0, _, e => by
    rw [flatX_cons, Nat.zero_mul, Nat.zero_add, List.set_append_left _ _ (by rw [hf]; exact hk)]
    show (f x).set k u ++ _ = flatX f (y :: l)
    rw [flatX_cons]
    congr 1
  | x :: l, i + 1, h, e => by
    have := flatX_set hf k u hk y l i (by simpa using h) e
    rw [flatX_cons, show (i + 1) * sz + k = (f x).length + (i * sz + k) by rw [hf, Nat.add_mul]; omega, set_at _ _ _ _ (by
      rw [flatX_length hf]
      have hi : i < l.length := by simpa using h
      have : i * sz + sz ≤ l.length * sz := by rw [← Nat.succ_mul]; exact Nat.mul_le_mul_right _ hi
      omega), this]
    rfl

theorem own_lowerX {w : World} {base base' : Nat} {e : TypeId} {size n : Nat} {v : Value} {xs : List Value} (h : w.ownsRow base e size v n xs) (hb : base' ≤ base) : w.ownsRow base' e size v n xs := by
  refine ⟨h.1, ?_⟩
  rcases h.2 with q | ⟨g, cap, cur, h1, h2, r⟩
  · exact .inl q
  · exact .inr ⟨g, cap, cur, h1, Nat.le_trans hb h2, r⟩

/-- What an append onto a new row of none has made. -/
theorem row_shape {w : World} {base m : Nat} {e : TypeId} {v : Value} {l : List α} (hm : l.length = m) (h0 : 0 < m) (ho : w.ownsRow base e sz v (0 + m) ([] ++ flatX f l)) :
    ∃ g cap, v = .slice (some ⟨g, 0, none⟩) m cap ∧ base ≤ g ∧ w.ownsRow base e sz (.slice (some ⟨g, 0, none⟩) m cap) m (flatX f l) := by
  rw [List.nil_append, Nat.zero_add] at ho
  rcases ho.2 with ⟨_, h'⟩ | ⟨g, cap, cur, rfl, hb, hg, hc, _⟩
  · omega
  · exact ⟨g, cap, rfl, hb, ho⟩

/-- The same at a step of a region that draws its order (behind the draw: what is laid, then '.drew'). -/
theorem step_append_one (hf : ∀ x, (f x).length = sz) (hsz : 0 < sz) {P : Program} {ops : Array Oper} {o : Oper} {a : Act} {K : Act → World → Prop} {Q : Exit → Act → World → Prop} {E : Prop} {W : World} (hgd : o.guard = none) (s x : Operand) (t : TypeId)
    (ho : o.op = .call { callee := .builtin .append, args := #[s, x], argTypes := #[t, t] })
    (e : TypeId) (i : TypeInfo) (z : Value) (bytes : Nat) (ht : P.underlying t = some (.slice e)) (hi : P.info? e = some i) (hz : i.zero = some z) (hsize : i.size = sz) (hby : i.bytes = bytes) (hzs : z.cells.size = sz)
    (cs : Array Value) (y : α) (hcs : cs.toList = f y) (h1 : ∀ u ∈ f y, u.oneCell' = true) (M : List α) (base B : Nat) (w0 : World) (m : Value) (hs : a.eval s = m) (hx : a.eval x = .slice (some ⟨W.heap.size, 0, none⟩) 1 1)
    (hown : W.ownsRow base e sz m M.length (flatX f M)) (h63 : M.length + 1 ≤ maxLen) (hlen : (M.length + 1) * bytes ≤ 140737488355328) (hbase : base ≤ W.heap.size) (hB : Below B w0 W) (hBb : B ≤ base)
    (h : ∀ v' w', w'.ownsRow base e sz v' (M ++ [y]).length (flatX f (M ++ [y])) → Below B w0 w' → (W.alloc (.cells cs e)).drew.grownBy w' m.ownBlock → K (a.put o.dst v') w') :
    if Region.wanted o (yielded ops a.tmps) = true then Oper.wp P o a (W.alloc (.cells cs e)).drew K Q else E := by
  have hw : Region.wanted o (yielded ops a.tmps) = true := by simp [Region.wanted, hgd]
  rw [if_pos hw]
  have hz1 : (W.alloc (.cells cs e)).drew.heap.size = W.heap.size + 1 := by simp
  refine wp_append_own (W.alloc (.cells cs e)).drew s x t ho base e i z sz bytes ht hi hz hsize hby hzs hsz m M.length (flatX f M) hs (Rw.own_alloc hown _) ⟨W.heap.size, 0, none⟩ 1 1 (f y) hx (by rw [hf]; omega) ?_ h1 h63 hlen (by rw [hz1]; omega) ?_
  · rw [← hcs]
    exact World.news_of_block (w := (W.alloc (.cells cs e)).drew) (B := W.heap.size) (cs := cs) (t := e) (fr := (0, 0)) (by show (W.heap.push _)[W.heap.size]? = _; simp)
  · intro v' w' ho' hg _
    refine h v' w' ?_ (((hB.alloc (Nat.le_trans hBb hbase) _).drew).grown hg (by rw [hz1]; omega) (fun k hk => ?_)) hg
    · rw [List.length_append, flatX_snoc]
      exact ho'
    · have := (Rw.own_lt hown k hk).1
      omega

/-- Where a row of some lies. -/
theorem own_some {w : World} {base n cap : Nat} {e : TypeId} {a : Option Addr} {xs : List Value} (h : w.ownsRow base e sz (.slice a n cap) n xs) (h0 : 0 < n) : ∃ g, a = some ⟨g, 0, none⟩ ∧ base ≤ g := by
  rcases h.2 with ⟨q, hn⟩ | ⟨g, cap', cur, h1, h2, _⟩
  · omega
  · cases h1
    exact ⟨g, rfl, h2⟩
end
end Go.Proofs.Ytnkooajbenhjhaa

/- Slices that read as lists: parts of them; appended to a row of one's own. No program is named here. -/
set_option linter.unusedVariables false
set_option linter.unusedSimpArgs false
namespace Go.Proofs.Ytnkooajbenhjhaa
open Go.RowKit

section
variable {α : Type} {sz : Nat} {f : α → List Value}

/-- The first k. -/
theorem RdX.take {w : World} {a : Option Addr} {n cap : Nat} {l : List α} (h : RdX sz f w (.slice a n cap) l) (k : Nat) (hk : k ≤ n) : RdX sz f w (.slice a k cap) (l.take k) := by
  obtain ⟨a', cap', hv, h1, h2, h3, h4⟩ := h.ex
  cases hv
  have hl : (l.take k).length = k := by rw [List.length_take]; omega
  refine ⟨a, cap, by rw [hl], by rw [hl]; omega, h2, fun q => ?_, fun x hx hne => ?_⟩
  · obtain ⟨q1, q2⟩ := h3 q
    subst q1
    exact ⟨by simp, q2⟩
  · obtain ⟨hs, hc⟩ := h4 x hx (by intro q; subst q; simp at hne)
    refine ⟨hs, fun i hi j u hu => ?_⟩
    have hi' : i < l.length := by rw [List.length_take] at hi; omega
    exact hc i hi' j u (by rw [← hu, List.getElem_take])

/-- Those from k on. -/
theorem RdX.drop (hsz : 0 < sz) {w : World} {a : Option Addr} {n cap : Nat} {l : List α} (h : RdX sz f w (.slice a n cap) l) (k : Nat) (hk : k ≤ n) :
    RdX sz f w (.slice (if cap = k then a else a.map (·.add (k * sz))) (n - k) (cap - k)) (l.drop k) := by
  obtain ⟨a', cap', hv, h1, h2, h3, h4⟩ := h.ex
  cases hv
  have hl : (l.drop k).length = l.length - k := List.length_drop
  refine ⟨_, cap - k, by rw [hl], by rw [hl]; omega, by omega, fun q => ?_, fun x hx hne => ?_⟩
  · have q' : a = none := by
      split at q
      · exact q
      · cases a <;> simp_all
    obtain ⟨q1, q2⟩ := h3 q'
    subst q1
    exact ⟨by simp, by omega⟩
  · have hkl : k < l.length := by
      rcases Nat.lt_or_ge k l.length with g | g
      · exact g
      · exact absurd (List.drop_eq_nil_of_le g) hne
    rw [if_neg (by omega)] at hx
    match a, hx, h4 with
    | some y, hx, h4 =>
      obtain ⟨hs, hc⟩ := h4 y rfl (by intro q; subst q; simp at hkl)
      obtain ⟨b, o, sp⟩ := y
      simp only at hs
      subst hs
      have hadd : (⟨b, o, none⟩ : Addr).add (k * sz) = ⟨b, o + k * sz, none⟩ := by unfold Addr.add; split <;> simp_all
      simp only [Option.map_some, hadd] at hx
      cases hx
      refine ⟨rfl, fun i hi j u hu => ?_⟩
      have hi' : k + i < l.length := by rw [hl] at hi; omega
      have e : (l.drop k)[i] = l[k + i] := List.getElem_drop
      have := hc (k + i) hi' j u (by rw [← hu, e])
      have e2 : o + ((k + i) * sz + j) = o + k * sz + (i * sz + j) := by rw [Nat.add_mul]; omega
      simp only at this ⊢
      rw [← e2]
      exact this

/-- A slice laid as it stands, of one. -/
theorem RdX.one {w : World} {b : Nat} {cs : Array Value} {t : TypeId} {y : α} (h : w.heap[b]? = some (.cells cs t)) (hcs : cs.toList = f y) : RdX sz f w (.slice (some ⟨b, 0, none⟩) 1 1) [y] := by
  refine ⟨some ⟨b, 0, none⟩, 1, rfl, Nat.le_refl _, by unfold maxLen; omega, (fun q => by cases q), fun x hx hp => ?_⟩
  cases hx
  refine ⟨rfl, fun i hi k u hu => ?_⟩
  obtain rfl : i = 0 := by simpa using hi
  have hu : (f y)[k]? = some u := hu
  rw [← hcs] at hu
  simp only [Nat.zero_mul, Nat.zero_add]
  simpa [World.cell?, h] using hu

theorem flatX_one (h1 : ∀ x : α, ∀ u ∈ f x, u.oneCell' = true) (l : List α) : ∀ u ∈ flatX f l, u.oneCell' = true := by
  intro u hu
  unfold flatX at hu
  obtain ⟨x, _, hx⟩ := List.mem_flatMap.1 hu
  exact h1 x u hx

/-- What reads as a list, appended to a row of one's own. -/
theorem wpList_append_rdx (hf : ∀ x, (f x).length = sz) (hsz : 0 < sz) (h1 : ∀ x : α, ∀ u ∈ f x, u.oneCell' = true) {P : Program} {w : World} {ops : Array Oper} {rest : List Oper} {o : Oper} {a : Act} {Q : Exit → Act → World → Prop} (hgd : o.guard = none) (s x : Operand) (t : TypeId)
    (ho : o.op = .call { callee := .builtin .append, args := #[s, x], argTypes := #[t, t] })
    (base : Nat) (e : TypeId) (i : TypeInfo) (z : Value) (bytes : Nat) (ht : P.underlying t = some (.slice e)) (hi : P.info? e = some i) (hz : i.zero = some z) (hsize : i.size = sz) (hby : i.bytes = bytes) (hzs : z.cells.size = sz)
    (v : Value) (n : Nat) (xs : List Value) (hs : a.eval s = v) (hown : w.ownsRow base e sz v n xs) (y : Value) (l : List α) (hx : a.eval x = y) (hr : RdX sz f w y l)
    (h63 : n + l.length ≤ maxLen) (hlen : (n + l.length) * bytes ≤ 140737488355328) (hbase : base ≤ w.heap.size)
    (h : ∀ v' w', w'.ownsRow base e sz v' (n + l.length) (xs ++ flatX f l) → w.grownBy w' v.ownBlock → wpList P ops Q rest (a.put o.dst v') w') : wpList P ops Q (o :: rest) a w := by
  obtain ⟨ao, cap, rfl, hc, hm, hn, hcells⟩ := hr.ex
  match ao, hn, hcells, hx, hr with
  | none, hn, _, hx, _ =>
    obtain ⟨rfl, rfl⟩ := hn rfl
    refine wpList_append_own_none hgd s x t ho base e i sz ht hi v n xs hs hown hx ?_
    exact h v w (by simpa [flatX] using hown) (World.grownBy.refl _ _)
  | some ad, _, hcells, hx, hr =>
    refine wpList_append_own w hgd s x t ho base e i z sz bytes ht hi hz hsize hby hzs hsz v n xs hs hown ad l.length cap (flatX f l) hx (by rw [flatX_length hf]) ?_ (flatX_one h1 l) h63 hlen hbase (fun v' w' h1 h2 _ => h v' w' h1 h2)
    intro j u hj
    have hl : l ≠ [] := by
      intro q
      subst q
      simp [flatX] at hj
    obtain ⟨hs', _⟩ := hcells ad rfl hl
    obtain ⟨b, off, spot⟩ := ad
    simp only at hs'
    subst hs'
    exact hr.news hf hsz j u hj
end
end Go.Proofs.Ytnkooajbenhjhaa

/- Contracts of package octet's small readers. -/
set_option linter.unusedVariables false
set_option linter.unusedSimpArgs false
namespace Go.Proofs.Ytnkooajbenhjhaa
open Go.RowKit




end Go.Proofs.Ytnkooajbenhjhaa

/- Contracts of package octet's readers: readByte, readText, readEnd. -/
set_option linter.unusedVariables false
set_option linter.unusedSimpArgs false
namespace Go.Proofs.Ytnkooajbenhjhaa
open Go.RowKit

















end Go.Proofs.Ytnkooajbenhjhaa

/- Contracts: codeOf and the deferred closures of package octet. -/
set_option linter.unusedVariables false
set_option linter.unusedSimpArgs false
namespace Go.Proofs.Ytnkooajbenhjhaa
open Go.RowKit











end Go.Proofs.Ytnkooajbenhjhaa

/- Contracts of package octet's exported readers. -/
set_option linter.unusedVariables false
set_option linter.unusedSimpArgs false
namespace Go.Proofs.Ytnkooajbenhjhaa
open Go.RowKit

/-- What a reading of a number from t on comes to: the number, the place behind it, the code. -/
def numOf (bs : List UInt8) (t : Int) : Int × Int × Int :=
  if t < 0 ∨ (bs.length : Int) < t + 8 then (0, 0, 2) else if val (sub bs t.toNat 8) < 2 ^ 62 then ((val (sub bs t.toNat 8) : Int), t + 8, 0) else (0, 0, 4)

def byteOf (bs : List UInt8) (t : Int) : Int × Int × Int :=
  if t < 0 ∨ (bs.length : Int) ≤ t then (0, 0, 2) else (((bs.getD t.toNat 0).toNat : Int), t + 1, 0)

def textOf (bs : List UInt8) (t m : Int) : List UInt8 × Int × Int :=
  if t < 0 ∨ (bs.length : Int) ≤ t then ([], 0, 2) else
  if m < ((bs.getD t.toNat 0).toNat : Int) then ([], 0, 3) else
  if (bs.length : Int) < t + 1 + (bs.getD t.toNat 0).toNat then ([], 0, 2) else
  (sub bs (t.toNat + 1) (bs.getD t.toNat 0).toNat, t + 1 + (bs.getD t.toNat 0).toNat, 0)

def endOf (bs : List UInt8) (t : Int) : Int :=
  if t < 0 ∨ (bs.length : Int) < t then 2 else if t < (bs.length : Int) then 3 else 0

/-- Three numbers told, nothing that was there has turned. -/
def Three (r : Int × Int × Int) (w : World) (e : Ending) (w' : World) : Prop :=
  e = .returned (.tuple #[.int .i64 r.1, .int .i64 r.2.1, .int .i64 r.2.2]) ∧ Below w.heap.size w w'

/-- A text, a place and a code told. -/
def TextTold (r : List UInt8 × Int × Int) (w : World) (e : Ending) (w' : World) : Prop :=
  e = .returned (.tuple #[.string (bstr r.1), .int .i64 r.2.1, .int .i64 r.2.2]) ∧ Below w.heap.size w w'

def OneTold (r : Int) (w : World) (e : Ending) (w' : World) : Prop :=
  e = .returned (.int .i64 r) ∧ Below w.heap.size w w'

theorem made_func (fn : Fn) (first cap : Array Value) (w : World) : (Instr.makeFunc fn first cap).run Try.prog w = .ok (.func fn first cap) w := rfl

















end Go.Proofs.Ytnkooajbenhjhaa

/- Contracts of package octet's writers. -/
set_option linter.unusedVariables false
set_option linter.unusedSimpArgs false
namespace Go.Proofs.Ytnkooajbenhjhaa
open Go.RowKit

/-- The bytes of a number, the most significant one first: the i-th of eight. -/
def beByte (n i : Nat) : Nat := n / 256 ^ (7 - i) % 256

def be8 (n : Nat) : List UInt8 := [UInt8.ofNat (beByte n 0), UInt8.ofNat (beByte n 1), UInt8.ofNat (beByte n 2), UInt8.ofNat (beByte n 3), UInt8.ofNat (beByte n 4), UInt8.ofNat (beByte n 5), UInt8.ofNat (beByte n 6), UInt8.ofNat (beByte n 7)]

/-- The row of eight cells of which the last k are laid. -/
def beCell (n k i : Nat) : Value := .int .u8 (if 8 - k ≤ i then (beByte n i : Int) else 0)
def beArr (n k : Nat) : Array Value := #[beCell n k 0, beCell n k 1, beCell n k 2, beCell n k 3, beCell n k 4, beCell n k 5, beCell n k 6, beCell n k 7]

theorem beArr_zero (n : Nat) : beArr n 0 = #[.int .u8 0, .int .u8 0, .int .u8 0, .int .u8 0, .int .u8 0, .int .u8 0, .int .u8 0, .int .u8 0] := rfl

theorem beCell_succ (n k i : Nat) (hk : k < 8) (hi : i < 8) (h : i ≠ 7 - k) : beCell n (k + 1) i = beCell n k i := by
  unfold beCell
  by_cases h1 : 8 - k ≤ i
  · rw [if_pos h1, if_pos (by omega)]
  · rw [if_neg h1, if_neg (by omega)]

theorem beArr_step (n k : Nat) (hk : k < 8) : (beArr n k).setIfInBounds (7 - k) (.int .u8 ((n / 256 ^ k % 256 : Nat) : Int)) = beArr n (k + 1) := by
  have hlast : beCell n (k + 1) (7 - k) = .int .u8 ((n / 256 ^ k % 256 : Nat) : Int) := by
    unfold beCell beByte
    rw [if_pos (by omega), show 7 - (7 - k) = k by omega]
  rw [← hlast]
  have e := fun i (hi : i < 8) (h : i ≠ 7 - k) => beCell_succ n k i hk hi h
  unfold beArr
  match k, hk with
  | 0, _ => simp [e 0 (by omega) (by omega), e 1 (by omega) (by omega), e 2 (by omega) (by omega), e 3 (by omega) (by omega), e 4 (by omega) (by omega), e 5 (by omega) (by omega), e 6 (by omega) (by omega)]
  | 1, _ => simp [e 0 (by omega) (by omega), e 1 (by omega) (by omega), e 2 (by omega) (by omega), e 3 (by omega) (by omega), e 4 (by omega) (by omega), e 5 (by omega) (by omega), e 7 (by omega) (by omega)]
  | 2, _ => simp [e 0 (by omega) (by omega), e 1 (by omega) (by omega), e 2 (by omega) (by omega), e 3 (by omega) (by omega), e 4 (by omega) (by omega), e 6 (by omega) (by omega), e 7 (by omega) (by omega)]
  | 3, _ => simp [e 0 (by omega) (by omega), e 1 (by omega) (by omega), e 2 (by omega) (by omega), e 3 (by omega) (by omega), e 5 (by omega) (by omega), e 6 (by omega) (by omega), e 7 (by omega) (by omega)]
  | 4, _ => simp [e 0 (by omega) (by omega), e 1 (by omega) (by omega), e 2 (by omega) (by omega), e 4 (by omega) (by omega), e 5 (by omega) (by omega), e 6 (by omega) (by omega), e 7 (by omega) (by omega)]
  | 5, _ => simp [e 0 (by omega) (by omega), e 1 (by omega) (by omega), e 3 (by omega) (by omega), e 4 (by omega) (by omega), e 5 (by omega) (by omega), e 6 (by omega) (by omega), e 7 (by omega) (by omega)]
  | 6, _ => simp [e 0 (by omega) (by omega), e 2 (by omega) (by omega), e 3 (by omega) (by omega), e 4 (by omega) (by omega), e 5 (by omega) (by omega), e 6 (by omega) (by omega), e 7 (by omega) (by omega)]
  | 7, _ => simp [e 1 (by omega) (by omega), e 2 (by omega) (by omega), e 3 (by omega) (by omega), e 4 (by omega) (by omega), e 5 (by omega) (by omega), e 6 (by omega) (by omega), e 7 (by omega) (by omega)]

/-- Bytes and a code told; the bytes lie in new memory of the call's own. -/
def Made (r : List UInt8 × Int) (w : World) (e : Ending) (w' : World) : Prop :=
  ∃ v, e = .returned (.tuple #[v, .int .i64 r.2]) ∧ w'.ownsRow w.heap.size 5 1 v r.1.length (cellsOf r.1) ∧ Below w.heap.size w w'

theorem make8 (w : World) : (Instr.makeSlice 48 (.int .i64 8) (.int .i64 8)).run Try.prog w = .ok (.slice (some ⟨w.heap.size, 0, none⟩) 8 8) (w.alloc (.cells (beArr 0 0) 5)) := by
  rw [beArr_zero]; kernel_rfl

theorem shr_step (n k : Nat) : ((n : Int) / 256 ^ k / 256) = ((n / 256 ^ (k + 1) : Nat) : Int) := by
  rw [Nat.pow_succ, ← Nat.div_div_eq_div_mul]; simp

theorem low_byte (n k : Nat) : ((n : Int) / 256 ^ k % 256) = ((n / 256 ^ k % 256 : Nat) : Int) := by simp


theorem beByte_lt (n i : Nat) : beByte n i < 256 := Nat.mod_lt _ (by omega)

theorem toNat_byte (n : Nat) (h : n < 256) : (UInt8.ofNat n).toNat = n := by simp; omega

theorem beArr_cells (n : Nat) : (beArr n 8).toList = cellsOf (be8 n) := by
  have h := fun i => toNat_byte (beByte n i) (beByte_lt n i)
  simp only [beArr, beCell, cellsOf, be8, List.map_cons, List.map_nil, h]
  rfl

theorem be8_length (n : Nat) : (be8 n).length = 8 := rfl

theorem owns_lit (w : World) (cs : Array Value) (bs : List UInt8) (h : cs.toList = cellsOf bs) (hm : bs.length ≤ maxLen) :
    (w.alloc (.cells cs 5)).ownsRow w.heap.size 5 1 (.slice (some ⟨w.heap.size, 0, none⟩) bs.length bs.length) bs.length (cellsOf bs) := by
  have hl : cs.size = bs.length := by rw [← Array.length_toList, h]; simp [cellsOf]
  have := World.ownsRow_lit (base := w.heap.size) (e := 5) (size := 1) w cs bs.length (Nat.le_refl _) hm (by omega)
  rw [h] at this
  exact this

/-- What a number is put as: bytes, and a code. -/
def putNumOf (v : Int) : List UInt8 × Int := if v < 0 ∨ 2 ^ 62 ≤ v then ([], 1) else (be8 v.toNat, 0)

theorem made_none (c : Int) (w : World) (e : Ending) (w' : World) (h : e = .returned (.tuple #[.slice none 0 0, .int .i64 c]) ∧ w = w') : Made ([], c) w e w' := by
  obtain ⟨rfl, rfl⟩ := h
  exact ⟨_, rfl, World.ownsRow_nil _ _ _ _, Below.refl _ _⟩

theorem made_lit (cs : Array Value) (bs : List UInt8) (w : World) (e : Ending) (w' : World) (hc : cs.toList = cellsOf bs) (hm : bs.length ≤ maxLen)
    (h : e = .returned (.tuple #[.slice (some ⟨w.heap.size, 0, none⟩) bs.length bs.length, .int .i64 0]) ∧ w.alloc (.cells cs 5) = w') : Made (bs, 0) w e w' := by
  obtain ⟨rfl, rfl⟩ := h
  exact ⟨_, rfl, owns_lit w cs bs hc hm, (Below.refl _ _).alloc (Nat.le_refl _) _⟩



def putByteOf (v : Int) : List UInt8 × Int := if v < 0 ∨ 255 < v then ([], 1) else ([UInt8.ofNat v.toNat], 0)




theorem info8 : (Try.prog.info? 5).map (fun i => (i.zero, i.size, i.bytes)) = some (some (.int .u8 0), 1, 1) := by kernel_rfl

def putTextOf (s : ByteArray) : List UInt8 × Int := if 255 < s.size then ([], 3) else (UInt8.ofNat s.size :: s.data.toList, 0)




end Go.Proofs.Ytnkooajbenhjhaa

/- Contracts of the document's answers for layer 1. -/
set_option linter.unusedVariables false
set_option linter.unusedSimpArgs false
namespace Go.Proofs.Ytnkooajbenhjhaa
open Go.RowKit
namespace Ref1






end Ref1
end Go.Proofs.Ytnkooajbenhjhaa

/- Contracts of the document's answers for layer 1: numbers, and what is put. -/
set_option linter.unusedVariables false
set_option linter.unusedSimpArgs false
namespace Go.Proofs.Ytnkooajbenhjhaa
open Go.RowKit
namespace Ref1

theorem val_cons_lt (x : UInt8) (l : List UInt8) (h : x.toNat < 64) : val (x :: l) < 64 * 256 ^ l.length := by
  have h1 := val_go l x.toNat
  have h2 : (x.toNat + 1) * 256 ^ l.length ≤ 64 * 256 ^ l.length := Nat.mul_le_mul_right _ (by omega)
  have e : val (x :: l) = l.foldl (fun a x => a * 256 + x.toNat) x.toNat := by simp [val]
  rw [e]
  exact Nat.lt_of_lt_of_le h1 h2

theorem val_cons_ge (l : List UInt8) (a : Nat) : a * 256 ^ l.length ≤ l.foldl (fun a x => a * 256 + x.toNat) a := by
  induction l generalizing a with
  | nil => simp
  | cons x l ih =>
    have h1 := ih (a * 256 + x.toNat)
    have h2 : a * 256 * 256 ^ l.length ≤ (a * 256 + x.toNat) * 256 ^ l.length := Nat.mul_le_mul_right _ (by omega)
    rw [List.foldl_cons, List.length_cons, Nat.pow_succ, Nat.mul_comm (256 ^ l.length) 256, ← Nat.mul_assoc]
    exact Nat.le_trans h2 h1

/-- The first of eight bytes tells whether the number is below 2^62. -/
theorem first_small (bs : List UInt8) (k : Nat) (h : k + 8 ≤ bs.length) : val (sub bs k 8) < 2 ^ 62 ↔ (bs.getD k 0).toNat < 64 := by
  have hl := sub_length bs k 8 h
  have h0 := sub_getD bs k 8 0 (by omega)
  match hs : sub bs k 8, hl with
  | x :: l, hl =>
    rw [hs] at h0
    simp only [List.getD_cons_zero, Nat.add_zero] at h0
    simp only [List.length_cons] at hl
    have hl' : l.length = 7 := by omega
    rw [← h0]
    constructor
    · intro hv
      have := val_cons_ge l x.toNat
      rw [hl'] at this
      have e : val (x :: l) = l.foldl (fun a x => a * 256 + x.toNat) x.toNat := by simp [val]
      rw [e] at hv
      omega
    · intro hx
      have := val_cons_lt x l hx
      rw [hl'] at this
      omega

theorem part_small (bs : List UInt8) (k j : Nat) (h : k + 8 ≤ bs.length) (hj : j < 8) (hx : (bs.getD k 0).toNat < 64) : val (sub bs k j) < 18014398509481984 := by
  match j, hj with
  | 0, _ => simp [sub, val]
  | j + 1, hj =>
    have hl := sub_length bs k (j + 1) (by omega)
    have h0 := sub_getD bs k (j + 1) 0 (by omega)
    match hs : sub bs k (j + 1), hl with
    | x :: l, hl =>
      rw [hs] at h0
      simp only [List.getD_cons_zero, Nat.add_zero] at h0
      simp only [List.length_cons] at hl
      have := val_cons_lt x l (by rw [h0]; exact hx)
      have h2 : 64 * 256 ^ l.length ≤ 64 * 256 ^ 6 := Nat.mul_le_mul_left _ (Nat.pow_le_pow_right (by omega) (by omega))
      omega












end Ref1
end Go.Proofs.Ytnkooajbenhjhaa

/- Contracts of the statements' own helpers of layer 1: Same, awake. -/
set_option linter.unusedVariables false
set_option linter.unusedSimpArgs false
namespace Go.Proofs.Ytnkooajbenhjhaa
open Go.RowKit



/-- Bytes told, to be read. -/
def MadeRd (r : List UInt8 × Int) (w : World) (e : Ending) (w' : World) : Prop :=
  ∃ v, e = .returned (.tuple #[v, .int .i64 r.2]) ∧ Rd w' v r.1 ∧ Below w.heap.size w w'

theorem Made.rd {r : List UInt8 × Int} {w : World} {e : Ending} {w' : World} (h : Made r w e w') : MadeRd r w e w' := by
  obtain ⟨v, he, ho, hb⟩ := h
  exact ⟨v, he, Rd.own ho, hb⟩

theorem rd_lit (w : World) (cs : Array Value) (bs : List UInt8) (h : cs.toList = cellsOf bs) (hm : bs.length ≤ maxLen) : Rd (w.alloc (.cells cs 5)) (.slice (some ⟨w.heap.size, 0, none⟩) bs.length bs.length) bs :=
  Rd.own (owns_lit w cs bs h hm)


end Go.Proofs.Ytnkooajbenhjhaa

/- Plain facts on bytes of numbers. -/
set_option linter.unusedVariables false
set_option linter.unusedSimpArgs false
namespace Go.Proofs.Ytnkooajbenhjhaa
open Go.RowKit

/-- The number that bytes are, by the first one. -/
def valr : List UInt8 → Nat
  | [] => 0
  | x :: l => x.toNat * 256 ^ l.length + valr l

theorem valr_lt (l : List UInt8) : valr l < 256 ^ l.length := by
  induction l with
  | nil => simp [valr]
  | cons x l ih =>
    have hx := UInt8.toNat_lt x
    have h2 : (x.toNat + 1) * 256 ^ l.length ≤ 256 * 256 ^ l.length := Nat.mul_le_mul_right _ (by omega)
    rw [valr, List.length_cons, Nat.pow_succ, Nat.mul_comm (256 ^ l.length) 256]
    rw [Nat.add_mul] at h2
    omega

theorem val_valr (l : List UInt8) (a : Nat) : l.foldl (fun a x => a * 256 + x.toNat) a = a * 256 ^ l.length + valr l := by
  induction l generalizing a with
  | nil => simp [valr]
  | cons x l ih =>
    rw [List.foldl_cons, ih, valr, List.length_cons, Nat.pow_succ, Nat.add_mul, Nat.mul_comm (256 ^ l.length) 256, Nat.mul_assoc, Nat.add_assoc]

theorem val_eq (l : List UInt8) : val l = valr l := by
  have := val_valr l 0
  simpa [val] using this

theorem less_val (a b : List UInt8) (h : a.length = b.length) : Op.bytesLess a b = decide (valr a < valr b) := by
  induction a generalizing b with
  | nil =>
    have : b = [] := List.length_eq_zero_iff.1 h.symm
    subst this
    simp [Op.bytesLess, valr]
  | cons x a ih =>
    match b, h with
    | y :: b, h =>
      have hl : a.length = b.length := by simpa using h
      have ha := valr_lt a
      have hb := valr_lt b
      rw [Op.bytesLess, ih b hl, valr, valr, hl]
      rw [hl] at ha
      generalize valr a = p at ha ⊢
      generalize valr b = q at hb ⊢
      generalize 256 ^ b.length = m at ha hb ⊢
      by_cases h1 : x < y
      · have h1' : x.toNat < y.toNat := UInt8.lt_iff_toNat_lt.1 h1
        have : (x.toNat + 1) * m ≤ y.toNat * m := Nat.mul_le_mul_right _ h1'
        rw [Nat.add_mul] at this
        simp [h1]
        omega
      · by_cases h2 : x = y
        · subst h2
          simp [h1]
        · have h1' : ¬ x.toNat < y.toNat := fun q => h1 (UInt8.lt_iff_toNat_lt.2 q)
          have h2' : x.toNat ≠ y.toNat := fun q => h2 (UInt8.toNat_inj.1 q)
          have : (y.toNat + 1) * m ≤ x.toNat * m := Nat.mul_le_mul_right _ (by omega)
          rw [Nat.add_mul] at this
          have hno : ¬ (x.toNat * m + p < y.toNat * m + q) := by omega
          simp [h1, h2, hno]

theorem val_be8 (n : Nat) (h : n < 2 ^ 64) : val (be8 n) = n := by
  have t := fun i => toNat_byte (beByte n i) (beByte_lt n i)
  simp only [val, be8, List.foldl_cons, List.foldl_nil, t]
  simp only [beByte]
  omega

theorem be8_inj (n m : Nat) (hn : n < 2 ^ 64) (hm : m < 2 ^ 64) : (be8 n == be8 m) = decide (n = m) := by
  by_cases h : n = m
  · subst h; simp
  · have : be8 n ≠ be8 m := fun q => h (by rw [← val_be8 n hn, ← val_be8 m hm, q])
    simp [h, this]

theorem be8_less (n m : Nat) (hn : n < 2 ^ 64) (hm : m < 2 ^ 64) : Op.bytesLess (be8 n) (be8 m) = decide (n < m) := by
  rw [less_val (be8 n) (be8 m) rfl, ← val_eq, ← val_eq, val_be8 n hn, val_be8 m hm]

theorem rd8 (w : World) (n : Nat) : Rd (w.alloc (.cells (beArr n 8) 5)) (.slice (some ⟨w.heap.size, 0, none⟩) 8 8) (be8 n) :=
  rd_lit w _ (be8 n) (beArr_cells n) (by rw [be8_length]; unfold maxLen; omega)

theorem rd_zero (K : Nat) (w2 w3 : World) (h : w3.ownsRow w2.heap.size 5 1 (.slice (some ⟨w2.heap.size, 0, none⟩) K K) K (madeCells (Value.int .u8 0).cells (K * 1)).toList) :
    Rd w3 (.slice (some ⟨w2.heap.size, 0, none⟩) K K) (List.replicate K 0) := by
  have e : (madeCells (Value.int .u8 0).cells (K * 1)).toList = cellsOf (List.replicate K 0) := by
    rw [show (Value.int .u8 0).cells = #[.int .u8 0] from rfl, toList_madeCells_one, Nat.mul_one]
    simp [cellsOf]
  rw [e] at h
  have hl : (List.replicate K (0 : UInt8)).length = K := List.length_replicate
  refine Rd.own (base := w2.heap.size) (e := 5) ?_
  rw [hl]; exact h

theorem rdL3 (w : World) (C : Nat) (h : C < 256) : Rd (w.alloc (.cells #[.int .u8 (C : Int), .int .u8 1, .int .u8 2] 5)) (.slice (some ⟨w.heap.size, 0, none⟩) 3 3) [UInt8.ofNat C, 1, 2] :=
  rd_lit w _ [UInt8.ofNat C, 1, 2] (by simp [cellsOf]; omega) (by simp [maxLen])

theorem rdL8 (w : World) (C : Nat) (h : C < 256) : Rd (w.alloc (.cells #[.int .u8 (C : Int), .int .u8 0, .int .u8 0, .int .u8 0, .int .u8 0, .int .u8 0, .int .u8 0, .int .u8 0] 5)) (.slice (some ⟨w.heap.size, 0, none⟩) 8 8) [UInt8.ofNat C, 0, 0, 0, 0, 0, 0, 0] :=
  rd_lit w _ [UInt8.ofNat C, 0, 0, 0, 0, 0, 0, 0] (by simp [cellsOf]; omega) (by simp [maxLen])
end Go.Proofs.Ytnkooajbenhjhaa

/- What is owned and written over; what was put and is read again. -/
set_option linter.unusedVariables false
set_option linter.unusedSimpArgs false
namespace Go.Proofs.Ytnkooajbenhjhaa
open Go.RowKit

theorem own_mono {w : World} {base base' : Nat} {e : TypeId} {v : Value} {n : Nat} {xs : List Value} (h : w.ownsRow base e 1 v n xs) (hb : base' ≤ base) : w.ownsRow base' e 1 v n xs := by
  refine ⟨h.1, ?_⟩
  rcases h.2 with h' | ⟨g, cap, cur, h1, h2, r⟩
  · exact .inl h'
  · exact .inr ⟨g, cap, cur, h1, by omega, r⟩

/-- What is owned, of some bytes or other. -/
def Owned (w : World) (base : Nat) (v : Value) (n : Nat) : Prop := ∃ bs : List UInt8, bs.length = n ∧ w.ownsRow base 5 1 v n (cellsOf bs)

theorem Owned.cell {w : World} {base g n cap : Nat} (h : Owned w base (.slice (some ⟨g, 0, none⟩) n cap) n) (k : Nat) (hk : k < n) :
    ∃ c : Nat, c < 256 ∧ w.cell? ⟨g, k, none⟩ = some (.int .u8 (c : Int)) ∧ w.frozen? ⟨g, k, none⟩ = false ∧ base ≤ g := by
  obtain ⟨bs, hl, ho⟩ := h
  refine ⟨(bs.getD k 0).toNat, UInt8.toNat_lt _, ?_, ho.frozenAt k, (ho.lt g rfl).1⟩
  rw [ho.cellAt k (by omega)]
  simp [cellsOf, List.getElem?_eq_getElem (show k < bs.length by omega)]

theorem Owned.stored {w : World} {base g n cap : Nat} (h : Owned w base (.slice (some ⟨g, 0, none⟩) n cap) n) (k c : Nat) (hc : c < 256) :
    Owned (w.setCell ⟨g, k, none⟩ (.int .u8 (c : Int))) base (.slice (some ⟨g, 0, none⟩) n cap) n := by
  obtain ⟨bs, hl, ho⟩ := h
  refine ⟨bs.set k (UInt8.ofNat c), by simp [hl], ?_⟩
  have h1 := (ho.stored k (.int .u8 (c : Int))).1
  have e : (cellsOf bs).set k (.int .u8 (c : Int)) = cellsOf (bs.set k (UInt8.ofNat c)) := by
    unfold cellsOf
    rw [List.map_set, toNat_byte c hc]
  rw [e] at h1
  exact h1

theorem Owned.below {w : World} {base n : Nat} {v : Value} (h : Owned w base v n) {a : Addr} (ha : a.block < base) (u : Value) : Owned (w.setCell a u) base v n := by
  obtain ⟨bs, hl, ho⟩ := h
  exact ⟨bs, hl, ownsRow_setCell_below ho ha u⟩

theorem Owned.later {w w' : World} {base n : Nat} {v : Value} (h : Owned w base v n) (hb : Below w.heap.size w w') : Owned w' base v n := by
  obtain ⟨bs, hl, ho⟩ := h
  refine ⟨bs, hl, ho.1, ?_⟩
  rcases ho.2 with h' | ⟨g, cap, cur, h1, h2, h3, r⟩
  · exact .inl h'
  · refine .inr ⟨g, cap, cur, h1, h2, ?_, r⟩
    rw [hb.block g (Array.getElem?_eq_some_iff.1 h3).1]
    exact h3

theorem bstr_self (s : ByteArray) : bstr s.data.toList = s := by cases s; simp [bstr]

theorem sub_whole (a b : List UInt8) (n k : Nat) (h : a.length = k) (hn : b.length = n) (c : List UInt8) : sub (a ++ b ++ c) k n = b := by
  subst h; subst hn
  unfold sub
  rw [List.append_assoc, List.drop_left, List.take_left]

/-- A number that was put is read as it was. -/
theorem numOf_put (n : Nat) (h : n < 2 ^ 62) (a c : List UInt8) : numOf (a ++ be8 n ++ c) a.length = ((n : Int), (a.length : Int) + 8, 0) := by
  unfold numOf
  have hs : sub (a ++ be8 n ++ c) a.length 8 = be8 n := sub_whole a (be8 n) 8 a.length rfl rfl c
  rw [Int.toNat_natCast, hs, val_be8 n (by omega)]
  rw [if_neg (by simp [be8_length]; omega), if_pos h]

/-- A text that was put is read as it was. -/
theorem textOf_put (s : List UInt8) (h : s.length ≤ 255) (a c : List UInt8) (m : Int) (hm : 255 ≤ m) :
    textOf (a ++ (UInt8.ofNat s.length :: s) ++ c) a.length m = (s, (a.length : Int) + 1 + s.length, 0) := by
  unfold textOf
  have h0 : (a ++ (UInt8.ofNat s.length :: s) ++ c).getD a.length 0 = UInt8.ofNat s.length := by
    simp [List.getD]
  have hn : (UInt8.ofNat s.length).toNat = s.length := toNat_byte _ (by omega)
  have hs : sub (a ++ (UInt8.ofNat s.length :: s) ++ c) (a.length + 1) s.length = s := by
    have := sub_whole (a ++ [UInt8.ofNat s.length]) s s.length (a.length + 1) (by simp) rfl c
    simpa using this
  rw [Int.toNat_natCast, h0, hn]
  rw [if_neg (by simp; omega), if_neg (by omega), if_neg (by simp; omega)]
  rw [hs]

/-- A row of new bytes told, of the call's own. -/
def Row (n : Nat) (bs : List UInt8) (w : World) (e : Ending) (w' : World) : Prop :=
  ∃ g cap, e = .returned (.tuple #[.slice (some ⟨g, 0, none⟩) n cap, .int .i64 0]) ∧ Owned w' w.heap.size (.slice (some ⟨g, 0, none⟩) n cap) n ∧ Rd w' (.slice (some ⟨g, 0, none⟩) n cap) bs ∧ Below w.heap.size w w'

theorem row_of {w w' : World} {e : Ending} {n : Nat} {bs : List UInt8} (hl : bs.length = n) (hn : 0 < n) (h : Made (bs, 0) w e w') : Row n bs w e w' := by
  obtain ⟨v, he, ho, hb⟩ := h
  subst hl
  have hr := Rd.own ho
  have hO : Owned w' w.heap.size v bs.length := ⟨bs, rfl, ho⟩
  rcases ho.2 with ⟨_, h'⟩ | ⟨g, cap, cur, rfl, _⟩
  · exact absurd h' (by simp only; omega)
  · exact ⟨g, cap, he, hO, hr, hb⟩



/-- An empty list of bytes that the call makes. -/
theorem own_empty (w : World) (base : Nat) (hb : base ≤ w.heap.size) : (w.alloc (.cells #[] 5)).ownsRow base 5 1 (.slice (some ⟨w.heap.size, 0, none⟩) 0 0) 0 [] :=
  own_mono (World.ownsRow_lit (base := w.heap.size) (e := 5) (size := 1) w #[] 0 (Nat.le_refl _) (by unfold maxLen; omega) rfl) hb

theorem owned_lt {w : World} {base g n cap : Nat} (h : Owned w base (.slice (some ⟨g, 0, none⟩) n cap) n) : g < w.heap.size := by
  obtain ⟨bs, _, ho⟩ := h
  exact (ho.lt g rfl).2

theorem rd_app {w : World} {base : Nat} {v : Value} {bs : List UInt8} (h : w.ownsRow base 5 1 v (0 + bs.length) ([] ++ cellsOf bs)) : Rd w v bs := by
  rw [Nat.zero_add, List.nil_append] at h
  exact Rd.own h

theorem Rd.pre {w : World} {g N cap m : Nat} {T : List UInt8} (h : Rd w (.slice (some ⟨g, 0, none⟩) N cap) T) (hm : m ≤ N) : Rd w (.slice (some ⟨g, 0, none⟩) m cap) (T.take m) := by
  obtain ⟨a, len, c, hv, hl, hc, hmx, hn, hx⟩ := h.ex
  cases hv
  refine ⟨some ⟨g, 0, none⟩, m, cap, rfl, by simp; omega, by omega, hmx, (fun q => by cases q), fun x hx' hp => ?_⟩
  cases hx'
  refine ⟨rfl, fun i hi => ?_⟩
  have := (hx _ rfl (by omega)).2 i (by omega)
  rw [this]
  have e : (T.take m).getD i 0 = T.getD i 0 := by simp [List.getD, List.getElem?_take, hi]
  rw [e]

theorem numOf_short (T : List UInt8) (k : Nat) (h : T.length < k + 8) : numOf T k = (0, 0, 2) := by
  unfold numOf
  rw [if_pos (by omega)]

/-- A text that is cut anywhere is too short. -/
theorem textOf_cut (P s Bh : List UInt8) (j : Nat) (h : s.length ≤ 255) (hj : j < 1 + s.length) :
    textOf (P ++ ((UInt8.ofNat s.length :: s) ++ Bh).take j) P.length 255 = ([], 0, 2) := by
  unfold textOf
  have hlen : (P ++ ((UInt8.ofNat s.length :: s) ++ Bh).take j).length = P.length + j := by simp; omega
  rw [hlen]
  by_cases h0 : j = 0
  · rw [if_pos (by omega)]
  · rw [if_neg (by omega)]
    have hd : (P ++ ((UInt8.ofNat s.length :: s) ++ Bh).take j).getD ((P.length : Int)).toNat 0 = UInt8.ofNat s.length := by
      rw [Int.toNat_natCast]
      match j, h0 with
      | j + 1, _ => simp [List.getD]
    rw [hd, toNat_byte _ (by omega)]
    rw [if_neg (by omega), if_pos (by omega)]

theorem take_cut (A B R : List UInt8) (k : Nat) (h : B.length ≤ k) : (A ++ B ++ R).take (A.length + k) = A ++ B ++ R.take (k - B.length) := by
  rw [List.take_append, List.take_of_length_le (by simp; omega)]
  congr 2
  simp; omega

theorem back_shape {w : World} {base N : Nat} {v : Value} {T A B S R : List UInt8} (h : T.length = N ∧ cellsOf T = [] ++ cellsOf A ++ cellsOf B ++ cellsOf S ++ cellsOf R ∧ T.length = 0 + A.length + B.length + S.length + R.length ∧ 0 < T.length)
    (ho : w.ownsRow base 5 1 v (0 + A.length + B.length + S.length + R.length) ([] ++ cellsOf A ++ cellsOf B ++ cellsOf S ++ cellsOf R)) :
    ∃ g cap, v = .slice (some ⟨g, 0, none⟩) N cap ∧ N ≤ cap ∧ Rd w (.slice (some ⟨g, 0, none⟩) N cap) T := by
  obtain ⟨h1, h2, h3, h4⟩ := h
  rw [← h2, ← h3] at ho
  have hr := Rd.own ho
  rcases ho.2 with ⟨_, h'⟩ | ⟨g, cap, cur, rfl, _, _, hc, _⟩
  · omega
  · subst h1
    exact ⟨g, cap, rfl, hc, hr⟩
end Go.Proofs.Ytnkooajbenhjhaa
