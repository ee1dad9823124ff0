/- Texts laid together by program: Base, OctA, OctB, OctC, OctD, OctE, RefA, RefB, LawA, Math1, Math2, FCmd, FRep. -/
import Derived.WalkKit
import Derived.ProofKit
import Derived.Laws.BytesArg
import Derived.WalkLawsBesides
import Derived.WalkSpells
import Derived.Lib.Hide
import Derived.Lib.AppendStr
import Derived.Laws.AppendOwnNone
import Derived.Laws.OwnMore
import Derived.Laws.BitsAllLaws
import Derived.Test.YtfkpgndbohoogaaProg
import Derived.Defers
import Derived.Recover
import Derived.Laws.Pointers
/- Byte lists in memory: what a slice of bytes reads as, and that it reads so later. No program is named here. -/
set_option linter.unusedVariables false
set_option linter.unusedSimpArgs false
namespace Go.Proofs.Ytfkpgndbohoogaa
open Go.RowKit

theorem step {a b c : World} (h : Below a.heap.size a b) (k : Below b.heap.size b c) : Below a.heap.size a c := h.trans (k.mono h.size)
theorem stepAlloc {a b : World} (h : Below a.heap.size a b) (o : Obj) : Below a.heap.size a (b.alloc o) := h.alloc h.size o
theorem newAlloc (a : World) (o : Obj) : Below a.heap.size a (a.alloc o) := (Below.refl _ _).alloc (Nat.le_refl _) o

/-- The slice value v reads in w as the bytes bs. -/
structure Rd (w : World) (v : Value) (bs : List UInt8) : Prop where
  ex : ∃ a len cap, v = .slice a len cap ∧ bs.length = len ∧ len ≤ cap ∧ cap ≤ maxLen ∧ (a = none → len = 0 ∧ cap = 0) ∧
    ∀ x, a = some x → 0 < len → x.spot = none ∧ ∀ i, i < len → w.cell? ⟨x.block, x.off + i, none⟩ = some (.int .u8 (bs.getD i 0).toNat)

theorem lt_of_cell {w : World} {a : Addr} {v : Value} (h : w.cell? a = some v) : a.block < w.heap.size := by
  unfold World.cell? at h
  rcases Nat.lt_or_ge a.block w.heap.size with g | g
  · exact g
  · rw [Array.getElem?_eq_none g] at h; simp at h

theorem Rd.later {w w' : World} {v : Value} {bs : List UInt8} (h : Rd w v bs) (hb : Below w.heap.size w w') : Rd w' v bs := by
  obtain ⟨a, len, cap, hv, hl, hc, hm, hn, hx⟩ := h.ex
  refine ⟨a, len, cap, hv, hl, hc, hm, hn, fun x ha hp => ?_⟩
  obtain ⟨hs, hi⟩ := hx x ha hp
  refine ⟨hs, fun i h => ?_⟩
  rw [hb.cell (lt_of_cell (hi i h))]
  exact hi i h


/-- The number that bytes are, the most significant one first. -/
def val (l : List UInt8) : Nat := l.foldl (fun a x => a * 256 + x.toNat) 0

theorem val_snoc (l : List UInt8) (x : UInt8) : val (l ++ [x]) = val l * 256 + x.toNat := by simp [val, List.foldl_append]

theorem val_go (l : List UInt8) (a : Nat) : l.foldl (fun a x => a * 256 + x.toNat) a < (a + 1) * 256 ^ l.length := by
  induction l generalizing a with
  | nil => simp
  | cons x l ih =>
    have hx := UInt8.toNat_lt x
    have h1 := ih (a * 256 + x.toNat)
    have h2 : (a * 256 + x.toNat + 1) * 256 ^ l.length ≤ ((a + 1) * 256) * 256 ^ l.length := Nat.mul_le_mul_right _ (by omega)
    rw [List.foldl_cons, List.length_cons, Nat.pow_succ, Nat.mul_comm (256 ^ l.length) 256, ← Nat.mul_assoc]
    exact Nat.lt_of_lt_of_le h1 h2

theorem val_lt (l : List UInt8) : val l < 256 ^ l.length := by
  have := val_go l 0
  simpa [val] using this

theorem or_nat (v c : Nat) (hc : c < 256) : v * 256 ||| c = v * 256 + c := by
  have h := Nat.two_pow_add_eq_or_of_lt (i := 8) (b := c) (by omega) v
  rw [show 2 ^ 8 * v = v * 256 by omega] at h
  exact h.symm

theorem or_u64 (v c : Nat) (hv : v < 2 ^ 56) (hc : c < 256) : bits .or .u64 (IntKind.u64.wrap ((v : Int) * 256)) (IntKind.u64.wrap (c : Int)) = ((v * 256 + c : Nat) : Int) := by
  have h1 : IntKind.u64.wrap ((v : Int) * 256) = ((v * 256 : Nat) : Int) := by rw [IntKind.wrap_u64]; omega
  have h2 : IntKind.u64.wrap (c : Int) = ((c : Nat) : Int) := by rw [IntKind.wrap_u64]; omega
  rw [h1, h2, u64_or_nat _ _ (by omega) (by omega), or_nat v c hc]

theorem or_u64' (v c : Nat) (hv : v < 72057594037927936) (hc : c < 256) : bits .or .u64 ((v : Int) * 256) (c : Int) = ((v * 256 + c : Nat) : Int) := by
  have := or_u64 v c (by omega) hc
  rwa [show IntKind.u64.wrap ((v : Int) * 256) = (v : Int) * 256 by rw [IntKind.wrap_u64]; omega, show IntKind.u64.wrap (c : Int) = (c : Int) by rw [IntKind.wrap_u64]; omega] at this

theorem ofInt_i64 (a : Nat) (ha : a < 2 ^ 64) : (BitVec.ofInt 64 (a : Int)).toNat = a := by
  rw [BitVec.ofInt_natCast, BitVec.toNat_ofNat]; exact Nat.mod_eq_of_lt (by omega)

theorem or_i64 (v c : Nat) (hv : v < 2 ^ 54) (hc : c < 256) : bits .or .i64 ((v : Int) * 256) (c : Int) = ((v * 256 + c : Nat) : Int) := by
  rw [show ((v : Int) * 256) = ((v * 256 : Nat) : Int) by omega]
  show IntKind.i64.wrap ((BitVec.ofInt 64 ((v * 256 : Nat) : Int) ||| BitVec.ofInt 64 (c : Int)).toNat : Int) = _
  rw [BitVec.toNat_or, ofInt_i64 _ (by omega), ofInt_i64 _ (by omega), or_nat v c hc]
  exact IntWalk.i64_in _ (by omega)

theorem val_le (l : List UInt8) (n : Nat) (h : l.length ≤ n) : val l < 256 ^ n :=
  Nat.lt_of_lt_of_le (val_lt l) (Nat.pow_le_pow_right (by omega) h)

theorem val_sub_succ (bs : List UInt8) (t n : Nat) (h : t + n < bs.length) : val ((bs.drop t).take (n + 1)) = val ((bs.drop t).take n) * 256 + (bs.getD (t + n) 0).toNat := by
  rw [List.take_succ_eq_append_getElem (by simp; omega), val_snoc]
  simp [List.getD, List.getElem?_eq_getElem h]

/-- The bytes from t on, n of them. -/
def sub (bs : List UInt8) (t n : Nat) : List UInt8 := (bs.drop t).take n

theorem sub_succ (bs : List UInt8) (t n : Nat) (h : t + n < bs.length) : sub bs t (n + 1) = sub bs t n ++ [bs.getD (t + n) 0] := by
  unfold sub
  rw [List.take_succ_eq_append_getElem (by simp; omega)]
  simp [List.getD, List.getElem?_eq_getElem h]

theorem sub_length (bs : List UInt8) (t n : Nat) (h : t + n ≤ bs.length) : (sub bs t n).length = n := by
  unfold sub; simp; omega


/-- What a slice of integers that came in is (as the frame of a law's proof hands it over). -/
def IsRow (k : IntKind) (w : World) (a : Option Addr) (len cap : Nat) (zs : List Int) : Prop :=
  (a = none ∧ len = 0 ∧ cap = 0 ∧ zs = []) ∨
  ∃ x, a = some x ∧ len ≤ cap ∧ cap ≤ maxLen ∧ zs.length = cap ∧ (∀ i, i < zs.length → w.cell? (x.add i) = some (.int k (zs.getD i 0))) ∧ ∀ n ∈ zs, (Lit.int k n).wf = true

/-- The bytes that such numbers are. -/
def bytesOf (zs : List Int) (len : Nat) : List UInt8 := (zs.take len).map fun n => UInt8.ofNat n.toNat

theorem IsRow.rd {w : World} {a : Option Addr} {len cap : Nat} {zs : List Int} (h : IsRow .u8 w a len cap zs) : Rd w (.slice a len cap) (bytesOf zs len) ∧ (bytesOf zs len).length = len := by
  rcases h with ⟨rfl, rfl, rfl, rfl⟩ | ⟨x, rfl, hl, hm, hz, hcell, hwz⟩
  · exact ⟨⟨none, 0, 0, rfl, rfl, Nat.le_refl _, by unfold maxLen; omega, fun _ => ⟨rfl, rfl⟩, fun x hx => by cases hx⟩, rfl⟩
  · have hlen : (bytesOf zs len).length = len := by unfold bytesOf; simp; omega
    refine ⟨⟨some x, len, cap, rfl, hlen, hl, hm, (fun q => by cases q), fun y hy hp => ?_⟩, hlen⟩
    cases hy
    obtain ⟨b, off, spot⟩ := x
    have hc := hcell 0 (by omega)
    have hspot : spot = none := by simpa [Addr.add] using World.cell?_spot hc
    subst hspot
    refine ⟨rfl, fun i hi => ?_⟩
    have hadd : (⟨b, off, none⟩ : Addr).add i = ⟨b, off + i, none⟩ := by unfold Addr.add; split <;> simp_all
    have := hcell i (by omega)
    rw [hadd] at this
    rw [this]
    have hiz : i < zs.length := by omega
    have hw := hwz zs[i] (List.getElem_mem hiz)
    have hb : 0 ≤ zs[i] ∧ zs[i] ≤ 255 := by simpa [Lit.wf, IntKind.min, IntKind.max, IntKind.signed, IntKind.bits] using hw
    have e : (bytesOf zs len).getD i 0 = UInt8.ofNat (zs[i]).toNat := by
      unfold bytesOf
      simp [List.getD, List.getElem?_map, List.getElem?_take, hi, List.getElem?_eq_getElem hiz]
    rw [e]
    have e2 : zs.getD i 0 = zs[i] := by simp [List.getD, List.getElem?_eq_getElem hiz]
    rw [e2]
    have e3 : ((UInt8.ofNat (zs[i]).toNat).toNat : Int) = zs[i] := by
      simp; omega
    rw [e3]

def bstr (l : List UInt8) : ByteArray := ⟨l.toArray⟩

theorem bstr_toList (l : List UInt8) : (bstr l).data.toList = l := rfl
theorem bstr_size (l : List UInt8) : (bstr l).size = l.length := rfl

/-- The numbers that the cells of bytes hold. -/
def nums (l : List UInt8) : List Int := l.map fun u => (u.toNat : Int)

theorem nums_length (l : List UInt8) : (nums l).length = l.length := by simp [nums]

theorem nums_getD (l : List UInt8) (i : Nat) : (nums l).getD i 0 = ((l.getD i 0).toNat : Int) := by
  unfold nums
  simp only [List.getD, List.getElem?_map]
  cases l[i]? <;> simp

theorem strOfNums_nums (l : List UInt8) : strOfNums (nums l) = bstr l := by
  unfold strOfNums nums bstr
  rw [List.map_map]
  congr 2
  conv => rhs; rw [← List.map_id l]
  apply List.map_congr_left
  intro u _
  simp

theorem sub_getD (bs : List UInt8) (t n i : Nat) (h : i < n) : (sub bs t n).getD i 0 = bs.getD (t + i) 0 := by
  unfold sub
  simp [List.getD, List.getElem?_take, h]

section
variable {P : Program} (w : World)
theorem conv_sub {src e dst : TypeId} (hs : P.underlying src = some (.slice e)) (he : P.underlying e = some (.int .u8)) (hd : P.underlying dst = some .string) (b off k n cap : Nat) (bs : List UInt8)
    (hc : ∀ i, i < bs.length → w.cell? ⟨b, off + i, none⟩ = some (.int .u8 ((bs.getD i 0).toNat : Int))) (h : k + n ≤ bs.length) :
    (convert src dst (.slice (some ⟨b, off + k, none⟩) n cap)).run P w = .ok (.string (bstr (sub bs k n))) w := by
  rw [← strOfNums_nums]
  refine run_convert_bytes_arg w src e hs he b (off + k) n cap (nums (sub bs k n)) (by rw [nums_length, sub_length _ _ _ h]) ?_ dst hd
  intro i hi
  rw [nums_getD, sub_getD _ _ _ _ hi, Nat.add_assoc]
  exact hc (k + i) (by omega)

theorem conv_zero {src e dst : TypeId} (hs : P.underlying src = some (.slice e)) (he : P.underlying e = some (.int .u8)) (hd : P.underlying dst = some .string) (a : Option Addr) (cap : Nat) :
    (convert src dst (.slice a 0 cap)).run P w = .ok (.string (bstr [])) w := by
  cases a with
  | none => exact run_convert_bytes_nil w src e hs he 0 cap dst hd
  | some a =>
    rw [run_convert_bytes_string w src dst e _ 0 cap hs he hd, run_bytesToString w a 0 cap [] (by simpa using run_loadCells_list (P := P) w a [] (fun j v hj => by simp at hj))]
    rfl

/-- The bytes of a slice as a text. -/
theorem conv_rd {src e dst : TypeId} (hs : P.underlying src = some (.slice e)) (he : P.underlying e = some (.int .u8)) (hd : P.underlying dst = some .string) (v : Value) (bs : List UInt8) (h : Rd w v bs) :
    (convert src dst v).run P w = .ok (.string (bstr bs)) w := by
  obtain ⟨a, len, cap, rfl, hl, hc, hm, hn, hx⟩ := h.ex
  by_cases h0 : len = 0
  · subst h0
    obtain rfl : bs = [] := List.length_eq_zero_iff.1 hl
    exact conv_zero w hs he hd a cap
  · match a, hn, hx with
    | none, hn, _ => exact absurd (hn rfl).1 h0
    | some x, _, hx =>
      obtain ⟨hs', hi⟩ := hx x rfl (by omega)
      obtain ⟨b, off, spot⟩ := x
      simp only at hs' hi
      subst hs'
      have := conv_sub w hs he hd b off 0 len cap bs (fun i hb => hi i (by omega)) (by omega)
      have e : sub bs 0 len = bs := by unfold sub; simp [← hl]
      rw [e] at this
      exact this
end

/-- Bytes as cells. -/
def cellsOf (bs : List UInt8) : List Value := bs.map fun u => .int .u8 (u.toNat : Int)

theorem cellsOf_length (bs : List UInt8) : (cellsOf bs).length = bs.length := by simp [cellsOf]
theorem cellsOf_append (a b : List UInt8) : cellsOf (a ++ b) = cellsOf a ++ cellsOf b := by simp [cellsOf]
theorem cellsOf_one (bs : List UInt8) : ∀ u ∈ cellsOf bs, u.oneCell' = true := by
  intro u hu
  obtain ⟨_, _, rfl⟩ := List.mem_map.1 hu
  rfl
theorem cellsOf_get (bs : List UInt8) (j : Nat) (u : Value) (h : (cellsOf bs)[j]? = some u) : j < bs.length ∧ u = .int .u8 ((bs.getD j 0).toNat : Int) := by
  have hj : j < bs.length := by
    rcases Nat.lt_or_ge j bs.length with g | g
    · exact g
    · rw [List.getElem?_eq_none (by rw [cellsOf_length]; exact g)] at h; simp at h
  refine ⟨hj, ?_⟩
  simp [cellsOf, List.getElem?_eq_getElem hj] at h
  simp [List.getD, List.getElem?_eq_getElem hj, h]
theorem strCells_bstr (bs : List UInt8) : Lib.strCells (bstr bs) = cellsOf bs := rfl

/-- What the call owns reads as bytes. -/
theorem Rd.own {w : World} {base : Nat} {e : TypeId} {v : Value} {bs : List UInt8} (h : w.ownsRow base e 1 v bs.length (cellsOf bs)) : Rd w v bs := by
  rcases h.2 with ⟨rfl, hn⟩ | ⟨g, cap, cur, rfl, hb, hg, hn, hc, hs, ht⟩
  · have : bs = [] := List.length_eq_zero_iff.1 hn
    exact ⟨none, 0, 0, rfl, hn, Nat.le_refl _, by unfold maxLen; omega, fun _ => ⟨rfl, rfl⟩, fun x hx => by cases hx⟩
  · refine ⟨some ⟨g, 0, none⟩, bs.length, cap, rfl, rfl, hn, hc, (fun h => by cases h), fun x hx hp => ?_⟩
    cases hx
    refine ⟨rfl, fun i hi => ?_⟩
    rw [h.cellAt (0 + i) (by omega)]
    simp [cellsOf, List.getElem?_eq_getElem hi]

section
variable {P : Program} {w : World}
theorem wpList_append_rd {ops : Array Oper} {rest : List Oper} {o : Oper} {a : Act} {Q : Exit → Act → World → Prop} (hgd : o.guard = none) (s x : Operand) (t : TypeId)
    (ho : o.op = .call { callee := .builtin .append, args := #[s, x], argTypes := #[t, t] })
    (base : Nat) (e : TypeId) (i : TypeInfo) (ht : P.underlying t = some (.slice e)) (hi : P.info? e = some i) (hz : i.zero = some (.int .u8 0)) (hsize : i.size = 1) (hby : i.bytes = 1)
    (v : Value) (n : Nat) (xs : List Value) (hs : a.eval s = v) (hown : w.ownsRow base e 1 v n xs) (y : Value) (bs : List UInt8) (hx : a.eval x = y) (hr : Rd w y bs)
    (hlen : n + bs.length ≤ 140737488355328) (hbase : base ≤ w.heap.size)
    (h : ∀ v' w', w'.ownsRow base e 1 v' (n + bs.length) (xs ++ cellsOf bs) → w.grownBy w' v.ownBlock → wpList P ops Q rest (a.put o.dst v') w') : wpList P ops Q (o :: rest) a w := by
  obtain ⟨ao, len, cap, rfl, hl, hc, hm, hn, hcells⟩ := hr.ex
  match ao, hn, hcells with
  | none, hn, _ =>
    obtain ⟨rfl, rfl⟩ := hn rfl
    obtain rfl : bs = [] := List.length_eq_zero_iff.1 hl
    refine wpList_append_own_none hgd s x t ho base e i 1 ht hi v n xs hs hown hx ?_
    exact h v w (by simpa [cellsOf] using hown) (World.grownBy.refl _ _)
  | some ad, _, hcells =>
    refine wpList_append_own w hgd s x t ho base e i (.int .u8 0) 1 1 ht hi hz hsize hby rfl (by decide) v n xs hs hown ad len cap (cellsOf bs) hx (by rw [cellsOf_length]; omega) ?_ (cellsOf_one bs) (by unfold maxLen; omega) (by omega) hbase ?_
    · intro j u hj
      obtain ⟨hj', rfl⟩ := cellsOf_get bs j u hj
      obtain ⟨hs', hi'⟩ := hcells ad rfl (by omega)
      obtain ⟨b, off, spot⟩ := ad
      simp only at hs'
      subst hs'
      have hadd : (⟨b, off, none⟩ : Addr).add j = ⟨b, off + j, none⟩ := by unfold Addr.add; split <;> simp_all
      rw [hadd]
      exact hi' j (by omega)
    · intro v' w' h1 h2 _
      rw [← hl] at h1
      exact h v' w' h1 h2
end

end Go.Proofs.Ytfkpgndbohoogaa

/- Contracts of package octet's small readers. -/
set_option linter.unusedVariables false
set_option linter.unusedSimpArgs false
namespace Go.Proofs.Ytfkpgndbohoogaa
open Go.RowKit




end Go.Proofs.Ytfkpgndbohoogaa

/- Contracts of package octet's readers: readByte, readText, readEnd. -/
set_option linter.unusedVariables false
set_option linter.unusedSimpArgs false
namespace Go.Proofs.Ytfkpgndbohoogaa
open Go.RowKit

















end Go.Proofs.Ytfkpgndbohoogaa

/- Contracts: codeOf and the deferred closures of package octet. -/
set_option linter.unusedVariables false
set_option linter.unusedSimpArgs false
namespace Go.Proofs.Ytfkpgndbohoogaa
open Go.RowKit











end Go.Proofs.Ytfkpgndbohoogaa

/- Contracts of package octet's exported readers. -/
set_option linter.unusedVariables false
set_option linter.unusedSimpArgs false
namespace Go.Proofs.Ytfkpgndbohoogaa
open Go.RowKit

/-- What a reading of a number from t on comes to: the number, the place behind it, the code. -/
def numOf (bs : List UInt8) (t : Int) : Int × Int × Int :=
  if t < 0 ∨ (bs.length : Int) < t + 8 then (0, 0, 2) else if val (sub bs t.toNat 8) < 2 ^ 62 then ((val (sub bs t.toNat 8) : Int), t + 8, 0) else (0, 0, 4)

def byteOf (bs : List UInt8) (t : Int) : Int × Int × Int :=
  if t < 0 ∨ (bs.length : Int) ≤ t then (0, 0, 2) else (((bs.getD t.toNat 0).toNat : Int), t + 1, 0)

def textOf (bs : List UInt8) (t m : Int) : List UInt8 × Int × Int :=
  if t < 0 ∨ (bs.length : Int) ≤ t then ([], 0, 2) else
  if m < ((bs.getD t.toNat 0).toNat : Int) then ([], 0, 3) else
  if (bs.length : Int) < t + 1 + (bs.getD t.toNat 0).toNat then ([], 0, 2) else
  (sub bs (t.toNat + 1) (bs.getD t.toNat 0).toNat, t + 1 + (bs.getD t.toNat 0).toNat, 0)

def endOf (bs : List UInt8) (t : Int) : Int :=
  if t < 0 ∨ (bs.length : Int) < t then 2 else if t < (bs.length : Int) then 3 else 0

/-- Three numbers told, nothing that was there has turned. -/
def Three (r : Int × Int × Int) (w : World) (e : Ending) (w' : World) : Prop :=
  e = .returned (.tuple #[.int .i64 r.1, .int .i64 r.2.1, .int .i64 r.2.2]) ∧ Below w.heap.size w w'

/-- A text, a place and a code told. -/
def TextTold (r : List UInt8 × Int × Int) (w : World) (e : Ending) (w' : World) : Prop :=
  e = .returned (.tuple #[.string (bstr r.1), .int .i64 r.2.1, .int .i64 r.2.2]) ∧ Below w.heap.size w w'

def OneTold (r : Int) (w : World) (e : Ending) (w' : World) : Prop :=
  e = .returned (.int .i64 r) ∧ Below w.heap.size w w'

theorem made_func (fn : Fn) (first cap : Array Value) (w : World) : (Instr.makeFunc fn first cap).run Try.prog w = .ok (.func fn first cap) w := rfl

















end Go.Proofs.Ytfkpgndbohoogaa

/- Contracts of package octet's writers. -/
set_option linter.unusedVariables false
set_option linter.unusedSimpArgs false
namespace Go.Proofs.Ytfkpgndbohoogaa
open Go.RowKit

/-- The bytes of a number, the most significant one first: the i-th of eight. -/
def beByte (n i : Nat) : Nat := n / 256 ^ (7 - i) % 256

def be8 (n : Nat) : List UInt8 := [UInt8.ofNat (beByte n 0), UInt8.ofNat (beByte n 1), UInt8.ofNat (beByte n 2), UInt8.ofNat (beByte n 3), UInt8.ofNat (beByte n 4), UInt8.ofNat (beByte n 5), UInt8.ofNat (beByte n 6), UInt8.ofNat (beByte n 7)]

/-- The row of eight cells of which the last k are laid. -/
def beCell (n k i : Nat) : Value := .int .u8 (if 8 - k ≤ i then (beByte n i : Int) else 0)
def beArr (n k : Nat) : Array Value := #[beCell n k 0, beCell n k 1, beCell n k 2, beCell n k 3, beCell n k 4, beCell n k 5, beCell n k 6, beCell n k 7]

theorem beArr_zero (n : Nat) : beArr n 0 = #[.int .u8 0, .int .u8 0, .int .u8 0, .int .u8 0, .int .u8 0, .int .u8 0, .int .u8 0, .int .u8 0] := rfl

theorem beCell_succ (n k i : Nat) (hk : k < 8) (hi : i < 8) (h : i ≠ 7 - k) : beCell n (k + 1) i = beCell n k i := by
  unfold beCell
  by_cases h1 : 8 - k ≤ i
  · rw [if_pos h1, if_pos (by omega)]
  · rw [if_neg h1, if_neg (by omega)]

theorem beArr_step (n k : Nat) (hk : k < 8) : (beArr n k).setIfInBounds (7 - k) (.int .u8 ((n / 256 ^ k % 256 : Nat) : Int)) = beArr n (k + 1) := by
  have hlast : beCell n (k + 1) (7 - k) = .int .u8 ((n / 256 ^ k % 256 : Nat) : Int) := by
    unfold beCell beByte
    rw [if_pos (by omega), show 7 - (7 - k) = k by omega]
  rw [← hlast]
  have e := fun i (hi : i < 8) (h : i ≠ 7 - k) => beCell_succ n k i hk hi h
  unfold beArr
  match k, hk with
  | 0, _ => simp [e 0 (by omega) (by omega), e 1 (by omega) (by omega), e 2 (by omega) (by omega), e 3 (by omega) (by omega), e 4 (by omega) (by omega), e 5 (by omega) (by omega), e 6 (by omega) (by omega)]
  | 1, _ => simp [e 0 (by omega) (by omega), e 1 (by omega) (by omega), e 2 (by omega) (by omega), e 3 (by omega) (by omega), e 4 (by omega) (by omega), e 5 (by omega) (by omega), e 7 (by omega) (by omega)]
  | 2, _ => simp [e 0 (by omega) (by omega), e 1 (by omega) (by omega), e 2 (by omega) (by omega), e 3 (by omega) (by omega), e 4 (by omega) (by omega), e 6 (by omega) (by omega), e 7 (by omega) (by omega)]
  | 3, _ => simp [e 0 (by omega) (by omega), e 1 (by omega) (by omega), e 2 (by omega) (by omega), e 3 (by omega) (by omega), e 5 (by omega) (by omega), e 6 (by omega) (by omega), e 7 (by omega) (by omega)]
  | 4, _ => simp [e 0 (by omega) (by omega), e 1 (by omega) (by omega), e 2 (by omega) (by omega), e 4 (by omega) (by omega), e 5 (by omega) (by omega), e 6 (by omega) (by omega), e 7 (by omega) (by omega)]
  | 5, _ => simp [e 0 (by omega) (by omega), e 1 (by omega) (by omega), e 3 (by omega) (by omega), e 4 (by omega) (by omega), e 5 (by omega) (by omega), e 6 (by omega) (by omega), e 7 (by omega) (by omega)]
  | 6, _ => simp [e 0 (by omega) (by omega), e 2 (by omega) (by omega), e 3 (by omega) (by omega), e 4 (by omega) (by omega), e 5 (by omega) (by omega), e 6 (by omega) (by omega), e 7 (by omega) (by omega)]
  | 7, _ => simp [e 1 (by omega) (by omega), e 2 (by omega) (by omega), e 3 (by omega) (by omega), e 4 (by omega) (by omega), e 5 (by omega) (by omega), e 6 (by omega) (by omega), e 7 (by omega) (by omega)]

/-- Bytes and a code told; the bytes lie in new memory of the call's own. -/
def Made (r : List UInt8 × Int) (w : World) (e : Ending) (w' : World) : Prop :=
  ∃ v, e = .returned (.tuple #[v, .int .i64 r.2]) ∧ w'.ownsRow w.heap.size 5 1 v r.1.length (cellsOf r.1) ∧ Below w.heap.size w w'

theorem make8 (w : World) : (Instr.makeSlice 42 (.int .i64 8) (.int .i64 8)).run Try.prog w = .ok (.slice (some ⟨w.heap.size, 0, none⟩) 8 8) (w.alloc (.cells (beArr 0 0) 5)) := by
  rw [beArr_zero]; kernel_rfl

theorem shr_step (n k : Nat) : ((n : Int) / 256 ^ k / 256) = ((n / 256 ^ (k + 1) : Nat) : Int) := by
  rw [Nat.pow_succ, ← Nat.div_div_eq_div_mul]; simp

theorem low_byte (n k : Nat) : ((n : Int) / 256 ^ k % 256) = ((n / 256 ^ k % 256 : Nat) : Int) := by simp


theorem beByte_lt (n i : Nat) : beByte n i < 256 := Nat.mod_lt _ (by omega)

theorem toNat_byte (n : Nat) (h : n < 256) : (UInt8.ofNat n).toNat = n := by simp; omega

theorem beArr_cells (n : Nat) : (beArr n 8).toList = cellsOf (be8 n) := by
  have h := fun i => toNat_byte (beByte n i) (beByte_lt n i)
  simp only [beArr, beCell, cellsOf, be8, List.map_cons, List.map_nil, h]
  rfl

theorem be8_length (n : Nat) : (be8 n).length = 8 := rfl

theorem owns_lit (w : World) (cs : Array Value) (bs : List UInt8) (h : cs.toList = cellsOf bs) (hm : bs.length ≤ maxLen) :
    (w.alloc (.cells cs 5)).ownsRow w.heap.size 5 1 (.slice (some ⟨w.heap.size, 0, none⟩) bs.length bs.length) bs.length (cellsOf bs) := by
  have hl : cs.size = bs.length := by rw [← Array.length_toList, h]; simp [cellsOf]
  have := World.ownsRow_lit (base := w.heap.size) (e := 5) (size := 1) w cs bs.length (Nat.le_refl _) hm (by omega)
  rw [h] at this
  exact this

/-- What a number is put as: bytes, and a code. -/
def putNumOf (v : Int) : List UInt8 × Int := if v < 0 ∨ 2 ^ 62 ≤ v then ([], 1) else (be8 v.toNat, 0)

theorem made_none (c : Int) (w : World) (e : Ending) (w' : World) (h : e = .returned (.tuple #[.slice none 0 0, .int .i64 c]) ∧ w = w') : Made ([], c) w e w' := by
  obtain ⟨rfl, rfl⟩ := h
  exact ⟨_, rfl, World.ownsRow_nil _ _ _ _, Below.refl _ _⟩

theorem made_lit (cs : Array Value) (bs : List UInt8) (w : World) (e : Ending) (w' : World) (hc : cs.toList = cellsOf bs) (hm : bs.length ≤ maxLen)
    (h : e = .returned (.tuple #[.slice (some ⟨w.heap.size, 0, none⟩) bs.length bs.length, .int .i64 0]) ∧ w.alloc (.cells cs 5) = w') : Made (bs, 0) w e w' := by
  obtain ⟨rfl, rfl⟩ := h
  exact ⟨_, rfl, owns_lit w cs bs hc hm, (Below.refl _ _).alloc (Nat.le_refl _) _⟩



def putByteOf (v : Int) : List UInt8 × Int := if v < 0 ∨ 255 < v then ([], 1) else ([UInt8.ofNat v.toNat], 0)




theorem info8 : (Try.prog.info? 5).map (fun i => (i.zero, i.size, i.bytes)) = some (some (.int .u8 0), 1, 1) := by kernel_rfl

def putTextOf (s : ByteArray) : List UInt8 × Int := if 255 < s.size then ([], 3) else (UInt8.ofNat s.size :: s.data.toList, 0)




end Go.Proofs.Ytfkpgndbohoogaa

/- Contracts of the document's answers for layer 1. -/
set_option linter.unusedVariables false
set_option linter.unusedSimpArgs false
namespace Go.Proofs.Ytfkpgndbohoogaa
open Go.RowKit
namespace Ref1






end Ref1
end Go.Proofs.Ytfkpgndbohoogaa

/- Contracts of the document's answers for layer 1: numbers, and what is put. -/
set_option linter.unusedVariables false
set_option linter.unusedSimpArgs false
namespace Go.Proofs.Ytfkpgndbohoogaa
open Go.RowKit
namespace Ref1

theorem val_cons_lt (x : UInt8) (l : List UInt8) (h : x.toNat < 64) : val (x :: l) < 64 * 256 ^ l.length := by
  have h1 := val_go l x.toNat
  have h2 : (x.toNat + 1) * 256 ^ l.length ≤ 64 * 256 ^ l.length := Nat.mul_le_mul_right _ (by omega)
  have e : val (x :: l) = l.foldl (fun a x => a * 256 + x.toNat) x.toNat := by simp [val]
  rw [e]
  exact Nat.lt_of_lt_of_le h1 h2

theorem val_cons_ge (l : List UInt8) (a : Nat) : a * 256 ^ l.length ≤ l.foldl (fun a x => a * 256 + x.toNat) a := by
  induction l generalizing a with
  | nil => simp
  | cons x l ih =>
    have h1 := ih (a * 256 + x.toNat)
    have h2 : a * 256 * 256 ^ l.length ≤ (a * 256 + x.toNat) * 256 ^ l.length := Nat.mul_le_mul_right _ (by omega)
    rw [List.foldl_cons, List.length_cons, Nat.pow_succ, Nat.mul_comm (256 ^ l.length) 256, ← Nat.mul_assoc]
    exact Nat.le_trans h2 h1

/-- The first of eight bytes tells whether the number is below 2^62. -/
theorem first_small (bs : List UInt8) (k : Nat) (h : k + 8 ≤ bs.length) : val (sub bs k 8) < 2 ^ 62 ↔ (bs.getD k 0).toNat < 64 := by
  have hl := sub_length bs k 8 h
  have h0 := sub_getD bs k 8 0 (by omega)
  match hs : sub bs k 8, hl with
  | x :: l, hl =>
    rw [hs] at h0
    simp only [List.getD_cons_zero, Nat.add_zero] at h0
    simp only [List.length_cons] at hl
    have hl' : l.length = 7 := by omega
    rw [← h0]
    constructor
    · intro hv
      have := val_cons_ge l x.toNat
      rw [hl'] at this
      have e : val (x :: l) = l.foldl (fun a x => a * 256 + x.toNat) x.toNat := by simp [val]
      rw [e] at hv
      omega
    · intro hx
      have := val_cons_lt x l hx
      rw [hl'] at this
      omega

theorem part_small (bs : List UInt8) (k j : Nat) (h : k + 8 ≤ bs.length) (hj : j < 8) (hx : (bs.getD k 0).toNat < 64) : val (sub bs k j) < 18014398509481984 := by
  match j, hj with
  | 0, _ => simp [sub, val]
  | j + 1, hj =>
    have hl := sub_length bs k (j + 1) (by omega)
    have h0 := sub_getD bs k (j + 1) 0 (by omega)
    match hs : sub bs k (j + 1), hl with
    | x :: l, hl =>
      rw [hs] at h0
      simp only [List.getD_cons_zero, Nat.add_zero] at h0
      simp only [List.length_cons] at hl
      have := val_cons_lt x l (by rw [h0]; exact hx)
      have h2 : 64 * 256 ^ l.length ≤ 64 * 256 ^ 6 := Nat.mul_le_mul_left _ (Nat.pow_le_pow_right (by omega) (by omega))
      omega












end Ref1
end Go.Proofs.Ytfkpgndbohoogaa

/- Contracts of the statements' own helpers of layer 1: Same, awake. -/
set_option linter.unusedVariables false
set_option linter.unusedSimpArgs false
namespace Go.Proofs.Ytfkpgndbohoogaa
open Go.RowKit



/-- Bytes told, to be read. -/
def MadeRd (r : List UInt8 × Int) (w : World) (e : Ending) (w' : World) : Prop :=
  ∃ v, e = .returned (.tuple #[v, .int .i64 r.2]) ∧ Rd w' v r.1 ∧ Below w.heap.size w w'

theorem Made.rd {r : List UInt8 × Int} {w : World} {e : Ending} {w' : World} (h : Made r w e w') : MadeRd r w e w' := by
  obtain ⟨v, he, ho, hb⟩ := h
  exact ⟨v, he, Rd.own ho, hb⟩

theorem rd_lit (w : World) (cs : Array Value) (bs : List UInt8) (h : cs.toList = cellsOf bs) (hm : bs.length ≤ maxLen) : Rd (w.alloc (.cells cs 5)) (.slice (some ⟨w.heap.size, 0, none⟩) bs.length bs.length) bs :=
  Rd.own (owns_lit w cs bs h hm)


end Go.Proofs.Ytfkpgndbohoogaa

/- Plain facts on bytes of numbers. -/
set_option linter.unusedVariables false
set_option linter.unusedSimpArgs false
namespace Go.Proofs.Ytfkpgndbohoogaa
open Go.RowKit

/-- The number that bytes are, by the first one. -/
def valr : List UInt8 → Nat
  | [] => 0
  | x :: l => x.toNat * 256 ^ l.length + valr l

theorem valr_lt (l : List UInt8) : valr l < 256 ^ l.length := by
  induction l with
  | nil => simp [valr]
  | cons x l ih =>
    have hx := UInt8.toNat_lt x
    have h2 : (x.toNat + 1) * 256 ^ l.length ≤ 256 * 256 ^ l.length := Nat.mul_le_mul_right _ (by omega)
    rw [valr, List.length_cons, Nat.pow_succ, Nat.mul_comm (256 ^ l.length) 256]
    rw [Nat.add_mul] at h2
    omega

theorem val_valr (l : List UInt8) (a : Nat) : l.foldl (fun a x => a * 256 + x.toNat) a = a * 256 ^ l.length + valr l := by
  induction l generalizing a with
  | nil => simp [valr]
  | cons x l ih =>
    rw [List.foldl_cons, ih, valr, List.length_cons, Nat.pow_succ, Nat.add_mul, Nat.mul_comm (256 ^ l.length) 256, Nat.mul_assoc, Nat.add_assoc]

theorem val_eq (l : List UInt8) : val l = valr l := by
  have := val_valr l 0
  simpa [val] using this

theorem less_val (a b : List UInt8) (h : a.length = b.length) : Op.bytesLess a b = decide (valr a < valr b) := by
  induction a generalizing b with
  | nil =>
    have : b = [] := List.length_eq_zero_iff.1 h.symm
    subst this
    simp [Op.bytesLess, valr]
  | cons x a ih =>
    match b, h with
    | y :: b, h =>
      have hl : a.length = b.length := by simpa using h
      have ha := valr_lt a
      have hb := valr_lt b
      rw [Op.bytesLess, ih b hl, valr, valr, hl]
      rw [hl] at ha
      generalize valr a = p at ha ⊢
      generalize valr b = q at hb ⊢
      generalize 256 ^ b.length = m at ha hb ⊢
      by_cases h1 : x < y
      · have h1' : x.toNat < y.toNat := UInt8.lt_iff_toNat_lt.1 h1
        have : (x.toNat + 1) * m ≤ y.toNat * m := Nat.mul_le_mul_right _ h1'
        rw [Nat.add_mul] at this
        simp [h1]
        omega
      · by_cases h2 : x = y
        · subst h2
          simp [h1]
        · have h1' : ¬ x.toNat < y.toNat := fun q => h1 (UInt8.lt_iff_toNat_lt.2 q)
          have h2' : x.toNat ≠ y.toNat := fun q => h2 (UInt8.toNat_inj.1 q)
          have : (y.toNat + 1) * m ≤ x.toNat * m := Nat.mul_le_mul_right _ (by omega)
          rw [Nat.add_mul] at this
          have hno : ¬ (x.toNat * m + p < y.toNat * m + q) := by omega
          simp [h1, h2, hno]

theorem val_be8 (n : Nat) (h : n < 2 ^ 64) : val (be8 n) = n := by
  have t := fun i => toNat_byte (beByte n i) (beByte_lt n i)
  simp only [val, be8, List.foldl_cons, List.foldl_nil, t]
  simp only [beByte]
  omega

theorem be8_inj (n m : Nat) (hn : n < 2 ^ 64) (hm : m < 2 ^ 64) : (be8 n == be8 m) = decide (n = m) := by
  by_cases h : n = m
  · subst h; simp
  · have : be8 n ≠ be8 m := fun q => h (by rw [← val_be8 n hn, ← val_be8 m hm, q])
    simp [h, this]

theorem be8_less (n m : Nat) (hn : n < 2 ^ 64) (hm : m < 2 ^ 64) : Op.bytesLess (be8 n) (be8 m) = decide (n < m) := by
  rw [less_val (be8 n) (be8 m) rfl, ← val_eq, ← val_eq, val_be8 n hn, val_be8 m hm]

theorem rd8 (w : World) (n : Nat) : Rd (w.alloc (.cells (beArr n 8) 5)) (.slice (some ⟨w.heap.size, 0, none⟩) 8 8) (be8 n) :=
  rd_lit w _ (be8 n) (beArr_cells n) (by rw [be8_length]; unfold maxLen; omega)

theorem rd_zero (K : Nat) (w2 w3 : World) (h : w3.ownsRow w2.heap.size 5 1 (.slice (some ⟨w2.heap.size, 0, none⟩) K K) K (madeCells (Value.int .u8 0).cells (K * 1)).toList) :
    Rd w3 (.slice (some ⟨w2.heap.size, 0, none⟩) K K) (List.replicate K 0) := by
  have e : (madeCells (Value.int .u8 0).cells (K * 1)).toList = cellsOf (List.replicate K 0) := by
    rw [show (Value.int .u8 0).cells = #[.int .u8 0] from rfl, toList_madeCells_one, Nat.mul_one]
    simp [cellsOf]
  rw [e] at h
  have hl : (List.replicate K (0 : UInt8)).length = K := List.length_replicate
  refine Rd.own (base := w2.heap.size) (e := 5) ?_
  rw [hl]; exact h

theorem rdL3 (w : World) (C : Nat) (h : C < 256) : Rd (w.alloc (.cells #[.int .u8 (C : Int), .int .u8 1, .int .u8 2] 5)) (.slice (some ⟨w.heap.size, 0, none⟩) 3 3) [UInt8.ofNat C, 1, 2] :=
  rd_lit w _ [UInt8.ofNat C, 1, 2] (by simp [cellsOf]; omega) (by simp [maxLen])

theorem rdL8 (w : World) (C : Nat) (h : C < 256) : Rd (w.alloc (.cells #[.int .u8 (C : Int), .int .u8 0, .int .u8 0, .int .u8 0, .int .u8 0, .int .u8 0, .int .u8 0, .int .u8 0] 5)) (.slice (some ⟨w.heap.size, 0, none⟩) 8 8) [UInt8.ofNat C, 0, 0, 0, 0, 0, 0, 0] :=
  rd_lit w _ [UInt8.ofNat C, 0, 0, 0, 0, 0, 0, 0] (by simp [cellsOf]; omega) (by simp [maxLen])
end Go.Proofs.Ytfkpgndbohoogaa

/- What is owned and written over; what was put and is read again. -/
set_option linter.unusedVariables false
set_option linter.unusedSimpArgs false
namespace Go.Proofs.Ytfkpgndbohoogaa
open Go.RowKit

theorem own_mono {w : World} {base base' : Nat} {e : TypeId} {v : Value} {n : Nat} {xs : List Value} (h : w.ownsRow base e 1 v n xs) (hb : base' ≤ base) : w.ownsRow base' e 1 v n xs := by
  refine ⟨h.1, ?_⟩
  rcases h.2 with h' | ⟨g, cap, cur, h1, h2, r⟩
  · exact .inl h'
  · exact .inr ⟨g, cap, cur, h1, by omega, r⟩

/-- What is owned, of some bytes or other. -/
def Owned (w : World) (base : Nat) (v : Value) (n : Nat) : Prop := ∃ bs : List UInt8, bs.length = n ∧ w.ownsRow base 5 1 v n (cellsOf bs)

theorem Owned.cell {w : World} {base g n cap : Nat} (h : Owned w base (.slice (some ⟨g, 0, none⟩) n cap) n) (k : Nat) (hk : k < n) :
    ∃ c : Nat, c < 256 ∧ w.cell? ⟨g, k, none⟩ = some (.int .u8 (c : Int)) ∧ w.frozen? ⟨g, k, none⟩ = false ∧ base ≤ g := by
  obtain ⟨bs, hl, ho⟩ := h
  refine ⟨(bs.getD k 0).toNat, UInt8.toNat_lt _, ?_, ho.frozenAt k, (ho.lt g rfl).1⟩
  rw [ho.cellAt k (by omega)]
  simp [cellsOf, List.getElem?_eq_getElem (show k < bs.length by omega)]

theorem Owned.stored {w : World} {base g n cap : Nat} (h : Owned w base (.slice (some ⟨g, 0, none⟩) n cap) n) (k c : Nat) (hc : c < 256) :
    Owned (w.setCell ⟨g, k, none⟩ (.int .u8 (c : Int))) base (.slice (some ⟨g, 0, none⟩) n cap) n := by
  obtain ⟨bs, hl, ho⟩ := h
  refine ⟨bs.set k (UInt8.ofNat c), by simp [hl], ?_⟩
  have h1 := (ho.stored k (.int .u8 (c : Int))).1
  have e : (cellsOf bs).set k (.int .u8 (c : Int)) = cellsOf (bs.set k (UInt8.ofNat c)) := by
    unfold cellsOf
    rw [List.map_set, toNat_byte c hc]
  rw [e] at h1
  exact h1

theorem Owned.below {w : World} {base n : Nat} {v : Value} (h : Owned w base v n) {a : Addr} (ha : a.block < base) (u : Value) : Owned (w.setCell a u) base v n := by
  obtain ⟨bs, hl, ho⟩ := h
  exact ⟨bs, hl, ownsRow_setCell_below ho ha u⟩

theorem Owned.later {w w' : World} {base n : Nat} {v : Value} (h : Owned w base v n) (hb : Below w.heap.size w w') : Owned w' base v n := by
  obtain ⟨bs, hl, ho⟩ := h
  refine ⟨bs, hl, ho.1, ?_⟩
  rcases ho.2 with h' | ⟨g, cap, cur, h1, h2, h3, r⟩
  · exact .inl h'
  · refine .inr ⟨g, cap, cur, h1, h2, ?_, r⟩
    rw [hb.block g (Array.getElem?_eq_some_iff.1 h3).1]
    exact h3

theorem bstr_self (s : ByteArray) : bstr s.data.toList = s := by cases s; simp [bstr]

theorem sub_whole (a b : List UInt8) (n k : Nat) (h : a.length = k) (hn : b.length = n) (c : List UInt8) : sub (a ++ b ++ c) k n = b := by
  subst h; subst hn
  unfold sub
  rw [List.append_assoc, List.drop_left, List.take_left]

/-- A number that was put is read as it was. -/
theorem numOf_put (n : Nat) (h : n < 2 ^ 62) (a c : List UInt8) : numOf (a ++ be8 n ++ c) a.length = ((n : Int), (a.length : Int) + 8, 0) := by
  unfold numOf
  have hs : sub (a ++ be8 n ++ c) a.length 8 = be8 n := sub_whole a (be8 n) 8 a.length rfl rfl c
  rw [Int.toNat_natCast, hs, val_be8 n (by omega)]
  rw [if_neg (by simp [be8_length]; omega), if_pos h]

/-- A text that was put is read as it was. -/
theorem textOf_put (s : List UInt8) (h : s.length ≤ 255) (a c : List UInt8) (m : Int) (hm : 255 ≤ m) :
    textOf (a ++ (UInt8.ofNat s.length :: s) ++ c) a.length m = (s, (a.length : Int) + 1 + s.length, 0) := by
  unfold textOf
  have h0 : (a ++ (UInt8.ofNat s.length :: s) ++ c).getD a.length 0 = UInt8.ofNat s.length := by
    simp [List.getD]
  have hn : (UInt8.ofNat s.length).toNat = s.length := toNat_byte _ (by omega)
  have hs : sub (a ++ (UInt8.ofNat s.length :: s) ++ c) (a.length + 1) s.length = s := by
    have := sub_whole (a ++ [UInt8.ofNat s.length]) s s.length (a.length + 1) (by simp) rfl c
    simpa using this
  rw [Int.toNat_natCast, h0, hn]
  rw [if_neg (by simp; omega), if_neg (by omega), if_neg (by simp; omega)]
  rw [hs]

/-- A row of new bytes told, of the call's own. -/
def Row (n : Nat) (bs : List UInt8) (w : World) (e : Ending) (w' : World) : Prop :=
  ∃ g cap, e = .returned (.tuple #[.slice (some ⟨g, 0, none⟩) n cap, .int .i64 0]) ∧ Owned w' w.heap.size (.slice (some ⟨g, 0, none⟩) n cap) n ∧ Rd w' (.slice (some ⟨g, 0, none⟩) n cap) bs ∧ Below w.heap.size w w'

theorem row_of {w w' : World} {e : Ending} {n : Nat} {bs : List UInt8} (hl : bs.length = n) (hn : 0 < n) (h : Made (bs, 0) w e w') : Row n bs w e w' := by
  obtain ⟨v, he, ho, hb⟩ := h
  subst hl
  have hr := Rd.own ho
  have hO : Owned w' w.heap.size v bs.length := ⟨bs, rfl, ho⟩
  rcases ho.2 with ⟨_, h'⟩ | ⟨g, cap, cur, rfl, _⟩
  · exact absurd h' (by simp only; omega)
  · exact ⟨g, cap, he, hO, hr, hb⟩



/-- An empty list of bytes that the call makes. -/
theorem own_empty (w : World) (base : Nat) (hb : base ≤ w.heap.size) : (w.alloc (.cells #[] 5)).ownsRow base 5 1 (.slice (some ⟨w.heap.size, 0, none⟩) 0 0) 0 [] :=
  own_mono (World.ownsRow_lit (base := w.heap.size) (e := 5) (size := 1) w #[] 0 (Nat.le_refl _) (by unfold maxLen; omega) rfl) hb

theorem owned_lt {w : World} {base g n cap : Nat} (h : Owned w base (.slice (some ⟨g, 0, none⟩) n cap) n) : g < w.heap.size := by
  obtain ⟨bs, _, ho⟩ := h
  exact (ho.lt g rfl).2

theorem rd_app {w : World} {base : Nat} {v : Value} {bs : List UInt8} (h : w.ownsRow base 5 1 v (0 + bs.length) ([] ++ cellsOf bs)) : Rd w v bs := by
  rw [Nat.zero_add, List.nil_append] at h
  exact Rd.own h

theorem Rd.pre {w : World} {g N cap m : Nat} {T : List UInt8} (h : Rd w (.slice (some ⟨g, 0, none⟩) N cap) T) (hm : m ≤ N) : Rd w (.slice (some ⟨g, 0, none⟩) m cap) (T.take m) := by
  obtain ⟨a, len, c, hv, hl, hc, hmx, hn, hx⟩ := h.ex
  cases hv
  refine ⟨some ⟨g, 0, none⟩, m, cap, rfl, by simp; omega, by omega, hmx, (fun q => by cases q), fun x hx' hp => ?_⟩
  cases hx'
  refine ⟨rfl, fun i hi => ?_⟩
  have := (hx _ rfl (by omega)).2 i (by omega)
  rw [this]
  have e : (T.take m).getD i 0 = T.getD i 0 := by simp [List.getD, List.getElem?_take, hi]
  rw [e]

theorem numOf_short (T : List UInt8) (k : Nat) (h : T.length < k + 8) : numOf T k = (0, 0, 2) := by
  unfold numOf
  rw [if_pos (by omega)]

/-- A text that is cut anywhere is too short. -/
theorem textOf_cut (P s Bh : List UInt8) (j : Nat) (h : s.length ≤ 255) (hj : j < 1 + s.length) :
    textOf (P ++ ((UInt8.ofNat s.length :: s) ++ Bh).take j) P.length 255 = ([], 0, 2) := by
  unfold textOf
  have hlen : (P ++ ((UInt8.ofNat s.length :: s) ++ Bh).take j).length = P.length + j := by simp; omega
  rw [hlen]
  by_cases h0 : j = 0
  · rw [if_pos (by omega)]
  · rw [if_neg (by omega)]
    have hd : (P ++ ((UInt8.ofNat s.length :: s) ++ Bh).take j).getD ((P.length : Int)).toNat 0 = UInt8.ofNat s.length := by
      rw [Int.toNat_natCast]
      match j, h0 with
      | j + 1, _ => simp [List.getD]
    rw [hd, toNat_byte _ (by omega)]
    rw [if_neg (by omega), if_pos (by omega)]

theorem take_cut (A B R : List UInt8) (k : Nat) (h : B.length ≤ k) : (A ++ B ++ R).take (A.length + k) = A ++ B ++ R.take (k - B.length) := by
  rw [List.take_append, List.take_of_length_le (by simp; omega)]
  congr 2
  simp; omega

theorem back_shape {w : World} {base N : Nat} {v : Value} {T A B S R : List UInt8} (h : T.length = N ∧ cellsOf T = [] ++ cellsOf A ++ cellsOf B ++ cellsOf S ++ cellsOf R ∧ T.length = 0 + A.length + B.length + S.length + R.length ∧ 0 < T.length)
    (ho : w.ownsRow base 5 1 v (0 + A.length + B.length + S.length + R.length) ([] ++ cellsOf A ++ cellsOf B ++ cellsOf S ++ cellsOf R)) :
    ∃ g cap, v = .slice (some ⟨g, 0, none⟩) N cap ∧ N ≤ cap ∧ Rd w (.slice (some ⟨g, 0, none⟩) N cap) T := by
  obtain ⟨h1, h2, h3, h4⟩ := h
  rw [← h2, ← h3] at ho
  have hr := Rd.own ho
  rcases ho.2 with ⟨_, h'⟩ | ⟨g, cap, cur, rfl, _, _, hc, _⟩
  · omega
  · subst h1
    exact ⟨g, cap, rfl, hc, hr⟩
end Go.Proofs.Ytfkpgndbohoogaa

/- What package cmd answers, as plain functions over bytes: names, commands, requests; what is put is read as it was. No program is named here. -/
set_option linter.unusedVariables false
set_option linter.unusedSimpArgs false
namespace Go.Proofs.Ytfkpgndbohoogaa
open Go.RowKit

theorem byteOf_put (x : UInt8) (a c : List UInt8) : byteOf (a ++ [x] ++ c) a.length = ((x.toNat : Int), (a.length : Int) + 1, 0) := by
  unfold byteOf
  rw [if_neg (by simp; omega), Int.toNat_natCast]
  simp [List.getD]

/-- A text that was put is read as it was, whatever is allowed that is not less. -/
theorem textOf_put' (s : List UInt8) (h : s.length ≤ 255) (a c : List UInt8) (m : Int) (hm : (s.length : Int) ≤ m) :
    textOf (a ++ (UInt8.ofNat s.length :: s) ++ c) a.length m = (s, (a.length : Int) + 1 + s.length, 0) := by
  unfold textOf
  have h0 : (a ++ (UInt8.ofNat s.length :: s) ++ c).getD a.length 0 = UInt8.ofNat s.length := by
    simp [List.getD]
  have hn : (UInt8.ofNat s.length).toNat = s.length := toNat_byte _ (by omega)
  have hs : sub (a ++ (UInt8.ofNat s.length :: s) ++ c) (a.length + 1) s.length = s := by
    have := sub_whole (a ++ [UInt8.ofNat s.length]) s s.length (a.length + 1) (by simp) rfl c
    simpa using this
  rw [Int.toNat_natCast, h0, hn]
  rw [if_neg (by simp; omega), if_neg (by omega), if_neg (by simp; omega)]
  rw [hs]

theorem textOf_short (T : List UInt8) (k : Nat) (m : Int) (s : List UInt8) (h : s.length ≤ 255) (hm : (s.length : Int) ≤ m) (P : List UInt8) (j : Nat) (hj : j < 1 + s.length) (hk : k = P.length) (hT : T = P ++ (UInt8.ofNat s.length :: s).take j) :
    textOf T k m = ([], 0, 2) := by
  subst hT
  subst hk
  unfold textOf
  have hlen : (P ++ (UInt8.ofNat s.length :: s).take j).length = P.length + j := by simp; omega
  rw [hlen]
  by_cases h0 : j = 0
  · rw [if_pos (by omega)]
  · rw [if_neg (by omega)]
    have hd : (P ++ (UInt8.ofNat s.length :: s).take j).getD ((P.length : Int)).toNat 0 = UInt8.ofNat s.length := by
      rw [Int.toNat_natCast]
      match j, h0 with
      | j + 1, _ => simp [List.getD]
    rw [hd, toNat_byte _ (by omega)]
    rw [if_neg (by omega), if_pos (by omega)]

theorem byteOf_short (T : List UInt8) (k : Nat) (h : T.length ≤ k) : byteOf T k = (0, 0, 2) := by
  unfold byteOf
  rw [if_pos (by omega)]

namespace Cm

/-- A command: its kind, its session, its name's bytes. -/
structure CmdV where
  kind : Int
  session : Int
  name : List UInt8

def zero : CmdV := ⟨0, 0, []⟩

def nameB (c : UInt8) : Bool := (decide (97 ≤ c.toNat) && decide (c.toNat ≤ 122)) || (decide (48 ≤ c.toNat) && decide (c.toNat ≤ 57)) || decide (c.toNat = 45)
def nameF (s : List UInt8) : Bool := decide (1 ≤ s.length) && decide (s.length ≤ 12) && s.all nameB
def highF (v least : Int) : Bool := decide (least ≤ v) && decide (v ≤ 2305843009213693952)

def mayF (c : CmdV) : Bool :=
  if c.kind = 1 then decide (c.session = 0) && decide (c.name = [])
  else if c.kind = 2 ∨ c.kind = 6 then highF c.session 1 && decide (c.name = [])
  else if c.kind = 3 ∨ c.kind = 4 ∨ c.kind = 5 then highF c.session 1 && nameF c.name
  else false

theorem may_bounds (c : CmdV) (h : mayF c = true) : (1 ≤ c.kind ∧ c.kind ≤ 6) ∧ (0 ≤ c.session ∧ c.session ≤ 2305843009213693952) ∧ c.name.length ≤ 12 := by
  unfold mayF highF nameF at h
  split at h
  · simp at h
    rw [h.2]
    simp
    omega
  · split at h
    · simp at h
      rw [h.2]
      simp
      omega
    · split at h
      · simp at h
        omega
      · cases h

def bytesC (c : CmdV) : List UInt8 := UInt8.ofNat c.kind.toNat :: (be8 c.session.toNat ++ (UInt8.ofNat c.name.length :: c.name))
theorem bytesC_length (c : CmdV) : (bytesC c).length = 10 + c.name.length := by
  unfold bytesC
  simp [be8_length]
  omega

def putF (c : CmdV) : List UInt8 × Int := if mayF c then (bytesC c, 0) else ([], 1)

def getF (bs : List UInt8) (t : Int) : CmdV × Int × Int :=
  if (byteOf bs t).2.2 ≠ 0 then (zero, 0, (byteOf bs t).2.2) else
  if (numOf bs (byteOf bs t).2.1).2.2 ≠ 0 then (zero, 0, (numOf bs (byteOf bs t).2.1).2.2) else
  if (textOf bs (numOf bs (byteOf bs t).2.1).2.1 12).2.2 ≠ 0 then (zero, 0, (textOf bs (numOf bs (byteOf bs t).2.1).2.1 12).2.2) else
  if mayF ⟨(byteOf bs t).1, (numOf bs (byteOf bs t).2.1).1, (textOf bs (numOf bs (byteOf bs t).2.1).2.1 12).1⟩ then
    (⟨(byteOf bs t).1, (numOf bs (byteOf bs t).2.1).1, (textOf bs (numOf bs (byteOf bs t).2.1).2.1 12).1⟩, (textOf bs (numOf bs (byteOf bs t).2.1).2.1 12).2.1, 0)
  else (zero, 0, 4)

/-- getF, its three readings told. -/
theorem getF_of (bs : List UInt8) (t : Int) (k t1 s t2 t3 : Int) (n : List UInt8) (h1 : byteOf bs t = (k, t1, 0)) (h2 : numOf bs t1 = (s, t2, 0)) (h3 : textOf bs t2 12 = (n, t3, 0)) :
    getF bs t = if mayF ⟨k, s, n⟩ then (⟨k, s, n⟩, t3, 0) else (zero, 0, 4) := by
  unfold getF
  rw [h1]
  dsimp only
  rw [if_neg (by simp), h2]
  dsimp only
  rw [if_neg (by simp), h3]
  dsimp only
  rw [if_neg (by simp)]

/-- What is put is read as it was. -/
theorem getF_put (c : CmdV) (h : mayF c = true) (a r : List UInt8) : getF (a ++ bytesC c ++ r) a.length = (c, (a.length : Int) + (10 + c.name.length), 0) := by
  obtain ⟨hk, hs, hn⟩ := may_bounds c h
  have e1 : a ++ bytesC c ++ r = a ++ [UInt8.ofNat c.kind.toNat] ++ (be8 c.session.toNat ++ (UInt8.ofNat c.name.length :: c.name) ++ r) := by simp [bytesC]
  have e2 : a ++ bytesC c ++ r = (a ++ [UInt8.ofNat c.kind.toNat]) ++ be8 c.session.toNat ++ ((UInt8.ofNat c.name.length :: c.name) ++ r) := by simp [bytesC]
  have e3 : a ++ bytesC c ++ r = (a ++ [UInt8.ofNat c.kind.toNat] ++ be8 c.session.toNat) ++ (UInt8.ofNat c.name.length :: c.name) ++ r := by simp [bytesC]
  have h1 : byteOf (a ++ bytesC c ++ r) a.length = (c.kind, (a.length : Int) + 1, 0) := by
    rw [e1, byteOf_put, toNat_byte _ (by omega), Int.toNat_of_nonneg (by omega)]
  have h2 : numOf (a ++ bytesC c ++ r) ((a.length : Int) + 1) = (c.session, (a.length : Int) + 1 + 8, 0) := by
    have := numOf_put c.session.toNat (by omega) (a ++ [UInt8.ofNat c.kind.toNat]) ((UInt8.ofNat c.name.length :: c.name) ++ r)
    rw [← e2, Int.toNat_of_nonneg (by omega)] at this
    simpa using this
  have h3 : textOf (a ++ bytesC c ++ r) ((a.length : Int) + 1 + 8) 12 = (c.name, (a.length : Int) + 1 + 8 + 1 + c.name.length, 0) := by
    have := textOf_put' c.name (by omega) (a ++ [UInt8.ofNat c.kind.toNat] ++ be8 c.session.toNat) r 12 (by omega)
    rw [← e3] at this
    have el : ((a ++ [UInt8.ofNat c.kind.toNat] ++ be8 c.session.toNat).length : Int) = (a.length : Int) + 1 + 8 := by
      simp [be8_length]
      omega
    rw [el] at this
    exact this
  rw [getF_of _ _ _ _ _ _ _ _ h1 h2 h3]
  have e : (⟨c.kind, c.session, c.name⟩ : CmdV) = c := rfl
  rw [e, if_pos h]
  congr 2
  omega

/-- What is read may be. -/
theorem getF_may (bs : List UInt8) (t : Int) (h : (getF bs t).2.2 = 0) : mayF (getF bs t).1 = true ∧ (getF bs t).1.kind = (byteOf bs t).1 := by
  unfold getF at h ⊢
  by_cases g1 : (byteOf bs t).2.2 ≠ 0
  · rw [if_pos g1] at h
    exact absurd h g1
  · rw [if_neg g1] at h ⊢
    by_cases g2 : (numOf bs (byteOf bs t).2.1).2.2 ≠ 0
    · rw [if_pos g2] at h
      exact absurd h g2
    · rw [if_neg g2] at h ⊢
      by_cases g3 : (textOf bs (numOf bs (byteOf bs t).2.1).2.1 12).2.2 ≠ 0
      · rw [if_pos g3] at h
        exact absurd h g3
      · rw [if_neg g3] at h ⊢
        by_cases g4 : mayF ⟨(byteOf bs t).1, (numOf bs (byteOf bs t).2.1).1, (textOf bs (numOf bs (byteOf bs t).2.1).2.1 12).1⟩ = true
        · rw [if_pos g4]
          exact ⟨g4, rfl⟩
        · rw [if_neg g4] at h
          cases h

/-- Cut anywhere a command is too short. -/
theorem getF_cut (c : CmdV) (h : mayF c = true) (a : List UInt8) (j : Nat) (hj : j < (bytesC c).length) : getF (a ++ (bytesC c).take j) a.length = (zero, 0, 2) := by
  obtain ⟨hk, hs, hn⟩ := may_bounds c h
  rw [bytesC_length] at hj
  by_cases j0 : j = 0
  · subst j0
    unfold getF
    rw [byteOf_short _ _ (by simp)]
    rfl
  · obtain ⟨j, rfl⟩ : ∃ i, j = i + 1 := ⟨j - 1, by omega⟩
    have ht : (bytesC c).take (j + 1) = UInt8.ofNat c.kind.toNat :: (be8 c.session.toNat ++ (UInt8.ofNat c.name.length :: c.name)).take j := rfl
    rw [ht]
    have h1 : byteOf (a ++ (UInt8.ofNat c.kind.toNat :: (be8 c.session.toNat ++ (UInt8.ofNat c.name.length :: c.name)).take j)) a.length = (c.kind, (a.length : Int) + 1, 0) := by
      have := byteOf_put (UInt8.ofNat c.kind.toNat) a ((be8 c.session.toNat ++ (UInt8.ofNat c.name.length :: c.name)).take j)
      rw [toNat_byte _ (by omega), Int.toNat_of_nonneg (by omega)] at this
      simpa using this
    by_cases j8 : j < 8
    · have h2 : numOf (a ++ (UInt8.ofNat c.kind.toNat :: (be8 c.session.toNat ++ (UInt8.ofNat c.name.length :: c.name)).take j)) ((a.length : Int) + 1) = (0, 0, 2) := by
        have := numOf_short (a ++ (UInt8.ofNat c.kind.toNat :: (be8 c.session.toNat ++ (UInt8.ofNat c.name.length :: c.name)).take j)) (a.length + 1) (by simp [be8_length]; omega)
        simpa using this
      unfold getF
      rw [h1]
      dsimp only
      rw [if_neg (by simp), h2]
      rfl
    · have hb : (be8 c.session.toNat ++ (UInt8.ofNat c.name.length :: c.name)).take j = be8 c.session.toNat ++ (UInt8.ofNat c.name.length :: c.name).take (j - 8) := by
        rw [List.take_append, List.take_of_length_le (by rw [be8_length]; omega), be8_length]
      rw [hb] at h1 ⊢
      have h2 : numOf (a ++ (UInt8.ofNat c.kind.toNat :: (be8 c.session.toNat ++ (UInt8.ofNat c.name.length :: c.name).take (j - 8)))) ((a.length : Int) + 1) = (c.session, (a.length : Int) + 1 + 8, 0) := by
        have := numOf_put c.session.toNat (by omega) (a ++ [UInt8.ofNat c.kind.toNat]) ((UInt8.ofNat c.name.length :: c.name).take (j - 8))
        rw [Int.toNat_of_nonneg (by omega)] at this
        simpa using this
      have h3 : textOf (a ++ (UInt8.ofNat c.kind.toNat :: (be8 c.session.toNat ++ (UInt8.ofNat c.name.length :: c.name).take (j - 8)))) ((a.length : Int) + 1 + 8) 12 = ([], 0, 2) := by
        have := textOf_short (a ++ (UInt8.ofNat c.kind.toNat :: (be8 c.session.toNat ++ (UInt8.ofNat c.name.length :: c.name).take (j - 8)))) (a.length + 1 + 8) 12 c.name (by omega) (by omega) (a ++ [UInt8.ofNat c.kind.toNat] ++ be8 c.session.toNat) (j - 8) (by omega) (by simp [be8_length]) (by simp)
        have e : ((a.length + 1 + 8 : Nat) : Int) = (a.length : Int) + 1 + 8 := by omega
        rw [e] at this
        exact this
      unfold getF
      rw [h1]
      dsimp only
      rw [if_neg (by simp), h2]
      dsimp only
      rw [if_neg (by simp), h3]
      rfl
end Cm
end Go.Proofs.Ytfkpgndbohoogaa

/- What package reply answers, as plain functions over bytes: what is held, replies; what is put is read as it was. No program is named here. -/
set_option linter.unusedVariables false
set_option linter.unusedSimpArgs false
namespace Go.Proofs.Ytfkpgndbohoogaa
open Go.RowKit
namespace Cm

/-- A lock that is held: its name's bytes, its token. -/
structure GrantV where
  name : List UInt8
  token : Int

/-- A reply. -/
structure ReplyV where
  code : Int
  session : Int
  ahead : Int
  held : List GrantV

def zeroP : ReplyV := ⟨0, 0, 0, []⟩

/-- One that is held, behind the name ahead of it. -/
def grantOk (p : Option (List UInt8)) (g : GrantV) : Bool := nameF g.name && highF g.token 1 && (match p with | none => true | some q => Op.bytesLess q g.name)
def heldOk : Option (List UInt8) → List GrantV → Bool
  | _, [] => true
  | p, g :: l => grantOk p g && heldOk (some g.name) l

def mayP (r : ReplyV) : Bool := decide (0 ≤ r.code) && decide (r.code ≤ 12) && highF r.session 0 && decide (0 ≤ r.ahead) && decide (r.ahead ≤ 3) && decide (r.held.length ≤ 4) && !(decide (r.session = 0) && decide (0 < r.held.length)) && heldOk none r.held

theorem name_len (s : List UInt8) (h : nameF s = true) : s.length ≤ 12 := by
  unfold nameF at h
  simp at h
  omega

theorem heldOk_mem (l : List GrantV) : ∀ p, heldOk p l = true → ∀ g ∈ l, g.name.length ≤ 12 ∧ 1 ≤ g.token ∧ g.token ≤ 2305843009213693952 := by
  induction l with
  | nil => intro p _ g hg; cases hg
  | cons x l ih =>
    intro p h g hg
    unfold heldOk at h
    simp only [Bool.and_eq_true] at h
    rcases List.mem_cons.1 hg with rfl | hg
    · have h1 := h.1
      unfold grantOk highF at h1
      simp only [Bool.and_eq_true, decide_eq_true_eq] at h1
      exact ⟨name_len _ h1.1.1, h1.1.2.1, h1.1.2.2⟩
    · exact ih _ h.2 g hg

theorem mayP_bounds (r : ReplyV) (h : mayP r = true) : (0 ≤ r.code ∧ r.code ≤ 12) ∧ (0 ≤ r.session ∧ r.session ≤ 2305843009213693952) ∧ (0 ≤ r.ahead ∧ r.ahead ≤ 3) ∧ r.held.length ≤ 4 ∧ (∀ g ∈ r.held, g.name.length ≤ 12 ∧ 1 ≤ g.token ∧ g.token ≤ 2305843009213693952) := by
  unfold mayP highF at h
  simp only [Bool.and_eq_true, decide_eq_true_eq] at h
  obtain ⟨⟨⟨⟨⟨⟨⟨h1, h2⟩, h3, h4⟩, h5⟩, h6⟩, h7⟩, _⟩, h8⟩ := h
  exact ⟨⟨h1, h2⟩, ⟨h3, h4⟩, ⟨h5, h6⟩, h7, heldOk_mem _ _ h8⟩

def bytesG (g : GrantV) : List UInt8 := UInt8.ofNat g.name.length :: (g.name ++ be8 g.token.toNat)
theorem bytesG_length (g : GrantV) : (bytesG g).length = 9 + g.name.length := by
  unfold bytesG
  simp [be8_length]
  omega

def bytesH (l : List GrantV) : List UInt8 := l.flatMap bytesG
theorem bytesH_nil : bytesH [] = [] := rfl
theorem bytesH_cons (g : GrantV) (l : List GrantV) : bytesH (g :: l) = bytesG g ++ bytesH l := rfl
theorem bytesH_snoc (l : List GrantV) (g : GrantV) : bytesH (l ++ [g]) = bytesH l ++ bytesG g := by simp [bytesH]

def bytesP (r : ReplyV) : List UInt8 := UInt8.ofNat r.code.toNat :: (be8 r.session.toNat ++ (UInt8.ofNat r.ahead.toNat :: UInt8.ofNat r.held.length :: bytesH r.held))
theorem bytesP_length (r : ReplyV) : (bytesP r).length = 11 + (bytesH r.held).length := by
  unfold bytesP
  simp [be8_length]
  omega
def putP (r : ReplyV) : List UInt8 × Int := if mayP r then (bytesP r, 0) else ([], 1)

/-- So many are read from t on. -/
def getHeld (bs : List UInt8) : Nat → Int → List GrantV × Int × Int
  | 0, t => ([], t, 0)
  | n + 1, t =>
    if (textOf bs t 12).2.2 ≠ 0 then ([], 0, (textOf bs t 12).2.2) else
    if (numOf bs (textOf bs t 12).2.1).2.2 ≠ 0 then ([], 0, (numOf bs (textOf bs t 12).2.1).2.2) else
    if (getHeld bs n (numOf bs (textOf bs t 12).2.1).2.1).2.2 ≠ 0 then ([], 0, (getHeld bs n (numOf bs (textOf bs t 12).2.1).2.1).2.2) else
    (⟨(textOf bs t 12).1, (numOf bs (textOf bs t 12).2.1).1⟩ :: (getHeld bs n (numOf bs (textOf bs t 12).2.1).2.1).1, (getHeld bs n (numOf bs (textOf bs t 12).2.1).2.1).2.1, 0)

theorem getHeld_succ (bs : List UInt8) (n : Nat) (t : Int) : getHeld bs (n + 1) t =
    (if (textOf bs t 12).2.2 ≠ 0 then ([], 0, (textOf bs t 12).2.2) else
    if (numOf bs (textOf bs t 12).2.1).2.2 ≠ 0 then ([], 0, (numOf bs (textOf bs t 12).2.1).2.2) else
    if (getHeld bs n (numOf bs (textOf bs t 12).2.1).2.1).2.2 ≠ 0 then ([], 0, (getHeld bs n (numOf bs (textOf bs t 12).2.1).2.1).2.2) else
    (⟨(textOf bs t 12).1, (numOf bs (textOf bs t 12).2.1).1⟩ :: (getHeld bs n (numOf bs (textOf bs t 12).2.1).2.1).1, (getHeld bs n (numOf bs (textOf bs t 12).2.1).2.1).2.1, 0)) := rfl

theorem getHeld_step (bs : List UInt8) (n : Nat) (t t1 t2 k : Int) (s : List UInt8) (h1 : textOf bs t 12 = (s, t1, 0)) (h2 : numOf bs t1 = (k, t2, 0)) :
    getHeld bs (n + 1) t = if (getHeld bs n t2).2.2 ≠ 0 then ([], 0, (getHeld bs n t2).2.2) else (⟨s, k⟩ :: (getHeld bs n t2).1, (getHeld bs n t2).2.1, 0) := by
  rw [getHeld_succ, h1]
  dsimp only
  rw [if_neg (by simp), h2]
  dsimp only
  rw [if_neg (by simp)]

theorem readG (g : GrantV) (hn : g.name.length ≤ 12) (ht : 1 ≤ g.token ∧ g.token ≤ 2305843009213693952) (a r : List UInt8) :
    textOf (a ++ bytesG g ++ r) a.length 12 = (g.name, (a.length : Int) + 1 + g.name.length, 0) ∧ numOf (a ++ bytesG g ++ r) ((a.length : Int) + 1 + g.name.length) = (g.token, (a.length : Int) + 1 + g.name.length + 8, 0) := by
  have e1 : a ++ bytesG g ++ r = a ++ (UInt8.ofNat g.name.length :: g.name) ++ (be8 g.token.toNat ++ r) := by simp [bytesG]
  have e2 : a ++ bytesG g ++ r = (a ++ (UInt8.ofNat g.name.length :: g.name)) ++ be8 g.token.toNat ++ r := by simp [bytesG]
  constructor
  · rw [e1]
    exact textOf_put' g.name (by omega) a _ 12 (by omega)
  · have := numOf_put g.token.toNat (by omega) (a ++ (UInt8.ofNat g.name.length :: g.name)) r
    rw [← e2, Int.toNat_of_nonneg (by omega)] at this
    have el : ((a ++ (UInt8.ofNat g.name.length :: g.name)).length : Int) = (a.length : Int) + 1 + g.name.length := by
      simp
      omega
    rw [el] at this
    exact this

theorem getHeld_put (l : List GrantV) : ∀ (a r : List UInt8), (∀ g ∈ l, g.name.length ≤ 12 ∧ 1 ≤ g.token ∧ g.token ≤ 2305843009213693952) → getHeld (a ++ bytesH l ++ r) l.length a.length = (l, (a.length : Int) + (bytesH l).length, 0) := by
  induction l with
  | nil =>
    intro a r _
    show (([] : List GrantV), (a.length : Int), (0 : Int)) = _
    rw [bytesH_nil]
    simp
  | cons g l ih =>
    intro a r h
    have hg := h g List.mem_cons_self
    rw [bytesH_cons]
    have e : a ++ (bytesG g ++ bytesH l) ++ r = a ++ bytesG g ++ (bytesH l ++ r) := by simp
    have e' : a ++ (bytesG g ++ bytesH l) ++ r = (a ++ bytesG g) ++ bytesH l ++ r := by simp
    obtain ⟨h1, h2⟩ := readG g hg.1 hg.2 a (bytesH l ++ r)
    rw [← e] at h1 h2
    have hi := ih (a ++ bytesG g) r (fun x hx => h x (List.mem_cons_of_mem _ hx))
    rw [← e'] at hi
    have el : ((a ++ bytesG g).length : Int) = (a.length : Int) + 1 + g.name.length + 8 := by
      rw [List.length_append, bytesG_length]
      omega
    rw [el] at hi
    rw [List.length_cons, getHeld_step _ _ _ _ _ _ _ h1 h2, hi]
    dsimp only
    rw [if_neg (by simp), List.length_append, bytesG_length]
    congr 2
    omega

/-- Cut anywhere what is held is too short. -/
theorem getHeld_cut (l : List GrantV) : ∀ (a : List UInt8) (j : Nat), (∀ g ∈ l, g.name.length ≤ 12 ∧ 1 ≤ g.token ∧ g.token ≤ 2305843009213693952) → j < (bytesH l).length → getHeld (a ++ (bytesH l).take j) l.length a.length = ([], 0, 2) := by
  induction l with
  | nil => intro a j _ hj; rw [bytesH_nil] at hj; simp at hj
  | cons g l ih =>
    intro a j h hj
    have hg := h g List.mem_cons_self
    rw [bytesH_cons, List.length_append, bytesG_length] at hj
    rw [bytesH_cons]
    by_cases hin : (bytesG g).length ≤ j
    · have hb : (bytesG g ++ bytesH l).take j = bytesG g ++ (bytesH l).take (j - (bytesG g).length) := by
        rw [List.take_append, List.take_of_length_le hin]
      rw [hb]
      obtain ⟨h1, h2⟩ := readG g hg.1 hg.2 a ((bytesH l).take (j - (bytesG g).length))
      have e : a ++ (bytesG g ++ (bytesH l).take (j - (bytesG g).length)) = a ++ bytesG g ++ (bytesH l).take (j - (bytesG g).length) := by simp
      rw [← e] at h1 h2
      have hi := ih (a ++ bytesG g) (j - (bytesG g).length) (fun x hx => h x (List.mem_cons_of_mem _ hx)) (by rw [bytesG_length] at hin ⊢; omega)
      rw [← e] at hi
      have el : ((a ++ bytesG g).length : Int) = (a.length : Int) + 1 + g.name.length + 8 := by
        rw [List.length_append, bytesG_length]
        omega
      rw [el] at hi
      rw [List.length_cons, getHeld_step _ _ _ _ _ _ _ h1 h2, hi]
      rfl
    · have hb : (bytesG g ++ bytesH l).take j = (bytesG g).take j := by
        rw [List.take_append, show j - (bytesG g).length = 0 by omega, List.take_zero, List.append_nil]
      rw [hb]
      rw [bytesG_length] at hin
      by_cases hs : j < 1 + g.name.length
      · have ht : (bytesG g).take j = (UInt8.ofNat g.name.length :: g.name).take j := by
          have : bytesG g = (UInt8.ofNat g.name.length :: g.name) ++ be8 g.token.toNat := by simp [bytesG]
          rw [this, List.take_append, show j - (UInt8.ofNat g.name.length :: g.name).length = 0 by simp; omega, List.take_zero, List.append_nil]
        rw [ht]
        have h3 := textOf_short (a ++ (UInt8.ofNat g.name.length :: g.name).take j) a.length 12 g.name (by omega) (by omega) a j hs rfl rfl
        rw [List.length_cons]
        rw [getHeld_succ, h3]
        rfl
      · have ht : (bytesG g).take j = (UInt8.ofNat g.name.length :: g.name) ++ (be8 g.token.toNat).take (j - (1 + g.name.length)) := by
          have : bytesG g = (UInt8.ofNat g.name.length :: g.name) ++ be8 g.token.toNat := by simp [bytesG]
          rw [this, List.take_append, List.take_of_length_le (by simp; omega)]
          congr 2
          simp
          omega
        rw [ht]
        have h1 : textOf (a ++ ((UInt8.ofNat g.name.length :: g.name) ++ (be8 g.token.toNat).take (j - (1 + g.name.length)))) a.length 12 = (g.name, (a.length : Int) + 1 + g.name.length, 0) := by
          have := textOf_put' g.name (by omega) a ((be8 g.token.toNat).take (j - (1 + g.name.length))) 12 (by omega)
          rwa [List.append_assoc] at this
        have h2 : numOf (a ++ ((UInt8.ofNat g.name.length :: g.name) ++ (be8 g.token.toNat).take (j - (1 + g.name.length)))) ((a.length : Int) + 1 + g.name.length) = (0, 0, 2) := by
          have := numOf_short (a ++ ((UInt8.ofNat g.name.length :: g.name) ++ (be8 g.token.toNat).take (j - (1 + g.name.length)))) (a.length + 1 + g.name.length) (by simp [be8_length]; omega)
          have e : ((a.length + 1 + g.name.length : Nat) : Int) = (a.length : Int) + 1 + g.name.length := by omega
          rw [e] at this
          exact this
        rw [List.length_cons]
        rw [getHeld_succ, h1]
        dsimp only
        rw [if_neg (by simp), h2]
        rfl
end Cm
end Go.Proofs.Ytfkpgndbohoogaa
