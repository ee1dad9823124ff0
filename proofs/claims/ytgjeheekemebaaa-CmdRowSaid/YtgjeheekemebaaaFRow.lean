/- Requests in a row, by numbers: their bytes, their cells; what is read from where the one ahead ended. -/
import Derived.Test.YtgjeheekemebaaaLaw4C
import Derived.Test.YtgjeheekemebaaaRows2
set_option linter.unusedVariables false
set_option linter.unusedSimpArgs false
namespace Go.Proofs.Ytgjeheekemebaaa
open Go.RowKit
theorem below_drewN {B : Nat} {a w : World} (h : Below B a w) (n : Nat) : Below B a (w.drewN n) := ⟨h.os, h.tape, h.output, h.size, h.block⟩

namespace Cm

def bAt (A : List UInt8) (i : Nat) : Nat := (A.getD i 0).toNat
theorem bAt_lt (A : List UInt8) (i : Nat) : bAt A i < 256 := UInt8.toNat_lt _
/-- The t-th request that some bytes are taken for. -/
def reqAt (A : List UInt8) (t : Nat) : ReqV := reqOf (bAt A (t * 5)) (bAt A (t * 5 + 1)) (bAt A (t * 5 + 2)) (bAt A (t * 5 + 3)) (bAt A (t * 5 + 4))
theorem reqAt_may (A : List UInt8) (t : Nat) : mayR (reqAt A t) = true := reqOf_may _ _ _ _ _ (bAt_lt _ _)

def reqCells (r : ReqV) : List Value := [.int .i64 r.client, .int .i64 r.seq, .int .i64 r.cmd.kind, .int .i64 r.cmd.session, .string (bstr r.cmd.name)]

def rowBytes (A : List UInt8) : Nat → List UInt8
  | 0 => []
  | j + 1 => rowBytes A j ++ bytesR (reqAt A j)
def rowCells (A : List UInt8) : Nat → List Value
  | 0 => []
  | j + 1 => rowCells A j ++ reqCells (reqAt A j)

theorem rowCells_length (A : List UInt8) (j : Nat) : (rowCells A j).length = j * 5 := by
  induction j with
  | zero => rfl
  | succ j ih => rw [rowCells, List.length_append, ih, reqCells]; simp; omega

theorem rowBytes_le (A : List UInt8) (j : Nat) : (rowBytes A j).length ≤ j * 31 := by
  induction j with
  | zero => simp [rowBytes]
  | succ j ih =>
    have h := (may_bounds _ (mayR_bounds _ (reqAt_may A j)).2.2).2.2
    rw [rowBytes, List.length_append, bytesR_length]
    omega

theorem rowCells_get (A : List UInt8) (j i t : Nat) (hi : i < j) (ht : t < 5) : (rowCells A j)[i * 5 + t]? = (reqCells (reqAt A i))[t]? := by
  induction j with
  | zero => omega
  | succ j ih =>
    rw [rowCells]
    by_cases h : i < j
    · rw [List.getElem?_append_left (by rw [rowCells_length]; omega)]
      exact ih h
    · obtain rfl : i = j := by omega
      rw [List.getElem?_append_right (by rw [rowCells_length]; omega), rowCells_length]
      congr 1
      omega

theorem rowBytes_split (A : List UInt8) (i d : Nat) : ∃ R, rowBytes A (i + d) = rowBytes A i ++ R := by
  induction d with
  | zero => exact ⟨[], by simp⟩
  | succ d ih =>
    obtain ⟨R, hR⟩ := ih
    exact ⟨R ++ bytesR (reqAt A (i + d)), by rw [← Nat.add_assoc, rowBytes, hR, List.append_assoc]⟩

theorem getR_row (A : List UInt8) (j i : Nat) (h : i < j) : getR (rowBytes A j) (rowBytes A i).length = (reqAt A i, ((rowBytes A (i + 1)).length : Int), 0) := by
  obtain ⟨R, hR⟩ := rowBytes_split A (i + 1) (j - (i + 1))
  rw [show i + 1 + (j - (i + 1)) = j by omega] at hR
  have e : ((rowBytes A (i + 1)).length : Int) = ((rowBytes A i).length : Int) + (19 + (reqAt A i).cmd.name.length) := by
    rw [rowBytes, List.length_append, bytesR_length]
    omega
  rw [e, hR, rowBytes, getR_put _ (reqAt_may A i)]

theorem rowBytes_less (A : List UInt8) (i : Nat) : (rowBytes A i).length < (rowBytes A (i + 1)).length := by
  rw [rowBytes, List.length_append, bytesR_length]
  omega

theorem info35 : (Try.prog.info? 35).map (fun i => (i.zero, i.size, i.bytes)) = some (some (.agg #[.int .i64 0, .int .i64 0, .int .i64 0, .int .i64 0, .string ⟨#[]⟩]), 5, 48) := by kernel_rfl

theorem PutReq_row (r : ReqV) (h : mayR r = true) (w : World) : Calls Try.prog 18 #[reqVal r] w (Row (bytesR r).length (bytesR r) w) := by
  refine (PutReq_any r w).mono fun e w' q => ?_
  unfold putR at q
  rw [if_pos h] at q
  exact row_of rfl (by rw [bytesR_length]; omega) q

/-- Five bytes of what came in, in whatever world behind it. -/
theorem row_cell {w : World} {a : Option Addr} {len cap : Nat} {A : List UInt8} (h : Rd w (.slice a len cap) A) (j : Nat) (hj : j * 5 + 4 < len) (w' : World) (hb : Below w.heap.size w w') :
    ∃ b o, a = some ⟨b, o, none⟩ ∧ w'.cell? ⟨b, o + j * 5, none⟩ = some (.int .u8 (bAt A (j * 5) : Int)) ∧ w'.cell? ⟨b, o + (j * 5 + 1), none⟩ = some (.int .u8 (bAt A (j * 5 + 1) : Int)) ∧ w'.cell? ⟨b, o + (j * 5 + 2), none⟩ = some (.int .u8 (bAt A (j * 5 + 2) : Int)) ∧
      w'.cell? ⟨b, o + (j * 5 + 3), none⟩ = some (.int .u8 (bAt A (j * 5 + 3) : Int)) ∧ w'.cell? ⟨b, o + (j * 5 + 4), none⟩ = some (.int .u8 (bAt A (j * 5 + 4) : Int)) := by
  obtain ⟨a', len', cap', hv, hl, hc, hm, hn, hx⟩ := h.ex
  cases hv
  match a, hn, hx with
  | none, hn, _ => have := (hn rfl).1; omega
  | some x, _, hx =>
    obtain ⟨b, o, sp⟩ := x
    obtain ⟨hs, hi⟩ := hx _ rfl (by omega)
    simp only at hs hi
    subst hs
    have key : ∀ i, i < len → w'.cell? ⟨b, o + i, none⟩ = some (.int .u8 (bAt A i : Int)) := fun i hil => by
      rw [hb.cell (p := ⟨b, o + i, none⟩) (lt_of_cell (hi i hil))]
      exact hi i hil
    exact ⟨b, o, rfl, key _ (by omega), key _ (by omega), key _ (by omega), key _ (by omega), key _ (by omega)⟩

theorem below_undrew {B : Nat} {a b : World} (h : Below B a.drew b) : Below B a b := ⟨h.os, h.tape, h.output, h.size, h.block⟩

/-- What lies in a new block of five, behind a draw, later. -/
theorem box5d {w w' : World} {x y z u v : Value} {t : TypeId} (h : Below (w.alloc (.cells #[x, y, z, u, v] t)).drew.heap.size (w.alloc (.cells #[x, y, z, u, v] t)).drew w') :
    (w'.cell? ⟨w.heap.size, 0, none⟩ = some x ∧ w'.cell? ⟨w.heap.size, 1, none⟩ = some y ∧ w'.cell? ⟨w.heap.size, 2, none⟩ = some z ∧ w'.cell? ⟨w.heap.size, 3, none⟩ = some u ∧ w'.cell? ⟨w.heap.size, 4, none⟩ = some v) ∧ ∀ k, w'.frozen? ⟨w.heap.size, k, none⟩ = false :=
  ⟨box5 (below_undrew h), free5 (below_undrew h)⟩

/-- The t-th request of a row that the call owns. -/
theorem row_load {w : World} {base j : Nat} {la : Option Addr} {lc : Nat} {A : List UInt8} (h : w.ownsRow base 35 5 (.slice la j lc) j (rowCells A j)) (t : Nat) (ht : t < j) (w' : World) (hb : Below w.heap.size w w') :
    ∃ g, la = some ⟨g, 0, none⟩ ∧ w'.cell? ⟨g, t * 5, none⟩ = some (.int .i64 (reqAt A t).client) ∧ w'.cell? ⟨g, t * 5 + 1, none⟩ = some (.int .i64 (reqAt A t).seq) ∧ w'.cell? ⟨g, t * 5 + 2, none⟩ = some (.int .i64 (reqAt A t).cmd.kind) ∧
      w'.cell? ⟨g, t * 5 + 3, none⟩ = some (.int .i64 (reqAt A t).cmd.session) ∧ w'.cell? ⟨g, t * 5 + 4, none⟩ = some (.string (bstr (reqAt A t).cmd.name)) := by
  have h' := Rw.own_below h hb
  rcases h'.2 with ⟨hv, hn⟩ | ⟨g, cap, cur, hv, _⟩
  · omega
  · cases hv
    have key : ∀ k, k < 5 → w'.cell? ⟨g, t * 5 + k, none⟩ = (reqCells (reqAt A t))[k]? := fun k hk => by
      have e := h'.cellAt (t * 5 + k) (by omega)
      rw [rowCells_get A j t k ht hk] at e
      exact e
    refine ⟨g, rfl, key 0 (by omega), key 1 (by omega), key 2 (by omega), key 3 (by omega), key 4 (by omega)⟩

theorem getR_row_end (A : List UInt8) (j : Nat) : getR (rowBytes A j) (rowBytes A j).length = (zeroR, 0, 2) := getR_end _
end Cm
end Go.Proofs.Ytgjeheekemebaaa
