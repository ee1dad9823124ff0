/- Plain facts for CmdNames: letters by numbers. -/
import Derived.Test.YtgjeheekemebaaaLaw4C
set_option linter.unusedVariables false
set_option linter.unusedSimpArgs false
namespace Go.Proofs.Ytgjeheekemebaaa
open Go.RowKit
theorem below_drewN {B : Nat} {a w : World} (h : Below B a w) (n : Nat) : Below B a (w.drewN n) := ⟨h.os, h.tape, h.output, h.size, h.block⟩
namespace Cm
/-- The letters that some bytes are taken for. -/
def lettersOf (l : List UInt8) : List UInt8 := l.map fun c => alpha.getD (c.toNat % 37) 0
theorem letters_succ (A : List UInt8) (j : Nat) (h : j < A.length) : lettersOf (A.take (j + 1)) = lettersOf (A.take j) ++ [alpha.getD ((A.getD j 0).toNat % 37) 0] := by
  unfold lettersOf
  rw [List.take_succ_eq_append_getElem h, List.map_append]
  simp [List.getD, List.getElem?_eq_getElem h]
theorem letters_length (l : List UInt8) : (lettersOf l).length = l.length := by simp [lettersOf]
theorem letters_all (l : List UInt8) : ∀ c ∈ lettersOf l, nameB c = true := by
  intro c hc
  obtain ⟨x, _, rfl⟩ := List.mem_map.1 hc
  exact alpha_get _ (Nat.mod_lt _ (by omega))

theorem bstr_append (a b : List UInt8) : bstr a ++ bstr b = bstr (a ++ b) := by
  apply ByteArray.ext
  simp [bstr, ByteArray.data_append]

theorem bstr_extract (l : List UInt8) (i j : Nat) : (bstr l).extract i j = bstr ((l.drop i).take (j - i)) := by
  apply ByteArray.ext
  rw [ByteArray.data_extract]
  simp [bstr]

section
variable {P : Program} {t : TypeId} (ht : P.underlying t = some .string) (w : World)
include ht
theorem slice_to (S : List UInt8) (k : Nat) (hk : k ≤ S.length) : (Instr.slice t (.string (bstr S)) none (some (.int .i64 (k : Int))) none).run P w = .ok (.string (bstr (S.take k))) w := by
  have := run_slice_string_to_if (P := P) w t (bstr S) .i64 (k : Int) ht
  rw [this, if_pos ⟨by omega, by rw [bstr_size]; omega⟩, Int.toNat_natCast, bstr_extract]
  simp

theorem slice_from (S : List UInt8) (k : Nat) (hk : k ≤ S.length) : (Instr.slice t (.string (bstr S)) (some (.int .i64 (k : Int))) none none).run P w = .ok (.string (bstr (S.drop k))) w := by
  have := run_slice_string_from_if (P := P) w t (bstr S) .i64 (k : Int) ht
  rw [this, if_pos ⟨by omega, by rw [bstr_size]; omega⟩, Int.toNat_natCast, bstr_extract, bstr_size]
  rw [List.take_of_length_le (by rw [List.length_drop]; omega)]

theorem slice_mid (S : List UInt8) (k : Nat) (hk : k < S.length) : (Instr.slice t (.string (bstr S)) (some (.int .i64 (k : Int))) (some (.int .i64 ((k : Int) + 1))) none).run P w = .ok (.string (bstr [S.getD k 0])) w := by
  have := run_slice_string (P := P) w t (bstr S) .i64 .i64 (k : Int) ((k : Int) + 1) ht (by omega) (by omega) (by rw [bstr_size]; omega)
  rw [this, bstr_extract]
  have e : (S.drop (k : Int).toNat).take (((k : Int) + 1).toNat - (k : Int).toNat) = [S.getD k 0] := by
    rw [Int.toNat_natCast, show ((k : Int) + 1).toNat - k = 1 by omega]
    have e1 : S.drop k = S[k] :: S.drop (k + 1) := List.drop_eq_getElem_cons hk
    rw [e1, List.take_succ_cons, List.take_zero]
    simp [List.getD, List.getElem?_eq_getElem hk]
  rw [e]
end
end Cm
end Go.Proofs.Ytgjeheekemebaaa
