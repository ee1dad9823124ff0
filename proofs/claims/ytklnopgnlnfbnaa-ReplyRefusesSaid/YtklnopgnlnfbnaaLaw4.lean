/- Contracts of the statements' own helpers of layer 4: awake, Named, Cmd, Req. -/
import Derived.Test.YtklnopgnlnfbnaaCmdF
import Derived.Test.YtklnopgnlnfbnaaArgA
set_option linter.unusedVariables false
set_option linter.unusedSimpArgs false
namespace Go.Proofs.Ytklnopgnlnfbnaa
open Go.RowKit
namespace Cm


/-- The statements' names, by number. -/
def namedF : Nat → List UInt8
  | 0 => [97]
  | 1 => [98]
  | 2 => [99]
  | 3 => [100]
  | 4 => [107, 101, 121, 45, 49]
  | _ => [116, 104, 101, 45, 108, 97, 115, 116, 45, 111, 110, 101]

theorem Named_any (n : Nat) (w : World) (h : n < 256) : Calls Try.prog 27 #[.int .u8 (n : Int)] w fun e w' => e = .returned (.string (bstr (namedF (n % 6)))) ∧ Below w.heap.size w w' := by
  have hm : n % 6 < 6 := Nat.mod_lt _ (by omega)
  have hc : ((n : Int) % 6) = ((n % 6 : Nat) : Int) := by simp
  generalize n % 6 = r at hm hc ⊢
  match r, hm with
  | 0, _ | 1, _ | 2, _ | 3, _ | 4, _ | 5, _ =>
    simp at hc
    go_enter Try.func27, Try.ntmps27
    go_wp2
    go_ret
    exact ⟨rfl, newAlloc _ _⟩

/-- What lies in two new blocks, later. -/
theorem boxAB {w w' : World} {A B : Array Value} {t u : TypeId} (h : Below ((w.alloc (.cells A t)).alloc (.cells B u)).heap.size ((w.alloc (.cells A t)).alloc (.cells B u)) w') :
    (∀ k, w'.cell? ⟨w.heap.size, k, none⟩ = A[k]?) ∧ (∀ k, w'.cell? ⟨w.heap.size + 1, k, none⟩ = B[k]?) ∧ (∀ k, w'.frozen? ⟨w.heap.size, k, none⟩ = false) ∧ (∀ k, w'.frozen? ⟨w.heap.size + 1, k, none⟩ = false) := by
  have h0 : w.heap.size < ((w.alloc (.cells A t)).alloc (.cells B u)).heap.size := by simp; omega
  have h1 : w.heap.size + 1 < ((w.alloc (.cells A t)).alloc (.cells B u)).heap.size := by simp
  refine ⟨fun k => ?_, fun k => ?_, fun k => ?_, fun k => ?_⟩
  · rw [h.cell (p := ⟨w.heap.size, k, none⟩) h0]; simp [go_sem]
  · rw [h.cell (p := ⟨w.heap.size + 1, k, none⟩) h1]; simp [go_sem]
  · rw [h.frozen (p := ⟨w.heap.size, k, none⟩) h0]; simp [go_sem]
  · rw [h.frozen (p := ⟨w.heap.size + 1, k, none⟩) h1]; simp [go_sem]

/-- A command that may be, by numbers. -/
def cmdOf (k s n : Nat) : CmdV := ⟨1 + ((k % 6 : Nat) : Int), if k % 6 = 0 then 0 else 1 + ((s : Int) % 7), if k % 6 = 2 ∨ k % 6 = 3 ∨ k % 6 = 4 then namedF (n % 6) else []⟩


theorem cmdOf_may (k s n : Nat) : mayF (cmdOf k s n) = true := by
  have hm : k % 6 < 6 := Nat.mod_lt _ (by omega)
  have hn : n % 6 < 6 := Nat.mod_lt _ (by omega)
  have hs1 : 0 ≤ (s : Int) % 7 := by omega
  have hs2 : (s : Int) % 7 < 7 := by omega
  have hN : nameF (namedF (n % 6)) = true := by
    generalize n % 6 = r at hn
    match r, hn with
    | 0, _ | 1, _ | 2, _ | 3, _ | 4, _ | 5, _ => decide +kernel
  unfold cmdOf mayF highF
  generalize k % 6 = r at hm ⊢
  match r, hm with
  | 0, _ | 1, _ | 2, _ | 3, _ | 4, _ | 5, _ => simp [hN] <;> omega

/-- A request that may be, by numbers. -/
def reqOf (c q k s n : Nat) : ReqV := ⟨((c % 8 : Nat) : Int), 1 + (q : Int), cmdOf k s n⟩

theorem reqOf_may (c q k s n : Nat) (hq : q < 256) : mayR (reqOf c q k s n) = true := by
  have hm : c % 8 < 8 := Nat.mod_lt _ (by omega)
  unfold reqOf mayR highF
  simp [cmdOf_may]
  omega


end Cm
end Go.Proofs.Ytklnopgnlnfbnaa
