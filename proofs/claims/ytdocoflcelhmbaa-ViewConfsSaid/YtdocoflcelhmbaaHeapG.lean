/- Blocks of memory, by index: what lies there, what stays. No program is named here. -/
import Derived.Test.YtdocoflcelhmbaaBase
set_option linter.unusedVariables false
set_option maxRecDepth 8000
set_option linter.unusedSimpArgs false
namespace Go.Proofs.Ytdocoflcelhmbaa
open Go.RowKit
namespace Hp

/-- In block g lies this. -/
def At (w : World) (g : Nat) (o : Obj) : Prop := w.heap[g]? = some o
theorem At.lt {w : World} {g : Nat} {o : Obj} (h : At w g o) : g < w.heap.size := (Array.getElem?_eq_some_iff.1 h).1
theorem At.later {w w' : World} {g : Nat} {o : Obj} (h : At w g o) (hb : Below w.heap.size w w') : At w' g o := (hb.block _ h.lt).trans h
theorem At.other {w : World} {g k i : Nat} {o : Obj} (h : At w g o) (hne : g ≠ k) (u : Value) : At (w.setCell ⟨k, i, none⟩ u) g o := by
  unfold At
  rw [Below.heap_setCell _ _ _ _ hne]
  exact h
theorem At.set {w : World} {g : Nat} {cs : Array Value} {t : TypeId} (h : At w g (.cells cs t)) (i : Nat) (u : Value) : At (w.setCell ⟨g, i, none⟩ u) g (.cells (cs.setIfInBounds i u) t) := by
  have hl := h.lt
  unfold At at h ⊢
  have h' : w.heap[g] = .cells cs t := by simpa [hl] using h
  simp [World.setCell, h', hl, Array.getElem_modify]
theorem At.cell {w : World} {g : Nat} {cs : Array Value} {t : TypeId} (h : At w g (.cells cs t)) (k : Nat) : w.cell? ⟨g, k, none⟩ = cs[k]? := by
  unfold At at h; simp [World.cell?, h]
theorem At.frozen {w : World} {g : Nat} {cs : Array Value} {t : TypeId} (h : At w g (.cells cs t)) (k : Nat) : w.frozen? ⟨g, k, none⟩ = false := by
  unfold At at h; simp [World.frozen?, h]
theorem at_new (w : World) (o : Obj) (g : Nat) (hg : w.heap.size = g) : At (w.alloc o) g o := by
  subst hg
  show (w.heap.push o)[w.heap.size]? = _
  simp
theorem size_new (w : World) (o : Obj) : (w.alloc o).heap.size = w.heap.size + 1 := by simp
end Hp
end Go.Proofs.Ytdocoflcelhmbaa
