/- Arguments that are slices of numbers, of a line's acts, opened. A slice laid as it stands. -/
import Derived.Test.YtgpiaibklokhmaaLinC
import Derived.Test.YtgpiaibklokhmaaArgC
set_option linter.unusedVariables false
set_option linter.unusedSimpArgs false
namespace Go.Proofs.Ytgpiaibklokhmaa
open Go.RowKit Go.ChangeShapes Go.WideShapes Go.Deep
namespace Cm

theorem RdX.block {α : Type} {sz : Nat} {f : α → List Value} (hf : ∀ x, (f x).length = sz) {w : World} {b : Nat} {cs : Array Value} {t : TypeId} {l : List α} (h : w.heap[b]? = some (.cells cs t)) (hcs : cs.toList = flatX f l) (hm : l.length ≤ maxLen) : RdX sz f w (.slice (some ⟨b, 0, none⟩) l.length l.length) l := by
  refine ⟨some ⟨b, 0, none⟩, l.length, rfl, Nat.le_refl _, hm, (fun q => by cases q), fun x hx hp => ?_⟩
  cases hx
  refine ⟨rfl, fun i hi k u hu => ?_⟩
  have hk : k < sz := by
    have := (List.getElem?_eq_some_iff.1 hu).1
    rw [hf] at this
    exact this
  rw [← flatX_get hf l i hi k hk, ← hcs] at hu
  simp only [Nat.zero_add]
  simpa [World.cell?, h] using hu

section
variable {H : Type} {enc : TypeId × Value → H} {W : World}

theorem num_cells (fuel : Nat) (cs : List Value) (x : DataW H × List MemPlace) (h : DataW.trod enc Try.prog W 0 (fun _ => true) true fuel 3 cs = some x) : ∃ s : Int, cs = cellsI s := by
  obtain ⟨d, e0, _⟩ := DataW.trod_int Try.underlying3 h
  exact ⟨d, e0⟩

/-- An act on a line: what is done, its client. -/
structure Act2 where
  do_ : Int
  client : Int
def cells2 (a : Act2) : List Value := [.int .i64 a.do_, .int .i64 a.client]
theorem cells2_length (a : Act2) : (cells2 a).length = 2 := rfl

theorem act2_cells (fuel : Nat) (cs : List Value) (x : DataW H × List MemPlace) (h : DataW.trod enc Try.prog W 0 (fun _ => true) true fuel 26 cs = some x) : ∃ a : Act2, cs = cells2 a := by
  have hce : Try.prog.cellsOf 26 = 2 := by kernel_rfl
  obtain ⟨y0, y1, n', _, hlen, t0, t1⟩ := trod_struct2 Try.underlying26 h
  rw [hce] at hlen
  match cs, hlen with
  | [c0, c1], _ =>
    obtain ⟨d, e0, _⟩ := DataW.trod_int Try.underlying3 t0
    obtain ⟨m, e1, _⟩ := DataW.trod_int Try.underlying3 t1
    have e0' : c0 = .int .i64 d := by injection e0
    have e1' : c1 = .int .i64 m := by injection e1
    exact ⟨⟨d, m⟩, by rw [e0', e1']; rfl⟩

def numA (a : List Int × Value) : Value := a.2
def numOkA (w : World) (a : List Int × Value) : Prop := RdI w a.2 a.1
theorem open_num {r : Reach} {b0 : Nat} {v : Value} {d : DataW H} {p : List MemPlace} (hv : Value.okWide Try.prog W r b0 23 v) (h : DataW.Trod enc Try.prog W 0 (fun _ => true) true 23 v d p) : ∃ a : List Int × Value, v = numA a ∧ numOkA W a := by
  obtain ⟨a, len, cap, rfl⟩ := okWide_slice Try.underlying23 hv
  obtain ⟨m, hm⟩ := h
  obtain ⟨u, l, hu, hl⟩ := slice_of Try.underlying23 (show Try.prog.cellsOf 3 = 1 by kernel_rfl) (by omega) cellsI_length num_cells hm
  have : Value.slice a len cap = u := by simpa [Value.cells] using hu
  subst this
  exact ⟨(l, _), rfl, hl⟩

def act2A (a : List Act2 × Value) : Value := a.2
def act2OkA (w : World) (a : List Act2 × Value) : Prop := RdX 2 cells2 w a.2 a.1
theorem open_act2 {r : Reach} {b0 : Nat} {v : Value} {d : DataW H} {p : List MemPlace} (hv : Value.okWide Try.prog W r b0 22 v) (h : DataW.Trod enc Try.prog W 0 (fun _ => true) true 22 v d p) : ∃ a : List Act2 × Value, v = act2A a ∧ act2OkA W a := by
  obtain ⟨a, len, cap, rfl⟩ := okWide_slice Try.underlying22 hv
  obtain ⟨m, hm⟩ := h
  obtain ⟨u, l, hu, hl⟩ := slice_of Try.underlying22 (show Try.prog.cellsOf 26 = 2 by kernel_rfl) (by omega) cells2_length act2_cells hm
  have : Value.slice a len cap = u := by simpa [Value.cells] using hu
  subst this
  exact ⟨(l, _), rfl, hl⟩
end
end Cm
end Go.Proofs.Ytgpiaibklokhmaa
