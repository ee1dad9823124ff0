/- Arguments that are commands and requests, opened. -/
import Derived.Test.YtgjeheekemebaaaCmdB
import Derived.ProofKit
import Derived.OpenShut
import Derived.Deep.Strs
import Derived.Deep.Slices
set_option linter.unusedVariables false
set_option linter.unusedSimpArgs false
namespace Go.Proofs.Ytgjeheekemebaaa
open Go.RowKit Go.ChangeShapes Go.WideShapes Go.Deep
namespace Cm
section
variable {H : Type} {enc : TypeId × Value → H} {W : World} {base : Nat} {sp : Nat → Bool} {held : Bool}
theorem cmd_cells {fuel : Nat} {cs : List Value} {x : DataW H × List MemPlace} (h : DataW.trod enc Try.prog W base sp held fuel 23 cs = some x) :
    ∃ c : CmdV, cs = [.int .i64 c.kind, .int .i64 c.session, .string (bstr c.name)] := by
  have hce : Try.prog.cellsOf 23 = 3 := by kernel_rfl
  obtain ⟨y0, y1, y2, n', _, hlen, t0, t1, t2⟩ := trod_struct3 Try.underlying23 h
  rw [hce] at hlen
  match cs, hlen with
  | [c0, c1, c2], _ =>
    obtain ⟨d, e0, _⟩ := DataW.trod_int Try.underlying3 t0
    obtain ⟨m, e1, _⟩ := DataW.trod_int Try.underlying3 t1
    obtain ⟨q, e2, _⟩ := DataW.trod_string Try.underlying9 t2
    have e0' : c0 = .int .i64 d := by injection e0
    have e1' : c1 = .int .i64 m := by injection e1
    have e2' : c2 = .string q := by injection e2
    exact ⟨⟨d, m, q.data.toList⟩, by rw [e0', e1', e2', bstr_self]⟩

theorem open_cmd {r : Reach} {b0 : Nat} {v : Value} {d : DataW H} {p : List MemPlace} (hv : Value.okWide Try.prog W r b0 23 v) (h : DataW.Trod enc Try.prog W base sp held 23 v d p) : ∃ c : CmdV, v = cmdVal c := by
  obtain ⟨cs, rfl, hs⟩ := okWide_struct Try.underlying23 hv
  obtain ⟨m, hm⟩ := h
  obtain ⟨c, hc⟩ := cmd_cells hm
  exact ⟨c, by unfold cmdVal; congr 1; apply Array.ext'; simpa [Value.cells] using hc⟩

theorem req_cells {fuel : Nat} {cs : List Value} {x : DataW H × List MemPlace} (h : DataW.trod enc Try.prog W base sp held fuel 35 cs = some x) :
    ∃ r : ReqV, cs = [.int .i64 r.client, .int .i64 r.seq, .int .i64 r.cmd.kind, .int .i64 r.cmd.session, .string (bstr r.cmd.name)] := by
  have hce : Try.prog.cellsOf 35 = 5 := by kernel_rfl
  have hcc : Try.prog.cellsOf 23 = 3 := by kernel_rfl
  obtain ⟨y0, y1, y2, n', _, hlen, t0, t1, t2⟩ := trod_struct3 Try.underlying35 h
  rw [hce] at hlen
  match cs, hlen with
  | [c0, c1, c2, c3, c4], _ =>
    obtain ⟨d, e0, _⟩ := DataW.trod_int Try.underlying3 t0
    obtain ⟨m, e1, _⟩ := DataW.trod_int Try.underlying3 t1
    obtain ⟨c, hc⟩ := cmd_cells t2
    rw [hcc] at hc
    have e0' : c0 = .int .i64 d := by injection e0
    have e1' : c1 = .int .i64 m := by injection e1
    have e2' : [c2, c3, c4] = [.int .i64 c.kind, .int .i64 c.session, .string (bstr c.name)] := hc
    exact ⟨⟨d, m, c⟩, by rw [e0', e1', e2']⟩

theorem open_req {r : Reach} {b0 : Nat} {v : Value} {d : DataW H} {p : List MemPlace} (hv : Value.okWide Try.prog W r b0 35 v) (h : DataW.Trod enc Try.prog W base sp held 35 v d p) : ∃ q : ReqV, v = reqVal q := by
  obtain ⟨cs, rfl, hs⟩ := okWide_struct Try.underlying35 hv
  obtain ⟨m, hm⟩ := h
  obtain ⟨c, hc⟩ := req_cells hm
  exact ⟨c, by unfold reqVal; congr 1; apply Array.ext'; simpa [Value.cells] using hc⟩
end
end Cm
end Go.Proofs.Ytgjeheekemebaaa
