/- The statements' awake of layer 13; an argument that is a setting, opened. -/
import Derived.Test.YtdocoflcelhmbaaVewC
import Derived.ProofKit
import Derived.OpenShut
import Derived.ChangeArms
set_option linter.unusedVariables false
set_option maxRecDepth 8000
set_option linter.unusedSimpArgs false
namespace Go.Proofs.Ytdocoflcelhmbaa
open Go.RowKit Go.ChangeShapes Go.WideShapes
namespace Vw

theorem awake13_ok (w : World) : Calls Try.prog 20 #[] w (TellsB (.bool true) w) := by
  have C1 := Lib.hid (fun w => Timeout_any 5 30 2 w)
  have C2 := Lib.hid (fun w => Timeout_any 5 30 3 w)
  have C3 := Lib.hid (fun w => Led_any 4 3 0 (by omega) w)
  have C4 := Lib.hid (fun w => Quorum_any 3 w)
  have C5 := Lib.hid (fun w => Leader_any 4 3 w)
  have C6 := Lib.hid (fun w => MayConf_any ⟨0, 0, 0, 0, 0, 0, 0, 0, 0, 0, 0⟩ w)
  rw [show timeF 5 30 2 = 20 by decide] at C1
  rw [show timeF 5 30 3 = 30 by decide] at C2
  rw [show ledF 4 3 0 = 6 by decide] at C3
  rw [show quorumF 3 = 2 by decide] at C4
  rw [show leaderF 4 3 = 1 by decide] at C5
  rw [mayC_zero] at C6
  unfold confVal at C6
  dsimp only at C6
  go_enter Try.func20, Try.ntmps20
  go_wp2_with fail
  refine (C1.out _).mono ?_
  rintro e w' ⟨rfl, rfl⟩
  go_wp2_with fail
  refine (C2.out _).mono ?_
  rintro e w' ⟨rfl, rfl⟩
  go_wp2_with fail
  refine (C3.out _).mono ?_
  rintro e w' ⟨rfl, rfl⟩
  go_wp2_with fail
  refine (C4.out _).mono ?_
  rintro e w' ⟨rfl, rfl⟩
  go_wp2_with fail
  refine (C5.out _).mono ?_
  rintro e w' ⟨rfl, rfl⟩
  go_wp2_with fail
  refine (C6.out _).mono ?_
  rintro e w' ⟨rfl, hb⟩
  go_wp2
  go_ret
  exact ⟨rfl, hb⟩

section
variable {H : Type} {enc : TypeId × Value → H} {W : World} {base : Nat} {sp : Nat → Bool} {held : Bool}
theorem list11 {α : Type} {cs : List α} (h : cs.length = 11) : ∃ c0 c1 c2 c3 c4 c5 c6 c7 c8 c9 c10, cs = [c0, c1, c2, c3, c4, c5, c6, c7, c8, c9, c10] := by
  match cs, h with
  | [c0, c1, c2, c3, c4, c5, c6, c7, c8, c9, c10], _ => exact ⟨c0, c1, c2, c3, c4, c5, c6, c7, c8, c9, c10, rfl⟩

theorem conf_cells {fuel : Nat} {cs : List Value} {x : DataW H × List MemPlace} (h : DataW.trod enc Try.prog W base sp held fuel 23 cs = some x) : ∃ c : ConfV, cs = confCells c := by
  have hce : Try.prog.cellsOf 23 = 11 := by kernel_rfl
  have hi : Try.prog.cellsOf 3 = 1 := by kernel_rfl
  obtain ⟨xs, n, _, rfl, hl, hlen, hf⟩ := DataW.trod_struct Try.underlying23 h
  rw [hce] at hl
  obtain ⟨c0, c1, c2, c3, c4, c5, c6, c7, c8, c9, c10, rfl⟩ := list11 hl
  obtain ⟨y0, y1, y2, y3, y4, y5, y6, y7, y8, y9, y10, rfl⟩ := list11 (cs := xs) hlen
  have t0 : DataW.trod enc Try.prog W base sp held n 3 ((([c0, c1, c2, c3, c4, c5, c6, c7, c8, c9, c10] : List Value).drop 0).take (Try.prog.cellsOf 3)) = ([y0, y1, y2, y3, y4, y5, y6, y7, y8, y9, y10] : List (DataW H × List MemPlace))[0]? := hf 0 _ rfl
  rw [hi] at t0
  obtain ⟨d0, e0, _⟩ := DataW.trod_int Try.underlying3 t0
  have e0' : c0 = .int .i64 d0 := by injection e0
  have t1 : DataW.trod enc Try.prog W base sp held n 3 ((([c0, c1, c2, c3, c4, c5, c6, c7, c8, c9, c10] : List Value).drop 1).take (Try.prog.cellsOf 3)) = ([y0, y1, y2, y3, y4, y5, y6, y7, y8, y9, y10] : List (DataW H × List MemPlace))[1]? := hf 1 _ rfl
  rw [hi] at t1
  obtain ⟨d1, e1, _⟩ := DataW.trod_int Try.underlying3 t1
  have e1' : c1 = .int .i64 d1 := by injection e1
  have t2 : DataW.trod enc Try.prog W base sp held n 3 ((([c0, c1, c2, c3, c4, c5, c6, c7, c8, c9, c10] : List Value).drop 2).take (Try.prog.cellsOf 3)) = ([y0, y1, y2, y3, y4, y5, y6, y7, y8, y9, y10] : List (DataW H × List MemPlace))[2]? := hf 2 _ rfl
  rw [hi] at t2
  obtain ⟨d2, e2, _⟩ := DataW.trod_int Try.underlying3 t2
  have e2' : c2 = .int .i64 d2 := by injection e2
  have t3 : DataW.trod enc Try.prog W base sp held n 3 ((([c0, c1, c2, c3, c4, c5, c6, c7, c8, c9, c10] : List Value).drop 3).take (Try.prog.cellsOf 3)) = ([y0, y1, y2, y3, y4, y5, y6, y7, y8, y9, y10] : List (DataW H × List MemPlace))[3]? := hf 3 _ rfl
  rw [hi] at t3
  obtain ⟨d3, e3, _⟩ := DataW.trod_int Try.underlying3 t3
  have e3' : c3 = .int .i64 d3 := by injection e3
  have t4 : DataW.trod enc Try.prog W base sp held n 3 ((([c0, c1, c2, c3, c4, c5, c6, c7, c8, c9, c10] : List Value).drop 4).take (Try.prog.cellsOf 3)) = ([y0, y1, y2, y3, y4, y5, y6, y7, y8, y9, y10] : List (DataW H × List MemPlace))[4]? := hf 4 _ rfl
  rw [hi] at t4
  obtain ⟨d4, e4, _⟩ := DataW.trod_int Try.underlying3 t4
  have e4' : c4 = .int .i64 d4 := by injection e4
  have t5 : DataW.trod enc Try.prog W base sp held n 3 ((([c0, c1, c2, c3, c4, c5, c6, c7, c8, c9, c10] : List Value).drop 5).take (Try.prog.cellsOf 3)) = ([y0, y1, y2, y3, y4, y5, y6, y7, y8, y9, y10] : List (DataW H × List MemPlace))[5]? := hf 5 _ rfl
  rw [hi] at t5
  obtain ⟨d5, e5, _⟩ := DataW.trod_int Try.underlying3 t5
  have e5' : c5 = .int .i64 d5 := by injection e5
  have t6 : DataW.trod enc Try.prog W base sp held n 3 ((([c0, c1, c2, c3, c4, c5, c6, c7, c8, c9, c10] : List Value).drop 6).take (Try.prog.cellsOf 3)) = ([y0, y1, y2, y3, y4, y5, y6, y7, y8, y9, y10] : List (DataW H × List MemPlace))[6]? := hf 6 _ rfl
  rw [hi] at t6
  obtain ⟨d6, e6, _⟩ := DataW.trod_int Try.underlying3 t6
  have e6' : c6 = .int .i64 d6 := by injection e6
  have t7 : DataW.trod enc Try.prog W base sp held n 3 ((([c0, c1, c2, c3, c4, c5, c6, c7, c8, c9, c10] : List Value).drop 7).take (Try.prog.cellsOf 3)) = ([y0, y1, y2, y3, y4, y5, y6, y7, y8, y9, y10] : List (DataW H × List MemPlace))[7]? := hf 7 _ rfl
  rw [hi] at t7
  obtain ⟨d7, e7, _⟩ := DataW.trod_int Try.underlying3 t7
  have e7' : c7 = .int .i64 d7 := by injection e7
  have t8 : DataW.trod enc Try.prog W base sp held n 3 ((([c0, c1, c2, c3, c4, c5, c6, c7, c8, c9, c10] : List Value).drop 8).take (Try.prog.cellsOf 3)) = ([y0, y1, y2, y3, y4, y5, y6, y7, y8, y9, y10] : List (DataW H × List MemPlace))[8]? := hf 8 _ rfl
  rw [hi] at t8
  obtain ⟨d8, e8, _⟩ := DataW.trod_int Try.underlying3 t8
  have e8' : c8 = .int .i64 d8 := by injection e8
  have t9 : DataW.trod enc Try.prog W base sp held n 3 ((([c0, c1, c2, c3, c4, c5, c6, c7, c8, c9, c10] : List Value).drop 9).take (Try.prog.cellsOf 3)) = ([y0, y1, y2, y3, y4, y5, y6, y7, y8, y9, y10] : List (DataW H × List MemPlace))[9]? := hf 9 _ rfl
  rw [hi] at t9
  obtain ⟨d9, e9, _⟩ := DataW.trod_int Try.underlying3 t9
  have e9' : c9 = .int .i64 d9 := by injection e9
  have t10 : DataW.trod enc Try.prog W base sp held n 3 ((([c0, c1, c2, c3, c4, c5, c6, c7, c8, c9, c10] : List Value).drop 10).take (Try.prog.cellsOf 3)) = ([y0, y1, y2, y3, y4, y5, y6, y7, y8, y9, y10] : List (DataW H × List MemPlace))[10]? := hf 10 _ rfl
  rw [hi] at t10
  obtain ⟨d10, e10, _⟩ := DataW.trod_int Try.underlying3 t10
  have e10' : c10 = .int .i64 d10 := by injection e10
  exact ⟨⟨d0, d1, d2, d3, d4, d5, d6, d7, d8, d9, d10⟩, by rw [e0', e1', e2', e3', e4', e5', e6', e7', e8', e9', e10']; rfl⟩

theorem open_conf {r : Reach} {b0 : Nat} {v : Value} {d : DataW H} {p : List MemPlace} (hv : Value.okWide Try.prog W r b0 23 v) (h : DataW.Trod enc Try.prog W base sp held 23 v d p) : ∃ c : ConfV, v = confVal c := by
  obtain ⟨cs, rfl, hs⟩ := okWide_struct Try.underlying23 hv
  obtain ⟨m, hm⟩ := h
  obtain ⟨c, hc⟩ := conf_cells hm
  exact ⟨c, by unfold confVal; congr 1; apply Array.ext'; simpa [Value.cells, confCells] using hc⟩
end
end Vw
end Go.Proofs.Ytdocoflcelhmbaa
