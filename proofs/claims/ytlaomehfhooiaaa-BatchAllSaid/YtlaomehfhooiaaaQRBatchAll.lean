/- PROVED: the statement BatchAll of layer 12: for every input that can be read, the law returns true and leaves its arguments as they were. No condition. -/
import Derived.Test.YtlaomehfhooiaaaRows
import Derived.Test.YtlaomehfhooiaaaQ18
import Derived.WalkKit
import Derived.ProofKit
import Derived.OpenShut
import Derived.ShutString
import Derived.ChangeOld
import Derived.Below
import Derived.Deep.Cut
import Derived.Deep.CutBlock
import Derived.Deep.DeepCutAuto
namespace Go.Proofs.Ytlaomehfhooiaaa.batchAll
open Go.ChangeShapes Go.WideShapes Go.ChangeAt Go.RowKit
open Go.ChangeMaps (open_string shut_string)
open Go.Sort (grow)
set_option linter.unusedVariables false
set_option maxRecDepth 8000
set_option linter.unusedSimpArgs false

theorem own : ownKnob Try.prog.godebug = none := by kernel_rfl
theorem laidOut : laidOutB Try.prog = true := by kernel_rfl

/-! ### STEP 1: THE WALK -/
set_option maxRecDepth 100000 in
set_option maxHeartbeats 4000000 in
theorem walk (a0 : Cm.BatV × Value) (a1 : Cm.BatV × Value) (a2 : Option Addr) (len2 cap2 : Nat) (z2 : List Int) (a3 : Int) (a4 : Int × Int) (w : World) (w0 : Cm.batOkA w a0) (w1 : Cm.batOkA w a1) (w2 : IsRow .u8 w a2 len2 cap2 z2) (w3 : (Lit.int .i64 a3).wf = true) :
    Calls Try.prog 3 #[Cm.batA a0, Cm.batA a1, .slice a2 len2 cap2, .int .i64 a3, Cm.tipA2 a4] w fun e w' => e = .returned (.bool true) ∧ Below w.heap.size w w' := by
  obtain ⟨A, va⟩ := a0
  obtain ⟨B, vb⟩ := a1
  obtain ⟨p1, p2⟩ := a4
  obtain ⟨hr, hrl⟩ := w2.rd
  generalize bytesOf z2 len2 = PB at hr hrl
  have ha3 : a3 ≤ 9223372036854775807 := by have := w3; simp [Lit.wf, IntKind.min, IntKind.max, IntKind.signed, IntKind.bits] at this; omega
  unfold Cm.batOkA at w0 w1
  unfold Cm.batA Cm.tipA2 Cm.tipVal
  dsimp only at w0 w1 ⊢
  have C0 := Lib.hid (fun w => Cm.awake12_ok w)
  have HB3 := Lib.hid (stepAlloc (stepAlloc (newAlloc w (.cells #[.bool A.fill, .int .i64 A.view, .int .i64 A.tv, .int .i64 A.ts, .int .i64 A.time, va] 26)) (.cells #[.bool B.fill, .int .i64 B.view, .int .i64 B.tv, .int .i64 B.ts, .int .i64 B.time, vb] 26)) (.cells #[.int .i64 p1, .int .i64 p2] 23))
  have HX : Hid (∀ W, Below (((w.alloc (.cells #[.bool A.fill, .int .i64 A.view, .int .i64 A.tv, .int .i64 A.ts, .int .i64 A.time, va] 26)).alloc (.cells #[.bool B.fill, .int .i64 B.view, .int .i64 B.tv, .int .i64 B.ts, .int .i64 B.time, vb] 26)).alloc (.cells #[.int .i64 p1, .int .i64 p2] 23)).heap.size (((w.alloc (.cells #[.bool A.fill, .int .i64 A.view, .int .i64 A.tv, .int .i64 A.ts, .int .i64 A.time, va] 26)).alloc (.cells #[.bool B.fill, .int .i64 B.view, .int .i64 B.tv, .int .i64 B.ts, .int .i64 B.time, vb] 26)).alloc (.cells #[.int .i64 p1, .int .i64 p2] 23)) W →
      Cm.HeapAt W w.heap.size (.cells #[.bool A.fill, .int .i64 A.view, .int .i64 A.tv, .int .i64 A.ts, .int .i64 A.time, va] 26) ∧ Cm.HeapAt W (w.heap.size + 1) (.cells #[.bool B.fill, .int .i64 B.view, .int .i64 B.tv, .int .i64 B.ts, .int .i64 B.time, vb] 26) ∧ Cm.HeapAt W (w.heap.size + 1 + 1) (.cells #[.int .i64 p1, .int .i64 p2] 23)) := Lib.hid fun W hb =>
    ⟨Cm.HeapAt.later (Cm.alloc_atB _ _ _ rfl) (step (stepAlloc (newAlloc _ _) _) hb), Cm.HeapAt.later (Cm.alloc_atB _ _ _ (by simp)) (step (newAlloc _ _) hb), Cm.HeapAt.later (Cm.alloc_atB _ _ _ (by simp)) hb⟩
  have HRA := Lib.hid w0
  have HRB := Lib.hid w1
  obtain ⟨aa, ac, rfl⟩ := w0.form
  obtain ⟨ba, bc, rfl⟩ := w1.form
  have CGA := Lib.hid (fun W hb => Cm.Great_any A _ W (HRA.out.later hb))
  have CGB := Lib.hid (fun W hb => Cm.Great_any B _ W (HRB.out.later hb))
  have C1 := Lib.hid (fun W hb => (Cm.PutB_any A _ W (HRA.out.later hb)).mono fun e w' h => Cm.Made.s h)
  have C2 := Lib.hid (fun W hb => (Cm.RefPutB_any A _ W (HRA.out.later hb)).mono fun e w' h => Cm.Made.s h)
  have C3 := Lib.hid (fun (W : World) (hb : Below w.heap.size w W) => Cm.GetB_any _ PB a3 W (hr.later hb) ha3)
  have C4 := Lib.hid (fun (W : World) (hb : Below w.heap.size w W) => Cm.RefGetB_any _ PB a3 W (hr.later hb) ha3)
  have C5 := Lib.hid (fun W hb => Cm.MayB_any A _ W (HRA.out.later hb))
  have C6 := Lib.hid (fun W hb => Cm.RefMayB_any A _ W (HRA.out.later hb))
  have C8 := Lib.hid (fun W hb => Cm.SameB_any A B _ _ W (HRA.out.later hb) (HRB.out.later hb))
  have C9 := Lib.hid (fun W hb => Cm.RefSameB_any A B _ _ W (HRA.out.later hb) (HRB.out.later hb))
  have C10 := Lib.hid (fun W hb => Cm.SameB_any A A _ _ W (HRA.out.later hb) (HRA.out.later hb))
  have C11 := Lib.hid (fun W => Cm.ValidB_any A (.slice aa A.reqs.length ac) p1 p2 W)
  have C12 := Lib.hid (fun W => Cm.RefValidB_any A (.slice aa A.reqs.length ac) p1 p2 W)
  have C13 := Lib.hid (fun W => Cm.ValidB_any A (.slice aa A.reqs.length ac) A.tv A.ts W)
  rw [Cm.sameB_refl] at C10
  have hv : Cm.validF A.tv A.ts A = !A.fill := by simp [Cm.validF]
  rw [hv] at C13
  clear hv
  generalize Cm.greatB A = GA at CGA
  generalize Cm.greatB B = GB at CGB
  generalize hG : Cm.getB PB a3 = G at C3 C4
  have C7 := Lib.hid (fun (u v : Value) (W : World) (h1 : Cm.RdR W u G.1.reqs) (h2 : Cm.RdR W v G.1.reqs) => Cm.RefSameB_any G.1 G.1 u v W h1 h2)
  rw [Cm.sameB_refl] at C7
  generalize Cm.putB A = PA at C1 C2
  generalize Cm.mayB A = MA at C5 C6
  generalize Cm.sameB A B = SA at C8 C9
  generalize Cm.validF p1 p2 A = VA at C11 C12
  obtain ⟨PA, pc⟩ := PA
  obtain ⟨⟨gf, gv, gt, gs, gm, gl⟩, gt2, gc⟩ := G
  unfold Cm.GetsB at C3 C4
  unfold Cm.batVal at CGA CGB C1 C2 C3 C4 C5 C6 C7 C8 C9 C10 C11 C12 C13
  unfold Cm.tipVal at C11 C12 C13
  unfold Cm.batVal
  clear w0 w1 w3 hr ha3 hG
  obtain ⟨fa, v1, t1, s1, m1, la⟩ := A
  obtain ⟨fb, v2, t2, s2, m2, lb⟩ := B
  dsimp only at HB3 HX HRA HRB CGA CGB C1 C2 C3 C4 C5 C6 C7 C8 C9 C10 C11 C12 C13 ⊢
  generalize la.length = LA at *
  generalize lb.length = LB at *
  have hX3 := HX.out _ (Below.refl _ _)
  go_enter Try.func3, Try.ntmps3
  go_upto_region 1 with fail
  generalize (((w.alloc (.cells #[.bool fa, .int .i64 v1, .int .i64 t1, .int .i64 s1, .int .i64 m1, .slice aa LA ac] 26)).alloc (.cells #[.bool fb, .int .i64 v2, .int .i64 t2, .int .i64 s2, .int .i64 m2, .slice ba LB bc] 26)).alloc (.cells #[.int .i64 p1, .int .i64 p2] 23)) = W3 at HB3 HX hX3 ⊢
  have j0 := Cm.cell_at hX3.1 0
  have j1 := Cm.cell_at hX3.1 1
  have j2 := Cm.cell_at hX3.1 2
  have j3 := Cm.cell_at hX3.1 3
  have j4 := Cm.cell_at hX3.1 4
  have j5 := Cm.cell_at hX3.1 5
  have i0 := Cm.cell_at hX3.2.1 0
  have i1 := Cm.cell_at hX3.2.1 1
  have i2 := Cm.cell_at hX3.2.1 2
  have i3 := Cm.cell_at hX3.2.1 3
  have i4 := Cm.cell_at hX3.2.1 4
  have i5 := Cm.cell_at hX3.2.1 5
  have k0 := Cm.cell_at hX3.2.2 0
  have k1 := Cm.cell_at hX3.2.2 1
  simp only [List.getElem?_toArray, List.getElem?_cons_zero, List.getElem?_cons_succ] at j0 j1 j2 j3 j4 j5 i0 i1 i2 i3 i4 i5 k0 k1
  clear hX3
  go_wp2_with fail
  refine (CGA.out _ HB3.out).mono ?_
  rintro e w1 ⟨rfl, hb⟩
  have HBN : Hid (Below W3.heap.size W3 w1) := Lib.hid hb
  clear hb j0 j1 j2 j3 j4 j5 i0 i1 i2 i3 i4 i5 k0 k1
  have hX3 := HX.out _ HBN.out
  have j0 := Cm.cell_at hX3.1 0
  have j1 := Cm.cell_at hX3.1 1
  have j2 := Cm.cell_at hX3.1 2
  have j3 := Cm.cell_at hX3.1 3
  have j4 := Cm.cell_at hX3.1 4
  have j5 := Cm.cell_at hX3.1 5
  have i0 := Cm.cell_at hX3.2.1 0
  have i1 := Cm.cell_at hX3.2.1 1
  have i2 := Cm.cell_at hX3.2.1 2
  have i3 := Cm.cell_at hX3.2.1 3
  have i4 := Cm.cell_at hX3.2.1 4
  have i5 := Cm.cell_at hX3.2.1 5
  have k0 := Cm.cell_at hX3.2.2 0
  have k1 := Cm.cell_at hX3.2.2 1
  simp only [List.getElem?_toArray, List.getElem?_cons_zero, List.getElem?_cons_succ] at j0 j1 j2 j3 j4 j5 i0 i1 i2 i3 i4 i5 k0 k1
  clear hX3
  cases GA
  case true =>
    go_wp2_with (go_at_call 7; refine (C0.out _).mono ?_; rintro e w2 ⟨rfl, hb2⟩)
    go_ret
    exact ⟨rfl, step (step HB3.out HBN.out) hb2⟩
  go_wp2_with fail
  refine (CGB.out _ (step HB3.out HBN.out)).mono ?_
  rintro e w2 ⟨rfl, hb⟩
  have HBN : Hid (Below W3.heap.size W3 w2) := Lib.hid (step HBN.out hb)
  clear hb j0 j1 j2 j3 j4 j5 i0 i1 i2 i3 i4 i5 k0 k1
  have hX3 := HX.out _ HBN.out
  have j0 := Cm.cell_at hX3.1 0
  have j1 := Cm.cell_at hX3.1 1
  have j2 := Cm.cell_at hX3.1 2
  have j3 := Cm.cell_at hX3.1 3
  have j4 := Cm.cell_at hX3.1 4
  have j5 := Cm.cell_at hX3.1 5
  have i0 := Cm.cell_at hX3.2.1 0
  have i1 := Cm.cell_at hX3.2.1 1
  have i2 := Cm.cell_at hX3.2.1 2
  have i3 := Cm.cell_at hX3.2.1 3
  have i4 := Cm.cell_at hX3.2.1 4
  have i5 := Cm.cell_at hX3.2.1 5
  have k0 := Cm.cell_at hX3.2.2 0
  have k1 := Cm.cell_at hX3.2.2 1
  simp only [List.getElem?_toArray, List.getElem?_cons_zero, List.getElem?_cons_succ] at j0 j1 j2 j3 j4 j5 i0 i1 i2 i3 i4 i5 k0 k1
  clear hX3
  cases GB
  case true =>
    go_wp2_with (go_at_call 7; refine (C0.out _).mono ?_; rintro e w2 ⟨rfl, hb2⟩)
    go_ret
    exact ⟨rfl, step (step HB3.out HBN.out) hb2⟩
  by_cases h600 : 600 < len2
  · have d6 : decide (600 < (len2 : Int)) = true := by simp; omega
    go_wp2_with (go_at_call 7; refine (C0.out _).mono ?_; rintro e w2 ⟨rfl, hb2⟩)
    go_ret
    exact ⟨rfl, step (step HB3.out HBN.out) hb2⟩
  have d6 : decide (600 < (len2 : Int)) = false := by simp; omega
  clear h600 CGA CGB
  go_wp2_with fail
  refine (C1.out _ (step HB3.out HBN.out)).mono ?_
  rintro e w3 ⟨x1, x2, x3, rfl, hp, hb⟩
  have HP1 := Lib.hid hp
  have HBN : Hid (Below W3.heap.size W3 w3) := Lib.hid (step HBN.out hb)
  clear hp hb d6 j0 j1 j2 j3 j4 j5 i0 i1 i2 i3 i4 i5 k0 k1
  have hX3 := HX.out _ HBN.out
  have j0 := Cm.cell_at hX3.1 0
  have j1 := Cm.cell_at hX3.1 1
  have j2 := Cm.cell_at hX3.1 2
  have j3 := Cm.cell_at hX3.1 3
  have j4 := Cm.cell_at hX3.1 4
  have j5 := Cm.cell_at hX3.1 5
  have i0 := Cm.cell_at hX3.2.1 0
  have i1 := Cm.cell_at hX3.2.1 1
  have i2 := Cm.cell_at hX3.2.1 2
  have i3 := Cm.cell_at hX3.2.1 3
  have i4 := Cm.cell_at hX3.2.1 4
  have i5 := Cm.cell_at hX3.2.1 5
  have k0 := Cm.cell_at hX3.2.2 0
  have k1 := Cm.cell_at hX3.2.2 1
  simp only [List.getElem?_toArray, List.getElem?_cons_zero, List.getElem?_cons_succ] at j0 j1 j2 j3 j4 j5 i0 i1 i2 i3 i4 i5 k0 k1
  clear hX3
  go_wp2_with fail
  refine (C2.out _ (step HB3.out HBN.out)).mono ?_
  rintro e w4 ⟨y1, y2, y3, rfl, hp, hb⟩
  have HP1 := Lib.hid (HP1.out.later hb)
  have HP2 := Lib.hid hp
  have HBN : Hid (Below W3.heap.size W3 w4) := Lib.hid (step HBN.out hb)
  clear hp hb j0 j1 j2 j3 j4 j5 i0 i1 i2 i3 i4 i5 k0 k1
  go_wp2_with fail
  refine (C3.out _ (step HB3.out HBN.out)).mono ?_
  rintro e w5 ⟨vc, rfl, hp, hb⟩
  obtain ⟨ca, cc, rfl⟩ := hp.form
  have HP1 := Lib.hid (HP1.out.later (stepAlloc hb (.cells #[.bool gf, .int .i64 gv, .int .i64 gt, .int .i64 gs, .int .i64 gm, .slice ca gl.length cc] 26)))
  have HP2 := Lib.hid (HP2.out.later (stepAlloc hb (.cells #[.bool gf, .int .i64 gv, .int .i64 gt, .int .i64 gs, .int .i64 gm, .slice ca gl.length cc] 26)))
  have HPC := Lib.hid (hp.later (newAlloc w5 (.cells #[.bool gf, .int .i64 gv, .int .i64 gt, .int .i64 gs, .int .i64 gm, .slice ca gl.length cc] 26)))
  have HBN : Hid (Below W3.heap.size W3 (w5.alloc (.cells #[.bool gf, .int .i64 gv, .int .i64 gt, .int .i64 gs, .int .i64 gm, .slice ca gl.length cc] 26))) := Lib.hid (stepAlloc (step HBN.out hb) _)
  have HCC : Hid (Cm.HeapAt (w5.alloc (.cells #[.bool gf, .int .i64 gv, .int .i64 gt, .int .i64 gs, .int .i64 gm, .slice ca gl.length cc] 26)) w5.heap.size (.cells #[.bool gf, .int .i64 gv, .int .i64 gt, .int .i64 gs, .int .i64 gm, .slice ca gl.length cc] 26)) := Lib.hid (Cm.alloc_atB _ _ _ rfl)
  clear hp hb
  go_upto_region 6 with fail
  generalize hW : w5.alloc _ = W5 at HP1 HP2 HPC HBN HCC ⊢
  generalize w5.heap.size = gC at HCC ⊢
  clear hW
  go_wp2_with fail
  refine (C4.out _ (step HB3.out HBN.out)).mono ?_
  rintro e w6 ⟨vd, rfl, hp, hb⟩
  obtain ⟨da, dc, rfl⟩ := hp.form
  have hs := stepAlloc hb (.cells #[.bool gf, .int .i64 gv, .int .i64 gt, .int .i64 gs, .int .i64 gm, .slice da gl.length dc] 26)
  have HP1 := Lib.hid (HP1.out.later hs)
  have HP2 := Lib.hid (HP2.out.later hs)
  have HPC := Lib.hid (HPC.out.later hs)
  have HCC := Lib.hid (HCC.out.later hs)
  have HPD := Lib.hid (hp.later (newAlloc w6 (.cells #[.bool gf, .int .i64 gv, .int .i64 gt, .int .i64 gs, .int .i64 gm, .slice da gl.length dc] 26)))
  have HBN : Hid (Below W3.heap.size W3 (w6.alloc (.cells #[.bool gf, .int .i64 gv, .int .i64 gt, .int .i64 gs, .int .i64 gm, .slice da gl.length dc] 26))) := Lib.hid (step HBN.out hs)
  have HDD : Hid (Cm.HeapAt (w6.alloc (.cells #[.bool gf, .int .i64 gv, .int .i64 gt, .int .i64 gs, .int .i64 gm, .slice da gl.length dc] 26)) w6.heap.size (.cells #[.bool gf, .int .i64 gv, .int .i64 gt, .int .i64 gs, .int .i64 gm, .slice da gl.length dc] 26)) := Lib.hid (Cm.alloc_atB _ _ _ rfl)
  have HX6 := HX.out _ HBN.out
  clear hp hb hs
  dsimp only
  have hX3 := HX.out _ HBN.out
  have j0 := Cm.cell_at hX3.1 0
  have j1 := Cm.cell_at hX3.1 1
  have j2 := Cm.cell_at hX3.1 2
  have j3 := Cm.cell_at hX3.1 3
  have j4 := Cm.cell_at hX3.1 4
  have j5 := Cm.cell_at hX3.1 5
  have i0 := Cm.cell_at hX3.2.1 0
  have i1 := Cm.cell_at hX3.2.1 1
  have i2 := Cm.cell_at hX3.2.1 2
  have i3 := Cm.cell_at hX3.2.1 3
  have i4 := Cm.cell_at hX3.2.1 4
  have i5 := Cm.cell_at hX3.2.1 5
  have k0 := Cm.cell_at hX3.2.2 0
  have k1 := Cm.cell_at hX3.2.2 1
  simp only [List.getElem?_toArray, List.getElem?_cons_zero, List.getElem?_cons_succ] at j0 j1 j2 j3 j4 j5 i0 i1 i2 i3 i4 i5 k0 k1
  have c0 := Cm.cell_at HCC.out 0
  have c1 := Cm.cell_at HCC.out 1
  have c2 := Cm.cell_at HCC.out 2
  have c3 := Cm.cell_at HCC.out 3
  have c4 := Cm.cell_at HCC.out 4
  have c5 := Cm.cell_at HCC.out 5
  have d0 := Cm.cell_at HDD.out 0
  have d1 := Cm.cell_at HDD.out 1
  have d2 := Cm.cell_at HDD.out 2
  have d3 := Cm.cell_at HDD.out 3
  have d4 := Cm.cell_at HDD.out 4
  have d5 := Cm.cell_at HDD.out 5
  simp only [List.getElem?_toArray, List.getElem?_cons_zero, List.getElem?_cons_succ] at c0 c1 c2 c3 c4 c5 d0 d1 d2 d3 d4 d5
  clear hX3
  go_upto_region 7 with fail
  clear HCC HDD
  generalize hW6 : w6.alloc _ = W6 at *
  clear hW6
  have qj0 := cell_regrown j0
  have qj1 := cell_regrown j1
  have qj2 := cell_regrown j2
  have qj3 := cell_regrown j3
  have qj4 := cell_regrown j4
  have qj5 := cell_regrown j5
  have qi0 := cell_regrown i0
  have qi1 := cell_regrown i1
  have qi2 := cell_regrown i2
  have qi3 := cell_regrown i3
  have qi4 := cell_regrown i4
  have qi5 := cell_regrown i5
  have qk0 := cell_regrown k0
  have qk1 := cell_regrown k1
  have qc0 := cell_regrown c0
  have qc1 := cell_regrown c1
  have qc2 := cell_regrown c2
  have qc3 := cell_regrown c3
  have qc4 := cell_regrown c4
  have qc5 := cell_regrown c5
  have qd0 := cell_regrown d0
  have qd1 := cell_regrown d1
  have qd2 := cell_regrown d2
  have qd3 := cell_regrown d3
  have qd4 := cell_regrown d4
  have qd5 := cell_regrown d5
  have x1' := fun d os => conv_rd (grow (redrawn W6 d) os) (P := Try.prog) Try.underlying27 Try.underlying5 Try.underlying9 _ PA (HP1.out.later (below_regrown W6 d os))
  have x2' := fun d os => conv_rd (grow (redrawn W6 d) os) (P := Try.prog) Try.underlying27 Try.underlying5 Try.underlying9 _ PA (HP2.out.later (below_regrown W6 d os))
  have D5 := Lib.hid (fun d os => Calls.regrown_of (w := W6) (d := d) (os := os) (C5.out _ (step (step HB3.out HBN.out) (below_regrown W6 d os))))
  have D6 := Lib.hid (fun d os => Calls.regrown_of (w := W6) (d := d) (os := os) (C6.out _ (step (step HB3.out HBN.out) (below_regrown W6 d os))))
  have D7 := Lib.hid (fun d os => Calls.regrown_of (w := W6) (d := d) (os := os) (C7.out _ _ _ (HPC.out.later (below_regrown W6 d os)) (HPD.out.later (below_regrown W6 d os))))
  have D8 := Lib.hid (fun d os => Calls.regrown_of (w := W6) (d := d) (os := os) (C8.out _ (step (step HB3.out HBN.out) (below_regrown W6 d os))))
  have D9 := Lib.hid (fun d os => Calls.regrown_of (w := W6) (d := d) (os := os) (C9.out _ (step (step HB3.out HBN.out) (below_regrown W6 d os))))
  have D10 := Lib.hid (fun d os => Calls.regrown_of (w := W6) (d := d) (os := os) (C10.out _ (step (step HB3.out HBN.out) (below_regrown W6 d os))))
  have D11 := Lib.hid (fun d os => Calls.regrown_of (w := W6) (d := d) (os := os) (C11.out _))
  have D12 := Lib.hid (fun d os => Calls.regrown_of (w := W6) (d := d) (os := os) (C12.out _))
  have D13 := Lib.hid (fun d os => Calls.regrown_of (w := W6) (d := d) (os := os) (C13.out _))
  have D0 := Lib.hid (fun d os => Calls.regrown_of (w := W6) (d := d) (os := os) (C0.out _))
  clear C0 C1 C2 C3 C4 C5 C6 C7 C8 C9 C10 C11 C12 C13 HX HX6 HPC HPD HP1 HP2 HRA HRB j0 j1 j2 j3 j4 j5 i0 i1 i2 i3 i4 i5 k0 k1 c0 c1 c2 c3 c4 c5 d0 d1 d2 d3 d4 d5
  try simp only [List.append_eq, List.cons_append, List.nil_append]
  refine wp_region_quiet_below (by kernel_rfl) (by kernel_rfl) ?_
  try simp only [List.append_eq, List.cons_append, List.nil_append]
  repeat (go_big_quiet_step (fail))
  go_big_quiet_step (exact D5.out _ _)
  repeat (go_big_quiet_step (fail))
  go_big_quiet_step (exact D6.out _ _)
  repeat (go_big_quiet_step (fail))
  go_big_quiet_step (exact D7.out _ _)
  repeat (go_big_quiet_step (fail))
  go_big_quiet_step (exact D8.out _ _)
  repeat (go_big_quiet_step (fail))
  go_big_quiet_step (exact D9.out _ _)
  repeat (go_big_quiet_step (fail))
  go_big_quiet_step (exact D10.out _ _)
  repeat (go_big_quiet_step (fail))
  go_big_quiet_step (exact D11.out _ _)
  repeat (go_big_quiet_step (fail))
  go_big_quiet_step (exact D12.out _ _)
  repeat (go_big_quiet_step (fail))
  go_big_quiet_step (exact D13.out _ _)
  repeat (go_big_quiet_step (fail))
  go_big_quiet_step (exact D0.out _ _)
  repeat (go_big_quiet_step (fail))
  refine wpQuiet_nil ?_
  intro _ hw'
  obtain ⟨⟨dq, osq⟩, hw''⟩ := hw'
  subst hw''
  go_wp2
  go_ret
  exact ⟨rfl, step (step HB3.out HBN.out) (below_regrown W6 dq osq)⟩

/-! ### THE ROW's STEP -/
set_option maxRecDepth 100000 in
theorem lifted (os : Os) (started : os.Started) (H : Type) (enc : TypeId × Value → H) :
    ReturnsInHanded {} Try.checked os 3 .any (Rows.batchAllSpec.pre6 enc Try.prog Try.f3 Rows.batchAllRow.domain false) (Rows.batchAllSpec.post enc Try.prog Try.f3 false true false false) := by
  refine returnsInHanded_of_change (C := Try.checked) own started (by kernel_rfl) Try.func3
    (ChangeSpec.witness6 (enc := enc) (C := Try.checked) false ⟨#[], #[.agg #[.bool false, .int .i64 0, .int .i64 0, .int .i64 0, .int .i64 0, .slice none 0 0], .agg #[.bool false, .int .i64 0, .int .i64 0, .int .i64 0, .int .i64 0, .slice none 0 0], .slice none 0 0, .int .i64 0, .agg #[.int .i64 0, .int .i64 0]], []⟩ 8 (by kernel_rfl) (by kernel_rfl) (by kernel_rfl) (by kernel_rfl)) ?_
  intro W base args ds gs before hval0 hW hcnd _
  have hval : ∀ (j : Nat) t v, Try.f3.params[j]? = some t → args[j]? = some v → Value.okWide Try.prog W .any base t v := hval0
  have hW' := hW
  obtain ⟨p, q, hA0, hV, rfl, hfz, hnd⟩ := hW
  have hA : DataW.TrodAll enc Try.prog W 0 (fun _ => true) true Try.f3.params.toList args.toList ds p := hA0
  rw [Try.params3] at hA hval
  obtain ⟨v0, vs0, d0, ds0, p0, q0, hargs, rfl, rfl, h0, r0⟩ := trodAll_cons hA
  obtain ⟨v1, vs1, d1, ds1, p1, q1, rfl, rfl, rfl, h1, r1⟩ := trodAll_cons r0
  obtain ⟨v2, vs2, d2, ds2, p2, q2, rfl, rfl, rfl, h2, r2⟩ := trodAll_cons r1
  obtain ⟨v3, vs3, d3, ds3, p3, q3, rfl, rfl, rfl, h3, r3⟩ := trodAll_cons r2
  obtain ⟨v4, vs4, d4, ds4, p4, q4, rfl, rfl, rfl, h4, r4⟩ := trodAll_cons r3
  obtain ⟨rfl, rfl, rfl⟩ := trodAll_nil r4
  obtain rfl : args = #[v0, v1, v2, v3, v4] := by cases args; simp_all
  obtain ⟨rfl, rfl⟩ := trodVars_none hV
  have k0 := h0
  have lt0 : ∀ x ∈ p0, x.block < W.heap.size := by obtain ⟨m, hm⟩ := k0; exact DataW.trod_lt m _ _ _ hm
  obtain ⟨a0, rfl, w0⟩ := Cm.open_bat (hval 0 26 v0 rfl rfl) h0
  have k1 := h1
  have lt1 : ∀ x ∈ p1, x.block < W.heap.size := by obtain ⟨m, hm⟩ := k1; exact DataW.trod_lt m _ _ _ hm
  obtain ⟨a1, rfl, w1⟩ := Cm.open_bat (hval 1 26 v1 rfl rfl) h1
  obtain ⟨a2, len2, cap2, rfl⟩ := okWide_slice Try.underlying27 (hval 2 27 v2 rfl rfl)
  have k2 := h2
  have lt2 : ∀ x ∈ p2, x.block < W.heap.size := by obtain ⟨m, hm⟩ := k2; exact DataW.trod_lt m _ _ _ hm
  obtain ⟨z2, w2⟩ : ∃ zs, IsRow .u8 W a2 len2 cap2 zs := by
    obtain ⟨fuel, hf⟩ := h2
    rcases open_ints Try.underlying27 Try.underlying5 (by kernel_rfl) hf with ⟨hcs, _⟩ | ⟨x, l, c, zs, hcs, _, hl, hm, hz, _, hcell, hwz⟩
    · simp [Value.cells] at hcs
      obtain ⟨rfl, rfl, rfl⟩ := hcs
      exact ⟨[], .inl ⟨rfl, rfl, rfl, rfl⟩⟩
    · simp [Value.cells] at hcs
      obtain ⟨rfl, rfl, rfl⟩ := hcs
      exact ⟨zs, .inr ⟨_, rfl, hl, hm, by simpa using hz, hcell, hwz⟩⟩
  obtain ⟨a3, rfl, rfl, rfl, w3⟩ := open_int Try.underlying3 (hval 3 3 v3 rfl rfl) h3
  have k4 := h4
  have lt4 : ∀ x ∈ p4, x.block < W.heap.size := by obtain ⟨m, hm⟩ := k4; exact DataW.trod_lt m _ _ _ hm
  obtain ⟨a4, rfl⟩ := Cm.open_tip (hval 4 23 v4 rfl rfl) h4
  clear hA0 hval0
  refine (walk a0 a1 a2 len2 cap2 z2 a3 a4 W w0 w1 w2 w3).mono fun e W' ⟨he, bel⟩ => ?_
  subst he
  exact ⟨_, rfl, _, _, _, [], _, [], hW', trodAll_mk1 (shut_bool Try.underlying4 _), (trodAll_cons_mk (Below.trod laidOut (by kernel_rfl) (of_decide_eq_true (by kernel_rfl)) k0 bel lt0) (trodAll_cons_mk (Below.trod laidOut (by kernel_rfl) (of_decide_eq_true (by kernel_rfl)) k1 bel lt1) (trodAll_cons_mk (Below.trod laidOut (by kernel_rfl) (of_decide_eq_true (by kernel_rfl)) k2 bel lt2) (trodAll_cons_mk (shut_int Try.underlying3 w3) (trodAll_cons_mk (Below.trod laidOut (by kernel_rfl) (of_decide_eq_true (by kernel_rfl)) k4 bel lt4) trodAll_mk0))))), rfl, bel.frame _, fun h => by cases h⟩

theorem over : Rows.batchAllRow.holds Try.pinned (OpenSpec.ofChange Rows.batchAllSpec) :=
  OpenClaim.holds_of_wide 3 Try.f3 rfl rfl rfl rfl rfl rfl rfl ⟨rfl, rfl, rfl, rfl, rfl⟩ rfl rfl rfl rfl rfl (by kernel_rfl) Try.func3 (by kernel_rfl)
    (of_decide_eq_true (by kernel_rfl)) (by unfold Func.isWrapper; first | (rw [if_pos (by decide +kernel)]; kernel_rfl) | (rw [if_neg (by decide +kernel)]; exact ⟨rfl, rfl⟩))
    (fun os started H enc _ => lifted os started H enc)

/-- THE STATEMENT -/
theorem proved : Rows.BatchAllSaid := over
end Go.Proofs.Ytlaomehfhooiaaa.batchAll
