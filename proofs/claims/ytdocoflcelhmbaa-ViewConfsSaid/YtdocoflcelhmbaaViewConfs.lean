/- PROVED: the statement ViewConfs of layer 13: for every input that can be read, the law returns true and leaves its arguments as they were. No condition. -/
import Derived.Test.YtdocoflcelhmbaaRows
import Derived.Test.YtdocoflcelhmbaaVewE
import Derived.WalkKit
import Derived.ProofKit
import Derived.OpenShut
import Derived.ShutString
import Derived.ChangeOld
import Derived.Below
import Derived.BigQuiet
import Derived.Lib.QuietBelow
import Derived.Deep.Cut
import Derived.Deep.CutBlock
import Derived.Deep.DeepCutAuto
namespace Go.Proofs.Ytdocoflcelhmbaa.viewConfs
open Go.ChangeShapes Go.WideShapes Go.ChangeAt Go.RowKit
open Go.ChangeMaps (open_string shut_string)
open Go.Sort (grow)
set_option linter.unusedVariables false
set_option maxRecDepth 8000
set_option linter.unusedSimpArgs false

theorem own : ownKnob Try.prog.godebug = none := by kernel_rfl
theorem laidOut : laidOutB Try.prog = true := by kernel_rfl

/-! ### STEP 1: THE WALK -/
set_option maxRecDepth 100000 in
set_option maxHeartbeats 4000000 in
theorem walk (a0 : Option Addr) (len0 cap0 : Nat) (z0 : List Int) (a1 : Int) (a2 : Int) (w : World) (w0 : IsRow .u8 w a0 len0 cap0 z0) (w1 : (Lit.int .u8 a1).wf = true) (w2 : (Lit.int .u16 a2).wf = true) :
    Calls Try.prog 7 #[.slice a0 len0 cap0, .int .u8 a1, .int .u16 a2] w fun e w' => e = .returned (.bool true) ∧ Below w.heap.size w w' := by
  obtain ⟨hr, hrl⟩ := w0.rd
  generalize bytesOf z0 len0 = NS at hr hrl
  obtain ⟨h, rfl⟩ : ∃ h : Nat, a1 = (h : Int) := Int.eq_ofNat_of_zero_le (by have := w1; simp [Lit.wf, IntKind.min, IntKind.max, IntKind.signed, IntKind.bits] at this; omega)
  have hh : h < 256 := by have := w1; simp [Lit.wf, IntKind.min, IntKind.max, IntKind.signed, IntKind.bits] at this; omega
  obtain ⟨n, rfl⟩ : ∃ n : Nat, a2 = (n : Int) := Int.eq_ofNat_of_zero_le (by have := w2; simp [Lit.wf, IntKind.min, IntKind.max, IntKind.signed, IntKind.bits] at this; omega)
  have hn : n < 65536 := by have := w2; simp [Lit.wf, IntKind.min, IntKind.max, IntKind.signed, IntKind.bits] at this; omega
  have C0 := Lib.hid (fun w => Vw.awake13_ok w)
  have CB := Lib.hid (Vw.Conf_any _ NS w hr)
  clear w0 w1 w2 hr hrl
  obtain ⟨m, hm⟩ : ∃ m, h % 8 = m := ⟨_, rfl⟩
  have hm8 : m < 8 := by omega
  have hM : (h : Int) % 8 = (m : Int) := by omega
  have hM2 : (h : Int).tmod 8 = (m : Int) := by rw [Int.tmod_eq_emod_of_nonneg (by omega)]; exact hM
  clear hm
  go_enter Try.func7, Try.ntmps7
  go_wp2_with fail
  refine CB.out.mono ?_
  rintro e w1 ⟨c, rfl, hmay, hgood, hb⟩
  obtain ⟨c0, c1, c2, c3, c4, c5, c6, c7, c8, c9, c10⟩ := c
  unfold Vw.confVal
  dsimp only
  have HMAY := Lib.hid hmay
  have HG := Lib.hid hgood
  have CM := Lib.hid (fun c w => Vw.MayConf_any c w)
  go_upto_region 2 with fail
  have HA : Hid (Hp.At (w1.alloc (.cells #[.int .i64 c0, .int .i64 c1, .int .i64 c2, .int .i64 c3, .int .i64 c4, .int .i64 c5, .int .i64 c6, .int .i64 c7, .int .i64 c8, .int .i64 c9, .int .i64 c10] 23)) w1.heap.size (.cells #[.int .i64 c0, .int .i64 c1, .int .i64 c2, .int .i64 c3, .int .i64 c4, .int .i64 c5, .int .i64 c6, .int .i64 c7, .int .i64 c8, .int .i64 c9, .int .i64 c10] 23)) := Lib.hid (Hp.at_new _ _ _ rfl)
  have HB := Lib.hid (stepAlloc hb (.cells #[.int .i64 c0, .int .i64 c1, .int .i64 c2, .int .i64 c3, .int .i64 c4, .int .i64 c5, .int .i64 c6, .int .i64 c7, .int .i64 c8, .int .i64 c9, .int .i64 c10] 23))
  have hsz : w.heap.size ≤ w1.heap.size := hb.size
  have HSZ := Lib.hid hsz
  generalize hW : w1.alloc (.cells #[.int .i64 c0, .int .i64 c1, .int .i64 c2, .int .i64 c3, .int .i64 c4, .int .i64 c5, .int .i64 c6, .int .i64 c7, .int .i64 c8, .int .i64 c9, .int .i64 c10] 23) = W at HA HB ⊢
  generalize w1.heap.size = A at HA HSZ ⊢
  clear hW hb hmay hgood hsz CB
  have ha := HA.out
  have k0 := ha.cell 0
  have k1 := ha.cell 1
  have k2 := ha.cell 2
  have k3 := ha.cell 3
  have k4 := ha.cell 4
  have k5 := ha.cell 5
  have k6 := ha.cell 6
  have k7 := ha.cell 7
  have k8 := ha.cell 8
  have k9 := ha.cell 9
  have k10 := ha.cell 10
  simp only [List.getElem?_toArray, List.getElem?_cons_zero, List.getElem?_cons_succ] at k0 k1 k2 k3 k4 k5 k6 k7 k8 k9 k10
  clear ha
  have CM1 : Hid (∀ w, Calls Try.prog 18 #[.agg #[.int .i64 c0, .int .i64 c1, .int .i64 c2, .int .i64 c3, .int .i64 c4, .int .i64 c5, .int .i64 c6, .int .i64 c7, .int .i64 c8, .int .i64 c9, .int .i64 c10]] w (Vw.TellsB (.bool true) w)) := Lib.hid (fun w => by have := CM.out ⟨c0, c1, c2, c3, c4, c5, c6, c7, c8, c9, c10⟩ w; rw [HMAY.out] at this; exact this)
  go_wp2_with fail
  refine (CM1.out _).mono ?_
  rintro e w2 ⟨rfl, hb2⟩
  have ha := HA.out.later hb2
  clear k0 k1 k2 k3 k4 k5 k6 k7 k8 k9 k10
  have k0 := ha.cell 0
  have k1 := ha.cell 1
  have k2 := ha.cell 2
  have k3 := ha.cell 3
  have k4 := ha.cell 4
  have k5 := ha.cell 5
  have k6 := ha.cell 6
  have k7 := ha.cell 7
  have k8 := ha.cell 8
  have k9 := ha.cell 9
  have k10 := ha.cell 10
  simp only [List.getElem?_toArray, List.getElem?_cons_zero, List.getElem?_cons_succ] at k0 k1 k2 k3 k4 k5 k6 k7 k8 k9 k10
  clear ha
  go_upto_region 5 with fail
  have hs := stepAlloc hb2 (.cells #[.int .i64 c0, .int .i64 c1, .int .i64 c2, .int .i64 c3, .int .i64 c4, .int .i64 c5, .int .i64 c6, .int .i64 c7, .int .i64 c8, .int .i64 c9, .int .i64 c10] 23)
  have HA2 := Lib.hid (HA.out.later hs)
  have HB2 := Lib.hid (step HB.out hs)
  have HD : Hid (Hp.At (w2.alloc (.cells #[.int .i64 c0, .int .i64 c1, .int .i64 c2, .int .i64 c3, .int .i64 c4, .int .i64 c5, .int .i64 c6, .int .i64 c7, .int .i64 c8, .int .i64 c9, .int .i64 c10] 23)) w2.heap.size (.cells #[.int .i64 c0, .int .i64 c1, .int .i64 c2, .int .i64 c3, .int .i64 c4, .int .i64 c5, .int .i64 c6, .int .i64 c7, .int .i64 c8, .int .i64 c9, .int .i64 c10] 23)) := Lib.hid (Hp.at_new _ _ _ rfl)
  have hAD : A < w2.heap.size := Nat.lt_of_lt_of_le HA.out.lt hb2.size
  have HSD : Hid (w.heap.size ≤ w2.heap.size) := Lib.hid (by have := HSZ.out; omega)
  generalize hW : w2.alloc (.cells #[.int .i64 c0, .int .i64 c1, .int .i64 c2, .int .i64 c3, .int .i64 c4, .int .i64 c5, .int .i64 c6, .int .i64 c7, .int .i64 c8, .int .i64 c9, .int .i64 c10] 23) = W2 at HA2 HB2 HD ⊢
  generalize w2.heap.size = D at HD HSD hAD ⊢
  clear hW hb2 hs CM1 HA HB k0 k1 k2 k3 k4 k5 k6 k7 k8 k9 k10
  have hd := HD.out
  have df := hd.frozen
  have d0 := hd.cell 0
  have d1 := hd.cell 1
  have d2 := hd.cell 2
  have d3 := hd.cell 3
  have d4 := hd.cell 4
  have d5 := hd.cell 5
  have d6 := hd.cell 6
  have d7 := hd.cell 7
  have d8 := hd.cell 8
  have d9 := hd.cell 9
  have d10 := hd.cell 10
  simp only [List.getElem?_toArray, List.getElem?_cons_zero, List.getElem?_cons_succ] at d0 d1 d2 d3 d4 d5 d6 d7 d8 d9 d10
  have ha := HA2.out
  have a5 := ha.cell 5
  simp only [List.getElem?_toArray, List.getElem?_cons_zero, List.getElem?_cons_succ] at a5
  clear hd ha
  have hx : IntKind.i64.wrap (n : Int) = (n : Int) := by rw [IntKind.wrap_i64]; omega
  have hg := HG.out
  match m, hm8 with
  | 0, _ =>
    have hM : (h : Int) % 8 = 0 := hM
    have hM2 : (h : Int).tmod 8 = 0 := hM2
    
    obtain ⟨r, hr⟩ : ∃ r, n % 5 = r := ⟨_, rfl⟩
    have r1 : (n : Int) % 5 = (r : Int) := by omega
    have r2 : (n : Int).tmod 5 = (r : Int) := by rw [Int.tmod_eq_emod_of_nonneg (by omega)]; exact r1
    have r5 : r < 5 := by omega
    clear hr
    
    obtain ⟨V, hV⟩ : ∃ V : Int, V = 2 * (r : Int) := ⟨_, rfl⟩
    have HBAD : Hid (Vw.mayC ⟨V, c1, c2, c3, c4, c5, c6, c7, c8, c9, c10⟩ = false) := Lib.hid (by refine Vw.mayC_bad (.inl ?_); dsimp only; omega)
    have qV : 2 * (r : Int) = V := hV.symm
    have hV9 : -65536 ≤ V ∧ V ≤ 2000000 := by omega
    have CM2 : Hid (∀ w, Calls Try.prog 18 #[.agg #[.int .i64 V, .int .i64 c1, .int .i64 c2, .int .i64 c3, .int .i64 c4, .int .i64 c5, .int .i64 c6, .int .i64 c7, .int .i64 c8, .int .i64 c9, .int .i64 c10]] w (Vw.TellsB (.bool false) w)) := Lib.hid (fun w => by have := CM.out ⟨V, c1, c2, c3, c4, c5, c6, c7, c8, c9, c10⟩ w; rw [HBAD.out] at this; exact this)
    clear hg hV HG CM
    go_wp2_with fail
    refine (CM2.out _).mono ?_
    rintro e w5 ⟨rfl, hb5⟩
    go_wp2_with fail
    refine (C0.out _).mono ?_
    rintro e w6 ⟨rfl, hb6⟩
    go_wp2
    go_ret
    exact ⟨rfl, step (HB2.out.setCell HSD.out _) (step hb5 hb6)⟩
  | 1, _ =>
    have hM : (h : Int) % 8 = 1 := hM
    have hM2 : (h : Int).tmod 8 = 1 := hM2
    
    obtain ⟨V, hV⟩ : ∃ V : Int, V = 9 + (n : Int) := ⟨_, rfl⟩
    have HBAD : Hid (Vw.mayC ⟨c0, V, c2, c3, c4, c5, c6, c7, c8, c9, c10⟩ = false) := Lib.hid (by refine Vw.mayC_bad (.inr (.inl ?_)); dsimp only; omega)
    have qV : 9 + (n : Int) = V := hV.symm
    have hV9 : -65536 ≤ V ∧ V ≤ 2000000 := by omega
    have CM2 : Hid (∀ w, Calls Try.prog 18 #[.agg #[.int .i64 c0, .int .i64 V, .int .i64 c2, .int .i64 c3, .int .i64 c4, .int .i64 c5, .int .i64 c6, .int .i64 c7, .int .i64 c8, .int .i64 c9, .int .i64 c10]] w (Vw.TellsB (.bool false) w)) := Lib.hid (fun w => by have := CM.out ⟨c0, V, c2, c3, c4, c5, c6, c7, c8, c9, c10⟩ w; rw [HBAD.out] at this; exact this)
    clear hg hV HG CM
    go_wp2_with fail
    refine (CM2.out _).mono ?_
    rintro e w5 ⟨rfl, hb5⟩
    go_wp2_with fail
    refine (C0.out _).mono ?_
    rintro e w6 ⟨rfl, hb6⟩
    go_wp2
    go_ret
    exact ⟨rfl, step (HB2.out.setCell HSD.out _) (step hb5 hb6)⟩
  | 2, _ =>
    have hM : (h : Int) % 8 = 2 := hM
    have hM2 : (h : Int).tmod 8 = 2 := hM2
    
    have hcap := hg.cap
    have hbase := hg.base
    dsimp only at hcap hbase
    
    obtain ⟨V, hV⟩ : ∃ V : Int, V = c5 + 1 := ⟨_, rfl⟩
    have HBAD : Hid (Vw.mayC ⟨c0, c1, c2, c3, V, c5, c6, c7, c8, c9, c10⟩ = false) := Lib.hid (by refine Vw.mayC_bad (.inr (.inr (.inl ?_))); dsimp only; omega)
    have qV : c5 + 1 = V := hV.symm
    have hV9 : -65536 ≤ V ∧ V ≤ 2000000 := by omega
    have CM2 : Hid (∀ w, Calls Try.prog 18 #[.agg #[.int .i64 c0, .int .i64 c1, .int .i64 c2, .int .i64 c3, .int .i64 V, .int .i64 c5, .int .i64 c6, .int .i64 c7, .int .i64 c8, .int .i64 c9, .int .i64 c10]] w (Vw.TellsB (.bool false) w)) := Lib.hid (fun w => by have := CM.out ⟨c0, c1, c2, c3, V, c5, c6, c7, c8, c9, c10⟩ w; rw [HBAD.out] at this; exact this)
    clear hg hV HG CM
    go_wp2_with fail
    refine (CM2.out _).mono ?_
    rintro e w5 ⟨rfl, hb5⟩
    go_wp2_with fail
    refine (C0.out _).mono ?_
    rintro e w6 ⟨rfl, hb6⟩
    go_wp2
    go_ret
    exact ⟨rfl, step (HB2.out.setCell HSD.out _) (step hb5 hb6)⟩
  | 3, _ =>
    have hM : (h : Int) % 8 = 3 := hM
    have hM2 : (h : Int).tmod 8 = 3 := hM2
    
    obtain ⟨V, hV⟩ : ∃ V : Int, V = 201 + (n : Int) := ⟨_, rfl⟩
    have HBAD : Hid (Vw.mayC ⟨c0, c1, c2, V, c4, c5, c6, c7, c8, c9, c10⟩ = false) := Lib.hid (by refine Vw.mayC_bad (.inr (.inr (.inr (.inl ?_)))); dsimp only; omega)
    have qV : 201 + (n : Int) = V := hV.symm
    have hV9 : -65536 ≤ V ∧ V ≤ 2000000 := by omega
    have CM2 : Hid (∀ w, Calls Try.prog 18 #[.agg #[.int .i64 c0, .int .i64 c1, .int .i64 c2, .int .i64 V, .int .i64 c4, .int .i64 c5, .int .i64 c6, .int .i64 c7, .int .i64 c8, .int .i64 c9, .int .i64 c10]] w (Vw.TellsB (.bool false) w)) := Lib.hid (fun w => by have := CM.out ⟨c0, c1, c2, V, c4, c5, c6, c7, c8, c9, c10⟩ w; rw [HBAD.out] at this; exact this)
    clear hg hV HG CM
    go_wp2_with fail
    refine (CM2.out _).mono ?_
    rintro e w5 ⟨rfl, hb5⟩
    go_wp2_with fail
    refine (C0.out _).mono ?_
    rintro e w6 ⟨rfl, hb6⟩
    go_wp2
    go_ret
    exact ⟨rfl, step (HB2.out.setCell HSD.out _) (step hb5 hb6)⟩
  | 4, _ =>
    have hM : (h : Int) % 8 = 4 := hM
    have hM2 : (h : Int).tmod 8 = 4 := hM2
    
    obtain ⟨V, hV⟩ : ∃ V : Int, V = -1 := ⟨_, rfl⟩
    have HBAD : Hid (Vw.mayC ⟨c0, c1, c2, c3, c4, c5, c6, V, c8, c9, c10⟩ = false) := Lib.hid (by refine Vw.mayC_bad (.inr (.inr (.inr (.inr ?_)))); dsimp only; omega)
    have qV : -1 = V := hV.symm
    have hV9 : -65536 ≤ V ∧ V ≤ 2000000 := by omega
    have CM2 : Hid (∀ w, Calls Try.prog 18 #[.agg #[.int .i64 c0, .int .i64 c1, .int .i64 c2, .int .i64 c3, .int .i64 c4, .int .i64 c5, .int .i64 c6, .int .i64 V, .int .i64 c8, .int .i64 c9, .int .i64 c10]] w (Vw.TellsB (.bool false) w)) := Lib.hid (fun w => by have := CM.out ⟨c0, c1, c2, c3, c4, c5, c6, V, c8, c9, c10⟩ w; rw [HBAD.out] at this; exact this)
    clear hg hV HG CM
    go_wp2_with fail
    refine (CM2.out _).mono ?_
    rintro e w5 ⟨rfl, hb5⟩
    go_wp2_with fail
    refine (C0.out _).mono ?_
    rintro e w6 ⟨rfl, hb6⟩
    go_wp2
    go_ret
    exact ⟨rfl, step (HB2.out.setCell HSD.out _) (step hb5 hb6)⟩
  | 5, _ =>
    have hM : (h : Int) % 8 = 5 := hM
    have hM2 : (h : Int).tmod 8 = 5 := hM2
    
    obtain ⟨V, hV⟩ : ∃ V : Int, V = -(n : Int) := ⟨_, rfl⟩
    have HBAD : Hid (Vw.mayC ⟨c0, c1, V, c3, c4, c5, c6, c7, c8, c9, c10⟩ = false) := Lib.hid (by refine Vw.mayC_ticks ?_; simp [Vw.ticksOf, Vw.tickF, Vw.withinF]; omega)
    have qV : -(n : Int) = V := hV.symm
    have hV9 : -65536 ≤ V ∧ V ≤ 2000000 := by omega
    have CM2 : Hid (∀ w, Calls Try.prog 18 #[.agg #[.int .i64 c0, .int .i64 c1, .int .i64 V, .int .i64 c3, .int .i64 c4, .int .i64 c5, .int .i64 c6, .int .i64 c7, .int .i64 c8, .int .i64 c9, .int .i64 c10]] w (Vw.TellsB (.bool false) w)) := Lib.hid (fun w => by have := CM.out ⟨c0, c1, V, c3, c4, c5, c6, c7, c8, c9, c10⟩ w; rw [HBAD.out] at this; exact this)
    clear hg hV HG CM
    go_wp2_with fail
    refine (CM2.out _).mono ?_
    rintro e w5 ⟨rfl, hb5⟩
    go_wp2_with fail
    refine (C0.out _).mono ?_
    rintro e w6 ⟨rfl, hb6⟩
    go_wp2
    go_ret
    exact ⟨rfl, step (HB2.out.setCell HSD.out _) (step hb5 hb6)⟩
  | 6, _ =>
    have hM : (h : Int) % 8 = 6 := hM
    have hM2 : (h : Int).tmod 8 = 6 := hM2
    
    obtain ⟨V, hV⟩ : ∃ V : Int, V = 1000001 + (n : Int) := ⟨_, rfl⟩
    have HBAD : Hid (Vw.mayC ⟨c0, c1, c2, c3, c4, c5, c6, c7, V, c9, c10⟩ = false) := Lib.hid (by refine Vw.mayC_ticks ?_; simp [Vw.ticksOf, Vw.tickF, Vw.withinF]; omega)
    have qV : 1000001 + (n : Int) = V := hV.symm
    have hV9 : -65536 ≤ V ∧ V ≤ 2000000 := by omega
    have CM2 : Hid (∀ w, Calls Try.prog 18 #[.agg #[.int .i64 c0, .int .i64 c1, .int .i64 c2, .int .i64 c3, .int .i64 c4, .int .i64 c5, .int .i64 c6, .int .i64 c7, .int .i64 V, .int .i64 c9, .int .i64 c10]] w (Vw.TellsB (.bool false) w)) := Lib.hid (fun w => by have := CM.out ⟨c0, c1, c2, c3, c4, c5, c6, c7, V, c9, c10⟩ w; rw [HBAD.out] at this; exact this)
    clear hg hV HG CM
    go_wp2_with fail
    refine (CM2.out _).mono ?_
    rintro e w5 ⟨rfl, hb5⟩
    go_wp2_with fail
    refine (C0.out _).mono ?_
    rintro e w6 ⟨rfl, hb6⟩
    go_wp2
    go_ret
    exact ⟨rfl, step (HB2.out.setCell HSD.out _) (step hb5 hb6)⟩
  | 7, _ =>
    have hM : (h : Int) % 8 = 7 := hM
    have hM2 : (h : Int).tmod 8 = 7 := hM2
    
    obtain ⟨V, hV⟩ : ∃ V : Int, V = 0 := ⟨_, rfl⟩
    have HBAD : Hid (Vw.mayC ⟨c0, c1, c2, c3, c4, c5, c6, c7, c8, c9, V⟩ = false) := Lib.hid (by refine Vw.mayC_ticks ?_; simp [Vw.ticksOf, Vw.tickF, Vw.withinF]; omega)
    have qV : 0 = V := hV.symm
    have hV9 : -65536 ≤ V ∧ V ≤ 2000000 := by omega
    have CM2 : Hid (∀ w, Calls Try.prog 18 #[.agg #[.int .i64 c0, .int .i64 c1, .int .i64 c2, .int .i64 c3, .int .i64 c4, .int .i64 c5, .int .i64 c6, .int .i64 c7, .int .i64 c8, .int .i64 c9, .int .i64 V]] w (Vw.TellsB (.bool false) w)) := Lib.hid (fun w => by have := CM.out ⟨c0, c1, c2, c3, c4, c5, c6, c7, c8, c9, V⟩ w; rw [HBAD.out] at this; exact this)
    clear hg hV HG CM
    go_wp2_with fail
    refine (CM2.out _).mono ?_
    rintro e w5 ⟨rfl, hb5⟩
    go_wp2_with fail
    refine (C0.out _).mono ?_
    rintro e w6 ⟨rfl, hb6⟩
    go_wp2
    go_ret
    exact ⟨rfl, step (HB2.out.setCell HSD.out _) (step hb5 hb6)⟩

/-! ### THE ROW's STEP -/
set_option maxRecDepth 100000 in
theorem lifted (os : Os) (started : os.Started) (H : Type) (enc : TypeId × Value → H) :
    ReturnsInHanded {} Try.checked os 7 .any (Rows.viewConfsSpec.pre6 enc Try.prog Try.f7 Rows.viewConfsRow.domain false) (Rows.viewConfsSpec.post enc Try.prog Try.f7 false true false false) := by
  refine returnsInHanded_of_change (C := Try.checked) own started (by kernel_rfl) Try.func7
    (ChangeSpec.witness6 (enc := enc) (C := Try.checked) false ⟨#[], #[.slice none 0 0, .int .u8 0, .int .u16 0], []⟩ 8 (by kernel_rfl) (by kernel_rfl) (by kernel_rfl) (by kernel_rfl)) ?_
  intro W base args ds gs before hval0 hW hcnd _
  have hval : ∀ (j : Nat) t v, Try.f7.params[j]? = some t → args[j]? = some v → Value.okWide Try.prog W .any base t v := hval0
  have hW' := hW
  obtain ⟨p, q, hA0, hV, rfl, hfz, hnd⟩ := hW
  have hA : DataW.TrodAll enc Try.prog W 0 (fun _ => true) true Try.f7.params.toList args.toList ds p := hA0
  rw [Try.params7] at hA hval
  obtain ⟨v0, vs0, d0, ds0, p0, q0, hargs, rfl, rfl, h0, r0⟩ := trodAll_cons hA
  obtain ⟨v1, vs1, d1, ds1, p1, q1, rfl, rfl, rfl, h1, r1⟩ := trodAll_cons r0
  obtain ⟨v2, vs2, d2, ds2, p2, q2, rfl, rfl, rfl, h2, r2⟩ := trodAll_cons r1
  obtain ⟨rfl, rfl, rfl⟩ := trodAll_nil r2
  obtain rfl : args = #[v0, v1, v2] := by cases args; simp_all
  obtain ⟨rfl, rfl⟩ := trodVars_none hV
  obtain ⟨a0, len0, cap0, rfl⟩ := okWide_slice Try.underlying38 (hval 0 38 v0 rfl rfl)
  have k0 := h0
  have lt0 : ∀ x ∈ p0, x.block < W.heap.size := by obtain ⟨m, hm⟩ := k0; exact DataW.trod_lt m _ _ _ hm
  obtain ⟨z0, w0⟩ : ∃ zs, IsRow .u8 W a0 len0 cap0 zs := by
    obtain ⟨fuel, hf⟩ := h0
    rcases open_ints Try.underlying38 Try.underlying5 (by kernel_rfl) hf with ⟨hcs, _⟩ | ⟨x, l, c, zs, hcs, _, hl, hm, hz, _, hcell, hwz⟩
    · simp [Value.cells] at hcs
      obtain ⟨rfl, rfl, rfl⟩ := hcs
      exact ⟨[], .inl ⟨rfl, rfl, rfl, rfl⟩⟩
    · simp [Value.cells] at hcs
      obtain ⟨rfl, rfl, rfl⟩ := hcs
      exact ⟨zs, .inr ⟨_, rfl, hl, hm, by simpa using hz, hcell, hwz⟩⟩
  obtain ⟨a1, rfl, rfl, rfl, w1⟩ := open_int Try.underlying5 (hval 1 5 v1 rfl rfl) h1
  obtain ⟨a2, rfl, rfl, rfl, w2⟩ := open_int Try.underlying36 (hval 2 36 v2 rfl rfl) h2
  clear hA0 hval0
  refine (walk a0 len0 cap0 z0 a1 a2 W w0 w1 w2).mono fun e W' ⟨he, bel⟩ => ?_
  subst he
  exact ⟨_, rfl, _, _, _, [], _, [], hW', trodAll_mk1 (shut_bool Try.underlying4 _), (trodAll_cons_mk (Below.trod laidOut (by kernel_rfl) (of_decide_eq_true (by kernel_rfl)) k0 bel lt0) (trodAll_cons_mk (shut_int Try.underlying5 w1) (trodAll_cons_mk (shut_int Try.underlying36 w2) trodAll_mk0))), rfl, bel.frame _, fun h => by cases h⟩

theorem over : Rows.viewConfsRow.holds Try.pinned (OpenSpec.ofChange Rows.viewConfsSpec) :=
  OpenClaim.holds_of_wide 7 Try.f7 rfl rfl rfl rfl rfl rfl rfl ⟨rfl, rfl, rfl, rfl, rfl⟩ rfl rfl rfl rfl rfl (by kernel_rfl) Try.func7 (by kernel_rfl)
    (of_decide_eq_true (by kernel_rfl)) (by unfold Func.isWrapper; first | (rw [if_pos (by decide +kernel)]; kernel_rfl) | (rw [if_neg (by decide +kernel)]; exact ⟨rfl, rfl⟩))
    (fun os started H enc _ => lifted os started H enc)

/-- THE STATEMENT -/
theorem proved : Rows.ViewConfsSaid := over
end Go.Proofs.Ytdocoflcelhmbaa.viewConfs
