/- Contracts: MayConf of package view, and of the document. -/
import Derived.Test.YtdocoflcelhmbaaVewB
import Derived.Test.YtdocoflcelhmbaaHeapG
import Derived.Deep.Cut
import Derived.Deep.CutBlock
import Derived.Deep.DeepCutAuto
set_option linter.unusedVariables false
set_option maxRecDepth 8000
set_option linter.unusedSimpArgs false
namespace Go.Proofs.Ytdocoflcelhmbaa
open Go.RowKit
namespace Vw

theorem all_take7 {l : List Int} {p : Int → Bool} {j : Nat} (h : j < l.length) : (l.take (j + 1)).all p = ((l.take j).all p && p (l.getD j 0)) := by
  rw [List.take_succ_eq_append_getElem h, List.all_append]
  simp [List.getD, List.getElem?_eq_getElem h]
theorem all_false7 {l : List Int} {p : Int → Bool} {j : Nat} (h : j < l.length) (hp : p (l.getD j 0) = false) : l.all p = false := by
  rw [List.all_eq_false]
  have e : l.getD j 0 = l[j] := by simp [List.getD, List.getElem?_eq_getElem h]
  exact ⟨l[j], List.getElem_mem h, by rw [← e, hp]; simp⟩

theorem mayC_ticks {c : ConfV} (h : (ticksOf c).all tickF = false) : mayC c = false := by unfold mayC; rw [h]; rfl
theorem mayC_rest {c : ConfV} (h : (ticksOf c).all tickF = true) : mayC c = (someF c.reps && (c.reps % 2 == 1) && withinF c.clients 1 8 && withinF c.wait 0 1000000 && withinF c.rho 0 200 && decide (c.base ≤ c.cap)) := by unfold mayC; rw [h]; rfl

set_option maxHeartbeats 2000000 in
theorem MayConf_any (c : ConfV) (w : World) : Calls Try.prog 18 #[confVal c] w (TellsB (.bool (mayC c)) w) := by
  obtain ⟨c0, c1, c2, c3, c4, c5, c6, c7, c8, c9, c10⟩ := c
  unfold confVal
  dsimp only
  have HBX := Lib.hid (newAlloc w (.cells #[.int .i64 c0, .int .i64 c1, .int .i64 c2, .int .i64 c3, .int .i64 c4, .int .i64 c5, .int .i64 c6, .int .i64 c7, .int .i64 c8, .int .i64 c9, .int .i64 c10] 23))
  have HC0 := Lib.hid (Hp.at_new w (.cells #[.int .i64 c0, .int .i64 c1, .int .i64 c2, .int .i64 c3, .int .i64 c4, .int .i64 c5, .int .i64 c6, .int .i64 c7, .int .i64 c8, .int .i64 c9, .int .i64 c10] 23) _ rfl)
  go_enter Try.func18, Try.ntmps18
  go_upto_region 2 with fail
  have HB : Hid (Below w.heap.size w ((w.alloc (.cells #[.int .i64 c0, .int .i64 c1, .int .i64 c2, .int .i64 c3, .int .i64 c4, .int .i64 c5, .int .i64 c6, .int .i64 c7, .int .i64 c8, .int .i64 c9, .int .i64 c10] 23)).alloc (.cells #[.int .i64 c2, .int .i64 c4, .int .i64 c5, .int .i64 c6, .int .i64 c8, .int .i64 c9, .int .i64 c10] 3))) := Lib.hid (stepAlloc HBX.out _)
  have HC1 : Hid (Hp.At ((w.alloc (.cells #[.int .i64 c0, .int .i64 c1, .int .i64 c2, .int .i64 c3, .int .i64 c4, .int .i64 c5, .int .i64 c6, .int .i64 c7, .int .i64 c8, .int .i64 c9, .int .i64 c10] 23)).alloc (.cells #[.int .i64 c2, .int .i64 c4, .int .i64 c5, .int .i64 c6, .int .i64 c8, .int .i64 c9, .int .i64 c10] 3)) w.heap.size (.cells #[.int .i64 c0, .int .i64 c1, .int .i64 c2, .int .i64 c3, .int .i64 c4, .int .i64 c5, .int .i64 c6, .int .i64 c7, .int .i64 c8, .int .i64 c9, .int .i64 c10] 23)) := Lib.hid (HC0.out.later (newAlloc _ _))
  have HS : Hid (Hp.At ((w.alloc (.cells #[.int .i64 c0, .int .i64 c1, .int .i64 c2, .int .i64 c3, .int .i64 c4, .int .i64 c5, .int .i64 c6, .int .i64 c7, .int .i64 c8, .int .i64 c9, .int .i64 c10] 23)).alloc (.cells #[.int .i64 c2, .int .i64 c4, .int .i64 c5, .int .i64 c6, .int .i64 c8, .int .i64 c9, .int .i64 c10] 3)) (w.heap.size + 1) (.cells #[.int .i64 c2, .int .i64 c4, .int .i64 c5, .int .i64 c6, .int .i64 c8, .int .i64 c9, .int .i64 c10] 3)) := Lib.hid (Hp.at_new _ _ _ (by simp))
  generalize hW : (w.alloc (.cells #[.int .i64 c0, .int .i64 c1, .int .i64 c2, .int .i64 c3, .int .i64 c4, .int .i64 c5, .int .i64 c6, .int .i64 c7, .int .i64 c8, .int .i64 c9, .int .i64 c10] 23)).alloc (.cells #[.int .i64 c2, .int .i64 c4, .int .i64 c5, .int .i64 c6, .int .i64 c8, .int .i64 c9, .int .i64 c10] 3) = W at HB HC1 HS ⊢
  clear hW HBX HC0
  obtain ⟨ts, hts⟩ : ∃ ts, ts = [c2, c4, c5, c6, c8, c9, c10] := ⟨_, rfl⟩
  have HL : Hid (ts.length = 7) := Lib.hid (by rw [hts]; rfl)
  have HCELL : Hid (∀ j : Nat, j < 7 → W.cell? ⟨w.heap.size + 1, j, none⟩ = some (.int .i64 (ts.getD j 0))) := Lib.hid (by
    intro j hj
    rw [HS.out.cell j, hts]
    match j, hj with
    | 0, _ | 1, _ | 2, _ | 3, _ | 4, _ | 5, _ | 6, _ => rfl)
  have HT : Hid (ticksOf ⟨c0, c1, c2, c3, c4, c5, c6, c7, c8, c9, c10⟩ = ts) := Lib.hid (by rw [hts]; rfl)
  clear hts HS
  go_loop [21] (fun i => ∃ j : Nat, j ≤ 7 ∧ i = .int .i64 (j : Int) ∧ Hid ((ts.take j).all tickF = true)) (fun i => 7 - (intOf i).toNat)
  case atStart => exact ⟨0, by omega, rfl, Lib.hid rfl⟩
  case round =>
    obtain ⟨j, hj, rfl, HA⟩ := hrel
    by_cases hlt : j < 7
    · have q := HCELL.out j hlt
      have HE := Lib.hid (all_take7 (p := tickF) (l := ts) (j := j) (by rw [HL.out]; exact hlt))
      have HF := Lib.hid (all_false7 (p := tickF) (l := ts) (j := j) (by rw [HL.out]; exact hlt))
      have CW := Lib.hid (fun w => within_any (ts.getD j 0) 1 1000000 w)
      generalize ts.getD j 0 = x at q HE HF CW
      cases hx : tickF x
      · have HX := Lib.hid hx
        unfold tickF at hx
        rw [hx] at CW
        clear HE hx
        go_wp2_with (go_at_call 26; refine (CW.out _).mono ?_; rintro e w' ⟨rfl, rfl⟩)
        go_ret
        exact ⟨by rw [mayC_ticks (by rw [HT.out]; exact HF.out HX.out)]; rfl, HB.out⟩
      · have HX := Lib.hid hx
        unfold tickF at hx
        rw [hx] at CW
        clear HF hx
        go_wp2_with (go_at_call 26; refine (CW.out _).mono ?_; rintro e w' ⟨rfl, rfl⟩)
        go_round
        case rel => exact ⟨j + 1, by omega, by first | rfl | go_num, Lib.hid (by rw [HE.out, HA.out, HX.out]; rfl)⟩
        case measure => simp [intOf] <;> omega
    · obtain rfl : j = 7 := by omega
      have HR : Hid (mayC ⟨c0, c1, c2, c3, c4, c5, c6, c7, c8, c9, c10⟩ = (someF c0 && (c0 % 2 == 1) && withinF c1 1 8 && withinF c7 0 1000000 && withinF c3 0 200 && decide (c4 ≤ c5))) := Lib.hid (mayC_rest (by
        have := HA.out
        rw [HT.out]
        rw [List.take_of_length_le (by rw [HL.out]; omega)] at this
        exact this))
      have hc := HC1.out
      have k0 := hc.cell 0
      have k1 := hc.cell 1
      have k3 := hc.cell 3
      have k4 := hc.cell 4
      have k5 := hc.cell 5
      have k7 := hc.cell 7
      simp only [List.getElem?_toArray, List.getElem?_cons_zero, List.getElem?_cons_succ] at k0 k1 k3 k4 k5 k7
      clear hc HA HT HL HCELL HC1
      have CA := Lib.hid (fun w => areReplicas_any c0 w)
      have CC := Lib.hid (fun w => within_any c1 1 8 w)
      have CT := Lib.hid (fun w => within_any c7 0 1000000 w)
      have CR := Lib.hid (fun w => within_any c3 0 200 w)
      cases g1 : someF c0
      · rw [g1] at CA
        have HR := Lib.hid (show mayC ⟨c0, c1, c2, c3, c4, c5, c6, c7, c8, c9, c10⟩ = false by rw [HR.out, g1]; rfl)
        clear g1
        go_wp2_with fail
        refine (CA.out _).mono ?_
        rintro e w' ⟨rfl, rfl⟩
        go_wp2
        go_ret
        exact ⟨by rw [HR.out]; rfl, HB.out⟩
      obtain ⟨n1, n7⟩ := someF_iff.1 g1
      rw [g1] at CA HR
      clear g1
      have e2 : IntKind.i64.wrap (c0 % 2) = c0 % 2 := wrap_in _ (by omega) (by omega)
      cases g2 : (c0 % 2 == 1)
      · have HR := Lib.hid (show mayC ⟨c0, c1, c2, c3, c4, c5, c6, c7, c8, c9, c10⟩ = false by rw [HR.out, g2]; rfl)
        go_wp2_with fail
        refine (CA.out _).mono ?_
        rintro e w' ⟨rfl, rfl⟩
        go_wp2
        go_ret
        exact ⟨by rw [HR.out]; rfl, HB.out⟩
      cases g : withinF c1 1 8
      · rw [g] at CC
        have HR := Lib.hid (show mayC ⟨c0, c1, c2, c3, c4, c5, c6, c7, c8, c9, c10⟩ = false by rw [HR.out, g]; simp)
        clear g
        go_wp2_with fail
        refine (CA.out _).mono ?_
        rintro e w' ⟨rfl, rfl⟩
        go_wp2_with fail
        refine (CC.out _).mono ?_
        rintro e w' ⟨rfl, rfl⟩
        go_wp2
        go_ret
        exact ⟨by rw [HR.out]; rfl, HB.out⟩
      rw [g] at CC HR
      clear g
      cases g : withinF c7 0 1000000
      · rw [g] at CT
        have HR := Lib.hid (show mayC ⟨c0, c1, c2, c3, c4, c5, c6, c7, c8, c9, c10⟩ = false by rw [HR.out, g]; simp)
        clear g
        go_wp2_with fail
        refine (CA.out _).mono ?_
        rintro e w' ⟨rfl, rfl⟩
        go_wp2_with fail
        refine (CC.out _).mono ?_
        rintro e w' ⟨rfl, rfl⟩
        go_wp2_with fail
        refine (CT.out _).mono ?_
        rintro e w' ⟨rfl, rfl⟩
        go_wp2
        go_ret
        exact ⟨by rw [HR.out]; rfl, HB.out⟩
      rw [g] at CT HR
      clear g
      cases g : withinF c3 0 200
      · rw [g] at CR
        have HR := Lib.hid (show mayC ⟨c0, c1, c2, c3, c4, c5, c6, c7, c8, c9, c10⟩ = false by rw [HR.out, g]; simp)
        clear g
        go_wp2_with fail
        refine (CA.out _).mono ?_
        rintro e w' ⟨rfl, rfl⟩
        go_wp2_with fail
        refine (CC.out _).mono ?_
        rintro e w' ⟨rfl, rfl⟩
        go_wp2_with fail
        refine (CT.out _).mono ?_
        rintro e w' ⟨rfl, rfl⟩
        go_wp2_with fail
        refine (CR.out _).mono ?_
        rintro e w' ⟨rfl, rfl⟩
        go_wp2
        go_ret
        exact ⟨by rw [HR.out]; rfl, HB.out⟩
      rw [g] at CR HR
      clear g
      have HR := Lib.hid (show mayC ⟨c0, c1, c2, c3, c4, c5, c6, c7, c8, c9, c10⟩ = decide (c4 ≤ c5) by rw [HR.out, g2]; simp)
      go_wp2_with fail
      refine (CA.out _).mono ?_
      rintro e w' ⟨rfl, rfl⟩
      go_wp2_with fail
      refine (CC.out _).mono ?_
      rintro e w' ⟨rfl, rfl⟩
      go_wp2_with fail
      refine (CT.out _).mono ?_
      rintro e w' ⟨rfl, rfl⟩
      go_wp2_with fail
      refine (CR.out _).mono ?_
      rintro e w' ⟨rfl, rfl⟩
      go_wp2
      go_ret
      exact ⟨by rw [HR.out]; rfl, HB.out⟩

set_option maxHeartbeats 4000000 in
theorem RefMayConf_any (c : ConfV) (w : World) : Calls Try.prog 19 #[confVal c] w (TellsB (.bool (mayC c)) w) := by
  obtain ⟨c0, c1, c2, c3, c4, c5, c6, c7, c8, c9, c10⟩ := c
  unfold confVal
  dsimp only
  have HB := Lib.hid (newAlloc w (.cells #[.int .i64 c0, .int .i64 c1, .int .i64 c2, .int .i64 c3, .int .i64 c4, .int .i64 c5, .int .i64 c6, .int .i64 c7, .int .i64 c8, .int .i64 c9, .int .i64 c10] 23))
  have hc := Hp.at_new w (.cells #[.int .i64 c0, .int .i64 c1, .int .i64 c2, .int .i64 c3, .int .i64 c4, .int .i64 c5, .int .i64 c6, .int .i64 c7, .int .i64 c8, .int .i64 c9, .int .i64 c10] 23) _ rfl
  have HR := Lib.hid (show mayC ⟨c0, c1, c2, c3, c4, c5, c6, c7, c8, c9, c10⟩ = ((tickF c2 && (tickF c4 && (tickF c5 && (tickF c6 && (tickF c8 && (tickF c9 && (tickF c10 && true))))))) && (someF c0 && (c0 % 2 == 1) && withinF c1 1 8 && withinF c7 0 1000000 && withinF c3 0 200 && decide (c4 ≤ c5))) from rfl)
  have k0 := hc.cell 0
  have k1 := hc.cell 1
  have k2 := hc.cell 2
  have k3 := hc.cell 3
  have k4 := hc.cell 4
  have k5 := hc.cell 5
  have k6 := hc.cell 6
  have k7 := hc.cell 7
  have k8 := hc.cell 8
  have k9 := hc.cell 9
  have k10 := hc.cell 10
  simp only [List.getElem?_toArray, List.getElem?_cons_zero, List.getElem?_cons_succ] at k0 k1 k2 k3 k4 k5 k6 k7 k8 k9 k10
  clear hc
  have C2 := Lib.hid (fun w => ticks_any c2 1 w)
  have C4 := Lib.hid (fun w => ticks_any c4 1 w)
  have C5 := Lib.hid (fun w => ticks_any c5 1 w)
  have C6 := Lib.hid (fun w => ticks_any c6 1 w)
  have C8 := Lib.hid (fun w => ticks_any c8 1 w)
  have C9 := Lib.hid (fun w => ticks_any c9 1 w)
  have C10 := Lib.hid (fun w => ticks_any c10 1 w)
  have C7 := Lib.hid (fun w => ticks_any c7 0 w)
  by_cases h0 : c0 = 1 ∨ c0 = 3 ∨ c0 = 5 ∨ c0 = 7
  case neg =>
    have HR := Lib.hid (show mayC ⟨c0, c1, c2, c3, c4, c5, c6, c7, c8, c9, c10⟩ = false by rw [HR.out, show (someF c0 && (c0 % 2 == 1)) = false by simp [someF, withinF]; omega]; simp)
    have d1 : (c0 != 1) = true := by simp; omega
    have d3 : (c0 != 3) = true := by simp; omega
    have d5 : (c0 != 5) = true := by simp; omega
    have d7 : (c0 != 7) = true := by simp; omega
    clear h0
    go_enter Try.func19, Try.ntmps19
    go_wp2
    go_ret
    exact ⟨by rw [HR.out]; first | rfl | (simp; omega), HB.out⟩
  have HR := Lib.hid (show mayC ⟨c0, c1, c2, c3, c4, c5, c6, c7, c8, c9, c10⟩ = ((tickF c2 && (tickF c4 && (tickF c5 && (tickF c6 && (tickF c8 && (tickF c9 && (tickF c10 && true))))))) && (withinF c1 1 8 && withinF c7 0 1000000 && withinF c3 0 200 && decide (c4 ≤ c5))) by rw [HR.out, show someF c0 = true by simp [someF, withinF]; omega, show (c0 % 2 == 1) = true by simp; omega]; rfl)
  by_cases a1 : c1 < 1
  · have HR := Lib.hid (show mayC ⟨c0, c1, c2, c3, c4, c5, c6, c7, c8, c9, c10⟩ = false by rw [HR.out, show withinF c1 1 8 = false by simp [withinF]; omega]; simp)
    rcases h0 with rfl | rfl | rfl | rfl
    all_goals
      go_enter Try.func19, Try.ntmps19
      go_wp2
      go_ret
      exact ⟨by rw [HR.out]; first | rfl | (simp; omega), HB.out⟩
  by_cases a2 : 8 < c1
  · have HR := Lib.hid (show mayC ⟨c0, c1, c2, c3, c4, c5, c6, c7, c8, c9, c10⟩ = false by rw [HR.out, show withinF c1 1 8 = false by simp [withinF]; omega]; simp)
    rcases h0 with rfl | rfl | rfl | rfl
    all_goals
      go_enter Try.func19, Try.ntmps19
      go_wp2
      go_ret
      exact ⟨by rw [HR.out]; first | rfl | (simp; omega), HB.out⟩
  rw [show withinF c1 1 8 = true by simp [withinF]; omega, Bool.true_and] at HR
  cases g2 : withinF c2 1 1000000
  · rw [g2] at C2
    have HR := Lib.hid (show mayC ⟨c0, c1, c2, c3, c4, c5, c6, c7, c8, c9, c10⟩ = false by rw [HR.out, show tickF c2 = false from g2]; simp)
    clear g2
    rcases h0 with rfl | rfl | rfl | rfl
    all_goals
      go_enter Try.func19, Try.ntmps19
      go_wp2_with fail
      refine (C2.out _).mono ?_
      rintro e w' ⟨rfl, rfl⟩
      go_wp2
      go_ret
      exact ⟨by rw [HR.out]; first | rfl | (simp; omega), HB.out⟩
  rw [g2] at C2
  rw [show tickF c2 = true from g2, Bool.true_and] at HR
  clear g2
  cases g4 : withinF c4 1 1000000
  · rw [g4] at C4
    have HR := Lib.hid (show mayC ⟨c0, c1, c2, c3, c4, c5, c6, c7, c8, c9, c10⟩ = false by rw [HR.out, show tickF c4 = false from g4]; simp)
    clear g4
    rcases h0 with rfl | rfl | rfl | rfl
    all_goals
      go_enter Try.func19, Try.ntmps19
      go_wp2_with fail
      refine (C2.out _).mono ?_
      rintro e w' ⟨rfl, rfl⟩
      go_wp2_with fail
      refine (C4.out _).mono ?_
      rintro e w' ⟨rfl, rfl⟩
      go_wp2
      go_ret
      exact ⟨by rw [HR.out]; first | rfl | (simp; omega), HB.out⟩
  rw [g4] at C4
  rw [show tickF c4 = true from g4, Bool.true_and] at HR
  clear g4
  cases g5 : withinF c5 1 1000000
  · rw [g5] at C5
    have HR := Lib.hid (show mayC ⟨c0, c1, c2, c3, c4, c5, c6, c7, c8, c9, c10⟩ = false by rw [HR.out, show tickF c5 = false from g5]; simp)
    clear g5
    rcases h0 with rfl | rfl | rfl | rfl
    all_goals
      go_enter Try.func19, Try.ntmps19
      go_wp2_with fail
      refine (C2.out _).mono ?_
      rintro e w' ⟨rfl, rfl⟩
      go_wp2_with fail
      refine (C4.out _).mono ?_
      rintro e w' ⟨rfl, rfl⟩
      go_wp2_with fail
      refine (C5.out _).mono ?_
      rintro e w' ⟨rfl, rfl⟩
      go_wp2
      go_ret
      exact ⟨by rw [HR.out]; first | rfl | (simp; omega), HB.out⟩
  rw [g5] at C5
  rw [show tickF c5 = true from g5, Bool.true_and] at HR
  clear g5
  cases g6 : withinF c6 1 1000000
  · rw [g6] at C6
    have HR := Lib.hid (show mayC ⟨c0, c1, c2, c3, c4, c5, c6, c7, c8, c9, c10⟩ = false by rw [HR.out, show tickF c6 = false from g6]; simp)
    clear g6
    rcases h0 with rfl | rfl | rfl | rfl
    all_goals
      go_enter Try.func19, Try.ntmps19
      go_wp2_with fail
      refine (C2.out _).mono ?_
      rintro e w' ⟨rfl, rfl⟩
      go_wp2_with fail
      refine (C4.out _).mono ?_
      rintro e w' ⟨rfl, rfl⟩
      go_wp2_with fail
      refine (C5.out _).mono ?_
      rintro e w' ⟨rfl, rfl⟩
      go_wp2_with fail
      refine (C6.out _).mono ?_
      rintro e w' ⟨rfl, rfl⟩
      go_wp2
      go_ret
      exact ⟨by rw [HR.out]; first | rfl | (simp; omega), HB.out⟩
  rw [g6] at C6
  rw [show tickF c6 = true from g6, Bool.true_and] at HR
  clear g6
  cases g8 : withinF c8 1 1000000
  · rw [g8] at C8
    have HR := Lib.hid (show mayC ⟨c0, c1, c2, c3, c4, c5, c6, c7, c8, c9, c10⟩ = false by rw [HR.out, show tickF c8 = false from g8]; simp)
    clear g8
    rcases h0 with rfl | rfl | rfl | rfl
    all_goals
      go_enter Try.func19, Try.ntmps19
      go_wp2_with fail
      refine (C2.out _).mono ?_
      rintro e w' ⟨rfl, rfl⟩
      go_wp2_with fail
      refine (C4.out _).mono ?_
      rintro e w' ⟨rfl, rfl⟩
      go_wp2_with fail
      refine (C5.out _).mono ?_
      rintro e w' ⟨rfl, rfl⟩
      go_wp2_with fail
      refine (C6.out _).mono ?_
      rintro e w' ⟨rfl, rfl⟩
      go_wp2_with fail
      refine (C8.out _).mono ?_
      rintro e w' ⟨rfl, rfl⟩
      go_wp2
      go_ret
      exact ⟨by rw [HR.out]; first | rfl | (simp; omega), HB.out⟩
  rw [g8] at C8
  rw [show tickF c8 = true from g8, Bool.true_and] at HR
  clear g8
  cases g9 : withinF c9 1 1000000
  · rw [g9] at C9
    have HR := Lib.hid (show mayC ⟨c0, c1, c2, c3, c4, c5, c6, c7, c8, c9, c10⟩ = false by rw [HR.out, show tickF c9 = false from g9]; simp)
    clear g9
    rcases h0 with rfl | rfl | rfl | rfl
    all_goals
      go_enter Try.func19, Try.ntmps19
      go_wp2_with fail
      refine (C2.out _).mono ?_
      rintro e w' ⟨rfl, rfl⟩
      go_wp2_with fail
      refine (C4.out _).mono ?_
      rintro e w' ⟨rfl, rfl⟩
      go_wp2_with fail
      refine (C5.out _).mono ?_
      rintro e w' ⟨rfl, rfl⟩
      go_wp2_with fail
      refine (C6.out _).mono ?_
      rintro e w' ⟨rfl, rfl⟩
      go_wp2_with fail
      refine (C8.out _).mono ?_
      rintro e w' ⟨rfl, rfl⟩
      go_wp2_with fail
      refine (C9.out _).mono ?_
      rintro e w' ⟨rfl, rfl⟩
      go_wp2
      go_ret
      exact ⟨by rw [HR.out]; first | rfl | (simp; omega), HB.out⟩
  rw [g9] at C9
  rw [show tickF c9 = true from g9, Bool.true_and] at HR
  clear g9
  cases g10 : withinF c10 1 1000000
  · rw [g10] at C10
    have HR := Lib.hid (show mayC ⟨c0, c1, c2, c3, c4, c5, c6, c7, c8, c9, c10⟩ = false by rw [HR.out, show tickF c10 = false from g10]; simp)
    clear g10
    rcases h0 with rfl | rfl | rfl | rfl
    all_goals
      go_enter Try.func19, Try.ntmps19
      go_wp2_with fail
      refine (C2.out _).mono ?_
      rintro e w' ⟨rfl, rfl⟩
      go_wp2_with fail
      refine (C4.out _).mono ?_
      rintro e w' ⟨rfl, rfl⟩
      go_wp2_with fail
      refine (C5.out _).mono ?_
      rintro e w' ⟨rfl, rfl⟩
      go_wp2_with fail
      refine (C6.out _).mono ?_
      rintro e w' ⟨rfl, rfl⟩
      go_wp2_with fail
      refine (C8.out _).mono ?_
      rintro e w' ⟨rfl, rfl⟩
      go_wp2_with fail
      refine (C9.out _).mono ?_
      rintro e w' ⟨rfl, rfl⟩
      go_wp2_with fail
      refine (C10.out _).mono ?_
      rintro e w' ⟨rfl, rfl⟩
      go_wp2
      go_ret
      exact ⟨by rw [HR.out]; first | rfl | (simp; omega), HB.out⟩
  rw [g10] at C10
  rw [show tickF c10 = true from g10, Bool.true_and] at HR
  clear g10
  cases g7 : withinF c7 0 1000000
  · rw [g7] at C7
    have HR := Lib.hid (show mayC ⟨c0, c1, c2, c3, c4, c5, c6, c7, c8, c9, c10⟩ = false by rw [HR.out, g7]; simp)
    clear g7
    rcases h0 with rfl | rfl | rfl | rfl
    all_goals
      go_enter Try.func19, Try.ntmps19
      go_wp2_with fail
      refine (C2.out _).mono ?_
      rintro e w' ⟨rfl, rfl⟩
      go_wp2_with fail
      refine (C4.out _).mono ?_
      rintro e w' ⟨rfl, rfl⟩
      go_wp2_with fail
      refine (C5.out _).mono ?_
      rintro e w' ⟨rfl, rfl⟩
      go_wp2_with fail
      refine (C6.out _).mono ?_
      rintro e w' ⟨rfl, rfl⟩
      go_wp2_with fail
      refine (C8.out _).mono ?_
      rintro e w' ⟨rfl, rfl⟩
      go_wp2_with fail
      refine (C9.out _).mono ?_
      rintro e w' ⟨rfl, rfl⟩
      go_wp2_with fail
      refine (C10.out _).mono ?_
      rintro e w' ⟨rfl, rfl⟩
      go_wp2_with fail
      refine (C7.out _).mono ?_
      rintro e w' ⟨rfl, rfl⟩
      go_wp2
      go_ret
      exact ⟨by rw [HR.out]; first | rfl | (simp; omega), HB.out⟩
  rw [g7] at C7
  rw [g7] at HR
  clear g7
  by_cases b1 : c4 ≤ c5
  case neg =>
    have HR := Lib.hid (show mayC ⟨c0, c1, c2, c3, c4, c5, c6, c7, c8, c9, c10⟩ = false by rw [HR.out, decide_eq_false b1]; simp)
    have d : decide (c4 ≤ c5) = false := by simpa using b1
    rcases h0 with rfl | rfl | rfl | rfl
    all_goals
      go_enter Try.func19, Try.ntmps19
      go_wp2_with fail
      refine (C2.out _).mono ?_
      rintro e w' ⟨rfl, rfl⟩
      go_wp2_with fail
      refine (C4.out _).mono ?_
      rintro e w' ⟨rfl, rfl⟩
      go_wp2_with fail
      refine (C5.out _).mono ?_
      rintro e w' ⟨rfl, rfl⟩
      go_wp2_with fail
      refine (C6.out _).mono ?_
      rintro e w' ⟨rfl, rfl⟩
      go_wp2_with fail
      refine (C8.out _).mono ?_
      rintro e w' ⟨rfl, rfl⟩
      go_wp2_with fail
      refine (C9.out _).mono ?_
      rintro e w' ⟨rfl, rfl⟩
      go_wp2_with fail
      refine (C10.out _).mono ?_
      rintro e w' ⟨rfl, rfl⟩
      go_wp2_with fail
      refine (C7.out _).mono ?_
      rintro e w' ⟨rfl, rfl⟩
      go_wp2
      go_ret
      exact ⟨by rw [HR.out]; first | rfl | (simp; omega), HB.out⟩
  by_cases b2 : 0 ≤ c3
  case neg =>
    have HR := Lib.hid (show mayC ⟨c0, c1, c2, c3, c4, c5, c6, c7, c8, c9, c10⟩ = false by rw [HR.out, show withinF c3 0 200 = false by simp [withinF]; omega]; simp)
    rcases h0 with rfl | rfl | rfl | rfl
    all_goals
      go_enter Try.func19, Try.ntmps19
      go_wp2_with fail
      refine (C2.out _).mono ?_
      rintro e w' ⟨rfl, rfl⟩
      go_wp2_with fail
      refine (C4.out _).mono ?_
      rintro e w' ⟨rfl, rfl⟩
      go_wp2_with fail
      refine (C5.out _).mono ?_
      rintro e w' ⟨rfl, rfl⟩
      go_wp2_with fail
      refine (C6.out _).mono ?_
      rintro e w' ⟨rfl, rfl⟩
      go_wp2_with fail
      refine (C8.out _).mono ?_
      rintro e w' ⟨rfl, rfl⟩
      go_wp2_with fail
      refine (C9.out _).mono ?_
      rintro e w' ⟨rfl, rfl⟩
      go_wp2_with fail
      refine (C10.out _).mono ?_
      rintro e w' ⟨rfl, rfl⟩
      go_wp2_with fail
      refine (C7.out _).mono ?_
      rintro e w' ⟨rfl, rfl⟩
      go_wp2
      go_ret
      exact ⟨by rw [HR.out]; first | rfl | (simp; omega), HB.out⟩
  by_cases b3 : c3 ≤ 200
  case neg =>
    have HR := Lib.hid (show mayC ⟨c0, c1, c2, c3, c4, c5, c6, c7, c8, c9, c10⟩ = false by rw [HR.out, show withinF c3 0 200 = false by simp [withinF]; omega]; simp)
    rcases h0 with rfl | rfl | rfl | rfl
    all_goals
      go_enter Try.func19, Try.ntmps19
      go_wp2_with fail
      refine (C2.out _).mono ?_
      rintro e w' ⟨rfl, rfl⟩
      go_wp2_with fail
      refine (C4.out _).mono ?_
      rintro e w' ⟨rfl, rfl⟩
      go_wp2_with fail
      refine (C5.out _).mono ?_
      rintro e w' ⟨rfl, rfl⟩
      go_wp2_with fail
      refine (C6.out _).mono ?_
      rintro e w' ⟨rfl, rfl⟩
      go_wp2_with fail
      refine (C8.out _).mono ?_
      rintro e w' ⟨rfl, rfl⟩
      go_wp2_with fail
      refine (C9.out _).mono ?_
      rintro e w' ⟨rfl, rfl⟩
      go_wp2_with fail
      refine (C10.out _).mono ?_
      rintro e w' ⟨rfl, rfl⟩
      go_wp2_with fail
      refine (C7.out _).mono ?_
      rintro e w' ⟨rfl, rfl⟩
      go_wp2
      go_ret
      exact ⟨by rw [HR.out]; first | rfl | (simp; omega), HB.out⟩
  have HR := Lib.hid (show mayC ⟨c0, c1, c2, c3, c4, c5, c6, c7, c8, c9, c10⟩ = true by rw [HR.out, show withinF c3 0 200 = true by simp [withinF]; omega, decide_eq_true b1]; simp)
  rcases h0 with rfl | rfl | rfl | rfl
  all_goals
    go_enter Try.func19, Try.ntmps19
    go_wp2_with fail
    refine (C2.out _).mono ?_
    rintro e w' ⟨rfl, rfl⟩
    go_wp2_with fail
    refine (C4.out _).mono ?_
    rintro e w' ⟨rfl, rfl⟩
    go_wp2_with fail
    refine (C5.out _).mono ?_
    rintro e w' ⟨rfl, rfl⟩
    go_wp2_with fail
    refine (C6.out _).mono ?_
    rintro e w' ⟨rfl, rfl⟩
    go_wp2_with fail
    refine (C8.out _).mono ?_
    rintro e w' ⟨rfl, rfl⟩
    go_wp2_with fail
    refine (C9.out _).mono ?_
    rintro e w' ⟨rfl, rfl⟩
    go_wp2_with fail
    refine (C10.out _).mono ?_
    rintro e w' ⟨rfl, rfl⟩
    go_wp2_with fail
    refine (C7.out _).mono ?_
    rintro e w' ⟨rfl, rfl⟩
    go_wp2
    go_ret
    exact ⟨by rw [HR.out]; first | rfl | (simp; omega), HB.out⟩
end Vw
end Go.Proofs.Ytdocoflcelhmbaa
