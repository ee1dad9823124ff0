/- PROVED: the statement MemoKeeps of layer 9: for every input that can be read, the law returns true and leaves its arguments as they were. No condition. -/
import Derived.Test.YtfkpgndbohoogaaRows
import Derived.Test.YtfkpgndbohoogaaP8
import Derived.WalkKit
import Derived.ProofKit
import Derived.OpenShut
import Derived.ShutString
import Derived.ChangeOld
import Derived.Below
import Derived.Deep.Cut
import Derived.Deep.CutBlock
import Derived.Deep.DeepCutAuto
namespace Go.Proofs.Ytfkpgndbohoogaa.memoKeeps
open Go.ChangeShapes Go.WideShapes Go.ChangeAt Go.RowKit
open Go.ChangeMaps (open_string shut_string)
open Go.Sort (grow)
set_option linter.unusedVariables false

theorem own : ownKnob Try.prog.godebug = none := by kernel_rfl
theorem laidOut : laidOutB Try.prog = true := by kernel_rfl

/-! ### STEP 1: THE WALK -/
set_option maxRecDepth 100000 in
set_option maxHeartbeats 4000000 in
theorem walk (a0 : List Cm.Act9 × Value) (w : World) (w0 : Cm.act9OkA w a0) :
    Calls Try.prog 5 #[Cm.act9A a0] w fun e w' => e = .returned (.bool true) ∧ Below w.heap.size w w' := by
  obtain ⟨L, v⟩ := a0
  unfold Cm.act9OkA at w0
  unfold Cm.act9A
  dsimp only at w0 ⊢
  obtain ⟨w0, wa⟩ := w0
  have hm := w0.len
  have C0 := Lib.hid (fun w => Cm.awake9_ok w)
  obtain ⟨a, cap, rfl⟩ := w0.form
  have HA := Lib.hid (fun i hi => Cm.acts9_at w0 i hi)
  have HOK : Hid (∀ i (hi : i < L.length), L[i].ok w) := Lib.hid fun i hi => wa _ (List.getElem_mem hi)
  clear w0 wa
  obtain ⟨N, hN⟩ : ∃ N, L.length = N := ⟨_, rfl⟩
  have HLL := Lib.hid hN
  rw [hN] at hm ⊢
  clear hN
  by_cases h1 : 50 < N
  · go_enter Try.func5, Try.ntmps5
    go_wp2_with (go_at_call 8; refine (C0.out _).mono ?_; rintro e w1 ⟨rfl, hb1⟩)
    go_ret
    exact ⟨rfl, hb1⟩
  have d50 : decide ((50 : Int) < (N : Int)) = false := by simp; omega
  have h50 : N ≤ 50 := by omega
  clear h1
  go_enter Try.func5, Try.ntmps5
  go_upto_region 5 with fail
  obtain ⟨W1, hW1⟩ : ∃ W1, W1 = w.alloc (.cells #[.int .i64 0, .int .i64 0, .int .i64 0, .int .i64 0, .int .i64 0, .slice none 0 0, .int .i64 0, .int .i64 0, .int .i64 0, .int .i64 0, .int .i64 0, .slice none 0 0, .int .i64 0, .int .i64 0, .int .i64 0, .int .i64 0, .int .i64 0, .slice none 0 0, .int .i64 0, .int .i64 0, .int .i64 0, .int .i64 0, .int .i64 0, .slice none 0 0, .int .i64 0, .int .i64 0, .int .i64 0, .int .i64 0, .int .i64 0, .slice none 0 0, .int .i64 0, .int .i64 0, .int .i64 0, .int .i64 0, .int .i64 0, .slice none 0 0, .int .i64 0, .int .i64 0, .int .i64 0, .int .i64 0, .int .i64 0, .slice none 0 0, .int .i64 0, .int .i64 0, .int .i64 0, .int .i64 0, .int .i64 0, .slice none 0 0] 40) := ⟨_, rfl⟩
  have HN1 : Hid (Cm.Own8 W1 w.heap.size Cm.zero8) := Lib.hid (by rw [hW1]; exact Cm.Own8.zero w _ rfl)
  have hs1 : w.heap.size + 1 ≤ W1.heap.size := by rw [hW1]; simp
  have HB1 : Hid (Below w.heap.size w W1) := Lib.hid (by rw [hW1]; exact newAlloc _ _)
  rw [← hW1]
  clear hW1
  obtain ⟨nb, hnb⟩ : ∃ nb, w.heap.size = nb := ⟨_, rfl⟩
  have HNB := Lib.hid hnb
  rw [hnb] at HN1 hs1 ⊢
  clear hnb
  go_wp2
  go_loopw [3, 5] (fun m i wr => ∃ (k : Nat) (M : List Cm.MemC) (am : Option Addr) (cm : Nat) (NW : List Cm.MemC), k ≤ N ∧ i = .int .i64 k ∧ m = .slice am M.length cm ∧ M.length ≤ k ∧ nb + 1 ≤ wr.heap.size ∧ Hid (Cm.Rm (Cm.valsM M)) ∧ Hid (Cm.OwnM (nb + 1) wr (.slice am M.length cm) M) ∧ Hid (Cm.Own8 wr nb NW) ∧ Hid (Cm.New8 (Cm.valsM M) NW) ∧ Hid (Below w.heap.size w wr)) (fun _ i _ => N - (intOf i).toNat)
  case atStart => exact ⟨0, [], none, 0, Cm.zero8, by omega, rfl, rfl, by simp, hs1, Lib.hid Cm.Rm.nil, Lib.hid (Cm.OwnM.nil _ _), HN1, Lib.hid Cm.New8.zero, HB1⟩
  case round =>
    obtain ⟨k, M, am, cm, NW, hk, rfl, rfl, hMk, hnb, HG, HO, HN, HW, HB⟩ := hrel
    by_cases hlt : k < N
    · have hkl : k < L.length := by rw [HLL.out]; exact hlt
      obtain ⟨b, o, rfl, hc⟩ := HA.out k hkl
      have hok := HOK.out k hkl
      have HC := Lib.hid hc
      clear hc HA HOK
      generalize L[k] = x at hok HC
      obtain ⟨xc, xs, xl, xa, xp⟩ := x
      obtain ⟨o1, o2, o3⟩ := hok
      unfold Cm.Act9.nv at HC o3
      dsimp only at HC o1 o2 o3
      have KA := Lib.hid (fun W (hb : Below w.heap.size w W) => Cm.Answer_own xc xs (.slice xa xl.length xp) xl W o1 o2 (o3.later hb))
      have f1 : (0 : Int) ≤ (k : Int) := by omega
      have f2 : (k : Int) < (N : Int) := by omega
      have HRX := Lib.hid (o3.later HB.out)
      clear o3 hkl
      generalize xl.length = XN at *
      obtain ⟨C, hC⟩ : ∃ C, xc % 8 = C := ⟨_, rfl⟩
      have hC8 : C < 8 := by rw [← hC]; exact Nat.mod_lt _ (by omega)
      have HCM := Lib.hid hC
      clear hC
      obtain ⟨q0, q1, q2⟩ := HC.out _ HB.out
      obtain ⟨MN, hMN⟩ : ∃ MN, M.length = MN := ⟨_, rfl⟩
      have HMN := Lib.hid hMN
      rw [hMN] at HO hMk ⊢
      clear hMN
      have KZ := Lib.hid (Cm.Answer_z xc xs (.slice xa XN xp) xl wr o1 o2 HRX.out)
      go_upto_region 8 with fail
      go_cut [6] from 21 to 36 (fun s6 wc => ∃ (B : Nat) (A : Cm.AnsV) (ua : Option Addr) (up : Nat), s6 = .pointer (some ⟨B, 0, none⟩) ∧ Hid (Cm.mayA A = true) ∧ A.client = (C : Int) ∧ 1 ≤ A.seq ∧ A.rep.held.length ≤ 4 ∧ Hid (wc.ownsRow (nb + 1) 61 2 (.slice ua A.rep.held.length up) A.rep.held.length (Cm.gCells A.rep.held)) ∧ Hid (wc.cell? ⟨B, 0, none⟩ = some (.int .i64 A.client) ∧ wc.cell? ⟨B, 1, none⟩ = some (.int .i64 A.seq) ∧ wc.cell? ⟨B, 2, none⟩ = some (.int .i64 A.rep.code) ∧ wc.cell? ⟨B, 3, none⟩ = some (.int .i64 A.rep.session) ∧ wc.cell? ⟨B, 4, none⟩ = some (.int .i64 A.rep.ahead) ∧ wc.cell? ⟨B, 5, none⟩ = some (.slice ua A.rep.held.length up)) ∧ Hid (Below wr.heap.size wr wc))
      case first =>
        have HQ : Hid (∀ W, Below wr.heap.size wr W → W.cell? ⟨b, o + k * 3, none⟩ = some (.int .u8 (xc : Int)) ∧ W.cell? ⟨b, o + k * 3 + 1, none⟩ = some (.int .u8 (xs : Int)) ∧ W.cell? ⟨b, o + k * 3 + 2, none⟩ = some (.slice xa XN xp)) := Lib.hid fun W hb => HC.out _ (step HB.out hb)
        refine wp_region_held_drew (S := (fun W => W.cell? ⟨b, o + k * 3, none⟩ = some (.int .u8 (xc : Int)) ∧ W.cell? ⟨b, o + k * 3 + 1, none⟩ = some (.int .u8 (xs : Int)) ∧ W.cell? ⟨b, o + k * 3 + 2, none⟩ = some (.slice xa XN xp))) (by kernel_rfl) (HQ.out _ (Below.refl _ wr).drew) (fun hHeld => ?_)
        refine wpAnyH_take (i := 0) (v := ?_) rfl (by kernel_rfl) (by kernel_rfl) (by kernel_rfl) (fun _ _ _ h => h) (Or.inl ⟨by rfl, ?_⟩) (by assumption) ?_
        rotate_left
        · intro w hSw; (try dsimp only at hSw); go_simp <;> with_reducible rfl
        try simp only [Act.put, List.getElem_toArray, List.getElem_cons_zero, List.setIfInBounds_toArray, List.set_cons_zero, List.set_cons_succ]
        refine wpAnyH_take (i := 1) (v := ?_) rfl (by kernel_rfl) (by kernel_rfl) (by kernel_rfl) (fun _ _ _ h => h) (Or.inl ⟨by rfl, ?_⟩) (by assumption) ?_
        rotate_left
        · intro w hSw; (try dsimp only at hSw); go_simp <;> with_reducible rfl
        try simp only [Act.put, List.getElem_toArray, List.getElem_cons_succ, List.getElem_cons_zero, List.setIfInBounds_toArray, List.set_cons_zero, List.set_cons_succ]
        refine wpAnyH_take (i := 2) (v := ?_) rfl (by kernel_rfl) (by kernel_rfl) (by kernel_rfl) (fun _ _ _ h => h) (Or.inl ⟨by rfl, ?_⟩) (by assumption) ?_
        rotate_left
        · intro w hSw; (try dsimp only at hSw); go_simp <;> with_reducible rfl
        try simp only [Act.put, List.getElem_toArray, List.getElem_cons_succ, List.getElem_cons_zero, List.setIfInBounds_toArray, List.set_cons_zero, List.set_cons_succ]
        refine wpAnyH_take (i := 3) (v := ?_) rfl (by kernel_rfl) (by kernel_rfl) (by kernel_rfl) (fun _ _ _ h => h) (Or.inl ⟨by rfl, ?_⟩) (by assumption) ?_
        rotate_left
        · intro w hSw; (try dsimp only at hSw); go_simp <;> with_reducible rfl
        try simp only [Act.put, List.getElem_toArray, List.getElem_cons_succ, List.getElem_cons_zero, List.setIfInBounds_toArray, List.set_cons_zero, List.set_cons_succ]
        refine wpAnyH_take (i := 4) (v := ?_) rfl (by kernel_rfl) (by kernel_rfl) (by kernel_rfl) (fun _ _ _ h => h) (Or.inl ⟨by rfl, ?_⟩) (by assumption) ?_
        rotate_left
        · intro w hSw; (try dsimp only at hSw); go_simp <;> with_reducible rfl
        try simp only [Act.put, List.getElem_toArray, List.getElem_cons_succ, List.getElem_cons_zero, List.setIfInBounds_toArray, List.set_cons_zero, List.set_cons_succ]
        refine wpAnyH_take (i := 5) (v := ?_) rfl (by kernel_rfl) (by kernel_rfl) (by kernel_rfl) (fun _ _ _ h => h) (Or.inl ⟨by rfl, ?_⟩) (by assumption) ?_
        rotate_left
        · intro w hSw; (try dsimp only at hSw); go_simp <;> with_reducible rfl
        try simp only [Act.put, List.getElem_toArray, List.getElem_cons_succ, List.getElem_cons_zero, List.setIfInBounds_toArray, List.set_cons_zero, List.set_cons_succ]
        refine wpAnyH_take (i := 6) (v := ?_) rfl (by kernel_rfl) (by kernel_rfl) (by kernel_rfl) (fun _ _ _ h => h) (Or.inl ⟨by rfl, ?_⟩) (by assumption) ?_
        rotate_left
        · intro w hSw; (try dsimp only at hSw); go_simp <;> with_reducible rfl
        try simp only [Act.put, List.getElem_toArray, List.getElem_cons_succ, List.getElem_cons_zero, List.setIfInBounds_toArray, List.set_cons_zero, List.set_cons_succ]
        refine wpAnyH_take (i := 7) (v := ?_) rfl (by kernel_rfl) (by kernel_rfl) (by kernel_rfl) (fun _ _ _ h => h) (Or.inl ⟨by rfl, ?_⟩) (by assumption) ?_
        rotate_left
        · intro w hSw; (try dsimp only at hSw); go_simp <;> with_reducible rfl
        try simp only [Act.put, List.getElem_toArray, List.getElem_cons_succ, List.getElem_cons_zero, List.setIfInBounds_toArray, List.set_cons_zero, List.set_cons_succ]
        refine wpAnyH_take (i := 8) (v := ?_) rfl (by kernel_rfl) (by kernel_rfl) (by kernel_rfl) (fun _ _ _ h => h) (Or.inl ⟨by rfl, ?_⟩) (by assumption) ?_
        rotate_left
        · intro w hSw; (try dsimp only at hSw); go_simp <;> with_reducible rfl
        try simp only [Act.put, List.getElem_toArray, List.getElem_cons_succ, List.getElem_cons_zero, List.setIfInBounds_toArray, List.set_cons_zero, List.set_cons_succ]
        refine wpAnyH_take (i := 9) (v := ?_) rfl (by kernel_rfl) (by kernel_rfl) (by kernel_rfl) (fun _ _ _ h => h) (Or.inl ⟨by rfl, ?_⟩) (by assumption) ?_
        rotate_left
        · intro w hSw; (try dsimp only at hSw); go_simp <;> with_reducible rfl
        try simp only [Act.put, List.getElem_toArray, List.getElem_cons_succ, List.getElem_cons_zero, List.setIfInBounds_toArray, List.set_cons_zero, List.set_cons_succ]
        refine wpAnyH_take (i := 10) (v := ?_) rfl (by kernel_rfl) (by kernel_rfl) (by kernel_rfl) (fun _ _ _ h => h) (Or.inl ⟨by rfl, ?_⟩) (by assumption) ?_
        rotate_left
        · intro w hSw; (try dsimp only at hSw); go_simp <;> with_reducible rfl
        try simp only [Act.put, List.getElem_toArray, List.getElem_cons_succ, List.getElem_cons_zero, List.setIfInBounds_toArray, List.set_cons_zero, List.set_cons_succ]
        refine wpAnyH_take (i := 11) (v := ?_) rfl (by kernel_rfl) (by kernel_rfl) (by kernel_rfl) (fun _ _ _ h => h) (Or.inl ⟨by rfl, ?_⟩) (by assumption) ?_
        rotate_left
        · intro w hSw; (try dsimp only at hSw); go_simp <;> with_reducible rfl
        try simp only [Act.put, List.getElem_toArray, List.getElem_cons_succ, List.getElem_cons_zero, List.setIfInBounds_toArray, List.set_cons_zero, List.set_cons_succ]
        refine wpAnyH_take (i := 12) (v := ?_) rfl (by kernel_rfl) (by kernel_rfl) (by kernel_rfl) (fun _ _ _ h => h) (Or.inl ⟨by rfl, ?_⟩) (by assumption) ?_
        rotate_left
        · intro w hSw; (try dsimp only at hSw); go_simp <;> with_reducible rfl
        try simp only [Act.put, List.getElem_toArray, List.getElem_cons_succ, List.getElem_cons_zero, List.setIfInBounds_toArray, List.set_cons_zero, List.set_cons_succ]
        refine wpAnyH_take (i := 13) (v := ?_) rfl (by kernel_rfl) (by kernel_rfl) (by kernel_rfl) (fun _ _ _ h => h) (Or.inl ⟨by rfl, ?_⟩) (by assumption) ?_
        rotate_left
        · intro w hSw; (try dsimp only at hSw); go_simp <;> with_reducible rfl
        try simp only [Act.put, List.getElem_toArray, List.getElem_cons_succ, List.getElem_cons_zero, List.setIfInBounds_toArray, List.set_cons_zero, List.set_cons_succ]
        refine wpAnyH_take (i := 14) (v := ?_) rfl (by kernel_rfl) (by kernel_rfl) (by kernel_rfl) (fun _ _ _ h => h) (Or.inl ⟨by rfl, ?_⟩) (by assumption) ?_
        rotate_left
        · intro w hSw; (try dsimp only at hSw); go_simp <;> with_reducible rfl
        try simp only [Act.put, List.getElem_toArray, List.getElem_cons_succ, List.getElem_cons_zero, List.setIfInBounds_toArray, List.set_cons_zero, List.set_cons_succ]
        refine wpAnyH_ready (rs := [15, 16]) (by kernel_rfl) (by simp) ?_
        refine AllReadyH.cons rfl (fun K hK => ?_) (AllReadyH.cons rfl (fun K hK => ?_) AllReadyH.nil)
        · go_simp
          go_at_call 18
          refine (KA.out _ (step HB.out (Below.refl _ wr).drew)).mono ?_
          rintro e w5 ⟨⟨ac, sq, ⟨ak, an, ad, al⟩⟩, ua, up, he, hA1, hA2, hA3, hA4, ho5, hb5⟩
          unfold Cm.ansVal at he; dsimp only at he hA1 hA2 hA3 hA4 ho5; subst he
          have HB5 : Hid (Below wr.heap.size wr w5) := Lib.hid (step (Below.refl wr.heap.size wr).drew hb5)
          have HA2 : Hid (ac = (C : Int)) := Lib.hid (by rw [hA2, HCM.out]); have HA3 : Hid (1 ≤ sq) := Lib.hid (by omega); have HA4 := Lib.hid hA4; clear hA2 hA3 hA4
          have HO5 := Lib.hid ho5
          have HA1 := Lib.hid hA1
          clear hb5 ho5 hA1
          refine hK.out _ _ (HQ.out _ HB5.out) (fun hHeld => ?_)
          clear hK K
          try simp only [Act.put, List.getElem_toArray, List.getElem_cons_succ, List.getElem_cons_zero, List.setIfInBounds_toArray, List.set_cons_zero, List.set_cons_succ]
          refine wpAnyH_ready (rs := [16]) (by kernel_rfl) (by simp) ?_
          refine AllReadyH.cons rfl (fun K hK => ?_) AllReadyH.nil
          go_simp
          have HB6 : Hid (Below wr.heap.size wr (w5.alloc (.cells #[.int .i64 0, .int .i64 0, .int .i64 0, .int .i64 0, .int .i64 0, .slice none 0 0] 30))) := Lib.hid (stepAlloc HB5.out _)
          obtain ⟨z0, z1, z2, z3, z4, z5⟩ := Cm.box6 (Below.refl _ (w5.alloc (.cells #[.int .i64 0, .int .i64 0, .int .i64 0, .int .i64 0, .int .i64 0, .slice none 0 0] 30)))
          have zf := Cm.free6m (Below.refl _ (w5.alloc (.cells #[.int .i64 0, .int .i64 0, .int .i64 0, .int .i64 0, .int .i64 0, .slice none 0 0] 30)))
          refine hK.out _ _ (HQ.out _ HB6.out) (fun hHeld => ?_)
          clear hK K
          try simp only [Act.put, List.getElem_toArray, List.getElem_cons_succ, List.getElem_cons_zero, List.setIfInBounds_toArray, List.set_cons_zero, List.set_cons_succ]
          refine wpAnyH_ready (rs := [17]) (by kernel_rfl) (by simp) ?_
          refine AllReadyH.cons rfl (fun K hK => ?_) AllReadyH.nil
          go_simp
          have HB7 : Hid (Below wr.heap.size wr (w5.alloc (.cells #[.int .i64 ac, .int .i64 sq, .int .i64 ak, .int .i64 an, .int .i64 ad, .slice ua al.length up] 30))) := Lib.hid (stepAlloc HB5.out _)
          have HC7 := Lib.hid (Cm.box6 (Below.refl _ (w5.alloc (.cells #[.int .i64 ac, .int .i64 sq, .int .i64 ak, .int .i64 an, .int .i64 ad, .slice ua al.length up] 30))))
          have HO7 : Hid ((w5.alloc (.cells #[.int .i64 ac, .int .i64 sq, .int .i64 ak, .int .i64 an, .int .i64 ad, .slice ua al.length up] 30)).ownsRow (nb + 1) 61 2 (.slice ua al.length up) al.length (Cm.gCells al)) := Lib.hid (Rw.own_alloc (own_lowerX HO5.out hnb) _)
          refine hK.out _ _ (HQ.out _ HB7.out) (fun hHeld => ?_)
          clear hK K
          try simp only [Act.put, List.getElem_toArray, List.getElem_cons_succ, List.getElem_cons_zero, List.setIfInBounds_toArray, List.set_cons_zero, List.set_cons_succ]
          refine wpAnyH_done (by kernel_rfl) ?_ _
          go_wp2_with fail
          go_meet
          case rel => exact ⟨w5.heap.size, ⟨ac, sq, ⟨ak, an, ad, al⟩⟩, ua, up, rfl, HA1, HA2.out, HA3.out, HA4.out, HO7, HC7, HB7⟩
        · go_simp
          have HB50 : Hid (Below wr.heap.size wr (wr.alloc (.cells #[.int .i64 0, .int .i64 0, .int .i64 0, .int .i64 0, .int .i64 0, .slice none 0 0] 30)).drew) := Lib.hid (newAlloc wr (.cells #[.int .i64 0, .int .i64 0, .int .i64 0, .int .i64 0, .int .i64 0, .slice none 0 0] 30)).drew
          refine hK.out _ _ (HQ.out _ HB50.out) (fun hHeld => ?_)
          clear hK K
          try simp only [Act.put, List.getElem_toArray, List.getElem_cons_succ, List.getElem_cons_zero, List.setIfInBounds_toArray, List.set_cons_zero, List.set_cons_succ]
          refine wpAnyH_ready (rs := [15]) (by kernel_rfl) (by simp) ?_
          refine AllReadyH.cons rfl (fun K hK => ?_) AllReadyH.nil
          go_simp
          go_at_call 18
          refine KZ.out.mono ?_
          rintro e w5 ⟨⟨ac, sq, ⟨ak, an, ad, al⟩⟩, ua, up, he, HA1, hA2, hA3, hA4, HO5, ⟨z0, z1, z2, z3, z4, z5⟩, zf, HB6⟩
          unfold Cm.ansVal at he; dsimp only at he HA1 hA2 hA3 hA4 HO5; subst he
          have HA2 : Hid (ac = (C : Int)) := Lib.hid (by rw [hA2, HCM.out]); have HA3 : Hid (1 ≤ sq) := Lib.hid (by omega); have HA4 := Lib.hid hA4; clear hA2 hA3 hA4
          have HO6 := HO5
          clear HB50
          refine hK.out _ _ (HQ.out _ HB6.out) (fun hHeld => ?_)
          clear hK K
          try simp only [Act.put, List.getElem_toArray, List.getElem_cons_succ, List.getElem_cons_zero, List.setIfInBounds_toArray, List.set_cons_zero, List.set_cons_succ]
          refine wpAnyH_ready (rs := [17]) (by kernel_rfl) (by simp) ?_
          refine AllReadyH.cons rfl (fun K hK => ?_) AllReadyH.nil
          go_simp
          have HB7 := Lib.hid (Cm.set6m HB6.out wr.heap.size (Nat.le_refl _) (.int .i64 ac) (.int .i64 sq) (.int .i64 ak) (.int .i64 an) (.int .i64 ad) (.slice ua al.length up))
          have HC7 := Lib.hid (Cm.cells_put6 z0 z1 z2 z3 z4 z5 zf (.int .i64 ac) (.int .i64 sq) (.int .i64 ak) (.int .i64 an) (.int .i64 ad) (.slice ua al.length up))
          have HO7 := Lib.hid (own_lowerX (Cm.own_set6e HO6.out (Nat.lt_succ_self _) 0 (.int .i64 ac) (.int .i64 sq) (.int .i64 ak) (.int .i64 an) (.int .i64 ad) (.slice ua al.length up)) (Nat.le_succ_of_le hnb))
          refine hK.out _ _ (HQ.out _ HB7.out) (fun hHeld => ?_)
          clear hK K
          try simp only [Act.put, List.getElem_toArray, List.getElem_cons_succ, List.getElem_cons_zero, List.setIfInBounds_toArray, List.set_cons_zero, List.set_cons_succ]
          refine wpAnyH_done (by kernel_rfl) ?_ _
          go_wp2_with fail
          go_meet
          case rel => exact ⟨wr.heap.size, ⟨ac, sq, ⟨ak, an, ad, al⟩⟩, ua, up, rfl, HA1, HA2.out, HA3.out, HA4.out, HO7, HC7, HB7⟩
      case rest =>
        obtain ⟨B, ⟨ac, sq, ⟨ak, an, ad, al⟩⟩, ua, up, rfl, HA1, hac, hsq, hal, HH, HCB, HBC⟩ := hcut
        obtain ⟨wb, rfl⟩ : ∃ wb, wb = wc := ⟨_, rfl⟩
        dsimp only at hac hsq hal HH HCB
        subst hac
        have HSQ := Lib.hid hsq
        have HAL := Lib.hid hal
        have hnc : nb + 1 ≤ wb.heap.size := Nat.le_trans hnb HBC.out.size
        have HOc := Lib.hid (HO.out.later HBC.out)
        have HNc := Lib.hid (HN.out.later HBC.out)
        have HBWc := Lib.hid (step HB.out HBC.out)
        have hCl : C < NW.length := by rw [HN.out.len]; exact hC8
        have hwant := Cm.want_at HG.out (C : Int) sq hsq
        rw [← HW.out C hCl] at hwant
        have HF0 := Lib.hid (fun W (hb : Below wb.heap.size wb W) => Cm.MemFresh_any (.slice am MN cm) M (C : Int) sq W (HOc.out.rd.later hb) HG.out)
        clear q0 q1 q2 hsq hal KZ KA HRX HO HN HB HBC
        obtain ⟨fr, hfr⟩ : ∃ fr, Cm.freshM (Cm.valsM M) (C : Int) sq = fr := ⟨_, rfl⟩
        have HFR := Lib.hid hfr
        rw [hfr] at hwant HF0
        clear hfr
        obtain ⟨r0, r1, r2, r3, r4, r5, -⟩ := Cm.rowE_at HNc.out.row C hCl
        obtain ⟨c0, c1, c2, c3, c4, c5⟩ := HCB.out
        obtain ⟨z, hz⟩ : ∃ z, NW[C] = z := ⟨_, rfl⟩
        rw [hz] at r0 r1 r2 r3 r4 r5 hwant
        clear hz hCl
        obtain ⟨⟨yc, ys, ⟨yk, yn, yd, yl⟩⟩, ya, yp⟩ := z
        unfold Cm.MemC.hv at r5
        dsimp only at r0 r1 r2 r3 r4 r5 hwant
        have g1 : (0 : Int) ≤ (C : Int) := by omega
        have g2 : (C : Int) < 8 := by omega
        generalize yl.length = YN at r5
        obtain ⟨AN, hAN⟩ : ∃ AN, al.length = AN := ⟨_, rfl⟩
        have HANN := Lib.hid hAN
        rw [hAN] at HCB HH HAL c5
        clear hAN
        go_upto_region 10 with fail
        have k0 := cell_regrown c0
        have k1 := cell_regrown c1
        have k2 := cell_regrown r1
        refine wp_region_quiet_below (by kernel_rfl) (by kernel_rfl) ?_
        repeat (go_big_quiet_step (fail))
        refine wpQuiet_nil ?_
        intro w10 hw'
        have HB10 : Hid (Below wb.heap.size wb w10) := Lib.hid (by obtain ⟨⟨dq, osq⟩, hw2⟩ := hw'; rw [hw2]; exact below_regrown wb dq osq)
        clear hw'
        go_upto_if 44 with fail
        go_cut [7] from 45 to 52 (fun s7 wd => s7 = .int .i64 fr ∧ Hid (Below wb.heap.size wb wd))
        case first =>
          have HQ10 := Lib.hid (fun W (hb : Below w10.heap.size w10 W) => (⟨((step HB10.out hb).cell (lt_of_cell c0)).trans c0, ((step HB10.out hb).cell (lt_of_cell c1)).trans c1, ((step HB10.out hb).cell (lt_of_cell r1)).trans r1⟩ : _ ∧ _ ∧ _))
          by_cases e1 : ys = sq
          · have d1 : (ys == sq) = true := by simpa using e1
            rw [if_pos e1] at hwant
            have H := Lib.hid hwant
            clear hwant e1 k0 k1 k2
            go_wp2
            go_meet
            case rel => exact ⟨by rw [H.out], HB10⟩
          have d1 : (ys == sq) = false := by simpa using e1
          rw [if_neg e1] at hwant
          clear e1
          obtain ⟨t0, t1, t2⟩ := HQ10.out _ (Below.refl _ _)
          have k0 := cell_regrown t0
          have k1 := cell_regrown t1
          have k2 := cell_regrown t2
          clear t0 t1 t2 c0 c1 c2 c3 c4 c5 r0 r1 r2 r3 r4 r5
          by_cases e2 : sq < ys
          · have d2 : decide (sq < ys) = true := decide_eq_true e2
            rw [if_pos e2] at hwant
            have H := Lib.hid hwant
            clear hwant e2
            go_upto_region 12 with fail
            refine wp_region_quiet_below (by kernel_rfl) (by kernel_rfl) ?_
            repeat (go_big_quiet_step (fail))
            refine wpQuiet_nil ?_
            intro w12 hw'
            have HB12 : Hid (Below w10.heap.size w10 w12) := Lib.hid (by obtain ⟨⟨dq, osq⟩, hw2⟩ := hw'; rw [hw2]; exact below_regrown w10 dq osq)
            clear hw'
            go_wp2
            go_meet
            case rel => exact ⟨by rw [H.out], Lib.hid (step HB10.out HB12.out)⟩
          · have d2 : decide (sq < ys) = false := decide_eq_false e2
            rw [if_neg e2] at hwant
            have H := Lib.hid hwant
            clear hwant e2
            go_upto_region 12 with fail
            refine wp_region_quiet_below (by kernel_rfl) (by kernel_rfl) ?_
            repeat (go_big_quiet_step (fail))
            refine wpQuiet_nil ?_
            intro w12 hw'
            have HB12 : Hid (Below w10.heap.size w10 w12) := Lib.hid (by obtain ⟨⟨dq, osq⟩, hw2⟩ := hw'; rw [hw2]; exact below_regrown w10 dq osq)
            clear hw'
            go_wp2
            go_meet
            case rel => exact ⟨by rw [H.out], Lib.hid (step HB10.out HB12.out)⟩
        case rest =>
          obtain ⟨rfl, HBD⟩ := hcut
          have HQB : Hid (∀ W, Below wb.heap.size wb W → W.cell? ⟨B, 0, none⟩ = some (.int .i64 (C : Int)) ∧ W.cell? ⟨B, 1, none⟩ = some (.int .i64 sq) ∧ W.cell? ⟨B, 2, none⟩ = some (.int .i64 ak) ∧ W.cell? ⟨B, 3, none⟩ = some (.int .i64 an) ∧ W.cell? ⟨B, 4, none⟩ = some (.int .i64 ad) ∧ W.cell? ⟨B, 5, none⟩ = some (.slice ua AN up)) := Lib.hid fun W hb => ⟨(hb.cell (lt_of_cell c0)).trans c0, (hb.cell (lt_of_cell c1)).trans c1, (hb.cell (lt_of_cell c2)).trans c2, (hb.cell (lt_of_cell c3)).trans c3, (hb.cell (lt_of_cell c4)).trans c4, (hb.cell (lt_of_cell c5)).trans c5⟩
          have HUC : Hid (Cm.RdH wb (.slice ua AN up) al) := Lib.hid (by
            have := HH.out
            rw [← HANN.out] at this ⊢
            exact Cm.RdH.own this)
          have HHA : Hid (wb.ownsRow (nb + 1) 61 2 (.slice ua al.length up) al.length (Cm.gCells al)) := Lib.hid (by rw [HANN.out]; exact HH.out)
          have KK := fun W (hb : Below wb.heap.size wb W) => Cm.MemKeep_own (.slice am MN cm) (.slice ua AN up) M ⟨(C : Int), sq, ⟨ak, an, ad, al⟩⟩ W (HOc.out.rd.later hb) HG.out (by rw [HMN.out]; omega) (HUC.out.later hb) (by have := HAL.out; have := HANN.out; dsimp only; omega)
          have HGK := Lib.hid (HG.out.keep ⟨(C : Int), sq, ⟨ak, an, ad, al⟩⟩)
          have HWP : Hid (fr = 1 → Cm.New8 (Cm.keepM (Cm.valsM M) ⟨(C : Int), sq, ⟨ak, an, ad, al⟩⟩) (NW.set C ⟨⟨(C : Int), sq, ⟨ak, an, ad, al⟩⟩, ua, up⟩)) := Lib.hid fun q => HW.out.put HA1.out (by rw [← q]; exact HFR.out) C rfl _ rfl
          have HWS : Hid (fr ≠ 1 → Cm.New8 (Cm.keepM (Cm.valsM M) ⟨(C : Int), sq, ⟨ak, an, ad, al⟩⟩) NW) := Lib.hid fun q => HW.out.same HA1.out (fun e => q (by rw [← e]; exact HFR.out.symm))
          have hl2 := Cm.keep_length (Cm.valsM M) ⟨(C : Int), sq, ⟨ak, an, ad, al⟩⟩
          rw [Cm.valsM_length, HMN.out] at hl2
          generalize Cm.keepM (Cm.valsM M) ⟨(C : Int), sq, ⟨ak, an, ad, al⟩⟩ = K at KK HGK HWP HWS hl2
          have HKL := Lib.hid hl2
          unfold Cm.ansVal Cm.GetsO at KK
          dsimp only at KK
          have KK := Lib.hid KK
          have dfr : (fr != fr) = false := by simp
          obtain ⟨t0, t1, t2, t3, t4, t5⟩ := HQB.out _ HBD.out
          clear c0 c1 c2 c3 c4 c5 r0 r1 r2 r3 r4 r5 hwant k0 k1 k2 HFR HA1 HW HB10 HCB HH hl2
          go_upto_region 16 with (go_at_call 13; refine (HF0.out _ HBD.out).mono ?_; rintro e w14 ⟨rfl, hb14⟩; have HB14 := Lib.hid (step HBD.out hb14); clear hb14)
          clear t0 t1 t2 t3 t4 t5 dfr HF0
          obtain ⟨t0, t1, t2, t3, t4, t5⟩ := HQB.out _ HB14.out
          go_upto_region 17 with (go_at_call 9; refine (KK.out _ HB14.out).mono ?_; rintro e w16 ⟨a6, c6, M6, rfl, hv6, ho6, hb6⟩; have HV6 := Lib.hid hv6; have HO6 := Lib.hid (ho6.lower (Nat.le_trans hnc HB14.out.size)); have HB6 := Lib.hid (step HB14.out hb6); clear hv6 ho6 hb6)
          clear t0 t1 t2 t3 t4 t5 KK
          obtain ⟨t0, t1, t2, t3, t4, t5⟩ := HQB.out _ HB6.out
          have HN6 := Lib.hid (HNc.out.later HB6.out)
          have HHB6 := Lib.hid (Rw.own_below HHA.out HB6.out)
          have hn6 : nb + 1 ≤ w16.heap.size := Nat.le_trans hnc HB6.out.size
          have HBW6 := Lib.hid (step HBWc.out HB6.out)
          obtain ⟨MN6, hMN6⟩ : ∃ MN6, M6.length = MN6 := ⟨_, rfl⟩
          have HMN6 := Lib.hid hMN6
          have HML6 : Hid (MN6 ≤ MN + 1) := Lib.hid (by rw [← hMN6, ← Cm.valsM_length M6, HV6.out]; exact HKL.out)
          rw [hMN6] at HO6 ⊢
          clear hMN6 HKL
          have hCN : C < NW.length := by rw [HN6.out.len]; exact hC8
          obtain ⟨s0, s1, s2, s3, s4, s5, sf⟩ := Cm.rowE_at HN6.out.row C hCN
          generalize NW[C] = zz at s0 s1 s2 s3 s4 s5
          obtain ⟨⟨zc, zs, ⟨zk, zn, zd, zl⟩⟩, za, zp⟩ := zz
          unfold Cm.MemC.hv at s5
          dsimp only at s0 s1 s2 s3 s4 s5
          generalize zl.length = ZN at s5
          clear hCN
          by_cases hf : fr = 1
          case' pos =>
            have d1 : (fr == 1) = true := by simpa using hf
            have HN9a := Lib.hid (HN6.out.put C hC8 ⟨⟨(C : Int), sq, ⟨ak, an, ad, al⟩⟩, ua, up⟩ HHB6.out)
            have HO9a := Lib.hid (HO6.out.put8 (k := C) (y := ⟨⟨(C : Int), sq, ⟨ak, an, ad, al⟩⟩, ua, up⟩))
            have HB9a := Lib.hid (Cm.below_put8 (k := C) (y := ⟨⟨(C : Int), sq, ⟨ak, an, ad, al⟩⟩, ua, up⟩) HBW6.out (Nat.le_of_eq HNB.out))
            have hn9a : nb + 1 ≤ (Cm.put8 w16 nb C ⟨⟨(C : Int), sq, ⟨ak, an, ad, al⟩⟩, ua, up⟩).heap.size := by unfold Cm.put8; simpa using hn6
            have HW9 := Lib.hid (HWP.out hf)
            unfold Cm.put8 Cm.MemC.hv at HN9a HO9a HB9a hn9a
            dsimp only at HN9a HO9a HB9a hn9a
            rw [HANN.out] at HN9a HO9a HB9a hn9a
            clear hf HWP HWS
            go_upto_region 19 with fail
            obtain ⟨W9, hW9⟩ : ∃ W9, W9 = (((((w16.setCell ⟨nb, C * 6, none⟩ (.int .i64 (C : Int))).setCell ⟨nb, C * 6 + 1, none⟩ (.int .i64 sq)).setCell ⟨nb, C * 6 + 2, none⟩ (.int .i64 ak)).setCell ⟨nb, C * 6 + 3, none⟩ (.int .i64 an)).setCell ⟨nb, C * 6 + 4, none⟩ (.int .i64 ad)).setCell ⟨nb, C * 6 + 5, none⟩ (.slice ua AN up) := ⟨_, rfl⟩
            rw [← hW9] at HN9a HO9a HB9a hn9a ⊢
            clear hW9
            have HN9 := HN9a
            have HO9 := HO9a
            have HB9 := HB9a
            have hn9 := hn9a
            generalize NW.set C ⟨⟨(C : Int), sq, ⟨ak, an, ad, al⟩⟩, ua, up⟩ = NW9 at HN9 HW9
          case' neg =>
            have d1 : (fr == 1) = false := by simpa using hf
            have HW9 := Lib.hid (HWS.out hf)
            clear hf HWP HWS
            go_upto_region 19 with fail
            obtain ⟨W9, hW9⟩ : ∃ W9, W9 = w16 := ⟨_, rfl⟩
            obtain ⟨NW9, hNW9⟩ : ∃ NW9, NW9 = NW := ⟨_, rfl⟩
            have HN9 : Hid (Cm.Own8 W9 nb NW9) := Lib.hid (by rw [hW9, hNW9]; exact HN6.out)
            have HO9 : Hid (Cm.OwnM (nb + 1) W9 (.slice a6 MN6 c6) M6) := Lib.hid (by rw [hW9]; exact HO6.out)
            have HB9 : Hid (Below w.heap.size w W9) := Lib.hid (by rw [hW9]; exact HBW6.out)
            have hn9 : nb + 1 ≤ W9.heap.size := by rw [hW9]; exact hn6
            rw [← hNW9] at HW9
            rw [← hW9]
            clear hW9 hNW9
          all_goals
            clear t0 t1 t2 t3 t4 t5 s0 s1 s2 s3 s4 s5 sf HN6 HO6 HHB6 HBW6 hn6 HQB HNc HOc HBWc HBD HB14 HB6 HUC HHA
            obtain ⟨wo, hwo⟩ : ∃ wo, wo = wr := ⟨_, rfl⟩
            clear hwo
            go_wp2
            go_loopw [8] (fun i wi => ∃ c : Nat, c ≤ 8 ∧ i = .int .i64 c ∧ Hid (Below W9.heap.size W9 wi)) (fun i _ => 8 - (intOf i).toNat)
            case atStart => exact ⟨0, by omega, rfl, Lib.hid (Below.refl _ _)⟩
            case round =>
              obtain ⟨c, hc8, rfl, HBI⟩ := hrel
              by_cases hcl : c < 8
              · have hcN : c < NW9.length := by rw [HN9.out.len]; exact hcl
                have KL := (Cm.MemLast_any (.slice a6 MN6 c6) M6 (c : Int) wr (HO9.out.rd.later HBI.out) (by rw [HV6.out]; exact HGK.out)).mono fun e w' h => Cm.GetsM.s h
                rw [HV6.out] at KL
                have hpos := Cm.seq_pos HGK.out (c : Int)
                have hcli : (Cm.lastM K (c : Int)).2 = true → (Cm.lastM K (c : Int)).1.client = (c : Int) := fun q => Cm.last_client q
                have hnw := HW9.out c hcN
                have HNI := Lib.hid (HN9.out.later HBI.out)
                obtain ⟨r0, r1, r2, r3, r4, r5, -⟩ := Cm.rowE_at HNI.out.row c hcN
                have hheld := HNI.out.held _ (List.getElem_mem hcN)
                generalize NW9[c] = z at hnw r0 r1 r2 r3 r4 r5 hheld
                generalize Cm.lastM K (c : Int) = rr at KL hpos hcli hnw
                obtain ⟨⟨yc, ys, ⟨yk, yn, yd, yl⟩⟩, yb⟩ := rr
                obtain ⟨zm, za, zp⟩ := z
                dsimp only at hnw KL hpos hcli
                subst hnw
                unfold Cm.MemC.hv at r5 hheld
                dsimp only at r0 r1 r2 r3 r4 r5 hheld
                have hz9 : Cm.RdH wr (.slice za yl.length zp) yl := Cm.RdH.own hheld
                have KL := Lib.hid KL
                have HZ9 := Lib.hid hz9
                clear hheld hz9 hcN HNI
                obtain ⟨YN, hYN⟩ : ∃ YN, yl.length = YN := ⟨_, rfl⟩
                rw [hYN] at KL r5 HZ9
                clear hYN
                have f3 : (0 : Int) ≤ (c : Int) := by omega
                have f4 : (c : Int) < 8 := by omega
                go_upto_region 22 with fail
                go_upto_region 23 with (go_at_call 15; refine KL.out.mono ?_; rintro e w5 ⟨a5, c5, rfl, hr5, hb5⟩; have HR5 := Lib.hid hr5; have HB5 := Lib.hid hb5; clear hr5 hb5)
                obtain ⟨W6, hW6⟩ : ∃ W6, W6 = w5.alloc (.cells #[.int .i64 yc, .int .i64 ys, .int .i64 yk, .int .i64 yn, .int .i64 yd, .slice a5 YN c5] 35) := ⟨_, rfl⟩
                have HB6 : Hid (Below wr.heap.size wr W6) := Lib.hid (by rw [hW6]; exact stepAlloc HB5.out _)
                have HR6 : Hid (Cm.RdH W6 (.slice a5 YN c5) yl) := Lib.hid (by rw [hW6]; exact HR5.out.later (newAlloc _ _))
                have hx := Cm.box6 (Below.refl _ (w5.alloc (.cells #[.int .i64 yc, .int .i64 ys, .int .i64 yk, .int .i64 yn, .int .i64 yd, .slice a5 YN c5] 35)))
                rw [← hW6] at hx ⊢
                clear hW6
                obtain ⟨x0, x1, x2, x3, x4, x5⟩ := hx
                have HZ6 := Lib.hid (HZ9.out.later HB6.out)
                have j0 := cell_regrown x0
                have j1 := cell_regrown x1
                have j2 := cell_regrown x2
                have j3 := cell_regrown x3
                have j4 := cell_regrown x4
                have j5 := cell_regrown x5
                have k1 := cell_regrown ((HB6.out.cell (lt_of_cell r1)).trans r1)
                have k2 := cell_regrown ((HB6.out.cell (lt_of_cell r2)).trans r2)
                have k3 := cell_regrown ((HB6.out.cell (lt_of_cell r3)).trans r3)
                have k4 := cell_regrown ((HB6.out.cell (lt_of_cell r4)).trans r4)
                have k5 := cell_regrown ((HB6.out.cell (lt_of_cell r5)).trans r5)
                have D1 := fun d os => Calls.regrown_of (w := W6) (d := d) (os := os) (Cm.SameReply_any ⟨yk, yn, yd, yl⟩ ⟨yk, yn, yd, yl⟩ (.slice a5 YN c5) (.slice za YN zp) _ (HR6.out.later (below_regrown W6 d os)) (HZ6.out.later (below_regrown W6 d os)))
                rw [(Cm.sameP_iff _ _).2 rfl] at D1
                unfold Cm.repVal at D1
                dsimp only at D1
                have D1 := Lib.hid D1
                have ss : (ys != ys) = false := by simp
                clear x0 x1 x2 x3 x4 x5 r0 r1 r2 r3 r4 r5 HR5 HB5 HR6 HZ6 HZ9 KL
                cases yb
                case false =>
                  clear hcli
                  refine wp_region_quiet_below (by kernel_rfl) (by kernel_rfl) ?_
                  repeat (go_big_quiet_step (first | exact D1.out _ _))
                  refine wpQuiet_nil ?_
                  intro w23 hw'
                  have HB23 : Hid (Below W6.heap.size W6 w23) := Lib.hid (by obtain ⟨⟨dq, osq⟩, hw2⟩ := hw'; rw [hw2]; exact below_regrown W6 dq osq)
                  clear hw'
                  have HBF := Lib.hid (step HBI.out (step HB6.out HB23.out))
                  clear D1 j0 j1 j2 j3 j4 j5 k1 k2 k3 k4 k5
                  go_wp2
                  go_roundw
                  case rel => exact ⟨c + 1, by omega, by go_num, HBF⟩
                  case measure => simp [intOf]; omega
                case true =>
                  have hyc := hcli rfl
                  have hyn : (yc != (c : Int)) = false := by simp [hyc]
                  clear hcli hyc
                  refine wp_region_quiet_below (by kernel_rfl) (by kernel_rfl) ?_
                  repeat (go_big_quiet_step (first | exact D1.out _ _))
                  refine wpQuiet_nil ?_
                  intro w23 hw'
                  have HB23 : Hid (Below W6.heap.size W6 w23) := Lib.hid (by obtain ⟨⟨dq, osq⟩, hw2⟩ := hw'; rw [hw2]; exact below_regrown W6 dq osq)
                  clear hw'
                  have HBF := Lib.hid (step HBI.out (step HB6.out HB23.out))
                  clear D1 j0 j1 j2 j3 j4 j5 k1 k2 k3 k4 k5
                  go_wp2
                  go_roundw
                  case rel => exact ⟨c + 1, by omega, by go_num, HBF⟩
                  case measure => simp [intOf]; omega
              · obtain rfl : c = 8 := by omega
                have HOF := Lib.hid (HO9.out.later HBI.out)
                have HNF := Lib.hid (HN9.out.later HBI.out)
                have HBF := Lib.hid (step HB9.out HBI.out)
                have hnf : nb + 1 ≤ wr.heap.size := Nat.le_trans hn9 HBI.out.size
                go_wp2
                go_roundw
                case rel => exact ⟨k + 1, M6, a6, c6, NW9, by omega, by go_num, by rw [HMN6.out], by rw [HMN6.out]; have := HML6.out; omega, hnf, Lib.hid (by rw [HV6.out]; exact HGK.out), Lib.hid (by rw [HMN6.out]; exact HOF.out), HNF, Lib.hid (by rw [HV6.out]; exact HW9.out), HBF⟩
                case measure => simp [intOf]; omega
    · obtain rfl : k = N := by omega
      have KR := Cm.MemRight_any (.slice am M.length cm) M wr HO.out.rd
      rw [(Cm.rightM_iff _).2 HG.out] at KR
      have KR := Lib.hid KR
      clear HG HO HN HW HA HOK
      generalize M.length = MN at *
      go_wp2_with (first
        | (go_at_call 12; refine KR.out.mono ?_; rintro e w5 ⟨rfl, hb5⟩; have HB5 := Lib.hid (step HB.out hb5); clear hb5)
        | (go_at_call 8; refine (C0.out _).mono ?_; rintro e w6 ⟨rfl, hb6⟩))
      go_ret
      exact ⟨rfl, step HB5.out hb6⟩

/-! ### THE ROW's STEP -/
set_option maxRecDepth 100000 in
theorem lifted (os : Os) (started : os.Started) (H : Type) (enc : TypeId × Value → H) :
    ReturnsInHanded {} Try.checked os 5 .any (Rows.memoKeepsSpec.pre6 enc Try.prog Try.f5 Rows.memoKeepsRow.domain false) (Rows.memoKeepsSpec.post enc Try.prog Try.f5 false true false false) := by
  refine returnsInHanded_of_change (C := Try.checked) own started (by kernel_rfl) Try.func5
    (ChangeSpec.witness6 (enc := enc) (C := Try.checked) false ⟨#[], #[.slice none 0 0], []⟩ 8 (by kernel_rfl) (by kernel_rfl) (by kernel_rfl) (by kernel_rfl)) ?_
  intro W base args ds gs before hval0 hW hcnd _
  have hval : ∀ (j : Nat) t v, Try.f5.params[j]? = some t → args[j]? = some v → Value.okWide Try.prog W .any base t v := hval0
  have hW' := hW
  obtain ⟨p, q, hA0, hV, rfl, hfz, hnd⟩ := hW
  have hA : DataW.TrodAll enc Try.prog W 0 (fun _ => true) true Try.f5.params.toList args.toList ds p := hA0
  rw [Try.params5] at hA hval
  obtain ⟨v0, vs0, d0, ds0, p0, q0, hargs, rfl, rfl, h0, r0⟩ := trodAll_cons hA
  obtain ⟨rfl, rfl, rfl⟩ := trodAll_nil r0
  obtain rfl : args = #[v0] := by cases args; simp_all
  obtain ⟨rfl, rfl⟩ := trodVars_none hV
  have k0 := h0
  have lt0 : ∀ x ∈ p0, x.block < W.heap.size := by obtain ⟨m, hm⟩ := k0; exact DataW.trod_lt m _ _ _ hm
  obtain ⟨a0, rfl, w0⟩ := Cm.open_act9 (hval 0 39 v0 rfl rfl) h0
  clear hA0 hval0
  refine (walk a0 W w0).mono fun e W' ⟨he, bel⟩ => ?_
  subst he
  exact ⟨_, rfl, _, _, _, [], _, [], hW', trodAll_mk1 (shut_bool Try.underlying4 _), (trodAll_cons_mk (Below.trod laidOut (by kernel_rfl) (of_decide_eq_true (by kernel_rfl)) k0 bel lt0) trodAll_mk0), rfl, bel.frame _, fun h => by cases h⟩

theorem over : Rows.memoKeepsRow.holds Try.pinned (OpenSpec.ofChange Rows.memoKeepsSpec) :=
  OpenClaim.holds_of_wide 5 Try.f5 rfl rfl rfl rfl rfl rfl rfl ⟨rfl, rfl, rfl, rfl, rfl⟩ rfl rfl rfl rfl rfl (by kernel_rfl) Try.func5 (by kernel_rfl)
    (of_decide_eq_true (by kernel_rfl)) (by unfold Func.isWrapper; first | (rw [if_pos (by decide +kernel)]; kernel_rfl) | (rw [if_neg (by decide +kernel)]; exact ⟨rfl, rfl⟩))
    (fun os started H enc _ => lifted os started H enc)

/-- THE STATEMENT -/
theorem proved : Rows.MemoKeepsSaid := over
end Go.Proofs.Ytfkpgndbohoogaa.memoKeeps
