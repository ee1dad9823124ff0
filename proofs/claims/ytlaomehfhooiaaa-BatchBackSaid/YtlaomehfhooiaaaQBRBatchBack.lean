/- PROVED: the statement BatchBack of layer 12: for every input that can be read, the law returns true and leaves its arguments as they were. No condition. -/
import Derived.Test.YtlaomehfhooiaaaRows
import Derived.Test.YtlaomehfhooiaaaQB2
import Derived.WalkKit
import Derived.ProofKit
import Derived.OpenShut
import Derived.ShutString
import Derived.ChangeOld
import Derived.Below
import Derived.SizedLaws
import Derived.Deep.Cut
import Derived.Deep.CutBlock
import Derived.Deep.DeepCutAuto
namespace Go.Proofs.Ytlaomehfhooiaaa.batchBack
open Go.ChangeShapes Go.WideShapes Go.ChangeAt Go.RowKit
open Go.ChangeMaps (open_string shut_string)
open Go.Sort (grow)
set_option linter.unusedVariables false
set_option maxRecDepth 8000
set_option linter.unusedSimpArgs false

theorem own : ownKnob Try.prog.godebug = none := by kernel_rfl
theorem laidOut : laidOutB Try.prog = true := by kernel_rfl

/-! ### STEP 1: THE WALK -/
set_option maxRecDepth 100000 in
set_option maxHeartbeats 4000000 in
theorem walk (a0 : Option Addr) (len0 cap0 : Nat) (z0 : List Int) (a1 : Option Addr) (len1 cap1 : Nat) (z1 : List Int) (a2 : Int) (a3 : Int) (a4 : Int) (w : World) (w0 : IsRow .u8 w a0 len0 cap0 z0) (s0 : len0 ≤ 140737488355328) (w1 : IsRow .u8 w a1 len1 cap1 z1) (s1 : len1 ≤ 140737488355328) (w2 : (Lit.int .u16 a2).wf = true) (w3 : (Lit.int .u16 a3).wf = true) (w4 : (Lit.int .u8 a4).wf = true) :
    Calls Try.prog 4 #[.slice a0 len0 cap0, .slice a1 len1 cap1, .int .u16 a2, .int .u16 a3, .int .u8 a4] w fun e w' => e = .returned (.bool true) ∧ Below w.heap.size w w' := by
  obtain ⟨hr0, hrl0⟩ := w0.rd
  generalize bytesOf z0 len0 = NS at hr0 hrl0
  obtain ⟨hr, hrl⟩ := w1.rd
  generalize bytesOf z1 len1 = A at hr hrl
  have nat8 : ∀ a : Int, (Lit.int .u8 a).wf = true → ∃ n : Nat, a = (n : Int) ∧ n < 256 := fun a h => by
    simp [Lit.wf, IntKind.min, IntKind.max, IntKind.signed, IntKind.bits] at h
    exact ⟨a.toNat, by omega, by omega⟩
  have nat16 : ∀ a : Int, (Lit.int .u16 a).wf = true → ∃ n : Nat, a = (n : Int) ∧ n < 65536 := fun a h => by
    simp [Lit.wf, IntKind.min, IntKind.max, IntKind.signed, IntKind.bits] at h
    exact ⟨a.toNat, by omega, by omega⟩
  obtain ⟨ct, rfl, lc⟩ := nat16 a2 w2
  obtain ⟨at3, rfl, l3⟩ := nat16 a3 w3
  obtain ⟨b, rfl, lb⟩ := nat8 a4 w4
  clear nat8 nat16 w0 w1 w2 w3 w4
  have C0 := Lib.hid (fun w => Cm.awake12_ok w)
  by_cases h1 : 100 < len1
  · go_enter Try.func4, Try.ntmps4
    go_wp2_with (go_at_call 7; refine (C0.out _).mono ?_; rintro e w1 ⟨rfl, hb1⟩)
    go_ret
    exact ⟨rfl, hb1⟩
  have CB := Lib.hid (Cm.Batch_any _ NS w hr0 (by omega))
  clear hr0 hrl0 s0 s1
  go_enter Try.func4, Try.ntmps4
  go_wp2_with fail
  refine CB.out.mono ?_
  rintro e w1 ⟨bt, v, rfl, hm, ho, hb1⟩
  obtain ⟨ba, bc, rfl⟩ := Rw.own_form ho
  have HRD0 := RdX.own Cm.cellsR_length ho
  have hrA0 := hr.later hb1
  clear CB ho hr
  obtain ⟨hL1, hL2⟩ := Cm.bytesB_bound bt hm
  obtain ⟨Q, hQ⟩ : ∃ Q, Cm.bytesB bt = Q := ⟨_, rfl⟩
  obtain ⟨L, hL⟩ : ∃ L, Q.length = L := ⟨_, rfl⟩
  have hQL : (Cm.bytesB bt).length = L := by rw [hQ]; exact hL
  rw [hQL] at hL1 hL2
  obtain ⟨K, hK, hK9⟩ : ∃ K : Nat, (ct : Int) % (L : Int) = (K : Int) ∧ K < L := ⟨ct % L, (Int.natCast_emod ct L).symm, Nat.mod_lt _ (by omega)⟩
  obtain ⟨J, hJ, hJ9⟩ : ∃ J : Nat, (at3 : Int) % (L : Int) = (J : Int) ∧ J < L := ⟨at3 % L, (Int.natCast_emod at3 L).symm, Nat.mod_lt _ (by omega)⟩
  have C1 : ∀ W u, Cm.RdR W u bt.reqs → Calls Try.prog 8 #[Cm.batVal bt u] W (Row L Q W) := fun W u h => by
    have := Cm.PutB_row bt u W h hm L hQL
    rwa [hQ] at this
  have C2 : ∀ W u, Cm.RdR W u bt.reqs → Calls Try.prog 12 #[Cm.batVal bt u] W (Cm.SaysB true W) := fun W u h => by
    have := Cm.MayB_any bt u W h
    rwa [hm] at this
  have hput := Cm.getB_put bt hm A [3, 3]
  have hcut := fun j hj => Cm.getB_cut bt hm A j hj
  rw [hQ, hL] at hput
  simp only [hQ, hL] at hcut
  have G1 : ∀ v w, Rd w v (A ++ Q ++ [3, 3]) → Calls Try.prog 10 #[v, .int .i64 (len1 : Int)] w (Cm.GetsBX (bt, ((len1 : Int) + (L : Int)), 0) w) := fun v w h => by
    have := Cm.GetB_any v _ (len1 : Int) w h (by omega)
    rw [← hrl, hput, Int.natCast_add] at this
    rw [← hrl]
    exact this.mono fun _ _ q => q.x
  have G2 : ∀ v w, Rd w v ((A ++ Q).take (len1 + K)) → Calls Try.prog 10 #[v, .int .i64 (len1 : Int)] w (Cm.GetsBX (Cm.zeroB, 0, 2) w) := fun v w h => by
    have := Cm.GetB_any v _ (len1 : Int) w h (by omega)
    have e : (A ++ Q).take (len1 + K) = A ++ Q.take K := by rw [← hrl, List.take_append, List.take_of_length_le (by omega), show A.length + K - A.length = K by omega]
    rw [e, ← hrl, hcut K hK9] at this
    rw [← hrl]
    exact this.mono fun _ _ q => q.x
  rcases hG : Cm.getB (Q.set J (UInt8.ofNat ((Q.getD J 0).toNat ^^^ b))) 0 with ⟨⟨zf, zv, zt, zs, zm, zl⟩, gt, gc⟩
  obtain ⟨T0, T1⟩ := Cm.turnB bt hm J b (by rw [hQL]; exact hJ9) lb L hQL _ gt gc (by rw [hQ]; exact hG)
  have G3 : ∀ v w, Rd w v (Q.set J (UInt8.ofNat ((Q.getD J 0).toNat ^^^ b))) → Calls Try.prog 10 #[v, .int .i64 0] w (Cm.GetsBX (⟨zf, zv, zt, zs, zm, zl⟩, gt, gc) w) := fun v w h => by
    have := Cm.GetB_any v _ 0 w h (by omega)
    rw [hG] at this
    exact this.mono fun _ _ q => q.x
  have CSy : ∀ W u v, Cm.RdR W u bt.reqs → Cm.RdR W v bt.reqs → Calls Try.prog 15 #[Cm.batVal bt u, Cm.batVal bt v] W (Cm.SaysB true W) := fun W u v h h2 => by
    have := Cm.SameB_any bt bt u v W h h2
    rwa [(Cm.sameB_iff bt bt).2 rfl] at this
  obtain ⟨Sz, CSz, T2⟩ : ∃ Sz, (∀ W u v, Cm.RdR W u zl → Cm.RdR W v bt.reqs → Calls Try.prog 15 #[Cm.batVal ⟨zf, zv, zt, zs, zm, zl⟩ u, Cm.batVal bt v] W (Cm.SaysB Sz W)) ∧ ((b = 0 → gt = (L : Int) ∧ gc = 0 ∧ Sz = true) ∧ (b ≠ 0 → gc = 0 → gt = (L : Int) → Sz = false)) :=
    ⟨_, fun W u v h h2 => Cm.SameB_any ⟨zf, zv, zt, zs, zm, zl⟩ bt u v W h h2, fun h0 => by obtain ⟨e1, e2, e3⟩ := T0 h0; exact ⟨e2, e3, by rw [e1]; exact (Cm.sameB_iff bt bt).2 rfl⟩, T1⟩
  have hq : (Q.getD J 0).toNat < 256 := UInt8.toNat_lt _
  have hAQ : (A ++ Q).length = len1 + L ∧ 0 < len1 + L := ⟨by rw [List.length_append, hrl, hL], by omega⟩
  clear T0 T1 hG hput hcut hm hQ hQL
  obtain ⟨fb, vb, tb, sb, mb, lq⟩ := bt
  obtain ⟨LB, hLB⟩ : ∃ LB, lq.length = LB := ⟨_, rfl⟩
  obtain ⟨LZ, hLZ⟩ : ∃ LZ, zl.length = LZ := ⟨_, rfl⟩
  unfold Cm.GetsBX at G1 G2 G3
  unfold Cm.batVal at C1 C2 G1 G2 G3 CSy CSz ⊢
  dsimp only at C1 C2 G1 G2 G3 CSy CSz HRD0 ⊢
  simp only [hLB] at G1 HRD0 ⊢
  simp only [hLZ] at G3
  simp only [Cm.zeroB, List.length_nil] at G2
  clear hLB hLZ
  have C1 := Lib.hid C1
  have C2 := Lib.hid C2
  have G1 := Lib.hid G1
  have G2 := Lib.hid G2
  have G3 := Lib.hid G3
  have CSy := Lib.hid CSy
  have CSz := Lib.hid CSz
  have T2 := Lib.hid T2
  have HAQ := Lib.hid hAQ
  have HL := Lib.hid hL
  have HRL := Lib.hid hrl
  obtain ⟨q, hqq⟩ : ∃ q, (Q.getD J 0).toNat = q := ⟨_, rfl⟩
  rw [hqq] at hq G3
  have hxr : bits .xor .u8 (q : Int) (b : Int) = ((q ^^^ b : Nat) : Int) := u8_xor_nat q b hq lb
  have hxb : q ^^^ b < 256 := by have : q ^^^ b < 2 ^ 8 := Nat.xor_lt_two_pow (by omega) (by omega); omega
  obtain ⟨X, hX⟩ : ∃ X, q ^^^ b = X := ⟨_, rfl⟩
  rw [hX] at hxr hxb G3
  have HQQ := Lib.hid hqq
  clear hX hqq hAQ hL hrl
  obtain ⟨i0, hi, hz0, hz1, hz2⟩ := info_parts info8
  go_upto_region 4 with fail
  have hst := newAlloc w1 (.cells #[.bool fb, .int .i64 vb, .int .i64 tb, .int .i64 sb, .int .i64 mb, .slice ba LB bc] 26)
  have HX : Hid (Cm.HeapAt (w1.alloc (.cells #[.bool fb, .int .i64 vb, .int .i64 tb, .int .i64 sb, .int .i64 mb, .slice ba LB bc] 26)) w1.heap.size (.cells #[.bool fb, .int .i64 vb, .int .i64 tb, .int .i64 sb, .int .i64 mb, .slice ba LB bc] 26)) := Lib.hid (Cm.alloc_atB _ _ _ rfl)
  have RX := Lib.hid (HRD0.later hst)
  have RA := Lib.hid (hrA0.later hst)
  have BW := Lib.hid (step hb1 hst)
  generalize hW : w1.alloc _ = W at HX RX RA BW ⊢
  generalize w1.heap.size = xb at HX ⊢
  clear hW HRD0 hrA0 hb1 hst
  have hA := HX.out; have k0 := Cm.cell_at hA 0; have k1 := Cm.cell_at hA 1; have k2 := Cm.cell_at hA 2; have k3 := Cm.cell_at hA 3; have k4 := Cm.cell_at hA 4; have k5 := Cm.cell_at hA 5; simp only [List.getElem?_toArray, List.getElem?_cons_zero, List.getElem?_cons_succ] at k0 k1 k2 k3 k4 k5; clear hA
  go_upto_region 7 with (first
    | (go_at_call 8; refine (C1.out _ _ RX.out).mono ?_; rintro e w2 ⟨pg, pc, rfl, ho2, hr2, hb2⟩; have RP := Lib.hid hr2; have HX := Lib.hid (HX.out.later hb2); have RX := Lib.hid (RX.out.later hb2); have RA := Lib.hid (RA.out.later hb2); have BW := Lib.hid (step BW.out hb2); clear ho2 hr2 hb2; have hA := HX.out; have k0 := Cm.cell_at hA 0; have k1 := Cm.cell_at hA 1; have k2 := Cm.cell_at hA 2; have k3 := Cm.cell_at hA 3; have k4 := Cm.cell_at hA 4; have k5 := Cm.cell_at hA 5; simp only [List.getElem?_toArray, List.getElem?_cons_zero, List.getElem?_cons_succ] at k0 k1 k2 k3 k4 k5; clear hA)
    | (go_at_call 12; refine (C2.out _ _ RX.out).mono ?_; rintro e w3 ⟨rfl, hb3⟩; have RP := Lib.hid (RP.out.later hb3); have HX := Lib.hid (HX.out.later hb3); have RX := Lib.hid (RX.out.later hb3); have RA := Lib.hid (RA.out.later hb3); have BW := Lib.hid (step BW.out hb3); clear hb3))
  clear k0 k1 k2 k3 k4 k5
  go_upto_region 8 with (first
    | (at_builtin; refine wpList_append_rd rfl (.tmp 48) (.tmp 49) 27 rfl w3.heap.size 5 i0 Try.underlying27 hi hz0 hz1 hz2 (.slice (some ⟨w3.heap.size, 0, none⟩) 0 0) 0 [] rfl (own_empty w3 _ (Nat.le_refl _)) _ A rfl (RA.out.later (newAlloc _ _)) (by have := HRL.out; omega) (by simp) ?_; intro v4 w4 hown4 hgrow4; have hb4 : Below w3.heap.size w3 w4 := ((Below.refl _ _).alloc (Nat.le_refl _) _).grown hgrow4 (by simp) (fun k hk => by simp [Value.ownBlock] at hk; omega))
    | (at_builtin; refine wpList_append_rd rfl (.tmp 50) (.tmp 51) 27 rfl w3.heap.size 5 i0 Try.underlying27 hi hz0 hz1 hz2 v4 _ _ rfl hown4 _ Q rfl (RP.out.later hb4) (by have := HRL.out; rw [HL.out]; omega) hb4.size ?_; intro v5 w5 hown5 hgrow5; have hb5 := hb4.grown hgrow5 hb4.size (fun k hk => (hown4.lt k hk).1); obtain ⟨g5, c5, hv5, hc5, hg5, hr5⟩ := back_shape2 HAQ.out hown5; rw [hv5]; have R5 := Lib.hid hr5; have RP := Lib.hid (RP.out.later hb5); have HX := Lib.hid (HX.out.later hb5); have RX := Lib.hid (RX.out.later hb5); have BW := Lib.hid (step BW.out hb5); clear hv5 hown5 hown4 hgrow5 hgrow4 hb4 hb5 hr5))
  go_wp2_with (at_builtin; refine wpList_append_full rfl (.tmp 59) (.tmp 60) 27 rfl 5 rfl i0 Try.underlying27 hi hz0 hz1 hz2 g5 (len1 + L) (A ++ Q) rfl (R5.out.full.later (newAlloc _ _)) (by omega) _ [3, 3] rfl (rd_lit w5 #[.int .u8 3, .int .u8 3] [3, 3] rfl (by simp [maxLen])) (by simp) (by simp; omega) ?_; intro c6 w6 hr6 hb6)
  have hr6' : Rd w6 (.slice (some ⟨w5.heap.size + 1, 0, none⟩) (len1 + L + 2) c6) (A ++ Q ++ [3, 3]) := by simpa using hr6
  refine (G1.out _ _ hr6').mono ?_
  rintro e w7 ⟨ya, yc, rfl, rdy, hb7⟩
  have B7 := step (step (newAlloc w5 _) hb6) hb7
  clear hr6 hr6' hb6 hb7 G1
  go_upto_region 9 with fail
  have hst := newAlloc w7 (.cells #[.bool fb, .int .i64 vb, .int .i64 tb, .int .i64 sb, .int .i64 mb, .slice ya LB yc] 26)
  have B8 := step B7 hst
  have HX := Lib.hid (HX.out.later B8)
  have RX := Lib.hid (RX.out.later B8)
  have RP := Lib.hid (RP.out.later B8)
  have R5 := Lib.hid (R5.out.later B8)
  have BW := Lib.hid (step BW.out B8)
  have HY : Hid (Cm.HeapAt (w7.alloc (.cells #[.bool fb, .int .i64 vb, .int .i64 tb, .int .i64 sb, .int .i64 mb, .slice ya LB yc] 26)) w7.heap.size (.cells #[.bool fb, .int .i64 vb, .int .i64 tb, .int .i64 sb, .int .i64 mb, .slice ya LB yc] 26)) := Lib.hid (Cm.alloc_atB _ _ _ rfl)
  have RY := Lib.hid (rdy.later hst)
  generalize hW : w7.alloc _ = W at HX RX RP R5 BW HY RY ⊢
  generalize w7.heap.size = yb at HY ⊢
  clear hW hst B7 B8 rdy
  go_wp2_with fail
  refine (G2.out _ _ (R5.out.pre (m := len1 + K) (by omega))).mono ?_
  rintro e w8 ⟨ea, ec, rfl, rde, hb8⟩
  clear G2 rde
  go_upto_region 10 with fail
  have hst := stepAlloc hb8 (.cells #[.bool false, .int .i64 0, .int .i64 0, .int .i64 0, .int .i64 0, .slice ea 0 ec] 26)
  have HX := Lib.hid (HX.out.later hst)
  have RX := Lib.hid (RX.out.later hst)
  have RP := Lib.hid (RP.out.later hst)
  have HY := Lib.hid (HY.out.later hst)
  have RY := Lib.hid (RY.out.later hst)
  have BW := Lib.hid (step BW.out hst)
  clear R5
  generalize hW : w8.alloc _ = W2 at HX RX RP HY RY BW ⊢
  generalize w8.heap.size = eb at ⊢
  clear hW hst hb8
  go_upto_region 11 with (at_builtin; refine wpList_append_rd rfl (.tmp 85) (.tmp 86) 27 rfl W2.heap.size 5 i0 Try.underlying27 hi hz0 hz1 hz2 (.slice (some ⟨W2.heap.size, 0, none⟩) 0 0) 0 [] rfl (own_empty W2 _ (Nat.le_refl _)) _ Q rfl (RP.out.later (newAlloc _ _)) (by rw [HL.out]; omega) (by simp) ?_; intro v9 w9 hown9 hgrow9; have hb9 : Below W2.heap.size W2 w9 := ((Below.refl _ _).alloc (Nat.le_refl _) _).grown hgrow9 (by simp) (fun k hk => by simp [Value.ownBlock] at hk; omega); obtain ⟨g9, c9, hv9, hg9, ho9, hr9⟩ := back_shape1 ⟨HL.out, by omega⟩ hown9; rw [hv9]; clear hv9 hown9 hgrow9)
  have hc9 := cell_of_rd hr9 J hJ9
  rw [HQQ.out] at hc9
  have hz9 := ho9.frozenAt J
  have BS := Lib.hid (hb9.setCell (p := ⟨g9, J, none⟩) hg9 (.int .u8 (X : Int)))
  have RC : Hid (Rd (w9.setCell ⟨g9, J, none⟩ (.int .u8 (X : Int))) (.slice (some ⟨g9, 0, none⟩) L c9) (Q.set J (UInt8.ofNat X))) := Lib.hid (by
    have := own_set ho9 J X hxb
    have hCl : (Q.set J (UInt8.ofNat X)).length = L := by rw [List.length_set]; exact HL.out
    rw [← hCl] at this ⊢
    exact Rd.own this)
  clear ho9 hr9 hb9 hg9
  go_upto_region 12 with fail
  have HX := Lib.hid (HX.out.later BS.out)
  have RX := Lib.hid (RX.out.later BS.out)
  have HY := Lib.hid (HY.out.later BS.out)
  have RY := Lib.hid (RY.out.later BS.out)
  have BW := Lib.hid (step BW.out BS.out)
  clear hc9 hz9 hxr hxb BS RP
  generalize w9.setCell _ _ = W3 at HX RX HY RY BW RC ⊢
  go_wp2_with fail
  refine (G3.out _ _ RC.out).mono ?_
  rintro e w10 ⟨za, zc, rfl, rdz, hb10⟩
  clear G3 RC
  go_upto_region 13 with fail
  have hst := newAlloc w10 (.cells #[.bool zf, .int .i64 zv, .int .i64 zt, .int .i64 zs, .int .i64 zm, .slice za LZ zc] 26)
  have B8 := step hb10 hst
  have HX := Lib.hid (HX.out.later B8)
  have RX := Lib.hid (RX.out.later B8)
  have HY := Lib.hid (HY.out.later B8)
  have RY := Lib.hid (RY.out.later B8)
  have BW := Lib.hid (step BW.out B8)
  have HZ : Hid (Cm.HeapAt (w10.alloc (.cells #[.bool zf, .int .i64 zv, .int .i64 zt, .int .i64 zs, .int .i64 zm, .slice za LZ zc] 26)) w10.heap.size (.cells #[.bool zf, .int .i64 zv, .int .i64 zt, .int .i64 zs, .int .i64 zm, .slice za LZ zc] 26)) := Lib.hid (Cm.alloc_atB _ _ _ rfl)
  have RZ := Lib.hid (rdz.later hst)
  generalize hW : w10.alloc _ = W4 at HX RX HY RY BW HZ RZ ⊢
  generalize w10.heap.size = zb at HZ ⊢
  clear hW hst B8 rdz hb10
  have hA := HX.out; have k0 := Cm.cell_at hA 0; have k1 := Cm.cell_at hA 1; have k2 := Cm.cell_at hA 2; have k3 := Cm.cell_at hA 3; have k4 := Cm.cell_at hA 4; have k5 := Cm.cell_at hA 5; simp only [List.getElem?_toArray, List.getElem?_cons_zero, List.getElem?_cons_succ] at k0 k1 k2 k3 k4 k5; clear hA
  have hA := HY.out; have y0 := Cm.cell_at hA 0; have y1 := Cm.cell_at hA 1; have y2 := Cm.cell_at hA 2; have y3 := Cm.cell_at hA 3; have y4 := Cm.cell_at hA 4; have y5 := Cm.cell_at hA 5; simp only [List.getElem?_toArray, List.getElem?_cons_zero, List.getElem?_cons_succ] at y0 y1 y2 y3 y4 y5; clear hA
  have hA := HZ.out; have z0 := Cm.cell_at hA 0; have z1 := Cm.cell_at hA 1; have z2 := Cm.cell_at hA 2; have z3 := Cm.cell_at hA 3; have z4 := Cm.cell_at hA 4; have z5 := Cm.cell_at hA 5; simp only [List.getElem?_toArray, List.getElem?_cons_zero, List.getElem?_cons_succ] at z0 z1 z2 z3 z4 z5; clear hA
  by_cases hb0 : b = 0
  · obtain ⟨rfl, rfl, rfl⟩ := T2.out.1 hb0
    subst hb0
    clear T2
    go_upto_region 15 with (go_at_call 15; refine (CSz.out _ _ _ RZ.out RX.out).mono ?_; rintro e w11 ⟨rfl, hb11⟩; have HX := Lib.hid (HX.out.later hb11); have HY := Lib.hid (HY.out.later hb11); have RX := Lib.hid (RX.out.later hb11); have RY := Lib.hid (RY.out.later hb11); have BW := Lib.hid (step BW.out hb11); clear hb11)
    have hA := HX.out; have k0 := Cm.cell_at hA 0; have k1 := Cm.cell_at hA 1; have k2 := Cm.cell_at hA 2; have k3 := Cm.cell_at hA 3; have k4 := Cm.cell_at hA 4; have k5 := Cm.cell_at hA 5; simp only [List.getElem?_toArray, List.getElem?_cons_zero, List.getElem?_cons_succ] at k0 k1 k2 k3 k4 k5; clear hA
    have hA := HY.out; have y0 := Cm.cell_at hA 0; have y1 := Cm.cell_at hA 1; have y2 := Cm.cell_at hA 2; have y3 := Cm.cell_at hA 3; have y4 := Cm.cell_at hA 4; have y5 := Cm.cell_at hA 5; simp only [List.getElem?_toArray, List.getElem?_cons_zero, List.getElem?_cons_succ] at y0 y1 y2 y3 y4 y5; clear hA
    go_wp2_with (first
      | (go_at_call 15; refine (CSy.out _ _ _ RY.out RX.out).mono ?_; rintro e w12 ⟨rfl, hb12⟩; have BW := Lib.hid (step BW.out hb12))
      | (go_at_call 7; refine (C0.out _).mono ?_; rintro e w13 ⟨rfl, hb13⟩))
    go_ret
    exact ⟨rfl, step BW.out hb13⟩
  have d2 : ((b : Int) == 0) = false := by simp; omega
  by_cases hg : gc = 0
  · subst hg
    by_cases hgt : gt = (L : Int)
    · subst hgt
      obtain rfl := T2.out.2 hb0 rfl rfl
      clear T2
      go_upto_region 15 with (go_at_call 15; refine (CSz.out _ _ _ RZ.out RX.out).mono ?_; rintro e w11 ⟨rfl, hb11⟩; have HX := Lib.hid (HX.out.later hb11); have HY := Lib.hid (HY.out.later hb11); have RX := Lib.hid (RX.out.later hb11); have RY := Lib.hid (RY.out.later hb11); have BW := Lib.hid (step BW.out hb11); clear hb11)
      have hA := HX.out; have k0 := Cm.cell_at hA 0; have k1 := Cm.cell_at hA 1; have k2 := Cm.cell_at hA 2; have k3 := Cm.cell_at hA 3; have k4 := Cm.cell_at hA 4; have k5 := Cm.cell_at hA 5; simp only [List.getElem?_toArray, List.getElem?_cons_zero, List.getElem?_cons_succ] at k0 k1 k2 k3 k4 k5; clear hA
      have hA := HY.out; have y0 := Cm.cell_at hA 0; have y1 := Cm.cell_at hA 1; have y2 := Cm.cell_at hA 2; have y3 := Cm.cell_at hA 3; have y4 := Cm.cell_at hA 4; have y5 := Cm.cell_at hA 5; simp only [List.getElem?_toArray, List.getElem?_cons_zero, List.getElem?_cons_succ] at y0 y1 y2 y3 y4 y5; clear hA
      go_wp2_with (first
        | (go_at_call 15; refine (CSy.out _ _ _ RY.out RX.out).mono ?_; rintro e w12 ⟨rfl, hb12⟩; have BW := Lib.hid (step BW.out hb12))
        | (go_at_call 7; refine (C0.out _).mono ?_; rintro e w13 ⟨rfl, hb13⟩))
      go_ret
      exact ⟨rfl, step BW.out hb13⟩
    · have d1 : (gt == (L : Int)) = false := by simpa using hgt
      clear T2
      go_wp2_with (first
        | (go_at_call 15; refine (CSy.out _ _ _ RY.out RX.out).mono ?_; rintro e w12 ⟨rfl, hb12⟩; have BW := Lib.hid (step BW.out hb12))
        | (go_at_call 7; refine (C0.out _).mono ?_; rintro e w13 ⟨rfl, hb13⟩))
      go_ret
      exact ⟨rfl, step BW.out hb13⟩
  · have d1 : (gc == 0) = false := by simpa using hg
    clear T2
    go_wp2_with (first
      | (go_at_call 15; refine (CSy.out _ _ _ RY.out RX.out).mono ?_; rintro e w12 ⟨rfl, hb12⟩; have BW := Lib.hid (step BW.out hb12))
      | (go_at_call 7; refine (C0.out _).mono ?_; rintro e w13 ⟨rfl, hb13⟩))
    go_ret
    exact ⟨rfl, step BW.out hb13⟩

/-! ### THE ROW's STEP -/
set_option maxRecDepth 100000 in
theorem lifted (os : Os) (started : os.Started) (H : Type) (enc : TypeId × Value → H) :
    ReturnsInHanded {} Try.checked os 4 .any (Rows.batchBackSpec.pre6 enc Try.prog Try.f4 Rows.batchBackRow.domain false) (Rows.batchBackSpec.post enc Try.prog Try.f4 false true false false) := by
  refine returnsInHanded_of_change_sized (C := Try.checked) own started (by kernel_rfl) Try.func4
    (ChangeSpec.witness6 (enc := enc) (C := Try.checked) false ⟨#[], #[.slice none 0 0, .slice none 0 0, .int .u16 0, .int .u16 0, .int .u8 0], []⟩ 8 (by kernel_rfl) (by kernel_rfl) (by kernel_rfl) (by kernel_rfl)) ?_
  intro W base args ds gs before hval0 hW hcnd hsz _
  have hval : ∀ (j : Nat) t v, Try.f4.params[j]? = some t → args[j]? = some v → Value.okWide Try.prog W .any base t v := hval0
  have hW' := hW
  obtain ⟨p, q, hA0, hV, rfl, hfz, hnd⟩ := hW
  have hA : DataW.TrodAll enc Try.prog W 0 (fun _ => true) true Try.f4.params.toList args.toList ds p := hA0
  rw [Try.params4] at hA hval hsz
  obtain ⟨v0, vs0, d0, ds0, p0, q0, hargs, rfl, rfl, h0, r0⟩ := trodAll_cons hA
  obtain ⟨v1, vs1, d1, ds1, p1, q1, rfl, rfl, rfl, h1, r1⟩ := trodAll_cons r0
  obtain ⟨v2, vs2, d2, ds2, p2, q2, rfl, rfl, rfl, h2, r2⟩ := trodAll_cons r1
  obtain ⟨v3, vs3, d3, ds3, p3, q3, rfl, rfl, rfl, h3, r3⟩ := trodAll_cons r2
  obtain ⟨v4, vs4, d4, ds4, p4, q4, rfl, rfl, rfl, h4, r4⟩ := trodAll_cons r3
  obtain ⟨rfl, rfl, rfl⟩ := trodAll_nil r4
  obtain rfl : args = #[v0, v1, v2, v3, v4] := by cases args; simp_all
  obtain ⟨rfl, rfl⟩ := trodVars_none hV
  obtain ⟨a0, len0, cap0, rfl⟩ := okWide_slice Try.underlying27 (hval 0 27 v0 rfl rfl)
  have k0 := h0
  have lt0 : ∀ x ∈ p0, x.block < W.heap.size := by obtain ⟨m, hm⟩ := k0; exact DataW.trod_lt m _ _ _ hm
  obtain ⟨z0, w0, s0⟩ : ∃ zs, IsRow .u8 W a0 len0 cap0 zs ∧ len0 ≤ 140737488355328 := by
    obtain ⟨fuel, hf⟩ := h0
    rcases open_ints Try.underlying27 Try.underlying5 (by kernel_rfl) hf with ⟨hcs, _⟩ | ⟨x, l, c, zs, hcs, _, hl, hm, hz, hdd, hcell, hwz⟩
    · simp [Value.cells] at hcs
      obtain ⟨rfl, rfl, rfl⟩ := hcs
      exact ⟨[], .inl ⟨rfl, rfl, rfl, rfl⟩, by omega⟩
    · simp [Value.cells] at hcs
      obtain ⟨rfl, rfl, rfl⟩ := hcs
      have hd' := congrArg Prod.fst hdd
      have hs := sized_slice (j := 0) hsz rfl (show (_ : List (DataW H))[0]? = some (.slice (lits .u8 (zs.take len0)) (lits .u8 (zs.drop len0))) from congrArg some hd') Try.underlying27
      have hb : Try.checked.prog.bytesOf 5 = 1 := by kernel_rfl
      rw [hb] at hs
      have hr := reachBytes_lt
      simp [lits] at hs
      exact ⟨zs, .inr ⟨_, rfl, hl, hm, by simpa using hz, hcell, hwz⟩, by simp at hz; omega⟩
  obtain ⟨a1, len1, cap1, rfl⟩ := okWide_slice Try.underlying27 (hval 1 27 v1 rfl rfl)
  have k1 := h1
  have lt1 : ∀ x ∈ p1, x.block < W.heap.size := by obtain ⟨m, hm⟩ := k1; exact DataW.trod_lt m _ _ _ hm
  obtain ⟨z1, w1, s1⟩ : ∃ zs, IsRow .u8 W a1 len1 cap1 zs ∧ len1 ≤ 140737488355328 := by
    obtain ⟨fuel, hf⟩ := h1
    rcases open_ints Try.underlying27 Try.underlying5 (by kernel_rfl) hf with ⟨hcs, _⟩ | ⟨x, l, c, zs, hcs, _, hl, hm, hz, hdd, hcell, hwz⟩
    · simp [Value.cells] at hcs
      obtain ⟨rfl, rfl, rfl⟩ := hcs
      exact ⟨[], .inl ⟨rfl, rfl, rfl, rfl⟩, by omega⟩
    · simp [Value.cells] at hcs
      obtain ⟨rfl, rfl, rfl⟩ := hcs
      have hd' := congrArg Prod.fst hdd
      have hs := sized_slice (j := 1) hsz rfl (show (_ : List (DataW H))[1]? = some (.slice (lits .u8 (zs.take len1)) (lits .u8 (zs.drop len1))) from congrArg some hd') Try.underlying27
      have hb : Try.checked.prog.bytesOf 5 = 1 := by kernel_rfl
      rw [hb] at hs
      have hr := reachBytes_lt
      simp [lits] at hs
      exact ⟨zs, .inr ⟨_, rfl, hl, hm, by simpa using hz, hcell, hwz⟩, by simp at hz; omega⟩
  obtain ⟨a2, rfl, rfl, rfl, w2⟩ := open_int Try.underlying38 (hval 2 38 v2 rfl rfl) h2
  obtain ⟨a3, rfl, rfl, rfl, w3⟩ := open_int Try.underlying38 (hval 3 38 v3 rfl rfl) h3
  obtain ⟨a4, rfl, rfl, rfl, w4⟩ := open_int Try.underlying5 (hval 4 5 v4 rfl rfl) h4
  clear hA0 hval0
  refine (walk a0 len0 cap0 z0 a1 len1 cap1 z1 a2 a3 a4 W w0 s0 w1 s1 w2 w3 w4).mono fun e W' ⟨he, bel⟩ => ?_
  subst he
  exact ⟨_, rfl, _, _, _, [], _, [], hW', trodAll_mk1 (shut_bool Try.underlying4 _), (trodAll_cons_mk (Below.trod laidOut (by kernel_rfl) (of_decide_eq_true (by kernel_rfl)) k0 bel lt0) (trodAll_cons_mk (Below.trod laidOut (by kernel_rfl) (of_decide_eq_true (by kernel_rfl)) k1 bel lt1) (trodAll_cons_mk (shut_int Try.underlying38 w2) (trodAll_cons_mk (shut_int Try.underlying38 w3) (trodAll_cons_mk (shut_int Try.underlying5 w4) trodAll_mk0))))), rfl, bel.frame _, fun h => by cases h⟩

theorem over : Rows.batchBackRow.holds Try.pinned (OpenSpec.ofChange Rows.batchBackSpec) :=
  OpenClaim.holds_of_wide 4 Try.f4 rfl rfl rfl rfl rfl rfl rfl ⟨rfl, rfl, rfl, rfl, rfl⟩ rfl rfl rfl rfl rfl (by kernel_rfl) Try.func4 (by kernel_rfl)
    (of_decide_eq_true (by kernel_rfl)) (by unfold Func.isWrapper; first | (rw [if_pos (by decide +kernel)]; kernel_rfl) | (rw [if_neg (by decide +kernel)]; exact ⟨rfl, rfl⟩))
    (fun os started H enc _ => lifted os started H enc)

/-- THE STATEMENT -/
theorem proved : Rows.BatchBackSaid := over
end Go.Proofs.Ytlaomehfhooiaaa.batchBack
