/- PROVED: the statement CmdBack of layer 4: for every input that can be read, the law returns true and leaves its arguments as they were. No condition. -/
import Derived.Test.YtgjeheekemebaaaRows
import Derived.Test.YtgjeheekemebaaaLaw4C
import Derived.WalkKit
import Derived.ProofKit
import Derived.OpenShut
import Derived.ShutString
import Derived.ChangeOld
import Derived.Below
import Derived.Deep.Cut
import Derived.Deep.CutBlock
import Derived.Deep.DeepCutAuto
namespace Go.Proofs.Ytgjeheekemebaaa.cmdBack
open Go.ChangeShapes Go.WideShapes Go.ChangeAt Go.RowKit
open Go.ChangeMaps (open_string shut_string)
open Go.Sort (grow)
set_option linter.unusedVariables false

theorem own : ownKnob Try.prog.godebug = none := by kernel_rfl
theorem laidOut : laidOutB Try.prog = true := by kernel_rfl

/-! ### STEP 1: THE WALK -/
set_option maxRecDepth 100000 in
set_option maxHeartbeats 4000000 in
theorem walk (a0 : Int) (a1 : Int) (a2 : Int) (a3 : Int) (a4 : Int) (a5 : Option Addr) (len5 cap5 : Nat) (z5 : List Int) (a6 : Int) (a7 : Int) (w : World) (w0 : (Lit.int .u8 a0).wf = true) (w1 : (Lit.int .u8 a1).wf = true) (w2 : (Lit.int .u8 a2).wf = true) (w3 : (Lit.int .u8 a3).wf = true) (w4 : (Lit.int .u8 a4).wf = true) (w5 : IsRow .u8 w a5 len5 cap5 z5) (w6 : (Lit.int .u8 a6).wf = true) (w7 : (Lit.int .u8 a7).wf = true) :
    Calls Try.prog 5 #[.int .u8 a0, .int .u8 a1, .int .u8 a2, .int .u8 a3, .int .u8 a4, .slice a5 len5 cap5, .int .u8 a6, .int .u8 a7] w fun e w' => e = .returned (.bool true) ∧ Below w.heap.size w w' := by
  obtain ⟨hr, hrl⟩ := w5.rd
  generalize bytesOf z5 len5 = A at hr hrl
  have nat8 : ∀ a : Int, (Lit.int .u8 a).wf = true → ∃ n : Nat, a = (n : Int) ∧ n < 256 := fun a h => by
    simp [Lit.wf, IntKind.min, IntKind.max, IntKind.signed, IntKind.bits] at h
    exact ⟨a.toNat, by omega, by omega⟩
  obtain ⟨n0, rfl, l0⟩ := nat8 a0 w0
  obtain ⟨n1, rfl, l1⟩ := nat8 a1 w1
  obtain ⟨n2, rfl, l2⟩ := nat8 a2 w2
  obtain ⟨n3, rfl, l3⟩ := nat8 a3 w3
  obtain ⟨n4, rfl, l4⟩ := nat8 a4 w4
  obtain ⟨ct, rfl, lc⟩ := nat8 a6 w6
  obtain ⟨b, rfl, lb⟩ := nat8 a7 w7
  clear nat8 w0 w1 w2 w3 w4 w5 w6 w7
  have C0 := Lib.hid (fun w => Cm.awake_ok w)
  by_cases h1 : 100 < len5
  · go_enter Try.func5, Try.ntmps5
    go_wp2_with (go_at_call 9; refine (C0.out _).mono ?_; rintro e w1 ⟨rfl, hb1⟩)
    go_ret
    exact ⟨rfl, hb1⟩
  have CR := Lib.hid (fun w => Cm.Req_any n0 n1 n2 n3 n4 w l0 l1 l2 l3 l4)
  have hm := Cm.reqOf_may n0 n1 n2 n3 n4 l1
  generalize Cm.reqOf n0 n1 n2 n3 n4 = R at CR hm
  obtain ⟨_, _, hmc⟩ := Cm.mayR_bounds R hm
  obtain ⟨hk, _, hnl⟩ := Cm.may_bounds R.cmd hmc
  obtain ⟨k, hkk⟩ := Int.eq_ofNat_of_zero_le (show 0 ≤ R.cmd.kind by omega)
  have hk8 : k < 256 := by omega
  obtain ⟨T0, T1⟩ := Cm.turned R hm k b hkk hk8 lb
  have hL := Cm.bytesR_length R
  obtain ⟨L, hLL⟩ : ∃ L, (Cm.bytesR R).length = L := ⟨_, rfl⟩
  have hL1 : 19 ≤ L := by omega
  have hL2 : L ≤ 31 := by omega
  have C1 : Hid (∀ w, Calls Try.prog 18 #[Cm.reqVal R] w (Row L (Cm.bytesR R) w)) := fun w => (Cm.PutReq_any R w).mono fun e w' q => by
    unfold Cm.putR at q
    rw [if_pos hm] at q
    exact row_of hLL (by omega) q
  have C2 := Lib.hid (fun w => Cm.MayReq_any R w)
  rw [hm] at C2
  have hput := Cm.getR_put R hm A [7, 7]
  have hcut := fun j hj => Cm.getR_cut R hm A j hj
  have hkb : (Cm.bytesR R).getD 9 0 = UInt8.ofNat k := by rw [Cm.kind_byte, hkk, Int.toNat_natCast]
  generalize Cm.bytesR R = P at C1 hL hLL hput hcut T0 T1 hkb
  rcases hG : Cm.getR (P.set 9 (UInt8.ofNat (k ^^^ b))) 0 with ⟨⟨gl, gq, gk, gs, gn⟩, gt, gc⟩
  rw [hG] at T0 T1
  dsimp only at T1
  obtain ⟨rc, rq, rk, rs, rn⟩ := R
  dsimp only at hkk hk hnl hL T0
  subst hkk
  have hAP : (A ++ P).length = len5 + L ∧ 0 < len5 + L := ⟨by rw [List.length_append, hrl, hLL], by omega⟩
  obtain ⟨K, hK, hK9⟩ : ∃ K : Nat, (ct : Int) % (L : Int) = (K : Int) ∧ K < L := ⟨ct % L, (Int.natCast_emod ct L).symm, Nat.mod_lt _ (by omega)⟩
  have G1 : Hid (∀ v w, Rd w v (A ++ P ++ [7, 7]) → Calls Try.prog 20 #[v, .int .i64 (len5 : Int)] w (Cm.GetsR (⟨rc, rq, ⟨(k : Int), rs, rn⟩⟩, ((len5 : Int) + (L : Int)), 0) w)) := fun v w h => by
    have := Cm.GetReq_any v _ (len5 : Int) w h (by omega)
    rw [← hrl, hput, show (19 + (rn.length : Int)) = (L : Int) by omega] at this
    rw [← hrl]
    exact this
  have G2 : Hid (∀ v w, Rd w v ((A ++ P).take (len5 + K)) → Calls Try.prog 20 #[v, .int .i64 (len5 : Int)] w (Cm.GetsR (Cm.zeroR, 0, 2) w)) := fun v w h => by
    have := Cm.GetReq_any v _ (len5 : Int) w h (by omega)
    have e : (A ++ P).take (len5 + K) = A ++ P.take K := by rw [← hrl, List.take_append, List.take_of_length_le (by omega), show A.length + K - A.length = K by omega]
    rw [e, ← hrl, hcut K (by omega)] at this
    rw [← hrl]
    exact this
  have G3 : Hid (∀ v w, Rd w v (P.set 9 (UInt8.ofNat (k ^^^ b))) → Calls Try.prog 20 #[v, .int .i64 0] w (Cm.GetsR (⟨gl, gq, gk, gs, gn⟩, gt, gc) w)) := fun v w h => by
    have := Cm.GetReq_any v _ 0 w h (by omega)
    rw [hG] at this
    exact this
  have hxr : bits .xor .u8 (k : Int) (b : Int) = ((k ^^^ b : Nat) : Int) := u8_xor_nat k b hk8 lb
  have hxb : k ^^^ b < 256 := by have : k ^^^ b < 2 ^ 8 := Nat.xor_lt_two_pow (by omega) (by omega); omega
  generalize k ^^^ b = X at *
  have HKB := Lib.hid hkb
  have HAP := Lib.hid hAP
  have HLL := Lib.hid hLL
  have TT := Lib.hid (And.intro T0 T1)
  clear hput hcut hG T0 T1 hkb hL hm hmc hk hAP hLL
  unfold Cm.reqVal at CR C1 C2
  unfold Cm.GetsR Cm.reqVal at G1 G2 G3
  dsimp only at CR C1 C2 G1 G2 G3
  simp only [Cm.zeroR, Cm.zero] at G2
  obtain ⟨i0, hi, hz0, hz1, hz2⟩ := info_parts info8
  go_enter Try.func5, Try.ntmps5
  go_wp2_with (first
    | (go_at_call 24; refine (CR.out _).mono ?_; rintro e w1 ⟨rfl, hb1⟩; have QR := Lib.hid (Cm.box5 (Below.refl _ (w1.alloc (.cells #[.int .i64 rc, .int .i64 rq, .int .i64 (k : Int), .int .i64 rs, .string (bstr rn)] 35)))))
    | (go_at_call 18; refine (C1.out _).mono ?_; rintro e w2 ⟨pg, pc, rfl, ho2, hr2, hb2⟩; obtain ⟨c0, c1, c2, c3, c4⟩ := Cm.cells5_later hb2 QR.out)
    | (go_at_call 22; refine (C2.out _).mono ?_; rintro e w3 ⟨rfl, hb3⟩; have B3 := Lib.hid (step (stepAlloc hb1 (.cells #[.int .i64 rc, .int .i64 rq, .int .i64 (k : Int), .int .i64 rs, .string (bstr rn)] 35)) (step hb2 hb3)); have QR3 := Lib.hid (Cm.cells5_later (step hb2 hb3) QR.out); have hrA := Lib.hid (hr.later B3.out); have hrP := Lib.hid (hr2.later hb3); clear ho2 hr2 hb2 hb3 c0 c1 c2 c3 c4 QR hr hb1)
    | (at_builtin; refine wpList_append_rd rfl (.tmp 58) (.tmp 59) 24 rfl w3.heap.size 5 i0 Try.underlying24 hi hz0 hz1 hz2 (.slice (some ⟨w3.heap.size, 0, none⟩) 0 0) 0 [] rfl (own_empty w3 _ (Nat.le_refl _)) _ A rfl (hrA.out.later (newAlloc _ _)) (by omega) (by simp) ?_; intro v4 w4 hown4 hgrow4; have hb4 : Below w3.heap.size w3 w4 := ((Below.refl _ _).alloc (Nat.le_refl _) _).grown hgrow4 (by simp) (fun k hk => by simp [Value.ownBlock] at hk; omega))
    | (at_builtin; refine wpList_append_rd rfl (.tmp 60) (.tmp 61) 24 rfl w3.heap.size 5 i0 Try.underlying24 hi hz0 hz1 hz2 v4 _ _ rfl hown4 _ P rfl (hrP.out.later hb4) (by rw [HLL.out]; omega) hb4.size ?_; intro v5 w5 hown5 hgrow5; have hb5 := hb4.grown hgrow5 hb4.size (fun k hk => (hown4.lt k hk).1); obtain ⟨g5, c5, hv5, hc5, hg5, hr5⟩ := back_shape2 HAP.out hown5; rw [hv5]; have B5 := Lib.hid hb5; have HR5 := Lib.hid hr5; clear hv5 hown5 hown4 hgrow5 hgrow4 hb4 hb5 hr5)
    | (at_builtin; refine wpList_append_full rfl (.tmp 69) (.tmp 70) 24 rfl 5 rfl i0 Try.underlying24 hi hz0 hz1 hz2 g5 (len5 + L) (A ++ P) rfl (HR5.out.full.later (newAlloc _ _)) (by omega) _ [7, 7] rfl (rd_lit w5 #[.int .u8 7, .int .u8 7] [7, 7] rfl (by simp [maxLen])) (by simp) (by simp; omega) ?_; intro c6 w6 hr6 hb6))
  have hr6' : Rd w6 (.slice (some ⟨w5.heap.size + 1, 0, none⟩) (len5 + L + 2) c6) (A ++ P ++ [7, 7]) := by simpa using hr6
  refine (G1.out _ _ hr6').mono ?_
  rintro e w7 ⟨rfl, hb7⟩
  have B7 := Lib.hid (step (step (newAlloc w5 _) hb6) hb7)
  have QX := Lib.hid (Cm.box5 (Below.refl _ (w7.alloc (.cells #[.int .i64 rc, .int .i64 rq, .int .i64 (k : Int), .int .i64 rs, .string (bstr rn)] 35))))
  clear hr6 hr6' hb6 hb7 G1
  go_wp2_with fail
  refine (G2.out _ _ ((HR5.out.pre (m := len5 + K) (by omega)).later (stepAlloc B7.out _))).mono ?_
  rintro e w8 ⟨rfl, hb8⟩
  have B8 := Lib.hid (stepAlloc hb8 (.cells #[.int .i64 0, .int .i64 0, .int .i64 0, .int .i64 0, .string (bstr [])] 35))
  have hrP8 := Lib.hid (hrP.out.later (stepAlloc (step (stepAlloc (step B5.out B7.out) (.cells #[.int .i64 rc, .int .i64 rq, .int .i64 (k : Int), .int .i64 rs, .string (bstr rn)] 35)) hb8) (.cells #[.int .i64 0, .int .i64 0, .int .i64 0, .int .i64 0, .string (bstr [])] 35)))
  clear hb8 G2
  go_wp2_with (first
    | (at_builtin; refine wpList_append_rd rfl (.tmp 95) (.tmp 96) 24 rfl (w8.heap.size + 1) 5 i0 Try.underlying24 hi hz0 hz1 hz2 (.slice (some ⟨w8.heap.size + 1, 0, none⟩) 0 0) 0 [] rfl (own_empty_at (w8.alloc (.cells #[.int .i64 0, .int .i64 0, .int .i64 0, .int .i64 0, .string (bstr [])] 35)) _ _ (by simp) (Nat.le_refl _)) _ P rfl (hrP8.out.later (newAlloc _ _)) (by rw [HLL.out]; omega) (by simp) ?_; intro v9 w9 hown9 hgrow9; obtain ⟨g9, c9, hv9, hg9, ho9, hr9⟩ := back_shape1 ⟨HLL.out, by omega⟩ hown9; rw [hv9]; clear hv9; have B9 := Lib.hid ((stepAlloc (Below.refl _ (w8.alloc (.cells #[.int .i64 0, .int .i64 0, .int .i64 0, .int .i64 0, .string (bstr [])] 35))) (.cells #[] 5)).grown hgrow9 (by simp) (fun k hk => by simp [Value.ownBlock] at hk; simp; omega)); have hc9 := cell_of_rd hr9 9 (by omega); rw [HKB.out, toNat_byte k hk8] at hc9; have hz9 := ho9.frozenAt 9))
  have hCl : (P.set 9 (UInt8.ofNat X)).length = L := by rw [List.length_set]; exact HLL.out
  have hrC : Rd (w9.setCell ⟨g9, 9, none⟩ (.int .u8 (X : Int))) (.slice (some ⟨g9, 0, none⟩) L c9) (P.set 9 (UInt8.ofNat X)) := by
    have := own_set ho9 9 X hxb
    rw [← hCl] at this ⊢
    exact Rd.own this
  refine (G3.out _ _ hrC).mono ?_
  rintro e w10 ⟨rfl, hb10⟩
  have B10 := Lib.hid (stepAlloc (step (B9.out.setCell (p := ⟨g9, 9, none⟩) (by simp; omega) (.int .u8 (X : Int))) hb10) (.cells #[.int .i64 gl, .int .i64 gq, .int .i64 gk, .int .i64 gs, .string (bstr gn)] 35))
  have BX := Lib.hid (step B8.out B10.out)
  have BR := Lib.hid (step (stepAlloc (step B5.out B7.out) (.cells #[.int .i64 rc, .int .i64 rq, .int .i64 (k : Int), .int .i64 rs, .string (bstr rn)] 35)) BX.out)
  obtain ⟨y0, y1, y2, y3, y4⟩ := Cm.box5 (Below.refl _ (w10.alloc (.cells #[.int .i64 gl, .int .i64 gq, .int .i64 gk, .int .i64 gs, .string (bstr gn)] 35)))
  obtain ⟨x0, x1, x2, x3, x4⟩ := Cm.cells5_later BX.out QX.out
  obtain ⟨c0, c1, c2, c3, c4⟩ := Cm.cells5_later BR.out QR3.out
  have BW := Lib.hid (step B3.out BR.out)
  clear hrC hb10 ho9 hr9 hown9 hgrow9 hc9 hz9 hxr
  by_cases hb0 : b = 0
  · have e := TT.out.1 hb0
    simp only [Prod.mk.injEq, Cm.ReqV.mk.injEq, Cm.CmdV.mk.injEq] at e
    obtain ⟨⟨rfl, rfl, rfl, rfl, rfl⟩, _, rfl⟩ := e
    subst hb0
    clear TT
    go_wp2_with (go_at_call 9; refine (C0.out _).mono ?_; rintro e w11 ⟨rfl, hb11⟩)
    go_ret
    exact ⟨rfl, step BW.out hb11⟩
  · by_cases hg : gc = 0
    · subst hg
      have d1 : (gk == (k : Int)) = false := by have := TT.out.2 hb0 rfl; simpa using this
      have d2 : ((b : Int) == 0) = false := by simp; omega
      clear TT
      go_wp2_with (go_at_call 9; refine (C0.out _).mono ?_; rintro e w11 ⟨rfl, hb11⟩)
      go_ret
      exact ⟨rfl, step BW.out hb11⟩
    · have d1 : (gc == 0) = false := by simpa using hg
      clear TT
      go_wp2_with (go_at_call 9; refine (C0.out _).mono ?_; rintro e w11 ⟨rfl, hb11⟩)
      go_ret
      exact ⟨rfl, step BW.out hb11⟩

/-! ### THE ROW's STEP -/
set_option maxRecDepth 100000 in
theorem lifted (os : Os) (started : os.Started) (H : Type) (enc : TypeId × Value → H) :
    ReturnsInHanded {} Try.checked os 5 .any (Rows.cmdBackSpec.pre6 enc Try.prog Try.f5 Rows.cmdBackRow.domain false) (Rows.cmdBackSpec.post enc Try.prog Try.f5 false true false false) := by
  refine returnsInHanded_of_change (C := Try.checked) own started (by kernel_rfl) Try.func5
    (ChangeSpec.witness6 (enc := enc) (C := Try.checked) false ⟨#[], #[.int .u8 0, .int .u8 0, .int .u8 0, .int .u8 0, .int .u8 0, .slice none 0 0, .int .u8 0, .int .u8 0], []⟩ 8 (by kernel_rfl) (by kernel_rfl) (by kernel_rfl) (by kernel_rfl)) ?_
  intro W base args ds gs before hval0 hW hcnd _
  have hval : ∀ (j : Nat) t v, Try.f5.params[j]? = some t → args[j]? = some v → Value.okWide Try.prog W .any base t v := hval0
  have hW' := hW
  obtain ⟨p, q, hA0, hV, rfl, hfz, hnd⟩ := hW
  have hA : DataW.TrodAll enc Try.prog W 0 (fun _ => true) true Try.f5.params.toList args.toList ds p := hA0
  rw [Try.params5] at hA hval
  obtain ⟨v0, vs0, d0, ds0, p0, q0, hargs, rfl, rfl, h0, r0⟩ := trodAll_cons hA
  obtain ⟨v1, vs1, d1, ds1, p1, q1, rfl, rfl, rfl, h1, r1⟩ := trodAll_cons r0
  obtain ⟨v2, vs2, d2, ds2, p2, q2, rfl, rfl, rfl, h2, r2⟩ := trodAll_cons r1
  obtain ⟨v3, vs3, d3, ds3, p3, q3, rfl, rfl, rfl, h3, r3⟩ := trodAll_cons r2
  obtain ⟨v4, vs4, d4, ds4, p4, q4, rfl, rfl, rfl, h4, r4⟩ := trodAll_cons r3
  obtain ⟨v5, vs5, d5, ds5, p5, q5, rfl, rfl, rfl, h5, r5⟩ := trodAll_cons r4
  obtain ⟨v6, vs6, d6, ds6, p6, q6, rfl, rfl, rfl, h6, r6⟩ := trodAll_cons r5
  obtain ⟨v7, vs7, d7, ds7, p7, q7, rfl, rfl, rfl, h7, r7⟩ := trodAll_cons r6
  obtain ⟨rfl, rfl, rfl⟩ := trodAll_nil r7
  obtain rfl : args = #[v0, v1, v2, v3, v4, v5, v6, v7] := by cases args; simp_all
  obtain ⟨rfl, rfl⟩ := trodVars_none hV
  obtain ⟨a0, rfl, rfl, rfl, w0⟩ := open_int Try.underlying5 (hval 0 5 v0 rfl rfl) h0
  obtain ⟨a1, rfl, rfl, rfl, w1⟩ := open_int Try.underlying5 (hval 1 5 v1 rfl rfl) h1
  obtain ⟨a2, rfl, rfl, rfl, w2⟩ := open_int Try.underlying5 (hval 2 5 v2 rfl rfl) h2
  obtain ⟨a3, rfl, rfl, rfl, w3⟩ := open_int Try.underlying5 (hval 3 5 v3 rfl rfl) h3
  obtain ⟨a4, rfl, rfl, rfl, w4⟩ := open_int Try.underlying5 (hval 4 5 v4 rfl rfl) h4
  obtain ⟨a5, len5, cap5, rfl⟩ := okWide_slice Try.underlying24 (hval 5 24 v5 rfl rfl)
  have k5 := h5
  have lt5 : ∀ x ∈ p5, x.block < W.heap.size := by obtain ⟨m, hm⟩ := k5; exact DataW.trod_lt m _ _ _ hm
  obtain ⟨z5, w5⟩ : ∃ zs, IsRow .u8 W a5 len5 cap5 zs := by
    obtain ⟨fuel, hf⟩ := h5
    rcases open_ints Try.underlying24 Try.underlying5 (by kernel_rfl) hf with ⟨hcs, _⟩ | ⟨x, l, c, zs, hcs, _, hl, hm, hz, _, hcell, hwz⟩
    · simp [Value.cells] at hcs
      obtain ⟨rfl, rfl, rfl⟩ := hcs
      exact ⟨[], .inl ⟨rfl, rfl, rfl, rfl⟩⟩
    · simp [Value.cells] at hcs
      obtain ⟨rfl, rfl, rfl⟩ := hcs
      exact ⟨zs, .inr ⟨_, rfl, hl, hm, by simpa using hz, hcell, hwz⟩⟩
  obtain ⟨a6, rfl, rfl, rfl, w6⟩ := open_int Try.underlying5 (hval 6 5 v6 rfl rfl) h6
  obtain ⟨a7, rfl, rfl, rfl, w7⟩ := open_int Try.underlying5 (hval 7 5 v7 rfl rfl) h7
  clear hA0 hval0
  refine (walk a0 a1 a2 a3 a4 a5 len5 cap5 z5 a6 a7 W w0 w1 w2 w3 w4 w5 w6 w7).mono fun e W' ⟨he, bel⟩ => ?_
  subst he
  exact ⟨_, rfl, _, _, _, [], _, [], hW', trodAll_mk1 (shut_bool Try.underlying4 _), (trodAll_cons_mk (shut_int Try.underlying5 w0) (trodAll_cons_mk (shut_int Try.underlying5 w1) (trodAll_cons_mk (shut_int Try.underlying5 w2) (trodAll_cons_mk (shut_int Try.underlying5 w3) (trodAll_cons_mk (shut_int Try.underlying5 w4) (trodAll_cons_mk (Below.trod laidOut (by kernel_rfl) (of_decide_eq_true (by kernel_rfl)) k5 bel lt5) (trodAll_cons_mk (shut_int Try.underlying5 w6) (trodAll_cons_mk (shut_int Try.underlying5 w7) trodAll_mk0)))))))), rfl, bel.frame _, fun h => by cases h⟩

theorem over : Rows.cmdBackRow.holds Try.pinned (OpenSpec.ofChange Rows.cmdBackSpec) :=
  OpenClaim.holds_of_wide 5 Try.f5 rfl rfl rfl rfl rfl rfl rfl ⟨rfl, rfl, rfl, rfl, rfl⟩ rfl rfl rfl rfl rfl (by kernel_rfl) Try.func5 (by kernel_rfl)
    (of_decide_eq_true (by kernel_rfl)) (by unfold Func.isWrapper; first | (rw [if_pos (by decide +kernel)]; kernel_rfl) | (rw [if_neg (by decide +kernel)]; exact ⟨rfl, rfl⟩))
    (fun os started H enc _ => lifted os started H enc)

/-- THE STATEMENT -/
theorem proved : Rows.CmdBackSaid := over
end Go.Proofs.Ytgjeheekemebaaa.cmdBack
