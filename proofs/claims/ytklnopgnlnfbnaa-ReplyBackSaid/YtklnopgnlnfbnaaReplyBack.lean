/- PROVED: the statement ReplyBack of layer 5: for every input that can be read, the law returns true and leaves its arguments as they were. No condition. -/
import Derived.Test.YtklnopgnlnfbnaaRows
import Derived.Test.YtklnopgnlnfbnaaLaw5B
import Derived.WalkKit
import Derived.ProofKit
import Derived.OpenShut
import Derived.ShutString
import Derived.ChangeOld
import Derived.Below
import Derived.Deep.Cut
import Derived.Deep.CutBlock
import Derived.Deep.DeepCutAuto
namespace Go.Proofs.Ytklnopgnlnfbnaa.replyBack
open Go.ChangeShapes Go.WideShapes Go.ChangeAt Go.RowKit
open Go.ChangeMaps (open_string shut_string)
open Go.Sort (grow)
set_option linter.unusedVariables false

theorem own : ownKnob Try.prog.godebug = none := by kernel_rfl
theorem laidOut : laidOutB Try.prog = true := by kernel_rfl

/-! ### STEP 1: THE WALK -/
set_option maxRecDepth 100000 in
set_option maxHeartbeats 4000000 in
theorem walk (a0 : Option Addr) (len0 cap0 : Nat) (z0 : List Int) (a1 : Int) (a2 : Int) (a3 : Option Addr) (len3 cap3 : Nat) (z3 : List Int) (a4 : Int) (w : World) (w0 : IsRow .u8 w a0 len0 cap0 z0) (w1 : (Lit.int .u8 a1).wf = true) (w2 : (Lit.int .u8 a2).wf = true) (w3 : IsRow .u8 w a3 len3 cap3 z3) (w4 : (Lit.int .u16 a4).wf = true) :
    Calls Try.prog 5 #[.slice a0 len0 cap0, .int .u8 a1, .int .u8 a2, .slice a3 len3 cap3, .int .u16 a4] w fun e w' => e = .returned (.bool true) ∧ Below w.heap.size w w' := by
  obtain ⟨hn, hnl⟩ := w0.rd
  generalize bytesOf z0 len0 = NS at hn hnl
  obtain ⟨hr, hrl⟩ := w3.rd
  generalize bytesOf z3 len3 = A at hr hrl
  have nat8 : ∀ a : Int, (Lit.int .u8 a).wf = true → ∃ n : Nat, a = (n : Int) ∧ n < 256 := fun a h => by
    simp [Lit.wf, IntKind.min, IntKind.max, IntKind.signed, IntKind.bits] at h
    exact ⟨a.toNat, by omega, by omega⟩
  obtain ⟨n1, rfl, l1⟩ := nat8 a1 w1
  obtain ⟨n2, rfl, l2⟩ := nat8 a2 w2
  obtain ⟨ct, rfl, lc⟩ : ∃ n : Nat, a4 = (n : Int) ∧ n < 65536 := by
    have h := w4
    simp [Lit.wf, IntKind.min, IntKind.max, IntKind.signed, IntKind.bits] at h
    exact ⟨a4.toNat, by omega, by omega⟩
  clear nat8 w0 w1 w2 w3 w4
  have C0 := Lib.hid (fun w => Cm.awake_ok w)
  by_cases h1 : 100 < len3
  · go_enter Try.func5, Try.ntmps5
    go_wp2_with (go_at_call 9; refine (C0.out _).mono ?_; rintro e w1 ⟨rfl, hb1⟩)
    go_ret
    exact ⟨rfl, hb1⟩
  have CR := Lib.hid ((Cm.Reply_any _ NS w hn).mono fun e w' h => Cm.MadeP.s h)
  clear hn
  obtain ⟨cl, hcl, hcl8⟩ : ∃ c : Nat, (n1 : Int) % 8 = (c : Int) ∧ c < 8 := ⟨n1 % 8, (Int.natCast_emod n1 8).symm, Nat.mod_lt _ (by omega)⟩
  go_enter Try.func5, Try.ntmps5
  go_upto_region 4 with (go_at_call 26; refine CR.out.mono ?_; rintro e w1 ⟨k, s, d, l, a, p, rfl, hm, hd, hb1⟩)
  have hmA : Cm.mayA ⟨(cl : Int), 1 + (n2 : Int), ⟨k, s, d, l⟩⟩ = true := by unfold Cm.mayA Cm.highF; simp [hm]; omega
  have HMP := Lib.hid hm
  have hL := Cm.bytesA_length ⟨(cl : Int), 1 + (n2 : Int), ⟨k, s, d, l⟩⟩
  have hle := Cm.bytesP_le ⟨k, s, d, l⟩ hm
  rw [Cm.bytesP_length] at hle
  obtain ⟨L, hLL⟩ : ∃ L, (Cm.bytesA ⟨(cl : Int), 1 + (n2 : Int), ⟨k, s, d, l⟩⟩).length = L := ⟨_, rfl⟩
  dsimp only at hL hle
  have hL1 : 20 ≤ L := by omega
  have hL2 : L ≤ 104 := by omega
  have C1 : Hid (∀ w', Cm.RdH w' (.slice a l.length p) l → Calls Try.prog 19 #[.agg #[.int .i64 (cl : Int), .int .i64 (1 + (n2 : Int)), .int .i64 k, .int .i64 s, .int .i64 d, .slice a l.length p]] w' (Row L (Cm.bytesA ⟨(cl : Int), 1 + (n2 : Int), ⟨k, s, d, l⟩⟩) w')) := fun w' hw => (Cm.RepPutAnswer_any ⟨(cl : Int), 1 + (n2 : Int), ⟨k, s, d, l⟩⟩ _ w' hw).mono fun e w' q => by
    unfold Cm.putA at q
    rw [if_pos hmA] at q
    exact row_of hLL (by omega) q
  have C2 : Hid (∀ w', Cm.RdH w' (.slice a l.length p) l → Calls Try.prog 23 #[.agg #[.int .i64 (cl : Int), .int .i64 (1 + (n2 : Int)), .int .i64 k, .int .i64 s, .int .i64 d, .slice a l.length p]] w' (Cm.SaysB true w')) := fun w' hw => by
    have := Cm.RepMayAnswer_any ⟨(cl : Int), 1 + (n2 : Int), ⟨k, s, d, l⟩⟩ _ w' hw
    rw [hmA] at this
    exact this
  have C3 : Hid (∀ w', Cm.RdH w' (.slice a l.length p) l → Calls Try.prog 10 #[.agg #[.int .i64 k, .int .i64 s, .int .i64 d, .slice a l.length p]] w' (Cm.MadeS ((Cm.bytesA ⟨(cl : Int), 1 + (n2 : Int), ⟨k, s, d, l⟩⟩).drop 9, 0) w')) := fun w' hw => Cm.RepPut_in ⟨k, s, d, l⟩ _ hm w' hw
  have hput := Cm.getA_put _ hmA A [1]
  have hcut := fun j hj => Cm.getA_cut _ hmA A j hj
  have hSA := (Cm.sameA_iff ⟨(cl : Int), 1 + (n2 : Int), ⟨k, s, d, l⟩⟩ _).2 rfl
  have C4 : Hid (∀ u1 u2 w', Cm.RdH w' u1 l → Cm.RdH w' u2 l → Calls Try.prog 25 #[.agg #[.int .i64 (cl : Int), .int .i64 (1 + (n2 : Int)), .int .i64 k, .int .i64 s, .int .i64 d, u1], .agg #[.int .i64 (cl : Int), .int .i64 (1 + (n2 : Int)), .int .i64 k, .int .i64 s, .int .i64 d, u2]] w' (Cm.SaysB true w')) := fun u1 u2 w' h1 h2 => by
    have := Cm.SameAnswer_any ⟨(cl : Int), 1 + (n2 : Int), ⟨k, s, d, l⟩⟩ ⟨(cl : Int), 1 + (n2 : Int), ⟨k, s, d, l⟩⟩ u1 u2 w' h1 h2
    rw [hSA] at this
    exact this
  generalize Cm.bytesA ⟨(cl : Int), 1 + (n2 : Int), ⟨k, s, d, l⟩⟩ = P at C1 C3 hL hLL hput hcut
  have hAP : (A ++ P).length = len3 + L ∧ 0 < len3 + L := ⟨by rw [List.length_append, hrl, hLL], by omega⟩
  obtain ⟨K, hK, hK9⟩ : ∃ K : Nat, (ct : Int) % (L : Int) = (K : Int) ∧ K < L := ⟨ct % L, (Int.natCast_emod ct L).symm, Nat.mod_lt _ (by omega)⟩
  have G1 : Hid (∀ v w, Rd w v (A ++ P ++ [1]) → Calls Try.prog 21 #[v, .int .i64 (len3 : Int)] w (Cm.GetsAS (⟨(cl : Int), 1 + (n2 : Int), ⟨k, s, d, l⟩⟩, ((len3 : Int) + (L : Int)), 0) w)) := fun v w h => by
    have := Cm.RepGetAnswer_any v _ (len3 : Int) w h (by omega)
    rw [← hrl, hput, show ((20 : Int) + ((Cm.bytesH l).length : Int)) = (L : Int) by omega] at this
    rw [← hrl]
    exact this.mono fun e w' h => Cm.GetsA.s h
  have G2 : Hid (∀ v w, Rd w v ((A ++ P).take (len3 + K)) → Calls Try.prog 21 #[v, .int .i64 (len3 : Int)] w (Cm.GetsAS (Cm.zeroA, 0, 2) w)) := fun v w h => by
    have := Cm.RepGetAnswer_any v _ (len3 : Int) w h (by omega)
    have e : (A ++ P).take (len3 + K) = A ++ P.take K := by rw [← hrl, List.take_append, List.take_of_length_le (by omega), show A.length + K - A.length = K by omega]
    rw [e, ← hrl, hcut K (by omega)] at this
    rw [← hrl]
    exact this.mono fun e w' h => Cm.GetsA.s h
  unfold Cm.GetsAS Cm.ansVal at G1 G2
  dsimp only at G1 G2
  simp only [Cm.zeroA, Cm.zeroP, List.length_nil] at G2
  have HAP := Lib.hid hAP
  have HLL := Lib.hid hLL
  clear hput hcut hL hle hm hmA hAP hLL hSA CR
  obtain ⟨i0, hi, hz0, hz1, hz2⟩ := info_parts info8
  have QW := Lib.hid (Cm.box6 (Below.refl _ (w1.alloc (.cells #[.int .i64 (cl : Int), .int .i64 (1 + (n2 : Int)), .int .i64 k, .int .i64 s, .int .i64 d, .slice a l.length p] 37))))
  have HD := Lib.hid (hd.later (newAlloc w1 (.cells #[.int .i64 (cl : Int), .int .i64 (1 + (n2 : Int)), .int .i64 k, .int .i64 s, .int .i64 d, .slice a l.length p] 37)))
  have HBW := Lib.hid (stepAlloc hb1 (.cells #[.int .i64 (cl : Int), .int .i64 (1 + (n2 : Int)), .int .i64 k, .int .i64 s, .int .i64 d, .slice a l.length p] 37))
  generalize w1.alloc (.cells #[.int .i64 (cl : Int), .int .i64 (1 + (n2 : Int)), .int .i64 k, .int .i64 s, .int .i64 d, .slice a l.length p] 37) = W at QW HD HBW ⊢
  generalize w1.heap.size = B at QW ⊢
  clear hd hb1
  obtain ⟨c0, c1, c2, c3, c4, c5⟩ := QW.out
  go_wp2_with (first
    | (go_at_call 19; refine (C1.out _ HD.out).mono ?_; rintro e w2 ⟨pg, pc, rfl, ho2, hr2, hb2⟩; obtain ⟨c0, c1, c2, c3, c4, c5⟩ := Cm.cells6_later hb2 QW.out)
    | (go_at_call 23; refine (C2.out _ (HD.out.later hb2)).mono ?_; rintro e w3 ⟨rfl, hb3⟩; have B3 := Lib.hid (step hb2 hb3); have QR3 := Lib.hid (Cm.cells6_later B3.out QW.out); have hrA := Lib.hid (hr.later (step HBW.out B3.out)); have hrP := Lib.hid (hr2.later hb3); have HD3 := Lib.hid (HD.out.later B3.out); clear ho2 hr2 hb2 hb3 c0 c1 c2 c3 c4 c5 QW hr HD)
    | (at_builtin; refine wpList_append_rd rfl (.tmp 53) (.tmp 54) 26 rfl w3.heap.size 5 i0 Try.underlying26 hi hz0 hz1 hz2 (.slice (some ⟨w3.heap.size, 0, none⟩) 0 0) 0 [] rfl (own_empty w3 _ (Nat.le_refl _)) _ A rfl (hrA.out.later (newAlloc _ _)) (by omega) (by simp) ?_; intro v4 w4 hown4 hgrow4; have hb4 : Below w3.heap.size w3 w4 := ((Below.refl _ _).alloc (Nat.le_refl _) _).grown hgrow4 (by simp) (fun k hk => by simp [Value.ownBlock] at hk; omega))
    | (at_builtin; refine wpList_append_rd rfl (.tmp 55) (.tmp 56) 26 rfl w3.heap.size 5 i0 Try.underlying26 hi hz0 hz1 hz2 v4 _ _ rfl hown4 _ P rfl (hrP.out.later hb4) (by rw [HLL.out]; omega) hb4.size ?_; intro v5 w5 hown5 hgrow5; have hb5 := hb4.grown hgrow5 hb4.size (fun k hk => (hown4.lt k hk).1); obtain ⟨g5, c5, hv5, hc5, hg5, hr5⟩ := back_shape2 HAP.out hown5; rw [hv5]; have B5 := Lib.hid hb5; have HR5 := Lib.hid hr5; clear hv5 hown5 hown4 hgrow5 hgrow4 hb4 hb5 hr5)
    | (at_builtin; refine wpList_append_full rfl (.tmp 64) (.tmp 65) 26 rfl 5 rfl i0 Try.underlying26 hi hz0 hz1 hz2 g5 (len3 + L) (A ++ P) rfl (HR5.out.full.later (newAlloc _ _)) (by omega) _ [1] rfl (rd_lit w5 #[.int .u8 1] [1] rfl (by simp [maxLen])) (by simp) (by simp; omega) ?_; intro c6 w6 hr6 hb6))
  have hr6' : Rd w6 (.slice (some ⟨w5.heap.size + 1, 0, none⟩) (len3 + L + 1) c6) (A ++ P ++ [1]) := by simpa using hr6
  refine (G1.out _ _ hr6').mono ?_
  rintro e w7 ⟨ga, gp, rfl, hd7, hb7⟩
  have B7 := Lib.hid (step (step (newAlloc w5 _) hb6) hb7)
  have QX := Lib.hid (Cm.box6 (Below.refl _ (w7.alloc (.cells #[.int .i64 (cl : Int), .int .i64 (1 + (n2 : Int)), .int .i64 k, .int .i64 s, .int .i64 d, .slice ga l.length gp] 37))))
  have HDX := Lib.hid (hd7.later (newAlloc w7 (.cells #[.int .i64 (cl : Int), .int .i64 (1 + (n2 : Int)), .int .i64 k, .int .i64 s, .int .i64 d, .slice ga l.length gp] 37)))
  clear hr6 hr6' hb6 hb7 hd7 G1
  go_wp2_with fail
  refine (G2.out _ _ ((HR5.out.pre (m := len3 + K) (by omega)).later (stepAlloc B7.out _))).mono ?_
  rintro e w8 ⟨za, zp, rfl, hd8, hb8⟩
  have B8 := Lib.hid (stepAlloc hb8 (.cells #[.int .i64 0, .int .i64 0, .int .i64 0, .int .i64 0, .int .i64 0, .slice za 0 zp] 37))
  have BR := Lib.hid (step (stepAlloc (step B5.out B7.out) (.cells #[.int .i64 (cl : Int), .int .i64 (1 + (n2 : Int)), .int .i64 k, .int .i64 s, .int .i64 d, .slice ga l.length gp] 37)) B8.out)
  obtain ⟨c0, c1, c2, c3, c4, c5'⟩ := Cm.cells6_later BR.out QR3.out
  clear hb8 hd8 G2
  go_wp2_with (go_at_call 10; refine (C3.out _ (HD3.out.later BR.out)).mono ?_; rintro e w9 ⟨qa, ql, qc, rfl, hr9, hb9⟩)
  clear c0 c1 c2 c3 c4 c5'
  have B9 := Lib.hid (step BR.out hb9)
  have BX := Lib.hid (step B8.out hb9)
  obtain ⟨c0, c1, c2, c3, c4, c5'⟩ := Cm.cells6_later B9.out QR3.out
  obtain ⟨x0, x1, x2, x3, x4, x5⟩ := Cm.cells6_later BX.out QX.out
  have rP9 := hrP.out.later B9.out
  have hcap := Rd.cap rP9
  have rPd := Rd.drop (k := 9) rP9 (by omega)
  have HDX9 := Lib.hid (HDX.out.later BX.out)
  have HD9 := Lib.hid (HD3.out.later B9.out)
  have BW := Lib.hid (step (step HBW.out B3.out) B9.out)
  have k0 := cell_regrown c0
  have k1 := cell_regrown c1
  have k2 := cell_regrown c2
  have k3 := cell_regrown c3
  have k4 := cell_regrown c4
  have k5 := cell_regrown c5'
  have k6 := cell_regrown x0
  have k7 := cell_regrown x1
  have k8 := cell_regrown x2
  have k9 := cell_regrown x3
  have k10 := cell_regrown x4
  have k11 := cell_regrown x5
  have v1 := fun d os => conv_rd (grow (redrawn w9 d) os) (P := Try.prog) Try.underlying26 Try.underlying5 Try.underlying9 _ (P.drop 9) (hr9.later (below_regrown w9 d os))
  have v2 := fun d os => conv_rd (grow (redrawn w9 d) os) (P := Try.prog) Try.underlying26 Try.underlying5 Try.underlying9 _ (P.drop 9) (rPd.later (below_regrown w9 d os))
  have D1 := Lib.hid (fun d os => Calls.regrown_of (w := w9) (d := d) (os := os) (C4.out _ _ _ (HDX9.out.later (below_regrown w9 d os)) (HD9.out.later (below_regrown w9 d os))))
  have D2 := Lib.hid (fun d os => Calls.regrown_of (w := w9) (d := d) (os := os) (C0.out _))
  have e9 : (9 : Int) ≤ (L : Int) := by omega
  have e9' : (L : Int) ≤ (pc : Int) := by omega
  have ne9 : pc ≠ 9 := by omega
  clear c0 c1 c2 c3 c4 c5' x0 x1 x2 x3 x4 x5 rP9 rPd hr9 hb9 C0 C1 C2 C3 C4 QR3 QX HDX HD3 hrP hrA
  refine wp_region_quiet_below (by kernel_rfl) (by kernel_rfl) ?_
  repeat (go_big_quiet_step (first
    | exact D1.out _ _
    | exact D2.out _ _))
  refine wpQuiet_nil ?_
  intro _ hw'
  obtain ⟨⟨dq, osq⟩, hw''⟩ := hw'
  subst hw''
  go_wp2
  go_ret
  exact ⟨rfl, step BW.out (below_regrown w9 dq osq)⟩

/-! ### THE ROW's STEP -/
set_option maxRecDepth 100000 in
theorem lifted (os : Os) (started : os.Started) (H : Type) (enc : TypeId × Value → H) :
    ReturnsInHanded {} Try.checked os 5 .any (Rows.replyBackSpec.pre6 enc Try.prog Try.f5 Rows.replyBackRow.domain false) (Rows.replyBackSpec.post enc Try.prog Try.f5 false true false false) := by
  refine returnsInHanded_of_change (C := Try.checked) own started (by kernel_rfl) Try.func5
    (ChangeSpec.witness6 (enc := enc) (C := Try.checked) false ⟨#[], #[.slice none 0 0, .int .u8 0, .int .u8 0, .slice none 0 0, .int .u16 0], []⟩ 8 (by kernel_rfl) (by kernel_rfl) (by kernel_rfl) (by kernel_rfl)) ?_
  intro W base args ds gs before hval0 hW hcnd _
  have hval : ∀ (j : Nat) t v, Try.f5.params[j]? = some t → args[j]? = some v → Value.okWide Try.prog W .any base t v := hval0
  have hW' := hW
  obtain ⟨p, q, hA0, hV, rfl, hfz, hnd⟩ := hW
  have hA : DataW.TrodAll enc Try.prog W 0 (fun _ => true) true Try.f5.params.toList args.toList ds p := hA0
  rw [Try.params5] at hA hval
  obtain ⟨v0, vs0, d0, ds0, p0, q0, hargs, rfl, rfl, h0, r0⟩ := trodAll_cons hA
  obtain ⟨v1, vs1, d1, ds1, p1, q1, rfl, rfl, rfl, h1, r1⟩ := trodAll_cons r0
  obtain ⟨v2, vs2, d2, ds2, p2, q2, rfl, rfl, rfl, h2, r2⟩ := trodAll_cons r1
  obtain ⟨v3, vs3, d3, ds3, p3, q3, rfl, rfl, rfl, h3, r3⟩ := trodAll_cons r2
  obtain ⟨v4, vs4, d4, ds4, p4, q4, rfl, rfl, rfl, h4, r4⟩ := trodAll_cons r3
  obtain ⟨rfl, rfl, rfl⟩ := trodAll_nil r4
  obtain rfl : args = #[v0, v1, v2, v3, v4] := by cases args; simp_all
  obtain ⟨rfl, rfl⟩ := trodVars_none hV
  obtain ⟨a0, len0, cap0, rfl⟩ := okWide_slice Try.underlying26 (hval 0 26 v0 rfl rfl)
  have k0 := h0
  have lt0 : ∀ x ∈ p0, x.block < W.heap.size := by obtain ⟨m, hm⟩ := k0; exact DataW.trod_lt m _ _ _ hm
  obtain ⟨z0, w0⟩ : ∃ zs, IsRow .u8 W a0 len0 cap0 zs := by
    obtain ⟨fuel, hf⟩ := h0
    rcases open_ints Try.underlying26 Try.underlying5 (by kernel_rfl) hf with ⟨hcs, _⟩ | ⟨x, l, c, zs, hcs, _, hl, hm, hz, _, hcell, hwz⟩
    · simp [Value.cells] at hcs
      obtain ⟨rfl, rfl, rfl⟩ := hcs
      exact ⟨[], .inl ⟨rfl, rfl, rfl, rfl⟩⟩
    · simp [Value.cells] at hcs
      obtain ⟨rfl, rfl, rfl⟩ := hcs
      exact ⟨zs, .inr ⟨_, rfl, hl, hm, by simpa using hz, hcell, hwz⟩⟩
  obtain ⟨a1, rfl, rfl, rfl, w1⟩ := open_int Try.underlying5 (hval 1 5 v1 rfl rfl) h1
  obtain ⟨a2, rfl, rfl, rfl, w2⟩ := open_int Try.underlying5 (hval 2 5 v2 rfl rfl) h2
  obtain ⟨a3, len3, cap3, rfl⟩ := okWide_slice Try.underlying26 (hval 3 26 v3 rfl rfl)
  have k3 := h3
  have lt3 : ∀ x ∈ p3, x.block < W.heap.size := by obtain ⟨m, hm⟩ := k3; exact DataW.trod_lt m _ _ _ hm
  obtain ⟨z3, w3⟩ : ∃ zs, IsRow .u8 W a3 len3 cap3 zs := by
    obtain ⟨fuel, hf⟩ := h3
    rcases open_ints Try.underlying26 Try.underlying5 (by kernel_rfl) hf with ⟨hcs, _⟩ | ⟨x, l, c, zs, hcs, _, hl, hm, hz, _, hcell, hwz⟩
    · simp [Value.cells] at hcs
      obtain ⟨rfl, rfl, rfl⟩ := hcs
      exact ⟨[], .inl ⟨rfl, rfl, rfl, rfl⟩⟩
    · simp [Value.cells] at hcs
      obtain ⟨rfl, rfl, rfl⟩ := hcs
      exact ⟨zs, .inr ⟨_, rfl, hl, hm, by simpa using hz, hcell, hwz⟩⟩
  obtain ⟨a4, rfl, rfl, rfl, w4⟩ := open_int Try.underlying44 (hval 4 44 v4 rfl rfl) h4
  clear hA0 hval0
  refine (walk a0 len0 cap0 z0 a1 a2 a3 len3 cap3 z3 a4 W w0 w1 w2 w3 w4).mono fun e W' ⟨he, bel⟩ => ?_
  subst he
  exact ⟨_, rfl, _, _, _, [], _, [], hW', trodAll_mk1 (shut_bool Try.underlying4 _), (trodAll_cons_mk (Below.trod laidOut (by kernel_rfl) (of_decide_eq_true (by kernel_rfl)) k0 bel lt0) (trodAll_cons_mk (shut_int Try.underlying5 w1) (trodAll_cons_mk (shut_int Try.underlying5 w2) (trodAll_cons_mk (Below.trod laidOut (by kernel_rfl) (of_decide_eq_true (by kernel_rfl)) k3 bel lt3) (trodAll_cons_mk (shut_int Try.underlying44 w4) trodAll_mk0))))), rfl, bel.frame _, fun h => by cases h⟩

theorem over : Rows.replyBackRow.holds Try.pinned (OpenSpec.ofChange Rows.replyBackSpec) :=
  OpenClaim.holds_of_wide 5 Try.f5 rfl rfl rfl rfl rfl rfl rfl ⟨rfl, rfl, rfl, rfl, rfl⟩ rfl rfl rfl rfl rfl (by kernel_rfl) Try.func5 (by kernel_rfl)
    (of_decide_eq_true (by kernel_rfl)) (by unfold Func.isWrapper; first | (rw [if_pos (by decide +kernel)]; kernel_rfl) | (rw [if_neg (by decide +kernel)]; exact ⟨rfl, rfl⟩))
    (fun os started H enc _ => lifted os started H enc)

/-- THE STATEMENT -/
theorem proved : Rows.ReplyBackSaid := over
end Go.Proofs.Ytklnopgnlnfbnaa.replyBack
