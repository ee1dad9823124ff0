/- PROVED: the statement SnapBack of layer 11: for every input that can be read, the law returns true and leaves its arguments as they were. No condition. -/
import Derived.Test.YtlnbmblbeaodcaaGreatRows
import Derived.Test.YtlnbmblbeaodcaaGreatQS50
import Derived.WalkKit
import Derived.ProofKit
import Derived.OpenShut
import Derived.ShutString
import Derived.ChangeOld
import Derived.Below
import Derived.BigQuiet
import Derived.Lib.QuietBelow
import Derived.Deep.Cut
import Derived.Deep.CutBlock
import Derived.Deep.DeepCutAuto
namespace Go.Proofs.YtlnbmblbeaodcaaGreat.snapBack
open Go.ChangeShapes Go.WideShapes Go.ChangeAt Go.RowKit
open Go.ChangeMaps (open_string shut_string)
open Go.Sort (grow)
set_option linter.unusedVariables false
set_option maxRecDepth 8000
set_option linter.unusedSimpArgs false

theorem own : ownKnob Tryz.prog.godebug = none := by kernel_rfl
theorem laidOut : laidOutB Tryz.prog = true := by kernel_rfl

/-! ### STEP 1: THE WALK -/
set_option maxRecDepth 100000 in
set_option maxHeartbeats 4000000 in
theorem walk (a0 : List Cm.Act10 × Value) (a1 : Int) (a2 : Int) (a3 : Int) (a4 : Option Addr) (len4 cap4 : Nat) (z4 : List Int) (a5 : Int) (w : World) (w0 : Cm.act10OkA w a0) (w1 : (Lit.int .u8 a1).wf = true) (w2 : (Lit.int .u8 a2).wf = true) (w3 : (Lit.int .u8 a3).wf = true) (w4 : IsRow .u8 w a4 len4 cap4 z4) (w5 : (Lit.int .u16 a5).wf = true) :
    Calls Tryz.prog 6 #[Cm.act10A a0, .int .u8 a1, .int .u8 a2, .int .u8 a3, .slice a4 len4 cap4, .int .u16 a5] w fun e w' => e = .returned (.bool true) ∧ Below w.heap.size w w' := by
  obtain ⟨L0, v0⟩ := a0
  unfold Cm.act10OkA at w0
  unfold Cm.act10A
  dsimp only at w0 ⊢
  obtain ⟨hr, hrl⟩ := w4.rd
  generalize bytesOf z4 len4 = A at hr hrl
  have nat8 : ∀ a : Int, (Lit.int .u8 a).wf = true → ∃ n : Nat, a = (n : Int) ∧ n < 256 := fun a h => by
    simp [Lit.wf, IntKind.min, IntKind.max, IntKind.signed, IntKind.bits] at h
    exact ⟨a.toNat, by omega, by omega⟩
  have nat16 : ∀ a : Int, (Lit.int .u16 a).wf = true → ∃ n : Nat, a = (n : Int) ∧ n < 65536 := fun a h => by
    simp [Lit.wf, IntKind.min, IntKind.max, IntKind.signed, IntKind.bits] at h
    exact ⟨a.toNat, by omega, by omega⟩
  obtain ⟨d, rfl, ld⟩ := nat8 a1 w1
  obtain ⟨vi, rfl, lv⟩ := nat8 a2 w2
  obtain ⟨sl, rfl, ls⟩ := nat8 a3 w3
  obtain ⟨ct, rfl, lc⟩ := nat16 a5 w5
  clear nat8 nat16 w1 w2 w3 w4 w5
  have C0 := Lib.hid (fun w => Cm.awake11_ok w)
  by_cases h1 : 100 < len4
  · go_enter Tryz.func6, Tryz.ntmps6
    go_wp2_with (go_at_call 20; refine (C0.out _).mono ?_; rintro e w1 ⟨rfl, hb1⟩)
    go_ret
    exact ⟨rfl, hb1⟩
  have hfew := Cm.made_few 60 L0
  have CB := Lib.hid (Cm.Made_any11 v0 L0 d vi sl w w0 ld lv ls)
  obtain ⟨s, hs⟩ : ∃ s, Cm.madeA 60 (L0.take 60) = s := ⟨_, rfl⟩
  rw [hs] at hfew CB
  have hR := hfew.right
  clear hfew hs w0
  have hra : Cm.rightA s = true := (Cm.rightA_iff s).2 hR
  obtain ⟨XV, hXV⟩ : ∃ XV : Cm.SnV, XV = ⟨(d : Int), (vi : Int), (sl : Int), s⟩ := ⟨_, rfl⟩
  have hmay : Cm.maySV XV = true := by rw [hXV]; exact Cm.maySV_iff.2 ⟨by dsimp only; omega, by dsimp only; omega, by dsimp only; omega, hra⟩
  obtain ⟨hL1, hL2⟩ := Cm.bytesSV_bound hmay
  obtain ⟨Q, hQ⟩ : ∃ Q, Cm.bytesSV XV = Q := ⟨_, rfl⟩
  obtain ⟨L, hL⟩ : ∃ L, Q.length = L := ⟨_, rfl⟩
  rw [hQ, hL] at hL1 hL2
  obtain ⟨U, hU⟩ : ∃ U, Cm.bytesSt s = U := ⟨_, rfl⟩
  have hdrop : Q.drop 24 = U := by rw [← hQ, Cm.bytesSV_drop, hXV]; exact hU
  have hUL : U.length = L - 24 := by rw [← hdrop, List.length_drop, hL]
  obtain ⟨K, hK, hK9⟩ : ∃ K : Nat, (ct : Int) % (L : Int) = (K : Int) ∧ K < L := ⟨ct % L, (Int.natCast_emod ct L).symm, Nat.mod_lt _ (by omega)⟩
  have C1 : ∀ W y, Cm.RdSt W y → y.v = s → Calls Tryz.prog 25 #[Cm.snapVal ⟨(d : Int), (vi : Int), (sl : Int), y⟩] W (Row L Q W) := fun W y h e => by
    have hm : Cm.maySn ⟨(d : Int), (vi : Int), (sl : Int), y⟩ = true := by rw [← hmay, hXV, ← e]; rfl
    have hb : Cm.bytesSn ⟨(d : Int), (vi : Int), (sl : Int), y⟩ = Q := by rw [← hQ, hXV, ← e]; rfl
    have := Cm.PutSnap_row ⟨(d : Int), (vi : Int), (sl : Int), y⟩ W h (by show Cm.Rst y.v; rw [e]; exact hR) hm L (by rw [hb]; exact hL) (by omega)
    rwa [hb] at this
  have C2 : ∀ W y, Cm.RdSt W y → y.v = s → Calls Tryz.prog 29 #[Cm.snapVal ⟨(d : Int), (vi : Int), (sl : Int), y⟩] W (Cm.SaysB true W) := fun W y h e => by
    have hm : Cm.maySn ⟨(d : Int), (vi : Int), (sl : Int), y⟩ = true := by rw [← hmay, hXV, ← e]; rfl
    have hf := Cm.Rst.fits (x := y) (by rw [e]; exact hR)
    have := Cm.MaySnap_any ⟨(d : Int), (vi : Int), (sl : Int), y⟩ W h hf.1 hf.2.1 hf.2.2.1 hf.2.2.2
    rwa [hm] at this
  have C3 : ∀ W y, Cm.RdSt W y → y.v = s → Calls Tryz.prog 21 #[Cm.stVal y] W (Row (L - 24) U W) := fun W y h e => by
    have := Cm.SnapPut_row y W h (by rw [e]; exact hR) (L - 24) (by rw [e, hU]; exact hUL) (by omega)
    rwa [e, hU] at this
  have hput := Cm.getSn_put hmay A [9]
  have hcut := fun j hj => Cm.getSn_cut hmay A j hj
  rw [hQ, hL] at hput
  simp only [hQ, hL] at hcut
  have G1 : ∀ v w, Rd w v (A ++ Q ++ [9]) → Calls Tryz.prog 27 #[v, .int .i64 (len4 : Int)] w (fun e w' => ∃ x : Cm.StC, x.v = s ∧ e = .returned (.tuple #[Cm.snapVal ⟨(d : Int), (vi : Int), (sl : Int), x⟩, .int .i64 ((len4 : Int) + (L : Int)), .int .i64 0]) ∧ Cm.RdSt w' x ∧ Below w.heap.size w w') := fun v w h => by
    have := Cm.SnapGetSnap_any v _ (len4 : Int) w h (by omega)
    rw [← hrl, hput, Int.natCast_add] at this
    rw [← hrl]
    refine this.mono fun e w' q => ?_
    obtain ⟨x, q1, q2, q3, q4⟩ := q
    rw [hXV] at q1 q2
    exact ⟨x, q1, q2, q3.rd, q4⟩
  have G2 : ∀ v w, Rd w v ((A ++ Q).take (len4 + K)) → Calls Tryz.prog 27 #[v, .int .i64 (len4 : Int)] w (fun e w' => ∃ esa esc eka ekc ema emc, e = .returned (.tuple #[.agg #[.int .i64 0, .int .i64 0, .int .i64 0, .int .i64 0, .int .i64 0, .int .i64 0, .slice esa 0 esc, .slice eka 0 ekc, .slice ema 0 emc], .int .i64 0, .int .i64 2]) ∧ Below w.heap.size w w') := fun v w h => by
    have := Cm.SnapGetSnap_any v _ (len4 : Int) w h (by omega)
    have e : (A ++ Q).take (len4 + K) = A ++ Q.take K := by rw [← hrl, List.take_append, List.take_of_length_le (by omega), show A.length + K - A.length = K by omega]
    rw [e, ← hrl, hcut K hK9] at this
    rw [← hrl]
    refine this.mono fun e w' q => ?_
    obtain ⟨x, q1, q2, q3, q4⟩ := q
    obtain ⟨t, n, k, S, sa, sc, K, ka, kc, M, ma, mc⟩ := x
    have r1 : t = 0 := congrArg Cm.StV.time q1
    have r2 : n = 0 := congrArg Cm.StV.num q1
    have r3 : k = 0 := congrArg Cm.StV.token q1
    have r4 : S = [] := congrArg Cm.StV.ses q1
    have r5 : K = [] := List.map_eq_nil_iff.1 (congrArg Cm.StV.locks q1)
    have r6 : M = [] := List.map_eq_nil_iff.1 (congrArg Cm.StV.memos q1)
    subst r1 r2 r3 r4 r5 r6
    exact ⟨sa, sc, ka, kc, ma, mc, q2, q4⟩
  have CS1 : ∀ W x y, Cm.RdSt W x → Cm.RdSt W y → x.v = s → y.v = s → Calls Tryz.prog 32 #[Cm.snapVal ⟨(d : Int), (vi : Int), (sl : Int), x⟩, Cm.snapVal ⟨(d : Int), (vi : Int), (sl : Int), y⟩] W (Cm.SaysB true W) := fun W x y h h2 e e2 =>
    Cm.SameSnap_eq ⟨(d : Int), (vi : Int), (sl : Int), x⟩ ⟨(d : Int), (vi : Int), (sl : Int), y⟩ W h h2 (e.trans e2.symm) rfl rfl rfl
  have CS2 : ∀ W x y, Cm.RdSt W x → Cm.RdSt W y → x.v = s → y.v = s → Calls Tryz.prog 31 #[Cm.stVal x, Cm.stVal y] W (Cm.SaysB true W) := fun W x y h h2 e e2 => by
    have := Cm.SnapSame_any x y W h h2
    rwa [(Cm.sameSt_iff _ _).2 (e.trans e2.symm)] at this
  have hAQ : (A ++ Q).length = len4 + L ∧ 0 < len4 + L := ⟨by rw [List.length_append, hrl, hL], by omega⟩
  clear hput hcut hmay hXV hQ hR hra hU
  have C1 := Lib.hid C1
  have C2 := Lib.hid C2
  have C3 := Lib.hid C3
  have G1 := Lib.hid G1
  have G2 := Lib.hid G2
  have CS1 := Lib.hid CS1
  have CS2 := Lib.hid CS2
  have HAQ := Lib.hid hAQ
  have HL := Lib.hid hL
  have HRL := Lib.hid hrl
  have HDR := Lib.hid hdrop
  have HUL := Lib.hid hUL
  have hrA := Lib.hid hr
  clear hAQ hL hrl hdrop hUL hr
  obtain ⟨i0, hi, hz0, hz1, hz2⟩ := info_parts info8
  go_enter Tryz.func6, Tryz.ntmps6
  go_wp2_with fail
  refine CB.out.mono ?_
  rintro e w1 ⟨y, rfl, hyv, hry, hb1⟩
  clear CB
  have D10 := Lib.hid (fun W h => C1.out W y h hyv)
  have D20 := Lib.hid (fun W h => C2.out W y h hyv)
  have D30 := Lib.hid (fun W h => C3.out W y h hyv)
  have DS10 := Lib.hid (fun W x h h2 e => CS1.out W x y h h2 e hyv)
  have DS20 := Lib.hid (fun W x h h2 e => CS2.out W x y h h2 e hyv)
  have HRY0 := Lib.hid hry
  have HB1 := Lib.hid hb1
  clear C1 C2 C3 CS1 CS2 hyv hry hb1
  obtain ⟨RY, hRY⟩ : ∃ RY : World → Prop, RY = fun W => Cm.RdSt W y := ⟨_, rfl⟩
  have HRYL : Hid (∀ W W', RY W → Below W.heap.size W W' → RY W') := Lib.hid (by rw [hRY]; exact fun W W' h hb => Cm.RdSt.later h hb)
  have HRY : Hid (RY w1) := Lib.hid (by rw [hRY]; exact HRY0.out)
  have D1 : Hid (∀ W, RY W → Calls Tryz.prog 25 #[Cm.snapVal ⟨(d : Int), (vi : Int), (sl : Int), y⟩] W (Row L Q W)) := Lib.hid (by rw [hRY]; exact D10.out)
  have D2 : Hid (∀ W, RY W → Calls Tryz.prog 29 #[Cm.snapVal ⟨(d : Int), (vi : Int), (sl : Int), y⟩] W (Cm.SaysB true W)) := Lib.hid (by rw [hRY]; exact D20.out)
  have D3 : Hid (∀ W, RY W → Calls Tryz.prog 21 #[Cm.stVal y] W (Row (L - 24) U W)) := Lib.hid (by rw [hRY]; exact D30.out)
  have DS1 : Hid (∀ W x, Cm.RdSt W x → RY W → x.v = s → Calls Tryz.prog 32 #[Cm.snapVal ⟨(d : Int), (vi : Int), (sl : Int), x⟩, Cm.snapVal ⟨(d : Int), (vi : Int), (sl : Int), y⟩] W (Cm.SaysB true W)) := Lib.hid (by rw [hRY]; exact DS10.out)
  have DS2 : Hid (∀ W x, Cm.RdSt W x → RY W → x.v = s → Calls Tryz.prog 31 #[Cm.stVal x, Cm.stVal y] W (Cm.SaysB true W)) := Lib.hid (by rw [hRY]; exact DS20.out)
  clear hRY HRY0 D10 D20 D30 DS10 DS20
  obtain ⟨ti, nu, tk, S, sa, sc, KL, ka, kc, M, ma, mc⟩ := y
  unfold Cm.snapVal Cm.StC.sv Cm.StC.kv Cm.StC.mv at D1 D2 DS1
  unfold Cm.stVal Cm.StC.sv Cm.StC.kv Cm.StC.mv at D3 DS2
  unfold Cm.snapVal Cm.StC.sv Cm.StC.kv Cm.StC.mv
  dsimp only at D1 D2 D3 DS1 DS2 ⊢
  generalize S.length = NS at *
  generalize KL.length = NK at *
  generalize M.length = NM at *
  go_upto_region 4 with fail
  have hst := newAlloc w1 (.cells #[.int .i64 (d : Int), .int .i64 (vi : Int), .int .i64 (sl : Int), .int .i64 ti, .int .i64 nu, .int .i64 tk, .slice sa NS sc, .slice ka NK kc, .slice ma NM mc] 46)
  have HX : Hid (Cm.BxAt (w1.alloc (.cells #[.int .i64 (d : Int), .int .i64 (vi : Int), .int .i64 (sl : Int), .int .i64 ti, .int .i64 nu, .int .i64 tk, .slice sa NS sc, .slice ka NK kc, .slice ma NM mc] 46)) w1.heap.size (.cells #[.int .i64 (d : Int), .int .i64 (vi : Int), .int .i64 (sl : Int), .int .i64 ti, .int .i64 nu, .int .i64 tk, .slice sa NS sc, .slice ka NK kc, .slice ma NM mc] 46)) := Lib.hid (Cm.BxAt.new _ _)
  have RX := Lib.hid (HRYL.out _ _ HRY.out hst)
  have BW := Lib.hid (step HB1.out hst)
  have RA := Lib.hid (hrA.out.later BW.out)
  generalize hW : w1.alloc _ = W at HX RX RA BW ⊢
  generalize w1.heap.size = xb at HX ⊢
  clear hW HRY HB1 hst hrA
  have hA := HX.out; have k0 := Cm.cell_atW hA 0; have k1 := Cm.cell_atW hA 1; have k2 := Cm.cell_atW hA 2; have k3 := Cm.cell_atW hA 3; have k4 := Cm.cell_atW hA 4; have k5 := Cm.cell_atW hA 5; have k6 := Cm.cell_atW hA 6; have k7 := Cm.cell_atW hA 7; have k8 := Cm.cell_atW hA 8; simp only [List.getElem?_toArray, List.getElem?_cons_zero, List.getElem?_cons_succ] at k0 k1 k2 k3 k4 k5 k6 k7 k8; clear hA
  go_wp2_with fail
  refine (D1.out _ RX.out).mono ?_
  rintro e w2 ⟨pg, pc, rfl, ho2, hr2, hb2⟩
  have RP := Lib.hid hr2
  have HX := Lib.hid (HX.out.later hb2); have RX := Lib.hid (HRYL.out _ _ RX.out hb2); have RA := Lib.hid (RA.out.later hb2); have BW := Lib.hid (step BW.out hb2)
  clear ho2 hr2 hb2
  clear k0 ; clear k1 ; clear k2 ; clear k3 ; clear k4 ; clear k5 ; clear k6 ; clear k7 ; clear k8
  have hA := HX.out; have k0 := Cm.cell_atW hA 0; have k1 := Cm.cell_atW hA 1; have k2 := Cm.cell_atW hA 2; have k3 := Cm.cell_atW hA 3; have k4 := Cm.cell_atW hA 4; have k5 := Cm.cell_atW hA 5; have k6 := Cm.cell_atW hA 6; have k7 := Cm.cell_atW hA 7; have k8 := Cm.cell_atW hA 8; simp only [List.getElem?_toArray, List.getElem?_cons_zero, List.getElem?_cons_succ] at k0 k1 k2 k3 k4 k5 k6 k7 k8; clear hA
  go_wp2_with fail
  refine (D2.out _ RX.out).mono ?_
  rintro e w3 ⟨rfl, hb3⟩
  have RP := Lib.hid (RP.out.later hb3)
  have HX := Lib.hid (HX.out.later hb3); have RX := Lib.hid (HRYL.out _ _ RX.out hb3); have RA := Lib.hid (RA.out.later hb3); have BW := Lib.hid (step BW.out hb3)
  clear hb3
  clear k0 ; clear k1 ; clear k2 ; clear k3 ; clear k4 ; clear k5 ; clear k6 ; clear k7 ; clear k8
  go_upto_region 7 with fail
  go_upto_region 8 with (first
    | (at_builtin; refine wpList_append_rd rfl (.tmp 51) (.tmp 52) 47 rfl w3.heap.size 5 i0 Tryz.underlying47 hi hz0 hz1 hz2 (.slice (some ⟨w3.heap.size, 0, none⟩) 0 0) 0 [] rfl (own_empty w3 _ (Nat.le_refl _)) _ A rfl (RA.out.later (newAlloc _ _)) (by have := HRL.out; omega) (by simp) ?_; intro v4 w4 hown4 hgrow4; have hb4 : Below w3.heap.size w3 w4 := ((Below.refl _ _).alloc (Nat.le_refl _) _).grown hgrow4 (by simp) (fun k hk => by simp [Value.ownBlock] at hk; omega))
    | (at_builtin; refine wpList_append_rd rfl (.tmp 53) (.tmp 54) 47 rfl w3.heap.size 5 i0 Tryz.underlying47 hi hz0 hz1 hz2 v4 _ _ rfl hown4 _ Q rfl (RP.out.later hb4) (by have := HRL.out; rw [HL.out]; omega) hb4.size ?_; intro v5 w5 hown5 hgrow5; have hb5 := hb4.grown hgrow5 hb4.size (fun k hk => (hown4.lt k hk).1); obtain ⟨g5, c5, hv5, hc5, hg5, hr5⟩ := back_shape2 HAQ.out hown5; rw [hv5]; have R5 := Lib.hid hr5; have RP := Lib.hid (RP.out.later hb5); have HX := Lib.hid (HX.out.later hb5); have RX := Lib.hid (HRYL.out _ _ RX.out hb5); have BW := Lib.hid (step BW.out hb5); clear hv5 hown5 hown4 hgrow5 hgrow4 hb4 hb5 hr5))
  go_wp2_with (at_builtin; refine wpList_append_full rfl (.tmp 62) (.tmp 63) 47 rfl 5 rfl i0 Tryz.underlying47 hi hz0 hz1 hz2 g5 (len4 + L) (A ++ Q) rfl (R5.out.full.later (newAlloc _ _)) (by omega) _ [9] rfl (rd_lit w5 #[.int .u8 9] [9] rfl (by simp [maxLen])) (by simp) (by simp; omega) ?_; intro c6 w6 hr6 hb6)
  have hr6' : Rd w6 (.slice (some ⟨w5.heap.size + 1, 0, none⟩) (len4 + L + 1) c6) (A ++ Q ++ [9]) := by simpa using hr6
  refine (G1.out _ _ hr6').mono ?_
  rintro e w7 ⟨z, hzv, rfl, rdz, hb7⟩
  have B7 := step (step (newAlloc w5 _) hb6) hb7
  obtain ⟨zt, zn, zk, Sz, zsa, zsc, Kz, zka, zkc, Mz, zma, zmc⟩ := z
  have HZV := Lib.hid hzv
  have CZ1 := Lib.hid (fun W h h2 => DS1.out W ⟨zt, zn, zk, Sz, zsa, zsc, Kz, zka, zkc, Mz, zma, zmc⟩ h h2 hzv)
  have CZ2 := Lib.hid (fun W h h2 => DS2.out W ⟨zt, zn, zk, Sz, zsa, zsc, Kz, zka, zkc, Mz, zma, zmc⟩ h h2 hzv)
  clear hr6 hr6' hb6 hb7 G1 hzv DS1 DS2
  obtain ⟨RZ, hRZ⟩ : ∃ RZ : World → Prop, RZ = fun W => Cm.RdSt W ⟨zt, zn, zk, Sz, zsa, zsc, Kz, zka, zkc, Mz, zma, zmc⟩ := ⟨_, rfl⟩
  have HRZL : Hid (∀ W W', RZ W → Below W.heap.size W W' → RZ W') := Lib.hid (by rw [hRZ]; exact fun W W' h hb => Cm.RdSt.later h hb)
  have RZ7 : Hid (RZ w7) := Lib.hid (by rw [hRZ]; exact rdz)
  unfold Cm.snapVal Cm.StC.sv Cm.StC.kv Cm.StC.mv
  dsimp only at CZ1 CZ2 ⊢
  have CZ1 : Hid (∀ W, RZ W → RY W → Calls Tryz.prog 32 #[.agg #[.int .i64 (d : Int), .int .i64 (vi : Int), .int .i64 (sl : Int), .int .i64 zt, .int .i64 zn, .int .i64 zk, .slice zsa Sz.length zsc, .slice zka Kz.length zkc, .slice zma Mz.length zmc], .agg #[.int .i64 (d : Int), .int .i64 (vi : Int), .int .i64 (sl : Int), .int .i64 ti, .int .i64 nu, .int .i64 tk, .slice sa NS sc, .slice ka NK kc, .slice ma NM mc]] W (Cm.SaysB true W)) := Lib.hid (by rw [hRZ]; exact CZ1.out)
  have CZ2 : Hid (∀ W, RZ W → RY W → Calls Tryz.prog 31 #[.agg #[.int .i64 zt, .int .i64 zn, .int .i64 zk, .slice zsa Sz.length zsc, .slice zka Kz.length zkc, .slice zma Mz.length zmc], .agg #[.int .i64 ti, .int .i64 nu, .int .i64 tk, .slice sa NS sc, .slice ka NK kc, .slice ma NM mc]] W (Cm.SaysB true W)) := Lib.hid (by rw [hRZ]; exact CZ2.out)
  clear hRZ rdz
  generalize Sz.length = ZS at *
  generalize Kz.length = ZK at *
  generalize Mz.length = ZM at *
  go_upto_region 9 with fail
  have hst := newAlloc w7 (.cells #[.int .i64 (d : Int), .int .i64 (vi : Int), .int .i64 (sl : Int), .int .i64 zt, .int .i64 zn, .int .i64 zk, .slice zsa ZS zsc, .slice zka ZK zkc, .slice zma ZM zmc] 46)
  have B8 := step B7 hst
  have HX := Lib.hid (HX.out.later B8)
  have RX := Lib.hid (HRYL.out _ _ RX.out B8)
  have RP := Lib.hid (RP.out.later B8)
  have R5 := Lib.hid (R5.out.later B8)
  have BW := Lib.hid (step BW.out B8)
  have HY : Hid (Cm.BxAt (w7.alloc (.cells #[.int .i64 (d : Int), .int .i64 (vi : Int), .int .i64 (sl : Int), .int .i64 zt, .int .i64 zn, .int .i64 zk, .slice zsa ZS zsc, .slice zka ZK zkc, .slice zma ZM zmc] 46)) w7.heap.size (.cells #[.int .i64 (d : Int), .int .i64 (vi : Int), .int .i64 (sl : Int), .int .i64 zt, .int .i64 zn, .int .i64 zk, .slice zsa ZS zsc, .slice zka ZK zkc, .slice zma ZM zmc] 46)) := Lib.hid (Cm.BxAt.new _ _)
  have RZ8 := Lib.hid (HRZL.out _ _ RZ7.out hst)
  generalize hW : w7.alloc _ = W at HX RX RP R5 BW HY RZ8 ⊢
  generalize w7.heap.size = yb at HY ⊢
  clear hW hst B7 B8 RZ7
  go_wp2_with fail
  refine (G2.out _ _ (R5.out.pre (m := len4 + K) (by omega))).mono ?_
  rintro e w8 ⟨esa, esc, eka, ekc, ema, emc, rfl, hb8⟩
  clear G2
  go_upto_region 10 with fail
  have hst := stepAlloc hb8 (.cells #[.int .i64 0, .int .i64 0, .int .i64 0, .int .i64 0, .int .i64 0, .int .i64 0, .slice esa 0 esc, .slice eka 0 ekc, .slice ema 0 emc] 46)
  have HX := Lib.hid (HX.out.later hst)
  have RX := Lib.hid (HRYL.out _ _ RX.out hst)
  have RP := Lib.hid (RP.out.later hst)
  have R5 := Lib.hid (R5.out.later hst)
  have HY := Lib.hid (HY.out.later hst)
  have RZ8 := Lib.hid (HRZL.out _ _ RZ8.out hst)
  have BW := Lib.hid (step BW.out hst)
  generalize hW : w8.alloc _ = W2 at HX RX RP R5 HY RZ8 BW ⊢
  generalize w8.heap.size = eb at ⊢
  clear hW hst hb8
  have hA := HX.out; have k0 := Cm.cell_atW hA 0; have k1 := Cm.cell_atW hA 1; have k2 := Cm.cell_atW hA 2; have k3 := Cm.cell_atW hA 3; have k4 := Cm.cell_atW hA 4; have k5 := Cm.cell_atW hA 5; have k6 := Cm.cell_atW hA 6; have k7 := Cm.cell_atW hA 7; have k8 := Cm.cell_atW hA 8; simp only [List.getElem?_toArray, List.getElem?_cons_zero, List.getElem?_cons_succ] at k0 k1 k2 k3 k4 k5 k6 k7 k8; clear hA
  go_upto_region 11 with (go_at_call 21; refine (D3.out _ RX.out).mono ?_; rintro e w9 ⟨qg, qc, rfl, ho9, hr9, hb9⟩; have RQ := Lib.hid hr9; have HX := Lib.hid (HX.out.later hb9); have RX := Lib.hid (HRYL.out _ _ RX.out hb9); have RP := Lib.hid (RP.out.later hb9); have HY := Lib.hid (HY.out.later hb9); have RZ8 := Lib.hid (HRZL.out _ _ RZ8.out hb9); have BW := Lib.hid (step BW.out hb9); clear ho9 hr9 hb9)
  clear k0 k1 k2 k3 k4 k5 k6 k7 k8 D1 D2 D3 R5
  have hpc : pc ≠ 24 := by
    obtain ⟨_, _, _, hv, hl, hc, _⟩ := RP.out.ex
    cases hv
    omega
  have RPD : Hid (Rd w9 (.slice (some ⟨pg, 24, none⟩) (L - 24) (pc - 24)) U) := Lib.hid (by have := Cm.rd_drop24 RP.out (by omega); rwa [HDR.out] at this)
  have hA := HX.out; have k0 := Cm.cell_atW hA 0; have k1 := Cm.cell_atW hA 1; have k2 := Cm.cell_atW hA 2; have k3 := Cm.cell_atW hA 3; have k4 := Cm.cell_atW hA 4; have k5 := Cm.cell_atW hA 5; have k6 := Cm.cell_atW hA 6; have k7 := Cm.cell_atW hA 7; have k8 := Cm.cell_atW hA 8; simp only [List.getElem?_toArray, List.getElem?_cons_zero, List.getElem?_cons_succ] at k0 k1 k2 k3 k4 k5 k6 k7 k8; clear hA
  have hA := HY.out; have y0 := Cm.cell_atW hA 0; have y1 := Cm.cell_atW hA 1; have y2 := Cm.cell_atW hA 2; have y3 := Cm.cell_atW hA 3; have y4 := Cm.cell_atW hA 4; have y5 := Cm.cell_atW hA 5; have y6 := Cm.cell_atW hA 6; have y7 := Cm.cell_atW hA 7; have y8 := Cm.cell_atW hA 8; simp only [List.getElem?_toArray, List.getElem?_cons_zero, List.getElem?_cons_succ] at y0 y1 y2 y3 y4 y5 y6 y7 y8; clear hA
  have qk0 := cell_regrown k0
  have qk1 := cell_regrown k1
  have qk2 := cell_regrown k2
  have qk3 := cell_regrown k3
  have qk4 := cell_regrown k4
  have qk5 := cell_regrown k5
  have qk6 := cell_regrown k6
  have qk7 := cell_regrown k7
  have qk8 := cell_regrown k8
  have qy0 := cell_regrown y0
  have qy1 := cell_regrown y1
  have qy2 := cell_regrown y2
  have qy3 := cell_regrown y3
  have qy4 := cell_regrown y4
  have qy5 := cell_regrown y5
  have qy6 := cell_regrown y6
  have qy7 := cell_regrown y7
  have qy8 := cell_regrown y8
  have x1' := fun dd os => conv_rd (grow (redrawn w9 dd) os) (P := Tryz.prog) Tryz.underlying47 Tryz.underlying5 Tryz.underlying9 _ U (RQ.out.later (below_regrown w9 dd os))
  have x2' := fun dd os => conv_rd (grow (redrawn w9 dd) os) (P := Tryz.prog) Tryz.underlying47 Tryz.underlying5 Tryz.underlying9 _ U (RPD.out.later (below_regrown w9 dd os))
  have E1 := Lib.hid (fun dd os => Calls.regrown_of (w := w9) (d := dd) (os := os) (CZ1.out _ (HRZL.out _ _ RZ8.out (below_regrown w9 dd os)) (HRYL.out _ _ RX.out (below_regrown w9 dd os))))
  have E2 := Lib.hid (fun dd os => Calls.regrown_of (w := w9) (d := dd) (os := os) (CZ2.out _ (HRZL.out _ _ RZ8.out (below_regrown w9 dd os)) (HRYL.out _ _ RX.out (below_regrown w9 dd os))))
  have E0 := Lib.hid (fun dd os => Calls.regrown_of (w := w9) (d := dd) (os := os) (C0.out _))
  clear C0 CZ1 CZ2 HX HY RX RZ8 RP RQ RPD k0 k1 k2 k3 k4 k5 k6 k7 k8 y0 y1 y2 y3 y4 y5 y6 y7 y8
  try simp only [List.append_eq, List.cons_append, List.nil_append]
  refine wp_region_quiet_below (by kernel_rfl) (by kernel_rfl) ?_
  try simp only [List.append_eq, List.cons_append, List.nil_append]
  repeat (go_big_quiet_step (fail))
  go_big_quiet_step (exact E1.out _ _)
  repeat (go_big_quiet_step (fail))
  go_big_quiet_step (exact E2.out _ _)
  repeat (go_big_quiet_step (fail))
  go_big_quiet_step (exact E0.out _ _)
  repeat (go_big_quiet_step (fail))
  refine wpQuiet_nil ?_
  intro _ hw'
  obtain ⟨⟨dq, osq⟩, hw''⟩ := hw'
  subst hw''
  go_wp2
  go_ret
  exact ⟨rfl, step BW.out (below_regrown w9 dq osq)⟩

/-! ### THE ROW's STEP -/
set_option maxRecDepth 100000 in
theorem lifted (os : Os) (started : os.Started) (H : Type) (enc : TypeId × Value → H) :
    ReturnsInHanded {} Tryz.checked os 6 .any (Rows.snapBackSpec.pre6 enc Tryz.prog Tryz.f6 Rows.snapBackRow.domain false) (Rows.snapBackSpec.post enc Tryz.prog Tryz.f6 false true false false) := by
  refine returnsInHanded_of_change (C := Tryz.checked) own started (by kernel_rfl) Tryz.func6
    (ChangeSpec.witness6 (enc := enc) (C := Tryz.checked) false ⟨#[], #[.slice none 0 0, .int .u8 0, .int .u8 0, .int .u8 0, .slice none 0 0, .int .u16 0], []⟩ 8 (by kernel_rfl) (by kernel_rfl) (by kernel_rfl) (by kernel_rfl)) ?_
  intro W base args ds gs before hval0 hW hcnd _
  have hval : ∀ (j : Nat) t v, Tryz.f6.params[j]? = some t → args[j]? = some v → Value.okWide Tryz.prog W .any base t v := hval0
  have hW' := hW
  obtain ⟨p, q, hA0, hV, rfl, hfz, hnd⟩ := hW
  have hA : DataW.TrodAll enc Tryz.prog W 0 (fun _ => true) true Tryz.f6.params.toList args.toList ds p := hA0
  rw [Tryz.params6] at hA hval
  obtain ⟨v0, vs0, d0, ds0, p0, q0, hargs, rfl, rfl, h0, r0⟩ := trodAll_cons hA
  obtain ⟨v1, vs1, d1, ds1, p1, q1, rfl, rfl, rfl, h1, r1⟩ := trodAll_cons r0
  obtain ⟨v2, vs2, d2, ds2, p2, q2, rfl, rfl, rfl, h2, r2⟩ := trodAll_cons r1
  obtain ⟨v3, vs3, d3, ds3, p3, q3, rfl, rfl, rfl, h3, r3⟩ := trodAll_cons r2
  obtain ⟨v4, vs4, d4, ds4, p4, q4, rfl, rfl, rfl, h4, r4⟩ := trodAll_cons r3
  obtain ⟨v5, vs5, d5, ds5, p5, q5, rfl, rfl, rfl, h5, r5⟩ := trodAll_cons r4
  obtain ⟨rfl, rfl, rfl⟩ := trodAll_nil r5
  obtain rfl : args = #[v0, v1, v2, v3, v4, v5] := by cases args; simp_all
  obtain ⟨rfl, rfl⟩ := trodVars_none hV
  have k0 := h0
  have lt0 : ∀ x ∈ p0, x.block < W.heap.size := by obtain ⟨m, hm⟩ := k0; exact DataW.trod_lt m _ _ _ hm
  obtain ⟨a0, rfl, w0⟩ := Cm.open_act10 (hval 0 58 v0 rfl rfl) h0
  obtain ⟨a1, rfl, rfl, rfl, w1⟩ := open_int Tryz.underlying5 (hval 1 5 v1 rfl rfl) h1
  obtain ⟨a2, rfl, rfl, rfl, w2⟩ := open_int Tryz.underlying5 (hval 2 5 v2 rfl rfl) h2
  obtain ⟨a3, rfl, rfl, rfl, w3⟩ := open_int Tryz.underlying5 (hval 3 5 v3 rfl rfl) h3
  obtain ⟨a4, len4, cap4, rfl⟩ := okWide_slice Tryz.underlying47 (hval 4 47 v4 rfl rfl)
  have k4 := h4
  have lt4 : ∀ x ∈ p4, x.block < W.heap.size := by obtain ⟨m, hm⟩ := k4; exact DataW.trod_lt m _ _ _ hm
  obtain ⟨z4, w4⟩ : ∃ zs, IsRow .u8 W a4 len4 cap4 zs := by
    obtain ⟨fuel, hf⟩ := h4
    rcases open_ints Tryz.underlying47 Tryz.underlying5 (by kernel_rfl) hf with ⟨hcs, _⟩ | ⟨x, l, c, zs, hcs, _, hl, hm, hz, _, hcell, hwz⟩
    · simp [Value.cells] at hcs
      obtain ⟨rfl, rfl, rfl⟩ := hcs
      exact ⟨[], .inl ⟨rfl, rfl, rfl, rfl⟩⟩
    · simp [Value.cells] at hcs
      obtain ⟨rfl, rfl, rfl⟩ := hcs
      exact ⟨zs, .inr ⟨_, rfl, hl, hm, by simpa using hz, hcell, hwz⟩⟩
  obtain ⟨a5, rfl, rfl, rfl, w5⟩ := open_int Tryz.underlying59 (hval 5 59 v5 rfl rfl) h5
  clear hA0 hval0
  refine (walk a0 a1 a2 a3 a4 len4 cap4 z4 a5 W w0 w1 w2 w3 w4 w5).mono fun e W' ⟨he, bel⟩ => ?_
  subst he
  exact ⟨_, rfl, _, _, _, [], _, [], hW', trodAll_mk1 (shut_bool Tryz.underlying4 _), (trodAll_cons_mk (Below.trod laidOut (by kernel_rfl) (of_decide_eq_true (by kernel_rfl)) k0 bel lt0) (trodAll_cons_mk (shut_int Tryz.underlying5 w1) (trodAll_cons_mk (shut_int Tryz.underlying5 w2) (trodAll_cons_mk (shut_int Tryz.underlying5 w3) (trodAll_cons_mk (Below.trod laidOut (by kernel_rfl) (of_decide_eq_true (by kernel_rfl)) k4 bel lt4) (trodAll_cons_mk (shut_int Tryz.underlying59 w5) trodAll_mk0)))))), rfl, bel.frame _, fun h => by cases h⟩

theorem over : Rows.snapBackRow.holds Tryz.pinned (OpenSpec.ofChange Rows.snapBackSpec) :=
  OpenClaim.holds_of_wide 6 Tryz.f6 rfl rfl rfl rfl rfl rfl rfl ⟨rfl, rfl, rfl, rfl, rfl⟩ rfl rfl rfl rfl rfl (by kernel_rfl) Tryz.func6 (by kernel_rfl)
    (of_decide_eq_true (by kernel_rfl)) (by unfold Func.isWrapper; first | (rw [if_pos (by decide +kernel)]; kernel_rfl) | (rw [if_neg (by decide +kernel)]; exact ⟨rfl, rfl⟩))
    (fun os started H enc _ => lifted os started H enc)

/-- THE STATEMENT -/
theorem proved : Rows.SnapBackSaid := over
end Go.Proofs.YtlnbmblbeaodcaaGreat.snapBack
