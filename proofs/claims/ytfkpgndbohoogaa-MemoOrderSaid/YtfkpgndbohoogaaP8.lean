/- Texts laid together by program: Law9, FMemoB, RepJ, Ans9, ArgN, FMemoC, FMemoE, FMemoD, ArgO. -/
import Derived.Test.YtfkpgndbohoogaaP7
import Derived.Test.YtfkpgndbohoogaaP6
import Derived.Deep.RegionLaw
import Derived.Deep.DrawnRows
/- Contracts of the statements' own helpers of layer 9: awake. MemX: the text with package memo's contracts (MemKeep_any ..). -/
set_option linter.unusedVariables false
set_option linter.unusedSimpArgs false
namespace Go.Proofs.Ytfkpgndbohoogaa
open Go.RowKit
namespace Cm

def oneM (c s : Int) : AnsV := ⟨c, s, ⟨0, 0, 0, []⟩⟩
theorem litM (w : World) (c s : Int) : RdM (w.alloc (.cells #[.int .i64 c, .int .i64 s, .int .i64 0, .int .i64 0, .int .i64 0, .slice none 0 0] 35)) (.slice (some ⟨w.heap.size, 0, none⟩) 1 1) [⟨oneM c s, none, 0⟩] := by
  refine ⟨RdX.one (cs := #[.int .i64 c, .int .i64 s, .int .i64 0, .int .i64 0, .int .i64 0, .slice none 0 0]) (t := 35) (by show (w.heap.push _)[w.heap.size]? = _; simp) rfl, fun x hx => ?_⟩
  rw [List.mem_singleton] at hx
  subst hx
  exact RdH.nil _

theorem same_mems (u v : Value) (l m : List MemC) (w : World) (h : RdM w u l) (h2 : RdM w v m) (e : valsM l = valsM m) : Calls Try.prog 11 #[u, v] w (SaysB true w) := by
  have := SameMemos_any u v l m w h h2
  rw [e, sameM_refl] at this
  exact this

set_option maxHeartbeats 2000000 in
theorem awake9_ok (w : World) : Calls Try.prog 8 #[] w (SaysB true w) := by
  have e0 : keepM [] (oneM 3 2) = [oneM 3 2] := rfl
  have hrm : Rm [oneM 3 2] := (rightM_iff _).1 rfl
  have e1 : freshM [] 0 1 = 1 := rfl
  have e2 : freshM [oneM 3 2] 3 2 = 0 := rfl
  have e3 : freshM [oneM 3 2] 3 1 = -1 := rfl
  have e4 : rightM [oneM 3 2] = true := rfl
  have KK : Hid (∀ W, Calls Try.prog 9 #[.slice none 0 0, .agg #[.int .i64 3, .int .i64 2, .int .i64 0, .int .i64 0, .int .i64 0, .slice none 0 0]] W (GetsK [oneM 3 2] W)) := Lib.hid fun W => by
    have := MemKeep_any (.slice none 0 0) (.slice none 0 0) [] (oneM 3 2) W (RdM.nil _) Rm.nil (by simp) (RdH.nil _) (by simp [oneM]) (fun x hx => by cases hx)
    rw [show valsM [] = [] from rfl, e0] at this
    exact this
  have KF0 : Hid (∀ W, Calls Try.prog 13 #[.slice none 0 0, .int .i64 0, .int .i64 1] W (SaysI 1 W)) := Lib.hid fun W => MemFresh_any (.slice none 0 0) [] 0 1 W (RdM.nil _) Rm.nil
  unfold GetsK at KK
  clear e0 e1
  go_enter Try.func8, Try.ntmps8
  go_wp2_with fail
  refine (KK.out _).mono ?_
  rintro e w2 ⟨a, c, M, rfl, hv, hr, hb2⟩
  have HR := Lib.hid hr
  have HB2 := Lib.hid (step (newAlloc w _) hb2)
  have KF2 : Hid (∀ W, Below w2.heap.size w2 W → Calls Try.prog 13 #[.slice a M.length c, .int .i64 3, .int .i64 2] W (SaysI 0 W)) := Lib.hid fun W hb => by
    have := MemFresh_any _ M 3 2 W (hr.later hb) (by rw [hv]; exact hrm)
    rw [hv, e2] at this
    exact this
  have KF3 : Hid (∀ W, Below w2.heap.size w2 W → Calls Try.prog 13 #[.slice a M.length c, .int .i64 3, .int .i64 1] W (SaysI (-1) W)) := Lib.hid fun W hb => by
    have := MemFresh_any _ M 3 1 W (hr.later hb) (by rw [hv]; exact hrm)
    rw [hv, e3] at this
    exact this
  have KR : Hid (∀ W, Below w2.heap.size w2 W → Calls Try.prog 12 #[.slice a M.length c] W (SaysB true W)) := Lib.hid fun W hb => by
    have := MemRight_any _ M W (hr.later hb)
    rw [hv, e4] at this
    exact this
  have KS : Hid (∀ W, Below w2.heap.size w2 W → Calls Try.prog 11 #[.slice a M.length c, .slice (some ⟨W.heap.size, 0, none⟩) 1 1] (W.alloc (.cells #[.int .i64 3, .int .i64 2, .int .i64 0, .int .i64 0, .int .i64 0, .slice none 0 0] 35)) (SaysB true (W.alloc (.cells #[.int .i64 3, .int .i64 2, .int .i64 0, .int .i64 0, .int .i64 0, .slice none 0 0] 35)))) := Lib.hid fun W hb => same_mems _ _ M _ _ (hr.later (stepAlloc hb _)) (litM W 3 2) hv
  clear hv hr hb2 e2 e3 e4 KK hrm
  generalize M.length = MN at *
  go_wp2_with fail
  refine (KF0.out _).mono ?_
  rintro e w3 ⟨rfl, hb3⟩
  have HB3 := Lib.hid hb3
  clear hb3
  go_wp2_with fail
  refine (KS.out _ HB3.out).mono ?_
  rintro e w4 ⟨rfl, hb4⟩
  have HB4 := Lib.hid (step (stepAlloc HB3.out _) hb4)
  clear hb4
  go_wp2_with fail
  refine (KF2.out _ HB4.out).mono ?_
  rintro e w5 ⟨rfl, hb5⟩
  have HB5 := Lib.hid (step HB4.out hb5)
  clear hb5
  go_wp2_with fail
  refine (KF3.out _ HB5.out).mono ?_
  rintro e w6 ⟨rfl, hb6⟩
  have HB6 := Lib.hid (step HB5.out hb6)
  clear hb6
  go_wp2_with fail
  refine (KR.out _ HB6.out).mono ?_
  rintro e w7 ⟨rfl, hb7⟩
  go_wp2
  go_ret
  exact ⟨rfl, step HB2.out (step HB6.out hb7)⟩
end Cm
end Go.Proofs.Ytfkpgndbohoogaa

/- Facts for MemoRuns: what is kept, by sizes. -/
set_option linter.unusedVariables false
set_option linter.unusedSimpArgs false
namespace Go.Proofs.Ytfkpgndbohoogaa
open Go.RowKit
namespace Cm

theorem keep_mem {l : List AnsV} {a x : AnsV} (h : x ∈ keepM l a) : x = a ∨ x ∈ l := by
  unfold keepM at h
  split at h
  · exact ins_mem a l x h
  · exact .inr h
theorem keep_length (l : List AnsV) (a : AnsV) : (keepM l a).length ≤ l.length + 1 := by
  unfold keepM
  split
  · exact ins_length a l
  · omega

/-- Memos whose replies hold little. -/
def Few (l : List AnsV) : Prop := ∀ x ∈ l, x.rep.held.length ≤ 20
theorem Few.nil : Few [] := fun x h => by cases h
theorem Few.keep {l : List AnsV} (h : Few l) {a : AnsV} (ha : a.rep.held.length ≤ 20) : Few (keepM l a) := fun x hx => by
  rcases keep_mem hx with q | q
  · rw [q]; exact ha
  · exact h x q
theorem Few.mem {M : List MemC} (h : Few (valsM M)) : ∀ x ∈ M, x.m.rep.held.length ≤ 1000 := fun x hx => by
  have := h x.m (List.mem_map.2 ⟨x, hx, rfl⟩)
  omega

theorem alloc_one (w : World) (o p : Obj) : ((w.alloc o).alloc p).heap[w.heap.size]? = some o := by
  show ((w.heap.push o).push p)[w.heap.size]? = _
  simp [Array.getElem?_push]
theorem alloc_two (w : World) (o p : Obj) : ((w.alloc o).alloc p).heap[w.heap.size + 1]? = some p := by
  have h := heap_alloc_new (w.alloc o) p
  rw [show (w.alloc o).heap.size = w.heap.size + 1 by simp] at h
  exact h
end Cm
end Go.Proofs.Ytfkpgndbohoogaa

/- Contracts: padlocklaw5's Reply: its walk. -/
set_option linter.unusedVariables false
set_option linter.unusedSimpArgs false
namespace Go.Proofs.Ytfkpgndbohoogaa
open Go.RowKit
attribute [local go_sem ↓] Go.wp_at_zero Go.wp_at_succ
namespace Cm

theorem wrap_one (X : Nat) (h : X < 256) : IntKind.i64.wrap (1 + IntKind.i64.wrap (X : Int)) = 1 + (X : Int) := by
  have a : IntKind.i64.wrap (X : Int) = (X : Int) := by rw [IntKind.wrap_i64]; omega
  rw [a, IntKind.wrap_i64]
  omega

theorem wrap_sub3 (I j : Nat) (h : I = 3 + j) (h2 : j ≤ 5) : IntKind.i64.wrap ((I : Int) - 3) = (j : Int) := by
  subst h
  rw [IntKind.wrap_i64]
  omega

set_option maxHeartbeats 8000000 in
theorem Reply_any (v : Value) (ns : List UInt8) (w : World) (h : Rd w v ns) :
    Calls Try.prog 27 #[v] w (MadeP w) := by
  have hlen := Rd.len_le h
  unfold maxLen at hlen
  obtain ⟨a, len, cap, rfl, hl, hc, hm, hn, hx⟩ := h.ex
  subst hl
  by_cases h2 : 2 < ns.length
  · have d1 : decide (2 < (ns.length : Int)) = true := by simp; omega
    match a, hx, h with
    | none, _, _ => have := (hn rfl).1; omega
    | some ⟨b, o, sp⟩, hx, h =>
      obtain ⟨hs, hi⟩ := hx _ rfl (by omega)
      simp only at hs hi
      subst hs
      have HI : Hid (∀ i, i < ns.length → ∀ w', Below w.heap.size w w' → w'.cell? ⟨b, o + i, none⟩ = some (.int .u8 ((ns.getD i 0).toNat : Int))) := fun i hi' w' hb => by
        rw [hb.cell (p := ⟨b, o + i, none⟩) (lt_of_cell (hi i hi'))]
        exact hi i hi'
      have hblt : b < w.heap.size := lt_of_cell (hi 0 (by omega))
      clear hi hx h hn
      have HB := Lib.hid (stepAlloc (newAlloc w repZero) repZero)
      unfold repZero at HB
      have HB1 : ∀ x y, Below w.heap.size w ((w.alloc (.cells #[.int .i64 0, .int .i64 0, .int .i64 0, .slice none 0 0] 28)).alloc (.cells #[.int .i64 x, .int .i64 y, .int .i64 0, .slice none 0 0] 28)) := fun x y => stepAlloc (newAlloc w _) _
      have q0 := HI.out 0 (by omega) _ HB.out
      have q1 := HI.out 1 (by omega) _ (HB1 (((ns.getD 0 0).toNat : Int) % 13) 0)
      have q2 := HI.out 2 (by omega) _ (HB1 (((ns.getD 0 0).toNat : Int) % 13) (((ns.getD 1 0).toNat : Int) % 5))
      rw [Nat.add_zero] at q0
      have t0 := UInt8.toNat_lt (ns.getD 0 0)
      have t1 := UInt8.toNat_lt (ns.getD 1 0)
      have t2 := UInt8.toNat_lt (ns.getD 2 0)
      clear HB1
      generalize (ns.getD 0 0).toNat = n0 at *
      generalize (ns.getD 1 0).toNat = n1 at *
      generalize (ns.getD 2 0).toNat = n2 at *
      go_enter Try.func27, Try.ntmps27
      have HG : Hid (GW w ((n0 : Int) % 13) ((n1 : Int) % 5) ((n2 : Int) % 4) (.slice none 0 0) [] (((w.alloc (.cells #[.int .i64 0, .int .i64 0, .int .i64 0, .slice none 0 0] 28)).alloc (.cells #[.int .i64 ((n0 : Int) % 13), .int .i64 ((n1 : Int) % 5), .int .i64 ((n2 : Int) % 4), .slice none 0 0] 28)).alloc (.cells #[.string ⟨#[97]⟩, .string ⟨#[98]⟩, .string ⟨#[107, 101, 121, 45, 49]⟩, .string ⟨#[108, 111, 99, 107]⟩, .string ⟨#[120]⟩] 9))) := Lib.hid (GW.start w ((n0 : Int) % 13) ((n1 : Int) % 5) ((n2 : Int) % 4))
      have k1 : 0 ≤ (n0 : Int) % 13 ∧ (n0 : Int) % 13 ≤ 12 := by omega
      have k2 : 0 ≤ (n1 : Int) % 5 ∧ (n1 : Int) % 5 ≤ 4 := by omega
      have k3 : 0 ≤ (n2 : Int) % 4 ∧ (n2 : Int) % 4 ≤ 3 := by omega
      go_upto_region 7 with fail
      generalize ((w.alloc (.cells #[.int .i64 0, .int .i64 0, .int .i64 0, .slice none 0 0] 28)).alloc (.cells #[.int .i64 ((n0 : Int) % 13), .int .i64 ((n1 : Int) % 5), .int .i64 ((n2 : Int) % 4), .slice none 0 0] 28)).alloc (.cells #[.string ⟨#[97]⟩, .string ⟨#[98]⟩, .string ⟨#[107, 101, 121, 45, 49]⟩, .string ⟨#[108, 111, 99, 107]⟩, .string ⟨#[120]⟩] 9) = W at HG ⊢
      generalize (n0 : Int) % 13 = K at *
      generalize (n1 : Int) % 5 = S at *
      generalize (n2 : Int) % 4 = D at *
      clear q0 q1 q2 HB t0 t1 t2
      go_wp2_with fail
      go_loopw [5] (fun i wr => ∃ (j I : Nat) (u : Value) (G : List GrantV), j ≤ 5 ∧ i = .int .i64 (I : Int) ∧ Hid (I = 3 + j) ∧ G.length ≤ 4 ∧ (0 < S ∨ G.length = 0) ∧ Hid (GW w K S D u G wr) ∧ Hid (Ris G j)) (fun i _ => 8 - (intOf i).toNat)
      case atStart => exact ⟨0, 3, .slice none 0 0, [], by omega, rfl, Lib.hid rfl, by simp, .inr rfl, HG, Lib.hid ⟨rfl, fun g hg => by cases hg⟩⟩
      case round =>
        obtain ⟨j, I, u, G, hj, rfl, hI, hG4, hGS, HGW, HRI⟩ := hrel
        have hI' := hI.out
        obtain ⟨ua, uc, rfl⟩ := Rw.own_form HGW.out.own
        obtain ⟨x0, x1, x2, x3, fb⟩ := box_cells HGW.out.box
        obtain ⟨z0, z1, z2, z3, zf⟩ := HGW.out.zc
        have HGL : Hid (∃ L, G.length = L) := ⟨_, rfl⟩
        obtain ⟨L, hL⟩ := HGL.out
        have HLL := Lib.hid hL
        rw [hL] at hG4 hGS x3
        have HMAY : Hid (mayP ⟨K, S, D, G⟩ = true) := by
          unfold mayP highF
          dsimp only
          rw [HRI.out.ok, decide_eq_true k1.1, decide_eq_true k1.2, decide_eq_true k2.1, decide_eq_true (show S ≤ 2305843009213693952 by omega), decide_eq_true k3.1, decide_eq_true k3.2, decide_eq_true (show G.length ≤ 4 by omega)]
          rcases hGS with q | q
          · rw [decide_eq_false (show ¬ S = 0 by omega)]
            rfl
          · rw [hL, q, decide_eq_false (show ¬ 0 < 0 by omega), Bool.and_false]
            rfl
        rcases (by omega : ¬ I < ns.length ∨ (I < ns.length ∧ ¬ I < 8) ∨ (I < ns.length ∧ I < 8 ∧ ¬ 0 < S) ∨ (I < ns.length ∧ I < 8 ∧ 0 < S ∧ ¬ L < 4) ∨ (I < ns.length ∧ I < 8 ∧ 0 < S ∧ L < 4)) with c | ⟨c1, c2⟩ | ⟨c1, c2, c3⟩ | ⟨c1, c2, c3, c4⟩ | ⟨c1, c2, c3, c4⟩
        · have d2 : decide (I < ns.length) = false := decide_eq_false c
          clear hI' HRI HI hGS hL
          go_wp2
          have q := HGW.out.fin (.int .i64 K) (.int .i64 S) (.int .i64 D) (.slice ua L uc)
          rw [HLL.out] at q
          refine bodyPost_ret (by simp [results, Try.results27, go_sem, z0, z1, z2, z3] <;> rfl) rfl ⟨⟨K, S, D, G⟩, _, rfl, HMAY.out, ?_, set4 HGW.out.below _ _ _ _⟩
          show World.ownsRow _ _ _ _ _ G.length _
          rw [HLL.out]
          exact q
        · have d2 : decide (I < ns.length) = true := decide_eq_true c1
          have d3 : decide (I < 8) = false := decide_eq_false c2
          clear hI' HRI HI hGS hL
          go_wp2
          have q := HGW.out.fin (.int .i64 K) (.int .i64 S) (.int .i64 D) (.slice ua L uc)
          rw [HLL.out] at q
          refine bodyPost_ret (by simp [results, Try.results27, go_sem, z0, z1, z2, z3] <;> rfl) rfl ⟨⟨K, S, D, G⟩, _, rfl, HMAY.out, ?_, set4 HGW.out.below _ _ _ _⟩
          show World.ownsRow _ _ _ _ _ G.length _
          rw [HLL.out]
          exact q
        · have d2 : decide (I < ns.length) = true := decide_eq_true c1
          have d3 : decide (I < 8) = true := decide_eq_true c2
          have d4 : decide (0 < S) = false := decide_eq_false c3
          clear hI' HRI HI hGS hL
          go_wp2
          have q := HGW.out.fin (.int .i64 K) (.int .i64 S) (.int .i64 D) (.slice ua L uc)
          rw [HLL.out] at q
          refine bodyPost_ret (by simp [results, Try.results27, go_sem, z0, z1, z2, z3] <;> rfl) rfl ⟨⟨K, S, D, G⟩, _, rfl, HMAY.out, ?_, set4 HGW.out.below _ _ _ _⟩
          show World.ownsRow _ _ _ _ _ G.length _
          rw [HLL.out]
          exact q
        · have d2 : decide (I < ns.length) = true := decide_eq_true c1
          have d3 : decide (I < 8) = true := decide_eq_true c2
          have d4 : decide (0 < S) = true := decide_eq_true c3
          have d5 : decide (L < 4) = false := decide_eq_false c4
          clear hI' HRI HI hGS hL
          go_wp2
          have q := HGW.out.fin (.int .i64 K) (.int .i64 S) (.int .i64 D) (.slice ua L uc)
          rw [HLL.out] at q
          refine bodyPost_ret (by simp [results, Try.results27, go_sem, z0, z1, z2, z3] <;> rfl) rfl ⟨⟨K, S, D, G⟩, _, rfl, HMAY.out, ?_, set4 HGW.out.below _ _ _ _⟩
          show World.ownsRow _ _ _ _ _ G.length _
          rw [HLL.out]
          exact q
        · have d2 : decide (I < ns.length) = true := decide_eq_true c1
          have d3 : decide (I < 8) = true := decide_eq_true c2
          have d4 : decide (0 < S) = true := decide_eq_true c3
          have d5 : decide (L < 4) = true := decide_eq_true c4
          have hj5 : j < 5 := by omega
          have q0 := HI.out I c1 wr HGW.out.below
          have tx := UInt8.toNat_lt (ns.getD I 0)
          have hIall := Lib.hid (HI.out I c1)
          generalize (ns.getD I 0).toNat = X at q0 tx hIall
          clear hL hGS
          by_cases hodd : X % 2 = 1
          · have d6 : ((X : Int) % 2 == 1) = true := by simp; omega
            have e1 : IntKind.i64.wrap ((I : Int) - 3) = (j : Int) := wrap_sub3 I j hI' hj
            have e2 : Hid (IntKind.i64.wrap (1 + IntKind.i64.wrap (X : Int)) = 1 + (X : Int)) := Lib.hid (wrap_one X tx)
            have e3 : (0 : Int) ≤ (j : Int) := by omega
            have e4 : (j : Int) < 5 := by omega
            have qn := HGW.out.name j hj5
            have HQ : Hid (∀ w', Below wr.heap.size wr w' → w'.cell? ⟨w.heap.size + 1, 3, none⟩ = some (.slice ua L uc) ∧ w'.frozen? ⟨w.heap.size + 1, 3, none⟩ = false ∧ w'.cell? ⟨w.heap.size + 1 + 1, j, none⟩ = some (.string (bstr (nameAt j))) ∧ w'.cell? ⟨b, o + I, none⟩ = some (.int .u8 (X : Int))) := fun w' hb => by
              have h1 := HGW.out.later hb
              obtain ⟨-, -, -, y3, yf⟩ := box_cells h1.box
              rw [HLL.out] at y3
              exact ⟨y3, yf _, h1.name j hj5, (hb.cell (lt_of_cell q0)).trans q0⟩
            have HGR := HGW
            rw [HLL.out] at HGR
            obtain ⟨i0, hi, hz0, hz1, hz2⟩ := info_parts info49
            have HG1 := HGW.out.later ((newAlloc wr (.cells #[.string (bstr (nameAt j)), .int .i64 (IntKind.i64.wrap (1 + IntKind.i64.wrap (X : Int)))] 61)).drew)
            have HOW : Hid ((wr.alloc (.cells #[.string (bstr (nameAt j)), .int .i64 (IntKind.i64.wrap (1 + IntKind.i64.wrap (X : Int)))] 61)).drew.ownsRow (w.heap.size + 1 + 1 + 1) 61 2 (.slice ua L uc) L (gCells G)) := by
              have q := HG1.own
              rw [HLL.out] at q
              exact q
            have HG1R := HG1
            have HSZ : Hid (w.heap.size + 1 + 1 + 1 ≤ (wr.alloc (.cells #[.string (bstr (nameAt j)), .int .i64 (IntKind.i64.wrap (1 + IntKind.i64.wrap (X : Int)))] 61)).drew.heap.size) := get_lt HG1.names
            have HNEWS : Hid (∀ j_1 u, [Value.string (bstr (nameAt j)), .int .i64 (IntKind.i64.wrap (1 + IntKind.i64.wrap (X : Int)))][j_1]? = some u → (wr.alloc (.cells #[.string (bstr (nameAt j)), .int .i64 (IntKind.i64.wrap (1 + IntKind.i64.wrap (X : Int)))] 61)).drew.cell? ((⟨wr.heap.size, 0, none⟩ : Addr).add j_1) = some u) :=
              World.news_of_block (w := (wr.alloc (.cells #[.string (bstr (nameAt j)), .int .i64 (IntKind.i64.wrap (1 + IntKind.i64.wrap (X : Int)))] 61)).drew) (cs := #[.string (bstr (nameAt j)), .int .i64 (IntKind.i64.wrap (1 + IntKind.i64.wrap (X : Int)))]) (t := 61) (fr := (0, 0)) (by show (wr.heap.push _)[wr.heap.size]? = _; simp)
            have HQ5 : Hid (∀ w5, (wr.alloc (.cells #[.string (bstr (nameAt j)), .int .i64 (IntKind.i64.wrap (1 + IntKind.i64.wrap (X : Int)))] 61)).drew.grownBy w5 (Value.slice ua L uc).ownBlock → w5.cell? ⟨w.heap.size + 1, 3, none⟩ = some (.slice ua L uc) ∧ w5.frozen? ⟨w.heap.size + 1, 3, none⟩ = false ∧ w5.cell? ⟨w.heap.size + 1 + 1, j, none⟩ = some (.string (bstr (nameAt j))) ∧ w5.cell? ⟨b, o + I, none⟩ = some (.int .u8 (X : Int))) := fun w5 hg => by
              rw [← HLL.out] at hg ⊢
              obtain ⟨g1, g2, g3, g4⟩ := HG1.grown (v' := .slice none 0 0) (xs := []) (n := 0) hg
              obtain ⟨-, -, -, y3, yf⟩ := box_cells g3
              refine ⟨y3, yf _, ?_, hIall.out _ g1⟩
              rw [World.cell?_of_block (w := (wr.alloc (.cells #[.string (bstr (nameAt j)), .int .i64 (IntKind.i64.wrap (1 + IntKind.i64.wrap (X : Int)))] 61)).drew) (a := ⟨w.heap.size + 1 + 1, j, none⟩) (g4.trans HG1.names.symm)]
              exact HG1.name j hj5
            have hbx : b < w.heap.size := hblt
            have HS5 : Hid (∀ w5 v5, (wr.alloc (.cells #[.string (bstr (nameAt j)), .int .i64 (IntKind.i64.wrap (1 + IntKind.i64.wrap (X : Int)))] 61)).drew.grownBy w5 (Value.slice ua L uc).ownBlock → (w5.setCell ⟨w.heap.size + 1, 3, none⟩ v5).cell? ⟨w.heap.size + 1 + 1, j, none⟩ = some (.string (bstr (nameAt j))) ∧ (w5.setCell ⟨w.heap.size + 1, 3, none⟩ v5).cell? ⟨b, o + I, none⟩ = some (.int .u8 (X : Int))) := fun w5 v5 hg => by
              obtain ⟨-, -, p1, p2⟩ := HQ5.out w5 hg
              refine ⟨?_, ?_⟩
              · rw [World.cell?_of_block (w := w5) (a := ⟨w.heap.size + 1 + 1, j, none⟩) (Below.heap_setCell _ _ _ _ (by show w.heap.size + 1 + 1 ≠ w.heap.size + 1; omega))]
                exact p1
              · rw [World.cell?_of_block (w := w5) (a := ⟨b, o + I, none⟩) (Below.heap_setCell _ _ _ _ (by show b ≠ w.heap.size + 1; omega))]
                exact p2
            have hne : w.heap.size + 1 ≠ wr.heap.size := by have := get_lt HGW.out.box; omega
            have HPU := Lib.hid (fun (w5 : World) (a5 : Option Addr) (c5 : Nat) (ho : w5.ownsRow (w.heap.size + 1 + 1 + 1) 61 2 (.slice a5 (L + 1) c5) (L + 1) (gCells G ++ [Value.string (bstr (nameAt j)), .int .i64 (IntKind.i64.wrap (1 + IntKind.i64.wrap (X : Int)))])) (hg : (wr.alloc (.cells #[.string (bstr (nameAt j)), .int .i64 (IntKind.i64.wrap (1 + IntKind.i64.wrap (X : Int)))] 61)).drew.grownBy w5 (Value.slice ua L uc).ownBlock) => GW.push (g := ⟨nameAt j, 1 + (X : Int)⟩) (v' := .slice a5 (L + 1) c5) HG1 (by rw [← e2.out, HLL.out]; exact ho) (by rw [HLL.out]; exact hg))
            clear hI' HG1 HG1R
            go_upto_region 11 with fail
            have c1' : (I : Int) < (ns.length : Int) := by omega
            have HRP := Lib.hid (HRI.out.push hj5 X tx)
            have HS3 := Lib.hid c3
            have HL4 := Lib.hid c4
            have HI8 := Lib.hid c2
            have x3b := (HQ.out _ (newAlloc wr (.cells #[.string (bstr (nameAt j)), .int .i64 (IntKind.i64.wrap (1 + IntKind.i64.wrap (X : Int)))] 61))).1
            clear HS5 HQ HGR HMAY HRI HI hIall z0 z1 z2 z3 zf x0 x1 x2 fb k1 k2 k3 tx hbx hblt c2 c3 c4 hlen
            go_region_law ((refine step_append_own (by rfl) _ _ _ (by rfl) (w.heap.size + 1 + 1 + 1) 61 i0 _ 2 24 Try.underlying26 hi hz0 hz1 hz2 rfl (by omega) _ L _ (by rfl) HOW.out ⟨wr.heap.size, 0, none⟩ 1 1 [.string (bstr (nameAt j)), .int .i64 (IntKind.i64.wrap (1 + IntKind.i64.wrap (X : Int)))] (by rfl) rfl HNEWS.out (by simp [Value.oneCell']) (by unfold maxLen; omega) (by omega) HSZ.out ?_; intro v5 w5 hown5 hgrow5 _; obtain ⟨a5, c5, rfl⟩ := Rw.own_form hown5; obtain ⟨y3, yf, yn, yq⟩ := HQ5.out w5 hgrow5))
            all_goals
              have HG5 := HPU.out w5 _ _ hown5 hgrow5
              clear y3 yf yn yq hown5 hgrow5
              have hI8 := HI8.out
              have hL4 := HL4.out
              go_wp2
              exact ⟨⟨j + 1, I + 1, _, G ++ [⟨nameAt j, 1 + (X : Int)⟩], by omega, by go_num, Lib.hid (by rw [hI.out]; omega), by rw [List.length_append, HLL.out]; simp; omega, .inl HS3.out, Lib.hid HG5, HRP⟩, by simp [intOf]; omega⟩
          · have d6 : ((X : Int) % 2 == 1) = false := by simp; omega
            clear hI'
            go_wp2
            exact ⟨⟨j + 1, I + 1, _, G, by omega, by go_num, Lib.hid (by rw [hI.out]; omega), by rw [HLL.out]; omega, .inl c3, HGW, Lib.hid HRI.out.more⟩, by simp [intOf]; omega⟩
  · have d1 : decide (2 < (ns.length : Int)) = false := by simp; omega
    have d2 : decide (3 < (ns.length : Int)) = false := by simp; omega
    clear h hn hx
    go_enter Try.func27, Try.ntmps27
    have HG : Hid (GW w 0 0 0 (.slice none 0 0) [] (((w.alloc (.cells #[.int .i64 0, .int .i64 0, .int .i64 0, .slice none 0 0] 28)).alloc (.cells #[.int .i64 0, .int .i64 0, .int .i64 0, .slice none 0 0] 28)).alloc (.cells #[.string ⟨#[97]⟩, .string ⟨#[98]⟩, .string ⟨#[107, 101, 121, 45, 49]⟩, .string ⟨#[108, 111, 99, 107]⟩, .string ⟨#[120]⟩] 9))) := Lib.hid (GW.start w 0 0 0)
    go_upto_region 7 with fail
    generalize ((w.alloc (.cells #[.int .i64 0, .int .i64 0, .int .i64 0, .slice none 0 0] 28)).alloc (.cells #[.int .i64 0, .int .i64 0, .int .i64 0, .slice none 0 0] 28)).alloc (.cells #[.string ⟨#[97]⟩, .string ⟨#[98]⟩, .string ⟨#[107, 101, 121, 45, 49]⟩, .string ⟨#[108, 111, 99, 107]⟩, .string ⟨#[120]⟩] 9) = W at HG ⊢
    go_wp2_with fail
    go_loopw [5] (fun i wr => i = .int .i64 3 ∧ wr = W) (fun i _ => 0)
    case atStart => exact ⟨rfl, rfl⟩
    case round =>
      obtain ⟨rfl, rfl⟩ := hrel
      obtain ⟨x0, x1, x2, x3, fb⟩ := box_cells HG.out.box
      obtain ⟨z0, z1, z2, z3, zf⟩ := HG.out.zc
      go_wp2
      have q := HG.out.fin (.int .i64 0) (.int .i64 0) (.int .i64 0) (.slice none 0 0)
      refine bodyPost_ret (by simp [results, Try.results27, go_sem, z0, z1, z2, z3] <;> rfl) rfl ⟨⟨0, 0, 0, []⟩, _, rfl, by decide +kernel, q, set4 HG.out.below _ _ _ _⟩
end Cm
end Go.Proofs.Ytfkpgndbohoogaa

/- Contracts of the statements' own helpers of layer 9: Answer. -/
set_option linter.unusedVariables false
set_option linter.unusedSimpArgs false
namespace Go.Proofs.Ytfkpgndbohoogaa
open Go.RowKit
namespace Cm

/-- An answer that may be, of this client and number; what it holds is new. -/
def MadeA (c s : Nat) (w : World) (e : Ending) (w' : World) : Prop :=
  ∃ A a p, e = .returned (ansVal A (.slice a (List.length A.rep.held) p)) ∧ mayA A = true ∧ A.client = ((c % 8 : Nat) : Int) ∧ A.seq = 1 + ((s % 40 : Nat) : Int) ∧ A.rep.held.length ≤ 4 ∧ RdH w' (.slice a A.rep.held.length p) A.rep.held ∧ Below w.heap.size w w'

/-- So, what it holds in memory of the call's own. -/
def MadeAO (c s : Nat) (w : World) (e : Ending) (w' : World) : Prop :=
  ∃ A a p, e = .returned (ansVal A (.slice a (List.length A.rep.held) p)) ∧ mayA A = true ∧ A.client = ((c % 8 : Nat) : Int) ∧ A.seq = 1 + ((s % 40 : Nat) : Int) ∧ A.rep.held.length ≤ 4 ∧ w'.ownsRow w.heap.size 61 2 (.slice a A.rep.held.length p) A.rep.held.length (gCells A.rep.held) ∧ Below w.heap.size w w'

theorem tmod_nat (n m : Nat) : (n : Int).tmod (m : Int) = ((n % m : Nat) : Int) := by
  rw [Int.tmod_eq_emod_of_nonneg (by omega)]
  simp

set_option maxHeartbeats 2000000 in
theorem Answer_own (c s : Nat) (v : Value) (ns : List UInt8) (w : World) (hc : c < 256) (hs : s < 256) (h : Rd w v ns) :
    Calls Try.prog 18 #[.int .u8 (c : Int), .int .u8 (s : Int), v] w (MadeAO c s w) := by
  have hb1 := newAlloc w (.cells #[.int .i64 0, .int .i64 0, .int .i64 0, .int .i64 0, .int .i64 0, .slice none 0 0] 30)
  obtain ⟨c0, c1, c2, c3, c4, c5⟩ := box6 (Below.refl _ (w.alloc (.cells #[.int .i64 0, .int .i64 0, .int .i64 0, .int .i64 0, .int .i64 0, .slice none 0 0] 30)))
  have cf := free6m (Below.refl _ (w.alloc (.cells #[.int .i64 0, .int .i64 0, .int .i64 0, .int .i64 0, .int .i64 0, .slice none 0 0] 30)))
  obtain ⟨W1, hW1⟩ : ∃ W1, W1 = w.alloc (.cells #[.int .i64 0, .int .i64 0, .int .i64 0, .int .i64 0, .int .i64 0, .slice none 0 0] 30) := ⟨_, rfl⟩
  have hs1 : W1.heap.size = w.heap.size + 1 := by rw [hW1]; simp
  have HS1 := Lib.hid hs1
  rw [← hW1] at hb1 c0 c1 c2 c3 c4 c5 cf
  have HB := Lib.hid hb1
  have HZ : Hid (∀ w', Below W1.heap.size W1 w' → (w'.cell? ⟨w.heap.size, 0, none⟩ = some (.int .i64 0) ∧ w'.cell? ⟨w.heap.size, 1, none⟩ = some (.int .i64 0) ∧ w'.cell? ⟨w.heap.size, 2, none⟩ = some (.int .i64 0) ∧ w'.cell? ⟨w.heap.size, 3, none⟩ = some (.int .i64 0) ∧ w'.cell? ⟨w.heap.size, 4, none⟩ = some (.int .i64 0) ∧ w'.cell? ⟨w.heap.size, 5, none⟩ = some (.slice none 0 0)) ∧ ∀ k, w'.frozen? ⟨w.heap.size, k, none⟩ = false) := Lib.hid fun w' hb => ⟨⟨(hb.cell (lt_of_cell c0)).trans c0, (hb.cell (lt_of_cell c1)).trans c1, (hb.cell (lt_of_cell c2)).trans c2, (hb.cell (lt_of_cell c3)).trans c3, (hb.cell (lt_of_cell c4)).trans c4, (hb.cell (lt_of_cell c5)).trans c5⟩, fun k => (hb.frozen (p := ⟨w.heap.size, k, none⟩) (show w.heap.size < _ from lt_of_cell c0)).trans (cf k)⟩
  have KP := Lib.hid (Reply_any v ns W1 (h.later hb1))
  have e1 : (c : Int).tmod 8 = ((c % 8 : Nat) : Int) := tmod_nat c 8
  have e2 : (s : Int).tmod 40 = ((s % 40 : Nat) : Int) := tmod_nat s 40
  have hc8 : c % 8 < 8 := Nat.mod_lt _ (by omega)
  have hs40 : s % 40 < 40 := Nat.mod_lt _ (by omega)
  have e3 : IntKind.i64.wrap (c : Int) = (c : Int) := by rw [IntKind.wrap_i64]; omega
  have e4 : IntKind.i64.wrap (s : Int) = (s : Int) := by rw [IntKind.wrap_i64]; omega
  have e5 : IntKind.i64.wrap ((c % 8 : Nat) : Int) = ((c % 8 : Nat) : Int) := by rw [IntKind.wrap_i64]; omega
  have e6 : IntKind.i64.wrap ((s % 40 : Nat) : Int) = ((s % 40 : Nat) : Int) := by rw [IntKind.wrap_i64]; omega
  have e7 : IntKind.i64.wrap (1 + ((s % 40 : Nat) : Int)) = 1 + ((s % 40 : Nat) : Int) := by rw [IntKind.wrap_i64]; omega
  unfold MadeAO
  generalize hC : c % 8 = C at *
  generalize hS : s % 40 = S at *
  clear hs1 hb1 c0 c1 c2 c3 c4 c5 cf
  obtain ⟨va, vl, vc, rfl⟩ : ∃ a l p, v = .slice a l p := by
    obtain ⟨a, l, p, hv, -⟩ := h.ex
    exact ⟨a, l, p, hv⟩
  clear h hC hS
  go_enter Try.func18, Try.ntmps18
  go_upto_region 1 with fail
  rw [← hW1]
  clear hW1
  go_wp2_with (go_at_call 27; refine KP.out.mono ?_; rintro e w2 ⟨⟨rk, rn, rd, rl⟩, u, he, hm2, ho2, hb2⟩; unfold repVal at he; dsimp only at he ho2; obtain ⟨⟨y0, y1, y2, y3, y4, y5⟩, yf⟩ := HZ.out _ hb2; obtain ⟨ua, uc, rfl⟩ := Rw.own_form ho2; subst he; have HM2 := Lib.hid hm2; have HO2 := Lib.hid ho2; have HB2 := Lib.hid (step HB.out hb2); clear hm2 ho2 hb2)
  refine bodyPost_ret (by simp [results, Try.results18, go_sem, y0, y1, y2, y3, y4, y5, yf] <;> rfl) rfl ?_
  have hlt : w.heap.size < W1.heap.size + 1 := by rw [HS1.out]; omega
  have hmp := HM2.out
  refine ⟨⟨(C : Int), 1 + (S : Int), ⟨rk, rn, rd, rl⟩⟩, ua, uc, rfl, ?_, rfl, rfl, ?_, ?_, set6m HB2.out w.heap.size (Nat.le_refl _) _ _ _ _ _ _⟩
  · unfold mayA highF
    dsimp only
    rw [hmp]
    simp
    omega
  · show rl.length ≤ 4
    unfold mayP at hmp
    simp at hmp
    omega
  · exact own_lowerX (ownsRow_setCell_below (ownsRow_setCell_below (ownsRow_setCell_below (ownsRow_setCell_below (ownsRow_setCell_below (ownsRow_setCell_below HO2.out hlt _) hlt _) hlt _) hlt _) hlt _) hlt _) (by rw [HS1.out]; omega)

theorem Answer_any (c s : Nat) (v : Value) (ns : List UInt8) (w : World) (hc : c < 256) (hs : s < 256) (h : Rd w v ns) :
    Calls Try.prog 18 #[.int .u8 (c : Int), .int .u8 (s : Int), v] w (MadeA c s w) :=
  (Answer_own c s v ns w hc hs h).mono fun e w' ⟨A, a, p, h1, h2, h3, h4, h5, h6, h7⟩ => ⟨A, a, p, h1, h2, h3, h4, h5, RdH.own h6, h7⟩
end Cm
end Go.Proofs.Ytfkpgndbohoogaa

/- Arguments that are slices of acts with bytes in them, opened. -/
set_option linter.unusedVariables false
set_option linter.unusedSimpArgs false
namespace Go.Proofs.Ytfkpgndbohoogaa
open Go.RowKit Go.ChangeShapes Go.WideShapes Go.Deep
namespace Cm

/-- An act: a client, a number, bytes, and where these lie. -/
structure Act9 where
  client : Nat
  seq : Nat
  ns : List UInt8
  na : Option Addr
  nc : Nat
def Act9.nv (a : Act9) : Value := .slice a.na a.ns.length a.nc
def cells9 (a : Act9) : List Value := [.int .u8 (a.client : Int), .int .u8 (a.seq : Int), a.nv]
theorem cells9_length (a : Act9) : (cells9 a).length = 3 := rfl
def Act9.ok (w : World) (a : Act9) : Prop := a.client < 256 ∧ a.seq < 256 ∧ Rd w a.nv a.ns

def cellsU (b : UInt8) : List Value := [.int .u8 (b.toNat : Int)]
theorem cellsU_length (b : UInt8) : (cellsU b).length = 1 := rfl
theorem rd_of {w : World} {v : Value} {l : List UInt8} (h : RdX 1 cellsU w v l) : Rd w v l := by
  obtain ⟨a, cap, hv, h1, h2, h3, h4⟩ := h.ex
  refine ⟨a, l.length, cap, hv, rfl, h1, h2, fun q => ⟨by rw [(h3 q).1]; rfl, (h3 q).2⟩, fun x hx hp => ?_⟩
  obtain ⟨hs, hc⟩ := h4 x hx (fun q => by rw [q] at hp; simp at hp)
  refine ⟨hs, fun i hi => ?_⟩
  have := hc i hi 0 _ rfl
  rw [Nat.mul_one, Nat.add_zero] at this
  rw [List.getD_eq_getElem?_getD, List.getElem?_eq_getElem hi]
  exact this

theorem acts9_at {w : World} {a : Option Addr} {n cap : Nat} {L : List Act9} (h : RdX 3 cells9 w (.slice a n cap) L) (i : Nat) (hi : i < L.length) :
    ∃ b o, a = some ⟨b, o, none⟩ ∧ ∀ w' : World, Below w.heap.size w w' → w'.cell? ⟨b, o + i * 3, none⟩ = some (.int .u8 (L[i].client : Int)) ∧ w'.cell? ⟨b, o + i * 3 + 1, none⟩ = some (.int .u8 (L[i].seq : Int)) ∧ w'.cell? ⟨b, o + i * 3 + 2, none⟩ = some L[i].nv := by
  obtain ⟨b, o, e, c⟩ := h.at i hi
  exact ⟨b, o, e, fun w' hb => ⟨c w' hb 0 _ rfl, c w' hb 1 _ rfl, c w' hb 2 _ rfl⟩⟩

section
variable {H : Type} {enc : TypeId × Value → H} {W : World}

theorem u8_of {n : Int} (h : (Lit.int .u8 n).wf = true) : ∃ k : Nat, n = (k : Int) ∧ k < 256 := by
  have : 0 ≤ n ∧ n < 256 := by
    simp [Lit.wf, IntKind.min, IntKind.max, IntKind.signed, IntKind.bits] at h
    omega
  exact ⟨n.toNat, by omega, by omega⟩

theorem u8_cells (fuel : Nat) (cs : List Value) (x : DataW H × List MemPlace) (h : DataW.trod enc Try.prog W 0 (fun _ => true) true fuel 5 cs = some x) : ∃ b : UInt8, cs = cellsU b := by
  obtain ⟨d, e0, _, w0⟩ := DataW.trod_int Try.underlying5 h
  obtain ⟨k, rfl, hk⟩ := u8_of w0
  refine ⟨UInt8.ofNat k, ?_⟩
  rw [e0]
  unfold cellsU
  rw [UInt8.toNat_ofNat', Nat.mod_eq_of_lt (by omega)]

theorem act9_cells (fuel : Nat) (cs : List Value) (x : DataW H × List MemPlace) (h : DataW.trod enc Try.prog W 0 (fun _ => true) true fuel 44 cs = some x) : ∃ a : {a : Act9 // a.ok W}, cs = cells9 a.1 := by
  have hce : Try.prog.cellsOf 44 = 3 := by kernel_rfl
  have hcg : Try.prog.cellsOf 42 = 1 := by kernel_rfl
  obtain ⟨y0, y1, y2, n', _, hlen, t0, t1, t2⟩ := trod_struct3 Try.underlying44 h
  rw [hce] at hlen
  match cs, hlen with
  | [c0, c1, c2], _ =>
    obtain ⟨d, e0, _, w0⟩ := DataW.trod_int Try.underlying5 t0
    obtain ⟨m, e1, _, w1⟩ := DataW.trod_int Try.underlying5 t1
    obtain ⟨v, l, e2, hl⟩ := slice_of Try.underlying42 (show Try.prog.cellsOf 5 = 1 by kernel_rfl) (by omega) cellsU_length u8_cells t2
    have e0' : c0 = .int .u8 d := by injection e0
    have e1' : c1 = .int .u8 m := by injection e1
    have e2' : c2 = v := by
      rw [hcg] at e2
      injection e2
    obtain ⟨d', rfl, hd⟩ := u8_of w0
    obtain ⟨m', rfl, hm⟩ := u8_of w1
    obtain ⟨a, cap, rfl⟩ := hl.form
    exact ⟨⟨⟨d', m', l, a, cap⟩, hd, hm, rd_of hl⟩, by rw [e0', e1', e2']; rfl⟩

def act9A (a : List Act9 × Value) : Value := a.2
def act9OkA (w : World) (a : List Act9 × Value) : Prop := RdX 3 cells9 w a.2 a.1 ∧ ∀ x ∈ a.1, x.ok w
theorem open_act9 {r : Reach} {b0 : Nat} {v : Value} {d : DataW H} {p : List MemPlace} (hv : Value.okWide Try.prog W r b0 39 v) (h : DataW.Trod enc Try.prog W 0 (fun _ => true) true 39 v d p) : ∃ a : List Act9 × Value, v = act9A a ∧ act9OkA W a := by
  obtain ⟨a, len, cap, rfl⟩ := okWide_slice Try.underlying39 hv
  obtain ⟨m, hm⟩ := h
  obtain ⟨u, l, hu, hl⟩ := slice_of (f := fun x : {a : Act9 // a.ok W} => cells9 x.1) Try.underlying39 (show Try.prog.cellsOf 44 = 3 by kernel_rfl) (by omega) (fun x => cells9_length x.1) act9_cells hm
  have : Value.slice a len cap = u := by simpa [Value.cells] using hu
  subst this
  refine ⟨(l.map Subtype.val, _), rfl, rdx_map (f := cells9) Subtype.val hl, fun x hx => ?_⟩
  obtain ⟨y, _, rfl⟩ := List.mem_map.1 hx
  exact y.2
end
end Cm
end Go.Proofs.Ytfkpgndbohoogaa

/- Facts for MemoSame, MemoOrder, MemoKeeps: what is kept, told again, in any order. -/
set_option linter.unusedVariables false
set_option linter.unusedSimpArgs false
namespace Go.Proofs.Ytfkpgndbohoogaa
open Go.RowKit
namespace Cm

theorem fresh_at {l : List AnsV} {c : Int} {x : AnsV} (h : lastM l c = (x, true)) (s : Int) : freshM l c s = if x.seq < s then 1 else if x.seq = s then 0 else -1 := by
  unfold freshM
  rw [h, if_neg (by simp)]

theorem last_client {l : List AnsV} {c : Int} (h : (lastM l c).2 = true) : (lastM l c).1.client = c := by
  induction l with
  | nil => simp [lastM] at h
  | cons m l ih =>
    rw [lastM] at h ⊢
    split
    · assumption
    · rename_i q
      rw [if_neg q] at h
      exact ih h

/-- What is there of a client whose answer was kept. -/
theorem keep_last (l : List AnsV) (a : AnsV) (ha : mayA a = true) : ∃ x, lastM (keepM l a) a.client = (x, true) ∧ a.seq ≤ x.seq ∧ x.client = a.client := by
  by_cases h : freshM l a.client a.seq = 1
  · rw [keepM_yes ha h, last_ins, if_pos rfl]
    exact ⟨a, rfl, Int.le_refl _, rfl⟩
  · rw [keepM_no (.inr h)]
    have hb : (lastM l a.client).2 = true := by
      cases q : (lastM l a.client).2 with
      | true => rfl
      | false => unfold freshM at h; rw [if_pos q] at h; exact absurd rfl h
    obtain ⟨x, hx⟩ : ∃ x, lastM l a.client = (x, true) := ⟨(lastM l a.client).1, by rw [← hb]⟩
    refine ⟨x, hx, ?_, ?_⟩
    · rw [fresh_at hx] at h
      by_cases q : x.seq < a.seq
      · rw [if_pos q] at h; exact absurd rfl h
      · omega
    · have := last_client hb
      rw [hx] at this
      exact this
theorem keep_again (l : List AnsV) (a : AnsV) : keepM (keepM l a) a = keepM l a := by
  by_cases ha : mayA a = true
  · obtain ⟨x, hx, hs, _⟩ := keep_last l a ha
    refine keepM_no (.inr ?_)
    rw [fresh_at hx, if_neg (by omega)]
    split <;> omega
  · exact keepM_no (.inl (by simpa using ha))

theorem ins_comm (a b : AnsV) (h : a.client ≠ b.client) : ∀ l : List AnsV, insM a (insM b l) = insM b (insM a l)
  | [] => by
    simp only [insM]
    by_cases q : a.client < b.client
    · rw [if_neg (by omega), if_neg (by omega), if_pos q]
    · rw [if_pos (by omega), if_neg (by omega), if_neg (by omega)]
  | m :: l => by
    have ih := ins_comm a b h l
    rw [insM, insM]
    by_cases b1 : m.client < b.client
    · rw [if_pos b1]
      by_cases a1 : m.client < a.client
      · rw [if_pos a1, insM, if_pos a1, insM, if_pos b1, ih]
      · rw [if_neg a1]
        by_cases a2 : m.client = a.client
        · rw [if_pos a2, insM, if_neg a1, if_pos a2, insM, if_pos (by omega)]
        · rw [if_neg a2, insM, if_neg a1, if_neg a2, insM, if_pos (by omega), insM, if_pos b1]
    · rw [if_neg b1]
      by_cases b2 : m.client = b.client
      · rw [if_pos b2]
        by_cases a1 : m.client < a.client
        · rw [if_pos a1, insM, if_pos (by omega), insM, if_neg b1, if_pos b2]
        · rw [if_neg a1, if_neg (by omega), insM, if_neg (by omega), if_neg (by omega), insM, if_pos (by omega), insM, if_neg b1, if_pos b2]
      · rw [if_neg b2]
        by_cases a1 : m.client < a.client
        · rw [if_pos a1, insM, if_pos (by omega), insM, if_pos a1, insM, if_neg b1, if_neg b2]
        · rw [if_neg a1]
          by_cases a2 : m.client = a.client
          · rw [if_pos a2, insM, if_pos (by omega), insM, if_neg a1, if_pos a2, insM, if_neg (by omega), if_neg (by omega)]
          · rw [if_neg a2]
            by_cases q : a.client < b.client
            · rw [insM, if_neg (by omega), if_neg (by omega), insM, if_pos q, insM, if_neg b1, if_neg b2]
            · rw [insM, if_pos (by omega), insM, if_neg a1, if_neg a2, insM, if_neg (by omega), if_neg (by omega)]

theorem last_mem {l : List AnsV} {c : Int} {x : AnsV} (h : lastM l c = (x, true)) : x ∈ l := by
  induction l with
  | nil => simp [lastM] at h
  | cons m l ih =>
    rw [lastM] at h
    split at h
    · injection h with h
      subst h
      exact List.mem_cons_self
    · exact List.mem_cons_of_mem _ (ih h)

theorem Few.of {l : List AnsV} (h : ∀ x ∈ l, x.rep.held.length ≤ 20) : Few l := h

theorem fresh_less {l : List AnsV} {c s : Int} (h : (lastM l c).2 = false) : freshM l c s = 1 := by
  unfold freshM
  rw [if_pos h]
end Cm
end Go.Proofs.Ytfkpgndbohoogaa

/- Facts for MemoKeeps: each client's newest, in an array. -/
set_option linter.unusedVariables false
set_option linter.unusedSimpArgs false
namespace Go.Proofs.Ytfkpgndbohoogaa
open Go.RowKit
namespace Cm

theorem last_two (l : List AnsV) (c : Int) : lastM l c = (zeroM, false) ∨ ∃ x, lastM l c = (x, true) ∧ x ∈ l ∧ x.client = c := by
  rcases idxM_cases l c with ⟨_, h⟩ | ⟨k, hk, _, h1, h2⟩
  · exact .inl h
  · exact .inr ⟨l[k], h2, List.getElem_mem hk, h1⟩

theorem want_at {l : List AnsV} (hr : Rm l) (c s : Int) (hs : 1 ≤ s) : freshM l c s = if (lastM l c).1.seq = s then 0 else if s < (lastM l c).1.seq then -1 else 1 := by
  rcases last_two l c with h | ⟨x, h, hx, _⟩
  · rw [fresh_less (by rw [h]), h]
    rw [if_neg (by show ¬ (0 : Int) = s; omega), if_neg (by show ¬ s < (0 : Int); omega)]
  · rw [fresh_at h, h]
    dsimp only
    by_cases q : x.seq < s
    · rw [if_pos q, if_neg (by omega), if_neg (by omega)]
    · rw [if_neg q]
      by_cases q2 : x.seq = s
      · rw [if_pos q2, if_pos q2]
      · rw [if_neg q2, if_neg q2, if_pos (by omega)]

theorem last_keep (l : List AnsV) (a : AnsV) (ha : mayA a = true) (c : Int) : lastM (keepM l a) c = if freshM l a.client a.seq = 1 ∧ a.client = c then (a, true) else lastM l c := by
  by_cases h : freshM l a.client a.seq = 1
  · rw [keepM_yes ha h, last_ins]
    by_cases q : a.client = c
    · rw [if_pos q, if_pos ⟨h, q⟩]
    · rw [if_neg q, if_neg (fun p => q p.2)]
  · rw [keepM_no (.inr h), if_neg (fun p => h p.1)]

theorem seq_pos {l : List AnsV} (hr : Rm l) (c : Int) : decide (0 < (lastM l c).1.seq) = (lastM l c).2 := by
  rcases last_two l c with h | ⟨x, h, hx, _⟩
  · rw [h]; rfl
  · rw [h]
    have := (mayA_bounds x (hr.may x hx)).2.1
    exact decide_eq_true (by show 0 < x.seq; omega)

/-! ### The array -/
/-- Eight answers in one block. -/
structure Own8 (w : World) (nb : Nat) (L : List MemC) : Prop where
  len : L.length = 8
  row : w.ownsRow nb 40 6 (.slice (some ⟨nb, 0, none⟩) 8 8) 8 (flatX cellsM L)
  held : ∀ x ∈ L, w.ownsRow (nb + 1) 61 2 x.hv x.m.rep.held.length (gCells x.m.rep.held)

theorem Own8.later {w w' : World} {nb : Nat} {L : List MemC} (h : Own8 w nb L) (hb : Below w.heap.size w w') : Own8 w' nb L := ⟨h.len, Rw.own_below h.row hb, fun x hx => Rw.own_below (h.held x hx) hb⟩

theorem rowE_at {w : World} {base g n cap : Nat} {e : TypeId} {M : List MemC} (h : w.ownsRow base e 6 (.slice (some ⟨g, 0, none⟩) n cap) n (flatX cellsM M)) (k : Nat) (hk : k < M.length) :
    w.cell? ⟨g, k * 6, none⟩ = some (.int .i64 M[k].m.client) ∧ w.cell? ⟨g, k * 6 + 1, none⟩ = some (.int .i64 M[k].m.seq) ∧ w.cell? ⟨g, k * 6 + 2, none⟩ = some (.int .i64 M[k].m.rep.code) ∧ w.cell? ⟨g, k * 6 + 3, none⟩ = some (.int .i64 M[k].m.rep.session) ∧ w.cell? ⟨g, k * 6 + 4, none⟩ = some (.int .i64 M[k].m.rep.ahead) ∧ w.cell? ⟨g, k * 6 + 5, none⟩ = some M[k].hv ∧ ∀ j, w.frozen? ⟨g, j, none⟩ = false := by
  have hl : n * 6 = (flatX cellsM M).length := by
    rw [h.1]
  have hn : M.length = n := by rw [flatX_length cellsM_length] at hl; omega
  have a0 := h.cellAt (k * 6 + 0) (by omega)
  have a1 := h.cellAt (k * 6 + 1) (by omega)
  have a2 := h.cellAt (k * 6 + 2) (by omega)
  have a3 := h.cellAt (k * 6 + 3) (by omega)
  have a4 := h.cellAt (k * 6 + 4) (by omega)
  have a5 := h.cellAt (k * 6 + 5) (by omega)
  rw [flatX_get cellsM_length M k hk 0 (by omega)] at a0
  rw [flatX_get cellsM_length M k hk 1 (by omega)] at a1
  rw [flatX_get cellsM_length M k hk 2 (by omega)] at a2
  rw [flatX_get cellsM_length M k hk 3 (by omega)] at a3
  rw [flatX_get cellsM_length M k hk 4 (by omega)] at a4
  rw [flatX_get cellsM_length M k hk 5 (by omega)] at a5
  exact ⟨a0, a1, a2, a3, a4, a5, fun j => h.frozenAt j⟩

theorem rowE_put {w : World} {base g n cap : Nat} {e : TypeId} {M : List MemC} (h : w.ownsRow base e 6 (.slice (some ⟨g, 0, none⟩) n cap) n (flatX cellsM M)) (k : Nat) (hk : k < M.length) (y : MemC) :
    ((((((w.setCell ⟨g, k * 6, none⟩ (.int .i64 y.m.client)).setCell ⟨g, k * 6 + 1, none⟩ (.int .i64 y.m.seq)).setCell ⟨g, k * 6 + 2, none⟩ (.int .i64 y.m.rep.code)).setCell ⟨g, k * 6 + 3, none⟩ (.int .i64 y.m.rep.session)).setCell ⟨g, k * 6 + 4, none⟩ (.int .i64 y.m.rep.ahead)).setCell ⟨g, k * 6 + 5, none⟩ y.hv).ownsRow base e 6 (.slice (some ⟨g, 0, none⟩) n cap) n (flatX cellsM (M.set k y)) := by
  have h1 := (h.stored (k * 6) (.int .i64 y.m.client)).1
  have h2 := (h1.stored (k * 6 + 1) (.int .i64 y.m.seq)).1
  have h3 := (h2.stored (k * 6 + 2) (.int .i64 y.m.rep.code)).1
  have h4 := (h3.stored (k * 6 + 3) (.int .i64 y.m.rep.session)).1
  have h5 := (h4.stored (k * 6 + 4) (.int .i64 y.m.rep.ahead)).1
  have h6 := (h5.stored (k * 6 + 5) y.hv).1
  have e : ((((((flatX cellsM M).set (k * 6) (.int .i64 y.m.client)).set (k * 6 + 1) (.int .i64 y.m.seq)).set (k * 6 + 2) (.int .i64 y.m.rep.code)).set (k * 6 + 3) (.int .i64 y.m.rep.session)).set (k * 6 + 4) (.int .i64 y.m.rep.ahead)).set (k * 6 + 5) y.hv = flatX cellsM (M.set k y) := by
    obtain ⟨A, B, x, hM, hA⟩ : ∃ A B x, M = A ++ x :: B ∧ A.length = k := ⟨M.take k, M.drop (k + 1), M[k], by rw [← List.drop_eq_getElem_cons hk, List.take_append_drop], by rw [List.length_take]; omega⟩
    subst hA
    subst hM
    have e1 : flatX cellsM (A ++ x :: B) = flatX cellsM A ++ (cellsM x ++ flatX cellsM B) := by rw [flatX_append, flatX_cons]
    have e2 : (A ++ x :: B).set A.length y = A ++ y :: B := by simp
    have hl : (flatX cellsM A).length = A.length * 6 := flatX_length cellsM_length A
    have hs : ∀ (C : List Value) (j : Nat) (u : Value), (flatX cellsM A ++ C).set (A.length * 6 + j) u = flatX cellsM A ++ C.set j u := fun C j u => by
      rw [← hl, List.set_append_right _ _ (by omega), Nat.add_sub_cancel_left]
    rw [e1, e2, flatX_append, flatX_cons]
    have hs0 := fun C u => hs C 0 u
    simp only [Nat.add_zero] at hs0
    rw [hs0, hs, hs, hs, hs, hs]
    rfl
  rw [e] at h6
  exact h6

theorem own_set6e {w : World} {base g n : Nat} {e : TypeId} {size : Nat} {v : Value} {xs : List Value} (h : w.ownsRow base e size v n xs) (hg : g < base) (j : Nat) (x y z u q s : Value) :
    ((((((w.setCell ⟨g, j, none⟩ x).setCell ⟨g, j + 1, none⟩ y).setCell ⟨g, j + 2, none⟩ z).setCell ⟨g, j + 3, none⟩ u).setCell ⟨g, j + 4, none⟩ q).setCell ⟨g, j + 5, none⟩ s).ownsRow base e size v n xs :=
  ownsRow_setCell_below (ownsRow_setCell_below (ownsRow_setCell_below (ownsRow_setCell_below (ownsRow_setCell_below (ownsRow_setCell_below h hg _) hg _) hg _) hg _) hg _) hg _

/-- The world in which one of the eight has been written over. -/
def put8 (w : World) (nb k : Nat) (y : MemC) : World :=
  (((((w.setCell ⟨nb, k * 6, none⟩ (.int .i64 y.m.client)).setCell ⟨nb, k * 6 + 1, none⟩ (.int .i64 y.m.seq)).setCell ⟨nb, k * 6 + 2, none⟩ (.int .i64 y.m.rep.code)).setCell ⟨nb, k * 6 + 3, none⟩ (.int .i64 y.m.rep.session)).setCell ⟨nb, k * 6 + 4, none⟩ (.int .i64 y.m.rep.ahead)).setCell ⟨nb, k * 6 + 5, none⟩ y.hv

theorem Own8.put {w : World} {nb : Nat} {L : List MemC} (h : Own8 w nb L) (k : Nat) (hk : k < 8) (y : MemC) (hy : w.ownsRow (nb + 1) 61 2 y.hv y.m.rep.held.length (gCells y.m.rep.held)) : Own8 (put8 w nb k y) nb (L.set k y) := by
  refine ⟨by rw [List.length_set]; exact h.len, rowE_put h.row k (by rw [h.len]; exact hk) y, fun x hx => ?_⟩
  rcases List.mem_or_eq_of_mem_set hx with q | q
  · exact own_set6e (h.held x q) (Nat.lt_succ_self nb) _ _ _ _ _ _ _
  · subst q
    exact own_set6e hy (Nat.lt_succ_self nb) _ _ _ _ _ _ _
theorem OwnM.put8 {w : World} {nb k : Nat} {y : MemC} {v : Value} {M : List MemC} (h : OwnM (nb + 1) w v M) : OwnM (nb + 1) (put8 w nb k y) v M :=
  ⟨own_set6e h.row (Nat.lt_succ_self nb) _ _ _ _ _ _ _, fun x hx => own_set6e (h.held x hx) (Nat.lt_succ_self nb) _ _ _ _ _ _ _⟩
theorem below_put8 {b : Nat} {a w : World} {nb k : Nat} {y : MemC} (h : Below b a w) (hb : b ≤ nb) : Below b a (put8 w nb k y) := set6k h nb hb _ _ _ _ _ _ _

def zero8 : List MemC := List.replicate 8 ⟨zeroM, none, 0⟩
theorem Own8.zero (w : World) (cs : Array Value) (hcs : cs.toList = flatX cellsM zero8) : Own8 (w.alloc (.cells cs 40)) w.heap.size zero8 := by
  have hsz : cs.size = 48 := by rw [← Array.length_toList, hcs]; rfl
  refine ⟨rfl, ⟨rfl, .inr ⟨w.heap.size, 8, cs, rfl, Nat.le_refl _, heap_alloc_new w _, Nat.le_refl _, by unfold maxLen; omega, by omega, by rw [hcs]; rfl⟩⟩, fun x hx => ?_⟩
  have := List.eq_of_mem_replicate hx
  subst this
  exact World.ownsRow_nil _ _ _ _
/-- The eight are the newest of their clients. -/
def New8 (l : List AnsV) (L : List MemC) : Prop := ∀ c (h : c < L.length), L[c].m = (lastM l (c : Int)).1
theorem New8.zero : New8 [] zero8 := fun c h => by
  have := List.eq_of_mem_replicate (List.getElem_mem h : zero8[c] ∈ List.replicate 8 ⟨zeroM, none, 0⟩)
  rw [this]
  rfl
theorem New8.same {l : List AnsV} {L : List MemC} (h : New8 l L) {a : AnsV} (ha : mayA a = true) (hf : freshM l a.client a.seq ≠ 1) : New8 (keepM l a) L := fun c hc => by
  rw [last_keep l a ha, if_neg (fun p => hf p.1)]
  exact h c hc
theorem New8.put {l : List AnsV} {L : List MemC} (h : New8 l L) {a : AnsV} (ha : mayA a = true) (hf : freshM l a.client a.seq = 1) (k : Nat) (hk : a.client = (k : Int)) (y : MemC) (hy : y.m = a) : New8 (keepM l a) (L.set k y) := fun c hc => by
  rw [last_keep l a ha, List.getElem_set]
  by_cases q : k = c
  · subst q
    rw [if_pos rfl, if_pos ⟨hf, hk⟩, hy]
  · rw [if_neg q, if_neg (fun p => q (by have := p.2; omega))]
    exact h c (by rw [List.length_set] at hc; exact hc)
theorem cells_put6 {W : World} {B : Nat} {z0 z1 z2 z3 z4 z5 : Value} (h0 : W.cell? ⟨B, 0, none⟩ = some z0) (h1 : W.cell? ⟨B, 1, none⟩ = some z1) (h2 : W.cell? ⟨B, 2, none⟩ = some z2) (h3 : W.cell? ⟨B, 3, none⟩ = some z3) (h4 : W.cell? ⟨B, 4, none⟩ = some z4) (h5 : W.cell? ⟨B, 5, none⟩ = some z5) (hf : ∀ k, W.frozen? ⟨B, k, none⟩ = false) (x0 x1 x2 x3 x4 x5 : Value) :
    let W' := (((((W.setCell ⟨B, 0, none⟩ x0).setCell ⟨B, 1, none⟩ x1).setCell ⟨B, 2, none⟩ x2).setCell ⟨B, 3, none⟩ x3).setCell ⟨B, 4, none⟩ x4).setCell ⟨B, 5, none⟩ x5
    W'.cell? ⟨B, 0, none⟩ = some x0 ∧ W'.cell? ⟨B, 1, none⟩ = some x1 ∧ W'.cell? ⟨B, 2, none⟩ = some x2 ∧ W'.cell? ⟨B, 3, none⟩ = some x3 ∧ W'.cell? ⟨B, 4, none⟩ = some x4 ∧ W'.cell? ⟨B, 5, none⟩ = some x5 := by
  simp [go_sem, h0, h1, h2, h3, h4, h5, hf]

/-- Answer, called where its box has been laid ahead of it. -/
theorem Answer_z (c s : Nat) (v : Value) (ns : List UInt8) (w : World) (hc : c < 256) (hs : s < 256) (h : Rd w v ns) :
    Calls Try.prog 18 #[.int .u8 (c : Int), .int .u8 (s : Int), v] (w.alloc (.cells #[.int .i64 0, .int .i64 0, .int .i64 0, .int .i64 0, .int .i64 0, .slice none 0 0] 30)).drew (fun e w' => ∃ A a p, e = .returned (ansVal A (.slice a (List.length A.rep.held) p)) ∧ Hid (mayA A = true) ∧ A.client = ((c % 8 : Nat) : Int) ∧ 1 ≤ A.seq ∧ A.rep.held.length ≤ 4 ∧ Hid (w'.ownsRow (w.heap.size + 1) 61 2 (.slice a A.rep.held.length p) A.rep.held.length (gCells A.rep.held)) ∧ (w'.cell? ⟨w.heap.size, 0, none⟩ = some (.int .i64 0) ∧ w'.cell? ⟨w.heap.size, 1, none⟩ = some (.int .i64 0) ∧ w'.cell? ⟨w.heap.size, 2, none⟩ = some (.int .i64 0) ∧ w'.cell? ⟨w.heap.size, 3, none⟩ = some (.int .i64 0) ∧ w'.cell? ⟨w.heap.size, 4, none⟩ = some (.int .i64 0) ∧ w'.cell? ⟨w.heap.size, 5, none⟩ = some (.slice none 0 0)) ∧ (∀ k, w'.frozen? ⟨w.heap.size, k, none⟩ = false) ∧ Hid (Below w.heap.size w w')) := by
  refine (Answer_own c s v ns (w.alloc (.cells #[.int .i64 0, .int .i64 0, .int .i64 0, .int .i64 0, .int .i64 0, .slice none 0 0] 30)).drew hc hs (h.later (newAlloc w (.cells #[.int .i64 0, .int .i64 0, .int .i64 0, .int .i64 0, .int .i64 0, .slice none 0 0] 30)).drew)).mono fun e w' q => ?_
  obtain ⟨A, a, p, h1, h2, h3, h4, h5, h6, h7⟩ := q
  have hb : Below (w.alloc (.cells #[.int .i64 0, .int .i64 0, .int .i64 0, .int .i64 0, .int .i64 0, .slice none 0 0] 30)).heap.size (w.alloc (.cells #[.int .i64 0, .int .i64 0, .int .i64 0, .int .i64 0, .int .i64 0, .slice none 0 0] 30)) w' := step (Below.refl _ _).drew h7
  exact ⟨A, a, p, h1, Lib.hid h2, h3, by omega, h5, Lib.hid (own_lowerX h6 (by simp)), box6 hb, free6m hb, Lib.hid (step (newAlloc w _) hb)⟩
end Cm
end Go.Proofs.Ytfkpgndbohoogaa

/- Facts for MemoOrder: answers of unlike clients, kept in any order; rows of answers. -/
set_option linter.unusedVariables false
set_option linter.unusedSimpArgs false
namespace Go.Proofs.Ytfkpgndbohoogaa
open Go.RowKit
namespace Cm

/-- All of them kept, none of which is another's client. -/
def allM (R : List AnsV) : List AnsV := R.foldl (fun z x => insM x z) []
theorem allM_snoc (R : List AnsV) (a : AnsV) : allM (R ++ [a]) = insM a (allM R) := by unfold allM; rw [List.foldl_append]; rfl

theorem last_all (c : Int) : ∀ (R z : List AnsV), lastM z c = (zeroM, false) → (∀ x ∈ R, x.client ≠ c) → lastM (R.foldl (fun z x => insM x z) z) c = (zeroM, false)
  | [], z, h, _ => h
  | a :: R, z, h, hc => last_all c R (insM a z) (by rw [last_ins, if_neg (hc a List.mem_cons_self)]; exact h) fun x hx => hc x (List.mem_cons_of_mem _ hx)

theorem keep_all (R : List AnsV) (a : AnsV) (ha : mayA a = true) (h : ∀ x ∈ R, x.client ≠ a.client) : keepM (allM R) a = allM (R ++ [a]) := by
  rw [keepM_yes ha (fresh_less (by rw [show lastM (allM R) a.client = (zeroM, false) from last_all _ R [] rfl h])), allM_snoc]

theorem memM_all : ∀ (R z : List AnsV) (x : AnsV), x ∈ R.foldl (fun z x => insM x z) z → x ∈ R ∨ x ∈ z
  | [], z, x, h => .inr h
  | a :: R, z, x, h => by
    rcases memM_all R (insM a z) x h with q | q
    · exact .inl (List.mem_cons_of_mem _ q)
    · rcases ins_mem a z x q with q | q
      · exact .inl (by rw [q]; exact List.mem_cons_self)
      · exact .inr q

theorem rm_all : ∀ (R z : List AnsV), Rm z → (∀ x ∈ R, mayA x = true) → Rm (R.foldl (fun z x => insM x z) z)
  | [], z, h, _ => h
  | a :: R, z, h, hm => rm_all R (insM a z) (h.ins a (hm a List.mem_cons_self)) fun x hx => hm x (List.mem_cons_of_mem _ hx)

theorem ins_len (a : AnsV) : ∀ l : List AnsV, (∀ x ∈ l, x.client ≠ a.client) → (insM a l).length = l.length + 1
  | [], _ => rfl
  | m :: l, h => by
    have ih := ins_len a l fun x hx => h x (List.mem_cons_of_mem _ hx)
    have hm := h m List.mem_cons_self
    rw [insM]
    split
    · simp [ih]
    · first | (rw [if_neg hm]; simp) | simp

/-- Answers that may be, no two of one client. -/
structure Dist (R : List AnsV) : Prop where
  may : ∀ x ∈ R, mayA x = true
  ne : R.Pairwise fun x y => x.client ≠ y.client

theorem Dist.take {R : List AnsV} (h : Dist R) (k : Nat) : Dist (R.take k) := ⟨fun x hx => h.may x (List.mem_of_mem_take hx), h.ne.sublist (List.take_sublist k R)⟩
theorem Dist.step {R : List AnsV} (h : Dist R) (k : Nat) (hk : k < R.length) : keepM (allM (R.take k)) R[k] = allM (R.take (k + 1)) := by
  have e := List.take_succ_eq_append_getElem hk
  rw [keep_all _ _ (h.may _ (List.getElem_mem hk)), ← e]
  have := (h.take (k + 1)).ne
  rw [e] at this
  exact fun x hx => (List.pairwise_append.1 this).2.2 x hx R[k] (List.mem_singleton.2 rfl)
theorem Dist.rm {R : List AnsV} (h : Dist R) : Rm (allM R) := rm_all R [] Rm.nil h.may
theorem Dist.len {R : List AnsV} (h : Dist R) : ∀ k, k ≤ R.length → (allM (R.take k)).length = k := by
  intro k
  induction k with
  | zero => intro _; rfl
  | succ k ih =>
    intro hk
    have hk' : k < R.length := by omega
    have e := List.take_succ_eq_append_getElem hk'
    rw [e, allM_snoc, ins_len, ih (by omega)]
    have := (h.take (k + 1)).ne
    rw [e] at this
    intro x hx
    rcases memM_all _ [] x hx with q | q
    · exact (List.pairwise_append.1 this).2.2 x q R[k] (List.mem_singleton.2 rfl)
    · cases q
theorem Dist.turn {V : List AnsV} (h : Dist V) (s : Nat) : Dist (V.drop s ++ V.take s) := by
  refine ⟨fun x hx => ?_, ?_⟩
  · rcases List.mem_append.1 hx with q | q
    · exact h.may x (List.mem_of_mem_drop q)
    · exact h.may x (List.mem_of_mem_take q)
  · have := h.ne
    rw [← List.take_append_drop s V] at this
    obtain ⟨h1, h2, h3⟩ := List.pairwise_append.1 this
    exact List.pairwise_append.2 ⟨h2, h1, fun a ha b hb => (h3 b hb a ha).symm⟩
theorem Dist.same {V : List AnsV} (h : Dist V) (s : Nat) : allM (V.drop s ++ V.take s) = allM V := by
  have p : (V.drop s ++ V.take s).Perm V := List.perm_append_comm.trans (by rw [List.take_append_drop])
  unfold allM
  refine p.foldl_eq' (fun x hx y hy z => ?_) []
  by_cases e : x = y
  · rw [e]
  · refine ins_comm y x (fun q => ?_) z
    obtain ⟨i, hi, rfl⟩ := List.mem_iff_getElem.1 hx
    obtain ⟨j, hj, rfl⟩ := List.mem_iff_getElem.1 hy
    have hp := List.pairwise_iff_getElem.1 (h.turn s).ne
    rcases Nat.lt_trichotomy i j with g | g | g
    · exact hp i j hi hj g q.symm
    · subst g; exact e rfl
    · exact hp j i hj hi g q
theorem Dist.of {V : List AnsV} (hm : ∀ x ∈ V, mayA x = true) (hc : ∀ i (h : i < V.length), V[i].client = (i : Int)) : Dist V :=
  ⟨hm, List.pairwise_iff_getElem.2 fun i j hi hj hij q => by rw [hc i hi, hc j hj] at q; omega⟩
theorem rot_len (V : List AnsV) (s : Nat) : (V.drop s ++ V.take s).length = V.length := by simp; omega
theorem rot_at0 (V : List AnsV) (s r k : Nat) (hk : k < V.length) (hs : s < V.length) (hr : r = if k + s < V.length then k + s else k + s - V.length) (h : k < (V.drop s ++ V.take s).length) (h2 : r < V.length) :
    (V.drop s ++ V.take s)[k] = V[r] := by
  rw [List.getElem_append]
  split
  · rename_i q
    rw [List.length_drop] at q
    rw [List.getElem_drop]
    congr 1
    rw [hr, if_pos (by omega)]
    omega
  · rename_i q
    rw [List.length_drop] at q
    rw [List.getElem_take]
    congr 1
    rw [List.length_drop, hr, if_neg (by omega)]
    omega
theorem rot_at (V : List AnsV) (t k : Nat) (hk : k < V.length) (h : k < (V.drop (t % V.length) ++ V.take (t % V.length)).length) (h2 : (k + t) % V.length < V.length) :
    (V.drop (t % V.length) ++ V.take (t % V.length))[k] = V[(k + t) % V.length] := by
  have hs : t % V.length < V.length := Nat.mod_lt _ (by omega)
  refine rot_at0 V _ _ k hk hs ?_ h h2
  rw [show (k + t) % V.length = (k + t % V.length) % V.length by rw [Nat.add_mod_mod]]
  generalize t % V.length = s at *
  split
  · exact Nat.mod_eq_of_lt (by assumption)
  · rw [Nat.mod_eq_sub_mod (by omega), Nat.mod_eq_of_lt (by omega)]
theorem held_all {V : List AnsV} (h : ∀ x ∈ V, x.rep.held.length ≤ 4) (k : Nat) : Few (allM (V.take k)) := fun x hx => by
  rcases memM_all _ [] x hx with q | q
  · have := h x (List.mem_of_mem_take q); omega
  · cases q
theorem held_rot {V : List AnsV} (h : ∀ x ∈ V, x.rep.held.length ≤ 4) (s : Nat) : ∀ x ∈ V.drop s ++ V.take s, x.rep.held.length ≤ 4 := fun x hx => by
  rcases List.mem_append.1 hx with q | q
  · exact h x (List.mem_of_mem_drop q)
  · exact h x (List.mem_of_mem_take q)

/-! ### Rows of answers -/
theorem infoA9 : (Try.prog.info? 30).map (fun i => (i.zero, i.size, i.bytes)) = some (some (.agg #[.int .i64 0, .int .i64 0, .int .i64 0, .int .i64 0, .int .i64 0, .slice none 0 0]), 6, 64) := by kernel_rfl

/-- Answers in memory of the call's own, what they hold too. -/
structure OwnA (base : Nat) (w : World) (v : Value) (M : List MemC) : Prop where
  row : w.ownsRow base 30 6 v M.length (flatX cellsM M)
  held : ∀ x ∈ M, w.ownsRow base 61 2 x.hv x.m.rep.held.length (gCells x.m.rep.held)
theorem OwnA.nil (base : Nat) (w : World) : OwnA base w (.slice none 0 0) [] := ⟨World.ownsRow_nil _ _ _ _, fun x hx => by cases hx⟩
theorem OwnA.rd {base : Nat} {w : World} {v : Value} {M : List MemC} (h : OwnA base w v M) : RdM w v M := ⟨RdX.own cellsM_length h.row, fun x hx => RdH.own (h.held x hx)⟩
theorem OwnA.later {base : Nat} {w w' : World} {v : Value} {M : List MemC} (h : OwnA base w v M) (hb : Below w.heap.size w w') : OwnA base w' v M := ⟨Rw.own_below h.row hb, fun x hx => Rw.own_below (h.held x hx) hb⟩
theorem OwnA.push {base base' : Nat} {wr w3 w6 : World} {m v' : Value} {M : List MemC} {x : MemC} (h : OwnA base wr m M) (hb : Below wr.heap.size wr w3)
    (hl : w3.ownsRow base' 61 2 x.hv x.m.rep.held.length (gCells x.m.rep.held)) (hbs : base ≤ base') (hg : w3.grownBy w6 m.ownBlock)
    (ho : w6.ownsRow base 30 6 v' (M ++ [x]).length (flatX cellsM (M ++ [x]))) : OwnA base w6 v' (M ++ [x]) := by
  have hm := h.later hb
  refine ⟨ho, fun y hy => ?_⟩
  rcases List.mem_append.1 hy with q | q
  · exact Rw.own_other (hm.held y q) hg (own_types hm.row (hm.held y q) (by decide))
  · rw [List.mem_singleton] at q
    subst q
    exact own_lowerX (Rw.own_other hl hg (own_types hm.row hl (by decide))) hbs
end Cm
end Go.Proofs.Ytfkpgndbohoogaa

/- Arguments that are slices of slices of bytes, opened. -/
set_option linter.unusedVariables false
set_option linter.unusedSimpArgs false
namespace Go.Proofs.Ytfkpgndbohoogaa
open Go.RowKit Go.ChangeShapes Go.WideShapes Go.Deep
namespace Cm

/-- Bytes, and where they lie. -/
structure Bytes9 where
  ns : List UInt8
  na : Option Addr
  nc : Nat
def Bytes9.nv (a : Bytes9) : Value := .slice a.na a.ns.length a.nc
def cellsB9 (a : Bytes9) : List Value := [a.nv]
theorem cellsB9_length (a : Bytes9) : (cellsB9 a).length = 1 := rfl
theorem bytes9_at {w : World} {a : Option Addr} {n cap : Nat} {L : List Bytes9} (h : RdX 1 cellsB9 w (.slice a n cap) L) (i : Nat) (hi : i < L.length) :
    ∃ b o, a = some ⟨b, o, none⟩ ∧ ∀ w' : World, Below w.heap.size w w' → w'.cell? ⟨b, o + i, none⟩ = some L[i].nv := by
  obtain ⟨b, o, e, c⟩ := h.at i hi
  exact ⟨b, o, e, fun w' hb => by have := c w' hb 0 _ rfl; simpa using this⟩

section
variable {H : Type} {enc : TypeId × Value → H} {W : World}
theorem bytes9_cells (fuel : Nat) (cs : List Value) (x : DataW H × List MemPlace) (h : DataW.trod enc Try.prog W 0 (fun _ => true) true fuel 42 cs = some x) : ∃ a : {a : Bytes9 // Rd W a.nv a.ns}, cs = cellsB9 a.1 := by
  obtain ⟨v, l, e2, hl⟩ := slice_of Try.underlying42 (show Try.prog.cellsOf 5 = 1 by kernel_rfl) (by omega) cellsU_length u8_cells h
  obtain ⟨a, cap, rfl⟩ := hl.form
  exact ⟨⟨⟨l, a, cap⟩, rd_of hl⟩, by rw [e2]; rfl⟩

def bytes9A (a : List Bytes9 × Value) : Value := a.2
def bytes9OkA (w : World) (a : List Bytes9 × Value) : Prop := RdX 1 cellsB9 w a.2 a.1 ∧ ∀ x ∈ a.1, Rd w x.nv x.ns
theorem open_bytes9 {r : Reach} {b0 : Nat} {v : Value} {d : DataW H} {p : List MemPlace} (hv : Value.okWide Try.prog W r b0 47 v) (h : DataW.Trod enc Try.prog W 0 (fun _ => true) true 47 v d p) : ∃ a : List Bytes9 × Value, v = bytes9A a ∧ bytes9OkA W a := by
  obtain ⟨a, len, cap, rfl⟩ := okWide_slice Try.underlying47 hv
  obtain ⟨m, hm⟩ := h
  obtain ⟨u, l, hu, hl⟩ := slice_of (f := fun x : {a : Bytes9 // Rd W a.nv a.ns} => cellsB9 x.1) Try.underlying47 (show Try.prog.cellsOf 42 = 1 by kernel_rfl) (by omega) (fun x => cellsB9_length x.1) bytes9_cells hm
  have : Value.slice a len cap = u := by simpa [Value.cells] using hu
  subst this
  refine ⟨(l.map Subtype.val, _), rfl, rdx_map (f := cellsB9) Subtype.val hl, fun x hx => ?_⟩
  obtain ⟨y, _, rfl⟩ := List.mem_map.1 hx
  exact y.2
end
end Cm
end Go.Proofs.Ytfkpgndbohoogaa
