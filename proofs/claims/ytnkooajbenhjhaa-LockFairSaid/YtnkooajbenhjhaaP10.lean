/- Texts laid together by program: LckX, Law8, FLockD, FLockE, FLockG, FLockF. -/
import Derived.Test.YtnkooajbenhjhaaP9
import Derived.BigQuiet
/- Contracts: package lock's Right; with it all six of the package. -/
set_option linter.unusedVariables false
set_option linter.unusedSimpArgs false
namespace Go.Proofs.Ytnkooajbenhjhaa
open Go.RowKit Go.Shelf
namespace Cm

theorem str_leq (a b : List UInt8) : (Op.bytesLess (bstr a).toList (bstr b).toList || (bstr a).toList == (bstr b).toList) = !Op.bytesLess b a := by
  rw [str_less, str_eq]
  rcases less_tri a b with ⟨q1, q2, q3⟩ | ⟨q1, q2, q3⟩ | ⟨q1, q2⟩
  · simp [q1, q2, q3]
  · simp [q1, q2, q3]
  · subst q1; simp [q2]

theorem wrongK_one {l : List LockV} {j : Nat} {hj : j < l.length} (h : oneK l[j] = false) : rightK l = false := by
  cases q : rightK l
  · rfl
  · rw [((rightK_iff l).1 q).2.one l[j] (List.getElem_mem hj)] at h
    cases h

theorem wrongK_tok {l : List LockV} {j : Nat} {hj : j < l.length} (h : ((l.take j).any fun x => decide (x.token = l[j].token)) = true) : rightK l = false := by
  cases q : rightK l
  · rfl
  · obtain ⟨_, hr⟩ := (rightK_iff l).1 q
    rw [List.any_eq_true] at h
    obtain ⟨s, hs, hp⟩ := h
    obtain ⟨i, hi, rfl⟩ := List.mem_iff_getElem.1 hs
    have hij : i < j := by rw [List.length_take] at hi; omega
    rw [List.getElem_take, decide_eq_true_eq] at hp
    exact absurd hp (List.pairwise_iff_getElem.1 hr.tok i j (by omega) hj hij)

theorem wrongK_up {l : List LockV} {j : Nat} {hj : j + 1 < l.length} (h : Op.bytesLess (l[j]'(by omega)).name l[j + 1].name = false) : rightK l = false := by
  cases q : rightK l
  · rfl
  · obtain ⟨_, hr⟩ := (rightK_iff l).1 q
    have := List.pairwise_iff_getElem.1 hr.up j (j + 1) (by omega) hj (by omega)
    rw [this] at h
    cases h

theorem rightK_of (l : List LockV) (h5 : l.length ≤ 4) (h1 : ∀ j (hj : j < l.length), oneK l[j] = true) (h2 : ∀ j (hj : j < l.length), ((l.take j).any fun x => decide (x.token = l[j].token)) = false) (h3 : ∀ j (hj : j + 1 < l.length), Op.bytesLess (l[j]'(by omega)).name l[j + 1].name = true) : rightK l = true := by
  refine (rightK_iff l).2 ⟨h5, fun s hs => ?_, ?_, ?_⟩
  · obtain ⟨i, hi, rfl⟩ := List.mem_iff_getElem.1 hs
    exact h1 i hi
  · rw [List.pairwise_iff_getElem]
    intro i j hi hj hij
    obtain ⟨d, rfl⟩ : ∃ d, j = i + 1 + d := ⟨j - i - 1, by omega⟩
    clear hij
    induction d with
    | zero => exact h3 i hj
    | succ d ih => exact less_tr _ _ _ (ih (by omega)) (h3 (i + 1 + d) (by omega))
  · rw [List.pairwise_iff_getElem]
    intro i j hi hj hij e
    have := h2 j hj
    rw [List.any_eq_false] at this
    refine this l[i] ?_ (by simpa using e)
    rw [List.mem_iff_getElem]
    exact ⟨i, by rw [List.length_take]; omega, List.getElem_take⟩

theorem any_vals (L : List LockC) (j : Nat) (t : Int) : ((L.take j).any fun x => decide (x.token = t)) = (((vals L).take j).any fun x => decide (x.token = t)) := by
  rw [← vals_take]
  unfold vals
  rw [List.any_map]
  rfl

set_option maxHeartbeats 8000000 in
theorem LckRight_any (v : Value) (L : List LockC) (w : World) (h : RdK w v L) (hn : ∀ x ∈ L, x.name.length ≤ maxLen) : Calls Try.prog 22 #[v] w (SaysB (rightK (vals L)) w) := by
  have hm := h.len
  have hcap : ∀ a cap, v = .slice a L.length cap → L.length ≤ cap ∧ cap ≤ maxLen := fun a cap e => by
    obtain ⟨a', cap', hv, q1, q2, _⟩ := h.row.ex
    rw [hv] at e
    cases e
    exact ⟨q1, q2⟩
  obtain ⟨a, cap, rfl⟩ := h.form
  obtain ⟨hc1, hc2⟩ := hcap a cap rfl
  clear hcap
  unfold maxLen at hc2
  by_cases c6 : L.length ≤ 4
  case neg =>
    have e : rightK (vals L) = false := by unfold rightK; rw [vals_length, decide_eq_false c6, Bool.false_and]
    rw [e]
    clear h e hn
    have d5 : decide (4 < (L.length : Int)) = true := by simp; omega
    generalize L.length = N at *
    go_enter Try.func22, Try.ntmps22
    go_wp2
    go_ret
    exact ⟨rfl, Below.refl _ _⟩
  have d5 : decide (4 < (L.length : Int)) = false := by simp; omega
  have HA := Lib.hid (fun i hi => rdk_at h.row i hi)
  have HLI : Hid (∀ i (hi : i < L.length) (w' : World), Below w.heap.size w w' → Calls Try.prog 43 #[lockVal L[i]] w' (SaysB (oneK L[i].val) w')) := Lib.hid fun i hi w' hb => isRightK_any _ w' ((h.line _ (List.getElem_mem hi)).later hb)
  have HTK : Hid (∀ i, i ≤ L.length → ∀ (w' : World), Below w.heap.size w w' → ∀ t, Calls Try.prog 44 #[.slice a i cap, .int .i64 t] w' (SaysB (((vals L).take i).any fun x => decide (x.token = t)) w')) := Lib.hid fun i hi w' hb t => by
    rw [← any_vals]
    exact hasTokenK_any _ (L.take i) t w' ((h.row.take i hi).later hb)
  have W1 := Lib.hid (fun j hj => wrongK_one (l := vals L) (j := j) (hj := hj))
  have W2 := Lib.hid (fun j hj => wrongK_tok (l := vals L) (j := j) (hj := hj))
  have W3 := Lib.hid (fun j hj => wrongK_up (l := vals L) (j := j) (hj := hj))
  have HR := Lib.hid (rightK_of (vals L) (by rw [vals_length]; exact c6))
  have HVG : Hid (∀ i (h : i < L.length) (h' : i < (vals L).length), (vals L)[i] = L[i].val) := Lib.hid (vals_get L)
  have HVL := Lib.hid (vals_length L)
  clear h hn
  generalize vals L = V at *
  obtain ⟨N, hL⟩ : ∃ N, L.length = N := ⟨_, rfl⟩
  have HLL := Lib.hid hL
  rw [hL] at hm c6 d5 HTK hc1 HVL ⊢
  clear hL
  go_enter Try.func22, Try.ntmps22
  go_wp2
  go_loopw [10] (fun i wr => ∃ j : Nat, j ≤ N ∧ i = .int .i64 j ∧ Hid (Below w.heap.size w wr) ∧ Hid (∀ q (hq : q < V.length), q < j → oneK V[q] = true ∧ ((V.take q).any fun x => decide (x.token = V[q].token)) = false ∧ ∀ p (hp : p + 1 = q), Op.bytesLess (V[p]'(by omega)).name V[q].name = true)) (fun i _ => N - (intOf i).toNat)
  case atStart => exact ⟨0, by omega, rfl, Lib.hid (Below.refl _ _), Lib.hid (fun q hq h => absurd h (Nat.not_lt_zero _))⟩
  case round =>
    obtain ⟨j, hj, rfl, HB, HG⟩ := hrel
    by_cases hlt : j < N
    · have hjl : j < L.length := by rw [HLL.out]; exact hlt
      have hjv : j < V.length := by rw [HVL.out]; exact hlt
      have HJ := Lib.hid hjv
      obtain ⟨b, o, rfl, hc⟩ := HA.out j hjl
      obtain ⟨q0, q1, q2, q3⟩ := hc _ HB.out
      have HC : Hid (∀ i (hi : i < V.length) (w' : World), Below w.heap.size w w' → w'.cell? ⟨b, o + i * 4, none⟩ = some (.string (bstr V[i].name))) := Lib.hid fun i hi w' hb => by
        have hi' : i < L.length := by rw [HLL.out, ← HVL.out]; exact hi
        obtain ⟨b', o', e, hc'⟩ := HA.out i hi'
        cases e
        have := (hc' w' hb).1
        rw [HVG.out i hi' hi]
        exact this
      have K1 := W1.out j hjv
      have K2 := W2.out j hjv
      have HN : oneK (V[j]'hjv) = true → ((V.take j).any fun x => decide (x.token = (V[j]'hjv).token)) = false → (∀ p (hp : p + 1 = j) (hpl : p < V.length), Op.bytesLess V[p].name (V[j]'hjv).name = true) → ∀ q (hq : q < V.length), q < j + 1 → oneK V[q] = true ∧ ((V.take q).any fun x => decide (x.token = V[q].token)) = false ∧ ∀ p (hp : p + 1 = q), Op.bytesLess (V[p]'(by omega)).name V[q].name = true := fun a1 a2 a3 q hq hqj => by
        by_cases e : q = j
        · subst e; exact ⟨a1, a2, fun p hp => a3 p hp (by omega)⟩
        · exact HG.out q hq (by omega)
      have K3 : ∀ p (hp : p + 1 = j) (hpl : p < V.length), Op.bytesLess V[p].name (V[j]'hjv).name = false → rightK V = false := fun p hp _ hle => by
        subst hp
        exact W3.out p hjv hle
      have KI := fun w' hb => HLI.out j hjl w' hb
      have KT := fun w' hb => HTK.out j hj w' hb
      rw [HVG.out j hjl hjv] at K1 K2 HN K3
      clear hc W1 W2 W3 HLI HTK HA HG
      generalize L[j] = x at q0 q1 q2 q3 K1 K2 K3 HN KI
      clear hjl hjv
      obtain ⟨xn, xh, xt, xl, xa, xc⟩ := x
      unfold lockVal LockC.lv at KI
      unfold LockC.lv at q3
      unfold LockC.val at K1 K2 K3 HN KI
      dsimp only at q0 q1 q2 q3 K1 K2 K3 HN KI
      have KT := fun w' hb => KT w' hb xt
      obtain ⟨WR, hWR⟩ : ∃ WR, WR = wr.alloc (.cells #[.string (bstr xn), .int .i64 xh, .int .i64 xt, .slice xa xl.length xc] 39) := ⟨_, rfl⟩
      have HB1 : Hid (Below w.heap.size w WR) := Lib.hid (by rw [hWR]; exact step HB.out (newAlloc _ _))
      obtain ⟨z0, z1, z2, z3⟩ := box4 (Below.refl _ (wr.alloc (.cells #[.string (bstr xn), .int .i64 xh, .int .i64 xt, .slice xa xl.length xc] 39)))
      rw [← hWR] at z0 z1 z2 z3
      have HWW := Lib.hid hWR
      clear hWR
      generalize xl.length = XN at *
      have k0 := cell_regrown z0
      have k1 := cell_regrown z1
      have k2 := cell_regrown z2
      have k3 := cell_regrown z3
      have D1 := Lib.hid (fun d os => Calls.regrown_of (w := WR) (d := d) (os := os) (KI _ (step HB1.out (below_regrown WR d os))))
      have D2 := Lib.hid (fun d os => Calls.regrown_of (w := WR) (d := d) (os := os) (KT _ (step HB1.out (below_regrown WR d os))))
      have f1 : (0 : Int) ≤ (j : Int) := by omega
      have f2 : (j : Int) < (N : Int) := by omega
      have f3 : (j : Int) ≤ (cap : Int) := by omega
      clear KI KT
      have mixed : Try.prog.follows Departure.mixedOrders = true := by kernel_rfl
      cases n1 : oneK ⟨xn, xh, xt, xl⟩
      case false =>
        have HE := Lib.hid (K1 n1)
        rw [n1] at D1
        clear n1 HN K1 K2 K3 HC
        go_upto_region 6 with fail
        rw [← HWW.out]
        clear HWW q0 q1 q2 q3
        refine wp_region_quiet_below (by kernel_rfl) (by kernel_rfl) ?_
        repeat (go_big_quiet_step (first | exact D1.out _ _ | exact D2.out _ _))
        refine wpQuiet_nil ?_
        intro _ hw'
        obtain ⟨⟨dq, osq⟩, hw''⟩ := hw'
        subst hw''
        go_wp2
        go_ret
        exact ⟨by rw [HE.out]; rfl, step HB1.out (below_regrown WR dq osq)⟩
      rw [n1] at D1
      cases n2 : ((V.take j).any fun x => decide (x.token = xt))
      case true =>
        have HE := Lib.hid (K2 n2)
        rw [n2] at D2
        clear n1 n2 HN K1 K2 K3 HC
        go_upto_region 6 with fail
        rw [← HWW.out]
        clear HWW q0 q1 q2 q3
        refine wp_region_quiet_below (by kernel_rfl) (by kernel_rfl) ?_
        repeat (go_big_quiet_step (first | exact D1.out _ _ | exact D2.out _ _))
        refine wpQuiet_nil ?_
        intro _ hw'
        obtain ⟨⟨dq, osq⟩, hw''⟩ := hw'
        subst hw''
        go_wp2
        go_ret
        exact ⟨by rw [HE.out]; rfl, step HB1.out (below_regrown WR dq osq)⟩
      rw [n2] at D2
      have HN2 := Lib.hid (HN n1 n2)
      have HK3 := Lib.hid K3
      clear n1 n2 HN K1 K2 K3
      match j, hj, hlt, f1, f2, f3, q0, q1, q2, q3, HK3, HN2, HJ, D1, D2, HWW with
      | 0, hj, hlt, f1, f2, f3, q0, q1, q2, q3, HK3, HN2, HJ, D1, D2, HWW =>
        have HN3 := Lib.hid (HN2.out (fun p hp _ => by omega))
        clear HN2 HK3 HC
        simp only [Nat.zero_mul, Nat.add_zero] at q0 q1 q2 q3
        go_upto_region 6 with fail
        rw [← HWW.out]
        clear HWW q0 q1 q2 q3
        refine wp_region_quiet_below (by kernel_rfl) (by kernel_rfl) ?_
        repeat (go_big_quiet_step (first | exact D1.out _ _ | exact D2.out _ _))
        refine wpQuiet_nil ?_
        intro _ hw'
        obtain ⟨⟨dq, osq⟩, hw''⟩ := hw'
        subst hw''
        go_upto_region 8 with fail
        obtain ⟨W9, hW9⟩ : ∃ W9, W9 = Go.Sort.grow (redrawn WR dq) osq := ⟨_, rfl⟩
        have HB9 : Hid (Below w.heap.size w W9) := Lib.hid (by rw [hW9]; exact step HB1.out (below_regrown WR dq osq))
        have y0 := k0 dq osq
        rw [← hW9] at y0 ⊢
        clear hW9 k0 k1 k2 k3 z0 z1 z2 z3 D1 D2
        go_quiet (fail)
        go_wp2
        go_roundw
        case rel => exact ⟨1, by omega, by go_num, Lib.hid (below_drewN6 HB9.out nq), HN3⟩
        case measure => simp [intOf]; omega
      | p + 1, hj, hlt, f1, f2, f3, q0, q1, q2, q3, HK3, HN2, HJ, D1, D2, HWW =>
        have hpl : p < V.length := by have := HJ.out; omega
        have K4 := HK3.out p rfl hpl
        have HC2 := Lib.hid (HC.out p hpl)
        have HN3 : Op.bytesLess (V[p]'hpl).name xn = true → _ := fun q => HN2.out (fun r hr _ => by cases hr; exact q)
        clear HN2 HK3 HC
        generalize (V[p]'hpl).name = pn at K4 HC2 HN3
        have hE := str_leq xn pn
        have g1 : IntKind.i64.wrap (((p + 1 : Nat) : Int) - 1) = (p : Int) := by rw [IntKind.wrap_i64]; omega
        have g2 : (0 : Int) ≤ (p : Int) := by omega
        have g3 : (p : Int) < (N : Int) := by omega
        have g4 : (0 : Int) < ((p + 1 : Nat) : Int) := by omega
        cases e1 : Op.bytesLess pn xn with
        | false =>
          rw [e1] at hE
          have HE := Lib.hid (K4 e1)
          clear e1 K4 HN3
          go_upto_region 6 with fail
          rw [← HWW.out]
          clear HWW q0 q1 q2 q3
          refine wp_region_quiet_below (by kernel_rfl) (by kernel_rfl) ?_
          repeat (go_big_quiet_step (first | exact D1.out _ _ | exact D2.out _ _))
          refine wpQuiet_nil ?_
          intro _ hw'
          obtain ⟨⟨dq, osq⟩, hw''⟩ := hw'
          subst hw''
          go_upto_region 8 with fail
          obtain ⟨W9, hW9⟩ : ∃ W9, W9 = Go.Sort.grow (redrawn WR dq) osq := ⟨_, rfl⟩
          have HB9 : Hid (Below w.heap.size w W9) := Lib.hid (by rw [hW9]; exact step HB1.out (below_regrown WR dq osq))
          have y0 := k0 dq osq
          rw [← hW9] at y0 ⊢
          clear hW9 k0 k1 k2 k3 z0 z1 z2 z3 D1 D2
          have y1 := HC2.out W9 HB9.out
          go_quiet (fail)
          go_wp2
          go_ret
          exact ⟨by rw [HE.out]; rfl, below_drewN6 HB9.out nq⟩
        | true =>
          rw [e1] at hE
          have HN4 := Lib.hid (HN3 e1)
          clear e1 K4 HN3
          go_upto_region 6 with fail
          rw [← HWW.out]
          clear HWW q0 q1 q2 q3
          refine wp_region_quiet_below (by kernel_rfl) (by kernel_rfl) ?_
          repeat (go_big_quiet_step (first | exact D1.out _ _ | exact D2.out _ _))
          refine wpQuiet_nil ?_
          intro _ hw'
          obtain ⟨⟨dq, osq⟩, hw''⟩ := hw'
          subst hw''
          go_upto_region 8 with fail
          obtain ⟨W9, hW9⟩ : ∃ W9, W9 = Go.Sort.grow (redrawn WR dq) osq := ⟨_, rfl⟩
          have HB9 : Hid (Below w.heap.size w W9) := Lib.hid (by rw [hW9]; exact step HB1.out (below_regrown WR dq osq))
          have y0 := k0 dq osq
          rw [← hW9] at y0 ⊢
          clear hW9 k0 k1 k2 k3 z0 z1 z2 z3 D1 D2
          have y1 := HC2.out W9 HB9.out
          go_quiet (fail)
          go_wp2
          go_roundw
          case rel => exact ⟨p + 2, by omega, by go_num, Lib.hid (below_drewN6 HB9.out nq), HN4⟩
          case measure => simp [intOf]; omega
    · obtain rfl : j = N := by omega
      have hr := HR.out (fun q hq => (HG.out q hq (by rw [← HVL.out]; exact hq)).1) (fun q hq => (HG.out q hq (by rw [← HVL.out]; exact hq)).2.1) (fun q hq => (HG.out (q + 1) hq (by rw [← HVL.out]; exact hq)).2.2 q rfl)
      have HE := Lib.hid hr
      clear hr W1 W2 W3
      go_wp2
      go_ret
      exact ⟨by rw [HE.out]; rfl, HB.out⟩
end Cm
end Go.Proofs.Ytnkooajbenhjhaa

/- Contracts of the statements' own helpers of layer 8: awake. LckX: the text with package lock's contracts (LckTake_any ..). -/
set_option linter.unusedVariables false
set_option linter.unusedSimpArgs false
namespace Go.Proofs.Ytnkooajbenhjhaa
open Go.RowKit
namespace Cm

theorem alloc_at8 (w : World) (o : Obj) : (w.alloc o).heap[w.heap.size]? = some o := by
  show (w.heap.push o)[w.heap.size]? = _
  simp

def oneC (n : List UInt8) (h t : Int) : LockC := ⟨n, h, t, [], none, 0⟩
theorem litK (w : World) (n : List UInt8) (h t : Int) : RdK (w.alloc (.cells #[.string (bstr n), .int .i64 h, .int .i64 t, .slice none 0 0] 39)) (.slice (some ⟨w.heap.size, 0, none⟩) 1 1) [oneC n h t] :=
  ⟨RdX.one (alloc_at8 w _) rfl, fun x hx => by
    rw [List.mem_singleton] at hx
    subst hx
    exact RdX.nil _⟩

/-- Answers, the slice written out. -/
def GetsTS (r : List LockV × Int × Int) (w : World) (e : Ending) (w' : World) : Prop :=
  ∃ a c M, e = .returned (.tuple #[.slice a M.length c, .int .i64 r.2.1, .int .i64 r.2.2]) ∧ vals M = r.1 ∧ RdK w' (.slice a M.length c) M ∧ Below w.heap.size w w'
theorem GetsT.s {r : List LockV × Int × Int} {w : World} {e : Ending} {w' : World} (h : GetsT r w e w') : GetsTS r w e w' := by
  obtain ⟨v, M, he, hv, ho, hb⟩ := h
  obtain ⟨a, c, rfl⟩ := Rw.own_form ho.row
  exact ⟨a, c, M, he, hv, ho.rd, hb⟩
def GetsDS (r : List LockV × Int) (w : World) (e : Ending) (w' : World) : Prop :=
  ∃ a c M, e = .returned (.tuple #[.slice a M.length c, .int .i64 r.2]) ∧ vals M = r.1 ∧ RdK w' (.slice a M.length c) M ∧ Below w.heap.size w w'
theorem GetsD.s {r : List LockV × Int} {w : World} {e : Ending} {w' : World} (h : GetsD r w e w') : GetsDS r w e w' := by
  obtain ⟨v, M, he, hv, ho, hb⟩ := h
  obtain ⟨a, c, rfl⟩ := Rw.own_form ho.row
  exact ⟨a, c, M, he, hv, ho.rd, hb⟩

theorem same_locks (u v : Value) (l m : List LockC) (w : World) (h : RdK w u l) (h2 : RdK w v m) (e : vals l = vals m) : Calls Try.prog 13 #[u, v] w (SaysB true w) := by
  have := SameLocks_any u v l m w h h2
  rwa [(sameK_iff _ _).2 e] at this

set_option maxHeartbeats 2000000 in
theorem awake8_ok (w : World) : Calls Try.prog 9 #[] w (SaysB true w) := by
  have e1 : takeK [] [97] 1 6 true = ([⟨[97], 1, 7, []⟩], 0, 0) := by decide +kernel
  have e2 : takeK [⟨[97], 1, 7, []⟩] [97] 2 7 true = ([⟨[97], 1, 7, [2]⟩], 0, 10) := by decide +kernel
  have e3 : freeK [⟨[97], 1, 7, [2]⟩] [97] 1 7 = ([⟨[97], 2, 8, []⟩], 1, 0) := by decide +kernel
  have g0 : Good (vals []) 6 := ⟨Rk.nil, by simp [vals], (fun k h => by cases h), by omega⟩
  have hn : nameF [97] = true := by decide +kernel
  have g1 : Good [⟨[97], 1, 7, []⟩] 7 := by
    have := (good_take g0 [97] 1 true hn (by decide) (by omega)).1 (by show (takeK [] [97] 1 6 true).2.2 = 0; rw [e1])
    rw [show takeK (vals []) [97] 1 6 true = _ from e1] at this
    exact this
  have g2 : Good [⟨[97], 1, 7, [2]⟩] 7 := by
    have := (good_take g1 [97] 2 true hn (by decide) (by omega)).2 (by rw [e2])
    rw [e2] at this
    exact this
  have C1 := Lib.hid (fun w => (LckTake_any (.slice none 0 0) [] [97] 1 6 true w (RdK.nil w) g0 hn (by decide) (by omega)).mono fun e w' h => GetsT.s h)
  have C2 := Lib.hid (fun v M w (h : RdK w v M) (hv : vals M = [⟨[97], 1, 7, []⟩]) => (LckTake_any v M [97] 2 7 true w h (by rw [hv]; exact g1) hn (by decide) (by omega)).mono fun e w' h => GetsT.s h)
  have C3 := Lib.hid (fun v M w (h : RdK w v M) (hv : vals M = [⟨[97], 1, 7, [2]⟩]) => (LckFree_any v M [97] 1 7 w h (by rw [hv]; exact g2) hn (by decide) (by omega)).mono fun e w' h => GetsT.s h)
  have E1 := Lib.hid e1
  have E2 := Lib.hid e2
  have E3 := Lib.hid e3
  clear e1 e2 e3 g0 g1 g2 hn
  go_enter Try.func9, Try.ntmps9
  go_wp2_with fail
  refine (C1.out _).mono ?_
  rw [show takeK (vals []) [97] 1 6 true = _ from E1.out]
  rintro e w1 ⟨a1, p1, M1, rfl, hv1, hr1, hb1⟩
  have HR1 := Lib.hid hr1
  have HV1 := Lib.hid hv1
  have HB1 := Lib.hid hb1
  clear hr1 hb1 hv1
  go_wp2_with fail
  refine (C2.out _ _ _ HR1.out HV1.out).mono ?_
  rw [HV1.out, E2.out]
  rintro e w2 ⟨a2, p2, M2, rfl, hv2, hr2, hb2⟩
  have HR2 := Lib.hid hr2
  have HV2 := Lib.hid hv2
  have HB2 := Lib.hid (step HB1.out hb2)
  have HR1 := Lib.hid (HR1.out.later hb2)
  clear hr2 hb2 hv2
  go_wp2_with fail
  refine (C3.out _ _ _ HR2.out HV2.out).mono ?_
  rw [HV2.out, E3.out]
  rintro e w3 ⟨a3, p3, M3, rfl, hv3, hr3, hb3⟩
  have HR3 := Lib.hid hr3
  have HV3 := Lib.hid hv3
  have HB3 := Lib.hid (step HB2.out hb3)
  have HR1 := Lib.hid (HR1.out.later hb3)
  clear hr3 hb3 hv3
  go_wp2_with fail
  refine (same_locks _ _ M1 _ _ (HR1.out.later (newAlloc _ _)) (litK w3 [97] 1 7) (by rw [HV1.out]; rfl)).mono ?_
  rintro e w4 ⟨rfl, hb4⟩
  have hb4' := step (newAlloc w3 (.cells #[.string (bstr [97]), .int .i64 1, .int .i64 7, .slice none 0 0] 39)) hb4
  have HB4 := Lib.hid (step HB3.out hb4')
  have HR3 := Lib.hid (HR3.out.later hb4')
  clear hb4 hb4'
  go_wp2_with fail
  refine (same_locks _ _ M3 _ _ (HR3.out.later (newAlloc _ _)) (litK w4 [97] 2 8) (by rw [HV3.out]; rfl)).mono ?_
  rintro e w5 ⟨rfl, hb5⟩
  have HB5 := Lib.hid (step HB4.out (step (newAlloc w4 (.cells #[.string (bstr [97]), .int .i64 2, .int .i64 8, .slice none 0 0] 39)) hb5))
  clear hb5
  go_wp2
  go_ret
  exact ⟨rfl, HB5.out⟩
end Cm
end Go.Proofs.Ytnkooajbenhjhaa

/- Who is found where some have gone: plain facts. No program is named here. -/
set_option linter.unusedVariables false
set_option linter.unusedSimpArgs false
namespace Go.Proofs.Ytnkooajbenhjhaa
open Go.RowKit
namespace Cm

theorem dropK_append (G : List Int) (B : List LockV) : ∀ (A : List LockV) (t : Int), dropK G (A ++ B) t = ((dropK G A t).1 ++ (dropK G B (t + (dropK G A t).2)).1, (dropK G A t).2 + (dropK G B (t + (dropK G A t).2)).2)
  | [], t => by simp [dropK]
  | k :: A, t => by
    rw [List.cons_append, dropK, dropK]
    split
    · rw [dropK_append G B A t]
      rfl
    · split
      · exact dropK_append G B A t
      · rw [dropK_append G B A (t + 1)]
        dsimp only
        rw [show t + ((dropK G A (t + 1)).2 + 1) = t + 1 + (dropK G A (t + 1)).2 by omega, List.cons_append]
        congr 1
        omega

theorem find_mid (n : List UInt8) (A B : List LockV) (k : LockV) (hA : ∀ a ∈ A, a.name ≠ n) (hk : k.name = n) : findK (A ++ k :: B) n = (k, true) := by
  unfold findK
  rw [idx_app n A B k hA hk, if_neg (by omega), getK_app]
theorem find_miss (n : List UInt8) (l : List LockV) (h : ∀ k ∈ l, k.name ≠ n) : findK l n = (zeroK, false) := by
  have : idxI (isNm n) l = -1 := idxI_miss _ _ (fun j hj => by unfold isNm; exact decide_eq_false (h _ (List.getElem_mem hj)))
  unfold findK
  rw [this, if_pos (by omega)]

theorem split_at {α : Type} (l : List α) (i : Nat) (h : i < l.length) : l = l.take i ++ l[i] :: l.drop (i + 1) := by
  rw [← List.drop_eq_getElem_cons h, List.take_append_drop]

theorem drop_find (G : List Int) (l : List LockV) (t : Int) (hn : l.Pairwise fun a b => a.name ≠ b.name) (i : Nat) (h : i < l.length) :
    (hasL G l[i].holder = false → findK (dropK G l t).1 l[i].name = (leftK G l[i], true) ∧ (dropK G (l.take (i + 1)) t).2 = (dropK G (l.take i) t).2) ∧
    (hasL G l[i].holder = true → (leftK G l[i]).line = [] → findK (dropK G l t).1 l[i].name = (zeroK, false) ∧ (dropK G (l.take (i + 1)) t).2 = (dropK G (l.take i) t).2) ∧
    (hasL G l[i].holder = true → (leftK G l[i]).line ≠ [] → findK (dropK G l t).1 l[i].name = (passK (leftK G l[i]) (t + (dropK G (l.take i) t).2), true) ∧ (dropK G (l.take (i + 1)) t).2 = (dropK G (l.take i) t).2 + 1) := by
  have hA : ∀ a ∈ (dropK G (l.take i) t).1, a.name ≠ l[i].name := fun a ha => by
    obtain ⟨y, hy, e⟩ := dropK_names G _ _ _ ha
    rw [e]
    obtain ⟨j, hj, rfl⟩ := List.getElem_of_mem hy
    rw [List.length_take] at hj
    rw [List.getElem_take]
    exact List.pairwise_iff_getElem.1 hn j i (by omega) h (by omega)
  have hB : ∀ t', ∀ b ∈ (dropK G (l.drop (i + 1)) t').1, b.name ≠ l[i].name := fun t' b hb => by
    obtain ⟨y, hy, e⟩ := dropK_names G _ _ _ hb
    rw [e]
    obtain ⟨j, hj, rfl⟩ := List.getElem_of_mem hy
    rw [List.length_drop] at hj
    rw [List.getElem_drop]
    exact fun q => List.pairwise_iff_getElem.1 hn i (i + 1 + j) h (by omega) (by omega) q.symm
  have e0 : dropK G l t = dropK G (l.take i ++ l[i] :: l.drop (i + 1)) t := by rw [← split_at l i h]
  rw [e0, dropK_append, List.take_succ_eq_append_getElem h, dropK_snoc]
  generalize dropK G (l.take i) t = pr at hA ⊢
  obtain ⟨A, q⟩ := pr
  dsimp only at hA ⊢
  rw [dropK]
  refine ⟨fun hg => ?_, fun hg hl => ?_, fun hg hl => ?_⟩
  · rw [if_pos hg, if_pos hg]
    exact ⟨find_mid _ A _ _ hA rfl, rfl⟩
  · rw [if_neg (by rw [hg]; simp), if_pos hl, if_neg (by rw [hg]; simp), if_pos hl]
    refine ⟨find_miss _ _ fun k hk => ?_, rfl⟩
    rcases List.mem_append.1 hk with g | g
    · exact hA k g
    · exact hB _ k g
  · rw [if_neg (by rw [hg]; simp), if_neg hl, if_neg (by rw [hg]; simp), if_neg hl]
    exact ⟨find_mid _ A _ _ hA rfl, rfl⟩

theorem drop_holders (G : List Int) : ∀ (l : List LockV) (t : Int) (x : LockV), x ∈ (dropK G l t).1 → hasL G x.holder = false
  | [], t, x, h => by simp [dropK] at h
  | k :: l, t, x, h => by
    rw [dropK] at h
    split at h
    · rename_i hg
      rcases List.mem_cons.1 h with rfl | h
      · exact hg
      · exact drop_holders G l t x h
    · split at h
      · exact drop_holders G l t x h
      · rename_i hl
        rcases List.mem_cons.1 h with rfl | h
        · show hasL G ((leftK G k).line.headD 0) = false
          have hm : (leftK G k).line.headD 0 ∈ (leftK G k).line := by
            match hk : (leftK G k).line, hl with
            | d :: r, _ => exact List.mem_cons_self
          have := (List.mem_filter.1 (show _ ∈ withoutL k.line G from hm)).2
          simpa using this
        · exact drop_holders G l (t + 1) x h

theorem drop_held (G : List Int) (l : List LockV) (t g : Int) (h : hasL G g = true) : heldK (dropK G l t).1 g = [] := by
  unfold heldK
  rw [List.filter_eq_nil_iff.2, List.map_nil]
  intro x hx
  have := drop_holders G l t x hx
  simp only [decide_eq_true_eq]
  intro e
  rw [e, h] at this
  cases this

theorem GetsF.s {r : LockV × Bool} {w : World} {e : Ending} {w' : World} (h : GetsF r w e w') :
    ∃ a c, e = .returned (.tuple #[.agg #[.string (bstr r.1.name), .int .i64 r.1.holder, .int .i64 r.1.token, .slice a r.1.line.length c], .bool r.2]) ∧ RdI w' (.slice a r.1.line.length c) r.1.line ∧ Below w.heap.size w w' := by
  obtain ⟨x, he, hx, hr, hb⟩ := h
  obtain ⟨xn, xh, xt, xl, xa, xc⟩ := x
  obtain ⟨y, b⟩ := r
  dsimp only at hx ⊢
  subst hx
  exact ⟨xa, xc, he, hr, hb⟩

theorem clientsF_ok (B k : Nat) (h : k ≤ 8) : ∀ g ∈ clientsF B k, clientF g = true := by
  intro g hg
  unfold clientsF at hg
  obtain ⟨i, hi, rfl⟩ := List.mem_map.1 hg
  have := List.mem_range.1 (List.mem_filter.1 hi).1
  unfold clientF
  simp
  omega

theorem good_names {L : List LockC} {t : Int} (h : Good (vals L) t) : ∀ x ∈ L, x.name.length ≤ maxLen := fun x hx => by
  have h1 := ((oneK_iff _).1 (h.rk.one x.val (List.mem_map_of_mem hx))).1
  unfold nameF at h1
  rw [Bool.and_eq_true, Bool.and_eq_true, decide_eq_true_eq, decide_eq_true_eq] at h1
  have := h1.1.2
  unfold LockC.val at this
  dsimp only at this
  unfold maxLen
  omega
end Cm
end Go.Proofs.Ytnkooajbenhjhaa

/- What is granted at each act: plain facts. No program is named here. -/
set_option linter.unusedVariables false
set_option linter.unusedSimpArgs false
namespace Go.Proofs.Ytnkooajbenhjhaa
open Go.RowKit
namespace Cm

def newT (t : Int) (m : List LockV) : Nat := m.countP fun x => decide (t < x.token)

theorem newT_old {t : Int} {m : List LockV} (h : ∀ x ∈ m, x.token ≤ t) : newT t m = 0 := by
  unfold newT
  rw [List.countP_eq_zero]
  intro x hx
  have := h x hx
  simp
  omega
theorem newT_append (t : Int) (a b : List LockV) : newT t (a ++ b) = newT t a + newT t b := List.countP_append
theorem newT_cons (t : Int) (x : LockV) (b : List LockV) : newT t (x :: b) = newT t b + if t < x.token then 1 else 0 := by
  unfold newT
  rw [List.countP_cons]
  simp
theorem newT_one {t : Int} {a b : List LockV} {x : LockV} (ha : ∀ x ∈ a, x.token ≤ t) (hb : ∀ x ∈ b, x.token ≤ t) (hx : t < x.token) : newT t (a ++ x :: b) = 1 := by
  rw [newT_append, newT_cons, newT_old ha, newT_old hb, if_pos hx]

/-- A lock that was there, by its name, token and holder. -/
def WasIn (l : List LockV) (x : LockV) : Prop := ∃ y ∈ l, x.name = y.name ∧ x.token = y.token ∧ x.holder = y.holder
structure Steps (l : List LockV) (t : Int) (m : List LockV) (t' : Int) : Prop where
  each : ∀ x ∈ m, (t < x.token ∧ x.token ≤ t') ∨ WasIn l x
  count : (newT t m : Int) = t' - t

theorem Steps.same {l : List LockV} {t : Int} (h : Good l t) : Steps l t l t := ⟨fun x hx => .inr ⟨x, hx, rfl, rfl, rfl⟩, by rw [newT_old h.tok]; simp⟩
theorem Steps.set {l : List LockV} {t : Int} (h : Good l t) (i : Nat) (hi : i < l.length) (k : LockV) (h1 : k.name = l[i].name) (h2 : k.token = l[i].token) (h3 : k.holder = l[i].holder) : Steps l t (l.set i k) t := by
  refine ⟨fun x hx => ?_, ?_⟩
  · rcases List.mem_or_eq_of_mem_set hx with q | q
    · exact .inr ⟨x, q, rfl, rfl, rfl⟩
    · subst q
      exact .inr ⟨l[i], List.getElem_mem hi, h1, h2, h3⟩
  · rw [newT_old fun x hx => ?_]
    · simp
    · rcases List.mem_or_eq_of_mem_set hx with q | q
      · exact h.tok x q
      · subst q
        rw [h2]
        exact h.tok _ (List.getElem_mem hi)
theorem Steps.sub {l m : List LockV} {t : Int} (h : Good l t) (hs : m.Sublist l) : Steps l t m t :=
  ⟨fun x hx => .inr ⟨x, hs.subset hx, rfl, rfl, rfl⟩, by rw [newT_old fun x hx => h.tok x (hs.subset hx)]; simp⟩

theorem steps_take {l : List LockV} {t : Int} (h : Good l t) (n : List UInt8) (c : Int) (wt : Bool) :
    ((takeK l n c t wt).2.2 = 0 → Steps l t (takeK l n c t wt).1 (t + 1)) ∧ ((takeK l n c t wt).2.2 = 10 → Steps l t (takeK l n c t wt).1 t) := by
  unfold takeK
  split
  · split
    · exact ⟨(fun q => by cases q), (fun q => by cases q)⟩
    · refine ⟨fun _ => ⟨fun x hx => ?_, ?_⟩, (fun q => by cases q)⟩
      · rcases (putK_mem _ l x).1 hx with rfl | q
        · exact .inl ⟨by dsimp only; omega, Int.le_refl _⟩
        · exact .inr ⟨x, q, rfl, rfl, rfl⟩
      · dsimp only
        rw [putK_place, newT_one (fun x hx => h.tok x (List.mem_of_mem_take hx)) (fun x hx => h.tok x (List.mem_of_mem_drop hx)) (by dsimp only; omega)]
        simp
        omega
  · rename_i hi
    obtain ⟨i, hil, hii, hin⟩ := idx_some n l hi
    rw [hii, getK_nat l i hil, Int.toNat_natCast]
    split
    · exact ⟨(fun q => by cases q), (fun q => by cases q)⟩
    split
    · exact ⟨(fun q => by cases q), (fun q => by cases q)⟩
    split
    · exact ⟨(fun q => by cases q), fun _ => Steps.same h⟩
    split
    · exact ⟨(fun q => by cases q), (fun q => by cases q)⟩
    exact ⟨(fun q => by cases q), fun _ => Steps.set h i hil _ rfl rfl rfl⟩

theorem steps_free {l : List LockV} {t : Int} (h : Good l t) (n : List UInt8) (c : Int) : (freeK l n c t).2.2 = 0 → Steps l t (freeK l n c t).1 (t + (freeK l n c t).2.1) := by
  unfold freeK
  split
  · intro q; cases q
  · rename_i hi
    obtain ⟨i, hil, hii, hin⟩ := idx_some n l hi
    rw [hii, getK_nat l i hil, Int.toNat_natCast]
    split
    · split
      · intro q; cases q
      · intro _
        have := Steps.set h i hil ⟨l[i].name, l[i].holder, l[i].token, withoutL l[i].line [c]⟩ rfl rfl rfl
        simpa using this
    · split
      · intro _
        have hs : (l.take i ++ l.drop (i + 1)).Sublist l := by
          rw [← List.eraseIdx_eq_take_drop_succ]
          exact List.eraseIdx_sublist l i
        have := Steps.sub h hs
        simpa using this
      · intro _
        refine ⟨fun x hx => ?_, ?_⟩
        · rcases List.mem_or_eq_of_mem_set hx with q | q
          · exact .inr ⟨x, q, rfl, rfl, rfl⟩
          · subst q
            exact .inl ⟨show t < t + 1 by omega, Int.le_refl _⟩
        · dsimp only
          rw [List.set_eq_take_append_cons_drop, if_pos hil, newT_one (fun x hx => h.tok x (List.mem_of_mem_take hx)) (fun x hx => h.tok x (List.mem_of_mem_drop hx)) (show t < t + 1 by omega)]
          simp
          omega

theorem drop_count (G : List Int) (t0 : Int) : ∀ (l : List LockV) (t : Int), (∀ x ∈ l, x.token ≤ t0) → t0 ≤ t → (newT t0 (dropK G l t).1 : Int) = (dropK G l t).2
  | [], t, _, _ => by simp [dropK, newT]
  | k :: l, t, h, ht => by
    have hl : ∀ x ∈ l, x.token ≤ t0 := fun x hx => h x (List.mem_cons_of_mem _ hx)
    have hk := h k List.mem_cons_self
    rw [dropK]
    split
    · dsimp only
      rw [newT_cons, if_neg (show ¬ t0 < (leftK G k).token from (show ¬ t0 < k.token by omega)), ← drop_count G t0 l t hl ht]
      simp
    · split
      · exact drop_count G t0 l t hl ht
      · dsimp only
        rw [newT_cons, if_pos (show t0 < (passK (leftK G k) t).token from (show t0 < t + 1 by omega)), ← drop_count G t0 l (t + 1) hl (by omega)]
        simp

theorem steps_drop {l : List LockV} {t : Int} (h : Good l t) (G : List Int) : Steps l t (dropK G l t).1 (t + (dropK G l t).2) := by
  refine ⟨fun x hx => ?_, by rw [drop_count G t l t h.tok (Int.le_refl _)]; omega⟩
  rcases dropK_toks G l t x hx with ⟨y, hy, h1, h2, h3, _⟩ | ⟨_, h1, h2⟩
  · exact .inr ⟨y, hy, h1, h2, h3⟩
  · exact .inl ⟨h1, h2⟩

theorem steps_next {l : List LockV} {t : Int} (h : Good l t) (a : Act3) : Steps l t (nextK l t a).1 (nextK l t a).2 := by
  unfold nextK
  split
  · have hs := steps_take h a.nm a.cl (decide (a.do_ % 4 = 0))
    split
    · rename_i e
      exact hs.1 e
    · split
      · rename_i e
        exact hs.2 e
      · exact Steps.same h
  · split
    · split
      · rename_i e
        exact steps_free h a.nm a.cl e
      · exact Steps.same h
    · exact steps_drop h _

/-- What is found of a lock's name, and whether the lock is new. -/
theorem steps_find {l m : List LockV} {t t' : Int} (h : Good l t) (hs : Steps l t m t') (x : LockV) (hx : x ∈ m) :
    (t < x.token ∧ x.token ≤ t' ∧ ((findK l x.name).2 = true → (findK l x.name).1.token ≠ x.token)) ∨ (x.token ≤ t ∧ (findK l x.name).2 = true ∧ (findK l x.name).1.token = x.token ∧ (findK l x.name).1.holder = x.holder) := by
  rcases hs.each x hx with ⟨h1, h2⟩ | ⟨y, hy, e1, e2, e3⟩
  · refine .inl ⟨h1, h2, fun q => ?_⟩
    unfold findK at q ⊢
    split at q
    · cases q
    · rename_i hi
      rw [if_neg hi]
      obtain ⟨i, hil, hii, _⟩ := idx_some _ l hi
      rw [hii]
      show (getK l (i : Int)).token ≠ _
      rw [getK_nat l i hil]
      have := h.tok _ (List.getElem_mem hil)
      omega
  · obtain ⟨i, hi, rfl⟩ := List.getElem_of_mem hy
    have hf : findK l x.name = (l[i], true) := by
      rw [e1]
      conv => lhs; arg 1; rw [split_at l i hi]
      refine find_mid _ _ _ _ (fun a ha => ?_) rfl
      obtain ⟨j, hj, rfl⟩ := List.getElem_of_mem ha
      rw [List.length_take] at hj
      rw [List.getElem_take]
      exact List.pairwise_iff_getElem.1 h.rk.names j i (by omega) hi (by omega)
    rw [hf]
    exact .inr ⟨by rw [e2]; exact h.tok _ hy, rfl, e2.symm, e3.symm⟩

theorem newT_take_succ (t : Int) (m : List LockV) (k : Nat) (h : k < m.length) : newT t (m.take (k + 1)) = newT t (m.take k) + if t < m[k].token then 1 else 0 := by
  rw [List.take_succ_eq_append_getElem h, newT_append]
  congr 1
  rw [newT_cons]
  simp [newT]
end Cm
end Go.Proofs.Ytnkooajbenhjhaa

/- Facts for LockOwn: names of locks that are made; what frees, takes nothing; rows and lines that are written over. No program is named here. -/
set_option linter.unusedVariables false
set_option linter.unusedSimpArgs false
namespace Go.Proofs.Ytnkooajbenhjhaa
open Go.RowKit
namespace Cm

/-- Each name is one of the statements' names. -/
def Nmd (l : List LockV) : Prop := ∀ k ∈ l, ∃ i, i < 6 ∧ k.name = namedF i

theorem nmd_set {l : List LockV} (h : Nmd l) (i : Nat) (hi : i < l.length) (k : LockV) (hk : k.name = l[i].name) : Nmd (l.set i k) := by
  intro x hx
  rcases List.mem_or_eq_of_mem_set hx with q | q
  · exact h x q
  · subst q
    rw [hk]
    exact h _ (List.getElem_mem hi)

theorem nmd_take {l : List LockV} (h : Nmd l) (n : List UInt8) (c t : Int) (wt : Bool) (hn : ∃ i, i < 6 ∧ n = namedF i) : Nmd (takeK l n c t wt).1 := by
  unfold takeK
  split
  · split
    · intro x hx; cases hx
    · intro x hx
      rcases (putK_mem _ l x).1 hx with rfl | q
      · exact hn
      · exact h x q
  · rename_i hi
    obtain ⟨i, hil, hii, hin⟩ := idx_some n l hi
    rw [hii, getK_nat l i hil, Int.toNat_natCast]
    split
    · intro x hx; cases hx
    split
    · intro x hx; cases hx
    split
    · exact h
    split
    · intro x hx; cases hx
    exact nmd_set h i hil _ rfl

theorem nmd_free {l : List LockV} (h : Nmd l) (n : List UInt8) (c t : Int) : Nmd (freeK l n c t).1 := by
  unfold freeK
  split
  · intro x hx; cases hx
  · rename_i hi
    obtain ⟨i, hil, hii, hin⟩ := idx_some n l hi
    rw [hii, getK_nat l i hil, Int.toNat_natCast]
    split
    · split
      · intro x hx; cases hx
      · exact nmd_set h i hil _ rfl
    · split
      · intro x hx
        rcases List.mem_append.1 hx with q | q
        · exact h x (List.mem_of_mem_take q)
        · exact h x (List.mem_of_mem_drop q)
      · exact nmd_set h i hil _ rfl

theorem nmd_next {l : List LockV} (h : Nmd l) (t : Int) (a : Act3) : Nmd (nextK l t a).1 := by
  have hn : ∃ i, i < 6 ∧ a.nm = namedF i := ⟨a.name % 6, Nat.mod_lt _ (by omega), rfl⟩
  unfold nextK
  split
  · split
    · exact nmd_take h _ _ _ _ hn
    · split
      · exact nmd_take h _ _ _ _ hn
      · exact h
  · split
    · split
      · exact nmd_free h _ _ _
      · exact h
    · intro x hx
      obtain ⟨y, hy, e⟩ := dropK_names _ _ _ x hx
      rw [e]
      exact h y hy

theorem nmd_made (ac : List Act3) : Nmd (madeK ac).1 := by
  have key : ∀ k, k ≤ ac.length → Nmd (madeK (ac.take k)).1 := by
    intro k
    induction k with
    | zero => intro _ x hx; cases hx
    | succ k ih =>
      intro hk
      rw [madeK_succ ac k (by omega)]
      exact nmd_next (ih (by omega)) _ _
  have := key ac.length (Nat.le_refl _)
  rwa [List.take_length] at this

/-- A name that none of them is. -/
theorem nmd_other {l : List LockV} (h : Nmd l) (n : List UInt8) (hn : ∀ i, i < 6 → namedF i ≠ n) : idxI (isNm n) l = -1 :=
  idxI_miss _ _ (fun j hj => by
    obtain ⟨i, hi, e⟩ := h _ (List.getElem_mem hj)
    unfold isNm
    exact decide_eq_false (by rw [e]; exact hn i hi))

theorem free_other {l : List LockV} (n : List UInt8) (c t : Int) (h : idxI (isNm n) l = -1) : freeK l n c t = ([], 0, 6) := by
  unfold freeK
  rw [if_pos (by omega)]
theorem take_other {l : List LockV} (n : List UInt8) (c t : Int) (h : idxI (isNm n) l = -1) : (takeK l n c t true).2.2 = if 4 ≤ l.length then 5 else 0 := by
  unfold takeK
  rw [if_pos (by omega)]
  split <;> rfl

/-- Who frees: the code, by what is found. -/
theorem free_code (l : List LockV) (n : List UInt8) (c t : Int) :
    (freeK l n c t).2.2 = if ((findK l n).2 && (decide ((findK l n).1.holder = c) || hasL (findK l n).1.line c)) = true then 0 else 6 := by
  unfold freeK findK
  split
  · simp
  · rename_i hi
    obtain ⟨i, hil, hii, hin⟩ := idx_some n l hi
    rw [hii, getK_nat l i hil]
    by_cases h1 : l[i].holder = c
    · rw [if_neg (by simpa using h1)]
      have e : (true && (decide (l[i].holder = c) || hasL l[i].line c)) = true := by rw [decide_eq_true h1]; rfl
      rw [if_pos e]
      split <;> rfl
    · rw [if_pos h1, aheadL_has]
      have e : (true && (decide (l[i].holder = c) || hasL l[i].line c)) = hasL l[i].line c := by rw [decide_eq_false h1]; rfl
      rw [e]
      cases hasL l[i].line c
      · rfl
      · rfl

/-- Who takes what there is not: the code. -/
theorem take_none (l : List LockV) (n : List UInt8) (c t : Int) (h : (findK l n).2 = false) : (takeK l n c t true).2.2 = if 4 ≤ l.length then 5 else 0 := by
  unfold findK at h
  split at h
  · rename_i hi
    unfold takeK
    rw [if_pos hi]
    split <;> rfl
  · cases h

/-! ### Lines that are written over -/
/-- The slice's cells lie in one block of numbers of the call's own, whatever they are. -/
def Room (base : Nat) (w : World) (u : Value) (n : Nat) : Prop :=
  ∃ a cap, u = .slice a n cap ∧ (a = none → n = 0) ∧ ∀ x, a = some x → 0 < n → x.spot = none ∧ base ≤ x.block ∧ ∃ cs, w.heap[x.block]? = some (.cells cs 3) ∧ x.off + n ≤ cs.size

theorem NewI.room {base : Nat} {w : World} {u : Value} {l : List Int} (h : NewI base w u l) : Room base w u l.length := by
  obtain ⟨a, cap, hv, h1, h2, h3, h4⟩ := h.1.ex
  refine ⟨a, cap, hv, fun q => by rw [(h3 q).1]; rfl, fun x hx hp => ?_⟩
  have hne : l ≠ [] := List.ne_nil_of_length_pos hp
  obtain ⟨hs, hc⟩ := h4 x hx hne
  obtain ⟨hb, cs, hcs⟩ := h.2 x.block (by rw [hv, hx]; rfl)
  refine ⟨hs, hb, cs, hcs, ?_⟩
  have hl := hc (l.length - 1) (by omega) 0 _ rfl
  simp only [Nat.mul_one, Nat.add_zero] at hl
  unfold World.cell? at hl
  simp only [hcs] at hl
  have := (Array.getElem?_eq_some_iff.1 hl).1
  omega

theorem Room.set {base : Nat} {w : World} {u : Value} {n : Nat} (h : Room base w u n) (p j : Nat) (z : Value) : Room base (w.setCell ⟨p, j, none⟩ z) u n := by
  obtain ⟨a, cap, hv, h1, h2⟩ := h
  refine ⟨a, cap, hv, h1, fun x hx hp => ?_⟩
  obtain ⟨hs, hb, cs, hcs, hl⟩ := h2 x hx hp
  refine ⟨hs, hb, ?_⟩
  by_cases q : x.block = p
  · subst q
    exact ⟨cs.setIfInBounds j z, Go.heap_setCell_same w x.block j cs 3 z hcs, by simpa using hl⟩
  · exact ⟨cs, (Below.heap_setCell w ⟨p, j, none⟩ z x.block q).trans hcs, hl⟩

theorem Room.later {base : Nat} {w w' : World} {u : Value} {n : Nat} (h : Room base w u n) (hb : Below w.heap.size w w') : Room base w' u n := by
  obtain ⟨a, cap, hv, h1, h2⟩ := h
  refine ⟨a, cap, hv, h1, fun x hx hp => ?_⟩
  obtain ⟨hs, hbs, cs, hcs, hl⟩ := h2 x hx hp
  exact ⟨hs, hbs, cs, (hb.block x.block (Array.getElem?_eq_some_iff.1 hcs).1).trans hcs, hl⟩

/-- Locks in memory of the call's own; what their lines hold is not said. -/
structure Over (base : Nat) (w : World) (v : Value) (N : Nat) (M : List LockC) : Prop where
  row : w.ownsRow base 39 4 v N (flatX cellsK M)
  len : M.length = N
  line : ∀ x ∈ M, Room base w x.lv x.line.length
  small : ∀ x ∈ M, x.line.length ≤ 9223372036854775807

theorem OwnN.over {base : Nat} {w : World} {v : Value} {M : List LockC} (h : OwnN base w v M) : Over base w v M.length M := ⟨h.row, rfl, fun x hx => (h.line x hx).room, fun x hx => (h.line x hx).1.len⟩
theorem Over.later {base : Nat} {w w' : World} {v : Value} {N : Nat} {M : List LockC} (h : Over base w v N M) (hb : Below w.heap.size w w') : Over base w' v N M := ⟨Rw.own_below h.row hb, h.len, fun x hx => (h.line x hx).later hb, h.small⟩

theorem Over.set_holder {base : Nat} {w : World} {g N c : Nat} {M : List LockC} (h : Over base w (.slice (some ⟨g, 0, none⟩) N c) N M) (k : Nat) (hk : k < M.length) (z : Int) :
    Over base (w.setCell ⟨g, k * 4 + 1, none⟩ (.int .i64 z)) (.slice (some ⟨g, 0, none⟩) N c) N (M.set k ⟨M[k].name, z, M[k].token, M[k].line, M[k].la, M[k].lc⟩) := by
  refine ⟨ownK_cell h.row k hk 1 (by omega) (.int .i64 z) _ rfl, by rw [List.length_set]; exact h.len, fun x hx => ?_, fun x hx => ?_⟩
  · rcases List.mem_or_eq_of_mem_set hx with q | q
    · exact (h.line x q).set _ _ _
    · subst q
      exact (h.line _ (List.getElem_mem hk)).set _ _ _
  · rcases List.mem_or_eq_of_mem_set hx with q | q
    · exact h.small x q
    · subst q
      show M[k].line.length ≤ _
      exact h.small _ (List.getElem_mem hk)

/-- A cell of a line: where it lies, and what writing there leaves. -/
theorem Over.cell {base : Nat} {w : World} {v : Value} {N : Nat} {M : List LockC} (h : Over base w v N M) (k : Nat) (hk : k < M.length) (j : Nat) (hj : j < M[k].line.length) :
    ∃ g o, M[k].la = some ⟨g, o, none⟩ ∧ base ≤ g ∧ (∃ u, w.cell? ⟨g, o + j, none⟩ = some u) ∧ w.frozen? ⟨g, o + j, none⟩ = false ∧ ∀ z, Over base (w.setCell ⟨g, o + j, none⟩ z) v N M := by
  obtain ⟨a, cap, hv, h1, h2⟩ := h.line _ (List.getElem_mem hk)
  unfold LockC.lv at hv
  injection hv with e1 e2 e3
  match a, h1, h2, e1 with
  | none, h1, _, _ => have := h1 rfl; omega
  | some ⟨g, o, sp⟩, _, h2, e1 =>
    obtain ⟨hs, hb, cs, hcs, hl⟩ := h2 _ rfl (by omega)
    simp only at hs hb hcs hl
    subst hs
    refine ⟨g, o, e1, hb, ?_, ?_, fun z => ⟨Rw.own_keep h.row fun g' hg' => Below.heap_setCell w ⟨g, o + j, none⟩ z g' (fun q => ?_), h.len, fun x hx => (h.line x hx).set _ _ _, h.small⟩⟩
    · refine ⟨cs[o + j]'(by omega), ?_⟩
      unfold World.cell?
      simp only [hcs]
      exact Array.getElem?_eq_getElem (by omega)
    · exact frozen_of_row w g (o + j) cs 3 hcs
    · have q' : g' = g := q
      subst q'
      rcases h.row.2 with ⟨rfl, _⟩ | ⟨g1, cap1, cur, rfl, _, q1, _⟩
      · cases hg'
      · have r1 : g1 = g' := by simpa [Value.ownBlock] using hg'
        subst r1
        rw [hcs] at q1
        injection q1 with q1
        injection q1 with _ q1
        exact absurd q1 (by decide)
end Cm
end Go.Proofs.Ytnkooajbenhjhaa

/- Facts for LockFair: what is done to one lock among others. No program is named here. -/
set_option linter.unusedVariables false
set_option linter.unusedSimpArgs false
namespace Go.Proofs.Ytnkooajbenhjhaa
open Go.RowKit
namespace Cm

section
variable (A B : List LockV) (n : List UInt8) (hA : ∀ a ∈ A, a.name ≠ n)
include hA

theorem mid_idx (h t : Int) (K : List Int) : idxI (isNm n) (A ++ ⟨n, h, t, K⟩ :: B) = (A.length : Int) := idx_app n A B ⟨n, h, t, K⟩ hA rfl
theorem mid_find (h t : Int) (K : List Int) : findK (A ++ ⟨n, h, t, K⟩ :: B) n = (⟨n, h, t, K⟩, true) := find_mid n A B ⟨n, h, t, K⟩ hA rfl

theorem mid_try (h t : Int) (K : List Int) (c T : Int) : takeK (A ++ ⟨n, h, t, K⟩ :: B) n c T false = ([], 0, if h = c then 7 else 8) := by
  unfold takeK
  rw [mid_idx A B n hA h t K, if_neg (by omega), getK_app]
  split
  · rfl
  · rfl

theorem mid_take (h t : Int) (K : List Int) (c T : Int) : takeK (A ++ ⟨n, h, t, K⟩ :: B) n c T true =
    if h = c then ([], 0, 7) else if hasL K c = true then (A ++ ⟨n, h, t, K⟩ :: B, (aheadL K c).1, 10) else if 3 ≤ K.length then ([], 0, 5) else (A ++ ⟨n, h, t, K ++ [c]⟩ :: B, K.length, 10) := by
  unfold takeK
  rw [mid_idx A B n hA h t K, if_neg (by omega), getK_app]
  dsimp only
  rw [aheadL_has]
  split
  · rfl
  · rw [if_neg (by simp)]
    split
    · rfl
    · split
      · rfl
      · rw [Int.toNat_natCast, List.set_append_right _ _ (Nat.le_refl _), Nat.sub_self]
        rfl

theorem mid_free (t : Int) (K : List Int) (h T : Int) : freeK (A ++ ⟨n, h, t, K⟩ :: B) n h T = if K = [] then (A ++ B, 0, 0) else (A ++ ⟨n, K.headD 0, T + 1, K.drop 1⟩ :: B, 1, 0) := by
  unfold freeK
  rw [mid_idx A B n hA h t K, if_neg (by omega), getK_app]
  dsimp only
  rw [if_neg (by simp), Int.toNat_natCast]
  split
  · rw [List.take_left', List.drop_append]
    · simp
    · rfl
  · rw [List.set_append_right _ _ (Nat.le_refl _), Nat.sub_self]
    rfl

theorem mid_gone (hB : ∀ b ∈ B, b.name ≠ n) : findK (A ++ B) n = (zeroK, false) := find_miss _ _ fun k hk => by
  rcases List.mem_append.1 hk with g | g
  · exact hA k g
  · exact hB k g
end

/-- A lock that is found, among the others. -/
theorem mid_of {l : List LockV} {t : Int} (hg : Good l t) (n : List UInt8) (h : (findK l n).2 = true) :
    ∃ A B hd tk K, l = A ++ ⟨n, hd, tk, K⟩ :: B ∧ (∀ a ∈ A, a.name ≠ n) ∧ (∀ b ∈ B, b.name ≠ n) ∧ findK l n = (⟨n, hd, tk, K⟩, true) ∧ rightL K = true := by
  rcases idx_cases (isNm n) l with e | ⟨k, hk, e, q⟩
  · unfold findK at h
    rw [e, if_pos (by omega)] at h
    cases h
  · have hn : l[k].name = n := by unfold isNm at q; exact of_decide_eq_true q
    have hr := ((oneK_iff _).1 (hg.rk.one l[k] (List.getElem_mem hk))).2.2.2.1
    have hs := split_at l k hk
    have hu := hg.rk.names
    have hnm := List.pairwise_iff_getElem.1 hu
    have hA : ∀ a ∈ l.take k, a.name ≠ n := fun a ha => by
      obtain ⟨j, hj, rfl⟩ := List.getElem_of_mem ha
      rw [List.length_take] at hj
      rw [List.getElem_take, ← hn]
      exact hnm j k (by omega) hk (by omega)
    have hB : ∀ b ∈ l.drop (k + 1), b.name ≠ n := fun b hb => by
      obtain ⟨j, hj, rfl⟩ := List.getElem_of_mem hb
      rw [List.length_drop] at hj
      rw [List.getElem_drop, ← hn]
      exact fun q => hnm k (k + 1 + j) hk (by omega) (by omega) q.symm
    generalize l[k] = x at hn hr hs
    obtain ⟨xn, xh, xt, xl⟩ := x
    dsimp only at hn hr
    subst hn
    refine ⟨l.take k, l.drop (k + 1), xh, xt, xl, hs, hA, hB, ?_, hr⟩
    conv => lhs; rw [hs]
    exact mid_find _ _ _ hA _ _ _

/-- What is known of a right list's lock in the middle. -/
theorem mid_right {A B : List LockV} {n : List UInt8} {h t T : Int} {K : List Int} (hg : Good (A ++ ⟨n, h, t, K⟩ :: B) T) : rightL K = true ∧ clientF h = true := by
  have := (oneK_iff _).1 (hg.rk.one ⟨n, h, t, K⟩ (by simp))
  exact ⟨this.2.2.2.1, this.2.1⟩

theorem OwnN.keep {base : Nat} {w w' : World} {v : Value} {M : List LockC} (h : OwnN base w v M) (hb : ∀ g, base ≤ g → g < w.heap.size → w'.heap[g]? = w.heap[g]?) : OwnN base w' v M :=
  ⟨Rw.own_keep h.row fun g hg => hb g (Rw.own_lt h.row g hg).1 (Rw.own_lt h.row g hg).2, fun x hx => (h.line x hx).keep fun g hg => by
    obtain ⟨h1, cs, h2⟩ := (h.line x hx).2 g hg
    exact hb g h1 (Array.getElem?_eq_some_iff.1 h2).1⟩

theorem grownW_trans {w w1 w2 : World} {row : Option Nat} (h : Below w.heap.size w w1) (h2 : w1.grownBy w2 row) : w.grownBy w2 row :=
  ⟨h2.os.trans h.os, h2.tape.trans h.tape, h2.output.trans h.output, Nat.le_trans h.size h2.size, fun k hk hne => (h2.block k (Nat.lt_of_lt_of_le hk h.size) hne).trans (h.block k hk)⟩

/-- What a list of a call's own still is, when a row elsewhere has grown twice. -/
theorem OwnN.far {base : Nat} {w5 w5' w6 W : World} {v v6 m : Value} {M : List LockC} (h : OwnN base w5 v M) (hb : Below w5.heap.size w5 w5') (hm : ∀ g, m.ownBlock = some g → g < base) (hg : w5'.grownBy w6 m.ownBlock)
    (h6 : v6.ownBlock = m.ownBlock ∨ v6.ownBlock = some w5'.heap.size) (hw : w6.grownBy W v6.ownBlock) : OwnN base W v M := by
  have hs := hb.size
  refine h.keep fun g h1 h2 => ?_
  have a1 := hb.block g h2
  have a2 := hg.block g (by omega) (fun e => by have := hm g e.symm; omega)
  have a3 := hw.block g (by have := hg.size; omega) (fun e => by
    rcases h6 with q | q
    · rw [q] at e; have := hm g e.symm; omega
    · rw [q] at e; injection e with e; omega)
  exact a3.trans (a2.trans a1)

theorem right_len {K : List Int} (h : rightL K = true) : K.length ≤ 3 := ((rightL_iff _).1 h).1
theorem drop_cons' (K : List Int) (i : Nat) (h : i < K.length) : (K.drop i).headD 0 = K[i] ∧ (K.drop i).drop 1 = K.drop (i + 1) ∧ K.drop i ≠ [] := by
  have e := List.drop_eq_getElem_cons h
  rw [e]
  exact ⟨rfl, rfl, fun q => List.cons_ne_nil _ _ q⟩
end Cm
end Go.Proofs.Ytnkooajbenhjhaa
