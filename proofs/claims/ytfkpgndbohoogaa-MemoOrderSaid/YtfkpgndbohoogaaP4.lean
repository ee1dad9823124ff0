/- Texts laid together by program: RepB, RepC, GenB, MemA, MemB, MemC. -/
import Derived.Test.YtfkpgndbohoogaaP3
import Derived.Test.YtfkpgndbohoogaaP2
import Derived.Laws.AppendOwnNone
import Derived.BigQuiet
/- Contracts: the document's SameReply, MayReply. -/
set_option linter.unusedVariables false
set_option linter.unusedSimpArgs false
namespace Go.Proofs.Ytfkpgndbohoogaa
open Go.RowKit
namespace Cm

def sameP (r q : ReplyV) : Bool := decide (r.code = q.code) && decide (r.session = q.session) && decide (r.ahead = q.ahead) && sameH r.held q.held

theorem sameP_iff (r q : ReplyV) : sameP r q = true ↔ r = q := by
  obtain ⟨a, b, c, l⟩ := r
  obtain ⟨a', b', c', l'⟩ := q
  unfold sameP
  simp [sameH_iff, and_assoc]

set_option maxHeartbeats 1000000 in
theorem SameReply_any (r q : ReplyV) (u v : Value) (w : World) (h : RdH w u r.held) (h2 : RdH w v q.held) :
    Calls Try.prog 19 #[repVal r u, repVal q v] w (SaysB (sameP r q) w) := by
  obtain ⟨k, s, d, l⟩ := r
  obtain ⟨k', s', d', l'⟩ := q
  unfold repVal sameP
  dsimp only at h h2 ⊢
  have C : Hid (∀ w', Below w.heap.size w w' → Calls Try.prog 28 #[u, v] w' (SaysB (sameH l l') w')) := fun w' hb => SameGrants_any _ _ _ _ _ (h.later hb) (h2.later hb)
  clear h h2
  generalize sameH l l' = b at *
  by_cases e1 : k = k'
  · subst e1
    by_cases e2 : s = s'
    · subst e2
      by_cases e3 : d = d'
      · subst e3
        go_enter Try.func19, Try.ntmps19
        go_wp2_with (go_at_call 28; refine (C.out _ (stepAlloc (newAlloc _ _) _)).mono ?_; rintro e w1 ⟨rfl, hb1⟩)
        go_ret
        exact ⟨by simp, step (stepAlloc (newAlloc _ _) _) hb1⟩
      · have d1 : (d == d') = false := by simpa using e3
        go_enter Try.func19, Try.ntmps19
        go_wp2
        go_ret
        exact ⟨by simp [e3], stepAlloc (newAlloc _ _) _⟩
    · have d1 : (s == s') = false := by simpa using e2
      go_enter Try.func19, Try.ntmps19
      go_wp2
      go_ret
      exact ⟨by simp [e2], stepAlloc (newAlloc _ _) _⟩
  · have d1 : (k == k') = false := by simpa using e1
    go_enter Try.func19, Try.ntmps19
    go_wp2
    go_ret
    exact ⟨by simp [e1], stepAlloc (newAlloc _ _) _⟩

/-- The name ahead of the j-th. -/
def prevN (l : List GrantV) (j : Nat) : Option (List UInt8) := if j = 0 then none else (l[j - 1]?).map (·.name)

theorem heldOk_drop (l : List GrantV) (j : Nat) (h : j < l.length) : heldOk (prevN l j) (l.drop j) = (grantOk (prevN l j) l[j] && heldOk (prevN l (j + 1)) (l.drop (j + 1))) := by
  rw [List.drop_eq_getElem_cons h]
  have : prevN l (j + 1) = some l[j].name := by simp [prevN, h]
  rw [this]
  rfl

theorem less_tri : ∀ a b : List UInt8, (Op.bytesLess a b = true ∧ Op.bytesLess b a = false ∧ a ≠ b) ∨ (Op.bytesLess a b = false ∧ Op.bytesLess b a = true ∧ a ≠ b) ∨ (a = b ∧ Op.bytesLess a b = false) := by
  intro a
  induction a with
  | nil => intro b; cases b <;> simp [Op.bytesLess]
  | cons x a ih =>
    intro b
    cases b with
    | nil => simp [Op.bytesLess]
    | cons y b =>
      have := ih b
      rcases Nat.lt_trichotomy x.toNat y.toNat with h | h | h
      · have h1 : x < y := h
        have h2 : ¬ y < x := fun q => by have : y.toNat < x.toNat := q; omega
        have h3 : x ≠ y := fun q => by subst q; omega
        have h4 : y ≠ x := fun q => h3 q.symm
        simp [Op.bytesLess, h1, h2, h3, h4]
      · obtain rfl : x = y := UInt8.toNat_inj.1 h
        have h2 : ¬ x < x := fun q => by have : x.toNat < x.toNat := q; omega
        simpa [Op.bytesLess, h2] using this
      · have h1 : y < x := h
        have h2 : ¬ x < y := fun q => by have : x.toNat < y.toNat := q; omega
        have h3 : x ≠ y := fun q => by subst q; omega
        have h4 : y ≠ x := fun q => h3 q.symm
        simp [Op.bytesLess, h1, h2, h3, h4]

theorem str_less (a b : List UInt8) : Op.bytesLess (bstr a).toList (bstr b).toList = Op.bytesLess a b := by
  rw [ByteArray.toList_eq, ByteArray.toList_eq, bstr_toList, bstr_toList]

theorem quiet_eq {P : Program} {f : FuncId} {args : Array Value} {w : World} {n : Nat} {v : Value}
    (h : Calls P f args (w.drewN n) fun e w' => e = .returned v ∧ w.drewN n = w') : Calls P f args (w.drewN n) fun e w'' => e = .returned v ∧ ∃ m, w'' = w.drewN m :=
  h.mono fun _ _ ⟨he, hm⟩ => ⟨he, n, hm.symm⟩

theorem prevN_zero (l : List GrantV) : prevN l 0 = none := rfl
theorem prevN_succ (l : List GrantV) (j : Nat) (h : j < l.length) : prevN l (j + 1) = some l[j].name := by simp [prevN, h]

theorem wrap_pred (q : Nat) (h : q < 9223372036854775807) : IntKind.i64.wrap ((q : Int) + 1 - 1) = (q : Int) := by rw [IntKind.wrap_i64]; omega

set_option maxHeartbeats 4000000 in
theorem MayReply_any (r : ReplyV) (v : Value) (w : World) (h : RdH w v r.held) :
    Calls Try.prog 38 #[repVal r v] w (SaysB (mayP r) w) := by
  obtain ⟨k, s, d, l⟩ := r
  unfold repVal mayP
  dsimp only at h ⊢
  have hm := h.len
  obtain ⟨a, cap, rfl, -⟩ := h.ex
  have C1 := Lib.hid (fun w => high_any s 0 w)
  by_cases c1 : 0 ≤ k
  case neg =>
    rw [decide_eq_false c1]
    clear h
    generalize l.length = L at *
    have d1 : decide (k < 0) = true := by simp; omega
    go_enter Try.func38, Try.ntmps38
    go_wp2
    go_ret
    exact ⟨by simp, newAlloc _ _⟩
  by_cases c2 : k ≤ 12
  case neg =>
    rw [decide_eq_false c2]
    clear h
    have d1 : decide (k < 0) = false := by simp; omega
    have d2 : decide (12 < k) = true := by simp; omega
    go_enter Try.func38, Try.ntmps38
    go_wp2
    go_ret
    exact ⟨by simp, newAlloc _ _⟩
  have d1 : decide (k < 0) = false := by simp; omega
  have d2 : decide (12 < k) = false := by simp; omega
  rw [decide_eq_true c1, decide_eq_true c2]
  cases c3 : highF s 0
  case false =>
    have H3 := Lib.hid c3
    clear h c3
    go_enter Try.func38, Try.ntmps38
    go_wp2_with (go_at_call 37; refine (C1.out _).mono ?_; rw [H3.out]; rintro e w1 ⟨rfl, rfl⟩)
    go_ret
    exact ⟨by simp, newAlloc _ _⟩
  have H3 := Lib.hid c3
  clear c3
  by_cases c4 : 0 ≤ d
  case neg =>
    rw [decide_eq_false c4]
    clear h
    have d3 : decide (d < 0) = true := by simp; omega
    go_enter Try.func38, Try.ntmps38
    go_wp2_with (go_at_call 37; refine (C1.out _).mono ?_; rw [H3.out]; rintro e w1 ⟨rfl, rfl⟩)
    go_ret
    exact ⟨by simp, newAlloc _ _⟩
  have d3 : decide (d < 0) = false := by simp; omega
  by_cases c5 : d ≤ 3
  case neg =>
    rw [decide_eq_false c5]
    clear h
    have d4 : decide (3 < d) = true := by simp; omega
    go_enter Try.func38, Try.ntmps38
    go_wp2_with (go_at_call 37; refine (C1.out _).mono ?_; rw [H3.out]; rintro e w1 ⟨rfl, rfl⟩)
    go_ret
    exact ⟨by simp, newAlloc _ _⟩
  have d4 : decide (3 < d) = false := by simp; omega
  rw [decide_eq_true c4, decide_eq_true c5]
  by_cases c6 : l.length ≤ 4
  case neg =>
    rw [decide_eq_false c6]
    clear h
    have d5 : decide (4 < (l.length : Int)) = true := by simp; omega
    go_enter Try.func38, Try.ntmps38
    go_wp2_with (go_at_call 37; refine (C1.out _).mono ?_; rw [H3.out]; rintro e w1 ⟨rfl, rfl⟩)
    go_ret
    exact ⟨by simp, newAlloc _ _⟩
  have d5 : decide (4 < (l.length : Int)) = false := by simp; omega
  rw [decide_eq_true c6]
  have HA := Lib.hid (fun i hi => h.at i hi)
  have HD := Lib.hid (heldOk_drop l)
  have HP := Lib.hid (prevN_succ l)
  clear h
  obtain ⟨L, hL⟩ : ∃ L, l.length = L := ⟨_, rfl⟩
  rw [hL] at hm c6 d5 ⊢
  by_cases c7 : s = 0 ∧ 0 < L
  · obtain ⟨rfl, c7⟩ := c7
    rw [decide_eq_true c7]
    have d6 : decide (0 < (L : Int)) = true := by simp; omega
    go_enter Try.func38, Try.ntmps38
    go_wp2_with (go_at_call 37; refine (C1.out _).mono ?_; rw [H3.out]; rintro e w1 ⟨rfl, rfl⟩)
    go_ret
    exact ⟨by simp, newAlloc _ _⟩
  have e7 : (!(decide (s = 0) && decide (0 < L))) = true := by simp; omega
  rw [e7]
  have hc : (s == 0) = false ∨ ((s == 0) = true ∧ decide (0 < L) = false ∧ Hid (L = 0)) := by
    by_cases q : s = 0
    · exact .inr ⟨by simpa using q, by simp; omega, Lib.hid (by omega)⟩
    · exact .inl (by simpa using q)
  clear e7 c7
  go_enter Try.func38, Try.ntmps38
  have hb0 := newAlloc w (.cells #[.int .i64 k, .int .i64 s, .int .i64 d, .slice a L cap] 28)
  have HB0 := Lib.hid hb0
  have HX : Hid (∀ w', Below (w.alloc (.cells #[.int .i64 k, .int .i64 s, .int .i64 d, .slice a L cap] 28)).heap.size (w.alloc (.cells #[.int .i64 k, .int .i64 s, .int .i64 d, .slice a L cap] 28)) w' → w'.cell? ⟨w.heap.size, 3, none⟩ = some (.slice a L cap) ∧ w'.frozen? ⟨w.heap.size, 3, none⟩ = false) := fun w' h => ⟨(box4 h).2.2.2, by rw [h.frozen (p := ⟨w.heap.size, 3, none⟩) (by simp)]; simp [go_sem]⟩
  clear hb0
  rcases hc with hc | ⟨hc, hc', hL0⟩
  · go_upto_region 3 with (go_at_call 37; refine (C1.out _).mono ?_; rw [H3.out]; rintro e w1 ⟨rfl, rfl⟩)
    generalize w.alloc (.cells #[.int .i64 k, .int .i64 s, .int .i64 d, .slice a L cap] 28) = W at HB0 HX ⊢
    clear c1 c2 c4 c5 d1 d2 d3 d4 d5 C1 H3 hc
    go_wp2_with fail
    go_loopw [3] (fun i wr => ∃ j : Nat, j ≤ L ∧ i = .int .i64 j ∧ Below W.heap.size W wr ∧ Hid (heldOk none l = heldOk (prevN l j) (l.drop j))) (fun i _ => L - (intOf i).toNat)
    case atStart => exact ⟨0, by omega, rfl, Below.refl _ _, Lib.hid rfl⟩
    case round =>
      obtain ⟨j, hj, rfl, hb, ha⟩ := hrel
      have HB := Lib.hid (step HB0.out hb)
      have HW := Lib.hid hb
      obtain ⟨x3, f3⟩ := HX.out _ hb
      clear hb
      by_cases hlt : j < L
      · have hd := HD.out j (by omega)
        have hp := HP.out j (by omega)
        obtain ⟨b, o, rfl, q1, q2⟩ := HA.out j (by omega) _ HB.out
        generalize hg : l[j] = g at q1 q2 hd
        have HG := Lib.hid hg
        clear hg
        have CN := Lib.hid (fun w => RefName_any g.name w)
        have CT := Lib.hid (fun w => high_any g.token 1 w)
        unfold grantOk at hd
        by_cases n1 : nameF g.name = true
        case neg =>
          have n1 : nameF g.name = false := by simpa using n1
          rw [n1, Bool.false_and, Bool.false_and, Bool.false_and] at hd
          have H := Lib.hid hd
          have CN : Hid (∀ w, Calls Try.prog 41 #[.string (bstr g.name)] w fun e w' => e = .returned (.bool false) ∧ w = w') := fun w => by have := CN.out w; rw [n1] at this; exact this
          clear hd n1
          go_upto_region 7 with fail
          have HB1 := Lib.hid (stepAlloc HB.out (.cells #[.string (bstr g.name), .int .i64 g.token] 61))
          go_quiet (first | (go_at_call 41; exact quiet_eq (CN.out _)))
          go_wp2
          go_ret
          exact ⟨by rw [ha.out, H.out]; rfl, below_drewN HB1.out nq⟩
        by_cases n2 : highF g.token 1 = true
        case neg =>
          have n2 : highF g.token 1 = false := by simpa using n2
          rw [n2, Bool.and_false, Bool.false_and, Bool.false_and] at hd
          have H := Lib.hid hd
          have CN : Hid (∀ w, Calls Try.prog 41 #[.string (bstr g.name)] w fun e w' => e = .returned (.bool true) ∧ w = w') := fun w => by have := CN.out w; rw [n1] at this; exact this
          have CT : Hid (∀ w, Calls Try.prog 37 #[.int .i64 g.token, .int .i64 1] w fun e w' => e = .returned (.bool false) ∧ w = w') := fun w => by have := CT.out w; rw [n2] at this; exact this
          clear hd n1 n2
          go_upto_region 7 with fail
          have HB1 := Lib.hid (stepAlloc HB.out (.cells #[.string (bstr g.name), .int .i64 g.token] 61))
          go_quiet (first
            | (go_at_call 41; exact quiet_eq (CN.out _))
            | (go_at_call 37; exact quiet_eq (CT.out _)))
          go_wp2
          go_ret
          exact ⟨by rw [ha.out, H.out]; rfl, below_drewN HB1.out nq⟩
        rw [n1, n2, Bool.true_and, Bool.true_and] at hd
        have CN : Hid (∀ w, Calls Try.prog 41 #[.string (bstr g.name)] w fun e w' => e = .returned (.bool true) ∧ w = w') := fun w => by have := CN.out w; rw [n1] at this; exact this
        have CT : Hid (∀ w, Calls Try.prog 37 #[.int .i64 g.token, .int .i64 1] w fun e w' => e = .returned (.bool true) ∧ w = w') := fun w => by have := CT.out w; rw [n2] at this; exact this
        clear n1 n2
        rcases Nat.eq_zero_or_pos j with hj0 | hj0
        · have HJ := Lib.hid hj0
          have d0 : decide (0 < j) = false := by simp; omega
          rw [hj0, prevN_zero, ← hj0] at hd
          dsimp only at hd
          rw [Bool.true_and] at hd
          have H := Lib.hid hd
          clear hd hp hj0
          go_upto_region 7 with fail
          have HW1 := Lib.hid (stepAlloc HW.out (.cells #[.string (bstr g.name), .int .i64 g.token] 61))
          go_quiet (first
            | (go_at_call 41; exact quiet_eq (CN.out _))
            | (go_at_call 37; exact quiet_eq (CT.out _)))
          go_wp2
          go_roundw
          case rel => exact ⟨j + 1, by omega, by go_num, below_drewN HW1.out nq, Lib.hid (by rw [ha.out]; have e := H.out; rw [← prevN_zero l, ← HJ.out] at e; exact e)⟩
          case measure => simp [intOf]; omega
        · obtain ⟨q, hq⟩ : ∃ q, j = q + 1 := ⟨j - 1, by omega⟩
          have hpn := HP.out q (by omega)
          have HB1 := Lib.hid (stepAlloc HB.out (.cells #[.string (bstr g.name), .int .i64 g.token] 61))
          have HW1 := Lib.hid (stepAlloc HW.out (.cells #[.string (bstr g.name), .int .i64 g.token] 61))
          obtain ⟨b', o', hbo, p1, -⟩ := HA.out q (by omega) _ HB1.out
          cases hbo
          obtain ⟨x3', f3'⟩ := HX.out _ HW1.out
          rw [← hq] at hpn
          rw [hpn] at hd
          dsimp only at hd
          generalize l[q] = pv at p1 hd hpn
          have e1 : IntKind.i64.wrap ((j : Int) - 1) = (q : Int) := by rw [IntKind.wrap_i64]; omega
          have e2 : (0 : Int) ≤ (q : Int) := by omega
          have e3 : (q : Int) < (L : Int) := by omega
          have hl1 := str_less g.name pv.name
          have hl2 := str_eq g.name pv.name
          rcases less_tri pv.name g.name with ⟨t1, t2, t3⟩ | ⟨t1, t2, t3⟩ | ⟨t3, t1⟩
          · rw [t2] at hl1
            rw [decide_eq_false (fun h => t3 h.symm)] at hl2
            rw [t1, Bool.true_and] at hd
            have H := Lib.hid hd
            have HPN := Lib.hid hpn
            clear hd hp t1 t2 t3 hq hpn
            go_upto_region 7 with fail
            go_quiet (first
              | (go_at_call 41; exact quiet_eq (CN.out _))
              | (go_at_call 37; exact quiet_eq (CT.out _)))
            go_wp2
            go_roundw
            case rel => exact ⟨j + 1, by omega, by go_num, below_drewN HW1.out nq, Lib.hid (by rw [ha.out, HPN.out, H.out])⟩
            case measure => simp [intOf]; omega
          · rw [t2] at hl1
            rw [t1, Bool.false_and] at hd
            have H := Lib.hid hd
            have HPN := Lib.hid hpn
            clear hd hp t1 t2 t3 hq hpn hl2
            go_upto_region 7 with fail
            go_quiet (first
              | (go_at_call 41; exact quiet_eq (CN.out _))
              | (go_at_call 37; exact quiet_eq (CT.out _)))
            go_wp2
            go_ret
            exact ⟨by rw [ha.out, HPN.out, H.out]; rfl, below_drewN HB1.out nq⟩
          · have t2 : Op.bytesLess g.name pv.name = false := by rw [← t3] at t1 ⊢; exact t1
            rw [t2] at hl1
            rw [decide_eq_true t3.symm] at hl2
            rw [t1, Bool.false_and] at hd
            have H := Lib.hid hd
            have HPN := Lib.hid hpn
            clear hd hp t1 t2 t3 hq hpn
            go_upto_region 7 with fail
            go_quiet (first
              | (go_at_call 41; exact quiet_eq (CN.out _))
              | (go_at_call 37; exact quiet_eq (CT.out _)))
            go_wp2
            go_ret
            exact ⟨by rw [ha.out, HPN.out, H.out]; rfl, below_drewN HB1.out nq⟩
      · obtain rfl : j = L := by omega
        go_wp2
        go_ret
        have ha := ha.out
        rw [← hL, List.drop_length] at ha
        exact ⟨by rw [ha]; rfl, HB.out⟩
  · go_upto_region 3 with (go_at_call 37; refine (C1.out _).mono ?_; rw [H3.out]; rintro e w1 ⟨rfl, rfl⟩)
    generalize w.alloc (.cells #[.int .i64 k, .int .i64 s, .int .i64 d, .slice a L cap] 28) = W at HB0 HX ⊢
    try clear hc'
    clear c1 c2 c4 c5 d1 d2 d3 d4 d5 C1 H3 hc
    go_wp2_with fail
    go_loopw [3] (fun i wr => ∃ j : Nat, j ≤ L ∧ i = .int .i64 j ∧ Below W.heap.size W wr ∧ Hid (heldOk none l = heldOk (prevN l j) (l.drop j))) (fun i _ => L - (intOf i).toNat)
    case atStart => exact ⟨0, by omega, rfl, Below.refl _ _, Lib.hid rfl⟩
    case round =>
      obtain ⟨j, hj, rfl, hb, ha⟩ := hrel
      have HB := Lib.hid (step HB0.out hb)
      have HW := Lib.hid hb
      obtain ⟨x3, f3⟩ := HX.out _ hb
      clear hb
      by_cases hlt : j < L
      · exact absurd hL0.out (by omega)
      · obtain rfl : j = L := by omega
        go_wp2
        go_ret
        have ha := ha.out
        rw [← hL, List.drop_length] at ha
        exact ⟨by rw [ha]; rfl, HB.out⟩
end Cm
end Go.Proofs.Ytfkpgndbohoogaa

/- Contracts: the document's MayAnswer, SameAnswer. -/
set_option linter.unusedVariables false
set_option linter.unusedSimpArgs false
namespace Go.Proofs.Ytfkpgndbohoogaa
open Go.RowKit
namespace Cm

/-- An answer, as the machine holds it. -/
def ansVal (r : AnsV) (v : Value) : Value := .agg #[.int .i64 r.client, .int .i64 r.seq, .int .i64 r.rep.code, .int .i64 r.rep.session, .int .i64 r.rep.ahead, v]

/-- What lies in a new block of six, later. -/
theorem box6 {w w' : World} {x y z u v s : Value} {t : TypeId} (h : Below (w.alloc (.cells #[x, y, z, u, v, s] t)).heap.size (w.alloc (.cells #[x, y, z, u, v, s] t)) w') :
    w'.cell? ⟨w.heap.size, 0, none⟩ = some x ∧ w'.cell? ⟨w.heap.size, 1, none⟩ = some y ∧ w'.cell? ⟨w.heap.size, 2, none⟩ = some z ∧ w'.cell? ⟨w.heap.size, 3, none⟩ = some u ∧ w'.cell? ⟨w.heap.size, 4, none⟩ = some v ∧ w'.cell? ⟨w.heap.size, 5, none⟩ = some s := by
  have hl : w.heap.size < (w.alloc (.cells #[x, y, z, u, v, s] t)).heap.size := by simp
  refine ⟨?_, ?_, ?_, ?_, ?_, ?_⟩
  · rw [h.cell (p := ⟨w.heap.size, 0, none⟩) hl]; simp [go_sem]
  · rw [h.cell (p := ⟨w.heap.size, 1, none⟩) hl]; simp [go_sem]
  · rw [h.cell (p := ⟨w.heap.size, 2, none⟩) hl]; simp [go_sem]
  · rw [h.cell (p := ⟨w.heap.size, 3, none⟩) hl]; simp [go_sem]
  · rw [h.cell (p := ⟨w.heap.size, 4, none⟩) hl]; simp [go_sem]
  · rw [h.cell (p := ⟨w.heap.size, 5, none⟩) hl]; simp [go_sem]

theorem free4 {w w' : World} {x y z u : Value} {t : TypeId} (h : Below (w.alloc (.cells #[x, y, z, u] t)).heap.size (w.alloc (.cells #[x, y, z, u] t)) w') :
    ∀ k, w'.frozen? ⟨w.heap.size, k, none⟩ = false := by
  intro k
  have hl : w.heap.size < (w.alloc (.cells #[x, y, z, u] t)).heap.size := by simp
  rw [h.frozen (p := ⟨w.heap.size, k, none⟩) hl]
  simp [go_sem]

theorem free6 {w w' : World} {x y z u v s : Value} {t : TypeId} (h : Below (w.alloc (.cells #[x, y, z, u, v, s] t)).heap.size (w.alloc (.cells #[x, y, z, u, v, s] t)) w') :
    ∀ k, w'.frozen? ⟨w.heap.size, k, none⟩ = false := by
  intro k
  have hl : w.heap.size < (w.alloc (.cells #[x, y, z, u, v, s] t)).heap.size := by simp
  rw [h.frozen (p := ⟨w.heap.size, k, none⟩) hl]
  simp [go_sem]

theorem RefMayAnswer_any (r : AnsV) (v : Value) (w : World) (h : RdH w v r.rep.held) : Calls Try.prog 26 #[ansVal r v] w (SaysB (mayA r) w) := by
  obtain ⟨c, q, m⟩ := r
  have C1 := Lib.hid (fun w => high_any q 1 w)
  have C2 : Hid (∀ w', Below w.heap.size w w' → Calls Try.prog 38 #[repVal m v] w' (SaysB (mayP m) w')) := fun w' hb => MayReply_any m v w' (h.later hb)
  clear h
  unfold ansVal mayA
  unfold repVal at C2
  obtain ⟨k, s, d, l⟩ := m
  dsimp only at C2 ⊢
  by_cases h0 : 0 ≤ c
  · have d0 : decide (0 ≤ c) = true := decide_eq_true h0
    by_cases h1 : c < 8
    · have d1 : decide (c < 8) = true := decide_eq_true h1
      cases hh : highF q 1
      all_goals
        have H := Lib.hid hh
        clear hh
        go_enter Try.func26, Try.ntmps26
        go_wp2_with (first
          | (go_at_call 37; refine (C1.out _).mono ?_; rw [H.out]; rintro e w' ⟨rfl, rfl⟩)
          | (go_at_call 38; refine (C2.out _ (newAlloc _ _)).mono ?_; rintro e w' ⟨rfl, hb⟩))
        go_ret
        first
          | exact ⟨by simp [h0, h1], newAlloc _ _⟩
          | exact ⟨by simp [h0, h1], step (newAlloc _ _) hb⟩
    · have d1 : decide (c < 8) = false := decide_eq_false h1
      go_enter Try.func26, Try.ntmps26
      go_wp2
      go_ret
      exact ⟨by simp [h0, h1], newAlloc _ _⟩
  · have d0 : decide (0 ≤ c) = false := decide_eq_false h0
    go_enter Try.func26, Try.ntmps26
    go_wp2
    go_ret
    exact ⟨by simp [h0], newAlloc _ _⟩

def sameA (r q : AnsV) : Bool := decide (r.client = q.client) && decide (r.seq = q.seq) && sameP r.rep q.rep
theorem sameA_iff (r q : AnsV) : sameA r q = true ↔ r = q := by
  obtain ⟨a, b, c⟩ := r
  obtain ⟨a', b', c'⟩ := q
  unfold sameA
  simp [sameP_iff, and_assoc]


end Cm
end Go.Proofs.Ytfkpgndbohoogaa

/- Slices that read as lists: parts of them; appended to a row of one's own. No program is named here. -/
set_option linter.unusedVariables false
set_option linter.unusedSimpArgs false
namespace Go.Proofs.Ytfkpgndbohoogaa
open Go.RowKit

section
variable {α : Type} {sz : Nat} {f : α → List Value}

/-- The first k. -/
theorem RdX.take {w : World} {a : Option Addr} {n cap : Nat} {l : List α} (h : RdX sz f w (.slice a n cap) l) (k : Nat) (hk : k ≤ n) : RdX sz f w (.slice a k cap) (l.take k) := by
  obtain ⟨a', cap', hv, h1, h2, h3, h4⟩ := h.ex
  cases hv
  have hl : (l.take k).length = k := by rw [List.length_take]; omega
  refine ⟨a, cap, by rw [hl], by rw [hl]; omega, h2, fun q => ?_, fun x hx hne => ?_⟩
  · obtain ⟨q1, q2⟩ := h3 q
    subst q1
    exact ⟨by simp, q2⟩
  · obtain ⟨hs, hc⟩ := h4 x hx (by intro q; subst q; simp at hne)
    refine ⟨hs, fun i hi j u hu => ?_⟩
    have hi' : i < l.length := by rw [List.length_take] at hi; omega
    exact hc i hi' j u (by rw [← hu, List.getElem_take])

/-- Those from k on. -/
theorem RdX.drop (hsz : 0 < sz) {w : World} {a : Option Addr} {n cap : Nat} {l : List α} (h : RdX sz f w (.slice a n cap) l) (k : Nat) (hk : k ≤ n) :
    RdX sz f w (.slice (if cap = k then a else a.map (·.add (k * sz))) (n - k) (cap - k)) (l.drop k) := by
  obtain ⟨a', cap', hv, h1, h2, h3, h4⟩ := h.ex
  cases hv
  have hl : (l.drop k).length = l.length - k := List.length_drop
  refine ⟨_, cap - k, by rw [hl], by rw [hl]; omega, by omega, fun q => ?_, fun x hx hne => ?_⟩
  · have q' : a = none := by
      split at q
      · exact q
      · cases a <;> simp_all
    obtain ⟨q1, q2⟩ := h3 q'
    subst q1
    exact ⟨by simp, by omega⟩
  · have hkl : k < l.length := by
      rcases Nat.lt_or_ge k l.length with g | g
      · exact g
      · exact absurd (List.drop_eq_nil_of_le g) hne
    rw [if_neg (by omega)] at hx
    match a, hx, h4 with
    | some y, hx, h4 =>
      obtain ⟨hs, hc⟩ := h4 y rfl (by intro q; subst q; simp at hkl)
      obtain ⟨b, o, sp⟩ := y
      simp only at hs
      subst hs
      have hadd : (⟨b, o, none⟩ : Addr).add (k * sz) = ⟨b, o + k * sz, none⟩ := by unfold Addr.add; split <;> simp_all
      simp only [Option.map_some, hadd] at hx
      cases hx
      refine ⟨rfl, fun i hi j u hu => ?_⟩
      have hi' : k + i < l.length := by rw [hl] at hi; omega
      have e : (l.drop k)[i] = l[k + i] := List.getElem_drop
      have := hc (k + i) hi' j u (by rw [← hu, e])
      have e2 : o + ((k + i) * sz + j) = o + k * sz + (i * sz + j) := by rw [Nat.add_mul]; omega
      simp only at this ⊢
      rw [← e2]
      exact this

/-- A slice laid as it stands, of one. -/
theorem RdX.one {w : World} {b : Nat} {cs : Array Value} {t : TypeId} {y : α} (h : w.heap[b]? = some (.cells cs t)) (hcs : cs.toList = f y) : RdX sz f w (.slice (some ⟨b, 0, none⟩) 1 1) [y] := by
  refine ⟨some ⟨b, 0, none⟩, 1, rfl, Nat.le_refl _, by unfold maxLen; omega, (fun q => by cases q), fun x hx hp => ?_⟩
  cases hx
  refine ⟨rfl, fun i hi k u hu => ?_⟩
  obtain rfl : i = 0 := by simpa using hi
  have hu : (f y)[k]? = some u := hu
  rw [← hcs] at hu
  simp only [Nat.zero_mul, Nat.zero_add]
  simpa [World.cell?, h] using hu

theorem flatX_one (h1 : ∀ x : α, ∀ u ∈ f x, u.oneCell' = true) (l : List α) : ∀ u ∈ flatX f l, u.oneCell' = true := by
  intro u hu
  unfold flatX at hu
  obtain ⟨x, _, hx⟩ := List.mem_flatMap.1 hu
  exact h1 x u hx

/-- What reads as a list, appended to a row of one's own. -/
theorem wpList_append_rdx (hf : ∀ x, (f x).length = sz) (hsz : 0 < sz) (h1 : ∀ x : α, ∀ u ∈ f x, u.oneCell' = true) {P : Program} {w : World} {ops : Array Oper} {rest : List Oper} {o : Oper} {a : Act} {Q : Exit → Act → World → Prop} (hgd : o.guard = none) (s x : Operand) (t : TypeId)
    (ho : o.op = .call { callee := .builtin .append, args := #[s, x], argTypes := #[t, t] })
    (base : Nat) (e : TypeId) (i : TypeInfo) (z : Value) (bytes : Nat) (ht : P.underlying t = some (.slice e)) (hi : P.info? e = some i) (hz : i.zero = some z) (hsize : i.size = sz) (hby : i.bytes = bytes) (hzs : z.cells.size = sz)
    (v : Value) (n : Nat) (xs : List Value) (hs : a.eval s = v) (hown : w.ownsRow base e sz v n xs) (y : Value) (l : List α) (hx : a.eval x = y) (hr : RdX sz f w y l)
    (h63 : n + l.length ≤ maxLen) (hlen : (n + l.length) * bytes ≤ 140737488355328) (hbase : base ≤ w.heap.size)
    (h : ∀ v' w', w'.ownsRow base e sz v' (n + l.length) (xs ++ flatX f l) → w.grownBy w' v.ownBlock → wpList P ops Q rest (a.put o.dst v') w') : wpList P ops Q (o :: rest) a w := by
  obtain ⟨ao, cap, rfl, hc, hm, hn, hcells⟩ := hr.ex
  match ao, hn, hcells, hx, hr with
  | none, hn, _, hx, _ =>
    obtain ⟨rfl, rfl⟩ := hn rfl
    refine wpList_append_own_none hgd s x t ho base e i sz ht hi v n xs hs hown hx ?_
    exact h v w (by simpa [flatX] using hown) (World.grownBy.refl _ _)
  | some ad, _, hcells, hx, hr =>
    refine wpList_append_own w hgd s x t ho base e i z sz bytes ht hi hz hsize hby hzs hsz v n xs hs hown ad l.length cap (flatX f l) hx (by rw [flatX_length hf]) ?_ (flatX_one h1 l) h63 hlen hbase (fun v' w' h1 h2 _ => h v' w' h1 h2)
    intro j u hj
    have hl : l ≠ [] := by
      intro q
      subst q
      simp [flatX] at hj
    obtain ⟨hs', _⟩ := hcells ad rfl hl
    obtain ⟨b, off, spot⟩ := ad
    simp only at hs'
    subst hs'
    exact hr.news hf hsz j u hj
end
end Go.Proofs.Ytfkpgndbohoogaa

/- Memos in memory; contracts: padlockref6's SameMemos. -/
set_option linter.unusedVariables false
set_option linter.unusedSimpArgs false
namespace Go.Proofs.Ytfkpgndbohoogaa
open Go.RowKit
namespace Cm

theorem infoM : (Try.prog.info? 35).map (fun i => (i.zero, i.size, i.bytes)) = some (some (.agg #[.int .i64 0, .int .i64 0, .int .i64 0, .int .i64 0, .int .i64 0, .slice none 0 0]), 6, 64) := by kernel_rfl

/-- A memo, with where what its reply holds lies. -/
structure MemC where
  m : AnsV
  ha : Option Addr
  hc : Nat
def MemC.hv (x : MemC) : Value := .slice x.ha x.m.rep.held.length x.hc
def valsM (L : List MemC) : List AnsV := L.map MemC.m
theorem valsM_length (L : List MemC) : (valsM L).length = L.length := by simp [valsM]
theorem valsM_get (L : List MemC) (i : Nat) (h : i < L.length) (h' : i < (valsM L).length) : (valsM L)[i] = L[i].m := by simp [valsM]
theorem valsM_take (L : List MemC) (k : Nat) : valsM (L.take k) = (valsM L).take k := by simp [valsM, List.map_take]
theorem valsM_drop (L : List MemC) (k : Nat) : valsM (L.drop k) = (valsM L).drop k := by simp [valsM, List.map_drop]
theorem valsM_append (A B : List MemC) : valsM (A ++ B) = valsM A ++ valsM B := by simp [valsM]

def cellsM (x : MemC) : List Value := [.int .i64 x.m.client, .int .i64 x.m.seq, .int .i64 x.m.rep.code, .int .i64 x.m.rep.session, .int .i64 x.m.rep.ahead, x.hv]
theorem cellsM_length (x : MemC) : (cellsM x).length = 6 := rfl
theorem cellsM_one (x : MemC) : ∀ u ∈ cellsM x, u.oneCell' = true := by
  intro u hu
  unfold cellsM MemC.hv at hu
  simp only [List.mem_cons, List.not_mem_nil, or_false] at hu
  rcases hu with rfl | rfl | rfl | rfl | rfl | rfl <;> rfl
def memVal (x : MemC) : Value := .agg #[.int .i64 x.m.client, .int .i64 x.m.seq, .int .i64 x.m.rep.code, .int .i64 x.m.rep.session, .int .i64 x.m.rep.ahead, x.hv]

/-- The slice reads as these memos, what they hold too. -/
structure RdM (w : World) (v : Value) (L : List MemC) : Prop where
  row : RdX 6 cellsM w v L
  held : ∀ x ∈ L, RdH w x.hv x.m.rep.held
theorem RdM.later {w w' : World} {v : Value} {L : List MemC} (h : RdM w v L) (hb : Below w.heap.size w w') : RdM w' v L := ⟨h.row.later hb, fun x hx => (h.held x hx).later hb⟩
theorem RdM.nil (w : World) : RdM w (.slice none 0 0) [] := ⟨RdX.nil w, fun x hx => by cases hx⟩
theorem RdM.form {w : World} {v : Value} {L : List MemC} (h : RdM w v L) : ∃ a cap, v = .slice a L.length cap := h.row.form
theorem RdM.len {w : World} {v : Value} {L : List MemC} (h : RdM w v L) : L.length ≤ 9223372036854775807 := h.row.len

theorem rdm_at {w : World} {a : Option Addr} {n cap : Nat} {L : List MemC} (h : RdX 6 cellsM w (.slice a n cap) L) (i : Nat) (hi : i < L.length) :
    ∃ b o, a = some ⟨b, o, none⟩ ∧ ∀ w' : World, Below w.heap.size w w' → w'.cell? ⟨b, o + i * 6, none⟩ = some (.int .i64 L[i].m.client) ∧ w'.cell? ⟨b, o + i * 6 + 1, none⟩ = some (.int .i64 L[i].m.seq) ∧ w'.cell? ⟨b, o + i * 6 + 2, none⟩ = some (.int .i64 L[i].m.rep.code) ∧ w'.cell? ⟨b, o + i * 6 + 3, none⟩ = some (.int .i64 L[i].m.rep.session) ∧ w'.cell? ⟨b, o + i * 6 + 4, none⟩ = some (.int .i64 L[i].m.rep.ahead) ∧ w'.cell? ⟨b, o + i * 6 + 5, none⟩ = some L[i].hv := by
  obtain ⟨b, o, e, c⟩ := h.at i hi
  exact ⟨b, o, e, fun w' hb => ⟨c w' hb 0 _ rfl, c w' hb 1 _ rfl, c w' hb 2 _ rfl, c w' hb 3 _ rfl, c w' hb 4 _ rfl, c w' hb 5 _ rfl⟩⟩

def sameM : List AnsV → List AnsV → Bool
  | [], [] => true
  | a :: l, b :: m => (decide (a.client = b.client) && (decide (a.seq = b.seq) && sameP a.rep b.rep)) && sameM l m
  | _, _ => false
theorem sameM_iff : ∀ l m : List AnsV, sameM l m = true ↔ l = m
  | [], [] => by simp [sameM]
  | [], _ :: _ => by simp [sameM]
  | _ :: _, [] => by simp [sameM]
  | ⟨a, b, c⟩ :: l, ⟨a', b', c'⟩ :: m => by
    unfold sameM
    simp [sameM_iff l m, sameP_iff]
theorem sameM_refl (l : List AnsV) : sameM l l = true := (sameM_iff l l).2 rfl
theorem sameM_len : ∀ (l m : List AnsV), l.length ≠ m.length → sameM l m = false
  | [], [], h => absurd rfl h
  | [], _ :: _, _ => rfl
  | _ :: _, [], _ => rfl
  | g :: l, h :: m, q => by
    have := sameM_len l m (by simpa using q)
    unfold sameM
    rw [this, Bool.and_false]
theorem sameM_drop (l m : List AnsV) (j : Nat) (h : j < l.length) (hm : j < m.length) :
    sameM (l.drop j) (m.drop j) = ((decide (l[j].client = m[j].client) && (decide (l[j].seq = m[j].seq) && sameP l[j].rep m[j].rep)) && sameM (l.drop (j + 1)) (m.drop (j + 1))) := by
  rw [List.drop_eq_getElem_cons h, List.drop_eq_getElem_cons hm]
  rfl

set_option maxHeartbeats 4000000 in
theorem SameMemos_any (u v : Value) (l m : List MemC) (w : World) (h : RdM w u l) (h2 : RdM w v m) :
    Calls Try.prog 11 #[u, v] w (SaysB (sameM (valsM l) (valsM m)) w) := by
  have hm := h.len
  have hm2 := h2.len
  obtain ⟨a, cap, rfl⟩ := h.form
  obtain ⟨a2, cap2, rfl⟩ := h2.form
  by_cases hn : l.length = m.length
  · have HA := Lib.hid (fun i hi => rdm_at h.row i hi)
    have HA2 := Lib.hid (fun i hi => rdm_at h2.row i hi)
    have HS : Hid (∀ i (hi : i < l.length) (hi2 : i < m.length) (w' : World), Below w.heap.size w w' → Calls Try.prog 19 #[repVal l[i].m.rep l[i].hv, repVal m[i].m.rep m[i].hv] w' (SaysB (sameP l[i].m.rep m[i].m.rep) w')) := Lib.hid fun i hi hi2 w' hb => SameReply_any _ _ _ _ w' ((h.held _ (List.getElem_mem hi)).later hb) ((h2.held _ (List.getElem_mem hi2)).later hb)
    have HD : Hid (∀ j (h : j < l.length) (hm : j < m.length), sameM ((valsM l).drop j) ((valsM m).drop j) = ((decide (l[j].m.client = m[j].m.client) && (decide (l[j].m.seq = m[j].m.seq) && sameP l[j].m.rep m[j].m.rep)) && sameM ((valsM l).drop (j + 1)) ((valsM m).drop (j + 1)))) := Lib.hid fun j hj hj2 => by
      have := sameM_drop (valsM l) (valsM m) j (by rw [valsM_length]; exact hj) (by rw [valsM_length]; exact hj2)
      rw [valsM_get l j hj, valsM_get m j hj2] at this
      exact this
    clear h h2
    obtain ⟨L, hL⟩ : ∃ L, l.length = L := ⟨_, rfl⟩
    have hL2 : m.length = L := by omega
    have HL := Lib.hid hL
    have HL2 := Lib.hid hL2
    rw [hL] at hm ⊢
    rw [hL2] at hm2 ⊢
    clear hL hL2 hn
    go_enter Try.func11, Try.ntmps11
    go_wp2
    go_loopw [5] (fun i wr => ∃ j : Nat, j ≤ L ∧ i = .int .i64 j ∧ Hid (Below w.heap.size w wr) ∧ Hid (sameM (valsM l) (valsM m) = sameM ((valsM l).drop j) ((valsM m).drop j))) (fun i _ => L - (intOf i).toNat)
    case atStart => exact ⟨0, by omega, rfl, Lib.hid (Below.refl _ _), Lib.hid rfl⟩
    case round =>
      obtain ⟨j, hj, rfl, HB, ha⟩ := hrel
      by_cases hlt : j < L
      · have h1 : j < l.length := by rw [HL.out]; exact hlt
        have h2 : j < m.length := by rw [HL2.out]; exact hlt
        obtain ⟨b, o, rfl, hc⟩ := HA.out j h1
        obtain ⟨b', o', rfl, hc2⟩ := HA2.out j h2
        obtain ⟨q0, q1, q2, q3, q4, q5⟩ := hc _ HB.out
        obtain ⟨p0, p1, p2, p3, p4, p5⟩ := hc2 _ HB.out
        have hd := HD.out j h1 h2
        have hs := fun w' hb => HS.out j h1 h2 w' hb
        clear HA HA2 HD HS hc hc2
        generalize l[j] = x at q0 q1 q2 q3 q4 q5 hd hs
        generalize m[j] = y at p0 p1 p2 p3 p4 p5 hd hs
        obtain ⟨⟨xc, xs, xk, xn, xd, xl⟩, xa, xp⟩ := x
        obtain ⟨⟨yc, ys, yk, yn, yd, yl⟩, ya, yp⟩ := y
        unfold MemC.hv at q5 p5 hs
        unfold repVal at hs
        dsimp only at q0 q1 q2 q3 q4 q5 p0 p1 p2 p3 p4 p5 hd hs
        clear h1 h2
        have k0 := cell_regrown q0
        have k1 := cell_regrown q1
        have k2 := cell_regrown q2
        have k3 := cell_regrown q3
        have k4 := cell_regrown q4
        have k5 := cell_regrown q5
        have g0 := cell_regrown p0
        have g1 := cell_regrown p1
        have g2 := cell_regrown p2
        have g3 := cell_regrown p3
        have g4 := cell_regrown p4
        have g5 := cell_regrown p5
        have D1 := Lib.hid (fun d os => Calls.regrown_of (w := wr) (d := d) (os := os) (hs _ (step HB.out (below_regrown wr d os))))
        have f1 : (0 : Int) ≤ (j : Int) := by omega
        have f2 : (j : Int) < (L : Int) := by omega
        generalize sameP ⟨xk, xn, xd, xl⟩ ⟨yk, yn, yd, yl⟩ = sp at hd D1
        generalize xl.length = XN at *
        generalize yl.length = YN at *
        clear q0 q1 q2 q3 q4 q5 p0 p1 p2 p3 p4 p5 hs
        by_cases e0 : xc = yc
        case neg =>
          have d0 : (xc != yc) = true := by simpa using e0
          rw [decide_eq_false e0] at hd
          have H := Lib.hid hd
          clear hd e0
          go_upto_region 6 with fail
          refine wp_region_quiet_below (by kernel_rfl) (by kernel_rfl) ?_
          repeat (go_big_quiet_step (first | exact D1.out _ _))
          refine wpQuiet_nil ?_
          intro _ hw'
          obtain ⟨⟨dq, osq⟩, hw''⟩ := hw'
          subst hw''
          go_wp2
          go_ret
          exact ⟨by rw [ha.out, H.out]; rfl, step HB.out (below_regrown wr dq osq)⟩
        have d0 : (xc != yc) = false := by simp [e0]
        rw [decide_eq_true e0] at hd
        clear e0
        by_cases e1 : xs = ys
        case neg =>
          have d1 : (xs != ys) = true := by simpa using e1
          rw [decide_eq_false e1] at hd
          have H := Lib.hid hd
          clear hd e1
          go_upto_region 6 with fail
          refine wp_region_quiet_below (by kernel_rfl) (by kernel_rfl) ?_
          repeat (go_big_quiet_step (first | exact D1.out _ _))
          refine wpQuiet_nil ?_
          intro _ hw'
          obtain ⟨⟨dq, osq⟩, hw''⟩ := hw'
          subst hw''
          go_wp2
          go_ret
          exact ⟨by rw [ha.out, H.out]; rfl, step HB.out (below_regrown wr dq osq)⟩
        have d1 : (xs != ys) = false := by simp [e1]
        rw [decide_eq_true e1] at hd
        clear e1
        cases sp with
        | false =>
          have H := Lib.hid hd
          clear hd
          go_upto_region 6 with fail
          refine wp_region_quiet_below (by kernel_rfl) (by kernel_rfl) ?_
          repeat (go_big_quiet_step (first | exact D1.out _ _))
          refine wpQuiet_nil ?_
          intro _ hw'
          obtain ⟨⟨dq, osq⟩, hw''⟩ := hw'
          subst hw''
          go_wp2
          go_ret
          exact ⟨by rw [ha.out, H.out]; rfl, step HB.out (below_regrown wr dq osq)⟩
        | true =>
          have H := Lib.hid hd
          clear hd
          go_upto_region 6 with fail
          refine wp_region_quiet_below (by kernel_rfl) (by kernel_rfl) ?_
          repeat (go_big_quiet_step (first | exact D1.out _ _))
          refine wpQuiet_nil ?_
          intro _ hw'
          obtain ⟨⟨dq, osq⟩, hw''⟩ := hw'
          subst hw''
          have HBF := Lib.hid (step HB.out (below_regrown wr dq osq))
          go_wp2
          go_roundw
          case rel => exact ⟨j + 1, by omega, by go_num, HBF, Lib.hid (by rw [ha.out, H.out]; rfl)⟩
          case measure => simp [intOf]; omega
      · obtain rfl : j = L := by omega
        go_wp2
        go_ret
        have ha := ha.out
        have t1 : (valsM l).drop j = [] := List.drop_eq_nil_of_le (by rw [valsM_length, HL.out]; exact Nat.le_refl _)
        have t2 : (valsM m).drop j = [] := List.drop_eq_nil_of_le (by rw [valsM_length, HL2.out]; exact Nat.le_refl _)
        rw [t1, t2] at ha
        exact ⟨by rw [ha]; rfl, HB.out⟩
  · have d1 : ((l.length : Int) != (m.length : Int)) = true := by simp; omega
    have e : sameM (valsM l) (valsM m) = false := sameM_len _ _ (by rw [valsM_length, valsM_length]; exact hn)
    rw [e]
    clear h h2 hn e
    generalize l.length = L at *
    generalize m.length = M at *
    go_enter Try.func11, Try.ntmps11
    go_wp2
    go_ret
    exact ⟨rfl, Below.refl _ _⟩
end Cm
end Go.Proofs.Ytfkpgndbohoogaa

/- Contracts: padlockref6's Last, Fresh, RightMemos. -/
set_option linter.unusedVariables false
set_option linter.unusedSimpArgs false
namespace Go.Proofs.Ytfkpgndbohoogaa
open Go.RowKit
namespace Cm

theorem free6m {w w' : World} {x y z u v s : Value} {t : TypeId} (h : Below (w.alloc (.cells #[x, y, z, u, v, s] t)).heap.size (w.alloc (.cells #[x, y, z, u, v, s] t)) w') :
    ∀ k, w'.frozen? ⟨w.heap.size, k, none⟩ = false := by
  intro k
  have hl : w.heap.size < (w.alloc (.cells #[x, y, z, u, v, s] t)).heap.size := by simp
  rw [h.frozen (p := ⟨w.heap.size, k, none⟩) hl]
  simp [go_sem]
theorem set6m {a w : World} {b : Nat} (h : Below b a w) (g : Nat) (hg : b ≤ g) (x y z u v s : Value) : Below b a ((((((w.setCell ⟨g, 0, none⟩ x).setCell ⟨g, 1, none⟩ y).setCell ⟨g, 2, none⟩ z).setCell ⟨g, 3, none⟩ u).setCell ⟨g, 4, none⟩ v).setCell ⟨g, 5, none⟩ s) :=
  (((((h.setCell hg _).setCell hg _).setCell hg _).setCell hg _).setCell hg _).setCell hg _

/-- A memo told, or none. -/
def GetsM (r : AnsV × Bool) (w : World) (e : Ending) (w' : World) : Prop :=
  ∃ x : MemC, e = .returned (.tuple #[memVal x, .bool r.2]) ∧ x.m = r.1 ∧ RdH w' x.hv x.m.rep.held ∧ Below w.heap.size w w'

set_option maxHeartbeats 2000000 in
theorem RefLast_any (v : Value) (L : List MemC) (c : Int) (w : World) (h : RdM w v L) : Calls Try.prog 16 #[v, .int .i64 c] w (GetsM (lastM (valsM L) c) w) := by
  have hm := h.len
  obtain ⟨a, cap, rfl⟩ := h.form
  have HA := Lib.hid (fun i hi => rdm_at h.row i hi)
  have HH : Hid (∀ i (hi : i < L.length) (w' : World), Below w.heap.size w w' → RdH w' L[i].hv L[i].m.rep.held) := Lib.hid fun i hi w' hb => (h.held _ (List.getElem_mem hi)).later hb
  have hb1 := newAlloc w (.cells #[.int .i64 0, .int .i64 0, .int .i64 0, .int .i64 0, .int .i64 0, .slice none 0 0] 35)
  obtain ⟨c0, c1, c2, c3, c4, c5⟩ := box6 (Below.refl _ (w.alloc (.cells #[.int .i64 0, .int .i64 0, .int .i64 0, .int .i64 0, .int .i64 0, .slice none 0 0] 35)))
  have cf := free6m (Below.refl _ (w.alloc (.cells #[.int .i64 0, .int .i64 0, .int .i64 0, .int .i64 0, .int .i64 0, .slice none 0 0] 35)))
  obtain ⟨W1, hW1⟩ : ∃ W1, W1 = w.alloc (.cells #[.int .i64 0, .int .i64 0, .int .i64 0, .int .i64 0, .int .i64 0, .slice none 0 0] 35) := ⟨_, rfl⟩
  rw [← hW1] at hb1 c0 c1 c2 c3 c4 c5 cf
  have HB := Lib.hid hb1
  have HI : Hid (∀ k (hk : k < L.length), L[k].m.client = c → (∀ j (hj : j < k), (L[j]'(by omega)).m.client ≠ c) → lastM (valsM L) c = (L[k].m, true)) := Lib.hid fun k hk hc hb => by
    have e : idxI (isCl c) (valsM L) = k := idxI_hit _ _ k (by rw [valsM_length]; exact hk) (by rw [valsM_get L k hk]; unfold isCl; exact decide_eq_true hc) (fun j hj => by rw [valsM_get L j (by omega)]; unfold isCl; exact decide_eq_false (hb j hj))
    obtain ⟨hk', _, he⟩ := last_hit _ _ _ e
    rw [he, valsM_get L k hk]
  have HMS : Hid ((∀ j (hj : j < L.length), L[j].m.client ≠ c) → lastM (valsM L) c = (zeroM, false)) := Lib.hid fun hb => last_miss _ _ (idxI_miss _ _ fun j hj => by
    rw [valsM_length] at hj
    rw [valsM_get L j hj]; unfold isCl; exact decide_eq_false (hb j hj))
  clear h hb1
  obtain ⟨N, hN⟩ : ∃ N, L.length = N := ⟨_, rfl⟩
  have HLL := Lib.hid hN
  rw [hN] at hm ⊢
  clear hN
  go_enter Try.func16, Try.ntmps16
  go_upto_region 1 with fail
  rw [← hW1]
  clear hW1
  go_wp2
  go_loop [6] (fun i => ∃ k : Nat, k ≤ N ∧ i = .int .i64 k ∧ Hid (∀ j (hj : j < k) (hl : j < L.length), L[j].m.client ≠ c)) (fun i => N - (intOf i).toNat)
  case atStart => exact ⟨0, by omega, rfl, Lib.hid (fun j hj => absurd hj (Nat.not_lt_zero _))⟩
  case round =>
    obtain ⟨k, hk, rfl, HJ⟩ := hrel
    by_cases hlt : k < N
    · have hkl : k < L.length := by rw [HLL.out]; exact hlt
      obtain ⟨b, o, rfl, hc⟩ := HA.out k hkl
      obtain ⟨q0, q1, q2, q3, q4, q5⟩ := hc W1 HB.out
      have hi := fun q => HI.out k hkl q (fun j hj => HJ.out j hj (by omega))
      have hh := HH.out k hkl
      have HN : Hid (L[k].m.client ≠ c → ∀ j (hj : j < k + 1) (hl : j < L.length), L[j].m.client ≠ c) := Lib.hid (fun q j hj hl => by
        by_cases e : j = k
        · subst e; exact q
        · exact HJ.out j (by omega) hl)
      clear HA HI HMS HH hc
      generalize L[k] = x at q0 q1 q2 q3 q4 q5 hi hh HN
      obtain ⟨⟨xc, xs, xk, xn, xd, xl⟩, xa, xp⟩ := x
      unfold MemC.hv at q5 hh
      dsimp only at q0 q1 q2 q3 q4 q5 hi hh HN
      have HHH := Lib.hid hh
      obtain ⟨XN, hXN⟩ : ∃ XN, xl.length = XN := ⟨_, rfl⟩
      have HXN := Lib.hid hXN
      rw [hXN] at q5
      clear hXN hh
      by_cases e1 : xc = c
      · have d1 : (xc == c) = true := by simpa using e1
        have H := Lib.hid (hi e1)
        clear hi e1 HN
        go_wp2
        refine bodyPost_ret (by simp [results, Try.results16, go_sem, c0, c1, c2, c3, c4, c5, cf] <;> rfl) rfl ?_
        have hbf := set6m HB.out w.heap.size (Nat.le_refl _) (.int .i64 xc) (.int .i64 xs) (.int .i64 xk) (.int .i64 xn) (.int .i64 xd) (.slice xa XN xp)
        refine ⟨⟨⟨xc, xs, xk, xn, xd, xl⟩, xa, xp⟩, ?_, by rw [H.out], HHH.out _ hbf, hbf⟩
        unfold memVal MemC.hv
        dsimp only
        rw [HXN.out, H.out]
      · have d1 : (xc == c) = false := by simpa using e1
        have H := Lib.hid (HN.out e1)
        clear hi e1 HN HHH
        go_wp2
        go_round
        case rel => exact ⟨k + 1, by omega, by go_num, H⟩
        case measure => simp [intOf]; omega
    · obtain rfl : k = N := by omega
      have H := Lib.hid (HMS.out (fun j hj => HJ.out j (by rw [← HLL.out]; exact hj) hj))
      clear HI HMS HH
      go_wp2
      refine bodyPost_ret (by simp [results, Try.results16, go_sem, c0, c1, c2, c3, c4, c5, cf] <;> rfl) rfl ?_
      have hbf := set6m HB.out w.heap.size (Nat.le_refl _) (.int .i64 0) (.int .i64 0) (.int .i64 0) (.int .i64 0) (.int .i64 0) (.slice none 0 0)
      rw [H.out]
      exact ⟨⟨zeroM, none, 0⟩, rfl, rfl, RdH.nil _, hbf⟩

/-- Told, the slice written out. -/
theorem GetsM.s {r : AnsV × Bool} {w : World} {e : Ending} {w' : World} (h : GetsM r w e w') :
    ∃ a c, e = .returned (.tuple #[.agg #[.int .i64 r.1.client, .int .i64 r.1.seq, .int .i64 r.1.rep.code, .int .i64 r.1.rep.session, .int .i64 r.1.rep.ahead, .slice a r.1.rep.held.length c], .bool r.2]) ∧ RdH w' (.slice a r.1.rep.held.length c) r.1.rep.held ∧ Below w.heap.size w w' := by
  obtain ⟨⟨m, a, c⟩, he, hx, hr, hb⟩ := h
  obtain ⟨y, b⟩ := r
  dsimp only at hx
  subst hx
  exact ⟨a, c, he, hr, hb⟩

set_option maxHeartbeats 2000000 in
theorem RefFresh_any (v : Value) (L : List MemC) (c s : Int) (w : World) (h : RdM w v L) : Calls Try.prog 14 #[v, .int .i64 c, .int .i64 s] w (SaysI (freshM (valsM L) c s) w) := by
  have KL := (RefLast_any v L c w h).mono fun e w' h => GetsM.s h
  unfold freshM
  generalize lastM (valsM L) c = r at KL ⊢
  obtain ⟨⟨xc, xs, xk, xn, xd, xl⟩, xb⟩ := r
  dsimp only at KL ⊢
  obtain ⟨a, cap, rfl⟩ := h.form
  clear h
  generalize L.length = N at *
  generalize xl.length = XN at KL
  have KL := Lib.hid KL
  cases xb with
  | false =>
    rw [if_pos rfl]
    go_enter Try.func14, Try.ntmps14
    go_wp2_with (go_at_call 16; refine KL.out.mono ?_; rintro e w2 ⟨a2, c2, rfl, hr2, hb2⟩)
    go_ret
    exact ⟨rfl, stepAlloc hb2 _⟩
  | true =>
    rw [if_neg (by simp)]
    by_cases h1 : xs < s
    · rw [if_pos h1]
      have d1 : decide (xs < s) = true := decide_eq_true h1
      clear h1
      go_enter Try.func14, Try.ntmps14
      go_wp2_with (go_at_call 16; refine KL.out.mono ?_; rintro e w2 ⟨a2, c2, rfl, hr2, hb2⟩)
      go_ret
      exact ⟨rfl, stepAlloc hb2 _⟩
    rw [if_neg h1]
    have d1 : decide (xs < s) = false := decide_eq_false h1
    clear h1
    by_cases h2 : xs = s
    · rw [if_pos h2]
      have d2 : (xs == s) = true := by simpa using h2
      clear h2
      go_enter Try.func14, Try.ntmps14
      go_wp2_with (go_at_call 16; refine KL.out.mono ?_; rintro e w2 ⟨a2, c2, rfl, hr2, hb2⟩)
      go_ret
      exact ⟨rfl, stepAlloc hb2 _⟩
    · rw [if_neg h2]
      have d2 : (xs == s) = false := by simpa using h2
      clear h2
      go_enter Try.func14, Try.ntmps14
      go_wp2_with (go_at_call 16; refine KL.out.mono ?_; rintro e w2 ⟨a2, c2, rfl, hr2, hb2⟩)
      go_ret
      exact ⟨rfl, stepAlloc hb2 _⟩

set_option maxHeartbeats 4000000 in
theorem RightMemos_any (v : Value) (L : List MemC) (w : World) (h : RdM w v L) : Calls Try.prog 17 #[v] w (SaysB (rightM (valsM L)) w) := by
  have hm := h.len
  obtain ⟨a, cap, rfl⟩ := h.form
  have HA := Lib.hid (fun i hi => rdm_at h.row i hi)
  have HM : Hid (∀ i (hi : i < L.length) (w' : World), Below w.heap.size w w' → Calls Try.prog 26 #[ansVal L[i].m L[i].hv] w' (SaysB (mayA L[i].m) w')) := Lib.hid fun i hi w' hb => RefMayAnswer_any _ _ w' ((h.held _ (List.getElem_mem hi)).later hb)
  have W1 := Lib.hid (fun j hj => wrongM_may (l := valsM L) (j := j) (hj := hj))
  have W3 := Lib.hid (fun j hj => wrongM_up (l := valsM L) (j := j) (hj := hj))
  have HR := Lib.hid (rightM_of (valsM L))
  have HVG : Hid (∀ i (h : i < L.length) (h' : i < (valsM L).length), (valsM L)[i] = L[i].m) := Lib.hid (valsM_get L)
  have HVL := Lib.hid (valsM_length L)
  clear h
  generalize valsM L = V at *
  obtain ⟨N, hL⟩ : ∃ N, L.length = N := ⟨_, rfl⟩
  have HLL := Lib.hid hL
  rw [hL] at hm HVL ⊢
  clear hL
  go_enter Try.func17, Try.ntmps17
  go_wp2
  go_loopw [3] (fun i wr => ∃ j : Nat, j ≤ N ∧ i = .int .i64 j ∧ Hid (Below w.heap.size w wr) ∧ Hid (∀ q (hq : q < V.length), q < j → mayA V[q] = true ∧ ∀ p (hp : p + 1 = q), (V[p]'(by omega)).client < V[q].client)) (fun i _ => N - (intOf i).toNat)
  case atStart => exact ⟨0, by omega, rfl, Lib.hid (Below.refl _ _), Lib.hid (fun q hq h => absurd h (Nat.not_lt_zero _))⟩
  case round =>
    obtain ⟨j, hj, rfl, HB, HG⟩ := hrel
    by_cases hlt : j < N
    · have hjl : j < L.length := by rw [HLL.out]; exact hlt
      have hjv : j < V.length := by rw [HVL.out]; exact hlt
      have HJ := Lib.hid hjv
      obtain ⟨b, o, rfl, hc⟩ := HA.out j hjl
      obtain ⟨q0, q1, q2, q3, q4, q5⟩ := hc _ HB.out
      have HC : Hid (∀ i (hi : i < V.length) (w' : World), Below w.heap.size w w' → w'.cell? ⟨b, o + i * 6, none⟩ = some (.int .i64 V[i].client)) := Lib.hid fun i hi w' hb => by
        have hi' : i < L.length := by rw [HLL.out, ← HVL.out]; exact hi
        obtain ⟨b', o', e, hc'⟩ := HA.out i hi'
        cases e
        have := (hc' w' hb).1
        rw [HVG.out i hi' hi]
        exact this
      have K1 := W1.out j hjv
      have HN : mayA (V[j]'hjv) = true → (∀ p (hp : p + 1 = j) (hpl : p < V.length), V[p].client < (V[j]'hjv).client) → ∀ q (hq : q < V.length), q < j + 1 → mayA V[q] = true ∧ ∀ p (hp : p + 1 = q), (V[p]'(by omega)).client < V[q].client := fun a1 a3 q hq hqj => by
        by_cases e : q = j
        · subst e; exact ⟨a1, fun p hp => a3 p hp (by omega)⟩
        · exact HG.out q hq (by omega)
      have K3 : ∀ p (hp : p + 1 = j) (hpl : p < V.length), (V[j]'hjv).client ≤ V[p].client → rightM V = false := fun p hp _ hle => by
        subst hp
        exact W3.out p hjv hle
      have KI := fun w' hb => HM.out j hjl w' hb
      rw [HVG.out j hjl hjv] at K1 HN K3
      clear hc W1 W3 HM HA HG
      generalize L[j] = x at q0 q1 q2 q3 q4 q5 K1 K3 HN KI
      clear hjl hjv
      obtain ⟨⟨xc, xs, xk, xn, xd, xl⟩, xa, xp⟩ := x
      unfold ansVal MemC.hv at KI
      unfold MemC.hv at q5
      dsimp only at q0 q1 q2 q3 q4 q5 K1 K3 HN KI
      have k0 := cell_regrown q0
      have k1 := cell_regrown q1
      have k2 := cell_regrown q2
      have k3 := cell_regrown q3
      have k4 := cell_regrown q4
      have k5 := cell_regrown q5
      have D1 := Lib.hid (fun d os => Calls.regrown_of (w := wr) (d := d) (os := os) (KI _ (step HB.out (below_regrown wr d os))))
      have f1 : (0 : Int) ≤ (j : Int) := by omega
      have f2 : (j : Int) < (N : Int) := by omega
      clear KI q1 q2 q3 q4 q5
      generalize xl.length = XN at *
      cases n1 : mayA ⟨xc, xs, ⟨xk, xn, xd, xl⟩⟩
      case false =>
        have HE := Lib.hid (K1 n1)
        rw [n1] at D1
        clear n1 HN K1 K3 HC q0
        go_upto_region 4 with fail
        refine wp_region_quiet_below (by kernel_rfl) (by kernel_rfl) ?_
        repeat (go_big_quiet_step (first | exact D1.out _ _))
        refine wpQuiet_nil ?_
        intro _ hw'
        obtain ⟨⟨dq, osq⟩, hw''⟩ := hw'
        subst hw''
        go_wp2
        go_ret
        exact ⟨by rw [HE.out]; rfl, step HB.out (below_regrown wr dq osq)⟩
      rw [n1] at D1
      have HN2 := Lib.hid (HN n1)
      have HK3 := Lib.hid K3
      clear n1 HN K1 K3
      match j, hj, hlt, f1, f2, q0, k0, k1, k2, k3, k4, k5, HK3, HN2, HJ, D1 with
      | 0, hj, hlt, f1, f2, q0, k0, k1, k2, k3, k4, k5, HK3, HN2, HJ, D1 =>
        have HN3 := Lib.hid (HN2.out (fun p hp _ => by omega))
        clear HN2 HK3 HC q0
        simp only [Nat.zero_mul, Nat.add_zero] at k0 k1 k2 k3 k4 k5
        go_upto_region 4 with fail
        refine wp_region_quiet_below (by kernel_rfl) (by kernel_rfl) ?_
        repeat (go_big_quiet_step (first | exact D1.out _ _))
        refine wpQuiet_nil ?_
        intro _ hw'
        obtain ⟨⟨dq, osq⟩, hw''⟩ := hw'
        subst hw''
        have HBF := Lib.hid (step HB.out (below_regrown wr dq osq))
        go_wp2
        go_roundw
        case rel => exact ⟨1, by omega, by go_num, HBF, HN3⟩
        case measure => simp [intOf]; omega
      | p + 1, hj, hlt, f1, f2, q0, k0, k1, k2, k3, k4, k5, HK3, HN2, HJ, D1 =>
        have hpl : p < V.length := by have := HJ.out; omega
        have K4 := HK3.out p rfl hpl
        have HC2 := HC.out p hpl wr HB.out
        have HN3 : (V[p]'hpl).client < xc → _ := fun q => HN2.out (fun r hr _ => by cases hr; exact q)
        clear HN2 HK3 HC q0
        generalize (V[p]'hpl).client = pc at K4 HC2 HN3
        have g0 := cell_regrown HC2
        have g1 : IntKind.i64.wrap (((p + 1 : Nat) : Int) - 1) = (p : Int) := by rw [IntKind.wrap_i64]; omega
        have g2 : (0 : Int) ≤ (p : Int) := by omega
        have g3 : (p : Int) < (N : Int) := by omega
        have g4 : decide ((0 : Int) < ((p + 1 : Nat) : Int)) = true := decide_eq_true (by omega)
        clear HC2
        by_cases e1 : xc ≤ pc
        · have d1 : decide (xc ≤ pc) = true := decide_eq_true e1
          have HE := Lib.hid (K4 e1)
          clear e1 K4 HN3
          go_upto_region 4 with fail
          refine wp_region_quiet_below (by kernel_rfl) (by kernel_rfl) ?_
          repeat (go_big_quiet_step (first | exact D1.out _ _))
          refine wpQuiet_nil ?_
          intro _ hw'
          obtain ⟨⟨dq, osq⟩, hw''⟩ := hw'
          subst hw''
          go_wp2
          go_ret
          exact ⟨by rw [HE.out]; rfl, step HB.out (below_regrown wr dq osq)⟩
        · have d1 : decide (xc ≤ pc) = false := decide_eq_false e1
          have HN4 := Lib.hid (HN3 (by omega))
          clear e1 K4 HN3
          go_upto_region 4 with fail
          refine wp_region_quiet_below (by kernel_rfl) (by kernel_rfl) ?_
          repeat (go_big_quiet_step (first | exact D1.out _ _))
          refine wpQuiet_nil ?_
          intro _ hw'
          obtain ⟨⟨dq, osq⟩, hw''⟩ := hw'
          subst hw''
          have HBF := Lib.hid (step HB.out (below_regrown wr dq osq))
          go_wp2
          go_roundw
          case rel => exact ⟨p + 2, by omega, by go_num, HBF, HN4⟩
          case measure => simp [intOf]; omega
    · obtain rfl : j = N := by omega
      have hr := HR.out (fun q hq => (HG.out q hq (by rw [← HVL.out]; exact hq)).1) (fun q hq => (HG.out (q + 1) hq (by rw [← HVL.out]; exact hq)).2 q rfl)
      have HE := Lib.hid hr
      clear hr W1 W3
      go_wp2
      go_ret
      exact ⟨by rw [HE.out]; rfl, HB.out⟩
end Cm
end Go.Proofs.Ytfkpgndbohoogaa

/- Contracts: padlockref6's Keep, of right memos. -/
set_option linter.unusedVariables false
set_option linter.unusedSimpArgs false
namespace Go.Proofs.Ytfkpgndbohoogaa
open Go.RowKit
namespace Cm

/-- Memos told, that read. -/
def GetsK (r : List AnsV) (w : World) (e : Ending) (w' : World) : Prop :=
  ∃ a c M, e = .returned (.slice a (List.length M) c) ∧ valsM M = r ∧ RdM w' (.slice a M.length c) M ∧ Below w.heap.size w w'

theorem keepM_no {l : List AnsV} {a : AnsV} (h : mayA a = false ∨ freshM l a.client a.seq ≠ 1) : keepM l a = l := by
  unfold keepM
  rw [if_neg]
  rcases h with h | h
  · simp [h]
  · simp [h]
theorem keepM_yes {l : List AnsV} {a : AnsV} (h1 : mayA a = true) (h2 : freshM l a.client a.seq = 1) : keepM l a = insM a l := by
  unfold keepM
  rw [if_pos (by simp [h1, h2])]

theorem goM_drop (a : AnsV) (put : Bool) (l : List AnsV) (k : Nat) (h : k < l.length) : goM a put (l.drop k) =
    if l[k].client = a.client then a :: goM a true (l.drop (k + 1)) else if (!put && decide (a.client < l[k].client)) = true then a :: l[k] :: goM a true (l.drop (k + 1)) else l[k] :: goM a put (l.drop (k + 1)) := by
  rw [List.drop_eq_getElem_cons h, goM]

/-- A row of memos, each of which reads in this world. -/
theorem RdM.made {base : Nat} {w w' : World} {v : Value} {M : List MemC} (ho : w'.ownsRow base 35 6 v M.length (flatX cellsM M)) (hh : ∀ x ∈ M, RdH w x.hv x.m.rep.held) (hb : Below w.heap.size w w') : RdM w' v M :=
  ⟨RdX.own cellsM_length ho, fun x hx => (hh x hx).later hb⟩

set_option maxHeartbeats 4000000 in
theorem RefKeep_no (v u : Value) (L : List MemC) (A : AnsV) (w : World) (h : RdM w v L) (h5 : L.length ≤ 100000) (hu : RdH w u A.rep.held) (hno : mayA A = false ∨ freshM (valsM L) A.client A.seq ≠ 1) :
    Calls Try.prog 10 #[v, ansVal A u] w (GetsK (valsM L) w) := by
  obtain ⟨ua, uc, rfl, -⟩ := hu.ex
  obtain ⟨⟨ac, sq, ⟨ak, an, ad, al⟩⟩, hA⟩ : ∃ A', A' = A := ⟨_, rfl⟩
  subst hA
  have KM := RefMayAnswer_any ⟨ac, sq, ⟨ak, an, ad, al⟩⟩ (.slice ua al.length uc)
  unfold ansVal at KM ⊢
  dsimp only at hu hno KM ⊢
  have hb1 := newAlloc w (.cells #[.int .i64 ac, .int .i64 sq, .int .i64 ak, .int .i64 an, .int .i64 ad, .slice ua al.length uc] 30)
  obtain ⟨c0, c1, c2, c3, c4, c5⟩ := box6 (Below.refl _ (w.alloc (.cells #[.int .i64 ac, .int .i64 sq, .int .i64 ak, .int .i64 an, .int .i64 ad, .slice ua al.length uc] 30)))
  obtain ⟨W1, hW1⟩ : ∃ W1, W1 = w.alloc (.cells #[.int .i64 ac, .int .i64 sq, .int .i64 ak, .int .i64 an, .int .i64 ad, .slice ua al.length uc] 30) := ⟨_, rfl⟩
  rw [← hW1] at hb1 c0 c1 c2 c3 c4 c5
  have HB := Lib.hid hb1
  have HQ : Hid (∀ w', Below W1.heap.size W1 w' → w'.cell? ⟨w.heap.size, 0, none⟩ = some (.int .i64 ac) ∧ w'.cell? ⟨w.heap.size, 1, none⟩ = some (.int .i64 sq)) := Lib.hid fun w' hb => ⟨(hb.cell (lt_of_cell c0)).trans c0, (hb.cell (lt_of_cell c1)).trans c1⟩
  have KM := Lib.hid (KM W1 (hu.later hb1))
  have KF : Hid (∀ W, Below W1.heap.size W1 W → Calls Try.prog 14 #[v, .int .i64 ac, .int .i64 sq] W (SaysI (freshM (valsM L) ac sq) W)) := Lib.hid fun W hb => RefFresh_any v L ac sq W (h.later (step hb1 hb))
  have HR : Hid (∀ W, Below w.heap.size w W → RdM W v L) := Lib.hid fun W hb => h.later hb
  obtain ⟨a, cap, rfl⟩ := h.form
  obtain ⟨i1, hi, hz0, hz1, hz2⟩ := info_parts infoM
  have HFIN : Hid (∀ (W W' : World) (v5 : Value), Below w.heap.size w W → W'.ownsRow W.heap.size 35 6 v5 L.length (flatX cellsM L) → Below W.heap.size W W' → GetsK (valsM L) w (.returned v5) W') := Lib.hid fun W W' v5 hb ho hb2 => by
    obtain ⟨a5, c5, rfl⟩ := Rw.own_form ho
    exact ⟨a5, c5, L, rfl, rfl, RdM.made ho h.held (step hb hb2), step hb hb2⟩
  clear h hu hb1
  obtain ⟨N, hN⟩ : ∃ N, L.length = N := ⟨_, rfl⟩
  have HNN := Lib.hid hN
  rw [hN] at KF HR h5 ⊢
  clear hN
  generalize al.length = AN at *
  cases n1 : mayA ⟨ac, sq, ⟨ak, an, ad, al⟩⟩ with
  | false =>
    rw [n1] at KM
    clear n1 hno KF HQ
    go_enter Try.func10, Try.ntmps10
    go_upto_region 1 with fail
    rw [← hW1]
    clear hW1
    go_wp2_with (first
      | (go_at_call 26; refine KM.out.mono ?_; rintro e w2 ⟨rfl, hb2⟩; have HB2 := Lib.hid (step HB.out hb2); have HB2N := Lib.hid (stepAlloc HB2.out (.cells #[] 35)); clear hb2)
      | (at_builtin; refine wpList_append_rdx cellsM_length (by omega) cellsM_one rfl (.tmp 21) (.tmp 22) 24 rfl w2.heap.size 35 i1 _ 64 Try.underlying24 hi hz0 hz1 hz2 rfl _ 0 [] rfl (own_new w2 _ 6 _ _ rfl (Nat.le_refl _)) _ L rfl ((HR.out _ HB2N.out).row) (by rw [HNN.out]; unfold maxLen; omega) (by rw [HNN.out]; omega) (newAlloc w2 (.cells #[] 35)).size ?_; intro v5 w5 hown5 hgrow5; have HB5 : Hid (Below w2.heap.size w2 w5) := Lib.hid ((newAlloc w2 (.cells #[] 35)).grown hgrow5 (newAlloc w2 (.cells #[] 35)).size (fun k hk => by cases hk; exact Nat.le_refl _)); have HO5 : Hid (w5.ownsRow w2.heap.size 35 6 v5 L.length (flatX cellsM L)) := Lib.hid (by simpa using hown5); clear hown5 hgrow5))
    go_ret
    exact HFIN.out _ _ _ HB2.out HO5.out HB5.out
  | true =>
    rw [n1] at KM
    have hne : freshM (valsM L) ac sq ≠ 1 := by
      rcases hno with q | q
      · rw [n1] at q; cases q
      · exact q
    have d1 : (freshM (valsM L) ac sq != 1) = true := by simpa using hne
    generalize freshM (valsM L) ac sq = fr at KF d1
    clear n1 hno hne
    go_enter Try.func10, Try.ntmps10
    go_upto_region 1 with fail
    rw [← hW1]
    clear hW1
    go_wp2_with (first
      | (go_at_call 26; refine KM.out.mono ?_; rintro e w2 ⟨rfl, hb2⟩; obtain ⟨y0, y1⟩ := HQ.out _ hb2; have HB1 := Lib.hid hb2; clear hb2)
      | (go_at_call 14; refine (KF.out _ HB1.out).mono ?_; rintro e w3 ⟨rfl, hb3⟩; have HB2 := Lib.hid (step HB.out (step HB1.out hb3)); have HB2N := Lib.hid (stepAlloc HB2.out (.cells #[] 35)); clear hb3)
      | (at_builtin; refine wpList_append_rdx cellsM_length (by omega) cellsM_one rfl (.tmp 21) (.tmp 22) 24 rfl w3.heap.size 35 i1 _ 64 Try.underlying24 hi hz0 hz1 hz2 rfl _ 0 [] rfl (own_new w3 _ 6 _ _ rfl (Nat.le_refl _)) _ L rfl ((HR.out _ HB2N.out).row) (by rw [HNN.out]; unfold maxLen; omega) (by rw [HNN.out]; omega) (newAlloc w3 (.cells #[] 35)).size ?_; intro v5 w5 hown5 hgrow5; have HB5 : Hid (Below w3.heap.size w3 w5) := Lib.hid ((newAlloc w3 (.cells #[] 35)).grown hgrow5 (newAlloc w3 (.cells #[] 35)).size (fun k hk => by cases hk; exact Nat.le_refl _)); have HO5 : Hid (w5.ownsRow w3.heap.size 35 6 v5 L.length (flatX cellsM L)) := Lib.hid (by simpa using hown5); clear hown5 hgrow5))
    go_ret
    exact HFIN.out _ _ _ HB2.out HO5.out HB5.out
end Cm
end Go.Proofs.Ytfkpgndbohoogaa
