/- Texts laid together by program: RepI, RepK, RepL, RepM, RepN, MemG, MemH, MemI. -/
import Derived.Test.YtfkpgndbohoogaaP5
/- Contracts: padlocklaw5's Reply: a reply that may be. -/
set_option linter.unusedVariables false
set_option linter.unusedSimpArgs false
namespace Go.Proofs.Ytfkpgndbohoogaa
open Go.RowKit
namespace Cm

def nameAt : Nat → List UInt8
  | 0 => [97]
  | 1 => [98]
  | 2 => [107, 101, 121, 45, 49]
  | 3 => [108, 111, 99, 107]
  | _ => [120]

theorem nameAt_name (i : Nat) (h : i < 5) : nameF (nameAt i) = true := by
  match i, h with
  | 0, _ => decide
  | 1, _ => decide
  | 2, _ => decide
  | 3, _ => decide
  | 4, _ => decide

theorem nameAt_less (i j : Nat) (h : i < j) (hj : j < 5) : Op.bytesLess (nameAt i) (nameAt j) = true := by
  have : ∀ i : Fin 5, ∀ j : Fin 5, i.1 < j.1 → Op.bytesLess (nameAt i.1) (nameAt j.1) = true := by decide
  exact this ⟨i, by omega⟩ ⟨j, hj⟩ h

def lastN : Option (List UInt8) → List GrantV → Option (List UInt8)
  | p, [] => p
  | _, g :: l => lastN (some g.name) l

theorem heldOk_snoc (l : List GrantV) (g : GrantV) : ∀ p, heldOk p (l ++ [g]) = (heldOk p l && grantOk (lastN p l) g) := by
  induction l with
  | nil => intro p; simp [heldOk, lastN]
  | cons x l ih =>
    intro p
    rw [List.cons_append, heldOk, ih, heldOk, lastN, Bool.and_assoc]

theorem lastN_mem (l : List GrantV) : ∀ p, lastN p l = p ∨ ∃ g ∈ l, lastN p l = some g.name := by
  induction l with
  | nil => intro p; exact .inl rfl
  | cons x l ih =>
    intro p
    rw [lastN]
    rcases ih (some x.name) with h | ⟨g, hg, h⟩
    · exact .inr ⟨x, List.mem_cons_self, h⟩
    · exact .inr ⟨g, List.mem_cons_of_mem _ hg, h⟩

/-- Names that rise, tokens that may be, the names among the first j. -/
structure Ris (G : List GrantV) (j : Nat) : Prop where
  ok : heldOk none G = true
  names : ∀ g ∈ G, ∃ i, i < j ∧ g.name = nameAt i

theorem Ris.more {G : List GrantV} {j : Nat} (h : Ris G j) : Ris G (j + 1) :=
  ⟨h.ok, fun g hg => by obtain ⟨i, hi, e⟩ := h.names g hg; exact ⟨i, by omega, e⟩⟩

theorem Ris.push {G : List GrantV} {j : Nat} (h : Ris G j) (hj : j < 5) (t : Nat) (ht : t < 256) : Ris (G ++ [⟨nameAt j, 1 + (t : Int)⟩]) (j + 1) := by
  refine ⟨?_, fun g hg => ?_⟩
  · rw [heldOk_snoc, h.ok, Bool.true_and]
    unfold grantOk highF
    rw [nameAt_name j hj]
    have e1 : (decide (1 ≤ 1 + (t : Int)) && decide (1 + (t : Int) ≤ 2305843009213693952)) = true := by simp; omega
    dsimp only
    rw [e1]
    rcases lastN_mem G none with q | ⟨g, hg, q⟩
    · rw [q]
      rfl
    · obtain ⟨i, hi, e⟩ := h.names g hg
      rw [q, e]
      exact nameAt_less i j hi hj
  · rcases List.mem_append.1 hg with q | q
    · obtain ⟨i, hi, e⟩ := h.names g q
      exact ⟨i, by omega, e⟩
    · rw [List.mem_singleton] at q
      subst q
      exact ⟨j, by omega, rfl⟩

def nameObj : Obj := .cells #[.string (bstr (nameAt 0)), .string (bstr (nameAt 1)), .string (bstr (nameAt 2)), .string (bstr (nameAt 3)), .string (bstr (nameAt 4))] 9

/-- While a reply is made: its place, its box, the names, the list so far. -/
structure GW (w : World) (k s d : Int) (v : Value) (G : List GrantV) (wr : World) : Prop where
  below : Below w.heap.size w wr
  zero : wr.heap[w.heap.size]? = some repZero
  box : wr.heap[w.heap.size + 1]? = some (repBox k s d v)
  names : wr.heap[w.heap.size + 1 + 1]? = some nameObj
  own : wr.ownsRow (w.heap.size + 1 + 1 + 1) 61 2 v G.length (gCells G)

theorem GW.later {w : World} {k s d : Int} {v : Value} {G : List GrantV} {wr wr' : World} (h : GW w k s d v G wr) (hb : Below wr.heap.size wr wr') : GW w k s d v G wr' :=
  ⟨h.below.trans (hb.mono h.below.size), (hb.block _ (get_lt h.zero)).trans h.zero, (hb.block _ (get_lt h.box)).trans h.box, (hb.block _ (get_lt h.names)).trans h.names, Rw.own_below h.own hb⟩

theorem GW.grown {w : World} {k s d : Int} {v v' : Value} {G : List GrantV} {xs : List Value} {n : Nat} {w1 w2 : World} (h : GW w k s d v G w1) (hg : w1.grownBy w2 v.ownBlock) :
    Below w.heap.size w w2 ∧ w2.heap[w.heap.size]? = some repZero ∧ w2.heap[w.heap.size + 1]? = some (repBox k s d v) ∧ w2.heap[w.heap.size + 1 + 1]? = some nameObj := by
  have hne : ∀ x, x < w.heap.size + 1 + 1 + 1 → some x ≠ v.ownBlock := fun x hx q => by
    have := (Rw.own_lt h.own x q.symm).1
    omega
  exact ⟨h.below.grown hg h.below.size (fun x hx => by have := (Rw.own_lt h.own x hx).1; omega), (hg.block _ (get_lt h.zero) (hne _ (by omega))).trans h.zero, (hg.block _ (get_lt h.box) (hne _ (by omega))).trans h.box, (hg.block _ (get_lt h.names) (hne _ (by omega))).trans h.names⟩

theorem GW.push {w : World} {k s d : Int} {v v' : Value} {G : List GrantV} {g : GrantV} {w1 w2 : World} (h : GW w k s d v G w1)
    (ho : w2.ownsRow (w.heap.size + 1 + 1 + 1) 61 2 v' (G.length + 1) (gCells G ++ [.string (bstr g.name), .int .i64 g.token])) (hg : w1.grownBy w2 v.ownBlock) : GW w k s d v' (G ++ [g]) (w2.setCell ⟨w.heap.size + 1, 3, none⟩ v') := by
  obtain ⟨h1, h2, h3, h4⟩ := h.grown (v' := v) (xs := []) (n := 0) hg
  refine ⟨h1.setCell (by show w.heap.size ≤ w.heap.size + 1; omega) _, ?_, set_box h3 v', ?_, ?_⟩
  · rw [Below.heap_setCell _ _ _ _ (by show w.heap.size ≠ w.heap.size + 1; omega)]
    exact h2
  · rw [Below.heap_setCell _ _ _ _ (by show w.heap.size + 1 + 1 ≠ w.heap.size + 1; omega)]
    exact h4
  · rw [List.length_append, gCells_snoc]
    refine Rw.own_keep ho fun x hx => ?_
    have := (Rw.own_lt ho x hx).1
    exact Below.heap_setCell _ _ _ _ (by show x ≠ w.heap.size + 1; omega)

theorem GW.name {w : World} {k s d : Int} {v : Value} {G : List GrantV} {wr : World} (h : GW w k s d v G wr) (i : Nat) (hi : i < 5) : wr.cell? ⟨w.heap.size + 1 + 1, i, none⟩ = some (.string (bstr (nameAt i))) := by
  have hz := h.names
  unfold nameObj at hz
  match i, hi with
  | 0, _ => simp [World.cell?, hz]
  | 1, _ => simp [World.cell?, hz]
  | 2, _ => simp [World.cell?, hz]
  | 3, _ => simp [World.cell?, hz]
  | 4, _ => simp [World.cell?, hz]

theorem alloc_at (w : World) (o : Obj) : (w.alloc o).heap[w.heap.size]? = some o := by
  show (w.heap.push o)[w.heap.size]? = _
  simp

theorem GW.start (w : World) (k s d : Int) : GW w k s d (.slice none 0 0) [] (((w.alloc repZero).alloc (repBox k s d (.slice none 0 0))).alloc nameObj) := by
  have e1 : (w.alloc repZero).heap.size = w.heap.size + 1 := by simp
  have e2 : ((w.alloc repZero).alloc (repBox k s d (.slice none 0 0))).heap.size = w.heap.size + 1 + 1 := by simp
  refine ⟨stepAlloc (stepAlloc (newAlloc _ _) _) _, ?_, ?_, ?_, World.ownsRow_nil _ _ _ _⟩
  · exact ((stepAlloc (newAlloc (w.alloc repZero) (repBox k s d (.slice none 0 0))) nameObj).block _ (by rw [e1]; omega)).trans (alloc_at w _)
  · rw [← e1]
    exact ((newAlloc ((w.alloc repZero).alloc (repBox k s d (.slice none 0 0))) nameObj).block _ (by rw [e1, e2]; omega)).trans (alloc_at _ _)
  · rw [← e2]
    exact alloc_at _ _

theorem GW.zc {w : World} {k s d : Int} {v : Value} {G : List GrantV} {wr : World} (h : GW w k s d v G wr) :
    wr.cell? ⟨w.heap.size, 0, none⟩ = some (.int .i64 0) ∧ wr.cell? ⟨w.heap.size, 1, none⟩ = some (.int .i64 0) ∧ wr.cell? ⟨w.heap.size, 2, none⟩ = some (.int .i64 0) ∧ wr.cell? ⟨w.heap.size, 3, none⟩ = some (.slice none 0 0) ∧ ∀ k, wr.frozen? ⟨w.heap.size, k, none⟩ = false := by
  have hz := h.zero
  unfold repZero at hz
  refine ⟨?_, ?_, ?_, ?_, ?_⟩ <;> simp [World.cell?, World.frozen?, hz]

theorem GW.fin {w : World} {k s d : Int} {v : Value} {G : List GrantV} {wr : World} (h : GW w k s d v G wr) (x y z u : Value) :
    ((((wr.setCell ⟨w.heap.size, 0, none⟩ x).setCell ⟨w.heap.size, 1, none⟩ y).setCell ⟨w.heap.size, 2, none⟩ z).setCell ⟨w.heap.size, 3, none⟩ u).ownsRow (w.heap.size + 1) 61 2 v G.length (gCells G) := by
  refine own_lower (base := w.heap.size + 1 + 1 + 1) (Rw.own_keep h.own fun g hg => ?_) (by omega)
  have h1 := (Rw.own_lt h.own g hg).1
  rw [Below.heap_setCell _ _ _ _ (by show g ≠ w.heap.size; omega), Below.heap_setCell _ _ _ _ (by show g ≠ w.heap.size; omega), Below.heap_setCell _ _ _ _ (by show g ≠ w.heap.size; omega), Below.heap_setCell _ _ _ _ (by show g ≠ w.heap.size; omega)]

theorem step_append_own {P : Program} {w : World} {ops : Array Oper} {o : Oper} {a : Act} {K : Act → World → Prop} {Q : Exit → Act → World → Prop} {E : Prop} (hgd : o.guard = none) (s x : Operand) (t : TypeId)
    (ho : o.op = .call { callee := .builtin .append, args := #[s, x], argTypes := #[t, t] })
    (base : Nat) (e : TypeId) (i : TypeInfo) (z : Value) (size bytes : Nat) (ht : P.underlying t = some (.slice e)) (hi : P.info? e = some i) (hz : i.zero = some z)
    (hsize : i.size = size) (hby : i.bytes = bytes) (hzs : z.cells.size = size) (hsz : 0 < size)
    (v : Value) (n : Nat) (xs : List Value) (hs : a.eval s = v) (hown : w.ownsRow base e size v n xs)
    (ad : Addr) (m c : Nat) (news : List Value) (hx : a.eval x = .slice (some ad) m c) (hl : news.length = m * size) (hnews : ∀ j u, news[j]? = some u → w.cell? (ad.add j) = some u) (h1 : ∀ u ∈ news, u.oneCell' = true)
    (h63 : n + m ≤ maxLen) (hbytes : (n + m) * bytes ≤ 140737488355328) (hbase : base ≤ w.heap.size)
    (h : ∀ v' w', w'.ownsRow base e size v' (n + m) (xs ++ news) → w.grownBy w' v.ownBlock → (v' = .slice none 0 0 ↔ v = .slice none 0 0 ∧ m = 0) → K (a.put o.dst v') w') :
    if Region.wanted o (yielded ops a.tmps) = true then Oper.wp P o a w K Q else E := by
  have hw : Region.wanted o (yielded ops a.tmps) = true := by simp [Region.wanted, hgd]
  rw [if_pos hw]
  exact wp_append_own w s x t ho base e i z size bytes ht hi hz hsize hby hzs hsz v n xs hs hown ad m c news hx hl hnews h1 h63 hbytes hbase h

/-- Some reply that may be; what it holds is new. -/
def MadeP (w : World) (e : Ending) (w' : World) : Prop :=
  ∃ r v, e = .returned (repVal r v) ∧ mayP r = true ∧ w'.ownsRow (w.heap.size + 1) 61 2 v r.held.length (gCells r.held) ∧ Below w.heap.size w w'

end Cm
end Go.Proofs.Ytfkpgndbohoogaa

/- Contracts: package reply's isNumber, mayHold, May, Token. -/
set_option linter.unusedVariables false
set_option linter.unusedSimpArgs false
namespace Go.Proofs.Ytfkpgndbohoogaa
open Go.RowKit
namespace Cm

theorem repNum_any (v : Int) (w : World) : Calls Try.prog 29 #[.int .i64 v] w (Says (highF v 1) w) := by
  unfold highF
  by_cases h1 : 1 ≤ v <;> by_cases h2 : v ≤ 2305843009213693952 <;>
    (go_enter Try.func29, Try.ntmps29
     go_wp2
     go_ret
     exact ⟨by simp [h1, h2] <;> omega, rfl⟩)

set_option maxHeartbeats 4000000 in
theorem mayHold_any (v : Value) (l : List GrantV) (w : World) (h : RdH w v l) :
    Calls Try.prog 39 #[v] w (SaysB (decide (l.length ≤ 4) && heldOk none l) w) := by
  have hm := h.len
  obtain ⟨a, cap, rfl, -⟩ := h.ex
  by_cases c6 : l.length ≤ 4
  case neg =>
    rw [decide_eq_false c6]
    clear h
    have d5 : decide (4 < (l.length : Int)) = true := by simp; omega
    go_enter Try.func39, Try.ntmps39
    go_wp2
    go_ret
    exact ⟨by simp, Below.refl _ _⟩
  have d5 : decide (4 < (l.length : Int)) = false := by simp; omega
  rw [decide_eq_true c6]
  have HA := Lib.hid (fun i hi => h.at i hi)
  have HD := Lib.hid (heldOk_drop l)
  have HP := Lib.hid (prevN_succ l)
  clear h
  obtain ⟨L, hL⟩ : ∃ L, l.length = L := ⟨_, rfl⟩
  rw [hL] at hm c6 d5 ⊢
  go_enter Try.func39, Try.ntmps39
  go_wp2
  go_loopw [10] (fun i wr => ∃ j : Nat, j ≤ L ∧ i = .int .i64 j ∧ Below w.heap.size w wr ∧ Hid (heldOk none l = heldOk (prevN l j) (l.drop j))) (fun i _ => L - (intOf i).toNat)
  case atStart => exact ⟨0, by omega, rfl, Below.refl _ _, Lib.hid rfl⟩
  case round =>
    obtain ⟨j, hj, rfl, hb, ha⟩ := hrel
    have HB := Lib.hid hb
    clear hb
    by_cases hlt : j < L
    · have hd := HD.out j (by omega)
      have hp := HP.out j (by omega)
      obtain ⟨b, o, rfl, q1, q2⟩ := HA.out j (by omega) _ HB.out
      generalize hg : l[j] = g at q1 q2 hd
      have HG := Lib.hid hg
      clear hg
      have CN := Lib.hid (fun w => Name_any g.name w)
      have CT := Lib.hid (fun w => repNum_any g.token w)
      have HB1 := Lib.hid (stepAlloc HB.out (.cells #[.string (bstr g.name), .int .i64 g.token] 61))
      unfold grantOk at hd
      by_cases n1 : nameF g.name = true
      case neg =>
        have n1 : nameF g.name = false := by simpa using n1
        rw [n1, Bool.false_and, Bool.false_and, Bool.false_and] at hd
        have H := Lib.hid hd
        have H1 := Lib.hid n1
        clear hd n1
        go_wp2_with (go_at_call 42; refine (CN.out _).mono ?_; rw [H1.out]; rintro e w1 ⟨rfl, rfl⟩)
        go_ret
        exact ⟨by rw [ha.out, H.out]; rfl, HB1.out⟩
      by_cases n2 : highF g.token 1 = true
      case neg =>
        have n2 : highF g.token 1 = false := by simpa using n2
        rw [n2, Bool.and_false, Bool.false_and, Bool.false_and] at hd
        have H := Lib.hid hd
        have H1 := Lib.hid n1
        have H2 := Lib.hid n2
        clear hd n1 n2
        go_wp2_with (first
          | (go_at_call 42; refine (CN.out _).mono ?_; rw [H1.out]; rintro e w1 ⟨rfl, rfl⟩)
          | (go_at_call 29; refine (CT.out _).mono ?_; rw [H2.out]; rintro e w1 ⟨rfl, rfl⟩))
        go_ret
        exact ⟨by rw [ha.out, H.out]; rfl, HB1.out⟩
      rw [n1, n2, Bool.true_and, Bool.true_and] at hd
      have H1 := Lib.hid n1
      have H2 := Lib.hid n2
      clear n1 n2
      rcases Nat.eq_zero_or_pos j with hj0 | hj0
      · have HJ := Lib.hid hj0
        have d0 : decide (0 < j) = false := by simp; omega
        rw [hj0, prevN_zero, ← hj0] at hd
        dsimp only at hd
        rw [Bool.true_and] at hd
        have H := Lib.hid hd
        clear hd hp hj0
        go_upto_region 8 with (first
          | (go_at_call 42; refine (CN.out _).mono ?_; rw [H1.out]; rintro e w1 ⟨rfl, rfl⟩)
          | (go_at_call 29; refine (CT.out _).mono ?_; rw [H2.out]; rintro e w1 ⟨rfl, rfl⟩))
        go_quiet (fail)
        go_wp2
        go_roundw
        case rel => exact ⟨j + 1, by omega, by go_num, below_drewN HB1.out nq, Lib.hid (by rw [ha.out]; have e := H.out; rw [← prevN_zero l, ← HJ.out] at e; exact e)⟩
        case measure => simp [intOf]; omega
      · obtain ⟨q, hq⟩ : ∃ q, j = q + 1 := ⟨j - 1, by omega⟩
        have d0 : decide (0 < j) = true := by simp; omega
        have hpn := HP.out q (by omega)
        obtain ⟨b', o', hbo, p1, -⟩ := HA.out q (by omega) _ HB1.out
        cases hbo
        rw [← hq] at hpn
        rw [hpn] at hd
        dsimp only at hd
        generalize l[q] = pv at p1 hd hpn
        have e1 : IntKind.i64.wrap ((j : Int) - 1) = (q : Int) := by rw [IntKind.wrap_i64]; omega
        have e2 : (0 : Int) ≤ (q : Int) := by omega
        have e3 : (q : Int) < (L : Int) := by omega
        have hl1 := str_less g.name pv.name
        have hl2 := str_eq g.name pv.name
        rcases less_tri pv.name g.name with ⟨t1, t2, t3⟩ | ⟨t1, t2, t3⟩ | ⟨t3, t1⟩
        · rw [t2] at hl1
          rw [decide_eq_false (fun h => t3 h.symm)] at hl2
          rw [t1, Bool.true_and] at hd
          have H := Lib.hid hd
          have HPN := Lib.hid hpn
          clear hd hp t1 t2 t3 hq hpn
          go_upto_region 8 with (first
            | (go_at_call 42; refine (CN.out _).mono ?_; rw [H1.out]; rintro e w1 ⟨rfl, rfl⟩)
            | (go_at_call 29; refine (CT.out _).mono ?_; rw [H2.out]; rintro e w1 ⟨rfl, rfl⟩))
          go_quiet (fail)
          go_wp2
          go_roundw
          case rel => exact ⟨j + 1, by omega, by go_num, below_drewN HB1.out nq, Lib.hid (by rw [ha.out, HPN.out, H.out])⟩
          case measure => simp [intOf]; omega
        · rw [t2] at hl1
          rw [t1, Bool.false_and] at hd
          have H := Lib.hid hd
          have HPN := Lib.hid hpn
          clear hd hp t1 t2 t3 hq hpn hl2
          go_upto_region 8 with (first
            | (go_at_call 42; refine (CN.out _).mono ?_; rw [H1.out]; rintro e w1 ⟨rfl, rfl⟩)
            | (go_at_call 29; refine (CT.out _).mono ?_; rw [H2.out]; rintro e w1 ⟨rfl, rfl⟩))
          go_quiet (fail)
          go_wp2
          go_ret
          exact ⟨by rw [ha.out, HPN.out, H.out]; rfl, below_drewN HB1.out nq⟩
        · have t2 : Op.bytesLess g.name pv.name = false := by rw [← t3] at t1 ⊢; exact t1
          rw [t2] at hl1
          rw [decide_eq_true t3.symm] at hl2
          rw [t1, Bool.false_and] at hd
          have H := Lib.hid hd
          have HPN := Lib.hid hpn
          clear hd hp t1 t2 t3 hq hpn
          go_upto_region 8 with (first
            | (go_at_call 42; refine (CN.out _).mono ?_; rw [H1.out]; rintro e w1 ⟨rfl, rfl⟩)
            | (go_at_call 29; refine (CT.out _).mono ?_; rw [H2.out]; rintro e w1 ⟨rfl, rfl⟩))
          go_quiet (fail)
          go_wp2
          go_ret
          exact ⟨by rw [ha.out, HPN.out, H.out]; rfl, below_drewN HB1.out nq⟩
    · obtain rfl : j = L := by omega
      go_wp2
      go_ret
      have ha := ha.out
      rw [← hL, List.drop_length] at ha
      exact ⟨by rw [ha]; rfl, HB.out⟩

theorem mayP_told (k s d : Int) (l : List GrantV) : mayP ⟨k, s, d, l⟩ = (decide (0 ≤ k) && (decide (k ≤ 12) && (decide (0 ≤ s) && (decide (s ≤ 2305843009213693952) && (decide (0 ≤ d) && (decide (d ≤ 3) && ((decide (l.length ≤ 4) && heldOk none l) && (!decide (s = 0) || decide (l.length = 0))))))))) := by
  unfold mayP highF
  dsimp only
  have e : decide (0 < l.length) = !decide (l.length = 0) := by cases l <;> simp
  rw [e]
  generalize decide (0 ≤ k) = b1
  generalize decide (k ≤ 12) = b2
  generalize decide (0 ≤ s) = b3
  generalize decide (s ≤ 2305843009213693952) = b4
  generalize decide (0 ≤ d) = b5
  generalize decide (d ≤ 3) = b6
  generalize decide (l.length ≤ 4) = b7
  generalize heldOk none l = b8
  generalize decide (s = 0) = b9
  generalize decide (l.length = 0) = b10
  revert b1 b2 b3 b4 b5 b6 b7 b8 b9 b10
  decide

set_option maxHeartbeats 4000000 in
theorem RepMay_any (r : ReplyV) (v : Value) (w : World) (h : RdH w v r.held) :
    Calls Try.prog 30 #[repVal r v] w (SaysB (mayP r) w) := by
  obtain ⟨k, s, d, l⟩ := r
  unfold repVal
  dsimp only at h ⊢
  rw [mayP_told]
  have hm := h.len
  have C : Hid (∀ w', Below w.heap.size w w' → Calls Try.prog 39 #[v] w' (SaysB (decide (l.length ≤ 4) && heldOk none l) w')) := fun w' hb => mayHold_any v l w' (h.later hb)
  obtain ⟨a, cap, rfl, -⟩ := h.ex
  clear h
  generalize (decide (l.length ≤ 4) && heldOk none l) = M at *
  generalize l.length = L at *
  by_cases c1 : 0 ≤ k
  case neg =>
    have d1 : decide (0 ≤ k) = false := decide_eq_false c1
    rw [d1]
    go_enter Try.func30, Try.ntmps30
    go_wp2
    go_ret
    exact ⟨by simp, newAlloc _ _⟩
  have d1 : decide (0 ≤ k) = true := decide_eq_true c1
  rw [d1, Bool.true_and]
  by_cases c2 : k ≤ 12
  case neg =>
    have d2 : decide (k ≤ 12) = false := decide_eq_false c2
    rw [d2]
    go_enter Try.func30, Try.ntmps30
    go_wp2
    go_ret
    exact ⟨by simp, newAlloc _ _⟩
  have d2 : decide (k ≤ 12) = true := decide_eq_true c2
  rw [d2, Bool.true_and]
  by_cases c3 : 0 ≤ s
  case neg =>
    have d3 : decide (0 ≤ s) = false := decide_eq_false c3
    rw [d3]
    go_enter Try.func30, Try.ntmps30
    go_wp2
    go_ret
    exact ⟨by simp, newAlloc _ _⟩
  have d3 : decide (0 ≤ s) = true := decide_eq_true c3
  rw [d3, Bool.true_and]
  by_cases c4 : s ≤ 2305843009213693952
  case neg =>
    have d4 : decide (s ≤ 2305843009213693952) = false := decide_eq_false c4
    rw [d4]
    go_enter Try.func30, Try.ntmps30
    go_wp2
    go_ret
    exact ⟨by simp, newAlloc _ _⟩
  have d4 : decide (s ≤ 2305843009213693952) = true := decide_eq_true c4
  rw [d4, Bool.true_and]
  by_cases c5 : 0 ≤ d
  case neg =>
    have d5 : decide (0 ≤ d) = false := decide_eq_false c5
    rw [d5]
    go_enter Try.func30, Try.ntmps30
    go_wp2
    go_ret
    exact ⟨by simp, newAlloc _ _⟩
  have d5 : decide (0 ≤ d) = true := decide_eq_true c5
  rw [d5, Bool.true_and]
  by_cases c6 : d ≤ 3
  case neg =>
    have d6 : decide (d ≤ 3) = false := decide_eq_false c6
    rw [d6]
    go_enter Try.func30, Try.ntmps30
    go_wp2
    go_ret
    exact ⟨by simp, newAlloc _ _⟩
  have d6 : decide (d ≤ 3) = true := decide_eq_true c6
  rw [d6, Bool.true_and]
  cases M
  case false =>
    go_enter Try.func30, Try.ntmps30
    go_wp2_with (go_at_call 39; refine (C.out _ (newAlloc _ _)).mono ?_; rintro e w1 ⟨rfl, hb1⟩; obtain ⟨x0, x1, x2, x3⟩ := box4 hb1)
    go_ret
    exact ⟨by simp, step (newAlloc _ _) hb1⟩
  rw [Bool.true_and]
  by_cases c7 : s = 0
  · subst c7
    by_cases c8 : L = 0
    · subst c8
      go_enter Try.func30, Try.ntmps30
      go_wp2_with (go_at_call 39; refine (C.out _ (newAlloc _ _)).mono ?_; rintro e w1 ⟨rfl, hb1⟩; obtain ⟨x0, x1, x2, x3⟩ := box4 hb1)
      go_ret
      exact ⟨by simp, step (newAlloc _ _) hb1⟩
    · have d8 : ((L : Int) == 0) = false := by simp; omega
      have d8' : decide (L = 0) = false := decide_eq_false c8
      rw [d8']
      go_enter Try.func30, Try.ntmps30
      go_wp2_with (go_at_call 39; refine (C.out _ (newAlloc _ _)).mono ?_; rintro e w1 ⟨rfl, hb1⟩; obtain ⟨x0, x1, x2, x3⟩ := box4 hb1)
      go_ret
      exact ⟨by simp, step (newAlloc _ _) hb1⟩
  · have d7 : (s != 0) = true := by simpa using c7
    have d7' : decide (s = 0) = false := decide_eq_false c7
    rw [d7']
    go_enter Try.func30, Try.ntmps30
    go_wp2_with (go_at_call 39; refine (C.out _ (newAlloc _ _)).mono ?_; rintro e w1 ⟨rfl, hb1⟩; obtain ⟨x0, x1, x2, x3⟩ := box4 hb1)
    go_ret
    exact ⟨by simp, step (newAlloc _ _) hb1⟩


end Cm
end Go.Proofs.Ytfkpgndbohoogaa

/- Contracts: package reply's putHeld, Put, PutAnswer, MayAnswer. -/
set_option linter.unusedVariables false
set_option linter.unusedSimpArgs false
namespace Go.Proofs.Ytfkpgndbohoogaa
open Go.RowKit
namespace Cm


/-- Bytes told; the slice written out. -/
def OneS (bs : List UInt8) (w : World) (e : Ending) (w' : World) : Prop :=
  ∃ a l c, e = .returned (.slice a l c) ∧ Rd w' (.slice a l c) bs ∧ Below w.heap.size w w'

theorem MadeOne.s {bs : List UInt8} {w : World} {e : Ending} {w' : World} (h : MadeOne bs w e w') : OneS bs w e w' := by
  obtain ⟨v, he, ho, hb⟩ := h
  have hr := Rd.own ho
  obtain ⟨a, l, c, rfl, _⟩ := hr.ex
  exact ⟨a, l, c, he, hr, hb⟩


theorem box2 {w w' : World} {x y : Value} {t : TypeId} (h : Below (w.alloc (.cells #[x, y] t)).heap.size (w.alloc (.cells #[x, y] t)) w') :
    w'.cell? ⟨w.heap.size, 0, none⟩ = some x ∧ w'.cell? ⟨w.heap.size, 1, none⟩ = some y := by
  have hl : w.heap.size < (w.alloc (.cells #[x, y] t)).heap.size := by simp
  refine ⟨?_, ?_⟩
  · rw [h.cell (p := ⟨w.heap.size, 0, none⟩) hl]; simp [go_sem]
  · rw [h.cell (p := ⟨w.heap.size, 1, none⟩) hl]; simp [go_sem]

/-- Bytes and a code told; the bytes in a new block. -/
def MadeG (r : List UInt8 × Int) (w : World) (e : Ending) (w' : World) : Prop :=
  ∃ g l c, e = .returned (.tuple #[.slice (some ⟨g, 0, none⟩) l c, .int .i64 r.2]) ∧ w.heap.size ≤ g ∧ g < w'.heap.size ∧ Rd w' (.slice (some ⟨g, 0, none⟩) l c) r.1 ∧ Below w.heap.size w w'

theorem Made.g {r : List UInt8 × Int} {w : World} {e : Ending} {w' : World} (h : Made r w e w') (hp : 0 < r.1.length) : MadeG r w e w' := by
  obtain ⟨v, he, ho, hb⟩ := h
  have hr := Rd.own ho
  rcases ho.2 with ⟨rfl, hn⟩ | ⟨g, cap, cur, rfl, h1, h2, -⟩
  · omega
  · exact ⟨g, _, cap, he, h1, get_lt h2, hr, hb⟩





theorem RepMayAnswer_any (r : AnsV) (v : Value) (w : World) (h : RdH w v r.rep.held) : Calls Try.prog 21 #[ansVal r v] w (SaysB (mayA r) w) := by
  obtain ⟨c, q, m⟩ := r
  have C1 := Lib.hid (fun w => repNum_any q w)
  have C2 : Hid (∀ w', Below w.heap.size w w' → Calls Try.prog 30 #[repVal m v] w' (SaysB (mayP m) w')) := fun w' hb => RepMay_any m v w' (h.later hb)
  clear h
  unfold ansVal mayA
  unfold repVal at C2
  obtain ⟨k, s, d, l⟩ := m
  dsimp only at C2 ⊢
  by_cases h0 : 0 ≤ c
  · have d0 : decide (0 ≤ c) = true := decide_eq_true h0
    by_cases h1 : c < 8
    · have d1 : decide (c < 8) = true := decide_eq_true h1
      cases hh : highF q 1
      all_goals
        have H := Lib.hid hh
        clear hh
        go_enter Try.func21, Try.ntmps21
        go_wp2_with (first
          | (go_at_call 29; refine (C1.out _).mono ?_; rw [H.out]; rintro e w' ⟨rfl, rfl⟩)
          | (go_at_call 30; refine (C2.out _ (newAlloc _ _)).mono ?_; rintro e w' ⟨rfl, hb⟩))
        go_ret
        first
          | exact ⟨by simp [h0, h1], newAlloc _ _⟩
          | exact ⟨by simp [h0, h1], step (newAlloc _ _) hb⟩
    · have d1 : decide (c < 8) = false := decide_eq_false h1
      go_enter Try.func21, Try.ntmps21
      go_wp2
      go_ret
      exact ⟨by simp [h0, h1], newAlloc _ _⟩
  · have d0 : decide (0 ≤ c) = false := decide_eq_false h0
    go_enter Try.func21, Try.ntmps21
    go_wp2
    go_ret
    exact ⟨by simp [h0], newAlloc _ _⟩


end Cm
end Go.Proofs.Ytfkpgndbohoogaa

/- Contracts: package reply's getGrant, getHeld, Get. -/
set_option linter.unusedVariables false
set_option linter.unusedSimpArgs false
namespace Go.Proofs.Ytfkpgndbohoogaa
open Go.RowKit
namespace Cm

def grantF (n : List UInt8) (e5 x t6 e6 : Int) : GrantV × Int × Int := if e5 ≠ 0 then (⟨[], 0⟩, 0, e5) else if e6 ≠ 0 then (⟨[], 0⟩, 0, e6) else (⟨n, x⟩, t6, 0)

def GetsG (r : GrantV × Int × Int) (w : World) (e : Ending) (w' : World) : Prop :=
  e = .returned (.tuple #[.agg #[.string (bstr r.1.name), .int .i64 r.1.token], .int .i64 r.2.1, .int .i64 r.2.2]) ∧ Below w.heap.size w w'

theorem free2 {w w' : World} {x y : Value} {t : TypeId} (h : Below (w.alloc (.cells #[x, y] t)).heap.size (w.alloc (.cells #[x, y] t)) w') :
    ∀ k, w'.frozen? ⟨w.heap.size, k, none⟩ = false := by
  intro k
  have hl : w.heap.size < (w.alloc (.cells #[x, y] t)).heap.size := by simp
  rw [h.frozen (p := ⟨w.heap.size, k, none⟩) hl]
  simp [go_sem]

theorem set2 {w w1 : World} (h : Below w.heap.size w w1) (x y : Value) : Below w.heap.size w ((w1.setCell ⟨w.heap.size, 0, none⟩ x).setCell ⟨w.heap.size, 1, none⟩ y) :=
  (h.setCell (Nat.le_refl _) _).setCell (Nat.le_refl _) _


/-- What is held, read from its count on. -/
def heldF (bs : List UInt8) (t : Int) : List GrantV × Int × Int :=
  if (byteOf bs t).2.2 ≠ 0 then ([], 0, (byteOf bs t).2.2) else if 4 < (byteOf bs t).1 then ([], 0, 4) else getHeld bs (byteOf bs t).1.toNat (byteOf bs t).2.1

theorem getHeld_err (bs : List UInt8) : ∀ (m : Nat) (T : Int), (getHeld bs m T).2.2 ≠ 0 → getHeld bs m T = ([], 0, (getHeld bs m T).2.2) := by
  intro m
  cases m with
  | zero => intro T h; exact absurd rfl h
  | succ m =>
    intro T h
    rw [getHeld_succ] at h ⊢
    split
    · rfl
    · split
      · rfl
      · split
        · rfl
        · rename_i q1 q2 q3
          rw [if_neg q1, if_neg q2, if_neg q3] at h
          exact absurd rfl h

/-- What is told when some are read, and so many are to come. -/
def finH (bs : List UInt8) (G : List GrantV) (T : Int) (m : Nat) : List GrantV × Int × Int :=
  if (getHeld bs m T).2.2 ≠ 0 then ([], 0, (getHeld bs m T).2.2) else (G ++ (getHeld bs m T).1, (getHeld bs m T).2.1, 0)

theorem finH_nil (bs : List UInt8) (T : Int) (m : Nat) : getHeld bs m T = finH bs [] T m := by
  unfold finH
  by_cases h : (getHeld bs m T).2.2 ≠ 0
  · rw [if_pos h]
    exact getHeld_err bs m T h
  · rw [if_neg h, List.nil_append]
    have : (getHeld bs m T).2.2 = 0 := by omega
    rw [← this]

theorem finH_zero (bs : List UInt8) (G : List GrantV) (T : Int) : finH bs G T 0 = (G, T, 0) := by
  unfold finH
  rw [show getHeld bs 0 T = ([], T, 0) from rfl]
  simp

theorem finH_bad (bs : List UInt8) (G : List GrantV) (T : Int) (m : Nat) {n : List UInt8} {t x u e f : Int} {g : GrantV} {p c : Int} (h : textOf bs T 12 = (n, t, e)) (h2 : numOf bs t = (x, u, f)) (hg : grantF n e x u f = (g, p, c)) (hc : c ≠ 0) : finH bs G T (m + 1) = ([], 0, c) := by
  unfold finH
  rw [getHeld_succ, h]
  dsimp only
  rw [h2]
  unfold grantF at hg
  by_cases z1 : e ≠ 0
  · rw [if_pos z1] at hg
    cases hg
    simp [z1]
  · rw [if_neg z1] at hg
    by_cases z2 : f ≠ 0
    · rw [if_pos z2] at hg
      cases hg
      simp [z1, z2]
    · rw [if_neg z2] at hg
      cases hg
      exact absurd rfl hc

theorem finH_good (bs : List UInt8) (G : List GrantV) (T : Int) (m : Nat) {n : List UInt8} {t x u e f : Int} {g : GrantV} {p : Int} (h : textOf bs T 12 = (n, t, e)) (h2 : numOf bs t = (x, u, f)) (hg : grantF n e x u f = (g, p, 0)) : finH bs G T (m + 1) = finH bs (G ++ [g]) p m := by
  unfold grantF at hg
  by_cases z1 : e ≠ 0
  · rw [if_pos z1] at hg
    cases hg
    exact absurd rfl z1
  · rw [if_neg z1] at hg
    by_cases z2 : f ≠ 0
    · rw [if_pos z2] at hg
      cases hg
      exact absurd rfl z2
    · rw [if_neg z2] at hg
      cases hg
      obtain rfl : e = 0 := by omega
      obtain rfl : f = 0 := by omega
      unfold finH
      rw [getHeld_step _ _ _ _ _ _ _ h h2]
      by_cases q : (getHeld bs m u).2.2 ≠ 0
      · rw [if_pos q, if_pos q]
        simp [q]
      · rw [if_neg q, if_neg q]
        simp

/-- What is held, a place and a code told; what is held is new. -/
def GetsH (r : List GrantV × Int × Int) (w : World) (e : Ending) (w' : World) : Prop :=
  ∃ v, e = .returned (.tuple #[v, .int .i64 r.2.1, .int .i64 r.2.2]) ∧ w'.ownsRow w.heap.size 61 2 v r.1.length (gCells r.1) ∧ Below w.heap.size w w'

theorem GetsH.empty {w w' : World} {e : Ending} {c : Int} (he : e = .returned (.tuple #[.slice none 0 0, .int .i64 0, .int .i64 c])) (hb : Below w.heap.size w w') : GetsH ([], 0, c) w e w' :=
  ⟨.slice none 0 0, he, World.ownsRow_nil _ _ _ _, hb⟩

theorem cells_set2 {w0 w1 : World} {b : Nat} {x y x' y' : Value} {t : TypeId} (h : w1.heap[b]? = some (.cells #[x, y] t)) : ((w1.setCell ⟨b, 0, none⟩ x').setCell ⟨b, 1, none⟩ y').heap[b]? = some (.cells #[x', y'] t) := by
  have hl := get_lt h
  have h' : w1.heap[b] = .cells #[x, y] t := by simpa [hl] using h
  simp [World.setCell, h', hl, Array.getElem_modify]

theorem own_set2 {w1 : World} {b base n : Nat} {e : TypeId} {v : Value} {xs : List Value} (h : w1.ownsRow base e 2 v n xs) (hb : ∀ g, v.ownBlock = some g → g ≠ b) (x y : Value) : ((w1.setCell ⟨b, 0, none⟩ x).setCell ⟨b, 1, none⟩ y).ownsRow base e 2 v n xs := by
  refine Rw.own_keep h fun g hg => ?_
  have h1 := hb g hg
  rw [Below.heap_setCell _ _ _ _ (by show g ≠ b; exact h1), Below.heap_setCell _ _ _ _ (by show g ≠ b; exact h1)]

theorem own_apart {w1 : World} {base n : Nat} {e : TypeId} {v : Value} {xs : List Value} (h : w1.ownsRow base e 2 v n xs) : ∀ g, v.ownBlock = some g → g ≠ w1.heap.size := fun g hg => by
  have := (Rw.own_lt h g hg).2
  omega


theorem getP_held (bs : List UInt8) (t : Int) {k t1 e1 s t2 e2 a t3 e3 u c : Int} {H : List GrantV} (h1 : byteOf bs t = (k, t1, e1)) (h2 : numOf bs t1 = (s, t2, e2)) (h3 : byteOf bs t2 = (a, t3, e3)) (h4 : heldF bs t3 = (H, u, c)) :
    getP bs t = if e1 ≠ 0 then (zeroP, 0, e1) else if e2 ≠ 0 then (zeroP, 0, e2) else if e3 ≠ 0 then (zeroP, 0, e3) else if c ≠ 0 then (zeroP, 0, c) else if mayP ⟨k, s, a, H⟩ then (⟨k, s, a, H⟩, u, 0) else (zeroP, 0, 4) := by
  rcases hC : byteOf bs t3 with ⟨n, t4, e4⟩
  rw [getP_told bs t h1 h2 h3 hC]
  unfold heldF at h4
  rw [hC] at h4
  dsimp only at h4
  by_cases z1 : e1 ≠ 0
  · rw [if_pos z1, if_pos z1]
  rw [if_neg z1, if_neg z1]
  by_cases z2 : e2 ≠ 0
  · rw [if_pos z2, if_pos z2]
  rw [if_neg z2, if_neg z2]
  by_cases z3 : e3 ≠ 0
  · rw [if_pos z3, if_pos z3]
  rw [if_neg z3, if_neg z3]
  by_cases z4 : e4 ≠ 0
  · rw [if_pos z4] at h4 ⊢
    cases h4
    rw [if_pos z4]
  rw [if_neg z4] at h4 ⊢
  by_cases z5 : 4 < n
  · rw [if_pos z5] at h4 ⊢
    cases h4
    rfl
  rw [if_neg z5] at h4 ⊢
  unfold finP
  rw [h4]
  simp only [List.nil_append]

theorem heldF_le (bs : List UInt8) (t : Int) : (heldF bs t).2.1 ≤ bs.length := by
  have key : ∀ (m : Nat) (T : Int), T ≤ bs.length → (getHeld bs m T).2.1 ≤ bs.length := by
    intro m
    induction m with
    | zero => intro T h; exact h
    | succ m ih =>
      intro T h
      rw [getHeld_succ]
      split
      · simp
      · split
        · simp
        · split
          · simp
          · exact ih _ (numOf_le _ _)
  unfold heldF
  split
  · simp
  · split
    · simp
    · exact key _ _ (byteOf_le _ _)

theorem own_set4 {w w1 : World} {base n : Nat} {e : TypeId} {v : Value} {xs : List Value} (h : w1.ownsRow base e 2 v n xs) (hb : w.heap.size < base) (x y z u : Value) :
    ((((w1.setCell ⟨w.heap.size, 0, none⟩ x).setCell ⟨w.heap.size, 1, none⟩ y).setCell ⟨w.heap.size, 2, none⟩ z).setCell ⟨w.heap.size, 3, none⟩ u).ownsRow base e 2 v n xs := by
  refine Rw.own_keep h fun g hg => ?_
  have h1 := (Rw.own_lt h g hg).1
  rw [Below.heap_setCell _ _ _ _ (by show g ≠ w.heap.size; omega), Below.heap_setCell _ _ _ _ (by show g ≠ w.heap.size; omega), Below.heap_setCell _ _ _ _ (by show g ≠ w.heap.size; omega), Below.heap_setCell _ _ _ _ (by show g ≠ w.heap.size; omega)]


end Cm
end Go.Proofs.Ytfkpgndbohoogaa

/- Contracts: package reply's GetAnswer. -/
set_option linter.unusedVariables false
set_option linter.unusedSimpArgs false
namespace Go.Proofs.Ytfkpgndbohoogaa
open Go.RowKit
namespace Cm


end Cm
end Go.Proofs.Ytfkpgndbohoogaa

/- Contracts: package memo's Right, Fresh, Last. -/
set_option linter.unusedVariables false
set_option linter.unusedSimpArgs false
namespace Go.Proofs.Ytfkpgndbohoogaa
open Go.RowKit Go.Shelf
namespace Cm

theorem Rm.held {l : List AnsV} (h : Rm l) : ∀ m ∈ l, m.rep.held.length ≤ 4 := fun m hm => (mayP_bounds _ (mayA_bounds m (h.may m hm)).2.2).2.2.2.1
theorem Rm.small {L : List MemC} (h : Rm (valsM L)) : ∀ x ∈ L, x.m.rep.held.length ≤ 1000 := fun x hx => by
  have := h.held x.m (List.mem_map.2 ⟨x, hx, rfl⟩)
  omega

theorem idxM_cases (l : List AnsV) (c : Int) : (idxI (isCl c) l = -1 ∧ lastM l c = (zeroM, false)) ∨ ∃ k : Nat, ∃ hk : k < l.length, idxI (isCl c) l = (k : Int) ∧ l[k].client = c ∧ lastM l c = (l[k], true) := by
  rcases idx_casesG (isCl c) l with h | ⟨k, hk, h, _⟩
  · exact .inl ⟨h, last_miss l c h⟩
  · obtain ⟨hk', q1, q2⟩ := last_hit l c k h
    exact .inr ⟨k, hk', h, q1, q2⟩

set_option maxHeartbeats 2000000 in
theorem MemLast_any (v : Value) (L : List MemC) (c : Int) (w : World) (h : RdM w v L) (hr : Rm (valsM L)) : Calls Try.prog 15 #[v, .int .i64 c] w (GetsM (lastM (valsM L) c) w) := by
  have hm := h.len
  have hB := newAlloc w (.cells #[.int .i64 0, .int .i64 0, .int .i64 0, .int .i64 0, .int .i64 0, .slice none 0 0] 35)
  obtain ⟨c0, c1, c2, c3, c4, c5⟩ := box6 (Below.refl _ (w.alloc (.cells #[.int .i64 0, .int .i64 0, .int .i64 0, .int .i64 0, .int .i64 0, .slice none 0 0] 35)))
  have cf := free6m (Below.refl _ (w.alloc (.cells #[.int .i64 0, .int .i64 0, .int .i64 0, .int .i64 0, .int .i64 0, .slice none 0 0] 35)))
  obtain ⟨W1, hW1⟩ : ∃ W1, W1 = w.alloc (.cells #[.int .i64 0, .int .i64 0, .int .i64 0, .int .i64 0, .int .i64 0, .slice none 0 0] 35) := ⟨_, rfl⟩
  have hs1 : W1.heap.size = w.heap.size + 1 := by rw [hW1]; simp
  have HS1 := Lib.hid hs1
  rw [← hW1] at hB c0 c1 c2 c3 c4 c5 cf
  clear hs1
  have HB := Lib.hid hB
  have KI := Lib.hid (indexOfM_any v L c W1 (h.row.later hB))
  have HD : Hid (∀ w', Below W1.heap.size W1 w' → (w'.cell? ⟨w.heap.size, 0, none⟩ = some (.int .i64 0) ∧ w'.cell? ⟨w.heap.size, 1, none⟩ = some (.int .i64 0) ∧ w'.cell? ⟨w.heap.size, 2, none⟩ = some (.int .i64 0) ∧ w'.cell? ⟨w.heap.size, 3, none⟩ = some (.int .i64 0) ∧ w'.cell? ⟨w.heap.size, 4, none⟩ = some (.int .i64 0) ∧ w'.cell? ⟨w.heap.size, 5, none⟩ = some (.slice none 0 0)) ∧ ∀ k, w'.frozen? ⟨w.heap.size, k, none⟩ = false) := Lib.hid fun w' hb => ⟨⟨(hb.cell (lt_of_cell c0)).trans c0, (hb.cell (lt_of_cell c1)).trans c1, (hb.cell (lt_of_cell c2)).trans c2, (hb.cell (lt_of_cell c3)).trans c3, (hb.cell (lt_of_cell c4)).trans c4, (hb.cell (lt_of_cell c5)).trans c5⟩, fun k => (hb.frozen (p := ⟨w.heap.size, k, none⟩) (show w.heap.size < _ from lt_of_cell c0)).trans (cf k)⟩
  rcases idxM_cases (valsM L) c with ⟨hi, hl⟩ | ⟨k, hk, hi, -, hl⟩
  · rw [hl]
    rw [hi] at KI
    obtain ⟨a, cap, rfl⟩ := h.form
    clear h hr c0 c1 c2 c3 c4 c5 cf hB hi hl
    generalize L.length = N at *
    go_enter Try.func15, Try.ntmps15
    go_upto_region 1 with fail
    rw [← hW1]
    clear hW1
    go_wp2_with (go_at_call 23; refine KI.out.mono ?_; rintro e w2 ⟨rfl, hb2⟩; obtain ⟨⟨y0, y1, y2, y3, y4, y5⟩, yf⟩ := HD.out _ hb2; have HB2 := Lib.hid (step HB.out hb2); clear hb2)
    refine bodyPost_ret (by simp [results, Try.results15, go_sem, y0, y1, y2, y3, y4, y5, yf] <;> rfl) rfl ?_
    exact ⟨⟨zeroM, none, 0⟩, rfl, rfl, RdH.nil _, set6m HB2.out _ (Nat.le_refl _) _ _ _ _ _ _⟩
  · have hk' : k < L.length := by rw [valsM_length] at hk; exact hk
    rw [hl, valsM_get L k hk']
    rw [hi] at KI
    have KC : Hid (∀ w', Below w.heap.size w w' → Calls Try.prog 22 #[memVal L[k]] w' (IsCopyM L[k].m w')) := Lib.hid fun w' hb => copyOfM_any _ w' ((h.held _ (List.getElem_mem hk')).later hb) (hr.small _ (List.getElem_mem hk'))
    obtain ⟨a, cap, rfl⟩ := h.form
    obtain ⟨b, o, rfl, hcell⟩ := rdm_at h.row k hk'
    have HQ := Lib.hid hcell
    clear h hr c0 c1 c2 c3 c4 c5 cf hB hi hl hcell
    generalize L[k] = x at *
    obtain ⟨⟨xc, xs, xk, xn, xd, xl⟩, xa, xp⟩ := x
    unfold memVal MemC.hv IsCopyM at KC
    unfold MemC.hv at HQ
    dsimp only at HQ KC
    generalize L.length = N at *
    have f1 : (0 : Int) ≤ (k : Int) := by omega
    have f2 : (k : Int) < (N : Int) := by omega
    have f3 : decide ((k : Int) < 0) = false := by simp
    go_enter Try.func15, Try.ntmps15
    go_upto_region 1 with fail
    rw [← hW1]
    clear hW1
    go_wp2_with (first
      | (go_at_call 23; refine KI.out.mono ?_; rintro e w2 ⟨rfl, hb2⟩; have HB2 := Lib.hid hb2; have HB20 := Lib.hid (step HB.out hb2); obtain ⟨z0, z1, z2, z3, z4, z5⟩ := HQ.out w2 HB20.out; clear hb2)
      | (go_at_call 22; refine (KC.out _ HB20.out).mono ?_; rintro e w3 ⟨a3, p3, rfl, ho3, hb3⟩; have HO3 := Lib.hid ho3; have HB3 := Lib.hid (step HB20.out hb3); obtain ⟨⟨y0, y1, y2, y3, y4, y5⟩, yf⟩ := HD.out _ (step HB2.out hb3); clear hb3 ho3))
    refine bodyPost_ret (by simp [results, Try.results15, go_sem, y0, y1, y2, y3, y4, y5, yf] <;> rfl) rfl ?_
    have hlt : w.heap.size < w2.heap.size := by have := HB2.out.size; rw [HS1.out] at this; omega
    exact ⟨⟨⟨xc, xs, xk, xn, xd, xl⟩, a3, p3⟩, rfl, rfl, RdH.of (RdX.own cellsG_length (ownsRow_setCell_below (ownsRow_setCell_below (ownsRow_setCell_below (ownsRow_setCell_below (ownsRow_setCell_below (ownsRow_setCell_below HO3.out hlt _) hlt _) hlt _) hlt _) hlt _) hlt _)), set6m HB3.out _ (Nat.le_refl _) _ _ _ _ _ _⟩

set_option maxHeartbeats 2000000 in
theorem MemFresh_any (v : Value) (L : List MemC) (c s : Int) (w : World) (h : RdM w v L) (hr : Rm (valsM L)) : Calls Try.prog 13 #[v, .int .i64 c, .int .i64 s] w (SaysI (freshM (valsM L) c s) w) := by
  have hm := h.len
  have KI := Lib.hid (indexOfM_any v L c w h.row)
  unfold freshM
  rcases idxM_cases (valsM L) c with ⟨hi, hl⟩ | ⟨k, hk, hi, -, hl⟩
  · rw [hl, if_pos rfl]
    rw [hi] at KI
    obtain ⟨a, cap, rfl⟩ := h.form
    clear h hr hi hl
    generalize L.length = N at *
    go_enter Try.func13, Try.ntmps13
    go_wp2_with (go_at_call 23; refine KI.out.mono ?_; rintro e w2 ⟨rfl, hb2⟩)
    go_ret
    exact ⟨rfl, hb2⟩
  · have hk' : k < L.length := by rw [valsM_length] at hk; exact hk
    rw [hl, if_neg (by simp), valsM_get L k hk']
    dsimp only
    rw [hi] at KI
    obtain ⟨a, cap, rfl⟩ := h.form
    obtain ⟨b, o, rfl, hcell⟩ := rdm_at h.row k hk'
    have HQ := Lib.hid hcell
    clear h hr hi hl hcell
    generalize L[k] = x at *
    obtain ⟨⟨xc, xs, xk, xn, xd, xl⟩, xa, xp⟩ := x
    dsimp only at HQ ⊢
    generalize L.length = N at *
    have f1 : (0 : Int) ≤ (k : Int) := by omega
    have f2 : (k : Int) < (N : Int) := by omega
    have f3 : decide ((k : Int) < 0) = false := by simp
    by_cases h1 : xs < s
    · rw [if_pos h1]
      have d1 : decide (xs < s) = true := decide_eq_true h1
      clear h1
      go_enter Try.func13, Try.ntmps13
      go_wp2_with (go_at_call 23; refine KI.out.mono ?_; rintro e w2 ⟨rfl, hb2⟩; obtain ⟨z0, z1, -⟩ := HQ.out w2 hb2)
      go_ret
      exact ⟨rfl, hb2⟩
    rw [if_neg h1]
    have d1 : decide (xs < s) = false := decide_eq_false h1
    clear h1
    by_cases h2 : xs = s
    · rw [if_pos h2]
      have d2 : (xs == s) = true := by simpa using h2
      clear h2
      go_enter Try.func13, Try.ntmps13
      go_wp2_with (go_at_call 23; refine KI.out.mono ?_; rintro e w2 ⟨rfl, hb2⟩; obtain ⟨z0, z1, -⟩ := HQ.out w2 hb2)
      go_ret
      exact ⟨rfl, hb2⟩
    · rw [if_neg h2]
      have d2 : (xs == s) = false := by simpa using h2
      clear h2
      go_enter Try.func13, Try.ntmps13
      go_wp2_with (go_at_call 23; refine KI.out.mono ?_; rintro e w2 ⟨rfl, hb2⟩; obtain ⟨z0, z1, -⟩ := HQ.out w2 hb2)
      go_ret
      exact ⟨rfl, hb2⟩
end Cm
end Go.Proofs.Ytfkpgndbohoogaa

/- Contracts: package memo's Right. -/
set_option linter.unusedVariables false
set_option linter.unusedSimpArgs false
namespace Go.Proofs.Ytfkpgndbohoogaa
open Go.RowKit Go.Shelf
namespace Cm

set_option maxHeartbeats 4000000 in
theorem MemRight_any (v : Value) (L : List MemC) (w : World) (h : RdM w v L) : Calls Try.prog 12 #[v] w (SaysB (rightM (valsM L)) w) := by
  have hm := h.len
  obtain ⟨a, cap, rfl⟩ := h.form
  have HA := Lib.hid (fun i hi => rdm_at h.row i hi)
  have HM : Hid (∀ i (hi : i < L.length) (w' : World), Below w.heap.size w w' → Calls Try.prog 21 #[ansVal L[i].m L[i].hv] w' (SaysB (mayA L[i].m) w')) := Lib.hid fun i hi w' hb => RepMayAnswer_any _ _ w' ((h.held _ (List.getElem_mem hi)).later hb)
  have W1 := Lib.hid (fun j hj => wrongM_may (l := valsM L) (j := j) (hj := hj))
  have W3 := Lib.hid (fun j hj => wrongM_up (l := valsM L) (j := j) (hj := hj))
  have HR := Lib.hid (rightM_of (valsM L))
  have HVG : Hid (∀ i (h : i < L.length) (h' : i < (valsM L).length), (valsM L)[i] = L[i].m) := Lib.hid (valsM_get L)
  have HVL := Lib.hid (valsM_length L)
  clear h
  generalize valsM L = V at *
  obtain ⟨N, hL⟩ : ∃ N, L.length = N := ⟨_, rfl⟩
  have HLL := Lib.hid hL
  rw [hL] at hm HVL ⊢
  clear hL
  go_enter Try.func12, Try.ntmps12
  go_wp2
  go_loopw [7] (fun i wr => ∃ j : Nat, j ≤ N ∧ i = .int .i64 j ∧ Hid (Below w.heap.size w wr) ∧ Hid (∀ q (hq : q < V.length), q < j → mayA V[q] = true ∧ ∀ p (hp : p + 1 = q), (V[p]'(by omega)).client < V[q].client)) (fun i _ => N - (intOf i).toNat)
  case atStart => exact ⟨0, by omega, rfl, Lib.hid (Below.refl _ _), Lib.hid (fun q hq h => absurd h (Nat.not_lt_zero _))⟩
  case round =>
    obtain ⟨j, hj, rfl, HB, HG⟩ := hrel
    by_cases hlt : j < N
    · have hjl : j < L.length := by rw [HLL.out]; exact hlt
      have hjv : j < V.length := by rw [HVL.out]; exact hlt
      have HJ := Lib.hid hjv
      obtain ⟨b, o, rfl, hc⟩ := HA.out j hjl
      obtain ⟨q0, q1, q2, q3, q4, q5⟩ := hc _ HB.out
      have HC : Hid (∀ i (hi : i < V.length) (w' : World), Below w.heap.size w w' → w'.cell? ⟨b, o + i * 6, none⟩ = some (.int .i64 V[i].client)) := Lib.hid fun i hi w' hb => by
        have hi' : i < L.length := by rw [HLL.out, ← HVL.out]; exact hi
        obtain ⟨b', o', e, hc'⟩ := HA.out i hi'
        cases e
        have := (hc' w' hb).1
        rw [HVG.out i hi' hi]
        exact this
      have K1 := W1.out j hjv
      have HN : mayA (V[j]'hjv) = true → (∀ p (hp : p + 1 = j) (hpl : p < V.length), V[p].client < (V[j]'hjv).client) → ∀ q (hq : q < V.length), q < j + 1 → mayA V[q] = true ∧ ∀ p (hp : p + 1 = q), (V[p]'(by omega)).client < V[q].client := fun a1 a3 q hq hqj => by
        by_cases e : q = j
        · subst e; exact ⟨a1, fun p hp => a3 p hp (by omega)⟩
        · exact HG.out q hq (by omega)
      have K3 : ∀ p (hp : p + 1 = j) (hpl : p < V.length), (V[j]'hjv).client ≤ V[p].client → rightM V = false := fun p hp _ hle => by
        subst hp
        exact W3.out p hjv hle
      have KI := fun w' hb => HM.out j hjl w' hb
      rw [HVG.out j hjl hjv] at K1 HN K3
      clear hc W1 W3 HM HA HG
      generalize L[j] = x at q0 q1 q2 q3 q4 q5 K1 K3 HN KI
      clear hjl hjv
      obtain ⟨⟨xc, xs, xk, xn, xd, xl⟩, xa, xp⟩ := x
      unfold ansVal MemC.hv at KI
      unfold MemC.hv at q5
      dsimp only at q0 q1 q2 q3 q4 q5 K1 K3 HN KI
      have KI := Lib.hid KI
      have f1 : (0 : Int) ≤ (j : Int) := by omega
      have f2 : (j : Int) < (N : Int) := by omega
      generalize xl.length = XN at *
      go_upto_region 4 with fail
      obtain ⟨W2, hW2⟩ : ∃ W2, W2 = wr.alloc (.cells #[.int .i64 xc, .int .i64 xs, .int .i64 xk, .int .i64 xn, .int .i64 xd, .slice xa XN xp] 35) := ⟨_, rfl⟩
      have HB2 : Hid (Below w.heap.size w W2) := Lib.hid (by rw [hW2]; exact step HB.out (newAlloc _ _))
      have hz := box6 (Below.refl _ (wr.alloc (.cells #[.int .i64 xc, .int .i64 xs, .int .i64 xk, .int .i64 xn, .int .i64 xd, .slice xa XN xp] 35)))
      rw [← hW2] at hz ⊢
      clear hW2
      have HZ : Hid (∀ w', Below W2.heap.size W2 w' → w'.cell? ⟨wr.heap.size, 0, none⟩ = some (.int .i64 xc)) := Lib.hid fun w' hb => (hb.cell (lt_of_cell hz.1)).trans hz.1
      obtain ⟨z0, z1, z2, z3, z4, z5⟩ := hz
      have KD := Lib.hid (KI.out W2 HB2.out)
      clear KI q1 q2 q3 q4 q5 q0
      cases n1 : mayA ⟨xc, xs, ⟨xk, xn, xd, xl⟩⟩
      case false =>
        have HE := Lib.hid (K1 n1)
        rw [n1] at KD
        clear n1 HN K1 K3 HC
        go_wp2_with (go_at_call 21; refine KD.out.mono ?_; rintro e w3 ⟨rfl, hb3⟩)
        go_ret
        exact ⟨by rw [HE.out]; rfl, step HB2.out hb3⟩
      rw [n1] at KD
      have HN2 := Lib.hid (HN n1)
      have HK3 := Lib.hid K3
      clear n1 HN K1 K3
      go_upto_region 6 with (go_at_call 21; refine KD.out.mono ?_; rintro e w3 ⟨rfl, hb3⟩)
      have HB3 := Lib.hid (step HB2.out hb3)
      have k0 := cell_regrown (HZ.out _ hb3)
      clear hb3 z0 z1 z2 z3 z4 z5 KD
      have hjc : j = 0 ∨ ∃ p, j = p + 1 := by rcases j with _ | p; exact .inl rfl; exact .inr ⟨p, rfl⟩
      rcases hjc with rfl | ⟨p, rfl⟩
      case inl =>
        have HN3 := Lib.hid (HN2.out (fun p hp _ => by omega))
        clear HN2 HK3 HC
        refine wp_region_quiet_below (by kernel_rfl) (by kernel_rfl) ?_
        repeat (go_big_quiet_step (fail))
        refine wpQuiet_nil ?_
        intro _ hw'
        obtain ⟨⟨dq, osq⟩, hw''⟩ := hw'
        subst hw''
        have HBF := Lib.hid (step HB3.out (below_regrown w3 dq osq))
        go_wp2
        go_roundw
        case rel => exact ⟨1, by omega, by go_num, HBF, HN3⟩
        case measure => simp [intOf]; omega
      case inr =>
        have hpl : p < V.length := by have := HJ.out; omega
        have K4 := HK3.out p rfl hpl
        have HC2 := HC.out p hpl w3 HB3.out
        have HN3 : (V[p]'hpl).client < xc → _ := fun q => HN2.out (fun r hr _ => by cases hr; exact q)
        clear HN2 HK3 HC
        generalize (V[p]'hpl).client = pc at K4 HC2 HN3
        have g0 := cell_regrown HC2
        have g1 : IntKind.i64.wrap (((p + 1 : Nat) : Int) - 1) = (p : Int) := by rw [IntKind.wrap_i64]; omega
        have g2 : (0 : Int) ≤ (p : Int) := by omega
        have g3 : (p : Int) < (N : Int) := by omega
        have g4 : decide ((0 : Int) < ((p + 1 : Nat) : Int)) = true := decide_eq_true (by omega)
        clear HC2
        by_cases e1 : xc ≤ pc
        · have d1 : decide (xc ≤ pc) = true := decide_eq_true e1
          have HE := Lib.hid (K4 e1)
          clear e1 K4 HN3
          refine wp_region_quiet_below (by kernel_rfl) (by kernel_rfl) ?_
          repeat (go_big_quiet_step (fail))
          refine wpQuiet_nil ?_
          intro _ hw'
          obtain ⟨⟨dq, osq⟩, hw''⟩ := hw'
          subst hw''
          go_wp2
          go_ret
          exact ⟨by rw [HE.out]; rfl, step HB3.out (below_regrown w3 dq osq)⟩
        · have d1 : decide (xc ≤ pc) = false := decide_eq_false e1
          have HN4 := Lib.hid (HN3 (by omega))
          clear e1 K4 HN3
          refine wp_region_quiet_below (by kernel_rfl) (by kernel_rfl) ?_
          repeat (go_big_quiet_step (fail))
          refine wpQuiet_nil ?_
          intro _ hw'
          obtain ⟨⟨dq, osq⟩, hw''⟩ := hw'
          subst hw''
          have HBF := Lib.hid (step HB3.out (below_regrown w3 dq osq))
          go_wp2
          go_roundw
          case rel => exact ⟨p + 2, by omega, by go_num, HBF, HN4⟩
          case measure => simp [intOf]; omega
    · obtain rfl : j = N := by omega
      have hr := HR.out (fun q hq => (HG.out q hq (by rw [← HVL.out]; exact hq)).1) (fun q hq => (HG.out (q + 1) hq (by rw [← HVL.out]; exact hq)).2 q rfl)
      have HE := Lib.hid hr
      clear hr W1 W3
      go_wp2
      go_ret
      exact ⟨by rw [HE.out]; rfl, HB.out⟩
end Cm
end Go.Proofs.Ytfkpgndbohoogaa

/- Contracts: package memo's Keep, where nothing is kept; where a client's own memo is written over. -/
set_option linter.unusedVariables false
set_option linter.unusedSimpArgs false
namespace Go.Proofs.Ytfkpgndbohoogaa
open Go.RowKit Go.Shelf
namespace Cm

theorem grown_setM {a w : World} {g : Nat} (h : a.grownBy w (some g)) (j : Nat) (u : Value) : a.grownBy (w.setCell ⟨g, j, none⟩ u) (some g) := by
  refine ⟨h.os, h.tape, h.output, by simpa using h.size, fun k hk hne => ?_⟩
  rw [Below.heap_setCell w ⟨g, j, none⟩ u k (fun q => hne (congrArg some q))]
  exact h.block k hk hne
theorem grown_set6 {a w : World} {g : Nat} (h : a.grownBy w (some g)) (j : Nat) (x y z u v s : Value) : a.grownBy ((((((w.setCell ⟨g, j, none⟩ x).setCell ⟨g, j + 1, none⟩ y).setCell ⟨g, j + 2, none⟩ z).setCell ⟨g, j + 3, none⟩ u).setCell ⟨g, j + 4, none⟩ v).setCell ⟨g, j + 5, none⟩ s) (some g) :=
  grown_setM (grown_setM (grown_setM (grown_setM (grown_setM (grown_setM h _ _) _ _) _ _) _ _) _ _) _ _

/-- One memo written over in its row. -/
theorem ownM_put {w : World} {base g n cap : Nat} {M : List MemC} (h : w.ownsRow base 35 6 (.slice (some ⟨g, 0, none⟩) n cap) n (flatX cellsM M)) (k : Nat) (hk : k < M.length) (y : MemC) :
    ((((((w.setCell ⟨g, k * 6, none⟩ (.int .i64 y.m.client)).setCell ⟨g, k * 6 + 1, none⟩ (.int .i64 y.m.seq)).setCell ⟨g, k * 6 + 2, none⟩ (.int .i64 y.m.rep.code)).setCell ⟨g, k * 6 + 3, none⟩ (.int .i64 y.m.rep.session)).setCell ⟨g, k * 6 + 4, none⟩ (.int .i64 y.m.rep.ahead)).setCell ⟨g, k * 6 + 5, none⟩ y.hv).ownsRow base 35 6 (.slice (some ⟨g, 0, none⟩) n cap) n (flatX cellsM (M.set k y)) := by
  have h1 := (h.stored (k * 6) (.int .i64 y.m.client)).1
  have h2 := (h1.stored (k * 6 + 1) (.int .i64 y.m.seq)).1
  have h3 := (h2.stored (k * 6 + 2) (.int .i64 y.m.rep.code)).1
  have h4 := (h3.stored (k * 6 + 3) (.int .i64 y.m.rep.session)).1
  have h5 := (h4.stored (k * 6 + 4) (.int .i64 y.m.rep.ahead)).1
  have h6 := (h5.stored (k * 6 + 5) y.hv).1
  have e : ((((((flatX cellsM M).set (k * 6) (.int .i64 y.m.client)).set (k * 6 + 1) (.int .i64 y.m.seq)).set (k * 6 + 2) (.int .i64 y.m.rep.code)).set (k * 6 + 3) (.int .i64 y.m.rep.session)).set (k * 6 + 4) (.int .i64 y.m.rep.ahead)).set (k * 6 + 5) y.hv = flatX cellsM (M.set k y) := by
    obtain ⟨A, B, x, hM, hA⟩ : ∃ A B x, M = A ++ x :: B ∧ A.length = k := ⟨M.take k, M.drop (k + 1), M[k], by rw [← List.drop_eq_getElem_cons hk, List.take_append_drop], by rw [List.length_take]; omega⟩
    subst hA
    subst hM
    have e1 : flatX cellsM (A ++ x :: B) = flatX cellsM A ++ (cellsM x ++ flatX cellsM B) := by rw [flatX_append, flatX_cons]
    have e2 : (A ++ x :: B).set A.length y = A ++ y :: B := by simp
    have hl : (flatX cellsM A).length = A.length * 6 := flatX_length cellsM_length A
    have hs : ∀ (C : List Value) (j : Nat) (u : Value), (flatX cellsM A ++ C).set (A.length * 6 + j) u = flatX cellsM A ++ C.set j u := fun C j u => by
      rw [← hl, List.set_append_right _ _ (by omega), Nat.add_sub_cancel_left]
    rw [e1, e2, flatX_append, flatX_cons]
    have hs0 := fun C u => hs C 0 u
    simp only [Nat.add_zero] at hs0
    rw [hs0, hs, hs, hs, hs, hs]
    rfl
  rw [e] at h6
  exact h6

theorem ownM_at {w : World} {base g n cap : Nat} {M : List MemC} (h : w.ownsRow base 35 6 (.slice (some ⟨g, 0, none⟩) n cap) n (flatX cellsM M)) (k : Nat) (hk : k < M.length) :
    w.cell? ⟨g, k * 6, none⟩ = some (.int .i64 M[k].m.client) ∧ w.cell? ⟨g, k * 6 + 1, none⟩ = some (.int .i64 M[k].m.seq) ∧ w.cell? ⟨g, k * 6 + 2, none⟩ = some (.int .i64 M[k].m.rep.code) ∧ w.cell? ⟨g, k * 6 + 3, none⟩ = some (.int .i64 M[k].m.rep.session) ∧ w.cell? ⟨g, k * 6 + 4, none⟩ = some (.int .i64 M[k].m.rep.ahead) ∧ w.cell? ⟨g, k * 6 + 5, none⟩ = some M[k].hv ∧ ∀ j, w.frozen? ⟨g, j, none⟩ = false := by
  have hl : n * 6 = (flatX cellsM M).length := by
    rw [h.1]
  have hn : M.length = n := by rw [flatX_length cellsM_length] at hl; omega
  have a0 := h.cellAt (k * 6 + 0) (by omega)
  have a1 := h.cellAt (k * 6 + 1) (by omega)
  have a2 := h.cellAt (k * 6 + 2) (by omega)
  have a3 := h.cellAt (k * 6 + 3) (by omega)
  have a4 := h.cellAt (k * 6 + 4) (by omega)
  have a5 := h.cellAt (k * 6 + 5) (by omega)
  rw [flatX_get cellsM_length M k hk 0 (by omega)] at a0
  rw [flatX_get cellsM_length M k hk 1 (by omega)] at a1
  rw [flatX_get cellsM_length M k hk 2 (by omega)] at a2
  rw [flatX_get cellsM_length M k hk 3 (by omega)] at a3
  rw [flatX_get cellsM_length M k hk 4 (by omega)] at a4
  rw [flatX_get cellsM_length M k hk 5 (by omega)] at a5
  exact ⟨a0, a1, a2, a3, a4, a5, fun j => h.frozenAt j⟩

theorem set6k {a w : World} {b : Nat} (h : Below b a w) (g : Nat) (hg : b ≤ g) (j : Nat) (x y z u v s : Value) : Below b a ((((((w.setCell ⟨g, j, none⟩ x).setCell ⟨g, j + 1, none⟩ y).setCell ⟨g, j + 2, none⟩ z).setCell ⟨g, j + 3, none⟩ u).setCell ⟨g, j + 4, none⟩ v).setCell ⟨g, j + 5, none⟩ s) :=
  (((((h.setCell hg _).setCell hg _).setCell hg _).setCell hg _).setCell hg _).setCell hg _

theorem valsM_set (L : List MemC) (k : Nat) (y : MemC) : valsM (L.set k y) = (valsM L).set k y.m := by unfold valsM; rw [List.map_set]

/-- What has been written over reads. -/
theorem set_done {base b2 : Nat} {w : World} {g c : Nat} {M : List MemC} (ho : OwnM base w (.slice (some ⟨g, 0, none⟩) M.length c) M) (k : Nat) (hk : k < M.length) (y : MemC)
    (hh : w.ownsRow b2 61 2 y.hv y.m.rep.held.length (flatX cellsG y.m.rep.held)) (hb2 : base ≤ b2) :
    OwnM base ((((((w.setCell ⟨g, k * 6, none⟩ (.int .i64 y.m.client)).setCell ⟨g, k * 6 + 1, none⟩ (.int .i64 y.m.seq)).setCell ⟨g, k * 6 + 2, none⟩ (.int .i64 y.m.rep.code)).setCell ⟨g, k * 6 + 3, none⟩ (.int .i64 y.m.rep.session)).setCell ⟨g, k * 6 + 4, none⟩ (.int .i64 y.m.rep.ahead)).setCell ⟨g, k * 6 + 5, none⟩ y.hv) (.slice (some ⟨g, 0, none⟩) (M.set k y).length c) (M.set k y) := by
  have hg := grown_set6 (show w.grownBy w (some g) from ⟨rfl, rfl, rfl, Nat.le_refl _, fun _ _ _ => rfl⟩) (k * 6) (.int .i64 y.m.client) (.int .i64 y.m.seq) (.int .i64 y.m.rep.code) (.int .i64 y.m.rep.session) (.int .i64 y.m.rep.ahead) y.hv
  have hp := ownM_put ho.row k hk y
  generalize (((((w.setCell ⟨g, k * 6, none⟩ (.int .i64 y.m.client)).setCell ⟨g, k * 6 + 1, none⟩ (.int .i64 y.m.seq)).setCell ⟨g, k * 6 + 2, none⟩ (.int .i64 y.m.rep.code)).setCell ⟨g, k * 6 + 3, none⟩ (.int .i64 y.m.rep.session)).setCell ⟨g, k * 6 + 4, none⟩ (.int .i64 y.m.rep.ahead)).setCell ⟨g, k * 6 + 5, none⟩ y.hv = w' at hg hp ⊢
  refine ⟨by rw [List.length_set]; exact hp, fun x hx => ?_⟩
  rcases List.mem_or_eq_of_mem_set hx with q | q
  · exact ho.kept hg x q
  · subst q
    exact own_lowerX (Rw.own_other (u := .slice (some ⟨g, 0, none⟩) M.length c) hh hg (own_types ho.row hh (by decide))) hb2

theorem cell_kept {W W' : World} {row : Option Nat} {b k : Nat} {x : Value} (h : W.cell? ⟨b, k, none⟩ = some x) (hg : W.grownBy W' row) (hne : row ≠ some b) : W'.cell? ⟨b, k, none⟩ = some x := by
  have hb := hg.block b (lt_of_cell h) (fun q => hne q.symm)
  rw [← h]
  simp [World.cell?, hb]
theorem cells7_kept {W W' : World} {row : Option Nat} {b0 b : Nat} {x y0 y1 y2 y3 y4 y5 : Value} (h : W.cell? ⟨b0, 0, none⟩ = some x ∧ W.cell? ⟨b, 0, none⟩ = some y0 ∧ W.cell? ⟨b, 1, none⟩ = some y1 ∧ W.cell? ⟨b, 2, none⟩ = some y2 ∧ W.cell? ⟨b, 3, none⟩ = some y3 ∧ W.cell? ⟨b, 4, none⟩ = some y4 ∧ W.cell? ⟨b, 5, none⟩ = some y5)
    (hg : W.grownBy W' row) (h0 : row ≠ some b0) (h1 : row ≠ some b) : W'.cell? ⟨b0, 0, none⟩ = some x ∧ W'.cell? ⟨b, 0, none⟩ = some y0 ∧ W'.cell? ⟨b, 1, none⟩ = some y1 ∧ W'.cell? ⟨b, 2, none⟩ = some y2 ∧ W'.cell? ⟨b, 3, none⟩ = some y3 ∧ W'.cell? ⟨b, 4, none⟩ = some y4 ∧ W'.cell? ⟨b, 5, none⟩ = some y5 :=
  ⟨cell_kept h.1 hg h0, cell_kept h.2.1 hg h1, cell_kept h.2.2.1 hg h1, cell_kept h.2.2.2.1 hg h1, cell_kept h.2.2.2.2.1 hg h1, cell_kept h.2.2.2.2.2.1 hg h1, cell_kept h.2.2.2.2.2.2 hg h1⟩

/-- What has been laid in its place reads. -/
theorem insM_done {base b2 k : Nat} {W w3 : World} {m v : Value} {M : List MemC} {y : MemC} (ho : OwnM base W m M) (hh : W.ownsRow b2 61 2 y.hv y.m.rep.held.length (flatX cellsG y.m.rep.held)) (hg : W.grownBy w3 m.ownBlock)
    (h3 : w3.ownsRow base 35 6 v (M.length + 1) (flatX cellsM (M.take k ++ y :: M.drop k))) (hk : k ≤ M.length) (hb2 : base ≤ b2) : ∃ a c Q, v = .slice a (List.length Q) c ∧ OwnM base w3 (.slice a Q.length c) Q ∧ valsM Q = (valsM M).take k ++ y.m :: (valsM M).drop k := by
  have e : (M.take k ++ y :: M.drop k).length = M.length + 1 := by simp; omega
  rw [← e] at h3
  obtain ⟨a, c, q⟩ := Rw.own_form h3
  refine ⟨a, c, _, q, ⟨q ▸ h3, fun x hx => ?_⟩, by rw [valsM_append, valsM_take, ← valsM_drop]; rfl⟩
  have hM := fun x hx => ho.kept hg x hx
  rcases List.mem_append.1 hx with q | q
  · exact hM x (List.mem_of_mem_take q)
  · rcases List.mem_cons.1 q with q | q
    · subst q
      exact own_lowerX (Rw.own_other hh hg (own_types ho.row hh (by decide))) hb2
    · exact hM x (List.mem_of_mem_drop q)

/-- Memos told, in memory of the call's own. -/
def GetsO (r : List AnsV) (w : World) (e : Ending) (w' : World) : Prop :=
  ∃ a c M, e = .returned (.slice a (List.length M) c) ∧ valsM M = r ∧ OwnM w.heap.size w' (.slice a M.length c) M ∧ Below w.heap.size w w'
theorem GetsO.k {r : List AnsV} {w : World} {e : Ending} {w' : World} (h : GetsO r w e w') : GetsK r w e w' := by
  obtain ⟨a, c, M, he, hv, ho, hb⟩ := h
  exact ⟨a, c, M, he, hv, ho.rd, hb⟩

set_option maxHeartbeats 4000000 in
theorem MemKeep_no (v u : Value) (L : List MemC) (A : AnsV) (w : World) (h : RdM w v L) (hr : Rm (valsM L)) (h5 : L.length ≤ 1000) (hu : RdH w u A.rep.held) (hno : mayA A = false ∨ freshM (valsM L) A.client A.seq ≠ 1) :
    Calls Try.prog 9 #[v, ansVal A u] w (GetsO (valsM L) w) := by
  obtain ⟨ua, uc, rfl, -⟩ := hu.ex
  obtain ⟨⟨ac, sq, ⟨ak, an, ad, al⟩⟩, hA⟩ : ∃ A', A' = A := ⟨_, rfl⟩
  subst hA
  have KM := RepMayAnswer_any ⟨ac, sq, ⟨ak, an, ad, al⟩⟩ (.slice ua al.length uc)
  unfold ansVal at KM ⊢
  dsimp only at hu hno KM ⊢
  have hb1 := newAlloc w (.cells #[.int .i64 ac, .int .i64 sq, .int .i64 ak, .int .i64 an, .int .i64 ad, .slice ua al.length uc] 30)
  obtain ⟨c0, c1, c2, c3, c4, c5⟩ := box6 (Below.refl _ (w.alloc (.cells #[.int .i64 ac, .int .i64 sq, .int .i64 ak, .int .i64 an, .int .i64 ad, .slice ua al.length uc] 30)))
  obtain ⟨W1, hW1⟩ : ∃ W1, W1 = w.alloc (.cells #[.int .i64 ac, .int .i64 sq, .int .i64 ak, .int .i64 an, .int .i64 ad, .slice ua al.length uc] 30) := ⟨_, rfl⟩
  rw [← hW1] at hb1 c0 c1 c2 c3 c4 c5
  have HB := Lib.hid hb1
  have HQ : Hid (∀ w', Below W1.heap.size W1 w' → w'.cell? ⟨w.heap.size, 0, none⟩ = some (.int .i64 ac) ∧ w'.cell? ⟨w.heap.size, 1, none⟩ = some (.int .i64 sq) ∧ w'.cell? ⟨w.heap.size, 2, none⟩ = some (.int .i64 ak) ∧ w'.cell? ⟨w.heap.size, 3, none⟩ = some (.int .i64 an) ∧ w'.cell? ⟨w.heap.size, 4, none⟩ = some (.int .i64 ad) ∧ w'.cell? ⟨w.heap.size, 5, none⟩ = some (.slice ua al.length uc)) := Lib.hid fun w' hb => ⟨(hb.cell (lt_of_cell c0)).trans c0, (hb.cell (lt_of_cell c1)).trans c1, (hb.cell (lt_of_cell c2)).trans c2, (hb.cell (lt_of_cell c3)).trans c3, (hb.cell (lt_of_cell c4)).trans c4, (hb.cell (lt_of_cell c5)).trans c5⟩
  have KM := Lib.hid (fun W (hb : Below W1.heap.size W1 W) => KM W (hu.later (step hb1 hb)))
  have KF : Hid (∀ W, Below W1.heap.size W1 W → Calls Try.prog 13 #[v, .int .i64 ac, .int .i64 sq] W (SaysI (freshM (valsM L) ac sq) W)) := Lib.hid fun W hb => MemFresh_any v L ac sq W (h.later (step hb1 hb)) hr
  have KC := Lib.hid (copiesM_any v L W1 (h.later hb1) h5 hr.small)
  obtain ⟨a, cap, rfl⟩ := h.form
  clear h hu hb1 c0 c1 c2 c3 c4 c5
  generalize L.length = N at *
  generalize al.length = AN at *
  cases n1 : mayA ⟨ac, sq, ⟨ak, an, ad, al⟩⟩ with
  | false =>
    rw [n1] at KM
    clear n1 hno KF
    go_enter Try.func9, Try.ntmps9
    go_upto_region 1 with fail
    rw [← hW1]
    clear hW1
    go_upto_region 2 with (go_at_call 20; refine KC.out.mono ?_; rintro e w2 ⟨v2, M, rfl, hv2, ho2, hb2⟩; have HV := Lib.hid hv2; have HO := Lib.hid ho2; have HB2 := Lib.hid hb2; obtain ⟨y0, y1, y2, y3, y4, y5⟩ := HQ.out _ hb2; obtain ⟨a2, c2, rfl⟩ := Rw.own_form ho2.row; clear hv2 ho2 hb2)
    go_wp2_with (go_at_call 21; refine (KM.out _ HB2.out).mono ?_; rintro e w3 ⟨rfl, hb3⟩)
    go_ret
    exact ⟨a2, c2, M, rfl, HV.out, (HO.out.later hb3).lower HB.out.size, step HB.out (step HB2.out hb3)⟩
  | true =>
    rw [n1] at KM
    have hne : freshM (valsM L) ac sq ≠ 1 := by
      rcases hno with q | q
      · rw [n1] at q; cases q
      · exact q
    have d1 : (freshM (valsM L) ac sq != 1) = true := by simpa using hne
    generalize freshM (valsM L) ac sq = fr at KF d1
    clear n1 hno hne
    go_enter Try.func9, Try.ntmps9
    go_upto_region 1 with fail
    rw [← hW1]
    clear hW1
    go_upto_region 2 with (go_at_call 20; refine KC.out.mono ?_; rintro e w2 ⟨v2, M, rfl, hv2, ho2, hb2⟩; have HV := Lib.hid hv2; have HO := Lib.hid ho2; have HB2 := Lib.hid hb2; obtain ⟨y0, y1, y2, y3, y4, y5⟩ := HQ.out _ hb2; obtain ⟨a2, c2, rfl⟩ := Rw.own_form ho2.row; clear hv2 ho2 hb2)
    go_wp2_with (first
      | (go_at_call 21; refine (KM.out _ HB2.out).mono ?_; rintro e w3 ⟨rfl, hb3⟩; have HB3 := Lib.hid hb3; obtain ⟨z0, z1, z2, z3, z4, z5⟩ := HQ.out _ (step HB2.out hb3); clear hb3)
      | (go_at_call 13; refine (KF.out _ (step HB2.out HB3.out)).mono ?_; rintro e w4 ⟨rfl, hb4⟩; have HB4 := Lib.hid (step HB3.out hb4); clear hb4))
    go_ret
    exact ⟨a2, c2, M, rfl, HV.out, (HO.out.later HB4.out).lower HB.out.size, step HB.out (step HB2.out HB4.out)⟩
end Cm
end Go.Proofs.Ytfkpgndbohoogaa
