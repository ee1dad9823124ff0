/- Texts laid together by program: Step, CmdE, CmdF, RepA, RepB, FSes, SesA, SesB, SesC, SesD, SesE, SesF, SesG, Idx, FLine. -/
import Derived.Test.YtnkooajbenhjhaaP1
import Derived.Lib.QuietBelow
import Derived.Deep.RegionHeld3
import Derived.BigQuiet
import Derived.Test.YtnkooajbenhjhaaP2
import Derived.Deep.Cut
import Derived.Deep.CutBlock
import Derived.Deep.DeepCutAuto
import Derived.Deep.CutRange
import Derived.Deep.RegionWith
import Derived.Deep.DrawnRows
import Derived.Shelf.Abstract
/- Laws of the walk at a step of a region that draws its order: appends of bytes, of a text's bytes. No program is named here. -/
set_option linter.unusedVariables false
set_option linter.unusedSimpArgs false
namespace Go.Proofs.Ytnkooajbenhjhaa
open Go.RowKit

section
variable {P : Program} {w : World}
theorem step_append_rd {ops : Array Oper} {o : Oper} {a : Act} {K : Act → World → Prop} {Q : Exit → Act → World → Prop} {E : Prop} (hgd : o.guard = none) (s x : Operand) (t : TypeId)
    (ho : o.op = .call { callee := .builtin .append, args := #[s, x], argTypes := #[t, t] })
    (base : Nat) (e : TypeId) (i : TypeInfo) (ht : P.underlying t = some (.slice e)) (hi : P.info? e = some i) (hz : i.zero = some (.int .u8 0)) (hsize : i.size = 1) (hby : i.bytes = 1)
    (v : Value) (n : Nat) (xs : List Value) (hs : a.eval s = v) (hown : w.ownsRow base e 1 v n xs) (y : Value) (bs : List UInt8) (hx : a.eval x = y) (hr : Rd w y bs)
    (hlen : n + bs.length ≤ 140737488355328) (hbase : base ≤ w.heap.size)
    (h : ∀ v' w', w'.ownsRow base e 1 v' (n + bs.length) (xs ++ cellsOf bs) → w.grownBy w' v.ownBlock → K (a.put o.dst v') w') :
    if Region.wanted o (yielded ops a.tmps) = true then Oper.wp P o a w K Q else E := by
  have hw : Region.wanted o (yielded ops a.tmps) = true := by simp [Region.wanted, hgd]
  rw [if_pos hw]
  obtain ⟨ao, len, cap, rfl, hl, hc, hm, hn, hcells⟩ := hr.ex
  match ao, hn, hcells with
  | none, hn, _ =>
    obtain ⟨rfl, rfl⟩ := hn rfl
    obtain rfl : bs = [] := List.length_eq_zero_iff.1 hl
    have hrun := run_append_owned_none (P := P) (w := w) base t o.type e i 1 ht hi v n xs hown
    unfold Oper.wp
    simp [execOp, ho, resolve, invoke, builtin, hs, hx, hrun, Result.andThen]
    exact h v w (by simpa [cellsOf] using hown) (World.grownBy.refl _ _)
  | some ad, _, hcells =>
    refine wp_append_own w s x t ho base e i (.int .u8 0) 1 1 ht hi hz hsize hby rfl (by decide) v n xs hs hown ad len cap (cellsOf bs) hx (by rw [cellsOf_length]; omega) ?_ (cellsOf_one bs) (by unfold maxLen; omega) (by omega) hbase ?_
    · intro j u hj
      obtain ⟨hj', rfl⟩ := cellsOf_get bs j u hj
      obtain ⟨hs', hi'⟩ := hcells ad rfl (by omega)
      obtain ⟨b, off, spot⟩ := ad
      simp only at hs'
      subst hs'
      have hadd : (⟨b, off, none⟩ : Addr).add j = ⟨b, off + j, none⟩ := by unfold Addr.add; split <;> simp_all
      rw [hadd]
      exact hi' j (by omega)
    · intro v' w' h1 h2 _
      rw [← hl] at h1
      exact h v' w' h1 h2

theorem step_append_str {ops : Array Oper} {o : Oper} {a : Act} {K : Act → World → Prop} {Q : Exit → Act → World → Prop} {E : Prop} (hgd : o.guard = none) (s x : Operand) (t u : TypeId)
    (ho : o.op = .call { callee := .builtin .append, args := #[s, x], argTypes := #[t, u] })
    (base : Nat) (e : TypeId) (i : TypeInfo) (ht : P.underlying t = some (.slice e)) (hu : P.underlying u = some .string) (hi : P.info? e = some i) (hz : i.zero = some (.int .u8 0)) (hsize : i.size = 1) (hby : i.bytes = 1)
    (v : Value) (n : Nat) (xs : List Value) (hs : a.eval s = v) (hown : w.ownsRow base e 1 v n xs) (bs : List UInt8) (hx : a.eval x = .string (bstr bs))
    (hlen : n + bs.length ≤ 140737488355328) (hbase : base ≤ w.heap.size)
    (h : ∀ v' w', w'.ownsRow base e 1 v' (n + bs.length) (xs ++ cellsOf bs) → w.grownBy w' v.ownBlock → K (a.put o.dst v') w') :
    if Region.wanted o (yielded ops a.tmps) = true then Oper.wp P o a w K Q else E := by
  have hw : Region.wanted o (yielded ops a.tmps) = true := by simp [Region.wanted, hgd]
  rw [if_pos hw]
  obtain ⟨v', w', hr, h2, h3, _⟩ := Lib.run_append_own_string (P := P) w base t u o.type e i ht hu hi hz hsize hby v n xs hown (bstr bs) (by rw [bstr_size]; unfold maxLen; omega) (by rw [bstr_size]; omega) hbase
  unfold Oper.wp execOp
  simp only [ho, resolve, invoke, builtin, Sem.run_bind, Sem.run_pure, Result.andThen_ok, List.map_toArray, List.map_cons, List.map_nil, hs, hx, hr]
  rw [bstr_size, strCells_bstr] at h2
  exact h v' w' h2 h3
end
end Go.Proofs.Ytnkooajbenhjhaa

/- Contracts: the document's Put, Get of commands. -/
set_option linter.unusedVariables false
set_option linter.unusedSimpArgs false
namespace Go.Proofs.Ytnkooajbenhjhaa
open Go.RowKit
namespace Cm

theorem byte_cell (k : Nat) (h : k < 256) : cellsOf [UInt8.ofNat k] = [.int .u8 (k : Int)] := by simp [cellsOf]; omega

theorem own1 (w : World) (base k : Nat) (h : k < 256) (hb : base ≤ w.heap.size) : (w.alloc (.cells #[.int .u8 (k : Int)] 5)).ownsRow base 5 1 (.slice (some ⟨w.heap.size, 0, none⟩) 1 1) 1 (cellsOf [UInt8.ofNat k]) :=
  own_mono (owns_lit w #[.int .u8 (k : Int)] [UInt8.ofNat k] (byte_cell k h).symm (by simp [maxLen])) hb

theorem rd1 (w : World) (k : Nat) (h : k < 256) : Rd (w.alloc (.cells #[.int .u8 (k : Int)] 5)) (.slice (some ⟨w.heap.size, 0, none⟩) 1 1) [UInt8.ofNat k] :=
  Rd.own (own1 w 0 k h (Nat.zero_le _))

/-- A byte of a new slice, and a number's eight bytes behind it, or ahead of it. -/
theorem byte_eight (w : World) (base k n : Nat) (h : k < 256) (hb : base ≤ w.heap.size) :
    ((w.alloc (.cells #[.int .u8 (k : Int)] 5)).alloc (.cells (beArr n 8) 5)).drew.ownsRow base 5 1 (.slice (some ⟨w.heap.size, 0, none⟩) 1 1) 1 (cellsOf [UInt8.ofNat k]) ∧
    Rd ((w.alloc (.cells #[.int .u8 (k : Int)] 5)).alloc (.cells (beArr n 8) 5)).drew (.slice (some ⟨w.heap.size + 1, 0, none⟩) 8 8) (be8 n) := by
  refine ⟨((own1 w base k h hb).alloc _).drew, ?_⟩
  have := (rd8 (w.alloc (.cells #[.int .u8 (k : Int)] 5)) n).later (Below.refl _ _).drew
  rwa [show (w.alloc (.cells #[.int .u8 (k : Int)] 5)).heap.size = w.heap.size + 1 by simp] at this

theorem eight_byte (w : World) (base k n : Nat) (h : k < 256) (hb : base ≤ w.heap.size) :
    ((w.alloc (.cells (beArr n 8) 5)).alloc (.cells #[.int .u8 (k : Int)] 5)).drew.ownsRow base 5 1 (.slice (some ⟨w.heap.size + 1, 0, none⟩) 1 1) 1 (cellsOf [UInt8.ofNat k]) ∧
    Rd ((w.alloc (.cells (beArr n 8) 5)).alloc (.cells #[.int .u8 (k : Int)] 5)).drew (.slice (some ⟨w.heap.size, 0, none⟩) 8 8) (be8 n) := by
  refine ⟨?_, ((rd8 w n).later (newAlloc _ _)).later (Below.refl _ _).drew⟩
  have := (own1 (w.alloc (.cells (beArr n 8) 5)) base k h (by simp; omega)).drew
  rwa [show (w.alloc (.cells (beArr n 8) 5)).heap.size = w.heap.size + 1 by simp] at this


end Cm
end Go.Proofs.Ytnkooajbenhjhaa

/- Contracts: the document's Get, PutReq, GetReq. -/
set_option linter.unusedVariables false
set_option linter.unusedSimpArgs false
namespace Go.Proofs.Ytnkooajbenhjhaa
open Go.RowKit
namespace Cm

/-- What the call owns it owns later, too. -/
theorem own_later {w w' : World} {base : Nat} {e : TypeId} {v : Value} {n : Nat} {xs : List Value} (ho : w.ownsRow base e 1 v n xs) (hb : Below w.heap.size w w') : w'.ownsRow base e 1 v n xs := by
  refine ⟨ho.1, ?_⟩
  rcases ho.2 with h' | ⟨g, cap, cur, h1, h2, h3, r⟩
  · exact .inl h'
  · refine .inr ⟨g, cap, cur, h1, h2, ?_, r⟩
    rw [hb.block g (Array.getElem?_eq_some_iff.1 h3).1]
    exact h3





end Cm
end Go.Proofs.Ytnkooajbenhjhaa

/- Locks that are held, in memory; contracts of the document's Token. -/
set_option linter.unusedVariables false
set_option linter.unusedSimpArgs false
namespace Go.Proofs.Ytnkooajbenhjhaa
open Go.RowKit
namespace Cm

/-- The slice v reads as these locks that are held. -/
structure RdH (w : World) (v : Value) (l : List GrantV) : Prop where
  ex : ∃ a cap, v = .slice a l.length cap ∧ l.length ≤ cap ∧ cap ≤ maxLen ∧ (a = none → l = []) ∧
    ∀ x, a = some x → l ≠ [] → x.spot = none ∧ ∀ i (h : i < l.length), w.cell? ⟨x.block, x.off + i * 2, none⟩ = some (.string (bstr l[i].name)) ∧ w.cell? ⟨x.block, x.off + i * 2 + 1, none⟩ = some (.int .i64 l[i].token)

theorem RdH.later {w w' : World} {v : Value} {l : List GrantV} (h : RdH w v l) (hb : Below w.heap.size w w') : RdH w' v l := by
  obtain ⟨a, cap, hv, h1, h2, h3, h4⟩ := h.ex
  refine ⟨a, cap, hv, h1, h2, h3, fun x hx hp => ?_⟩
  obtain ⟨hs, hc⟩ := h4 x hx hp
  refine ⟨hs, fun i hi => ?_⟩
  obtain ⟨c1, c2⟩ := hc i hi
  exact ⟨(hb.cell (lt_of_cell c1)).trans c1, (hb.cell (lt_of_cell c2)).trans c2⟩

theorem RdH.nil (w : World) : RdH w (.slice none 0 0) [] := ⟨none, 0, rfl, Nat.le_refl _, by unfold maxLen; omega, fun _ => rfl, fun x hx => by cases hx⟩

/-- The i-th of them. -/
theorem RdH.at {w : World} {a : Option Addr} {n cap : Nat} {l : List GrantV} (h : RdH w (.slice a n cap) l) (i : Nat) (hi : i < l.length) (w' : World) (hb : Below w.heap.size w w') :
    ∃ b o, a = some ⟨b, o, none⟩ ∧ w'.cell? ⟨b, o + i * 2, none⟩ = some (.string (bstr l[i].name)) ∧ w'.cell? ⟨b, o + i * 2 + 1, none⟩ = some (.int .i64 l[i].token) := by
  obtain ⟨a', cap', hv, h1, h2, h3, h4⟩ := (h.later hb).ex
  cases hv
  match a, h3, h4 with
  | none, h3, _ => have := h3 rfl; subst this; simp at hi
  | some ⟨b, o, sp⟩, _, h4 =>
    obtain ⟨hs, hc⟩ := h4 _ rfl (by intro q; subst q; simp at hi)
    simp only at hs
    subst hs
    exact ⟨b, o, rfl, hc i hi⟩

theorem RdH.len {w : World} {v : Value} {l : List GrantV} (h : RdH w v l) : l.length ≤ 9223372036854775807 := by
  obtain ⟨a, cap, hv, h1, h2, h3, h4⟩ := h.ex
  unfold maxLen at h2
  omega

/-- A reply, as the machine holds it. -/
def repVal (r : ReplyV) (v : Value) : Value := .agg #[.int .i64 r.code, .int .i64 r.session, .int .i64 r.ahead, v]

/-- What lies in a new block of four, later. -/
theorem box4 {w w' : World} {x y z u : Value} {t : TypeId} (h : Below (w.alloc (.cells #[x, y, z, u] t)).heap.size (w.alloc (.cells #[x, y, z, u] t)) w') :
    w'.cell? ⟨w.heap.size, 0, none⟩ = some x ∧ w'.cell? ⟨w.heap.size, 1, none⟩ = some y ∧ w'.cell? ⟨w.heap.size, 2, none⟩ = some z ∧ w'.cell? ⟨w.heap.size, 3, none⟩ = some u := by
  have hl : w.heap.size < (w.alloc (.cells #[x, y, z, u] t)).heap.size := by simp
  refine ⟨?_, ?_, ?_, ?_⟩
  · rw [h.cell (p := ⟨w.heap.size, 0, none⟩) hl]; simp [go_sem]
  · rw [h.cell (p := ⟨w.heap.size, 1, none⟩) hl]; simp [go_sem]
  · rw [h.cell (p := ⟨w.heap.size, 2, none⟩) hl]; simp [go_sem]
  · rw [h.cell (p := ⟨w.heap.size, 3, none⟩) hl]; simp [go_sem]

/-- The token of the first that has this name. -/
def tokenF (l : List GrantV) (n : List UInt8) : Int := match l with
  | [] => 0
  | g :: l => if g.name = n then g.token else tokenF l n

def sameH : List GrantV → List GrantV → Bool
  | [], [] => true
  | g :: l, h :: m => decide (g.name = h.name) && decide (g.token = h.token) && sameH l m
  | _, _ => false

theorem tokenF_drop (l : List GrantV) (n : List UInt8) (j : Nat) (h : j < l.length) : tokenF (l.drop j) n = if l[j].name = n then l[j].token else tokenF (l.drop (j + 1)) n := by
  rw [List.drop_eq_getElem_cons h]
  rfl

theorem str_eq (a b : List UInt8) : ((bstr a).toList == (bstr b).toList) = decide (a = b) := by
  rw [ByteArray.toList_eq, ByteArray.toList_eq, bstr_toList, bstr_toList]
  by_cases h : a = b <;> simp [h]


theorem same_len : ∀ (l m : List GrantV), l.length ≠ m.length → sameH l m = false
  | [], [], h => absurd rfl h
  | [], _ :: _, _ => rfl
  | _ :: _, [], _ => rfl
  | g :: l, h :: m, q => by
    have := same_len l m (by simpa using q)
    unfold sameH
    rw [this, Bool.and_false]

theorem sameH_iff : ∀ (l m : List GrantV), sameH l m = true ↔ l = m
  | [], [] => by simp [sameH]
  | [], _ :: _ => by simp [sameH]
  | _ :: _, [] => by simp [sameH]
  | ⟨a, b⟩ :: l, ⟨c, d⟩ :: m => by
    unfold sameH
    simp [sameH_iff l m]

theorem below_drewN {B : Nat} {a w : World} (h : Below B a w) (n : Nat) : Below B a (w.drewN n) := ⟨h.os, h.tape, h.output, h.size, h.block⟩

theorem same_drop (l m : List GrantV) (j : Nat) (h : j < l.length) (hm : j < m.length) : sameH (l.drop j) (m.drop j) = (decide (l[j].name = m[j].name) && decide (l[j].token = m[j].token) && sameH (l.drop (j + 1)) (m.drop (j + 1))) := by
  rw [List.drop_eq_getElem_cons h, List.drop_eq_getElem_cons hm]
  rfl

set_option maxHeartbeats 1000000 in
theorem SameGrants_any (u v : Value) (l m : List GrantV) (w : World) (h : RdH w u l) (h2 : RdH w v m) :
    Calls Try.prog 23 #[u, v] w (SaysB (sameH l m) w) := by
  have hm := h.len
  have hm2 := h2.len
  obtain ⟨a, cap, rfl, -⟩ := h.ex
  obtain ⟨a2, cap2, rfl, -⟩ := h2.ex
  by_cases hn : l.length = m.length
  · have HA := Lib.hid (fun i hi => h.at i hi)
    have HA2 := Lib.hid (fun i hi => h2.at i hi)
    have HD := Lib.hid (same_drop l m)
    clear h h2
    obtain ⟨L, hL⟩ : ∃ L, l.length = L := ⟨_, rfl⟩
    have hL2 : m.length = L := by omega
    rw [hL] at hm ⊢
    rw [hL2] at hm2 ⊢
    go_enter Try.func23, Try.ntmps23
    go_wp2
    go_loopw [5] (fun i wr => ∃ j : Nat, j ≤ L ∧ i = .int .i64 j ∧ Below w.heap.size w wr ∧ Hid (sameH l m = sameH (l.drop j) (m.drop j))) (fun i _ => L - (intOf i).toNat)
    case atStart => exact ⟨0, by omega, rfl, Below.refl _ _, Lib.hid rfl⟩
    case round =>
      obtain ⟨j, hj, rfl, hb, ha⟩ := hrel
      have HB := Lib.hid hb
      clear hb
      by_cases hlt : j < L
      · obtain ⟨b, o, rfl, q1, q2⟩ := HA.out j (by omega) _ HB.out
        obtain ⟨b', o', rfl, q3, q4⟩ := HA2.out j (by omega) _ HB.out
        have hd := HD.out j (by omega) (by omega)
        clear HA HA2 HD
        generalize l[j] = g at q1 q2 hd
        generalize m[j] = g2 at q3 q4 hd
        have hE := str_eq g.name g2.name
        by_cases e1 : g.name = g2.name ∧ g.token = g2.token
        · rw [decide_eq_true e1.1, decide_eq_true e1.2] at hd
          rw [decide_eq_true e1.1] at hE
          have d1 : (g.token == g2.token) = true := by simp [e1.2]
          have H := Lib.hid hd
          clear hd e1
          go_upto_region 6 with fail
          go_quiet (fail)
          go_wp2
          go_roundw
          case rel => exact ⟨j + 1, by omega, by go_num, below_drewN HB.out nq, Lib.hid (by rw [ha.out, H.out]; rfl)⟩
          case measure => simp [intOf]; omega
        · have d0 : (decide (g.name = g2.name) && decide (g.token = g2.token)) = false := by simpa using e1
          rw [d0] at hd
          have H := Lib.hid hd
          clear hd d0
          by_cases e2 : g.name = g2.name
          · rw [decide_eq_true e2] at hE
            have d1 : (g.token == g2.token) = false := by simpa using fun q => e1 ⟨e2, q⟩
            clear e1 e2
            go_upto_region 6 with fail
            go_quiet (fail)
            go_wp2
            go_ret
            exact ⟨by rw [ha.out, H.out]; rfl, below_drewN HB.out nq⟩
          · rw [decide_eq_false e2] at hE
            clear e1 e2
            go_upto_region 6 with fail
            go_quiet (fail)
            go_wp2
            go_ret
            exact ⟨by rw [ha.out, H.out]; rfl, below_drewN HB.out nq⟩
      · obtain rfl : j = L := by omega
        go_wp2
        go_ret
        have ha := ha.out
        rw [← hL, List.drop_length, hL, ← hL2, List.drop_length] at ha
        exact ⟨by rw [ha]; rfl, HB.out⟩
  · have d1 : ((l.length : Int) != (m.length : Int)) = true := by simp; omega
    have e : sameH l m = false := same_len l m hn
    rw [e]
    clear h h2 hn e
    generalize l.length = L at *
    generalize m.length = M at *
    go_enter Try.func23, Try.ntmps23
    go_wp2
    go_ret
    exact ⟨rfl, Below.refl _ _⟩
end Cm
end Go.Proofs.Ytnkooajbenhjhaa

/- Contracts: the document's SameReply, MayReply. -/
set_option linter.unusedVariables false
set_option linter.unusedSimpArgs false
namespace Go.Proofs.Ytnkooajbenhjhaa
open Go.RowKit
namespace Cm

def sameP (r q : ReplyV) : Bool := decide (r.code = q.code) && decide (r.session = q.session) && decide (r.ahead = q.ahead) && sameH r.held q.held

theorem sameP_iff (r q : ReplyV) : sameP r q = true ↔ r = q := by
  obtain ⟨a, b, c, l⟩ := r
  obtain ⟨a', b', c', l'⟩ := q
  unfold sameP
  simp [sameH_iff, and_assoc]


/-- The name ahead of the j-th. -/
def prevN (l : List GrantV) (j : Nat) : Option (List UInt8) := if j = 0 then none else (l[j - 1]?).map (·.name)

theorem heldOk_drop (l : List GrantV) (j : Nat) (h : j < l.length) : heldOk (prevN l j) (l.drop j) = (grantOk (prevN l j) l[j] && heldOk (prevN l (j + 1)) (l.drop (j + 1))) := by
  rw [List.drop_eq_getElem_cons h]
  have : prevN l (j + 1) = some l[j].name := by simp [prevN, h]
  rw [this]
  rfl

theorem less_tri : ∀ a b : List UInt8, (Op.bytesLess a b = true ∧ Op.bytesLess b a = false ∧ a ≠ b) ∨ (Op.bytesLess a b = false ∧ Op.bytesLess b a = true ∧ a ≠ b) ∨ (a = b ∧ Op.bytesLess a b = false) := by
  intro a
  induction a with
  | nil => intro b; cases b <;> simp [Op.bytesLess]
  | cons x a ih =>
    intro b
    cases b with
    | nil => simp [Op.bytesLess]
    | cons y b =>
      have := ih b
      rcases Nat.lt_trichotomy x.toNat y.toNat with h | h | h
      · have h1 : x < y := h
        have h2 : ¬ y < x := fun q => by have : y.toNat < x.toNat := q; omega
        have h3 : x ≠ y := fun q => by subst q; omega
        have h4 : y ≠ x := fun q => h3 q.symm
        simp [Op.bytesLess, h1, h2, h3, h4]
      · obtain rfl : x = y := UInt8.toNat_inj.1 h
        have h2 : ¬ x < x := fun q => by have : x.toNat < x.toNat := q; omega
        simpa [Op.bytesLess, h2] using this
      · have h1 : y < x := h
        have h2 : ¬ x < y := fun q => by have : x.toNat < y.toNat := q; omega
        have h3 : x ≠ y := fun q => by subst q; omega
        have h4 : y ≠ x := fun q => h3 q.symm
        simp [Op.bytesLess, h1, h2, h3, h4]

theorem str_less (a b : List UInt8) : Op.bytesLess (bstr a).toList (bstr b).toList = Op.bytesLess a b := by
  rw [ByteArray.toList_eq, ByteArray.toList_eq, bstr_toList, bstr_toList]

theorem quiet_eq {P : Program} {f : FuncId} {args : Array Value} {w : World} {n : Nat} {v : Value}
    (h : Calls P f args (w.drewN n) fun e w' => e = .returned v ∧ w.drewN n = w') : Calls P f args (w.drewN n) fun e w'' => e = .returned v ∧ ∃ m, w'' = w.drewN m :=
  h.mono fun _ _ ⟨he, hm⟩ => ⟨he, n, hm.symm⟩

theorem prevN_zero (l : List GrantV) : prevN l 0 = none := rfl
theorem prevN_succ (l : List GrantV) (j : Nat) (h : j < l.length) : prevN l (j + 1) = some l[j].name := by simp [prevN, h]

theorem wrap_pred (q : Nat) (h : q < 9223372036854775807) : IntKind.i64.wrap ((q : Int) + 1 - 1) = (q : Int) := by rw [IntKind.wrap_i64]; omega


end Cm
end Go.Proofs.Ytnkooajbenhjhaa

/- What package session answers, as plain functions over lists of sessions. No program is named here. -/
set_option linter.unusedVariables false
set_option linter.unusedSimpArgs false
namespace Go.Proofs.Ytnkooajbenhjhaa
open Go.RowKit
namespace Cm

/-- A session. -/
structure SesV where
  client : Int
  num : Int
  ren : Int

def clientF (c : Int) : Bool := decide (0 ≤ c) && decide (c < 8)

/-- One session, behind those ahead of it (the last one first). -/
def sesOk (pre : List SesV) (s : SesV) : Bool :=
  clientF s.client && highF s.num 1 && highF s.ren 0 && (match pre.getLast? with | none => true | some p => decide (p.client < s.client)) && pre.all fun p => !decide (p.num = s.num)
def rightGo (pre : List SesV) : List SesV → Bool
  | [] => true
  | s :: l => sesOk pre s && rightGo (pre ++ [s]) l
def rightS (l : List SesV) : Bool := decide (l.length ≤ 5) && rightGo [] l

def zeroS : SesV := ⟨0, 0, 0⟩

/-- The first of this client. -/
def findS : List SesV → Int → SesV × Bool
  | [], _ => (zeroS, false)
  | s :: l, c => if s.client = c then (s, true) else findS l c

/-- Has another client the number? -/
def takenS (l : List SesV) (c n : Int) : Bool := l.any fun s => decide (s.num = n) && !decide (s.client = c)

/-- Put in order, ahead of the first that has a greater client. -/
def putS (x : SesV) : List SesV → List SesV
  | [] => [x]
  | s :: l => if x.client < s.client then x :: s :: l else s :: putS x l

def openS (l : List SesV) (c n t : Int) : List SesV × Int :=
  if (clientF c && highF n 1 && highF t 0) = false then ([], 1) else
  if takenS l c n = true then ([], 1) else
  if (findS l c).2 = true then ([], 7) else
  if 5 ≤ l.length then ([], 5) else (putS ⟨c, n, t⟩ l, 0)

def renewE (c t : Int) (s : SesV) : SesV := if s.client = c then ⟨s.client, s.num, if s.ren < t then t else s.ren⟩ else s
def renewS (l : List SesV) (c t : Int) : List SesV × Int :=
  if highF t 0 = false then ([], 1) else if (findS l c).2 = false then ([], 6) else (l.map (renewE c t), 0)

def closeS (l : List SesV) (c : Int) : List SesV × Int :=
  if (findS l c).2 = false then ([], 6) else (l.filter (fun s => !decide (s.client = c)), 0)

def dueS (l : List SesV) (t d : Int) : List Int :=
  if (highF t 0 && highF d 0) = false then [] else (l.filter fun s => decide (d ≤ t - s.ren)).map (·.client)
/-! ### Putting in, one by one -/
def putE (x : SesV) (st : List SesV × Bool) (s : SesV) : List SesV × Bool := if !st.2 && decide (x.client < s.client) then (st.1 ++ [x] ++ [s], true) else (st.1 ++ [s], st.2)
def putN (x : SesV) (l : List SesV) (j : Nat) : List SesV × Bool := (l.take j).foldl (putE x) ([], false)
def putEnd (x : SesV) (st : List SesV × Bool) : List SesV := if st.2 then st.1 else st.1 ++ [x]

theorem putE_done (x : SesV) (l : List SesV) : ∀ M, l.foldl (putE x) (M, true) = (M ++ l, true) := by
  induction l with
  | nil => intro M; simp
  | cons s l ih =>
    intro M
    rw [List.foldl_cons]
    have : putE x (M, true) s = (M ++ [s], true) := by simp [putE]
    rw [this, ih]
    simp

theorem putE_fold (x : SesV) (l : List SesV) : ∀ M, putEnd x (l.foldl (putE x) (M, false)) = M ++ putS x l := by
  induction l with
  | nil => intro M; simp [putEnd, putS]
  | cons s l ih =>
    intro M
    rw [List.foldl_cons]
    unfold putS
    by_cases h : x.client < s.client
    · have : putE x (M, false) s = (M ++ [x] ++ [s], true) := by simp [putE, h]
      rw [this, putE_done, if_pos h]
      simp [putEnd]
    · have : putE x (M, false) s = (M ++ [s], false) := by simp [putE, h]
      rw [this, ih, if_neg h]
      simp

theorem putN_all (x : SesV) (l : List SesV) : putEnd x (putN x l l.length) = putS x l := by
  unfold putN
  rw [List.take_length, putE_fold, List.nil_append]

theorem putN_zero (x : SesV) (l : List SesV) : putN x l 0 = ([], false) := rfl
theorem putN_succ (x : SesV) (l : List SesV) (j : Nat) (h : j < l.length) : putN x l (j + 1) = putE x (putN x l j) l[j] := by
  unfold putN
  rw [List.take_succ_eq_append_getElem h, List.foldl_append]
  rfl

theorem putN_length (x : SesV) (l : List SesV) (j : Nat) (h : j ≤ l.length) : (putN x l j).1.length ≤ j + 1 ∧ ((putN x l j).2 = false → (putN x l j).1.length = j) := by
  induction j with
  | zero => exact ⟨by simp [putN_zero], fun _ => rfl⟩
  | succ j ih =>
    obtain ⟨h1, h2⟩ := ih (by omega)
    rw [putN_succ x l j (by omega)]
    unfold putE
    by_cases hb : (putN x l j).2 = true
    · simp only [hb, Bool.not_true, Bool.false_and, Bool.false_eq_true, if_false]
      exact ⟨by simp; omega, fun q => by cases q⟩
    · have hb : (putN x l j).2 = false := by simpa using hb
      have h3 := h2 hb
      simp only [hb, Bool.not_false, Bool.true_and]
      split
      · exact ⟨by simp; omega, fun q => by cases q⟩
      · exact ⟨by simp; omega, fun _ => by simp; omega⟩

/-! ### Right lists, as a relation -/
def oneS (s : SesV) : Bool := clientF s.client && highF s.num 1 && highF s.ren 0
structure Rs (l : List SesV) : Prop where
  one : ∀ s ∈ l, oneS s = true
  up : l.Pairwise fun a b => a.client < b.client
  num : l.Pairwise fun a b => a.num ≠ b.num

theorem Rs.nil : Rs [] := ⟨(fun s h => by cases h), List.Pairwise.nil, List.Pairwise.nil⟩

theorem rs_snoc (pre : List SesV) (s : SesV) : Rs (pre ++ [s]) ↔ Rs pre ∧ oneS s = true ∧ (∀ a ∈ pre, a.client < s.client) ∧ ∀ a ∈ pre, a.num ≠ s.num := by
  constructor
  · intro h
    obtain ⟨u1, _, u3⟩ := List.pairwise_append.1 h.up
    obtain ⟨n1, _, n3⟩ := List.pairwise_append.1 h.num
    exact ⟨⟨fun x hx => h.one x (List.mem_append_left _ hx), u1, n1⟩, h.one s (by simp), fun a ha => u3 a ha s (by simp), fun a ha => n3 a ha s (by simp)⟩
  · rintro ⟨h, h1, h2, h3⟩
    refine ⟨fun x hx => ?_, List.pairwise_append.2 ⟨h.up, List.pairwise_singleton _ _, fun a ha b hb => ?_⟩, List.pairwise_append.2 ⟨h.num, List.pairwise_singleton _ _, fun a ha b hb => ?_⟩⟩
    · rcases List.mem_append.1 hx with q | q
      · exact h.one x q
      · rw [List.mem_singleton] at q; subst q; exact h1
    · rw [List.mem_singleton] at hb; subst hb; exact h2 a ha
    · rw [List.mem_singleton] at hb; subst hb; exact h3 a ha

theorem last_le (pre : List SesV) (p : SesV) (h : (pre ++ [p]).Pairwise fun a b => a.client < b.client) : ∀ a ∈ pre ++ [p], a.client ≤ p.client := by
  intro a ha
  obtain ⟨_, _, h3⟩ := List.pairwise_append.1 h
  rcases List.mem_append.1 ha with q | q
  · exact Int.le_of_lt (h3 a q p (by simp))
  · rw [List.mem_singleton] at q; subst q; exact Int.le_refl _

theorem sesOk_iff (pre : List SesV) (s : SesV) (h : Rs pre) : sesOk pre s = true ↔ Rs (pre ++ [s]) := by
  rw [rs_snoc]
  unfold sesOk
  have hall : (pre.all fun p => !decide (p.num = s.num)) = true ↔ ∀ a ∈ pre, a.num ≠ s.num := by simp [List.all_eq_true]
  have hlast : (match pre.getLast? with | none => true | some p => decide (p.client < s.client)) = true ↔ ∀ a ∈ pre, a.client < s.client := by
    rcases List.eq_nil_or_concat pre with rfl | ⟨q, p, rfl⟩
    · simp
    · rw [List.concat_eq_append] at h ⊢
      rw [List.getLast?_append]
      simp only [List.getLast?_singleton, Option.some_or, decide_eq_true_eq]
      constructor
      · intro hp a ha
        have := last_le q p h.up a ha
        omega
      · intro hp
        exact hp p (by simp)
  unfold oneS
  rw [Bool.and_eq_true, Bool.and_eq_true, hall, hlast]
  constructor
  · rintro ⟨⟨h1, h2⟩, h3⟩
    exact ⟨h, h1, h2, h3⟩
  · rintro ⟨_, h1, h2, h3⟩
    exact ⟨⟨h1, h2⟩, h3⟩

theorem rightGo_iff (l : List SesV) : ∀ pre, Rs pre → (rightGo pre l = true ↔ Rs (pre ++ l)) := by
  induction l with
  | nil => intro pre h; simp [rightGo, h]
  | cons s l ih =>
    intro pre h
    have e : pre ++ s :: l = (pre ++ [s]) ++ l := by simp
    unfold rightGo
    rw [Bool.and_eq_true, e]
    constructor
    · rintro ⟨h1, h2⟩
      have h3 := (sesOk_iff pre s h).1 h1
      exact (ih _ h3).1 h2
    · intro h1
      have h3 : Rs (pre ++ [s]) := ⟨fun x hx => h1.one x (List.mem_append_left _ hx), (List.pairwise_append.1 h1.up).1, (List.pairwise_append.1 h1.num).1⟩
      exact ⟨(sesOk_iff pre s h).2 h3, (ih _ h3).2 h1⟩

theorem rightS_iff (l : List SesV) : rightS l = true ↔ l.length ≤ 5 ∧ Rs l := by
  unfold rightS
  rw [Bool.and_eq_true, decide_eq_true_eq, rightGo_iff l [] Rs.nil, List.nil_append]

theorem findS_none (l : List SesV) (c : Int) : (findS l c).2 = false ↔ ∀ s ∈ l, s.client ≠ c := by
  induction l with
  | nil => simp [findS]
  | cons x l ih =>
    unfold findS
    by_cases h : x.client = c
    · simp [h]
    · simp [h, ih]

theorem takenS_none (l : List SesV) (c n : Int) : takenS l c n = false ↔ ∀ s ∈ l, s.num = n → s.client = c := by
  unfold takenS
  rw [List.any_eq_false]
  simp

theorem putS_mem (x : SesV) (l : List SesV) : ∀ s, s ∈ putS x l ↔ s = x ∨ s ∈ l := by
  induction l with
  | nil => intro s; simp [putS]
  | cons y l ih =>
    intro s
    unfold putS
    split
    · simp
    · rw [List.mem_cons, ih, List.mem_cons]
      constructor
      · rintro (h | h | h)
        · exact .inr (.inl h)
        · exact .inl h
        · exact .inr (.inr h)
      · rintro (h | h | h)
        · exact .inr (.inl h)
        · exact .inl h
        · exact .inr (.inr h)

theorem putS_length (x : SesV) (l : List SesV) : (putS x l).length = l.length + 1 := by
  induction l with
  | nil => rfl
  | cons y l ih =>
    unfold putS
    split
    · simp
    · simp [ih]

theorem putS_rs (x : SesV) (l : List SesV) (h : Rs l) (hx : oneS x = true) (hc : ∀ s ∈ l, s.client ≠ x.client) (hn : ∀ s ∈ l, s.num ≠ x.num) : Rs (putS x l) := by
  refine ⟨fun s hs => ?_, ?_, ?_⟩
  · rcases (putS_mem x l s).1 hs with rfl | q
    · exact hx
    · exact h.one s q
  · have hu := h.up
    clear h hn
    induction l with
    | nil => exact List.pairwise_singleton _ _
    | cons y l ih =>
      rw [List.pairwise_cons] at hu
      unfold putS
      split
      · rename_i q
        refine List.pairwise_cons.2 ⟨fun b hb => ?_, List.pairwise_cons.2 hu⟩
        rcases List.mem_cons.1 hb with rfl | hb
        · exact q
        · have := hu.1 b hb; omega
      · rename_i q
        refine List.pairwise_cons.2 ⟨fun b hb => ?_, ih (fun s hs => hc s (List.mem_cons_of_mem _ hs)) hu.2⟩
        rcases (putS_mem x l b).1 hb with rfl | hb
        · have := hc y List.mem_cons_self; omega
        · exact hu.1 b hb
  · have hu := h.num
    clear h hc
    induction l with
    | nil => exact List.pairwise_singleton _ _
    | cons y l ih =>
      rw [List.pairwise_cons] at hu
      unfold putS
      split
      · refine List.pairwise_cons.2 ⟨fun b hb => ?_, List.pairwise_cons.2 hu⟩
        exact (hn b hb).symm
      · refine List.pairwise_cons.2 ⟨fun b hb => ?_, ih (fun s hs => hn s (List.mem_cons_of_mem _ hs)) hu.2⟩
        rcases (putS_mem x l b).1 hb with rfl | hb
        · exact hn y List.mem_cons_self
        · exact hu.1 b hb

theorem openS_right (l : List SesV) (c n t : Int) (h : rightS l = true) (ho : (openS l c n t).2 = 0) : rightS (openS l c n t).1 = true := by
  obtain ⟨hl, hr⟩ := (rightS_iff l).1 h
  unfold openS at ho ⊢
  split at ho
  · cases ho
  rename_i q1
  split at ho
  · cases ho
  rename_i q2
  split at ho
  · cases ho
  rename_i q3
  split at ho
  · cases ho
  rename_i q4
  rw [if_neg q1, if_neg q2, if_neg q3, if_neg q4]
  have q1 : (clientF c && highF n 1 && highF t 0) = true := by cases hq : (clientF c && highF n 1 && highF t 0) <;> simp_all
  have q2 := (takenS_none l c n).1 (by simpa using q2)
  have q3 := (findS_none l c).1 (by simpa using q3)
  refine (rightS_iff _).2 ⟨by rw [putS_length]; omega, putS_rs _ _ hr (show oneS ⟨c, n, t⟩ = true from q1) q3 fun s hs e => q3 s hs (q2 s hs e)⟩

theorem renewE_keeps (c t : Int) (s : SesV) : (renewE c t s).client = s.client ∧ (renewE c t s).num = s.num := by
  unfold renewE
  split <;> exact ⟨rfl, rfl⟩

theorem renewE_one (c t : Int) (s : SesV) (h : oneS s = true) (ht : highF t 0 = true) : oneS (renewE c t s) = true := by
  unfold renewE
  split
  · unfold oneS at h ⊢
    dsimp only
    split
    · rw [Bool.and_eq_true] at h ⊢
      exact ⟨h.1, ht⟩
    · exact h
  · exact h

theorem renewS_right (l : List SesV) (c t : Int) (h : rightS l = true) (ho : (renewS l c t).2 = 0) : rightS (renewS l c t).1 = true := by
  obtain ⟨hl, hr⟩ := (rightS_iff l).1 h
  unfold renewS at ho ⊢
  split at ho
  · cases ho
  rename_i q1
  split at ho
  · cases ho
  rename_i q2
  rw [if_neg q1, if_neg q2]
  have q1 : highF t 0 = true := by simpa using q1
  refine (rightS_iff _).2 ⟨by rw [List.length_map]; exact hl, fun s hs => ?_, ?_, ?_⟩
  · obtain ⟨x, hx, rfl⟩ := List.mem_map.1 hs
    exact renewE_one c t x (hr.one x hx) q1
  · rw [List.pairwise_map]
    refine hr.up.imp fun {a b} q => ?_
    rw [(renewE_keeps c t a).1, (renewE_keeps c t b).1]
    exact q
  · rw [List.pairwise_map]
    refine hr.num.imp fun {a b} q => ?_
    rw [(renewE_keeps c t a).2, (renewE_keeps c t b).2]
    exact q

theorem closeS_right (l : List SesV) (c : Int) (h : rightS l = true) (ho : (closeS l c).2 = 0) : rightS (closeS l c).1 = true := by
  obtain ⟨hl, hr⟩ := (rightS_iff l).1 h
  unfold closeS at ho ⊢
  split at ho
  · cases ho
  rename_i q1
  rw [if_neg q1]
  refine (rightS_iff _).2 ⟨Nat.le_trans (List.length_filter_le _ _) hl, fun s hs => hr.one s (List.mem_filter.1 hs).1, hr.up.filter _, hr.num.filter _⟩
end Cm
end Go.Proofs.Ytnkooajbenhjhaa

/- Contracts: padlockref6's readers of sessions: high, client, In, FindSession, SameSessions; padlockref4's SameInts. -/
set_option linter.unusedVariables false
set_option linter.unusedSimpArgs false
namespace Go.Proofs.Ytnkooajbenhjhaa
open Go.RowKit
namespace Cm

def cellsS (s : SesV) : List Value := [.int .i64 s.client, .int .i64 s.num, .int .i64 s.ren]
theorem cellsS_length (s : SesV) : (cellsS s).length = 3 := rfl
def sesVal (s : SesV) : Value := .agg #[.int .i64 s.client, .int .i64 s.num, .int .i64 s.ren]

/-- The slice reads as these sessions. -/
abbrev RdS := RdX 3 cellsS

theorem rds_at {w : World} {a : Option Addr} {n cap : Nat} {l : List SesV} (h : RdS w (.slice a n cap) l) (i : Nat) (hi : i < l.length) :
    ∃ b o, a = some ⟨b, o, none⟩ ∧ ∀ w' : World, Below w.heap.size w w' → w'.cell? ⟨b, o + i * 3, none⟩ = some (.int .i64 l[i].client) ∧ w'.cell? ⟨b, o + i * 3 + 1, none⟩ = some (.int .i64 l[i].num) ∧ w'.cell? ⟨b, o + i * 3 + 2, none⟩ = some (.int .i64 l[i].ren) := by
  obtain ⟨b, o, e, c⟩ := h.at i hi
  exact ⟨b, o, e, fun w' hb => ⟨c w' hb 0 _ rfl, c w' hb 1 _ rfl, c w' hb 2 _ rfl⟩⟩

def cellsI (x : Int) : List Value := [.int .i64 x]
theorem cellsI_length (x : Int) : (cellsI x).length = 1 := rfl
/-- The slice reads as these numbers. -/
abbrev RdI := RdX 1 cellsI

theorem rdi_at {w : World} {a : Option Addr} {n cap : Nat} {l : List Int} (h : RdI w (.slice a n cap) l) (i : Nat) (hi : i < l.length) :
    ∃ b o, a = some ⟨b, o, none⟩ ∧ ∀ w' : World, Below w.heap.size w w' → w'.cell? ⟨b, o + i, none⟩ = some (.int .i64 l[i]) := by
  obtain ⟨b, o, e, c⟩ := h.at i hi
  refine ⟨b, o, e, fun w' hb => ?_⟩
  have := c w' hb 0 _ rfl
  rw [Nat.mul_one] at this
  exact this

theorem high6_any (v least : Int) (w : World) : Calls Try.prog 47 #[.int .i64 v, .int .i64 least] w (Says (highF v least) w) := by
  unfold highF
  by_cases h1 : least ≤ v <;> by_cases h2 : v ≤ 2305843009213693952 <;>
    (go_enter Try.func47, Try.ntmps47
     go_wp2
     go_ret
     exact ⟨by simp [h1, h2] <;> omega, rfl⟩)

theorem client6_any (c : Int) (w : World) : Calls Try.prog 46 #[.int .i64 c] w (Says (clientF c) w) := by
  unfold clientF
  by_cases h1 : 0 ≤ c <;> by_cases h2 : c < 8 <;>
    (go_enter Try.func46, Try.ntmps46
     go_wp2
     go_ret
     exact ⟨by simp [h1, h2] <;> omega, rfl⟩)

theorem any_eq_drop (l : List Int) (x : Int) (j : Nat) (h : j < l.length) : (l.drop j).any (fun y => decide (y = x)) = (decide (l[j] = x) || (l.drop (j + 1)).any fun y => decide (y = x)) := by
  rw [List.drop_eq_getElem_cons h, List.any_cons]

theorem In_any (v : Value) (l : List Int) (x : Int) (w : World) (h : RdI w v l) : Calls Try.prog 28 #[v, .int .i64 x] w (Says (l.any fun y => decide (y = x)) w) := by
  have hm := h.len
  obtain ⟨a, cap, rfl⟩ := h.form
  have HA := Lib.hid (fun i hi => rdi_at h i hi)
  have HD := Lib.hid (any_eq_drop l x)
  clear h
  obtain ⟨L, hL⟩ : ∃ L, l.length = L := ⟨_, rfl⟩
  rw [hL] at hm ⊢
  go_enter Try.func28, Try.ntmps28
  go_wp2
  go_loop [5] (fun i => ∃ j : Nat, j ≤ L ∧ i = .int .i64 j ∧ Hid ((l.any fun y => decide (y = x)) = (l.drop j).any fun y => decide (y = x))) (fun i => L - (intOf i).toNat)
  case atStart => exact ⟨0, by omega, rfl, Lib.hid rfl⟩
  case round =>
    obtain ⟨j, hj, rfl, ha⟩ := hrel
    by_cases hlt : j < L
    · obtain ⟨b, o, rfl, hc⟩ := HA.out j (by omega)
      have q1 := hc w (Below.refl _ _)
      have hd := HD.out j (by omega)
      clear HA HD hc
      generalize l[j] = g at q1 hd
      by_cases hq : g = x
      · have d : (g == x) = true := by simpa using hq
        rw [decide_eq_true hq, Bool.true_or] at hd
        have H := Lib.hid hd
        clear hd hq
        go_wp2
        go_ret
        exact ⟨by rw [ha.out, H.out]; rfl, rfl⟩
      · have d : (g == x) = false := by simpa using hq
        rw [decide_eq_false hq, Bool.false_or] at hd
        have H := Lib.hid hd
        clear hd hq
        go_wp2
        go_round
        case rel => exact ⟨j + 1, by omega, by go_num, Lib.hid (by rw [ha.out, H.out])⟩
        case measure => simp [intOf]; omega
    · obtain rfl : j = L := by omega
      go_wp2
      go_ret
      have ha := ha.out
      rw [← hL, List.drop_length] at ha
      exact ⟨by rw [ha]; rfl, rfl⟩

theorem findS_drop (l : List SesV) (c : Int) (j : Nat) (h : j < l.length) : findS (l.drop j) c = if l[j].client = c then (l[j], true) else findS (l.drop (j + 1)) c := by
  rw [List.drop_eq_getElem_cons h]
  rfl

/-- A session and a truth told. -/
def Found (r : SesV × Bool) (w : World) (e : Ending) (w' : World) : Prop := e = .returned (.tuple #[sesVal r.1, .bool r.2]) ∧ Below w.heap.size w w'


end Cm
end Go.Proofs.Ytnkooajbenhjhaa

/- Contracts: padlockref6's SameSessions; padlockref4's SameInts. -/
set_option linter.unusedVariables false
set_option linter.unusedSimpArgs false
namespace Go.Proofs.Ytnkooajbenhjhaa
open Go.RowKit
namespace Cm

theorem below_drewN6 {B : Nat} {a w : World} (h : Below B a w) (n : Nat) : Below B a (w.drewN n) := ⟨h.os, h.tape, h.output, h.size, h.block⟩

def sameI : List Int → List Int → Bool
  | [], [] => true
  | x :: l, y :: m => decide (x = y) && sameI l m
  | _, _ => false

theorem sameI_len : ∀ (l m : List Int), l.length ≠ m.length → sameI l m = false
  | [], [], h => absurd rfl h
  | [], _ :: _, _ => rfl
  | _ :: _, [], _ => rfl
  | g :: l, h :: m, q => by
    have := sameI_len l m (by simpa using q)
    unfold sameI
    rw [this, Bool.and_false]

theorem sameI_iff : ∀ (l m : List Int), sameI l m = true ↔ l = m
  | [], [] => by simp [sameI]
  | [], _ :: _ => by simp [sameI]
  | _ :: _, [] => by simp [sameI]
  | a :: l, c :: m => by
    unfold sameI
    simp [sameI_iff l m]

theorem sameI_drop (l m : List Int) (j : Nat) (h : j < l.length) (hm : j < m.length) : sameI (l.drop j) (m.drop j) = (decide (l[j] = m[j]) && sameI (l.drop (j + 1)) (m.drop (j + 1))) := by
  rw [List.drop_eq_getElem_cons h, List.drop_eq_getElem_cons hm]
  rfl

set_option maxHeartbeats 1000000 in
theorem SameInts_any (u v : Value) (l m : List Int) (w : World) (h : RdI w u l) (h2 : RdI w v m) :
    Calls Try.prog 30 #[u, v] w (SaysB (sameI l m) w) := by
  have hm := h.len
  have hm2 := h2.len
  obtain ⟨a, cap, rfl⟩ := h.form
  obtain ⟨a2, cap2, rfl⟩ := h2.form
  by_cases hn : l.length = m.length
  · have HA := Lib.hid (fun i hi => rdi_at h i hi)
    have HA2 := Lib.hid (fun i hi => rdi_at h2 i hi)
    have HD := Lib.hid (sameI_drop l m)
    clear h h2
    obtain ⟨L, hL⟩ : ∃ L, l.length = L := ⟨_, rfl⟩
    have hL2 : m.length = L := by omega
    rw [hL] at hm ⊢
    rw [hL2] at hm2 ⊢
    go_enter Try.func30, Try.ntmps30
    go_wp2
    go_loopw [5] (fun i wr => ∃ j : Nat, j ≤ L ∧ i = .int .i64 j ∧ Below w.heap.size w wr ∧ Hid (sameI l m = sameI (l.drop j) (m.drop j))) (fun i _ => L - (intOf i).toNat)
    case atStart => exact ⟨0, by omega, rfl, Below.refl _ _, Lib.hid rfl⟩
    case round =>
      obtain ⟨j, hj, rfl, hb, ha⟩ := hrel
      have HB := Lib.hid hb
      clear hb
      by_cases hlt : j < L
      · obtain ⟨b, o, rfl, hc⟩ := HA.out j (by omega)
        obtain ⟨b', o', rfl, hc2⟩ := HA2.out j (by omega)
        have q1 := hc _ HB.out
        have q2 := hc2 _ HB.out
        have hd := HD.out j (by omega) (by omega)
        clear HA HA2 HD hc hc2
        generalize l[j] = x at q1 hd
        generalize m[j] = y at q2 hd
        by_cases e1 : x = y
        · have d1 : (x != y) = false := by simp [e1]
          rw [decide_eq_true e1, Bool.true_and] at hd
          have H := Lib.hid hd
          clear hd e1
          go_upto_region 6 with fail
          go_quiet (fail)
          go_wp2
          go_roundw
          case rel => exact ⟨j + 1, by omega, by go_num, below_drewN6 HB.out nq, Lib.hid (by rw [ha.out, H.out])⟩
          case measure => simp [intOf]; omega
        · have d1 : (x != y) = true := by simpa using e1
          rw [decide_eq_false e1, Bool.false_and] at hd
          have H := Lib.hid hd
          clear hd e1
          go_upto_region 6 with fail
          go_quiet (fail)
          go_wp2
          go_ret
          exact ⟨by rw [ha.out, H.out]; rfl, below_drewN6 HB.out nq⟩
      · obtain rfl : j = L := by omega
        go_wp2
        go_ret
        have ha := ha.out
        rw [← hL, List.drop_length, hL, ← hL2, List.drop_length] at ha
        exact ⟨by rw [ha]; rfl, HB.out⟩
  · have d1 : ((l.length : Int) != (m.length : Int)) = true := by simp; omega
    have e : sameI l m = false := sameI_len l m hn
    rw [e]
    clear h h2 hn e
    generalize l.length = L at *
    generalize m.length = M at *
    go_enter Try.func30, Try.ntmps30
    go_wp2
    go_ret
    exact ⟨rfl, Below.refl _ _⟩

def sameE (x y : SesV) : Bool := decide (x.client = y.client) && decide (x.num = y.num) && decide (x.ren = y.ren)
theorem sameE_iff (x y : SesV) : sameE x y = true ↔ x = y := by
  obtain ⟨a, b, c⟩ := x
  obtain ⟨d, e, f⟩ := y
  unfold sameE
  simp [and_assoc]

def sameL : List SesV → List SesV → Bool
  | [], [] => true
  | x :: l, y :: m => sameE x y && sameL l m
  | _, _ => false

theorem sameL_len : ∀ (l m : List SesV), l.length ≠ m.length → sameL l m = false
  | [], [], h => absurd rfl h
  | [], _ :: _, _ => rfl
  | _ :: _, [], _ => rfl
  | g :: l, h :: m, q => by
    have := sameL_len l m (by simpa using q)
    unfold sameL
    rw [this, Bool.and_false]

theorem sameL_iff : ∀ (l m : List SesV), sameL l m = true ↔ l = m
  | [], [] => by simp [sameL]
  | [], _ :: _ => by simp [sameL]
  | _ :: _, [] => by simp [sameL]
  | a :: l, c :: m => by
    unfold sameL
    simp [sameL_iff l m, sameE_iff]

theorem sameL_drop (l m : List SesV) (j : Nat) (h : j < l.length) (hm : j < m.length) : sameL (l.drop j) (m.drop j) = (sameE l[j] m[j] && sameL (l.drop (j + 1)) (m.drop (j + 1))) := by
  rw [List.drop_eq_getElem_cons h, List.drop_eq_getElem_cons hm]
  rfl


end Cm
end Go.Proofs.Ytnkooajbenhjhaa

/- Contracts: padlockref6's RightSessions. -/
set_option linter.unusedVariables false
set_option linter.unusedSimpArgs false
namespace Go.Proofs.Ytnkooajbenhjhaa
open Go.RowKit
namespace Cm

theorem quiet_eq6 {P : Program} {f : FuncId} {args : Array Value} {w : World} {n : Nat} {v : Value}
    (h : Calls P f args (w.drewN n) fun e w' => e = .returned v ∧ w.drewN n = w') : Calls P f args (w.drewN n) fun e w'' => e = .returned v ∧ ∃ m, w'' = w.drewN m :=
  h.mono fun _ _ ⟨he, hm⟩ => ⟨he, n, hm.symm⟩

theorem rightGo_drop (l : List SesV) (j : Nat) (h : j < l.length) : rightGo (l.take j) (l.drop j) = (sesOk (l.take j) l[j] && rightGo (l.take (j + 1)) (l.drop (j + 1))) := by
  rw [List.drop_eq_getElem_cons h, List.take_succ_eq_append_getElem h]
  rfl

def allN (l : List SesV) (n : Int) : Bool := l.all fun p => !decide (p.num = n)

theorem allN_drop (l : List SesV) (n : Int) (j k : Nat) (hj : j ≤ l.length) (h : k < j) : allN ((l.take j).drop k) n = (!decide ((l[k]'(by omega)).num = n) && allN ((l.take j).drop (k + 1)) n) := by
  have hk : k < (l.take j).length := by rw [List.length_take]; omega
  rw [List.drop_eq_getElem_cons hk]
  have e : (l.take j)[k] = l[k]'(by omega) := List.getElem_take
  unfold allN
  rw [List.all_cons, e]

theorem sesOk_first (s : SesV) : sesOk [] s = (clientF s.client && (highF s.num 1 && (highF s.ren 0 && allN [] s.num))) := by
  unfold sesOk allN
  simp [Bool.and_assoc]

theorem sesOk_next (l : List SesV) (q : Nat) (h : q < l.length) (s : SesV) : sesOk (l.take (q + 1)) s = (clientF s.client && (highF s.num 1 && (highF s.ren 0 && (decide (l[q].client < s.client) && allN (l.take (q + 1)) s.num)))) := by
  unfold sesOk allN
  have e : (l.take (q + 1)).getLast? = some l[q] := by rw [List.take_succ_eq_append_getElem h, List.getLast?_append]; simp
  rw [e]
  simp [Bool.and_assoc]


end Cm
end Go.Proofs.Ytnkooajbenhjhaa

/- Contracts: padlockref6's OpenSession. -/
set_option linter.unusedVariables false
set_option linter.unusedSimpArgs false
namespace Go.Proofs.Ytnkooajbenhjhaa
open Go.RowKit
namespace Cm




theorem takenS_drop (l : List SesV) (c n : Int) (j : Nat) (h : j < l.length) : takenS (l.drop j) c n = ((decide (l[j].num = n) && !decide (l[j].client = c)) || takenS (l.drop (j + 1)) c n) := by
  rw [List.drop_eq_getElem_cons h]
  rfl

theorem cellsS_one (s : SesV) : ∀ u ∈ cellsS s, u.oneCell' = true := by
  intro u hu
  unfold cellsS at hu
  simp only [List.mem_cons, List.not_mem_nil, or_false] at hu
  rcases hu with rfl | rfl | rfl <;> rfl


end Cm
end Go.Proofs.Ytnkooajbenhjhaa

/- Contracts: padlockref6's CloseSession, Due. -/
set_option linter.unusedVariables false
set_option linter.unusedSimpArgs false
namespace Go.Proofs.Ytnkooajbenhjhaa
open Go.RowKit
namespace Cm

theorem infoN : (Try.prog.info? 3).map (fun i => (i.zero, i.size, i.bytes)) = some (some (.int .i64 0), 1, 8) := by kernel_rfl

theorem cellsI_one (x : Int) : ∀ u ∈ cellsI x, u.oneCell' = true := by
  intro u hu
  unfold cellsI at hu
  rw [List.mem_singleton] at hu
  subst hu
  rfl

theorem filter_take_succ {α : Type} (l : List α) (p : α → Bool) (j : Nat) (h : j < l.length) : (l.take (j + 1)).filter p = (l.take j).filter p ++ if p l[j] then [l[j]] else [] := by
  rw [List.take_succ_eq_append_getElem h, List.filter_append]
  congr 1
  by_cases q : p l[j] = true
  · simp [q]
  · simp [q]

def keepsS (c : Int) (s : SesV) : Bool := !decide (s.client = c)


/-- Numbers told, in new memory. -/
def GetsN (r : List Int) (w : World) (e : Ending) (w' : World) : Prop :=
  ∃ v, e = .returned v ∧ w'.ownsRow w.heap.size 3 1 v r.length (flatX cellsI r) ∧ Below w.heap.size w w'

theorem map_filter_take (l : List SesV) (p : SesV → Bool) (j : Nat) (h : j < l.length) : ((l.take (j + 1)).filter p).map (·.client) = ((l.take j).filter p).map (·.client) ++ if p l[j] then [l[j].client] else [] := by
  rw [filter_take_succ l p j h, List.map_append]
  congr 1
  by_cases q : p l[j] = true <;> simp [q]

def lateS (t d : Int) (s : SesV) : Bool := decide (d ≤ t - s.ren)


end Cm
end Go.Proofs.Ytnkooajbenhjhaa

/- Contracts: padlockref6's RenewSession. -/
set_option linter.unusedVariables false
set_option linter.unusedSimpArgs false
namespace Go.Proofs.Ytnkooajbenhjhaa
open Go.RowKit
namespace Cm



/-- The first k are renewed. -/
def renN (l : List SesV) (c t : Int) (k : Nat) : List SesV := (l.take k).map (renewE c t) ++ l.drop k

theorem renN_zero (l : List SesV) (c t : Int) : renN l c t 0 = l := by simp [renN]
theorem renN_all (l : List SesV) (c t : Int) : renN l c t l.length = l.map (renewE c t) := by simp [renN]
theorem renN_length (l : List SesV) (c t : Int) (k : Nat) (h : k ≤ l.length) : (renN l c t k).length = l.length := by
  unfold renN
  rw [List.length_append, List.length_map, List.length_take, List.length_drop]
  omega

theorem renN_get (l : List SesV) (c t : Int) (k : Nat) (h : k < l.length) (h' : k < (renN l c t k).length) : (renN l c t k)[k] = l[k] := by
  unfold renN at h' ⊢
  rw [List.getElem_append_right (by rw [List.length_map, List.length_take]; omega)]
  simp only [List.length_map, List.length_take, List.getElem_drop]
  congr 1
  omega

theorem renN_succ (l : List SesV) (c t : Int) (k : Nat) (h : k < l.length) : renN l c t (k + 1) = (renN l c t k).set k (renewE c t l[k]) := by
  unfold renN
  have hk : ((l.take k).map (renewE c t)).length = k := by rw [List.length_map, List.length_take]; omega
  rw [List.take_succ_eq_append_getElem h, List.map_append, List.set_append_right _ _ (by omega), hk, Nat.sub_self, List.append_assoc]
  congr 1
  have e := List.drop_eq_getElem_cons h
  rw [e]
  rfl

theorem renN_same (l : List SesV) (c t : Int) (k : Nat) (h : k < l.length) : (renN l c t k).set k l[k] = renN l c t k := by
  have h' : k < (renN l c t k).length := by rw [renN_length l c t k (by omega)]; exact h
  have := renN_get l c t k h h'
  rw [← this]
  exact List.set_getElem_self h'


end Cm
end Go.Proofs.Ytnkooajbenhjhaa

/- Contracts: padlocklaw6's Sessions: right ones, by numbers. -/
set_option linter.unusedVariables false
set_option linter.unusedSimpArgs false
namespace Go.Proofs.Ytnkooajbenhjhaa
open Go.RowKit
attribute [local go_sem ↓] Go.wp_at_zero Go.wp_at_succ
namespace Cm

/-- Clients that rise below i, numbers from 1 to 8, times below 256. -/
structure Rise (l : List SesV) (i : Nat) : Prop where
  up : l.Pairwise fun a b => a.client < b.client
  ok : ∀ s ∈ l, (0 ≤ s.client ∧ s.client < i) ∧ (1 ≤ s.num ∧ s.num ≤ 8) ∧ (0 ≤ s.ren ∧ s.ren ≤ 255)

theorem Rise.more {l : List SesV} {i : Nat} (h : Rise l i) : Rise l (i + 1) := ⟨h.up, fun s hs => by have := h.ok s hs; omega⟩
theorem Rise.push {l : List SesV} {i : Nat} (h : Rise l i) (n r : Int) (hn : 1 ≤ n ∧ n ≤ 8) (hr : 0 ≤ r ∧ r ≤ 255) : Rise (l ++ [⟨i, n, r⟩]) (i + 1) := by
  refine ⟨List.pairwise_append.2 ⟨h.up, List.pairwise_singleton _ _, fun a ha b hb => ?_⟩, fun s hs => ?_⟩
  · rw [List.mem_singleton] at hb
    subst hb
    exact (h.ok a ha).1.2
  · rcases List.mem_append.1 hs with q | q
    · have := h.ok s q; omega
    · rw [List.mem_singleton] at q
      subst q
      dsimp only
      omega

/-- The numbers of all made other than one another. -/
def apartN (i : Nat) : List SesV → List SesV
  | [] => []
  | s :: l => ⟨s.client, 10 * (i : Int) + s.num, s.ren⟩ :: apartN (i + 1) l

theorem apartN_length : ∀ (l : List SesV) (i : Nat), (apartN i l).length = l.length
  | [], _ => rfl
  | s :: l, i => by simp [apartN, apartN_length l (i + 1)]

theorem apartN_mem : ∀ (l : List SesV) (i : Nat) (x : SesV), x ∈ apartN i l → ∃ s ∈ l, ∃ j : Nat, i ≤ j ∧ j < i + l.length ∧ x = ⟨s.client, 10 * (j : Int) + s.num, s.ren⟩
  | [], _, x, h => by cases h
  | s :: l, i, x, h => by
    unfold apartN at h
    rcases List.mem_cons.1 h with rfl | h
    · exact ⟨s, List.mem_cons_self, i, Nat.le_refl _, by simp, rfl⟩
    · obtain ⟨y, hy, j, h1, h2, e⟩ := apartN_mem l (i + 1) x h
      exact ⟨y, List.mem_cons_of_mem _ hy, j, by omega, by simp; omega, e⟩

theorem apartN_rs : ∀ (l : List SesV) (i n : Nat), Rise l n → n ≤ 8 → i + l.length ≤ 5 → Rs (apartN i l)
  | [], _, _, _, _, _ => Rs.nil
  | s :: l, i, n, h, hn, hl => by
    have hu := List.pairwise_cons.1 h.up
    have hr : Rise l n := ⟨hu.2, fun x hx => h.ok x (List.mem_cons_of_mem _ hx)⟩
    have ih := apartN_rs l (i + 1) n hr hn (by simp at hl; omega)
    have hs := h.ok s List.mem_cons_self
    unfold apartN
    refine ⟨fun x hx => ?_, List.pairwise_cons.2 ⟨fun b hb => ?_, ih.up⟩, List.pairwise_cons.2 ⟨fun b hb => ?_, ih.num⟩⟩
    · rcases List.mem_cons.1 hx with rfl | hx
      · unfold oneS clientF highF
        simp
        simp at hl
        omega
      · exact ih.one x hx
    · obtain ⟨y, hy, j, _, _, rfl⟩ := apartN_mem l (i + 1) b hb
      exact hu.1 y hy
    · obtain ⟨y, hy, j, h1, _, rfl⟩ := apartN_mem l (i + 1) b hb
      have := (h.ok y (List.mem_cons_of_mem _ hy)).2.1
      dsimp only
      omega

/-- Sessions that are right, with times below 256, numbers below 100. -/
structure Fine (l : List SesV) : Prop where
  right : rightS l = true
  ok : ∀ s ∈ l, s.num < 100 ∧ 0 ≤ s.ren ∧ s.ren ≤ 255

theorem fine_of (l : List SesV) (n : Nat) (h : Rise l n) (hn : n ≤ 8) (h5 : l.length ≤ 5) : Fine (apartN 0 l) := by
  refine ⟨(rightS_iff _).2 ⟨by rw [apartN_length]; exact h5, apartN_rs l 0 n h hn (by omega)⟩, fun s hs => ?_⟩
  obtain ⟨y, hy, j, _, h2, rfl⟩ := apartN_mem l 0 s hs
  have := h.ok y hy
  dsimp only
  omega

/-- The first k have other numbers. -/
def numN (l : List SesV) (k : Nat) : List SesV := apartN 0 (l.take k) ++ l.drop k

theorem numN_zero (l : List SesV) : numN l 0 = l := by simp [numN, apartN]
theorem numN_all (l : List SesV) : numN l l.length = apartN 0 l := by simp [numN]
theorem numN_length (l : List SesV) (k : Nat) (h : k ≤ l.length) : (numN l k).length = l.length := by
  unfold numN
  rw [List.length_append, apartN_length, List.length_take, List.length_drop]
  omega

theorem apartN_append : ∀ (l m : List SesV) (i : Nat), apartN i (l ++ m) = apartN i l ++ apartN (i + l.length) m
  | [], m, i => by simp [apartN]
  | s :: l, m, i => by
    show (⟨s.client, 10 * (i : Int) + s.num, s.ren⟩ : SesV) :: apartN (i + 1) (l ++ m) = (⟨s.client, 10 * (i : Int) + s.num, s.ren⟩ : SesV) :: (apartN (i + 1) l ++ apartN (i + (l.length + 1)) m)
    rw [apartN_append l m (i + 1), show i + 1 + l.length = i + (l.length + 1) by omega]

theorem numN_get (l : List SesV) (k : Nat) (h : k < l.length) (h' : k < (numN l k).length) : (numN l k)[k] = l[k] := by
  unfold numN at h' ⊢
  have hk : (apartN 0 (l.take k)).length = k := by rw [apartN_length, List.length_take]; omega
  rw [List.getElem_append_right (by omega)]
  simp only [hk, Nat.sub_self, List.getElem_drop]
  rfl

theorem numN_succ (l : List SesV) (k : Nat) (h : k < l.length) : numN l (k + 1) = (numN l k).set k ⟨l[k].client, 10 * (k : Int) + l[k].num, l[k].ren⟩ := by
  unfold numN
  have hk : (apartN 0 (l.take k)).length = k := by rw [apartN_length, List.length_take]; omega
  have hk2 : (l.take k).length = k := by rw [List.length_take]; omega
  rw [List.take_succ_eq_append_getElem h, apartN_append, List.set_append_right _ _ (by omega), hk, Nat.sub_self, List.append_assoc, hk2, Nat.zero_add]
  congr 1
  have e := List.drop_eq_getElem_cons h
  rw [e]
  rfl



theorem ses_num (I X r q : Nat) (hI : I ≤ 8) (hX : X < 256) (hr : (X : Int) % 3 = (r : Int)) (hr3 : r < 3) (hq : ((I : Int) + (r : Int) * 3) % 8 = (q : Int)) (hq8 : q < 8) : (IntKind.i64.wrap (1 + (IntKind.i64.wrap ((I : Int) + IntKind.i64.wrap (IntKind.i64.wrap ((X : Int).tmod 3) * 3))).tmod 8)) = 1 + (q : Int) := by
  have h0 : (X : Int).tmod 3 = (r : Int) := by rw [Int.tmod_eq_emod_of_nonneg (by omega)]; exact hr
  have w0 : IntKind.i64.wrap (r : Int) = (r : Int) := by rw [IntKind.wrap_i64]; omega
  have w1 : IntKind.i64.wrap ((r : Int) * 3) = (r : Int) * 3 := by rw [IntKind.wrap_i64]; omega
  have w2 : IntKind.i64.wrap ((I : Int) + (r : Int) * 3) = (I : Int) + (r : Int) * 3 := by rw [IntKind.wrap_i64]; omega
  have h1 : ((I : Int) + (r : Int) * 3).tmod 8 = (q : Int) := by rw [Int.tmod_eq_emod_of_nonneg (by omega)]; exact hq
  have w3 : IntKind.i64.wrap (1 + (q : Int)) = 1 + (q : Int) := by rw [IntKind.wrap_i64]; omega
  rw [h0, w0, w1, w2, h1, w3]


end Cm
end Go.Proofs.Ytnkooajbenhjhaa

/- Contracts: slices.IndexFunc, slices.ContainsFunc over sessions, whatever the test. -/
set_option linter.unusedVariables false
set_option linter.unusedSimpArgs false
namespace Go.Proofs.Ytnkooajbenhjhaa
open Go.RowKit Go.Shelf
namespace Cm

/-- The place of the first that meets the test, or -1. -/
def idxI {α : Type} (p : α → Bool) (l : List α) : Int := if l.findIdx p < l.length then (l.findIdx p : Int) else -1

theorem idxI_hit {α : Type} (p : α → Bool) (l : List α) (k : Nat) (h : k < l.length) (hp : p l[k] = true) (hb : ∀ j (hj : j < k), p (l[j]'(by omega)) = false) : idxI p l = k := by
  have e : l.findIdx p = k := (List.findIdx_eq h).2 ⟨hp, hb⟩
  unfold idxI
  rw [e, if_pos h]

theorem idxI_miss {α : Type} (p : α → Bool) (l : List α) (hb : ∀ j (hj : j < l.length), p l[j] = false) : idxI p l = -1 := by
  have : ¬ l.findIdx p < l.length := fun q => by
    have h1 := List.findIdx_getElem (w := q)
    rw [hb _ q] at h1
    cases h1
  unfold idxI
  rw [if_neg this]

theorem idxI_ge {α : Type} (p : α → Bool) (l : List α) : -1 ≤ idxI p l := by unfold idxI; split <;> omega
theorem idxI_lt {α : Type} (p : α → Bool) (l : List α) : idxI p l < l.length := by unfold idxI; split <;> omega

theorem idxI_any {α : Type} (p : α → Bool) (l : List α) : decide (0 ≤ idxI p l) = l.any p := by
  unfold idxI
  by_cases h : l.findIdx p < l.length
  · rw [if_pos h, decide_eq_true (by omega), Eq.comm, List.any_eq_true]
    exact ⟨l[l.findIdx p], List.getElem_mem _, List.findIdx_getElem (w := h)⟩
  · rw [if_neg h, decide_eq_false (by omega), Eq.comm, List.any_eq_false]
    intro x hx q
    exact h (List.findIdx_lt_length_of_exists ⟨x, hx, q⟩)

/-- A number told, new blocks laid. -/
def SaysI (r : Int) (w : World) (e : Ending) (w' : World) : Prop := e = .returned (.int .i64 r) ∧ Below w.heap.size w w'



end Cm
end Go.Proofs.Ytnkooajbenhjhaa

/- What package line answers, as plain functions over lists of numbers. No program is named here but in the contracts' forms. -/
set_option linter.unusedVariables false
set_option linter.unusedSimpArgs false
namespace Go.Proofs.Ytnkooajbenhjhaa
open Go.RowKit
namespace Cm

def hasL (l : List Int) (c : Int) : Bool := l.any fun y => decide (y = c)

def isN (c : Int) (y : Int) : Bool := decide (y = c)
theorem hasL_idx (l : List Int) (c : Int) : hasL l c = decide (0 ≤ idxI (isN c) l) := (idxI_any (isN c) l).symm

/-- Its place, and whether it is there. -/
def aheadL (l : List Int) (c : Int) : Int × Bool := if idxI (isN c) l < 0 then (0, false) else (idxI (isN c) l, true)
theorem aheadL_has (l : List Int) (c : Int) : (aheadL l c).2 = hasL l c := by
  rw [hasL_idx]
  unfold aheadL
  split
  · exact (decide_eq_false (by omega)).symm
  · exact (decide_eq_true (by omega)).symm

def lineGo (pre : List Int) : List Int → Bool
  | [] => true
  | c :: l => clientF c && !hasL pre c && lineGo (pre ++ [c]) l
def rightL (l : List Int) : Bool := decide (l.length ≤ 3) && lineGo [] l

def joinL (l : List Int) (c : Int) : List Int × Int × Int :=
  if clientF c = false then ([], 0, 1) else if hasL l c = true then ([], 0, 7) else if 3 ≤ l.length then ([], 0, 5) else (l ++ [c], l.length, 0)

def withoutL (l gone : List Int) : List Int := l.filter fun x => !hasL gone x

/-! ### Right lines, as a relation -/
structure Rl (l : List Int) : Prop where
  ok : ∀ c ∈ l, clientF c = true
  apart : l.Pairwise fun a b => a ≠ b

theorem hasL_iff (l : List Int) (c : Int) : hasL l c = true ↔ c ∈ l := by
  unfold hasL
  rw [List.any_eq_true]
  constructor
  · rintro ⟨x, hx, h⟩
    rw [decide_eq_true_eq] at h
    rw [← h]; exact hx
  · intro h
    exact ⟨c, h, by simp⟩
theorem hasL_not (l : List Int) (c : Int) : hasL l c = false ↔ c ∉ l := by
  rw [← hasL_iff]
  simp

theorem lineGo_iff (l : List Int) : ∀ pre, Rl pre → (lineGo pre l = true ↔ Rl (pre ++ l)) := by
  induction l with
  | nil => intro pre h; simp [lineGo, h]
  | cons c l ih =>
    intro pre h
    have e : pre ++ c :: l = (pre ++ [c]) ++ l := by simp
    have hs : Rl (pre ++ [c]) ↔ clientF c = true ∧ c ∉ pre := by
      constructor
      · intro q
        refine ⟨q.ok c (by simp), fun hm => ?_⟩
        exact (List.pairwise_append.1 q.apart).2.2 c hm c (by simp) rfl
      · rintro ⟨q1, q2⟩
        refine ⟨fun x hx => ?_, List.pairwise_append.2 ⟨h.apart, List.pairwise_singleton _ _, fun a ha b hb => ?_⟩⟩
        · rcases List.mem_append.1 hx with g | g
          · exact h.ok x g
          · rw [List.mem_singleton] at g; rw [g]; exact q1
        · rw [List.mem_singleton] at hb; subst hb
          intro e2; exact q2 (e2 ▸ ha)
    unfold lineGo
    rw [Bool.and_eq_true, Bool.and_eq_true, e]
    constructor
    · rintro ⟨⟨h1, h2⟩, h3⟩
      have h4 : Rl (pre ++ [c]) := hs.2 ⟨h1, (hasL_not _ _).1 (by simpa using h2)⟩
      exact (ih _ h4).1 h3
    · intro q
      have h4 : Rl (pre ++ [c]) := ⟨fun x hx => q.ok x (List.mem_append_left _ hx), (List.pairwise_append.1 q.apart).1⟩
      obtain ⟨h1, h2⟩ := hs.1 h4
      exact ⟨⟨h1, by rw [(hasL_not _ _).2 h2]; rfl⟩, (ih _ h4).2 q⟩

theorem rightL_iff (l : List Int) : rightL l = true ↔ l.length ≤ 3 ∧ Rl l := by
  unfold rightL
  rw [Bool.and_eq_true, decide_eq_true_eq, lineGo_iff l [] ⟨(fun c hc => by cases hc), List.Pairwise.nil⟩, List.nil_append]

/-- The line goes by its first so many. -/
theorem lineGo_drop (l : List Int) (j : Nat) (h : j < l.length) : lineGo (l.take j) (l.drop j) = (clientF l[j] && !hasL (l.take j) l[j] && lineGo (l.take (j + 1)) (l.drop (j + 1))) := by
  rw [List.drop_eq_getElem_cons h]
  have : l.take (j + 1) = l.take j ++ [l[j]] := List.take_succ_eq_append_getElem h
  rw [this]
  rfl

theorem withoutL_succ (l gone : List Int) (j : Nat) (h : j < l.length) : withoutL (l.take (j + 1)) gone = withoutL (l.take j) gone ++ if hasL gone l[j] then [] else [l[j]] := by
  unfold withoutL
  rw [List.take_succ_eq_append_getElem h, List.filter_append]
  congr 1
  cases q : hasL gone l[j] <;> simp [q]

theorem join_right (l : List Int) (c : Int) (h : rightL l = true) (hj : (joinL l c).2.2 = 0) : rightL (joinL l c).1 = true := by
  obtain ⟨h3, hr⟩ := (rightL_iff l).1 h
  unfold joinL at hj ⊢
  split at hj
  · cases hj
  · rename_i h1
    rw [if_neg h1]
    split at hj
    · cases hj
    · rename_i h2
      rw [if_neg h2]
      split at hj
      · cases hj
      · rename_i h4
        rw [if_neg h4]
        dsimp only
        refine (rightL_iff _).2 ⟨by rw [List.length_append, List.length_singleton]; omega, fun x hx => ?_, List.pairwise_append.2 ⟨hr.apart, List.pairwise_singleton _ _, fun a ha b hb => ?_⟩⟩
        · rcases List.mem_append.1 hx with g | g
          · exact hr.ok x g
          · rw [List.mem_singleton] at g; rw [g]; simpa using h1
        · rw [List.mem_singleton] at hb; subst hb
          intro e; exact h2 ((hasL_iff _ _).2 (e ▸ ha))

theorem without_right (l gone : List Int) (h : rightL l = true) : rightL (withoutL l gone) = true := by
  obtain ⟨h3, hr⟩ := (rightL_iff l).1 h
  refine (rightL_iff _).2 ⟨?_, fun x hx => hr.ok x (List.mem_filter.1 hx).1, hr.apart.filter _⟩
  have := List.length_filter_le (fun x => !hasL gone x) l
  unfold withoutL
  omega

theorem tail_right (l : List Int) (h : rightL l = true) : rightL (l.drop 1) = true := by
  obtain ⟨h3, hr⟩ := (rightL_iff l).1 h
  exact (rightL_iff _).2 ⟨by rw [List.length_drop]; omega, fun x hx => hr.ok x (List.mem_of_mem_drop hx), hr.apart.sublist (List.drop_sublist 1 l)⟩

theorem nil_right : rightL [] = true := by decide
end Cm
end Go.Proofs.Ytnkooajbenhjhaa
