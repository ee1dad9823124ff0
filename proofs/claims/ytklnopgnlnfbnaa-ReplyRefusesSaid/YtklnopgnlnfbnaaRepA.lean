/- Locks that are held, in memory; contracts of the document's Token. -/
import Derived.Test.YtklnopgnlnfbnaaFAnsA
import Derived.Test.YtklnopgnlnfbnaaCmdF
import Derived.Test.YtklnopgnlnfbnaaRows2
import Derived.Test.YtklnopgnlnfbnaaStep
import Derived.Deep.Cut
import Derived.Deep.CutBlock
import Derived.Deep.DeepCutAuto
import Derived.Deep.CutRange
import Derived.BigQuiet
import Derived.Deep.RegionWith
set_option linter.unusedVariables false
set_option linter.unusedSimpArgs false
namespace Go.Proofs.Ytklnopgnlnfbnaa
open Go.RowKit
namespace Cm

/-- The slice v reads as these locks that are held. -/
structure RdH (w : World) (v : Value) (l : List GrantV) : Prop where
  ex : ∃ a cap, v = .slice a l.length cap ∧ l.length ≤ cap ∧ cap ≤ maxLen ∧ (a = none → l = []) ∧
    ∀ x, a = some x → l ≠ [] → x.spot = none ∧ ∀ i (h : i < l.length), w.cell? ⟨x.block, x.off + i * 2, none⟩ = some (.string (bstr l[i].name)) ∧ w.cell? ⟨x.block, x.off + i * 2 + 1, none⟩ = some (.int .i64 l[i].token)

theorem RdH.later {w w' : World} {v : Value} {l : List GrantV} (h : RdH w v l) (hb : Below w.heap.size w w') : RdH w' v l := by
  obtain ⟨a, cap, hv, h1, h2, h3, h4⟩ := h.ex
  refine ⟨a, cap, hv, h1, h2, h3, fun x hx hp => ?_⟩
  obtain ⟨hs, hc⟩ := h4 x hx hp
  refine ⟨hs, fun i hi => ?_⟩
  obtain ⟨c1, c2⟩ := hc i hi
  exact ⟨(hb.cell (lt_of_cell c1)).trans c1, (hb.cell (lt_of_cell c2)).trans c2⟩

theorem RdH.nil (w : World) : RdH w (.slice none 0 0) [] := ⟨none, 0, rfl, Nat.le_refl _, by unfold maxLen; omega, fun _ => rfl, fun x hx => by cases hx⟩

/-- The i-th of them. -/
theorem RdH.at {w : World} {a : Option Addr} {n cap : Nat} {l : List GrantV} (h : RdH w (.slice a n cap) l) (i : Nat) (hi : i < l.length) (w' : World) (hb : Below w.heap.size w w') :
    ∃ b o, a = some ⟨b, o, none⟩ ∧ w'.cell? ⟨b, o + i * 2, none⟩ = some (.string (bstr l[i].name)) ∧ w'.cell? ⟨b, o + i * 2 + 1, none⟩ = some (.int .i64 l[i].token) := by
  obtain ⟨a', cap', hv, h1, h2, h3, h4⟩ := (h.later hb).ex
  cases hv
  match a, h3, h4 with
  | none, h3, _ => have := h3 rfl; subst this; simp at hi
  | some ⟨b, o, sp⟩, _, h4 =>
    obtain ⟨hs, hc⟩ := h4 _ rfl (by intro q; subst q; simp at hi)
    simp only at hs
    subst hs
    exact ⟨b, o, rfl, hc i hi⟩

theorem RdH.len {w : World} {v : Value} {l : List GrantV} (h : RdH w v l) : l.length ≤ 9223372036854775807 := by
  obtain ⟨a, cap, hv, h1, h2, h3, h4⟩ := h.ex
  unfold maxLen at h2
  omega

/-- A reply, as the machine holds it. -/
def repVal (r : ReplyV) (v : Value) : Value := .agg #[.int .i64 r.code, .int .i64 r.session, .int .i64 r.ahead, v]

/-- What lies in a new block of four, later. -/
theorem box4 {w w' : World} {x y z u : Value} {t : TypeId} (h : Below (w.alloc (.cells #[x, y, z, u] t)).heap.size (w.alloc (.cells #[x, y, z, u] t)) w') :
    w'.cell? ⟨w.heap.size, 0, none⟩ = some x ∧ w'.cell? ⟨w.heap.size, 1, none⟩ = some y ∧ w'.cell? ⟨w.heap.size, 2, none⟩ = some z ∧ w'.cell? ⟨w.heap.size, 3, none⟩ = some u := by
  have hl : w.heap.size < (w.alloc (.cells #[x, y, z, u] t)).heap.size := by simp
  refine ⟨?_, ?_, ?_, ?_⟩
  · rw [h.cell (p := ⟨w.heap.size, 0, none⟩) hl]; simp [go_sem]
  · rw [h.cell (p := ⟨w.heap.size, 1, none⟩) hl]; simp [go_sem]
  · rw [h.cell (p := ⟨w.heap.size, 2, none⟩) hl]; simp [go_sem]
  · rw [h.cell (p := ⟨w.heap.size, 3, none⟩) hl]; simp [go_sem]

/-- The token of the first that has this name. -/
def tokenF (l : List GrantV) (n : List UInt8) : Int := match l with
  | [] => 0
  | g :: l => if g.name = n then g.token else tokenF l n

def sameH : List GrantV → List GrantV → Bool
  | [], [] => true
  | g :: l, h :: m => decide (g.name = h.name) && decide (g.token = h.token) && sameH l m
  | _, _ => false

theorem tokenF_drop (l : List GrantV) (n : List UInt8) (j : Nat) (h : j < l.length) : tokenF (l.drop j) n = if l[j].name = n then l[j].token else tokenF (l.drop (j + 1)) n := by
  rw [List.drop_eq_getElem_cons h]
  rfl

theorem str_eq (a b : List UInt8) : ((bstr a).toList == (bstr b).toList) = decide (a = b) := by
  rw [ByteArray.toList_eq, ByteArray.toList_eq, bstr_toList, bstr_toList]
  by_cases h : a = b <;> simp [h]

set_option maxHeartbeats 1000000 in
theorem RefToken_any (r : ReplyV) (v : Value) (n : List UInt8) (w : World) (h : RdH w v r.held) :
    Calls Try.prog 18 #[repVal r v, .string (bstr n)] w fun e w' => e = .returned (.int .i64 (tokenF r.held n)) ∧ Below w.heap.size w w' := by
  obtain ⟨k, s, d, l⟩ := r
  unfold repVal
  dsimp only at h ⊢
  have hm := h.len
  obtain ⟨a, cap, rfl, -⟩ := h.ex
  have HA := Lib.hid (fun i hi => h.at i hi)
  have HD := Lib.hid (tokenF_drop l n)
  clear h
  obtain ⟨L, hL⟩ : ∃ L, l.length = L := ⟨_, rfl⟩
  rw [hL] at hm ⊢
  go_enter Try.func18, Try.ntmps18
  go_wp2
  go_loop [5] (fun i => ∃ j : Nat, j ≤ L ∧ i = .int .i64 j ∧ Hid (tokenF l n = tokenF (l.drop j) n)) (fun i => L - (intOf i).toNat)
  case atStart => exact ⟨0, by omega, rfl, Lib.hid rfl⟩
  case round =>
    obtain ⟨j, hj, rfl, ha⟩ := hrel
    by_cases hlt : j < L
    · obtain ⟨b, o, rfl, q1, q2⟩ := HA.out j (by omega) _ (newAlloc w (.cells #[.int .i64 k, .int .i64 s, .int .i64 d, .slice a L cap] 25))
      have hd := HD.out j (by omega)
      clear HA HD
      generalize l[j] = g at q1 q2 hd
      by_cases hq : g.name = n
      · have hE := str_eq g.name n
        rw [if_pos hq] at hd
        rw [decide_eq_true hq] at hE
        have H := Lib.hid hd
        clear hd hq
        go_wp2
        go_ret
        exact ⟨by rw [ha.out, H.out]; rfl, newAlloc _ _⟩
      · have hE := str_eq g.name n
        rw [if_neg hq] at hd
        rw [decide_eq_false hq] at hE
        have H := Lib.hid hd
        clear hd hq
        go_wp2
        go_round
        case rel => exact ⟨j + 1, by omega, by go_num, Lib.hid (by rw [ha.out, H.out])⟩
        case measure => simp [intOf]; omega
    · obtain rfl : j = L := by omega
      go_wp2
      go_ret
      have ha := ha.out
      rw [← hL, List.drop_length] at ha
      exact ⟨by rw [ha]; rfl, newAlloc _ _⟩

theorem same_len : ∀ (l m : List GrantV), l.length ≠ m.length → sameH l m = false
  | [], [], h => absurd rfl h
  | [], _ :: _, _ => rfl
  | _ :: _, [], _ => rfl
  | g :: l, h :: m, q => by
    have := same_len l m (by simpa using q)
    unfold sameH
    rw [this, Bool.and_false]

theorem sameH_iff : ∀ (l m : List GrantV), sameH l m = true ↔ l = m
  | [], [] => by simp [sameH]
  | [], _ :: _ => by simp [sameH]
  | _ :: _, [] => by simp [sameH]
  | ⟨a, b⟩ :: l, ⟨c, d⟩ :: m => by
    unfold sameH
    simp [sameH_iff l m]

theorem below_drewN {B : Nat} {a w : World} (h : Below B a w) (n : Nat) : Below B a (w.drewN n) := ⟨h.os, h.tape, h.output, h.size, h.block⟩

theorem same_drop (l m : List GrantV) (j : Nat) (h : j < l.length) (hm : j < m.length) : sameH (l.drop j) (m.drop j) = (decide (l[j].name = m[j].name) && decide (l[j].token = m[j].token) && sameH (l.drop (j + 1)) (m.drop (j + 1))) := by
  rw [List.drop_eq_getElem_cons h, List.drop_eq_getElem_cons hm]
  rfl

set_option maxHeartbeats 1000000 in
theorem SameGrants_any (u v : Value) (l m : List GrantV) (w : World) (h : RdH w u l) (h2 : RdH w v m) :
    Calls Try.prog 42 #[u, v] w (SaysB (sameH l m) w) := by
  have hm := h.len
  have hm2 := h2.len
  obtain ⟨a, cap, rfl, -⟩ := h.ex
  obtain ⟨a2, cap2, rfl, -⟩ := h2.ex
  by_cases hn : l.length = m.length
  · have HA := Lib.hid (fun i hi => h.at i hi)
    have HA2 := Lib.hid (fun i hi => h2.at i hi)
    have HD := Lib.hid (same_drop l m)
    clear h h2
    obtain ⟨L, hL⟩ : ∃ L, l.length = L := ⟨_, rfl⟩
    have hL2 : m.length = L := by omega
    rw [hL] at hm ⊢
    rw [hL2] at hm2 ⊢
    go_enter Try.func42, Try.ntmps42
    go_wp2
    go_loopw [5] (fun i wr => ∃ j : Nat, j ≤ L ∧ i = .int .i64 j ∧ Below w.heap.size w wr ∧ Hid (sameH l m = sameH (l.drop j) (m.drop j))) (fun i _ => L - (intOf i).toNat)
    case atStart => exact ⟨0, by omega, rfl, Below.refl _ _, Lib.hid rfl⟩
    case round =>
      obtain ⟨j, hj, rfl, hb, ha⟩ := hrel
      have HB := Lib.hid hb
      clear hb
      by_cases hlt : j < L
      · obtain ⟨b, o, rfl, q1, q2⟩ := HA.out j (by omega) _ HB.out
        obtain ⟨b', o', rfl, q3, q4⟩ := HA2.out j (by omega) _ HB.out
        have hd := HD.out j (by omega) (by omega)
        clear HA HA2 HD
        generalize l[j] = g at q1 q2 hd
        generalize m[j] = g2 at q3 q4 hd
        have hE := str_eq g.name g2.name
        by_cases e1 : g.name = g2.name ∧ g.token = g2.token
        · rw [decide_eq_true e1.1, decide_eq_true e1.2] at hd
          rw [decide_eq_true e1.1] at hE
          have d1 : (g.token == g2.token) = true := by simp [e1.2]
          have H := Lib.hid hd
          clear hd e1
          go_upto_region 6 with fail
          go_quiet (fail)
          go_wp2
          go_roundw
          case rel => exact ⟨j + 1, by omega, by go_num, below_drewN HB.out nq, Lib.hid (by rw [ha.out, H.out]; rfl)⟩
          case measure => simp [intOf]; omega
        · have d0 : (decide (g.name = g2.name) && decide (g.token = g2.token)) = false := by simpa using e1
          rw [d0] at hd
          have H := Lib.hid hd
          clear hd d0
          by_cases e2 : g.name = g2.name
          · rw [decide_eq_true e2] at hE
            have d1 : (g.token == g2.token) = false := by simpa using fun q => e1 ⟨e2, q⟩
            clear e1 e2
            go_upto_region 6 with fail
            go_quiet (fail)
            go_wp2
            go_ret
            exact ⟨by rw [ha.out, H.out]; rfl, below_drewN HB.out nq⟩
          · rw [decide_eq_false e2] at hE
            clear e1 e2
            go_upto_region 6 with fail
            go_quiet (fail)
            go_wp2
            go_ret
            exact ⟨by rw [ha.out, H.out]; rfl, below_drewN HB.out nq⟩
      · obtain rfl : j = L := by omega
        go_wp2
        go_ret
        have ha := ha.out
        rw [← hL, List.drop_length, hL, ← hL2, List.drop_length] at ha
        exact ⟨by rw [ha]; rfl, HB.out⟩
  · have d1 : ((l.length : Int) != (m.length : Int)) = true := by simp; omega
    have e : sameH l m = false := same_len l m hn
    rw [e]
    clear h h2 hn e
    generalize l.length = L at *
    generalize m.length = M at *
    go_enter Try.func42, Try.ntmps42
    go_wp2
    go_ret
    exact ⟨rfl, Below.refl _ _⟩
end Cm
end Go.Proofs.Ytklnopgnlnfbnaa
