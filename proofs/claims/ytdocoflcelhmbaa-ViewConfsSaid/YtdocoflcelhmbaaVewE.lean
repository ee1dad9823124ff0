/- Contract of the statements' Conf of layer 13: a setting by numbers, one that may be. -/
import Derived.Test.YtdocoflcelhmbaaVewD
import Derived.Deep.Cut
import Derived.Deep.CutBlock
import Derived.Deep.DeepCutAuto
set_option linter.unusedVariables false
set_option maxRecDepth 8000
set_option linter.unusedSimpArgs false
namespace Go.Proofs.Ytdocoflcelhmbaa
open Go.RowKit
namespace Vw

/-- A setting as Conf has it behind so many numbers. -/
structure Good (j : Nat) (c : ConfV) : Prop where
  reps : c.reps = 1 ∨ c.reps = 3 ∨ c.reps = 5 ∨ c.reps = 7
  clients : 1 ≤ c.clients ∧ c.clients ≤ 8
  lease : 1 ≤ c.lease ∧ c.lease ≤ 1000
  rho : 0 ≤ c.rho ∧ c.rho ≤ 200
  base : 1 ≤ c.base ∧ c.base ≤ 20
  cap : c.base ≤ c.cap ∧ c.cap ≤ 1000
  capA : j ≤ 3 → c.cap = 40
  beat : 1 ≤ c.beat ∧ c.beat ≤ 1000
  wait : 0 ≤ c.wait ∧ c.wait ≤ 1000
  sweep : 1 ≤ c.sweep ∧ c.sweep ≤ 1000
  retry : 1 ≤ c.retry ∧ c.retry ≤ 1000
  keep : 1 ≤ c.keep ∧ c.keep ≤ 1000

theorem Good.may {j : Nat} {c : ConfV} (h : Good j c) : mayC c = true := by
  obtain ⟨h0, h1, h2, h3, h4, h5, _, h6, h7, h8, h9, h10⟩ := h
  have e0 : (someF c.reps && (c.reps % 2 == 1)) = true := by rcases h0 with e | e | e | e <;> rw [e] <;> decide
  rw [mayC_rest (by simp [ticksOf, tickF, withinF]; omega), e0]
  simp [withinF]; omega

theorem mayC_bad {c : ConfV} (h : c.reps % 2 = 0 ∨ 8 < c.clients ∨ c.cap < c.base ∨ 200 < c.rho ∨ c.wait < 0) : mayC c = false := by
  unfold mayC
  rw [Bool.and_eq_false_imp]
  intro _
  simp [withinF]
  intros
  omega

/-- Bytes of what came in, in whatever world behind it. -/
theorem byte_in {w : World} {a : Option Addr} {len cap : Nat} {A : List UInt8} (h : Rd w (.slice a len cap) A) (i : Nat) (hi : i < len) :
    ∃ b o, a = some ⟨b, o, none⟩ ∧ ∀ w' : World, Below w.heap.size w w' → w'.cell? ⟨b, o + i, none⟩ = some (.int .u8 ((A.getD i 0).toNat : Int)) := by
  obtain ⟨a', len', cap', hv, hl, hc, hm, hn, hx⟩ := h.ex
  cases hv
  match a, hn, hx with
  | none, hn, _ => have := (hn rfl).1; omega
  | some x, _, hx =>
    obtain ⟨b, o, sp⟩ := x
    obtain ⟨hs, hc⟩ := hx _ rfl (by omega)
    simp only at hs hc
    subst hs
    exact ⟨b, o, rfl, fun w' hb => by rw [hb.cell (p := ⟨b, o + i, none⟩) (lt_of_cell (hc i hi))]; exact hc i hi⟩

def confZero : Obj := .cells #[.int .i64 0, .int .i64 0, .int .i64 0, .int .i64 0, .int .i64 0, .int .i64 0, .int .i64 0, .int .i64 0, .int .i64 0, .int .i64 0, .int .i64 0] 23
def confObj (c : ConfV) : Obj := .cells #[.int .i64 c.reps, .int .i64 c.clients, .int .i64 c.lease, .int .i64 c.rho, .int .i64 c.base, .int .i64 c.cap, .int .i64 c.beat, .int .i64 c.wait, .int .i64 c.sweep, .int .i64 c.retry, .int .i64 c.keep] 23

set_option maxHeartbeats 8000000 in
theorem Conf_any (v : Value) (bs : List UInt8) (w : World) (h : Rd w v bs) : Calls Try.prog 21 #[v] w (fun e w' => ∃ c, e = .returned (confVal c) ∧ mayC c = true ∧ (Good 11 c) ∧ Below w.heap.size w w') := by
  obtain ⟨a, len, cap, rfl, hl, hcap, hmx, hnn, hxx⟩ := h.ex
  subst hl
  have hm63 : bs.length ≤ 9223372036854775807 := by unfold maxLen at hmx; omega
  have HY := Lib.hid (fun i hi => byte_in h i hi)
  clear h hmx hcap hnn hxx
  generalize bs.length = len at *
  have H0 := Lib.hid (Hp.at_new w (.cells #[.int .i64 0, .int .i64 0, .int .i64 0, .int .i64 0, .int .i64 0, .int .i64 0, .int .i64 0, .int .i64 0, .int .i64 0, .int .i64 0, .int .i64 0] 23) _ rfl)
  have HB0 := Lib.hid (stepAlloc (newAlloc w (.cells #[.int .i64 0, .int .i64 0, .int .i64 0, .int .i64 0, .int .i64 0, .int .i64 0, .int .i64 0, .int .i64 0, .int .i64 0, .int .i64 0, .int .i64 0] 23)) (.cells #[.int .i64 3, .int .i64 3, .int .i64 60, .int .i64 100, .int .i64 10, .int .i64 40, .int .i64 3, .int .i64 1, .int .i64 5, .int .i64 6, .int .i64 8] 23))
  have HZ0 : Hid (Hp.At ((w.alloc (.cells #[.int .i64 0, .int .i64 0, .int .i64 0, .int .i64 0, .int .i64 0, .int .i64 0, .int .i64 0, .int .i64 0, .int .i64 0, .int .i64 0, .int .i64 0] 23)).alloc (.cells #[.int .i64 3, .int .i64 3, .int .i64 60, .int .i64 100, .int .i64 10, .int .i64 40, .int .i64 3, .int .i64 1, .int .i64 5, .int .i64 6, .int .i64 8] 23)) w.heap.size confZero) := Lib.hid (H0.out.later (newAlloc _ _))
  have HC0 : Hid (Hp.At ((w.alloc (.cells #[.int .i64 0, .int .i64 0, .int .i64 0, .int .i64 0, .int .i64 0, .int .i64 0, .int .i64 0, .int .i64 0, .int .i64 0, .int .i64 0, .int .i64 0] 23)).alloc (.cells #[.int .i64 3, .int .i64 3, .int .i64 60, .int .i64 100, .int .i64 10, .int .i64 40, .int .i64 3, .int .i64 1, .int .i64 5, .int .i64 6, .int .i64 8] 23)) (w.heap.size + 1) (confObj ⟨3, 3, 60, 100, 10, 40, 3, 1, 5, 6, 8⟩)) := Lib.hid (Hp.at_new _ _ _ (by simp))
  clear H0
  go_enter Try.func21, Try.ntmps21
  go_upto_region 2 with fail
  generalize (w.alloc (.cells #[.int .i64 0, .int .i64 0, .int .i64 0, .int .i64 0, .int .i64 0, .int .i64 0, .int .i64 0, .int .i64 0, .int .i64 0, .int .i64 0, .int .i64 0] 23)).alloc (.cells #[.int .i64 3, .int .i64 3, .int .i64 60, .int .i64 100, .int .i64 10, .int .i64 40, .int .i64 3, .int .i64 1, .int .i64 5, .int .i64 6, .int .i64 8] 23) = W at HB0 HZ0 HC0 ⊢
  go_wp2_with fail
  go_loopw [4] (fun i wr => ∃ (j : Nat) (c : ConfV), j ≤ len ∧ j ≤ 11 ∧ i = .int .i64 (j : Int) ∧ Hid (Good j c) ∧ Hid (Below w.heap.size w wr) ∧ Hid (Hp.At wr w.heap.size confZero) ∧ Hid (Hp.At wr (w.heap.size + 1) (confObj c))) (fun i _ => 11 - (intOf i).toNat)
  case atStart => exact ⟨0, _, by omega, by omega, rfl, Lib.hid ⟨by simp, by simp, by simp, by simp, by simp, by simp, by simp, by simp, by simp, by simp, by simp, by simp⟩, HB0, HZ0, HC0⟩
  case round =>
    obtain ⟨j, c, hj, hj2, rfl, HG, HB, HZ, HC⟩ := hrel
    obtain ⟨c0, c1, c2, c3, c4, c5, c6, c7, c8, c9, c10⟩ := c
    have hc := HC.out
    unfold confObj at hc
    have kf := hc.frozen
    have k0 := hc.cell 0
    have k1 := hc.cell 1
    have k2 := hc.cell 2
    have k3 := hc.cell 3
    have k4 := hc.cell 4
    have k5 := hc.cell 5
    have k6 := hc.cell 6
    have k7 := hc.cell 7
    have k8 := hc.cell 8
    have k9 := hc.cell 9
    have k10 := hc.cell 10
    simp only [List.getElem?_toArray, List.getElem?_cons_zero, List.getElem?_cons_succ] at k0 k1 k2 k3 k4 k5 k6 k7 k8 k9 k10
    clear hc
    by_cases hlt : j < len
    · by_cases hl2 : j < 11
      · obtain ⟨bb, oo, rfl, hbyte⟩ := HY.out j hlt
        have q := hbyte _ HB.out
        have hx := UInt8.toNat_lt (bs.getD j 0)
        clear hbyte HY
        generalize (bs.getD j 0).toNat = n at q hx
        have qn : IntKind.i64.wrap (n : Int) = (n : Int) := by rw [IntKind.wrap_i64]; omega
        have HBN : Hid (w.heap.size ≤ w.heap.size + 1) := Lib.hid (by omega)
        have hn := HG.out
        match j, hl2 with
        | 0, _ =>
          rw [Nat.add_zero] at q
          obtain ⟨m, hm⟩ : ∃ m, n % 6 = m := ⟨_, rfl⟩
          have hm6 : m < 6 := by omega
          have q1 : (n : Int) % 6 = (m : Int) := by omega
          have q2 : (n : Int).tmod 6 = (m : Int) := by rw [Int.tmod_eq_emod_of_nonneg (by omega)]; exact q1
          clear hm
          have hn0 : Hid (Good 0 ⟨c0, c1, c2, c3, c4, c5, c6, c7, c8, c9, c10⟩) := HG
          clear hn
          have hc9 := HC.out.later (newAlloc wr (.cells #[.int .i64 3, .int .i64 1, .int .i64 5, .int .i64 3, .int .i64 7, .int .i64 3] 3))
          unfold confObj at hc9
          have kf9 := hc9.frozen
          have k90 := hc9.cell 0
          simp only [List.getElem?_toArray, List.getElem?_cons_zero] at k90
          clear hc9
          match m, hm6 with
          | 0, _ =>
            have q1 : (n : Int) % 6 = 0 := q1
            have q2 : (n : Int).tmod 6 = 0 := q2
            go_wp2
            go_roundw
            case rel =>
              have hn := hn0.out
              have hs := newAlloc wr (.cells #[.int .i64 3, .int .i64 1, .int .i64 5, .int .i64 3, .int .i64 7, .int .i64 3] 3)
              exact ⟨1, ⟨3, c1, c2, c3, c4, c5, c6, c7, c8, c9, c10⟩, by omega, by omega, by first | rfl | go_num, Lib.hid ⟨by have := hn.reps; have := hn.base; have := hn.cap; dsimp only at *; omega, by have := hn.clients; have := hn.base; have := hn.cap; dsimp only at *; omega, by have := hn.lease; have := hn.base; have := hn.cap; dsimp only at *; omega, by have := hn.rho; have := hn.base; have := hn.cap; dsimp only at *; omega, by have := hn.base; have := hn.base; have := hn.cap; dsimp only at *; omega, by have := hn.cap; have := hn.base; have := hn.cap; dsimp only at *; omega, by have := hn.capA; have := hn.base; have := hn.cap; dsimp only at *; omega, by have := hn.beat; have := hn.base; have := hn.cap; dsimp only at *; omega, by have := hn.wait; have := hn.base; have := hn.cap; dsimp only at *; omega, by have := hn.sweep; have := hn.base; have := hn.cap; dsimp only at *; omega, by have := hn.retry; have := hn.base; have := hn.cap; dsimp only at *; omega, by have := hn.keep; have := hn.base; have := hn.cap; dsimp only at *; omega⟩, Lib.hid ((step HB.out hs).setCell (by show w.heap.size ≤ w.heap.size + 1; omega) _), Lib.hid ((HZ.out.later hs).other (by omega) _), Lib.hid ((HC.out.later hs).set 0 _)⟩
            case measure => simp [intOf] <;> omega
          | 1, _ =>
            have q1 : (n : Int) % 6 = 1 := q1
            have q2 : (n : Int).tmod 6 = 1 := q2
            go_wp2
            go_roundw
            case rel =>
              have hn := hn0.out
              have hs := newAlloc wr (.cells #[.int .i64 3, .int .i64 1, .int .i64 5, .int .i64 3, .int .i64 7, .int .i64 3] 3)
              exact ⟨1, ⟨1, c1, c2, c3, c4, c5, c6, c7, c8, c9, c10⟩, by omega, by omega, by first | rfl | go_num, Lib.hid ⟨by have := hn.reps; have := hn.base; have := hn.cap; dsimp only at *; omega, by have := hn.clients; have := hn.base; have := hn.cap; dsimp only at *; omega, by have := hn.lease; have := hn.base; have := hn.cap; dsimp only at *; omega, by have := hn.rho; have := hn.base; have := hn.cap; dsimp only at *; omega, by have := hn.base; have := hn.base; have := hn.cap; dsimp only at *; omega, by have := hn.cap; have := hn.base; have := hn.cap; dsimp only at *; omega, by have := hn.capA; have := hn.base; have := hn.cap; dsimp only at *; omega, by have := hn.beat; have := hn.base; have := hn.cap; dsimp only at *; omega, by have := hn.wait; have := hn.base; have := hn.cap; dsimp only at *; omega, by have := hn.sweep; have := hn.base; have := hn.cap; dsimp only at *; omega, by have := hn.retry; have := hn.base; have := hn.cap; dsimp only at *; omega, by have := hn.keep; have := hn.base; have := hn.cap; dsimp only at *; omega⟩, Lib.hid ((step HB.out hs).setCell (by show w.heap.size ≤ w.heap.size + 1; omega) _), Lib.hid ((HZ.out.later hs).other (by omega) _), Lib.hid ((HC.out.later hs).set 0 _)⟩
            case measure => simp [intOf] <;> omega
          | 2, _ =>
            have q1 : (n : Int) % 6 = 2 := q1
            have q2 : (n : Int).tmod 6 = 2 := q2
            go_wp2
            go_roundw
            case rel =>
              have hn := hn0.out
              have hs := newAlloc wr (.cells #[.int .i64 3, .int .i64 1, .int .i64 5, .int .i64 3, .int .i64 7, .int .i64 3] 3)
              exact ⟨1, ⟨5, c1, c2, c3, c4, c5, c6, c7, c8, c9, c10⟩, by omega, by omega, by first | rfl | go_num, Lib.hid ⟨by have := hn.reps; have := hn.base; have := hn.cap; dsimp only at *; omega, by have := hn.clients; have := hn.base; have := hn.cap; dsimp only at *; omega, by have := hn.lease; have := hn.base; have := hn.cap; dsimp only at *; omega, by have := hn.rho; have := hn.base; have := hn.cap; dsimp only at *; omega, by have := hn.base; have := hn.base; have := hn.cap; dsimp only at *; omega, by have := hn.cap; have := hn.base; have := hn.cap; dsimp only at *; omega, by have := hn.capA; have := hn.base; have := hn.cap; dsimp only at *; omega, by have := hn.beat; have := hn.base; have := hn.cap; dsimp only at *; omega, by have := hn.wait; have := hn.base; have := hn.cap; dsimp only at *; omega, by have := hn.sweep; have := hn.base; have := hn.cap; dsimp only at *; omega, by have := hn.retry; have := hn.base; have := hn.cap; dsimp only at *; omega, by have := hn.keep; have := hn.base; have := hn.cap; dsimp only at *; omega⟩, Lib.hid ((step HB.out hs).setCell (by show w.heap.size ≤ w.heap.size + 1; omega) _), Lib.hid ((HZ.out.later hs).other (by omega) _), Lib.hid ((HC.out.later hs).set 0 _)⟩
            case measure => simp [intOf] <;> omega
          | 3, _ =>
            have q1 : (n : Int) % 6 = 3 := q1
            have q2 : (n : Int).tmod 6 = 3 := q2
            go_wp2
            go_roundw
            case rel =>
              have hn := hn0.out
              have hs := newAlloc wr (.cells #[.int .i64 3, .int .i64 1, .int .i64 5, .int .i64 3, .int .i64 7, .int .i64 3] 3)
              exact ⟨1, ⟨3, c1, c2, c3, c4, c5, c6, c7, c8, c9, c10⟩, by omega, by omega, by first | rfl | go_num, Lib.hid ⟨by have := hn.reps; have := hn.base; have := hn.cap; dsimp only at *; omega, by have := hn.clients; have := hn.base; have := hn.cap; dsimp only at *; omega, by have := hn.lease; have := hn.base; have := hn.cap; dsimp only at *; omega, by have := hn.rho; have := hn.base; have := hn.cap; dsimp only at *; omega, by have := hn.base; have := hn.base; have := hn.cap; dsimp only at *; omega, by have := hn.cap; have := hn.base; have := hn.cap; dsimp only at *; omega, by have := hn.capA; have := hn.base; have := hn.cap; dsimp only at *; omega, by have := hn.beat; have := hn.base; have := hn.cap; dsimp only at *; omega, by have := hn.wait; have := hn.base; have := hn.cap; dsimp only at *; omega, by have := hn.sweep; have := hn.base; have := hn.cap; dsimp only at *; omega, by have := hn.retry; have := hn.base; have := hn.cap; dsimp only at *; omega, by have := hn.keep; have := hn.base; have := hn.cap; dsimp only at *; omega⟩, Lib.hid ((step HB.out hs).setCell (by show w.heap.size ≤ w.heap.size + 1; omega) _), Lib.hid ((HZ.out.later hs).other (by omega) _), Lib.hid ((HC.out.later hs).set 0 _)⟩
            case measure => simp [intOf] <;> omega
          | 4, _ =>
            have q1 : (n : Int) % 6 = 4 := q1
            have q2 : (n : Int).tmod 6 = 4 := q2
            go_wp2
            go_roundw
            case rel =>
              have hn := hn0.out
              have hs := newAlloc wr (.cells #[.int .i64 3, .int .i64 1, .int .i64 5, .int .i64 3, .int .i64 7, .int .i64 3] 3)
              exact ⟨1, ⟨7, c1, c2, c3, c4, c5, c6, c7, c8, c9, c10⟩, by omega, by omega, by first | rfl | go_num, Lib.hid ⟨by have := hn.reps; have := hn.base; have := hn.cap; dsimp only at *; omega, by have := hn.clients; have := hn.base; have := hn.cap; dsimp only at *; omega, by have := hn.lease; have := hn.base; have := hn.cap; dsimp only at *; omega, by have := hn.rho; have := hn.base; have := hn.cap; dsimp only at *; omega, by have := hn.base; have := hn.base; have := hn.cap; dsimp only at *; omega, by have := hn.cap; have := hn.base; have := hn.cap; dsimp only at *; omega, by have := hn.capA; have := hn.base; have := hn.cap; dsimp only at *; omega, by have := hn.beat; have := hn.base; have := hn.cap; dsimp only at *; omega, by have := hn.wait; have := hn.base; have := hn.cap; dsimp only at *; omega, by have := hn.sweep; have := hn.base; have := hn.cap; dsimp only at *; omega, by have := hn.retry; have := hn.base; have := hn.cap; dsimp only at *; omega, by have := hn.keep; have := hn.base; have := hn.cap; dsimp only at *; omega⟩, Lib.hid ((step HB.out hs).setCell (by show w.heap.size ≤ w.heap.size + 1; omega) _), Lib.hid ((HZ.out.later hs).other (by omega) _), Lib.hid ((HC.out.later hs).set 0 _)⟩
            case measure => simp [intOf] <;> omega
          | 5, _ =>
            have q1 : (n : Int) % 6 = 5 := q1
            have q2 : (n : Int).tmod 6 = 5 := q2
            go_wp2
            go_roundw
            case rel =>
              have hn := hn0.out
              have hs := newAlloc wr (.cells #[.int .i64 3, .int .i64 1, .int .i64 5, .int .i64 3, .int .i64 7, .int .i64 3] 3)
              exact ⟨1, ⟨3, c1, c2, c3, c4, c5, c6, c7, c8, c9, c10⟩, by omega, by omega, by first | rfl | go_num, Lib.hid ⟨by have := hn.reps; have := hn.base; have := hn.cap; dsimp only at *; omega, by have := hn.clients; have := hn.base; have := hn.cap; dsimp only at *; omega, by have := hn.lease; have := hn.base; have := hn.cap; dsimp only at *; omega, by have := hn.rho; have := hn.base; have := hn.cap; dsimp only at *; omega, by have := hn.base; have := hn.base; have := hn.cap; dsimp only at *; omega, by have := hn.cap; have := hn.base; have := hn.cap; dsimp only at *; omega, by have := hn.capA; have := hn.base; have := hn.cap; dsimp only at *; omega, by have := hn.beat; have := hn.base; have := hn.cap; dsimp only at *; omega, by have := hn.wait; have := hn.base; have := hn.cap; dsimp only at *; omega, by have := hn.sweep; have := hn.base; have := hn.cap; dsimp only at *; omega, by have := hn.retry; have := hn.base; have := hn.cap; dsimp only at *; omega, by have := hn.keep; have := hn.base; have := hn.cap; dsimp only at *; omega⟩, Lib.hid ((step HB.out hs).setCell (by show w.heap.size ≤ w.heap.size + 1; omega) _), Lib.hid ((HZ.out.later hs).other (by omega) _), Lib.hid ((HC.out.later hs).set 0 _)⟩
            case measure => simp [intOf] <;> omega
        | 1, _ =>
          obtain ⟨m, hm⟩ : ∃ m, n % 5 = m := ⟨_, rfl⟩
          have hm6 : m < 5 := by omega
          have q1 : (n : Int) % 5 = (m : Int) := by omega
          have q2 : (n : Int).tmod 5 = (m : Int) := by rw [Int.tmod_eq_emod_of_nonneg (by omega)]; exact q1
          obtain ⟨V, hV⟩ : ∃ V : Int, V = 1 + (m : Int) := ⟨_, rfl⟩
          have q3 : 1 + (m : Int) = V := hV.symm
          have HV := Lib.hid hV
          have hn0 := HG
          clear hn hV
          go_wp2
          go_roundw
          case rel =>
            have hn := hn0.out
            have hV := HV.out
            refine ⟨2, ⟨c0, V, c2, c3, c4, c5, c6, c7, c8, c9, c10⟩, by omega, by omega, by first | rfl | go_num, Lib.hid ⟨by have := hn.reps; have := hn.base; have := hn.cap; dsimp only at *; omega, by have := hn.clients; have := hn.base; have := hn.cap; dsimp only at *; omega, by have := hn.lease; have := hn.base; have := hn.cap; dsimp only at *; omega, by have := hn.rho; have := hn.base; have := hn.cap; dsimp only at *; omega, by have := hn.base; have := hn.base; have := hn.cap; dsimp only at *; omega, by have := hn.cap; have := hn.base; have := hn.cap; dsimp only at *; omega, by have := hn.capA; have := hn.base; have := hn.cap; dsimp only at *; omega, by have := hn.beat; have := hn.base; have := hn.cap; dsimp only at *; omega, by have := hn.wait; have := hn.base; have := hn.cap; dsimp only at *; omega, by have := hn.sweep; have := hn.base; have := hn.cap; dsimp only at *; omega, by have := hn.retry; have := hn.base; have := hn.cap; dsimp only at *; omega, by have := hn.keep; have := hn.base; have := hn.cap; dsimp only at *; omega⟩, Lib.hid (HB.out.setCell (by show w.heap.size ≤ w.heap.size + 1; omega) _), Lib.hid (HZ.out.other (by omega) _), Lib.hid ?_⟩
            have := HC.out.set 1 (.int .i64 V)
            first | exact this | (rw [q3]; exact this)
          case measure => simp [intOf] <;> omega
        | 2, _ =>
          obtain ⟨m, hm⟩ : ∃ m, n % 20 = m := ⟨_, rfl⟩
          have hm6 : m < 20 := by omega
          have q1 : (n : Int) % 20 = (m : Int) := by omega
          have q2 : (n : Int).tmod 20 = (m : Int) := by rw [Int.tmod_eq_emod_of_nonneg (by omega)]; exact q1
          obtain ⟨V, hV⟩ : ∃ V : Int, V = 1 + (m : Int) := ⟨_, rfl⟩
          have q3 : 1 + (m : Int) = V := hV.symm
          have HV := Lib.hid hV
          have hn0 := HG
          clear hn hV
          go_wp2
          go_roundw
          case rel =>
            have hn := hn0.out
            have hV := HV.out
            refine ⟨3, ⟨c0, c1, c2, c3, V, c5, c6, c7, c8, c9, c10⟩, by omega, by omega, by first | rfl | go_num, Lib.hid ⟨by have := hn.reps; have := hn.base; have := hn.cap; have := hn.capA (by omega); dsimp only at *; omega, by have := hn.clients; have := hn.base; have := hn.cap; have := hn.capA (by omega); dsimp only at *; omega, by have := hn.lease; have := hn.base; have := hn.cap; have := hn.capA (by omega); dsimp only at *; omega, by have := hn.rho; have := hn.base; have := hn.cap; have := hn.capA (by omega); dsimp only at *; omega, by have := hn.base; have := hn.base; have := hn.cap; have := hn.capA (by omega); dsimp only at *; omega, by have := hn.cap; have := hn.base; have := hn.cap; have := hn.capA (by omega); dsimp only at *; omega, by have := hn.capA; have := hn.base; have := hn.cap; have := hn.capA (by omega); dsimp only at *; omega, by have := hn.beat; have := hn.base; have := hn.cap; have := hn.capA (by omega); dsimp only at *; omega, by have := hn.wait; have := hn.base; have := hn.cap; have := hn.capA (by omega); dsimp only at *; omega, by have := hn.sweep; have := hn.base; have := hn.cap; have := hn.capA (by omega); dsimp only at *; omega, by have := hn.retry; have := hn.base; have := hn.cap; have := hn.capA (by omega); dsimp only at *; omega, by have := hn.keep; have := hn.base; have := hn.cap; have := hn.capA (by omega); dsimp only at *; omega⟩, Lib.hid (HB.out.setCell (by show w.heap.size ≤ w.heap.size + 1; omega) _), Lib.hid (HZ.out.other (by omega) _), Lib.hid ?_⟩
            have := HC.out.set 4 (.int .i64 V)
            first | exact this | (rw [q3]; exact this)
          case measure => simp [intOf] <;> omega
        | 3, _ =>
          obtain ⟨m, hm⟩ : ∃ m, n % 60 = m := ⟨_, rfl⟩
          have hm6 : m < 60 := by omega
          have q1 : (n : Int) % 60 = (m : Int) := by omega
          have q2 : (n : Int).tmod 60 = (m : Int) := by rw [Int.tmod_eq_emod_of_nonneg (by omega)]; exact q1
          have hb20 : 1 ≤ c4 ∧ c4 ≤ 20 := hn.base
          obtain ⟨V, hV⟩ : ∃ V : Int, V = c4 + (m : Int) := ⟨_, rfl⟩
          have q3 : c4 + (m : Int) = V := hV.symm
          have HV := Lib.hid hV
          have hn0 := HG
          clear hn hV
          go_wp2
          go_roundw
          case rel =>
            have hn := hn0.out
            have hV := HV.out
            refine ⟨4, ⟨c0, c1, c2, c3, c4, V, c6, c7, c8, c9, c10⟩, by omega, by omega, by first | rfl | go_num, Lib.hid ⟨by have := hn.reps; have := hn.base; have := hn.cap; dsimp only at *; omega, by have := hn.clients; have := hn.base; have := hn.cap; dsimp only at *; omega, by have := hn.lease; have := hn.base; have := hn.cap; dsimp only at *; omega, by have := hn.rho; have := hn.base; have := hn.cap; dsimp only at *; omega, by have := hn.base; have := hn.base; have := hn.cap; dsimp only at *; omega, by have := hn.cap; have := hn.base; have := hn.cap; dsimp only at *; omega, by have := hn.capA; have := hn.base; have := hn.cap; dsimp only at *; omega, by have := hn.beat; have := hn.base; have := hn.cap; dsimp only at *; omega, by have := hn.wait; have := hn.base; have := hn.cap; dsimp only at *; omega, by have := hn.sweep; have := hn.base; have := hn.cap; dsimp only at *; omega, by have := hn.retry; have := hn.base; have := hn.cap; dsimp only at *; omega, by have := hn.keep; have := hn.base; have := hn.cap; dsimp only at *; omega⟩, Lib.hid (HB.out.setCell (by show w.heap.size ≤ w.heap.size + 1; omega) _), Lib.hid (HZ.out.other (by omega) _), Lib.hid ?_⟩
            have := HC.out.set 5 (.int .i64 V)
            first | exact this | (rw [q3]; exact this)
          case measure => simp [intOf] <;> omega
        | 4, _ =>
          obtain ⟨m, hm⟩ : ∃ m, n % 6 = m := ⟨_, rfl⟩
          have hm6 : m < 6 := by omega
          have q1 : (n : Int) % 6 = (m : Int) := by omega
          have q2 : (n : Int).tmod 6 = (m : Int) := by rw [Int.tmod_eq_emod_of_nonneg (by omega)]; exact q1
          obtain ⟨V, hV⟩ : ∃ V : Int, V = 1 + (m : Int) := ⟨_, rfl⟩
          have q3 : 1 + (m : Int) = V := hV.symm
          have HV := Lib.hid hV
          have hn0 := HG
          clear hn hV
          go_wp2
          go_roundw
          case rel =>
            have hn := hn0.out
            have hV := HV.out
            refine ⟨5, ⟨c0, c1, c2, c3, c4, c5, V, c7, c8, c9, c10⟩, by omega, by omega, by first | rfl | go_num, Lib.hid ⟨by have := hn.reps; have := hn.base; have := hn.cap; dsimp only at *; omega, by have := hn.clients; have := hn.base; have := hn.cap; dsimp only at *; omega, by have := hn.lease; have := hn.base; have := hn.cap; dsimp only at *; omega, by have := hn.rho; have := hn.base; have := hn.cap; dsimp only at *; omega, by have := hn.base; have := hn.base; have := hn.cap; dsimp only at *; omega, by have := hn.cap; have := hn.base; have := hn.cap; dsimp only at *; omega, by have := hn.capA; have := hn.base; have := hn.cap; dsimp only at *; omega, by have := hn.beat; have := hn.base; have := hn.cap; dsimp only at *; omega, by have := hn.wait; have := hn.base; have := hn.cap; dsimp only at *; omega, by have := hn.sweep; have := hn.base; have := hn.cap; dsimp only at *; omega, by have := hn.retry; have := hn.base; have := hn.cap; dsimp only at *; omega, by have := hn.keep; have := hn.base; have := hn.cap; dsimp only at *; omega⟩, Lib.hid (HB.out.setCell (by show w.heap.size ≤ w.heap.size + 1; omega) _), Lib.hid (HZ.out.other (by omega) _), Lib.hid ?_⟩
            have := HC.out.set 6 (.int .i64 V)
            first | exact this | (rw [q3]; exact this)
          case measure => simp [intOf] <;> omega
        | 5, _ =>
          obtain ⟨m, hm⟩ : ∃ m, n % 4 = m := ⟨_, rfl⟩
          have hm6 : m < 4 := by omega
          have q1 : (n : Int) % 4 = (m : Int) := by omega
          have q2 : (n : Int).tmod 4 = (m : Int) := by rw [Int.tmod_eq_emod_of_nonneg (by omega)]; exact q1
          obtain ⟨V, hV⟩ : ∃ V : Int, V = (m : Int) := ⟨_, rfl⟩
          have q3 : (m : Int) = V := hV.symm
          have HV := Lib.hid hV
          have hn0 := HG
          clear hn hV
          go_wp2
          go_roundw
          case rel =>
            have hn := hn0.out
            have hV := HV.out
            refine ⟨6, ⟨c0, c1, c2, c3, c4, c5, c6, V, c8, c9, c10⟩, by omega, by omega, by first | rfl | go_num, Lib.hid ⟨by have := hn.reps; have := hn.base; have := hn.cap; dsimp only at *; omega, by have := hn.clients; have := hn.base; have := hn.cap; dsimp only at *; omega, by have := hn.lease; have := hn.base; have := hn.cap; dsimp only at *; omega, by have := hn.rho; have := hn.base; have := hn.cap; dsimp only at *; omega, by have := hn.base; have := hn.base; have := hn.cap; dsimp only at *; omega, by have := hn.cap; have := hn.base; have := hn.cap; dsimp only at *; omega, by have := hn.capA; have := hn.base; have := hn.cap; dsimp only at *; omega, by have := hn.beat; have := hn.base; have := hn.cap; dsimp only at *; omega, by have := hn.wait; have := hn.base; have := hn.cap; dsimp only at *; omega, by have := hn.sweep; have := hn.base; have := hn.cap; dsimp only at *; omega, by have := hn.retry; have := hn.base; have := hn.cap; dsimp only at *; omega, by have := hn.keep; have := hn.base; have := hn.cap; dsimp only at *; omega⟩, Lib.hid (HB.out.setCell (by show w.heap.size ≤ w.heap.size + 1; omega) _), Lib.hid (HZ.out.other (by omega) _), Lib.hid ?_⟩
            have := HC.out.set 7 (.int .i64 V)
            first | exact this | (rw [q3]; exact this)
          case measure => simp [intOf] <;> omega
        | 6, _ =>
          obtain ⟨m, hm⟩ : ∃ m, n % 9 = m := ⟨_, rfl⟩
          have hm6 : m < 9 := by omega
          have q1 : (n : Int) % 9 = (m : Int) := by omega
          have q2 : (n : Int).tmod 9 = (m : Int) := by rw [Int.tmod_eq_emod_of_nonneg (by omega)]; exact q1
          obtain ⟨V, hV⟩ : ∃ V : Int, V = 1 + (m : Int) := ⟨_, rfl⟩
          have q3 : 1 + (m : Int) = V := hV.symm
          have HV := Lib.hid hV
          have hn0 := HG
          clear hn hV
          go_wp2
          go_roundw
          case rel =>
            have hn := hn0.out
            have hV := HV.out
            refine ⟨7, ⟨c0, c1, c2, c3, c4, c5, c6, c7, V, c9, c10⟩, by omega, by omega, by first | rfl | go_num, Lib.hid ⟨by have := hn.reps; have := hn.base; have := hn.cap; dsimp only at *; omega, by have := hn.clients; have := hn.base; have := hn.cap; dsimp only at *; omega, by have := hn.lease; have := hn.base; have := hn.cap; dsimp only at *; omega, by have := hn.rho; have := hn.base; have := hn.cap; dsimp only at *; omega, by have := hn.base; have := hn.base; have := hn.cap; dsimp only at *; omega, by have := hn.cap; have := hn.base; have := hn.cap; dsimp only at *; omega, by have := hn.capA; have := hn.base; have := hn.cap; dsimp only at *; omega, by have := hn.beat; have := hn.base; have := hn.cap; dsimp only at *; omega, by have := hn.wait; have := hn.base; have := hn.cap; dsimp only at *; omega, by have := hn.sweep; have := hn.base; have := hn.cap; dsimp only at *; omega, by have := hn.retry; have := hn.base; have := hn.cap; dsimp only at *; omega, by have := hn.keep; have := hn.base; have := hn.cap; dsimp only at *; omega⟩, Lib.hid (HB.out.setCell (by show w.heap.size ≤ w.heap.size + 1; omega) _), Lib.hid (HZ.out.other (by omega) _), Lib.hid ?_⟩
            have := HC.out.set 8 (.int .i64 V)
            first | exact this | (rw [q3]; exact this)
          case measure => simp [intOf] <;> omega
        | 7, _ =>
          obtain ⟨m, hm⟩ : ∃ m, n % 9 = m := ⟨_, rfl⟩
          have hm6 : m < 9 := by omega
          have q1 : (n : Int) % 9 = (m : Int) := by omega
          have q2 : (n : Int).tmod 9 = (m : Int) := by rw [Int.tmod_eq_emod_of_nonneg (by omega)]; exact q1
          obtain ⟨V, hV⟩ : ∃ V : Int, V = 1 + (m : Int) := ⟨_, rfl⟩
          have q3 : 1 + (m : Int) = V := hV.symm
          have HV := Lib.hid hV
          have hn0 := HG
          clear hn hV
          go_wp2
          go_roundw
          case rel =>
            have hn := hn0.out
            have hV := HV.out
            refine ⟨8, ⟨c0, c1, c2, c3, c4, c5, c6, c7, c8, V, c10⟩, by omega, by omega, by first | rfl | go_num, Lib.hid ⟨by have := hn.reps; have := hn.base; have := hn.cap; dsimp only at *; omega, by have := hn.clients; have := hn.base; have := hn.cap; dsimp only at *; omega, by have := hn.lease; have := hn.base; have := hn.cap; dsimp only at *; omega, by have := hn.rho; have := hn.base; have := hn.cap; dsimp only at *; omega, by have := hn.base; have := hn.base; have := hn.cap; dsimp only at *; omega, by have := hn.cap; have := hn.base; have := hn.cap; dsimp only at *; omega, by have := hn.capA; have := hn.base; have := hn.cap; dsimp only at *; omega, by have := hn.beat; have := hn.base; have := hn.cap; dsimp only at *; omega, by have := hn.wait; have := hn.base; have := hn.cap; dsimp only at *; omega, by have := hn.sweep; have := hn.base; have := hn.cap; dsimp only at *; omega, by have := hn.retry; have := hn.base; have := hn.cap; dsimp only at *; omega, by have := hn.keep; have := hn.base; have := hn.cap; dsimp only at *; omega⟩, Lib.hid (HB.out.setCell (by show w.heap.size ≤ w.heap.size + 1; omega) _), Lib.hid (HZ.out.other (by omega) _), Lib.hid ?_⟩
            have := HC.out.set 9 (.int .i64 V)
            first | exact this | (rw [q3]; exact this)
          case measure => simp [intOf] <;> omega
        | 8, _ =>
          obtain ⟨m, hm⟩ : ∃ m, n % 12 = m := ⟨_, rfl⟩
          have hm6 : m < 12 := by omega
          have q1 : (n : Int) % 12 = (m : Int) := by omega
          have q2 : (n : Int).tmod 12 = (m : Int) := by rw [Int.tmod_eq_emod_of_nonneg (by omega)]; exact q1
          obtain ⟨V, hV⟩ : ∃ V : Int, V = 1 + (m : Int) := ⟨_, rfl⟩
          have q3 : 1 + (m : Int) = V := hV.symm
          have HV := Lib.hid hV
          have hn0 := HG
          clear hn hV
          go_wp2
          go_roundw
          case rel =>
            have hn := hn0.out
            have hV := HV.out
            refine ⟨9, ⟨c0, c1, c2, c3, c4, c5, c6, c7, c8, c9, V⟩, by omega, by omega, by first | rfl | go_num, Lib.hid ⟨by have := hn.reps; have := hn.base; have := hn.cap; dsimp only at *; omega, by have := hn.clients; have := hn.base; have := hn.cap; dsimp only at *; omega, by have := hn.lease; have := hn.base; have := hn.cap; dsimp only at *; omega, by have := hn.rho; have := hn.base; have := hn.cap; dsimp only at *; omega, by have := hn.base; have := hn.base; have := hn.cap; dsimp only at *; omega, by have := hn.cap; have := hn.base; have := hn.cap; dsimp only at *; omega, by have := hn.capA; have := hn.base; have := hn.cap; dsimp only at *; omega, by have := hn.beat; have := hn.base; have := hn.cap; dsimp only at *; omega, by have := hn.wait; have := hn.base; have := hn.cap; dsimp only at *; omega, by have := hn.sweep; have := hn.base; have := hn.cap; dsimp only at *; omega, by have := hn.retry; have := hn.base; have := hn.cap; dsimp only at *; omega, by have := hn.keep; have := hn.base; have := hn.cap; dsimp only at *; omega⟩, Lib.hid (HB.out.setCell (by show w.heap.size ≤ w.heap.size + 1; omega) _), Lib.hid (HZ.out.other (by omega) _), Lib.hid ?_⟩
            have := HC.out.set 10 (.int .i64 V)
            first | exact this | (rw [q3]; exact this)
          case measure => simp [intOf] <;> omega
        | 9, _ =>
          obtain ⟨m, hm⟩ : ∃ m, m = n := ⟨_, rfl⟩
          subst hm
          have hm6 : m < 256 := hx
          obtain ⟨V, hV⟩ : ∃ V : Int, V = 1 + (m : Int) := ⟨_, rfl⟩
          have q3 : 1 + (m : Int) = V := hV.symm
          have HV := Lib.hid hV
          have hn0 := HG
          clear hn hV
          go_wp2
          go_roundw
          case rel =>
            have hn := hn0.out
            have hV := HV.out
            refine ⟨10, ⟨c0, c1, V, c3, c4, c5, c6, c7, c8, c9, c10⟩, by omega, by omega, by first | rfl | go_num, Lib.hid ⟨by have := hn.reps; have := hn.base; have := hn.cap; dsimp only at *; omega, by have := hn.clients; have := hn.base; have := hn.cap; dsimp only at *; omega, by have := hn.lease; have := hn.base; have := hn.cap; dsimp only at *; omega, by have := hn.rho; have := hn.base; have := hn.cap; dsimp only at *; omega, by have := hn.base; have := hn.base; have := hn.cap; dsimp only at *; omega, by have := hn.cap; have := hn.base; have := hn.cap; dsimp only at *; omega, by have := hn.capA; have := hn.base; have := hn.cap; dsimp only at *; omega, by have := hn.beat; have := hn.base; have := hn.cap; dsimp only at *; omega, by have := hn.wait; have := hn.base; have := hn.cap; dsimp only at *; omega, by have := hn.sweep; have := hn.base; have := hn.cap; dsimp only at *; omega, by have := hn.retry; have := hn.base; have := hn.cap; dsimp only at *; omega, by have := hn.keep; have := hn.base; have := hn.cap; dsimp only at *; omega⟩, Lib.hid (HB.out.setCell (by show w.heap.size ≤ w.heap.size + 1; omega) _), Lib.hid (HZ.out.other (by omega) _), Lib.hid ?_⟩
            have := HC.out.set 2 (.int .i64 V)
            first | exact this | (rw [q3]; exact this)
          case measure => simp [intOf] <;> omega
        | 10, _ =>
          obtain ⟨m, hm⟩ : ∃ m, n % 201 = m := ⟨_, rfl⟩
          have hm6 : m < 201 := by omega
          have q1 : (n : Int) % 201 = (m : Int) := by omega
          have q2 : (n : Int).tmod 201 = (m : Int) := by rw [Int.tmod_eq_emod_of_nonneg (by omega)]; exact q1
          obtain ⟨V, hV⟩ : ∃ V : Int, V = (m : Int) := ⟨_, rfl⟩
          have q3 : (m : Int) = V := hV.symm
          have HV := Lib.hid hV
          have hn0 := HG
          clear hn hV
          go_wp2
          go_roundw
          case rel =>
            have hn := hn0.out
            have hV := HV.out
            refine ⟨11, ⟨c0, c1, c2, V, c4, c5, c6, c7, c8, c9, c10⟩, by omega, by omega, by first | rfl | go_num, Lib.hid ⟨by have := hn.reps; have := hn.base; have := hn.cap; dsimp only at *; omega, by have := hn.clients; have := hn.base; have := hn.cap; dsimp only at *; omega, by have := hn.lease; have := hn.base; have := hn.cap; dsimp only at *; omega, by have := hn.rho; have := hn.base; have := hn.cap; dsimp only at *; omega, by have := hn.base; have := hn.base; have := hn.cap; dsimp only at *; omega, by have := hn.cap; have := hn.base; have := hn.cap; dsimp only at *; omega, by have := hn.capA; have := hn.base; have := hn.cap; dsimp only at *; omega, by have := hn.beat; have := hn.base; have := hn.cap; dsimp only at *; omega, by have := hn.wait; have := hn.base; have := hn.cap; dsimp only at *; omega, by have := hn.sweep; have := hn.base; have := hn.cap; dsimp only at *; omega, by have := hn.retry; have := hn.base; have := hn.cap; dsimp only at *; omega, by have := hn.keep; have := hn.base; have := hn.cap; dsimp only at *; omega⟩, Lib.hid (HB.out.setCell (by show w.heap.size ≤ w.heap.size + 1; omega) _), Lib.hid (HZ.out.other (by omega) _), Lib.hid ?_⟩
            have := HC.out.set 3 (.int .i64 V)
            first | exact this | (rw [q3]; exact this)
          case measure => simp [intOf] <;> omega
      · obtain rfl : j = 11 := by omega
        have hz := HZ.out
        unfold confZero at hz
        have zf := hz.frozen
        have z0 := hz.cell 0
        have z1 := hz.cell 1
        have z2 := hz.cell 2
        have z3 := hz.cell 3
        have z4 := hz.cell 4
        have z5 := hz.cell 5
        have z6 := hz.cell 6
        have z7 := hz.cell 7
        have z8 := hz.cell 8
        have z9 := hz.cell 9
        have z10 := hz.cell 10
        simp only [List.getElem?_toArray, List.getElem?_cons_zero, List.getElem?_cons_succ] at z0 z1 z2 z3 z4 z5 z6 z7 z8 z9 z10
        have HGG := Lib.hid (show Good 11 ⟨c0, c1, c2, c3, c4, c5, c6, c7, c8, c9, c10⟩ from by have hn := HG.out; exact ⟨hn.reps, hn.clients, hn.lease, hn.rho, hn.base, hn.cap, fun h => absurd h (by omega), hn.beat, hn.wait, hn.sweep, hn.retry, hn.keep⟩)
        clear hz
        go_wp2
        refine bodyPost_ret (by simp [results, Try.results21, go_sem, z0, z1, z2, z3, z4, z5, z6, z7, z8, z9, z10] <;> rfl) rfl ⟨⟨c0, c1, c2, c3, c4, c5, c6, c7, c8, c9, c10⟩, rfl, HGG.out.may, HGG.out, (((((((((((HB.out.setCell (Nat.le_refl _) _).setCell (Nat.le_refl _) _).setCell (Nat.le_refl _) _).setCell (Nat.le_refl _) _).setCell (Nat.le_refl _) _).setCell (Nat.le_refl _) _).setCell (Nat.le_refl _) _).setCell (Nat.le_refl _) _).setCell (Nat.le_refl _) _).setCell (Nat.le_refl _) _).setCell (Nat.le_refl _) _)⟩
    · skip
      have hz := HZ.out
      unfold confZero at hz
      have zf := hz.frozen
      have z0 := hz.cell 0
      have z1 := hz.cell 1
      have z2 := hz.cell 2
      have z3 := hz.cell 3
      have z4 := hz.cell 4
      have z5 := hz.cell 5
      have z6 := hz.cell 6
      have z7 := hz.cell 7
      have z8 := hz.cell 8
      have z9 := hz.cell 9
      have z10 := hz.cell 10
      simp only [List.getElem?_toArray, List.getElem?_cons_zero, List.getElem?_cons_succ] at z0 z1 z2 z3 z4 z5 z6 z7 z8 z9 z10
      have HGG := Lib.hid (show Good 11 ⟨c0, c1, c2, c3, c4, c5, c6, c7, c8, c9, c10⟩ from by have hn := HG.out; exact ⟨hn.reps, hn.clients, hn.lease, hn.rho, hn.base, hn.cap, fun h => absurd h (by omega), hn.beat, hn.wait, hn.sweep, hn.retry, hn.keep⟩)
      clear hz
      go_wp2
      refine bodyPost_ret (by simp [results, Try.results21, go_sem, z0, z1, z2, z3, z4, z5, z6, z7, z8, z9, z10] <;> rfl) rfl ⟨⟨c0, c1, c2, c3, c4, c5, c6, c7, c8, c9, c10⟩, rfl, HGG.out.may, HGG.out, (((((((((((HB.out.setCell (Nat.le_refl _) _).setCell (Nat.le_refl _) _).setCell (Nat.le_refl _) _).setCell (Nat.le_refl _) _).setCell (Nat.le_refl _) _).setCell (Nat.le_refl _) _).setCell (Nat.le_refl _) _).setCell (Nat.le_refl _) _).setCell (Nat.le_refl _) _).setCell (Nat.le_refl _) _).setCell (Nat.le_refl _) _)⟩
end Vw
end Go.Proofs.Ytdocoflcelhmbaa
