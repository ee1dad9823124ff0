/- Contracts: padlockref6's readers of sessions: high, client, In, FindSession, SameSessions; padlockref4's SameInts. -/
import Derived.Test.YtkhcnhfdcbellaaGen
import Derived.Test.YtkhcnhfdcbellaaFSes
import Derived.Test.YtkhcnhfdcbellaaCmdC
import Derived.Deep.Cut
import Derived.Deep.CutBlock
import Derived.Deep.DeepCutAuto
import Derived.Deep.CutRange
import Derived.BigQuiet
import Derived.Deep.RegionWith
set_option linter.unusedVariables false
set_option linter.unusedSimpArgs false
namespace Go.Proofs.Ytkhcnhfdcbellaa
open Go.RowKit
namespace Cm

def cellsS (s : SesV) : List Value := [.int .i64 s.client, .int .i64 s.num, .int .i64 s.ren]
theorem cellsS_length (s : SesV) : (cellsS s).length = 3 := rfl
def sesVal (s : SesV) : Value := .agg #[.int .i64 s.client, .int .i64 s.num, .int .i64 s.ren]

/-- The slice reads as these sessions. -/
abbrev RdS := RdX 3 cellsS

theorem rds_at {w : World} {a : Option Addr} {n cap : Nat} {l : List SesV} (h : RdS w (.slice a n cap) l) (i : Nat) (hi : i < l.length) :
    ∃ b o, a = some ⟨b, o, none⟩ ∧ ∀ w' : World, Below w.heap.size w w' → w'.cell? ⟨b, o + i * 3, none⟩ = some (.int .i64 l[i].client) ∧ w'.cell? ⟨b, o + i * 3 + 1, none⟩ = some (.int .i64 l[i].num) ∧ w'.cell? ⟨b, o + i * 3 + 2, none⟩ = some (.int .i64 l[i].ren) := by
  obtain ⟨b, o, e, c⟩ := h.at i hi
  exact ⟨b, o, e, fun w' hb => ⟨c w' hb 0 _ rfl, c w' hb 1 _ rfl, c w' hb 2 _ rfl⟩⟩

def cellsI (x : Int) : List Value := [.int .i64 x]
theorem cellsI_length (x : Int) : (cellsI x).length = 1 := rfl
/-- The slice reads as these numbers. -/
abbrev RdI := RdX 1 cellsI

theorem rdi_at {w : World} {a : Option Addr} {n cap : Nat} {l : List Int} (h : RdI w (.slice a n cap) l) (i : Nat) (hi : i < l.length) :
    ∃ b o, a = some ⟨b, o, none⟩ ∧ ∀ w' : World, Below w.heap.size w w' → w'.cell? ⟨b, o + i, none⟩ = some (.int .i64 l[i]) := by
  obtain ⟨b, o, e, c⟩ := h.at i hi
  refine ⟨b, o, e, fun w' hb => ?_⟩
  have := c w' hb 0 _ rfl
  rw [Nat.mul_one] at this
  exact this

theorem high6_any (v least : Int) (w : World) : Calls Try.prog 31 #[.int .i64 v, .int .i64 least] w (Says (highF v least) w) := by
  unfold highF
  by_cases h1 : least ≤ v <;> by_cases h2 : v ≤ 2305843009213693952 <;>
    (go_enter Try.func31, Try.ntmps31
     go_wp2
     go_ret
     exact ⟨by simp [h1, h2] <;> omega, rfl⟩)

theorem client6_any (c : Int) (w : World) : Calls Try.prog 30 #[.int .i64 c] w (Says (clientF c) w) := by
  unfold clientF
  by_cases h1 : 0 ≤ c <;> by_cases h2 : c < 8 <;>
    (go_enter Try.func30, Try.ntmps30
     go_wp2
     go_ret
     exact ⟨by simp [h1, h2] <;> omega, rfl⟩)

theorem any_eq_drop (l : List Int) (x : Int) (j : Nat) (h : j < l.length) : (l.drop j).any (fun y => decide (y = x)) = (decide (l[j] = x) || (l.drop (j + 1)).any fun y => decide (y = x)) := by
  rw [List.drop_eq_getElem_cons h, List.any_cons]

theorem In_any (v : Value) (l : List Int) (x : Int) (w : World) (h : RdI w v l) : Calls Try.prog 24 #[v, .int .i64 x] w (Says (l.any fun y => decide (y = x)) w) := by
  have hm := h.len
  obtain ⟨a, cap, rfl⟩ := h.form
  have HA := Lib.hid (fun i hi => rdi_at h i hi)
  have HD := Lib.hid (any_eq_drop l x)
  clear h
  obtain ⟨L, hL⟩ : ∃ L, l.length = L := ⟨_, rfl⟩
  rw [hL] at hm ⊢
  go_enter Try.func24, Try.ntmps24
  go_wp2
  go_loop [5] (fun i => ∃ j : Nat, j ≤ L ∧ i = .int .i64 j ∧ Hid ((l.any fun y => decide (y = x)) = (l.drop j).any fun y => decide (y = x))) (fun i => L - (intOf i).toNat)
  case atStart => exact ⟨0, by omega, rfl, Lib.hid rfl⟩
  case round =>
    obtain ⟨j, hj, rfl, ha⟩ := hrel
    by_cases hlt : j < L
    · obtain ⟨b, o, rfl, hc⟩ := HA.out j (by omega)
      have q1 := hc w (Below.refl _ _)
      have hd := HD.out j (by omega)
      clear HA HD hc
      generalize l[j] = g at q1 hd
      by_cases hq : g = x
      · have d : (g == x) = true := by simpa using hq
        rw [decide_eq_true hq, Bool.true_or] at hd
        have H := Lib.hid hd
        clear hd hq
        go_wp2
        go_ret
        exact ⟨by rw [ha.out, H.out]; rfl, rfl⟩
      · have d : (g == x) = false := by simpa using hq
        rw [decide_eq_false hq, Bool.false_or] at hd
        have H := Lib.hid hd
        clear hd hq
        go_wp2
        go_round
        case rel => exact ⟨j + 1, by omega, by go_num, Lib.hid (by rw [ha.out, H.out])⟩
        case measure => simp [intOf]; omega
    · obtain rfl : j = L := by omega
      go_wp2
      go_ret
      have ha := ha.out
      rw [← hL, List.drop_length] at ha
      exact ⟨by rw [ha]; rfl, rfl⟩

theorem findS_drop (l : List SesV) (c : Int) (j : Nat) (h : j < l.length) : findS (l.drop j) c = if l[j].client = c then (l[j], true) else findS (l.drop (j + 1)) c := by
  rw [List.drop_eq_getElem_cons h]
  rfl

/-- A session and a truth told. -/
def Found (r : SesV × Bool) (w : World) (e : Ending) (w' : World) : Prop := e = .returned (.tuple #[sesVal r.1, .bool r.2]) ∧ Below w.heap.size w w'

set_option maxHeartbeats 1000000 in
theorem Find_any (v : Value) (l : List SesV) (c : Int) (w : World) (h : RdS w v l) : Calls Try.prog 17 #[v, .int .i64 c] w (Found (findS l c) w) := by
  have hm := h.len
  obtain ⟨a, cap, rfl⟩ := h.form
  have HA := Lib.hid (fun i hi => rds_at h i hi)
  have HD := Lib.hid (findS_drop l c)
  clear h
  obtain ⟨L, hL⟩ : ∃ L, l.length = L := ⟨_, rfl⟩
  rw [hL] at hm ⊢
  go_enter Try.func17, Try.ntmps17
  go_wp2
  have hB := newAlloc w (.cells #[.int .i64 0, .int .i64 0, .int .i64 0] 34)
  obtain ⟨c0, c1, c2⟩ := box3 (Below.refl _ (w.alloc (.cells #[.int .i64 0, .int .i64 0, .int .i64 0] 34)))
  have f0 := free3 (Below.refl _ (w.alloc (.cells #[.int .i64 0, .int .i64 0, .int .i64 0] 34)))
  generalize w.alloc (.cells #[.int .i64 0, .int .i64 0, .int .i64 0] 34) = W at *
  have HB := Lib.hid hB
  clear hB
  go_loop [6] (fun i => ∃ j : Nat, j ≤ L ∧ i = .int .i64 j ∧ Hid (findS l c = findS (l.drop j) c)) (fun i => L - (intOf i).toNat)
  case atStart => exact ⟨0, by omega, rfl, Lib.hid rfl⟩
  case round =>
    obtain ⟨j, hj, rfl, ha⟩ := hrel
    by_cases hlt : j < L
    · obtain ⟨b, o, rfl, hc⟩ := HA.out j (by omega)
      obtain ⟨q0, q1, q2⟩ := hc W HB.out
      have hd := HD.out j (by omega)
      clear HA HD hc
      generalize l[j] = g at q0 q1 q2 hd
      obtain ⟨gc, gn, gr⟩ := g
      dsimp only at q0 q1 q2 hd
      by_cases hq : gc = c
      · have d : (gc == c) = true := by simpa using hq
        rw [if_pos hq] at hd
        have H := Lib.hid hd
        clear hd hq
        go_wp2
        refine bodyPost_ret (by simp [results, Try.results17, go_sem, c0, c1, c2, f0] <;> rfl) rfl ⟨by rw [ha.out, H.out]; rfl, set3 HB.out _ _ _⟩
      · have d : (gc == c) = false := by simpa using hq
        rw [if_neg hq] at hd
        have H := Lib.hid hd
        clear hd hq
        go_wp2
        go_round
        case rel => exact ⟨j + 1, by omega, by go_num, Lib.hid (by rw [ha.out, H.out])⟩
        case measure => simp [intOf]; omega
    · obtain rfl : j = L := by omega
      have ha := ha.out
      rw [← hL, List.drop_length] at ha
      have H := Lib.hid ha
      clear ha
      go_wp2
      refine bodyPost_ret (by simp [results, Try.results17, go_sem, c0, c1, c2, f0] <;> rfl) rfl ⟨by rw [H.out]; rfl, set3 HB.out _ _ _⟩
end Cm
end Go.Proofs.Ytkhcnhfdcbellaa
