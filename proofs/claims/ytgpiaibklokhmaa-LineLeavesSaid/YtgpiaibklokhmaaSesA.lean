/- Contracts: padlockref6's readers of sessions: high, client, In, FindSession, SameSessions; padlockref4's SameInts. -/
import Derived.Test.YtgpiaibklokhmaaGen
import Derived.Test.YtgpiaibklokhmaaFSes
import Derived.Test.YtgpiaibklokhmaaCmdC
import Derived.Deep.Cut
import Derived.Deep.CutBlock
import Derived.Deep.DeepCutAuto
import Derived.Deep.CutRange
import Derived.BigQuiet
import Derived.Deep.RegionWith
set_option linter.unusedVariables false
set_option linter.unusedSimpArgs false
namespace Go.Proofs.Ytgpiaibklokhmaa
open Go.RowKit
namespace Cm

def cellsS (s : SesV) : List Value := [.int .i64 s.client, .int .i64 s.num, .int .i64 s.ren]
theorem cellsS_length (s : SesV) : (cellsS s).length = 3 := rfl
def sesVal (s : SesV) : Value := .agg #[.int .i64 s.client, .int .i64 s.num, .int .i64 s.ren]

/-- The slice reads as these sessions. -/
abbrev RdS := RdX 3 cellsS

theorem rds_at {w : World} {a : Option Addr} {n cap : Nat} {l : List SesV} (h : RdS w (.slice a n cap) l) (i : Nat) (hi : i < l.length) :
    ∃ b o, a = some ⟨b, o, none⟩ ∧ ∀ w' : World, Below w.heap.size w w' → w'.cell? ⟨b, o + i * 3, none⟩ = some (.int .i64 l[i].client) ∧ w'.cell? ⟨b, o + i * 3 + 1, none⟩ = some (.int .i64 l[i].num) ∧ w'.cell? ⟨b, o + i * 3 + 2, none⟩ = some (.int .i64 l[i].ren) := by
  obtain ⟨b, o, e, c⟩ := h.at i hi
  exact ⟨b, o, e, fun w' hb => ⟨c w' hb 0 _ rfl, c w' hb 1 _ rfl, c w' hb 2 _ rfl⟩⟩

def cellsI (x : Int) : List Value := [.int .i64 x]
theorem cellsI_length (x : Int) : (cellsI x).length = 1 := rfl
/-- The slice reads as these numbers. -/
abbrev RdI := RdX 1 cellsI

theorem rdi_at {w : World} {a : Option Addr} {n cap : Nat} {l : List Int} (h : RdI w (.slice a n cap) l) (i : Nat) (hi : i < l.length) :
    ∃ b o, a = some ⟨b, o, none⟩ ∧ ∀ w' : World, Below w.heap.size w w' → w'.cell? ⟨b, o + i, none⟩ = some (.int .i64 l[i]) := by
  obtain ⟨b, o, e, c⟩ := h.at i hi
  refine ⟨b, o, e, fun w' hb => ?_⟩
  have := c w' hb 0 _ rfl
  rw [Nat.mul_one] at this
  exact this


theorem client6_any (c : Int) (w : World) : Calls Try.prog 25 #[.int .i64 c] w (Says (clientF c) w) := by
  unfold clientF
  by_cases h1 : 0 ≤ c <;> by_cases h2 : c < 8 <;>
    (go_enter Try.func25, Try.ntmps25
     go_wp2
     go_ret
     exact ⟨by simp [h1, h2] <;> omega, rfl⟩)

theorem any_eq_drop (l : List Int) (x : Int) (j : Nat) (h : j < l.length) : (l.drop j).any (fun y => decide (y = x)) = (decide (l[j] = x) || (l.drop (j + 1)).any fun y => decide (y = x)) := by
  rw [List.drop_eq_getElem_cons h, List.any_cons]

theorem In_any (v : Value) (l : List Int) (x : Int) (w : World) (h : RdI w v l) : Calls Try.prog 20 #[v, .int .i64 x] w (Says (l.any fun y => decide (y = x)) w) := by
  have hm := h.len
  obtain ⟨a, cap, rfl⟩ := h.form
  have HA := Lib.hid (fun i hi => rdi_at h i hi)
  have HD := Lib.hid (any_eq_drop l x)
  clear h
  obtain ⟨L, hL⟩ : ∃ L, l.length = L := ⟨_, rfl⟩
  rw [hL] at hm ⊢
  go_enter Try.func20, Try.ntmps20
  go_wp2
  go_loop [5] (fun i => ∃ j : Nat, j ≤ L ∧ i = .int .i64 j ∧ Hid ((l.any fun y => decide (y = x)) = (l.drop j).any fun y => decide (y = x))) (fun i => L - (intOf i).toNat)
  case atStart => exact ⟨0, by omega, rfl, Lib.hid rfl⟩
  case round =>
    obtain ⟨j, hj, rfl, ha⟩ := hrel
    by_cases hlt : j < L
    · obtain ⟨b, o, rfl, hc⟩ := HA.out j (by omega)
      have q1 := hc w (Below.refl _ _)
      have hd := HD.out j (by omega)
      clear HA HD hc
      generalize l[j] = g at q1 hd
      by_cases hq : g = x
      · have d : (g == x) = true := by simpa using hq
        rw [decide_eq_true hq, Bool.true_or] at hd
        have H := Lib.hid hd
        clear hd hq
        go_wp2
        go_ret
        exact ⟨by rw [ha.out, H.out]; rfl, rfl⟩
      · have d : (g == x) = false := by simpa using hq
        rw [decide_eq_false hq, Bool.false_or] at hd
        have H := Lib.hid hd
        clear hd hq
        go_wp2
        go_round
        case rel => exact ⟨j + 1, by omega, by go_num, Lib.hid (by rw [ha.out, H.out])⟩
        case measure => simp [intOf]; omega
    · obtain rfl : j = L := by omega
      go_wp2
      go_ret
      have ha := ha.out
      rw [← hL, List.drop_length] at ha
      exact ⟨by rw [ha]; rfl, rfl⟩

theorem findS_drop (l : List SesV) (c : Int) (j : Nat) (h : j < l.length) : findS (l.drop j) c = if l[j].client = c then (l[j], true) else findS (l.drop (j + 1)) c := by
  rw [List.drop_eq_getElem_cons h]
  rfl

/-- A session and a truth told. -/
def Found (r : SesV × Bool) (w : World) (e : Ending) (w' : World) : Prop := e = .returned (.tuple #[sesVal r.1, .bool r.2]) ∧ Below w.heap.size w w'


end Cm
end Go.Proofs.Ytgpiaibklokhmaa
