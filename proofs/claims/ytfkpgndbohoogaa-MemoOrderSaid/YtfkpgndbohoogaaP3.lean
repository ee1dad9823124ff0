/- Texts laid together by program: CmdA, CmdB, Cat, CmdC, SesA, SesB, SesC, SesD, SesE, SesF, SesG, Idx, FMemo, CmdD, Step, CmdE, CmdF, RepA. -/
import Derived.Test.YtfkpgndbohoogaaP2
import Derived.Test.YtfkpgndbohoogaaP1
import Derived.Lib.AppendZeros
import Derived.Deep.Cut
import Derived.Deep.CutBlock
import Derived.Deep.DeepCutAuto
import Derived.Deep.CutRange
import Derived.BigQuiet
import Derived.Deep.RegionWith
import Derived.Deep.RegionHeld3
import Derived.Deep.DrawnRows
import Derived.Shelf.Abstract
import Derived.Lib.QuietBelow
/- Contracts of package cmd, and of the document's answers for it: letters, numbers, names, commands that may be. -/
set_option linter.unusedVariables false
set_option linter.unusedSimpArgs false
namespace Go.Proofs.Ytfkpgndbohoogaa
open Go.RowKit
namespace Cm

/-- A truth told, nothing turned. -/
def Says (r : Bool) (w : World) (e : Ending) (w' : World) : Prop := e = .returned (.bool r) ∧ w = w'

/-- A truth told, nothing that was there has turned. -/
def SaysB (r : Bool) (w : World) (e : Ending) (w' : World) : Prop := e = .returned (.bool r) ∧ Below w.heap.size w w'

theorem Says.b {r : Bool} {w : World} {e : Ending} {w' : World} (h : Says r w e w') : SaysB r w e w' := by
  obtain ⟨h1, rfl⟩ := h
  exact ⟨h1, Below.refl _ _⟩

theorem inName_any (c : UInt8) (w : World) : Calls Try.prog 44 #[.int .u8 (c.toNat : Int)] w (Says (nameB c) w) := by
  have hc := UInt8.toNat_lt c
  unfold nameB
  generalize c.toNat = n at hc ⊢
  by_cases h1 : 97 ≤ n <;> by_cases h2 : n ≤ 122 <;> by_cases h3 : 48 ≤ n <;> by_cases h4 : n ≤ 57 <;> by_cases h5 : n = 45 <;> first
    | (exfalso; omega)
    | (go_enter Try.func44, Try.ntmps44
       go_wp2
       go_ret
       exact ⟨by simp [h1, h2, h3, h4, h5] <;> omega, rfl⟩)


theorem high_any (v least : Int) (w : World) : Calls Try.prog 37 #[.int .i64 v, .int .i64 least] w (Says (highF v least) w) := by
  unfold highF
  by_cases h1 : least ≤ v <;> by_cases h2 : v ≤ 2305843009213693952 <;>
    (go_enter Try.func37, Try.ntmps37
     go_wp2
     go_ret
     exact ⟨by simp [h1, h2] <;> omega, rfl⟩)

/-- All of the first k letters may stand in a name. -/
theorem all_take_succ (s : List UInt8) (k : Nat) (h : k < s.length) : (s.take (k + 1)).all nameB = ((s.take k).all nameB && nameB (s.getD k 0)) := by
  rw [List.take_succ_eq_append_getElem h, List.all_append]
  simp [List.getD, List.getElem?_eq_getElem h]

theorem all_false_of (s : List UInt8) (k : Nat) (h : k < s.length) (hb : nameB (s.getD k 0) = false) : s.all nameB = false := by
  rw [List.all_eq_false]
  have e : s.getD k 0 = s[k] := by simp [List.getD, List.getElem?_eq_getElem h]
  exact ⟨s[k], List.getElem_mem h, by rw [← e, hb]; simp⟩

theorem bstr_get (s : List UInt8) (k : Nat) (h : k < s.length) (h' : k < (bstr s).size) : (bstr s)[k]'h' = s.getD k 0 := by
  simp only [List.getD, List.getElem?_eq_getElem h, Option.getD_some]
  rfl

theorem Name_any (s : List UInt8) (w : World) : Calls Try.prog 42 #[.string (bstr s)] w (Says (nameF s) w) := by
  have hs := bstr_size s
  unfold nameF
  by_cases h1 : s.length < 1
  · rw [decide_eq_false (by omega)]
    go_enter Try.func42, Try.ntmps42
    go_wp2
    go_ret
    exact ⟨rfl, rfl⟩
  by_cases h2 : 12 < s.length
  · rw [decide_eq_false (show ¬ s.length ≤ 12 by omega)]
    go_enter Try.func42, Try.ntmps42
    go_wp2
    go_ret
    exact ⟨by simp, rfl⟩
  rw [decide_eq_true (show 1 ≤ s.length by omega), decide_eq_true (show s.length ≤ 12 by omega)]
  go_enter Try.func42, Try.ntmps42
  go_wp2
  go_loop [14] (fun i => ∃ j : Nat, j ≤ s.length ∧ i = .int .i64 j ∧ (s.take j).all nameB = true) (fun i => s.length - (intOf i).toNat)
  case atStart => exact ⟨0, by omega, rfl, rfl⟩
  case round =>
    obtain ⟨j, hj, rfl, ha⟩ := hrel
    by_cases hlt : j < s.length
    · have hget := bstr_get s j hlt
      have HA := Lib.hid (all_take_succ s j hlt)
      have HF := Lib.hid (all_false_of s j hlt)
      generalize s.getD j 0 = c at hget HA HF
      cases hn : nameB c
      · have HN := Lib.hid hn
        clear hn
        go_wp2_with (go_at_call 44; refine (inName_any c _).mono ?_; rw [HN.out]; rintro e w' ⟨rfl, rfl⟩)
        go_ret
        exact ⟨by rw [HF.out HN.out]; rfl, rfl⟩
      · have HN := Lib.hid hn
        clear hn
        go_wp2_with (go_at_call 44; refine (inName_any c _).mono ?_; rw [HN.out]; rintro e w' ⟨rfl, rfl⟩)
        go_round
        case rel => exact ⟨j + 1, by omega, by go_num, by rw [HA.out, HN.out, ha]; rfl⟩
        case measure => simp [intOf]; omega
    · obtain rfl : j = s.length := by omega
      go_wp2
      go_ret
      rw [List.take_length] at ha
      exact ⟨by rw [ha]; rfl, rfl⟩

/-- Where a letter lies, and whether it may stand in a name. -/
theorem letter (c : UInt8) : (decide (97 ≤ (c.toNat : Int)) = true ∧ decide ((c.toNat : Int) ≤ 122) = true ∧ nameB c = true) ∨
    (decide (97 ≤ (c.toNat : Int)) = false ∧ decide (48 ≤ (c.toNat : Int)) = true ∧ decide ((c.toNat : Int) ≤ 57) = true ∧ nameB c = true) ∨
    (decide (97 ≤ (c.toNat : Int)) = false ∧ decide (48 ≤ (c.toNat : Int)) = false ∧ ((c.toNat : Int) == 45) = true ∧ nameB c = true) ∨
    (decide (97 ≤ (c.toNat : Int)) = false ∧ decide (48 ≤ (c.toNat : Int)) = false ∧ ((c.toNat : Int) == 45) = false ∧ nameB c = false) ∨
    (decide (97 ≤ (c.toNat : Int)) = false ∧ decide (48 ≤ (c.toNat : Int)) = true ∧ decide ((c.toNat : Int) ≤ 57) = false ∧ ((c.toNat : Int) == 45) = false ∧ nameB c = false) ∨
    (decide (97 ≤ (c.toNat : Int)) = true ∧ decide ((c.toNat : Int) ≤ 122) = false ∧ decide (48 ≤ (c.toNat : Int)) = true ∧ decide ((c.toNat : Int) ≤ 57) = false ∧ ((c.toNat : Int) == 45) = false ∧ nameB c = false) := by
  have hc := UInt8.toNat_lt c
  unfold nameB
  generalize c.toNat = n at hc ⊢
  simp only [decide_eq_true_eq, decide_eq_false_iff_not, beq_iff_eq, beq_eq_false_iff_ne, Bool.or_eq_true, Bool.and_eq_true, Bool.or_eq_false_iff, Bool.and_eq_false_imp]
  omega

theorem RefName_any (s : List UInt8) (w : World) : Calls Try.prog 41 #[.string (bstr s)] w (Says (nameF s) w) := by
  have hs := bstr_size s
  unfold nameF
  by_cases h1 : s.length < 1
  · rw [decide_eq_false (by omega)]
    go_enter Try.func41, Try.ntmps41
    go_wp2
    go_ret
    exact ⟨rfl, rfl⟩
  by_cases h2 : 12 < s.length
  · rw [decide_eq_false (show ¬ s.length ≤ 12 by omega)]
    go_enter Try.func41, Try.ntmps41
    go_wp2
    go_ret
    exact ⟨by simp, rfl⟩
  rw [decide_eq_true (show 1 ≤ s.length by omega), decide_eq_true (show s.length ≤ 12 by omega)]
  go_enter Try.func41, Try.ntmps41
  go_wp2
  go_loop [3] (fun i => ∃ j : Nat, j ≤ s.length ∧ i = .int .i64 j ∧ (s.take j).all nameB = true) (fun i => s.length - (intOf i).toNat)
  case atStart => exact ⟨0, by omega, rfl, rfl⟩
  case round =>
    obtain ⟨j, hj, rfl, ha⟩ := hrel
    by_cases hlt : j < s.length
    · have hget := bstr_get s j hlt
      have HA := Lib.hid (all_take_succ s j hlt)
      have HF := Lib.hid (all_false_of s j hlt)
      have HL := letter (s.getD j 0)
      generalize s.getD j 0 = c at hget HA HF HL
      have yes : nameB c = true → (s.take (j + 1)).all nameB = true := fun hn => by rw [HA.out, hn, ha]; rfl
      have YES := Lib.hid yes
      clear yes HA
      rcases HL with ⟨q1, q2, hn⟩ | ⟨q1, q2, q3, hn⟩ | ⟨q1, q2, q3, hn⟩ | ⟨q1, q2, q3, hn⟩ | ⟨q1, q2, q3, q4, hn⟩ | ⟨q1, q2, q3, q4, q5, hn⟩
      all_goals
        have HN := Lib.hid hn
        clear hn
        go_wp2
        first
          | (go_ret
             exact ⟨by rw [HF.out HN.out]; rfl, rfl⟩)
          | (go_round
             case rel => exact ⟨j + 1, by omega, by go_num, YES.out HN.out⟩
             case measure => simp [intOf]; omega)
    · obtain rfl : j = s.length := by omega
      go_wp2
      go_ret
      rw [List.take_length] at ha
      exact ⟨by rw [ha]; rfl, rfl⟩
end Cm
end Go.Proofs.Ytfkpgndbohoogaa

/- Contracts: which commands and requests may be. -/
set_option linter.unusedVariables false
set_option linter.unusedSimpArgs false
namespace Go.Proofs.Ytfkpgndbohoogaa
open Go.RowKit
namespace Cm

/-- A command, a request, as the machine holds it. -/
def cmdVal (c : CmdV) : Value := .agg #[.int .i64 c.kind, .int .i64 c.session, .string (bstr c.name)]
def reqVal (r : ReqV) : Value := .agg #[.int .i64 r.client, .int .i64 r.seq, .int .i64 r.cmd.kind, .int .i64 r.cmd.session, .string (bstr r.cmd.name)]

theorem bstr_empty (n : List UInt8) : (bstr n).toList.isEmpty = decide (n = []) := by
  rw [ByteArray.toList_eq, bstr_toList]
  cases n <;> rfl





end Cm
end Go.Proofs.Ytfkpgndbohoogaa

/- Contracts: slices.Grow and slices.Concat over bytes. -/
set_option linter.unusedVariables false
set_option linter.unusedSimpArgs false
namespace Go.Proofs.Ytfkpgndbohoogaa
open Go.RowKit

theorem owns_new (w : World) (cs : Array Value) (cap : Nat) (hc : cs.size = cap) (hm : cap ≤ maxLen) :
    (w.alloc (.cells cs 5)).drew.ownsRow w.heap.size 5 1 (.slice (some ⟨w.heap.size, 0, none⟩) 0 cap) 0 [] := by
  refine ⟨rfl, .inr ⟨w.heap.size, cap, cs, rfl, Nat.le_refl _, ?_, Nat.zero_le _, hm, by omega, by simp⟩⟩
  show (w.heap.push (.cells cs 5))[w.heap.size]? = _
  simp


/-- Bytes of bytes, one behind the other. -/
def flat (l : List (Value × List UInt8)) : List UInt8 := l.flatMap (·.2)
theorem flat_take_succ (l : List (Value × List UInt8)) (j : Nat) (h : j < l.length) : flat (l.take (j + 1)) = flat (l.take j) ++ (l[j]).2 := by
  unfold flat
  rw [List.take_succ_eq_append_getElem h, List.flatMap_append]
  simp
theorem flat_take_le (l : List (Value × List UInt8)) (j : Nat) : (flat (l.take j)).length ≤ (flat l).length := by
  conv => rhs; rw [← List.take_append_drop j l]
  unfold flat
  rw [List.flatMap_append, List.length_append]
  omega

/-- Bytes told, in new memory of the call's own. -/
def MadeOne (bs : List UInt8) (w : World) (e : Ending) (w' : World) : Prop :=
  ∃ v, e = .returned v ∧ w'.ownsRow w.heap.size 5 1 v bs.length (cellsOf bs) ∧ Below w.heap.size w w'



end Go.Proofs.Ytfkpgndbohoogaa

/- Contracts: package cmd's Put, Get of commands. -/
set_option linter.unusedVariables false
set_option linter.unusedSimpArgs false
namespace Go.Proofs.Ytfkpgndbohoogaa
open Go.RowKit
namespace Cm

/-- What lies in a new block of three, later. -/
theorem box3 {w w' : World} {x y z : Value} {t : TypeId} (h : Below (w.alloc (.cells #[x, y, z] t)).heap.size (w.alloc (.cells #[x, y, z] t)) w') :
    w'.cell? ⟨w.heap.size, 0, none⟩ = some x ∧ w'.cell? ⟨w.heap.size, 1, none⟩ = some y ∧ w'.cell? ⟨w.heap.size, 2, none⟩ = some z := by
  have hl : w.heap.size < (w.alloc (.cells #[x, y, z] t)).heap.size := by simp
  refine ⟨?_, ?_, ?_⟩
  · rw [h.cell (p := ⟨w.heap.size, 0, none⟩) hl]; simp [go_sem]
  · rw [h.cell (p := ⟨w.heap.size, 1, none⟩) hl]; simp [go_sem]
  · rw [h.cell (p := ⟨w.heap.size, 2, none⟩) hl]; simp [go_sem]

theorem box5 {w w' : World} {x y z u v : Value} {t : TypeId} (h : Below (w.alloc (.cells #[x, y, z, u, v] t)).heap.size (w.alloc (.cells #[x, y, z, u, v] t)) w') :
    w'.cell? ⟨w.heap.size, 0, none⟩ = some x ∧ w'.cell? ⟨w.heap.size, 1, none⟩ = some y ∧ w'.cell? ⟨w.heap.size, 2, none⟩ = some z ∧ w'.cell? ⟨w.heap.size, 3, none⟩ = some u ∧ w'.cell? ⟨w.heap.size, 4, none⟩ = some v := by
  have hl : w.heap.size < (w.alloc (.cells #[x, y, z, u, v] t)).heap.size := by simp
  refine ⟨?_, ?_, ?_, ?_, ?_⟩
  · rw [h.cell (p := ⟨w.heap.size, 0, none⟩) hl]; simp [go_sem]
  · rw [h.cell (p := ⟨w.heap.size, 1, none⟩) hl]; simp [go_sem]
  · rw [h.cell (p := ⟨w.heap.size, 2, none⟩) hl]; simp [go_sem]
  · rw [h.cell (p := ⟨w.heap.size, 3, none⟩) hl]; simp [go_sem]
  · rw [h.cell (p := ⟨w.heap.size, 4, none⟩) hl]; simp [go_sem]

/-- Bytes and a code told; the slice written out. -/
def MadeS (r : List UInt8 × Int) (w : World) (e : Ending) (w' : World) : Prop :=
  ∃ a l c, e = .returned (.tuple #[.slice a l c, .int .i64 r.2]) ∧ Rd w' (.slice a l c) r.1 ∧ Below w.heap.size w w'

theorem Made.s {r : List UInt8 × Int} {w : World} {e : Ending} {w' : World} (h : Made r w e w') : MadeS r w e w' := by
  obtain ⟨v, he, ho, hb⟩ := h
  have hr := Rd.own ho
  obtain ⟨a, l, c, rfl, _⟩ := hr.ex
  exact ⟨a, l, c, he, hr, hb⟩




theorem MadeOne.made {bs : List UInt8} {w0 w w' : World} {e : Ending} (h : MadeOne bs w e w') (hb : w0.heap.size ≤ w.heap.size) : ∃ v, e = .returned v ∧ w'.ownsRow w0.heap.size 5 1 v bs.length (cellsOf bs) ∧ Below w.heap.size w w' := by
  obtain ⟨v, he, ho, hbb⟩ := h
  exact ⟨v, he, own_mono ho hb, hbb⟩


theorem Rd.len_le {w : World} {v : Value} {bs : List UInt8} (h : Rd w v bs) : bs.length ≤ maxLen := by
  obtain ⟨a, l, c, _, h1, h2, h3, _⟩ := h.ex
  omega

theorem byteOf_le (bs : List UInt8) (t : Int) : (byteOf bs t).2.1 ≤ bs.length := by
  unfold byteOf
  split
  · simp
  · simp only; omega

theorem numOf_le (bs : List UInt8) (t : Int) : (numOf bs t).2.1 ≤ bs.length := by
  unfold numOf
  split
  · simp
  · split
    · simp only; omega
    · simp

theorem textOf_le (bs : List UInt8) (t m : Int) : (textOf bs t m).2.1 ≤ bs.length := by
  unfold textOf
  split
  · simp
  · split
    · simp
    · split
      · simp
      · simp only; omega

/-- A command, a place and a code told. -/
def GetsC (r : CmdV × Int × Int) (w : World) (e : Ending) (w' : World) : Prop :=
  e = .returned (.tuple #[cmdVal r.1, .int .i64 r.2.1, .int .i64 r.2.2]) ∧ Below w.heap.size w w'

theorem getF_told (bs : List UInt8) (t : Int) {k t1 e1 s t2 e2 t3 e3 : Int} {n : List UInt8} (hB : byteOf bs t = (k, t1, e1)) (hN : numOf bs t1 = (s, t2, e2)) (hT : textOf bs t2 12 = (n, t3, e3)) :
    getF bs t = if e1 ≠ 0 then (zero, 0, e1) else if e2 ≠ 0 then (zero, 0, e2) else if e3 ≠ 0 then (zero, 0, e3) else if mayF ⟨k, s, n⟩ then (⟨k, s, n⟩, t3, 0) else (zero, 0, 4) := by
  unfold getF
  rw [hB]
  dsimp only
  rw [hN]
  dsimp only
  rw [hT]

theorem free3 {w w' : World} {x y z : Value} {t : TypeId} (h : Below (w.alloc (.cells #[x, y, z] t)).heap.size (w.alloc (.cells #[x, y, z] t)) w') :
    ∀ k, w'.frozen? ⟨w.heap.size, k, none⟩ = false := by
  intro k
  have hl : w.heap.size < (w.alloc (.cells #[x, y, z] t)).heap.size := by simp
  rw [h.frozen (p := ⟨w.heap.size, k, none⟩) hl]
  simp [go_sem]

theorem set3 {w w1 : World} (h : Below w.heap.size w w1) (x y z : Value) : Below w.heap.size w (((w1.setCell ⟨w.heap.size, 0, none⟩ x).setCell ⟨w.heap.size, 1, none⟩ y).setCell ⟨w.heap.size, 2, none⟩ z) :=
  ((h.setCell (Nat.le_refl _) _).setCell (Nat.le_refl _) _).setCell (Nat.le_refl _) _


end Cm
end Go.Proofs.Ytfkpgndbohoogaa

/- Contracts: padlockref6's readers of sessions: high, client, In, FindSession, SameSessions; padlockref4's SameInts. -/
set_option linter.unusedVariables false
set_option linter.unusedSimpArgs false
namespace Go.Proofs.Ytfkpgndbohoogaa
open Go.RowKit
namespace Cm

def cellsS (s : SesV) : List Value := [.int .i64 s.client, .int .i64 s.num, .int .i64 s.ren]
theorem cellsS_length (s : SesV) : (cellsS s).length = 3 := rfl
def sesVal (s : SesV) : Value := .agg #[.int .i64 s.client, .int .i64 s.num, .int .i64 s.ren]

/-- The slice reads as these sessions. -/
abbrev RdS := RdX 3 cellsS

theorem rds_at {w : World} {a : Option Addr} {n cap : Nat} {l : List SesV} (h : RdS w (.slice a n cap) l) (i : Nat) (hi : i < l.length) :
    ∃ b o, a = some ⟨b, o, none⟩ ∧ ∀ w' : World, Below w.heap.size w w' → w'.cell? ⟨b, o + i * 3, none⟩ = some (.int .i64 l[i].client) ∧ w'.cell? ⟨b, o + i * 3 + 1, none⟩ = some (.int .i64 l[i].num) ∧ w'.cell? ⟨b, o + i * 3 + 2, none⟩ = some (.int .i64 l[i].ren) := by
  obtain ⟨b, o, e, c⟩ := h.at i hi
  exact ⟨b, o, e, fun w' hb => ⟨c w' hb 0 _ rfl, c w' hb 1 _ rfl, c w' hb 2 _ rfl⟩⟩

def cellsI (x : Int) : List Value := [.int .i64 x]
theorem cellsI_length (x : Int) : (cellsI x).length = 1 := rfl
/-- The slice reads as these numbers. -/
abbrev RdI := RdX 1 cellsI

theorem rdi_at {w : World} {a : Option Addr} {n cap : Nat} {l : List Int} (h : RdI w (.slice a n cap) l) (i : Nat) (hi : i < l.length) :
    ∃ b o, a = some ⟨b, o, none⟩ ∧ ∀ w' : World, Below w.heap.size w w' → w'.cell? ⟨b, o + i, none⟩ = some (.int .i64 l[i]) := by
  obtain ⟨b, o, e, c⟩ := h.at i hi
  refine ⟨b, o, e, fun w' hb => ?_⟩
  have := c w' hb 0 _ rfl
  rw [Nat.mul_one] at this
  exact this



theorem any_eq_drop (l : List Int) (x : Int) (j : Nat) (h : j < l.length) : (l.drop j).any (fun y => decide (y = x)) = (decide (l[j] = x) || (l.drop (j + 1)).any fun y => decide (y = x)) := by
  rw [List.drop_eq_getElem_cons h, List.any_cons]


theorem findS_drop (l : List SesV) (c : Int) (j : Nat) (h : j < l.length) : findS (l.drop j) c = if l[j].client = c then (l[j], true) else findS (l.drop (j + 1)) c := by
  rw [List.drop_eq_getElem_cons h]
  rfl

/-- A session and a truth told. -/
def Found (r : SesV × Bool) (w : World) (e : Ending) (w' : World) : Prop := e = .returned (.tuple #[sesVal r.1, .bool r.2]) ∧ Below w.heap.size w w'


end Cm
end Go.Proofs.Ytfkpgndbohoogaa

/- Contracts: padlockref6's SameSessions; padlockref4's SameInts. -/
set_option linter.unusedVariables false
set_option linter.unusedSimpArgs false
namespace Go.Proofs.Ytfkpgndbohoogaa
open Go.RowKit
namespace Cm

theorem below_drewN6 {B : Nat} {a w : World} (h : Below B a w) (n : Nat) : Below B a (w.drewN n) := ⟨h.os, h.tape, h.output, h.size, h.block⟩

def sameI : List Int → List Int → Bool
  | [], [] => true
  | x :: l, y :: m => decide (x = y) && sameI l m
  | _, _ => false

theorem sameI_len : ∀ (l m : List Int), l.length ≠ m.length → sameI l m = false
  | [], [], h => absurd rfl h
  | [], _ :: _, _ => rfl
  | _ :: _, [], _ => rfl
  | g :: l, h :: m, q => by
    have := sameI_len l m (by simpa using q)
    unfold sameI
    rw [this, Bool.and_false]

theorem sameI_iff : ∀ (l m : List Int), sameI l m = true ↔ l = m
  | [], [] => by simp [sameI]
  | [], _ :: _ => by simp [sameI]
  | _ :: _, [] => by simp [sameI]
  | a :: l, c :: m => by
    unfold sameI
    simp [sameI_iff l m]

theorem sameI_drop (l m : List Int) (j : Nat) (h : j < l.length) (hm : j < m.length) : sameI (l.drop j) (m.drop j) = (decide (l[j] = m[j]) && sameI (l.drop (j + 1)) (m.drop (j + 1))) := by
  rw [List.drop_eq_getElem_cons h, List.drop_eq_getElem_cons hm]
  rfl


def sameE (x y : SesV) : Bool := decide (x.client = y.client) && decide (x.num = y.num) && decide (x.ren = y.ren)
theorem sameE_iff (x y : SesV) : sameE x y = true ↔ x = y := by
  obtain ⟨a, b, c⟩ := x
  obtain ⟨d, e, f⟩ := y
  unfold sameE
  simp [and_assoc]

def sameL : List SesV → List SesV → Bool
  | [], [] => true
  | x :: l, y :: m => sameE x y && sameL l m
  | _, _ => false

theorem sameL_len : ∀ (l m : List SesV), l.length ≠ m.length → sameL l m = false
  | [], [], h => absurd rfl h
  | [], _ :: _, _ => rfl
  | _ :: _, [], _ => rfl
  | g :: l, h :: m, q => by
    have := sameL_len l m (by simpa using q)
    unfold sameL
    rw [this, Bool.and_false]

theorem sameL_iff : ∀ (l m : List SesV), sameL l m = true ↔ l = m
  | [], [] => by simp [sameL]
  | [], _ :: _ => by simp [sameL]
  | _ :: _, [] => by simp [sameL]
  | a :: l, c :: m => by
    unfold sameL
    simp [sameL_iff l m, sameE_iff]

theorem sameL_drop (l m : List SesV) (j : Nat) (h : j < l.length) (hm : j < m.length) : sameL (l.drop j) (m.drop j) = (sameE l[j] m[j] && sameL (l.drop (j + 1)) (m.drop (j + 1))) := by
  rw [List.drop_eq_getElem_cons h, List.drop_eq_getElem_cons hm]
  rfl


end Cm
end Go.Proofs.Ytfkpgndbohoogaa

/- Contracts: padlockref6's RightSessions. -/
set_option linter.unusedVariables false
set_option linter.unusedSimpArgs false
namespace Go.Proofs.Ytfkpgndbohoogaa
open Go.RowKit
namespace Cm

theorem quiet_eq6 {P : Program} {f : FuncId} {args : Array Value} {w : World} {n : Nat} {v : Value}
    (h : Calls P f args (w.drewN n) fun e w' => e = .returned v ∧ w.drewN n = w') : Calls P f args (w.drewN n) fun e w'' => e = .returned v ∧ ∃ m, w'' = w.drewN m :=
  h.mono fun _ _ ⟨he, hm⟩ => ⟨he, n, hm.symm⟩

theorem rightGo_drop (l : List SesV) (j : Nat) (h : j < l.length) : rightGo (l.take j) (l.drop j) = (sesOk (l.take j) l[j] && rightGo (l.take (j + 1)) (l.drop (j + 1))) := by
  rw [List.drop_eq_getElem_cons h, List.take_succ_eq_append_getElem h]
  rfl

def allN (l : List SesV) (n : Int) : Bool := l.all fun p => !decide (p.num = n)

theorem allN_drop (l : List SesV) (n : Int) (j k : Nat) (hj : j ≤ l.length) (h : k < j) : allN ((l.take j).drop k) n = (!decide ((l[k]'(by omega)).num = n) && allN ((l.take j).drop (k + 1)) n) := by
  have hk : k < (l.take j).length := by rw [List.length_take]; omega
  rw [List.drop_eq_getElem_cons hk]
  have e : (l.take j)[k] = l[k]'(by omega) := List.getElem_take
  unfold allN
  rw [List.all_cons, e]

theorem sesOk_first (s : SesV) : sesOk [] s = (clientF s.client && (highF s.num 1 && (highF s.ren 0 && allN [] s.num))) := by
  unfold sesOk allN
  simp [Bool.and_assoc]

theorem sesOk_next (l : List SesV) (q : Nat) (h : q < l.length) (s : SesV) : sesOk (l.take (q + 1)) s = (clientF s.client && (highF s.num 1 && (highF s.ren 0 && (decide (l[q].client < s.client) && allN (l.take (q + 1)) s.num)))) := by
  unfold sesOk allN
  have e : (l.take (q + 1)).getLast? = some l[q] := by rw [List.take_succ_eq_append_getElem h, List.getLast?_append]; simp
  rw [e]
  simp [Bool.and_assoc]


end Cm
end Go.Proofs.Ytfkpgndbohoogaa

/- Contracts: padlockref6's OpenSession. -/
set_option linter.unusedVariables false
set_option linter.unusedSimpArgs false
namespace Go.Proofs.Ytfkpgndbohoogaa
open Go.RowKit
namespace Cm




theorem takenS_drop (l : List SesV) (c n : Int) (j : Nat) (h : j < l.length) : takenS (l.drop j) c n = ((decide (l[j].num = n) && !decide (l[j].client = c)) || takenS (l.drop (j + 1)) c n) := by
  rw [List.drop_eq_getElem_cons h]
  rfl

theorem cellsS_one (s : SesV) : ∀ u ∈ cellsS s, u.oneCell' = true := by
  intro u hu
  unfold cellsS at hu
  simp only [List.mem_cons, List.not_mem_nil, or_false] at hu
  rcases hu with rfl | rfl | rfl <;> rfl


end Cm
end Go.Proofs.Ytfkpgndbohoogaa

/- Contracts: padlockref6's CloseSession, Due. -/
set_option linter.unusedVariables false
set_option linter.unusedSimpArgs false
namespace Go.Proofs.Ytfkpgndbohoogaa
open Go.RowKit
namespace Cm

theorem infoN : (Try.prog.info? 3).map (fun i => (i.zero, i.size, i.bytes)) = some (some (.int .i64 0), 1, 8) := by kernel_rfl

theorem cellsI_one (x : Int) : ∀ u ∈ cellsI x, u.oneCell' = true := by
  intro u hu
  unfold cellsI at hu
  rw [List.mem_singleton] at hu
  subst hu
  rfl

theorem filter_take_succ {α : Type} (l : List α) (p : α → Bool) (j : Nat) (h : j < l.length) : (l.take (j + 1)).filter p = (l.take j).filter p ++ if p l[j] then [l[j]] else [] := by
  rw [List.take_succ_eq_append_getElem h, List.filter_append]
  congr 1
  by_cases q : p l[j] = true
  · simp [q]
  · simp [q]

def keepsS (c : Int) (s : SesV) : Bool := !decide (s.client = c)


/-- Numbers told, in new memory. -/
def GetsN (r : List Int) (w : World) (e : Ending) (w' : World) : Prop :=
  ∃ v, e = .returned v ∧ w'.ownsRow w.heap.size 3 1 v r.length (flatX cellsI r) ∧ Below w.heap.size w w'

theorem map_filter_take (l : List SesV) (p : SesV → Bool) (j : Nat) (h : j < l.length) : ((l.take (j + 1)).filter p).map (·.client) = ((l.take j).filter p).map (·.client) ++ if p l[j] then [l[j].client] else [] := by
  rw [filter_take_succ l p j h, List.map_append]
  congr 1
  by_cases q : p l[j] = true <;> simp [q]

def lateS (t d : Int) (s : SesV) : Bool := decide (d ≤ t - s.ren)


end Cm
end Go.Proofs.Ytfkpgndbohoogaa

/- Contracts: padlockref6's RenewSession. -/
set_option linter.unusedVariables false
set_option linter.unusedSimpArgs false
namespace Go.Proofs.Ytfkpgndbohoogaa
open Go.RowKit
namespace Cm



/-- The first k are renewed. -/
def renN (l : List SesV) (c t : Int) (k : Nat) : List SesV := (l.take k).map (renewE c t) ++ l.drop k

theorem renN_zero (l : List SesV) (c t : Int) : renN l c t 0 = l := by simp [renN]
theorem renN_all (l : List SesV) (c t : Int) : renN l c t l.length = l.map (renewE c t) := by simp [renN]
theorem renN_length (l : List SesV) (c t : Int) (k : Nat) (h : k ≤ l.length) : (renN l c t k).length = l.length := by
  unfold renN
  rw [List.length_append, List.length_map, List.length_take, List.length_drop]
  omega

theorem renN_get (l : List SesV) (c t : Int) (k : Nat) (h : k < l.length) (h' : k < (renN l c t k).length) : (renN l c t k)[k] = l[k] := by
  unfold renN at h' ⊢
  rw [List.getElem_append_right (by rw [List.length_map, List.length_take]; omega)]
  simp only [List.length_map, List.length_take, List.getElem_drop]
  congr 1
  omega

theorem renN_succ (l : List SesV) (c t : Int) (k : Nat) (h : k < l.length) : renN l c t (k + 1) = (renN l c t k).set k (renewE c t l[k]) := by
  unfold renN
  have hk : ((l.take k).map (renewE c t)).length = k := by rw [List.length_map, List.length_take]; omega
  rw [List.take_succ_eq_append_getElem h, List.map_append, List.set_append_right _ _ (by omega), hk, Nat.sub_self, List.append_assoc]
  congr 1
  have e := List.drop_eq_getElem_cons h
  rw [e]
  rfl

theorem renN_same (l : List SesV) (c t : Int) (k : Nat) (h : k < l.length) : (renN l c t k).set k l[k] = renN l c t k := by
  have h' : k < (renN l c t k).length := by rw [renN_length l c t k (by omega)]; exact h
  have := renN_get l c t k h h'
  rw [← this]
  exact List.set_getElem_self h'


end Cm
end Go.Proofs.Ytfkpgndbohoogaa

/- Contracts: padlocklaw6's Sessions: right ones, by numbers. -/
set_option linter.unusedVariables false
set_option linter.unusedSimpArgs false
namespace Go.Proofs.Ytfkpgndbohoogaa
open Go.RowKit
attribute [local go_sem ↓] Go.wp_at_zero Go.wp_at_succ
namespace Cm

/-- Clients that rise below i, numbers from 1 to 8, times below 256. -/
structure Rise (l : List SesV) (i : Nat) : Prop where
  up : l.Pairwise fun a b => a.client < b.client
  ok : ∀ s ∈ l, (0 ≤ s.client ∧ s.client < i) ∧ (1 ≤ s.num ∧ s.num ≤ 8) ∧ (0 ≤ s.ren ∧ s.ren ≤ 255)

theorem Rise.more {l : List SesV} {i : Nat} (h : Rise l i) : Rise l (i + 1) := ⟨h.up, fun s hs => by have := h.ok s hs; omega⟩
theorem Rise.push {l : List SesV} {i : Nat} (h : Rise l i) (n r : Int) (hn : 1 ≤ n ∧ n ≤ 8) (hr : 0 ≤ r ∧ r ≤ 255) : Rise (l ++ [⟨i, n, r⟩]) (i + 1) := by
  refine ⟨List.pairwise_append.2 ⟨h.up, List.pairwise_singleton _ _, fun a ha b hb => ?_⟩, fun s hs => ?_⟩
  · rw [List.mem_singleton] at hb
    subst hb
    exact (h.ok a ha).1.2
  · rcases List.mem_append.1 hs with q | q
    · have := h.ok s q; omega
    · rw [List.mem_singleton] at q
      subst q
      dsimp only
      omega

/-- The numbers of all made other than one another. -/
def apartN (i : Nat) : List SesV → List SesV
  | [] => []
  | s :: l => ⟨s.client, 10 * (i : Int) + s.num, s.ren⟩ :: apartN (i + 1) l

theorem apartN_length : ∀ (l : List SesV) (i : Nat), (apartN i l).length = l.length
  | [], _ => rfl
  | s :: l, i => by simp [apartN, apartN_length l (i + 1)]

theorem apartN_mem : ∀ (l : List SesV) (i : Nat) (x : SesV), x ∈ apartN i l → ∃ s ∈ l, ∃ j : Nat, i ≤ j ∧ j < i + l.length ∧ x = ⟨s.client, 10 * (j : Int) + s.num, s.ren⟩
  | [], _, x, h => by cases h
  | s :: l, i, x, h => by
    unfold apartN at h
    rcases List.mem_cons.1 h with rfl | h
    · exact ⟨s, List.mem_cons_self, i, Nat.le_refl _, by simp, rfl⟩
    · obtain ⟨y, hy, j, h1, h2, e⟩ := apartN_mem l (i + 1) x h
      exact ⟨y, List.mem_cons_of_mem _ hy, j, by omega, by simp; omega, e⟩

theorem apartN_rs : ∀ (l : List SesV) (i n : Nat), Rise l n → n ≤ 8 → i + l.length ≤ 5 → Rs (apartN i l)
  | [], _, _, _, _, _ => Rs.nil
  | s :: l, i, n, h, hn, hl => by
    have hu := List.pairwise_cons.1 h.up
    have hr : Rise l n := ⟨hu.2, fun x hx => h.ok x (List.mem_cons_of_mem _ hx)⟩
    have ih := apartN_rs l (i + 1) n hr hn (by simp at hl; omega)
    have hs := h.ok s List.mem_cons_self
    unfold apartN
    refine ⟨fun x hx => ?_, List.pairwise_cons.2 ⟨fun b hb => ?_, ih.up⟩, List.pairwise_cons.2 ⟨fun b hb => ?_, ih.num⟩⟩
    · rcases List.mem_cons.1 hx with rfl | hx
      · unfold oneS clientF highF
        simp
        simp at hl
        omega
      · exact ih.one x hx
    · obtain ⟨y, hy, j, _, _, rfl⟩ := apartN_mem l (i + 1) b hb
      exact hu.1 y hy
    · obtain ⟨y, hy, j, h1, _, rfl⟩ := apartN_mem l (i + 1) b hb
      have := (h.ok y (List.mem_cons_of_mem _ hy)).2.1
      dsimp only
      omega

/-- Sessions that are right, with times below 256, numbers below 100. -/
structure Fine (l : List SesV) : Prop where
  right : rightS l = true
  ok : ∀ s ∈ l, s.num < 100 ∧ 0 ≤ s.ren ∧ s.ren ≤ 255

theorem fine_of (l : List SesV) (n : Nat) (h : Rise l n) (hn : n ≤ 8) (h5 : l.length ≤ 5) : Fine (apartN 0 l) := by
  refine ⟨(rightS_iff _).2 ⟨by rw [apartN_length]; exact h5, apartN_rs l 0 n h hn (by omega)⟩, fun s hs => ?_⟩
  obtain ⟨y, hy, j, _, h2, rfl⟩ := apartN_mem l 0 s hs
  have := h.ok y hy
  dsimp only
  omega

/-- The first k have other numbers. -/
def numN (l : List SesV) (k : Nat) : List SesV := apartN 0 (l.take k) ++ l.drop k

theorem numN_zero (l : List SesV) : numN l 0 = l := by simp [numN, apartN]
theorem numN_all (l : List SesV) : numN l l.length = apartN 0 l := by simp [numN]
theorem numN_length (l : List SesV) (k : Nat) (h : k ≤ l.length) : (numN l k).length = l.length := by
  unfold numN
  rw [List.length_append, apartN_length, List.length_take, List.length_drop]
  omega

theorem apartN_append : ∀ (l m : List SesV) (i : Nat), apartN i (l ++ m) = apartN i l ++ apartN (i + l.length) m
  | [], m, i => by simp [apartN]
  | s :: l, m, i => by
    show (⟨s.client, 10 * (i : Int) + s.num, s.ren⟩ : SesV) :: apartN (i + 1) (l ++ m) = (⟨s.client, 10 * (i : Int) + s.num, s.ren⟩ : SesV) :: (apartN (i + 1) l ++ apartN (i + (l.length + 1)) m)
    rw [apartN_append l m (i + 1), show i + 1 + l.length = i + (l.length + 1) by omega]

theorem numN_get (l : List SesV) (k : Nat) (h : k < l.length) (h' : k < (numN l k).length) : (numN l k)[k] = l[k] := by
  unfold numN at h' ⊢
  have hk : (apartN 0 (l.take k)).length = k := by rw [apartN_length, List.length_take]; omega
  rw [List.getElem_append_right (by omega)]
  simp only [hk, Nat.sub_self, List.getElem_drop]
  rfl

theorem numN_succ (l : List SesV) (k : Nat) (h : k < l.length) : numN l (k + 1) = (numN l k).set k ⟨l[k].client, 10 * (k : Int) + l[k].num, l[k].ren⟩ := by
  unfold numN
  have hk : (apartN 0 (l.take k)).length = k := by rw [apartN_length, List.length_take]; omega
  have hk2 : (l.take k).length = k := by rw [List.length_take]; omega
  rw [List.take_succ_eq_append_getElem h, apartN_append, List.set_append_right _ _ (by omega), hk, Nat.sub_self, List.append_assoc, hk2, Nat.zero_add]
  congr 1
  have e := List.drop_eq_getElem_cons h
  rw [e]
  rfl



theorem ses_num (I X r q : Nat) (hI : I ≤ 8) (hX : X < 256) (hr : (X : Int) % 3 = (r : Int)) (hr3 : r < 3) (hq : ((I : Int) + (r : Int) * 3) % 8 = (q : Int)) (hq8 : q < 8) : (IntKind.i64.wrap (1 + (IntKind.i64.wrap ((I : Int) + IntKind.i64.wrap (IntKind.i64.wrap ((X : Int).tmod 3) * 3))).tmod 8)) = 1 + (q : Int) := by
  have h0 : (X : Int).tmod 3 = (r : Int) := by rw [Int.tmod_eq_emod_of_nonneg (by omega)]; exact hr
  have w0 : IntKind.i64.wrap (r : Int) = (r : Int) := by rw [IntKind.wrap_i64]; omega
  have w1 : IntKind.i64.wrap ((r : Int) * 3) = (r : Int) * 3 := by rw [IntKind.wrap_i64]; omega
  have w2 : IntKind.i64.wrap ((I : Int) + (r : Int) * 3) = (I : Int) + (r : Int) * 3 := by rw [IntKind.wrap_i64]; omega
  have h1 : ((I : Int) + (r : Int) * 3).tmod 8 = (q : Int) := by rw [Int.tmod_eq_emod_of_nonneg (by omega)]; exact hq
  have w3 : IntKind.i64.wrap (1 + (q : Int)) = 1 + (q : Int) := by rw [IntKind.wrap_i64]; omega
  rw [h0, w0, w1, w2, h1, w3]


end Cm
end Go.Proofs.Ytfkpgndbohoogaa

/- Contracts: slices.IndexFunc, slices.ContainsFunc over sessions, whatever the test. -/
set_option linter.unusedVariables false
set_option linter.unusedSimpArgs false
namespace Go.Proofs.Ytfkpgndbohoogaa
open Go.RowKit Go.Shelf
namespace Cm

/-- The place of the first that meets the test, or -1. -/
def idxI {α : Type} (p : α → Bool) (l : List α) : Int := if l.findIdx p < l.length then (l.findIdx p : Int) else -1

theorem idxI_hit {α : Type} (p : α → Bool) (l : List α) (k : Nat) (h : k < l.length) (hp : p l[k] = true) (hb : ∀ j (hj : j < k), p (l[j]'(by omega)) = false) : idxI p l = k := by
  have e : l.findIdx p = k := (List.findIdx_eq h).2 ⟨hp, hb⟩
  unfold idxI
  rw [e, if_pos h]

theorem idxI_miss {α : Type} (p : α → Bool) (l : List α) (hb : ∀ j (hj : j < l.length), p l[j] = false) : idxI p l = -1 := by
  have : ¬ l.findIdx p < l.length := fun q => by
    have h1 := List.findIdx_getElem (w := q)
    rw [hb _ q] at h1
    cases h1
  unfold idxI
  rw [if_neg this]

theorem idxI_ge {α : Type} (p : α → Bool) (l : List α) : -1 ≤ idxI p l := by unfold idxI; split <;> omega
theorem idxI_lt {α : Type} (p : α → Bool) (l : List α) : idxI p l < l.length := by unfold idxI; split <;> omega

theorem idxI_any {α : Type} (p : α → Bool) (l : List α) : decide (0 ≤ idxI p l) = l.any p := by
  unfold idxI
  by_cases h : l.findIdx p < l.length
  · rw [if_pos h, decide_eq_true (by omega), Eq.comm, List.any_eq_true]
    exact ⟨l[l.findIdx p], List.getElem_mem _, List.findIdx_getElem (w := h)⟩
  · rw [if_neg h, decide_eq_false (by omega), Eq.comm, List.any_eq_false]
    intro x hx q
    exact h (List.findIdx_lt_length_of_exists ⟨x, hx, q⟩)

/-- A number told, new blocks laid. -/
def SaysI (r : Int) (w : World) (e : Ending) (w' : World) : Prop := e = .returned (.int .i64 r) ∧ Below w.heap.size w w'



end Cm
end Go.Proofs.Ytfkpgndbohoogaa

/- What package memo answers, as plain functions over lists of memos (a memo is an answer that was kept). No program is named here. -/
set_option linter.unusedVariables false
set_option linter.unusedSimpArgs false
namespace Go.Proofs.Ytfkpgndbohoogaa
open Go.RowKit
namespace Cm

def zeroM : AnsV := ⟨0, 0, ⟨0, 0, 0, []⟩⟩
def isCl (c : Int) (m : AnsV) : Bool := decide (m.client = c)

def lastM : List AnsV → Int → AnsV × Bool
  | [], _ => (zeroM, false)
  | m :: l, c => if m.client = c then (m, true) else lastM l c
def freshM (l : List AnsV) (c s : Int) : Int := if (lastM l c).2 = false then 1 else if (lastM l c).1.seq < s then 1 else if (lastM l c).1.seq = s then 0 else -1

/-- Put in its place, or in the place of the client's own. -/
def insM (a : AnsV) : List AnsV → List AnsV
  | [] => [a]
  | m :: l => if m.client < a.client then m :: insM a l else if m.client = a.client then a :: l else a :: m :: l
def keepM (l : List AnsV) (a : AnsV) : List AnsV := if (mayA a && decide (freshM l a.client a.seq = 1)) = true then insM a l else l

structure Rm (l : List AnsV) : Prop where
  may : ∀ m ∈ l, mayA m = true
  up : l.Pairwise fun a b => a.client < b.client
theorem Rm.nil : Rm [] := ⟨(fun m h => by cases h), List.Pairwise.nil⟩

def upM : List AnsV → Bool
  | [] => true
  | [_] => true
  | m :: n :: l => decide (m.client < n.client) && upM (n :: l)
def rightM (l : List AnsV) : Bool := l.all mayA && upM l

theorem upM_iff : ∀ l : List AnsV, upM l = true ↔ l.Pairwise fun a b => a.client < b.client
  | [] => by simp [upM]
  | [_] => by simp [upM]
  | m :: n :: l => by
    rw [upM, Bool.and_eq_true, decide_eq_true_eq, upM_iff (n :: l)]
    constructor
    · rintro ⟨h1, h2⟩
      refine List.pairwise_cons.2 ⟨fun x hx => ?_, h2⟩
      rcases List.mem_cons.1 hx with rfl | q
      · exact h1
      · exact Int.lt_trans h1 ((List.pairwise_cons.1 h2).1 x q)
    · intro h
      exact ⟨(List.pairwise_cons.1 h).1 n List.mem_cons_self, (List.pairwise_cons.1 h).2⟩
theorem rightM_iff (l : List AnsV) : rightM l = true ↔ Rm l := by
  unfold rightM
  rw [Bool.and_eq_true, List.all_eq_true, upM_iff]
  exact ⟨fun h => ⟨h.1, h.2⟩, fun h => ⟨h.may, h.up⟩⟩

theorem wrongM_may {l : List AnsV} {j : Nat} {hj : j < l.length} (h : mayA l[j] = false) : rightM l = false := by
  cases q : rightM l
  · rfl
  · rw [((rightM_iff l).1 q).may l[j] (List.getElem_mem hj)] at h
    cases h
theorem wrongM_up {l : List AnsV} {j : Nat} {hj : j + 1 < l.length} (h : l[j + 1].client ≤ (l[j]'(by omega)).client) : rightM l = false := by
  cases q : rightM l
  · rfl
  · have := List.pairwise_iff_getElem.1 ((rightM_iff l).1 q).up j (j + 1) (by omega) hj (by omega)
    omega
theorem rightM_of (l : List AnsV) (h1 : ∀ j (hj : j < l.length), mayA l[j] = true) (h3 : ∀ j (hj : j + 1 < l.length), (l[j]'(by omega)).client < l[j + 1].client) : rightM l = true := by
  refine (rightM_iff l).2 ⟨fun s hs => ?_, ?_⟩
  · obtain ⟨i, hi, rfl⟩ := List.mem_iff_getElem.1 hs
    exact h1 i hi
  · rw [List.pairwise_iff_getElem]
    intro i j hi hj hij
    obtain ⟨d, rfl⟩ : ∃ d, j = i + 1 + d := ⟨j - i - 1, by omega⟩
    clear hij
    induction d with
    | zero => exact h3 i hj
    | succ d ih => exact Int.lt_trans (ih (by omega)) (h3 (i + 1 + d) (by omega))

/-! ### Last -/
theorem last_ins (a : AnsV) (c : Int) : ∀ l : List AnsV, lastM (insM a l) c = if a.client = c then (a, true) else lastM l c
  | [] => by simp [insM, lastM]
  | m :: l => by
    rw [insM]
    split
    · rename_i h
      rw [lastM, last_ins a c l]
      by_cases e : m.client = c
      · rw [if_pos e, if_neg (by omega), lastM, if_pos e]
      · rw [if_neg e]
        by_cases e2 : a.client = c
        · rw [if_pos e2, if_pos e2]
        · rw [if_neg e2, if_neg e2, lastM, if_neg e]
    · split
      · rename_i h1 h
        rw [lastM]
        by_cases e2 : a.client = c
        · rw [if_pos e2, if_pos e2]
        · rw [if_neg e2, if_neg e2, lastM, if_neg (by omega)]
      · rw [lastM]

theorem ins_mem (a : AnsV) : ∀ (l : List AnsV) (x : AnsV), x ∈ insM a l → x = a ∨ x ∈ l
  | [], x, h => by simpa [insM] using h
  | m :: l, x, h => by
    rw [insM] at h
    split at h
    · rcases List.mem_cons.1 h with q | q
      · exact .inr (by rw [q]; exact List.mem_cons_self)
      · rcases ins_mem a l x q with q | q
        · exact .inl q
        · exact .inr (List.mem_cons_of_mem _ q)
    · split at h
      · rcases List.mem_cons.1 h with q | q
        · exact .inl q
        · exact .inr (List.mem_cons_of_mem _ q)
      · rcases List.mem_cons.1 h with q | q
        · exact .inl q
        · exact .inr q

theorem ins_up (a : AnsV) : ∀ l : List AnsV, (l.Pairwise fun a b => a.client < b.client) → (insM a l).Pairwise fun a b => a.client < b.client
  | [], _ => by simp [insM]
  | m :: l, h => by
    obtain ⟨h1, h2⟩ := List.pairwise_cons.1 h
    rw [insM]
    split
    · rename_i hlt
      refine List.pairwise_cons.2 ⟨fun x hx => ?_, ins_up a l h2⟩
      rcases ins_mem a l x hx with rfl | q
      · exact hlt
      · exact h1 x q
    · split
      · rename_i e
        exact List.pairwise_cons.2 ⟨fun x hx => by have := h1 x hx; omega, h2⟩
      · refine List.pairwise_cons.2 ⟨fun x hx => ?_, h⟩
        rcases List.mem_cons.1 hx with rfl | q
        · omega
        · have := h1 x q; omega

theorem Rm.ins {l : List AnsV} (h : Rm l) (a : AnsV) (ha : mayA a = true) : Rm (insM a l) := by
  refine ⟨fun x hx => ?_, ins_up a l h.up⟩
  rcases ins_mem a l x hx with q | q
  · subst q; exact ha
  · exact h.may x q
theorem Rm.keep {l : List AnsV} (h : Rm l) (a : AnsV) : Rm (keepM l a) := by
  unfold keepM
  split
  · rename_i q
    rw [Bool.and_eq_true] at q
    exact h.ins a q.1
  · exact h

/-! ### By places -/
theorem ins_length (a : AnsV) : ∀ l : List AnsV, (insM a l).length ≤ l.length + 1
  | [] => by simp [insM]
  | m :: l => by
    have := ins_length a l
    rw [insM]
    split
    · simp; omega
    · split <;> simp

theorem last_idx (l : List AnsV) (c : Int) : lastM l c = if h : l.findIdx (isCl c) < l.length then (l[l.findIdx (isCl c)], true) else (zeroM, false) := by
  induction l with
  | nil => simp [lastM]
  | cons x l ih =>
    unfold lastM
    by_cases q : x.client = c
    · simp [List.findIdx_cons, isCl, q]
    · rw [if_neg q, ih]
      have e : (x :: l).findIdx (isCl c) = l.findIdx (isCl c) + 1 := by simp [List.findIdx_cons, isCl, q]
      simp only [e, List.length_cons]
      by_cases h : l.findIdx (isCl c) < l.length
      · simp [h]
      · simp [h]
theorem last_hit (l : List AnsV) (c : Int) (k : Nat) (h : idxI (isCl c) l = k) : ∃ hk : k < l.length, l[k].client = c ∧ lastM l c = (l[k], true) := by
  rw [last_idx]
  unfold idxI at h
  split at h
  · rename_i q
    have e : l.findIdx (isCl c) = k := by omega
    subst e
    refine ⟨q, ?_, by rw [dif_pos q]⟩
    have := List.findIdx_getElem (w := q)
    simpa [isCl] using this
  · omega
theorem last_miss (l : List AnsV) (c : Int) (h : idxI (isCl c) l = -1) : lastM l c = (zeroM, false) := by
  rw [last_idx]
  unfold idxI at h
  split at h
  · omega
  · rename_i q
    rw [dif_neg q]

/-- The place of the first whose client is greater. -/
def placeM (c : Int) (l : List AnsV) : Nat := l.findIdx fun m => decide (c < m.client)
theorem ins_set : ∀ (l : List AnsV), (l.Pairwise fun a b => a.client < b.client) → ∀ (a : AnsV) (k : Nat) (hk : k < l.length), l[k].client = a.client → insM a l = l.set k a
  | m :: l, h, a, 0, _, e => by
    rw [insM, if_neg (by simpa using (show ¬ m.client < a.client by have : m.client = a.client := e; omega)), if_pos (show m.client = a.client from e)]
    rfl
  | m :: l, h, a, k + 1, hk, e => by
    obtain ⟨h1, h2⟩ := List.pairwise_cons.1 h
    have hk' : k < l.length := by simpa using hk
    have hlt : m.client < a.client := by
      have e' : l[k].client = a.client := e
      rw [← e']
      exact h1 _ (List.getElem_mem hk')
    rw [insM, if_pos hlt, ins_set l h2 a k hk' e]
    rfl
theorem ins_place (a : AnsV) : ∀ (l : List AnsV), (∀ m ∈ l, m.client ≠ a.client) → insM a l = l.take (placeM a.client l) ++ a :: l.drop (placeM a.client l)
  | [], _ => rfl
  | m :: l, h => by
    have ih := ins_place a l fun x hx => h x (List.mem_cons_of_mem _ hx)
    have hm := h m List.mem_cons_self
    unfold placeM at ih ⊢
    rw [insM, List.findIdx_cons]
    by_cases q : m.client < a.client
    · rw [if_pos q, decide_eq_false (by omega), ih]
      rfl
    · rw [if_neg q, if_neg hm, decide_eq_true (by omega)]
      rfl

/-! ### The document's way -/
def goM (a : AnsV) : Bool → List AnsV → List AnsV
  | put, [] => if put then [] else [a]
  | put, m :: l => if m.client = a.client then a :: goM a true l else if (!put && decide (a.client < m.client)) = true then a :: m :: goM a true l else m :: goM a put l
theorem goM_put (a : AnsV) : ∀ l : List AnsV, (∀ m ∈ l, a.client < m.client) → goM a true l = l
  | [], _ => rfl
  | m :: l, h => by
    have := h m List.mem_cons_self
    rw [goM, if_neg (by omega), if_neg (by simp), goM_put a l fun x hx => h x (List.mem_cons_of_mem _ hx)]
theorem goM_ins (a : AnsV) : ∀ l : List AnsV, (l.Pairwise fun a b => a.client < b.client) → goM a false l = insM a l
  | [], _ => rfl
  | m :: l, h => by
    obtain ⟨h1, h2⟩ := List.pairwise_cons.1 h
    rw [goM, insM]
    by_cases q : m.client = a.client
    · rw [if_pos q, if_neg (by omega), if_pos q, goM_put a l fun x hx => by have := h1 x hx; omega]
    · rw [if_neg q]
      by_cases q2 : a.client < m.client
      · rw [if_pos (by simp [q2]), if_neg (by omega), if_neg q, goM_put a l fun x hx => by have := h1 x hx; omega]
      · rw [if_neg (by simp [q2]), if_pos (by omega), goM_ins a l h2]
end Cm
end Go.Proofs.Ytfkpgndbohoogaa

/- Contracts: package cmd's PutReq, GetReq. -/
set_option linter.unusedVariables false
set_option linter.unusedSimpArgs false
namespace Go.Proofs.Ytfkpgndbohoogaa
open Go.RowKit
namespace Cm



/-- A request, a place and a code told. -/
def GetsR (r : ReqV × Int × Int) (w : World) (e : Ending) (w' : World) : Prop :=
  e = .returned (.tuple #[reqVal r.1, .int .i64 r.2.1, .int .i64 r.2.2]) ∧ Below w.heap.size w w'

theorem getF_le (bs : List UInt8) (t : Int) : (getF bs t).2.1 ≤ bs.length := by
  unfold getF
  split
  · simp
  · split
    · simp
    · split
      · simp
      · split
        · exact textOf_le _ _ _
        · simp

theorem getR_told (bs : List UInt8) (t : Int) {k t1 e1 s t2 e2 t3 e3 : Int} {c : CmdV} (hB : byteOf bs t = (k, t1, e1)) (hN : numOf bs t1 = (s, t2, e2)) (hT : getF bs t2 = (c, t3, e3)) :
    getR bs t = if e1 ≠ 0 then (zeroR, 0, e1) else if e2 ≠ 0 then (zeroR, 0, e2) else if e3 ≠ 0 then (zeroR, 0, e3) else if mayR ⟨k, s, c⟩ then (⟨k, s, c⟩, t3, 0) else (zeroR, 0, 4) := by
  unfold getR
  rw [hB]
  dsimp only
  rw [hN]
  dsimp only
  rw [hT]

theorem free5 {w w' : World} {x y z u v : Value} {t : TypeId} (h : Below (w.alloc (.cells #[x, y, z, u, v] t)).heap.size (w.alloc (.cells #[x, y, z, u, v] t)) w') :
    ∀ k, w'.frozen? ⟨w.heap.size, k, none⟩ = false := by
  intro k
  have hl : w.heap.size < (w.alloc (.cells #[x, y, z, u, v] t)).heap.size := by simp
  rw [h.frozen (p := ⟨w.heap.size, k, none⟩) hl]
  simp [go_sem]

theorem set5 {w w1 : World} (h : Below w.heap.size w w1) (x y z u v : Value) : Below w.heap.size w (((((w1.setCell ⟨w.heap.size, 0, none⟩ x).setCell ⟨w.heap.size, 1, none⟩ y).setCell ⟨w.heap.size, 2, none⟩ z).setCell ⟨w.heap.size, 3, none⟩ u).setCell ⟨w.heap.size, 4, none⟩ v) :=
  ((((h.setCell (Nat.le_refl _) _).setCell (Nat.le_refl _) _).setCell (Nat.le_refl _) _).setCell (Nat.le_refl _) _).setCell (Nat.le_refl _) _


end Cm
end Go.Proofs.Ytfkpgndbohoogaa

/- Laws of the walk at a step of a region that draws its order: appends of bytes, of a text's bytes. No program is named here. -/
set_option linter.unusedVariables false
set_option linter.unusedSimpArgs false
namespace Go.Proofs.Ytfkpgndbohoogaa
open Go.RowKit

section
variable {P : Program} {w : World}
theorem step_append_rd {ops : Array Oper} {o : Oper} {a : Act} {K : Act → World → Prop} {Q : Exit → Act → World → Prop} {E : Prop} (hgd : o.guard = none) (s x : Operand) (t : TypeId)
    (ho : o.op = .call { callee := .builtin .append, args := #[s, x], argTypes := #[t, t] })
    (base : Nat) (e : TypeId) (i : TypeInfo) (ht : P.underlying t = some (.slice e)) (hi : P.info? e = some i) (hz : i.zero = some (.int .u8 0)) (hsize : i.size = 1) (hby : i.bytes = 1)
    (v : Value) (n : Nat) (xs : List Value) (hs : a.eval s = v) (hown : w.ownsRow base e 1 v n xs) (y : Value) (bs : List UInt8) (hx : a.eval x = y) (hr : Rd w y bs)
    (hlen : n + bs.length ≤ 140737488355328) (hbase : base ≤ w.heap.size)
    (h : ∀ v' w', w'.ownsRow base e 1 v' (n + bs.length) (xs ++ cellsOf bs) → w.grownBy w' v.ownBlock → K (a.put o.dst v') w') :
    if Region.wanted o (yielded ops a.tmps) = true then Oper.wp P o a w K Q else E := by
  have hw : Region.wanted o (yielded ops a.tmps) = true := by simp [Region.wanted, hgd]
  rw [if_pos hw]
  obtain ⟨ao, len, cap, rfl, hl, hc, hm, hn, hcells⟩ := hr.ex
  match ao, hn, hcells with
  | none, hn, _ =>
    obtain ⟨rfl, rfl⟩ := hn rfl
    obtain rfl : bs = [] := List.length_eq_zero_iff.1 hl
    have hrun := run_append_owned_none (P := P) (w := w) base t o.type e i 1 ht hi v n xs hown
    unfold Oper.wp
    simp [execOp, ho, resolve, invoke, builtin, hs, hx, hrun, Result.andThen]
    exact h v w (by simpa [cellsOf] using hown) (World.grownBy.refl _ _)
  | some ad, _, hcells =>
    refine wp_append_own w s x t ho base e i (.int .u8 0) 1 1 ht hi hz hsize hby rfl (by decide) v n xs hs hown ad len cap (cellsOf bs) hx (by rw [cellsOf_length]; omega) ?_ (cellsOf_one bs) (by unfold maxLen; omega) (by omega) hbase ?_
    · intro j u hj
      obtain ⟨hj', rfl⟩ := cellsOf_get bs j u hj
      obtain ⟨hs', hi'⟩ := hcells ad rfl (by omega)
      obtain ⟨b, off, spot⟩ := ad
      simp only at hs'
      subst hs'
      have hadd : (⟨b, off, none⟩ : Addr).add j = ⟨b, off + j, none⟩ := by unfold Addr.add; split <;> simp_all
      rw [hadd]
      exact hi' j (by omega)
    · intro v' w' h1 h2 _
      rw [← hl] at h1
      exact h v' w' h1 h2

theorem step_append_str {ops : Array Oper} {o : Oper} {a : Act} {K : Act → World → Prop} {Q : Exit → Act → World → Prop} {E : Prop} (hgd : o.guard = none) (s x : Operand) (t u : TypeId)
    (ho : o.op = .call { callee := .builtin .append, args := #[s, x], argTypes := #[t, u] })
    (base : Nat) (e : TypeId) (i : TypeInfo) (ht : P.underlying t = some (.slice e)) (hu : P.underlying u = some .string) (hi : P.info? e = some i) (hz : i.zero = some (.int .u8 0)) (hsize : i.size = 1) (hby : i.bytes = 1)
    (v : Value) (n : Nat) (xs : List Value) (hs : a.eval s = v) (hown : w.ownsRow base e 1 v n xs) (bs : List UInt8) (hx : a.eval x = .string (bstr bs))
    (hlen : n + bs.length ≤ 140737488355328) (hbase : base ≤ w.heap.size)
    (h : ∀ v' w', w'.ownsRow base e 1 v' (n + bs.length) (xs ++ cellsOf bs) → w.grownBy w' v.ownBlock → K (a.put o.dst v') w') :
    if Region.wanted o (yielded ops a.tmps) = true then Oper.wp P o a w K Q else E := by
  have hw : Region.wanted o (yielded ops a.tmps) = true := by simp [Region.wanted, hgd]
  rw [if_pos hw]
  obtain ⟨v', w', hr, h2, h3, _⟩ := Lib.run_append_own_string (P := P) w base t u o.type e i ht hu hi hz hsize hby v n xs hown (bstr bs) (by rw [bstr_size]; unfold maxLen; omega) (by rw [bstr_size]; omega) hbase
  unfold Oper.wp execOp
  simp only [ho, resolve, invoke, builtin, Sem.run_bind, Sem.run_pure, Result.andThen_ok, List.map_toArray, List.map_cons, List.map_nil, hs, hx, hr]
  rw [bstr_size, strCells_bstr] at h2
  exact h v' w' h2 h3
end
end Go.Proofs.Ytfkpgndbohoogaa

/- Contracts: the document's Put, Get of commands. -/
set_option linter.unusedVariables false
set_option linter.unusedSimpArgs false
namespace Go.Proofs.Ytfkpgndbohoogaa
open Go.RowKit
namespace Cm

theorem byte_cell (k : Nat) (h : k < 256) : cellsOf [UInt8.ofNat k] = [.int .u8 (k : Int)] := by simp [cellsOf]; omega

theorem own1 (w : World) (base k : Nat) (h : k < 256) (hb : base ≤ w.heap.size) : (w.alloc (.cells #[.int .u8 (k : Int)] 5)).ownsRow base 5 1 (.slice (some ⟨w.heap.size, 0, none⟩) 1 1) 1 (cellsOf [UInt8.ofNat k]) :=
  own_mono (owns_lit w #[.int .u8 (k : Int)] [UInt8.ofNat k] (byte_cell k h).symm (by simp [maxLen])) hb

theorem rd1 (w : World) (k : Nat) (h : k < 256) : Rd (w.alloc (.cells #[.int .u8 (k : Int)] 5)) (.slice (some ⟨w.heap.size, 0, none⟩) 1 1) [UInt8.ofNat k] :=
  Rd.own (own1 w 0 k h (Nat.zero_le _))

/-- A byte of a new slice, and a number's eight bytes behind it, or ahead of it. -/
theorem byte_eight (w : World) (base k n : Nat) (h : k < 256) (hb : base ≤ w.heap.size) :
    ((w.alloc (.cells #[.int .u8 (k : Int)] 5)).alloc (.cells (beArr n 8) 5)).drew.ownsRow base 5 1 (.slice (some ⟨w.heap.size, 0, none⟩) 1 1) 1 (cellsOf [UInt8.ofNat k]) ∧
    Rd ((w.alloc (.cells #[.int .u8 (k : Int)] 5)).alloc (.cells (beArr n 8) 5)).drew (.slice (some ⟨w.heap.size + 1, 0, none⟩) 8 8) (be8 n) := by
  refine ⟨((own1 w base k h hb).alloc _).drew, ?_⟩
  have := (rd8 (w.alloc (.cells #[.int .u8 (k : Int)] 5)) n).later (Below.refl _ _).drew
  rwa [show (w.alloc (.cells #[.int .u8 (k : Int)] 5)).heap.size = w.heap.size + 1 by simp] at this

theorem eight_byte (w : World) (base k n : Nat) (h : k < 256) (hb : base ≤ w.heap.size) :
    ((w.alloc (.cells (beArr n 8) 5)).alloc (.cells #[.int .u8 (k : Int)] 5)).drew.ownsRow base 5 1 (.slice (some ⟨w.heap.size + 1, 0, none⟩) 1 1) 1 (cellsOf [UInt8.ofNat k]) ∧
    Rd ((w.alloc (.cells (beArr n 8) 5)).alloc (.cells #[.int .u8 (k : Int)] 5)).drew (.slice (some ⟨w.heap.size, 0, none⟩) 8 8) (be8 n) := by
  refine ⟨?_, ((rd8 w n).later (newAlloc _ _)).later (Below.refl _ _).drew⟩
  have := (own1 (w.alloc (.cells (beArr n 8) 5)) base k h (by simp; omega)).drew
  rwa [show (w.alloc (.cells (beArr n 8) 5)).heap.size = w.heap.size + 1 by simp] at this


end Cm
end Go.Proofs.Ytfkpgndbohoogaa

/- Contracts: the document's Get, PutReq, GetReq. -/
set_option linter.unusedVariables false
set_option linter.unusedSimpArgs false
namespace Go.Proofs.Ytfkpgndbohoogaa
open Go.RowKit
namespace Cm

/-- What the call owns it owns later, too. -/
theorem own_later {w w' : World} {base : Nat} {e : TypeId} {v : Value} {n : Nat} {xs : List Value} (ho : w.ownsRow base e 1 v n xs) (hb : Below w.heap.size w w') : w'.ownsRow base e 1 v n xs := by
  refine ⟨ho.1, ?_⟩
  rcases ho.2 with h' | ⟨g, cap, cur, h1, h2, h3, r⟩
  · exact .inl h'
  · refine .inr ⟨g, cap, cur, h1, h2, ?_, r⟩
    rw [hb.block g (Array.getElem?_eq_some_iff.1 h3).1]
    exact h3





end Cm
end Go.Proofs.Ytfkpgndbohoogaa

/- Locks that are held, in memory; contracts of the document's Token. -/
set_option linter.unusedVariables false
set_option linter.unusedSimpArgs false
namespace Go.Proofs.Ytfkpgndbohoogaa
open Go.RowKit
namespace Cm

/-- The slice v reads as these locks that are held. -/
structure RdH (w : World) (v : Value) (l : List GrantV) : Prop where
  ex : ∃ a cap, v = .slice a l.length cap ∧ l.length ≤ cap ∧ cap ≤ maxLen ∧ (a = none → l = []) ∧
    ∀ x, a = some x → l ≠ [] → x.spot = none ∧ ∀ i (h : i < l.length), w.cell? ⟨x.block, x.off + i * 2, none⟩ = some (.string (bstr l[i].name)) ∧ w.cell? ⟨x.block, x.off + i * 2 + 1, none⟩ = some (.int .i64 l[i].token)

theorem RdH.later {w w' : World} {v : Value} {l : List GrantV} (h : RdH w v l) (hb : Below w.heap.size w w') : RdH w' v l := by
  obtain ⟨a, cap, hv, h1, h2, h3, h4⟩ := h.ex
  refine ⟨a, cap, hv, h1, h2, h3, fun x hx hp => ?_⟩
  obtain ⟨hs, hc⟩ := h4 x hx hp
  refine ⟨hs, fun i hi => ?_⟩
  obtain ⟨c1, c2⟩ := hc i hi
  exact ⟨(hb.cell (lt_of_cell c1)).trans c1, (hb.cell (lt_of_cell c2)).trans c2⟩

theorem RdH.nil (w : World) : RdH w (.slice none 0 0) [] := ⟨none, 0, rfl, Nat.le_refl _, by unfold maxLen; omega, fun _ => rfl, fun x hx => by cases hx⟩

/-- The i-th of them. -/
theorem RdH.at {w : World} {a : Option Addr} {n cap : Nat} {l : List GrantV} (h : RdH w (.slice a n cap) l) (i : Nat) (hi : i < l.length) (w' : World) (hb : Below w.heap.size w w') :
    ∃ b o, a = some ⟨b, o, none⟩ ∧ w'.cell? ⟨b, o + i * 2, none⟩ = some (.string (bstr l[i].name)) ∧ w'.cell? ⟨b, o + i * 2 + 1, none⟩ = some (.int .i64 l[i].token) := by
  obtain ⟨a', cap', hv, h1, h2, h3, h4⟩ := (h.later hb).ex
  cases hv
  match a, h3, h4 with
  | none, h3, _ => have := h3 rfl; subst this; simp at hi
  | some ⟨b, o, sp⟩, _, h4 =>
    obtain ⟨hs, hc⟩ := h4 _ rfl (by intro q; subst q; simp at hi)
    simp only at hs
    subst hs
    exact ⟨b, o, rfl, hc i hi⟩

theorem RdH.len {w : World} {v : Value} {l : List GrantV} (h : RdH w v l) : l.length ≤ 9223372036854775807 := by
  obtain ⟨a, cap, hv, h1, h2, h3, h4⟩ := h.ex
  unfold maxLen at h2
  omega

/-- A reply, as the machine holds it. -/
def repVal (r : ReplyV) (v : Value) : Value := .agg #[.int .i64 r.code, .int .i64 r.session, .int .i64 r.ahead, v]

/-- What lies in a new block of four, later. -/
theorem box4 {w w' : World} {x y z u : Value} {t : TypeId} (h : Below (w.alloc (.cells #[x, y, z, u] t)).heap.size (w.alloc (.cells #[x, y, z, u] t)) w') :
    w'.cell? ⟨w.heap.size, 0, none⟩ = some x ∧ w'.cell? ⟨w.heap.size, 1, none⟩ = some y ∧ w'.cell? ⟨w.heap.size, 2, none⟩ = some z ∧ w'.cell? ⟨w.heap.size, 3, none⟩ = some u := by
  have hl : w.heap.size < (w.alloc (.cells #[x, y, z, u] t)).heap.size := by simp
  refine ⟨?_, ?_, ?_, ?_⟩
  · rw [h.cell (p := ⟨w.heap.size, 0, none⟩) hl]; simp [go_sem]
  · rw [h.cell (p := ⟨w.heap.size, 1, none⟩) hl]; simp [go_sem]
  · rw [h.cell (p := ⟨w.heap.size, 2, none⟩) hl]; simp [go_sem]
  · rw [h.cell (p := ⟨w.heap.size, 3, none⟩) hl]; simp [go_sem]

/-- The token of the first that has this name. -/
def tokenF (l : List GrantV) (n : List UInt8) : Int := match l with
  | [] => 0
  | g :: l => if g.name = n then g.token else tokenF l n

def sameH : List GrantV → List GrantV → Bool
  | [], [] => true
  | g :: l, h :: m => decide (g.name = h.name) && decide (g.token = h.token) && sameH l m
  | _, _ => false

theorem tokenF_drop (l : List GrantV) (n : List UInt8) (j : Nat) (h : j < l.length) : tokenF (l.drop j) n = if l[j].name = n then l[j].token else tokenF (l.drop (j + 1)) n := by
  rw [List.drop_eq_getElem_cons h]
  rfl

theorem str_eq (a b : List UInt8) : ((bstr a).toList == (bstr b).toList) = decide (a = b) := by
  rw [ByteArray.toList_eq, ByteArray.toList_eq, bstr_toList, bstr_toList]
  by_cases h : a = b <;> simp [h]


theorem same_len : ∀ (l m : List GrantV), l.length ≠ m.length → sameH l m = false
  | [], [], h => absurd rfl h
  | [], _ :: _, _ => rfl
  | _ :: _, [], _ => rfl
  | g :: l, h :: m, q => by
    have := same_len l m (by simpa using q)
    unfold sameH
    rw [this, Bool.and_false]

theorem sameH_iff : ∀ (l m : List GrantV), sameH l m = true ↔ l = m
  | [], [] => by simp [sameH]
  | [], _ :: _ => by simp [sameH]
  | _ :: _, [] => by simp [sameH]
  | ⟨a, b⟩ :: l, ⟨c, d⟩ :: m => by
    unfold sameH
    simp [sameH_iff l m]

theorem below_drewN {B : Nat} {a w : World} (h : Below B a w) (n : Nat) : Below B a (w.drewN n) := ⟨h.os, h.tape, h.output, h.size, h.block⟩

theorem same_drop (l m : List GrantV) (j : Nat) (h : j < l.length) (hm : j < m.length) : sameH (l.drop j) (m.drop j) = (decide (l[j].name = m[j].name) && decide (l[j].token = m[j].token) && sameH (l.drop (j + 1)) (m.drop (j + 1))) := by
  rw [List.drop_eq_getElem_cons h, List.drop_eq_getElem_cons hm]
  rfl

set_option maxHeartbeats 1000000 in
theorem SameGrants_any (u v : Value) (l m : List GrantV) (w : World) (h : RdH w u l) (h2 : RdH w v m) :
    Calls Try.prog 28 #[u, v] w (SaysB (sameH l m) w) := by
  have hm := h.len
  have hm2 := h2.len
  obtain ⟨a, cap, rfl, -⟩ := h.ex
  obtain ⟨a2, cap2, rfl, -⟩ := h2.ex
  by_cases hn : l.length = m.length
  · have HA := Lib.hid (fun i hi => h.at i hi)
    have HA2 := Lib.hid (fun i hi => h2.at i hi)
    have HD := Lib.hid (same_drop l m)
    clear h h2
    obtain ⟨L, hL⟩ : ∃ L, l.length = L := ⟨_, rfl⟩
    have hL2 : m.length = L := by omega
    rw [hL] at hm ⊢
    rw [hL2] at hm2 ⊢
    go_enter Try.func28, Try.ntmps28
    go_wp2
    go_loopw [5] (fun i wr => ∃ j : Nat, j ≤ L ∧ i = .int .i64 j ∧ Below w.heap.size w wr ∧ Hid (sameH l m = sameH (l.drop j) (m.drop j))) (fun i _ => L - (intOf i).toNat)
    case atStart => exact ⟨0, by omega, rfl, Below.refl _ _, Lib.hid rfl⟩
    case round =>
      obtain ⟨j, hj, rfl, hb, ha⟩ := hrel
      have HB := Lib.hid hb
      clear hb
      by_cases hlt : j < L
      · obtain ⟨b, o, rfl, q1, q2⟩ := HA.out j (by omega) _ HB.out
        obtain ⟨b', o', rfl, q3, q4⟩ := HA2.out j (by omega) _ HB.out
        have hd := HD.out j (by omega) (by omega)
        clear HA HA2 HD
        generalize l[j] = g at q1 q2 hd
        generalize m[j] = g2 at q3 q4 hd
        have hE := str_eq g.name g2.name
        by_cases e1 : g.name = g2.name ∧ g.token = g2.token
        · rw [decide_eq_true e1.1, decide_eq_true e1.2] at hd
          rw [decide_eq_true e1.1] at hE
          have d1 : (g.token == g2.token) = true := by simp [e1.2]
          have H := Lib.hid hd
          clear hd e1
          go_upto_region 6 with fail
          go_quiet (fail)
          go_wp2
          go_roundw
          case rel => exact ⟨j + 1, by omega, by go_num, below_drewN HB.out nq, Lib.hid (by rw [ha.out, H.out]; rfl)⟩
          case measure => simp [intOf]; omega
        · have d0 : (decide (g.name = g2.name) && decide (g.token = g2.token)) = false := by simpa using e1
          rw [d0] at hd
          have H := Lib.hid hd
          clear hd d0
          by_cases e2 : g.name = g2.name
          · rw [decide_eq_true e2] at hE
            have d1 : (g.token == g2.token) = false := by simpa using fun q => e1 ⟨e2, q⟩
            clear e1 e2
            go_upto_region 6 with fail
            go_quiet (fail)
            go_wp2
            go_ret
            exact ⟨by rw [ha.out, H.out]; rfl, below_drewN HB.out nq⟩
          · rw [decide_eq_false e2] at hE
            clear e1 e2
            go_upto_region 6 with fail
            go_quiet (fail)
            go_wp2
            go_ret
            exact ⟨by rw [ha.out, H.out]; rfl, below_drewN HB.out nq⟩
      · obtain rfl : j = L := by omega
        go_wp2
        go_ret
        have ha := ha.out
        rw [← hL, List.drop_length, hL, ← hL2, List.drop_length] at ha
        exact ⟨by rw [ha]; rfl, HB.out⟩
  · have d1 : ((l.length : Int) != (m.length : Int)) = true := by simp; omega
    have e : sameH l m = false := same_len l m hn
    rw [e]
    clear h h2 hn e
    generalize l.length = L at *
    generalize m.length = M at *
    go_enter Try.func28, Try.ntmps28
    go_wp2
    go_ret
    exact ⟨rfl, Below.refl _ _⟩
end Cm
end Go.Proofs.Ytfkpgndbohoogaa
