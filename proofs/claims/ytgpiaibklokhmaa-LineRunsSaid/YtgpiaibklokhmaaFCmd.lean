/- What package cmd answers, as plain functions over bytes: names, commands, requests; what is put is read as it was. No program is named here. -/
import Derived.Test.YtgpiaibklokhmaaMath2
set_option linter.unusedVariables false
set_option linter.unusedSimpArgs false
namespace Go.Proofs.Ytgpiaibklokhmaa
open Go.RowKit

theorem byteOf_put (x : UInt8) (a c : List UInt8) : byteOf (a ++ [x] ++ c) a.length = ((x.toNat : Int), (a.length : Int) + 1, 0) := by
  unfold byteOf
  rw [if_neg (by simp; omega), Int.toNat_natCast]
  simp [List.getD]

/-- A text that was put is read as it was, whatever is allowed that is not less. -/
theorem textOf_put' (s : List UInt8) (h : s.length ≤ 255) (a c : List UInt8) (m : Int) (hm : (s.length : Int) ≤ m) :
    textOf (a ++ (UInt8.ofNat s.length :: s) ++ c) a.length m = (s, (a.length : Int) + 1 + s.length, 0) := by
  unfold textOf
  have h0 : (a ++ (UInt8.ofNat s.length :: s) ++ c).getD a.length 0 = UInt8.ofNat s.length := by
    simp [List.getD]
  have hn : (UInt8.ofNat s.length).toNat = s.length := toNat_byte _ (by omega)
  have hs : sub (a ++ (UInt8.ofNat s.length :: s) ++ c) (a.length + 1) s.length = s := by
    have := sub_whole (a ++ [UInt8.ofNat s.length]) s s.length (a.length + 1) (by simp) rfl c
    simpa using this
  rw [Int.toNat_natCast, h0, hn]
  rw [if_neg (by simp; omega), if_neg (by omega), if_neg (by simp; omega)]
  rw [hs]

theorem textOf_short (T : List UInt8) (k : Nat) (m : Int) (s : List UInt8) (h : s.length ≤ 255) (hm : (s.length : Int) ≤ m) (P : List UInt8) (j : Nat) (hj : j < 1 + s.length) (hk : k = P.length) (hT : T = P ++ (UInt8.ofNat s.length :: s).take j) :
    textOf T k m = ([], 0, 2) := by
  subst hT
  subst hk
  unfold textOf
  have hlen : (P ++ (UInt8.ofNat s.length :: s).take j).length = P.length + j := by simp; omega
  rw [hlen]
  by_cases h0 : j = 0
  · rw [if_pos (by omega)]
  · rw [if_neg (by omega)]
    have hd : (P ++ (UInt8.ofNat s.length :: s).take j).getD ((P.length : Int)).toNat 0 = UInt8.ofNat s.length := by
      rw [Int.toNat_natCast]
      match j, h0 with
      | j + 1, _ => simp [List.getD]
    rw [hd, toNat_byte _ (by omega)]
    rw [if_neg (by omega), if_pos (by omega)]

theorem byteOf_short (T : List UInt8) (k : Nat) (h : T.length ≤ k) : byteOf T k = (0, 0, 2) := by
  unfold byteOf
  rw [if_pos (by omega)]

namespace Cm

/-- A command: its kind, its session, its name's bytes. -/
structure CmdV where
  kind : Int
  session : Int
  name : List UInt8

def zero : CmdV := ⟨0, 0, []⟩

def nameB (c : UInt8) : Bool := (decide (97 ≤ c.toNat) && decide (c.toNat ≤ 122)) || (decide (48 ≤ c.toNat) && decide (c.toNat ≤ 57)) || decide (c.toNat = 45)
def nameF (s : List UInt8) : Bool := decide (1 ≤ s.length) && decide (s.length ≤ 12) && s.all nameB
def highF (v least : Int) : Bool := decide (least ≤ v) && decide (v ≤ 2305843009213693952)

def mayF (c : CmdV) : Bool :=
  if c.kind = 1 then decide (c.session = 0) && decide (c.name = [])
  else if c.kind = 2 ∨ c.kind = 6 then highF c.session 1 && decide (c.name = [])
  else if c.kind = 3 ∨ c.kind = 4 ∨ c.kind = 5 then highF c.session 1 && nameF c.name
  else false

theorem may_bounds (c : CmdV) (h : mayF c = true) : (1 ≤ c.kind ∧ c.kind ≤ 6) ∧ (0 ≤ c.session ∧ c.session ≤ 2305843009213693952) ∧ c.name.length ≤ 12 := by
  unfold mayF highF nameF at h
  split at h
  · simp at h
    rw [h.2]
    simp
    omega
  · split at h
    · simp at h
      rw [h.2]
      simp
      omega
    · split at h
      · simp at h
        omega
      · cases h

def bytesC (c : CmdV) : List UInt8 := UInt8.ofNat c.kind.toNat :: (be8 c.session.toNat ++ (UInt8.ofNat c.name.length :: c.name))
theorem bytesC_length (c : CmdV) : (bytesC c).length = 10 + c.name.length := by
  unfold bytesC
  simp [be8_length]
  omega

def putF (c : CmdV) : List UInt8 × Int := if mayF c then (bytesC c, 0) else ([], 1)

def getF (bs : List UInt8) (t : Int) : CmdV × Int × Int :=
  if (byteOf bs t).2.2 ≠ 0 then (zero, 0, (byteOf bs t).2.2) else
  if (numOf bs (byteOf bs t).2.1).2.2 ≠ 0 then (zero, 0, (numOf bs (byteOf bs t).2.1).2.2) else
  if (textOf bs (numOf bs (byteOf bs t).2.1).2.1 12).2.2 ≠ 0 then (zero, 0, (textOf bs (numOf bs (byteOf bs t).2.1).2.1 12).2.2) else
  if mayF ⟨(byteOf bs t).1, (numOf bs (byteOf bs t).2.1).1, (textOf bs (numOf bs (byteOf bs t).2.1).2.1 12).1⟩ then
    (⟨(byteOf bs t).1, (numOf bs (byteOf bs t).2.1).1, (textOf bs (numOf bs (byteOf bs t).2.1).2.1 12).1⟩, (textOf bs (numOf bs (byteOf bs t).2.1).2.1 12).2.1, 0)
  else (zero, 0, 4)

/-- getF, its three readings told. -/
theorem getF_of (bs : List UInt8) (t : Int) (k t1 s t2 t3 : Int) (n : List UInt8) (h1 : byteOf bs t = (k, t1, 0)) (h2 : numOf bs t1 = (s, t2, 0)) (h3 : textOf bs t2 12 = (n, t3, 0)) :
    getF bs t = if mayF ⟨k, s, n⟩ then (⟨k, s, n⟩, t3, 0) else (zero, 0, 4) := by
  unfold getF
  rw [h1]
  dsimp only
  rw [if_neg (by simp), h2]
  dsimp only
  rw [if_neg (by simp), h3]
  dsimp only
  rw [if_neg (by simp)]

/-- What is put is read as it was. -/
theorem getF_put (c : CmdV) (h : mayF c = true) (a r : List UInt8) : getF (a ++ bytesC c ++ r) a.length = (c, (a.length : Int) + (10 + c.name.length), 0) := by
  obtain ⟨hk, hs, hn⟩ := may_bounds c h
  have e1 : a ++ bytesC c ++ r = a ++ [UInt8.ofNat c.kind.toNat] ++ (be8 c.session.toNat ++ (UInt8.ofNat c.name.length :: c.name) ++ r) := by simp [bytesC]
  have e2 : a ++ bytesC c ++ r = (a ++ [UInt8.ofNat c.kind.toNat]) ++ be8 c.session.toNat ++ ((UInt8.ofNat c.name.length :: c.name) ++ r) := by simp [bytesC]
  have e3 : a ++ bytesC c ++ r = (a ++ [UInt8.ofNat c.kind.toNat] ++ be8 c.session.toNat) ++ (UInt8.ofNat c.name.length :: c.name) ++ r := by simp [bytesC]
  have h1 : byteOf (a ++ bytesC c ++ r) a.length = (c.kind, (a.length : Int) + 1, 0) := by
    rw [e1, byteOf_put, toNat_byte _ (by omega), Int.toNat_of_nonneg (by omega)]
  have h2 : numOf (a ++ bytesC c ++ r) ((a.length : Int) + 1) = (c.session, (a.length : Int) + 1 + 8, 0) := by
    have := numOf_put c.session.toNat (by omega) (a ++ [UInt8.ofNat c.kind.toNat]) ((UInt8.ofNat c.name.length :: c.name) ++ r)
    rw [← e2, Int.toNat_of_nonneg (by omega)] at this
    simpa using this
  have h3 : textOf (a ++ bytesC c ++ r) ((a.length : Int) + 1 + 8) 12 = (c.name, (a.length : Int) + 1 + 8 + 1 + c.name.length, 0) := by
    have := textOf_put' c.name (by omega) (a ++ [UInt8.ofNat c.kind.toNat] ++ be8 c.session.toNat) r 12 (by omega)
    rw [← e3] at this
    have el : ((a ++ [UInt8.ofNat c.kind.toNat] ++ be8 c.session.toNat).length : Int) = (a.length : Int) + 1 + 8 := by
      simp [be8_length]
      omega
    rw [el] at this
    exact this
  rw [getF_of _ _ _ _ _ _ _ _ h1 h2 h3]
  have e : (⟨c.kind, c.session, c.name⟩ : CmdV) = c := rfl
  rw [e, if_pos h]
  congr 2
  omega

/-- What is read may be. -/
theorem getF_may (bs : List UInt8) (t : Int) (h : (getF bs t).2.2 = 0) : mayF (getF bs t).1 = true ∧ (getF bs t).1.kind = (byteOf bs t).1 := by
  unfold getF at h ⊢
  by_cases g1 : (byteOf bs t).2.2 ≠ 0
  · rw [if_pos g1] at h
    exact absurd h g1
  · rw [if_neg g1] at h ⊢
    by_cases g2 : (numOf bs (byteOf bs t).2.1).2.2 ≠ 0
    · rw [if_pos g2] at h
      exact absurd h g2
    · rw [if_neg g2] at h ⊢
      by_cases g3 : (textOf bs (numOf bs (byteOf bs t).2.1).2.1 12).2.2 ≠ 0
      · rw [if_pos g3] at h
        exact absurd h g3
      · rw [if_neg g3] at h ⊢
        by_cases g4 : mayF ⟨(byteOf bs t).1, (numOf bs (byteOf bs t).2.1).1, (textOf bs (numOf bs (byteOf bs t).2.1).2.1 12).1⟩ = true
        · rw [if_pos g4]
          exact ⟨g4, rfl⟩
        · rw [if_neg g4] at h
          cases h

/-- Cut anywhere a command is too short. -/
theorem getF_cut (c : CmdV) (h : mayF c = true) (a : List UInt8) (j : Nat) (hj : j < (bytesC c).length) : getF (a ++ (bytesC c).take j) a.length = (zero, 0, 2) := by
  obtain ⟨hk, hs, hn⟩ := may_bounds c h
  rw [bytesC_length] at hj
  by_cases j0 : j = 0
  · subst j0
    unfold getF
    rw [byteOf_short _ _ (by simp)]
    rfl
  · obtain ⟨j, rfl⟩ : ∃ i, j = i + 1 := ⟨j - 1, by omega⟩
    have ht : (bytesC c).take (j + 1) = UInt8.ofNat c.kind.toNat :: (be8 c.session.toNat ++ (UInt8.ofNat c.name.length :: c.name)).take j := rfl
    rw [ht]
    have h1 : byteOf (a ++ (UInt8.ofNat c.kind.toNat :: (be8 c.session.toNat ++ (UInt8.ofNat c.name.length :: c.name)).take j)) a.length = (c.kind, (a.length : Int) + 1, 0) := by
      have := byteOf_put (UInt8.ofNat c.kind.toNat) a ((be8 c.session.toNat ++ (UInt8.ofNat c.name.length :: c.name)).take j)
      rw [toNat_byte _ (by omega), Int.toNat_of_nonneg (by omega)] at this
      simpa using this
    by_cases j8 : j < 8
    · have h2 : numOf (a ++ (UInt8.ofNat c.kind.toNat :: (be8 c.session.toNat ++ (UInt8.ofNat c.name.length :: c.name)).take j)) ((a.length : Int) + 1) = (0, 0, 2) := by
        have := numOf_short (a ++ (UInt8.ofNat c.kind.toNat :: (be8 c.session.toNat ++ (UInt8.ofNat c.name.length :: c.name)).take j)) (a.length + 1) (by simp [be8_length]; omega)
        simpa using this
      unfold getF
      rw [h1]
      dsimp only
      rw [if_neg (by simp), h2]
      rfl
    · have hb : (be8 c.session.toNat ++ (UInt8.ofNat c.name.length :: c.name)).take j = be8 c.session.toNat ++ (UInt8.ofNat c.name.length :: c.name).take (j - 8) := by
        rw [List.take_append, List.take_of_length_le (by rw [be8_length]; omega), be8_length]
      rw [hb] at h1 ⊢
      have h2 : numOf (a ++ (UInt8.ofNat c.kind.toNat :: (be8 c.session.toNat ++ (UInt8.ofNat c.name.length :: c.name).take (j - 8)))) ((a.length : Int) + 1) = (c.session, (a.length : Int) + 1 + 8, 0) := by
        have := numOf_put c.session.toNat (by omega) (a ++ [UInt8.ofNat c.kind.toNat]) ((UInt8.ofNat c.name.length :: c.name).take (j - 8))
        rw [Int.toNat_of_nonneg (by omega)] at this
        simpa using this
      have h3 : textOf (a ++ (UInt8.ofNat c.kind.toNat :: (be8 c.session.toNat ++ (UInt8.ofNat c.name.length :: c.name).take (j - 8)))) ((a.length : Int) + 1 + 8) 12 = ([], 0, 2) := by
        have := textOf_short (a ++ (UInt8.ofNat c.kind.toNat :: (be8 c.session.toNat ++ (UInt8.ofNat c.name.length :: c.name).take (j - 8)))) (a.length + 1 + 8) 12 c.name (by omega) (by omega) (a ++ [UInt8.ofNat c.kind.toNat] ++ be8 c.session.toNat) (j - 8) (by omega) (by simp [be8_length]) (by simp)
        have e : ((a.length + 1 + 8 : Nat) : Int) = (a.length : Int) + 1 + 8 := by omega
        rw [e] at this
        exact this
      unfold getF
      rw [h1]
      dsimp only
      rw [if_neg (by simp), h2]
      dsimp only
      rw [if_neg (by simp), h3]
      rfl
end Cm
end Go.Proofs.Ytgpiaibklokhmaa
