/- What package cmd answers of requests, as plain functions over bytes. No program is named here. -/
import Derived.Test.YtgpiaibklokhmaaFCmd
set_option linter.unusedVariables false
set_option linter.unusedSimpArgs false
namespace Go.Proofs.Ytgpiaibklokhmaa
open Go.RowKit
namespace Cm

/-- A request: whose, the how-manieth, the command. -/
structure ReqV where
  client : Int
  seq : Int
  cmd : CmdV

def zeroR : ReqV := ⟨0, 0, zero⟩
def mayR (r : ReqV) : Bool := decide (0 ≤ r.client) && decide (r.client < 8) && highF r.seq 1 && mayF r.cmd

theorem mayR_bounds (r : ReqV) (h : mayR r = true) : (0 ≤ r.client ∧ r.client ≤ 7) ∧ (1 ≤ r.seq ∧ r.seq ≤ 2305843009213693952) ∧ mayF r.cmd = true := by
  unfold mayR highF at h
  simp at h
  obtain ⟨⟨⟨h1, h2⟩, h3, h4⟩, h5⟩ := h
  exact ⟨by omega, by omega, h5⟩

def bytesR (r : ReqV) : List UInt8 := UInt8.ofNat r.client.toNat :: (be8 r.seq.toNat ++ bytesC r.cmd)
theorem bytesR_length (r : ReqV) : (bytesR r).length = 19 + r.cmd.name.length := by
  unfold bytesR
  simp [be8_length, bytesC_length]
  omega

def putR (r : ReqV) : List UInt8 × Int := if mayR r then (bytesR r, 0) else ([], 1)

def getR (bs : List UInt8) (t : Int) : ReqV × Int × Int :=
  if (byteOf bs t).2.2 ≠ 0 then (zeroR, 0, (byteOf bs t).2.2) else
  if (numOf bs (byteOf bs t).2.1).2.2 ≠ 0 then (zeroR, 0, (numOf bs (byteOf bs t).2.1).2.2) else
  if (getF bs (numOf bs (byteOf bs t).2.1).2.1).2.2 ≠ 0 then (zeroR, 0, (getF bs (numOf bs (byteOf bs t).2.1).2.1).2.2) else
  if mayR ⟨(byteOf bs t).1, (numOf bs (byteOf bs t).2.1).1, (getF bs (numOf bs (byteOf bs t).2.1).2.1).1⟩ then
    (⟨(byteOf bs t).1, (numOf bs (byteOf bs t).2.1).1, (getF bs (numOf bs (byteOf bs t).2.1).2.1).1⟩, (getF bs (numOf bs (byteOf bs t).2.1).2.1).2.1, 0)
  else (zeroR, 0, 4)

theorem getR_of (bs : List UInt8) (t : Int) (k t1 s t2 t3 : Int) (c : CmdV) (h1 : byteOf bs t = (k, t1, 0)) (h2 : numOf bs t1 = (s, t2, 0)) (h3 : getF bs t2 = (c, t3, 0)) :
    getR bs t = if mayR ⟨k, s, c⟩ then (⟨k, s, c⟩, t3, 0) else (zeroR, 0, 4) := by
  unfold getR
  rw [h1]
  dsimp only
  rw [if_neg (by simp), h2]
  dsimp only
  rw [if_neg (by simp), h3]
  dsimp only
  rw [if_neg (by simp)]

/-- What is put is read as it was, wherever it stands. -/
theorem getR_put (r : ReqV) (h : mayR r = true) (a b : List UInt8) : getR (a ++ bytesR r ++ b) a.length = (r, (a.length : Int) + (19 + r.cmd.name.length), 0) := by
  obtain ⟨hk, hs, hc⟩ := mayR_bounds r h
  have e1 : a ++ bytesR r ++ b = a ++ [UInt8.ofNat r.client.toNat] ++ (be8 r.seq.toNat ++ bytesC r.cmd ++ b) := by simp [bytesR]
  have e2 : a ++ bytesR r ++ b = (a ++ [UInt8.ofNat r.client.toNat]) ++ be8 r.seq.toNat ++ (bytesC r.cmd ++ b) := by simp [bytesR]
  have e3 : a ++ bytesR r ++ b = (a ++ [UInt8.ofNat r.client.toNat] ++ be8 r.seq.toNat) ++ bytesC r.cmd ++ b := by simp [bytesR]
  have h1 : byteOf (a ++ bytesR r ++ b) a.length = (r.client, (a.length : Int) + 1, 0) := by
    rw [e1, byteOf_put, toNat_byte _ (by omega), Int.toNat_of_nonneg (by omega)]
  have h2 : numOf (a ++ bytesR r ++ b) ((a.length : Int) + 1) = (r.seq, (a.length : Int) + 1 + 8, 0) := by
    have := numOf_put r.seq.toNat (by omega) (a ++ [UInt8.ofNat r.client.toNat]) (bytesC r.cmd ++ b)
    rw [← e2, Int.toNat_of_nonneg (by omega)] at this
    simpa using this
  have h3 : getF (a ++ bytesR r ++ b) ((a.length : Int) + 1 + 8) = (r.cmd, (a.length : Int) + 1 + 8 + (10 + r.cmd.name.length), 0) := by
    have := getF_put r.cmd hc (a ++ [UInt8.ofNat r.client.toNat] ++ be8 r.seq.toNat) b
    rw [← e3] at this
    have el : ((a ++ [UInt8.ofNat r.client.toNat] ++ be8 r.seq.toNat).length : Int) = (a.length : Int) + 1 + 8 := by
      simp [be8_length]
      omega
    rw [el] at this
    exact this
  rw [getR_of _ _ _ _ _ _ _ _ h1 h2 h3]
  have e : (⟨r.client, r.seq, r.cmd⟩ : ReqV) = r := rfl
  rw [e, if_pos h]
  congr 2
  omega

/-- Cut anywhere a request is too short. -/
theorem getR_cut (r : ReqV) (h : mayR r = true) (a : List UInt8) (j : Nat) (hj : j < (bytesR r).length) : getR (a ++ (bytesR r).take j) a.length = (zeroR, 0, 2) := by
  obtain ⟨hk, hs, hc⟩ := mayR_bounds r h
  rw [bytesR_length] at hj
  by_cases j0 : j = 0
  · subst j0
    unfold getR
    rw [byteOf_short _ _ (by simp)]
    rfl
  · obtain ⟨j, rfl⟩ : ∃ i, j = i + 1 := ⟨j - 1, by omega⟩
    have ht : (bytesR r).take (j + 1) = UInt8.ofNat r.client.toNat :: (be8 r.seq.toNat ++ bytesC r.cmd).take j := rfl
    rw [ht]
    have h1 : byteOf (a ++ (UInt8.ofNat r.client.toNat :: (be8 r.seq.toNat ++ bytesC r.cmd).take j)) a.length = (r.client, (a.length : Int) + 1, 0) := by
      have := byteOf_put (UInt8.ofNat r.client.toNat) a ((be8 r.seq.toNat ++ bytesC r.cmd).take j)
      rw [toNat_byte _ (by omega), Int.toNat_of_nonneg (by omega)] at this
      simpa using this
    by_cases j8 : j < 8
    · have h2 : numOf (a ++ (UInt8.ofNat r.client.toNat :: (be8 r.seq.toNat ++ bytesC r.cmd).take j)) ((a.length : Int) + 1) = (0, 0, 2) := by
        have := numOf_short (a ++ (UInt8.ofNat r.client.toNat :: (be8 r.seq.toNat ++ bytesC r.cmd).take j)) (a.length + 1) (by simp [be8_length]; omega)
        simpa using this
      unfold getR
      rw [h1]
      dsimp only
      rw [if_neg (by simp), h2]
      rfl
    · have hb : (be8 r.seq.toNat ++ bytesC r.cmd).take j = be8 r.seq.toNat ++ (bytesC r.cmd).take (j - 8) := by
        rw [List.take_append, List.take_of_length_le (by rw [be8_length]; omega), be8_length]
      rw [hb] at h1 ⊢
      have h2 : numOf (a ++ (UInt8.ofNat r.client.toNat :: (be8 r.seq.toNat ++ (bytesC r.cmd).take (j - 8)))) ((a.length : Int) + 1) = (r.seq, (a.length : Int) + 1 + 8, 0) := by
        have := numOf_put r.seq.toNat (by omega) (a ++ [UInt8.ofNat r.client.toNat]) ((bytesC r.cmd).take (j - 8))
        rw [Int.toNat_of_nonneg (by omega)] at this
        simpa using this
      have h3 : getF (a ++ (UInt8.ofNat r.client.toNat :: (be8 r.seq.toNat ++ (bytesC r.cmd).take (j - 8)))) ((a.length : Int) + 1 + 8) = (zero, 0, 2) := by
        have := getF_cut r.cmd hc (a ++ [UInt8.ofNat r.client.toNat] ++ be8 r.seq.toNat) (j - 8) (by rw [bytesC_length]; omega)
        have el : ((a ++ [UInt8.ofNat r.client.toNat] ++ be8 r.seq.toNat).length : Int) = (a.length : Int) + 1 + 8 := by
          simp [be8_length]
          omega
        rw [el] at this
        simpa using this
      unfold getR
      rw [h1]
      dsimp only
      rw [if_neg (by simp), h2]
      dsimp only
      rw [if_neg (by simp), h3]
      rfl

/-- What is read has the kind that stands there. -/
theorem getR_kind (bs : List UInt8) (h : (getR bs 0).2.2 = 0) (hl : 10 ≤ bs.length) : (getR bs 0).1.cmd.kind = ((bs.getD 9 0).toNat : Int) := by
  have hb : byteOf bs 0 = (((bs.getD 0 0).toNat : Int), 1, 0) := by
    unfold byteOf
    rw [if_neg (by omega)]
    rfl
  unfold getR at h ⊢
  rw [hb] at h ⊢
  dsimp only at h ⊢
  rw [if_neg (by simp)] at h ⊢
  by_cases g2 : (numOf bs 1).2.2 ≠ 0
  · rw [if_pos g2] at h
    exact absurd h g2
  · rw [if_neg g2] at h ⊢
    have h9 : (numOf bs 1).2.1 = 9 := by
      unfold numOf at g2 ⊢
      rw [if_neg (by omega)] at g2 ⊢
      split
      · rfl
      · rename_i q
        rw [if_neg q] at g2
        exact absurd (by decide) g2
    rw [h9] at h ⊢
    by_cases g3 : (getF bs 9).2.2 ≠ 0
    · rw [if_pos g3] at h
      exact absurd h g3
    · rw [if_neg g3] at h ⊢
      have hk := (getF_may bs 9 (by simpa using g3)).2
      have hb9 : (byteOf bs 9).1 = ((bs.getD 9 0).toNat : Int) := by
        unfold byteOf
        rw [if_neg (by omega)]
        rfl
      rw [hb9] at hk
      by_cases g4 : mayR ⟨((bs.getD 0 0).toNat : Int), (numOf bs 1).1, (getF bs 9).1⟩ = true
      · rw [if_pos g4]
        exact hk
      · rw [if_neg g4] at h
        cases h

/-- Nothing behind the end. -/
theorem getR_end (bs : List UInt8) : getR bs bs.length = (zeroR, 0, 2) := by
  unfold getR
  rw [byteOf_short _ _ (Nat.le_refl _)]
  rfl
end Cm
end Go.Proofs.Ytgpiaibklokhmaa
