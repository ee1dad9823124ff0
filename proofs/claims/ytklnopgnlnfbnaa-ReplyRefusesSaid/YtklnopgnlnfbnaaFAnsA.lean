/- What package reply answers of answers, as plain functions over bytes. No program is named here. -/
import Derived.Test.YtklnopgnlnfbnaaFAns
set_option linter.unusedVariables false
set_option linter.unusedSimpArgs false
namespace Go.Proofs.Ytklnopgnlnfbnaa
open Go.RowKit
namespace Cm

/-- An answer: whose, the how-manieth, the reply. -/
structure AnsV where
  client : Int
  seq : Int
  rep : ReplyV

def zeroA : AnsV := ⟨0, 0, zeroP⟩
def mayA (r : AnsV) : Bool := decide (0 ≤ r.client) && decide (r.client < 8) && highF r.seq 1 && mayP r.rep

theorem mayA_bounds (r : AnsV) (h : mayA r = true) : (0 ≤ r.client ∧ r.client ≤ 7) ∧ (1 ≤ r.seq ∧ r.seq ≤ 2305843009213693952) ∧ mayP r.rep = true := by
  unfold mayA highF at h
  simp at h
  obtain ⟨⟨⟨h1, h2⟩, h3, h4⟩, h5⟩ := h
  exact ⟨by omega, by omega, h5⟩

def bytesA (r : AnsV) : List UInt8 := UInt8.ofNat r.client.toNat :: (be8 r.seq.toNat ++ bytesP r.rep)
theorem bytesA_length (r : AnsV) : (bytesA r).length = 20 + (bytesH r.rep.held).length := by
  unfold bytesA
  simp [be8_length, bytesP_length]
  omega

def putA (r : AnsV) : List UInt8 × Int := if mayA r then (bytesA r, 0) else ([], 1)

def getA (bs : List UInt8) (t : Int) : AnsV × Int × Int :=
  if (byteOf bs t).2.2 ≠ 0 then (zeroA, 0, (byteOf bs t).2.2) else
  if (numOf bs (byteOf bs t).2.1).2.2 ≠ 0 then (zeroA, 0, (numOf bs (byteOf bs t).2.1).2.2) else
  if (getP bs (numOf bs (byteOf bs t).2.1).2.1).2.2 ≠ 0 then (zeroA, 0, (getP bs (numOf bs (byteOf bs t).2.1).2.1).2.2) else
  if mayA ⟨(byteOf bs t).1, (numOf bs (byteOf bs t).2.1).1, (getP bs (numOf bs (byteOf bs t).2.1).2.1).1⟩ then
    (⟨(byteOf bs t).1, (numOf bs (byteOf bs t).2.1).1, (getP bs (numOf bs (byteOf bs t).2.1).2.1).1⟩, (getP bs (numOf bs (byteOf bs t).2.1).2.1).2.1, 0)
  else (zeroA, 0, 4)

theorem getA_of (bs : List UInt8) (t : Int) (k t1 s t2 t3 : Int) (c : ReplyV) (h1 : byteOf bs t = (k, t1, 0)) (h2 : numOf bs t1 = (s, t2, 0)) (h3 : getP bs t2 = (c, t3, 0)) :
    getA bs t = if mayA ⟨k, s, c⟩ then (⟨k, s, c⟩, t3, 0) else (zeroA, 0, 4) := by
  unfold getA
  rw [h1]
  dsimp only
  rw [if_neg (by simp), h2]
  dsimp only
  rw [if_neg (by simp), h3]
  dsimp only
  rw [if_neg (by simp)]

/-- What is put is read as it was, wherever it stands. -/
theorem getA_put (r : AnsV) (h : mayA r = true) (a b : List UInt8) : getA (a ++ bytesA r ++ b) a.length = (r, (a.length : Int) + (20 + (bytesH r.rep.held).length), 0) := by
  obtain ⟨hk, hs, hc⟩ := mayA_bounds r h
  have e1 : a ++ bytesA r ++ b = a ++ [UInt8.ofNat r.client.toNat] ++ (be8 r.seq.toNat ++ bytesP r.rep ++ b) := by simp [bytesA]
  have e2 : a ++ bytesA r ++ b = (a ++ [UInt8.ofNat r.client.toNat]) ++ be8 r.seq.toNat ++ (bytesP r.rep ++ b) := by simp [bytesA]
  have e3 : a ++ bytesA r ++ b = (a ++ [UInt8.ofNat r.client.toNat] ++ be8 r.seq.toNat) ++ bytesP r.rep ++ b := by simp [bytesA]
  have h1 : byteOf (a ++ bytesA r ++ b) a.length = (r.client, (a.length : Int) + 1, 0) := by
    rw [e1, byteOf_put, toNat_byte _ (by omega), Int.toNat_of_nonneg (by omega)]
  have h2 : numOf (a ++ bytesA r ++ b) ((a.length : Int) + 1) = (r.seq, (a.length : Int) + 1 + 8, 0) := by
    have := numOf_put r.seq.toNat (by omega) (a ++ [UInt8.ofNat r.client.toNat]) (bytesP r.rep ++ b)
    rw [← e2, Int.toNat_of_nonneg (by omega)] at this
    simpa using this
  have h3 : getP (a ++ bytesA r ++ b) ((a.length : Int) + 1 + 8) = (r.rep, (a.length : Int) + 1 + 8 + (11 + (bytesH r.rep.held).length), 0) := by
    have := getP_put r.rep hc (a ++ [UInt8.ofNat r.client.toNat] ++ be8 r.seq.toNat) b
    rw [← e3] at this
    have el : ((a ++ [UInt8.ofNat r.client.toNat] ++ be8 r.seq.toNat).length : Int) = (a.length : Int) + 1 + 8 := by
      simp [be8_length]
      omega
    rw [el] at this
    exact this
  rw [getA_of _ _ _ _ _ _ _ _ h1 h2 h3]
  have e : (⟨r.client, r.seq, r.rep⟩ : AnsV) = r := rfl
  rw [e, if_pos h]
  congr 2
  omega

/-- Cut anywhere a request is too short. -/
theorem getA_cut (r : AnsV) (h : mayA r = true) (a : List UInt8) (j : Nat) (hj : j < (bytesA r).length) : getA (a ++ (bytesA r).take j) a.length = (zeroA, 0, 2) := by
  obtain ⟨hk, hs, hc⟩ := mayA_bounds r h
  rw [bytesA_length] at hj
  by_cases j0 : j = 0
  · subst j0
    unfold getA
    rw [byteOf_short _ _ (by simp)]
    rfl
  · obtain ⟨j, rfl⟩ : ∃ i, j = i + 1 := ⟨j - 1, by omega⟩
    have ht : (bytesA r).take (j + 1) = UInt8.ofNat r.client.toNat :: (be8 r.seq.toNat ++ bytesP r.rep).take j := rfl
    rw [ht]
    have h1 : byteOf (a ++ (UInt8.ofNat r.client.toNat :: (be8 r.seq.toNat ++ bytesP r.rep).take j)) a.length = (r.client, (a.length : Int) + 1, 0) := by
      have := byteOf_put (UInt8.ofNat r.client.toNat) a ((be8 r.seq.toNat ++ bytesP r.rep).take j)
      rw [toNat_byte _ (by omega), Int.toNat_of_nonneg (by omega)] at this
      simpa using this
    by_cases j8 : j < 8
    · have h2 : numOf (a ++ (UInt8.ofNat r.client.toNat :: (be8 r.seq.toNat ++ bytesP r.rep).take j)) ((a.length : Int) + 1) = (0, 0, 2) := by
        have := numOf_short (a ++ (UInt8.ofNat r.client.toNat :: (be8 r.seq.toNat ++ bytesP r.rep).take j)) (a.length + 1) (by simp [be8_length]; omega)
        simpa using this
      unfold getA
      rw [h1]
      dsimp only
      rw [if_neg (by simp), h2]
      rfl
    · have hb : (be8 r.seq.toNat ++ bytesP r.rep).take j = be8 r.seq.toNat ++ (bytesP r.rep).take (j - 8) := by
        rw [List.take_append, List.take_of_length_le (by rw [be8_length]; omega), be8_length]
      rw [hb] at h1 ⊢
      have h2 : numOf (a ++ (UInt8.ofNat r.client.toNat :: (be8 r.seq.toNat ++ (bytesP r.rep).take (j - 8)))) ((a.length : Int) + 1) = (r.seq, (a.length : Int) + 1 + 8, 0) := by
        have := numOf_put r.seq.toNat (by omega) (a ++ [UInt8.ofNat r.client.toNat]) ((bytesP r.rep).take (j - 8))
        rw [Int.toNat_of_nonneg (by omega)] at this
        simpa using this
      have h3 : getP (a ++ (UInt8.ofNat r.client.toNat :: (be8 r.seq.toNat ++ (bytesP r.rep).take (j - 8)))) ((a.length : Int) + 1 + 8) = (zeroP, 0, 2) := by
        have := getP_cut r.rep hc (a ++ [UInt8.ofNat r.client.toNat] ++ be8 r.seq.toNat) (j - 8) (by rw [bytesP_length]; omega)
        have el : ((a ++ [UInt8.ofNat r.client.toNat] ++ be8 r.seq.toNat).length : Int) = (a.length : Int) + 1 + 8 := by
          simp [be8_length]
          omega
        rw [el] at this
        simpa using this
      unfold getA
      rw [h1]
      dsimp only
      rw [if_neg (by simp), h2]
      dsimp only
      rw [if_neg (by simp), h3]
      rfl

/-- Nothing behind the end. -/
theorem getA_end (bs : List UInt8) : getA bs bs.length = (zeroA, 0, 2) := by
  unfold getA
  rw [byteOf_short _ _ (Nat.le_refl _)]
  rfl
end Cm
end Go.Proofs.Ytklnopgnlnfbnaa
