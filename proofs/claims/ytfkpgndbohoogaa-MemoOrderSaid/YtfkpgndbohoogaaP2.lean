/- Texts laid together by program: FAns, FAnsA, Rows2, Gen, FSes, FReq, FNames. -/
import Derived.Test.YtfkpgndbohoogaaP1
import Derived.Maps.AppendAt
import Derived.Deep.AppendLies
/- What package reply answers, on: replies and answers read. No program is named here. -/
set_option linter.unusedVariables false
set_option linter.unusedSimpArgs false
namespace Go.Proofs.Ytfkpgndbohoogaa
open Go.RowKit
namespace Cm

def getP (bs : List UInt8) (t : Int) : ReplyV × Int × Int :=
  if (byteOf bs t).2.2 ≠ 0 then (zeroP, 0, (byteOf bs t).2.2) else
  if (numOf bs (byteOf bs t).2.1).2.2 ≠ 0 then (zeroP, 0, (numOf bs (byteOf bs t).2.1).2.2) else
  if (byteOf bs (numOf bs (byteOf bs t).2.1).2.1).2.2 ≠ 0 then (zeroP, 0, (byteOf bs (numOf bs (byteOf bs t).2.1).2.1).2.2) else
  if (byteOf bs (byteOf bs (numOf bs (byteOf bs t).2.1).2.1).2.1).2.2 ≠ 0 then (zeroP, 0, (byteOf bs (byteOf bs (numOf bs (byteOf bs t).2.1).2.1).2.1).2.2) else
  if 4 < (byteOf bs (byteOf bs (numOf bs (byteOf bs t).2.1).2.1).2.1).1 then (zeroP, 0, 4) else
  if (getHeld bs (byteOf bs (byteOf bs (numOf bs (byteOf bs t).2.1).2.1).2.1).1.toNat (byteOf bs (byteOf bs (numOf bs (byteOf bs t).2.1).2.1).2.1).2.1).2.2 ≠ 0 then
    (zeroP, 0, (getHeld bs (byteOf bs (byteOf bs (numOf bs (byteOf bs t).2.1).2.1).2.1).1.toNat (byteOf bs (byteOf bs (numOf bs (byteOf bs t).2.1).2.1).2.1).2.1).2.2) else
  if mayP ⟨(byteOf bs t).1, (numOf bs (byteOf bs t).2.1).1, (byteOf bs (numOf bs (byteOf bs t).2.1).2.1).1, (getHeld bs (byteOf bs (byteOf bs (numOf bs (byteOf bs t).2.1).2.1).2.1).1.toNat (byteOf bs (byteOf bs (numOf bs (byteOf bs t).2.1).2.1).2.1).2.1).1⟩ then
    (⟨(byteOf bs t).1, (numOf bs (byteOf bs t).2.1).1, (byteOf bs (numOf bs (byteOf bs t).2.1).2.1).1, (getHeld bs (byteOf bs (byteOf bs (numOf bs (byteOf bs t).2.1).2.1).2.1).1.toNat (byteOf bs (byteOf bs (numOf bs (byteOf bs t).2.1).2.1).2.1).2.1).1⟩,
      (getHeld bs (byteOf bs (byteOf bs (numOf bs (byteOf bs t).2.1).2.1).2.1).1.toNat (byteOf bs (byteOf bs (numOf bs (byteOf bs t).2.1).2.1).2.1).2.1).2.1, 0)
  else (zeroP, 0, 4)

/-- getP, its readings told. -/
theorem getP_of (bs : List UInt8) (t k t1 s t2 a t3 n t4 : Int) (h1 : byteOf bs t = (k, t1, 0)) (h2 : numOf bs t1 = (s, t2, 0)) (h3 : byteOf bs t2 = (a, t3, 0)) (h4 : byteOf bs t3 = (n, t4, 0)) (hn : n ≤ 4) :
    getP bs t = if (getHeld bs n.toNat t4).2.2 ≠ 0 then (zeroP, 0, (getHeld bs n.toNat t4).2.2) else if mayP ⟨k, s, a, (getHeld bs n.toNat t4).1⟩ then (⟨k, s, a, (getHeld bs n.toNat t4).1⟩, (getHeld bs n.toNat t4).2.1, 0) else (zeroP, 0, 4) := by
  unfold getP
  rw [h1]
  dsimp only
  rw [if_neg (by simp), h2]
  dsimp only
  rw [if_neg (by simp), h3]
  dsimp only
  rw [if_neg (by simp), h4]
  dsimp only
  rw [if_neg (by simp), if_neg (by omega)]

theorem headP (r : ReplyV) (hc : 0 ≤ r.code ∧ r.code ≤ 12) (hs : 0 ≤ r.session ∧ r.session ≤ 2305843009213693952) (ha : 0 ≤ r.ahead ∧ r.ahead ≤ 3) (hl : r.held.length ≤ 4) (a x : List UInt8) :
    byteOf (a ++ (UInt8.ofNat r.code.toNat :: (be8 r.session.toNat ++ (UInt8.ofNat r.ahead.toNat :: UInt8.ofNat r.held.length :: x)))) a.length = (r.code, (a.length : Int) + 1, 0) ∧
    numOf (a ++ (UInt8.ofNat r.code.toNat :: (be8 r.session.toNat ++ (UInt8.ofNat r.ahead.toNat :: UInt8.ofNat r.held.length :: x)))) ((a.length : Int) + 1) = (r.session, (a.length : Int) + 9, 0) ∧
    byteOf (a ++ (UInt8.ofNat r.code.toNat :: (be8 r.session.toNat ++ (UInt8.ofNat r.ahead.toNat :: UInt8.ofNat r.held.length :: x)))) ((a.length : Int) + 9) = (r.ahead, (a.length : Int) + 10, 0) ∧
    byteOf (a ++ (UInt8.ofNat r.code.toNat :: (be8 r.session.toNat ++ (UInt8.ofNat r.ahead.toNat :: UInt8.ofNat r.held.length :: x)))) ((a.length : Int) + 10) = ((r.held.length : Int), (a.length : Int) + 11, 0) := by
  refine ⟨?_, ?_, ?_, ?_⟩
  · have := byteOf_put (UInt8.ofNat r.code.toNat) a (be8 r.session.toNat ++ (UInt8.ofNat r.ahead.toNat :: UInt8.ofNat r.held.length :: x))
    rw [toNat_byte _ (by omega), Int.toNat_of_nonneg (by omega)] at this
    simpa using this
  · have := numOf_put r.session.toNat (by omega) (a ++ [UInt8.ofNat r.code.toNat]) (UInt8.ofNat r.ahead.toNat :: UInt8.ofNat r.held.length :: x)
    rw [Int.toNat_of_nonneg (by omega)] at this
    have el : ((a ++ [UInt8.ofNat r.code.toNat]).length : Int) = (a.length : Int) + 1 := by simp
    rw [el] at this
    have e : (a.length : Int) + 1 + 8 = (a.length : Int) + 9 := by omega
    rw [e] at this
    simpa using this
  · have := byteOf_put (UInt8.ofNat r.ahead.toNat) (a ++ [UInt8.ofNat r.code.toNat] ++ be8 r.session.toNat) (UInt8.ofNat r.held.length :: x)
    rw [toNat_byte _ (by omega), Int.toNat_of_nonneg (by omega)] at this
    have el : ((a ++ [UInt8.ofNat r.code.toNat] ++ be8 r.session.toNat).length : Int) = (a.length : Int) + 9 := by simp [be8_length] <;> omega
    rw [el] at this
    have e : (a.length : Int) + 9 + 1 = (a.length : Int) + 10 := by omega
    rw [e] at this
    simpa using this
  · have := byteOf_put (UInt8.ofNat r.held.length) (a ++ [UInt8.ofNat r.code.toNat] ++ be8 r.session.toNat ++ [UInt8.ofNat r.ahead.toNat]) x
    rw [toNat_byte _ (by omega)] at this
    have el : ((a ++ [UInt8.ofNat r.code.toNat] ++ be8 r.session.toNat ++ [UInt8.ofNat r.ahead.toNat]).length : Int) = (a.length : Int) + 10 := by simp [be8_length] <;> omega
    rw [el] at this
    have e : (a.length : Int) + 10 + 1 = (a.length : Int) + 11 := by omega
    rw [e] at this
    simpa using this

/-- A reply that is put is read as it was. -/
theorem getP_put (r : ReplyV) (h : mayP r = true) (a b : List UInt8) : getP (a ++ bytesP r ++ b) a.length = (r, (a.length : Int) + (11 + (bytesH r.held).length), 0) := by
  obtain ⟨hc, hs, ha, hl, hg⟩ := mayP_bounds r h
  have e : a ++ bytesP r ++ b = a ++ (UInt8.ofNat r.code.toNat :: (be8 r.session.toNat ++ (UInt8.ofNat r.ahead.toNat :: UInt8.ofNat r.held.length :: (bytesH r.held ++ b)))) := by simp [bytesP]
  obtain ⟨h1, h2, h3, h4⟩ := headP r hc hs ha hl a (bytesH r.held ++ b)
  rw [← e] at h1 h2 h3 h4
  have e5 : a ++ bytesP r ++ b = (a ++ [UInt8.ofNat r.code.toNat] ++ be8 r.session.toNat ++ [UInt8.ofNat r.ahead.toNat, UInt8.ofNat r.held.length]) ++ bytesH r.held ++ b := by simp [bytesP]
  have h5 := getHeld_put r.held (a ++ [UInt8.ofNat r.code.toNat] ++ be8 r.session.toNat ++ [UInt8.ofNat r.ahead.toNat, UInt8.ofNat r.held.length]) b hg
  have el : ((a ++ [UInt8.ofNat r.code.toNat] ++ be8 r.session.toNat ++ [UInt8.ofNat r.ahead.toNat, UInt8.ofNat r.held.length]).length : Int) = (a.length : Int) + 11 := by simp [be8_length] <;> omega
  rw [← e5, el] at h5
  rw [getP_of _ _ _ _ _ _ _ _ _ _ h1 h2 h3 h4 (by omega), Int.toNat_natCast, h5]
  dsimp only
  have e6 : (⟨r.code, r.session, r.ahead, r.held⟩ : ReplyV) = r := rfl
  rw [if_neg (by simp), e6, if_pos h]
  congr 2
  omega

/-- Cut anywhere a reply is too short. -/
theorem getP_cut (r : ReplyV) (h : mayP r = true) (a : List UInt8) (j : Nat) (hj : j < (bytesP r).length) : getP (a ++ (bytesP r).take j) a.length = (zeroP, 0, 2) := by
  obtain ⟨hc, hs, ha, hl, hg⟩ := mayP_bounds r h
  rw [bytesP_length] at hj
  have hlen : (a ++ (bytesP r).take j).length = a.length + j := by rw [List.length_append, List.length_take, bytesP_length]; omega
  by_cases j0 : j = 0
  · subst j0
    unfold getP
    rw [byteOf_short _ _ (by rw [hlen]; omega)]
    rfl
  · by_cases j11 : j < 11
    · have h1 : byteOf (a ++ (bytesP r).take j) a.length = ((((a ++ (bytesP r).take j).getD a.length 0).toNat : Int), (a.length : Int) + 1, 0) := by
        unfold byteOf
        rw [if_neg (by rw [hlen]; omega), Int.toNat_natCast]
      by_cases j9 : j < 9
      · have h2 : numOf (a ++ (bytesP r).take j) ((a.length : Int) + 1) = (0, 0, 2) := by
          have := numOf_short (a ++ (bytesP r).take j) (a.length + 1) (by rw [hlen]; omega)
          simpa using this
        unfold getP
        rw [h1]
        dsimp only
        rw [if_neg (by simp), h2]
        rfl
      · have ht : (bytesP r).take j = UInt8.ofNat r.code.toNat :: (be8 r.session.toNat ++ (UInt8.ofNat r.ahead.toNat :: UInt8.ofNat r.held.length :: bytesH r.held).take (j - 9)) := by
          have e1 : bytesP r = (UInt8.ofNat r.code.toNat :: be8 r.session.toNat) ++ (UInt8.ofNat r.ahead.toNat :: UInt8.ofNat r.held.length :: bytesH r.held) := by simp [bytesP]
          rw [e1, List.take_append, List.take_of_length_le (by simp [be8_length]; omega)]
          have e2 : j - (UInt8.ofNat r.code.toNat :: be8 r.session.toNat).length = j - 9 := by simp [be8_length]
          rw [e2]
          rfl
        have h2 : numOf (a ++ (bytesP r).take j) ((a.length : Int) + 1) = (r.session, (a.length : Int) + 1 + 8, 0) := by
          rw [ht]
          have := numOf_put r.session.toNat (by omega) (a ++ [UInt8.ofNat r.code.toNat]) ((UInt8.ofNat r.ahead.toNat :: UInt8.ofNat r.held.length :: bytesH r.held).take (j - 9))
          rw [Int.toNat_of_nonneg (by omega)] at this
          simpa using this
        by_cases j10 : j = 9
        · have h3 : byteOf (a ++ (bytesP r).take j) ((a.length : Int) + 1 + 8) = (0, 0, 2) := by
            have := byteOf_short (a ++ (bytesP r).take j) (a.length + 1 + 8) (by rw [hlen]; omega)
            have e : ((a.length + 1 + 8 : Nat) : Int) = (a.length : Int) + 1 + 8 := by omega
            rw [e] at this
            exact this
          unfold getP
          rw [h1]
          dsimp only
          rw [if_neg (by simp), h2]
          dsimp only
          rw [if_neg (by simp), h3]
          rfl
        · have h3 : byteOf (a ++ (bytesP r).take j) ((a.length : Int) + 1 + 8) = ((((a ++ (bytesP r).take j).getD (a.length + 9) 0).toNat : Int), (a.length : Int) + 1 + 8 + 1, 0) := by
            unfold byteOf
            have e : ((a.length : Int) + 1 + 8).toNat = a.length + 9 := by omega
            rw [if_neg (by rw [hlen]; omega), e]
          have h4 : byteOf (a ++ (bytesP r).take j) ((a.length : Int) + 1 + 8 + 1) = (0, 0, 2) := by
            have := byteOf_short (a ++ (bytesP r).take j) (a.length + 1 + 8 + 1) (by rw [hlen]; omega)
            have e : ((a.length + 1 + 8 + 1 : Nat) : Int) = (a.length : Int) + 1 + 8 + 1 := by omega
            rw [e] at this
            exact this
          unfold getP
          rw [h1]
          dsimp only
          rw [if_neg (by simp), h2]
          dsimp only
          rw [if_neg (by simp), h3]
          dsimp only
          rw [if_neg (by simp), h4]
          rfl
    · have ht : (bytesP r).take j = UInt8.ofNat r.code.toNat :: (be8 r.session.toNat ++ (UInt8.ofNat r.ahead.toNat :: UInt8.ofNat r.held.length :: (bytesH r.held).take (j - 11))) := by
        have e1 : bytesP r = (UInt8.ofNat r.code.toNat :: (be8 r.session.toNat ++ [UInt8.ofNat r.ahead.toNat, UInt8.ofNat r.held.length])) ++ bytesH r.held := by simp [bytesP]
        rw [e1, List.take_append, List.take_of_length_le (by simp [be8_length]; omega)]
        have e2 : j - (UInt8.ofNat r.code.toNat :: (be8 r.session.toNat ++ [UInt8.ofNat r.ahead.toNat, UInt8.ofNat r.held.length])).length = j - 11 := by simp [be8_length]
        rw [e2]
        simp
      rw [ht]
      obtain ⟨h1, h2, h3, h4⟩ := headP r hc hs ha hl a ((bytesH r.held).take (j - 11))
      have h5 := getHeld_cut r.held (a ++ [UInt8.ofNat r.code.toNat] ++ be8 r.session.toNat ++ [UInt8.ofNat r.ahead.toNat, UInt8.ofNat r.held.length]) (j - 11) hg (by omega)
      have el : ((a ++ [UInt8.ofNat r.code.toNat] ++ be8 r.session.toNat ++ [UInt8.ofNat r.ahead.toNat, UInt8.ofNat r.held.length]).length : Int) = (a.length : Int) + 11 := by simp [be8_length] <;> omega
      rw [el] at h5
      have e5 : (a ++ [UInt8.ofNat r.code.toNat] ++ be8 r.session.toNat ++ [UInt8.ofNat r.ahead.toNat, UInt8.ofNat r.held.length]) ++ (bytesH r.held).take (j - 11) = a ++ (UInt8.ofNat r.code.toNat :: (be8 r.session.toNat ++ (UInt8.ofNat r.ahead.toNat :: UInt8.ofNat r.held.length :: (bytesH r.held).take (j - 11)))) := by simp
      rw [e5] at h5
      rw [getP_of _ _ _ _ _ _ _ _ _ _ h1 h2 h3 h4 (by omega), Int.toNat_natCast, h5]
      rfl
end Cm
end Go.Proofs.Ytfkpgndbohoogaa

/- What package reply answers of answers, as plain functions over bytes. No program is named here. -/
set_option linter.unusedVariables false
set_option linter.unusedSimpArgs false
namespace Go.Proofs.Ytfkpgndbohoogaa
open Go.RowKit
namespace Cm

/-- An answer: whose, the how-manieth, the reply. -/
structure AnsV where
  client : Int
  seq : Int
  rep : ReplyV

def zeroA : AnsV := ⟨0, 0, zeroP⟩
def mayA (r : AnsV) : Bool := decide (0 ≤ r.client) && decide (r.client < 8) && highF r.seq 1 && mayP r.rep

theorem mayA_bounds (r : AnsV) (h : mayA r = true) : (0 ≤ r.client ∧ r.client ≤ 7) ∧ (1 ≤ r.seq ∧ r.seq ≤ 2305843009213693952) ∧ mayP r.rep = true := by
  unfold mayA highF at h
  simp at h
  obtain ⟨⟨⟨h1, h2⟩, h3, h4⟩, h5⟩ := h
  exact ⟨by omega, by omega, h5⟩

def bytesA (r : AnsV) : List UInt8 := UInt8.ofNat r.client.toNat :: (be8 r.seq.toNat ++ bytesP r.rep)
theorem bytesA_length (r : AnsV) : (bytesA r).length = 20 + (bytesH r.rep.held).length := by
  unfold bytesA
  simp [be8_length, bytesP_length]
  omega

def putA (r : AnsV) : List UInt8 × Int := if mayA r then (bytesA r, 0) else ([], 1)

def getA (bs : List UInt8) (t : Int) : AnsV × Int × Int :=
  if (byteOf bs t).2.2 ≠ 0 then (zeroA, 0, (byteOf bs t).2.2) else
  if (numOf bs (byteOf bs t).2.1).2.2 ≠ 0 then (zeroA, 0, (numOf bs (byteOf bs t).2.1).2.2) else
  if (getP bs (numOf bs (byteOf bs t).2.1).2.1).2.2 ≠ 0 then (zeroA, 0, (getP bs (numOf bs (byteOf bs t).2.1).2.1).2.2) else
  if mayA ⟨(byteOf bs t).1, (numOf bs (byteOf bs t).2.1).1, (getP bs (numOf bs (byteOf bs t).2.1).2.1).1⟩ then
    (⟨(byteOf bs t).1, (numOf bs (byteOf bs t).2.1).1, (getP bs (numOf bs (byteOf bs t).2.1).2.1).1⟩, (getP bs (numOf bs (byteOf bs t).2.1).2.1).2.1, 0)
  else (zeroA, 0, 4)

theorem getA_of (bs : List UInt8) (t : Int) (k t1 s t2 t3 : Int) (c : ReplyV) (h1 : byteOf bs t = (k, t1, 0)) (h2 : numOf bs t1 = (s, t2, 0)) (h3 : getP bs t2 = (c, t3, 0)) :
    getA bs t = if mayA ⟨k, s, c⟩ then (⟨k, s, c⟩, t3, 0) else (zeroA, 0, 4) := by
  unfold getA
  rw [h1]
  dsimp only
  rw [if_neg (by simp), h2]
  dsimp only
  rw [if_neg (by simp), h3]
  dsimp only
  rw [if_neg (by simp)]

/-- What is put is read as it was, wherever it stands. -/
theorem getA_put (r : AnsV) (h : mayA r = true) (a b : List UInt8) : getA (a ++ bytesA r ++ b) a.length = (r, (a.length : Int) + (20 + (bytesH r.rep.held).length), 0) := by
  obtain ⟨hk, hs, hc⟩ := mayA_bounds r h
  have e1 : a ++ bytesA r ++ b = a ++ [UInt8.ofNat r.client.toNat] ++ (be8 r.seq.toNat ++ bytesP r.rep ++ b) := by simp [bytesA]
  have e2 : a ++ bytesA r ++ b = (a ++ [UInt8.ofNat r.client.toNat]) ++ be8 r.seq.toNat ++ (bytesP r.rep ++ b) := by simp [bytesA]
  have e3 : a ++ bytesA r ++ b = (a ++ [UInt8.ofNat r.client.toNat] ++ be8 r.seq.toNat) ++ bytesP r.rep ++ b := by simp [bytesA]
  have h1 : byteOf (a ++ bytesA r ++ b) a.length = (r.client, (a.length : Int) + 1, 0) := by
    rw [e1, byteOf_put, toNat_byte _ (by omega), Int.toNat_of_nonneg (by omega)]
  have h2 : numOf (a ++ bytesA r ++ b) ((a.length : Int) + 1) = (r.seq, (a.length : Int) + 1 + 8, 0) := by
    have := numOf_put r.seq.toNat (by omega) (a ++ [UInt8.ofNat r.client.toNat]) (bytesP r.rep ++ b)
    rw [← e2, Int.toNat_of_nonneg (by omega)] at this
    simpa using this
  have h3 : getP (a ++ bytesA r ++ b) ((a.length : Int) + 1 + 8) = (r.rep, (a.length : Int) + 1 + 8 + (11 + (bytesH r.rep.held).length), 0) := by
    have := getP_put r.rep hc (a ++ [UInt8.ofNat r.client.toNat] ++ be8 r.seq.toNat) b
    rw [← e3] at this
    have el : ((a ++ [UInt8.ofNat r.client.toNat] ++ be8 r.seq.toNat).length : Int) = (a.length : Int) + 1 + 8 := by
      simp [be8_length]
      omega
    rw [el] at this
    exact this
  rw [getA_of _ _ _ _ _ _ _ _ h1 h2 h3]
  have e : (⟨r.client, r.seq, r.rep⟩ : AnsV) = r := rfl
  rw [e, if_pos h]
  congr 2
  omega

/-- Cut anywhere a request is too short. -/
theorem getA_cut (r : AnsV) (h : mayA r = true) (a : List UInt8) (j : Nat) (hj : j < (bytesA r).length) : getA (a ++ (bytesA r).take j) a.length = (zeroA, 0, 2) := by
  obtain ⟨hk, hs, hc⟩ := mayA_bounds r h
  rw [bytesA_length] at hj
  by_cases j0 : j = 0
  · subst j0
    unfold getA
    rw [byteOf_short _ _ (by simp)]
    rfl
  · obtain ⟨j, rfl⟩ : ∃ i, j = i + 1 := ⟨j - 1, by omega⟩
    have ht : (bytesA r).take (j + 1) = UInt8.ofNat r.client.toNat :: (be8 r.seq.toNat ++ bytesP r.rep).take j := rfl
    rw [ht]
    have h1 : byteOf (a ++ (UInt8.ofNat r.client.toNat :: (be8 r.seq.toNat ++ bytesP r.rep).take j)) a.length = (r.client, (a.length : Int) + 1, 0) := by
      have := byteOf_put (UInt8.ofNat r.client.toNat) a ((be8 r.seq.toNat ++ bytesP r.rep).take j)
      rw [toNat_byte _ (by omega), Int.toNat_of_nonneg (by omega)] at this
      simpa using this
    by_cases j8 : j < 8
    · have h2 : numOf (a ++ (UInt8.ofNat r.client.toNat :: (be8 r.seq.toNat ++ bytesP r.rep).take j)) ((a.length : Int) + 1) = (0, 0, 2) := by
        have := numOf_short (a ++ (UInt8.ofNat r.client.toNat :: (be8 r.seq.toNat ++ bytesP r.rep).take j)) (a.length + 1) (by simp [be8_length]; omega)
        simpa using this
      unfold getA
      rw [h1]
      dsimp only
      rw [if_neg (by simp), h2]
      rfl
    · have hb : (be8 r.seq.toNat ++ bytesP r.rep).take j = be8 r.seq.toNat ++ (bytesP r.rep).take (j - 8) := by
        rw [List.take_append, List.take_of_length_le (by rw [be8_length]; omega), be8_length]
      rw [hb] at h1 ⊢
      have h2 : numOf (a ++ (UInt8.ofNat r.client.toNat :: (be8 r.seq.toNat ++ (bytesP r.rep).take (j - 8)))) ((a.length : Int) + 1) = (r.seq, (a.length : Int) + 1 + 8, 0) := by
        have := numOf_put r.seq.toNat (by omega) (a ++ [UInt8.ofNat r.client.toNat]) ((bytesP r.rep).take (j - 8))
        rw [Int.toNat_of_nonneg (by omega)] at this
        simpa using this
      have h3 : getP (a ++ (UInt8.ofNat r.client.toNat :: (be8 r.seq.toNat ++ (bytesP r.rep).take (j - 8)))) ((a.length : Int) + 1 + 8) = (zeroP, 0, 2) := by
        have := getP_cut r.rep hc (a ++ [UInt8.ofNat r.client.toNat] ++ be8 r.seq.toNat) (j - 8) (by rw [bytesP_length]; omega)
        have el : ((a ++ [UInt8.ofNat r.client.toNat] ++ be8 r.seq.toNat).length : Int) = (a.length : Int) + 1 + 8 := by
          simp [be8_length]
          omega
        rw [el] at this
        simpa using this
      unfold getA
      rw [h1]
      dsimp only
      rw [if_neg (by simp), h2]
      dsimp only
      rw [if_neg (by simp), h3]
      rfl

/-- Nothing behind the end. -/
theorem getA_end (bs : List UInt8) : getA bs bs.length = (zeroA, 0, 2) := by
  unfold getA
  rw [byteOf_short _ _ (Nat.le_refl _)]
  rfl
end Cm
end Go.Proofs.Ytfkpgndbohoogaa

/- Rows that a call owns: what stays, two that grow side by side; slices that read as cells. No program is named here. -/
set_option linter.unusedVariables false
set_option linter.unusedSimpArgs false
namespace Go.Proofs.Ytfkpgndbohoogaa
open Go.RowKit
namespace Rw

/-- What the call owns stays so while its block does. -/
theorem own_keep {w w' : World} {base : Nat} {e : TypeId} {size n : Nat} {v : Value} {xs : List Value} (h : w.ownsRow base e size v n xs) (hb : ∀ g, v.ownBlock = some g → w'.heap[g]? = w.heap[g]?) : w'.ownsRow base e size v n xs := by
  refine ⟨h.1, ?_⟩
  rcases h.2 with ⟨rfl, hn⟩ | ⟨g, cap, cur, rfl, h1, h2, h3⟩
  · exact .inl ⟨rfl, hn⟩
  · exact .inr ⟨g, cap, cur, rfl, h1, by rw [hb g rfl]; exact h2, h3⟩

theorem own_lt {w : World} {base : Nat} {e : TypeId} {size n : Nat} {v : Value} {xs : List Value} (h : w.ownsRow base e size v n xs) (g : Nat) (hg : v.ownBlock = some g) : base ≤ g ∧ g < w.heap.size := by
  rcases h.2 with ⟨rfl, hn⟩ | ⟨g', cap, cur, rfl, h1, h2, h3⟩
  · cases hg
  · have : g' = g := by simpa [Value.ownBlock] using hg
    subst this
    refine ⟨h1, ?_⟩
    rcases Nat.lt_or_ge g' w.heap.size with q | q
    · exact q
    · rw [Array.getElem?_eq_none q] at h2; cases h2

theorem own_below {w w' : World} {base : Nat} {e : TypeId} {size n : Nat} {v : Value} {xs : List Value} (h : w.ownsRow base e size v n xs) (hb : Below w.heap.size w w') : w'.ownsRow base e size v n xs :=
  own_keep h fun g hg => hb.block g (own_lt h g hg).2

theorem own_alloc {w : World} {base : Nat} {e : TypeId} {size n : Nat} {v : Value} {xs : List Value} (h : w.ownsRow base e size v n xs) (o : Obj) : (w.alloc o).ownsRow base e size v n xs :=
  own_below h (newAlloc w o)

/-- Two rows lie apart. -/
def Apart (u v : Value) : Prop := ∀ g, u.ownBlock = some g → v.ownBlock ≠ some g

theorem Apart.symm {u v : Value} (h : Apart u v) : Apart v u := fun g hv hu => h g hu hv
theorem Apart.nil (v : Value) : Apart (.slice none 0 0) v := fun g h => by cases h

theorem own_other {w w' : World} {base : Nat} {e : TypeId} {size n : Nat} {u v : Value} {xs : List Value} (h : w.ownsRow base e size v n xs) (hg : w.grownBy w' u.ownBlock) (ha : Apart u v) : w'.ownsRow base e size v n xs :=
  own_keep h fun g q => hg.block g (own_lt h g q).2 (fun e => ha g e.symm q)

theorem apart_grown {w : World} {base : Nat} {e : TypeId} {size n : Nat} {u u' v : Value} {xs : List Value} (h : w.ownsRow base e size v n xs) (ha : Apart u v) (hat : u'.ownBlock = u.ownBlock ∨ u'.ownBlock = some w.heap.size) : Apart u' v := by
  intro g hg hv
  rcases hat with q | q
  · exact ha g (by rw [← q]; exact hg) hv
  · have := (own_lt h g hv).2
    rw [hg] at q
    injection q with q
    omega

theorem below_grown {B : Nat} {a w w' : World} {base : Nat} {e : TypeId} {size n : Nat} {v : Value} {xs : List Value} (h : Below B a w) (ho : w.ownsRow base e size v n xs) (hg : w.grownBy w' v.ownBlock) (hB : B ≤ base) (hs : B ≤ w.heap.size) : Below B a w' :=
  h.grown hg hs fun k hk => Nat.le_trans hB (own_lt ho k hk).1

theorem own_form {w : World} {base : Nat} {e : TypeId} {size n : Nat} {v : Value} {xs : List Value} (h : w.ownsRow base e size v n xs) : ∃ a c, v = .slice a n c := by
  rcases h.2 with ⟨rfl, hn⟩ | ⟨g, cap, cur, rfl, _⟩
  · subst hn; exact ⟨none, 0, rfl⟩
  · exact ⟨_, _, rfl⟩

/-- The slice v of n elements reads as these cells. -/
def RdN (w : World) (v : Value) (n : Nat) (xs : List Value) : Prop :=
  ∃ a cap, v = .slice a n cap ∧ n ≤ cap ∧ cap ≤ maxLen ∧ (a = none → n = 0 ∧ cap = 0) ∧ ∀ x, a = some x → 0 < n → x.spot = none ∧ ∀ i u, xs[i]? = some u → w.cell? ⟨x.block, x.off + i, none⟩ = some u

theorem RdN.later {w w' : World} {v : Value} {n : Nat} {xs : List Value} (h : RdN w v n xs) (hb : Below w.heap.size w w') : RdN w' v n xs := by
  obtain ⟨a, cap, hv, h1, h2, h3, h4⟩ := h
  refine ⟨a, cap, hv, h1, h2, h3, fun x hx hp => ?_⟩
  obtain ⟨hs, hc⟩ := h4 x hx hp
  exact ⟨hs, fun i u hi => by rw [hb.cell (p := ⟨x.block, x.off + i, none⟩) (lt_of_cell (hc i u hi))]; exact hc i u hi⟩

theorem RdN.own {w : World} {base : Nat} {e : TypeId} {size n : Nat} {v : Value} {xs : List Value} (h : w.ownsRow base e size v n xs) : RdN w v n xs := by
  rcases h.2 with ⟨rfl, hn⟩ | ⟨g, cap, cur, rfl, hb, hg, hn, hc, hs, ht⟩
  · exact ⟨none, 0, by rw [hn], by omega, by unfold maxLen; omega, fun _ => ⟨hn, rfl⟩, fun x hx => by cases hx⟩
  · refine ⟨some ⟨g, 0, none⟩, cap, rfl, hn, hc, (fun q => by cases q), fun x hx hp => ?_⟩
    cases hx
    refine ⟨rfl, fun i u hi => ?_⟩
    have hil : i < xs.length := (List.getElem?_eq_some_iff.1 hi).1
    rw [h.1] at hil
    have := h.cellAt (0 + i) (by rw [Nat.zero_add]; exact hil)
    rw [this, Nat.zero_add]
    exact hi

/-- What reads as bytes in a block that does not grow reads so still. -/
theorem rd_other {w w' : World} {u : Value} {g n cap : Nat} {bs : List UInt8} (h : Rd w (.slice (some ⟨g, 0, none⟩) n cap) bs) (hl : g < w.heap.size) (hg : w.grownBy w' u.ownBlock) (hne : u.ownBlock ≠ some g) : Rd w' (.slice (some ⟨g, 0, none⟩) n cap) bs := by
  have hb := hg.block g hl (fun e => hne e.symm)
  obtain ⟨a, len, c, hv, hle, hc, hmx, hn, hx⟩ := h.ex
  cases hv
  refine ⟨some ⟨g, 0, none⟩, n, cap, rfl, hle, hc, hmx, (fun q => by cases q), fun x hx' hp => ?_⟩
  cases hx'
  obtain ⟨h1, h2⟩ := hx _ rfl hp
  refine ⟨rfl, fun i hi => ?_⟩
  rw [World.cell?_of_block (w := w) (a := ⟨g, 0 + i, none⟩) hb]
  exact h2 i hi

theorem own_ne {w : World} {base : Nat} {e : TypeId} {size n : Nat} {v : Value} {xs : List Value} (h : w.ownsRow base e size v n xs) {g : Nat} (hg : w.heap.size ≤ g) : v.ownBlock ≠ some g := fun q => by
  have := (own_lt h g q).2
  omega

section
variable {P : Program} {w : World}
/-- Bytes appended to what the call owns: and where they lie. -/
theorem wpList_append_rd_at {ops : Array Oper} {rest : List Oper} {o : Oper} {a : Act} {Q : Exit → Act → World → Prop} (hgd : o.guard = none) (s x : Operand) (t : TypeId)
    (ho : o.op = .call { callee := .builtin .append, args := #[s, x], argTypes := #[t, t] })
    (base : Nat) (e : TypeId) (i : TypeInfo) (ht : P.underlying t = some (.slice e)) (hi : P.info? e = some i) (hz : i.zero = some (.int .u8 0)) (hsize : i.size = 1) (hby : i.bytes = 1)
    (v : Value) (n : Nat) (xs : List Value) (hs : a.eval s = v) (hown : w.ownsRow base e 1 v n xs) (y : Value) (bs : List UInt8) (hx : a.eval x = y) (hr : Rd w y bs)
    (hlen : n + bs.length ≤ 140737488355328) (hbase : base ≤ w.heap.size)
    (h : ∀ v' w', w'.ownsRow base e 1 v' (n + bs.length) (xs ++ cellsOf bs) → w.grownBy w' v.ownBlock → (v'.ownBlock = v.ownBlock ∨ v'.ownBlock = some w.heap.size) → wpList P ops Q rest (a.put o.dst v') w') : wpList P ops Q (o :: rest) a w := by
  obtain ⟨ao, len, cap, rfl, hl, hc, hm, hn, hcells⟩ := hr.ex
  match ao, hn, hcells with
  | none, hn, _ =>
    obtain ⟨rfl, rfl⟩ := hn rfl
    obtain rfl : bs = [] := List.length_eq_zero_iff.1 hl
    refine wpList_append_own_none hgd s x t ho base e i 1 ht hi v n xs hs hown hx ?_
    exact h v w (by simpa [cellsOf] using hown) (World.grownBy.refl _ _) (.inl rfl)
  | some ad, _, hcells =>
    refine wpList_append_own_at w hgd s x t ho base e i (.int .u8 0) 1 1 ht hi hz hsize hby rfl (by decide) v n xs hs hown ad len cap (cellsOf bs) hx (by rw [cellsOf_length]; omega) ?_ (cellsOf_one bs) (by unfold maxLen; omega) (by omega) hbase ?_
    · intro j u hj
      obtain ⟨hj', rfl⟩ := cellsOf_get bs j u hj
      obtain ⟨hs', hi'⟩ := hcells ad rfl (by omega)
      obtain ⟨b, off, spot⟩ := ad
      simp only at hs'
      subst hs'
      have hadd : (⟨b, off, none⟩ : Addr).add j = ⟨b, off + j, none⟩ := by unfold Addr.add; split <;> simp_all
      rw [hadd]
      exact hi' j (by omega)
    · intro v' w' h1 h2 _ h4
      rw [← hl] at h1
      exact h v' w' h1 h2 h4
end
end Rw
end Go.Proofs.Ytfkpgndbohoogaa

/- Slices that read as lists, whatever their elements are: f x: the cells of one element, sz of them. No program is named here. -/
set_option linter.unusedVariables false
set_option linter.unusedSimpArgs false
namespace Go.Proofs.Ytfkpgndbohoogaa
open Go.RowKit

section
variable {α : Type}
/-- The slice v reads as this list. -/
structure RdX (sz : Nat) (f : α → List Value) (w : World) (v : Value) (l : List α) : Prop where
  ex : ∃ a cap, v = .slice a l.length cap ∧ l.length ≤ cap ∧ cap ≤ maxLen ∧ (a = none → l = [] ∧ cap = 0) ∧
    ∀ x, a = some x → l ≠ [] → x.spot = none ∧ ∀ i (h : i < l.length) k u, (f l[i])[k]? = some u → w.cell? ⟨x.block, x.off + (i * sz + k), none⟩ = some u

variable {sz : Nat} {f : α → List Value}
theorem RdX.later {w w' : World} {v : Value} {l : List α} (h : RdX sz f w v l) (hb : Below w.heap.size w w') : RdX sz f w' v l := by
  obtain ⟨a, cap, hv, h1, h2, h3, h4⟩ := h.ex
  refine ⟨a, cap, hv, h1, h2, h3, fun x hx hp => ?_⟩
  obtain ⟨hs, hc⟩ := h4 x hx hp
  refine ⟨hs, fun i hi k u hu => ?_⟩
  have c := hc i hi k u hu
  exact (hb.cell (lt_of_cell c)).trans c

theorem RdX.nil (w : World) : RdX sz f w (.slice none 0 0) [] := ⟨none, 0, rfl, Nat.le_refl _, by unfold maxLen; omega, fun _ => ⟨rfl, rfl⟩, fun x hx => by cases hx⟩

theorem RdX.len {w : World} {v : Value} {l : List α} (h : RdX sz f w v l) : l.length ≤ 9223372036854775807 := by
  obtain ⟨a, cap, hv, h1, h2, h3, h4⟩ := h.ex
  unfold maxLen at h2
  omega

theorem RdX.form {w : World} {v : Value} {l : List α} (h : RdX sz f w v l) : ∃ a cap, v = .slice a l.length cap := by
  obtain ⟨a, cap, hv, _⟩ := h.ex
  exact ⟨a, cap, hv⟩

/-- The i-th element's cells, in whatever later world; where the slice lies. -/
theorem RdX.at {w : World} {a : Option Addr} {n cap : Nat} {l : List α} (h : RdX sz f w (.slice a n cap) l) (i : Nat) (hi : i < l.length) :
    ∃ b o, a = some ⟨b, o, none⟩ ∧ ∀ w' : World, Below w.heap.size w w' → ∀ k u, (f l[i])[k]? = some u → w'.cell? ⟨b, o + (i * sz + k), none⟩ = some u := by
  obtain ⟨a', cap', hv, h1, h2, h3, h4⟩ := h.ex
  cases hv
  match a, h3, h4 with
  | none, h3, _ => have := (h3 rfl).1; subst this; simp at hi
  | some ⟨b, o, sp⟩, _, h4 =>
    obtain ⟨hs, hc⟩ := h4 _ rfl (by intro q; subst q; simp at hi)
    simp only at hs
    subst hs
    exact ⟨b, o, rfl, fun w' hb k u hu => by
      have c := hc i hi k u hu
      exact (hb.cell (lt_of_cell c)).trans c⟩

/-- All cells, one element behind the other. -/
def flatX (f : α → List Value) (l : List α) : List Value := l.flatMap f

theorem flatX_nil : flatX f ([] : List α) = [] := rfl
theorem flatX_cons (x : α) (l : List α) : flatX f (x :: l) = f x ++ flatX f l := rfl
theorem flatX_snoc (l : List α) (x : α) : flatX f (l ++ [x]) = flatX f l ++ f x := by simp [flatX]
theorem flatX_append (l m : List α) : flatX f (l ++ m) = flatX f l ++ flatX f m := by simp [flatX]

theorem flatX_length (hf : ∀ x, (f x).length = sz) : ∀ l : List α, (flatX f l).length = l.length * sz
  | [] => by simp [flatX]
  | x :: l => by rw [flatX_cons, List.length_append, hf, flatX_length hf l, List.length_cons, Nat.add_mul]; omega

theorem flatX_get (hf : ∀ x, (f x).length = sz) : ∀ (l : List α) (i : Nat) (h : i < l.length) (k : Nat), k < sz → (flatX f l)[i * sz + k]? = (f l[i])[k]?
  | x :: l, 0, _, k, hk => by
    rw [flatX_cons, Nat.zero_mul, Nat.zero_add, List.getElem?_append_left (by rw [hf]; exact hk)]
    rfl
  | x :: l, i + 1, h, k, hk => by
    have := flatX_get hf l i (by simpa using h) k hk
    rw [flatX_cons, List.getElem?_append_right (by rw [hf, Nat.add_mul]; omega), hf, show (i + 1) * sz + k - sz = i * sz + k by rw [Nat.add_mul]; omega]
    exact this

theorem RdX.own (hf : ∀ x, (f x).length = sz) {w : World} {base : Nat} {e : TypeId} {v : Value} {l : List α} (h : w.ownsRow base e sz v l.length (flatX f l)) : RdX sz f w v l := by
  rcases h.2 with ⟨rfl, hn⟩ | ⟨g, cap, cur, rfl, hb, hg, hn, hc, hs, ht⟩
  · have : l = [] := List.length_eq_zero_iff.1 hn
    subst this
    exact RdX.nil w
  · refine ⟨some ⟨g, 0, none⟩, cap, rfl, hn, hc, (fun q => by cases q), fun x hx hp => ?_⟩
    cases hx
    refine ⟨rfl, fun i hi k u hu => ?_⟩
    have hk : k < sz := by rw [← hf l[i]]; exact (List.getElem?_eq_some_iff.1 hu).1
    have a1 := h.cellAt (i * sz + k) (by
      have : i * sz + sz ≤ l.length * sz := by rw [← Nat.succ_mul]; exact Nat.mul_le_mul_right _ hi
      omega)
    rw [flatX_get hf l i hi k hk] at a1
    simp only [Nat.zero_add]
    exact a1.trans hu

/-- The cells that an append of the slice takes. -/
theorem RdX.news (hf : ∀ x, (f x).length = sz) (hsz : 0 < sz) {w : World} {b o n cap : Nat} {l : List α} (h : RdX sz f w (.slice (some ⟨b, o, none⟩) n cap) l) : ∀ j u, (flatX f l)[j]? = some u → w.cell? ((⟨b, o, none⟩ : Addr).add j) = some u := by
  intro j u hu
  have hj : j < (flatX f l).length := (List.getElem?_eq_some_iff.1 hu).1
  rw [flatX_length hf] at hj
  have hadd : (⟨b, o, none⟩ : Addr).add j = ⟨b, o + j, none⟩ := by unfold Addr.add; split <;> simp_all
  rw [hadd]
  have hi : j / sz < l.length := by rw [Nat.div_lt_iff_lt_mul hsz]; exact hj
  have hk : j % sz < sz := Nat.mod_lt _ hsz
  have he : j / sz * sz + j % sz = j := by rw [Nat.mul_comm]; exact Nat.div_add_mod j sz
  obtain ⟨b', o', e, c⟩ := h.at (j / sz) hi
  cases e
  have g := flatX_get hf l (j / sz) hi (j % sz) hk
  rw [he, hu] at g
  have := c w (Below.refl _ _) (j % sz) u g.symm
  rw [he] at this
  exact this

/-- One element appended to a row of one's own: what has been laid for it is W's next block. -/
theorem wpList_append_one (hf : ∀ x, (f x).length = sz) (hsz : 0 < sz) {P : Program} {ops : Array Oper} {rest : List Oper} {o : Oper} {a : Act} {Q : Exit → Act → World → Prop} {W : World} (hgd : o.guard = none) (s x : Operand) (t : TypeId)
    (ho : o.op = .call { callee := .builtin .append, args := #[s, x], argTypes := #[t, t] })
    (e : TypeId) (i : TypeInfo) (z : Value) (bytes : Nat) (ht : P.underlying t = some (.slice e)) (hi : P.info? e = some i) (hz : i.zero = some z) (hsize : i.size = sz) (hby : i.bytes = bytes) (hzs : z.cells.size = sz)
    (cs : Array Value) (y : α) (hcs : cs.toList = f y) (h1 : ∀ u ∈ f y, u.oneCell' = true) (M : List α) (base B : Nat) (w0 : World) (m : Value) (hs : a.eval s = m) (hx : a.eval x = .slice (some ⟨W.heap.size, 0, none⟩) 1 1)
    (hown : W.ownsRow base e sz m M.length (flatX f M)) (h63 : M.length + 1 ≤ maxLen) (hlen : (M.length + 1) * bytes ≤ 140737488355328) (hbase : base ≤ W.heap.size) (hB : Below B w0 W) (hBb : B ≤ base)
    (h : ∀ v' w', w'.ownsRow base e sz v' (M ++ [y]).length (flatX f (M ++ [y])) → Below B w0 w' → (v'.ownBlock = m.ownBlock ∨ v'.ownBlock = some (W.heap.size + 1)) → wpList P ops Q rest (a.put o.dst v') w') :
    wpList P ops Q (o :: rest) a (W.alloc (.cells cs e)) := by
  have hz1 : (W.alloc (.cells cs e)).heap.size = W.heap.size + 1 := by simp
  refine wpList_append_own_at (W.alloc (.cells cs e)) hgd s x t ho base e i z sz bytes ht hi hz hsize hby hzs hsz m M.length (flatX f M) hs (Rw.own_alloc hown _) ⟨W.heap.size, 0, none⟩ 1 1 (f y) hx (by rw [hf]; omega) ?_ h1 h63 hlen (by rw [hz1]; omega) ?_
  · rw [← hcs]
    exact World.news_of_block (w := W.alloc (.cells cs e)) (B := W.heap.size) (cs := cs) (t := e) (fr := (0, 0)) (by show (W.heap.push _)[W.heap.size]? = _; simp)
  · intro v' w' ho' hg _ hat
    refine h v' w' ?_ ((hB.alloc (Nat.le_trans hBb hbase) _).grown hg (by rw [hz1]; omega) (fun k hk => ?_)) (by rw [hz1] at hat; exact hat)
    · rw [List.length_append, flatX_snoc]
      exact ho'
    · have := (Rw.own_lt hown k hk).1
      omega

/-- A new row of none. -/
theorem own_new (w : World) (e : TypeId) (sz base H : Nat) (hH : w.heap.size = H) (hb : base ≤ H) : (w.alloc (.cells #[] e)).ownsRow base e sz (.slice (some ⟨H, 0, none⟩) 0 0) 0 [] := by
  subst hH
  have h := World.ownsRow_lit (base := w.heap.size) (e := e) (size := sz) w #[] 0 (Nat.le_refl _) (by unfold maxLen; omega) (by simp)
  refine ⟨h.1, ?_⟩
  rcases h.2 with q | ⟨g, cap, cur, h1, h2, r⟩
  · exact .inl q
  · exact .inr ⟨g, cap, cur, h1, Nat.le_trans hb h2, r⟩

theorem set_at {β : Type} (a b : List β) (k : Nat) (u : β) (h : k < b.length) : (a ++ b).set (a.length + k) u = a ++ b.set k u := by
  rw [List.set_append_right _ _ (by omega)]
  congr 2
  omega

/-- One cell of one element written over. -/
theorem flatX_set (hf : ∀ x, (f x).length = sz) (k : Nat) (u : Value) (hk : k < sz) (y : α) : ∀ (l : List α) (i : Nat) (h : i < l.length), (f l[i]).set k u = f y → (flatX f l).set (i * sz + k) u = flatX f (l.set i y)
  | x :: l, 0, _, e => by
    rw [flatX_cons, Nat.zero_mul, Nat.zero_add, List.set_append_left _ _ (by rw [hf]; exact hk)]
    show (f x).set k u ++ _ = flatX f (y :: l)
    rw [flatX_cons]
    congr 1
  | x :: l, i + 1, h, e => by
    have := flatX_set hf k u hk y l i (by simpa using h) e
    rw [flatX_cons, show (i + 1) * sz + k = (f x).length + (i * sz + k) by rw [hf, Nat.add_mul]; omega, set_at _ _ _ _ (by
      rw [flatX_length hf]
      have hi : i < l.length := by simpa using h
      have : i * sz + sz ≤ l.length * sz := by rw [← Nat.succ_mul]; exact Nat.mul_le_mul_right _ hi
      omega), this]
    rfl

theorem own_lowerX {w : World} {base base' : Nat} {e : TypeId} {size n : Nat} {v : Value} {xs : List Value} (h : w.ownsRow base e size v n xs) (hb : base' ≤ base) : w.ownsRow base' e size v n xs := by
  refine ⟨h.1, ?_⟩
  rcases h.2 with q | ⟨g, cap, cur, h1, h2, r⟩
  · exact .inl q
  · exact .inr ⟨g, cap, cur, h1, Nat.le_trans hb h2, r⟩

/-- What an append onto a new row of none has made. -/
theorem row_shape {w : World} {base m : Nat} {e : TypeId} {v : Value} {l : List α} (hm : l.length = m) (h0 : 0 < m) (ho : w.ownsRow base e sz v (0 + m) ([] ++ flatX f l)) :
    ∃ g cap, v = .slice (some ⟨g, 0, none⟩) m cap ∧ base ≤ g ∧ w.ownsRow base e sz (.slice (some ⟨g, 0, none⟩) m cap) m (flatX f l) := by
  rw [List.nil_append, Nat.zero_add] at ho
  rcases ho.2 with ⟨_, h'⟩ | ⟨g, cap, cur, rfl, hb, hg, hc, _⟩
  · omega
  · exact ⟨g, cap, rfl, hb, ho⟩

/-- The same at a step of a region that draws its order (behind the draw: what is laid, then '.drew'). -/
theorem step_append_one (hf : ∀ x, (f x).length = sz) (hsz : 0 < sz) {P : Program} {ops : Array Oper} {o : Oper} {a : Act} {K : Act → World → Prop} {Q : Exit → Act → World → Prop} {E : Prop} {W : World} (hgd : o.guard = none) (s x : Operand) (t : TypeId)
    (ho : o.op = .call { callee := .builtin .append, args := #[s, x], argTypes := #[t, t] })
    (e : TypeId) (i : TypeInfo) (z : Value) (bytes : Nat) (ht : P.underlying t = some (.slice e)) (hi : P.info? e = some i) (hz : i.zero = some z) (hsize : i.size = sz) (hby : i.bytes = bytes) (hzs : z.cells.size = sz)
    (cs : Array Value) (y : α) (hcs : cs.toList = f y) (h1 : ∀ u ∈ f y, u.oneCell' = true) (M : List α) (base B : Nat) (w0 : World) (m : Value) (hs : a.eval s = m) (hx : a.eval x = .slice (some ⟨W.heap.size, 0, none⟩) 1 1)
    (hown : W.ownsRow base e sz m M.length (flatX f M)) (h63 : M.length + 1 ≤ maxLen) (hlen : (M.length + 1) * bytes ≤ 140737488355328) (hbase : base ≤ W.heap.size) (hB : Below B w0 W) (hBb : B ≤ base)
    (h : ∀ v' w', w'.ownsRow base e sz v' (M ++ [y]).length (flatX f (M ++ [y])) → Below B w0 w' → (W.alloc (.cells cs e)).drew.grownBy w' m.ownBlock → K (a.put o.dst v') w') :
    if Region.wanted o (yielded ops a.tmps) = true then Oper.wp P o a (W.alloc (.cells cs e)).drew K Q else E := by
  have hw : Region.wanted o (yielded ops a.tmps) = true := by simp [Region.wanted, hgd]
  rw [if_pos hw]
  have hz1 : (W.alloc (.cells cs e)).drew.heap.size = W.heap.size + 1 := by simp
  refine wp_append_own (W.alloc (.cells cs e)).drew s x t ho base e i z sz bytes ht hi hz hsize hby hzs hsz m M.length (flatX f M) hs (Rw.own_alloc hown _) ⟨W.heap.size, 0, none⟩ 1 1 (f y) hx (by rw [hf]; omega) ?_ h1 h63 hlen (by rw [hz1]; omega) ?_
  · rw [← hcs]
    exact World.news_of_block (w := (W.alloc (.cells cs e)).drew) (B := W.heap.size) (cs := cs) (t := e) (fr := (0, 0)) (by show (W.heap.push _)[W.heap.size]? = _; simp)
  · intro v' w' ho' hg _
    refine h v' w' ?_ (((hB.alloc (Nat.le_trans hBb hbase) _).drew).grown hg (by rw [hz1]; omega) (fun k hk => ?_)) hg
    · rw [List.length_append, flatX_snoc]
      exact ho'
    · have := (Rw.own_lt hown k hk).1
      omega

/-- Where a row of some lies. -/
theorem own_some {w : World} {base n cap : Nat} {e : TypeId} {a : Option Addr} {xs : List Value} (h : w.ownsRow base e sz (.slice a n cap) n xs) (h0 : 0 < n) : ∃ g, a = some ⟨g, 0, none⟩ ∧ base ≤ g := by
  rcases h.2 with ⟨q, hn⟩ | ⟨g, cap', cur, h1, h2, _⟩
  · omega
  · cases h1
    exact ⟨g, rfl, h2⟩
end
end Go.Proofs.Ytfkpgndbohoogaa

/- What package session answers, as plain functions over lists of sessions. No program is named here. -/
set_option linter.unusedVariables false
set_option linter.unusedSimpArgs false
namespace Go.Proofs.Ytfkpgndbohoogaa
open Go.RowKit
namespace Cm

/-- A session. -/
structure SesV where
  client : Int
  num : Int
  ren : Int

def clientF (c : Int) : Bool := decide (0 ≤ c) && decide (c < 8)

/-- One session, behind those ahead of it (the last one first). -/
def sesOk (pre : List SesV) (s : SesV) : Bool :=
  clientF s.client && highF s.num 1 && highF s.ren 0 && (match pre.getLast? with | none => true | some p => decide (p.client < s.client)) && pre.all fun p => !decide (p.num = s.num)
def rightGo (pre : List SesV) : List SesV → Bool
  | [] => true
  | s :: l => sesOk pre s && rightGo (pre ++ [s]) l
def rightS (l : List SesV) : Bool := decide (l.length ≤ 5) && rightGo [] l

def zeroS : SesV := ⟨0, 0, 0⟩

/-- The first of this client. -/
def findS : List SesV → Int → SesV × Bool
  | [], _ => (zeroS, false)
  | s :: l, c => if s.client = c then (s, true) else findS l c

/-- Has another client the number? -/
def takenS (l : List SesV) (c n : Int) : Bool := l.any fun s => decide (s.num = n) && !decide (s.client = c)

/-- Put in order, ahead of the first that has a greater client. -/
def putS (x : SesV) : List SesV → List SesV
  | [] => [x]
  | s :: l => if x.client < s.client then x :: s :: l else s :: putS x l

def openS (l : List SesV) (c n t : Int) : List SesV × Int :=
  if (clientF c && highF n 1 && highF t 0) = false then ([], 1) else
  if takenS l c n = true then ([], 1) else
  if (findS l c).2 = true then ([], 7) else
  if 5 ≤ l.length then ([], 5) else (putS ⟨c, n, t⟩ l, 0)

def renewE (c t : Int) (s : SesV) : SesV := if s.client = c then ⟨s.client, s.num, if s.ren < t then t else s.ren⟩ else s
def renewS (l : List SesV) (c t : Int) : List SesV × Int :=
  if highF t 0 = false then ([], 1) else if (findS l c).2 = false then ([], 6) else (l.map (renewE c t), 0)

def closeS (l : List SesV) (c : Int) : List SesV × Int :=
  if (findS l c).2 = false then ([], 6) else (l.filter (fun s => !decide (s.client = c)), 0)

def dueS (l : List SesV) (t d : Int) : List Int :=
  if (highF t 0 && highF d 0) = false then [] else (l.filter fun s => decide (d ≤ t - s.ren)).map (·.client)
/-! ### Putting in, one by one -/
def putE (x : SesV) (st : List SesV × Bool) (s : SesV) : List SesV × Bool := if !st.2 && decide (x.client < s.client) then (st.1 ++ [x] ++ [s], true) else (st.1 ++ [s], st.2)
def putN (x : SesV) (l : List SesV) (j : Nat) : List SesV × Bool := (l.take j).foldl (putE x) ([], false)
def putEnd (x : SesV) (st : List SesV × Bool) : List SesV := if st.2 then st.1 else st.1 ++ [x]

theorem putE_done (x : SesV) (l : List SesV) : ∀ M, l.foldl (putE x) (M, true) = (M ++ l, true) := by
  induction l with
  | nil => intro M; simp
  | cons s l ih =>
    intro M
    rw [List.foldl_cons]
    have : putE x (M, true) s = (M ++ [s], true) := by simp [putE]
    rw [this, ih]
    simp

theorem putE_fold (x : SesV) (l : List SesV) : ∀ M, putEnd x (l.foldl (putE x) (M, false)) = M ++ putS x l := by
  induction l with
  | nil => intro M; simp [putEnd, putS]
  | cons s l ih =>
    intro M
    rw [List.foldl_cons]
    unfold putS
    by_cases h : x.client < s.client
    · have : putE x (M, false) s = (M ++ [x] ++ [s], true) := by simp [putE, h]
      rw [this, putE_done, if_pos h]
      simp [putEnd]
    · have : putE x (M, false) s = (M ++ [s], false) := by simp [putE, h]
      rw [this, ih, if_neg h]
      simp

theorem putN_all (x : SesV) (l : List SesV) : putEnd x (putN x l l.length) = putS x l := by
  unfold putN
  rw [List.take_length, putE_fold, List.nil_append]

theorem putN_zero (x : SesV) (l : List SesV) : putN x l 0 = ([], false) := rfl
theorem putN_succ (x : SesV) (l : List SesV) (j : Nat) (h : j < l.length) : putN x l (j + 1) = putE x (putN x l j) l[j] := by
  unfold putN
  rw [List.take_succ_eq_append_getElem h, List.foldl_append]
  rfl

theorem putN_length (x : SesV) (l : List SesV) (j : Nat) (h : j ≤ l.length) : (putN x l j).1.length ≤ j + 1 ∧ ((putN x l j).2 = false → (putN x l j).1.length = j) := by
  induction j with
  | zero => exact ⟨by simp [putN_zero], fun _ => rfl⟩
  | succ j ih =>
    obtain ⟨h1, h2⟩ := ih (by omega)
    rw [putN_succ x l j (by omega)]
    unfold putE
    by_cases hb : (putN x l j).2 = true
    · simp only [hb, Bool.not_true, Bool.false_and, Bool.false_eq_true, if_false]
      exact ⟨by simp; omega, fun q => by cases q⟩
    · have hb : (putN x l j).2 = false := by simpa using hb
      have h3 := h2 hb
      simp only [hb, Bool.not_false, Bool.true_and]
      split
      · exact ⟨by simp; omega, fun q => by cases q⟩
      · exact ⟨by simp; omega, fun _ => by simp; omega⟩

/-! ### Right lists, as a relation -/
def oneS (s : SesV) : Bool := clientF s.client && highF s.num 1 && highF s.ren 0
structure Rs (l : List SesV) : Prop where
  one : ∀ s ∈ l, oneS s = true
  up : l.Pairwise fun a b => a.client < b.client
  num : l.Pairwise fun a b => a.num ≠ b.num

theorem Rs.nil : Rs [] := ⟨(fun s h => by cases h), List.Pairwise.nil, List.Pairwise.nil⟩

theorem rs_snoc (pre : List SesV) (s : SesV) : Rs (pre ++ [s]) ↔ Rs pre ∧ oneS s = true ∧ (∀ a ∈ pre, a.client < s.client) ∧ ∀ a ∈ pre, a.num ≠ s.num := by
  constructor
  · intro h
    obtain ⟨u1, _, u3⟩ := List.pairwise_append.1 h.up
    obtain ⟨n1, _, n3⟩ := List.pairwise_append.1 h.num
    exact ⟨⟨fun x hx => h.one x (List.mem_append_left _ hx), u1, n1⟩, h.one s (by simp), fun a ha => u3 a ha s (by simp), fun a ha => n3 a ha s (by simp)⟩
  · rintro ⟨h, h1, h2, h3⟩
    refine ⟨fun x hx => ?_, List.pairwise_append.2 ⟨h.up, List.pairwise_singleton _ _, fun a ha b hb => ?_⟩, List.pairwise_append.2 ⟨h.num, List.pairwise_singleton _ _, fun a ha b hb => ?_⟩⟩
    · rcases List.mem_append.1 hx with q | q
      · exact h.one x q
      · rw [List.mem_singleton] at q; subst q; exact h1
    · rw [List.mem_singleton] at hb; subst hb; exact h2 a ha
    · rw [List.mem_singleton] at hb; subst hb; exact h3 a ha

theorem last_le (pre : List SesV) (p : SesV) (h : (pre ++ [p]).Pairwise fun a b => a.client < b.client) : ∀ a ∈ pre ++ [p], a.client ≤ p.client := by
  intro a ha
  obtain ⟨_, _, h3⟩ := List.pairwise_append.1 h
  rcases List.mem_append.1 ha with q | q
  · exact Int.le_of_lt (h3 a q p (by simp))
  · rw [List.mem_singleton] at q; subst q; exact Int.le_refl _

theorem sesOk_iff (pre : List SesV) (s : SesV) (h : Rs pre) : sesOk pre s = true ↔ Rs (pre ++ [s]) := by
  rw [rs_snoc]
  unfold sesOk
  have hall : (pre.all fun p => !decide (p.num = s.num)) = true ↔ ∀ a ∈ pre, a.num ≠ s.num := by simp [List.all_eq_true]
  have hlast : (match pre.getLast? with | none => true | some p => decide (p.client < s.client)) = true ↔ ∀ a ∈ pre, a.client < s.client := by
    rcases List.eq_nil_or_concat pre with rfl | ⟨q, p, rfl⟩
    · simp
    · rw [List.concat_eq_append] at h ⊢
      rw [List.getLast?_append]
      simp only [List.getLast?_singleton, Option.some_or, decide_eq_true_eq]
      constructor
      · intro hp a ha
        have := last_le q p h.up a ha
        omega
      · intro hp
        exact hp p (by simp)
  unfold oneS
  rw [Bool.and_eq_true, Bool.and_eq_true, hall, hlast]
  constructor
  · rintro ⟨⟨h1, h2⟩, h3⟩
    exact ⟨h, h1, h2, h3⟩
  · rintro ⟨_, h1, h2, h3⟩
    exact ⟨⟨h1, h2⟩, h3⟩

theorem rightGo_iff (l : List SesV) : ∀ pre, Rs pre → (rightGo pre l = true ↔ Rs (pre ++ l)) := by
  induction l with
  | nil => intro pre h; simp [rightGo, h]
  | cons s l ih =>
    intro pre h
    have e : pre ++ s :: l = (pre ++ [s]) ++ l := by simp
    unfold rightGo
    rw [Bool.and_eq_true, e]
    constructor
    · rintro ⟨h1, h2⟩
      have h3 := (sesOk_iff pre s h).1 h1
      exact (ih _ h3).1 h2
    · intro h1
      have h3 : Rs (pre ++ [s]) := ⟨fun x hx => h1.one x (List.mem_append_left _ hx), (List.pairwise_append.1 h1.up).1, (List.pairwise_append.1 h1.num).1⟩
      exact ⟨(sesOk_iff pre s h).2 h3, (ih _ h3).2 h1⟩

theorem rightS_iff (l : List SesV) : rightS l = true ↔ l.length ≤ 5 ∧ Rs l := by
  unfold rightS
  rw [Bool.and_eq_true, decide_eq_true_eq, rightGo_iff l [] Rs.nil, List.nil_append]

theorem findS_none (l : List SesV) (c : Int) : (findS l c).2 = false ↔ ∀ s ∈ l, s.client ≠ c := by
  induction l with
  | nil => simp [findS]
  | cons x l ih =>
    unfold findS
    by_cases h : x.client = c
    · simp [h]
    · simp [h, ih]

theorem takenS_none (l : List SesV) (c n : Int) : takenS l c n = false ↔ ∀ s ∈ l, s.num = n → s.client = c := by
  unfold takenS
  rw [List.any_eq_false]
  simp

theorem putS_mem (x : SesV) (l : List SesV) : ∀ s, s ∈ putS x l ↔ s = x ∨ s ∈ l := by
  induction l with
  | nil => intro s; simp [putS]
  | cons y l ih =>
    intro s
    unfold putS
    split
    · simp
    · rw [List.mem_cons, ih, List.mem_cons]
      constructor
      · rintro (h | h | h)
        · exact .inr (.inl h)
        · exact .inl h
        · exact .inr (.inr h)
      · rintro (h | h | h)
        · exact .inr (.inl h)
        · exact .inl h
        · exact .inr (.inr h)

theorem putS_length (x : SesV) (l : List SesV) : (putS x l).length = l.length + 1 := by
  induction l with
  | nil => rfl
  | cons y l ih =>
    unfold putS
    split
    · simp
    · simp [ih]

theorem putS_rs (x : SesV) (l : List SesV) (h : Rs l) (hx : oneS x = true) (hc : ∀ s ∈ l, s.client ≠ x.client) (hn : ∀ s ∈ l, s.num ≠ x.num) : Rs (putS x l) := by
  refine ⟨fun s hs => ?_, ?_, ?_⟩
  · rcases (putS_mem x l s).1 hs with rfl | q
    · exact hx
    · exact h.one s q
  · have hu := h.up
    clear h hn
    induction l with
    | nil => exact List.pairwise_singleton _ _
    | cons y l ih =>
      rw [List.pairwise_cons] at hu
      unfold putS
      split
      · rename_i q
        refine List.pairwise_cons.2 ⟨fun b hb => ?_, List.pairwise_cons.2 hu⟩
        rcases List.mem_cons.1 hb with rfl | hb
        · exact q
        · have := hu.1 b hb; omega
      · rename_i q
        refine List.pairwise_cons.2 ⟨fun b hb => ?_, ih (fun s hs => hc s (List.mem_cons_of_mem _ hs)) hu.2⟩
        rcases (putS_mem x l b).1 hb with rfl | hb
        · have := hc y List.mem_cons_self; omega
        · exact hu.1 b hb
  · have hu := h.num
    clear h hc
    induction l with
    | nil => exact List.pairwise_singleton _ _
    | cons y l ih =>
      rw [List.pairwise_cons] at hu
      unfold putS
      split
      · refine List.pairwise_cons.2 ⟨fun b hb => ?_, List.pairwise_cons.2 hu⟩
        exact (hn b hb).symm
      · refine List.pairwise_cons.2 ⟨fun b hb => ?_, ih (fun s hs => hn s (List.mem_cons_of_mem _ hs)) hu.2⟩
        rcases (putS_mem x l b).1 hb with rfl | hb
        · exact hn y List.mem_cons_self
        · exact hu.1 b hb

theorem openS_right (l : List SesV) (c n t : Int) (h : rightS l = true) (ho : (openS l c n t).2 = 0) : rightS (openS l c n t).1 = true := by
  obtain ⟨hl, hr⟩ := (rightS_iff l).1 h
  unfold openS at ho ⊢
  split at ho
  · cases ho
  rename_i q1
  split at ho
  · cases ho
  rename_i q2
  split at ho
  · cases ho
  rename_i q3
  split at ho
  · cases ho
  rename_i q4
  rw [if_neg q1, if_neg q2, if_neg q3, if_neg q4]
  have q1 : (clientF c && highF n 1 && highF t 0) = true := by cases hq : (clientF c && highF n 1 && highF t 0) <;> simp_all
  have q2 := (takenS_none l c n).1 (by simpa using q2)
  have q3 := (findS_none l c).1 (by simpa using q3)
  refine (rightS_iff _).2 ⟨by rw [putS_length]; omega, putS_rs _ _ hr (show oneS ⟨c, n, t⟩ = true from q1) q3 fun s hs e => q3 s hs (q2 s hs e)⟩

theorem renewE_keeps (c t : Int) (s : SesV) : (renewE c t s).client = s.client ∧ (renewE c t s).num = s.num := by
  unfold renewE
  split <;> exact ⟨rfl, rfl⟩

theorem renewE_one (c t : Int) (s : SesV) (h : oneS s = true) (ht : highF t 0 = true) : oneS (renewE c t s) = true := by
  unfold renewE
  split
  · unfold oneS at h ⊢
    dsimp only
    split
    · rw [Bool.and_eq_true] at h ⊢
      exact ⟨h.1, ht⟩
    · exact h
  · exact h

theorem renewS_right (l : List SesV) (c t : Int) (h : rightS l = true) (ho : (renewS l c t).2 = 0) : rightS (renewS l c t).1 = true := by
  obtain ⟨hl, hr⟩ := (rightS_iff l).1 h
  unfold renewS at ho ⊢
  split at ho
  · cases ho
  rename_i q1
  split at ho
  · cases ho
  rename_i q2
  rw [if_neg q1, if_neg q2]
  have q1 : highF t 0 = true := by simpa using q1
  refine (rightS_iff _).2 ⟨by rw [List.length_map]; exact hl, fun s hs => ?_, ?_, ?_⟩
  · obtain ⟨x, hx, rfl⟩ := List.mem_map.1 hs
    exact renewE_one c t x (hr.one x hx) q1
  · rw [List.pairwise_map]
    refine hr.up.imp fun {a b} q => ?_
    rw [(renewE_keeps c t a).1, (renewE_keeps c t b).1]
    exact q
  · rw [List.pairwise_map]
    refine hr.num.imp fun {a b} q => ?_
    rw [(renewE_keeps c t a).2, (renewE_keeps c t b).2]
    exact q

theorem closeS_right (l : List SesV) (c : Int) (h : rightS l = true) (ho : (closeS l c).2 = 0) : rightS (closeS l c).1 = true := by
  obtain ⟨hl, hr⟩ := (rightS_iff l).1 h
  unfold closeS at ho ⊢
  split at ho
  · cases ho
  rename_i q1
  rw [if_neg q1]
  refine (rightS_iff _).2 ⟨Nat.le_trans (List.length_filter_le _ _) hl, fun s hs => hr.one s (List.mem_filter.1 hs).1, hr.up.filter _, hr.num.filter _⟩
end Cm
end Go.Proofs.Ytfkpgndbohoogaa

/- What package cmd answers of requests, as plain functions over bytes. No program is named here. -/
set_option linter.unusedVariables false
set_option linter.unusedSimpArgs false
namespace Go.Proofs.Ytfkpgndbohoogaa
open Go.RowKit
namespace Cm

/-- A request: whose, the how-manieth, the command. -/
structure ReqV where
  client : Int
  seq : Int
  cmd : CmdV

def zeroR : ReqV := ⟨0, 0, zero⟩
def mayR (r : ReqV) : Bool := decide (0 ≤ r.client) && decide (r.client < 8) && highF r.seq 1 && mayF r.cmd

theorem mayR_bounds (r : ReqV) (h : mayR r = true) : (0 ≤ r.client ∧ r.client ≤ 7) ∧ (1 ≤ r.seq ∧ r.seq ≤ 2305843009213693952) ∧ mayF r.cmd = true := by
  unfold mayR highF at h
  simp at h
  obtain ⟨⟨⟨h1, h2⟩, h3, h4⟩, h5⟩ := h
  exact ⟨by omega, by omega, h5⟩

def bytesR (r : ReqV) : List UInt8 := UInt8.ofNat r.client.toNat :: (be8 r.seq.toNat ++ bytesC r.cmd)
theorem bytesR_length (r : ReqV) : (bytesR r).length = 19 + r.cmd.name.length := by
  unfold bytesR
  simp [be8_length, bytesC_length]
  omega

def putR (r : ReqV) : List UInt8 × Int := if mayR r then (bytesR r, 0) else ([], 1)

def getR (bs : List UInt8) (t : Int) : ReqV × Int × Int :=
  if (byteOf bs t).2.2 ≠ 0 then (zeroR, 0, (byteOf bs t).2.2) else
  if (numOf bs (byteOf bs t).2.1).2.2 ≠ 0 then (zeroR, 0, (numOf bs (byteOf bs t).2.1).2.2) else
  if (getF bs (numOf bs (byteOf bs t).2.1).2.1).2.2 ≠ 0 then (zeroR, 0, (getF bs (numOf bs (byteOf bs t).2.1).2.1).2.2) else
  if mayR ⟨(byteOf bs t).1, (numOf bs (byteOf bs t).2.1).1, (getF bs (numOf bs (byteOf bs t).2.1).2.1).1⟩ then
    (⟨(byteOf bs t).1, (numOf bs (byteOf bs t).2.1).1, (getF bs (numOf bs (byteOf bs t).2.1).2.1).1⟩, (getF bs (numOf bs (byteOf bs t).2.1).2.1).2.1, 0)
  else (zeroR, 0, 4)

theorem getR_of (bs : List UInt8) (t : Int) (k t1 s t2 t3 : Int) (c : CmdV) (h1 : byteOf bs t = (k, t1, 0)) (h2 : numOf bs t1 = (s, t2, 0)) (h3 : getF bs t2 = (c, t3, 0)) :
    getR bs t = if mayR ⟨k, s, c⟩ then (⟨k, s, c⟩, t3, 0) else (zeroR, 0, 4) := by
  unfold getR
  rw [h1]
  dsimp only
  rw [if_neg (by simp), h2]
  dsimp only
  rw [if_neg (by simp), h3]
  dsimp only
  rw [if_neg (by simp)]

/-- What is put is read as it was, wherever it stands. -/
theorem getR_put (r : ReqV) (h : mayR r = true) (a b : List UInt8) : getR (a ++ bytesR r ++ b) a.length = (r, (a.length : Int) + (19 + r.cmd.name.length), 0) := by
  obtain ⟨hk, hs, hc⟩ := mayR_bounds r h
  have e1 : a ++ bytesR r ++ b = a ++ [UInt8.ofNat r.client.toNat] ++ (be8 r.seq.toNat ++ bytesC r.cmd ++ b) := by simp [bytesR]
  have e2 : a ++ bytesR r ++ b = (a ++ [UInt8.ofNat r.client.toNat]) ++ be8 r.seq.toNat ++ (bytesC r.cmd ++ b) := by simp [bytesR]
  have e3 : a ++ bytesR r ++ b = (a ++ [UInt8.ofNat r.client.toNat] ++ be8 r.seq.toNat) ++ bytesC r.cmd ++ b := by simp [bytesR]
  have h1 : byteOf (a ++ bytesR r ++ b) a.length = (r.client, (a.length : Int) + 1, 0) := by
    rw [e1, byteOf_put, toNat_byte _ (by omega), Int.toNat_of_nonneg (by omega)]
  have h2 : numOf (a ++ bytesR r ++ b) ((a.length : Int) + 1) = (r.seq, (a.length : Int) + 1 + 8, 0) := by
    have := numOf_put r.seq.toNat (by omega) (a ++ [UInt8.ofNat r.client.toNat]) (bytesC r.cmd ++ b)
    rw [← e2, Int.toNat_of_nonneg (by omega)] at this
    simpa using this
  have h3 : getF (a ++ bytesR r ++ b) ((a.length : Int) + 1 + 8) = (r.cmd, (a.length : Int) + 1 + 8 + (10 + r.cmd.name.length), 0) := by
    have := getF_put r.cmd hc (a ++ [UInt8.ofNat r.client.toNat] ++ be8 r.seq.toNat) b
    rw [← e3] at this
    have el : ((a ++ [UInt8.ofNat r.client.toNat] ++ be8 r.seq.toNat).length : Int) = (a.length : Int) + 1 + 8 := by
      simp [be8_length]
      omega
    rw [el] at this
    exact this
  rw [getR_of _ _ _ _ _ _ _ _ h1 h2 h3]
  have e : (⟨r.client, r.seq, r.cmd⟩ : ReqV) = r := rfl
  rw [e, if_pos h]
  congr 2
  omega

/-- Cut anywhere a request is too short. -/
theorem getR_cut (r : ReqV) (h : mayR r = true) (a : List UInt8) (j : Nat) (hj : j < (bytesR r).length) : getR (a ++ (bytesR r).take j) a.length = (zeroR, 0, 2) := by
  obtain ⟨hk, hs, hc⟩ := mayR_bounds r h
  rw [bytesR_length] at hj
  by_cases j0 : j = 0
  · subst j0
    unfold getR
    rw [byteOf_short _ _ (by simp)]
    rfl
  · obtain ⟨j, rfl⟩ : ∃ i, j = i + 1 := ⟨j - 1, by omega⟩
    have ht : (bytesR r).take (j + 1) = UInt8.ofNat r.client.toNat :: (be8 r.seq.toNat ++ bytesC r.cmd).take j := rfl
    rw [ht]
    have h1 : byteOf (a ++ (UInt8.ofNat r.client.toNat :: (be8 r.seq.toNat ++ bytesC r.cmd).take j)) a.length = (r.client, (a.length : Int) + 1, 0) := by
      have := byteOf_put (UInt8.ofNat r.client.toNat) a ((be8 r.seq.toNat ++ bytesC r.cmd).take j)
      rw [toNat_byte _ (by omega), Int.toNat_of_nonneg (by omega)] at this
      simpa using this
    by_cases j8 : j < 8
    · have h2 : numOf (a ++ (UInt8.ofNat r.client.toNat :: (be8 r.seq.toNat ++ bytesC r.cmd).take j)) ((a.length : Int) + 1) = (0, 0, 2) := by
        have := numOf_short (a ++ (UInt8.ofNat r.client.toNat :: (be8 r.seq.toNat ++ bytesC r.cmd).take j)) (a.length + 1) (by simp [be8_length]; omega)
        simpa using this
      unfold getR
      rw [h1]
      dsimp only
      rw [if_neg (by simp), h2]
      rfl
    · have hb : (be8 r.seq.toNat ++ bytesC r.cmd).take j = be8 r.seq.toNat ++ (bytesC r.cmd).take (j - 8) := by
        rw [List.take_append, List.take_of_length_le (by rw [be8_length]; omega), be8_length]
      rw [hb] at h1 ⊢
      have h2 : numOf (a ++ (UInt8.ofNat r.client.toNat :: (be8 r.seq.toNat ++ (bytesC r.cmd).take (j - 8)))) ((a.length : Int) + 1) = (r.seq, (a.length : Int) + 1 + 8, 0) := by
        have := numOf_put r.seq.toNat (by omega) (a ++ [UInt8.ofNat r.client.toNat]) ((bytesC r.cmd).take (j - 8))
        rw [Int.toNat_of_nonneg (by omega)] at this
        simpa using this
      have h3 : getF (a ++ (UInt8.ofNat r.client.toNat :: (be8 r.seq.toNat ++ (bytesC r.cmd).take (j - 8)))) ((a.length : Int) + 1 + 8) = (zero, 0, 2) := by
        have := getF_cut r.cmd hc (a ++ [UInt8.ofNat r.client.toNat] ++ be8 r.seq.toNat) (j - 8) (by rw [bytesC_length]; omega)
        have el : ((a ++ [UInt8.ofNat r.client.toNat] ++ be8 r.seq.toNat).length : Int) = (a.length : Int) + 1 + 8 := by
          simp [be8_length]
          omega
        rw [el] at this
        simpa using this
      unfold getR
      rw [h1]
      dsimp only
      rw [if_neg (by simp), h2]
      dsimp only
      rw [if_neg (by simp), h3]
      rfl

/-- What is read has the kind that stands there. -/
theorem getR_kind (bs : List UInt8) (h : (getR bs 0).2.2 = 0) (hl : 10 ≤ bs.length) : (getR bs 0).1.cmd.kind = ((bs.getD 9 0).toNat : Int) := by
  have hb : byteOf bs 0 = (((bs.getD 0 0).toNat : Int), 1, 0) := by
    unfold byteOf
    rw [if_neg (by omega)]
    rfl
  unfold getR at h ⊢
  rw [hb] at h ⊢
  dsimp only at h ⊢
  rw [if_neg (by simp)] at h ⊢
  by_cases g2 : (numOf bs 1).2.2 ≠ 0
  · rw [if_pos g2] at h
    exact absurd h g2
  · rw [if_neg g2] at h ⊢
    have h9 : (numOf bs 1).2.1 = 9 := by
      unfold numOf at g2 ⊢
      rw [if_neg (by omega)] at g2 ⊢
      split
      · rfl
      · rename_i q
        rw [if_neg q] at g2
        exact absurd (by decide) g2
    rw [h9] at h ⊢
    by_cases g3 : (getF bs 9).2.2 ≠ 0
    · rw [if_pos g3] at h
      exact absurd h g3
    · rw [if_neg g3] at h ⊢
      have hk := (getF_may bs 9 (by simpa using g3)).2
      have hb9 : (byteOf bs 9).1 = ((bs.getD 9 0).toNat : Int) := by
        unfold byteOf
        rw [if_neg (by omega)]
        rfl
      rw [hb9] at hk
      by_cases g4 : mayR ⟨((bs.getD 0 0).toNat : Int), (numOf bs 1).1, (getF bs 9).1⟩ = true
      · rw [if_pos g4]
        exact hk
      · rw [if_neg g4] at h
        cases h

/-- Nothing behind the end. -/
theorem getR_end (bs : List UInt8) : getR bs bs.length = (zeroR, 0, 2) := by
  unfold getR
  rw [byteOf_short _ _ (Nat.le_refl _)]
  rfl
end Cm
end Go.Proofs.Ytfkpgndbohoogaa

/- Names: which bytes they are made of; one of them turned, one more. No program is named here. -/
set_option linter.unusedVariables false
set_option linter.unusedSimpArgs false
namespace Go.Proofs.Ytfkpgndbohoogaa
open Go.RowKit
namespace Cm

/-- The bytes of "abcdefghijklmnopqrstuvwxyz0123456789-". -/
def alpha : List UInt8 := [97, 98, 99, 100, 101, 102, 103, 104, 105, 106, 107, 108, 109, 110, 111, 112, 113, 114, 115, 116, 117, 118, 119, 120, 121, 122, 48, 49, 50, 51, 52, 53, 54, 55, 56, 57, 45]

theorem alpha_length : alpha.length = 37 := rfl
theorem alpha_all : ∀ c ∈ alpha, nameB c = true := by decide

theorem alpha_get (i : Nat) (h : i < 37) : nameB (alpha.getD i 0) = true := by
  refine alpha_all _ ?_
  have : alpha.getD i 0 = alpha[i]'(by rw [alpha_length]; exact h) := by simp [List.getD, List.getElem?_eq_getElem (show i < alpha.length by rw [alpha_length]; exact h)]
  rw [this]
  exact List.getElem_mem _

theorem mem_all : (List.range 256).all (fun n => nameB (UInt8.ofNat n) == decide (UInt8.ofNat n ∈ alpha)) = true := by decide +kernel

/-- A byte may stand in a name just if it is one of these. -/
theorem nameB_mem (c : UInt8) : nameB c = decide (c ∈ alpha) := by
  have h := List.all_eq_true.1 mem_all c.toNat (List.mem_range.2 (UInt8.toNat_lt c))
  rw [UInt8.ofNat_toNat] at h
  exact eq_of_beq h

theorem name_all (s : List UInt8) (h1 : 1 ≤ s.length) (h2 : s.length ≤ 12) (ha : ∀ c ∈ s, nameB c = true) : nameF s = true := by
  unfold nameF
  rw [decide_eq_true h1, decide_eq_true h2, List.all_eq_true.2 ha]
  rfl

/-- One byte turned. -/
theorem name_turned (s : List UInt8) (k : Nat) (by_ : UInt8) (hk : k < s.length) (h2 : s.length ≤ 12) (ha : ∀ c ∈ s, nameB c = true) : nameF (s.take k ++ [by_] ++ s.drop (k + 1)) = nameB by_ := by
  have hl : (s.take k ++ [by_] ++ s.drop (k + 1)).length = s.length := by simp; omega
  unfold nameF
  rw [hl, decide_eq_true (show 1 ≤ s.length by omega), decide_eq_true h2, List.all_append, List.all_append]
  have t1 : (s.take k).all nameB = true := List.all_eq_true.2 fun c hc => ha c (List.mem_of_mem_take hc)
  have t2 : (s.drop (k + 1)).all nameB = true := List.all_eq_true.2 fun c hc => ha c (List.mem_of_mem_drop hc)
  rw [t1, t2]
  simp

/-- One more. -/
theorem name_more (s : List UInt8) (h1 : 1 ≤ s.length) (h2 : s.length ≤ 12) (ha : ∀ c ∈ s, nameB c = true) : nameF (s ++ [120]) = decide (s.length < 12) := by
  unfold nameF
  have hx : (s ++ [120]).all nameB = true := List.all_eq_true.2 fun c hc => by
    rcases List.mem_append.1 hc with q | q
    · exact ha c q
    · rw [List.mem_singleton.1 q]; decide
  have hl : (s ++ [120]).length = s.length + 1 := by simp
  rw [hx, hl, Bool.and_true, decide_eq_true (Nat.le_add_left 1 s.length), Bool.true_and]
  exact decide_eq_decide.2 (by omega)

/-- No name: nothing; noughts. -/
theorem name_none (n : Nat) : nameF (List.replicate n 0) = false := by
  rcases Nat.eq_zero_or_pos n with q | q
  · subst q; rfl
  · unfold nameF
    have : (List.replicate n (0 : UInt8)).all nameB = false := by
      rw [List.all_eq_false]
      exact ⟨0, by simp; omega, by decide⟩
    rw [this, Bool.and_false]

/-- The first k letters that were taken tell whether a byte is one of them. -/
def isOne (by_ : UInt8) (k : Nat) : Bool := (alpha.take k).any fun c => c == by_
theorem isOne_zero (by_ : UInt8) : isOne by_ 0 = false := rfl
theorem isOne_succ (by_ : UInt8) (k : Nat) (h : k < 37) : isOne by_ (k + 1) = (isOne by_ k || (alpha.getD k 0 == by_)) := by
  unfold isOne
  have hk : k < alpha.length := h
  rw [List.take_succ_eq_append_getElem hk, List.any_append]
  simp [List.getD, List.getElem?_eq_getElem hk]
theorem isOne_all (by_ : UInt8) : isOne by_ 37 = nameB by_ := by
  rw [nameB_mem]
  unfold isOne
  have : alpha.take 37 = alpha := List.take_of_length_le (Nat.le_of_eq alpha_length)
  rw [this]
  by_cases h : by_ ∈ alpha
  · rw [decide_eq_true h]
    exact List.any_eq_true.2 ⟨by_, h, by simp⟩
  · rw [decide_eq_false h]
    rw [List.any_eq_false]
    intro c hc
    simp
    intro e
    exact h (e ▸ hc)
end Cm
end Go.Proofs.Ytfkpgndbohoogaa
