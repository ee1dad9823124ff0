/- What package reply answers, on: replies and answers read. No program is named here. -/
import Derived.Test.YtklnopgnlnfbnaaFRep
set_option linter.unusedVariables false
set_option linter.unusedSimpArgs false
namespace Go.Proofs.Ytklnopgnlnfbnaa
open Go.RowKit
namespace Cm

def getP (bs : List UInt8) (t : Int) : ReplyV × Int × Int :=
  if (byteOf bs t).2.2 ≠ 0 then (zeroP, 0, (byteOf bs t).2.2) else
  if (numOf bs (byteOf bs t).2.1).2.2 ≠ 0 then (zeroP, 0, (numOf bs (byteOf bs t).2.1).2.2) else
  if (byteOf bs (numOf bs (byteOf bs t).2.1).2.1).2.2 ≠ 0 then (zeroP, 0, (byteOf bs (numOf bs (byteOf bs t).2.1).2.1).2.2) else
  if (byteOf bs (byteOf bs (numOf bs (byteOf bs t).2.1).2.1).2.1).2.2 ≠ 0 then (zeroP, 0, (byteOf bs (byteOf bs (numOf bs (byteOf bs t).2.1).2.1).2.1).2.2) else
  if 4 < (byteOf bs (byteOf bs (numOf bs (byteOf bs t).2.1).2.1).2.1).1 then (zeroP, 0, 4) else
  if (getHeld bs (byteOf bs (byteOf bs (numOf bs (byteOf bs t).2.1).2.1).2.1).1.toNat (byteOf bs (byteOf bs (numOf bs (byteOf bs t).2.1).2.1).2.1).2.1).2.2 ≠ 0 then
    (zeroP, 0, (getHeld bs (byteOf bs (byteOf bs (numOf bs (byteOf bs t).2.1).2.1).2.1).1.toNat (byteOf bs (byteOf bs (numOf bs (byteOf bs t).2.1).2.1).2.1).2.1).2.2) else
  if mayP ⟨(byteOf bs t).1, (numOf bs (byteOf bs t).2.1).1, (byteOf bs (numOf bs (byteOf bs t).2.1).2.1).1, (getHeld bs (byteOf bs (byteOf bs (numOf bs (byteOf bs t).2.1).2.1).2.1).1.toNat (byteOf bs (byteOf bs (numOf bs (byteOf bs t).2.1).2.1).2.1).2.1).1⟩ then
    (⟨(byteOf bs t).1, (numOf bs (byteOf bs t).2.1).1, (byteOf bs (numOf bs (byteOf bs t).2.1).2.1).1, (getHeld bs (byteOf bs (byteOf bs (numOf bs (byteOf bs t).2.1).2.1).2.1).1.toNat (byteOf bs (byteOf bs (numOf bs (byteOf bs t).2.1).2.1).2.1).2.1).1⟩,
      (getHeld bs (byteOf bs (byteOf bs (numOf bs (byteOf bs t).2.1).2.1).2.1).1.toNat (byteOf bs (byteOf bs (numOf bs (byteOf bs t).2.1).2.1).2.1).2.1).2.1, 0)
  else (zeroP, 0, 4)

/-- getP, its readings told. -/
theorem getP_of (bs : List UInt8) (t k t1 s t2 a t3 n t4 : Int) (h1 : byteOf bs t = (k, t1, 0)) (h2 : numOf bs t1 = (s, t2, 0)) (h3 : byteOf bs t2 = (a, t3, 0)) (h4 : byteOf bs t3 = (n, t4, 0)) (hn : n ≤ 4) :
    getP bs t = if (getHeld bs n.toNat t4).2.2 ≠ 0 then (zeroP, 0, (getHeld bs n.toNat t4).2.2) else if mayP ⟨k, s, a, (getHeld bs n.toNat t4).1⟩ then (⟨k, s, a, (getHeld bs n.toNat t4).1⟩, (getHeld bs n.toNat t4).2.1, 0) else (zeroP, 0, 4) := by
  unfold getP
  rw [h1]
  dsimp only
  rw [if_neg (by simp), h2]
  dsimp only
  rw [if_neg (by simp), h3]
  dsimp only
  rw [if_neg (by simp), h4]
  dsimp only
  rw [if_neg (by simp), if_neg (by omega)]

theorem headP (r : ReplyV) (hc : 0 ≤ r.code ∧ r.code ≤ 12) (hs : 0 ≤ r.session ∧ r.session ≤ 2305843009213693952) (ha : 0 ≤ r.ahead ∧ r.ahead ≤ 3) (hl : r.held.length ≤ 4) (a x : List UInt8) :
    byteOf (a ++ (UInt8.ofNat r.code.toNat :: (be8 r.session.toNat ++ (UInt8.ofNat r.ahead.toNat :: UInt8.ofNat r.held.length :: x)))) a.length = (r.code, (a.length : Int) + 1, 0) ∧
    numOf (a ++ (UInt8.ofNat r.code.toNat :: (be8 r.session.toNat ++ (UInt8.ofNat r.ahead.toNat :: UInt8.ofNat r.held.length :: x)))) ((a.length : Int) + 1) = (r.session, (a.length : Int) + 9, 0) ∧
    byteOf (a ++ (UInt8.ofNat r.code.toNat :: (be8 r.session.toNat ++ (UInt8.ofNat r.ahead.toNat :: UInt8.ofNat r.held.length :: x)))) ((a.length : Int) + 9) = (r.ahead, (a.length : Int) + 10, 0) ∧
    byteOf (a ++ (UInt8.ofNat r.code.toNat :: (be8 r.session.toNat ++ (UInt8.ofNat r.ahead.toNat :: UInt8.ofNat r.held.length :: x)))) ((a.length : Int) + 10) = ((r.held.length : Int), (a.length : Int) + 11, 0) := by
  refine ⟨?_, ?_, ?_, ?_⟩
  · have := byteOf_put (UInt8.ofNat r.code.toNat) a (be8 r.session.toNat ++ (UInt8.ofNat r.ahead.toNat :: UInt8.ofNat r.held.length :: x))
    rw [toNat_byte _ (by omega), Int.toNat_of_nonneg (by omega)] at this
    simpa using this
  · have := numOf_put r.session.toNat (by omega) (a ++ [UInt8.ofNat r.code.toNat]) (UInt8.ofNat r.ahead.toNat :: UInt8.ofNat r.held.length :: x)
    rw [Int.toNat_of_nonneg (by omega)] at this
    have el : ((a ++ [UInt8.ofNat r.code.toNat]).length : Int) = (a.length : Int) + 1 := by simp
    rw [el] at this
    have e : (a.length : Int) + 1 + 8 = (a.length : Int) + 9 := by omega
    rw [e] at this
    simpa using this
  · have := byteOf_put (UInt8.ofNat r.ahead.toNat) (a ++ [UInt8.ofNat r.code.toNat] ++ be8 r.session.toNat) (UInt8.ofNat r.held.length :: x)
    rw [toNat_byte _ (by omega), Int.toNat_of_nonneg (by omega)] at this
    have el : ((a ++ [UInt8.ofNat r.code.toNat] ++ be8 r.session.toNat).length : Int) = (a.length : Int) + 9 := by simp [be8_length] <;> omega
    rw [el] at this
    have e : (a.length : Int) + 9 + 1 = (a.length : Int) + 10 := by omega
    rw [e] at this
    simpa using this
  · have := byteOf_put (UInt8.ofNat r.held.length) (a ++ [UInt8.ofNat r.code.toNat] ++ be8 r.session.toNat ++ [UInt8.ofNat r.ahead.toNat]) x
    rw [toNat_byte _ (by omega)] at this
    have el : ((a ++ [UInt8.ofNat r.code.toNat] ++ be8 r.session.toNat ++ [UInt8.ofNat r.ahead.toNat]).length : Int) = (a.length : Int) + 10 := by simp [be8_length] <;> omega
    rw [el] at this
    have e : (a.length : Int) + 10 + 1 = (a.length : Int) + 11 := by omega
    rw [e] at this
    simpa using this

/-- A reply that is put is read as it was. -/
theorem getP_put (r : ReplyV) (h : mayP r = true) (a b : List UInt8) : getP (a ++ bytesP r ++ b) a.length = (r, (a.length : Int) + (11 + (bytesH r.held).length), 0) := by
  obtain ⟨hc, hs, ha, hl, hg⟩ := mayP_bounds r h
  have e : a ++ bytesP r ++ b = a ++ (UInt8.ofNat r.code.toNat :: (be8 r.session.toNat ++ (UInt8.ofNat r.ahead.toNat :: UInt8.ofNat r.held.length :: (bytesH r.held ++ b)))) := by simp [bytesP]
  obtain ⟨h1, h2, h3, h4⟩ := headP r hc hs ha hl a (bytesH r.held ++ b)
  rw [← e] at h1 h2 h3 h4
  have e5 : a ++ bytesP r ++ b = (a ++ [UInt8.ofNat r.code.toNat] ++ be8 r.session.toNat ++ [UInt8.ofNat r.ahead.toNat, UInt8.ofNat r.held.length]) ++ bytesH r.held ++ b := by simp [bytesP]
  have h5 := getHeld_put r.held (a ++ [UInt8.ofNat r.code.toNat] ++ be8 r.session.toNat ++ [UInt8.ofNat r.ahead.toNat, UInt8.ofNat r.held.length]) b hg
  have el : ((a ++ [UInt8.ofNat r.code.toNat] ++ be8 r.session.toNat ++ [UInt8.ofNat r.ahead.toNat, UInt8.ofNat r.held.length]).length : Int) = (a.length : Int) + 11 := by simp [be8_length] <;> omega
  rw [← e5, el] at h5
  rw [getP_of _ _ _ _ _ _ _ _ _ _ h1 h2 h3 h4 (by omega), Int.toNat_natCast, h5]
  dsimp only
  have e6 : (⟨r.code, r.session, r.ahead, r.held⟩ : ReplyV) = r := rfl
  rw [if_neg (by simp), e6, if_pos h]
  congr 2
  omega

/-- Cut anywhere a reply is too short. -/
theorem getP_cut (r : ReplyV) (h : mayP r = true) (a : List UInt8) (j : Nat) (hj : j < (bytesP r).length) : getP (a ++ (bytesP r).take j) a.length = (zeroP, 0, 2) := by
  obtain ⟨hc, hs, ha, hl, hg⟩ := mayP_bounds r h
  rw [bytesP_length] at hj
  have hlen : (a ++ (bytesP r).take j).length = a.length + j := by rw [List.length_append, List.length_take, bytesP_length]; omega
  by_cases j0 : j = 0
  · subst j0
    unfold getP
    rw [byteOf_short _ _ (by rw [hlen]; omega)]
    rfl
  · by_cases j11 : j < 11
    · have h1 : byteOf (a ++ (bytesP r).take j) a.length = ((((a ++ (bytesP r).take j).getD a.length 0).toNat : Int), (a.length : Int) + 1, 0) := by
        unfold byteOf
        rw [if_neg (by rw [hlen]; omega), Int.toNat_natCast]
      by_cases j9 : j < 9
      · have h2 : numOf (a ++ (bytesP r).take j) ((a.length : Int) + 1) = (0, 0, 2) := by
          have := numOf_short (a ++ (bytesP r).take j) (a.length + 1) (by rw [hlen]; omega)
          simpa using this
        unfold getP
        rw [h1]
        dsimp only
        rw [if_neg (by simp), h2]
        rfl
      · have ht : (bytesP r).take j = UInt8.ofNat r.code.toNat :: (be8 r.session.toNat ++ (UInt8.ofNat r.ahead.toNat :: UInt8.ofNat r.held.length :: bytesH r.held).take (j - 9)) := by
          have e1 : bytesP r = (UInt8.ofNat r.code.toNat :: be8 r.session.toNat) ++ (UInt8.ofNat r.ahead.toNat :: UInt8.ofNat r.held.length :: bytesH r.held) := by simp [bytesP]
          rw [e1, List.take_append, List.take_of_length_le (by simp [be8_length]; omega)]
          have e2 : j - (UInt8.ofNat r.code.toNat :: be8 r.session.toNat).length = j - 9 := by simp [be8_length]
          rw [e2]
          rfl
        have h2 : numOf (a ++ (bytesP r).take j) ((a.length : Int) + 1) = (r.session, (a.length : Int) + 1 + 8, 0) := by
          rw [ht]
          have := numOf_put r.session.toNat (by omega) (a ++ [UInt8.ofNat r.code.toNat]) ((UInt8.ofNat r.ahead.toNat :: UInt8.ofNat r.held.length :: bytesH r.held).take (j - 9))
          rw [Int.toNat_of_nonneg (by omega)] at this
          simpa using this
        by_cases j10 : j = 9
        · have h3 : byteOf (a ++ (bytesP r).take j) ((a.length : Int) + 1 + 8) = (0, 0, 2) := by
            have := byteOf_short (a ++ (bytesP r).take j) (a.length + 1 + 8) (by rw [hlen]; omega)
            have e : ((a.length + 1 + 8 : Nat) : Int) = (a.length : Int) + 1 + 8 := by omega
            rw [e] at this
            exact this
          unfold getP
          rw [h1]
          dsimp only
          rw [if_neg (by simp), h2]
          dsimp only
          rw [if_neg (by simp), h3]
          rfl
        · have h3 : byteOf (a ++ (bytesP r).take j) ((a.length : Int) + 1 + 8) = ((((a ++ (bytesP r).take j).getD (a.length + 9) 0).toNat : Int), (a.length : Int) + 1 + 8 + 1, 0) := by
            unfold byteOf
            have e : ((a.length : Int) + 1 + 8).toNat = a.length + 9 := by omega
            rw [if_neg (by rw [hlen]; omega), e]
          have h4 : byteOf (a ++ (bytesP r).take j) ((a.length : Int) + 1 + 8 + 1) = (0, 0, 2) := by
            have := byteOf_short (a ++ (bytesP r).take j) (a.length + 1 + 8 + 1) (by rw [hlen]; omega)
            have e : ((a.length + 1 + 8 + 1 : Nat) : Int) = (a.length : Int) + 1 + 8 + 1 := by omega
            rw [e] at this
            exact this
          unfold getP
          rw [h1]
          dsimp only
          rw [if_neg (by simp), h2]
          dsimp only
          rw [if_neg (by simp), h3]
          dsimp only
          rw [if_neg (by simp), h4]
          rfl
    · have ht : (bytesP r).take j = UInt8.ofNat r.code.toNat :: (be8 r.session.toNat ++ (UInt8.ofNat r.ahead.toNat :: UInt8.ofNat r.held.length :: (bytesH r.held).take (j - 11))) := by
        have e1 : bytesP r = (UInt8.ofNat r.code.toNat :: (be8 r.session.toNat ++ [UInt8.ofNat r.ahead.toNat, UInt8.ofNat r.held.length])) ++ bytesH r.held := by simp [bytesP]
        rw [e1, List.take_append, List.take_of_length_le (by simp [be8_length]; omega)]
        have e2 : j - (UInt8.ofNat r.code.toNat :: (be8 r.session.toNat ++ [UInt8.ofNat r.ahead.toNat, UInt8.ofNat r.held.length])).length = j - 11 := by simp [be8_length]
        rw [e2]
        simp
      rw [ht]
      obtain ⟨h1, h2, h3, h4⟩ := headP r hc hs ha hl a ((bytesH r.held).take (j - 11))
      have h5 := getHeld_cut r.held (a ++ [UInt8.ofNat r.code.toNat] ++ be8 r.session.toNat ++ [UInt8.ofNat r.ahead.toNat, UInt8.ofNat r.held.length]) (j - 11) hg (by omega)
      have el : ((a ++ [UInt8.ofNat r.code.toNat] ++ be8 r.session.toNat ++ [UInt8.ofNat r.ahead.toNat, UInt8.ofNat r.held.length]).length : Int) = (a.length : Int) + 11 := by simp [be8_length] <;> omega
      rw [el] at h5
      have e5 : (a ++ [UInt8.ofNat r.code.toNat] ++ be8 r.session.toNat ++ [UInt8.ofNat r.ahead.toNat, UInt8.ofNat r.held.length]) ++ (bytesH r.held).take (j - 11) = a ++ (UInt8.ofNat r.code.toNat :: (be8 r.session.toNat ++ (UInt8.ofNat r.ahead.toNat :: UInt8.ofNat r.held.length :: (bytesH r.held).take (j - 11)))) := by simp
      rw [e5] at h5
      rw [getP_of _ _ _ _ _ _ _ _ _ _ h1 h2 h3 h4 (by omega), Int.toNat_natCast, h5]
      rfl
end Cm
end Go.Proofs.Ytklnopgnlnfbnaa
