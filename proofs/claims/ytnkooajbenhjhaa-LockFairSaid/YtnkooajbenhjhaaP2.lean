/- Texts laid together by program: FCmd, FRep, FAns, FAnsA, FReq, FNames, CmdA, CmdB, Cat, CmdC, CmdD. -/
import Derived.Test.YtnkooajbenhjhaaP1
import Derived.Lib.AppendZeros
/- What package cmd answers, as plain functions over bytes: names, commands, requests; what is put is read as it was. No program is named here. -/
set_option linter.unusedVariables false
set_option linter.unusedSimpArgs false
namespace Go.Proofs.Ytnkooajbenhjhaa
open Go.RowKit

theorem byteOf_put (x : UInt8) (a c : List UInt8) : byteOf (a ++ [x] ++ c) a.length = ((x.toNat : Int), (a.length : Int) + 1, 0) := by
  unfold byteOf
  rw [if_neg (by simp; omega), Int.toNat_natCast]
  simp [List.getD]

/-- A text that was put is read as it was, whatever is allowed that is not less. -/
theorem textOf_put' (s : List UInt8) (h : s.length ≤ 255) (a c : List UInt8) (m : Int) (hm : (s.length : Int) ≤ m) :
    textOf (a ++ (UInt8.ofNat s.length :: s) ++ c) a.length m = (s, (a.length : Int) + 1 + s.length, 0) := by
  unfold textOf
  have h0 : (a ++ (UInt8.ofNat s.length :: s) ++ c).getD a.length 0 = UInt8.ofNat s.length := by
    simp [List.getD]
  have hn : (UInt8.ofNat s.length).toNat = s.length := toNat_byte _ (by omega)
  have hs : sub (a ++ (UInt8.ofNat s.length :: s) ++ c) (a.length + 1) s.length = s := by
    have := sub_whole (a ++ [UInt8.ofNat s.length]) s s.length (a.length + 1) (by simp) rfl c
    simpa using this
  rw [Int.toNat_natCast, h0, hn]
  rw [if_neg (by simp; omega), if_neg (by omega), if_neg (by simp; omega)]
  rw [hs]

theorem textOf_short (T : List UInt8) (k : Nat) (m : Int) (s : List UInt8) (h : s.length ≤ 255) (hm : (s.length : Int) ≤ m) (P : List UInt8) (j : Nat) (hj : j < 1 + s.length) (hk : k = P.length) (hT : T = P ++ (UInt8.ofNat s.length :: s).take j) :
    textOf T k m = ([], 0, 2) := by
  subst hT
  subst hk
  unfold textOf
  have hlen : (P ++ (UInt8.ofNat s.length :: s).take j).length = P.length + j := by simp; omega
  rw [hlen]
  by_cases h0 : j = 0
  · rw [if_pos (by omega)]
  · rw [if_neg (by omega)]
    have hd : (P ++ (UInt8.ofNat s.length :: s).take j).getD ((P.length : Int)).toNat 0 = UInt8.ofNat s.length := by
      rw [Int.toNat_natCast]
      match j, h0 with
      | j + 1, _ => simp [List.getD]
    rw [hd, toNat_byte _ (by omega)]
    rw [if_neg (by omega), if_pos (by omega)]

theorem byteOf_short (T : List UInt8) (k : Nat) (h : T.length ≤ k) : byteOf T k = (0, 0, 2) := by
  unfold byteOf
  rw [if_pos (by omega)]

namespace Cm

/-- A command: its kind, its session, its name's bytes. -/
structure CmdV where
  kind : Int
  session : Int
  name : List UInt8

def zero : CmdV := ⟨0, 0, []⟩

def nameB (c : UInt8) : Bool := (decide (97 ≤ c.toNat) && decide (c.toNat ≤ 122)) || (decide (48 ≤ c.toNat) && decide (c.toNat ≤ 57)) || decide (c.toNat = 45)
def nameF (s : List UInt8) : Bool := decide (1 ≤ s.length) && decide (s.length ≤ 12) && s.all nameB
def highF (v least : Int) : Bool := decide (least ≤ v) && decide (v ≤ 2305843009213693952)

def mayF (c : CmdV) : Bool :=
  if c.kind = 1 then decide (c.session = 0) && decide (c.name = [])
  else if c.kind = 2 ∨ c.kind = 6 then highF c.session 1 && decide (c.name = [])
  else if c.kind = 3 ∨ c.kind = 4 ∨ c.kind = 5 then highF c.session 1 && nameF c.name
  else false

theorem may_bounds (c : CmdV) (h : mayF c = true) : (1 ≤ c.kind ∧ c.kind ≤ 6) ∧ (0 ≤ c.session ∧ c.session ≤ 2305843009213693952) ∧ c.name.length ≤ 12 := by
  unfold mayF highF nameF at h
  split at h
  · simp at h
    rw [h.2]
    simp
    omega
  · split at h
    · simp at h
      rw [h.2]
      simp
      omega
    · split at h
      · simp at h
        omega
      · cases h

def bytesC (c : CmdV) : List UInt8 := UInt8.ofNat c.kind.toNat :: (be8 c.session.toNat ++ (UInt8.ofNat c.name.length :: c.name))
theorem bytesC_length (c : CmdV) : (bytesC c).length = 10 + c.name.length := by
  unfold bytesC
  simp [be8_length]
  omega

def putF (c : CmdV) : List UInt8 × Int := if mayF c then (bytesC c, 0) else ([], 1)

def getF (bs : List UInt8) (t : Int) : CmdV × Int × Int :=
  if (byteOf bs t).2.2 ≠ 0 then (zero, 0, (byteOf bs t).2.2) else
  if (numOf bs (byteOf bs t).2.1).2.2 ≠ 0 then (zero, 0, (numOf bs (byteOf bs t).2.1).2.2) else
  if (textOf bs (numOf bs (byteOf bs t).2.1).2.1 12).2.2 ≠ 0 then (zero, 0, (textOf bs (numOf bs (byteOf bs t).2.1).2.1 12).2.2) else
  if mayF ⟨(byteOf bs t).1, (numOf bs (byteOf bs t).2.1).1, (textOf bs (numOf bs (byteOf bs t).2.1).2.1 12).1⟩ then
    (⟨(byteOf bs t).1, (numOf bs (byteOf bs t).2.1).1, (textOf bs (numOf bs (byteOf bs t).2.1).2.1 12).1⟩, (textOf bs (numOf bs (byteOf bs t).2.1).2.1 12).2.1, 0)
  else (zero, 0, 4)

/-- getF, its three readings told. -/
theorem getF_of (bs : List UInt8) (t : Int) (k t1 s t2 t3 : Int) (n : List UInt8) (h1 : byteOf bs t = (k, t1, 0)) (h2 : numOf bs t1 = (s, t2, 0)) (h3 : textOf bs t2 12 = (n, t3, 0)) :
    getF bs t = if mayF ⟨k, s, n⟩ then (⟨k, s, n⟩, t3, 0) else (zero, 0, 4) := by
  unfold getF
  rw [h1]
  dsimp only
  rw [if_neg (by simp), h2]
  dsimp only
  rw [if_neg (by simp), h3]
  dsimp only
  rw [if_neg (by simp)]

/-- What is put is read as it was. -/
theorem getF_put (c : CmdV) (h : mayF c = true) (a r : List UInt8) : getF (a ++ bytesC c ++ r) a.length = (c, (a.length : Int) + (10 + c.name.length), 0) := by
  obtain ⟨hk, hs, hn⟩ := may_bounds c h
  have e1 : a ++ bytesC c ++ r = a ++ [UInt8.ofNat c.kind.toNat] ++ (be8 c.session.toNat ++ (UInt8.ofNat c.name.length :: c.name) ++ r) := by simp [bytesC]
  have e2 : a ++ bytesC c ++ r = (a ++ [UInt8.ofNat c.kind.toNat]) ++ be8 c.session.toNat ++ ((UInt8.ofNat c.name.length :: c.name) ++ r) := by simp [bytesC]
  have e3 : a ++ bytesC c ++ r = (a ++ [UInt8.ofNat c.kind.toNat] ++ be8 c.session.toNat) ++ (UInt8.ofNat c.name.length :: c.name) ++ r := by simp [bytesC]
  have h1 : byteOf (a ++ bytesC c ++ r) a.length = (c.kind, (a.length : Int) + 1, 0) := by
    rw [e1, byteOf_put, toNat_byte _ (by omega), Int.toNat_of_nonneg (by omega)]
  have h2 : numOf (a ++ bytesC c ++ r) ((a.length : Int) + 1) = (c.session, (a.length : Int) + 1 + 8, 0) := by
    have := numOf_put c.session.toNat (by omega) (a ++ [UInt8.ofNat c.kind.toNat]) ((UInt8.ofNat c.name.length :: c.name) ++ r)
    rw [← e2, Int.toNat_of_nonneg (by omega)] at this
    simpa using this
  have h3 : textOf (a ++ bytesC c ++ r) ((a.length : Int) + 1 + 8) 12 = (c.name, (a.length : Int) + 1 + 8 + 1 + c.name.length, 0) := by
    have := textOf_put' c.name (by omega) (a ++ [UInt8.ofNat c.kind.toNat] ++ be8 c.session.toNat) r 12 (by omega)
    rw [← e3] at this
    have el : ((a ++ [UInt8.ofNat c.kind.toNat] ++ be8 c.session.toNat).length : Int) = (a.length : Int) + 1 + 8 := by
      simp [be8_length]
      omega
    rw [el] at this
    exact this
  rw [getF_of _ _ _ _ _ _ _ _ h1 h2 h3]
  have e : (⟨c.kind, c.session, c.name⟩ : CmdV) = c := rfl
  rw [e, if_pos h]
  congr 2
  omega

/-- What is read may be. -/
theorem getF_may (bs : List UInt8) (t : Int) (h : (getF bs t).2.2 = 0) : mayF (getF bs t).1 = true ∧ (getF bs t).1.kind = (byteOf bs t).1 := by
  unfold getF at h ⊢
  by_cases g1 : (byteOf bs t).2.2 ≠ 0
  · rw [if_pos g1] at h
    exact absurd h g1
  · rw [if_neg g1] at h ⊢
    by_cases g2 : (numOf bs (byteOf bs t).2.1).2.2 ≠ 0
    · rw [if_pos g2] at h
      exact absurd h g2
    · rw [if_neg g2] at h ⊢
      by_cases g3 : (textOf bs (numOf bs (byteOf bs t).2.1).2.1 12).2.2 ≠ 0
      · rw [if_pos g3] at h
        exact absurd h g3
      · rw [if_neg g3] at h ⊢
        by_cases g4 : mayF ⟨(byteOf bs t).1, (numOf bs (byteOf bs t).2.1).1, (textOf bs (numOf bs (byteOf bs t).2.1).2.1 12).1⟩ = true
        · rw [if_pos g4]
          exact ⟨g4, rfl⟩
        · rw [if_neg g4] at h
          cases h

/-- Cut anywhere a command is too short. -/
theorem getF_cut (c : CmdV) (h : mayF c = true) (a : List UInt8) (j : Nat) (hj : j < (bytesC c).length) : getF (a ++ (bytesC c).take j) a.length = (zero, 0, 2) := by
  obtain ⟨hk, hs, hn⟩ := may_bounds c h
  rw [bytesC_length] at hj
  by_cases j0 : j = 0
  · subst j0
    unfold getF
    rw [byteOf_short _ _ (by simp)]
    rfl
  · obtain ⟨j, rfl⟩ : ∃ i, j = i + 1 := ⟨j - 1, by omega⟩
    have ht : (bytesC c).take (j + 1) = UInt8.ofNat c.kind.toNat :: (be8 c.session.toNat ++ (UInt8.ofNat c.name.length :: c.name)).take j := rfl
    rw [ht]
    have h1 : byteOf (a ++ (UInt8.ofNat c.kind.toNat :: (be8 c.session.toNat ++ (UInt8.ofNat c.name.length :: c.name)).take j)) a.length = (c.kind, (a.length : Int) + 1, 0) := by
      have := byteOf_put (UInt8.ofNat c.kind.toNat) a ((be8 c.session.toNat ++ (UInt8.ofNat c.name.length :: c.name)).take j)
      rw [toNat_byte _ (by omega), Int.toNat_of_nonneg (by omega)] at this
      simpa using this
    by_cases j8 : j < 8
    · have h2 : numOf (a ++ (UInt8.ofNat c.kind.toNat :: (be8 c.session.toNat ++ (UInt8.ofNat c.name.length :: c.name)).take j)) ((a.length : Int) + 1) = (0, 0, 2) := by
        have := numOf_short (a ++ (UInt8.ofNat c.kind.toNat :: (be8 c.session.toNat ++ (UInt8.ofNat c.name.length :: c.name)).take j)) (a.length + 1) (by simp [be8_length]; omega)
        simpa using this
      unfold getF
      rw [h1]
      dsimp only
      rw [if_neg (by simp), h2]
      rfl
    · have hb : (be8 c.session.toNat ++ (UInt8.ofNat c.name.length :: c.name)).take j = be8 c.session.toNat ++ (UInt8.ofNat c.name.length :: c.name).take (j - 8) := by
        rw [List.take_append, List.take_of_length_le (by rw [be8_length]; omega), be8_length]
      rw [hb] at h1 ⊢
      have h2 : numOf (a ++ (UInt8.ofNat c.kind.toNat :: (be8 c.session.toNat ++ (UInt8.ofNat c.name.length :: c.name).take (j - 8)))) ((a.length : Int) + 1) = (c.session, (a.length : Int) + 1 + 8, 0) := by
        have := numOf_put c.session.toNat (by omega) (a ++ [UInt8.ofNat c.kind.toNat]) ((UInt8.ofNat c.name.length :: c.name).take (j - 8))
        rw [Int.toNat_of_nonneg (by omega)] at this
        simpa using this
      have h3 : textOf (a ++ (UInt8.ofNat c.kind.toNat :: (be8 c.session.toNat ++ (UInt8.ofNat c.name.length :: c.name).take (j - 8)))) ((a.length : Int) + 1 + 8) 12 = ([], 0, 2) := by
        have := textOf_short (a ++ (UInt8.ofNat c.kind.toNat :: (be8 c.session.toNat ++ (UInt8.ofNat c.name.length :: c.name).take (j - 8)))) (a.length + 1 + 8) 12 c.name (by omega) (by omega) (a ++ [UInt8.ofNat c.kind.toNat] ++ be8 c.session.toNat) (j - 8) (by omega) (by simp [be8_length]) (by simp)
        have e : ((a.length + 1 + 8 : Nat) : Int) = (a.length : Int) + 1 + 8 := by omega
        rw [e] at this
        exact this
      unfold getF
      rw [h1]
      dsimp only
      rw [if_neg (by simp), h2]
      dsimp only
      rw [if_neg (by simp), h3]
      rfl
end Cm
end Go.Proofs.Ytnkooajbenhjhaa

/- What package reply answers, as plain functions over bytes: what is held, replies; what is put is read as it was. No program is named here. -/
set_option linter.unusedVariables false
set_option linter.unusedSimpArgs false
namespace Go.Proofs.Ytnkooajbenhjhaa
open Go.RowKit
namespace Cm

/-- A lock that is held: its name's bytes, its token. -/
structure GrantV where
  name : List UInt8
  token : Int

/-- A reply. -/
structure ReplyV where
  code : Int
  session : Int
  ahead : Int
  held : List GrantV

def zeroP : ReplyV := ⟨0, 0, 0, []⟩

/-- One that is held, behind the name ahead of it. -/
def grantOk (p : Option (List UInt8)) (g : GrantV) : Bool := nameF g.name && highF g.token 1 && (match p with | none => true | some q => Op.bytesLess q g.name)
def heldOk : Option (List UInt8) → List GrantV → Bool
  | _, [] => true
  | p, g :: l => grantOk p g && heldOk (some g.name) l

def mayP (r : ReplyV) : Bool := decide (0 ≤ r.code) && decide (r.code ≤ 12) && highF r.session 0 && decide (0 ≤ r.ahead) && decide (r.ahead ≤ 3) && decide (r.held.length ≤ 4) && !(decide (r.session = 0) && decide (0 < r.held.length)) && heldOk none r.held

theorem name_len (s : List UInt8) (h : nameF s = true) : s.length ≤ 12 := by
  unfold nameF at h
  simp at h
  omega

theorem heldOk_mem (l : List GrantV) : ∀ p, heldOk p l = true → ∀ g ∈ l, g.name.length ≤ 12 ∧ 1 ≤ g.token ∧ g.token ≤ 2305843009213693952 := by
  induction l with
  | nil => intro p _ g hg; cases hg
  | cons x l ih =>
    intro p h g hg
    unfold heldOk at h
    simp only [Bool.and_eq_true] at h
    rcases List.mem_cons.1 hg with rfl | hg
    · have h1 := h.1
      unfold grantOk highF at h1
      simp only [Bool.and_eq_true, decide_eq_true_eq] at h1
      exact ⟨name_len _ h1.1.1, h1.1.2.1, h1.1.2.2⟩
    · exact ih _ h.2 g hg

theorem mayP_bounds (r : ReplyV) (h : mayP r = true) : (0 ≤ r.code ∧ r.code ≤ 12) ∧ (0 ≤ r.session ∧ r.session ≤ 2305843009213693952) ∧ (0 ≤ r.ahead ∧ r.ahead ≤ 3) ∧ r.held.length ≤ 4 ∧ (∀ g ∈ r.held, g.name.length ≤ 12 ∧ 1 ≤ g.token ∧ g.token ≤ 2305843009213693952) := by
  unfold mayP highF at h
  simp only [Bool.and_eq_true, decide_eq_true_eq] at h
  obtain ⟨⟨⟨⟨⟨⟨⟨h1, h2⟩, h3, h4⟩, h5⟩, h6⟩, h7⟩, _⟩, h8⟩ := h
  exact ⟨⟨h1, h2⟩, ⟨h3, h4⟩, ⟨h5, h6⟩, h7, heldOk_mem _ _ h8⟩

def bytesG (g : GrantV) : List UInt8 := UInt8.ofNat g.name.length :: (g.name ++ be8 g.token.toNat)
theorem bytesG_length (g : GrantV) : (bytesG g).length = 9 + g.name.length := by
  unfold bytesG
  simp [be8_length]
  omega

def bytesH (l : List GrantV) : List UInt8 := l.flatMap bytesG
theorem bytesH_nil : bytesH [] = [] := rfl
theorem bytesH_cons (g : GrantV) (l : List GrantV) : bytesH (g :: l) = bytesG g ++ bytesH l := rfl
theorem bytesH_snoc (l : List GrantV) (g : GrantV) : bytesH (l ++ [g]) = bytesH l ++ bytesG g := by simp [bytesH]

def bytesP (r : ReplyV) : List UInt8 := UInt8.ofNat r.code.toNat :: (be8 r.session.toNat ++ (UInt8.ofNat r.ahead.toNat :: UInt8.ofNat r.held.length :: bytesH r.held))
theorem bytesP_length (r : ReplyV) : (bytesP r).length = 11 + (bytesH r.held).length := by
  unfold bytesP
  simp [be8_length]
  omega
def putP (r : ReplyV) : List UInt8 × Int := if mayP r then (bytesP r, 0) else ([], 1)

/-- So many are read from t on. -/
def getHeld (bs : List UInt8) : Nat → Int → List GrantV × Int × Int
  | 0, t => ([], t, 0)
  | n + 1, t =>
    if (textOf bs t 12).2.2 ≠ 0 then ([], 0, (textOf bs t 12).2.2) else
    if (numOf bs (textOf bs t 12).2.1).2.2 ≠ 0 then ([], 0, (numOf bs (textOf bs t 12).2.1).2.2) else
    if (getHeld bs n (numOf bs (textOf bs t 12).2.1).2.1).2.2 ≠ 0 then ([], 0, (getHeld bs n (numOf bs (textOf bs t 12).2.1).2.1).2.2) else
    (⟨(textOf bs t 12).1, (numOf bs (textOf bs t 12).2.1).1⟩ :: (getHeld bs n (numOf bs (textOf bs t 12).2.1).2.1).1, (getHeld bs n (numOf bs (textOf bs t 12).2.1).2.1).2.1, 0)

theorem getHeld_succ (bs : List UInt8) (n : Nat) (t : Int) : getHeld bs (n + 1) t =
    (if (textOf bs t 12).2.2 ≠ 0 then ([], 0, (textOf bs t 12).2.2) else
    if (numOf bs (textOf bs t 12).2.1).2.2 ≠ 0 then ([], 0, (numOf bs (textOf bs t 12).2.1).2.2) else
    if (getHeld bs n (numOf bs (textOf bs t 12).2.1).2.1).2.2 ≠ 0 then ([], 0, (getHeld bs n (numOf bs (textOf bs t 12).2.1).2.1).2.2) else
    (⟨(textOf bs t 12).1, (numOf bs (textOf bs t 12).2.1).1⟩ :: (getHeld bs n (numOf bs (textOf bs t 12).2.1).2.1).1, (getHeld bs n (numOf bs (textOf bs t 12).2.1).2.1).2.1, 0)) := rfl

theorem getHeld_step (bs : List UInt8) (n : Nat) (t t1 t2 k : Int) (s : List UInt8) (h1 : textOf bs t 12 = (s, t1, 0)) (h2 : numOf bs t1 = (k, t2, 0)) :
    getHeld bs (n + 1) t = if (getHeld bs n t2).2.2 ≠ 0 then ([], 0, (getHeld bs n t2).2.2) else (⟨s, k⟩ :: (getHeld bs n t2).1, (getHeld bs n t2).2.1, 0) := by
  rw [getHeld_succ, h1]
  dsimp only
  rw [if_neg (by simp), h2]
  dsimp only
  rw [if_neg (by simp)]

theorem readG (g : GrantV) (hn : g.name.length ≤ 12) (ht : 1 ≤ g.token ∧ g.token ≤ 2305843009213693952) (a r : List UInt8) :
    textOf (a ++ bytesG g ++ r) a.length 12 = (g.name, (a.length : Int) + 1 + g.name.length, 0) ∧ numOf (a ++ bytesG g ++ r) ((a.length : Int) + 1 + g.name.length) = (g.token, (a.length : Int) + 1 + g.name.length + 8, 0) := by
  have e1 : a ++ bytesG g ++ r = a ++ (UInt8.ofNat g.name.length :: g.name) ++ (be8 g.token.toNat ++ r) := by simp [bytesG]
  have e2 : a ++ bytesG g ++ r = (a ++ (UInt8.ofNat g.name.length :: g.name)) ++ be8 g.token.toNat ++ r := by simp [bytesG]
  constructor
  · rw [e1]
    exact textOf_put' g.name (by omega) a _ 12 (by omega)
  · have := numOf_put g.token.toNat (by omega) (a ++ (UInt8.ofNat g.name.length :: g.name)) r
    rw [← e2, Int.toNat_of_nonneg (by omega)] at this
    have el : ((a ++ (UInt8.ofNat g.name.length :: g.name)).length : Int) = (a.length : Int) + 1 + g.name.length := by
      simp
      omega
    rw [el] at this
    exact this

theorem getHeld_put (l : List GrantV) : ∀ (a r : List UInt8), (∀ g ∈ l, g.name.length ≤ 12 ∧ 1 ≤ g.token ∧ g.token ≤ 2305843009213693952) → getHeld (a ++ bytesH l ++ r) l.length a.length = (l, (a.length : Int) + (bytesH l).length, 0) := by
  induction l with
  | nil =>
    intro a r _
    show (([] : List GrantV), (a.length : Int), (0 : Int)) = _
    rw [bytesH_nil]
    simp
  | cons g l ih =>
    intro a r h
    have hg := h g List.mem_cons_self
    rw [bytesH_cons]
    have e : a ++ (bytesG g ++ bytesH l) ++ r = a ++ bytesG g ++ (bytesH l ++ r) := by simp
    have e' : a ++ (bytesG g ++ bytesH l) ++ r = (a ++ bytesG g) ++ bytesH l ++ r := by simp
    obtain ⟨h1, h2⟩ := readG g hg.1 hg.2 a (bytesH l ++ r)
    rw [← e] at h1 h2
    have hi := ih (a ++ bytesG g) r (fun x hx => h x (List.mem_cons_of_mem _ hx))
    rw [← e'] at hi
    have el : ((a ++ bytesG g).length : Int) = (a.length : Int) + 1 + g.name.length + 8 := by
      rw [List.length_append, bytesG_length]
      omega
    rw [el] at hi
    rw [List.length_cons, getHeld_step _ _ _ _ _ _ _ h1 h2, hi]
    dsimp only
    rw [if_neg (by simp), List.length_append, bytesG_length]
    congr 2
    omega

/-- Cut anywhere what is held is too short. -/
theorem getHeld_cut (l : List GrantV) : ∀ (a : List UInt8) (j : Nat), (∀ g ∈ l, g.name.length ≤ 12 ∧ 1 ≤ g.token ∧ g.token ≤ 2305843009213693952) → j < (bytesH l).length → getHeld (a ++ (bytesH l).take j) l.length a.length = ([], 0, 2) := by
  induction l with
  | nil => intro a j _ hj; rw [bytesH_nil] at hj; simp at hj
  | cons g l ih =>
    intro a j h hj
    have hg := h g List.mem_cons_self
    rw [bytesH_cons, List.length_append, bytesG_length] at hj
    rw [bytesH_cons]
    by_cases hin : (bytesG g).length ≤ j
    · have hb : (bytesG g ++ bytesH l).take j = bytesG g ++ (bytesH l).take (j - (bytesG g).length) := by
        rw [List.take_append, List.take_of_length_le hin]
      rw [hb]
      obtain ⟨h1, h2⟩ := readG g hg.1 hg.2 a ((bytesH l).take (j - (bytesG g).length))
      have e : a ++ (bytesG g ++ (bytesH l).take (j - (bytesG g).length)) = a ++ bytesG g ++ (bytesH l).take (j - (bytesG g).length) := by simp
      rw [← e] at h1 h2
      have hi := ih (a ++ bytesG g) (j - (bytesG g).length) (fun x hx => h x (List.mem_cons_of_mem _ hx)) (by rw [bytesG_length] at hin ⊢; omega)
      rw [← e] at hi
      have el : ((a ++ bytesG g).length : Int) = (a.length : Int) + 1 + g.name.length + 8 := by
        rw [List.length_append, bytesG_length]
        omega
      rw [el] at hi
      rw [List.length_cons, getHeld_step _ _ _ _ _ _ _ h1 h2, hi]
      rfl
    · have hb : (bytesG g ++ bytesH l).take j = (bytesG g).take j := by
        rw [List.take_append, show j - (bytesG g).length = 0 by omega, List.take_zero, List.append_nil]
      rw [hb]
      rw [bytesG_length] at hin
      by_cases hs : j < 1 + g.name.length
      · have ht : (bytesG g).take j = (UInt8.ofNat g.name.length :: g.name).take j := by
          have : bytesG g = (UInt8.ofNat g.name.length :: g.name) ++ be8 g.token.toNat := by simp [bytesG]
          rw [this, List.take_append, show j - (UInt8.ofNat g.name.length :: g.name).length = 0 by simp; omega, List.take_zero, List.append_nil]
        rw [ht]
        have h3 := textOf_short (a ++ (UInt8.ofNat g.name.length :: g.name).take j) a.length 12 g.name (by omega) (by omega) a j hs rfl rfl
        rw [List.length_cons]
        rw [getHeld_succ, h3]
        rfl
      · have ht : (bytesG g).take j = (UInt8.ofNat g.name.length :: g.name) ++ (be8 g.token.toNat).take (j - (1 + g.name.length)) := by
          have : bytesG g = (UInt8.ofNat g.name.length :: g.name) ++ be8 g.token.toNat := by simp [bytesG]
          rw [this, List.take_append, List.take_of_length_le (by simp; omega)]
          congr 2
          simp
          omega
        rw [ht]
        have h1 : textOf (a ++ ((UInt8.ofNat g.name.length :: g.name) ++ (be8 g.token.toNat).take (j - (1 + g.name.length)))) a.length 12 = (g.name, (a.length : Int) + 1 + g.name.length, 0) := by
          have := textOf_put' g.name (by omega) a ((be8 g.token.toNat).take (j - (1 + g.name.length))) 12 (by omega)
          rwa [List.append_assoc] at this
        have h2 : numOf (a ++ ((UInt8.ofNat g.name.length :: g.name) ++ (be8 g.token.toNat).take (j - (1 + g.name.length)))) ((a.length : Int) + 1 + g.name.length) = (0, 0, 2) := by
          have := numOf_short (a ++ ((UInt8.ofNat g.name.length :: g.name) ++ (be8 g.token.toNat).take (j - (1 + g.name.length)))) (a.length + 1 + g.name.length) (by simp [be8_length]; omega)
          have e : ((a.length + 1 + g.name.length : Nat) : Int) = (a.length : Int) + 1 + g.name.length := by omega
          rw [e] at this
          exact this
        rw [List.length_cons]
        rw [getHeld_succ, h1]
        dsimp only
        rw [if_neg (by simp), h2]
        rfl
end Cm
end Go.Proofs.Ytnkooajbenhjhaa

/- What package reply answers, on: replies and answers read. No program is named here. -/
set_option linter.unusedVariables false
set_option linter.unusedSimpArgs false
namespace Go.Proofs.Ytnkooajbenhjhaa
open Go.RowKit
namespace Cm

def getP (bs : List UInt8) (t : Int) : ReplyV × Int × Int :=
  if (byteOf bs t).2.2 ≠ 0 then (zeroP, 0, (byteOf bs t).2.2) else
  if (numOf bs (byteOf bs t).2.1).2.2 ≠ 0 then (zeroP, 0, (numOf bs (byteOf bs t).2.1).2.2) else
  if (byteOf bs (numOf bs (byteOf bs t).2.1).2.1).2.2 ≠ 0 then (zeroP, 0, (byteOf bs (numOf bs (byteOf bs t).2.1).2.1).2.2) else
  if (byteOf bs (byteOf bs (numOf bs (byteOf bs t).2.1).2.1).2.1).2.2 ≠ 0 then (zeroP, 0, (byteOf bs (byteOf bs (numOf bs (byteOf bs t).2.1).2.1).2.1).2.2) else
  if 4 < (byteOf bs (byteOf bs (numOf bs (byteOf bs t).2.1).2.1).2.1).1 then (zeroP, 0, 4) else
  if (getHeld bs (byteOf bs (byteOf bs (numOf bs (byteOf bs t).2.1).2.1).2.1).1.toNat (byteOf bs (byteOf bs (numOf bs (byteOf bs t).2.1).2.1).2.1).2.1).2.2 ≠ 0 then
    (zeroP, 0, (getHeld bs (byteOf bs (byteOf bs (numOf bs (byteOf bs t).2.1).2.1).2.1).1.toNat (byteOf bs (byteOf bs (numOf bs (byteOf bs t).2.1).2.1).2.1).2.1).2.2) else
  if mayP ⟨(byteOf bs t).1, (numOf bs (byteOf bs t).2.1).1, (byteOf bs (numOf bs (byteOf bs t).2.1).2.1).1, (getHeld bs (byteOf bs (byteOf bs (numOf bs (byteOf bs t).2.1).2.1).2.1).1.toNat (byteOf bs (byteOf bs (numOf bs (byteOf bs t).2.1).2.1).2.1).2.1).1⟩ then
    (⟨(byteOf bs t).1, (numOf bs (byteOf bs t).2.1).1, (byteOf bs (numOf bs (byteOf bs t).2.1).2.1).1, (getHeld bs (byteOf bs (byteOf bs (numOf bs (byteOf bs t).2.1).2.1).2.1).1.toNat (byteOf bs (byteOf bs (numOf bs (byteOf bs t).2.1).2.1).2.1).2.1).1⟩,
      (getHeld bs (byteOf bs (byteOf bs (numOf bs (byteOf bs t).2.1).2.1).2.1).1.toNat (byteOf bs (byteOf bs (numOf bs (byteOf bs t).2.1).2.1).2.1).2.1).2.1, 0)
  else (zeroP, 0, 4)

/-- getP, its readings told. -/
theorem getP_of (bs : List UInt8) (t k t1 s t2 a t3 n t4 : Int) (h1 : byteOf bs t = (k, t1, 0)) (h2 : numOf bs t1 = (s, t2, 0)) (h3 : byteOf bs t2 = (a, t3, 0)) (h4 : byteOf bs t3 = (n, t4, 0)) (hn : n ≤ 4) :
    getP bs t = if (getHeld bs n.toNat t4).2.2 ≠ 0 then (zeroP, 0, (getHeld bs n.toNat t4).2.2) else if mayP ⟨k, s, a, (getHeld bs n.toNat t4).1⟩ then (⟨k, s, a, (getHeld bs n.toNat t4).1⟩, (getHeld bs n.toNat t4).2.1, 0) else (zeroP, 0, 4) := by
  unfold getP
  rw [h1]
  dsimp only
  rw [if_neg (by simp), h2]
  dsimp only
  rw [if_neg (by simp), h3]
  dsimp only
  rw [if_neg (by simp), h4]
  dsimp only
  rw [if_neg (by simp), if_neg (by omega)]

theorem headP (r : ReplyV) (hc : 0 ≤ r.code ∧ r.code ≤ 12) (hs : 0 ≤ r.session ∧ r.session ≤ 2305843009213693952) (ha : 0 ≤ r.ahead ∧ r.ahead ≤ 3) (hl : r.held.length ≤ 4) (a x : List UInt8) :
    byteOf (a ++ (UInt8.ofNat r.code.toNat :: (be8 r.session.toNat ++ (UInt8.ofNat r.ahead.toNat :: UInt8.ofNat r.held.length :: x)))) a.length = (r.code, (a.length : Int) + 1, 0) ∧
    numOf (a ++ (UInt8.ofNat r.code.toNat :: (be8 r.session.toNat ++ (UInt8.ofNat r.ahead.toNat :: UInt8.ofNat r.held.length :: x)))) ((a.length : Int) + 1) = (r.session, (a.length : Int) + 9, 0) ∧
    byteOf (a ++ (UInt8.ofNat r.code.toNat :: (be8 r.session.toNat ++ (UInt8.ofNat r.ahead.toNat :: UInt8.ofNat r.held.length :: x)))) ((a.length : Int) + 9) = (r.ahead, (a.length : Int) + 10, 0) ∧
    byteOf (a ++ (UInt8.ofNat r.code.toNat :: (be8 r.session.toNat ++ (UInt8.ofNat r.ahead.toNat :: UInt8.ofNat r.held.length :: x)))) ((a.length : Int) + 10) = ((r.held.length : Int), (a.length : Int) + 11, 0) := by
  refine ⟨?_, ?_, ?_, ?_⟩
  · have := byteOf_put (UInt8.ofNat r.code.toNat) a (be8 r.session.toNat ++ (UInt8.ofNat r.ahead.toNat :: UInt8.ofNat r.held.length :: x))
    rw [toNat_byte _ (by omega), Int.toNat_of_nonneg (by omega)] at this
    simpa using this
  · have := numOf_put r.session.toNat (by omega) (a ++ [UInt8.ofNat r.code.toNat]) (UInt8.ofNat r.ahead.toNat :: UInt8.ofNat r.held.length :: x)
    rw [Int.toNat_of_nonneg (by omega)] at this
    have el : ((a ++ [UInt8.ofNat r.code.toNat]).length : Int) = (a.length : Int) + 1 := by simp
    rw [el] at this
    have e : (a.length : Int) + 1 + 8 = (a.length : Int) + 9 := by omega
    rw [e] at this
    simpa using this
  · have := byteOf_put (UInt8.ofNat r.ahead.toNat) (a ++ [UInt8.ofNat r.code.toNat] ++ be8 r.session.toNat) (UInt8.ofNat r.held.length :: x)
    rw [toNat_byte _ (by omega), Int.toNat_of_nonneg (by omega)] at this
    have el : ((a ++ [UInt8.ofNat r.code.toNat] ++ be8 r.session.toNat).length : Int) = (a.length : Int) + 9 := by simp [be8_length] <;> omega
    rw [el] at this
    have e : (a.length : Int) + 9 + 1 = (a.length : Int) + 10 := by omega
    rw [e] at this
    simpa using this
  · have := byteOf_put (UInt8.ofNat r.held.length) (a ++ [UInt8.ofNat r.code.toNat] ++ be8 r.session.toNat ++ [UInt8.ofNat r.ahead.toNat]) x
    rw [toNat_byte _ (by omega)] at this
    have el : ((a ++ [UInt8.ofNat r.code.toNat] ++ be8 r.session.toNat ++ [UInt8.ofNat r.ahead.toNat]).length : Int) = (a.length : Int) + 10 := by simp [be8_length] <;> omega
    rw [el] at this
    have e : (a.length : Int) + 10 + 1 = (a.length : Int) + 11 := by omega
    rw [e] at this
    simpa using this

/-- A reply that is put is read as it was. -/
theorem getP_put (r : ReplyV) (h : mayP r = true) (a b : List UInt8) : getP (a ++ bytesP r ++ b) a.length = (r, (a.length : Int) + (11 + (bytesH r.held).length), 0) := by
  obtain ⟨hc, hs, ha, hl, hg⟩ := mayP_bounds r h
  have e : a ++ bytesP r ++ b = a ++ (UInt8.ofNat r.code.toNat :: (be8 r.session.toNat ++ (UInt8.ofNat r.ahead.toNat :: UInt8.ofNat r.held.length :: (bytesH r.held ++ b)))) := by simp [bytesP]
  obtain ⟨h1, h2, h3, h4⟩ := headP r hc hs ha hl a (bytesH r.held ++ b)
  rw [← e] at h1 h2 h3 h4
  have e5 : a ++ bytesP r ++ b = (a ++ [UInt8.ofNat r.code.toNat] ++ be8 r.session.toNat ++ [UInt8.ofNat r.ahead.toNat, UInt8.ofNat r.held.length]) ++ bytesH r.held ++ b := by simp [bytesP]
  have h5 := getHeld_put r.held (a ++ [UInt8.ofNat r.code.toNat] ++ be8 r.session.toNat ++ [UInt8.ofNat r.ahead.toNat, UInt8.ofNat r.held.length]) b hg
  have el : ((a ++ [UInt8.ofNat r.code.toNat] ++ be8 r.session.toNat ++ [UInt8.ofNat r.ahead.toNat, UInt8.ofNat r.held.length]).length : Int) = (a.length : Int) + 11 := by simp [be8_length] <;> omega
  rw [← e5, el] at h5
  rw [getP_of _ _ _ _ _ _ _ _ _ _ h1 h2 h3 h4 (by omega), Int.toNat_natCast, h5]
  dsimp only
  have e6 : (⟨r.code, r.session, r.ahead, r.held⟩ : ReplyV) = r := rfl
  rw [if_neg (by simp), e6, if_pos h]
  congr 2
  omega

/-- Cut anywhere a reply is too short. -/
theorem getP_cut (r : ReplyV) (h : mayP r = true) (a : List UInt8) (j : Nat) (hj : j < (bytesP r).length) : getP (a ++ (bytesP r).take j) a.length = (zeroP, 0, 2) := by
  obtain ⟨hc, hs, ha, hl, hg⟩ := mayP_bounds r h
  rw [bytesP_length] at hj
  have hlen : (a ++ (bytesP r).take j).length = a.length + j := by rw [List.length_append, List.length_take, bytesP_length]; omega
  by_cases j0 : j = 0
  · subst j0
    unfold getP
    rw [byteOf_short _ _ (by rw [hlen]; omega)]
    rfl
  · by_cases j11 : j < 11
    · have h1 : byteOf (a ++ (bytesP r).take j) a.length = ((((a ++ (bytesP r).take j).getD a.length 0).toNat : Int), (a.length : Int) + 1, 0) := by
        unfold byteOf
        rw [if_neg (by rw [hlen]; omega), Int.toNat_natCast]
      by_cases j9 : j < 9
      · have h2 : numOf (a ++ (bytesP r).take j) ((a.length : Int) + 1) = (0, 0, 2) := by
          have := numOf_short (a ++ (bytesP r).take j) (a.length + 1) (by rw [hlen]; omega)
          simpa using this
        unfold getP
        rw [h1]
        dsimp only
        rw [if_neg (by simp), h2]
        rfl
      · have ht : (bytesP r).take j = UInt8.ofNat r.code.toNat :: (be8 r.session.toNat ++ (UInt8.ofNat r.ahead.toNat :: UInt8.ofNat r.held.length :: bytesH r.held).take (j - 9)) := by
          have e1 : bytesP r = (UInt8.ofNat r.code.toNat :: be8 r.session.toNat) ++ (UInt8.ofNat r.ahead.toNat :: UInt8.ofNat r.held.length :: bytesH r.held) := by simp [bytesP]
          rw [e1, List.take_append, List.take_of_length_le (by simp [be8_length]; omega)]
          have e2 : j - (UInt8.ofNat r.code.toNat :: be8 r.session.toNat).length = j - 9 := by simp [be8_length]
          rw [e2]
          rfl
        have h2 : numOf (a ++ (bytesP r).take j) ((a.length : Int) + 1) = (r.session, (a.length : Int) + 1 + 8, 0) := by
          rw [ht]
          have := numOf_put r.session.toNat (by omega) (a ++ [UInt8.ofNat r.code.toNat]) ((UInt8.ofNat r.ahead.toNat :: UInt8.ofNat r.held.length :: bytesH r.held).take (j - 9))
          rw [Int.toNat_of_nonneg (by omega)] at this
          simpa using this
        by_cases j10 : j = 9
        · have h3 : byteOf (a ++ (bytesP r).take j) ((a.length : Int) + 1 + 8) = (0, 0, 2) := by
            have := byteOf_short (a ++ (bytesP r).take j) (a.length + 1 + 8) (by rw [hlen]; omega)
            have e : ((a.length + 1 + 8 : Nat) : Int) = (a.length : Int) + 1 + 8 := by omega
            rw [e] at this
            exact this
          unfold getP
          rw [h1]
          dsimp only
          rw [if_neg (by simp), h2]
          dsimp only
          rw [if_neg (by simp), h3]
          rfl
        · have h3 : byteOf (a ++ (bytesP r).take j) ((a.length : Int) + 1 + 8) = ((((a ++ (bytesP r).take j).getD (a.length + 9) 0).toNat : Int), (a.length : Int) + 1 + 8 + 1, 0) := by
            unfold byteOf
            have e : ((a.length : Int) + 1 + 8).toNat = a.length + 9 := by omega
            rw [if_neg (by rw [hlen]; omega), e]
          have h4 : byteOf (a ++ (bytesP r).take j) ((a.length : Int) + 1 + 8 + 1) = (0, 0, 2) := by
            have := byteOf_short (a ++ (bytesP r).take j) (a.length + 1 + 8 + 1) (by rw [hlen]; omega)
            have e : ((a.length + 1 + 8 + 1 : Nat) : Int) = (a.length : Int) + 1 + 8 + 1 := by omega
            rw [e] at this
            exact this
          unfold getP
          rw [h1]
          dsimp only
          rw [if_neg (by simp), h2]
          dsimp only
          rw [if_neg (by simp), h3]
          dsimp only
          rw [if_neg (by simp), h4]
          rfl
    · have ht : (bytesP r).take j = UInt8.ofNat r.code.toNat :: (be8 r.session.toNat ++ (UInt8.ofNat r.ahead.toNat :: UInt8.ofNat r.held.length :: (bytesH r.held).take (j - 11))) := by
        have e1 : bytesP r = (UInt8.ofNat r.code.toNat :: (be8 r.session.toNat ++ [UInt8.ofNat r.ahead.toNat, UInt8.ofNat r.held.length])) ++ bytesH r.held := by simp [bytesP]
        rw [e1, List.take_append, List.take_of_length_le (by simp [be8_length]; omega)]
        have e2 : j - (UInt8.ofNat r.code.toNat :: (be8 r.session.toNat ++ [UInt8.ofNat r.ahead.toNat, UInt8.ofNat r.held.length])).length = j - 11 := by simp [be8_length]
        rw [e2]
        simp
      rw [ht]
      obtain ⟨h1, h2, h3, h4⟩ := headP r hc hs ha hl a ((bytesH r.held).take (j - 11))
      have h5 := getHeld_cut r.held (a ++ [UInt8.ofNat r.code.toNat] ++ be8 r.session.toNat ++ [UInt8.ofNat r.ahead.toNat, UInt8.ofNat r.held.length]) (j - 11) hg (by omega)
      have el : ((a ++ [UInt8.ofNat r.code.toNat] ++ be8 r.session.toNat ++ [UInt8.ofNat r.ahead.toNat, UInt8.ofNat r.held.length]).length : Int) = (a.length : Int) + 11 := by simp [be8_length] <;> omega
      rw [el] at h5
      have e5 : (a ++ [UInt8.ofNat r.code.toNat] ++ be8 r.session.toNat ++ [UInt8.ofNat r.ahead.toNat, UInt8.ofNat r.held.length]) ++ (bytesH r.held).take (j - 11) = a ++ (UInt8.ofNat r.code.toNat :: (be8 r.session.toNat ++ (UInt8.ofNat r.ahead.toNat :: UInt8.ofNat r.held.length :: (bytesH r.held).take (j - 11)))) := by simp
      rw [e5] at h5
      rw [getP_of _ _ _ _ _ _ _ _ _ _ h1 h2 h3 h4 (by omega), Int.toNat_natCast, h5]
      rfl
end Cm
end Go.Proofs.Ytnkooajbenhjhaa

/- What package reply answers of answers, as plain functions over bytes. No program is named here. -/
set_option linter.unusedVariables false
set_option linter.unusedSimpArgs false
namespace Go.Proofs.Ytnkooajbenhjhaa
open Go.RowKit
namespace Cm

/-- An answer: whose, the how-manieth, the reply. -/
structure AnsV where
  client : Int
  seq : Int
  rep : ReplyV

def zeroA : AnsV := ⟨0, 0, zeroP⟩
def mayA (r : AnsV) : Bool := decide (0 ≤ r.client) && decide (r.client < 8) && highF r.seq 1 && mayP r.rep

theorem mayA_bounds (r : AnsV) (h : mayA r = true) : (0 ≤ r.client ∧ r.client ≤ 7) ∧ (1 ≤ r.seq ∧ r.seq ≤ 2305843009213693952) ∧ mayP r.rep = true := by
  unfold mayA highF at h
  simp at h
  obtain ⟨⟨⟨h1, h2⟩, h3, h4⟩, h5⟩ := h
  exact ⟨by omega, by omega, h5⟩

def bytesA (r : AnsV) : List UInt8 := UInt8.ofNat r.client.toNat :: (be8 r.seq.toNat ++ bytesP r.rep)
theorem bytesA_length (r : AnsV) : (bytesA r).length = 20 + (bytesH r.rep.held).length := by
  unfold bytesA
  simp [be8_length, bytesP_length]
  omega

def putA (r : AnsV) : List UInt8 × Int := if mayA r then (bytesA r, 0) else ([], 1)

def getA (bs : List UInt8) (t : Int) : AnsV × Int × Int :=
  if (byteOf bs t).2.2 ≠ 0 then (zeroA, 0, (byteOf bs t).2.2) else
  if (numOf bs (byteOf bs t).2.1).2.2 ≠ 0 then (zeroA, 0, (numOf bs (byteOf bs t).2.1).2.2) else
  if (getP bs (numOf bs (byteOf bs t).2.1).2.1).2.2 ≠ 0 then (zeroA, 0, (getP bs (numOf bs (byteOf bs t).2.1).2.1).2.2) else
  if mayA ⟨(byteOf bs t).1, (numOf bs (byteOf bs t).2.1).1, (getP bs (numOf bs (byteOf bs t).2.1).2.1).1⟩ then
    (⟨(byteOf bs t).1, (numOf bs (byteOf bs t).2.1).1, (getP bs (numOf bs (byteOf bs t).2.1).2.1).1⟩, (getP bs (numOf bs (byteOf bs t).2.1).2.1).2.1, 0)
  else (zeroA, 0, 4)

theorem getA_of (bs : List UInt8) (t : Int) (k t1 s t2 t3 : Int) (c : ReplyV) (h1 : byteOf bs t = (k, t1, 0)) (h2 : numOf bs t1 = (s, t2, 0)) (h3 : getP bs t2 = (c, t3, 0)) :
    getA bs t = if mayA ⟨k, s, c⟩ then (⟨k, s, c⟩, t3, 0) else (zeroA, 0, 4) := by
  unfold getA
  rw [h1]
  dsimp only
  rw [if_neg (by simp), h2]
  dsimp only
  rw [if_neg (by simp), h3]
  dsimp only
  rw [if_neg (by simp)]

/-- What is put is read as it was, wherever it stands. -/
theorem getA_put (r : AnsV) (h : mayA r = true) (a b : List UInt8) : getA (a ++ bytesA r ++ b) a.length = (r, (a.length : Int) + (20 + (bytesH r.rep.held).length), 0) := by
  obtain ⟨hk, hs, hc⟩ := mayA_bounds r h
  have e1 : a ++ bytesA r ++ b = a ++ [UInt8.ofNat r.client.toNat] ++ (be8 r.seq.toNat ++ bytesP r.rep ++ b) := by simp [bytesA]
  have e2 : a ++ bytesA r ++ b = (a ++ [UInt8.ofNat r.client.toNat]) ++ be8 r.seq.toNat ++ (bytesP r.rep ++ b) := by simp [bytesA]
  have e3 : a ++ bytesA r ++ b = (a ++ [UInt8.ofNat r.client.toNat] ++ be8 r.seq.toNat) ++ bytesP r.rep ++ b := by simp [bytesA]
  have h1 : byteOf (a ++ bytesA r ++ b) a.length = (r.client, (a.length : Int) + 1, 0) := by
    rw [e1, byteOf_put, toNat_byte _ (by omega), Int.toNat_of_nonneg (by omega)]
  have h2 : numOf (a ++ bytesA r ++ b) ((a.length : Int) + 1) = (r.seq, (a.length : Int) + 1 + 8, 0) := by
    have := numOf_put r.seq.toNat (by omega) (a ++ [UInt8.ofNat r.client.toNat]) (bytesP r.rep ++ b)
    rw [← e2, Int.toNat_of_nonneg (by omega)] at this
    simpa using this
  have h3 : getP (a ++ bytesA r ++ b) ((a.length : Int) + 1 + 8) = (r.rep, (a.length : Int) + 1 + 8 + (11 + (bytesH r.rep.held).length), 0) := by
    have := getP_put r.rep hc (a ++ [UInt8.ofNat r.client.toNat] ++ be8 r.seq.toNat) b
    rw [← e3] at this
    have el : ((a ++ [UInt8.ofNat r.client.toNat] ++ be8 r.seq.toNat).length : Int) = (a.length : Int) + 1 + 8 := by
      simp [be8_length]
      omega
    rw [el] at this
    exact this
  rw [getA_of _ _ _ _ _ _ _ _ h1 h2 h3]
  have e : (⟨r.client, r.seq, r.rep⟩ : AnsV) = r := rfl
  rw [e, if_pos h]
  congr 2
  omega

/-- Cut anywhere a request is too short. -/
theorem getA_cut (r : AnsV) (h : mayA r = true) (a : List UInt8) (j : Nat) (hj : j < (bytesA r).length) : getA (a ++ (bytesA r).take j) a.length = (zeroA, 0, 2) := by
  obtain ⟨hk, hs, hc⟩ := mayA_bounds r h
  rw [bytesA_length] at hj
  by_cases j0 : j = 0
  · subst j0
    unfold getA
    rw [byteOf_short _ _ (by simp)]
    rfl
  · obtain ⟨j, rfl⟩ : ∃ i, j = i + 1 := ⟨j - 1, by omega⟩
    have ht : (bytesA r).take (j + 1) = UInt8.ofNat r.client.toNat :: (be8 r.seq.toNat ++ bytesP r.rep).take j := rfl
    rw [ht]
    have h1 : byteOf (a ++ (UInt8.ofNat r.client.toNat :: (be8 r.seq.toNat ++ bytesP r.rep).take j)) a.length = (r.client, (a.length : Int) + 1, 0) := by
      have := byteOf_put (UInt8.ofNat r.client.toNat) a ((be8 r.seq.toNat ++ bytesP r.rep).take j)
      rw [toNat_byte _ (by omega), Int.toNat_of_nonneg (by omega)] at this
      simpa using this
    by_cases j8 : j < 8
    · have h2 : numOf (a ++ (UInt8.ofNat r.client.toNat :: (be8 r.seq.toNat ++ bytesP r.rep).take j)) ((a.length : Int) + 1) = (0, 0, 2) := by
        have := numOf_short (a ++ (UInt8.ofNat r.client.toNat :: (be8 r.seq.toNat ++ bytesP r.rep).take j)) (a.length + 1) (by simp [be8_length]; omega)
        simpa using this
      unfold getA
      rw [h1]
      dsimp only
      rw [if_neg (by simp), h2]
      rfl
    · have hb : (be8 r.seq.toNat ++ bytesP r.rep).take j = be8 r.seq.toNat ++ (bytesP r.rep).take (j - 8) := by
        rw [List.take_append, List.take_of_length_le (by rw [be8_length]; omega), be8_length]
      rw [hb] at h1 ⊢
      have h2 : numOf (a ++ (UInt8.ofNat r.client.toNat :: (be8 r.seq.toNat ++ (bytesP r.rep).take (j - 8)))) ((a.length : Int) + 1) = (r.seq, (a.length : Int) + 1 + 8, 0) := by
        have := numOf_put r.seq.toNat (by omega) (a ++ [UInt8.ofNat r.client.toNat]) ((bytesP r.rep).take (j - 8))
        rw [Int.toNat_of_nonneg (by omega)] at this
        simpa using this
      have h3 : getP (a ++ (UInt8.ofNat r.client.toNat :: (be8 r.seq.toNat ++ (bytesP r.rep).take (j - 8)))) ((a.length : Int) + 1 + 8) = (zeroP, 0, 2) := by
        have := getP_cut r.rep hc (a ++ [UInt8.ofNat r.client.toNat] ++ be8 r.seq.toNat) (j - 8) (by rw [bytesP_length]; omega)
        have el : ((a ++ [UInt8.ofNat r.client.toNat] ++ be8 r.seq.toNat).length : Int) = (a.length : Int) + 1 + 8 := by
          simp [be8_length]
          omega
        rw [el] at this
        simpa using this
      unfold getA
      rw [h1]
      dsimp only
      rw [if_neg (by simp), h2]
      dsimp only
      rw [if_neg (by simp), h3]
      rfl

/-- Nothing behind the end. -/
theorem getA_end (bs : List UInt8) : getA bs bs.length = (zeroA, 0, 2) := by
  unfold getA
  rw [byteOf_short _ _ (Nat.le_refl _)]
  rfl
end Cm
end Go.Proofs.Ytnkooajbenhjhaa

/- What package cmd answers of requests, as plain functions over bytes. No program is named here. -/
set_option linter.unusedVariables false
set_option linter.unusedSimpArgs false
namespace Go.Proofs.Ytnkooajbenhjhaa
open Go.RowKit
namespace Cm

/-- A request: whose, the how-manieth, the command. -/
structure ReqV where
  client : Int
  seq : Int
  cmd : CmdV

def zeroR : ReqV := ⟨0, 0, zero⟩
def mayR (r : ReqV) : Bool := decide (0 ≤ r.client) && decide (r.client < 8) && highF r.seq 1 && mayF r.cmd

theorem mayR_bounds (r : ReqV) (h : mayR r = true) : (0 ≤ r.client ∧ r.client ≤ 7) ∧ (1 ≤ r.seq ∧ r.seq ≤ 2305843009213693952) ∧ mayF r.cmd = true := by
  unfold mayR highF at h
  simp at h
  obtain ⟨⟨⟨h1, h2⟩, h3, h4⟩, h5⟩ := h
  exact ⟨by omega, by omega, h5⟩

def bytesR (r : ReqV) : List UInt8 := UInt8.ofNat r.client.toNat :: (be8 r.seq.toNat ++ bytesC r.cmd)
theorem bytesR_length (r : ReqV) : (bytesR r).length = 19 + r.cmd.name.length := by
  unfold bytesR
  simp [be8_length, bytesC_length]
  omega

def putR (r : ReqV) : List UInt8 × Int := if mayR r then (bytesR r, 0) else ([], 1)

def getR (bs : List UInt8) (t : Int) : ReqV × Int × Int :=
  if (byteOf bs t).2.2 ≠ 0 then (zeroR, 0, (byteOf bs t).2.2) else
  if (numOf bs (byteOf bs t).2.1).2.2 ≠ 0 then (zeroR, 0, (numOf bs (byteOf bs t).2.1).2.2) else
  if (getF bs (numOf bs (byteOf bs t).2.1).2.1).2.2 ≠ 0 then (zeroR, 0, (getF bs (numOf bs (byteOf bs t).2.1).2.1).2.2) else
  if mayR ⟨(byteOf bs t).1, (numOf bs (byteOf bs t).2.1).1, (getF bs (numOf bs (byteOf bs t).2.1).2.1).1⟩ then
    (⟨(byteOf bs t).1, (numOf bs (byteOf bs t).2.1).1, (getF bs (numOf bs (byteOf bs t).2.1).2.1).1⟩, (getF bs (numOf bs (byteOf bs t).2.1).2.1).2.1, 0)
  else (zeroR, 0, 4)

theorem getR_of (bs : List UInt8) (t : Int) (k t1 s t2 t3 : Int) (c : CmdV) (h1 : byteOf bs t = (k, t1, 0)) (h2 : numOf bs t1 = (s, t2, 0)) (h3 : getF bs t2 = (c, t3, 0)) :
    getR bs t = if mayR ⟨k, s, c⟩ then (⟨k, s, c⟩, t3, 0) else (zeroR, 0, 4) := by
  unfold getR
  rw [h1]
  dsimp only
  rw [if_neg (by simp), h2]
  dsimp only
  rw [if_neg (by simp), h3]
  dsimp only
  rw [if_neg (by simp)]

/-- What is put is read as it was, wherever it stands. -/
theorem getR_put (r : ReqV) (h : mayR r = true) (a b : List UInt8) : getR (a ++ bytesR r ++ b) a.length = (r, (a.length : Int) + (19 + r.cmd.name.length), 0) := by
  obtain ⟨hk, hs, hc⟩ := mayR_bounds r h
  have e1 : a ++ bytesR r ++ b = a ++ [UInt8.ofNat r.client.toNat] ++ (be8 r.seq.toNat ++ bytesC r.cmd ++ b) := by simp [bytesR]
  have e2 : a ++ bytesR r ++ b = (a ++ [UInt8.ofNat r.client.toNat]) ++ be8 r.seq.toNat ++ (bytesC r.cmd ++ b) := by simp [bytesR]
  have e3 : a ++ bytesR r ++ b = (a ++ [UInt8.ofNat r.client.toNat] ++ be8 r.seq.toNat) ++ bytesC r.cmd ++ b := by simp [bytesR]
  have h1 : byteOf (a ++ bytesR r ++ b) a.length = (r.client, (a.length : Int) + 1, 0) := by
    rw [e1, byteOf_put, toNat_byte _ (by omega), Int.toNat_of_nonneg (by omega)]
  have h2 : numOf (a ++ bytesR r ++ b) ((a.length : Int) + 1) = (r.seq, (a.length : Int) + 1 + 8, 0) := by
    have := numOf_put r.seq.toNat (by omega) (a ++ [UInt8.ofNat r.client.toNat]) (bytesC r.cmd ++ b)
    rw [← e2, Int.toNat_of_nonneg (by omega)] at this
    simpa using this
  have h3 : getF (a ++ bytesR r ++ b) ((a.length : Int) + 1 + 8) = (r.cmd, (a.length : Int) + 1 + 8 + (10 + r.cmd.name.length), 0) := by
    have := getF_put r.cmd hc (a ++ [UInt8.ofNat r.client.toNat] ++ be8 r.seq.toNat) b
    rw [← e3] at this
    have el : ((a ++ [UInt8.ofNat r.client.toNat] ++ be8 r.seq.toNat).length : Int) = (a.length : Int) + 1 + 8 := by
      simp [be8_length]
      omega
    rw [el] at this
    exact this
  rw [getR_of _ _ _ _ _ _ _ _ h1 h2 h3]
  have e : (⟨r.client, r.seq, r.cmd⟩ : ReqV) = r := rfl
  rw [e, if_pos h]
  congr 2
  omega

/-- Cut anywhere a request is too short. -/
theorem getR_cut (r : ReqV) (h : mayR r = true) (a : List UInt8) (j : Nat) (hj : j < (bytesR r).length) : getR (a ++ (bytesR r).take j) a.length = (zeroR, 0, 2) := by
  obtain ⟨hk, hs, hc⟩ := mayR_bounds r h
  rw [bytesR_length] at hj
  by_cases j0 : j = 0
  · subst j0
    unfold getR
    rw [byteOf_short _ _ (by simp)]
    rfl
  · obtain ⟨j, rfl⟩ : ∃ i, j = i + 1 := ⟨j - 1, by omega⟩
    have ht : (bytesR r).take (j + 1) = UInt8.ofNat r.client.toNat :: (be8 r.seq.toNat ++ bytesC r.cmd).take j := rfl
    rw [ht]
    have h1 : byteOf (a ++ (UInt8.ofNat r.client.toNat :: (be8 r.seq.toNat ++ bytesC r.cmd).take j)) a.length = (r.client, (a.length : Int) + 1, 0) := by
      have := byteOf_put (UInt8.ofNat r.client.toNat) a ((be8 r.seq.toNat ++ bytesC r.cmd).take j)
      rw [toNat_byte _ (by omega), Int.toNat_of_nonneg (by omega)] at this
      simpa using this
    by_cases j8 : j < 8
    · have h2 : numOf (a ++ (UInt8.ofNat r.client.toNat :: (be8 r.seq.toNat ++ bytesC r.cmd).take j)) ((a.length : Int) + 1) = (0, 0, 2) := by
        have := numOf_short (a ++ (UInt8.ofNat r.client.toNat :: (be8 r.seq.toNat ++ bytesC r.cmd).take j)) (a.length + 1) (by simp [be8_length]; omega)
        simpa using this
      unfold getR
      rw [h1]
      dsimp only
      rw [if_neg (by simp), h2]
      rfl
    · have hb : (be8 r.seq.toNat ++ bytesC r.cmd).take j = be8 r.seq.toNat ++ (bytesC r.cmd).take (j - 8) := by
        rw [List.take_append, List.take_of_length_le (by rw [be8_length]; omega), be8_length]
      rw [hb] at h1 ⊢
      have h2 : numOf (a ++ (UInt8.ofNat r.client.toNat :: (be8 r.seq.toNat ++ (bytesC r.cmd).take (j - 8)))) ((a.length : Int) + 1) = (r.seq, (a.length : Int) + 1 + 8, 0) := by
        have := numOf_put r.seq.toNat (by omega) (a ++ [UInt8.ofNat r.client.toNat]) ((bytesC r.cmd).take (j - 8))
        rw [Int.toNat_of_nonneg (by omega)] at this
        simpa using this
      have h3 : getF (a ++ (UInt8.ofNat r.client.toNat :: (be8 r.seq.toNat ++ (bytesC r.cmd).take (j - 8)))) ((a.length : Int) + 1 + 8) = (zero, 0, 2) := by
        have := getF_cut r.cmd hc (a ++ [UInt8.ofNat r.client.toNat] ++ be8 r.seq.toNat) (j - 8) (by rw [bytesC_length]; omega)
        have el : ((a ++ [UInt8.ofNat r.client.toNat] ++ be8 r.seq.toNat).length : Int) = (a.length : Int) + 1 + 8 := by
          simp [be8_length]
          omega
        rw [el] at this
        simpa using this
      unfold getR
      rw [h1]
      dsimp only
      rw [if_neg (by simp), h2]
      dsimp only
      rw [if_neg (by simp), h3]
      rfl

/-- What is read has the kind that stands there. -/
theorem getR_kind (bs : List UInt8) (h : (getR bs 0).2.2 = 0) (hl : 10 ≤ bs.length) : (getR bs 0).1.cmd.kind = ((bs.getD 9 0).toNat : Int) := by
  have hb : byteOf bs 0 = (((bs.getD 0 0).toNat : Int), 1, 0) := by
    unfold byteOf
    rw [if_neg (by omega)]
    rfl
  unfold getR at h ⊢
  rw [hb] at h ⊢
  dsimp only at h ⊢
  rw [if_neg (by simp)] at h ⊢
  by_cases g2 : (numOf bs 1).2.2 ≠ 0
  · rw [if_pos g2] at h
    exact absurd h g2
  · rw [if_neg g2] at h ⊢
    have h9 : (numOf bs 1).2.1 = 9 := by
      unfold numOf at g2 ⊢
      rw [if_neg (by omega)] at g2 ⊢
      split
      · rfl
      · rename_i q
        rw [if_neg q] at g2
        exact absurd (by decide) g2
    rw [h9] at h ⊢
    by_cases g3 : (getF bs 9).2.2 ≠ 0
    · rw [if_pos g3] at h
      exact absurd h g3
    · rw [if_neg g3] at h ⊢
      have hk := (getF_may bs 9 (by simpa using g3)).2
      have hb9 : (byteOf bs 9).1 = ((bs.getD 9 0).toNat : Int) := by
        unfold byteOf
        rw [if_neg (by omega)]
        rfl
      rw [hb9] at hk
      by_cases g4 : mayR ⟨((bs.getD 0 0).toNat : Int), (numOf bs 1).1, (getF bs 9).1⟩ = true
      · rw [if_pos g4]
        exact hk
      · rw [if_neg g4] at h
        cases h

/-- Nothing behind the end. -/
theorem getR_end (bs : List UInt8) : getR bs bs.length = (zeroR, 0, 2) := by
  unfold getR
  rw [byteOf_short _ _ (Nat.le_refl _)]
  rfl
end Cm
end Go.Proofs.Ytnkooajbenhjhaa

/- Names: which bytes they are made of; one of them turned, one more. No program is named here. -/
set_option linter.unusedVariables false
set_option linter.unusedSimpArgs false
namespace Go.Proofs.Ytnkooajbenhjhaa
open Go.RowKit
namespace Cm

/-- The bytes of "abcdefghijklmnopqrstuvwxyz0123456789-". -/
def alpha : List UInt8 := [97, 98, 99, 100, 101, 102, 103, 104, 105, 106, 107, 108, 109, 110, 111, 112, 113, 114, 115, 116, 117, 118, 119, 120, 121, 122, 48, 49, 50, 51, 52, 53, 54, 55, 56, 57, 45]

theorem alpha_length : alpha.length = 37 := rfl
theorem alpha_all : ∀ c ∈ alpha, nameB c = true := by decide

theorem alpha_get (i : Nat) (h : i < 37) : nameB (alpha.getD i 0) = true := by
  refine alpha_all _ ?_
  have : alpha.getD i 0 = alpha[i]'(by rw [alpha_length]; exact h) := by simp [List.getD, List.getElem?_eq_getElem (show i < alpha.length by rw [alpha_length]; exact h)]
  rw [this]
  exact List.getElem_mem _

theorem mem_all : (List.range 256).all (fun n => nameB (UInt8.ofNat n) == decide (UInt8.ofNat n ∈ alpha)) = true := by decide +kernel

/-- A byte may stand in a name just if it is one of these. -/
theorem nameB_mem (c : UInt8) : nameB c = decide (c ∈ alpha) := by
  have h := List.all_eq_true.1 mem_all c.toNat (List.mem_range.2 (UInt8.toNat_lt c))
  rw [UInt8.ofNat_toNat] at h
  exact eq_of_beq h

theorem name_all (s : List UInt8) (h1 : 1 ≤ s.length) (h2 : s.length ≤ 12) (ha : ∀ c ∈ s, nameB c = true) : nameF s = true := by
  unfold nameF
  rw [decide_eq_true h1, decide_eq_true h2, List.all_eq_true.2 ha]
  rfl

/-- One byte turned. -/
theorem name_turned (s : List UInt8) (k : Nat) (by_ : UInt8) (hk : k < s.length) (h2 : s.length ≤ 12) (ha : ∀ c ∈ s, nameB c = true) : nameF (s.take k ++ [by_] ++ s.drop (k + 1)) = nameB by_ := by
  have hl : (s.take k ++ [by_] ++ s.drop (k + 1)).length = s.length := by simp; omega
  unfold nameF
  rw [hl, decide_eq_true (show 1 ≤ s.length by omega), decide_eq_true h2, List.all_append, List.all_append]
  have t1 : (s.take k).all nameB = true := List.all_eq_true.2 fun c hc => ha c (List.mem_of_mem_take hc)
  have t2 : (s.drop (k + 1)).all nameB = true := List.all_eq_true.2 fun c hc => ha c (List.mem_of_mem_drop hc)
  rw [t1, t2]
  simp

/-- One more. -/
theorem name_more (s : List UInt8) (h1 : 1 ≤ s.length) (h2 : s.length ≤ 12) (ha : ∀ c ∈ s, nameB c = true) : nameF (s ++ [120]) = decide (s.length < 12) := by
  unfold nameF
  have hx : (s ++ [120]).all nameB = true := List.all_eq_true.2 fun c hc => by
    rcases List.mem_append.1 hc with q | q
    · exact ha c q
    · rw [List.mem_singleton.1 q]; decide
  have hl : (s ++ [120]).length = s.length + 1 := by simp
  rw [hx, hl, Bool.and_true, decide_eq_true (Nat.le_add_left 1 s.length), Bool.true_and]
  exact decide_eq_decide.2 (by omega)

/-- No name: nothing; noughts. -/
theorem name_none (n : Nat) : nameF (List.replicate n 0) = false := by
  rcases Nat.eq_zero_or_pos n with q | q
  · subst q; rfl
  · unfold nameF
    have : (List.replicate n (0 : UInt8)).all nameB = false := by
      rw [List.all_eq_false]
      exact ⟨0, by simp; omega, by decide⟩
    rw [this, Bool.and_false]

/-- The first k letters that were taken tell whether a byte is one of them. -/
def isOne (by_ : UInt8) (k : Nat) : Bool := (alpha.take k).any fun c => c == by_
theorem isOne_zero (by_ : UInt8) : isOne by_ 0 = false := rfl
theorem isOne_succ (by_ : UInt8) (k : Nat) (h : k < 37) : isOne by_ (k + 1) = (isOne by_ k || (alpha.getD k 0 == by_)) := by
  unfold isOne
  have hk : k < alpha.length := h
  rw [List.take_succ_eq_append_getElem hk, List.any_append]
  simp [List.getD, List.getElem?_eq_getElem hk]
theorem isOne_all (by_ : UInt8) : isOne by_ 37 = nameB by_ := by
  rw [nameB_mem]
  unfold isOne
  have : alpha.take 37 = alpha := List.take_of_length_le (Nat.le_of_eq alpha_length)
  rw [this]
  by_cases h : by_ ∈ alpha
  · rw [decide_eq_true h]
    exact List.any_eq_true.2 ⟨by_, h, by simp⟩
  · rw [decide_eq_false h]
    rw [List.any_eq_false]
    intro c hc
    simp
    intro e
    exact h (e ▸ hc)
end Cm
end Go.Proofs.Ytnkooajbenhjhaa

/- Contracts of package cmd, and of the document's answers for it: letters, numbers, names, commands that may be. -/
set_option linter.unusedVariables false
set_option linter.unusedSimpArgs false
namespace Go.Proofs.Ytnkooajbenhjhaa
open Go.RowKit
namespace Cm

/-- A truth told, nothing turned. -/
def Says (r : Bool) (w : World) (e : Ending) (w' : World) : Prop := e = .returned (.bool r) ∧ w = w'

/-- A truth told, nothing that was there has turned. -/
def SaysB (r : Bool) (w : World) (e : Ending) (w' : World) : Prop := e = .returned (.bool r) ∧ Below w.heap.size w w'

theorem Says.b {r : Bool} {w : World} {e : Ending} {w' : World} (h : Says r w e w') : SaysB r w e w' := by
  obtain ⟨h1, rfl⟩ := h
  exact ⟨h1, Below.refl _ _⟩

theorem inName_any (c : UInt8) (w : World) : Calls Try.prog 70 #[.int .u8 (c.toNat : Int)] w (Says (nameB c) w) := by
  have hc := UInt8.toNat_lt c
  unfold nameB
  generalize c.toNat = n at hc ⊢
  by_cases h1 : 97 ≤ n <;> by_cases h2 : n ≤ 122 <;> by_cases h3 : 48 ≤ n <;> by_cases h4 : n ≤ 57 <;> by_cases h5 : n = 45 <;> first
    | (exfalso; omega)
    | (go_enter Try.func70, Try.ntmps70
       go_wp2
       go_ret
       exact ⟨by simp [h1, h2, h3, h4, h5] <;> omega, rfl⟩)



/-- All of the first k letters may stand in a name. -/
theorem all_take_succ (s : List UInt8) (k : Nat) (h : k < s.length) : (s.take (k + 1)).all nameB = ((s.take k).all nameB && nameB (s.getD k 0)) := by
  rw [List.take_succ_eq_append_getElem h, List.all_append]
  simp [List.getD, List.getElem?_eq_getElem h]

theorem all_false_of (s : List UInt8) (k : Nat) (h : k < s.length) (hb : nameB (s.getD k 0) = false) : s.all nameB = false := by
  rw [List.all_eq_false]
  have e : s.getD k 0 = s[k] := by simp [List.getD, List.getElem?_eq_getElem h]
  exact ⟨s[k], List.getElem_mem h, by rw [← e, hb]; simp⟩

theorem bstr_get (s : List UInt8) (k : Nat) (h : k < s.length) (h' : k < (bstr s).size) : (bstr s)[k]'h' = s.getD k 0 := by
  simp only [List.getD, List.getElem?_eq_getElem h, Option.getD_some]
  rfl

theorem Name_any (s : List UInt8) (w : World) : Calls Try.prog 60 #[.string (bstr s)] w (Says (nameF s) w) := by
  have hs := bstr_size s
  unfold nameF
  by_cases h1 : s.length < 1
  · rw [decide_eq_false (by omega)]
    go_enter Try.func60, Try.ntmps60
    go_wp2
    go_ret
    exact ⟨rfl, rfl⟩
  by_cases h2 : 12 < s.length
  · rw [decide_eq_false (show ¬ s.length ≤ 12 by omega)]
    go_enter Try.func60, Try.ntmps60
    go_wp2
    go_ret
    exact ⟨by simp, rfl⟩
  rw [decide_eq_true (show 1 ≤ s.length by omega), decide_eq_true (show s.length ≤ 12 by omega)]
  go_enter Try.func60, Try.ntmps60
  go_wp2
  go_loop [14] (fun i => ∃ j : Nat, j ≤ s.length ∧ i = .int .i64 j ∧ (s.take j).all nameB = true) (fun i => s.length - (intOf i).toNat)
  case atStart => exact ⟨0, by omega, rfl, rfl⟩
  case round =>
    obtain ⟨j, hj, rfl, ha⟩ := hrel
    by_cases hlt : j < s.length
    · have hget := bstr_get s j hlt
      have HA := Lib.hid (all_take_succ s j hlt)
      have HF := Lib.hid (all_false_of s j hlt)
      generalize s.getD j 0 = c at hget HA HF
      cases hn : nameB c
      · have HN := Lib.hid hn
        clear hn
        go_wp2_with (go_at_call 70; refine (inName_any c _).mono ?_; rw [HN.out]; rintro e w' ⟨rfl, rfl⟩)
        go_ret
        exact ⟨by rw [HF.out HN.out]; rfl, rfl⟩
      · have HN := Lib.hid hn
        clear hn
        go_wp2_with (go_at_call 70; refine (inName_any c _).mono ?_; rw [HN.out]; rintro e w' ⟨rfl, rfl⟩)
        go_round
        case rel => exact ⟨j + 1, by omega, by go_num, by rw [HA.out, HN.out, ha]; rfl⟩
        case measure => simp [intOf]; omega
    · obtain rfl : j = s.length := by omega
      go_wp2
      go_ret
      rw [List.take_length] at ha
      exact ⟨by rw [ha]; rfl, rfl⟩

/-- Where a letter lies, and whether it may stand in a name. -/
theorem letter (c : UInt8) : (decide (97 ≤ (c.toNat : Int)) = true ∧ decide ((c.toNat : Int) ≤ 122) = true ∧ nameB c = true) ∨
    (decide (97 ≤ (c.toNat : Int)) = false ∧ decide (48 ≤ (c.toNat : Int)) = true ∧ decide ((c.toNat : Int) ≤ 57) = true ∧ nameB c = true) ∨
    (decide (97 ≤ (c.toNat : Int)) = false ∧ decide (48 ≤ (c.toNat : Int)) = false ∧ ((c.toNat : Int) == 45) = true ∧ nameB c = true) ∨
    (decide (97 ≤ (c.toNat : Int)) = false ∧ decide (48 ≤ (c.toNat : Int)) = false ∧ ((c.toNat : Int) == 45) = false ∧ nameB c = false) ∨
    (decide (97 ≤ (c.toNat : Int)) = false ∧ decide (48 ≤ (c.toNat : Int)) = true ∧ decide ((c.toNat : Int) ≤ 57) = false ∧ ((c.toNat : Int) == 45) = false ∧ nameB c = false) ∨
    (decide (97 ≤ (c.toNat : Int)) = true ∧ decide ((c.toNat : Int) ≤ 122) = false ∧ decide (48 ≤ (c.toNat : Int)) = true ∧ decide ((c.toNat : Int) ≤ 57) = false ∧ ((c.toNat : Int) == 45) = false ∧ nameB c = false) := by
  have hc := UInt8.toNat_lt c
  unfold nameB
  generalize c.toNat = n at hc ⊢
  simp only [decide_eq_true_eq, decide_eq_false_iff_not, beq_iff_eq, beq_eq_false_iff_ne, Bool.or_eq_true, Bool.and_eq_true, Bool.or_eq_false_iff, Bool.and_eq_false_imp]
  omega

theorem RefName_any (s : List UInt8) (w : World) : Calls Try.prog 45 #[.string (bstr s)] w (Says (nameF s) w) := by
  have hs := bstr_size s
  unfold nameF
  by_cases h1 : s.length < 1
  · rw [decide_eq_false (by omega)]
    go_enter Try.func45, Try.ntmps45
    go_wp2
    go_ret
    exact ⟨rfl, rfl⟩
  by_cases h2 : 12 < s.length
  · rw [decide_eq_false (show ¬ s.length ≤ 12 by omega)]
    go_enter Try.func45, Try.ntmps45
    go_wp2
    go_ret
    exact ⟨by simp, rfl⟩
  rw [decide_eq_true (show 1 ≤ s.length by omega), decide_eq_true (show s.length ≤ 12 by omega)]
  go_enter Try.func45, Try.ntmps45
  go_wp2
  go_loop [3] (fun i => ∃ j : Nat, j ≤ s.length ∧ i = .int .i64 j ∧ (s.take j).all nameB = true) (fun i => s.length - (intOf i).toNat)
  case atStart => exact ⟨0, by omega, rfl, rfl⟩
  case round =>
    obtain ⟨j, hj, rfl, ha⟩ := hrel
    by_cases hlt : j < s.length
    · have hget := bstr_get s j hlt
      have HA := Lib.hid (all_take_succ s j hlt)
      have HF := Lib.hid (all_false_of s j hlt)
      have HL := letter (s.getD j 0)
      generalize s.getD j 0 = c at hget HA HF HL
      have yes : nameB c = true → (s.take (j + 1)).all nameB = true := fun hn => by rw [HA.out, hn, ha]; rfl
      have YES := Lib.hid yes
      clear yes HA
      rcases HL with ⟨q1, q2, hn⟩ | ⟨q1, q2, q3, hn⟩ | ⟨q1, q2, q3, hn⟩ | ⟨q1, q2, q3, hn⟩ | ⟨q1, q2, q3, q4, hn⟩ | ⟨q1, q2, q3, q4, q5, hn⟩
      all_goals
        have HN := Lib.hid hn
        clear hn
        go_wp2
        first
          | (go_ret
             exact ⟨by rw [HF.out HN.out]; rfl, rfl⟩)
          | (go_round
             case rel => exact ⟨j + 1, by omega, by go_num, YES.out HN.out⟩
             case measure => simp [intOf]; omega)
    · obtain rfl : j = s.length := by omega
      go_wp2
      go_ret
      rw [List.take_length] at ha
      exact ⟨by rw [ha]; rfl, rfl⟩
end Cm
end Go.Proofs.Ytnkooajbenhjhaa

/- Contracts: which commands and requests may be. -/
set_option linter.unusedVariables false
set_option linter.unusedSimpArgs false
namespace Go.Proofs.Ytnkooajbenhjhaa
open Go.RowKit
namespace Cm

/-- A command, a request, as the machine holds it. -/
def cmdVal (c : CmdV) : Value := .agg #[.int .i64 c.kind, .int .i64 c.session, .string (bstr c.name)]
def reqVal (r : ReqV) : Value := .agg #[.int .i64 r.client, .int .i64 r.seq, .int .i64 r.cmd.kind, .int .i64 r.cmd.session, .string (bstr r.cmd.name)]

theorem bstr_empty (n : List UInt8) : (bstr n).toList.isEmpty = decide (n = []) := by
  rw [ByteArray.toList_eq, bstr_toList]
  cases n <;> rfl





end Cm
end Go.Proofs.Ytnkooajbenhjhaa

/- Contracts: slices.Grow and slices.Concat over bytes. -/
set_option linter.unusedVariables false
set_option linter.unusedSimpArgs false
namespace Go.Proofs.Ytnkooajbenhjhaa
open Go.RowKit

theorem owns_new (w : World) (cs : Array Value) (cap : Nat) (hc : cs.size = cap) (hm : cap ≤ maxLen) :
    (w.alloc (.cells cs 5)).drew.ownsRow w.heap.size 5 1 (.slice (some ⟨w.heap.size, 0, none⟩) 0 cap) 0 [] := by
  refine ⟨rfl, .inr ⟨w.heap.size, cap, cs, rfl, Nat.le_refl _, ?_, Nat.zero_le _, hm, by omega, by simp⟩⟩
  show (w.heap.push (.cells cs 5))[w.heap.size]? = _
  simp


/-- Bytes of bytes, one behind the other. -/
def flat (l : List (Value × List UInt8)) : List UInt8 := l.flatMap (·.2)
theorem flat_take_succ (l : List (Value × List UInt8)) (j : Nat) (h : j < l.length) : flat (l.take (j + 1)) = flat (l.take j) ++ (l[j]).2 := by
  unfold flat
  rw [List.take_succ_eq_append_getElem h, List.flatMap_append]
  simp
theorem flat_take_le (l : List (Value × List UInt8)) (j : Nat) : (flat (l.take j)).length ≤ (flat l).length := by
  conv => rhs; rw [← List.take_append_drop j l]
  unfold flat
  rw [List.flatMap_append, List.length_append]
  omega

/-- Bytes told, in new memory of the call's own. -/
def MadeOne (bs : List UInt8) (w : World) (e : Ending) (w' : World) : Prop :=
  ∃ v, e = .returned v ∧ w'.ownsRow w.heap.size 5 1 v bs.length (cellsOf bs) ∧ Below w.heap.size w w'



end Go.Proofs.Ytnkooajbenhjhaa

/- Contracts: package cmd's Put, Get of commands. -/
set_option linter.unusedVariables false
set_option linter.unusedSimpArgs false
namespace Go.Proofs.Ytnkooajbenhjhaa
open Go.RowKit
namespace Cm

/-- What lies in a new block of three, later. -/
theorem box3 {w w' : World} {x y z : Value} {t : TypeId} (h : Below (w.alloc (.cells #[x, y, z] t)).heap.size (w.alloc (.cells #[x, y, z] t)) w') :
    w'.cell? ⟨w.heap.size, 0, none⟩ = some x ∧ w'.cell? ⟨w.heap.size, 1, none⟩ = some y ∧ w'.cell? ⟨w.heap.size, 2, none⟩ = some z := by
  have hl : w.heap.size < (w.alloc (.cells #[x, y, z] t)).heap.size := by simp
  refine ⟨?_, ?_, ?_⟩
  · rw [h.cell (p := ⟨w.heap.size, 0, none⟩) hl]; simp [go_sem]
  · rw [h.cell (p := ⟨w.heap.size, 1, none⟩) hl]; simp [go_sem]
  · rw [h.cell (p := ⟨w.heap.size, 2, none⟩) hl]; simp [go_sem]

theorem box5 {w w' : World} {x y z u v : Value} {t : TypeId} (h : Below (w.alloc (.cells #[x, y, z, u, v] t)).heap.size (w.alloc (.cells #[x, y, z, u, v] t)) w') :
    w'.cell? ⟨w.heap.size, 0, none⟩ = some x ∧ w'.cell? ⟨w.heap.size, 1, none⟩ = some y ∧ w'.cell? ⟨w.heap.size, 2, none⟩ = some z ∧ w'.cell? ⟨w.heap.size, 3, none⟩ = some u ∧ w'.cell? ⟨w.heap.size, 4, none⟩ = some v := by
  have hl : w.heap.size < (w.alloc (.cells #[x, y, z, u, v] t)).heap.size := by simp
  refine ⟨?_, ?_, ?_, ?_, ?_⟩
  · rw [h.cell (p := ⟨w.heap.size, 0, none⟩) hl]; simp [go_sem]
  · rw [h.cell (p := ⟨w.heap.size, 1, none⟩) hl]; simp [go_sem]
  · rw [h.cell (p := ⟨w.heap.size, 2, none⟩) hl]; simp [go_sem]
  · rw [h.cell (p := ⟨w.heap.size, 3, none⟩) hl]; simp [go_sem]
  · rw [h.cell (p := ⟨w.heap.size, 4, none⟩) hl]; simp [go_sem]

/-- Bytes and a code told; the slice written out. -/
def MadeS (r : List UInt8 × Int) (w : World) (e : Ending) (w' : World) : Prop :=
  ∃ a l c, e = .returned (.tuple #[.slice a l c, .int .i64 r.2]) ∧ Rd w' (.slice a l c) r.1 ∧ Below w.heap.size w w'

theorem Made.s {r : List UInt8 × Int} {w : World} {e : Ending} {w' : World} (h : Made r w e w') : MadeS r w e w' := by
  obtain ⟨v, he, ho, hb⟩ := h
  have hr := Rd.own ho
  obtain ⟨a, l, c, rfl, _⟩ := hr.ex
  exact ⟨a, l, c, he, hr, hb⟩




theorem MadeOne.made {bs : List UInt8} {w0 w w' : World} {e : Ending} (h : MadeOne bs w e w') (hb : w0.heap.size ≤ w.heap.size) : ∃ v, e = .returned v ∧ w'.ownsRow w0.heap.size 5 1 v bs.length (cellsOf bs) ∧ Below w.heap.size w w' := by
  obtain ⟨v, he, ho, hbb⟩ := h
  exact ⟨v, he, own_mono ho hb, hbb⟩


theorem Rd.len_le {w : World} {v : Value} {bs : List UInt8} (h : Rd w v bs) : bs.length ≤ maxLen := by
  obtain ⟨a, l, c, _, h1, h2, h3, _⟩ := h.ex
  omega

theorem byteOf_le (bs : List UInt8) (t : Int) : (byteOf bs t).2.1 ≤ bs.length := by
  unfold byteOf
  split
  · simp
  · simp only; omega

theorem numOf_le (bs : List UInt8) (t : Int) : (numOf bs t).2.1 ≤ bs.length := by
  unfold numOf
  split
  · simp
  · split
    · simp only; omega
    · simp

theorem textOf_le (bs : List UInt8) (t m : Int) : (textOf bs t m).2.1 ≤ bs.length := by
  unfold textOf
  split
  · simp
  · split
    · simp
    · split
      · simp
      · simp only; omega

/-- A command, a place and a code told. -/
def GetsC (r : CmdV × Int × Int) (w : World) (e : Ending) (w' : World) : Prop :=
  e = .returned (.tuple #[cmdVal r.1, .int .i64 r.2.1, .int .i64 r.2.2]) ∧ Below w.heap.size w w'

theorem getF_told (bs : List UInt8) (t : Int) {k t1 e1 s t2 e2 t3 e3 : Int} {n : List UInt8} (hB : byteOf bs t = (k, t1, e1)) (hN : numOf bs t1 = (s, t2, e2)) (hT : textOf bs t2 12 = (n, t3, e3)) :
    getF bs t = if e1 ≠ 0 then (zero, 0, e1) else if e2 ≠ 0 then (zero, 0, e2) else if e3 ≠ 0 then (zero, 0, e3) else if mayF ⟨k, s, n⟩ then (⟨k, s, n⟩, t3, 0) else (zero, 0, 4) := by
  unfold getF
  rw [hB]
  dsimp only
  rw [hN]
  dsimp only
  rw [hT]

theorem free3 {w w' : World} {x y z : Value} {t : TypeId} (h : Below (w.alloc (.cells #[x, y, z] t)).heap.size (w.alloc (.cells #[x, y, z] t)) w') :
    ∀ k, w'.frozen? ⟨w.heap.size, k, none⟩ = false := by
  intro k
  have hl : w.heap.size < (w.alloc (.cells #[x, y, z] t)).heap.size := by simp
  rw [h.frozen (p := ⟨w.heap.size, k, none⟩) hl]
  simp [go_sem]

theorem set3 {w w1 : World} (h : Below w.heap.size w w1) (x y z : Value) : Below w.heap.size w (((w1.setCell ⟨w.heap.size, 0, none⟩ x).setCell ⟨w.heap.size, 1, none⟩ y).setCell ⟨w.heap.size, 2, none⟩ z) :=
  ((h.setCell (Nat.le_refl _) _).setCell (Nat.le_refl _) _).setCell (Nat.le_refl _) _


end Cm
end Go.Proofs.Ytnkooajbenhjhaa

/- Contracts: package cmd's PutReq, GetReq. -/
set_option linter.unusedVariables false
set_option linter.unusedSimpArgs false
namespace Go.Proofs.Ytnkooajbenhjhaa
open Go.RowKit
namespace Cm



/-- A request, a place and a code told. -/
def GetsR (r : ReqV × Int × Int) (w : World) (e : Ending) (w' : World) : Prop :=
  e = .returned (.tuple #[reqVal r.1, .int .i64 r.2.1, .int .i64 r.2.2]) ∧ Below w.heap.size w w'

theorem getF_le (bs : List UInt8) (t : Int) : (getF bs t).2.1 ≤ bs.length := by
  unfold getF
  split
  · simp
  · split
    · simp
    · split
      · simp
      · split
        · exact textOf_le _ _ _
        · simp

theorem getR_told (bs : List UInt8) (t : Int) {k t1 e1 s t2 e2 t3 e3 : Int} {c : CmdV} (hB : byteOf bs t = (k, t1, e1)) (hN : numOf bs t1 = (s, t2, e2)) (hT : getF bs t2 = (c, t3, e3)) :
    getR bs t = if e1 ≠ 0 then (zeroR, 0, e1) else if e2 ≠ 0 then (zeroR, 0, e2) else if e3 ≠ 0 then (zeroR, 0, e3) else if mayR ⟨k, s, c⟩ then (⟨k, s, c⟩, t3, 0) else (zeroR, 0, 4) := by
  unfold getR
  rw [hB]
  dsimp only
  rw [hN]
  dsimp only
  rw [hT]

theorem free5 {w w' : World} {x y z u v : Value} {t : TypeId} (h : Below (w.alloc (.cells #[x, y, z, u, v] t)).heap.size (w.alloc (.cells #[x, y, z, u, v] t)) w') :
    ∀ k, w'.frozen? ⟨w.heap.size, k, none⟩ = false := by
  intro k
  have hl : w.heap.size < (w.alloc (.cells #[x, y, z, u, v] t)).heap.size := by simp
  rw [h.frozen (p := ⟨w.heap.size, k, none⟩) hl]
  simp [go_sem]

theorem set5 {w w1 : World} (h : Below w.heap.size w w1) (x y z u v : Value) : Below w.heap.size w (((((w1.setCell ⟨w.heap.size, 0, none⟩ x).setCell ⟨w.heap.size, 1, none⟩ y).setCell ⟨w.heap.size, 2, none⟩ z).setCell ⟨w.heap.size, 3, none⟩ u).setCell ⟨w.heap.size, 4, none⟩ v) :=
  ((((h.setCell (Nat.le_refl _) _).setCell (Nat.le_refl _) _).setCell (Nat.le_refl _) _).setCell (Nat.le_refl _) _).setCell (Nat.le_refl _) _


end Cm
end Go.Proofs.Ytnkooajbenhjhaa
