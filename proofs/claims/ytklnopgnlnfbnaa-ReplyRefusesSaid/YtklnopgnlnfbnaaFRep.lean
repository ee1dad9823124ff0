/- What package reply answers, as plain functions over bytes: what is held, replies; what is put is read as it was. No program is named here. -/
import Derived.Test.YtklnopgnlnfbnaaFCmd
set_option linter.unusedVariables false
set_option linter.unusedSimpArgs false
namespace Go.Proofs.Ytklnopgnlnfbnaa
open Go.RowKit
namespace Cm

/-- A lock that is held: its name's bytes, its token. -/
structure GrantV where
  name : List UInt8
  token : Int

/-- A reply. -/
structure ReplyV where
  code : Int
  session : Int
  ahead : Int
  held : List GrantV

def zeroP : ReplyV := ⟨0, 0, 0, []⟩

/-- One that is held, behind the name ahead of it. -/
def grantOk (p : Option (List UInt8)) (g : GrantV) : Bool := nameF g.name && highF g.token 1 && (match p with | none => true | some q => Op.bytesLess q g.name)
def heldOk : Option (List UInt8) → List GrantV → Bool
  | _, [] => true
  | p, g :: l => grantOk p g && heldOk (some g.name) l

def mayP (r : ReplyV) : Bool := decide (0 ≤ r.code) && decide (r.code ≤ 12) && highF r.session 0 && decide (0 ≤ r.ahead) && decide (r.ahead ≤ 3) && decide (r.held.length ≤ 4) && !(decide (r.session = 0) && decide (0 < r.held.length)) && heldOk none r.held

theorem name_len (s : List UInt8) (h : nameF s = true) : s.length ≤ 12 := by
  unfold nameF at h
  simp at h
  omega

theorem heldOk_mem (l : List GrantV) : ∀ p, heldOk p l = true → ∀ g ∈ l, g.name.length ≤ 12 ∧ 1 ≤ g.token ∧ g.token ≤ 2305843009213693952 := by
  induction l with
  | nil => intro p _ g hg; cases hg
  | cons x l ih =>
    intro p h g hg
    unfold heldOk at h
    simp only [Bool.and_eq_true] at h
    rcases List.mem_cons.1 hg with rfl | hg
    · have h1 := h.1
      unfold grantOk highF at h1
      simp only [Bool.and_eq_true, decide_eq_true_eq] at h1
      exact ⟨name_len _ h1.1.1, h1.1.2.1, h1.1.2.2⟩
    · exact ih _ h.2 g hg

theorem mayP_bounds (r : ReplyV) (h : mayP r = true) : (0 ≤ r.code ∧ r.code ≤ 12) ∧ (0 ≤ r.session ∧ r.session ≤ 2305843009213693952) ∧ (0 ≤ r.ahead ∧ r.ahead ≤ 3) ∧ r.held.length ≤ 4 ∧ (∀ g ∈ r.held, g.name.length ≤ 12 ∧ 1 ≤ g.token ∧ g.token ≤ 2305843009213693952) := by
  unfold mayP highF at h
  simp only [Bool.and_eq_true, decide_eq_true_eq] at h
  obtain ⟨⟨⟨⟨⟨⟨⟨h1, h2⟩, h3, h4⟩, h5⟩, h6⟩, h7⟩, _⟩, h8⟩ := h
  exact ⟨⟨h1, h2⟩, ⟨h3, h4⟩, ⟨h5, h6⟩, h7, heldOk_mem _ _ h8⟩

def bytesG (g : GrantV) : List UInt8 := UInt8.ofNat g.name.length :: (g.name ++ be8 g.token.toNat)
theorem bytesG_length (g : GrantV) : (bytesG g).length = 9 + g.name.length := by
  unfold bytesG
  simp [be8_length]
  omega

def bytesH (l : List GrantV) : List UInt8 := l.flatMap bytesG
theorem bytesH_nil : bytesH [] = [] := rfl
theorem bytesH_cons (g : GrantV) (l : List GrantV) : bytesH (g :: l) = bytesG g ++ bytesH l := rfl
theorem bytesH_snoc (l : List GrantV) (g : GrantV) : bytesH (l ++ [g]) = bytesH l ++ bytesG g := by simp [bytesH]

def bytesP (r : ReplyV) : List UInt8 := UInt8.ofNat r.code.toNat :: (be8 r.session.toNat ++ (UInt8.ofNat r.ahead.toNat :: UInt8.ofNat r.held.length :: bytesH r.held))
theorem bytesP_length (r : ReplyV) : (bytesP r).length = 11 + (bytesH r.held).length := by
  unfold bytesP
  simp [be8_length]
  omega
def putP (r : ReplyV) : List UInt8 × Int := if mayP r then (bytesP r, 0) else ([], 1)

/-- So many are read from t on. -/
def getHeld (bs : List UInt8) : Nat → Int → List GrantV × Int × Int
  | 0, t => ([], t, 0)
  | n + 1, t =>
    if (textOf bs t 12).2.2 ≠ 0 then ([], 0, (textOf bs t 12).2.2) else
    if (numOf bs (textOf bs t 12).2.1).2.2 ≠ 0 then ([], 0, (numOf bs (textOf bs t 12).2.1).2.2) else
    if (getHeld bs n (numOf bs (textOf bs t 12).2.1).2.1).2.2 ≠ 0 then ([], 0, (getHeld bs n (numOf bs (textOf bs t 12).2.1).2.1).2.2) else
    (⟨(textOf bs t 12).1, (numOf bs (textOf bs t 12).2.1).1⟩ :: (getHeld bs n (numOf bs (textOf bs t 12).2.1).2.1).1, (getHeld bs n (numOf bs (textOf bs t 12).2.1).2.1).2.1, 0)

theorem getHeld_succ (bs : List UInt8) (n : Nat) (t : Int) : getHeld bs (n + 1) t =
    (if (textOf bs t 12).2.2 ≠ 0 then ([], 0, (textOf bs t 12).2.2) else
    if (numOf bs (textOf bs t 12).2.1).2.2 ≠ 0 then ([], 0, (numOf bs (textOf bs t 12).2.1).2.2) else
    if (getHeld bs n (numOf bs (textOf bs t 12).2.1).2.1).2.2 ≠ 0 then ([], 0, (getHeld bs n (numOf bs (textOf bs t 12).2.1).2.1).2.2) else
    (⟨(textOf bs t 12).1, (numOf bs (textOf bs t 12).2.1).1⟩ :: (getHeld bs n (numOf bs (textOf bs t 12).2.1).2.1).1, (getHeld bs n (numOf bs (textOf bs t 12).2.1).2.1).2.1, 0)) := rfl

theorem getHeld_step (bs : List UInt8) (n : Nat) (t t1 t2 k : Int) (s : List UInt8) (h1 : textOf bs t 12 = (s, t1, 0)) (h2 : numOf bs t1 = (k, t2, 0)) :
    getHeld bs (n + 1) t = if (getHeld bs n t2).2.2 ≠ 0 then ([], 0, (getHeld bs n t2).2.2) else (⟨s, k⟩ :: (getHeld bs n t2).1, (getHeld bs n t2).2.1, 0) := by
  rw [getHeld_succ, h1]
  dsimp only
  rw [if_neg (by simp), h2]
  dsimp only
  rw [if_neg (by simp)]

theorem readG (g : GrantV) (hn : g.name.length ≤ 12) (ht : 1 ≤ g.token ∧ g.token ≤ 2305843009213693952) (a r : List UInt8) :
    textOf (a ++ bytesG g ++ r) a.length 12 = (g.name, (a.length : Int) + 1 + g.name.length, 0) ∧ numOf (a ++ bytesG g ++ r) ((a.length : Int) + 1 + g.name.length) = (g.token, (a.length : Int) + 1 + g.name.length + 8, 0) := by
  have e1 : a ++ bytesG g ++ r = a ++ (UInt8.ofNat g.name.length :: g.name) ++ (be8 g.token.toNat ++ r) := by simp [bytesG]
  have e2 : a ++ bytesG g ++ r = (a ++ (UInt8.ofNat g.name.length :: g.name)) ++ be8 g.token.toNat ++ r := by simp [bytesG]
  constructor
  · rw [e1]
    exact textOf_put' g.name (by omega) a _ 12 (by omega)
  · have := numOf_put g.token.toNat (by omega) (a ++ (UInt8.ofNat g.name.length :: g.name)) r
    rw [← e2, Int.toNat_of_nonneg (by omega)] at this
    have el : ((a ++ (UInt8.ofNat g.name.length :: g.name)).length : Int) = (a.length : Int) + 1 + g.name.length := by
      simp
      omega
    rw [el] at this
    exact this

theorem getHeld_put (l : List GrantV) : ∀ (a r : List UInt8), (∀ g ∈ l, g.name.length ≤ 12 ∧ 1 ≤ g.token ∧ g.token ≤ 2305843009213693952) → getHeld (a ++ bytesH l ++ r) l.length a.length = (l, (a.length : Int) + (bytesH l).length, 0) := by
  induction l with
  | nil =>
    intro a r _
    show (([] : List GrantV), (a.length : Int), (0 : Int)) = _
    rw [bytesH_nil]
    simp
  | cons g l ih =>
    intro a r h
    have hg := h g List.mem_cons_self
    rw [bytesH_cons]
    have e : a ++ (bytesG g ++ bytesH l) ++ r = a ++ bytesG g ++ (bytesH l ++ r) := by simp
    have e' : a ++ (bytesG g ++ bytesH l) ++ r = (a ++ bytesG g) ++ bytesH l ++ r := by simp
    obtain ⟨h1, h2⟩ := readG g hg.1 hg.2 a (bytesH l ++ r)
    rw [← e] at h1 h2
    have hi := ih (a ++ bytesG g) r (fun x hx => h x (List.mem_cons_of_mem _ hx))
    rw [← e'] at hi
    have el : ((a ++ bytesG g).length : Int) = (a.length : Int) + 1 + g.name.length + 8 := by
      rw [List.length_append, bytesG_length]
      omega
    rw [el] at hi
    rw [List.length_cons, getHeld_step _ _ _ _ _ _ _ h1 h2, hi]
    dsimp only
    rw [if_neg (by simp), List.length_append, bytesG_length]
    congr 2
    omega

/-- Cut anywhere what is held is too short. -/
theorem getHeld_cut (l : List GrantV) : ∀ (a : List UInt8) (j : Nat), (∀ g ∈ l, g.name.length ≤ 12 ∧ 1 ≤ g.token ∧ g.token ≤ 2305843009213693952) → j < (bytesH l).length → getHeld (a ++ (bytesH l).take j) l.length a.length = ([], 0, 2) := by
  induction l with
  | nil => intro a j _ hj; rw [bytesH_nil] at hj; simp at hj
  | cons g l ih =>
    intro a j h hj
    have hg := h g List.mem_cons_self
    rw [bytesH_cons, List.length_append, bytesG_length] at hj
    rw [bytesH_cons]
    by_cases hin : (bytesG g).length ≤ j
    · have hb : (bytesG g ++ bytesH l).take j = bytesG g ++ (bytesH l).take (j - (bytesG g).length) := by
        rw [List.take_append, List.take_of_length_le hin]
      rw [hb]
      obtain ⟨h1, h2⟩ := readG g hg.1 hg.2 a ((bytesH l).take (j - (bytesG g).length))
      have e : a ++ (bytesG g ++ (bytesH l).take (j - (bytesG g).length)) = a ++ bytesG g ++ (bytesH l).take (j - (bytesG g).length) := by simp
      rw [← e] at h1 h2
      have hi := ih (a ++ bytesG g) (j - (bytesG g).length) (fun x hx => h x (List.mem_cons_of_mem _ hx)) (by rw [bytesG_length] at hin ⊢; omega)
      rw [← e] at hi
      have el : ((a ++ bytesG g).length : Int) = (a.length : Int) + 1 + g.name.length + 8 := by
        rw [List.length_append, bytesG_length]
        omega
      rw [el] at hi
      rw [List.length_cons, getHeld_step _ _ _ _ _ _ _ h1 h2, hi]
      rfl
    · have hb : (bytesG g ++ bytesH l).take j = (bytesG g).take j := by
        rw [List.take_append, show j - (bytesG g).length = 0 by omega, List.take_zero, List.append_nil]
      rw [hb]
      rw [bytesG_length] at hin
      by_cases hs : j < 1 + g.name.length
      · have ht : (bytesG g).take j = (UInt8.ofNat g.name.length :: g.name).take j := by
          have : bytesG g = (UInt8.ofNat g.name.length :: g.name) ++ be8 g.token.toNat := by simp [bytesG]
          rw [this, List.take_append, show j - (UInt8.ofNat g.name.length :: g.name).length = 0 by simp; omega, List.take_zero, List.append_nil]
        rw [ht]
        have h3 := textOf_short (a ++ (UInt8.ofNat g.name.length :: g.name).take j) a.length 12 g.name (by omega) (by omega) a j hs rfl rfl
        rw [List.length_cons]
        rw [getHeld_succ, h3]
        rfl
      · have ht : (bytesG g).take j = (UInt8.ofNat g.name.length :: g.name) ++ (be8 g.token.toNat).take (j - (1 + g.name.length)) := by
          have : bytesG g = (UInt8.ofNat g.name.length :: g.name) ++ be8 g.token.toNat := by simp [bytesG]
          rw [this, List.take_append, List.take_of_length_le (by simp; omega)]
          congr 2
          simp
          omega
        rw [ht]
        have h1 : textOf (a ++ ((UInt8.ofNat g.name.length :: g.name) ++ (be8 g.token.toNat).take (j - (1 + g.name.length)))) a.length 12 = (g.name, (a.length : Int) + 1 + g.name.length, 0) := by
          have := textOf_put' g.name (by omega) a ((be8 g.token.toNat).take (j - (1 + g.name.length))) 12 (by omega)
          rwa [List.append_assoc] at this
        have h2 : numOf (a ++ ((UInt8.ofNat g.name.length :: g.name) ++ (be8 g.token.toNat).take (j - (1 + g.name.length)))) ((a.length : Int) + 1 + g.name.length) = (0, 0, 2) := by
          have := numOf_short (a ++ ((UInt8.ofNat g.name.length :: g.name) ++ (be8 g.token.toNat).take (j - (1 + g.name.length)))) (a.length + 1 + g.name.length) (by simp [be8_length]; omega)
          have e : ((a.length + 1 + g.name.length : Nat) : Int) = (a.length : Int) + 1 + g.name.length := by omega
          rw [e] at this
          exact this
        rw [List.length_cons]
        rw [getHeld_succ, h1]
        dsimp only
        rw [if_neg (by simp), h2]
        rfl
end Cm
end Go.Proofs.Ytklnopgnlnfbnaa
