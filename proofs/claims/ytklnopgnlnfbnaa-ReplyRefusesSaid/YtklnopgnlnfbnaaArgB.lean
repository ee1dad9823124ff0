/- Arguments that are replies and answers, opened. -/
import Derived.Test.YtklnopgnlnfbnaaRepN
import Derived.ProofKit
import Derived.OpenShut
import Derived.Deep.Strs
import Derived.Deep.Slices
import Derived.Lib.SmallJoins
set_option linter.unusedVariables false
set_option linter.unusedSimpArgs false
namespace Go.Proofs.Ytklnopgnlnfbnaa
open Go.RowKit Go.ChangeShapes Go.WideShapes Go.Deep
namespace Cm

theorem list_of {P : Nat → GrantV → Prop} : ∀ n, (∀ i, i < n → ∃ g, P i g) → ∃ l : List GrantV, l.length = n ∧ ∀ i (h : i < l.length), P i l[i]
  | 0, _ => ⟨[], rfl, fun i h => absurd h (Nat.not_lt_zero _)⟩
  | n + 1, h => by
    obtain ⟨l, hl, hp⟩ := list_of n (fun i hi => h i (by omega))
    obtain ⟨g, hg⟩ := h n (by omega)
    refine ⟨l ++ [g], by simp [hl], fun i hi => ?_⟩
    rw [List.length_append, List.length_singleton, hl] at hi
    by_cases q : i < n
    · rw [List.getElem_append_left (by omega)]
      exact hp i (by omega)
    · obtain rfl : i = n := by omega
      rw [List.getElem_append_right (by omega)]
      simpa [hl] using hg

section
variable {H : Type} {enc : TypeId × Value → H} {W : World}
theorem grants_of {fuel : Nat} {cs : List Value} {x : DataW H × List MemPlace} (h : DataW.trod enc Try.prog W 0 (fun _ => true) true fuel 23 cs = some x) : ∃ v l, cs = [v] ∧ RdH W v l := by
  rcases open_slice Try.underlying23 h with ⟨h0, _⟩ | ⟨ad, len, cap, m, n, D, Pl, h0, _, hl, hm, hmm, _, hi⟩
  · exact ⟨_, [], h0, RdH.nil W⟩
  · have hce : Try.prog.cellsOf 49 = 2 := by kernel_rfl
    have hm' : m = cap := by rw [hmm]; rfl
    subst hm'
    clear hmm
    have key : ∀ i, i < len → ∃ g : GrantV, W.cell? (ad.add (i * 2)) = some (.string (bstr g.name)) ∧ W.cell? (ad.add (i * 2 + 1)) = some (.int .i64 g.token) := by
      intro i hil
      obtain ⟨cs', hc, ht⟩ := hi i (by omega)
      rw [hce] at hc
      obtain ⟨y0, y1, n', _, hlen, t0, t1⟩ := trod_struct2 Try.underlying49 ht
      obtain ⟨_, hcl, hat⟩ := World.cells?_some hc
      match cs', hcl with
      | [c0, c1], _ =>
        have a0 := hat 0 (by omega)
        have a1 := hat 1 (by omega)
        rw [Go.Deep.add_add] at a0 a1
        obtain ⟨d, e0, _⟩ := DataW.trod_string Try.underlying9 t0
        obtain ⟨q, e1, _⟩ := DataW.trod_int Try.underlying3 t1
        have e0' : c0 = .string d := by injection e0
        have e1' : c1 = .int .i64 q := by injection e1
        refine ⟨⟨d.data.toList, q⟩, ?_, ?_⟩
        · rw [bstr_self, ← e0']; exact a0
        · rw [← e1']; exact a1
    obtain ⟨l, hll, hp⟩ := list_of len key
    refine ⟨_, l, h0, some ad, m, by rw [hll], by omega, hm, (fun q => by cases q), fun x hx hne => ?_⟩
    cases hx
    obtain ⟨b, o, spot⟩ := ad
    have hpos : 0 < l.length := List.length_pos_iff.2 hne
    obtain ⟨hc, _⟩ := hp 0 hpos
    have hspot : spot = none := by simpa [Addr.add] using World.cell?_spot hc
    subst hspot
    refine ⟨rfl, fun i hil => ?_⟩
    have hadd : ∀ j, (⟨b, o, none⟩ : Addr).add j = ⟨b, o + j, none⟩ := fun j => by unfold Addr.add; split <;> simp_all
    have := hp i hil
    rw [hadd, hadd] at this
    exact this

theorem rep_cells {fuel : Nat} {cs : List Value} {x : DataW H × List MemPlace} (h : DataW.trod enc Try.prog W 0 (fun _ => true) true fuel 25 cs = some x) :
    ∃ (r : ReplyV) (v : Value), cs = [.int .i64 r.code, .int .i64 r.session, .int .i64 r.ahead, v] ∧ RdH W v r.held := by
  have hce : Try.prog.cellsOf 25 = 4 := by kernel_rfl
  have hcg : Try.prog.cellsOf 23 = 1 := by kernel_rfl
  obtain ⟨y0, y1, y2, y3, n', _, hlen, t0, t1, t2, t3⟩ := Go.Joins.trod_struct4 Try.underlying25 h
  rw [hce] at hlen
  match cs, hlen with
  | [c0, c1, c2, c3], _ =>
    obtain ⟨d, e0, _⟩ := DataW.trod_int Try.underlying22 t0
    obtain ⟨m, e1, _⟩ := DataW.trod_int Try.underlying3 t1
    obtain ⟨q, e2, _⟩ := DataW.trod_int Try.underlying3 t2
    obtain ⟨v, l, e3, hl⟩ := grants_of t3
    rw [hcg] at e3
    have e0' : c0 = .int .i64 d := by injection e0
    have e1' : c1 = .int .i64 m := by injection e1
    have e2' : c2 = .int .i64 q := by injection e2
    have e3' : c3 = v := by injection e3
    exact ⟨⟨d, m, q, l⟩, v, by rw [e0', e1', e2', e3'], hl⟩

/-- A reply with its value's slice. -/
def repA (a : ReplyV × Value) : Value := repVal a.1 a.2
def repOk (w : World) (a : ReplyV × Value) : Prop := RdH w a.2 a.1.held

theorem open_rep {r : Reach} {b0 : Nat} {v : Value} {d : DataW H} {p : List MemPlace} (hv : Value.okWide Try.prog W r b0 25 v) (h : DataW.Trod enc Try.prog W 0 (fun _ => true) true 25 v d p) : ∃ a : ReplyV × Value, v = repA a ∧ repOk W a := by
  obtain ⟨cs, rfl, hs⟩ := okWide_struct Try.underlying25 hv
  obtain ⟨m, hm⟩ := h
  obtain ⟨c, u, hc, hu⟩ := rep_cells hm
  exact ⟨(c, u), by unfold repA repVal; congr 1; apply Array.ext'; simpa [Value.cells] using hc, hu⟩

def ansA (a : AnsV × Value) : Value := ansVal a.1 a.2
def ansOk (w : World) (a : AnsV × Value) : Prop := RdH w a.2 a.1.rep.held

theorem ans_cells {fuel : Nat} {cs : List Value} {x : DataW H × List MemPlace} (h : DataW.trod enc Try.prog W 0 (fun _ => true) true fuel 37 cs = some x) :
    ∃ (r : AnsV) (v : Value), cs = [.int .i64 r.client, .int .i64 r.seq, .int .i64 r.rep.code, .int .i64 r.rep.session, .int .i64 r.rep.ahead, v] ∧ RdH W v r.rep.held := by
  have hce : Try.prog.cellsOf 37 = 6 := by kernel_rfl
  have hcc : Try.prog.cellsOf 25 = 4 := by kernel_rfl
  obtain ⟨y0, y1, y2, n', _, hlen, t0, t1, t2⟩ := trod_struct3 Try.underlying37 h
  rw [hce] at hlen
  match cs, hlen with
  | [c0, c1, c2, c3, c4, c5], _ =>
    obtain ⟨d, e0, _⟩ := DataW.trod_int Try.underlying3 t0
    obtain ⟨m, e1, _⟩ := DataW.trod_int Try.underlying3 t1
    obtain ⟨c, v, hc, hv⟩ := rep_cells t2
    rw [hcc] at hc
    have e0' : c0 = .int .i64 d := by injection e0
    have e1' : c1 = .int .i64 m := by injection e1
    have e2' : [c2, c3, c4, c5] = [.int .i64 c.code, .int .i64 c.session, .int .i64 c.ahead, v] := hc
    exact ⟨⟨d, m, c⟩, v, by rw [e0', e1', e2'], hv⟩

theorem open_ans {r : Reach} {b0 : Nat} {v : Value} {d : DataW H} {p : List MemPlace} (hv : Value.okWide Try.prog W r b0 37 v) (h : DataW.Trod enc Try.prog W 0 (fun _ => true) true 37 v d p) : ∃ a : AnsV × Value, v = ansA a ∧ ansOk W a := by
  obtain ⟨cs, rfl, hs⟩ := okWide_struct Try.underlying37 hv
  obtain ⟨m, hm⟩ := h
  obtain ⟨c, u, hc, hu⟩ := ans_cells hm
  exact ⟨(c, u), by unfold ansA ansVal; congr 1; apply Array.ext'; simpa [Value.cells] using hc, hu⟩
end
end Cm
end Go.Proofs.Ytklnopgnlnfbnaa
