/- Texts laid together by program: InsK, InsM, ArgB, ArgC, ArgM, MemX. -/
import Derived.Test.YtfkpgndbohoogaaP5
import Derived.Laws.CopyOwn
import Derived.Lib.Overlaps
import Derived.Lib.AppendZerosOnto
import Derived.Shelf.RegionOpenPlain
import Derived.Test.YtfkpgndbohoogaaP4
import Derived.Test.YtfkpgndbohoogaaP6
import Derived.ProofKit
import Derived.OpenShut
import Derived.Deep.Strs
import Derived.Deep.Slices
import Derived.Lib.SmallJoins
import Derived.Test.YtfkpgndbohoogaaP3
/- Contract: slices.Insert of one lock. The laws of a copy of elements of more than one cell. -/
set_option linter.unusedVariables false
set_option linter.unusedSimpArgs false
namespace Go.Proofs.Ytfkpgndbohoogaa
open Go.RowKit Go.Shelf

section
variable {P : Program}
theorem run_copy_rowN (w : World) (dT sT ty elem : TypeId) (g o dLen dCap : Nat) (a : Addr) (sLen sCap sz : Nat) (cur : Array Value) (t : TypeId) (cs : List Value)
    (hu : P.underlying dT = some (.slice elem)) (hs : (P.info? elem).map (·.size) = some sz)
    (hg : w.heap[g]? = some (.cells cur t (0, 0))) (hn : cs.length = Nat.min sLen dLen * sz)
    (hsrc : ∀ j v, cs[j]? = some v → w.cell? (a.add j) = some v) (hfit : o + cs.length ≤ cur.size) (h1 : ∀ v ∈ cs, v.oneCell' = true) :
    (Builtin.copy_ #[dT, sT] ty #[.slice (some ⟨g, o, none⟩) dLen dCap, .slice (some a) sLen sCap]).run P w =
      .ok (goInt (Nat.min sLen dLen)) (w.setRow g (cur.toList.take o ++ cs ++ cur.toList.drop (o + cs.length)).toArray) := by
  have hl := run_loadCells_list (P := P) w a cs hsrc
  have hst := run_storeCells_at P g o t cs 0 cur w hg (by simpa using hfit) h1
  cases hq : P.info? elem with
  | none => simp [hq] at hs
  | some i =>
    have hi : i.size = sz := by simpa [hq] using hs
    simp [Builtin.copy_, run_underlying hu, Builtin.lenOf, Builtin.firstCells, sizeOf, typeInfo, hq, hi, ← hn, hl, hst]

theorem grown_setRow (w : World) (g : Nat) (cs : Array Value) : w.grownBy (w.setRow g cs) (some g) := ⟨rfl, rfl, rfl, by simp [World.setRow], fun k hk hne => setRow_other w g k cs (fun e => hne (by rw [e]))⟩

theorem wpList_copy_N {w : World} {ops : Array Oper} {rest : List Oper} {o : Oper} {a : Act} {Q : Exit → Act → World → Prop} (hgd : o.guard = none) (d s : Operand) (dT sT : TypeId)
    (ho : o.op = .call { callee := .builtin .copy, args := #[d, s], argTypes := #[dT, sT] }) (elem : TypeId) (sz : Nat) (hu : P.underlying dT = some (.slice elem)) (hsz : (P.info? elem).map (·.size) = some sz)
    (g off dLen dCap : Nat) (ad : Addr) (sLen sCap : Nat) (hd : a.eval d = .slice (some ⟨g, off, none⟩) dLen dCap) (hs : a.eval s = .slice (some ad) sLen sCap)
    (cur : List Value) (t : TypeId) (hg : w.heap[g]? = some (.cells cur.toArray t (0, 0))) (cs : List Value) (hn : cs.length = Nat.min sLen dLen * sz)
    (hsrc : ∀ j v, cs[j]? = some v → w.cell? (ad.add j) = some v) (hfit : off + cs.length ≤ cur.length) (h1 : ∀ v ∈ cs, v.oneCell' = true)
    (h : ∀ w', Hid (w'.heap[g]? = some (.cells (splice cur off cs).toArray t (0, 0))) → Hid (w.grownBy w' (some g)) → ∀ r, wpList P ops Q rest (a.put o.dst r) w') : wpList P ops Q (o :: rest) a w := by
  refine wpList_plain hgd fun K hK => ?_
  have hrun := run_copy_rowN (P := P) w dT sT o.type elem g off dLen dCap ad sLen sCap sz cur.toArray t cs hu hsz hg hn hsrc (by simpa using hfit) h1
  unfold Oper.wp
  simp [execOp, ho, resolve, invoke, builtin, hd, hs, hrun, Result.andThen]
  exact hK _ _ (h _ (Lib.hid (by simpa [splice] using setRow_heap w g _ _ t _ hg)) (Lib.hid (grown_setRow _ _ _)) _)

theorem step_copy_N {ops : Array Oper} {o : Oper} {a : Act} {w : World} {K : Act → World → Prop} {Q : Exit → Act → World → Prop} {E : Prop} (hgd : o.guard = none) (d s : Operand) (dT sT : TypeId)
    (ho : o.op = .call { callee := .builtin .copy, args := #[d, s], argTypes := #[dT, sT] }) (elem : TypeId) (sz : Nat) (hu : P.underlying dT = some (.slice elem)) (hsz : (P.info? elem).map (·.size) = some sz)
    (g off dLen dCap : Nat) (ad : Addr) (sLen sCap : Nat) (hd : a.eval d = .slice (some ⟨g, off, none⟩) dLen dCap) (hs : a.eval s = .slice (some ad) sLen sCap)
    (cur : List Value) (t : TypeId) (hg : w.heap[g]? = some (.cells cur.toArray t (0, 0))) (cs : List Value) (hn : cs.length = Nat.min sLen dLen * sz)
    (hsrc : ∀ j v, cs[j]? = some v → w.cell? (ad.add j) = some v) (hfit : off + cs.length ≤ cur.length) (h1 : ∀ v ∈ cs, v.oneCell' = true)
    (h : ∀ w', Hid (w'.heap[g]? = some (.cells (splice cur off cs).toArray t (0, 0))) → Hid (w.grownBy w' (some g)) → ∀ r, K (a.put o.dst r) w') :
    if Region.wanted o (yielded ops a.tmps) = true then Oper.wp P o a w K Q else E := by
  have hw : Region.wanted o (yielded ops a.tmps) = true := by simp [Region.wanted, hgd]
  rw [if_pos hw]
  have hrun := run_copy_rowN (P := P) w dT sT o.type elem g off dLen dCap ad sLen sCap sz cur.toArray t cs hu hsz hg hn hsrc (by simpa using hfit) h1
  unfold Oper.wp
  simp [execOp, ho, resolve, invoke, builtin, hd, hs, hrun, Result.andThen]
  exact h _ (Lib.hid (by simpa [splice] using setRow_heap w g _ _ t _ hg)) (Lib.hid (grown_setRow _ _ _)) _
end

theorem splice_in {α : Type} (A D E Y : List α) (h : Y.length ≤ E.length) : splice (splice (A ++ (D ++ E)) (A.length + Y.length) D) A.length Y = A ++ (Y ++ (D ++ E.drop Y.length)) := by
  have e1 : (A ++ (D ++ E)).drop (A.length + Y.length + D.length) = E.drop Y.length := by
    rw [List.drop_append, List.drop_append]
    simp only [List.drop_eq_nil_of_le (show A.length ≤ A.length + Y.length + D.length by omega), List.drop_eq_nil_of_le (show D.length ≤ A.length + Y.length + D.length - A.length by omega), List.nil_append]
    congr 1
    omega
  have hl : ((A ++ (D ++ E)).take (A.length + Y.length)).length = A.length + Y.length := by rw [List.length_take]; simp; omega
  unfold splice
  rw [e1]
  generalize hX : (A ++ (D ++ E)).take (A.length + Y.length) = X at hl
  have e2 : X.take A.length = A := by rw [← hX, List.take_take, Nat.min_eq_left (by omega), List.take_left']; rfl
  rw [List.take_append_of_le_length (by omega), e2, ← hl, List.drop_left']
  rfl

theorem splice_new {α : Type} (A Z Y D : List α) : splice (splice (A ++ Z) A.length Y) (A.length + Y.length) D = A ++ (Y ++ (D ++ Z.drop (Y.length + D.length))) := by
  have e1 : splice (A ++ Z) A.length Y = (A ++ Y) ++ Z.drop Y.length := by
    unfold splice
    rw [List.take_left', List.drop_append]
    · simp
    · rfl
  rw [e1]
  unfold splice
  rw [show A.length + Y.length = (A ++ Y).length by simp, List.take_left', List.drop_append, List.drop_drop]
  · simp
  · rfl
namespace Cm
theorem setRow_below {base : Nat} {w w' : World} {g : Nat} (hg : w.grownBy w' (some g)) (h : w.heap.size ≤ g) : Below w.heap.size w w' :=
  ⟨hg.os, hg.tape, hg.output, hg.size, fun k hk => hg.block k hk (fun e => by cases e; omega)⟩

theorem grown_below {w w' : World} (h : Below w.heap.size w w') (row : Option Nat) : w.grownBy w' row := ⟨h.os, h.tape, h.output, h.size, fun k hk _ => h.block k hk⟩

theorem grown_trans {w w1 w2 : World} {row : Option Nat} (h : w.grownBy w1 row) (h2 : w1.grownBy w2 row) : w.grownBy w2 row :=
  ⟨h2.os.trans h.os, h2.tape.trans h.tape, h2.output.trans h.output, Nat.le_trans h.size h2.size, fun k hk hne => (h2.block k (Nat.lt_of_lt_of_le hk h.size) hne).trans (h.block k hk hne)⟩

theorem add_at (g j : Nat) : (⟨g, 0, none⟩ : Addr).add j = ⟨g, j, none⟩ := by unfold Addr.add; split <;> simp_all

theorem shape_at {w : World} {g : Nat} {cs : Array Value} {t : TypeId} (h : w.heap[g]? = some (.cells cs t (0, 0))) : w.shape? g = some (t, cs.size) := by
  simp [World.shape?, h]
theorem frozen_at {w : World} {g o : Nat} {cs : Array Value} {t : TypeId} (h : w.heap[g]? = some (.cells cs t (0, 0))) : w.frozen? ⟨g, o, none⟩ = false := by
  simp [World.frozen?, h]

end Cm
end Go.Proofs.Ytfkpgndbohoogaa

/- Contract: slices.Insert of one memo (made from XInsL by tools/gen_insm.py). -/
set_option linter.unusedVariables false
set_option linter.unusedSimpArgs false
namespace Go.Proofs.Ytfkpgndbohoogaa
open Go.RowKit Go.Shelf
namespace Cm

/-- A row grown by one, at this place. -/
def InsertedM (base : Nat) (m : Value) (M : List MemC) (k : Nat) (y : MemC) (w : World) (e : Ending) (w' : World) : Prop :=
  ∃ v, e = .returned v ∧ w'.ownsRow base 35 6 v (M.length + 1) (flatX cellsM (M.take k ++ y :: M.drop k)) ∧ w.grownBy w' m.ownBlock

section
variable (base : Nat) (M : List MemC) (k : Nat) (y : MemC) (b : Nat) (w : World)

theorem sizeM : (Try.prog.info? 35).map (·.size) = some 6 := by
  obtain ⟨i1, hi', _, hz1', _⟩ := info_parts infoM
  rw [hi']
  simp [hz1']

theorem src_oneM (hy : w.heap[b]? = some (.cells #[.int .i64 y.m.client, .int .i64 y.m.seq, .int .i64 y.m.rep.code, .int .i64 y.m.rep.session, .int .i64 y.m.rep.ahead, y.hv] 35)) : RdX 6 cellsM w (.slice (some ⟨b, 0, none⟩) 1 1) [y] := RdX.one hy rfl

set_option maxHeartbeats 1000000 in
theorem InsertM_end (m : Value) (hown : w.ownsRow base 35 6 m M.length (flatX cellsM M)) (h5 : M.length ≤ 1000) (hb : base ≤ w.heap.size) (hy : w.heap[b]? = some (.cells #[.int .i64 y.m.client, .int .i64 y.m.seq, .int .i64 y.m.rep.code, .int .i64 y.m.rep.session, .int .i64 y.m.rep.ahead, y.hv] 35)) (hk : k = M.length) :
    Calls Try.prog 24 #[m, .int .i64 (k : Int), .slice (some ⟨b, 0, none⟩) 1 1] w (InsertedM base m M k y w) := by
  subst hk
  have HR := Lib.hid (src_oneM y b w hy)
  obtain ⟨a, c, rfl⟩ := Rw.own_form hown
  have HO := Lib.hid hown
  have hc : M.length ≤ c := by
    rcases hown.2 with ⟨q, _⟩ | ⟨g, cap, cur, q, _, _, q2, _⟩
    · injection q with _ q1 q2; omega
    · injection q with _ q1 q3; omega
  obtain ⟨i1, hi', hz0', hz1', hz2'⟩ := info_parts infoM
  have HT : Hid (flatX cellsM (M.take M.length ++ y :: M.drop M.length) = flatX cellsM M ++ flatX cellsM [y]) := Lib.hid (by rw [List.take_length, List.drop_length, flatX_append])
  clear hown hy
  obtain ⟨N, hN⟩ : ∃ N, M.length = N := ⟨_, rfl⟩
  unfold InsertedM
  rw [hN] at HT HO h5 hc ⊢
  clear hN
  generalize hF : flatX cellsM (M.take N ++ y :: M.drop N) = F at HT ⊢
  clear hF
  generalize flatX cellsM M = FM at HT HO
  have g1 : (0 : Int) ≤ (N : Int) := by omega
  have g2 : (N : Int) ≤ (c : Int) := by omega
  have g3 : decide ((N : Int) < 0) = false := by simp
  go_enter Try.func24, Try.ntmps24
  go_wp2_with (at_builtin; refine wpList_append_rdx cellsM_length (by omega) cellsM_one rfl (.tmp 23) (.tmp 24) 24 rfl base 35 i1 _ 64 Try.underlying24 hi' hz0' hz1' hz2' rfl (.slice a N c) N FM rfl HO.out _ [y] rfl HR.out (by unfold maxLen; simp; omega) (by simp; omega) hb ?_; intro v1 w2 hown2 hgrow2)
  all_goals
    go_ret
    exact ⟨v1, rfl, by rw [HT.out]; exact hown2, by cases a <;> exact hgrow2⟩

theorem row_openM {v : Value} (h : w.ownsRow base 35 6 v M.length (flatX cellsM M)) (h0 : 0 < M.length) : ∃ g c cur, v = .slice (some ⟨g, 0, none⟩) M.length c ∧ base ≤ g ∧ w.heap[g]? = some (.cells cur 35 (0, 0)) ∧ M.length ≤ c ∧ c ≤ maxLen ∧ cur.size = c * 6 ∧ cur.toList.take (M.length * 6) = flatX cellsM M := by
  rcases h.2 with ⟨_, q⟩ | q
  · omega
  · exact q

set_option maxHeartbeats 2000000 in
/-- In the middle, no room: a new row. -/
theorem InsertM_grow (m : Value) (hown : w.ownsRow base 35 6 m M.length (flatX cellsM M)) (h5 : M.length ≤ 1000) (hb : base ≤ w.heap.size) (hy : w.heap[b]? = some (.cells #[.int .i64 y.m.client, .int .i64 y.m.seq, .int .i64 y.m.rep.code, .int .i64 y.m.rep.session, .int .i64 y.m.rep.ahead, y.hv] 35)) (hk : k < M.length)
    (g c : Nat) (hm : m = .slice (some ⟨g, 0, none⟩) M.length c) (hroom : c < M.length + 1) :
    Calls Try.prog 24 #[m, .int .i64 (k : Int), .slice (some ⟨b, 0, none⟩) 1 1] w (InsertedM base m M k y w) := by
  obtain ⟨g', c', cur, hm', hbg, hcur, hc1, hc2, hc3, hc4⟩ := row_openM base M w hown (by omega)
  rw [hm] at hm'
  injection hm' with e1 e2 e3
  cases e1
  subst e3
  subst hm
  obtain rfl : c = M.length := by omega
  unfold maxLen at hc2
  have HR := Lib.hid (RdX.own cellsM_length hown)
  have HY := Lib.hid (src_oneM y b w hy)
  have hgw : g < w.heap.size := (Rw.own_lt hown g rfl).2
  have HM : Hid (flatX cellsM (M.take k ++ y :: M.drop k) = flatX cellsM (M.take k) ++ (flatX cellsM [y] ++ flatX cellsM (M.drop k))) := Lib.hid (by
    rw [flatX_append, flatX_cons, ← flatX_cons, show y :: M.drop k = [y] ++ M.drop k from rfl, flatX_append])
  have hA : (flatX cellsM (M.take k)).length = k * 6 := by rw [flatX_length cellsM_length, List.length_take, Nat.min_eq_left (by omega)]
  have hD : (flatX cellsM (M.drop k)).length = (M.length - k) * 6 := by rw [flatX_length cellsM_length, List.length_drop]
  obtain ⟨i1, hi', hz0', hz1', hz2'⟩ := info_parts infoM
  have hold : (Builtin.firstCells i1.size k (.slice (some ⟨g, 0, none⟩) k M.length)).run Try.prog w.drew = .ok (flatX cellsM (M.take k)).toArray w.drew := by
    rw [hz1']
    exact run_firstCells_some (P := Try.prog) (w := w.drew) 6 k ⟨g, 0, none⟩ k M.length _ hA (RdX.news cellsM_length (by omega) ((HR.out.take k (by omega)).later (Below.refl _ _).drew))
  have hrz : ∀ ty, (Builtin.append_ #[24, 3] ty #[.slice (some ⟨g, 0, none⟩) k M.length, .int .i64 ((M.length + 1 - k : Nat) : Int)]).run Try.prog w = _ := fun ty =>
    Lib.run_append_grow_zeros (P := Try.prog) w 24 3 ty 35 i1 _ .i64 .i64 Try.underlying24 Try.underlying3 hi' hz0' (some ⟨g, 0, none⟩) k M.length _ hold (M.length + 1 - k) (by omega) (by omega) (by omega) (by omega) (by rw [hz2']; omega) (by rw [hz2', show k + (M.length + 1 - k) = M.length + 1 by omega]; exact growslice_fits (by omega) (by omega))
  rw [show k + (M.length + 1 - k) = M.length + 1 by omega] at hrz
  have hge := grownCap_ge w (M.length + 1) M.length 35
  have hle := grownCap_le_maxLen w (M.length + 1) M.length 35 (by unfold maxLen; omega)
  generalize grownCap w (M.length + 1) M.length 35 = G at hrz hge hle
  have hle' := hle
  unfold maxLen at hle'
  have hbw : b < w.heap.size := (Array.getElem?_eq_some_iff.1 hy).1
  obtain ⟨Z, hZ⟩ : ∃ Z : List Value, Z = (Builtin.zeroCells (Value.agg #[.int .i64 0, .int .i64 0, .int .i64 0, .int .i64 0, .int .i64 0, .slice none 0 0]).cells (M.length + 1 - k)).toList ++ (Builtin.zeroCells (Value.agg #[.int .i64 0, .int .i64 0, .int .i64 0, .int .i64 0, .int .i64 0, .slice none 0 0]).cells (G - (M.length + 1))).toList := ⟨_, rfl⟩
  have hZl : Z.length = (G - k) * 6 := by
    rw [hZ]
    simp [Builtin.zeroCells, Value.cells]
    omega
  have hZe : (flatX cellsM (M.take k)).toArray ++ Builtin.zeroCells (Value.agg #[.int .i64 0, .int .i64 0, .int .i64 0, .int .i64 0, .int .i64 0, .slice none 0 0]).cells (M.length + 1 - k) ++ Builtin.zeroCells (Value.agg #[.int .i64 0, .int .i64 0, .int .i64 0, .int .i64 0, .int .i64 0, .slice none 0 0]).cells (G - (M.length + 1)) = (flatX cellsM (M.take k) ++ Z).toArray := by
    rw [hZ]
    apply Array.ext'
    simp
  rw [hZe] at hrz
  clear hZe hZ hold
  have HDR := Lib.hid (HR.out.drop (by omega) k (by omega))
  rw [if_neg (by omega), Option.map_some, show (⟨g, 0, none⟩ : Addr).add (k * 6) = ⟨g, k * 6, none⟩ by unfold Addr.add; split <;> simp_all] at HDR
  have HYN := Lib.hid (RdX.news cellsM_length (by omega) HY.out)
  obtain ⟨W1, hW1⟩ : ∃ W1, W1 = w.drew.alloc (.cells (flatX cellsM (M.take k) ++ Z).toArray 35) := ⟨_, rfl⟩
  have HG1 : Hid (W1.heap[w.heap.size]? = some (.cells (flatX cellsM (M.take k) ++ Z).toArray 35 (0, 0))) := Lib.hid (by rw [hW1]; exact heap_alloc_new w.drew _)
  have HB1 : Hid (Below w.heap.size w W1) := Lib.hid (by rw [hW1]; exact (Below.refl _ _).drew.alloc (Nat.le_refl _) _)
  rw [← hW1] at hrz
  have HY1 := Lib.hid (RdX.news cellsM_length (by omega) (HY.out.later HB1.out))
  have HDN : Hid (∀ w', Below w.heap.size w w' → ∀ j u, (flatX cellsM (M.drop k))[j]? = some u → w'.cell? ((⟨g, k * 6, none⟩ : Addr).add j) = some u) := Lib.hid (fun w' hbb => RdX.news cellsM_length (by omega) (HDR.out.later hbb))
  have hlY : (flatX cellsM [y]).length = 6 := by rw [flatX_length cellsM_length]; rfl
  have HF := Lib.hid (splice_new (flatX cellsM (M.take k)) Z (flatX cellsM [y]) (flatX cellsM (M.drop k)))
  rw [hA, hlY] at HF
  have H1Y := Lib.hid (flatX_one cellsM_one [y])
  have H1D := Lib.hid (flatX_one cellsM_one (M.drop k))
  have hpl : (flatX cellsM (M.take k) ++ Z).length = G * 6 := by rw [List.length_append, hA, hZl]; omega
  have hsl : (splice (flatX cellsM (M.take k) ++ Z) (k * 6) (flatX cellsM [y])).length = G * 6 := by rw [length_splice _ _ _ (by rw [hpl, hlY]; omega), hpl]
  have HRZ := Lib.hid hrz
  clear hrz hW1 hcur hc3 hc4 hc1 hy hown
  unfold InsertedM
  rw [HM.out]
  generalize flatX cellsM (M.take k) = A at *
  generalize flatX cellsM (M.drop k) = D at *
  generalize flatX cellsM [y] = Y at *
  generalize M.length = N at *
  have hw1 : IntKind.i64.wrap ((k : Int) + 1) = (k : Int) + 1 := by rw [IntKind.wrap_i64]; omega
  have hkk : ((N + 1 - k : Nat) : Int) = (N : Int) + 1 - (k : Int) := by omega
  rw [hkk] at HRZ
  have z1 : ((k : Int) == (N : Int)) = false := by simp; omega
  have z2 : decide ((N : Int) < (N : Int) + 1) = true := decide_eq_true (by omega)
  have g1 : (0 : Int) ≤ (k : Int) := by omega
  have g2 : (k : Int) ≤ (N : Int) := by omega
  have g3 : decide ((k : Int) < 0) = false := by simp
  have g4 : (0 : Int) ≤ (k : Int) + 1 := by omega
  have g5 : ((k : Int) + 1).toNat = k + 1 := by omega
  have n1 : ¬ (N = k) := by omega
  have n2 : ¬ (G = k) := by omega
  have n3 : ¬ (G = k + 1) := by omega
  clear hkk
  go_enter Try.func24, Try.ntmps24
  go_wp2_with (first
    | (at_builtin; refine Lib.wpList_append_run _ rfl _ _ _ _ rfl _ _ rfl rfl _ _ (HRZ.out _) ?_)
    | (refine wpList_copy_N rfl (.tmp 43) (.tmp 44) 24 24 rfl 35 6 Try.underlying24 sizeM w.heap.size (k * 6) _ _ ⟨b, 0, none⟩ 1 1 rfl rfl (A ++ Z) 35 HG1.out Y (by rw [hlY]; simp only [Nat.min_def]; split <;> omega) HY1.out (by rw [hlY, hpl]; omega) H1Y.out ?_; intro w2 HG2 HW2 r2))
  have mixed : Try.prog.follows Departure.mixedOrders = true := by kernel_rfl
  have HB2 : Hid (Below w.heap.size w w2) := Lib.hid (HB1.out.grown HW2.out HB1.out.size (fun q hq => by cases hq; exact Nat.le_refl _))
  go_region_law_o (refine step_copy_N rfl (.tmp 50) (.tmp 53) 24 24 rfl 35 6 Try.underlying24 sizeM w.heap.size ((k + 1) * 6) (N + 1 - (k + 1)) (G - (k + 1)) ⟨g, k * 6, none⟩ (N - k) (N - k) (by simp [Act.eval, Act.put]) (by simp [Act.eval, Act.put]) (splice (A ++ Z) (k * 6) Y) 35 HG2.out D (by rw [hD]; simp only [Nat.min_def]; split <;> omega) (HDN.out _ HB2.out.drew) (by rw [hsl, hD]; omega) H1D.out ?_; intro w3 HG3 HW3 r3)
  have HB3 : Hid (Below w.heap.size w w3) := Lib.hid (HB2.out.drew.grown HW3.out HB2.out.size (fun q hq => by cases hq; exact Nat.le_refl _))
  have hg3 := HG3.out
  rw [show (k + 1) * 6 = k * 6 + 6 by omega, HF.out] at hg3
  have HGG := Lib.hid hg3
  clear hg3 HG3 HG2 HG1 HRZ HF HDN HYN HY1 HB1 HB2 HW2 HW3
  go_wp2
  go_ret
  refine ⟨_, rfl, ⟨by simp [hA, hlY, hD]; omega, .inr ⟨w.heap.size, G, _, rfl, hb, HGG.out, hge, hle, ?_, ?_⟩⟩, grown_below HB3.out _⟩
  · simp [hA, hlY, hD, hZl]
    omega
  · have e : (N + 1) * 6 = (A ++ (Y ++ D)).length := by simp [hA, hlY, hD]; omega
    rw [e, show A ++ (Y ++ (D ++ Z.drop (6 + D.length))) = (A ++ (Y ++ D)) ++ Z.drop (6 + D.length) by simp]
    exact List.take_left' rfl

set_option maxHeartbeats 2000000 in
/-- In the middle, there is room: in place. -/
theorem InsertM_shift (m : Value) (hown : w.ownsRow base 35 6 m M.length (flatX cellsM M)) (h5 : M.length ≤ 1000) (hb : base ≤ w.heap.size) (hy : w.heap[b]? = some (.cells #[.int .i64 y.m.client, .int .i64 y.m.seq, .int .i64 y.m.rep.code, .int .i64 y.m.rep.session, .int .i64 y.m.rep.ahead, y.hv] 35)) (hk : k < M.length)
    (g c : Nat) (hm : m = .slice (some ⟨g, 0, none⟩) M.length c) (hroom : M.length + 1 ≤ c) (hne : b ≠ g) :
    Calls Try.prog 24 #[m, .int .i64 (k : Int), .slice (some ⟨b, 0, none⟩) 1 1] w (InsertedM base m M k y w) := by
  obtain ⟨g', c', cur, hm', hbg, hcur, hc1, hc2, hc3, hc4⟩ := row_openM base M w hown (by omega)
  rw [hm] at hm'
  injection hm' with e1 e2 e3
  cases e1
  subst e3
  subst hm
  have hmx := hc2
  unfold maxLen at hc2
  have hgw : g < w.heap.size := (Rw.own_lt hown g rfl).2
  have hbw : b < w.heap.size := (Array.getElem?_eq_some_iff.1 hy).1
  have HM : Hid (flatX cellsM (M.take k ++ y :: M.drop k) = flatX cellsM (M.take k) ++ (flatX cellsM [y] ++ flatX cellsM (M.drop k))) := Lib.hid (by
    rw [flatX_append, flatX_cons, ← flatX_cons, show y :: M.drop k = [y] ++ M.drop k from rfl, flatX_append])
  have hA : (flatX cellsM (M.take k)).length = k * 6 := by rw [flatX_length cellsM_length, List.length_take, Nat.min_eq_left (by omega)]
  have hD : (flatX cellsM (M.drop k)).length = (M.length - k) * 6 := by rw [flatX_length cellsM_length, List.length_drop]
  have hlY : (flatX cellsM [y]).length = 6 := by rw [flatX_length cellsM_length]; rfl
  obtain ⟨E, hE⟩ : ∃ E, E = cur.toList.drop (M.length * 6) := ⟨_, rfl⟩
  have hEl : E.length = (c - M.length) * 6 := by rw [hE, List.length_drop, Array.length_toList, hc3]; omega
  have hcE : cur.toList = flatX cellsM (M.take k) ++ (flatX cellsM (M.drop k) ++ E) := by
    rw [← List.append_assoc, ← flatX_append, List.take_append_drop, ← hc4, hE, List.take_append_drop]
  have hcA : cur = (flatX cellsM (M.take k) ++ (flatX cellsM (M.drop k) ++ E)).toArray := by rw [← hcE]
  have hov : ∀ lb cb, (callFunc 34 #[.slice (some ⟨b, 0, none⟩) 1 1, .slice (some ⟨g, (k + 1) * 6, none⟩) lb cb]).run Try.prog w = .ok (.value (.bool false)) w := fun lb cb => by
    obtain ⟨i1, hi', hz0', hz1', hz2'⟩ := info_parts infoM
    rw [run_callFunc_extern Try.func34 (by kernel_rfl) (by kernel_rfl) (by kernel_rfl) (e := Extern.SlicesOverlaps.overlaps #[24, 24] #[4]) (by kernel_rfl),
      Lib.run_overlaps_apart w 24 4 35 Try.underlying24 6 (fun w => by simp [sizeOf, typeInfo, hi', hz1']) ⟨b, 0, none⟩ ⟨g, (k + 1) * 6, none⟩ 1 1 lb cb hne 35 35 6 (c * 6) (shape_at hy) (by rw [← hc3]; exact shape_at hcur) (by omega) (frozen_at hy) (frozen_at hy)]
    rfl
  have HOV := Lib.hid hov
  rw [hcA] at hcur
  have HG0 := Lib.hid hcur
  have HR := Lib.hid (RdX.own cellsM_length hown)
  have HDR := Lib.hid (HR.out.drop (by omega) k (by omega))
  rw [if_neg (by omega), Option.map_some, show (⟨g, 0, none⟩ : Addr).add (k * 6) = ⟨g, k * 6, none⟩ from add_at g (k * 6)] at HDR
  have HDN := Lib.hid (RdX.news cellsM_length (by omega) (HDR.out.later (Below.refl _ w).drew))
  have HYN : Hid (∀ w' : World, w'.heap[b]? = w.heap[b]? → ∀ j u, (flatX cellsM [y])[j]? = some u → w'.cell? ((⟨b, 0, none⟩ : Addr).add j) = some u) := Lib.hid (fun w' hw' => RdX.news cellsM_length (by omega) (src_oneM y b w' (hw'.trans hy)))
  have HF := Lib.hid (splice_in (flatX cellsM (M.take k)) (flatX cellsM (M.drop k)) E (flatX cellsM [y]) (by rw [hlY]; omega))
  rw [hA, hlY] at HF
  have H1Y := Lib.hid (flatX_one cellsM_one [y])
  have H1D := Lib.hid (flatX_one cellsM_one (M.drop k))
  have hpl : (flatX cellsM (M.take k) ++ (flatX cellsM (M.drop k) ++ E)).length = c * 6 := by rw [List.length_append, List.length_append, hA, hD, hEl]; omega
  have hsl : (splice (flatX cellsM (M.take k) ++ (flatX cellsM (M.drop k) ++ E)) ((k + 1) * 6) (flatX cellsM (M.drop k))).length = c * 6 := by rw [length_splice _ _ _ (by rw [hpl, hD]; omega), hpl]
  clear hov hcA hcE hE hcur hc3 hc4 hc1 hy hown HR HDR
  unfold InsertedM
  rw [HM.out]
  generalize flatX cellsM (M.take k) = A at *
  generalize flatX cellsM (M.drop k) = D at *
  generalize flatX cellsM [y] = Y at *
  generalize M.length = N at *
  have hw1 : IntKind.i64.wrap ((k : Int) + 1) = (k : Int) + 1 := by rw [IntKind.wrap_i64]; omega
  have z1 : ((k : Int) == (N : Int)) = false := by simp; omega
  have z2 : decide ((c : Int) < (N : Int) + 1) = false := decide_eq_false (by omega)
  have g1 : (0 : Int) ≤ (k : Int) := by omega
  have g2 : (k : Int) ≤ (N : Int) := by omega
  have g3 : decide ((k : Int) < 0) = false := by simp
  have g4 : (0 : Int) ≤ (k : Int) + 1 := by omega
  have g5 : ((k : Int) + 1).toNat = k + 1 := by omega
  have g6 : (N : Int) + 1 ≤ (c : Int) := by omega
  have g7 : (k : Int) ≤ (N : Int) + 1 := by omega
  have g8 : (k : Int) + 1 ≤ (N : Int) + 1 := by omega
  have g9 : ((N : Int) + 1).toNat = N + 1 := by omega
  have g10 : (0 : Int) ≤ (N : Int) + 1 := by omega
  have n2 : ¬ (c = k) := by omega
  have n3 : ¬ (c = k + 1) := by omega
  have mixed : Try.prog.follows Departure.mixedOrders = true := by kernel_rfl
  go_enter Try.func24, Try.ntmps24
  go_wp2_with (simp only [HOV.out])
  go_region_law_o (refine step_copy_N rfl (.tmp 73) (.tmp 76) 24 24 rfl 35 6 Try.underlying24 sizeM g ((k + 1) * 6) (N + 1 - (k + 1)) (c - (k + 1)) ⟨g, k * 6, none⟩ (N + 1 - k) (c - k) (by simp [Act.eval, Act.put]) (by simp [Act.eval, Act.put]) (A ++ (D ++ E)) 35 HG0.out D (by rw [hD]; simp only [Nat.min_def]; split <;> omega) HDN.out (by rw [hpl, hD]; omega) H1D.out ?_; intro w3 HG3 HW3 r3)
  have HY3 := Lib.hid (HYN.out w3 (HW3.out.block b hbw (fun e => by cases e; exact hne rfl)))
  go_wp2_with (refine wpList_copy_N rfl (.tmp 80) (.tmp 81) 24 24 rfl 35 6 Try.underlying24 sizeM g (k * 6) (N + 1 - k) (c - k) ⟨b, 0, none⟩ 1 1 rfl rfl (splice (A ++ (D ++ E)) ((k + 1) * 6) D) 35 HG3.out Y (by rw [hlY]; simp only [Nat.min_def]; split <;> omega) HY3.out (by rw [hlY, hsl]; omega) H1Y.out ?_; intro w4 HG4 HW4 r4)
  go_ret
  have hg4 := HG4.out
  rw [show (k + 1) * 6 = k * 6 + 6 by omega, HF.out] at hg4
  refine ⟨_, rfl, ⟨by simp [hA, hlY, hD]; omega, .inr ⟨g, c, _, rfl, hbg, hg4, hroom, hmx, ?_, ?_⟩⟩, grown_trans (show w.grownBy w3 (some g) from ⟨HW3.out.os, HW3.out.tape, HW3.out.output, HW3.out.size, HW3.out.block⟩) HW4.out⟩
  · simp [hA, hlY, hD, hEl]
    omega
  · have e : (N + 1) * 6 = (A ++ (Y ++ D)).length := by simp [hA, hlY, hD]; omega
    rw [e, show A ++ (Y ++ (D ++ E.drop 6)) = (A ++ (Y ++ D)) ++ E.drop 6 by simp]
    exact List.take_left' rfl

/-- One memo laid in its place. -/
theorem InsertM_any (m : Value) (hown : w.ownsRow base 35 6 m M.length (flatX cellsM M)) (h5 : M.length ≤ 1000) (hb : base ≤ w.heap.size) (hy : w.heap[b]? = some (.cells #[.int .i64 y.m.client, .int .i64 y.m.seq, .int .i64 y.m.rep.code, .int .i64 y.m.rep.session, .int .i64 y.m.rep.ahead, y.hv] 35)) (hk : k ≤ M.length) (hne : m.ownBlock ≠ some b) :
    Calls Try.prog 24 #[m, .int .i64 (k : Int), .slice (some ⟨b, 0, none⟩) 1 1] w (InsertedM base m M k y w) := by
  rcases Nat.lt_or_ge k M.length with hlt | hge
  · obtain ⟨g, c, cur, rfl, hbg, hcur, hc1, hc2, hc3, hc4⟩ := row_openM base M w hown (by omega)
    rcases Nat.lt_or_ge c (M.length + 1) with q | q
    · exact InsertM_grow base M k y b w _ hown h5 hb hy hlt g c rfl q
    · exact InsertM_shift base M k y b w _ hown h5 hb hy hlt g c rfl q (fun e => hne (by rw [e]; rfl))
  · exact InsertM_end base M k y b w m hown h5 hb hy (by omega)
end
end Cm
end Go.Proofs.Ytfkpgndbohoogaa

/- Arguments that are replies and answers, opened. -/
set_option linter.unusedVariables false
set_option linter.unusedSimpArgs false
namespace Go.Proofs.Ytfkpgndbohoogaa
open Go.RowKit Go.ChangeShapes Go.WideShapes Go.Deep
namespace Cm

theorem list_of {P : Nat → GrantV → Prop} : ∀ n, (∀ i, i < n → ∃ g, P i g) → ∃ l : List GrantV, l.length = n ∧ ∀ i (h : i < l.length), P i l[i]
  | 0, _ => ⟨[], rfl, fun i h => absurd h (Nat.not_lt_zero _)⟩
  | n + 1, h => by
    obtain ⟨l, hl, hp⟩ := list_of n (fun i hi => h i (by omega))
    obtain ⟨g, hg⟩ := h n (by omega)
    refine ⟨l ++ [g], by simp [hl], fun i hi => ?_⟩
    rw [List.length_append, List.length_singleton, hl] at hi
    by_cases q : i < n
    · rw [List.getElem_append_left (by omega)]
      exact hp i (by omega)
    · obtain rfl : i = n := by omega
      rw [List.getElem_append_right (by omega)]
      simpa [hl] using hg

section
variable {H : Type} {enc : TypeId × Value → H} {W : World}
theorem grants_of {fuel : Nat} {cs : List Value} {x : DataW H × List MemPlace} (h : DataW.trod enc Try.prog W 0 (fun _ => true) true fuel 26 cs = some x) : ∃ v l, cs = [v] ∧ RdH W v l := by
  rcases open_slice Try.underlying26 h with ⟨h0, _⟩ | ⟨ad, len, cap, m, n, D, Pl, h0, _, hl, hm, hmm, _, hi⟩
  · exact ⟨_, [], h0, RdH.nil W⟩
  · have hce : Try.prog.cellsOf 61 = 2 := by kernel_rfl
    have hm' : m = cap := by rw [hmm]; rfl
    subst hm'
    clear hmm
    have key : ∀ i, i < len → ∃ g : GrantV, W.cell? (ad.add (i * 2)) = some (.string (bstr g.name)) ∧ W.cell? (ad.add (i * 2 + 1)) = some (.int .i64 g.token) := by
      intro i hil
      obtain ⟨cs', hc, ht⟩ := hi i (by omega)
      rw [hce] at hc
      obtain ⟨y0, y1, n', _, hlen, t0, t1⟩ := trod_struct2 Try.underlying61 ht
      obtain ⟨_, hcl, hat⟩ := World.cells?_some hc
      match cs', hcl with
      | [c0, c1], _ =>
        have a0 := hat 0 (by omega)
        have a1 := hat 1 (by omega)
        rw [Go.Deep.add_add] at a0 a1
        obtain ⟨d, e0, _⟩ := DataW.trod_string Try.underlying9 t0
        obtain ⟨q, e1, _⟩ := DataW.trod_int Try.underlying3 t1
        have e0' : c0 = .string d := by injection e0
        have e1' : c1 = .int .i64 q := by injection e1
        refine ⟨⟨d.data.toList, q⟩, ?_, ?_⟩
        · rw [bstr_self, ← e0']; exact a0
        · rw [← e1']; exact a1
    obtain ⟨l, hll, hp⟩ := list_of len key
    refine ⟨_, l, h0, some ad, m, by rw [hll], by omega, hm, (fun q => by cases q), fun x hx hne => ?_⟩
    cases hx
    obtain ⟨b, o, spot⟩ := ad
    have hpos : 0 < l.length := List.length_pos_iff.2 hne
    obtain ⟨hc, _⟩ := hp 0 hpos
    have hspot : spot = none := by simpa [Addr.add] using World.cell?_spot hc
    subst hspot
    refine ⟨rfl, fun i hil => ?_⟩
    have hadd : ∀ j, (⟨b, o, none⟩ : Addr).add j = ⟨b, o + j, none⟩ := fun j => by unfold Addr.add; split <;> simp_all
    have := hp i hil
    rw [hadd, hadd] at this
    exact this

theorem rep_cells {fuel : Nat} {cs : List Value} {x : DataW H × List MemPlace} (h : DataW.trod enc Try.prog W 0 (fun _ => true) true fuel 28 cs = some x) :
    ∃ (r : ReplyV) (v : Value), cs = [.int .i64 r.code, .int .i64 r.session, .int .i64 r.ahead, v] ∧ RdH W v r.held := by
  have hce : Try.prog.cellsOf 28 = 4 := by kernel_rfl
  have hcg : Try.prog.cellsOf 26 = 1 := by kernel_rfl
  obtain ⟨y0, y1, y2, y3, n', _, hlen, t0, t1, t2, t3⟩ := Go.Joins.trod_struct4 Try.underlying28 h
  rw [hce] at hlen
  match cs, hlen with
  | [c0, c1, c2, c3], _ =>
    obtain ⟨d, e0, _⟩ := DataW.trod_int Try.underlying25 t0
    obtain ⟨m, e1, _⟩ := DataW.trod_int Try.underlying3 t1
    obtain ⟨q, e2, _⟩ := DataW.trod_int Try.underlying3 t2
    obtain ⟨v, l, e3, hl⟩ := grants_of t3
    rw [hcg] at e3
    have e0' : c0 = .int .i64 d := by injection e0
    have e1' : c1 = .int .i64 m := by injection e1
    have e2' : c2 = .int .i64 q := by injection e2
    have e3' : c3 = v := by injection e3
    exact ⟨⟨d, m, q, l⟩, v, by rw [e0', e1', e2', e3'], hl⟩

/-- A reply with its value's slice. -/
def repA (a : ReplyV × Value) : Value := repVal a.1 a.2
def repOk (w : World) (a : ReplyV × Value) : Prop := RdH w a.2 a.1.held

theorem open_rep {r : Reach} {b0 : Nat} {v : Value} {d : DataW H} {p : List MemPlace} (hv : Value.okWide Try.prog W r b0 28 v) (h : DataW.Trod enc Try.prog W 0 (fun _ => true) true 28 v d p) : ∃ a : ReplyV × Value, v = repA a ∧ repOk W a := by
  obtain ⟨cs, rfl, hs⟩ := okWide_struct Try.underlying28 hv
  obtain ⟨m, hm⟩ := h
  obtain ⟨c, u, hc, hu⟩ := rep_cells hm
  exact ⟨(c, u), by unfold repA repVal; congr 1; apply Array.ext'; simpa [Value.cells] using hc, hu⟩

def ansA (a : AnsV × Value) : Value := ansVal a.1 a.2
def ansOk (w : World) (a : AnsV × Value) : Prop := RdH w a.2 a.1.rep.held

theorem ans_cells {fuel : Nat} {cs : List Value} {x : DataW H × List MemPlace} (h : DataW.trod enc Try.prog W 0 (fun _ => true) true fuel 30 cs = some x) :
    ∃ (r : AnsV) (v : Value), cs = [.int .i64 r.client, .int .i64 r.seq, .int .i64 r.rep.code, .int .i64 r.rep.session, .int .i64 r.rep.ahead, v] ∧ RdH W v r.rep.held := by
  have hce : Try.prog.cellsOf 30 = 6 := by kernel_rfl
  have hcc : Try.prog.cellsOf 28 = 4 := by kernel_rfl
  obtain ⟨y0, y1, y2, n', _, hlen, t0, t1, t2⟩ := trod_struct3 Try.underlying30 h
  rw [hce] at hlen
  match cs, hlen with
  | [c0, c1, c2, c3, c4, c5], _ =>
    obtain ⟨d, e0, _⟩ := DataW.trod_int Try.underlying3 t0
    obtain ⟨m, e1, _⟩ := DataW.trod_int Try.underlying3 t1
    obtain ⟨c, v, hc, hv⟩ := rep_cells t2
    rw [hcc] at hc
    have e0' : c0 = .int .i64 d := by injection e0
    have e1' : c1 = .int .i64 m := by injection e1
    have e2' : [c2, c3, c4, c5] = [.int .i64 c.code, .int .i64 c.session, .int .i64 c.ahead, v] := hc
    exact ⟨⟨d, m, c⟩, v, by rw [e0', e1', e2'], hv⟩

theorem open_ans {r : Reach} {b0 : Nat} {v : Value} {d : DataW H} {p : List MemPlace} (hv : Value.okWide Try.prog W r b0 30 v) (h : DataW.Trod enc Try.prog W 0 (fun _ => true) true 30 v d p) : ∃ a : AnsV × Value, v = ansA a ∧ ansOk W a := by
  obtain ⟨cs, rfl, hs⟩ := okWide_struct Try.underlying30 hv
  obtain ⟨m, hm⟩ := h
  obtain ⟨c, u, hc, hu⟩ := ans_cells hm
  exact ⟨(c, u), by unfold ansA ansVal; congr 1; apply Array.ext'; simpa [Value.cells] using hc, hu⟩
end
end Cm
end Go.Proofs.Ytfkpgndbohoogaa

/- Arguments that are slices of sessions, of acts, opened. -/
set_option linter.unusedVariables false
set_option linter.unusedSimpArgs false
namespace Go.Proofs.Ytfkpgndbohoogaa
open Go.RowKit Go.ChangeShapes Go.WideShapes Go.Deep
namespace Cm

theorem list_ofX {α : Type} {P : Nat → α → Prop} : ∀ n, (∀ i, i < n → ∃ g, P i g) → ∃ l : List α, l.length = n ∧ ∀ i (h : i < l.length), P i l[i]
  | 0, _ => ⟨[], rfl, fun i h => absurd h (Nat.not_lt_zero _)⟩
  | n + 1, h => by
    obtain ⟨l, hl, hp⟩ := list_ofX n (fun i hi => h i (by omega))
    obtain ⟨g, hg⟩ := h n (by omega)
    refine ⟨l ++ [g], by simp [hl], fun i hi => ?_⟩
    rw [List.length_append, List.length_singleton, hl] at hi
    by_cases q : i < n
    · rw [List.getElem_append_left (by omega)]
      exact hp i (by omega)
    · obtain rfl : i = n := by omega
      rw [List.getElem_append_right (by omega)]
      simpa [hl] using hg

section
variable {H : Type} {enc : TypeId × Value → H} {W : World}

/-- A slice of whatever elements, if each one's cells are told. -/
theorem slice_of {α : Type} {sz : Nat} {f : α → List Value} {t e : TypeId} (hu : Try.prog.underlying t = some (.slice e)) (hce : Try.prog.cellsOf e = sz) (hsz : 0 < sz) (hf : ∀ x, (f x).length = sz)
    (hel : ∀ fuel cs x, DataW.trod enc Try.prog W 0 (fun _ => true) true fuel e cs = some x → ∃ y : α, cs = f y)
    {fuel : Nat} {cs : List Value} {x : DataW H × List MemPlace} (h : DataW.trod enc Try.prog W 0 (fun _ => true) true fuel t cs = some x) : ∃ v l, cs = [v] ∧ RdX sz f W v l := by
  rcases open_slice hu h with ⟨h0, _⟩ | ⟨ad, len, cap, m, n, D, Pl, h0, _, hl, hm, hmm, _, hi⟩
  · exact ⟨_, [], h0, RdX.nil W⟩
  · have hm' : m = cap := by rw [hmm]; rfl
    subst hm'
    clear hmm
    have key : ∀ i, i < len → ∃ g : α, ∀ k u, (f g)[k]? = some u → W.cell? (ad.add (i * sz + k)) = some u := by
      intro i hil
      obtain ⟨cs', hc, ht⟩ := hi i (by omega)
      rw [hce] at hc
      obtain ⟨y, rfl⟩ := hel _ _ _ ht
      obtain ⟨_, hcl, hat⟩ := World.cells?_some hc
      refine ⟨y, fun k u hk => ?_⟩
      have hks : k < (f y).length := (List.getElem?_eq_some_iff.1 hk).1
      have a0 := hat k (by rw [hf] at hks; exact hks)
      rw [Go.Deep.add_add] at a0
      rw [← hk, ← a0]
    obtain ⟨l, hll, hp⟩ := list_ofX len key
    refine ⟨_, l, h0, some ad, m, by rw [hll], by omega, hm, (fun q => by cases q), fun x hx hne => ?_⟩
    cases hx
    obtain ⟨b, o, spot⟩ := ad
    have hpos : 0 < l.length := List.length_pos_iff.2 hne
    have h0l : 0 < (f l[0]).length := by rw [hf]; exact hsz
    have hc := hp 0 hpos 0 _ (List.getElem?_eq_getElem h0l)
    have hspot : spot = none := by simpa [Addr.add] using World.cell?_spot hc
    subst hspot
    refine ⟨rfl, fun i hil k u hu => ?_⟩
    have hadd : ∀ j, (⟨b, o, none⟩ : Addr).add j = ⟨b, o + j, none⟩ := fun j => by unfold Addr.add; split <;> simp_all
    have := hp i hil k u hu
    rw [hadd] at this
    exact this


/-- An act: what is done, its client, its number, its time. -/
structure ActV where
  do_ : Int
  client : Int
  num : Int
  now : Int
def cellsA (a : ActV) : List Value := [.int .i64 a.do_, .int .i64 a.client, .int .i64 a.num, .int .i64 a.now]
theorem cellsA_length (a : ActV) : (cellsA a).length = 4 := rfl


def sesA (a : List SesV × Value) : Value := a.2
def sesOkA (w : World) (a : List SesV × Value) : Prop := RdS w a.2 a.1

def actA (a : List ActV × Value) : Value := a.2
def actOkA (w : World) (a : List ActV × Value) : Prop := RdX 4 cellsA w a.2 a.1

end
end Cm
end Go.Proofs.Ytfkpgndbohoogaa

/- Arguments that are slices of memos, of answers, opened. -/
set_option linter.unusedVariables false
set_option linter.unusedSimpArgs false
namespace Go.Proofs.Ytfkpgndbohoogaa
open Go.RowKit Go.ChangeShapes Go.WideShapes Go.Deep
namespace Cm

theorem rdx_map {α β : Type} {sz : Nat} {f : β → List Value} (g : α → β) {w : World} {v : Value} {l : List α} (h : RdX sz (fun x => f (g x)) w v l) : RdX sz f w v (l.map g) := by
  obtain ⟨a, cap, hv, h1, h2, h3, h4⟩ := h.ex
  refine ⟨a, cap, by rw [List.length_map]; exact hv, by rw [List.length_map]; exact h1, h2, fun q => by obtain ⟨q1, q2⟩ := h3 q; subst q1; exact ⟨rfl, q2⟩, fun x hx hp => ?_⟩
  obtain ⟨hs, hc⟩ := h4 x hx (fun q => hp (by rw [q]; rfl))
  refine ⟨hs, fun i hi k u hu => ?_⟩
  rw [List.length_map] at hi
  rw [List.getElem_map] at hu
  exact hc i hi k u hu

section
variable {H : Type} {enc : TypeId × Value → H} {W : World}

theorem memo_cells (fuel : Nat) (cs : List Value) (x : DataW H × List MemPlace) (h : DataW.trod enc Try.prog W 0 (fun _ => true) true fuel 35 cs = some x) :
    ∃ y : {y : MemC // RdH W y.hv y.m.rep.held}, cs = cellsM y.1 := by
  have hce : Try.prog.cellsOf 35 = 6 := by kernel_rfl
  have hcc : Try.prog.cellsOf 28 = 4 := by kernel_rfl
  obtain ⟨y0, y1, y2, n', _, hlen, t0, t1, t2⟩ := trod_struct3 Try.underlying35 h
  rw [hce] at hlen
  match cs, hlen with
  | [c0, c1, c2, c3, c4, c5], _ =>
    obtain ⟨d, e0, _⟩ := DataW.trod_int Try.underlying3 t0
    obtain ⟨m, e1, _⟩ := DataW.trod_int Try.underlying3 t1
    obtain ⟨c, v, hc, hv⟩ := rep_cells t2
    rw [hcc] at hc
    have e0' : c0 = .int .i64 d := by injection e0
    have e1' : c1 = .int .i64 m := by injection e1
    have e2' : [c2, c3, c4, c5] = [.int .i64 c.code, .int .i64 c.session, .int .i64 c.ahead, v] := hc
    obtain ⟨a, p, rfl, -⟩ := hv.ex
    exact ⟨⟨⟨⟨d, m, c⟩, a, p⟩, hv⟩, by rw [e0', e1', e2']; rfl⟩

theorem answer_cells (fuel : Nat) (cs : List Value) (x : DataW H × List MemPlace) (h : DataW.trod enc Try.prog W 0 (fun _ => true) true fuel 30 cs = some x) :
    ∃ y : {y : MemC // RdH W y.hv y.m.rep.held}, cs = cellsM y.1 := by
  obtain ⟨r, v, hc, hv⟩ := ans_cells h
  obtain ⟨a, p, rfl, -⟩ := hv.ex
  exact ⟨⟨⟨r, a, p⟩, hv⟩, by rw [hc]; rfl⟩

def memsA (a : List MemC × Value) : Value := a.2
def memsOkA (w : World) (a : List MemC × Value) : Prop := RdM w a.2 a.1
theorem open_mems {r : Reach} {b0 : Nat} {v : Value} {d : DataW H} {p : List MemPlace} (hv : Value.okWide Try.prog W r b0 24 v) (h : DataW.Trod enc Try.prog W 0 (fun _ => true) true 24 v d p) : ∃ a : List MemC × Value, v = memsA a ∧ memsOkA W a := by
  obtain ⟨a, len, cap, rfl⟩ := okWide_slice Try.underlying24 hv
  obtain ⟨m, hm⟩ := h
  obtain ⟨u, l, hu, hl⟩ := slice_of (f := fun x : {y : MemC // RdH W y.hv y.m.rep.held} => cellsM x.1) Try.underlying24 (show Try.prog.cellsOf 35 = 6 by kernel_rfl) (by omega) (fun x => cellsM_length x.1) memo_cells hm
  have : Value.slice a len cap = u := by simpa [Value.cells] using hu
  subst this
  refine ⟨(l.map Subtype.val, _), rfl, ⟨rdx_map (f := cellsM) Subtype.val hl, fun x hx => ?_⟩⟩
  obtain ⟨y, _, rfl⟩ := List.mem_map.1 hx
  exact y.2

def anssA (a : List MemC × Value) : Value := a.2
def anssOkA (w : World) (a : List MemC × Value) : Prop := RdM w a.2 a.1
theorem open_anss {r : Reach} {b0 : Nat} {v : Value} {d : DataW H} {p : List MemPlace} (hv : Value.okWide Try.prog W r b0 22 v) (h : DataW.Trod enc Try.prog W 0 (fun _ => true) true 22 v d p) : ∃ a : List MemC × Value, v = anssA a ∧ anssOkA W a := by
  obtain ⟨a, len, cap, rfl⟩ := okWide_slice Try.underlying22 hv
  obtain ⟨m, hm⟩ := h
  obtain ⟨u, l, hu, hl⟩ := slice_of (f := fun x : {y : MemC // RdH W y.hv y.m.rep.held} => cellsM x.1) Try.underlying22 (show Try.prog.cellsOf 30 = 6 by kernel_rfl) (by omega) (fun x => cellsM_length x.1) answer_cells hm
  have : Value.slice a len cap = u := by simpa [Value.cells] using hu
  subst this
  refine ⟨(l.map Subtype.val, _), rfl, ⟨rdx_map (f := cellsM) Subtype.val hl, fun x hx => ?_⟩⟩
  obtain ⟨y, _, rfl⟩ := List.mem_map.1 hx
  exact y.2
end
end Cm
end Go.Proofs.Ytfkpgndbohoogaa

/- Contracts: package memo's Keep. Made by tools/gen_memx.py. -/
set_option linter.unusedVariables false
set_option linter.unusedSimpArgs false
namespace Go.Proofs.Ytfkpgndbohoogaa
open Go.RowKit Go.Shelf
namespace Cm

set_option maxHeartbeats 4000000 in
theorem MemKeep_set (v u : Value) (L : List MemC) (A : AnsV) (w : World) (h : RdM w v L) (hr : Rm (valsM L)) (h5 : L.length ≤ 1000) (hu : RdH w u A.rep.held) (h6 : A.rep.held.length ≤ 1000) (h1 : mayA A = true) (h2 : freshM (valsM L) A.client A.seq = 1) (k : Nat) (hk : k < L.length) (hi : idxI (isCl A.client) (valsM L) = (k : Int)) (he : L[k].m.client = A.client) :
    Calls Try.prog 9 #[v, ansVal A u] w (GetsO (insM A (valsM L)) w) := by
  obtain ⟨ua, uc, rfl, -⟩ := hu.ex
  have KM0 := RepMayAnswer_any A (.slice ua A.rep.held.length uc)
  have KO0 := copyOfM_any ⟨A, ua, uc⟩
  rw [h1] at KM0
  have KF0 := fun W hb => MemFresh_any v L A.client A.seq W (h.later (w' := W) hb) hr
  rw [h2] at KF0
  have KI0 := fun W (hb : Below w.heap.size w W) => indexOfM_any v L A.client W (h.later hb).row
  rw [hi] at KI0
  have HINS : Hid (insM A (valsM L) = (valsM L).set k A) := Lib.hid (ins_set _ hr.up A k (by rw [valsM_length]; exact hk) (by rw [valsM_get L k hk]; exact he))
  have HLL := Lib.hid (valsM_length L)
  obtain ⟨ac, sq, ⟨ak, an, ad, al⟩⟩ := A
  unfold ansVal at KM0 ⊢
  unfold memVal MemC.hv IsCopyM at KO0
  dsimp only at hu h6 KM0 KF0 KO0 KI0 ⊢
  have hb1 := newAlloc w (.cells #[.int .i64 ac, .int .i64 sq, .int .i64 ak, .int .i64 an, .int .i64 ad, .slice ua al.length uc] 30)
  obtain ⟨c0, c1, c2, c3, c4, c5⟩ := box6 (Below.refl _ (w.alloc (.cells #[.int .i64 ac, .int .i64 sq, .int .i64 ak, .int .i64 an, .int .i64 ad, .slice ua al.length uc] 30)))
  obtain ⟨W1, hW1⟩ : ∃ W1, W1 = w.alloc (.cells #[.int .i64 ac, .int .i64 sq, .int .i64 ak, .int .i64 an, .int .i64 ad, .slice ua al.length uc] 30) := ⟨_, rfl⟩
  rw [← hW1] at hb1 c0 c1 c2 c3 c4 c5
  have HB := Lib.hid hb1
  have HWA : Hid (w.heap.size < W1.heap.size) := Lib.hid (lt_of_cell c0)
  have HQ : Hid (∀ w', Below W1.heap.size W1 w' → w'.cell? ⟨w.heap.size, 0, none⟩ = some (.int .i64 ac) ∧ w'.cell? ⟨w.heap.size, 1, none⟩ = some (.int .i64 sq) ∧ w'.cell? ⟨w.heap.size, 2, none⟩ = some (.int .i64 ak) ∧ w'.cell? ⟨w.heap.size, 3, none⟩ = some (.int .i64 an) ∧ w'.cell? ⟨w.heap.size, 4, none⟩ = some (.int .i64 ad) ∧ w'.cell? ⟨w.heap.size, 5, none⟩ = some (.slice ua al.length uc)) := Lib.hid fun w' hb => ⟨(hb.cell (lt_of_cell c0)).trans c0, (hb.cell (lt_of_cell c1)).trans c1, (hb.cell (lt_of_cell c2)).trans c2, (hb.cell (lt_of_cell c3)).trans c3, (hb.cell (lt_of_cell c4)).trans c4, (hb.cell (lt_of_cell c5)).trans c5⟩
  have KM := Lib.hid (fun W (hb : Below W1.heap.size W1 W) => KM0 W (hu.later (step hb1 hb)))
  have KO := Lib.hid (fun W (hb : Below W1.heap.size W1 W) => KO0 W (hu.later (step hb1 hb)) h6)
  have KF := Lib.hid (fun W (hb : Below W1.heap.size W1 W) => KF0 W (step hb1 hb))
  have KI := Lib.hid (fun W (hb : Below W1.heap.size W1 W) => KI0 W (step hb1 hb))
  have KC := Lib.hid (copiesM_any v L W1 (h.later hb1) h5 hr.small)
  obtain ⟨a, cap, rfl⟩ := h.form
  clear h hu hb1 c0 c1 c2 c3 c4 c5 KF0 KI0 KM0 KO0 hr h1 h2
  obtain ⟨R, hR⟩ : ∃ R, insM ⟨ac, sq, ⟨ak, an, ad, al⟩⟩ (valsM L) = R := ⟨_, rfl⟩
  rw [hR] at HINS ⊢
  clear hR hi he
  have hk0 := hk
  generalize valsM L = V at *
  generalize L.length = N at *
  obtain ⟨AN, hAN⟩ : ∃ AN, al.length = AN := ⟨_, rfl⟩
  have HAN := Lib.hid hAN
  rw [hAN] at HQ KM KO hW1 h6 ⊢
  clear hAN
  go_enter Try.func9, Try.ntmps9
  go_upto_region 1 with fail
  rw [← hW1]
  clear hW1
  go_upto_region 2 with (go_at_call 20; refine KC.out.mono ?_; rintro e w2 ⟨v2, M, rfl, hv2, ho2, hb2⟩; have HV := Lib.hid hv2; have HO2 := Lib.hid ho2; have HOM := HO2; have HB2 := Lib.hid hb2; obtain ⟨y0, y1, y2, y3, y4, y5⟩ := HQ.out _ hb2; obtain ⟨a2, c2, rfl⟩ := Rw.own_form ho2.row; clear hv2 ho2 hb2)
  go_upto_region 4 with (first
    | (go_at_call 21; refine (KM.out _ HB2.out).mono ?_; rintro e w3 ⟨rfl, hb3⟩; have HB3 := Lib.hid hb3; obtain ⟨z0, z1, z2, z3, z4, z5⟩ := HQ.out _ (step HB2.out hb3); clear hb3)
    | (go_at_call 13; refine (KF.out _ (step HB2.out HB3.out)).mono ?_; rintro e w4 ⟨rfl, hb4⟩; have HB4 := Lib.hid (step HB3.out hb4); obtain ⟨x0, x1, x2, x3, x4, x5⟩ := HQ.out _ (step HB2.out HB4.out); clear hb4))
  clear y0 y1 y2 y3 y4 y5 z0 z1 z2 z3 z4 z5
  go_upto_region 5 with (go_at_call 22; refine (KO.out _ (step HB2.out HB4.out)).mono ?_; rintro e w5 ⟨a5, c5, rfl, ho5, hb5⟩; have HO5 := Lib.hid ho5; have HB5 := Lib.hid (step HB4.out hb5); clear ho5 hb5)
  obtain ⟨W7, hW7⟩ : ∃ W7, W7 = w5.alloc (.cells #[.int .i64 ac, .int .i64 sq, .int .i64 ak, .int .i64 an, .int .i64 ad, .slice a5 AN c5] 35) := ⟨_, rfl⟩
  have hx := box6 (Below.refl _ (w5.alloc (.cells #[.int .i64 ac, .int .i64 sq, .int .i64 ak, .int .i64 an, .int .i64 ad, .slice a5 AN c5] 35)))
  have hb7 : Below w5.heap.size w5 W7 := by rw [hW7]; exact newAlloc _ _
  have HY7 : Hid (W7.heap[w5.heap.size]? = some (.cells #[.int .i64 ac, .int .i64 sq, .int .i64 ak, .int .i64 an, .int .i64 ad, .slice a5 AN c5] 35)) := Lib.hid (by rw [hW7]; exact heap_alloc_new w5 _)
  rw [← hW7] at hx
  obtain ⟨t0, t1, t2, t3, t4, t5⟩ := hx
  have HB7 : Hid (Below w2.heap.size w2 W7) := Lib.hid (step HB5.out hb7)
  have HO7 : Hid (OwnM W1.heap.size W7 (.slice a2 M.length c2) M) := Lib.hid (HO2.out.later HB7.out)
  have HH7 : Hid (W7.ownsRow w4.heap.size 61 2 (.slice a5 AN c5) AN (flatX cellsG al)) := Lib.hid (Rw.own_below HO5.out hb7)
  have HSZ : Hid (W1.heap.size ≤ w4.heap.size) := Lib.hid (step HB2.out HB4.out).size
  have HS7 : Hid (w5.heap.size < W7.heap.size ∧ w2.heap.size ≤ w5.heap.size) := Lib.hid ⟨by rw [hW7]; simp, HB5.out.size⟩
  rw [← hW7]
  clear hW7 hb7 x0 x1 x2 x3 x4 x5 HO5 KM KO KF KC HB3 HB4
  have HT : Hid (∀ w', Below W7.heap.size W7 w' → w'.cell? ⟨w.heap.size, 0, none⟩ = some (.int .i64 ac) ∧ w'.cell? ⟨w5.heap.size, 0, none⟩ = some (.int .i64 ac) ∧ w'.cell? ⟨w5.heap.size, 1, none⟩ = some (.int .i64 sq) ∧ w'.cell? ⟨w5.heap.size, 2, none⟩ = some (.int .i64 ak) ∧ w'.cell? ⟨w5.heap.size, 3, none⟩ = some (.int .i64 an) ∧ w'.cell? ⟨w5.heap.size, 4, none⟩ = some (.int .i64 ad) ∧ w'.cell? ⟨w5.heap.size, 5, none⟩ = some (.slice a5 AN c5)) := Lib.hid fun w' hb => ⟨(HQ.out _ (step (step HB2.out HB7.out) hb)).1, (hb.cell (lt_of_cell t0)).trans t0, (hb.cell (lt_of_cell t1)).trans t1, (hb.cell (lt_of_cell t2)).trans t2, (hb.cell (lt_of_cell t3)).trans t3, (hb.cell (lt_of_cell t4)).trans t4, (hb.cell (lt_of_cell t5)).trans t5⟩
  clear t0 t1 t2 t3 t4 t5 HQ
  obtain ⟨t, t0, t1, t2, t3, t4, t5⟩ := HT.out _ (Below.refl _ W7)
  go_upto_region 6 with (go_at_call 23; refine (KI.out _ (step HB2.out HB7.out)).mono ?_; rintro e w8 ⟨rfl, hb8⟩; have HB8 := Lib.hid hb8; clear hb8)
  have hml : M.length = N := by rw [← valsM_length M, HV.out]; exact HLL.out
  have hkM : k < M.length := by omega
  have HO8 := Lib.hid (HO7.out.later HB8.out)
  obtain ⟨r, r0, r1, r2, r3, r4, r5⟩ := HT.out _ HB8.out
  obtain ⟨g, rfl, hbg⟩ := own_some HO8.out.row (by omega)
  have HP := Lib.hid (set_done HO8.out k hkM ⟨⟨ac, sq, ⟨ak, an, ad, al⟩⟩, a5, c5⟩ (by
    have := Rw.own_below HH7.out HB8.out
    rw [← HAN.out] at this
    exact this) HSZ.out)
  obtain ⟨s0, s1, s2, s3, s4, s5, sf⟩ := ownM_at HO8.out.row k hkM
  have f1 : (0 : Int) ≤ (k : Int) := by omega
  have f2 : (k : Int) < (M.length : Int) := by omega
  have f3 : decide ((k : Int) < 0) = false := by simp
  have HBF := Lib.hid (step HB.out (step HB2.out (step HB7.out HB8.out)))
  have HGB := Lib.hid (Nat.le_trans HB.out.size hbg)
  clear t t0 t1 t2 t3 t4 t5 hbg
  unfold MemC.hv at HP
  dsimp only at HP
  rw [HAN.out] at HP
  go_wp2
  go_ret
  refine ⟨some ⟨g, 0, none⟩, c2, M.set k ⟨⟨ac, sq, ⟨ak, an, ad, al⟩⟩, a5, c5⟩, by rw [List.length_set]; rfl, by rw [valsM_set, HV.out, HINS.out], HP.out.lower HB.out.size, set6k HBF.out g HGB.out _ _ _ _ _ _ _⟩

set_option maxHeartbeats 4000000 in
theorem MemKeep_ins (v u : Value) (L : List MemC) (A : AnsV) (w : World) (h : RdM w v L) (hr : Rm (valsM L)) (h5 : L.length ≤ 1000) (hu : RdH w u A.rep.held) (h6 : A.rep.held.length ≤ 1000) (h1 : mayA A = true) (h2 : freshM (valsM L) A.client A.seq = 1) (hi : idxI (isCl A.client) (valsM L) = -1) :
    Calls Try.prog 9 #[v, ansVal A u] w (GetsO (insM A (valsM L)) w) := by
  obtain ⟨ua, uc, rfl, -⟩ := hu.ex
  have KM0 := RepMayAnswer_any A (.slice ua A.rep.held.length uc)
  have KO0 := copyOfM_any ⟨A, ua, uc⟩
  rw [h1] at KM0
  have KF0 := fun W hb => MemFresh_any v L A.client A.seq W (h.later (w' := W) hb) hr
  rw [h2] at KF0
  have KI0 := fun W (hb : Below w.heap.size w W) => indexOfM_any v L A.client W (h.later hb).row
  rw [hi] at KI0
  have KP0 := fun W (hb : Below w.heap.size w W) => placeOfM_any v L A.client W (h.later hb).row
  have hle : placeM A.client (valsM L) ≤ L.length := by have := placeM_le A.client (valsM L); rw [valsM_length] at this; exact this
  have HINS : Hid (insM A (valsM L) = (valsM L).take (placeM A.client (valsM L)) ++ A :: (valsM L).drop (placeM A.client (valsM L))) := Lib.hid (ins_place A _ fun m hm => by
    have := idx_noneK _ _ hi m hm
    unfold isCl at this
    simpa using this)
  have HLL := Lib.hid (valsM_length L)
  obtain ⟨ac, sq, ⟨ak, an, ad, al⟩⟩ := A
  unfold ansVal at KM0 ⊢
  unfold memVal MemC.hv IsCopyM at KO0
  dsimp only at hu h6 KM0 KF0 KO0 KI0 ⊢
  have hb1 := newAlloc w (.cells #[.int .i64 ac, .int .i64 sq, .int .i64 ak, .int .i64 an, .int .i64 ad, .slice ua al.length uc] 30)
  obtain ⟨c0, c1, c2, c3, c4, c5⟩ := box6 (Below.refl _ (w.alloc (.cells #[.int .i64 ac, .int .i64 sq, .int .i64 ak, .int .i64 an, .int .i64 ad, .slice ua al.length uc] 30)))
  obtain ⟨W1, hW1⟩ : ∃ W1, W1 = w.alloc (.cells #[.int .i64 ac, .int .i64 sq, .int .i64 ak, .int .i64 an, .int .i64 ad, .slice ua al.length uc] 30) := ⟨_, rfl⟩
  rw [← hW1] at hb1 c0 c1 c2 c3 c4 c5
  have HB := Lib.hid hb1
  have HWA : Hid (w.heap.size < W1.heap.size) := Lib.hid (lt_of_cell c0)
  have HQ : Hid (∀ w', Below W1.heap.size W1 w' → w'.cell? ⟨w.heap.size, 0, none⟩ = some (.int .i64 ac) ∧ w'.cell? ⟨w.heap.size, 1, none⟩ = some (.int .i64 sq) ∧ w'.cell? ⟨w.heap.size, 2, none⟩ = some (.int .i64 ak) ∧ w'.cell? ⟨w.heap.size, 3, none⟩ = some (.int .i64 an) ∧ w'.cell? ⟨w.heap.size, 4, none⟩ = some (.int .i64 ad) ∧ w'.cell? ⟨w.heap.size, 5, none⟩ = some (.slice ua al.length uc)) := Lib.hid fun w' hb => ⟨(hb.cell (lt_of_cell c0)).trans c0, (hb.cell (lt_of_cell c1)).trans c1, (hb.cell (lt_of_cell c2)).trans c2, (hb.cell (lt_of_cell c3)).trans c3, (hb.cell (lt_of_cell c4)).trans c4, (hb.cell (lt_of_cell c5)).trans c5⟩
  have KM := Lib.hid (fun W (hb : Below W1.heap.size W1 W) => KM0 W (hu.later (step hb1 hb)))
  have KO := Lib.hid (fun W (hb : Below W1.heap.size W1 W) => KO0 W (hu.later (step hb1 hb)) h6)
  have KF := Lib.hid (fun W (hb : Below W1.heap.size W1 W) => KF0 W (step hb1 hb))
  have KI := Lib.hid (fun W (hb : Below W1.heap.size W1 W) => KI0 W (step hb1 hb))
  have KP := Lib.hid (fun W (hb : Below W1.heap.size W1 W) => KP0 W (step hb1 hb))
  have KC := Lib.hid (copiesM_any v L W1 (h.later hb1) h5 hr.small)
  obtain ⟨a, cap, rfl⟩ := h.form
  clear h hu hb1 c0 c1 c2 c3 c4 c5 KF0 KI0 KM0 KO0 hr h1 h2
  obtain ⟨R, hR⟩ : ∃ R, insM ⟨ac, sq, ⟨ak, an, ad, al⟩⟩ (valsM L) = R := ⟨_, rfl⟩
  rw [hR] at HINS ⊢
  clear hR hi KP0
  dsimp only at hle KP HINS
  generalize placeM ac (valsM L) = k at *
  generalize valsM L = V at *
  generalize L.length = N at *
  obtain ⟨AN, hAN⟩ : ∃ AN, al.length = AN := ⟨_, rfl⟩
  have HAN := Lib.hid hAN
  rw [hAN] at HQ KM KO hW1 h6 ⊢
  clear hAN
  go_enter Try.func9, Try.ntmps9
  go_upto_region 1 with fail
  rw [← hW1]
  clear hW1
  go_upto_region 2 with (go_at_call 20; refine KC.out.mono ?_; rintro e w2 ⟨v2, M, rfl, hv2, ho2, hb2⟩; have HV := Lib.hid hv2; have HO2 := Lib.hid ho2; have HOM := HO2; have HB2 := Lib.hid hb2; obtain ⟨y0, y1, y2, y3, y4, y5⟩ := HQ.out _ hb2; obtain ⟨a2, c2, rfl⟩ := Rw.own_form ho2.row; clear hv2 ho2 hb2)
  go_upto_region 4 with (first
    | (go_at_call 21; refine (KM.out _ HB2.out).mono ?_; rintro e w3 ⟨rfl, hb3⟩; have HB3 := Lib.hid hb3; obtain ⟨z0, z1, z2, z3, z4, z5⟩ := HQ.out _ (step HB2.out hb3); clear hb3)
    | (go_at_call 13; refine (KF.out _ (step HB2.out HB3.out)).mono ?_; rintro e w4 ⟨rfl, hb4⟩; have HB4 := Lib.hid (step HB3.out hb4); obtain ⟨x0, x1, x2, x3, x4, x5⟩ := HQ.out _ (step HB2.out HB4.out); clear hb4))
  clear y0 y1 y2 y3 y4 y5 z0 z1 z2 z3 z4 z5
  go_upto_region 5 with (go_at_call 22; refine (KO.out _ (step HB2.out HB4.out)).mono ?_; rintro e w5 ⟨a5, c5, rfl, ho5, hb5⟩; have HO5 := Lib.hid ho5; have HB5 := Lib.hid (step HB4.out hb5); clear ho5 hb5)
  obtain ⟨W7, hW7⟩ : ∃ W7, W7 = w5.alloc (.cells #[.int .i64 ac, .int .i64 sq, .int .i64 ak, .int .i64 an, .int .i64 ad, .slice a5 AN c5] 35) := ⟨_, rfl⟩
  have hx := box6 (Below.refl _ (w5.alloc (.cells #[.int .i64 ac, .int .i64 sq, .int .i64 ak, .int .i64 an, .int .i64 ad, .slice a5 AN c5] 35)))
  have hb7 : Below w5.heap.size w5 W7 := by rw [hW7]; exact newAlloc _ _
  have HY7 : Hid (W7.heap[w5.heap.size]? = some (.cells #[.int .i64 ac, .int .i64 sq, .int .i64 ak, .int .i64 an, .int .i64 ad, .slice a5 AN c5] 35)) := Lib.hid (by rw [hW7]; exact heap_alloc_new w5 _)
  rw [← hW7] at hx
  obtain ⟨t0, t1, t2, t3, t4, t5⟩ := hx
  have HB7 : Hid (Below w2.heap.size w2 W7) := Lib.hid (step HB5.out hb7)
  have HO7 : Hid (OwnM W1.heap.size W7 (.slice a2 M.length c2) M) := Lib.hid (HO2.out.later HB7.out)
  have HH7 : Hid (W7.ownsRow w4.heap.size 61 2 (.slice a5 AN c5) AN (flatX cellsG al)) := Lib.hid (Rw.own_below HO5.out hb7)
  have HSZ : Hid (W1.heap.size ≤ w4.heap.size) := Lib.hid (step HB2.out HB4.out).size
  have HS7 : Hid (w5.heap.size < W7.heap.size ∧ w2.heap.size ≤ w5.heap.size) := Lib.hid ⟨by rw [hW7]; simp, HB5.out.size⟩
  rw [← hW7]
  clear hW7 hb7 x0 x1 x2 x3 x4 x5 HO5 KM KO KF KC HB3 HB4
  have HT : Hid (∀ w', Below W7.heap.size W7 w' → w'.cell? ⟨w.heap.size, 0, none⟩ = some (.int .i64 ac) ∧ w'.cell? ⟨w5.heap.size, 0, none⟩ = some (.int .i64 ac) ∧ w'.cell? ⟨w5.heap.size, 1, none⟩ = some (.int .i64 sq) ∧ w'.cell? ⟨w5.heap.size, 2, none⟩ = some (.int .i64 ak) ∧ w'.cell? ⟨w5.heap.size, 3, none⟩ = some (.int .i64 an) ∧ w'.cell? ⟨w5.heap.size, 4, none⟩ = some (.int .i64 ad) ∧ w'.cell? ⟨w5.heap.size, 5, none⟩ = some (.slice a5 AN c5)) := Lib.hid fun w' hb => ⟨(HQ.out _ (step (step HB2.out HB7.out) hb)).1, (hb.cell (lt_of_cell t0)).trans t0, (hb.cell (lt_of_cell t1)).trans t1, (hb.cell (lt_of_cell t2)).trans t2, (hb.cell (lt_of_cell t3)).trans t3, (hb.cell (lt_of_cell t4)).trans t4, (hb.cell (lt_of_cell t5)).trans t5⟩
  clear t0 t1 t2 t3 t4 t5 HQ
  obtain ⟨t, t0, t1, t2, t3, t4, t5⟩ := HT.out _ (Below.refl _ W7)
  go_upto_region 7 with (go_at_call 23; refine (KI.out _ (step HB2.out HB7.out)).mono ?_; rintro e w8 ⟨rfl, hb8⟩; have HB8 := Lib.hid hb8; clear hb8)
  have hml : M.length = N := by rw [← valsM_length M, HV.out]; exact HLL.out
  have HO8 := Lib.hid (HO7.out.later HB8.out)
  have HH8 := Lib.hid (Rw.own_below HH7.out HB8.out)
  have HT8 := Lib.hid (fun w' (hb : Below w8.heap.size w8 w') => HT.out w' (step HB8.out hb))
  obtain ⟨r, r0, r1, r2, r3, r4, r5⟩ := HT8.out _ (Below.refl _ w8)
  have KP8 := Lib.hid (fun W (hb : Below w8.heap.size w8 W) => KP.out W (step HB2.out (step HB7.out (step HB8.out hb))))
  have HW8 : Hid (W1.heap.size ≤ w8.heap.size) := Lib.hid (step HB2.out (step HB7.out HB8.out)).size
  have HIN : Hid (∀ (W : World) (b : Nat), OwnM W1.heap.size W (.slice a2 M.length c2) M → Below w8.heap.size w8 W → W.heap[b]? = some (.cells #[.int .i64 ac, .int .i64 sq, .int .i64 ak, .int .i64 an, .int .i64 ad, .slice a5 AN c5] 35) → (Value.slice a2 M.length c2).ownBlock ≠ some b →
      Calls Try.prog 24 #[.slice a2 M.length c2, .int .i64 (k : Int), .slice (some ⟨b, 0, none⟩) 1 1] W (InsertedM W1.heap.size (.slice a2 M.length c2) M k ⟨⟨ac, sq, ⟨ak, an, ad, al⟩⟩, a5, c5⟩ W)) := Lib.hid fun W b ho hs hy hne =>
    InsertM_any W1.heap.size M k ⟨⟨ac, sq, ⟨ak, an, ad, al⟩⟩, a5, c5⟩ b W _ ho.row (by omega) (Nat.le_trans HW8.out hs.size) (by unfold MemC.hv; dsimp only; rw [HAN.out]; exact hy) (by omega) hne
  have HBF1 := Lib.hid (step HB2.out (step HB7.out HB8.out))
  have hs72 := HS7.out.2
  have HML := Lib.hid hml
  have HHA : Hid (∀ W, Below w8.heap.size w8 W → W.ownsRow w4.heap.size 61 2 (MemC.hv ⟨⟨ac, sq, ⟨ak, an, ad, al⟩⟩, a5, c5⟩) al.length (flatX cellsG al)) := Lib.hid (fun W hb => by
    have := Rw.own_below HH8.out hb
    rw [← HAN.out] at this
    exact this)
  have HLE : Hid (k ≤ M.length) := Lib.hid (by omega)
  clear hml
  clear t t0 t1 t2 t3 t4 t5 HT KI KP HO7 HH7 HB2 HB7 HY7 HO2
  have hne5 : (Value.slice a2 M.length c2).ownBlock ≠ some w5.heap.size := fun q => by
    have := (Rw.own_lt HOM.out.row _ q).2
    omega
  have hne0 : (Value.slice a2 M.length c2).ownBlock ≠ some w.heap.size := fun q => by
    have := (Rw.own_lt HOM.out.row _ q).1
    have := HWA.out
    omega
  have HTI : Hid (∀ (W W' : World), Below w8.heap.size w8 W → W.grownBy W' (Value.slice a2 M.length c2).ownBlock → _) := Lib.hid (fun W W' hb hg => cells7_kept (HT8.out W hb) hg hne0 hne5)
  refine wp_region_held_drew (S := (fun w' => w'.cell? ⟨w.heap.size, 0, none⟩ = some (.int .i64 ac) ∧ w'.cell? ⟨w5.heap.size, 0, none⟩ = some (.int .i64 ac) ∧ w'.cell? ⟨w5.heap.size, 1, none⟩ = some (.int .i64 sq) ∧ w'.cell? ⟨w5.heap.size, 2, none⟩ = some (.int .i64 ak) ∧ w'.cell? ⟨w5.heap.size, 3, none⟩ = some (.int .i64 an) ∧ w'.cell? ⟨w5.heap.size, 4, none⟩ = some (.int .i64 ad) ∧ w'.cell? ⟨w5.heap.size, 5, none⟩ = some (.slice a5 AN c5))) (by kernel_rfl) (HT8.out _ (Below.refl _ w8).drew) (fun hHeld => ?_)
  refine wpAnyH_take (i := 0) (v := ?_) rfl (by kernel_rfl) (by kernel_rfl) (by kernel_rfl) (fun _ _ _ h => h) (Or.inl ⟨by rfl, ?_⟩) (by assumption) ?_
  rotate_left
  · intro w hSw; (try dsimp only at hSw); go_simp <;> with_reducible rfl
  try simp only [Act.put, List.getElem_toArray, List.getElem_cons_zero, List.setIfInBounds_toArray, List.set_cons_zero, List.set_cons_succ]
  refine wpAnyH_take (i := 1) (v := ?_) rfl (by kernel_rfl) (by kernel_rfl) (by kernel_rfl) (fun _ _ _ h => h) (Or.inl ⟨by rfl, ?_⟩) (by assumption) ?_
  rotate_left
  · intro w hSw; (try dsimp only at hSw); go_simp <;> with_reducible rfl
  try simp only [Act.put, List.getElem_toArray, List.getElem_cons_succ, List.getElem_cons_zero, List.setIfInBounds_toArray, List.set_cons_zero, List.set_cons_succ]
  refine wpAnyH_take (i := 2) (v := ?_) rfl (by kernel_rfl) (by kernel_rfl) (by kernel_rfl) (fun _ _ _ h => h) (Or.inl ⟨by rfl, ?_⟩) (by assumption) ?_
  rotate_left
  · intro w hSw; (try dsimp only at hSw); go_simp <;> with_reducible rfl
  try simp only [Act.put, List.getElem_toArray, List.getElem_cons_succ, List.getElem_cons_zero, List.setIfInBounds_toArray, List.set_cons_zero, List.set_cons_succ]
  refine wpAnyH_take (i := 3) (v := ?_) rfl (by kernel_rfl) (by kernel_rfl) (by kernel_rfl) (fun _ _ _ h => h) (Or.inl ⟨by rfl, ?_⟩) (by assumption) ?_
  rotate_left
  · intro w hSw; (try dsimp only at hSw); go_simp <;> with_reducible rfl
  try simp only [Act.put, List.getElem_toArray, List.getElem_cons_succ, List.getElem_cons_zero, List.setIfInBounds_toArray, List.set_cons_zero, List.set_cons_succ]
  refine wpAnyH_take (i := 5) (v := ?_) rfl (by kernel_rfl) (by kernel_rfl) (by kernel_rfl) (fun _ _ _ h => h) (Or.inl ⟨by rfl, ?_⟩) (by assumption) ?_
  rotate_left
  · intro w hSw; (try dsimp only at hSw); go_simp <;> with_reducible rfl
  try simp only [Act.put, List.getElem_toArray, List.getElem_cons_succ, List.getElem_cons_zero, List.setIfInBounds_toArray, List.set_cons_zero, List.set_cons_succ]
  refine wpAnyH_ready (rs := [4, 6]) (by kernel_rfl) (by simp) ?_
  refine AllReadyH.cons rfl (fun K hK => ?_) (AllReadyH.cons rfl (fun K hK => ?_) AllReadyH.nil)
  · go_simp
    go_at_call 25
    refine (KP8.out _ (Below.refl _ w8).drew).mono ?_
    rintro e w9 ⟨rfl, hb9⟩
    have HB9 : Hid (Below w8.heap.size w8 w9) := Lib.hid (step (Below.refl w8.heap.size w8).drew hb9)
    refine hK.out _ _ (HT8.out _ HB9.out) (fun hHeld => ?_)
    clear hK K
    try simp only [Act.put, List.getElem_toArray, List.getElem_cons_succ, List.getElem_cons_zero, List.setIfInBounds_toArray, List.set_cons_zero, List.set_cons_succ]
    refine wpAnyH_ready (rs := [6]) (by kernel_rfl) (by simp) ?_
    refine AllReadyH.cons rfl (fun K hK => ?_) AllReadyH.nil
    go_simp
    have HB10 : Hid (Below w8.heap.size w8 (w9.alloc (.cells #[.int .i64 ac, .int .i64 sq, .int .i64 ak, .int .i64 an, .int .i64 ad, .slice a5 AN c5] 35))) := Lib.hid (stepAlloc HB9.out _)
    have HYI : Hid ((w9.alloc (.cells #[.int .i64 ac, .int .i64 sq, .int .i64 ak, .int .i64 an, .int .i64 ad, .slice a5 AN c5] 35)).heap[w9.heap.size]? = some (.cells #[.int .i64 ac, .int .i64 sq, .int .i64 ak, .int .i64 an, .int .i64 ad, .slice a5 AN c5] 35)) := Lib.hid (heap_alloc_new w9 _)
    refine hK.out _ _ (HT8.out _ HB10.out) (fun hHeld => ?_)
    clear hK K
    try simp only [Act.put, List.getElem_toArray, List.getElem_cons_succ, List.getElem_cons_zero, List.setIfInBounds_toArray, List.set_cons_zero, List.set_cons_succ]
    refine wpAnyH_ready (rs := [7]) (by kernel_rfl) (by simp) ?_
    refine AllReadyH.cons rfl (fun K hK => ?_) AllReadyH.nil
    go_simp
    go_at_call 24
    refine (HIN.out _ _ (HO8.out.later HB10.out) HB10.out HYI.out (own_ne_lt (HO8.out.later HB9.out).row (Nat.le_refl _))).mono ?_
    rintro e w11 ⟨v11, rfl, ho11, hg11⟩
    have HB11 : Hid (Below W1.heap.size W1 w11) := Lib.hid ((step HBF1.out HB10.out).grown hg11 (step HBF1.out HB10.out).size (fun g hg => (Rw.own_lt HO8.out.row g hg).1))
    obtain ⟨a9, c9, Q9, rfl, hr9, hq9⟩ := insM_done (HO8.out.later HB10.out) (y := ⟨⟨ac, sq, ⟨ak, an, ad, al⟩⟩, a5, c5⟩) (HHA.out _ HB10.out) hg11 ho11 HLE.out HSZ.out
    have HR9 := Lib.hid hr9
    have HQ9 : Hid (valsM Q9 = R) := Lib.hid (by rw [hq9, HV.out, HINS.out])
    refine hK.out _ _ (HTI.out _ _ HB10.out hg11) (fun hHeld => ?_)
    clear hK K ho11 hg11 hr9 hq9
    try simp only [Act.put, List.getElem_toArray, List.getElem_cons_succ, List.getElem_cons_zero, List.setIfInBounds_toArray, List.set_cons_zero, List.set_cons_succ]
    refine wpAnyH_take (i := 8) (v := ?_) rfl (by kernel_rfl) (by kernel_rfl) (by kernel_rfl) (fun _ _ _ h => h) (Or.inl ⟨by rfl, ?_⟩) (by assumption) ?_
    rotate_left
    · intro w hSw; (try dsimp only at hSw); go_simp <;> with_reducible rfl
    try simp only [Act.put, List.getElem_toArray, List.getElem_cons_succ, List.getElem_cons_zero, List.setIfInBounds_toArray, List.set_cons_zero, List.set_cons_succ]
    refine wpAnyH_done (by kernel_rfl) ?_ _
    go_wp2
    go_ret
    exact ⟨a9, c9, Q9, rfl, HQ9.out, HR9.out.lower HB.out.size, step HB.out HB11.out⟩
  · go_simp
    have HB9 : Hid (Below w8.heap.size w8 (w8.drew.alloc (.cells #[.int .i64 ac, .int .i64 sq, .int .i64 ak, .int .i64 an, .int .i64 ad, .slice a5 AN c5] 35))) := Lib.hid (stepAlloc (Below.refl w8.heap.size w8).drew _)
    have HY9 : Hid ((w8.drew.alloc (.cells #[.int .i64 ac, .int .i64 sq, .int .i64 ak, .int .i64 an, .int .i64 ad, .slice a5 AN c5] 35)).heap[w8.heap.size]? = some (.cells #[.int .i64 ac, .int .i64 sq, .int .i64 ak, .int .i64 an, .int .i64 ad, .slice a5 AN c5] 35)) := Lib.hid (heap_alloc_new w8.drew _)
    refine hK.out _ _ (HT8.out _ HB9.out) (fun hHeld => ?_)
    clear hK K
    try simp only [Act.put, List.getElem_toArray, List.getElem_cons_succ, List.getElem_cons_zero, List.setIfInBounds_toArray, List.set_cons_zero, List.set_cons_succ]
    refine wpAnyH_ready (rs := [4]) (by kernel_rfl) (by simp) ?_
    refine AllReadyH.cons rfl (fun K hK => ?_) AllReadyH.nil
    go_simp
    go_at_call 25
    refine (KP8.out _ HB9.out).mono ?_
    rintro e w10 ⟨rfl, hb10⟩
    have HB10 : Hid (Below w8.heap.size w8 w10) := Lib.hid (step HB9.out hb10)
    have HYI : Hid (w10.heap[w8.heap.size]? = some (.cells #[.int .i64 ac, .int .i64 sq, .int .i64 ak, .int .i64 an, .int .i64 ad, .slice a5 AN c5] 35)) := Lib.hid ((hb10.block w8.heap.size (by simp)).trans HY9.out)
    refine hK.out _ _ (HT8.out _ HB10.out) (fun hHeld => ?_)
    clear hK K
    try simp only [Act.put, List.getElem_toArray, List.getElem_cons_succ, List.getElem_cons_zero, List.setIfInBounds_toArray, List.set_cons_zero, List.set_cons_succ]
    refine wpAnyH_ready (rs := [7]) (by kernel_rfl) (by simp) ?_
    refine AllReadyH.cons rfl (fun K hK => ?_) AllReadyH.nil
    go_simp
    go_at_call 24
    refine (HIN.out _ _ (HO8.out.later HB10.out) HB10.out HYI.out (own_ne_lt HO8.out.row (Nat.le_refl _))).mono ?_
    rintro e w11 ⟨v11, rfl, ho11, hg11⟩
    have HB11 : Hid (Below W1.heap.size W1 w11) := Lib.hid ((step HBF1.out HB10.out).grown hg11 (step HBF1.out HB10.out).size (fun g hg => (Rw.own_lt HO8.out.row g hg).1))
    obtain ⟨a9, c9, Q9, rfl, hr9, hq9⟩ := insM_done (HO8.out.later HB10.out) (y := ⟨⟨ac, sq, ⟨ak, an, ad, al⟩⟩, a5, c5⟩) (HHA.out _ HB10.out) hg11 ho11 HLE.out HSZ.out
    have HR9 := Lib.hid hr9
    have HQ9 : Hid (valsM Q9 = R) := Lib.hid (by rw [hq9, HV.out, HINS.out])
    refine hK.out _ _ (HTI.out _ _ HB10.out hg11) (fun hHeld => ?_)
    clear hK K ho11 hg11 hr9 hq9
    try simp only [Act.put, List.getElem_toArray, List.getElem_cons_succ, List.getElem_cons_zero, List.setIfInBounds_toArray, List.set_cons_zero, List.set_cons_succ]
    refine wpAnyH_take (i := 8) (v := ?_) rfl (by kernel_rfl) (by kernel_rfl) (by kernel_rfl) (fun _ _ _ h => h) (Or.inl ⟨by rfl, ?_⟩) (by assumption) ?_
    rotate_left
    · intro w hSw; (try dsimp only at hSw); go_simp <;> with_reducible rfl
    try simp only [Act.put, List.getElem_toArray, List.getElem_cons_succ, List.getElem_cons_zero, List.setIfInBounds_toArray, List.set_cons_zero, List.set_cons_succ]
    refine wpAnyH_done (by kernel_rfl) ?_ _
    go_wp2
    go_ret
    exact ⟨a9, c9, Q9, rfl, HQ9.out, HR9.out.lower HB.out.size, step HB.out HB11.out⟩

/-- Keep, of right memos. -/
theorem MemKeep_own (v u : Value) (L : List MemC) (A : AnsV) (w : World) (h : RdM w v L) (hr : Rm (valsM L)) (h5 : L.length ≤ 1000) (hu : RdH w u A.rep.held) (h6 : A.rep.held.length ≤ 1000) :
    Calls Try.prog 9 #[v, ansVal A u] w (GetsO (keepM (valsM L) A) w) := by
  by_cases hno : mayA A = false ∨ freshM (valsM L) A.client A.seq ≠ 1
  · rw [keepM_no hno]
    exact MemKeep_no v u L A w h hr h5 hu hno
  · have h1 : mayA A = true := by
      cases q : mayA A with
      | true => rfl
      | false => exact absurd (Or.inl q) hno
    have h2 : freshM (valsM L) A.client A.seq = 1 := Decidable.byContradiction fun q => hno (Or.inr q)
    rw [keepM_yes h1 h2]
    rcases idxM_cases (valsM L) A.client with ⟨hi, _⟩ | ⟨k, hk, hi, he, _⟩
    · exact MemKeep_ins v u L A w h hr h5 hu h6 h1 h2 hi
    · have hk' : k < L.length := by rw [valsM_length] at hk; exact hk
      rw [valsM_get L k hk'] at he
      exact MemKeep_set v u L A w h hr h5 hu h6 h1 h2 k hk' hi he

theorem MemKeep_any (v u : Value) (L : List MemC) (A : AnsV) (w : World) (h : RdM w v L) (hr : Rm (valsM L)) (h5 : L.length ≤ 1000) (hu : RdH w u A.rep.held) (h6 : A.rep.held.length ≤ 1000) (h7 : ∀ x ∈ L, x.m.rep.held.length ≤ 1000) :
    Calls Try.prog 9 #[v, ansVal A u] w (GetsK (keepM (valsM L) A) w) := (MemKeep_own v u L A w h hr h5 hu h6).mono fun _ _ q => q.k
end Cm
end Go.Proofs.Ytfkpgndbohoogaa
