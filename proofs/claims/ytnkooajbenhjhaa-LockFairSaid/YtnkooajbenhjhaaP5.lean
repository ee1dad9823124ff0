/- Texts laid together by program: LokC, LokD, LokE. -/
import Derived.Test.YtnkooajbenhjhaaP4
import Derived.Deep.RegionHeld3
/- Contracts: padlockref6's TakeLock. -/
set_option linter.unusedVariables false
set_option linter.unusedSimpArgs false
namespace Go.Proofs.Ytnkooajbenhjhaa
open Go.RowKit
namespace Cm

/-- The line lies in memory of the call's own. -/
def NewI (base : Nat) (w : World) (u : Value) (l : List Int) : Prop := RdI w u l ∧ ∀ g, u.ownBlock = some g → base ≤ g ∧ ∃ cs, w.heap[g]? = some (.cells cs 3)

theorem NewI.own {base : Nat} {w : World} {u : Value} {l : List Int} (h : w.ownsRow base 3 1 u l.length (flatX cellsI l)) : NewI base w u l := by
  refine ⟨RdX.own cellsI_length h, fun g hg => ?_⟩
  rcases h.2 with ⟨rfl, _⟩ | ⟨g1, cap, cur, rfl, q0, q1, _⟩
  · cases hg
  · have r1 : g1 = g := by simpa [Value.ownBlock] using hg
    subst r1
    exact ⟨q0, cur, q1⟩
theorem NewI.nil (base : Nat) (w : World) : NewI base w (.slice none 0 0) [] := ⟨RdX.nil w, fun g hg => by cases hg⟩
theorem NewI.later {base : Nat} {w w' : World} {u : Value} {l : List Int} (h : NewI base w u l) (hb : Below w.heap.size w w') : NewI base w' u l := by
  refine ⟨h.1.later hb, fun g hg => ?_⟩
  obtain ⟨h1, cs, h2⟩ := h.2 g hg
  exact ⟨h1, cs, (hb.block g (Array.getElem?_eq_some_iff.1 h2).1).trans h2⟩

/-- Locks in memory of the call's own, each line too. -/
structure OwnN (base : Nat) (w : World) (v : Value) (M : List LockC) : Prop where
  row : w.ownsRow base 39 4 v M.length (flatX cellsK M)
  line : ∀ x ∈ M, NewI base w x.lv x.line
theorem OwnD.n {base : Nat} {w : World} {v : Value} {M : List LockC} (h : OwnD base w v M) : OwnN base w v M := ⟨h.row, fun x hx => NewI.own (h.line x hx)⟩
theorem OwnN.rd {base : Nat} {w : World} {v : Value} {M : List LockC} (h : OwnN base w v M) : RdK w v M := ⟨RdX.own cellsK_length h.row, fun x hx => (h.line x hx).1⟩
theorem OwnN.later {base : Nat} {w w' : World} {v : Value} {M : List LockC} (h : OwnN base w v M) (hb : Below w.heap.size w w') : OwnN base w' v M := ⟨Rw.own_below h.row hb, fun x hx => (h.line x hx).later hb⟩
theorem OwnN.nil (base : Nat) (w : World) : OwnN base w (.slice none 0 0) [] := (OwnD.nil base w).n

def GetsT (r : List LockV × Int × Int) (w : World) (e : Ending) (w' : World) : Prop :=
  ∃ v M, e = .returned (.tuple #[v, .int .i64 r.2.1, .int .i64 r.2.2]) ∧ vals M = r.1 ∧ OwnN w.heap.size w' v M ∧ Below w.heap.size w w'
theorem GetsT.empty {w w' : World} {e : Ending} {n c : Int} (he : e = .returned (.tuple #[.slice none 0 0, .int .i64 n, .int .i64 c])) (hb : Below w.heap.size w w') : GetsT ([], n, c) w e w' :=
  ⟨_, [], he, rfl, OwnN.nil _ _, hb⟩

theorem Copy_at (v : Value) (L : List LockC) (w : World) (N : Nat) (hN : L.length = N) (h : RdK w v L) (h5 : L.length ≤ 1000) (h6 : ∀ x ∈ L, x.line.length ≤ 1000) :
    Calls Try.prog 32 #[v] w (fun e w' => ∃ a c M, e = .returned (.slice a N c) ∧ M.length = N ∧ vals M = vals L ∧ OwnD w.heap.size w' (.slice a N c) M ∧ Below w.heap.size w w') := by
  refine (CopyK_any v L w h h5 h6).mono ?_
  rintro e w' ⟨u, M, rfl, hv, ho, hb⟩
  have hl : M.length = N := by rw [← hN, ← vals_length M, hv, vals_length]
  obtain ⟨a, c, rfl⟩ := Rw.own_form ho.row
  rw [hl] at ho
  exact ⟨a, c, M, by rw [hl], hl, hv, ho, hb⟩

theorem Find_at (a : Option Addr) (N c : Nat) (M : List LockC) (n : List UInt8) (w : World) (r : Int) (hr : idxI (isNm n) (vals M) = r) (h : RdX 4 cellsK w (.slice a N c) M) :
    Calls Try.prog 21 #[.slice a N c, .string (bstr n)] w (fun e w' => e = .returned (.int .i64 r) ∧ w' = w) := by
  rw [← hr]
  exact FindLock_any _ M n w h

theorem idx_cases {α : Type} (p : α → Bool) (l : List α) : idxI p l = -1 ∨ ∃ k, ∃ h : k < l.length, idxI p l = (k : Int) ∧ p l[k] = true := by
  unfold idxI
  split
  · rename_i h
    exact .inr ⟨_, h, rfl, List.findIdx_getElem⟩
  · exact .inl rfl

theorem getK_nat (l : List LockV) (k : Nat) (h : k < l.length) : getK l (k : Int) = l[k] := by
  unfold getK
  simp [List.getD, h]

/-- One lock's line written over in its row. -/
theorem ownK_line {w : World} {base g n cap : Nat} {M : List LockC} (h : w.ownsRow base 39 4 (.slice (some ⟨g, 0, none⟩) n cap) n (flatX cellsK M)) (k : Nat) (hk : k < M.length) (l : List Int) (a : Option Addr) (c : Nat) :
    (w.setCell ⟨g, k * 4 + 3, none⟩ (.slice a l.length c)).ownsRow base 39 4 (.slice (some ⟨g, 0, none⟩) n cap) n (flatX cellsK (M.set k ⟨M[k].name, M[k].holder, M[k].token, l, a, c⟩)) := by
  have h1 := (h.stored (k * 4 + 3) (.slice a l.length c)).1
  rw [flatX_set cellsK_length 3 (.slice a l.length c) (by omega) ⟨M[k].name, M[k].holder, M[k].token, l, a, c⟩ M k hk rfl] at h1
  exact h1

theorem ownK_at {w : World} {base g n cap : Nat} {M : List LockC} (h : w.ownsRow base 39 4 (.slice (some ⟨g, 0, none⟩) n cap) n (flatX cellsK M)) (hn : M.length = n) (k : Nat) (hk : k < M.length) :
    w.cell? ⟨g, k * 4, none⟩ = some (.string (bstr M[k].name)) ∧ w.cell? ⟨g, k * 4 + 1, none⟩ = some (.int .i64 M[k].holder) ∧ w.cell? ⟨g, k * 4 + 2, none⟩ = some (.int .i64 M[k].token) ∧ w.cell? ⟨g, k * 4 + 3, none⟩ = some M[k].lv ∧ ∀ j, w.frozen? ⟨g, j, none⟩ = false := by
  have a0 := h.cellAt (k * 4 + 0) (by omega)
  have a1 := h.cellAt (k * 4 + 1) (by omega)
  have a2 := h.cellAt (k * 4 + 2) (by omega)
  have a3 := h.cellAt (k * 4 + 3) (by omega)
  rw [flatX_get cellsK_length M k hk 0 (by omega)] at a0
  rw [flatX_get cellsK_length M k hk 1 (by omega)] at a1
  rw [flatX_get cellsK_length M k hk 2 (by omega)] at a2
  rw [flatX_get cellsK_length M k hk 3 (by omega)] at a3
  exact ⟨a0, a1, a2, a3, fun j => h.frozenAt j⟩

theorem own_k {base : Nat} {w : World} {a : Option Addr} {N c : Nat} {M L : List LockC} (ho : OwnD base w (.slice a N c) M) (hM : M.length = N) (hv : vals M = vals L) (k : Nat) (hk : k < L.length) :
    ∃ g ya yc, a = some ⟨g, 0, none⟩ ∧ base ≤ g ∧ (∃ hk' : k < M.length, M[k] = ⟨L[k].name, L[k].holder, L[k].token, L[k].line, ya, yc⟩) ∧
      w.cell? ⟨g, k * 4, none⟩ = some (.string (bstr L[k].name)) ∧ w.cell? ⟨g, k * 4 + 1, none⟩ = some (.int .i64 L[k].holder) ∧ w.cell? ⟨g, k * 4 + 2, none⟩ = some (.int .i64 L[k].token) ∧ w.cell? ⟨g, k * 4 + 3, none⟩ = some (.slice ya L[k].line.length yc) ∧
      (∀ j, w.frozen? ⟨g, j, none⟩ = false) ∧ w.ownsRow base 3 1 (.slice ya L[k].line.length yc) L[k].line.length (flatX cellsI L[k].line) := by
  have hl : M.length = L.length := by rw [← vals_length M, hv, vals_length]
  have hr := hM ▸ ho.row
  obtain ⟨g, rfl, hg⟩ := own_some (sz := 4) hr (by omega)
  have hk' : k < M.length := by omega
  have e1 := vals_get M k hk' (by rw [vals_length]; omega)
  have e2 := vals_get L k hk (by rw [vals_length]; omega)
  have e3 : (vals M)[k]'(by rw [vals_length]; omega) = (vals L)[k]'(by rw [vals_length]; omega) := by simp [hv]
  rw [e1, e2] at e3
  obtain ⟨q0, q1, q2, q3, qf⟩ := ownK_at hr hM k hk'
  have hli := ho.line _ (List.getElem_mem hk')
  generalize hx : M[k] = x at e3 q0 q1 q2 q3 hli
  obtain ⟨xn, xh, xt, xl, xa, xc⟩ := x
  unfold LockC.val at e3
  injection e3 with n1 n2 n3 n4
  dsimp only at n1 n2 n3 n4
  subst n1 n2 n3 n4
  exact ⟨g, xa, xc, rfl, hg, ⟨hk', hx⟩, q0, q1, q2, q3, qf, hli⟩

theorem own_set_other {w : World} {b1 b2 s1 s2 n1 n2 cap : Nat} {e1 e2 : TypeId} {v : Value} {xs ys : List Value} {g : Nat} (h : w.ownsRow b1 e1 s1 (.slice (some ⟨g, 0, none⟩) n1 cap) n1 xs) (h2 : w.ownsRow b2 e2 s2 v n2 ys) (hne : e1 ≠ e2) (j : Nat) (u : Value) :
    (w.setCell ⟨g, j, none⟩ u).ownsRow b2 e2 s2 v n2 ys :=
  Rw.own_keep h2 fun g' hg' => Below.heap_setCell w ⟨g, j, none⟩ u g' fun q => own_types h h2 hne g rfl (by rw [hg']; exact congrArg some q)

theorem OwnD.set_line {base : Nat} {w1 w2 w5 : World} {g N c1 : Nat} {M : List LockC} (ho : OwnD base w1 (.slice (some ⟨g, 0, none⟩) N c1) M) (hM : M.length = N) (k : Nat) (hk : k < M.length) (hb : Below w1.heap.size w1 w2)
    (hg : w2.grownBy w5 M[k].lv.ownBlock) (l : List Int) (a : Option Addr) (c : Nat) (hl : w5.ownsRow base 3 1 (.slice a l.length c) l.length (flatX cellsI l)) :
    OwnN base (w5.setCell ⟨g, k * 4 + 3, none⟩ (.slice a l.length c)) (.slice (some ⟨g, 0, none⟩) N c1) (M.set k ⟨M[k].name, M[k].holder, M[k].token, l, a, c⟩) := by
  subst hM
  have ho2 := ho.later hb
  have hr5 := Rw.own_other ho2.row hg (own_types (ho2.line _ (List.getElem_mem hk)) ho2.row (by decide))
  refine ⟨?_, fun x hx => ?_⟩
  · rw [List.length_set]
    exact ownK_line hr5 k hk l a c
  · obtain ⟨j, hj, e⟩ := List.getElem_of_mem hx
    rw [List.length_set] at hj
    rw [List.getElem_set] at e
    split at e
    · subst e
      exact NewI.own (own_set_other hr5 hl (by decide) _ _)
    · rename_i hne
      subst e
      have hl2 := ho2.line _ (List.getElem_mem hj)
      have hap : Rw.Apart M[k].lv M[j].lv := by
        have hp := List.pairwise_iff_getElem.1 ho.sep
        rcases Nat.lt_or_ge k j with q | q
        · exact hp k j hk hj q
        · exact (hp j k hj hk (by omega)).symm
      exact NewI.own (own_set_other hr5 (Rw.own_other hl2 hg hap) (by decide) _ _)

theorem join_facts {w w1 w2 w5 : World} {g N c1 : Nat} {M L : List LockC} {xn : List UInt8} {xh xt : Int} {xl : List Int} {ya : Option Addr} {yc : Nat} (ho : OwnD w.heap.size w1 (.slice (some ⟨g, 0, none⟩) N c1) M) (hM : M.length = N) (hV : vals M = vals L) (k : Nat)
    (hMk : ∃ hk : k < M.length, M[k] = ⟨xn, xh, xt, xl, ya, yc⟩) (hb : Below w.heap.size w w1) (hgw : w.heap.size ≤ g) (h12 : Below w1.heap.size w1 w2) (hg5 : w2.grownBy w5 (Value.slice ya xl.length yc).ownBlock)
    (l : List Int) (za : Option Addr) (zc : Nat) (ho5 : w5.ownsRow w.heap.size 3 1 (.slice za l.length zc) l.length (flatX cellsI l)) :
    (∃ u, w5.cell? ⟨g, k * 4 + 3, none⟩ = some u) ∧ w5.frozen? ⟨g, k * 4 + 3, none⟩ = false ∧
      ∀ p q : Int, GetsT ((vals L).set k ⟨xn, xh, xt, l⟩, p, q) w (.returned (.tuple #[.slice (some ⟨g, 0, none⟩) N c1, .int .i64 p, .int .i64 q])) (w5.setCell ⟨g, k * 4 + 3, none⟩ (.slice za l.length zc)) := by
  obtain ⟨hk, hMk⟩ := hMk
  have hlv : M[k].lv = .slice ya xl.length yc := by rw [hMk]; rfl
  have ho2 := ho.later h12
  have hly := ho2.line _ (List.getElem_mem hk)
  have hg5' : w2.grownBy w5 M[k].lv.ownBlock := by rw [hlv]; exact hg5
  have hr5 := Rw.own_other ho2.row hg5' (own_types hly ho2.row (by decide))
  rw [hM] at hr5
  obtain ⟨-, -, -, p3, pf⟩ := ownK_at hr5 hM k hk
  refine ⟨⟨_, p3⟩, pf _, fun p q => ⟨_, _, rfl, ?_, ho.set_line hM k hk h12 hg5' l za zc ho5, ?_⟩⟩
  · rw [vals_set, hV, hMk]
    rfl
  · refine (Below.grown (hb.trans (h12.mono hb.size)) hg5' (Nat.le_trans hb.size h12.size) (fun b hb' => (Rw.own_lt hly b hb').1)).setCell hgw _

section
variable (v : Value) (L : List LockC) (n : List UInt8) (c t : Int) (wt : Bool) (w : World)

set_option maxHeartbeats 4000000 in
theorem Take_full (h : RdK w v L) (h5 : L.length ≤ 1000) (h6 : ∀ x ∈ L, x.line.length ≤ 1000) (hi : idxI (isNm n) (vals L) = -1) (h4 : 4 ≤ L.length) :
    Calls Try.prog 12 #[v, .string (bstr n), .int .i64 c, .int .i64 t, .bool wt] w (GetsT ([], 0, 5) w) := by
  obtain ⟨N, hN⟩ : ∃ N, L.length = N := ⟨_, rfl⟩
  have CC := Lib.hid (Copy_at v L w N hN h h5 h6)
  have HI := Lib.hid hi
  have hm := h.len
  rw [hN] at h4 hm
  have d4 : decide ((4 : Int) ≤ (N : Int)) = true := by simp; omega
  clear h h5 h6 hi hN
  go_enter Try.func12, Try.ntmps12
  go_wp2_with (first
    | (go_at_call 32; refine CC.out.mono ?_; rintro e w1 ⟨a1, c1, M, rfl, hM, hv, ho, hb⟩; have HF := Lib.hid (Find_at a1 N c1 M n w1 (-1) (by rw [hv]; exact HI.out) ho.rd.row); have HB := Lib.hid hb; clear ho hb hv)
    | (go_at_call 21; refine HF.out.mono ?_; rintro e w2 ⟨rfl, rfl⟩))
  refine bodyPost_ret (by simp [results, Try.results12, go_sem] <;> rfl) rfl ?_
  exact GetsT.empty rfl HB.out

set_option maxHeartbeats 4000000 in
theorem Take_twice (k : Nat) (hk : k < L.length) (h : RdK w v L) (h5 : L.length ≤ 1000) (h6 : ∀ x ∈ L, x.line.length ≤ 1000) (hi : idxI (isNm n) (vals L) = (k : Int)) (hc : L[k].holder = c) :
    Calls Try.prog 12 #[v, .string (bstr n), .int .i64 c, .int .i64 t, .bool wt] w (GetsT ([], 0, 7) w) := by
  obtain ⟨N, hN⟩ : ∃ N, L.length = N := ⟨_, rfl⟩
  have CC := Lib.hid (Copy_at v L w N hN h h5 h6)
  have HI := Lib.hid hi
  have hm := h.len
  have hxl := h6 _ (List.getElem_mem hk)
  have HK := Lib.hid (fun (a : Option Addr) (c : Nat) (M : List LockC) (w' : World) (ho : OwnD w.heap.size w' (.slice a N c) M) (hM : M.length = N) (hv : vals M = vals L) => own_k ho hM hv k hk)
  have cc : (L[k].holder == c) = true := by simpa using hc
  clear hc
  rw [hN] at hm hk
  clear h h5 h6 hi hN
  generalize L[k] = x at *
  obtain ⟨xn, xh, xt, xl, xa, xc⟩ := x
  dsimp only at *
  go_enter Try.func12, Try.ntmps12
  have f1 : (0 : Int) ≤ (k : Int) := by omega
  have f2 : (k : Int) < (N : Int) := by omega
  go_wp2_with (first
    | (go_at_call 32; refine CC.out.mono ?_; rintro e w1 ⟨a1, c1, M, rfl, hM, hv, ho, hb⟩; have HF := Lib.hid (Find_at a1 N c1 M n w1 k (by rw [hv]; exact HI.out) ho.rd.row); obtain ⟨g, ya, yc, rfl, hg, hMk, q0, q1, q2, q3, qf, hly⟩ := HK.out _ _ _ _ ho hM hv; have HO := Lib.hid ho; have HMk := Lib.hid hMk; have HLY := Lib.hid hly; have HB := Lib.hid hb; have HV := Lib.hid hv; clear ho hb hv hly hMk)
    | (go_at_call 21; refine HF.out.mono ?_; rintro e w2 ⟨rfl, rfl⟩))
  refine bodyPost_ret (by simp [results, Try.results12, go_sem] <;> rfl) rfl ?_
  exact GetsT.empty rfl HB.out

set_option maxHeartbeats 4000000 in
theorem Take_busy (k : Nat) (hk : k < L.length) (h : RdK w v L) (h5 : L.length ≤ 1000) (h6 : ∀ x ∈ L, x.line.length ≤ 1000) (hi : idxI (isNm n) (vals L) = (k : Int)) (hc : L[k].holder ≠ c) (hw : wt = false) :
    Calls Try.prog 12 #[v, .string (bstr n), .int .i64 c, .int .i64 t, .bool wt] w (GetsT ([], 0, 8) w) := by
  obtain ⟨N, hN⟩ : ∃ N, L.length = N := ⟨_, rfl⟩
  have CC := Lib.hid (Copy_at v L w N hN h h5 h6)
  have HI := Lib.hid hi
  have hm := h.len
  have hxl := h6 _ (List.getElem_mem hk)
  have HK := Lib.hid (fun (a : Option Addr) (c : Nat) (M : List LockC) (w' : World) (ho : OwnD w.heap.size w' (.slice a N c) M) (hM : M.length = N) (hv : vals M = vals L) => own_k ho hM hv k hk)
  have cc : (L[k].holder == c) = false := by simpa using hc
  clear hc
  subst hw
  rw [hN] at hm hk
  clear h h5 h6 hi hN
  generalize L[k] = x at *
  obtain ⟨xn, xh, xt, xl, xa, xc⟩ := x
  dsimp only at *
  go_enter Try.func12, Try.ntmps12
  have f1 : (0 : Int) ≤ (k : Int) := by omega
  have f2 : (k : Int) < (N : Int) := by omega
  go_wp2_with (first
    | (go_at_call 32; refine CC.out.mono ?_; rintro e w1 ⟨a1, c1, M, rfl, hM, hv, ho, hb⟩; have HF := Lib.hid (Find_at a1 N c1 M n w1 k (by rw [hv]; exact HI.out) ho.rd.row); obtain ⟨g, ya, yc, rfl, hg, hMk, q0, q1, q2, q3, qf, hly⟩ := HK.out _ _ _ _ ho hM hv; have HO := Lib.hid ho; have HMk := Lib.hid hMk; have HLY := Lib.hid hly; have HB := Lib.hid hb; have HV := Lib.hid hv; clear ho hb hv hly hMk)
    | (go_at_call 21; refine HF.out.mono ?_; rintro e w2 ⟨rfl, rfl⟩))
  refine bodyPost_ret (by simp [results, Try.results12, go_sem] <;> rfl) rfl ?_
  exact GetsT.empty rfl HB.out

set_option maxHeartbeats 4000000 in
theorem Take_waits (k : Nat) (hk : k < L.length) (h : RdK w v L) (h5 : L.length ≤ 1000) (h6 : ∀ x ∈ L, x.line.length ≤ 1000) (hi : idxI (isNm n) (vals L) = (k : Int)) (hc : L[k].holder ≠ c) (hw : wt = true) (p : Int) (ha : aheadL L[k].line c = (p, true)) :
    Calls Try.prog 12 #[v, .string (bstr n), .int .i64 c, .int .i64 t, .bool wt] w (GetsT (vals L, p, 10) w) := by
  obtain ⟨N, hN⟩ : ∃ N, L.length = N := ⟨_, rfl⟩
  have CC := Lib.hid (Copy_at v L w N hN h h5 h6)
  have HI := Lib.hid hi
  have hm := h.len
  have hxl := h6 _ (List.getElem_mem hk)
  have HK := Lib.hid (fun (a : Option Addr) (c : Nat) (M : List LockC) (w' : World) (ho : OwnD w.heap.size w' (.slice a N c) M) (hM : M.length = N) (hv : vals M = vals L) => own_k ho hM hv k hk)
  have cc : (L[k].holder == c) = false := by simpa using hc
  clear hc
  subst hw
  have HA := Lib.hid ha
  clear ha
  rw [hN] at hm hk
  clear h h5 h6 hi hN
  generalize L[k] = x at *
  obtain ⟨xn, xh, xt, xl, xa, xc⟩ := x
  dsimp only at *
  go_enter Try.func12, Try.ntmps12
  have f1 : (0 : Int) ≤ (k : Int) := by omega
  have f2 : (k : Int) < (N : Int) := by omega
  go_wp2_with (first
    | (go_at_call 32; refine CC.out.mono ?_; rintro e w1 ⟨a1, c1, M, rfl, hM, hv, ho, hb⟩; have HF := Lib.hid (Find_at a1 N c1 M n w1 k (by rw [hv]; exact HI.out) ho.rd.row); obtain ⟨g, ya, yc, rfl, hg, hMk, q0, q1, q2, q3, qf, hly⟩ := HK.out _ _ _ _ ho hM hv; have HO := Lib.hid ho; have HMk := Lib.hid hMk; have HLY := Lib.hid hly; have HB := Lib.hid hb; have HV := Lib.hid hv; clear ho hb hv hly hMk)
    | (go_at_call 21; refine HF.out.mono ?_; rintro e w2 ⟨rfl, rfl⟩)
    | (go_at_call 29; refine (Ahead_any _ xl c _ (RdX.own cellsI_length HLY.out)).mono ?_; rw [HA.out]; rintro e w2 ⟨rfl, rfl⟩))
  refine bodyPost_ret (by simp [results, Try.results12, go_sem] <;> rfl) rfl ?_
  exact ⟨_, M, rfl, HV.out, HO.out.n, HB.out⟩

set_option maxHeartbeats 4000000 in
theorem Take_line (k : Nat) (hk : k < L.length) (h : RdK w v L) (h5 : L.length ≤ 1000) (h6 : ∀ x ∈ L, x.line.length ≤ 1000) (hi : idxI (isNm n) (vals L) = (k : Int)) (hc : L[k].holder ≠ c) (hw : wt = true) (p : Int) (ha : aheadL L[k].line c = (p, false)) (h3 : 3 ≤ L[k].line.length) :
    Calls Try.prog 12 #[v, .string (bstr n), .int .i64 c, .int .i64 t, .bool wt] w (GetsT ([], 0, 5) w) := by
  obtain ⟨N, hN⟩ : ∃ N, L.length = N := ⟨_, rfl⟩
  have CC := Lib.hid (Copy_at v L w N hN h h5 h6)
  have HI := Lib.hid hi
  have hm := h.len
  have hxl := h6 _ (List.getElem_mem hk)
  have HK := Lib.hid (fun (a : Option Addr) (c : Nat) (M : List LockC) (w' : World) (ho : OwnD w.heap.size w' (.slice a N c) M) (hM : M.length = N) (hv : vals M = vals L) => own_k ho hM hv k hk)
  have cc : (L[k].holder == c) = false := by simpa using hc
  clear hc
  subst hw
  have HA := Lib.hid ha
  clear ha
  have d3 : decide ((3 : Int) ≤ (L[k].line.length : Int)) = true := by simp; omega
  rw [hN] at hm hk
  clear h h5 h6 hi hN
  generalize L[k] = x at *
  obtain ⟨xn, xh, xt, xl, xa, xc⟩ := x
  dsimp only at *
  go_enter Try.func12, Try.ntmps12
  have f1 : (0 : Int) ≤ (k : Int) := by omega
  have f2 : (k : Int) < (N : Int) := by omega
  go_wp2_with (first
    | (go_at_call 32; refine CC.out.mono ?_; rintro e w1 ⟨a1, c1, M, rfl, hM, hv, ho, hb⟩; have HF := Lib.hid (Find_at a1 N c1 M n w1 k (by rw [hv]; exact HI.out) ho.rd.row); obtain ⟨g, ya, yc, rfl, hg, hMk, q0, q1, q2, q3, qf, hly⟩ := HK.out _ _ _ _ ho hM hv; have HO := Lib.hid ho; have HMk := Lib.hid hMk; have HLY := Lib.hid hly; have HB := Lib.hid hb; have HV := Lib.hid hv; clear ho hb hv hly hMk)
    | (go_at_call 21; refine HF.out.mono ?_; rintro e w2 ⟨rfl, rfl⟩)
    | (go_at_call 29; refine (Ahead_any _ xl c _ (RdX.own cellsI_length HLY.out)).mono ?_; rw [HA.out]; rintro e w2 ⟨rfl, rfl⟩))
  refine bodyPost_ret (by simp [results, Try.results12, go_sem] <;> rfl) rfl ?_
  exact GetsT.empty rfl HB.out

set_option maxHeartbeats 4000000 in
theorem Take_join (k : Nat) (hk : k < L.length) (h : RdK w v L) (h5 : L.length ≤ 1000) (h6 : ∀ x ∈ L, x.line.length ≤ 1000) (hi : idxI (isNm n) (vals L) = (k : Int)) (hc : L[k].holder ≠ c) (hw : wt = true) (p : Int) (ha : aheadL L[k].line c = (p, false)) (h3 : ¬ 3 ≤ L[k].line.length) :
    Calls Try.prog 12 #[v, .string (bstr n), .int .i64 c, .int .i64 t, .bool wt] w (GetsT ((vals L).set k ⟨L[k].name, L[k].holder, L[k].token, L[k].line ++ [c]⟩, L[k].line.length, 10) w) := by
  obtain ⟨N, hN⟩ : ∃ N, L.length = N := ⟨_, rfl⟩
  have CC := Lib.hid (Copy_at v L w N hN h h5 h6)
  have HI := Lib.hid hi
  have hm := h.len
  have HK := Lib.hid (fun (a : Option Addr) (c : Nat) (M : List LockC) (w' : World) (ho : OwnD w.heap.size w' (.slice a N c) M) (hM : M.length = N) (hv : vals M = vals L) => own_k ho hM hv k hk)
  have cc : (L[k].holder == c) = false := by simpa using hc
  clear hc
  subst hw
  have HA := Lib.hid ha
  clear ha
  have d3 : decide ((3 : Int) ≤ (L[k].line.length : Int)) = false := by simp; omega
  have h3' : L[k].line.length ≤ 2 := by omega
  rw [hN] at hm hk
  have HL2 := Lib.hid hN
  clear h h5 h6 hi hN h3
  have HX : Hid (∃ x, x = L[k]'(by rw [HL2.out]; exact hk)) := Lib.hid ⟨_, rfl⟩
  generalize L[k]'(by rw [HL2.out]; exact hk) = x at *
  obtain ⟨xn, xh, xt, xl, xa, xc⟩ := x
  dsimp only at *
  obtain ⟨i0, hi, hz0, hz1, hz2⟩ := info_parts infoN
  go_enter Try.func12, Try.ntmps12
  have f1 : (0 : Int) ≤ (k : Int) := by omega
  have f2 : (k : Int) < (N : Int) := by omega
  go_wp2_with (first
    | (go_at_call 32; refine CC.out.mono ?_; rintro e w1 ⟨a1, c1, M, rfl, hM, hv, ho, hb⟩; have HF := Lib.hid (Find_at a1 N c1 M n w1 k (by rw [hv]; exact HI.out) ho.rd.row); obtain ⟨g, ya, yc, rfl, hg, hMk, q0, q1, q2, q3, qf, hly⟩ := HK.out _ _ _ _ ho hM hv; have HO := Lib.hid ho; have HMk := Lib.hid hMk; have HLY := Lib.hid hly; have HB := Lib.hid hb; have HV := Lib.hid hv; have q3' := ((newAlloc w1 (.cells #[.int .i64 c] 3)).cell (p := ⟨g, k * 4 + 3, none⟩) (lt_of_cell q3)).trans q3; clear ho hb hv hly hMk)
    | (go_at_call 21; refine HF.out.mono ?_; rintro e w2 ⟨rfl, rfl⟩)
    | (go_at_call 29; refine (Ahead_any _ xl c _ (RdX.own cellsI_length HLY.out)).mono ?_; rw [HA.out]; rintro e w2 ⟨rfl, rfl⟩)
    | (at_builtin; refine wpList_append_one_gr cellsI_length (by omega) rfl (.tmp 114) (.tmp 116) 35 rfl 3 i0 _ 8 Try.underlying35 hi hz0 hz1 hz2 rfl #[.int .i64 c] c rfl (cellsI_one _) xl w.heap.size _ rfl rfl HLY.out (by unfold maxLen; omega) (by omega) HB.out.size ?_; intro v5 w5 ho5 hg5 _; obtain ⟨za, zc, rfl⟩ := Rw.own_form ho5; obtain ⟨⟨u5, p3⟩, pf3, hfin⟩ := join_facts HO.out hM HV.out k HMk.out HB.out hg (newAlloc _ _) hg5 (xl ++ [c]) za zc ho5; have HFIN := Lib.hid hfin; clear hfin ho5 hg5))
  refine bodyPost_ret (by simp [results, Try.results12, go_sem] <;> rfl) rfl ?_
  have hf := HFIN.out xl.length 10
  rw [List.length_append, List.length_singleton] at hf
  exact hf
end
end Cm
end Go.Proofs.Ytnkooajbenhjhaa

/- Contracts: padlockref6's TakeLock, of a lock that there is not; all of it. -/
set_option linter.unusedVariables false
set_option linter.unusedSimpArgs false
namespace Go.Proofs.Ytnkooajbenhjhaa
open Go.RowKit
namespace Cm

def zeroC : LockC := ⟨[], 0, 0, [], none, 0⟩

/-- One lock written over in its row. -/
theorem ownK_put {w : World} {base g n cap : Nat} {M : List LockC} (h : w.ownsRow base 39 4 (.slice (some ⟨g, 0, none⟩) n cap) n (flatX cellsK M)) (k : Nat) (hk : k < M.length) (y : LockC) :
    ((((w.setCell ⟨g, k * 4, none⟩ (.string (bstr y.name))).setCell ⟨g, k * 4 + 1, none⟩ (.int .i64 y.holder)).setCell ⟨g, k * 4 + 2, none⟩ (.int .i64 y.token)).setCell ⟨g, k * 4 + 3, none⟩ y.lv).ownsRow base 39 4 (.slice (some ⟨g, 0, none⟩) n cap) n (flatX cellsK (M.set k y)) := by
  have h1 := (h.stored (k * 4) (.string (bstr y.name))).1
  have h2 := (h1.stored (k * 4 + 1) (.int .i64 y.holder)).1
  have h3 := (h2.stored (k * 4 + 2) (.int .i64 y.token)).1
  have h4 := (h3.stored (k * 4 + 3) y.lv).1
  have e : ((((flatX cellsK M).set (k * 4) (.string (bstr y.name))).set (k * 4 + 1) (.int .i64 y.holder)).set (k * 4 + 2) (.int .i64 y.token)).set (k * 4 + 3) y.lv = flatX cellsK (M.set k y) := by
    have a1 := flatX_set cellsK_length 0 (.string (bstr y.name)) (by omega) ⟨y.name, M[k].holder, M[k].token, M[k].line, M[k].la, M[k].lc⟩ M k hk rfl
    rw [Nat.add_zero] at a1
    rw [a1]
    have k1 : k < (M.set k ⟨y.name, M[k].holder, M[k].token, M[k].line, M[k].la, M[k].lc⟩).length := by rw [List.length_set]; exact hk
    rw [flatX_set cellsK_length 1 (.int .i64 y.holder) (by omega) ⟨y.name, y.holder, M[k].token, M[k].line, M[k].la, M[k].lc⟩ _ k k1 (by rw [List.getElem_set_self]; rfl), List.set_set]
    have k2 : k < (M.set k ⟨y.name, y.holder, M[k].token, M[k].line, M[k].la, M[k].lc⟩).length := by rw [List.length_set]; exact hk
    rw [flatX_set cellsK_length 2 (.int .i64 y.token) (by omega) ⟨y.name, y.holder, y.token, M[k].line, M[k].la, M[k].lc⟩ _ k k2 (by rw [List.getElem_set_self]; rfl), List.set_set]
    have k3 : k < (M.set k ⟨y.name, y.holder, y.token, M[k].line, M[k].la, M[k].lc⟩).length := by rw [List.length_set]; exact hk
    rw [flatX_set cellsK_length 3 y.lv (by omega) y _ k k3 (by rw [List.getElem_set_self]; rfl), List.set_set]
  rw [e] at h4
  exact h4

/-- What moves up to make room, from the end on: down to place j all has been moved. -/
def roomK (M : List LockC) (j : Nat) : List LockC := (M ++ [zeroC]).take (j + 1) ++ M.drop j
theorem roomK_all (M : List LockC) : roomK M M.length = M ++ [zeroC] := by
  unfold roomK
  rw [List.drop_length, List.append_nil, List.take_of_length_le (by simp)]
theorem roomK_length (M : List LockC) (j : Nat) (h : j ≤ M.length) : (roomK M j).length = M.length + 1 := by
  unfold roomK
  rw [List.length_append, List.length_take, List.length_append, List.length_drop]
  simp
  omega
theorem roomK_get (M : List LockC) (q : Nat) (h : q + 1 ≤ M.length) (h' : q < (roomK M (q + 1)).length) : (roomK M (q + 1))[q] = M[q] := by
  unfold roomK at h' ⊢
  rw [List.getElem_append_left (by rw [List.length_take, List.length_append]; simp; omega), List.getElem_take, List.getElem_append_left (by omega)]
theorem roomK_move (M : List LockC) (q : Nat) (h : q + 1 ≤ M.length) : (roomK M (q + 1)).set (q + 1) M[q] = roomK M q := by
  unfold roomK
  have e1 : (M ++ [zeroC]).take (q + 1 + 1) = (M ++ [zeroC]).take (q + 1) ++ [(M ++ [zeroC])[q + 1]'(by simp; omega)] := List.take_succ_eq_append_getElem (by simp; omega)
  have hl : ((M ++ [zeroC]).take (q + 1)).length = q + 1 := by rw [List.length_take]; simp; omega
  rw [e1, List.append_assoc, List.set_append_right _ _ (by omega), hl, Nat.sub_self]
  have e2 : M.drop q = M[q] :: M.drop (q + 1) := List.drop_eq_getElem_cons (by omega)
  rw [e2]
  rfl
theorem roomK_set (M : List LockC) (k : Nat) (h : k ≤ M.length) (y : LockC) : (roomK M k).set k y = M.take k ++ y :: M.drop k := by
  unfold roomK
  have e1 : (M ++ [zeroC]).take (k + 1) = (M ++ [zeroC]).take k ++ [(M ++ [zeroC])[k]'(by simp; omega)] := List.take_succ_eq_append_getElem (by simp; omega)
  have hl : ((M ++ [zeroC]).take k).length = k := by rw [List.length_take]; simp; omega
  rw [e1, List.append_assoc, List.set_append_right _ _ (by omega), hl, Nat.sub_self, List.take_append_of_le_length h]
  rfl

theorem ownK_cell {w : World} {base g n cap : Nat} {M : List LockC} (h : w.ownsRow base 39 4 (.slice (some ⟨g, 0, none⟩) n cap) n (flatX cellsK M)) (k : Nat) (hk : k < M.length) (j : Nat) (hj : j < 4) (u : Value) (y : LockC) (e : (cellsK M[k]).set j u = cellsK y) :
    (w.setCell ⟨g, k * 4 + j, none⟩ u).ownsRow base 39 4 (.slice (some ⟨g, 0, none⟩) n cap) n (flatX cellsK (M.set k y)) := by
  have h1 := (h.stored (k * 4 + j) u).1
  rw [flatX_set cellsK_length j u hj y M k hk e] at h1
  exact h1

theorem grown_set {a w : World} {g : Nat} (h : a.grownBy w (some g)) (j : Nat) (u : Value) : a.grownBy (w.setCell ⟨g, j, none⟩ u) (some g) := by
  refine ⟨h.os, h.tape, h.output, by simpa using h.size, fun k hk hne => ?_⟩
  rw [Below.heap_setCell w ⟨g, j, none⟩ u k (fun q => hne (congrArg some q))]
  exact h.block k hk hne

/-- Locks some of which are new, without lines: what is told. -/
theorem room_done {w w4 wf : World} {g n n' c c' : Nat} {M M' : List LockC} {xs : List Value} (hr4 : w4.ownsRow w.heap.size 39 4 (.slice (some ⟨g, 0, none⟩) n c) n xs) (hl : ∀ x ∈ M, w4.ownsRow w.heap.size 3 1 x.lv x.line.length (flatX cellsI x.line))
    (hb : Below w.heap.size w w4) (hg : w4.grownBy wf (some g)) (hrf : wf.ownsRow w.heap.size 39 4 (.slice (some ⟨g, 0, none⟩) n' c') n' (flatX cellsK M')) (hn : M'.length = n') (hM : ∀ x ∈ M', x ∈ M ∨ NewI w.heap.size wf x.lv x.line) :
    OwnN w.heap.size wf (.slice (some ⟨g, 0, none⟩) n' c') M' ∧ Below w.heap.size w wf := by
  refine ⟨⟨by rw [hn]; exact hrf, fun x hx => ?_⟩, hb.grown hg hb.size (fun k hk => by cases hk; exact (Rw.own_lt hr4 g rfl).1)⟩
  rcases hM x hx with q | q
  · exact NewI.own (Rw.own_keep (hl x q) fun g' hg' => hg.block g' (Rw.own_lt (hl x q) g' hg').2 fun e => own_types hr4 (hl x q) (by decide) g rfl (by rw [hg']; exact e))
  · exact q

theorem app_facts {base : Nat} {w1 w4 : World} {a : Option Addr} {N c : Nat} {M : List LockC} {o : Obj} (ho : OwnD base w1 (.slice a N c) M) (hg : (w1.alloc o).grownBy w4 (Value.slice a N c).ownBlock) :
    (∀ x ∈ M, w4.ownsRow base 3 1 x.lv x.line.length (flatX cellsI x.line)) ∧ ∀ w : World, Below w.heap.size w w1 → w.heap.size ≤ base → Below w.heap.size w w4 := by
  refine ⟨fun x hx => Rw.own_other (Rw.own_alloc (ho.line x hx) _) hg (own_types ho.row (ho.line x hx) (by decide)), fun w hb hbs => ?_⟩
  exact (stepAlloc hb _).grown hg (by have := hb.size; simp; omega) (fun b hb' => Nat.le_trans hbs (Rw.own_lt ho.row b hb').1)

set_option maxRecDepth 2000 in
set_option maxHeartbeats 4000000 in
theorem Take_new (v : Value) (L : List LockC) (n : List UInt8) (c t : Int) (wt : Bool) (w : World) (h : RdK w v L) (h5 : L.length ≤ 1000) (h6 : ∀ x ∈ L, x.line.length ≤ 1000) (hi : idxI (isNm n) (vals L) = -1) (h4 : ¬ 4 ≤ L.length) (ht : 0 ≤ t ∧ t ≤ 4611686018427387904) :
    Calls Try.prog 12 #[v, .string (bstr n), .int .i64 c, .int .i64 t, .bool wt] w (GetsT (putK ⟨n, c, t + 1, []⟩ (vals L), 0, 0) w) := by
  obtain ⟨N, hN⟩ : ∃ N, L.length = N := ⟨_, rfl⟩
  have CC := Lib.hid (Copy_at v L w N hN h h5 h6)
  have HI := Lib.hid hi
  have hm := h.len
  have HPL := Lib.hid (placeK_lt n (vals L))
  have HPA := Lib.hid (placeK_at n (vals L))
  have hp := placeK_le n (vals L)
  have HPP := Lib.hid (putK_place ⟨n, c, t + 1, []⟩ (vals L))
  rw [vals_length, hN] at hp
  rw [hN] at h4 hm
  have d4 : decide ((4 : Int) ≤ (N : Int)) = false := by simp; omega
  have h4' : N ≤ 3 := by omega
  have HNN := Lib.hid hN
  have hw1 : IntKind.i64.wrap (t + 1) = t + 1 := by rw [IntKind.wrap_i64]; omega
  have HT := Lib.hid ht
  clear h h5 h6 hi hN h4 ht
  obtain ⟨i1, hi', hz0', hz1', hz2'⟩ := info_parts infoK
  dsimp only at HPP
  generalize placeK n (vals L) = P at *
  go_enter Try.func12, Try.ntmps12
  go_wp2_with (first
    | (go_at_call 32; refine CC.out.mono ?_; rintro e w1 ⟨a1, c1, M, rfl, hM, hv, ho, hb⟩; have HF := Lib.hid (Find_at a1 N c1 M n w1 (-1) (by rw [hv]; exact HI.out) ho.rd.row); have HB := Lib.hid hb; have HO := Lib.hid ho; have HV := Lib.hid hv; clear ho hb hv)
    | (go_at_call 21; refine HF.out.mono ?_; rintro e w2 ⟨rfl, rfl⟩))
  have HA := Lib.hid (fun i hi => rdk_at HO.out.rd.row i hi)
  go_loop [15] (fun i => ∃ k : Nat, k ≤ P ∧ i = .int .i64 k) (fun i => N - (intOf i).toNat)
  case atStart => exact ⟨0, Nat.zero_le _, rfl⟩
  case round =>
    obtain ⟨k, hk, rfl⟩ := hrel
    by_cases hlt : k < P
    · have hkM : k < M.length := by omega
      obtain ⟨b, o, rfl, hc⟩ := HA.out k hkM
      obtain ⟨q0, -⟩ := hc _ (Below.refl _ _)
      have hle : Op.bytesLess M[k].name n = true := by
        have := HPL.out k (by rw [vals_length, HNN.out]; omega) hlt
        have e1 := vals_get M k hkM (by rw [vals_length]; omega)
        have e3 : (vals M)[k]'(by rw [vals_length]; omega) = (vals L)[k]'(by rw [vals_length, HNN.out]; omega) := by simp [HV.out]
        rw [← e3, e1] at this
        exact this
      have hE := str_less M[k].name n
      rw [hle] at hE
      clear hc HA hle
      generalize M[k].name = xn at q0 hE
      have f2 : (k : Int) < (N : Int) := by omega
      have f1 : (0 : Int) ≤ (k : Int) := by omega
      go_wp2
      go_round
      case rel => exact ⟨k + 1, by omega, by go_num⟩
      case measure => simp [intOf]; omega
    · obtain rfl : k = P := by omega
      by_cases hkN : k < N
      case' pos =>
        have hkM : k < M.length := by omega
        obtain ⟨b, o, rfl, hc⟩ := HA.out k hkM
        obtain ⟨q0, -⟩ := hc _ (Below.refl _ _)
        have hle : Op.bytesLess M[k].name n = false := by
          have := HPA.out (by rw [vals_length, HNN.out]; omega)
          have e1 := vals_get M k hkM (by rw [vals_length]; omega)
          have e3 : (vals M)[k]'(by rw [vals_length]; omega) = (vals L)[k]'(by rw [vals_length, HNN.out]; omega) := by simp [HV.out]
          rw [← e3, e1] at this
          exact this
        have hE := str_less M[k].name n
        rw [hle] at hE
        clear hc HA hle
        generalize M[k].name = xn at q0 hE
        have f2 : (k : Int) < (N : Int) := by omega
        have f1 : (0 : Int) ≤ (k : Int) := by omega
        go_upto_region 9 with fail
        clear hE q0 f1 f2 hkM
      case' neg =>
        have hkN2 : k = N := by omega
        have d0 : decide ((k : Int) < (N : Int)) = false := by simp; omega
        clear HA
        go_upto_region 9 with fail
        clear d0 hkN2
      all_goals
        clear HPL HPA hkN
        have hMM := hM
        have HMM := Lib.hid hM
        go_upto_region 10 with (at_builtin; refine wpList_append_one_gr cellsK_length (by omega) rfl (.tmp 44) (.tmp 46) 24 rfl 39 i1 _ 56 Try.underlying24 hi' hz0' hz1' hz2' rfl _ zeroC rfl (cellsK_one _) M w.heap.size _ rfl rfl HO.out.row (by unfold maxLen; omega) (by omega) HB.out.size ?_; intro v4 w4 ho4 hg4 _)
        have hlen1 : (M ++ [zeroC]).length = N + 1 := by rw [List.length_append, hM]; rfl
        obtain ⟨a4, c4, rfl⟩ := Rw.own_form ho4
        rw [hlen1] at ho4
        obtain ⟨g, rfl, hg⟩ := own_some (sz := 4) ho4 (by omega)
        obtain ⟨hl4, hb4⟩ := app_facts HO.out hg4
        have HL4 := Lib.hid hl4
        have HB4 := Lib.hid (hb4 w HB.out (Nat.le_refl _))
        clear hl4 hb4
        have HO4 : Hid (w4.ownsRow w.heap.size 39 4 (.slice (some ⟨g, 0, none⟩) (N + 1) c4) (N + 1) (flatX cellsK (roomK M N))) := Lib.hid (by rw [← hM, roomK_all, hM]; exact ho4)
        have HRL := Lib.hid (fun j (hj : j ≤ N) => (roomK_length M j (by omega)).trans (by rw [hM]))
        have HRG := Lib.hid (fun q (hq : q + 1 ≤ N) => roomK_get M q (by omega))
        have HRM := Lib.hid (fun q (hq : q + 1 ≤ N) => roomK_move M q (by omega))
        have HRS := Lib.hid (fun y => roomK_set M k (by omega) y)
        have hcap : N + 1 ≤ c4 := by
          rcases ho4.2 with ⟨q, _⟩ | ⟨g', cap', cur, q1, q2, q3, q4, _⟩
          · cases q
          · cases q1; exact q4
        clear ho4 hg4 HO HB HF HI CC
        have w1' : IntKind.i64.wrap (((N + 1 : Nat) : Int) - 1) = (N : Int) := by rw [IntKind.wrap_i64]; omega
        go_upto_region 11 with fail
        go_loopw [16] (fun i wr => ∃ j : Nat, k ≤ j ∧ j ≤ N ∧ i = .int .i64 j ∧ Hid (wr.ownsRow w.heap.size 39 4 (.slice (some ⟨g, 0, none⟩) (N + 1) c4) (N + 1) (flatX cellsK (roomK M j))) ∧ Hid (w4.grownBy wr (some g))) (fun i _ => (intOf i).toNat)
        case atStart => exact ⟨N, by omega, by omega, rfl, HO4, Lib.hid (World.grownBy.refl _ _)⟩
        case round =>
          obtain ⟨j, hkj, hjN, rfl, HR, HG⟩ := hrel
          by_cases hlt : k < j
          · obtain ⟨q, rfl⟩ : ∃ q, j = q + 1 := ⟨j - 1, by omega⟩
            have hrl := HRL.out (q + 1) hjN
            obtain ⟨q0, q1, q2, q3, qf⟩ := ownK_at HR.out hrl q (by omega)
            have hgq := HRG.out q hjN (by omega)
            have hmv := HRM.out q hjN
            rw [hgq] at q0 q1 q2 q3
            have HP := Lib.hid (fun y => ownK_put HR.out (q + 1) (by omega) y)
            obtain ⟨p0, p1, p2, p3, pf⟩ := ownK_at HR.out hrl (q + 1) (by omega)
            generalize M[q] = x at q0 q1 q2 q3 hmv
            obtain ⟨xn, xh, xt, xl, xa, xc⟩ := x
            unfold LockC.lv at q3
            dsimp only at q0 q1 q2 q3
            have HP := Lib.hid (HP.out ⟨xn, xh, xt, xl, xa, xc⟩)
            rw [hmv] at HP
            unfold LockC.lv at HP
            dsimp only at HP
            generalize (roomK M (q + 1))[q + 1] = y at p0 p1 p2 p3
            unfold LockC.lv at p3
            have e1 : IntKind.i64.wrap (((q + 1 : Nat) : Int) - 1) = (q : Int) := by rw [IntKind.wrap_i64]; omega
            have f1 : (0 : Int) ≤ (q : Int) := by omega
            have f2 : (q : Int) < ((N + 1 : Nat) : Int) := by omega
            have f3 : ((q + 1 : Nat) : Int) < ((N + 1 : Nat) : Int) := by omega
            have f4 : (0 : Int) ≤ ((q + 1 : Nat) : Int) := by omega
            have f5 : (k : Int) < ((q + 1 : Nat) : Int) := by omega
            clear hmv hgq hrl
            go_wp2
            go_roundw
            case rel => exact ⟨q, by omega, by omega, rfl, HP, Lib.hid (grown_set (grown_set (grown_set (grown_set HG.out _ _) _ _) _ _) _ _)⟩
            case measure => simp [intOf]
          · obtain rfl : j = k := by omega
            have d0 : decide ((j : Int) < (j : Int)) = false := by simp
            have hrl := HRL.out j hjN
            obtain ⟨p0, p1, p2, p3, pf⟩ := ownK_at HR.out hrl j (by omega)
            have hp := ownK_put HR.out j (by omega) ⟨n, c, t + 1, [], none, 0⟩
            rw [HRS.out] at hp
            unfold LockC.lv at hp
            dsimp only [List.length_nil] at hp
            have HP := Lib.hid hp
            have hnl : (M.take j ++ (⟨n, c, t + 1, [], none, 0⟩ : LockC) :: M.drop j).length = N + 1 := by
              rw [← HRS.out, List.length_set]; exact hrl
            have HD := Lib.hid (room_done HO4.out HL4.out HB4.out (grown_set (grown_set (grown_set (grown_set HG.out _ _) _ _) _ _) _ _) HP.out hnl (fun x hx => by
              rcases List.mem_append.1 hx with q | q
              · exact .inl (List.mem_of_mem_take q)
              · rcases List.mem_cons.1 q with q | q
                · subst q; exact .inr (NewI.nil _ _)
                · exact .inl (List.mem_of_mem_drop q)))
            have HVF : Hid (vals (M.take j ++ (⟨n, c, t + 1, [], none, 0⟩ : LockC) :: M.drop j) = putK ⟨n, c, t + 1, []⟩ (vals L)) := Lib.hid (by
              rw [HPP.out, ← HV.out, ← vals_take, ← vals_drop]
              unfold vals
              rw [List.map_append, List.map_cons]
              rfl)
            generalize (roomK M j)[j] = y at p0 p1 p2 p3
            unfold LockC.lv at p3
            have f1 : (0 : Int) ≤ (j : Int) := by omega
            have f2 : (j : Int) < ((N + 1 : Nat) : Int) := by omega
            clear hp hnl hrl HRS HRL HRG HRM
            go_wp2
            refine bodyPost_ret (by simp [results, Try.results12, go_sem] <;> rfl) rfl ?_
            exact ⟨_, _, rfl, HVF.out, HD.out.1, HD.out.2⟩

theorem TakeLock_any (v : Value) (L : List LockC) (n : List UInt8) (c t : Int) (wt : Bool) (w : World) (h : RdK w v L) (h5 : L.length ≤ 1000) (h6 : ∀ x ∈ L, x.line.length ≤ 1000) (ht : 0 ≤ t ∧ t ≤ 4611686018427387904) :
    Calls Try.prog 12 #[v, .string (bstr n), .int .i64 c, .int .i64 t, .bool wt] w (GetsT (takeK (vals L) n c t wt) w) := by
  rcases idx_cases (isNm n) (vals L) with hi | ⟨k, hk, hi, -⟩
  · unfold takeK
    rw [if_pos (by omega), vals_length]
    by_cases h4 : 4 ≤ L.length
    · rw [if_pos h4]
      exact Take_full v L n c t wt w h h5 h6 hi h4
    · rw [if_neg h4]
      exact Take_new v L n c t wt w h h5 h6 hi h4 ht
  · have hg := getK_nat (vals L) k hk
    unfold takeK
    rw [hi, if_neg (by omega), hg]
    rw [vals_length] at hk
    rw [vals_get L k hk]
    unfold LockC.val
    dsimp only
    by_cases h1 : L[k].holder = c
    · rw [if_pos h1]
      exact Take_twice v L n c t wt w k hk h h5 h6 hi h1
    rw [if_neg h1]
    by_cases h2 : wt = false
    · rw [if_pos h2]
      exact Take_busy v L n c t wt w k hk h h5 h6 hi h1 h2
    rw [if_neg h2]
    have h2 : wt = true := by simpa using h2
    obtain ⟨p, b⟩ : ∃ x, aheadL L[k].line c = x := ⟨_, rfl⟩
    by_cases h3 : (aheadL L[k].line c).2 = true
    · rw [if_pos h3]
      exact Take_waits v L n c t wt w k hk h h5 h6 hi h1 h2 _ (Prod.ext rfl h3)
    rw [if_neg h3]
    have h3 : (aheadL L[k].line c).2 = false := by simpa using h3
    by_cases h4 : 3 ≤ L[k].line.length
    · rw [if_pos h4]
      exact Take_line v L n c t wt w k hk h h5 h6 hi h1 h2 _ (Prod.ext rfl h3) h4
    rw [if_neg h4]
    exact Take_join v L n c t wt w k hk h h5 h6 hi h1 h2 _ (Prod.ext rfl h3) h4
end Cm
end Go.Proofs.Ytnkooajbenhjhaa

/- Contracts: padlockref6's FreeLock. -/
set_option linter.unusedVariables false
set_option linter.unusedSimpArgs false
namespace Go.Proofs.Ytnkooajbenhjhaa
open Go.RowKit
namespace Cm

section
variable {α : Type} {sz : Nat} {f : α → List Value}
/-- A list appended to a row of one's own, at a step of a region that draws its order. -/
theorem step_append_rdx (hf : ∀ x, (f x).length = sz) (hsz : 0 < sz) (h1 : ∀ x : α, ∀ u ∈ f x, u.oneCell' = true) {P : Program} {w : World} {ops : Array Oper} {o : Oper} {a : Act} {K : Act → World → Prop} {Q : Exit → Act → World → Prop} {E : Prop} (hgd : o.guard = none) (s x : Operand) (t : TypeId)
    (ho : o.op = .call { callee := .builtin .append, args := #[s, x], argTypes := #[t, t] })
    (base : Nat) (e : TypeId) (i : TypeInfo) (z : Value) (bytes : Nat) (ht : P.underlying t = some (.slice e)) (hi : P.info? e = some i) (hz : i.zero = some z) (hsize : i.size = sz) (hby : i.bytes = bytes) (hzs : z.cells.size = sz)
    (v : Value) (n : Nat) (xs : List Value) (hs : a.eval s = v) (hown : w.ownsRow base e sz v n xs) (y : Value) (l : List α) (hx : a.eval x = y) (hr : RdX sz f w y l)
    (h63 : n + l.length ≤ maxLen) (hlen : (n + l.length) * bytes ≤ 140737488355328) (hbase : base ≤ w.heap.size)
    (h : ∀ v' w', w'.ownsRow base e sz v' (n + l.length) (xs ++ flatX f l) → w.grownBy w' v.ownBlock → K (a.put o.dst v') w') :
    if Region.wanted o (yielded ops a.tmps) = true then Oper.wp P o a w K Q else E := by
  have hw : Region.wanted o (yielded ops a.tmps) = true := by simp [Region.wanted, hgd]
  rw [if_pos hw]
  obtain ⟨ao, cap, rfl, hc, hm, hn, hcells⟩ := hr.ex
  match ao, hn, hcells, hx, hr with
  | none, hn, _, hx, _ =>
    obtain ⟨rfl, rfl⟩ := hn rfl
    have hrun := run_append_owned_none (P := P) (w := w) base t o.type e i sz ht hi v n xs hown
    unfold Oper.wp
    simp only [List.length_nil] at hx
    simp [execOp, ho, resolve, invoke, builtin, hs, hx, hrun, Result.andThen]
    exact h v w (by simpa [flatX] using hown) (World.grownBy.refl _ _)
  | some ad, _, hcells, hx, hr =>
    refine wp_append_own w s x t ho base e i z sz bytes ht hi hz hsize hby hzs hsz v n xs hs hown ad l.length cap (flatX f l) hx (by rw [flatX_length hf]) ?_ (flatX_one h1 l) h63 hlen hbase (fun v' w' h1 h2 _ => h v' w' h1 h2)
    intro j u hj
    have hl : l ≠ [] := by
      intro q
      subst q
      simp [flatX] at hj
    obtain ⟨hs', _⟩ := hcells ad rfl hl
    obtain ⟨b, off, spot⟩ := ad
    simp only at hs'
    subst hs'
    exact hr.news hf hsz j u hj
end

theorem below_any {w w' : World} (h : Below w.heap.size w w') (row : Option Nat) : w.grownBy w' row := ⟨h.os, h.tape, h.output, h.size, fun k hk _ => h.block k hk⟩

theorem pass_row {base : Nat} {w : World} {g N c : Nat} {M : List LockC} (h : w.ownsRow base 39 4 (.slice (some ⟨g, 0, none⟩) N c) N (flatX cellsK M)) (hM : M.length = N) (k : Nat) (hk : k < M.length) :
    ∃ u2 u3, w.cell? ⟨g, k * 4 + 2, none⟩ = some u2 ∧ w.cell? ⟨g, k * 4 + 3, none⟩ = some u3 ∧ w.frozen? ⟨g, k * 4 + 2, none⟩ = false ∧ w.frozen? ⟨g, k * 4 + 3, none⟩ = false := by
  obtain ⟨-, -, p2, p3, pf⟩ := ownK_at h hM k hk
  exact ⟨_, _, p2, p3, pf _, pf _⟩

theorem pass_done {w w2 w3 : World} {g N c1 : Nat} {M L : List LockC} {xn : List UInt8} {xh xt d t1 : Int} {xl r : List Int} {ya za : Option Addr} {yc zc : Nat} (ho : OwnD w.heap.size w2 (.slice (some ⟨g, 0, none⟩) N c1) M) (hM : M.length = N) (hV : vals M = vals L) (k : Nat)
    (hMk : ∃ hk : k < M.length, M[k] = ⟨xn, xh, xt, xl, ya, yc⟩) (hb : Below w.heap.size w w2) (h23 : Below (w2.setCell ⟨g, k * 4 + 1, none⟩ (.int .i64 d)).heap.size (w2.setCell ⟨g, k * 4 + 1, none⟩ (.int .i64 d)) w3)
    (hz : w3.ownsRow (w2.setCell ⟨g, k * 4 + 1, none⟩ (.int .i64 d)).heap.size 3 1 (.slice za r.length zc) r.length (flatX cellsI r)) :
    (∃ u2 u3, w3.cell? ⟨g, k * 4 + 2, none⟩ = some u2 ∧ w3.cell? ⟨g, k * 4 + 3, none⟩ = some u3 ∧ w3.frozen? ⟨g, k * 4 + 2, none⟩ = false ∧ w3.frozen? ⟨g, k * 4 + 3, none⟩ = false) ∧
      ∀ p q : Int, GetsT ((vals L).set k ⟨xn, d, t1, r⟩, p, q) w (.returned (.tuple #[.slice (some ⟨g, 0, none⟩) N c1, .int .i64 p, .int .i64 q])) ((w3.setCell ⟨g, k * 4 + 3, none⟩ (.slice za r.length zc)).setCell ⟨g, k * 4 + 2, none⟩ (.int .i64 t1)) := by
  obtain ⟨hk, hMk⟩ := hMk
  have hr := ho.row
  rw [hM] at hr
  have hs : (w2.setCell ⟨g, k * 4 + 1, none⟩ (.int .i64 d)).heap.size = w2.heap.size := by simp
  have hr2 := ownK_cell hr k hk 1 (by omega) (.int .i64 d) ⟨xn, d, xt, xl, ya, yc⟩ (by rw [hMk]; rfl)
  have hr3 := Rw.own_below hr2 h23
  have k2 : k < (M.set k ⟨xn, d, xt, xl, ya, yc⟩).length := by rw [List.length_set]; exact hk
  have hr4 := ownK_cell hr3 k k2 3 (by omega) (.slice za r.length zc) ⟨xn, d, xt, r, za, zc⟩ (by rw [List.getElem_set_self]; rfl)
  rw [List.set_set] at hr4
  have k3 : k < (M.set k ⟨xn, d, xt, r, za, zc⟩).length := by rw [List.length_set]; exact hk
  have hr5 := ownK_cell hr4 k k3 2 (by omega) (.int .i64 t1) ⟨xn, d, t1, r, za, zc⟩ (by rw [List.getElem_set_self]; rfl)
  rw [List.set_set] at hr5
  have hz3 := own_lowerX hz (by rw [hs]; exact hb.size : w.heap.size ≤ _)
  have hz4 := own_set_other hr3 hz3 (by decide) (k * 4 + 3) (.slice za r.length zc)
  have hz5 := own_set_other hr4 hz4 (by decide) (k * 4 + 2) (.int .i64 t1)
  obtain ⟨hd1, hd2⟩ := room_done hr ho.line hb (grown_set (grown_set ((grown_set (World.grownBy.refl w2 (some g)) (k * 4 + 1) (.int .i64 d)).trans (below_any h23 _)) (k * 4 + 3) (.slice za r.length zc)) (k * 4 + 2) (.int .i64 t1)) hr5 (by rw [List.length_set]; exact hM) (fun x hx => by
    rcases List.mem_or_eq_of_mem_set hx with q | q
    · exact .inl q
    · subst q
      exact .inr (NewI.own hz5))
  refine ⟨pass_row hr3 (by rw [List.length_set]; exact hM) k k2, fun p q => ⟨_, _, rfl, ?_, hd1, hd2⟩⟩
  rw [vals_set, hV]
  rfl

section
variable (v : Value) (L : List LockC) (n : List UInt8) (c t : Int) (w : World)

set_option maxHeartbeats 4000000 in
theorem Free_none (h : RdK w v L) (h5 : L.length ≤ 1000) (h6 : ∀ x ∈ L, x.line.length ≤ 1000) (hi : idxI (isNm n) (vals L) = -1) :
    Calls Try.prog 15 #[v, .string (bstr n), .int .i64 c, .int .i64 t] w (GetsT ([], 0, 6) w) := by
  obtain ⟨N, hN⟩ : ∃ N, L.length = N := ⟨_, rfl⟩
  have CC := Lib.hid (Copy_at v L w N hN h h5 h6)
  have HI := Lib.hid hi
  clear h h5 h6 hi hN
  go_enter Try.func15, Try.ntmps15
  go_wp2_with (first
    | (go_at_call 32; refine CC.out.mono ?_; rintro e w1 ⟨a1, c1, M, rfl, hM, hv, ho, hb⟩; have HF := Lib.hid (Find_at a1 N c1 M n w1 (-1) (by rw [hv]; exact HI.out) ho.rd.row); have HB := Lib.hid hb; clear ho hb hv)
    | (go_at_call 21; refine HF.out.mono ?_; rintro e w2 ⟨rfl, rfl⟩))
  refine bodyPost_ret (by simp [results, Try.results15, go_sem] <;> rfl) rfl ?_
  exact GetsT.empty rfl HB.out

set_option maxHeartbeats 4000000 in
theorem Free_other (k : Nat) (hk : k < L.length) (h : RdK w v L) (h5 : L.length ≤ 1000) (h6 : ∀ x ∈ L, x.line.length ≤ 1000) (hi : idxI (isNm n) (vals L) = (k : Int)) (hc : L[k].holder ≠ c) (p : Int) (ha : aheadL L[k].line c = (p, false)) :
    Calls Try.prog 15 #[v, .string (bstr n), .int .i64 c, .int .i64 t] w (GetsT ([], 0, 6) w) := by
  obtain ⟨N, hN⟩ : ∃ N, L.length = N := ⟨_, rfl⟩
  have CC := Lib.hid (Copy_at v L w N hN h h5 h6)
  have HI := Lib.hid hi
  have hm := h.len
  have hxl := h6 _ (List.getElem_mem hk)
  have HK := Lib.hid (fun (a : Option Addr) (c : Nat) (M : List LockC) (w' : World) (ho : OwnD w.heap.size w' (.slice a N c) M) (hM : M.length = N) (hv : vals M = vals L) => own_k ho hM hv k hk)
  have cc : (L[k].holder != c) = true := by simpa using hc
  clear hc
  have HA := Lib.hid ha
  clear ha
  rw [hN] at hm hk
  clear h h5 h6 hi hN
  generalize L[k] = x at *
  obtain ⟨xn, xh, xt, xl, xa, xc⟩ := x
  dsimp only at *
  obtain ⟨i0, hi, hz0, hz1, hz2⟩ := info_parts infoN
  go_enter Try.func15, Try.ntmps15
  have f1 : (0 : Int) ≤ (k : Int) := by omega
  have f2 : (k : Int) < (N : Int) := by omega
  go_wp2_with (first
    | (go_at_call 32; refine CC.out.mono ?_; rintro e w1 ⟨a1, c1, M, rfl, hM, hv, ho, hb⟩; have HF := Lib.hid (Find_at a1 N c1 M n w1 k (by rw [hv]; exact HI.out) ho.rd.row); obtain ⟨g, ya, yc, rfl, hg, hMk, q0, q1, q2, q3, qf, hly⟩ := HK.out _ _ _ _ ho hM hv; have HO := Lib.hid ho; have HMk := Lib.hid hMk; have HLY := Lib.hid hly; have HB := Lib.hid hb; have HV := Lib.hid hv; have q3' := fun o => ((newAlloc w1 o).cell (p := ⟨g, k * 4 + 3, none⟩) (lt_of_cell q3)).trans q3; clear ho hb hv hly hMk)
    | (go_at_call 21; refine HF.out.mono ?_; rintro e w2 ⟨rfl, rfl⟩)
    | (go_at_call 29; refine (Ahead_any _ xl c _ (RdX.own cellsI_length HLY.out)).mono ?_; rw [HA.out]; rintro e w2 ⟨rfl, rfl⟩))
  refine bodyPost_ret (by simp [results, Try.results15, go_sem] <;> rfl) rfl ?_
  exact GetsT.empty rfl HB.out

set_option maxHeartbeats 4000000 in
theorem Free_leave (k : Nat) (hk : k < L.length) (h : RdK w v L) (h5 : L.length ≤ 1000) (h6 : ∀ x ∈ L, x.line.length ≤ 1000) (hi : idxI (isNm n) (vals L) = (k : Int)) (hc : L[k].holder ≠ c) (p : Int) (ha : aheadL L[k].line c = (p, true)) :
    Calls Try.prog 15 #[v, .string (bstr n), .int .i64 c, .int .i64 t] w (GetsT ((vals L).set k ⟨L[k].name, L[k].holder, L[k].token, withoutL L[k].line [c]⟩, 0, 0) w) := by
  obtain ⟨N, hN⟩ : ∃ N, L.length = N := ⟨_, rfl⟩
  have CC := Lib.hid (Copy_at v L w N hN h h5 h6)
  have HI := Lib.hid hi
  have hm := h.len
  have hxl := h6 _ (List.getElem_mem hk)
  have HK := Lib.hid (fun (a : Option Addr) (c : Nat) (M : List LockC) (w' : World) (ho : OwnD w.heap.size w' (.slice a N c) M) (hM : M.length = N) (hv : vals M = vals L) => own_k ho hM hv k hk)
  have cc : (L[k].holder != c) = true := by simpa using hc
  clear hc
  have HA := Lib.hid ha
  clear ha
  rw [hN] at hm hk
  clear h h5 h6 hi hN
  generalize L[k] = x at *
  obtain ⟨xn, xh, xt, xl, xa, xc⟩ := x
  dsimp only at *
  obtain ⟨i0, hi, hz0, hz1, hz2⟩ := info_parts infoN
  go_enter Try.func15, Try.ntmps15
  have f1 : (0 : Int) ≤ (k : Int) := by omega
  have f2 : (k : Int) < (N : Int) := by omega
  go_wp2_with (first
    | (go_at_call 32; refine CC.out.mono ?_; rintro e w1 ⟨a1, c1, M, rfl, hM, hv, ho, hb⟩; have HF := Lib.hid (Find_at a1 N c1 M n w1 k (by rw [hv]; exact HI.out) ho.rd.row); obtain ⟨g, ya, yc, rfl, hg, hMk, q0, q1, q2, q3, qf, hly⟩ := HK.out _ _ _ _ ho hM hv; have HO := Lib.hid ho; have HMk := Lib.hid hMk; have HLY := Lib.hid hly; have HB := Lib.hid hb; have HV := Lib.hid hv; have q3' := fun o => ((newAlloc w1 o).cell (p := ⟨g, k * 4 + 3, none⟩) (lt_of_cell q3)).trans q3; clear ho hb hv hly hMk)
    | (go_at_call 21; refine HF.out.mono ?_; rintro e w2 ⟨rfl, rfl⟩)
    | (go_at_call 29; refine (Ahead_any _ xl c _ (RdX.own cellsI_length HLY.out)).mono ?_; rw [HA.out]; rintro e w2 ⟨rfl, rfl⟩)
    | (go_at_call 31; refine (Without_any _ _ xl [c] _ ((RdX.own cellsI_length HLY.out).later (newAlloc w2 (.cells #[.int .i64 c] 3))) (RdX.one (cs := #[.int .i64 c]) (t := 3) (y := c) (w := w2.alloc (.cells #[.int .i64 c] 3)) (b := w2.heap.size) (by show (w2.heap.push _)[w2.heap.size]? = _; simp) rfl) hxl).mono ?_; rintro e w5 ⟨v5, rfl, ho5, hb5⟩; obtain ⟨za, zc, rfl⟩ := Rw.own_form ho5; obtain ⟨⟨u5, p3⟩, pf3, hfin⟩ := join_facts HO.out hM HV.out k HMk.out HB.out hg (step (newAlloc _ _) hb5) (World.grownBy.refl _ _) (withoutL xl [c]) za zc (own_lowerX ho5 (by have := HB.out.size; simp; omega)); have HFIN := Lib.hid hfin; clear hfin ho5))
  refine bodyPost_ret (by simp [results, Try.results15, go_sem] <;> rfl) rfl ?_
  exact HFIN.out 0 0

set_option maxHeartbeats 4000000 in
theorem Free_pass (k : Nat) (hk : k < L.length) (h : RdK w v L) (h5 : L.length ≤ 1000) (h6 : ∀ x ∈ L, x.line.length ≤ 1000) (hi : idxI (isNm n) (vals L) = (k : Int)) (hc : L[k].holder = c) (d : Int) (r : List Int) (hd : L[k].line = d :: r) (ht : 0 ≤ t ∧ t ≤ 4611686018427387904) :
    Calls Try.prog 15 #[v, .string (bstr n), .int .i64 c, .int .i64 t] w (GetsT ((vals L).set k ⟨L[k].name, d, t + 1, r⟩, 1, 0) w) := by
  obtain ⟨N, hN⟩ : ∃ N, L.length = N := ⟨_, rfl⟩
  have CC := Lib.hid (Copy_at v L w N hN h h5 h6)
  have HI := Lib.hid hi
  have hm := h.len
  have hxl := h6 _ (List.getElem_mem hk)
  have HK := Lib.hid (fun (a : Option Addr) (c : Nat) (M : List LockC) (w' : World) (ho : OwnD w.heap.size w' (.slice a N c) M) (hM : M.length = N) (hv : vals M = vals L) => own_k ho hM hv k hk)
  have cc : (L[k].holder != c) = false := by simpa using hc
  clear hc
  rw [hd] at HK hxl
  clear hd
  rw [hN] at hm hk
  have hw1 : IntKind.i64.wrap (t + 1) = t + 1 := by rw [IntKind.wrap_i64]; omega
  have HT := Lib.hid ht
  clear h h5 h6 hi hN ht
  generalize L[k] = x at *
  obtain ⟨xn, xh, xt, xl, xa, xc⟩ := x
  dsimp only at *
  have hR : r.length ≤ 999 := by rw [List.length_cons] at hxl; omega
  obtain ⟨R, hRR⟩ : ∃ R, (d :: r).length = R := ⟨_, rfl⟩
  have HRR : Hid (R = r.length + 1) := Lib.hid (by rw [← hRR]; rfl)
  have hR1 : 1 ≤ R := by rw [← hRR]; simp
  have zR : ((R : Int) == 0) = false := by simp; omega
  obtain ⟨i0, hi, hz0, hz1, hz2⟩ := info_parts infoN
  go_enter Try.func15, Try.ntmps15
  have f1 : (0 : Int) ≤ (k : Int) := by omega
  have f2 : (k : Int) < (N : Int) := by omega
  go_upto_region 13 with (first
    | (go_at_call 32; refine CC.out.mono ?_; rintro e w1 ⟨a1, c1, M, rfl, hM, hv, ho, hb⟩; have HF := Lib.hid (Find_at a1 N c1 M n w1 k (by rw [hv]; exact HI.out) ho.rd.row); obtain ⟨g, ya, yc, rfl, hg, hMk, q0, q1, q2, q3, qf, hly⟩ := HK.out _ _ _ _ ho hM hv; rw [hRR] at q3 hly; have HO := Lib.hid ho; have HMk := Lib.hid hMk; have HLY := Lib.hid hly; have HB := Lib.hid hb; have HV := Lib.hid hv; clear ho hb hv hly hMk)
    | (go_at_call 21; refine HF.out.mono ?_; rintro e w2 ⟨rfl, rfl⟩))
  obtain ⟨gl, rfl, -⟩ := own_some (sz := 1) HLY.out (by omega)
  have HRd : Hid (RdI w2 (.slice (some ⟨gl, 0, none⟩) R yc) (d :: r)) := Lib.hid (by have := RdX.own (f := cellsI) (l := d :: r) cellsI_length (by rw [hRR]; exact HLY.out); exact this)
  obtain ⟨b', o', e', hc0⟩ := rdi_at HRd.out 0 (by simp)
  cases e'
  have y0 := hc0 w2 (Below.refl _ _)
  simp only [List.getElem_cons_zero, Nat.add_zero] at y0
  have f3 : (0 : Int) < (R : Int) := by omega
  have qf1 := qf (k * 4 + 1)
  have hgl : gl ≠ g := fun q => own_types HLY.out HO.out.row (by decide) gl rfl (by rw [q]; rfl)
  go_upto_region 14 with fail
  obtain ⟨W2, hW2⟩ : ∃ W2, W2 = w2.setCell ⟨g, k * 4 + 1, none⟩ (.int .i64 d) := ⟨_, rfl⟩
  have hOr := HO.out.row
  rw [hM] at hOr
  have HLY2 : Hid (W2.ownsRow w.heap.size 3 1 (.slice (some ⟨gl, 0, none⟩) R yc) R (flatX cellsI (d :: r))) := Lib.hid (by rw [hW2]; exact own_set_other hOr HLY.out (by decide) _ _)
  have HRd2 : Hid (RdI W2 (.slice (some ⟨gl, 0, none⟩) R yc) (d :: r)) := Lib.hid (by have := RdX.own (f := cellsI) (l := d :: r) cellsI_length (by rw [hRR]; exact HLY2.out); exact this)
  have z3 : W2.cell? ⟨g, k * 4 + 3, none⟩ = some (.slice (some ⟨gl, 0, none⟩) R yc) := by rw [hW2]; simp [go_sem, q3]
  have z3' := ((newAlloc W2 (.cells #[] 3)).cell (p := ⟨g, k * 4 + 3, none⟩) (lt_of_cell z3)).trans z3
  have hcap : R ≤ yc ∧ yc ≤ maxLen := by
    obtain ⟨a', cap', hv, q1, q2, _⟩ := HRd2.out.ex
    cases hv
    rw [hRR] at q1
    exact ⟨q1, q2⟩
  unfold maxLen at hcap
  obtain ⟨hc1, hc2⟩ := hcap
  have HDR := Lib.hid ((HRd2.out.drop (by omega) 1 hR1).later (newAlloc W2 (.cells #[] 3)))
  rw [List.drop_one, List.tail_cons] at HDR
  have g2 : (1 : Int) ≤ (R : Int) := by omega
  have HPD : Hid (∀ (w3 : World) za zc, Below W2.heap.size W2 w3 → w3.ownsRow W2.heap.size 3 1 (.slice za r.length zc) r.length (flatX cellsI r) → (∃ u2 u3, w3.cell? ⟨g, k * 4 + 2, none⟩ = some u2 ∧ w3.cell? ⟨g, k * 4 + 3, none⟩ = some u3 ∧ w3.frozen? ⟨g, k * 4 + 2, none⟩ = false ∧ w3.frozen? ⟨g, k * 4 + 3, none⟩ = false) ∧
      ∀ p q : Int, GetsT ((vals L).set k ⟨xn, d, t + 1, r⟩, p, q) w (.returned (.tuple #[.slice (some ⟨g, 0, none⟩) N c1, .int .i64 p, .int .i64 q])) ((w3.setCell ⟨g, k * 4 + 3, none⟩ (.slice za r.length zc)).setCell ⟨g, k * 4 + 2, none⟩ (.int .i64 (t + 1)))) := Lib.hid (fun w3 za zc h23 hz => by
    rw [hW2] at h23 hz
    exact pass_done HO.out hM HV.out k HMk.out HB.out h23 hz)
  rw [← hW2]
  have HRN : Hid (R - 1 = r.length) := Lib.hid (by have := HRR.out; omega)
  clear hW2 q0 q1 q2 q3 qf qf1 y0 hc0 HO HMk HLY HRd HLY2 HRd2 hOr HF CC HK HI z3
  by_cases hcp : yc = 1
  case' pos =>
    rw [if_pos hcp] at HDR
    obtain rfl : R = 1 := by omega
    subst hcp
    clear hc1 hc2 g2
  case' neg =>
    rw [if_neg hcp] at HDR
    have hadd : (⟨gl, 0, none⟩ : Addr).add (1 * 1) = ⟨gl, 0 + 1, none⟩ := by unfold Addr.add; split <;> simp_all
    rw [Option.map_some, hadd] at HDR
    clear hadd
  all_goals
    go_upto_region 15 with (at_builtin; refine wpList_append_rdx cellsI_length (by omega) cellsI_one rfl (.tmp 84) (.tmp 90) 35 rfl W2.heap.size 3 i0 _ 8 Try.underlying35 hi hz0 hz1 hz2 rfl _ 0 [] rfl (own_new W2 _ 1 _ _ rfl (Nat.le_refl _)) _ r rfl (HDR.out) (by unfold maxLen; omega) (by omega) (newAlloc W2 (.cells #[] 3)).size ?_; intro v3 w3 hown3 hgrow3; have HB3 : Hid (Below W2.heap.size W2 w3) := Lib.hid ((newAlloc W2 (.cells #[] 3)).grown hgrow3 (newAlloc W2 (.cells #[] 3)).size (fun k hk => by cases hk; exact Nat.le_refl _)); have HO3 : Hid (w3.ownsRow W2.heap.size 3 1 v3 r.length (flatX cellsI r)) := Lib.hid (by simpa using hown3); obtain ⟨za, zc, rfl⟩ := Rw.own_form HO3.out; obtain ⟨⟨u2, u3, p2, p3, pf2, pf3⟩, hfin⟩ := HPD.out _ _ _ HB3.out HO3.out; have HFIN := Lib.hid hfin; clear hfin hown3 hgrow3 HO3 HB3 HPD)
    go_wp2
    refine bodyPost_ret (by simp [results, Try.results15, go_sem] <;> rfl) rfl ?_
    exact HFIN.out 1 0
set_option maxHeartbeats 4000000 in
theorem Free_last (k : Nat) (hk : k < L.length) (h : RdK w v L) (h5 : L.length ≤ 1000) (h6 : ∀ x ∈ L, x.line.length ≤ 1000) (hi : idxI (isNm n) (vals L) = (k : Int)) (hc : L[k].holder = c) (hd : L[k].line = []) :
    Calls Try.prog 15 #[v, .string (bstr n), .int .i64 c, .int .i64 t] w (GetsT ((vals L).take k ++ (vals L).drop (k + 1), 0, 0) w) := by
  obtain ⟨N, hN⟩ : ∃ N, L.length = N := ⟨_, rfl⟩
  have CC := Lib.hid (Copy_at v L w N hN h h5 h6)
  have HI := Lib.hid hi
  have hm := h.len
  have HK := Lib.hid (fun (a : Option Addr) (c : Nat) (M : List LockC) (w' : World) (ho : OwnD w.heap.size w' (.slice a N c) M) (hM : M.length = N) (hv : vals M = vals L) => own_k ho hM hv k hk)
  have cc : (L[k].holder != c) = false := by simpa using hc
  clear hc
  rw [hd] at HK
  clear hd
  rw [hN] at hm hk h5
  clear h h6 hi hN
  generalize L[k] = x at *
  obtain ⟨xn, xh, xt, xl, xa, xc⟩ := x
  dsimp only at *
  obtain ⟨i0, hi, hz0, hz1, hz2⟩ := info_parts infoK
  have hk1 : (1 : Int) ≤ (k : Int) + 1 := by omega
  go_enter Try.func15, Try.ntmps15
  have f1 : (0 : Int) ≤ (k : Int) := by omega
  have f2 : (k : Int) < (N : Int) := by omega
  go_upto_region 12 with (first
    | (go_at_call 32; refine CC.out.mono ?_; rintro e w1 ⟨a1, c1, M, rfl, hM, hv, ho, hb⟩; have HF := Lib.hid (Find_at a1 N c1 M n w1 k (by rw [hv]; exact HI.out) ho.rd.row); obtain ⟨g, ya, yc, rfl, hg, hMk, q0, q1, q2, q3, qf, hly⟩ := HK.out _ _ _ _ ho hM hv; have HO := Lib.hid ho; have HMk := Lib.hid hMk; have HB := Lib.hid hb; have HV := Lib.hid hv; clear ho hb hv hly hMk)
    | (go_at_call 21; refine HF.out.mono ?_; rintro e w2 ⟨rfl, rfl⟩))
  have HR := Lib.hid HO.out.rd.row
  have hcap : N ≤ c1 ∧ c1 ≤ maxLen := by
    obtain ⟨a', cap', hv, q1, q2, _⟩ := HR.out.ex
    cases hv
    rw [hM] at q1
    exact ⟨q1, q2⟩
  unfold maxLen at hcap
  obtain ⟨hc1, hc2⟩ := hcap
  have HT := Lib.hid (HR.out.take k (by omega))
  have HD := Lib.hid (HR.out.drop (by omega) (k + 1) (by omega))
  have HLT : Hid ((M.take k).length = k) := Lib.hid (by rw [List.length_take]; omega)
  have HLD : Hid ((M.drop (k + 1)).length = N - (k + 1)) := Lib.hid (by rw [List.length_drop]; omega)
  have g2 : (k : Int) ≤ (c1 : Int) := by omega
  have g3 : IntKind.i64.wrap ((k : Int) + 1) = (k : Int) + 1 := by rw [IntKind.wrap_i64]; omega
  have g4 : (0 : Int) ≤ (k : Int) + 1 := by omega
  have g5 : (k : Int) + 1 ≤ (N : Int) := by omega
  have g6 : ((k : Int) + 1).toNat = k + 1 := by omega
  have g7 : decide ((k : Int) < 0) = false := by simp
  clear HF CC HK HI q0 q1 q2 q3 qf hc1 hc2 hk1
  by_cases hcp : c1 = k + 1
  case' pos =>
    rw [if_pos hcp] at HD
    subst hcp
    rw [Nat.sub_self] at HD
    have g8 : (k : Int) ≤ (k : Int) + 1 := by omega
    clear g2
  case' neg =>
    rw [if_neg hcp] at HD
    have hadd : (⟨g, 0, none⟩ : Addr).add ((k + 1) * 4) = ⟨g, (k + 1) * 4, none⟩ := by unfold Addr.add; split <;> simp_all
    rw [Option.map_some, hadd] at HD
    clear hadd
  all_goals
    go_region_held3 (fun _ => True) (trivial) (first
      | (refine step_append_rdx cellsK_length (by omega) cellsK_one (by rfl) (.tmp 61) (.tmp 64) 24 (by rfl) w2.heap.size 39 i0 _ 56 Try.underlying24 hi hz0 hz1 hz2 rfl _ 0 [] (by rfl) (Rw.own_below (own_new w2 39 4 _ _ rfl (Nat.le_refl _)) ((Below.refl _ _).drew)) _ (M.take k) (by rfl) (HT.out.later ((newAlloc w2 _).drew)) (by rw [HLT.out]; unfold maxLen; omega) (by rw [HLT.out]; omega) (by simp) ?_; intro v3 w3 ho3 hg3; have HO3 : Hid (w3.ownsRow w2.heap.size 39 4 v3 k (flatX cellsK (M.take k))) := Lib.hid (by rw [HLT.out, Nat.zero_add, List.nil_append] at ho3; exact ho3); have HB3 : Hid (Below w2.heap.size w2 w3) := Lib.hid (((newAlloc w2 _).drew).grown hg3 (by simp) (fun k hk => by cases hk; exact Nat.le_refl _)); clear ho3 hg3)
      | (refine step_append_rdx cellsK_length (by omega) cellsK_one (by rfl) (.tmp 65) (.tmp 69) 24 (by rfl) w2.heap.size 39 i0 _ 56 Try.underlying24 hi hz0 hz1 hz2 rfl v3 k _ (by rfl) HO3.out _ (M.drop (k + 1)) (by rfl) (HD.out.later HB3.out) (by rw [HLD.out]; unfold maxLen; omega) (by rw [HLD.out]; omega) HB3.out.size ?_; intro v4 w4 ho4 hg4; have HO4 : Hid (w4.ownsRow w2.heap.size 39 4 v4 (M.take k ++ M.drop (k + 1)).length (flatX cellsK (M.take k ++ M.drop (k + 1)))) := Lib.hid (by rw [List.length_append, HLT.out, flatX_append]; exact ho4); have HB4 : Hid (Below w2.heap.size w2 w4) := Lib.hid (HB3.out.grown hg4 HB3.out.size (fun k hk => (Rw.own_lt HO3.out k hk).1)); clear ho4 hg4))
  all_goals
    go_wp2
    refine bodyPost_ret (by simp [results, Try.results15, go_sem] <;> rfl) rfl ?_
    refine ⟨v4, M.take k ++ M.drop (k + 1), rfl, ?_, ⟨own_lowerX HO4.out HB.out.size, fun x hx => ?_⟩, step HB.out HB4.out⟩
    · rw [← HV.out, ← vals_take, ← vals_drop]
      unfold vals
      rw [List.map_append]
    · have hx' : x ∈ M := by
        rcases List.mem_append.1 hx with q | q
        · exact List.mem_of_mem_take q
        · exact List.mem_of_mem_drop q
      exact NewI.own ((HO.out.later HB4.out).line x hx')
end

theorem FreeLock_any (v : Value) (L : List LockC) (n : List UInt8) (c t : Int) (w : World) (h : RdK w v L) (h5 : L.length ≤ 1000) (h6 : ∀ x ∈ L, x.line.length ≤ 1000) (ht : 0 ≤ t ∧ t ≤ 4611686018427387904) :
    Calls Try.prog 15 #[v, .string (bstr n), .int .i64 c, .int .i64 t] w (GetsT (freeK (vals L) n c t) w) := by
  rcases idx_cases (isNm n) (vals L) with hi | ⟨k, hk, hi, -⟩
  · unfold freeK
    rw [if_pos (by omega)]
    exact Free_none v L n c t w h h5 h6 hi
  · have hg := getK_nat (vals L) k hk
    unfold freeK passK
    rw [hi, if_neg (by omega), hg]
    rw [vals_length] at hk
    rw [vals_get L k hk]
    unfold LockC.val
    dsimp only [Int.toNat_natCast]
    by_cases h1 : L[k].holder = c
    · rw [if_neg (by simpa using h1)]
      cases hd : L[k].line with
      | nil =>
        rw [if_pos rfl]
        exact Free_last v L n c t w k hk h h5 h6 hi h1 hd
      | cons d r =>
        rw [if_neg (by simp)]
        exact Free_pass v L n c t w k hk h h5 h6 hi h1 d r hd ht
    · rw [if_pos h1]
      by_cases h3 : (aheadL L[k].line c).2 = false
      · rw [if_pos h3]
        exact Free_other v L n c t w k hk h h5 h6 hi h1 _ (Prod.ext rfl h3)
      · rw [if_neg h3]
        have h3 : (aheadL L[k].line c).2 = true := by simpa using h3
        exact Free_leave v L n c t w k hk h h5 h6 hi h1 _ (Prod.ext rfl h3)
end Cm
end Go.Proofs.Ytnkooajbenhjhaa
