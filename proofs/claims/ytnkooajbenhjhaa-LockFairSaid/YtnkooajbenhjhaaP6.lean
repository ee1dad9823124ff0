/- Texts laid together by program: FLockB, LokF, LokG, LokH, FLockC, ArgA. -/
import Derived.Test.YtnkooajbenhjhaaP5
import Derived.Deep.RegionHeld3
import Derived.Test.YtnkooajbenhjhaaP2
import Derived.ProofKit
import Derived.OpenShut
import Derived.Deep.Strs
import Derived.Deep.Slices
/- Locks, some of whose clients go: plain facts. No program is named here. -/
set_option linter.unusedVariables false
set_option linter.unusedSimpArgs false
namespace Go.Proofs.Ytnkooajbenhjhaa
open Go.RowKit
namespace Cm

theorem dropK_snoc (G : List Int) (k : LockV) : ∀ (l : List LockV) (t : Int), dropK G (l ++ [k]) t =
    if hasL G k.holder = false then ((dropK G l t).1 ++ [leftK G k], (dropK G l t).2) else
    if (leftK G k).line = [] then dropK G l t else ((dropK G l t).1 ++ [passK (leftK G k) (t + (dropK G l t).2)], (dropK G l t).2 + 1)
  | [], t => by
    simp only [List.nil_append, dropK]
    split
    · rfl
    · split
      · rfl
      · simp
  | x :: l, t => by
    rw [List.cons_append, dropK, dropK]
    split
    · rw [dropK_snoc G k l t]
      split
      · rfl
      · split
        · rfl
        · rfl
    · split
      · rw [dropK_snoc G k l t]
      · rw [dropK_snoc G k l (t + 1)]
        split
        · rfl
        · split
          · rfl
          · simp only [List.cons_append]
            rw [show t + 1 + (dropK G l (t + 1)).2 = t + ((dropK G l (t + 1)).2 + 1) by omega]

theorem dropK_names (G : List Int) : ∀ (l : List LockV) (t : Int) (x : LockV), x ∈ (dropK G l t).1 → ∃ y ∈ l, x.name = y.name
  | [], t, x, h => by simp [dropK] at h
  | k :: l, t, x, h => by
    rw [dropK] at h
    split at h
    · rcases List.mem_cons.1 h with rfl | h
      · exact ⟨k, List.mem_cons_self, rfl⟩
      · obtain ⟨y, hy, e⟩ := dropK_names G l t x h
        exact ⟨y, List.mem_cons_of_mem _ hy, e⟩
    · split at h
      · obtain ⟨y, hy, e⟩ := dropK_names G l t x h
        exact ⟨y, List.mem_cons_of_mem _ hy, e⟩
      · rcases List.mem_cons.1 h with rfl | h
        · exact ⟨k, List.mem_cons_self, rfl⟩
        · obtain ⟨y, hy, e⟩ := dropK_names G l (t + 1) x h
          exact ⟨y, List.mem_cons_of_mem _ hy, e⟩

theorem dropK_count (G : List Int) : ∀ (l : List LockV) (t : Int), 0 ≤ (dropK G l t).2 ∧ (dropK G l t).2 ≤ l.length
  | [], t => by simp [dropK]
  | k :: l, t => by
    have h1 := dropK_count G l t
    have h2 := dropK_count G l (t + 1)
    rw [dropK, List.length_cons]
    split
    · dsimp only; omega
    · split
      · omega
      · dsimp only; omega

theorem dropK_length (G : List Int) : ∀ (l : List LockV) (t : Int), (dropK G l t).1.length ≤ l.length
  | [], t => by simp [dropK]
  | k :: l, t => by
    have h1 := dropK_length G l t
    have h2 := dropK_length G l (t + 1)
    rw [dropK, List.length_cons]
    split
    · simp; omega
    · split
      · omega
      · simp; omega

theorem without_le (l g : List Int) : (withoutL l g).length ≤ l.length := List.length_filter_le _ _

theorem dropK_lines (G : List Int) : ∀ (l : List LockV) (t : Int) (x : LockV), x ∈ (dropK G l t).1 → ∃ y ∈ l, x.line.length ≤ y.line.length
  | [], t, x, h => by simp [dropK] at h
  | k :: l, t, x, h => by
    have hw := without_le k.line G
    rw [dropK] at h
    split at h
    · rcases List.mem_cons.1 h with rfl | h
      · exact ⟨k, List.mem_cons_self, hw⟩
      · obtain ⟨y, hy, e⟩ := dropK_lines G l t x h
        exact ⟨y, List.mem_cons_of_mem _ hy, e⟩
    · split at h
      · obtain ⟨y, hy, e⟩ := dropK_lines G l t x h
        exact ⟨y, List.mem_cons_of_mem _ hy, e⟩
      · rcases List.mem_cons.1 h with rfl | h
        · refine ⟨k, List.mem_cons_self, ?_⟩
          show ((leftK G k).line.drop 1).length ≤ _
          rw [List.length_drop]
          show (withoutL k.line G).length - 1 ≤ _
          omega
        · obtain ⟨y, hy, e⟩ := dropK_lines G l (t + 1) x h
          exact ⟨y, List.mem_cons_of_mem _ hy, e⟩

/-- What stands while the locks are gone through: those gone through, and the others, whose lines some have left. -/
def midK (G : List Int) (l : List LockV) (t : Int) (i : Nat) : List LockV := (dropK G (l.take i) t).1 ++ (l.drop i).map (leftK G)

theorem midK_zero (G : List Int) (l : List LockV) (t : Int) : midK G l t 0 = l.map (leftK G) := by simp [midK, dropK]
theorem midK_all (G : List Int) (l : List LockV) (t : Int) : midK G l t l.length = (dropK G l t).1 := by simp [midK]

theorem idx_app (n : List UInt8) (A B : List LockV) (k : LockV) (hA : ∀ a ∈ A, a.name ≠ n) (hk : k.name = n) : idxI (isNm n) (A ++ k :: B) = (A.length : Int) := by
  refine idxI_hit _ _ A.length (by simp) (by simp [isNm, hk]) (fun j hj => ?_)
  rw [List.getElem_append_left hj]
  unfold isNm
  exact decide_eq_false (hA _ (List.getElem_mem hj))

theorem getK_app (A B : List LockV) (k : LockV) : getK (A ++ k :: B) (A.length : Int) = k := by
  rw [getK_nat _ _ (by simp)]
  simp

theorem midK_keep (G : List Int) (l : List LockV) (t : Int) (i : Nat) (h : i < l.length) (hg : hasL G l[i].holder = false) :
    midK G l t (i + 1) = midK G l t i ∧ (dropK G (l.take (i + 1)) t).2 = (dropK G (l.take i) t).2 := by
  unfold midK
  rw [List.take_succ_eq_append_getElem h, dropK_snoc, if_pos hg]
  refine ⟨?_, rfl⟩
  rw [List.drop_eq_getElem_cons h, List.map_cons, List.append_assoc]
  rfl

theorem midK_free (G : List Int) (l : List LockV) (t : Int) (i : Nat) (h : i < l.length) (hn : l.Pairwise fun a b => a.name ≠ b.name) (hg : hasL G l[i].holder = true) :
    freeK (midK G l t i) l[i].name l[i].holder (t + (dropK G (l.take i) t).2) = (midK G l t (i + 1), (dropK G (l.take (i + 1)) t).2 - (dropK G (l.take i) t).2, 0) := by
  have hA : ∀ a ∈ (dropK G (l.take i) t).1, a.name ≠ l[i].name := fun a ha => by
    obtain ⟨y, hy, e⟩ := dropK_names G _ _ _ ha
    rw [e]
    obtain ⟨j, hj, rfl⟩ := List.getElem_of_mem hy
    rw [List.length_take] at hj
    rw [List.getElem_take]
    exact List.pairwise_iff_getElem.1 hn j i (by omega) h (by omega)
  have e1 : midK G l t i = (dropK G (l.take i) t).1 ++ leftK G l[i] :: (l.drop (i + 1)).map (leftK G) := by
    unfold midK
    rw [List.drop_eq_getElem_cons h, List.map_cons]
  have e2 : midK G l t (i + 1) = (dropK G (l.take i ++ [l[i]]) t).1 ++ (l.drop (i + 1)).map (leftK G) := by
    unfold midK
    rw [List.take_succ_eq_append_getElem h]
  rw [e1, e2, List.take_succ_eq_append_getElem h, dropK_snoc, if_neg (by rw [hg]; simp)]
  clear e1 e2
  generalize dropK G (l.take i) t = pr at hA ⊢
  obtain ⟨A, q⟩ := pr
  dsimp only at hA ⊢
  generalize (l.drop (i + 1)).map (leftK G) = B
  have hi := idx_app l[i].name A B (leftK G l[i]) hA rfl
  have hk := getK_app A B (leftK G l[i])
  unfold freeK
  rw [hi, if_neg (by omega), hk, if_neg (by simp [leftK])]
  split
  · rename_i hl
    simp only [Int.toNat_natCast]
    rw [List.take_left' rfl]
    have : (A ++ leftK G l[i] :: B).drop (A.length + 1) = B := by
      rw [List.drop_append]
      simp
    rw [this]
    simp
  · rename_i hl
    simp only [Int.toNat_natCast]
    rw [List.set_append_right _ _ (Nat.le_refl _), Nat.sub_self]
    simp only [List.set_cons_zero, List.append_assoc, List.cons_append, List.nil_append]
    congr 2
    omega

theorem midK_bounds (G : List Int) (l : List LockV) (t : Int) (i : Nat) (hi : i ≤ l.length) (h : ∀ y ∈ l, y.line.length ≤ 1000) : (midK G l t i).length ≤ l.length ∧ ∀ x ∈ midK G l t i, x.line.length ≤ 1000 := by
  unfold midK
  refine ⟨?_, fun x hx => ?_⟩
  · have := dropK_length G (l.take i) t
    rw [List.length_take] at this
    rw [List.length_append, List.length_map, List.length_drop]
    omega
  · rcases List.mem_append.1 hx with q | q
    · obtain ⟨y, hy, e⟩ := dropK_lines G _ _ x q
      exact Nat.le_trans e (h y (List.mem_of_mem_take hy))
    · obtain ⟨y, hy, rfl⟩ := List.mem_map.1 q
      exact Nat.le_trans (without_le _ _) (h y (List.mem_of_mem_drop hy))
end Cm
end Go.Proofs.Ytnkooajbenhjhaa

/- Contracts: padlockref6's DropLocks. -/
set_option linter.unusedVariables false
set_option linter.unusedSimpArgs false
namespace Go.Proofs.Ytnkooajbenhjhaa
open Go.RowKit
namespace Cm

theorem OwnN.lower {base base' : Nat} {w : World} {v : Value} {M : List LockC} (h : OwnN base w v M) (hb : base' ≤ base) : OwnN base' w v M :=
  ⟨own_lowerX h.row hb, fun x hx => ⟨(h.line x hx).1, fun g hg => by obtain ⟨h1, h2⟩ := (h.line x hx).2 g hg; exact ⟨Nat.le_trans hb h1, h2⟩⟩⟩

theorem NewI.keep {base : Nat} {w w' : World} {u : Value} {l : List Int} (h : NewI base w u l) (hb : ∀ g, u.ownBlock = some g → w'.heap[g]? = w.heap[g]?) : NewI base w' u l := by
  refine ⟨?_, fun g hg => ?_⟩
  · obtain ⟨a, cap, hv, h1, h2, h3, h4⟩ := h.1.ex
    refine ⟨a, cap, hv, h1, h2, h3, fun x hx hp => ?_⟩
    obtain ⟨hs, hc⟩ := h4 x hx hp
    refine ⟨hs, fun i hi k z hz => ?_⟩
    have hbk := hb x.block (by rw [hv, hx]; rfl)
    rw [World.cell?_of_block (w := w) (a := ⟨x.block, x.off + (i * 1 + k), none⟩) hbk]
    exact hc i hi k z hz
  · obtain ⟨h1, cs, h2⟩ := h.2 g hg
    exact ⟨h1, cs, (hb g hg).trans h2⟩

/-- A line in a row's own block there is not. -/
theorem NewI.apart {base b1 s n cap : Nat} {w : World} {u : Value} {l : List Int} {g : Nat} {xs : List Value} (h : NewI base w u l) (hr : w.ownsRow b1 39 s (.slice (some ⟨g, 0, none⟩) n cap) n xs) (g' : Nat) (hg : u.ownBlock = some g') : g' ≠ g := by
  intro q
  subst q
  obtain ⟨_, cs, h2⟩ := h.2 g' hg
  rcases hr.2 with ⟨q, _⟩ | ⟨g1, cap1, cur, q1, _, q2, _⟩
  · cases q
  · cases q1
    rw [h2] at q2
    injection q2 with q2
    injection q2 with _ q2
    exact absurd q2 (by decide)

theorem NewI.set_row {base b1 s n cap : Nat} {w : World} {u : Value} {l : List Int} {g : Nat} {xs : List Value} (h : NewI base w u l) (hr : w.ownsRow b1 39 s (.slice (some ⟨g, 0, none⟩) n cap) n xs) (j : Nat) (z : Value) : NewI base (w.setCell ⟨g, j, none⟩ z) u l :=
  h.keep fun g' hg' => Below.heap_setCell w ⟨g, j, none⟩ z g' (h.apart hr g' hg')

theorem OwnN.set_line {base : Nat} {w : World} {g N c1 : Nat} {M : List LockC} (ho : OwnN base w (.slice (some ⟨g, 0, none⟩) N c1) M) (hM : M.length = N) (k : Nat) (hk : k < M.length) (l : List Int) (a : Option Addr) (c : Nat) (hl : NewI base w (.slice a l.length c) l) :
    OwnN base (w.setCell ⟨g, k * 4 + 3, none⟩ (.slice a l.length c)) (.slice (some ⟨g, 0, none⟩) N c1) (M.set k ⟨M[k].name, M[k].holder, M[k].token, l, a, c⟩) := by
  subst hM
  refine ⟨?_, fun x hx => ?_⟩
  · rw [List.length_set]
    exact ownK_line ho.row k hk l a c
  · rcases List.mem_or_eq_of_mem_set hx with q | q
    · exact (ho.line x q).set_row ho.row _ _
    · subst q
      exact hl.set_row ho.row _ _

theorem vals_bounds {M : List LockC} {l : List LockV} {n : Nat} (h : vals M = l) (h1 : l.length ≤ n ∧ ∀ x ∈ l, x.line.length ≤ 1000) : M.length ≤ n ∧ ∀ x ∈ M, x.line.length ≤ 1000 := by
  refine ⟨by rw [← vals_length M, h]; exact h1.1, fun x hx => ?_⟩
  have : x.val ∈ l := by rw [← h]; exact List.mem_map_of_mem hx
  exact h1.2 _ this

theorem ownN_at {base : Nat} {w : World} {a : Option Addr} {N c : Nat} {M : List LockC} (ho : OwnN base w (.slice a N c) M) (hM : M.length = N) (k : Nat) (hk : k < N) :
    ∃ g, a = some ⟨g, 0, none⟩ ∧ base ≤ g ∧ ∃ hk' : k < M.length, w.cell? ⟨g, k * 4, none⟩ = some (.string (bstr M[k].name)) ∧ w.cell? ⟨g, k * 4 + 1, none⟩ = some (.int .i64 M[k].holder) ∧ w.cell? ⟨g, k * 4 + 2, none⟩ = some (.int .i64 M[k].token) ∧ w.cell? ⟨g, k * 4 + 3, none⟩ = some M[k].lv ∧
      (∀ j, w.frozen? ⟨g, j, none⟩ = false) ∧ NewI base w M[k].lv M[k].line := by
  have hr := ho.row
  rw [hM] at hr
  obtain ⟨g, rfl, hg⟩ := own_some (sz := 4) hr (by omega)
  have hk' : k < M.length := by omega
  obtain ⟨q0, q1, q2, q3, qf⟩ := ownK_at hr hM k hk'
  exact ⟨g, rfl, hg, hk', q0, q1, q2, q3, qf, ho.line _ (List.getElem_mem hk')⟩

def GetsD (r : List LockV × Int) (w : World) (e : Ending) (w' : World) : Prop :=
  ∃ v M, e = .returned (.tuple #[v, .int .i64 r.2]) ∧ vals M = r.1 ∧ OwnN w.heap.size w' v M ∧ Below w.heap.size w w'

/-- The lines of the first k have been left. -/
def leftN (G : List Int) (l : List LockV) (k : Nat) : List LockV := (l.take k).map (leftK G) ++ l.drop k
theorem leftN_zero (G : List Int) (l : List LockV) : leftN G l 0 = l := by simp [leftN]
theorem leftN_all (G : List Int) (l : List LockV) : leftN G l l.length = l.map (leftK G) := by simp [leftN]
theorem leftN_length (G : List Int) (l : List LockV) (k : Nat) (h : k ≤ l.length) : (leftN G l k).length = l.length := by
  unfold leftN
  rw [List.length_append, List.length_map, List.length_take, List.length_drop]
  omega
theorem leftN_get (G : List Int) (l : List LockV) (k : Nat) (h : k < l.length) (h' : k < (leftN G l k).length) : (leftN G l k)[k] = l[k] := by
  unfold leftN at h' ⊢
  rw [List.getElem_append_right (by rw [List.length_map, List.length_take]; omega)]
  simp only [List.length_map, List.length_take, List.getElem_drop]
  congr 1
  omega
theorem leftN_succ (G : List Int) (l : List LockV) (k : Nat) (h : k < l.length) : leftN G l (k + 1) = (leftN G l k).set k (leftK G l[k]) := by
  unfold leftN
  have hk : ((l.take k).map (leftK G)).length = k := by rw [List.length_map, List.length_take]; omega
  rw [List.take_succ_eq_append_getElem h, List.map_append, List.set_append_right _ _ (by omega), hk, Nat.sub_self, List.append_assoc]
  congr 1
  rw [List.drop_eq_getElem_cons h]
  rfl

set_option maxHeartbeats 8000000 in
theorem DropLocks_any (v u : Value) (L : List LockC) (G : List Int) (t : Int) (w : World) (h : RdK w v L) (h5 : L.length ≤ 1000) (h6 : ∀ x ∈ L, x.line.length ≤ 1000) (ht : 0 ≤ t ∧ t ≤ 2305843009213693952) (hG : RdI w u G)
    (hn : (vals L).Pairwise fun a b => a.name ≠ b.name) :
    Calls Try.prog 18 #[v, u, .int .i64 t] w (GetsD (dropK G (vals L) t) w) := by
  obtain ⟨N, hN⟩ : ∃ N, L.length = N := ⟨_, rfl⟩
  have CC := Lib.hid (Copy_at v L w N hN h h5 h6)
  have hm := h.len
  have HGW := Lib.hid (fun l a c w' (hb : Below w.heap.size w w') (hl : RdI w' (.slice a l.length c) l) (h5 : l.length ≤ 1000) => Without_any (.slice a l.length c) u l G w' hl (hG.later hb) h5)
  have HGI := Lib.hid (fun x w' (hb : Below w.heap.size w w') => In_has u G x w' (hG.later hb))
  have HLS : Hid (∀ k (hk : k < N), leftN G (vals L) (k + 1) = (leftN G (vals L) k).set k (leftK G ((vals L)[k]'(by rw [vals_length, hN]; exact hk)))) := Lib.hid fun k hk => leftN_succ G (vals L) k (by rw [vals_length, hN]; exact hk)
  have HLG : Hid (∀ k (hk : k < N) h', (leftN G (vals L) k)[k]'h' = (vals L)[k]'(by rw [vals_length, hN]; exact hk)) := Lib.hid fun k hk h' => leftN_get G (vals L) k (by rw [vals_length, hN]; exact hk) h'
  have HLA := Lib.hid (leftN_all G (vals L))
  rw [vals_length, hN] at HLA
  have H6 : Hid (∀ k (hk : k < N), ((vals L)[k]'(by rw [vals_length, hN]; exact hk)).line.length ≤ 1000) := Lib.hid fun k hk => by
    rw [vals_get L k (by omega)]
    exact h6 _ (List.getElem_mem _)
  obtain ⟨ua, uc, rfl⟩ := hG.form
  obtain ⟨a0, c0, rfl⟩ := h.form
  have HA := Lib.hid (fun i hi => rdk_at h.row i hi)
  have HNN := Lib.hid hN
  rw [hN] at hm h5 CC ⊢
  have HK : Hid (∀ k (hk : k < N), hasL G L[k].holder = false → midK G (vals L) t (k + 1) = midK G (vals L) t k ∧ (dropK G ((vals L).take (k + 1)) t).2 = (dropK G ((vals L).take k) t).2) := Lib.hid fun k hk q => by
    have e := vals_get L k (by omega) (by rw [vals_length]; omega)
    exact midK_keep G (vals L) t k (by rw [vals_length]; omega) (by rw [e]; exact q)
  have HE : Hid (∀ k (hk : k < N), hasL G L[k].holder = true → freeK (midK G (vals L) t k) L[k].name L[k].holder (t + (dropK G ((vals L).take k) t).2) = (midK G (vals L) t (k + 1), (dropK G ((vals L).take (k + 1)) t).2 - (dropK G ((vals L).take k) t).2, 0)) := Lib.hid fun k hk q => by
    have e := vals_get L k (by omega) (by rw [vals_length]; omega)
    have := midK_free G (vals L) t k (by rw [vals_length]; omega) hn (by rw [e]; exact q)
    rw [e] at this
    exact this
  have HBD : Hid (∀ k, k ≤ N → ∀ M, vals M = midK G (vals L) t k → M.length ≤ 1000 ∧ ∀ x ∈ M, x.line.length ≤ 1000) := Lib.hid fun k hk M hM => by
    have h1 := midK_bounds G (vals L) t k (by rw [vals_length]; omega) (fun y hy => by
      obtain ⟨x, hx, rfl⟩ := List.mem_map.1 hy
      exact h6 x hx)
    rw [vals_length, hN] at h1
    exact vals_bounds hM ⟨Nat.le_trans h1.1 h5, h1.2⟩
  have HQ : Hid (∀ k, k ≤ N → 0 ≤ (dropK G ((vals L).take k) t).2 ∧ (dropK G ((vals L).take k) t).2 ≤ 1000) := Lib.hid fun k hk => by
    have := dropK_count G ((vals L).take k) t
    rw [List.length_take, vals_length] at this
    omega
  have HMA : Hid (midK G (vals L) t N = (dropK G (vals L) t).1 ∧ (dropK G ((vals L).take N) t).2 = (dropK G (vals L) t).2) := Lib.hid (by
    have e : N = (vals L).length := by rw [vals_length]; omega
    rw [e, midK_all, List.take_length]
    exact ⟨rfl, rfl⟩)
  have HM0 : Hid ((vals L).map (leftK G) = midK G (vals L) t 0) := Lib.hid (midK_zero _ _ _).symm
  have hw0 : (dropK G ((vals L).take 0) t).2 = 0 := rfl
  clear h h6 hG hn
  generalize G.length = GL at *
  go_enter Try.func18, Try.ntmps18
  go_wp2_with (first
    | (go_at_call 32; refine CC.out.mono ?_; rintro e w1 ⟨a1, c1, M, rfl, hM, hv, ho, hb⟩; have HO := Lib.hid ho.n; have HB := Lib.hid hb; have HV := Lib.hid hv; have HMM := Lib.hid hM; clear ho hb hv hM))
  go_loopw [9] (fun i wr => ∃ (k : Nat) (M : List LockC), k ≤ N ∧ i = .int .i64 k ∧ Hid (M.length = N) ∧ Hid (vals M = leftN G (vals L) k) ∧ Hid (OwnN w.heap.size wr (.slice a1 N c1) M) ∧ Hid (Below w.heap.size w wr)) (fun i _ => N - (intOf i).toNat)
  case atStart => exact ⟨0, M, by omega, rfl, HMM, Lib.hid (by rw [leftN_zero]; exact HV.out), HO, HB⟩
  case round =>
    obtain ⟨k, M, hk, rfl, HMM, HV, HO, HB⟩ := hrel
    by_cases hlt : k < N
    · obtain ⟨g, rfl, hg, hk', q0, q1, q2, q3, qf, hl⟩ := ownN_at HO.out HMM.out k hlt
      have hx : M[k].val = (vals L)[k]'(by rw [vals_length, HNN.out]; exact hlt) := by
        have e1 := vals_get M k hk' (by rw [vals_length]; exact hk')
        have e2 := HLG.out k hlt (by rw [← HV.out, vals_length]; exact hk')
        rw [← e1, ← e2]
        simp [HV.out]
      have hll : M[k].line.length ≤ 1000 := by
        have := H6.out k hlt
        rw [← hx] at this
        exact this
      have hs := HLS.out k hlt
      rw [← hx, ← HV.out] at hs
      have HS := Lib.hid hs
      have HSET := Lib.hid (fun wz (hb : Below wr.heap.size wr wz) l a c hl => (HO.out.later hb).set_line HMM.out k hk' l a c hl)
      have HROW := Lib.hid (fun wz (hb : Below wr.heap.size wr wz) => (HMM.out ▸ (HO.out.later hb).row : wz.ownsRow w.heap.size 39 4 (.slice (some ⟨g, 0, none⟩) N c1) N (flatX cellsK M)))
      have HLEN := HMM
      clear hx hs H6 HLS HLG HLA HA
      generalize hMk : M[k] = x at q0 q1 q2 q3 hl hll HS HSET
      have HMK := Lib.hid hMk
      obtain ⟨xn, xh, xt, xl, xa, xc⟩ := x
      unfold LockC.lv at q3 hl
      dsimp only at q0 q1 q2 q3 hl hll HSET
      clear hMk
      have f1 : (0 : Int) ≤ (k : Int) := by omega
      have f2 : (k : Int) < (N : Int) := by omega
      have HL1 := Lib.hid hl
      clear hl
      go_wp2_with (go_at_call 31; refine (HGW.out xl xa xc _ HB.out HL1.out.1 hll).mono ?_; rintro e w5 ⟨v5, rfl, ho5, hb5⟩; obtain ⟨za, zc, rfl⟩ := Rw.own_form ho5; obtain ⟨-, -, -, p3, pf⟩ := ownK_at (HROW.out _ hb5) HLEN.out k hk'; have pf3 := pf (k * 4 + 3); have HD := Lib.hid (HSET.out _ hb5 (withoutL xl G) za zc (NewI.own (own_lowerX ho5 HB.out.size))); have HB5 := Lib.hid ((step HB.out hb5).setCell (p := ⟨g, k * 4 + 3, none⟩) hg (.slice za (withoutL xl G).length zc)); clear ho5 hb5 pf)
      go_roundw
      case rel => exact ⟨k + 1, _, by omega, by go_num, Lib.hid (by rw [List.length_set]; exact HLEN.out), Lib.hid (by rw [vals_set, HS.out]; rfl), HD, HB5⟩
      case measure => simp [intOf]; omega
    · obtain rfl : k = N := by omega
      rw [HLA.out] at HV
      clear HLS HLG HLA H6 HGW CC
      go_wp2
      rw [HM0.out] at HV
      have H00 := Lib.hid hw0
      clear hw0 HM0 HMM
      go_loopw [8, 10, 11] (fun m gv i wr => ∃ (j : Nat) (M : List LockC), j ≤ k ∧ i = .int .i64 j ∧ gv = .int .i64 (dropK G ((vals L).take j) t).2 ∧ Hid (vals M = midK G (vals L) t j) ∧ Hid (OwnN w.heap.size wr m M) ∧ Hid (Below w.heap.size w wr)) (fun _ _ i _ => k - (intOf i).toNat)
      case atStart => exact ⟨0, M, by omega, rfl, by rw [H00.out], HV, HO, HB⟩
      case round =>
        obtain ⟨j, M, hj, rfl, rfl, HV2, HO2, HB2⟩ := hrel
        by_cases hlt : j < k
        · have hjL : j < L.length := by omega
          obtain ⟨b, o, rfl, hc⟩ := HA.out j hjL
          obtain ⟨q0, q1, q2, q3⟩ := hc _ HB2.out
          have HC := Lib.hid (fun W (hb : Below wr.heap.size wr W) => hc W (step HB2.out hb))
          have hke := HK.out j hlt
          have hfe := HE.out j hlt
          have hq := HQ.out j (by omega)
          have hq2 := HQ.out (j + 1) (by omega)
          have hbd := HBD.out j (by omega) M HV2.out
          have HFR := Lib.hid (fun W (hb : Below wr.heap.size wr W) n c tt (htt : 0 ≤ tt ∧ tt ≤ 4611686018427387904) => FreeLock_any _ M n c tt W ((HO2.out.later hb).rd) hbd.1 hbd.2 htt)
          have HI := Lib.hid (fun x => HGI.out x wr HB2.out)
          clear hc HK HE HQ HBD HA
          generalize L[j] = x at q0 q1 q2 q3 hke hfe HC
          obtain ⟨xn, xh, xt, xl, xa, xc⟩ := x
          unfold LockC.lv at q3
          dsimp only at q0 q1 q2 q3 hke hfe HC
          obtain ⟨q, hqq⟩ : ∃ q, (dropK G ((vals L).take j) t).2 = q := ⟨_, rfl⟩
          obtain ⟨q', hqq'⟩ : ∃ q', (dropK G ((vals L).take (j + 1)) t).2 = q' := ⟨_, rfl⟩
          rw [hqq] at hke hfe hq ⊢
          rw [hqq'] at hke hfe hq2
          have HQ' := Lib.hid hqq'
          clear hqq hqq' hbd
          have f2 : (j : Int) < (k : Int) := by omega
          have f1 : (0 : Int) ≤ (j : Int) := by omega
          cases n1 : hasL G xh with
          | false =>
            have HKE := Lib.hid (hke n1)
            have CI := Lib.hid (HI.out xh)
            rw [n1] at CI
            clear hke hfe n1 HI
            go_wp2_with (go_at_call 28; refine CI.out.mono ?_; rintro e w5 ⟨rfl, rfl⟩)
            go_roundw
            case rel => exact ⟨j + 1, M, by omega, by go_num, by rw [HQ'.out, HKE.out.2], Lib.hid (by rw [HV2.out, HKE.out.1]), HO2, HB2⟩
            case measure => simp [intOf]; omega
          | true =>
            have hfe := hfe n1
            have CI := Lib.hid (HI.out xh)
            rw [n1] at CI
            have e1 : IntKind.i64.wrap (t + q) = t + q := by rw [IntKind.wrap_i64]; omega
            have e2 : IntKind.i64.wrap (q + (q' - q)) = q' := by rw [IntKind.wrap_i64]; omega
            have HF2 : Hid (∀ W, Below wr.heap.size wr W → Calls Try.prog 15 #[u8, .string (bstr xn), .int .i64 xh, .int .i64 (t + q)] W (GetsT (midK G (vals L) t (j + 1), q' - q, 0) W)) := Lib.hid fun W hb => by
              have := HFR.out W hb xn xh (t + q) (by omega)
              rw [HV2.out, hfe] at this
              exact this
            clear hke hfe n1 HI HFR hq hq2
            go_upto_region 11 with (go_at_call 28; refine CI.out.mono ?_; rintro e w5 ⟨rfl, rfl⟩)
            go_region_held3 (fun w' => w'.cell? ⟨b, o + j * 4, none⟩ = some (.string (bstr xn)) ∧ w'.cell? ⟨b, o + j * 4 + 1, none⟩ = some (.int .i64 xh)) (first | exact ⟨q0, q1⟩ | go_keep | exact ⟨(HC.out _ HBZ.out).1, (HC.out _ HBZ.out).2.1⟩) (first
              | (go_at_call 15; refine (HF2.out _ (below_drewN6 (Below.refl _ _) _)).mono ?_; rintro e wz ⟨vz, Mz, rfl, hvz, hoz, hbz⟩; have HBZ := Lib.hid (step (below_drewN6 (Below.refl wr.heap.size wr) 1) hbz); have HVZ := Lib.hid hvz; have HOZ := Lib.hid hoz; clear hbz hvz hoz))
            go_wp2
            go_roundw
            case rel => exact ⟨j + 1, Mz, by omega, by go_num, by rw [HQ'.out], HVZ, Lib.hid (HOZ.out.lower HB2.out.size), Lib.hid (step HB2.out HBZ.out)⟩
            case measure => simp [intOf]; omega
        · obtain rfl : j = k := by omega
          clear HK HE HQ HBD
          go_wp2
          refine bodyPost_ret (by simp [results, Try.results18, go_sem] <;> rfl) rfl ?_
          exact ⟨_, M, by rw [HMA.out.2], by rw [HV2.out]; exact HMA.out.1, HO2.out, HB2.out⟩
end Cm
end Go.Proofs.Ytnkooajbenhjhaa

/- Contracts: padlockref6's Held. -/
set_option linter.unusedVariables false
set_option linter.unusedSimpArgs false
namespace Go.Proofs.Ytnkooajbenhjhaa
open Go.RowKit
namespace Cm

theorem infoG8 : (Try.prog.info? 74).map (fun i => (i.zero, i.size, i.bytes)) = some (some (.agg #[.string ⟨#[]⟩, .int .i64 0]), 2, 24) := by kernel_rfl
def cellsG (g : GrantV) : List Value := [.string (bstr g.name), .int .i64 g.token]
theorem cellsG_length (g : GrantV) : (cellsG g).length = 2 := rfl
theorem cellsG_one (g : GrantV) : ∀ u ∈ cellsG g, u.oneCell' = true := by
  intro u hu
  unfold cellsG at hu
  simp only [List.mem_cons, List.not_mem_nil, or_false] at hu
  rcases hu with rfl | rfl <;> rfl

theorem RdH.of {w : World} {v : Value} {l : List GrantV} (h : RdX 2 cellsG w v l) : RdH w v l := by
  obtain ⟨a, cap, hv, h1, h2, h3, h4⟩ := h.ex
  refine ⟨a, cap, hv, h1, h2, fun q => (h3 q).1, fun x hx hp => ?_⟩
  obtain ⟨hs, hc⟩ := h4 x hx hp
  exact ⟨hs, fun i hi => ⟨hc i hi 0 _ rfl, hc i hi 1 _ rfl⟩⟩

/-- What is held, told. -/
def GetsH (l : List GrantV) (w : World) (e : Ending) (w' : World) : Prop := ∃ a cap, e = .returned (.slice a l.length cap) ∧ RdH w' (.slice a l.length cap) l ∧ Below w.heap.size w w'

theorem heldK_length (l : List LockV) (c : Int) : (heldK l c).length ≤ l.length := by
  unfold heldK
  rw [List.length_map]
  exact List.length_filter_le _ _

set_option maxHeartbeats 4000000 in
theorem Held_any (v : Value) (L : List LockC) (c : Int) (w : World) (h : RdX 4 cellsK w v L) (h5 : L.length ≤ 1000) : Calls Try.prog 25 #[v, .int .i64 c] w (GetsH (heldK (vals L) c) w) := by
  have hm := h.len
  obtain ⟨a, cap, rfl⟩ := h.form
  have HA := Lib.hid (fun i hi => rdk_at h i hi)
  obtain ⟨N, hN⟩ : ∃ N, L.length = N := ⟨_, rfl⟩
  have HD : Hid (∀ j (hj : j < L.length), heldK ((vals L).take (j + 1)) c = heldK ((vals L).take j) c ++ if L[j].holder = c then [⟨L[j].name, L[j].token⟩] else []) := Lib.hid fun j hj => by
    have := heldK_drop (vals L) c j (by rw [vals_length]; exact hj)
    rw [vals_get L j hj] at this
    exact this
  have HLE : Hid (∀ j, j ≤ N → (heldK ((vals L).take j) c).length ≤ 1000) := Lib.hid fun j hj => by
    have := heldK_length ((vals L).take j) c
    rw [List.length_take, vals_length] at this
    omega
  have HALL : Hid (heldK ((vals L).take N) c = heldK (vals L) c) := Lib.hid (by rw [List.take_of_length_le (by rw [vals_length]; omega)])
  rw [hN] at hm h5 ⊢
  clear h
  obtain ⟨i0, hi, hz0, hz1, hz2⟩ := info_parts infoG8
  go_enter Try.func25, Try.ntmps25
  go_wp2
  go_loopw [5, 6] (fun m i wr => ∃ (k : Nat) (M : List GrantV), k ≤ N ∧ i = .int .i64 k ∧ M.length ≤ 1000 ∧ Hid (M = heldK ((vals L).take k) c) ∧ Hid (wr.ownsRow w.heap.size 74 2 m M.length (flatX cellsG M)) ∧ Hid (Below w.heap.size w wr)) (fun _ i _ => N - (intOf i).toNat)
  case atStart => exact ⟨0, [], by omega, rfl, by simp, Lib.hid rfl, Lib.hid (World.ownsRow_nil _ _ _ _), Lib.hid (Below.refl _ _)⟩
  case round =>
    obtain ⟨k, M, hk, rfl, hMl, HM, HO, HB⟩ := hrel
    by_cases hlt : k < N
    · have hkl : k < L.length := by omega
      obtain ⟨b, o, rfl, hc⟩ := HA.out k hkl
      obtain ⟨q0, q1, q2, -⟩ := hc _ HB.out
      have HC := Lib.hid (fun W (hb : Below w.heap.size w W) => hc W hb)
      have hd := HD.out k hkl
      have hle := HLE.out (k + 1) (by omega)
      clear hc HA HD HLE
      generalize L[k] = x at q0 q1 q2 hd HC
      obtain ⟨xn, xh, xt, xl, xa, xc⟩ := x
      dsimp only at q0 q1 q2 hd HC
      have f1 : (0 : Int) ≤ (k : Int) := by omega
      have f2 : (k : Int) < (N : Int) := by omega
      by_cases e1 : xh = c
      · have d1 : (xh == c) = true := by simpa using e1
        rw [if_pos e1, ← HM.out] at hd
        rw [hd, List.length_append, List.length_singleton] at hle
        have H := Lib.hid hd
        have HLE := Lib.hid hle
        clear hd e1 hle
        go_upto_region 6 with fail
        go_region_held3 (fun w' => w'.cell? ⟨b, o + k * 4, none⟩ = some (.string (bstr xn)) ∧ w'.cell? ⟨b, o + k * 4 + 2, none⟩ = some (.int .i64 xt))
          (first | exact ⟨q0, q2⟩ | exact ⟨(HC.out _ HB5.out).1, (HC.out _ HB5.out).2.2.1⟩ | exact ⟨(HC.out _ ((stepAlloc HB.out _).drew)).1, (HC.out _ ((stepAlloc HB.out _).drew)).2.2.1⟩ | exact ⟨(HC.out _ HB.out.drew).1, (HC.out _ HB.out.drew).2.2.1⟩ | go_keep)
          (first
            | (refine step_append_one cellsG_length (by omega) (by rfl) _ _ _ (by rfl) 74 i0 _ 24 Try.underlying45 hi hz0 hz1 hz2 rfl #[.string (bstr xn), .int .i64 xt] ⟨xn, xt⟩ rfl (cellsG_one _) M w.heap.size w.heap.size w _ (by rfl) (by rfl) HO.out (by unfold maxLen; omega) (by omega) HB.out.size HB.out (Nat.le_refl _) ?_; intro v5 w5 ho5 hb5 _; have HO5 := Lib.hid ho5; have HB5 := Lib.hid hb5; clear ho5 hb5))
        all_goals
          go_wp2
          go_roundw
          case rel => exact ⟨k + 1, M ++ [⟨xn, xt⟩], by omega, by go_num, by simpa using HLE.out, Lib.hid H.out.symm, HO5, HB5⟩
          case measure => simp [intOf]; omega
      · have d1 : (xh == c) = false := by simpa using e1
        rw [if_neg e1, List.append_nil, ← HM.out] at hd
        have H := Lib.hid hd
        clear hd e1 hle
        go_wp2
        go_roundw
        case rel => exact ⟨k + 1, M, by omega, by go_num, hMl, Lib.hid H.out.symm, HO, HB⟩
        case measure => simp [intOf]; omega
    · obtain rfl : k = N := by omega
      have hM := HM.out
      rw [HALL.out] at hM
      have H := Lib.hid hM
      clear hM
      obtain ⟨ua, uc, rfl⟩ := Rw.own_form HO.out
      have HRR := Lib.hid (RdH.of (RdX.own cellsG_length HO.out))
      clear HM
      go_wp2
      go_ret
      rw [← H.out]
      exact ⟨_, _, rfl, HRR.out, HB.out⟩
end Cm
end Go.Proofs.Ytnkooajbenhjhaa

/- Contracts: padlockref6's RightLocks. -/
set_option linter.unusedVariables false
set_option linter.unusedSimpArgs false
namespace Go.Proofs.Ytnkooajbenhjhaa
open Go.RowKit
namespace Cm

set_option maxHeartbeats 2000000 in
theorem RightLine_q (v : Value) (l : List Int) (w : World) (h : RdI w v l) : Calls Try.prog 48 #[v] w (SaysQ (rightL l) w) := by
  have hm := h.len
  obtain ⟨a, cap, rfl⟩ := h.form
  unfold rightL
  by_cases c6 : l.length ≤ 3
  case neg =>
    rw [decide_eq_false c6, Bool.false_and]
    clear h
    have d5 : decide (3 < (l.length : Int)) = true := by simp; omega
    generalize l.length = L at *
    go_enter Try.func48, Try.ntmps48
    go_wp2
    go_ret
    exact ⟨rfl, 0, rfl⟩
  rw [decide_eq_true c6, Bool.true_and]
  have d5 : decide (3 < (l.length : Int)) = false := by simp; omega
  have hcap : l.length ≤ cap ∧ cap ≤ maxLen := by
    obtain ⟨a', cap', hv, q1, q2, _⟩ := h.ex
    cases hv
    exact ⟨q1, q2⟩
  have HA := Lib.hid (fun i hi => rdi_at h i hi)
  have HT := Lib.hid (fun k (hk : k ≤ l.length) x (w' : World) (hb : Below w.heap.size w w') => In_has _ (l.take k) x w' ((h.take k hk).later hb))
  have HD := Lib.hid (lineGo_drop l)
  clear h
  obtain ⟨L, hL⟩ : ∃ L, l.length = L := ⟨_, rfl⟩
  have HLL := Lib.hid hL
  rw [hL] at hm c6 d5 hcap ⊢
  clear hL
  obtain ⟨hc1, hc2⟩ := hcap
  go_enter Try.func48, Try.ntmps48
  go_wp2
  go_loopw [3] (fun i wr => ∃ j : Nat, j ≤ L ∧ i = .int .i64 j ∧ Hid (∃ N, wr = w.drewN N) ∧ Hid (lineGo [] l = lineGo (l.take j) (l.drop j))) (fun i _ => L - (intOf i).toNat)
  case atStart => exact ⟨0, by omega, rfl, Lib.hid ⟨0, rfl⟩, Lib.hid rfl⟩
  case round =>
    obtain ⟨j, hj, rfl, HW, HG⟩ := hrel
    have HB : Hid (Below w.heap.size w wr) := Lib.hid (by obtain ⟨N, h⟩ := HW.out; rw [h]; exact below_drewN6 (Below.refl _ _) N)
    by_cases hlt : j < L
    · have hjl : j < l.length := by rw [HLL.out]; exact hlt
      obtain ⟨b, o, rfl, hc⟩ := HA.out j hjl
      have q0 := hc _ HB.out
      have HT2 := Lib.hid (HT.out j (by rw [HLL.out]; exact hj))
      have hd := HD.out j hjl
      clear hc HT HA HD
      generalize l[j] = x at q0 hd
      have HI := Lib.hid (fun n => HT2.out x (wr.drewN n) (below_drewN6 HB.out n))
      clear HT2
      have g1 : (0 : Int) ≤ (j : Int) := by omega
      have g2 : (j : Int) < (L : Int) := by omega
      have g3 : (j : Int) ≤ (cap : Int) := by omega
      generalize l.take j = P at HI hd HG
      cases n1 : clientF x with
      | false =>
        rw [n1] at hd
        have H := Lib.hid hd
        clear hd
        go_upto_region 6 with fail
        go_quiet (first | (go_at_call 46; exact quiet_eq6 (client6_any _ _)))
        go_wp2
        go_ret
        exact ⟨by rw [HG.out, H.out]; rfl, by obtain ⟨N, h⟩ := HW.out; rw [h]; exact ⟨_, World.drewN_drewN _ _ _⟩⟩
      | true =>
        rw [n1] at hd
        cases n2 : hasL P x with
        | true =>
          rw [n2] at hd HI
          have H := Lib.hid hd
          clear hd
          go_upto_region 6 with fail
          go_quiet (first | (go_at_call 46; exact quiet_eq6 (client6_any _ _)) | (go_at_call 28; exact quiet_eq6 (HI.out _)))
          go_wp2
          go_ret
          exact ⟨by rw [HG.out, H.out]; rfl, by obtain ⟨N, h⟩ := HW.out; rw [h]; exact ⟨_, World.drewN_drewN _ _ _⟩⟩
        | false =>
          rw [n2] at hd HI
          have H := Lib.hid hd
          clear hd
          go_upto_region 6 with fail
          go_quiet (first | (go_at_call 46; exact quiet_eq6 (client6_any _ _)) | (go_at_call 28; exact quiet_eq6 (HI.out _)))
          go_wp2
          go_roundw
          case rel => exact ⟨j + 1, by omega, by go_num, Lib.hid (by obtain ⟨N, h⟩ := HW.out; rw [h]; exact ⟨_, World.drewN_drewN _ _ _⟩), Lib.hid (by rw [HG.out, H.out]; simp)⟩
          case measure => simp [intOf]; omega
    · obtain rfl : j = L := by omega
      have hg := HG.out
      rw [← HLL.out, List.drop_length] at hg
      have HE := Lib.hid hg
      clear hg HT
      go_wp2
      go_ret
      exact ⟨by rw [HE.out]; rfl, HW.out⟩

def allT (l : List LockV) (n : Int) : Bool := l.all fun p => !decide (p.token = n)
theorem allT_drop (l : List LockV) (n : Int) (j k : Nat) (hj : j ≤ l.length) (h : k < j) : allT ((l.take j).drop k) n = (!decide ((l[k]'(by omega)).token = n) && allT ((l.take j).drop (k + 1)) n) := by
  have hk : k < (l.take j).length := by rw [List.length_take]; omega
  rw [List.drop_eq_getElem_cons hk]
  have e : (l.take j)[k] = l[k]'(by omega) := List.getElem_take
  unfold allT
  rw [List.all_cons, e]

theorem lockOk_first (k : LockV) : lockOk [] k = (oneK k && allT [] k.token) := by
  unfold lockOk allT
  simp
theorem lockOk_next (l : List LockV) (q : Nat) (h : q < l.length) (k : LockV) : lockOk (l.take (q + 1)) k = (oneK k && (Op.bytesLess l[q].name k.name && allT (l.take (q + 1)) k.token)) := by
  unfold lockOk allT
  have e : (l.take (q + 1)).getLast? = some l[q] := by rw [List.take_succ_eq_append_getElem h, List.getLast?_append]; simp
  rw [e]

set_option maxHeartbeats 8000000 in
theorem RightLocks_any (v : Value) (L : List LockC) (w : World) (h : RdK w v L) : Calls Try.prog 26 #[v] w (SaysB (rightK (vals L)) w) := by
  have hm := h.len
  obtain ⟨a, cap, rfl⟩ := h.form
  unfold rightK
  rw [vals_length]
  by_cases c6 : L.length ≤ 4
  case neg =>
    rw [decide_eq_false c6, Bool.false_and]
    clear h
    have d5 : decide (4 < (L.length : Int)) = true := by simp; omega
    generalize L.length = N at *
    go_enter Try.func26, Try.ntmps26
    go_wp2
    go_ret
    exact ⟨rfl, Below.refl _ _⟩
  have d5 : decide (4 < (L.length : Int)) = false := by simp; omega
  rw [decide_eq_true c6, Bool.true_and]
  have HA := Lib.hid (fun i hi => rdk_at h.row i hi)
  have HLI : Hid (∀ i (hi : i < L.length) (w' : World), Below w.heap.size w w' → RdI w' L[i].lv L[i].line) := Lib.hid fun i hi w' hb => (h.line _ (List.getElem_mem hi)).later hb
  have HD : Hid (∀ j (hj : j < L.length), rightGoK ((vals L).take j) ((vals L).drop j) = (lockOk ((vals L).take j) L[j].val && rightGoK ((vals L).take (j + 1)) ((vals L).drop (j + 1)))) := Lib.hid fun j hj => by
    have := rightGoK_drop (vals L) j (by rw [vals_length]; exact hj)
    rw [vals_get L j hj] at this
    exact this
  have HN : Hid (∀ n j k (hj : j ≤ L.length) (hk : k < j), allT (((vals L).take j).drop k) n = (!decide ((L[k]'(by omega)).token = n) && allT (((vals L).take j).drop (k + 1)) n)) := Lib.hid fun n j k hj hk => by
    have := allT_drop (vals L) n j k (by rw [vals_length]; exact hj) hk
    rw [vals_get L k (by omega)] at this
    exact this
  have H1 : Hid (∀ q (hq : q < L.length) k, lockOk ((vals L).take (q + 1)) k = (oneK k && (Op.bytesLess L[q].name k.name && allT ((vals L).take (q + 1)) k.token))) := Lib.hid fun q hq k => by
    have := lockOk_next (vals L) q (by rw [vals_length]; exact hq) k
    rw [vals_get L q hq] at this
    exact this
  clear h
  obtain ⟨N, hL⟩ : ∃ N, L.length = N := ⟨_, rfl⟩
  have HLL := Lib.hid hL
  have HVL : Hid ((vals L).length = N) := Lib.hid (by rw [vals_length]; exact hL)
  rw [hL] at hm c6 d5 ⊢
  clear hL
  go_enter Try.func26, Try.ntmps26
  go_wp2
  go_loopw [3] (fun i wr => ∃ j : Nat, j ≤ N ∧ i = .int .i64 j ∧ Hid (Below w.heap.size w wr) ∧ Hid (rightGoK [] (vals L) = rightGoK ((vals L).take j) ((vals L).drop j))) (fun i _ => N - (intOf i).toNat)
  case atStart => exact ⟨0, by omega, rfl, Lib.hid (Below.refl _ _), Lib.hid rfl⟩
  case round =>
    obtain ⟨j, hj, rfl, HB, ha⟩ := hrel
    by_cases hlt : j < N
    · have hjl : j < L.length := by rw [HLL.out]; exact hlt
      have hd := HD.out j hjl
      have hli := HLI.out j hjl
      obtain ⟨b, o, rfl, hc⟩ := HA.out j hjl
      obtain ⟨q0, q1, q2, q3⟩ := hc _ HB.out
      have HC : Hid (∀ i (hi : i < L.length) (w' : World), Below w.heap.size w w' → w'.cell? ⟨b, o + i * 4, none⟩ = some (.string (bstr L[i].name)) ∧ w'.cell? ⟨b, o + i * 4 + 2, none⟩ = some (.int .i64 L[i].token)) := fun i hi w' hb => by
        obtain ⟨b', o', e, hc'⟩ := HA.out i hi
        cases e
        obtain ⟨x0, -, x2, -⟩ := hc' w' hb
        exact ⟨x0, x2⟩
      clear hc HA HD HLI
      generalize L[j] = g at q0 q1 q2 q3 hd hli
      obtain ⟨xn, xh, xt, xl, xa, xc⟩ := g
      unfold LockC.lv at q3 hli
      unfold LockC.val at hd
      dsimp only at q0 q1 q2 q3 hd hli
      have hs : lockOk ((vals L).take j) ⟨xn, xh, xt, xl⟩ = (nameF xn && (clientF xh && (highF xt 1 && (rightL xl && (!hasL xl xh && ((if 0 < j then Op.bytesLess ((vals L).getD (j - 1) zeroK).name xn else true) && allT ((vals L).take j) xt)))))) := by
        cases j with
        | zero =>
          rw [List.take_zero, lockOk_first, if_neg (by omega), Bool.true_and]
          unfold oneK
          simp only [Bool.and_assoc]
        | succ q =>
          have hq : q < L.length := by omega
          have hq' : q < (vals L).length := by rw [vals_length]; exact hq
          rw [H1.out q hq _, if_pos (by omega)]
          have e : (vals L).getD (q + 1 - 1) zeroK = L[q].val := by
            simp [List.getD, List.getElem?_eq_getElem hq', vals_get L q hq]
          rw [e]
          unfold oneK
          simp only [Bool.and_assoc]
          rfl
      rw [hs] at hd
      clear hs H1
      obtain ⟨W1, hW1⟩ : ∃ W1, W1 = wr.alloc (.cells #[.string (bstr xn), .int .i64 xh, .int .i64 xt, .slice xa xl.length xc] 39) := ⟨_, rfl⟩
      have HB1 : Hid (Below w.heap.size w W1) := Lib.hid (by rw [hW1]; exact stepAlloc HB.out _)
      obtain ⟨z0, z1, z2, z3⟩ := box4 (Below.refl _ (wr.alloc (.cells #[.string (bstr xn), .int .i64 xh, .int .i64 xt, .slice xa xl.length xc] 39)))
      rw [← hW1] at z0 z1 z2 z3
      have HRL := Lib.hid (fun W (hb : Below W1.heap.size W1 W) => RightLine_q _ xl W (hli W (step HB1.out hb)))
      have HIN := Lib.hid (fun W (hb : Below W1.heap.size W1 W) => In_has _ xl xh W (hli W (step HB1.out hb)))
      clear hli
      cases n1 : nameF xn
      case false =>
        rw [n1] at hd
        simp only [Bool.not_true, Bool.not_false, Bool.false_and, Bool.and_false] at hd
        have H := Lib.hid hd
        clear hd
        go_upto_region 7 with fail
        rw [← hW1]
        clear hW1
        go_quiet (first
                  | (go_at_call 45; exact quiet_eq6 (RefName_any _ _))
                  | (go_at_call 46; exact quiet_eq6 (client6_any _ _))
                  | (go_at_call 47; exact quiet_eq6 (high6_any _ _ _))
                  | (go_at_call 48; exact (HRL.out _ (below_drewN6 (Below.refl _ _) _)).mono fun e w2 ⟨he, n, hn⟩ => ⟨he, _, hn.trans (World.drewN_drewN _ _ _)⟩)
                  | (go_at_call 28; exact quiet_eq6 (HIN.out _ (below_drewN6 (Below.refl _ _) _))))
        go_wp2
        go_ret
        exact ⟨by rw [ha.out, H.out]; rfl, below_drewN6 HB1.out nq⟩
      rw [n1] at hd
      simp only [Bool.not_false, Bool.true_and] at hd
      cases n2 : clientF xh
      case false =>
        rw [n2] at hd
        simp only [Bool.not_true, Bool.not_false, Bool.false_and, Bool.and_false] at hd
        have H := Lib.hid hd
        clear hd
        go_upto_region 7 with fail
        rw [← hW1]
        clear hW1
        go_quiet (first
                  | (go_at_call 45; exact quiet_eq6 (RefName_any _ _))
                  | (go_at_call 46; exact quiet_eq6 (client6_any _ _))
                  | (go_at_call 47; exact quiet_eq6 (high6_any _ _ _))
                  | (go_at_call 48; exact (HRL.out _ (below_drewN6 (Below.refl _ _) _)).mono fun e w2 ⟨he, n, hn⟩ => ⟨he, _, hn.trans (World.drewN_drewN _ _ _)⟩)
                  | (go_at_call 28; exact quiet_eq6 (HIN.out _ (below_drewN6 (Below.refl _ _) _))))
        go_wp2
        go_ret
        exact ⟨by rw [ha.out, H.out]; rfl, below_drewN6 HB1.out nq⟩
      rw [n2] at hd
      simp only [Bool.not_false, Bool.true_and] at hd
      cases n3 : highF xt 1
      case false =>
        rw [n3] at hd
        simp only [Bool.not_true, Bool.not_false, Bool.false_and, Bool.and_false] at hd
        have H := Lib.hid hd
        clear hd
        go_upto_region 7 with fail
        rw [← hW1]
        clear hW1
        go_quiet (first
                  | (go_at_call 45; exact quiet_eq6 (RefName_any _ _))
                  | (go_at_call 46; exact quiet_eq6 (client6_any _ _))
                  | (go_at_call 47; exact quiet_eq6 (high6_any _ _ _))
                  | (go_at_call 48; exact (HRL.out _ (below_drewN6 (Below.refl _ _) _)).mono fun e w2 ⟨he, n, hn⟩ => ⟨he, _, hn.trans (World.drewN_drewN _ _ _)⟩)
                  | (go_at_call 28; exact quiet_eq6 (HIN.out _ (below_drewN6 (Below.refl _ _) _))))
        go_wp2
        go_ret
        exact ⟨by rw [ha.out, H.out]; rfl, below_drewN6 HB1.out nq⟩
      rw [n3] at hd
      simp only [Bool.not_false, Bool.true_and] at hd
      cases n4 : rightL xl
      case false =>
        rw [n4] at hd
        simp only [Bool.not_true, Bool.not_false, Bool.false_and, Bool.and_false] at hd
        rw [n4] at HRL
        have H := Lib.hid hd
        clear hd
        go_upto_region 7 with fail
        rw [← hW1]
        clear hW1
        go_quiet (first
                  | (go_at_call 45; exact quiet_eq6 (RefName_any _ _))
                  | (go_at_call 46; exact quiet_eq6 (client6_any _ _))
                  | (go_at_call 47; exact quiet_eq6 (high6_any _ _ _))
                  | (go_at_call 48; exact (HRL.out _ (below_drewN6 (Below.refl _ _) _)).mono fun e w2 ⟨he, n, hn⟩ => ⟨he, _, hn.trans (World.drewN_drewN _ _ _)⟩)
                  | (go_at_call 28; exact quiet_eq6 (HIN.out _ (below_drewN6 (Below.refl _ _) _))))
        go_wp2
        go_ret
        exact ⟨by rw [ha.out, H.out]; rfl, below_drewN6 HB1.out nq⟩
      rw [n4] at hd
      simp only [Bool.not_false, Bool.true_and] at hd
      rw [n4] at HRL
      cases n5 : hasL xl xh
      case true =>
        rw [n5] at hd
        simp only [Bool.not_true, Bool.not_false, Bool.false_and, Bool.and_false] at hd
        rw [n5] at HIN
        have H := Lib.hid hd
        clear hd
        go_upto_region 7 with fail
        rw [← hW1]
        clear hW1
        go_quiet (first
                  | (go_at_call 45; exact quiet_eq6 (RefName_any _ _))
                  | (go_at_call 46; exact quiet_eq6 (client6_any _ _))
                  | (go_at_call 47; exact quiet_eq6 (high6_any _ _ _))
                  | (go_at_call 48; exact (HRL.out _ (below_drewN6 (Below.refl _ _) _)).mono fun e w2 ⟨he, n, hn⟩ => ⟨he, _, hn.trans (World.drewN_drewN _ _ _)⟩)
                  | (go_at_call 28; exact quiet_eq6 (HIN.out _ (below_drewN6 (Below.refl _ _) _))))
        go_wp2
        go_ret
        exact ⟨by rw [ha.out, H.out]; rfl, below_drewN6 HB1.out nq⟩
      rw [n5] at hd
      simp only [Bool.not_false, Bool.true_and] at hd
      rw [n5] at HIN
      by_cases hj0 : 0 < j
      case' pos =>
        obtain ⟨q, hq⟩ : ∃ q, j = q + 1 := ⟨j - 1, by omega⟩
        have hql : q < L.length := by omega
        have d0 : decide (0 < j) = true := decide_eq_true hj0
        have eg : (vals L).getD (j - 1) zeroK = L[q].val := by
          have hq' : q < (vals L).length := by rw [vals_length]; exact hql
          rw [hq]
          simp [List.getD, List.getElem?_eq_getElem hq', vals_get L q hql]
        rw [if_pos hj0, eg] at hd
        obtain ⟨p0, -⟩ := HC.out q hql _ HB1.out
        generalize L[q] = pv at p0 hd eg
        clear eg
        obtain ⟨pn, ph, pt, pl, pa, pc⟩ := pv
        unfold LockC.val at hd
        dsimp only at p0 hd
        have e1 : IntKind.i64.wrap ((j : Int) - 1) = (q : Int) := by rw [IntKind.wrap_i64]; omega
        have e2 : (0 : Int) ≤ (q : Int) := by omega
        have e3 : (q : Int) < (N : Int) := by omega
        clear hq
        have hl1 := str_less xn pn
        have hl2 := str_eq xn pn
        cases n6 : Op.bytesLess pn xn
        case false =>
          rw [n6, Bool.false_and, Bool.false_and] at hd
          have hle : Op.bytesLess xn pn = true ∨ (Op.bytesLess xn pn = false ∧ xn = pn) := by
            rcases less_tri pn xn with ⟨t1, _, _⟩ | ⟨_, t2, _⟩ | ⟨t3, t4⟩
            · rw [n6] at t1; cases t1
            · exact .inl t2
            · subst t3; exact .inr ⟨t4, rfl⟩
          have H := Lib.hid hd
          clear hd n6
          rcases hle with hle | ⟨hle, hxp⟩
          · rw [hle] at hl1
            clear hl2 hle
            go_upto_region 7 with fail
            rw [← hW1]
            clear hW1
            go_quiet (first
          | (go_at_call 45; exact quiet_eq6 (RefName_any _ _))
          | (go_at_call 46; exact quiet_eq6 (client6_any _ _))
          | (go_at_call 47; exact quiet_eq6 (high6_any _ _ _))
          | (go_at_call 48; exact (HRL.out _ (below_drewN6 (Below.refl _ _) _)).mono fun e w2 ⟨he, n, hn⟩ => ⟨he, _, hn.trans (World.drewN_drewN _ _ _)⟩)
          | (go_at_call 28; exact quiet_eq6 (HIN.out _ (below_drewN6 (Below.refl _ _) _))))
            go_wp2
            go_ret
            exact ⟨by rw [ha.out, H.out]; rfl, below_drewN6 HB1.out nq⟩
          · rw [hle] at hl1
            rw [decide_eq_true hxp] at hl2
            clear hle hxp
            go_upto_region 7 with fail
            rw [← hW1]
            clear hW1
            go_quiet (first
          | (go_at_call 45; exact quiet_eq6 (RefName_any _ _))
          | (go_at_call 46; exact quiet_eq6 (client6_any _ _))
          | (go_at_call 47; exact quiet_eq6 (high6_any _ _ _))
          | (go_at_call 48; exact (HRL.out _ (below_drewN6 (Below.refl _ _) _)).mono fun e w2 ⟨he, n, hn⟩ => ⟨he, _, hn.trans (World.drewN_drewN _ _ _)⟩)
          | (go_at_call 28; exact quiet_eq6 (HIN.out _ (below_drewN6 (Below.refl _ _) _))))
            go_wp2
            go_ret
            exact ⟨by rw [ha.out, H.out]; rfl, below_drewN6 HB1.out nq⟩
        rw [n6, Bool.true_and] at hd
        have hle : Op.bytesLess xn pn = false ∧ xn ≠ pn := by
          rcases less_tri pn xn with ⟨_, t2, t3⟩ | ⟨t1, _, _⟩ | ⟨_, t4⟩
          · exact ⟨t2, fun q => t3 q.symm⟩
          · rw [n6] at t1; cases t1
          · rw [n6] at t4; cases t4
        rw [hle.1] at hl1
        rw [decide_eq_false hle.2] at hl2
        clear hle n6
        go_upto_region 7 with fail
        rw [← hW1]
        clear hW1
        go_quiet (first
          | (go_at_call 45; exact quiet_eq6 (RefName_any _ _))
          | (go_at_call 46; exact quiet_eq6 (client6_any _ _))
          | (go_at_call 47; exact quiet_eq6 (high6_any _ _ _))
          | (go_at_call 48; exact (HRL.out _ (below_drewN6 (Below.refl _ _) _)).mono fun e w2 ⟨he, n, hn⟩ => ⟨he, _, hn.trans (World.drewN_drewN _ _ _)⟩)
          | (go_at_call 28; exact quiet_eq6 (HIN.out _ (below_drewN6 (Below.refl _ _) _))))
        clear d0 e1 e2 e3 p0 hl1 hl2
      case' neg =>
        have d0 : decide (0 < j) = false := decide_eq_false hj0
        rw [if_neg hj0, Bool.true_and] at hd
        go_upto_region 7 with fail
        rw [← hW1]
        clear hW1
        go_quiet (first
          | (go_at_call 45; exact quiet_eq6 (RefName_any _ _))
          | (go_at_call 46; exact quiet_eq6 (client6_any _ _))
          | (go_at_call 47; exact quiet_eq6 (high6_any _ _ _))
          | (go_at_call 48; exact (HRL.out _ (below_drewN6 (Below.refl _ _) _)).mono fun e w2 ⟨he, n, hn⟩ => ⟨he, _, hn.trans (World.drewN_drewN _ _ _)⟩)
          | (go_at_call 28; exact quiet_eq6 (HIN.out _ (below_drewN6 (Below.refl _ _) _))))
        clear d0
      all_goals
        clear n1 n2 n3 n4 n5 q0 q1 q2 q3 hj0
        have HBW := Lib.hid (below_drewN6 HB1.out nq)
        have y1' : (W1.drewN nq).cell? ⟨wr.heap.size, 2, none⟩ = some (.int .i64 xt) := z2
        clear z0 z1 z2 z3 HRL HIN
        generalize W1.drewN nq = W at HBW y1' ⊢
        have HY := Lib.hid y1'
        generalize wr.heap.size = X at HY ⊢
        clear y1' HB HB1
        go_wp2
        go_loopw [5] (fun kk wk => ∃ k : Nat, k ≤ j ∧ kk = .int .i64 k ∧ Hid (Below W.heap.size W wk) ∧ Hid (allT ((vals L).take j) xt = allT (((vals L).take j).drop k) xt)) (fun kk _ => j - (intOf kk).toNat)
        case atStart => exact ⟨0, by omega, rfl, Lib.hid (Below.refl _ _), Lib.hid rfl⟩
        case round =>
          obtain ⟨k, hk, rfl, HBK, hak⟩ := hrel
          have z1 := (HBK.out.cell (lt_of_cell HY.out)).trans HY.out
          by_cases hkj : k < j
          · have hkl : k < L.length := by rw [HLL.out]; omega
            have hn := HN.out xt j k (by rw [HLL.out]; exact hj) hkj
            obtain ⟨-, p1⟩ := HC.out k hkl _ (step HBW.out HBK.out)
            generalize L[k] = pv at p1 hn
            obtain ⟨pn, ph, pt, pl, pa, pc⟩ := pv
            dsimp only at p1 hn
            have f1 : (0 : Int) ≤ (k : Int) := by omega
            have f2 : (k : Int) < (N : Int) := by omega
            by_cases hq : pt = xt
            · have dq : (pt == xt) = true := by simpa using hq
              rw [decide_eq_true hq, Bool.not_true, Bool.false_and] at hn
              rw [hak.out, hn, Bool.false_and] at hd
              have H := Lib.hid hd
              clear hd hn hq
              go_upto_region 12 with fail
              go_quiet (fail)
              go_wp2
              go_ret
              exact ⟨by rw [ha.out, H.out]; rfl, below_drewN6 (step HBW.out HBK.out) nq⟩
            · have dq : (pt == xt) = false := by simpa using hq
              rw [decide_eq_false hq, Bool.not_false, Bool.true_and] at hn
              have H := Lib.hid hn
              clear hd hn hq
              go_upto_region 12 with fail
              go_quiet (fail)
              go_wp2
              go_roundw
              case rel => exact ⟨k + 1, by omega, by go_num, Lib.hid (below_drewN6 HBK.out nq), Lib.hid (by rw [hak.out, H.out])⟩
              case measure => simp [intOf]; omega
          · obtain rfl : k = j := by omega
            have hall : allT ((vals L).take k) xt = true := by
              rw [hak.out, List.drop_eq_nil_of_le (by rw [List.length_take]; omega)]
              rfl
            rw [hall, Bool.true_and] at hd
            have H := Lib.hid hd
            clear hd hall
            go_wp2
            go_roundw
            case rel => exact ⟨k + 1, by omega, by go_num, Lib.hid (step HBW.out HBK.out), Lib.hid (by rw [ha.out, H.out])⟩
            case measure => simp [intOf]; omega
    · obtain rfl : j = N := by omega
      have hg := ha.out
      rw [List.drop_eq_nil_of_le (by rw [HVL.out]; exact Nat.le_refl _)] at hg
      have HE := Lib.hid hg
      clear hg
      go_wp2
      go_ret
      exact ⟨by rw [HE.out]; rfl, HB.out⟩
end Cm
end Go.Proofs.Ytnkooajbenhjhaa

/- Right locks stay right, whatever is done to them: plain facts. No program is named here. -/
set_option linter.unusedVariables false
set_option linter.unusedSimpArgs false
namespace Go.Proofs.Ytnkooajbenhjhaa
open Go.RowKit
namespace Cm

theorem oneK_iff (k : LockV) : oneK k = true ↔ nameF k.name = true ∧ clientF k.holder = true ∧ highF k.token 1 = true ∧ rightL k.line = true ∧ k.holder ∉ k.line := by
  unfold oneK
  rw [Bool.and_eq_true, Bool.and_eq_true, Bool.and_eq_true, Bool.and_eq_true, Bool.not_eq_true', hasL_not]

/-- Locks that are right, of tokens that were given. -/
structure Good (l : List LockV) (t : Int) : Prop where
  rk : Rk l
  len : l.length ≤ 4
  tok : ∀ k ∈ l, k.token ≤ t
  pos : 0 ≤ t

theorem Good.right {l : List LockV} {t : Int} (h : Good l t) : rightK l = true := (rightK_iff l).2 ⟨h.len, h.rk⟩
theorem Good.nil : Good [] 0 := ⟨Rk.nil, by simp, (fun k h => by cases h), Int.le_refl _⟩
theorem less_irr (a : List UInt8) : Op.bytesLess a a = false := by
  rcases less_tri a a with ⟨_, _, h⟩ | ⟨h, _, _⟩ | ⟨_, h⟩
  · exact absurd rfl h
  · exact h
  · exact h
theorem Rk.names {l : List LockV} (h : Rk l) : l.Pairwise fun a b => a.name ≠ b.name := h.up.imp fun {a b} q e => by
  rw [e, less_irr] at q
  cases q
theorem Rk.sub {l m : List LockV} (h : Rk l) (hs : m.Sublist l) : Rk m := ⟨fun k hk => h.one k (hs.subset hk), h.up.sublist hs, h.tok.sublist hs⟩

theorem rk_set {l : List LockV} (h : Rk l) (i : Nat) (hi : i < l.length) (k : LockV) (hn : k.name = l[i].name) (h1 : oneK k = true) (ht : k.token = l[i].token ∨ ∀ x ∈ l, x.token < k.token) : Rk (l.set i k) := by
  have hu := List.pairwise_iff_getElem.1 h.up
  have hk := List.pairwise_iff_getElem.1 h.tok
  refine ⟨fun x hx => ?_, List.pairwise_iff_getElem.2 fun a b ha hb hab => ?_, List.pairwise_iff_getElem.2 fun a b ha hb hab => ?_⟩
  · rcases List.mem_or_eq_of_mem_set hx with q | q
    · exact h.one x q
    · rw [q]; exact h1
  · rw [List.length_set] at ha hb
    rw [List.getElem_set, List.getElem_set]
    have := hu a b ha hb hab
    split
    · split
      · omega
      · rename_i e _; subst e; rw [hn]; exact this
    · split
      · rename_i e; subst e; rw [hn]; exact this
      · exact this
  · rw [List.length_set] at ha hb
    rw [List.getElem_set, List.getElem_set]
    have := hk a b ha hb hab
    split
    · split
      · omega
      · rename_i e _
        subst e
        rcases ht with q | q
        · rw [q]; exact this
        · have := q _ (List.getElem_mem hb); omega
    · split
      · rename_i e
        subst e
        rcases ht with q | q
        · rw [q]; exact this
        · have := q _ (List.getElem_mem ha); omega
      · exact this

theorem putK_mem (x : LockV) (l : List LockV) : ∀ s, s ∈ putK x l ↔ s = x ∨ s ∈ l := by
  intro s
  rw [putK_place]
  constructor
  · intro h
    rcases List.mem_append.1 h with q | q
    · exact .inr (List.mem_of_mem_take q)
    · rcases List.mem_cons.1 q with q | q
      · exact .inl q
      · exact .inr (List.mem_of_mem_drop q)
  · rintro (rfl | h)
    · simp
    · rw [← List.take_append_drop (placeK x.name l) l] at h
      rcases List.mem_append.1 h with q | q
      · exact List.mem_append_left _ q
      · exact List.mem_append_right _ (List.mem_cons_of_mem _ q)
theorem putK_length (x : LockV) (l : List LockV) : (putK x l).length = l.length + 1 := by
  have := placeK_le x.name l
  rw [putK_place, List.length_append, List.length_cons, List.length_take, List.length_drop]
  omega

theorem rk_put (x : LockV) (l : List LockV) (h : Rk l) (hx : oneK x = true) (hn : ∀ s ∈ l, s.name ≠ x.name) (ht : ∀ s ∈ l, s.token ≠ x.token) : Rk (putK x l) := by
  refine ⟨fun s hs => ?_, ?_, ?_⟩
  · rcases (putK_mem x l s).1 hs with rfl | q
    · exact hx
    · exact h.one s q
  · have hu := h.up
    clear h ht
    induction l with
    | nil => exact List.pairwise_singleton _ _
    | cons y l ih =>
      rw [List.pairwise_cons] at hu
      unfold putK
      split
      · rename_i q
        refine List.pairwise_cons.2 ⟨fun b hb => ?_, ih (fun s hs => hn s (List.mem_cons_of_mem _ hs)) hu.2⟩
        rcases (putK_mem x l b).1 hb with rfl | hb
        · exact q
        · exact hu.1 b hb
      · rename_i q
        have hxy : Op.bytesLess x.name y.name = true := by
          rcases less_tri x.name y.name with ⟨t, _, _⟩ | ⟨_, t, _⟩ | ⟨t, _⟩
          · exact t
          · exact absurd t q
          · exact absurd t.symm (hn y List.mem_cons_self)
        refine List.pairwise_cons.2 ⟨fun b hb => ?_, List.pairwise_cons.2 hu⟩
        rcases List.mem_cons.1 hb with rfl | hb
        · exact hxy
        · exact less_tr _ _ _ hxy (hu.1 b hb)
  · have hu := h.tok
    clear h hn
    induction l with
    | nil => exact List.pairwise_singleton _ _
    | cons y l ih =>
      rw [List.pairwise_cons] at hu
      unfold putK
      split
      · refine List.pairwise_cons.2 ⟨fun b hb => ?_, ih (fun s hs => ht s (List.mem_cons_of_mem _ hs)) hu.2⟩
        rcases (putK_mem x l b).1 hb with rfl | hb
        · exact ht y List.mem_cons_self
        · exact hu.1 b hb
      · refine List.pairwise_cons.2 ⟨fun b hb => ?_, List.pairwise_cons.2 hu⟩
        exact (ht b hb).symm

theorem idx_none (n : List UInt8) (l : List LockV) (h : idxI (isNm n) l < 0) : ∀ k ∈ l, k.name ≠ n := by
  have h2 : ¬ l.findIdx (isNm n) < l.length := by
    intro q
    unfold idxI at h
    rw [if_pos q] at h
    omega
  intro k hk e
  exact h2 (List.findIdx_lt_length_of_exists ⟨k, hk, by unfold isNm; exact decide_eq_true e⟩)

theorem idx_some (n : List UInt8) (l : List LockV) (h : ¬ idxI (isNm n) l < 0) : ∃ k, ∃ hk : k < l.length, idxI (isNm n) l = (k : Int) ∧ l[k].name = n := by
  rcases idx_cases (isNm n) l with e | ⟨k, hk, e, q⟩
  · omega
  · exact ⟨k, hk, e, by unfold isNm at q; exact of_decide_eq_true q⟩

theorem line_more (l : List Int) (c : Int) (h : rightL l = true) (h3 : ¬ 3 ≤ l.length) (hc : clientF c = true) (hn : (aheadL l c).2 ≠ true) : rightL (l ++ [c]) = true := by
  obtain ⟨_, hr⟩ := (rightL_iff l).1 h
  have hh : c ∉ l := (hasL_not _ _).1 (by rw [← aheadL_has]; simpa using hn)
  refine (rightL_iff _).2 ⟨by rw [List.length_append, List.length_singleton]; omega, fun x hx => ?_, List.pairwise_append.2 ⟨hr.apart, List.pairwise_singleton _ _, fun a ha b hb => ?_⟩⟩
  · rcases List.mem_append.1 hx with g | g
    · exact hr.ok x g
    · rw [List.mem_singleton] at g; rw [g]; exact hc
  · rw [List.mem_singleton] at hb; subst hb
    intro e; exact hh (e ▸ ha)

theorem high_next (t : Int) (h0 : 0 ≤ t) (h1 : t < 2305843009213693952) : highF (t + 1) 1 = true := by
  unfold highF
  simp
  omega

/-- The codes under which the locks go on. -/
theorem good_take {l : List LockV} {t : Int} (h : Good l t) (n : List UInt8) (c : Int) (wt : Bool) (hn : nameF n = true) (hc : clientF c = true) (ht : t < 2305843009213693952) :
    ((takeK l n c t wt).2.2 = 0 → Good (takeK l n c t wt).1 (t + 1)) ∧ ((takeK l n c t wt).2.2 = 10 → Good (takeK l n c t wt).1 t) := by
  unfold takeK
  split
  · rename_i hi
    split
    · exact ⟨(fun q => by cases q), (fun q => by cases q)⟩
    · rename_i h4
      refine ⟨fun _ => ?_, (fun q => by cases q)⟩
      refine ⟨rk_put _ _ h.rk ((oneK_iff _).2 ⟨hn, hc, high_next t h.pos ht, nil_right, by simp⟩) (idx_none n l hi) (fun s hs => ?_), by rw [putK_length]; omega, fun k hk => ?_, by have := h.pos; omega⟩
      · have := h.tok s hs
        dsimp only
        omega
      · rcases (putK_mem _ l k).1 hk with rfl | q
        · exact Int.le_refl _
        · have := h.tok k q; omega
  · rename_i hi
    obtain ⟨i, hil, hii, hin⟩ := idx_some n l hi
    rw [hii, getK_nat l i hil, Int.toNat_natCast]
    have ho := (oneK_iff _).1 (h.rk.one _ (List.getElem_mem hil))
    split
    · exact ⟨(fun q => by cases q), (fun q => by cases q)⟩
    rename_i e1
    split
    · exact ⟨(fun q => by cases q), (fun q => by cases q)⟩
    split
    · exact ⟨(fun q => by cases q), fun _ => h⟩
    rename_i e2
    split
    · exact ⟨(fun q => by cases q), (fun q => by cases q)⟩
    rename_i e3
    refine ⟨(fun q => by cases q), fun _ => ⟨rk_set h.rk i hil _ rfl ((oneK_iff _).2 ⟨ho.1, ho.2.1, ho.2.2.1, line_more _ _ ho.2.2.2.1 e3 hc e2, ?_⟩) (.inl rfl), by rw [List.length_set]; exact h.len, fun k hk => ?_, h.pos⟩⟩
    · intro q
      rcases List.mem_append.1 q with q | q
      · exact ho.2.2.2.2 q
      · rw [List.mem_singleton] at q
        exact e1 q
    · rcases List.mem_or_eq_of_mem_set hk with q | q
      · exact h.tok k q
      · rw [q]
        show l[i].token ≤ t
        exact h.tok _ (List.getElem_mem hil)

theorem pass_one {k : LockV} (h : oneK k = true) (t : Int) (h0 : 0 ≤ t) (ht : t < 2305843009213693952) (hl : k.line ≠ []) : oneK (passK k t) = true := by
  obtain ⟨h1, h2, h3, h4, h5⟩ := (oneK_iff k).1 h
  obtain ⟨h6, h7⟩ := (rightL_iff _).1 h4
  unfold passK
  match hk : k.line, hl with
  | d :: r, _ =>
    rw [hk] at h6 h7 h4
    refine (oneK_iff _).2 ⟨h1, h7.ok d List.mem_cons_self, high_next t h0 ht, tail_right _ h4, ?_⟩
    intro q
    exact (List.pairwise_cons.1 h7.apart).1 d q rfl

theorem left_one {k : LockV} (G : List Int) (h : oneK k = true) : oneK (leftK G k) = true := by
  obtain ⟨h1, h2, h3, h4, h5⟩ := (oneK_iff k).1 h
  exact (oneK_iff _).2 ⟨h1, h2, h3, without_right _ _ h4, fun q => h5 (List.mem_filter.1 q).1⟩

theorem good_free {l : List LockV} {t : Int} (h : Good l t) (n : List UInt8) (c : Int) (ht : t < 2305843009213693952) :
    (freeK l n c t).2.2 = 0 → Good (freeK l n c t).1 (t + (freeK l n c t).2.1) := by
  unfold freeK
  split
  · intro q; cases q
  · rename_i hi
    obtain ⟨i, hil, hii, hin⟩ := idx_some n l hi
    rw [hii, getK_nat l i hil, Int.toNat_natCast]
    have ho := h.rk.one _ (List.getElem_mem hil)
    split
    · split
      · intro q; cases q
      · intro _
        refine ⟨rk_set h.rk i hil _ rfl (left_one [c] ho) (.inl rfl), by rw [List.length_set]; exact h.len, fun k hk => ?_, by have := h.pos; simpa using this⟩
        rcases List.mem_or_eq_of_mem_set hk with q | q
        · have := h.tok k q; simpa using this
        · rw [q]; have := h.tok _ (List.getElem_mem hil); simpa using this
    · split
      · intro _
        have hs : (l.take i ++ l.drop (i + 1)).Sublist l := by
          rw [← List.eraseIdx_eq_take_drop_succ]
          exact List.eraseIdx_sublist l i
        refine ⟨h.rk.sub hs, Nat.le_trans hs.length_le h.len, fun k hk => ?_, by have := h.pos; simpa using this⟩
        have := h.tok k (hs.subset hk); simpa using this
      · rename_i e1
        intro _
        refine ⟨rk_set h.rk i hil _ rfl (pass_one ho t h.pos ht e1) (.inr fun x hx => ?_), by rw [List.length_set]; exact h.len, fun k hk => ?_, by have := h.pos; dsimp only; omega⟩
        · have := h.tok x hx
          show x.token < t + 1
          omega
        · rcases List.mem_or_eq_of_mem_set hk with q | q
          · have := h.tok k q; dsimp only; omega
          · rw [q]; exact Int.le_refl _

/-- What is granted, and what stays, as some go. -/
theorem dropK_toks (G : List Int) : ∀ (l : List LockV) (t : Int) (x : LockV), x ∈ (dropK G l t).1 → (∃ y ∈ l, x.name = y.name ∧ x.token = y.token ∧ x.holder = y.holder ∧ hasL G y.holder = false) ∨ (∃ y ∈ l, x.name = y.name ∧ hasL G y.holder = true) ∧ t < x.token ∧ x.token ≤ t + (dropK G l t).2
  | [], t, x, h => by simp [dropK] at h
  | k :: l, t, x, h => by
    have hc := dropK_count G l t
    have hc2 := dropK_count G l (t + 1)
    rw [dropK] at h ⊢
    split at h
    · rename_i hg
      rw [if_pos hg]
      rcases List.mem_cons.1 h with rfl | h
      · exact .inl ⟨k, List.mem_cons_self, rfl, rfl, rfl, hg⟩
      · rcases dropK_toks G l t x h with ⟨y, hy, e⟩ | ⟨⟨y, hy, e⟩, e1, e2⟩
        · exact .inl ⟨y, List.mem_cons_of_mem _ hy, e⟩
        · exact .inr ⟨⟨y, List.mem_cons_of_mem _ hy, e⟩, e1, e2⟩
    · rename_i hg
      rw [if_neg hg]
      have hg' : hasL G k.holder = true := by simpa using hg
      split at h
      · rename_i hl
        rw [if_pos hl]
        rcases dropK_toks G l t x h with ⟨y, hy, e⟩ | ⟨⟨y, hy, e⟩, e1, e2⟩
        · exact .inl ⟨y, List.mem_cons_of_mem _ hy, e⟩
        · exact .inr ⟨⟨y, List.mem_cons_of_mem _ hy, e⟩, e1, e2⟩
      · rename_i hl
        rw [if_neg hl]
        rcases List.mem_cons.1 h with rfl | h
        · refine .inr ⟨⟨k, List.mem_cons_self, rfl, hg'⟩, ?_, ?_⟩
          · show t < t + 1
            omega
          · show t + 1 ≤ t + ((dropK G l (t + 1)).2 + 1)
            omega
        · rcases dropK_toks G l (t + 1) x h with ⟨y, hy, e⟩ | ⟨⟨y, hy, e⟩, e1, e2⟩
          · exact .inl ⟨y, List.mem_cons_of_mem _ hy, e⟩
          · exact .inr ⟨⟨y, List.mem_cons_of_mem _ hy, e⟩, by omega, by dsimp only; omega⟩

theorem dropK_rk (G : List Int) (t0 : Int) : ∀ (l : List LockV) (t : Int), Rk l → (∀ x ∈ l, x.token ≤ t0) → t0 ≤ t → 0 ≤ t → t + l.length < 2305843009213693952 → Rk (dropK G l t).1
  | [], t, _, _, _, _, _ => Rk.nil
  | k :: l, t, h, h1, h2, h3, h4 => by
    rw [List.length_cons] at h4
    have hr : Rk l := h.sub (List.sublist_cons_self _ _)
    have hl1 : ∀ x ∈ l, x.token ≤ t0 := fun x hx => h1 x (List.mem_cons_of_mem _ hx)
    have ih := dropK_rk G t0 l t hr hl1 h2 h3 (by omega)
    have ih2 := dropK_rk G t0 l (t + 1) hr hl1 (by omega) (by omega) (by omega)
    have hu := (List.pairwise_cons.1 h.up).1
    have ht := (List.pairwise_cons.1 h.tok).1
    have hk0 := h1 k List.mem_cons_self
    rw [dropK]
    split
    · refine ⟨fun x hx => ?_, List.pairwise_cons.2 ⟨fun x hx => ?_, ih.up⟩, List.pairwise_cons.2 ⟨fun x hx => ?_, ih.tok⟩⟩
      · rcases List.mem_cons.1 hx with rfl | hx
        · exact left_one G (h.one k List.mem_cons_self)
        · exact ih.one x hx
      · obtain ⟨y, hy, e⟩ := dropK_names G l t x hx
        rw [e]; exact hu y hy
      · rcases dropK_toks G l t x hx with ⟨y, hy, _, e, _⟩ | ⟨_, e, _⟩
        · rw [e]; exact ht y hy
        · show k.token ≠ x.token
          omega
    · split
      · exact ih
      · rename_i hl
        refine ⟨fun x hx => ?_, List.pairwise_cons.2 ⟨fun x hx => ?_, ih2.up⟩, List.pairwise_cons.2 ⟨fun x hx => ?_, ih2.tok⟩⟩
        · rcases List.mem_cons.1 hx with rfl | hx
          · exact pass_one (left_one G (h.one k List.mem_cons_self)) t h3 (by omega) hl
          · exact ih2.one x hx
        · obtain ⟨y, hy, e⟩ := dropK_names G l (t + 1) x hx
          rw [e]; exact hu y hy
        · rcases dropK_toks G l (t + 1) x hx with ⟨y, hy, _, e, _⟩ | ⟨_, e, _⟩
          · rw [e]
            have := hl1 y hy
            show t + 1 ≠ y.token
            omega
          · show t + 1 ≠ x.token
            omega

theorem good_drop {l : List LockV} {t : Int} (h : Good l t) (G : List Int) (ht : t < 2305843009213693900) : Good (dropK G l t).1 (t + (dropK G l t).2) := by
  have hc := dropK_count G l t
  refine ⟨dropK_rk G t l t h.rk h.tok (Int.le_refl _) h.pos (by have := h.len; omega), Nat.le_trans (dropK_length G l t) h.len, fun x hx => ?_, by have := h.pos; omega⟩
  rcases dropK_toks G l t x hx with ⟨y, hy, _, e, _⟩ | ⟨_, _, e⟩
  · have := h.tok y hy; omega
  · exact e
end Cm
end Go.Proofs.Ytnkooajbenhjhaa

/- Arguments that are commands and requests, opened. -/
set_option linter.unusedVariables false
set_option linter.unusedSimpArgs false
namespace Go.Proofs.Ytnkooajbenhjhaa
open Go.RowKit Go.ChangeShapes Go.WideShapes Go.Deep
namespace Cm
section
variable {H : Type} {enc : TypeId × Value → H} {W : World} {base : Nat} {sp : Nat → Bool} {held : Bool}




end
end Cm
end Go.Proofs.Ytnkooajbenhjhaa
