/- Texts laid together by program: Law4, LokI, LokJ, ArgC, ArgD, ArgE, LokK, IdxK, CatK. -/
import Derived.Test.YtnkooajbenhjhaaP3
import Derived.Test.YtnkooajbenhjhaaP6
import Derived.Deep.RegionHeld3
import Derived.ProofKit
import Derived.OpenShut
import Derived.Deep.Strs
import Derived.Deep.Slices
import Derived.Lib.SmallJoins
import Derived.Test.YtnkooajbenhjhaaP4
import Derived.Shelf.Abstract
import Derived.Test.YtnkooajbenhjhaaP1
import Derived.Lib.AppendZeros
/- Contracts of the statements' own helpers of layer 4: awake, Named, Cmd, Req. -/
set_option linter.unusedVariables false
set_option linter.unusedSimpArgs false
namespace Go.Proofs.Ytnkooajbenhjhaa
open Go.RowKit
namespace Cm


/-- The statements' names, by number. -/
def namedF : Nat → List UInt8
  | 0 => [97]
  | 1 => [98]
  | 2 => [99]
  | 3 => [100]
  | 4 => [107, 101, 121, 45, 49]
  | _ => [116, 104, 101, 45, 108, 97, 115, 116, 45, 111, 110, 101]

theorem Named_any (n : Nat) (w : World) (h : n < 256) : Calls Try.prog 10 #[.int .u8 (n : Int)] w fun e w' => e = .returned (.string (bstr (namedF (n % 6)))) ∧ Below w.heap.size w w' := by
  have hm : n % 6 < 6 := Nat.mod_lt _ (by omega)
  have hc : ((n : Int) % 6) = ((n % 6 : Nat) : Int) := by simp
  generalize n % 6 = r at hm hc ⊢
  match r, hm with
  | 0, _ | 1, _ | 2, _ | 3, _ | 4, _ | 5, _ =>
    simp at hc
    go_enter Try.func10, Try.ntmps10
    go_wp2
    go_ret
    exact ⟨rfl, newAlloc _ _⟩

/-- What lies in two new blocks, later. -/
theorem boxAB {w w' : World} {A B : Array Value} {t u : TypeId} (h : Below ((w.alloc (.cells A t)).alloc (.cells B u)).heap.size ((w.alloc (.cells A t)).alloc (.cells B u)) w') :
    (∀ k, w'.cell? ⟨w.heap.size, k, none⟩ = A[k]?) ∧ (∀ k, w'.cell? ⟨w.heap.size + 1, k, none⟩ = B[k]?) ∧ (∀ k, w'.frozen? ⟨w.heap.size, k, none⟩ = false) ∧ (∀ k, w'.frozen? ⟨w.heap.size + 1, k, none⟩ = false) := by
  have h0 : w.heap.size < ((w.alloc (.cells A t)).alloc (.cells B u)).heap.size := by simp; omega
  have h1 : w.heap.size + 1 < ((w.alloc (.cells A t)).alloc (.cells B u)).heap.size := by simp
  refine ⟨fun k => ?_, fun k => ?_, fun k => ?_, fun k => ?_⟩
  · rw [h.cell (p := ⟨w.heap.size, k, none⟩) h0]; simp [go_sem]
  · rw [h.cell (p := ⟨w.heap.size + 1, k, none⟩) h1]; simp [go_sem]
  · rw [h.frozen (p := ⟨w.heap.size, k, none⟩) h0]; simp [go_sem]
  · rw [h.frozen (p := ⟨w.heap.size + 1, k, none⟩) h1]; simp [go_sem]

/-- A command that may be, by numbers. -/
def cmdOf (k s n : Nat) : CmdV := ⟨1 + ((k % 6 : Nat) : Int), if k % 6 = 0 then 0 else 1 + ((s : Int) % 7), if k % 6 = 2 ∨ k % 6 = 3 ∨ k % 6 = 4 then namedF (n % 6) else []⟩


theorem cmdOf_may (k s n : Nat) : mayF (cmdOf k s n) = true := by
  have hm : k % 6 < 6 := Nat.mod_lt _ (by omega)
  have hn : n % 6 < 6 := Nat.mod_lt _ (by omega)
  have hs1 : 0 ≤ (s : Int) % 7 := by omega
  have hs2 : (s : Int) % 7 < 7 := by omega
  have hN : nameF (namedF (n % 6)) = true := by
    generalize n % 6 = r at hn
    match r, hn with
    | 0, _ | 1, _ | 2, _ | 3, _ | 4, _ | 5, _ => decide +kernel
  unfold cmdOf mayF highF
  generalize k % 6 = r at hm ⊢
  match r, hm with
  | 0, _ | 1, _ | 2, _ | 3, _ | 4, _ | 5, _ => simp [hN] <;> omega

/-- A request that may be, by numbers. -/
def reqOf (c q k s n : Nat) : ReqV := ⟨((c % 8 : Nat) : Int), 1 + (q : Int), cmdOf k s n⟩

theorem reqOf_may (c q k s n : Nat) (hq : q < 256) : mayR (reqOf c q k s n) = true := by
  have hm : c % 8 < 8 := Nat.mod_lt _ (by omega)
  unfold reqOf mayR highF
  simp [cmdOf_may]
  omega


end Cm
end Go.Proofs.Ytnkooajbenhjhaa

/- What package lock's calls tell; contracts of the statements' own helpers of layer 8: clients. -/
set_option linter.unusedVariables false
set_option linter.unusedSimpArgs false
namespace Go.Proofs.Ytnkooajbenhjhaa
open Go.RowKit
namespace Cm

/-- The lock of a name, and whether there is one. -/
def findK (l : List LockV) (n : List UInt8) : LockV × Bool := if idxI (isNm n) l < 0 then (zeroK, false) else (getK l (idxI (isNm n) l), true)
def GetsF (r : LockV × Bool) (w : World) (e : Ending) (w' : World) : Prop :=
  ∃ x : LockC, e = .returned (.tuple #[lockVal x, .bool r.2]) ∧ x.val = r.1 ∧ RdI w' x.lv x.line ∧ Below w.heap.size w w'

/-- The clients whose bits are set. -/
def bitAt (B i : Nat) : Bool := B / 2 ^ i % 2 == 1
def clientsF (B k : Nat) : List Int := ((List.range k).filter (bitAt B)).map fun i : Nat => (i : Int)
theorem bit_fact : ∀ k, k < 8 → ∀ B, B < 256 → (bits .and .u8 (((B : Nat) : Int) / 2 ^ k) 1 == 1) = bitAt B k := by decide +kernel
theorem clientsF_succ (B k : Nat) : clientsF B (k + 1) = clientsF B k ++ if bitAt B k = true then [(k : Int)] else [] := by
  unfold clientsF
  rw [List.range_succ, List.filter_append, List.map_append]
  congr 1
  cases h : bitAt B k <;> simp [h]
theorem clientsF_length (B k : Nat) : (clientsF B k).length ≤ k := by
  unfold clientsF
  rw [List.length_map]
  exact Nat.le_trans (List.length_filter_le _ _) (by simp)

set_option maxHeartbeats 2000000 in
theorem clients_any (B : Nat) (hB : B < 256) (w : World) : Calls Try.prog 17 #[.int .u8 (B : Int)] w (GetsN (clientsF B 8) w) := by
  obtain ⟨i0, hi, hz0, hz1, hz2⟩ := info_parts infoN
  go_enter Try.func17, Try.ntmps17
  go_wp2
  go_loopw [3, 4] (fun m i wr => ∃ (k : Nat) (M : List Int), k ≤ 8 ∧ i = .int .i64 k ∧ M.length ≤ k ∧ Hid (M = clientsF B k) ∧ Hid (wr.ownsRow w.heap.size 3 1 m M.length (flatX cellsI M)) ∧ Hid (Below w.heap.size w wr)) (fun _ i _ => 8 - (intOf i).toNat)
  case atStart => exact ⟨0, [], by omega, rfl, by simp, Lib.hid rfl, Lib.hid (World.ownsRow_nil _ _ _ _), Lib.hid (Below.refl _ _)⟩
  case round =>
    obtain ⟨k, M, hk, rfl, hMk, HM, HO, HB⟩ := hrel
    by_cases hlt : k < 8
    · have f2 : (k : Int) < 8 := by omega
      have f1 : (0 : Int) ≤ (k : Int) := by omega
      have hs := clientsF_succ B k
      have hf := bit_fact k hlt B hB
      cases hb : bitAt B k with
      | true =>
        rw [hb] at hf hs
        rw [if_pos rfl, ← HM.out] at hs
        have H := Lib.hid hs
        clear hs hb
        go_wp2_with (at_builtin; (refine wpList_append_one cellsI_length (by omega) rfl (.tmp 15) (.tmp 17) 35 rfl 3 i0 _ 8 Try.underlying35 hi hz0 hz1 hz2 rfl #[.int .i64 (k : Int)] (k : Int) rfl (cellsI_one _) M w.heap.size w.heap.size w _ rfl rfl HO.out (by unfold maxLen; omega) (by omega) HB.out.size HB.out (Nat.le_refl _) ?_); intro v5 w5 ho5 hb5 _; have HO5 := Lib.hid ho5; have HB5 := Lib.hid hb5; clear ho5 hb5)
        go_roundw
        case rel => exact ⟨k + 1, M ++ [(k : Int)], by omega, by go_num, by simp; omega, Lib.hid H.out.symm, HO5, HB5⟩
        case measure => simp [intOf]; omega
      | false =>
        rw [hb] at hf hs
        rw [if_neg (by simp), List.append_nil, ← HM.out] at hs
        have H := Lib.hid hs
        clear hs hb
        go_wp2
        go_roundw
        case rel => exact ⟨k + 1, M, by omega, by go_num, by omega, Lib.hid H.out.symm, HO, HB⟩
        case measure => simp [intOf]; omega
    · obtain rfl : k = 8 := by omega
      go_wp2
      go_ret
      have h := HM.out
      subst h
      exact ⟨_, rfl, HO.out, HB.out⟩
end Cm
end Go.Proofs.Ytnkooajbenhjhaa

/- Contracts of the statements' own helpers of layer 8: next. -/
set_option linter.unusedVariables false
set_option linter.unusedSimpArgs false
namespace Go.Proofs.Ytnkooajbenhjhaa
open Go.RowKit
namespace Cm

/-- An act on locks: what is done, the name's number, the client's (or bits). -/
structure Act3 where
  do_ : Nat
  name : Nat
  client : Nat
def Act3.ok (a : Act3) : Prop := a.do_ < 256 ∧ a.name < 256 ∧ a.client < 256
def act3Val (a : Act3) : Value := .agg #[.int .u8 (a.do_ : Int), .int .u8 (a.name : Int), .int .u8 (a.client : Int)]
def Act3.nm (a : Act3) : List UInt8 := namedF (a.name % 6)
def Act3.cl (a : Act3) : Int := ((a.client % 8 : Nat) : Int)

def nextK (l : List LockV) (t : Int) (a : Act3) : List LockV × Int :=
  if a.do_ % 4 = 0 ∨ a.do_ % 4 = 1 then
    (if (takeK l a.nm a.cl t (decide (a.do_ % 4 = 0))).2.2 = 0 then ((takeK l a.nm a.cl t (decide (a.do_ % 4 = 0))).1, t + 1) else
      if (takeK l a.nm a.cl t (decide (a.do_ % 4 = 0))).2.2 = 10 then ((takeK l a.nm a.cl t (decide (a.do_ % 4 = 0))).1, t) else (l, t)) else
  if a.do_ % 4 = 2 then (if (freeK l a.nm a.cl t).2.2 = 0 then ((freeK l a.nm a.cl t).1, t + (freeK l a.nm a.cl t).2.1) else (l, t)) else
  ((dropK (clientsF a.client 8) l t).1, t + (dropK (clientsF a.client 8) l t).2)

theorem namedF_ok (n : Nat) (h : n < 6) : nameF (namedF n) = true := by
  match n, h with
  | 0, _ | 1, _ | 2, _ | 3, _ | 4, _ | 5, _ => decide +kernel
theorem Act3.nm_ok (a : Act3) : nameF a.nm = true := namedF_ok _ (Nat.mod_lt _ (by omega))
theorem Act3.cl_ok (a : Act3) : clientF a.cl = true := by
  unfold clientF Act3.cl
  have : a.client % 8 < 8 := Nat.mod_lt _ (by omega)
  generalize a.client % 8 = c at this
  simp
  omega

theorem good_next {l : List LockV} {t : Int} (h : Good l t) (a : Act3) (ht : t < 1000000) : Good (nextK l t a).1 (nextK l t a).2 ∧ (nextK l t a).2 ≤ t + 4 := by
  unfold nextK
  split
  · have hg := good_take h a.nm a.cl (decide (a.do_ % 4 = 0)) a.nm_ok a.cl_ok (by omega)
    split
    · rename_i e
      exact ⟨hg.1 e, by dsimp only; omega⟩
    · split
      · rename_i e
        exact ⟨hg.2 e, by dsimp only; omega⟩
      · exact ⟨h, by dsimp only; omega⟩
  · split
    · have hg := good_free h a.nm a.cl (by omega)
      split
      · rename_i e
        refine ⟨hg e, ?_⟩
        have : (freeK l a.nm a.cl t).2.1 ≤ 1 := by
          unfold freeK
          split
          · exact Int.zero_le_ofNat 1
          · split
            · split
              · exact Int.zero_le_ofNat 1
              · exact Int.zero_le_ofNat 1
            · split
              · exact Int.zero_le_ofNat 1
              · exact Int.le_refl _
        dsimp only
        omega
      · exact ⟨h, by dsimp only; omega⟩
    · have hg := good_drop h (clientsF a.client 8) (by omega)
      refine ⟨hg, ?_⟩
      have h1 := dropK_count (clientsF a.client 8) l t
      have := h.len
      dsimp only
      omega

theorem good_lines {l : List LockV} {t : Int} (h : Good l t) : ∀ k ∈ l, k.line.length ≤ 3 := fun k hk => ((rightL_iff _).1 ((oneK_iff _).1 (h.rk.one k hk)).2.2.2.1).1
theorem good_bounds {L : List LockC} {t : Int} (h : Good (vals L) t) : L.length ≤ 1000 ∧ ∀ x ∈ L, x.line.length ≤ 1000 := by
  refine ⟨?_, fun x hx => ?_⟩
  · have := h.len
    rw [vals_length] at this
    omega
  · have := good_lines h x.val (List.mem_map_of_mem hx)
    exact Nat.le_trans this (by omega)

def GetsU (r : List LockV × Int) (w : World) (e : Ending) (w' : World) : Prop :=
  ∃ a c M, e = .returned (.tuple #[.slice a M.length c, .int .i64 r.2]) ∧ vals M = r.1 ∧ RdK w' (.slice a M.length c) M ∧ Below w.heap.size w w'

theorem tmod_cast (n m : Nat) : (n : Int).tmod (m : Int) = ((n % m : Nat) : Int) := by
  rw [Int.tmod_eq_emod_of_nonneg (by omega)]
  simp

set_option maxHeartbeats 4000000 in
theorem next_take (v : Value) (L : List LockC) (t : Int) (D n c : Nat) (w : World) (h : RdK w v L) (hg : Good (vals L) t) (ht : t < 1000000) (ha : D < 256 ∧ n < 256 ∧ c < 256) (b : Bool) (hD : D % 4 = if b = true then 0 else 1) (code : Int) (hc : (takeK (vals L) (namedF (n % 6)) ((c % 8 : Nat) : Int) t b).2.2 = code) :
    Calls Try.prog 19 #[v, .int .i64 t, .agg #[.int .u8 (D : Int), .int .u8 (n : Int), .int .u8 (c : Int)]] w (GetsU (if code = 0 then ((takeK (vals L) (namedF (n % 6)) ((c % 8 : Nat) : Int) t b).1, t + 1) else if code = 10 then ((takeK (vals L) (namedF (n % 6)) ((c % 8 : Nat) : Int) t b).1, t) else (vals L, t)) w) := by
  obtain ⟨h1, h2, h3⟩ := ha
  have hpos := hg.pos
  have hbd := good_bounds hg
  have CN := Lib.hid (fun W => Named_any n W h2)
  have CT := Lib.hid (fun W (hb : Below w.heap.size w W) => TakeLock_any v L (namedF (n % 6)) ((c % 8 : Nat) : Int) t b W (h.later hb) hbd.1 hbd.2 ⟨hpos, by omega⟩)
  have HR := Lib.hid h
  obtain ⟨a0, c0, rfl⟩ := h.form
  generalize takeK (vals L) (namedF (n % 6)) ((c % 8 : Nat) : Int) t b = r at CT hc ⊢
  obtain ⟨rl, rn, rc⟩ := r
  dsimp only at hc ⊢
  subst hc
  unfold GetsT at CT
  dsimp only at CT
  have e1 : (D : Int).tmod 4 = ((D % 4 : Nat) : Int) := tmod_cast D 4
  have e2 : (c : Int).tmod 8 = ((c % 8 : Nat) : Int) := tmod_cast c 8
  have hm8 : c % 8 < 8 := Nat.mod_lt _ (by omega)
  have e3 : IntKind.i64.wrap (c : Int) = (c : Int) := by rw [IntKind.wrap_i64]; omega
  have e4 : IntKind.i64.wrap ((c % 8 : Nat) : Int) = ((c % 8 : Nat) : Int) := by rw [IntKind.wrap_i64]; omega
  have e5 : IntKind.i64.wrap (t + 1) = t + 1 := by rw [IntKind.wrap_i64]; omega
  have HT := Lib.hid (show 0 ≤ t ∧ t < 1000000 from ⟨hpos, ht⟩)
  clear hg hbd h hpos ht hm8
  generalize c % 8 = C at *
  generalize namedF (n % 6) = nm at *
  have HB1 := Lib.hid (newAlloc w (.cells #[.int .u8 (D : Int), .int .u8 (n : Int), .int .u8 (c : Int)] 26))
  have HBX : Hid (∀ W, Below (w.alloc (.cells #[.int .u8 (D : Int), .int .u8 (n : Int), .int .u8 (c : Int)] 26)).heap.size (w.alloc (.cells #[.int .u8 (D : Int), .int .u8 (n : Int), .int .u8 (c : Int)] 26)) W → W.cell? ⟨w.heap.size, 0, none⟩ = some (.int .u8 (D : Int)) ∧ W.cell? ⟨w.heap.size, 1, none⟩ = some (.int .u8 (n : Int)) ∧ W.cell? ⟨w.heap.size, 2, none⟩ = some (.int .u8 (c : Int))) := Lib.hid fun W hb => box3 hb
  have z := HBX.out _ (Below.refl _ _)
  go_enter Try.func19, Try.ntmps19
  go_upto_region 1 with fail
  generalize w.alloc (.cells #[.int .u8 (D : Int), .int .u8 (n : Int), .int .u8 (c : Int)] 26) = W1 at *
  obtain ⟨z0, z1, z2⟩ := z
  go_region_held3 (fun W => W.cell? ⟨w.heap.size, 1, none⟩ = some (.int .u8 (n : Int)) ∧ W.cell? ⟨w.heap.size, 2, none⟩ = some (.int .u8 (c : Int))) (first | exact ⟨z1, z2⟩ | exact (HBX.out _ HBN.out).2 | exact (HBX.out _ (below_drewN6 (Below.refl _ _) _)).2 | go_keep) (first
    | (go_at_call 10; refine (CN.out _).mono ?_; rintro e w2 ⟨rfl, hb2⟩; have HBN := Lib.hid (step (below_drewN6 (Below.refl W1.heap.size W1) 1) hb2); clear hb2))
  all_goals
    obtain ⟨x0, x1, x2⟩ := HBX.out _ HBN.out
    have HB2 := Lib.hid (step HB1.out HBN.out)
    have HC := Lib.hid (CT.out _ HB2.out)
    clear HBX z0 z1 z2 CN CT e2 e3 e4 HBN HB1
    cases b
    all_goals
      first | rw [if_pos rfl] at hD | rw [if_neg (by simp)] at hD
      rw [hD] at e1
      clear hD
      by_cases k0 : rc = 0
      case' pos =>
        have d0 : (rc == 0) = true := by simpa using k0
        rw [if_pos k0]
      case' neg =>
        have d0 : (rc == 0) = false := by simpa using k0
        rw [if_neg k0]
        by_cases k1 : rc = 10
        case' pos =>
          have d1 : (rc == 10) = true := by simpa using k1
          rw [if_pos k1]
        case' neg =>
          have d1 : (rc == 10) = false := by simpa using k1
          rw [if_neg k1]
    all_goals
      go_wp2_with (go_at_call 12; refine HC.out.mono ?_; rintro e w5 ⟨v5, M5, rfl, hv5, ho5, hb5⟩; obtain ⟨a5, c5, rfl⟩ := Rw.own_form ho5.row; have HV5 := Lib.hid hv5; have HO5 := Lib.hid ho5; have HB5 := Lib.hid (step HB2.out hb5); clear hv5 ho5 hb5)
      go_ret2
      first
        | exact ⟨_, _, M5, rfl, HV5.out, HO5.out.rd, HB5.out⟩
        | exact ⟨_, _, L, rfl, rfl, HR.out.later HB5.out, HB5.out⟩
theorem free_given (l : List LockV) (n : List UInt8) (c t : Int) : 0 ≤ (freeK l n c t).2.1 ∧ (freeK l n c t).2.1 ≤ 1 := by
  unfold freeK
  split
  · exact ⟨Int.le_refl _, Int.zero_le_ofNat 1⟩
  · split
    · split
      · exact ⟨Int.le_refl _, Int.zero_le_ofNat 1⟩
      · exact ⟨Int.le_refl _, Int.zero_le_ofNat 1⟩
    · split
      · exact ⟨Int.le_refl _, Int.zero_le_ofNat 1⟩
      · exact ⟨Int.zero_le_ofNat 1, Int.le_refl _⟩

set_option maxHeartbeats 4000000 in
theorem next_free (v : Value) (L : List LockC) (t : Int) (D n c : Nat) (w : World) (h : RdK w v L) (hg : Good (vals L) t) (ht : t < 1000000) (ha : D < 256 ∧ n < 256 ∧ c < 256) (hD : D % 4 = 2) (code : Int) (hc : (freeK (vals L) (namedF (n % 6)) ((c % 8 : Nat) : Int) t).2.2 = code) :
    Calls Try.prog 19 #[v, .int .i64 t, .agg #[.int .u8 (D : Int), .int .u8 (n : Int), .int .u8 (c : Int)]] w (GetsU (if code = 0 then ((freeK (vals L) (namedF (n % 6)) ((c % 8 : Nat) : Int) t).1, t + (freeK (vals L) (namedF (n % 6)) ((c % 8 : Nat) : Int) t).2.1) else (vals L, t)) w) := by
  obtain ⟨h1, h2, h3⟩ := ha
  have hpos := hg.pos
  have hbd := good_bounds hg
  have CN := Lib.hid (fun W => Named_any n W h2)
  have CT := Lib.hid (fun W (hb : Below w.heap.size w W) => FreeLock_any v L (namedF (n % 6)) ((c % 8 : Nat) : Int) t W (h.later hb) hbd.1 hbd.2 ⟨hpos, by omega⟩)
  have HR := Lib.hid h
  obtain ⟨a0, c0, rfl⟩ := h.form
  have hr := free_given (vals L) (namedF (n % 6)) ((c % 8 : Nat) : Int) t
  generalize freeK (vals L) (namedF (n % 6)) ((c % 8 : Nat) : Int) t = r at CT hc hr ⊢
  obtain ⟨rl, rn, rc⟩ := r
  dsimp only at hc hr ⊢
  subst hc
  unfold GetsT at CT
  dsimp only at CT
  have e1 : (D : Int).tmod 4 = ((D % 4 : Nat) : Int) := tmod_cast D 4
  have e2 : (c : Int).tmod 8 = ((c % 8 : Nat) : Int) := tmod_cast c 8
  have hm8 : c % 8 < 8 := Nat.mod_lt _ (by omega)
  have e3 : IntKind.i64.wrap (c : Int) = (c : Int) := by rw [IntKind.wrap_i64]; omega
  have e4 : IntKind.i64.wrap ((c % 8 : Nat) : Int) = ((c % 8 : Nat) : Int) := by rw [IntKind.wrap_i64]; omega
  have e5 : IntKind.i64.wrap (t + rn) = t + rn := by rw [IntKind.wrap_i64]; omega
  clear hr
  have HT := Lib.hid (show 0 ≤ t ∧ t < 1000000 from ⟨hpos, ht⟩)
  clear hg hbd h hpos ht hm8
  generalize c % 8 = C at *
  generalize namedF (n % 6) = nm at *
  have HB1 := Lib.hid (newAlloc w (.cells #[.int .u8 (D : Int), .int .u8 (n : Int), .int .u8 (c : Int)] 26))
  have HBX : Hid (∀ W, Below (w.alloc (.cells #[.int .u8 (D : Int), .int .u8 (n : Int), .int .u8 (c : Int)] 26)).heap.size (w.alloc (.cells #[.int .u8 (D : Int), .int .u8 (n : Int), .int .u8 (c : Int)] 26)) W → W.cell? ⟨w.heap.size, 0, none⟩ = some (.int .u8 (D : Int)) ∧ W.cell? ⟨w.heap.size, 1, none⟩ = some (.int .u8 (n : Int)) ∧ W.cell? ⟨w.heap.size, 2, none⟩ = some (.int .u8 (c : Int))) := Lib.hid fun W hb => box3 hb
  have z := HBX.out _ (Below.refl _ _)
  go_enter Try.func19, Try.ntmps19
  go_upto_region 1 with fail
  generalize w.alloc (.cells #[.int .u8 (D : Int), .int .u8 (n : Int), .int .u8 (c : Int)] 26) = W1 at *
  obtain ⟨z0, z1, z2⟩ := z
  go_region_held3 (fun W => W.cell? ⟨w.heap.size, 1, none⟩ = some (.int .u8 (n : Int)) ∧ W.cell? ⟨w.heap.size, 2, none⟩ = some (.int .u8 (c : Int))) (first | exact ⟨z1, z2⟩ | exact (HBX.out _ HBN.out).2 | exact (HBX.out _ (below_drewN6 (Below.refl _ _) _)).2 | go_keep) (first
    | (go_at_call 10; refine (CN.out _).mono ?_; rintro e w2 ⟨rfl, hb2⟩; have HBN := Lib.hid (step (below_drewN6 (Below.refl W1.heap.size W1) 1) hb2); clear hb2))
  all_goals
    obtain ⟨x0, x1, x2⟩ := HBX.out _ HBN.out
    have HB2 := Lib.hid (step HB1.out HBN.out)
    have HC := Lib.hid (CT.out _ HB2.out)
    clear HBX z0 z1 z2 CN CT e2 e3 e4 HBN HB1
    rw [hD] at e1
    clear hD
    by_cases k0 : rc = 0
    case' pos =>
      have d0 : (rc == 0) = true := by simpa using k0
      rw [if_pos k0]
    case' neg =>
      have d0 : (rc == 0) = false := by simpa using k0
      rw [if_neg k0]
    all_goals
      go_wp2_with (go_at_call 15; refine HC.out.mono ?_; rintro e w5 ⟨v5, M5, rfl, hv5, ho5, hb5⟩; obtain ⟨a5, c5, rfl⟩ := Rw.own_form ho5.row; have HV5 := Lib.hid hv5; have HO5 := Lib.hid ho5; have HB5 := Lib.hid (step HB2.out hb5); clear hv5 ho5 hb5)
      go_ret2
      first
        | exact ⟨_, _, M5, rfl, HV5.out, HO5.out.rd, HB5.out⟩
        | exact ⟨_, _, L, rfl, rfl, HR.out.later HB5.out, HB5.out⟩
set_option maxHeartbeats 4000000 in
theorem next_drop (v : Value) (L : List LockC) (t : Int) (D n c : Nat) (w : World) (h : RdK w v L) (hg : Good (vals L) t) (ht : t < 1000000) (ha : D < 256 ∧ n < 256 ∧ c < 256) (hD : D % 4 = 3) :
    Calls Try.prog 19 #[v, .int .i64 t, .agg #[.int .u8 (D : Int), .int .u8 (n : Int), .int .u8 (c : Int)]] w (GetsU ((dropK (clientsF c 8) (vals L) t).1, t + (dropK (clientsF c 8) (vals L) t).2) w) := by
  obtain ⟨h1, h2, h3⟩ := ha
  have hpos := hg.pos
  have hbd := good_bounds hg
  have CN := Lib.hid (fun W => Named_any n W h2)
  have hcnt := dropK_count (clientsF c 8) (vals L) t
  rw [vals_length] at hcnt
  have CT := Lib.hid (fun W u (hb : Below w.heap.size w W) (hu : RdI W u (clientsF c 8)) => DropLocks_any v u L (clientsF c 8) t W (h.later hb) hbd.1 hbd.2 ⟨hpos, by omega⟩ hu hg.rk.names)
  have CCL := Lib.hid (fun W => clients_any c h3 W)
  have HR := Lib.hid h
  obtain ⟨a0, c0, rfl⟩ := h.form
  generalize dropK (clientsF c 8) (vals L) t = r at CT hcnt ⊢
  obtain ⟨rl, rn⟩ := r
  dsimp only at hcnt ⊢
  unfold GetsD at CT
  dsimp only at CT
  have e1 : (D : Int).tmod 4 = ((D % 4 : Nat) : Int) := tmod_cast D 4
  have e2 : (c : Int).tmod 8 = ((c % 8 : Nat) : Int) := tmod_cast c 8
  have hm8 : c % 8 < 8 := Nat.mod_lt _ (by omega)
  have e3 : IntKind.i64.wrap (c : Int) = (c : Int) := by rw [IntKind.wrap_i64]; omega
  have e4 : IntKind.i64.wrap ((c % 8 : Nat) : Int) = ((c % 8 : Nat) : Int) := by rw [IntKind.wrap_i64]; omega
  have e5 : IntKind.i64.wrap (t + rn) = t + rn := by rw [IntKind.wrap_i64]; have := hbd.1; omega
  clear hcnt
  have HT := Lib.hid (show 0 ≤ t ∧ t < 1000000 from ⟨hpos, ht⟩)
  clear hg hbd h hpos ht hm8
  generalize clientsF c 8 = G at *
  generalize c % 8 = C at *
  generalize namedF (n % 6) = nm at *
  have HB1 := Lib.hid (newAlloc w (.cells #[.int .u8 (D : Int), .int .u8 (n : Int), .int .u8 (c : Int)] 26))
  have HBX : Hid (∀ W, Below (w.alloc (.cells #[.int .u8 (D : Int), .int .u8 (n : Int), .int .u8 (c : Int)] 26)).heap.size (w.alloc (.cells #[.int .u8 (D : Int), .int .u8 (n : Int), .int .u8 (c : Int)] 26)) W → W.cell? ⟨w.heap.size, 0, none⟩ = some (.int .u8 (D : Int)) ∧ W.cell? ⟨w.heap.size, 1, none⟩ = some (.int .u8 (n : Int)) ∧ W.cell? ⟨w.heap.size, 2, none⟩ = some (.int .u8 (c : Int))) := Lib.hid fun W hb => box3 hb
  have z := HBX.out _ (Below.refl _ _)
  go_enter Try.func19, Try.ntmps19
  go_upto_region 1 with fail
  generalize w.alloc (.cells #[.int .u8 (D : Int), .int .u8 (n : Int), .int .u8 (c : Int)] 26) = W1 at *
  obtain ⟨z0, z1, z2⟩ := z
  go_region_held3 (fun W => W.cell? ⟨w.heap.size, 1, none⟩ = some (.int .u8 (n : Int)) ∧ W.cell? ⟨w.heap.size, 2, none⟩ = some (.int .u8 (c : Int))) (first | exact ⟨z1, z2⟩ | exact (HBX.out _ HBN.out).2 | exact (HBX.out _ (below_drewN6 (Below.refl _ _) _)).2 | go_keep) (first
    | (go_at_call 10; refine (CN.out _).mono ?_; rintro e w2 ⟨rfl, hb2⟩; have HBN := Lib.hid (step (below_drewN6 (Below.refl W1.heap.size W1) 1) hb2); clear hb2))
  all_goals
    obtain ⟨x0, x1, x2⟩ := HBX.out _ HBN.out
    have HB2 := Lib.hid (step HB1.out HBN.out)
    clear HBX z0 z1 z2 CN e2 e3 e4 HBN HB1
    rw [hD] at e1
    clear hD
    go_wp2_with (first
      | (go_at_call 17; refine (CCL.out _).mono ?_; rintro e w4 ⟨v4, rfl, ho4, hb4⟩; have HR4 := Lib.hid (RdX.own cellsI_length ho4); have HB4 := Lib.hid (step HB2.out hb4); clear ho4 hb4)
      | (go_at_call 18; refine (CT.out _ _ HB4.out HR4.out).mono ?_; rintro e w5 ⟨v5, M5, rfl, hv5, ho5, hb5⟩; obtain ⟨a5, c5, rfl⟩ := Rw.own_form ho5.row; have HV5 := Lib.hid hv5; have HO5 := Lib.hid ho5; have HB5 := Lib.hid (step HB4.out hb5); clear hv5 ho5 hb5))
    go_ret2
    exact ⟨_, _, M5, rfl, HV5.out, HO5.out.rd, HB5.out⟩

theorem next_any (v : Value) (L : List LockC) (t : Int) (a : Act3) (w : World) (h : RdK w v L) (hg : Good (vals L) t) (ht : t < 1000000) (ha : a.ok) :
    Calls Try.prog 19 #[v, .int .i64 t, act3Val a] w (GetsU (nextK (vals L) t a) w) := by
  unfold nextK
  by_cases h0 : a.do_ % 4 = 0 ∨ a.do_ % 4 = 1
  · rw [if_pos h0]
    exact next_take v L t a.do_ a.name a.client w h hg ht ha (decide (a.do_ % 4 = 0)) (by rcases h0 with q | q <;> simp [q]) _ rfl
  · rw [if_neg h0]
    by_cases h2 : a.do_ % 4 = 2
    · rw [if_pos h2]
      exact next_free v L t a.do_ a.name a.client w h hg ht ha h2 _ rfl
    · rw [if_neg h2]
      exact next_drop v L t a.do_ a.name a.client w h hg ht ha (by omega)
end Cm
end Go.Proofs.Ytnkooajbenhjhaa

/- Arguments that are slices of sessions, of acts, opened. -/
set_option linter.unusedVariables false
set_option linter.unusedSimpArgs false
namespace Go.Proofs.Ytnkooajbenhjhaa
open Go.RowKit Go.ChangeShapes Go.WideShapes Go.Deep
namespace Cm

theorem list_ofX {α : Type} {P : Nat → α → Prop} : ∀ n, (∀ i, i < n → ∃ g, P i g) → ∃ l : List α, l.length = n ∧ ∀ i (h : i < l.length), P i l[i]
  | 0, _ => ⟨[], rfl, fun i h => absurd h (Nat.not_lt_zero _)⟩
  | n + 1, h => by
    obtain ⟨l, hl, hp⟩ := list_ofX n (fun i hi => h i (by omega))
    obtain ⟨g, hg⟩ := h n (by omega)
    refine ⟨l ++ [g], by simp [hl], fun i hi => ?_⟩
    rw [List.length_append, List.length_singleton, hl] at hi
    by_cases q : i < n
    · rw [List.getElem_append_left (by omega)]
      exact hp i (by omega)
    · obtain rfl : i = n := by omega
      rw [List.getElem_append_right (by omega)]
      simpa [hl] using hg

section
variable {H : Type} {enc : TypeId × Value → H} {W : World}

/-- A slice of whatever elements, if each one's cells are told. -/
theorem slice_of {α : Type} {sz : Nat} {f : α → List Value} {t e : TypeId} (hu : Try.prog.underlying t = some (.slice e)) (hce : Try.prog.cellsOf e = sz) (hsz : 0 < sz) (hf : ∀ x, (f x).length = sz)
    (hel : ∀ fuel cs x, DataW.trod enc Try.prog W 0 (fun _ => true) true fuel e cs = some x → ∃ y : α, cs = f y)
    {fuel : Nat} {cs : List Value} {x : DataW H × List MemPlace} (h : DataW.trod enc Try.prog W 0 (fun _ => true) true fuel t cs = some x) : ∃ v l, cs = [v] ∧ RdX sz f W v l := by
  rcases open_slice hu h with ⟨h0, _⟩ | ⟨ad, len, cap, m, n, D, Pl, h0, _, hl, hm, hmm, _, hi⟩
  · exact ⟨_, [], h0, RdX.nil W⟩
  · have hm' : m = cap := by rw [hmm]; rfl
    subst hm'
    clear hmm
    have key : ∀ i, i < len → ∃ g : α, ∀ k u, (f g)[k]? = some u → W.cell? (ad.add (i * sz + k)) = some u := by
      intro i hil
      obtain ⟨cs', hc, ht⟩ := hi i (by omega)
      rw [hce] at hc
      obtain ⟨y, rfl⟩ := hel _ _ _ ht
      obtain ⟨_, hcl, hat⟩ := World.cells?_some hc
      refine ⟨y, fun k u hk => ?_⟩
      have hks : k < (f y).length := (List.getElem?_eq_some_iff.1 hk).1
      have a0 := hat k (by rw [hf] at hks; exact hks)
      rw [Go.Deep.add_add] at a0
      rw [← hk, ← a0]
    obtain ⟨l, hll, hp⟩ := list_ofX len key
    refine ⟨_, l, h0, some ad, m, by rw [hll], by omega, hm, (fun q => by cases q), fun x hx hne => ?_⟩
    cases hx
    obtain ⟨b, o, spot⟩ := ad
    have hpos : 0 < l.length := List.length_pos_iff.2 hne
    have h0l : 0 < (f l[0]).length := by rw [hf]; exact hsz
    have hc := hp 0 hpos 0 _ (List.getElem?_eq_getElem h0l)
    have hspot : spot = none := by simpa [Addr.add] using World.cell?_spot hc
    subst hspot
    refine ⟨rfl, fun i hil k u hu => ?_⟩
    have hadd : ∀ j, (⟨b, o, none⟩ : Addr).add j = ⟨b, o + j, none⟩ := fun j => by unfold Addr.add; split <;> simp_all
    have := hp i hil k u hu
    rw [hadd] at this
    exact this


/-- An act: what is done, its client, its number, its time. -/
structure ActV where
  do_ : Int
  client : Int
  num : Int
  now : Int
def cellsA (a : ActV) : List Value := [.int .i64 a.do_, .int .i64 a.client, .int .i64 a.num, .int .i64 a.now]
theorem cellsA_length (a : ActV) : (cellsA a).length = 4 := rfl


def sesA (a : List SesV × Value) : Value := a.2
def sesOkA (w : World) (a : List SesV × Value) : Prop := RdS w a.2 a.1

def actA (a : List ActV × Value) : Value := a.2
def actOkA (w : World) (a : List ActV × Value) : Prop := RdX 4 cellsA w a.2 a.1

end
end Cm
end Go.Proofs.Ytnkooajbenhjhaa

/- Arguments that are slices of numbers, of a line's acts, opened. A slice laid as it stands. -/
set_option linter.unusedVariables false
set_option linter.unusedSimpArgs false
namespace Go.Proofs.Ytnkooajbenhjhaa
open Go.RowKit Go.ChangeShapes Go.WideShapes Go.Deep
namespace Cm

theorem RdX.block {α : Type} {sz : Nat} {f : α → List Value} (hf : ∀ x, (f x).length = sz) {w : World} {b : Nat} {cs : Array Value} {t : TypeId} {l : List α} (h : w.heap[b]? = some (.cells cs t)) (hcs : cs.toList = flatX f l) (hm : l.length ≤ maxLen) : RdX sz f w (.slice (some ⟨b, 0, none⟩) l.length l.length) l := by
  refine ⟨some ⟨b, 0, none⟩, l.length, rfl, Nat.le_refl _, hm, (fun q => by cases q), fun x hx hp => ?_⟩
  cases hx
  refine ⟨rfl, fun i hi k u hu => ?_⟩
  have hk : k < sz := by
    have := (List.getElem?_eq_some_iff.1 hu).1
    rw [hf] at this
    exact this
  rw [← flatX_get hf l i hi k hk, ← hcs] at hu
  simp only [Nat.zero_add]
  simpa [World.cell?, h] using hu

section
variable {H : Type} {enc : TypeId × Value → H} {W : World}

theorem num_cells (fuel : Nat) (cs : List Value) (x : DataW H × List MemPlace) (h : DataW.trod enc Try.prog W 0 (fun _ => true) true fuel 3 cs = some x) : ∃ s : Int, cs = cellsI s := by
  obtain ⟨d, e0, _⟩ := DataW.trod_int Try.underlying3 h
  exact ⟨d, e0⟩

/-- An act on a line: what is done, its client. -/
structure Act2 where
  do_ : Int
  client : Int
def cells2 (a : Act2) : List Value := [.int .i64 a.do_, .int .i64 a.client]
theorem cells2_length (a : Act2) : (cells2 a).length = 2 := rfl


def numA (a : List Int × Value) : Value := a.2
def numOkA (w : World) (a : List Int × Value) : Prop := RdI w a.2 a.1
theorem open_num {r : Reach} {b0 : Nat} {v : Value} {d : DataW H} {p : List MemPlace} (hv : Value.okWide Try.prog W r b0 35 v) (h : DataW.Trod enc Try.prog W 0 (fun _ => true) true 35 v d p) : ∃ a : List Int × Value, v = numA a ∧ numOkA W a := by
  obtain ⟨a, len, cap, rfl⟩ := okWide_slice Try.underlying35 hv
  obtain ⟨m, hm⟩ := h
  obtain ⟨u, l, hu, hl⟩ := slice_of Try.underlying35 (show Try.prog.cellsOf 3 = 1 by kernel_rfl) (by omega) cellsI_length num_cells hm
  have : Value.slice a len cap = u := by simpa [Value.cells] using hu
  subst this
  exact ⟨(l, _), rfl, hl⟩

def act2A (a : List Act2 × Value) : Value := a.2
def act2OkA (w : World) (a : List Act2 × Value) : Prop := RdX 2 cells2 w a.2 a.1

end
end Cm
end Go.Proofs.Ytnkooajbenhjhaa

/- Arguments that are slices of locks, of acts on locks, opened. -/
set_option linter.unusedVariables false
set_option linter.unusedSimpArgs false
namespace Go.Proofs.Ytnkooajbenhjhaa
open Go.RowKit Go.ChangeShapes Go.WideShapes Go.Deep
namespace Cm

theorem RdX.map {α β : Type} {sz : Nat} {f : β → List Value} (g : α → β) {w : World} {v : Value} {l : List α} (h : RdX sz (fun x => f (g x)) w v l) : RdX sz f w v (l.map g) := by
  obtain ⟨a, cap, hv, h1, h2, h3, h4⟩ := h.ex
  refine ⟨a, cap, by rw [List.length_map]; exact hv, by rw [List.length_map]; exact h1, h2, fun q => by obtain ⟨q1, q2⟩ := h3 q; subst q1; exact ⟨rfl, q2⟩, fun x hx hp => ?_⟩
  obtain ⟨hs, hc⟩ := h4 x hx (fun q => hp (by rw [q]; rfl))
  refine ⟨hs, fun i hi k u hu => ?_⟩
  rw [List.length_map] at hi
  rw [List.getElem_map] at hu
  exact hc i hi k u hu

def cells3 (a : Act3) : List Value := [.int .u8 (a.do_ : Int), .int .u8 (a.name : Int), .int .u8 (a.client : Int)]
theorem cells3_length (a : Act3) : (cells3 a).length = 3 := rfl

section
variable {H : Type} {enc : TypeId × Value → H} {W : World}

theorem u8_nat {n : Int} (h : (Lit.int .u8 n).wf = true) : ∃ k : Nat, n = (k : Int) ∧ k < 256 := by
  have : 0 ≤ n ∧ n < 256 := by
    simp [Lit.wf, IntKind.min, IntKind.max, IntKind.signed, IntKind.bits] at h
    omega
  exact ⟨n.toNat, by omega, by omega⟩

theorem act3_cells (fuel : Nat) (cs : List Value) (x : DataW H × List MemPlace) (h : DataW.trod enc Try.prog W 0 (fun _ => true) true fuel 26 cs = some x) : ∃ a : {a : Act3 // a.ok}, cs = cells3 a.1 := by
  have hce : Try.prog.cellsOf 26 = 3 := by kernel_rfl
  obtain ⟨y0, y1, y2, n', _, hlen, t0, t1, t2⟩ := trod_struct3 Try.underlying26 h
  rw [hce] at hlen
  match cs, hlen with
  | [c0, c1, c2], _ =>
    obtain ⟨d, e0, _, w0⟩ := DataW.trod_int Try.underlying5 t0
    obtain ⟨m, e1, _, w1⟩ := DataW.trod_int Try.underlying5 t1
    obtain ⟨q, e2, _, w2⟩ := DataW.trod_int Try.underlying5 t2
    have e0' : c0 = .int .u8 d := by injection e0
    have e1' : c1 = .int .u8 m := by injection e1
    have e2' : c2 = .int .u8 q := by injection e2
    obtain ⟨d', rfl, hd⟩ := u8_nat w0
    obtain ⟨m', rfl, hm⟩ := u8_nat w1
    obtain ⟨q', rfl, hq⟩ := u8_nat w2
    exact ⟨⟨⟨d', m', q'⟩, hd, hm, hq⟩, by rw [e0', e1', e2']; rfl⟩

def act3A (a : List Act3 × Value) : Value := a.2
def act3OkA (w : World) (a : List Act3 × Value) : Prop := RdX 3 cells3 w a.2 a.1 ∧ ∀ x ∈ a.1, x.ok
theorem open_act3 {r : Reach} {b0 : Nat} {v : Value} {d : DataW H} {p : List MemPlace} (hv : Value.okWide Try.prog W r b0 22 v) (h : DataW.Trod enc Try.prog W 0 (fun _ => true) true 22 v d p) : ∃ a : List Act3 × Value, v = act3A a ∧ act3OkA W a := by
  obtain ⟨a, len, cap, rfl⟩ := okWide_slice Try.underlying22 hv
  obtain ⟨m, hm⟩ := h
  obtain ⟨u, l, hu, hl⟩ := slice_of (f := fun x : {a : Act3 // a.ok} => cells3 x.1) Try.underlying22 (show Try.prog.cellsOf 26 = 3 by kernel_rfl) (by omega) (fun x => cells3_length x.1) act3_cells hm
  have : Value.slice a len cap = u := by simpa [Value.cells] using hu
  subst this
  refine ⟨(l.map Subtype.val, _), rfl, RdX.map (f := cells3) Subtype.val hl, fun x hx => ?_⟩
  obtain ⟨y, _, rfl⟩ := List.mem_map.1 hx
  exact y.2

theorem lock_cells (fuel : Nat) (cs : List Value) (x : DataW H × List MemPlace) (h : DataW.trod enc Try.prog W 0 (fun _ => true) true fuel 39 cs = some x) : ∃ a : {a : LockC // RdI W a.lv a.line ∧ a.name.length ≤ maxLen}, cs = cellsK a.1 := by
  have hce : Try.prog.cellsOf 39 = 4 := by kernel_rfl
  have hcg : Try.prog.cellsOf 35 = 1 := by kernel_rfl
  obtain ⟨y0, y1, y2, y3, n', _, hlen, t0, t1, t2, t3⟩ := Go.Joins.trod_struct4 Try.underlying39 h
  rw [hce] at hlen
  match cs, hlen with
  | [c0, c1, c2, c3], _ =>
    obtain ⟨s, e0, _, w0⟩ := DataW.trod_string Try.underlying9 t0
    obtain ⟨m, e1, _⟩ := DataW.trod_int Try.underlying3 t1
    obtain ⟨q, e2, _⟩ := DataW.trod_int Try.underlying3 t2
    obtain ⟨v, l, e3, hl⟩ := slice_of Try.underlying35 (show Try.prog.cellsOf 3 = 1 by kernel_rfl) (by omega) cellsI_length num_cells t3
    rw [hcg] at e3
    have e0' : c0 = .string s := by injection e0
    have e1' : c1 = .int .i64 m := by injection e1
    have e2' : c2 = .int .i64 q := by injection e2
    have e3' : c3 = v := by injection e3
    obtain ⟨a, cap, rfl⟩ := hl.form
    have hs : bstr s.data.toList = s := rfl
    exact ⟨⟨⟨s.data.toList, m, q, l, a, cap⟩, hl, by simpa using w0⟩, by rw [e0', e1', e2', e3']; unfold cellsK LockC.lv; rw [hs]⟩

def lockA (a : List LockC × Value) : Value := a.2
def lockOkA (w : World) (a : List LockC × Value) : Prop := RdK w a.2 a.1 ∧ ∀ x ∈ a.1, x.name.length ≤ maxLen
theorem open_locks {r : Reach} {b0 : Nat} {v : Value} {d : DataW H} {p : List MemPlace} (hv : Value.okWide Try.prog W r b0 24 v) (h : DataW.Trod enc Try.prog W 0 (fun _ => true) true 24 v d p) : ∃ a : List LockC × Value, v = lockA a ∧ lockOkA W a := by
  obtain ⟨a, len, cap, rfl⟩ := okWide_slice Try.underlying24 hv
  obtain ⟨m, hm⟩ := h
  obtain ⟨u, l, hu, hl⟩ := slice_of (f := fun x : {a : LockC // RdI W a.lv a.line ∧ a.name.length ≤ maxLen} => cellsK x.1) Try.underlying24 (show Try.prog.cellsOf 39 = 4 by kernel_rfl) (by omega) (fun x => cellsK_length x.1) lock_cells hm
  have : Value.slice a len cap = u := by simpa [Value.cells] using hu
  subst this
  refine ⟨(l.map Subtype.val, _), rfl, ⟨RdX.map (f := cellsK) Subtype.val hl, fun x hx => ?_⟩, fun x hx => ?_⟩
  · obtain ⟨y, _, rfl⟩ := List.mem_map.1 hx
    exact y.2.1
  · obtain ⟨y, _, rfl⟩ := List.mem_map.1 hx
    exact y.2.2
end
end Cm
end Go.Proofs.Ytnkooajbenhjhaa

/- Contracts of the statements' own helpers of layer 8: Made. -/
set_option linter.unusedVariables false
set_option linter.unusedSimpArgs false
namespace Go.Proofs.Ytnkooajbenhjhaa
open Go.RowKit
namespace Cm

def madeK (ac : List Act3) : List LockV × Int := ac.foldl (fun s a => nextK s.1 s.2 a) ([], 0)
theorem madeK_succ (ac : List Act3) (k : Nat) (h : k < ac.length) : madeK (ac.take (k + 1)) = nextK (madeK (ac.take k)).1 (madeK (ac.take k)).2 ac[k] := by
  unfold madeK
  rw [List.take_succ_eq_append_getElem h, List.foldl_append]
  rfl
theorem madeK_good (ac : List Act3) (h : ac.length ≤ 1000) : Good (madeK ac).1 (madeK ac).2 ∧ (madeK ac).2 ≤ 4 * ac.length := by
  have key : ∀ k, k ≤ ac.length → Good (madeK (ac.take k)).1 (madeK (ac.take k)).2 ∧ (madeK (ac.take k)).2 ≤ 4 * k := by
    intro k
    induction k with
    | zero => intro _; exact ⟨Good.nil, Int.le_refl _⟩
    | succ k ih =>
      intro hk
      obtain ⟨h1, h2⟩ := ih (by omega)
      rw [madeK_succ ac k (by omega)]
      obtain ⟨h3, h4⟩ := good_next h1 ac[k] (by omega)
      exact ⟨h3, by omega⟩
  have := key ac.length (Nat.le_refl _)
  rwa [List.take_length] at this

theorem acts3_at {w : World} {a : Option Addr} {n cap : Nat} {l : List Act3} (h : RdX 3 cells3 w (.slice a n cap) l) (i : Nat) (hi : i < l.length) :
    ∃ b o, a = some ⟨b, o, none⟩ ∧ ∀ w' : World, Below w.heap.size w w' → w'.cell? ⟨b, o + i * 3, none⟩ = some (.int .u8 (l[i].do_ : Int)) ∧ w'.cell? ⟨b, o + i * 3 + 1, none⟩ = some (.int .u8 (l[i].name : Int)) ∧ w'.cell? ⟨b, o + i * 3 + 2, none⟩ = some (.int .u8 (l[i].client : Int)) := by
  obtain ⟨b, o, e, c⟩ := h.at i hi
  exact ⟨b, o, e, fun w' hb => ⟨c w' hb 0 _ rfl, c w' hb 1 _ rfl, c w' hb 2 _ rfl⟩⟩

set_option maxHeartbeats 2000000 in
theorem Made_any (v : Value) (ac : List Act3) (w : World) (h : RdX 3 cells3 w v ac) (ha : ∀ x ∈ ac, x.ok) : Calls Try.prog 27 #[v] w (GetsU (madeK (ac.take 60)) w) := by
  have hm := h.len
  obtain ⟨a, cap, rfl⟩ := h.form
  have HA := Lib.hid (fun i hi => acts3_at h i hi)
  have HOK : Hid (∀ i (hi : i < ac.length), ac[i].ok) := Lib.hid fun i hi => ha _ (List.getElem_mem hi)
  have HS := Lib.hid (madeK_succ ac)
  have HG : Hid (∀ k, k ≤ 60 → Good (madeK (ac.take k)).1 (madeK (ac.take k)).2 ∧ (madeK (ac.take k)).2 < 1000000) := Lib.hid fun k hk => by
    have := madeK_good (ac.take k) (by rw [List.length_take]; omega)
    rw [List.length_take] at this
    exact ⟨this.1, by omega⟩
  have HE : Hid (∀ k, k ≤ ac.length → (¬ k < ac.length ∨ ¬ k < 60) → k ≤ 60 → ac.take k = ac.take 60) := Lib.hid fun k h1 h2 h3 => by
    by_cases q : k = 60
    · rw [q]
    · rw [List.take_of_length_le (by omega), List.take_of_length_le (by omega)]
  obtain ⟨N, hN⟩ : ∃ N, ac.length = N := ⟨_, rfl⟩
  have HLL := Lib.hid hN
  rw [hN] at hm ⊢
  clear h ha hN
  go_enter Try.func27, Try.ntmps27
  go_wp2
  go_loopw [4, 5, 6] (fun m tk i wr => ∃ (k : Nat) (M : List LockC) (am : Option Addr) (cm : Nat), k ≤ N ∧ k ≤ 60 ∧ i = .int .i64 k ∧ m = .slice am M.length cm ∧ tk = .int .i64 (madeK (ac.take k)).2 ∧ Hid (vals M = (madeK (ac.take k)).1) ∧ Hid (RdK wr (.slice am M.length cm) M) ∧ Hid (Below w.heap.size w wr)) (fun _ _ i _ => N - (intOf i).toNat)
  case atStart => exact ⟨0, [], none, 0, by omega, by omega, rfl, rfl, rfl, Lib.hid rfl, Lib.hid (RdK.nil _), Lib.hid (Below.refl _ _)⟩
  case round =>
    obtain ⟨k, M, am, cm, hk, hk6, rfl, rfl, rfl, HM, HR, HB⟩ := hrel
    by_cases hgo : k < N ∧ k < 60
    · obtain ⟨h1, h2⟩ := hgo
      have hkl : k < ac.length := by rw [HLL.out]; exact h1
      obtain ⟨b, o, rfl, hc⟩ := HA.out k hkl
      obtain ⟨q0, q1, q2⟩ := hc _ HB.out
      have hok := HOK.out k hkl
      have hs := HS.out k hkl
      have hg := HG.out k hk6
      have HNX := Lib.hid (next_any (.slice am M.length cm) M (madeK (ac.take k)).2 ac[k] wr HR.out (by rw [HM.out]; exact hg.1) hg.2 hok)
      rw [HM.out, ← hs] at HNX
      clear hc HA HOK HS HG HE hs hg hok
      unfold act3Val at HNX
      generalize ac[k] = x at q0 q1 q2 HNX
      obtain ⟨xd, xn, xc⟩ := x
      dsimp only at q0 q1 q2 HNX
      generalize (madeK (ac.take k)).2 = T at *
      have HNX := HNX
      have f1 : (0 : Int) ≤ (k : Int) := by omega
      have f2 : (k : Int) < (N : Int) := by omega
      have f3 : (k : Int) < 60 := by omega
      go_wp2_with (go_at_call 19; refine HNX.out.mono ?_; rintro e w5 ⟨a5, c5, M5, rfl, hv5, hr5, hb5⟩; have HV5 := Lib.hid hv5; have HR5 := Lib.hid hr5; have HB5 := Lib.hid (step HB.out hb5); clear hv5 hr5 hb5)
      go_roundw
      case rel => exact ⟨k + 1, M5, a5, c5, by omega, by omega, by go_num, rfl, rfl, HV5, HR5, HB5⟩
      case measure => simp [intOf]; omega
    · have hcs : ¬ k < N ∨ (k < N ∧ ¬ k < 60) := by omega
      have he := HE.out k (by rw [HLL.out]; exact hk) (by rw [HLL.out]; omega) hk6
      clear hgo
      have HEE := Lib.hid he
      clear he HE
      rcases hcs with c1 | ⟨c1, c2⟩
      all_goals
        go_wp2
        go_ret2
        rw [← HEE.out]
        exact ⟨am, cm, M, rfl, HM.out, HR.out, HB.out⟩
end Cm
end Go.Proofs.Ytnkooajbenhjhaa

/- Contracts: slices.IndexFunc, slices.ContainsFunc over locks, whatever the test. -/
set_option linter.unusedVariables false
set_option linter.unusedSimpArgs false
namespace Go.Proofs.Ytnkooajbenhjhaa
open Go.RowKit Go.Shelf
namespace Cm

set_option maxHeartbeats 2000000 in
theorem IdxK_any (p : LockC → Bool) (g : Nat) (lb : Array Value) (eg : ∀ args w, (callFunc g args).run Try.prog w = .ok (.enter g args) w) (v : Value) (l : List LockC) (w : World) (h : RdX 4 cellsK w v l)
    (hp : ∀ (W : World) (x : LockC), Below w.heap.size w W → Calls Try.prog g (#[lockVal x] ++ lb) W (SaysB (p x) W)) :
    Calls Try.prog 49 #[v, .func (.func g) #[] lb] w (SaysI (idxI p l) w) := by
  have hm := h.len
  obtain ⟨a, cap, rfl⟩ := h.form
  have HA := Lib.hid (fun i hi => rdk_at h i hi)
  have HP := Lib.hid hp
  have HH := Lib.hid (idxI_hit p l)
  have HM := Lib.hid (idxI_miss p l)
  clear h hp
  obtain ⟨L, hL⟩ : ∃ L, l.length = L := ⟨_, rfl⟩
  have HLL := Lib.hid hL
  rw [hL] at hm ⊢
  clear hL
  go_enter Try.func49, Try.ntmps49
  go_wp2
  go_loopg [5, 8] L (fun gg _ s8 wr => ∃ kk : Nat, kk ≤ L ∧ L - kk ≤ gg ∧ s8 = .int .i64 kk ∧ Hid (Below w.heap.size w wr) ∧ Hid (∀ j (hj : j < kk) (hl : j < l.length), p l[j] = false))
  case atStart => exact ⟨0, Nat.zero_le _, by omega, rfl, Lib.hid (Below.refl _ w), Lib.hid (fun j hj => absurd hj (Nat.not_lt_zero _))⟩
  case round =>
    obtain ⟨kk, hkk, hg, rfl, HB, HJ⟩ := hrel
    by_cases hlt : kk < L
    · have hkl : kk < l.length := by rw [HLL.out]; exact hlt
      obtain ⟨b, o, rfl, hc⟩ := HA.out kk hkl
      obtain ⟨q0, q1, q2, q3⟩ := hc _ HB.out
      have hcall := HP.out wr l[kk] HB.out
      have HI : Hid (p l[kk] = true → idxI p l = kk) := Lib.hid (fun q => HH.out kk hkl q (fun j hj => HJ.out j hj (by omega)))
      have HN : Hid (p l[kk] = false → ∀ j (hj : j < kk + 1) (hl : j < l.length), p l[j] = false) := Lib.hid (fun q j hj hl => by
        by_cases e : j = kk
        · subst e; exact q
        · exact HJ.out j (by omega) hl)
      clear hc HH HM HA HP
      generalize l[kk] = x at q0 q1 q2 q3 hcall HI HN
      obtain ⟨xn, xh, xt, xl, xa, xc⟩ := x
      unfold LockC.lv at q3
      unfold lockVal LockC.lv at hcall
      dsimp only at q0 q1 q2 q3 hcall
      cases hq : p ⟨xn, xh, xt, xl, xa, xc⟩ with
      | true =>
        rw [hq] at hcall
        have HC := Lib.hid hcall
        have HI := Lib.hid (HI.out hq)
        clear hcall hq HN
        go_wp2_with (go_at_fn g; refine HC.out.mono ?_; rintro e w' ⟨rfl, hb'⟩)
        go_ret
        exact ⟨by rw [HI.out]; rfl, step HB.out hb'⟩
      | false =>
        rw [hq] at hcall
        have HC := Lib.hid hcall
        have HN := Lib.hid (HN.out hq)
        clear hcall hq HI
        go_wp2_with (go_at_fn g; refine HC.out.mono ?_; rintro e w' ⟨rfl, hb'⟩)
        go_roundg (L - (kk + 1))
        case measure => omega
        case rel => exact ⟨kk + 1, by omega, by omega, by go_num, Lib.hid (step HB.out hb'), HN⟩
    · obtain rfl : kk = L := by omega
      have hmiss := HM.out (fun j hj => HJ.out j (by rw [← HLL.out]; exact hj) hj)
      have HMM := Lib.hid hmiss
      clear hmiss HM HH HP
      go_wp2
      go_ret
      exact ⟨by rw [HMM.out]; rfl, HB.out⟩

theorem HasK_any (p : LockC → Bool) (g : Nat) (lb : Array Value) (eg : ∀ args w, (callFunc g args).run Try.prog w = .ok (.enter g args) w) (v : Value) (l : List LockC) (w : World) (h : RdX 4 cellsK w v l)
    (hp : ∀ (W : World) (x : LockC), Below w.heap.size w W → Calls Try.prog g (#[lockVal x] ++ lb) W (SaysB (p x) W)) :
    Calls Try.prog 62 #[v, .func (.func g) #[] lb] w (SaysB (l.any p) w) := by
  rw [← idxI_any]
  have HC := Lib.hid (IdxK_any p g lb eg v l w h hp)
  clear hp h
  generalize idxI p l = r at HC ⊢
  go_enter Try.func62, Try.ntmps62
  go_wp2_with (go_at_call 49; refine HC.out.mono ?_; rintro e w' ⟨rfl, hb'⟩)
  go_ret
  exact ⟨by simp, hb'⟩

/-! ### The closures, and who calls them -/
theorem box1k_at (w : World) (v : Value) (t : TypeId) (w' : World) (hb : Below (w.alloc (.cells #[v] t)).heap.size (w.alloc (.cells #[v] t)) w') : w'.cell? ⟨w.heap.size, 0, none⟩ = some v := by
  have h : (w.alloc (.cells #[v] t)).cell? ⟨w.heap.size, 0, none⟩ = some v := by simp
  exact (hb.cell (lt_of_cell h)).trans h

theorem indexK1_any (x : LockC) (w : World) (b : Nat) (n : List UInt8) (hb : w.cell? ⟨b, 0, none⟩ = some (.string (bstr n))) :
    Calls Try.prog 50 #[lockVal x, .pointer (some ⟨b, 0, none⟩)] w (SaysB (isNmC n x) w) := by
  obtain ⟨xn, xh, xt, xl, xa, xc⟩ := x
  unfold lockVal LockC.lv isNmC isNm LockC.val
  dsimp only
  have HB := Lib.hid (newAlloc w (.cells #[.string (bstr xn), .int .i64 xh, .int .i64 xt, .slice xa xl.length xc] 39))
  obtain ⟨y0, y1, y2, y3⟩ := box4 (Below.refl _ (w.alloc (.cells #[.string (bstr xn), .int .i64 xh, .int .i64 xt, .slice xa xl.length xc] 39)))
  have z1 := (HB.out.cell (lt_of_cell hb)).trans hb
  clear hb
  have hE := str_eq xn n
  generalize decide (xn = n) = r at hE ⊢
  generalize xl.length = N at *
  go_enter Try.func50, Try.ntmps50
  go_wp2
  go_ret
  exact ⟨by simp [hE], HB.out⟩

theorem tokenK1_any (x : LockC) (w : World) (b : Nat) (t : Int) (hb : w.cell? ⟨b, 0, none⟩ = some (.int .i64 t)) :
    Calls Try.prog 63 #[lockVal x, .pointer (some ⟨b, 0, none⟩)] w (SaysB (decide (x.token = t)) w) := by
  obtain ⟨xn, xh, xt, xl, xa, xc⟩ := x
  unfold lockVal LockC.lv
  dsimp only
  have HB := Lib.hid (newAlloc w (.cells #[.string (bstr xn), .int .i64 xh, .int .i64 xt, .slice xa xl.length xc] 39))
  obtain ⟨y0, y1, y2, y3⟩ := box4 (Below.refl _ (w.alloc (.cells #[.string (bstr xn), .int .i64 xh, .int .i64 xt, .slice xa xl.length xc] 39)))
  have z1 := (HB.out.cell (lt_of_cell hb)).trans hb
  clear hb
  generalize xl.length = N at *
  go_enter Try.func63, Try.ntmps63
  go_wp2
  go_ret
  exact ⟨by simp <;> rfl, HB.out⟩

theorem str_gtr (a b : List UInt8) : (!Op.bytesLess (bstr a).toList (bstr b).toList && !(bstr a).toList == (bstr b).toList) = Op.bytesLess b a := by
  rw [str_less, str_eq]
  rcases less_tri a b with ⟨q1, q2, q3⟩ | ⟨q1, q2, q3⟩ | ⟨q1, q2⟩
  · simp [q1, q2, q3]
  · simp [q1, q2, q3]
  · subst q1; simp [q2]

theorem placeK1_any (x : LockC) (w : World) (b : Nat) (n : List UInt8) (hb : w.cell? ⟨b, 0, none⟩ = some (.string (bstr n))) :
    Calls Try.prog 66 #[lockVal x, .pointer (some ⟨b, 0, none⟩)] w (SaysB (Op.bytesLess n x.name) w) := by
  obtain ⟨xn, xh, xt, xl, xa, xc⟩ := x
  unfold lockVal LockC.lv
  dsimp only
  have HB := Lib.hid (newAlloc w (.cells #[.string (bstr xn), .int .i64 xh, .int .i64 xt, .slice xa xl.length xc] 39))
  obtain ⟨y0, y1, y2, y3⟩ := box4 (Below.refl _ (w.alloc (.cells #[.string (bstr xn), .int .i64 xh, .int .i64 xt, .slice xa xl.length xc] 39)))
  have z1 := (HB.out.cell (lt_of_cell hb)).trans hb
  clear hb
  have hE := str_gtr xn n
  generalize Op.bytesLess n xn = r at hE ⊢
  generalize xl.length = N at *
  go_enter Try.func66, Try.ntmps66
  go_wp2
  go_ret
  exact ⟨by simp [hE], HB.out⟩

theorem enters_indexK : ∀ args w, (callFunc 50 args).run Try.prog w = .ok (.enter 50 args) w := enters_of Try.func50 (by kernel_rfl) rfl
theorem enters_tokenK : ∀ args w, (callFunc 63 args).run Try.prog w = .ok (.enter 63 args) w := enters_of Try.func63 (by kernel_rfl) rfl
theorem enters_placeK : ∀ args w, (callFunc 66 args).run Try.prog w = .ok (.enter 66 args) w := enters_of Try.func66 (by kernel_rfl) rfl

theorem indexOfK_any (v : Value) (l : List LockC) (n : List UInt8) (w : World) (h : RdX 4 cellsK w v l) : Calls Try.prog 33 #[v, .string (bstr n)] w (SaysI (idxI (isNm n) (vals l)) w) := by
  rw [idx_vals]
  have hmf : ∀ (fn : Fn) (first cap : Array Value) (w : World), (Instr.makeFunc fn first cap).run Try.prog w = .ok (.func fn first cap) w := fun _ _ _ _ => rfl
  have HI := Lib.hid (IdxK_any (isNmC n) 50 #[.pointer (some ⟨w.heap.size, 0, none⟩)] enters_indexK v l (w.alloc (.cells #[.string (bstr n)] 9)) (h.later (newAlloc _ _))
    (fun W x hb => indexK1_any x W w.heap.size n (box1k_at w _ _ W hb)))
  have HB := Lib.hid (newAlloc w (.cells #[.string (bstr n)] 9))
  obtain ⟨a, cap, rfl⟩ := h.form
  clear h
  generalize idxI (isNmC n) l = r at HI ⊢
  generalize l.length = L at *
  go_enter Try.func33, Try.ntmps33
  go_wp2_with (go_at_call 49; refine HI.out.mono ?_; rintro e w' ⟨rfl, hb'⟩)
  go_ret
  exact ⟨rfl, step HB.out hb'⟩

theorem hasTokenK_any (v : Value) (l : List LockC) (t : Int) (w : World) (h : RdX 4 cellsK w v l) : Calls Try.prog 44 #[v, .int .i64 t] w (SaysB (l.any fun x => decide (x.token = t)) w) := by
  have hmf : ∀ (fn : Fn) (first cap : Array Value) (w : World), (Instr.makeFunc fn first cap).run Try.prog w = .ok (.func fn first cap) w := fun _ _ _ _ => rfl
  have HI := Lib.hid (HasK_any (fun x => decide (x.token = t)) 63 #[.pointer (some ⟨w.heap.size, 0, none⟩)] enters_tokenK v l (w.alloc (.cells #[.int .i64 t] 3)) (h.later (newAlloc _ _))
    (fun W x hb => tokenK1_any x W w.heap.size t (box1k_at w _ _ W hb)))
  have HB := Lib.hid (newAlloc w (.cells #[.int .i64 t] 3))
  obtain ⟨a, cap, rfl⟩ := h.form
  clear h
  generalize l.any (fun x : LockC => decide (x.token = t)) = r at HI ⊢
  generalize l.length = L at *
  go_enter Try.func44, Try.ntmps44
  go_wp2_with (go_at_call 62; refine HI.out.mono ?_; rintro e w' ⟨rfl, hb'⟩)
  go_ret
  exact ⟨rfl, step HB.out hb'⟩

/-- Where a new name belongs, where no lock has it. -/
theorem place_find (n : List UInt8) : ∀ l : List LockV, (∀ k ∈ l, k.name ≠ n) → l.findIdx (fun k => Op.bytesLess n k.name) = placeK n l
  | [], _ => rfl
  | k :: l, h => by
    have ih := place_find n l fun x hx => h x (List.mem_cons_of_mem _ hx)
    have hk := h k List.mem_cons_self
    rw [List.findIdx_cons, placeK, ih]
    rcases less_tri k.name n with ⟨q1, q2, _⟩ | ⟨q1, q2, _⟩ | ⟨q1, _⟩
    · rw [q1, q2]; rfl
    · rw [q1, q2]; rfl
    · exact absurd q1 hk

theorem idx_noneK {α : Type} (p : α → Bool) (l : List α) (h : idxI p l = -1) : ∀ x ∈ l, p x = false := by
  intro x hx
  cases q : p x with
  | false => rfl
  | true =>
    have h1 : l.any p = true := List.any_eq_true.2 ⟨x, hx, q⟩
    rw [← idxI_any, h] at h1
    simp at h1

theorem placeOfK_any (v : Value) (l : List LockC) (n : List UInt8) (w : World) (h : RdX 4 cellsK w v l) (hi : idxI (isNm n) (vals l) = -1) : Calls Try.prog 53 #[v, .string (bstr n)] w (SaysI (placeK n (vals l) : Int) w) := by
  have hmf : ∀ (fn : Fn) (first cap : Array Value) (w : World), (Instr.makeFunc fn first cap).run Try.prog w = .ok (.func fn first cap) w := fun _ _ _ _ => rfl
  have HI := Lib.hid (IdxK_any (fun x => Op.bytesLess n x.name) 66 #[.pointer (some ⟨w.heap.size, 0, none⟩)] enters_placeK v l (w.alloc (.cells #[.string (bstr n)] 9)) (h.later (newAlloc _ _))
    (fun W x hb => placeK1_any x W w.heap.size n (box1k_at w _ _ W hb)))
  have HB := Lib.hid (newAlloc w (.cells #[.string (bstr n)] 9))
  have hpl : l.findIdx (fun x : LockC => Op.bytesLess n x.name) = placeK n (vals l) := by
    rw [← place_find n (vals l) (fun k hk => by simpa [isNm] using idx_noneK _ _ hi k hk)]
    unfold vals
    rw [List.findIdx_map]
    rfl
  have hm := h.len
  have hle : placeK n (vals l) ≤ l.length := by have := placeK_le n (vals l); rw [vals_length] at this; exact this
  obtain ⟨a, cap, rfl⟩ := h.form
  clear h hi
  by_cases hq : placeK n (vals l) < l.length
  · have e : idxI (fun x : LockC => Op.bytesLess n x.name) l = (placeK n (vals l) : Int) := by unfold idxI; rw [hpl]; exact if_pos hq
    rw [e] at HI
    clear e hq hpl
    generalize placeK n (vals l) = r at HI hle ⊢
    generalize l.length = L at *
    go_enter Try.func53, Try.ntmps53
    go_wp2_with (go_at_call 49; refine HI.out.mono ?_; rintro e w' ⟨rfl, hb'⟩)
    go_ret
    exact ⟨rfl, step HB.out hb'⟩
  · have e : idxI (fun x : LockC => Op.bytesLess n x.name) l = -1 := by unfold idxI; rw [hpl]; exact if_neg hq
    have e2 : placeK n (vals l) = l.length := by omega
    rw [e] at HI
    rw [e2]
    clear e hq e2 hle hpl
    generalize l.length = L at *
    go_enter Try.func53, Try.ntmps53
    go_wp2_with (go_at_call 49; refine HI.out.mono ?_; rintro e w' ⟨rfl, hb'⟩)
    go_ret
    exact ⟨rfl, step HB.out hb'⟩
end Cm
end Go.Proofs.Ytnkooajbenhjhaa

/- Contracts: slices.Grow, slices.Concat over locks (made from XCatS by program). -/
set_option linter.unusedVariables false
set_option linter.unusedSimpArgs false
namespace Go.Proofs.Ytnkooajbenhjhaa
open Go.RowKit
namespace Cm

theorem ownsK_new (w : World) (cs : Array Value) (cap : Nat) (hc : cs.size = cap * 4) (hm : cap ≤ maxLen) :
    (w.alloc (.cells cs 39)).drew.ownsRow w.heap.size 39 4 (.slice (some ⟨w.heap.size, 0, none⟩) 0 cap) 0 [] := by
  refine ⟨rfl, .inr ⟨w.heap.size, cap, cs, rfl, Nat.le_refl _, ?_, Nat.zero_le _, hm, by omega, by simp⟩⟩
  show (w.heap.push (.cells cs 39))[w.heap.size]? = _
  simp

/-- Sessions told, in new memory of the call's own. -/
def MadeQ (l : List LockC) (w : World) (e : Ending) (w' : World) : Prop :=
  ∃ v, e = .returned v ∧ w'.ownsRow w.heap.size 39 4 v l.length (flatX cellsK l) ∧ Below w.heap.size w w'

theorem GrowK_none (w : World) :
    Calls Try.prog 69 #[.slice none 0 0, .int .i64 0] w (MadeQ [] w) := by
  go_enter Try.func69, Try.ntmps69
  go_wp2
  go_ret
  exact ⟨_, rfl, World.ownsRow_nil _ _ _ _, Below.refl _ _⟩

theorem GrowK_some (n : Nat) (w : World) (h0 : 0 < n) (h : n ≤ 1000000) :
    Calls Try.prog 69 #[.slice none 0 0, .int .i64 (n : Int)] w (MadeQ [] w) := by
  obtain ⟨i0, hi, hz0, hz1, hz2⟩ := info_parts infoK
  have hr := fun ty => Lib.run_append_nil_zeros (P := Try.prog) w 24 3 ty 39 i0 (.agg #[.string ⟨#[]⟩, .int .i64 0, .int .i64 0, .slice none 0 0]) .i64 .i64 Try.underlying24 Try.underlying3 hi hz0 n h0 (by rw [hz1]; omega) (by omega) (by rw [hz2]; omega)
  have hge := grownCap_ge w n 0 39
  have hle := grownCap_le_maxLen w n 0 39 (by unfold maxLen; omega)
  generalize grownCap w n 0 39 = cap at hr hge hle
  have hmx := hle
  unfold maxLen at hmx
  have HR := Lib.hid hr
  clear hr
  go_enter Try.func69, Try.ntmps69
  go_wp2_with (at_builtin; refine Lib.wpList_append_run _ rfl _ _ _ _ rfl _ _ rfl rfl _ _ (HR.out _) ?_)
  go_ret
  exact ⟨_, rfl, ownsK_new w _ cap (by simp [Builtin.zeroCells, Value.cells]; omega) hle, ((Below.refl _ _).alloc (Nat.le_refl _) _).drew⟩

theorem GrowK_any (n : Nat) (w : World) (h : n ≤ 1000000) :
    Calls Try.prog 69 #[.slice none 0 0, .int .i64 (n : Int)] w (MadeQ [] w) := by
  rcases Nat.eq_zero_or_pos n with rfl | h0
  · exact GrowK_none w
  · exact GrowK_some n w h0 h

/-- Lists of lists, one behind the other. -/
def flatR (l : List (Value × List LockC)) : List LockC := l.flatMap (·.2)
theorem flatR_take_succ (l : List (Value × List LockC)) (j : Nat) (h : j < l.length) : flatR (l.take (j + 1)) = flatR (l.take j) ++ (l[j]).2 := by
  unfold flatR
  rw [List.take_succ_eq_append_getElem h, List.flatMap_append]
  simp
theorem flatR_take_le (l : List (Value × List LockC)) (j : Nat) : (flatR (l.take j)).length ≤ (flatR l).length := by
  conv => rhs; rw [← List.take_append_drop j l]
  unfold flatR
  rw [List.flatMap_append, List.length_append]
  omega

set_option maxHeartbeats 1000000 in
theorem ConcatK_any (b : Nat) (l : List (Value × List LockC)) (w : World) (hc : ∀ j (h : j < l.length), w.cell? ⟨b, j, none⟩ = some (l[j]).1 ∧ RdX 4 cellsK w (l[j]).1 (l[j]).2) (hk : l.length ≤ 1000) (h1 : (flatR l).length ≤ 1000000) :
    Calls Try.prog 57 #[.slice (some ⟨b, 0, none⟩) l.length l.length] w (MadeQ (flatR l) w) := by
  obtain ⟨i0, hi, hz0, hz1, hz2⟩ := info_parts infoK
  have HC := Lib.hid hc
  have HS := Lib.hid (flatR_take_succ l)
  have HL := Lib.hid (flatR_take_le l)
  clear hc
  go_enter Try.func57, Try.ntmps57
  go_wp2
  go_loop [3, 11] (fun z i => ∃ j : Nat, j ≤ l.length ∧ i = .int .i64 j ∧ z = .int .i64 ((flatR (l.take j)).length : Int)) (fun _ i => l.length - (intOf i).toNat)
  case atStart => exact ⟨0, by omega, rfl, rfl⟩
  case round =>
    obtain ⟨j, hj, rfl, rfl⟩ := hrel
    by_cases hlt : j < l.length
    · obtain ⟨hcell, hrd⟩ := HC.out j hlt
      have hsz : (flatR (l.take (j + 1))).length = (flatR (l.take j)).length + (l[j]).2.length := by rw [HS.out j hlt, List.length_append]
      have hle := HL.out (j + 1)
      generalize l[j] = x at hcell hrd hsz
      obtain ⟨v, bs⟩ := x
      dsimp only at hcell hsz hrd
      have hm := hrd.len
      obtain ⟨a, cap, rfl⟩ := hrd.form
      clear hrd
      generalize (flatR (l.take j)).length = A at hsz ⊢
      generalize hB : (flatR (l.take (j + 1))).length = B at hsz hle ⊢
      generalize bs.length = Z at hsz hm hcell
      have HB := Lib.hid hB
      clear hB
      go_wp2
      go_round
      case rel => exact ⟨j + 1, by omega, by go_num, by rw [HB.out, hsz]; go_num⟩
      case measure => simp [intOf]; omega
    · obtain rfl : j = l.length := by omega
      rw [List.take_length]
      have G := Lib.hid (fun w => GrowK_any (flatR l).length w h1)
      go_wp2_with (go_at_call 69; refine (G.out _).mono ?_; rintro e w1 ⟨v1, rfl, hown, hb⟩)
      go_loopw [6, 27] (fun v i wr => ∃ j : Nat, j ≤ l.length ∧ i = .int .i64 j ∧ wr.ownsRow w.heap.size 39 4 v (flatR (l.take j)).length (flatX cellsK (flatR (l.take j))) ∧ Below w.heap.size w wr) (fun _ i _ => l.length - (intOf i).toNat)
      case atStart => exact ⟨0, by omega, rfl, hown, hb⟩
      case round =>
        obtain ⟨j, hj, rfl, ho, hbw⟩ := hrel
        by_cases hlt : j < l.length
        · obtain ⟨hcell0, hrd0⟩ := HC.out j hlt
          have hcell := hbw.cell (p := ⟨b, j, none⟩) (lt_of_cell hcell0)
          rw [hcell0] at hcell
          have hrd := hrd0.later hbw
          have hsz : flatR (l.take (j + 1)) = flatR (l.take j) ++ (l[j]).2 := HS.out j hlt
          have hle := HL.out (j + 1)
          have hbs := hbw.size
          rw [hsz] at hle
          generalize l[j] = x at hcell hrd hsz hle
          clear hcell0 hrd0
          obtain ⟨v, bs⟩ := x
          dsimp only at hcell hrd hsz hle
          rw [List.length_append] at hle
          have HZ := Lib.hid hsz
          clear hsz
          generalize flatR (l.take j) = A at ho hle HZ
          have HO := Lib.hid ho
          have HR := Lib.hid hrd
          have HB := Lib.hid hbw
          clear ho hrd hbw
          go_wp2_with (at_builtin; refine wpList_append_rdx cellsK_length (by omega) cellsK_one rfl _ _ 24 rfl w.heap.size 39 i0 _ 56 Try.underlying24 hi hz0 hz1 hz2 rfl _ _ _ rfl HO.out _ bs rfl HR.out (by unfold maxLen; omega) (by omega) hbs ?_; intro v1 w2 hown2 hgrow2)
          go_roundw
          case rel => exact ⟨j + 1, by omega, by go_num, by rw [HZ.out, List.length_append, flatX_append]; exact hown2, HB.out.grown hgrow2 hbs (fun k hk => (Rw.own_lt HO.out k hk).1)⟩
          case measure => simp [intOf]; omega
        · obtain rfl : j = l.length := by omega
          rw [List.take_length] at ho
          go_wp2
          go_ret
          exact ⟨_, rfl, ho, hbw⟩

/-- Two, one behind the other. -/
theorem ConcatK_two (w : World) (b : Nat) (u v : Value) (us vs : List LockC) (hu : RdX 4 cellsK w u us) (hv : RdX 4 cellsK w v vs) (h0 : w.cell? ⟨b, 0, none⟩ = some u) (h1 : w.cell? ⟨b, 1, none⟩ = some v)
    (hl : us.length + vs.length ≤ 1000000) :
    Calls Try.prog 57 #[.slice (some ⟨b, 0, none⟩) 2 2] w (MadeQ (us ++ vs) w) := by
  have e : flatR [(u, us), (v, vs)] = us ++ vs := by simp [flatR]
  have := ConcatK_any b [(u, us), (v, vs)] w (fun j h => by
    match j, h with
    | 0, _ => exact ⟨h0, hu⟩
    | 1, _ => exact ⟨h1, hv⟩) (by simp) (by rw [e]; simp; omega)
  rw [e] at this
  exact this

/-- Three, one behind the other. -/
theorem ConcatK_three (w : World) (b : Nat) (u v x : Value) (us vs xs : List LockC) (hu : RdX 4 cellsK w u us) (hv : RdX 4 cellsK w v vs) (hx : RdX 4 cellsK w x xs) (h0 : w.cell? ⟨b, 0, none⟩ = some u) (h1 : w.cell? ⟨b, 1, none⟩ = some v) (h2 : w.cell? ⟨b, 2, none⟩ = some x)
    (hl : us.length + vs.length + xs.length ≤ 1000000) :
    Calls Try.prog 57 #[.slice (some ⟨b, 0, none⟩) 3 3] w (MadeQ (us ++ (vs ++ xs)) w) := by
  have e : flatR [(u, us), (v, vs), (x, xs)] = us ++ (vs ++ xs) := by simp [flatR]
  have := ConcatK_any b [(u, us), (v, vs), (x, xs)] w (fun j h => by
    match j, h with
    | 0, _ => exact ⟨h0, hu⟩
    | 1, _ => exact ⟨h1, hv⟩
    | 2, _ => exact ⟨h2, hx⟩) (by simp) (by rw [e]; simp; omega)
  rw [e] at this
  exact this


end Cm
end Go.Proofs.Ytnkooajbenhjhaa
