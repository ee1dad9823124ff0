/- Contracts of the statements' own helpers of layer 5: awake. -/
import Derived.Test.YtklnopgnlnfbnaaArgB
import Derived.Deep.RegionHeld3
import Derived.Deep.DrawnRows
set_option linter.unusedVariables false
set_option linter.unusedSimpArgs false
namespace Go.Proofs.Ytklnopgnlnfbnaa
open Go.RowKit
attribute [local go_sem ↓] Go.wp_at_zero Go.wp_at_succ
namespace Cm

/-- A slice of one, in a block of its own. -/
theorem RdH.one {w : World} {b : Nat} {g : GrantV} (h0 : w.cell? ⟨b, 0, none⟩ = some (.string (bstr g.name))) (h1 : w.cell? ⟨b, 1, none⟩ = some (.int .i64 g.token)) : RdH w (.slice (some ⟨b, 0, none⟩) 1 1) [g] := by
  refine ⟨some ⟨b, 0, none⟩, 1, rfl, Nat.le_refl _, by unfold maxLen; omega, (fun q => by cases q), fun x hx hp => ?_⟩
  cases hx
  refine ⟨rfl, fun i hi => ?_⟩
  obtain rfl : i = 0 := by simpa using hi
  exact ⟨h0, h1⟩

def zeros11 : List UInt8 := [0, 0, 0, 0, 0, 0, 0, 0, 0, 0, 0]

theorem rd_zeros {w : World} {b : Nat} (h : w.heap[b]? = some (.cells #[.int .u8 0, .int .u8 0, .int .u8 0, .int .u8 0, .int .u8 0, .int .u8 0, .int .u8 0, .int .u8 0, .int .u8 0, .int .u8 0, .int .u8 0] 5)) : Rd w (.slice (some ⟨b, 0, none⟩) 11 11) zeros11 := by
  refine ⟨some ⟨b, 0, none⟩, 11, 11, rfl, rfl, Nat.le_refl _, by unfold maxLen; omega, (fun q => by cases q), fun x hx hp => ?_⟩
  cases hx
  refine ⟨rfl, fun i hi => ?_⟩
  unfold zeros11 at hi ⊢
  have hi' : i < 11 := hi
  match i, hi' with
  | 0, _ | 1, _ | 2, _ | 3, _ | 4, _ | 5, _ | 6, _ | 7, _ | 8, _ | 9, _ | 10, _ => simp [World.cell?, h]

/-- A reply told, its slice written out. -/
def GetsPS (r : ReplyV × Int × Int) (w : World) (e : Ending) (w' : World) : Prop :=
  ∃ a p, e = .returned (.tuple #[repVal r.1 (.slice a r.1.held.length p), .int .i64 r.2.1, .int .i64 r.2.2]) ∧ RdH w' (.slice a r.1.held.length p) r.1.held ∧ Below w.heap.size w w'

theorem GetsP.s {r : ReplyV × Int × Int} {w : World} {e : Ending} {w' : World} (h : GetsP r w e w') : GetsPS r w e w' := by
  obtain ⟨u, q1, q2, q3⟩ := h
  obtain ⟨a, p, rfl⟩ := Rw.own_form q2
  exact ⟨a, p, q1, RdH.own q2, q3⟩

def GetsAS (r : AnsV × Int × Int) (w : World) (e : Ending) (w' : World) : Prop :=
  ∃ a p, e = .returned (.tuple #[ansVal r.1 (.slice a r.1.rep.held.length p), .int .i64 r.2.1, .int .i64 r.2.2]) ∧ RdH w' (.slice a r.1.rep.held.length p) r.1.rep.held ∧ Below w.heap.size w w'

theorem GetsA.s {r : AnsV × Int × Int} {w : World} {e : Ending} {w' : World} (h : GetsA r w e w') : GetsAS r w e w' := by
  obtain ⟨u, q1, q2, q3⟩ := h
  obtain ⟨a, p, rfl⟩ := Rw.own_form q2
  exact ⟨a, p, q1, RdH.own q2, q3⟩

theorem make11 (w : World) : (Instr.makeSlice 26 (.int .i64 11) (.int .i64 11)).run Try.prog w = .ok (.slice (some ⟨w.heap.size, 0, none⟩) 11 11) (w.alloc (.cells #[.int .u8 0, .int .u8 0, .int .u8 0, .int .u8 0, .int .u8 0, .int .u8 0, .int .u8 0, .int .u8 0, .int .u8 0, .int .u8 0, .int .u8 0] 5)) := by kernel_rfl

set_option maxHeartbeats 4000000 in
theorem awake_ok (w : World) : Calls Try.prog 9 #[] w (SaysB true w) := by
  have e1 : putP zeroP = (zeros11, 0) := by decide +kernel
  have e0 : bytesP zeroP = zeros11 := by decide +kernel
  have e2 : getP zeros11 0 = (zeroP, 11, 0) := by
    have := getP_put zeroP (by decide +kernel) [] []
    rw [e0] at this
    exact this
  have c1 : ∀ w, Calls Try.prog 10 #[.agg #[.int .i64 0, .int .i64 0, .int .i64 0, .slice none 0 0]] w (MadeS (zeros11, 0) w) := fun w => by
    have := RepPut_any zeroP (.slice none 0 0) w (RdH.nil w)
    rw [e1] at this
    exact this.mono fun e w' h => Made.s h
  have c2 : ∀ v w, Rd w v zeros11 → Calls Try.prog 12 #[v, .int .i64 0] w (fun e w' => ∃ a p, e = .returned (.tuple #[.agg #[.int .i64 0, .int .i64 0, .int .i64 0, .slice a 0 p], .int .i64 11, .int .i64 0]) ∧ RdH w' (.slice a 0 p) [] ∧ Below w.heap.size w w') := fun v w h => by
    have := RepGet_any v _ 0 w h (by omega)
    rw [e2] at this
    refine this.mono fun e w' q => ?_
    obtain ⟨u, q1, q2, q3⟩ := q
    obtain ⟨a, p, rfl⟩ := Rw.own_form q2
    exact ⟨a, p, q1, RdH.own q2, q3⟩
  have c3 : ∀ a p w, RdH w (.slice a 0 p) [] → Calls Try.prog 16 #[.agg #[.int .i64 0, .int .i64 0, .int .i64 0, .slice a 0 p], .agg #[.int .i64 0, .int .i64 0, .int .i64 0, .slice none 0 0]] w (SaysB true w) := fun a p w h =>
    SameReply_any zeroP zeroP (.slice a 0 p) (.slice none 0 0) w h (RdH.nil w)
  have c4 : ∀ v w, RdH w v [⟨[97], 9⟩] → Calls Try.prog 14 #[.agg #[.int .i64 0, .int .i64 4, .int .i64 0, v]] w (SaysB true w) := fun v w h => by
    have := RepMay_any ⟨0, 4, 0, [⟨[97], 9⟩]⟩ v w h
    rw [show mayP ⟨0, 4, 0, [⟨[97], 9⟩]⟩ = true by decide +kernel] at this
    exact this
  have c5 : ∀ v w, RdH w v [⟨[97], 9⟩] → Calls Try.prog 17 #[.agg #[.int .i64 0, .int .i64 4, .int .i64 0, v], .string ⟨#[97]⟩] w (fun e w' => e = .returned (.int .i64 9) ∧ Below w.heap.size w w') := fun v w h => by
    have := RepToken_any ⟨0, 4, 0, [⟨[97], 9⟩]⟩ v [97] w h
    exact this
  have c6 : ∀ v w, Rd w v zeros11 → (convert 26 9 v).run Try.prog w = .ok (.string ⟨#[0, 0, 0, 0, 0, 0, 0, 0, 0, 0, 0]⟩) w := fun v w h => conv_rd w Try.underlying26 Try.underlying5 Try.underlying9 v _ h
  have C1 := Lib.hid c1
  have C2 := Lib.hid c2
  have C3 := Lib.hid c3
  have C4 := Lib.hid c4
  have C5 := Lib.hid c5
  have C6 := Lib.hid c6
  clear c1 c2 c3 c4 c5 c6 e0 e1 e2
  go_enter Try.func9, Try.ntmps9
  go_upto_region 4 with (first
    | (go_at_call 10; refine (C1.out _).mono ?_; rintro e w1 ⟨a1, l1, d1, rfl, hr1, hb1⟩)
    | (go_at_call 12; refine (C2.out _ _ hr1).mono ?_; rintro e w2 ⟨a2, p2, rfl, hh2, hb2⟩))
  have c0 : (((w2.alloc (.cells #[.int .i64 0, .int .i64 0, .int .i64 0, .slice a2 0 p2] 25)).alloc (.cells #[.string ⟨#[97]⟩, .int .i64 9] 49)).alloc (.cells #[.int .i64 0, .int .i64 4, .int .i64 0, .slice (some ⟨w2.heap.size + 1, 0, none⟩) 1 1] 25)).cell? ⟨w2.heap.size, 0, none⟩ = some (.int .i64 0) ∧
    (((w2.alloc (.cells #[.int .i64 0, .int .i64 0, .int .i64 0, .slice a2 0 p2] 25)).alloc (.cells #[.string ⟨#[97]⟩, .int .i64 9] 49)).alloc (.cells #[.int .i64 0, .int .i64 4, .int .i64 0, .slice (some ⟨w2.heap.size + 1, 0, none⟩) 1 1] 25)).cell? ⟨w2.heap.size, 1, none⟩ = some (.int .i64 0) ∧
    (((w2.alloc (.cells #[.int .i64 0, .int .i64 0, .int .i64 0, .slice a2 0 p2] 25)).alloc (.cells #[.string ⟨#[97]⟩, .int .i64 9] 49)).alloc (.cells #[.int .i64 0, .int .i64 4, .int .i64 0, .slice (some ⟨w2.heap.size + 1, 0, none⟩) 1 1] 25)).cell? ⟨w2.heap.size, 2, none⟩ = some (.int .i64 0) ∧
    (((w2.alloc (.cells #[.int .i64 0, .int .i64 0, .int .i64 0, .slice a2 0 p2] 25)).alloc (.cells #[.string ⟨#[97]⟩, .int .i64 9] 49)).alloc (.cells #[.int .i64 0, .int .i64 4, .int .i64 0, .slice (some ⟨w2.heap.size + 1, 0, none⟩) 1 1] 25)).cell? ⟨w2.heap.size, 3, none⟩ = some (.slice a2 0 p2) ∧
    (((w2.alloc (.cells #[.int .i64 0, .int .i64 0, .int .i64 0, .slice a2 0 p2] 25)).alloc (.cells #[.string ⟨#[97]⟩, .int .i64 9] 49)).alloc (.cells #[.int .i64 0, .int .i64 4, .int .i64 0, .slice (some ⟨w2.heap.size + 1, 0, none⟩) 1 1] 25)).cell? ⟨w2.heap.size + 1, 0, none⟩ = some (.string ⟨#[97]⟩) ∧
    (((w2.alloc (.cells #[.int .i64 0, .int .i64 0, .int .i64 0, .slice a2 0 p2] 25)).alloc (.cells #[.string ⟨#[97]⟩, .int .i64 9] 49)).alloc (.cells #[.int .i64 0, .int .i64 4, .int .i64 0, .slice (some ⟨w2.heap.size + 1, 0, none⟩) 1 1] 25)).cell? ⟨w2.heap.size + 1, 1, none⟩ = some (.int .i64 9) ∧
    (((w2.alloc (.cells #[.int .i64 0, .int .i64 0, .int .i64 0, .slice a2 0 p2] 25)).alloc (.cells #[.string ⟨#[97]⟩, .int .i64 9] 49)).alloc (.cells #[.int .i64 0, .int .i64 4, .int .i64 0, .slice (some ⟨w2.heap.size + 1, 0, none⟩) 1 1] 25)).cell? ⟨w2.heap.size + 1 + 1, 0, none⟩ = some (.int .i64 0) ∧
    (((w2.alloc (.cells #[.int .i64 0, .int .i64 0, .int .i64 0, .slice a2 0 p2] 25)).alloc (.cells #[.string ⟨#[97]⟩, .int .i64 9] 49)).alloc (.cells #[.int .i64 0, .int .i64 4, .int .i64 0, .slice (some ⟨w2.heap.size + 1, 0, none⟩) 1 1] 25)).cell? ⟨w2.heap.size + 1 + 1, 1, none⟩ = some (.int .i64 4) ∧
    (((w2.alloc (.cells #[.int .i64 0, .int .i64 0, .int .i64 0, .slice a2 0 p2] 25)).alloc (.cells #[.string ⟨#[97]⟩, .int .i64 9] 49)).alloc (.cells #[.int .i64 0, .int .i64 4, .int .i64 0, .slice (some ⟨w2.heap.size + 1, 0, none⟩) 1 1] 25)).cell? ⟨w2.heap.size + 1 + 1, 2, none⟩ = some (.int .i64 0) ∧
    (((w2.alloc (.cells #[.int .i64 0, .int .i64 0, .int .i64 0, .slice a2 0 p2] 25)).alloc (.cells #[.string ⟨#[97]⟩, .int .i64 9] 49)).alloc (.cells #[.int .i64 0, .int .i64 4, .int .i64 0, .slice (some ⟨w2.heap.size + 1, 0, none⟩) 1 1] 25)).cell? ⟨w2.heap.size + 1 + 1, 3, none⟩ = some (.slice (some ⟨w2.heap.size + 1, 0, none⟩) 1 1) := by
    simp [go_sem]
  have hB := stepAlloc (stepAlloc (newAlloc w2 (.cells #[.int .i64 0, .int .i64 0, .int .i64 0, .slice a2 0 p2] 25)) (.cells #[.string ⟨#[97]⟩, .int .i64 9] 49)) (.cells #[.int .i64 0, .int .i64 4, .int .i64 0, .slice (some ⟨w2.heap.size + 1, 0, none⟩) 1 1] 25)
  generalize ((w2.alloc (.cells #[.int .i64 0, .int .i64 0, .int .i64 0, .slice a2 0 p2] 25)).alloc (.cells #[.string ⟨#[97]⟩, .int .i64 9] 49)).alloc (.cells #[.int .i64 0, .int .i64 4, .int .i64 0, .slice (some ⟨w2.heap.size + 1, 0, none⟩) 1 1] 25) = W at c0 hB ⊢
  have HA := Lib.hid c0
  have HB := Lib.hid (step (step hb1 hb2) hB)
  have HR1 := Lib.hid (hr1.later (step hb2 hB))
  have HR2 := Lib.hid (hh2.later hB)
  obtain ⟨x0, x1, x2, x3, g0, g1, y0, y1, y2, y3⟩ := c0
  have HR3 := Lib.hid (RdH.one (g := ⟨[97], 9⟩) g0 g1)
  have n0 : w2.heap.size ≠ W.heap.size := by have := lt_of_cell x0; simp at this; omega
  have n2 : w2.heap.size + 1 + 1 ≠ W.heap.size := by have := lt_of_cell y0; simp at this; omega
  have n1 : w2.heap.size + 1 ≠ W.heap.size := by have := lt_of_cell g0; simp at this; omega
  have v1 := C6.out _ W.drew (HR1.out.later (Below.refl _ W).drew)
  have v2 := C6.out _ _ (HR1.out.later ((newAlloc W (.cells #[.int .u8 0, .int .u8 0, .int .u8 0, .int .u8 0, .int .u8 0, .int .u8 0, .int .u8 0, .int .u8 0, .int .u8 0, .int .u8 0, .int .u8 0] 5)).drew))
  have v3 := C6.out _ (W.alloc (.cells #[.int .u8 0, .int .u8 0, .int .u8 0, .int .u8 0, .int .u8 0, .int .u8 0, .int .u8 0, .int .u8 0, .int .u8 0, .int .u8 0, .int .u8 0] 5)).drew (rd_zeros (alloc_at W _))
  have hmk : (Instr.makeSlice 26 (.int .i64 11) (.int .i64 11)).run Try.prog W.drew = .ok (.slice (some ⟨W.heap.size, 0, none⟩) 11 11) (W.alloc (.cells #[.int .u8 0, .int .u8 0, .int .u8 0, .int .u8 0, .int .u8 0, .int .u8 0, .int .u8 0, .int .u8 0, .int .u8 0, .int .u8 0, .int .u8 0] 5)).drew := make11 W.drew
  have HQ : Hid (∀ w', Below W.heap.size W w' → (convert 26 9 (.slice a1 l1 d1)).run Try.prog w' = .ok (.string ⟨#[0, 0, 0, 0, 0, 0, 0, 0, 0, 0, 0]⟩) w' ∧ w'.cell? ⟨w2.heap.size, 0, none⟩ = some (.int .i64 0) ∧ w'.cell? ⟨w2.heap.size, 1, none⟩ = some (.int .i64 0) ∧ w'.cell? ⟨w2.heap.size, 2, none⟩ = some (.int .i64 0) ∧ w'.cell? ⟨w2.heap.size, 3, none⟩ = some (.slice a2 0 p2) ∧ w'.cell? ⟨w2.heap.size + 1 + 1, 0, none⟩ = some (.int .i64 0) ∧ w'.cell? ⟨w2.heap.size + 1 + 1, 1, none⟩ = some (.int .i64 4) ∧ w'.cell? ⟨w2.heap.size + 1 + 1, 2, none⟩ = some (.int .i64 0) ∧ w'.cell? ⟨w2.heap.size + 1 + 1, 3, none⟩ = some (.slice (some ⟨w2.heap.size + 1, 0, none⟩) 1 1)) := Lib.hid fun w' hb =>
    ⟨C6.out _ _ (HR1.out.later hb), (hb.cell (lt_of_cell x0)).trans x0, (hb.cell (lt_of_cell x1)).trans x1, (hb.cell (lt_of_cell x2)).trans x2, (hb.cell (lt_of_cell x3)).trans x3, (hb.cell (lt_of_cell y0)).trans y0, (hb.cell (lt_of_cell y1)).trans y1, (hb.cell (lt_of_cell y2)).trans y2, (hb.cell (lt_of_cell y3)).trans y3⟩
  have HZ := Lib.hid ((newAlloc W (.cells #[.int .u8 0, .int .u8 0, .int .u8 0, .int .u8 0, .int .u8 0, .int .u8 0, .int .u8 0, .int .u8 0, .int .u8 0, .int .u8 0, .int .u8 0] 5)).drew)
  clear hr1 hh2 hb1 hb2 hB C1 C2 C6 g0 g1 x0 x1 x2 x3 y0 y1 y2 y3 HA
  clear v1 v2 n0 n1 n2
  refine wp_region_held_drew (S := fun w' => (convert 26 9 (.slice a1 l1 d1)).run Try.prog w' = .ok (.string ⟨#[0, 0, 0, 0, 0, 0, 0, 0, 0, 0, 0]⟩) w' ∧ w'.cell? ⟨w2.heap.size, 0, none⟩ = some (.int .i64 0) ∧ w'.cell? ⟨w2.heap.size, 1, none⟩ = some (.int .i64 0) ∧ w'.cell? ⟨w2.heap.size, 2, none⟩ = some (.int .i64 0) ∧ w'.cell? ⟨w2.heap.size, 3, none⟩ = some (.slice a2 0 p2) ∧ w'.cell? ⟨w2.heap.size + 1 + 1, 0, none⟩ = some (.int .i64 0) ∧ w'.cell? ⟨w2.heap.size + 1 + 1, 1, none⟩ = some (.int .i64 4) ∧ w'.cell? ⟨w2.heap.size + 1 + 1, 2, none⟩ = some (.int .i64 0) ∧ w'.cell? ⟨w2.heap.size + 1 + 1, 3, none⟩ = some (.slice (some ⟨w2.heap.size + 1, 0, none⟩) 1 1)) (by kernel_rfl) (HQ.out _ (Below.refl _ W).drew) (fun hHeld => ?_)
  refine wpAnyH_take (i := 0) (v := ?_) rfl (by kernel_rfl) (by kernel_rfl) (by kernel_rfl) (fun _ _ _ h => h) (Or.inl ⟨by rfl, ?_⟩) (by assumption) ?_
  rotate_left
  · intro w hSw; (try dsimp only at hSw); go_simp <;> with_reducible rfl
  try simp only [Act.put, List.getElem_toArray, List.getElem_cons_succ, List.getElem_cons_zero, List.setIfInBounds_toArray, List.set_cons_zero, List.set_cons_succ]
  refine wpAnyH_take (i := 1) (v := ?_) rfl (by kernel_rfl) (by kernel_rfl) (by kernel_rfl) (fun _ _ _ h => h) (Or.inl ⟨by rfl, ?_⟩) (by assumption) ?_
  rotate_left
  · intro w hSw; (try dsimp only at hSw); go_simp <;> with_reducible rfl
  try simp only [Act.put, List.getElem_toArray, List.getElem_cons_succ, List.getElem_cons_zero, List.setIfInBounds_toArray, List.set_cons_zero, List.set_cons_succ]
  refine wpAnyH_ready (rs := [2]) (by kernel_rfl) (by simp) ?_
  refine AllReadyH.cons rfl (fun K hK => ?_) AllReadyH.nil
  go_simp
  refine hK.out _ _ (HQ.out _ HZ.out) (fun hHeld => ?_)
  clear hK K
  try simp only [Act.put, List.getElem_toArray, List.getElem_cons_succ, List.getElem_cons_zero, List.setIfInBounds_toArray, List.set_cons_zero, List.set_cons_succ]
  refine wpAnyH_ready (rs := [3]) (by kernel_rfl) (by simp) ?_
  refine AllReadyH.cons rfl (fun K hK => ?_) AllReadyH.nil
  go_simp
  refine hK.out _ _ (HQ.out _ HZ.out) (fun hHeld => ?_)
  clear hK K
  try simp only [Act.put, List.getElem_toArray, List.getElem_cons_succ, List.getElem_cons_zero, List.setIfInBounds_toArray, List.set_cons_zero, List.set_cons_succ]
  refine wpAnyH_take (i := 4) (v := ?_) rfl (by kernel_rfl) (by kernel_rfl) (by kernel_rfl) (fun _ _ _ h => h) (Or.inl ⟨by rfl, ?_⟩) (by assumption) ?_
  rotate_left
  · intro w hSw; (try dsimp only at hSw); go_simp <;> with_reducible rfl
  try simp only [Act.put, List.getElem_toArray, List.getElem_cons_succ, List.getElem_cons_zero, List.setIfInBounds_toArray, List.set_cons_zero, List.set_cons_succ]
  refine wpAnyH_take (i := 5) (v := ?_) rfl (by kernel_rfl) (by kernel_rfl) (by kernel_rfl) (fun _ _ _ h => h) (Or.inl ⟨by rfl, ?_⟩) (by assumption) ?_
  rotate_left
  · intro w hSw; (try dsimp only at hSw); go_simp <;> with_reducible rfl
  try simp only [Act.put, List.getElem_toArray, List.getElem_cons_succ, List.getElem_cons_zero, List.setIfInBounds_toArray, List.set_cons_zero, List.set_cons_succ]
  refine wpAnyH_take (i := 6) (v := ?_) rfl (by kernel_rfl) (by kernel_rfl) (by kernel_rfl) (fun _ _ _ h => h) (Or.inl ⟨by rfl, ?_⟩) (by assumption) ?_
  rotate_left
  · intro w hSw; (try dsimp only at hSw); go_simp <;> with_reducible rfl
  try simp only [Act.put, List.getElem_toArray, List.getElem_cons_succ, List.getElem_cons_zero, List.setIfInBounds_toArray, List.set_cons_zero, List.set_cons_succ]
  refine wpAnyH_take (i := 7) (v := ?_) rfl (by kernel_rfl) (by kernel_rfl) (by kernel_rfl) (fun _ _ _ h => h) (Or.inl ⟨by rfl, ?_⟩) (by assumption) ?_
  rotate_left
  · intro w hSw; (try dsimp only at hSw); go_simp <;> with_reducible rfl
  try simp only [Act.put, List.getElem_toArray, List.getElem_cons_succ, List.getElem_cons_zero, List.setIfInBounds_toArray, List.set_cons_zero, List.set_cons_succ]
  refine wpAnyH_take (i := 8) (v := ?_) rfl (by kernel_rfl) (by kernel_rfl) (by kernel_rfl) (fun _ _ _ h => h) (Or.inl ⟨by rfl, ?_⟩) (by assumption) ?_
  rotate_left
  · intro w hSw; (try dsimp only at hSw); go_simp <;> with_reducible rfl
  try simp only [Act.put, List.getElem_toArray, List.getElem_cons_succ, List.getElem_cons_zero, List.setIfInBounds_toArray, List.set_cons_zero, List.set_cons_succ]
  refine wpAnyH_take (i := 9) (v := ?_) rfl (by kernel_rfl) (by kernel_rfl) (by kernel_rfl) (fun _ _ _ h => h) (Or.inl ⟨by rfl, ?_⟩) (by assumption) ?_
  rotate_left
  · intro w hSw; (try dsimp only at hSw); go_simp <;> with_reducible rfl
  try simp only [Act.put, List.getElem_toArray, List.getElem_cons_succ, List.getElem_cons_zero, List.setIfInBounds_toArray, List.set_cons_zero, List.set_cons_succ]
  refine wpAnyH_take (i := 10) (v := ?_) rfl (by kernel_rfl) (by kernel_rfl) (by kernel_rfl) (fun _ _ _ h => h) (Or.inl ⟨by rfl, ?_⟩) (by assumption) ?_
  rotate_left
  · intro w hSw; (try dsimp only at hSw); go_simp <;> with_reducible rfl
  try simp only [Act.put, List.getElem_toArray, List.getElem_cons_succ, List.getElem_cons_zero, List.setIfInBounds_toArray, List.set_cons_zero, List.set_cons_succ]
  refine wpAnyH_take (i := 11) (v := ?_) rfl (by kernel_rfl) (by kernel_rfl) (by kernel_rfl) (fun _ _ _ h => h) (Or.inl ⟨by rfl, ?_⟩) (by assumption) ?_
  rotate_left
  · intro w hSw; (try dsimp only at hSw); go_simp <;> with_reducible rfl
  try simp only [Act.put, List.getElem_toArray, List.getElem_cons_succ, List.getElem_cons_zero, List.setIfInBounds_toArray, List.set_cons_zero, List.set_cons_succ]
  refine wpAnyH_ready (rs := [12]) (by kernel_rfl) (by simp) ?_
  refine AllReadyH.cons rfl (fun K hK => ?_) AllReadyH.nil
  go_simp
  go_at_call 16
  refine (C3.out _ _ _ (HR2.out.later HZ.out)).mono ?_
  rintro e w3 ⟨rfl, hb3⟩
  have HB3 := Lib.hid (HZ.out.trans (hb3.mono HZ.out.size))
  clear hb3
  refine hK.out _ _ (HQ.out _ HB3.out) (fun hHeld => ?_)
  clear hK K
  try simp only [Act.put, List.getElem_toArray, List.getElem_cons_succ, List.getElem_cons_zero, List.setIfInBounds_toArray, List.set_cons_zero, List.set_cons_succ]
  refine wpAnyH_take (i := 13) (v := ?_) rfl (by kernel_rfl) (by kernel_rfl) (by kernel_rfl) (fun _ _ _ h => h) (Or.inl ⟨by rfl, ?_⟩) (by assumption) ?_
  rotate_left
  · intro w hSw; (try dsimp only at hSw); go_simp <;> with_reducible rfl
  try simp only [Act.put, List.getElem_toArray, List.getElem_cons_succ, List.getElem_cons_zero, List.setIfInBounds_toArray, List.set_cons_zero, List.set_cons_succ]
  refine wpAnyH_take (i := 14) (v := ?_) rfl (by kernel_rfl) (by kernel_rfl) (by kernel_rfl) (fun _ _ _ h => h) (Or.inl ⟨by rfl, ?_⟩) (by assumption) ?_
  rotate_left
  · intro w hSw; (try dsimp only at hSw); go_simp <;> with_reducible rfl
  try simp only [Act.put, List.getElem_toArray, List.getElem_cons_succ, List.getElem_cons_zero, List.setIfInBounds_toArray, List.set_cons_zero, List.set_cons_succ]
  refine wpAnyH_take (i := 15) (v := ?_) rfl (by kernel_rfl) (by kernel_rfl) (by kernel_rfl) (fun _ _ _ h => h) (Or.inl ⟨by rfl, ?_⟩) (by assumption) ?_
  rotate_left
  · intro w hSw; (try dsimp only at hSw); go_simp <;> with_reducible rfl
  try simp only [Act.put, List.getElem_toArray, List.getElem_cons_succ, List.getElem_cons_zero, List.setIfInBounds_toArray, List.set_cons_zero, List.set_cons_succ]
  refine wpAnyH_take (i := 16) (v := ?_) rfl (by kernel_rfl) (by kernel_rfl) (by kernel_rfl) (fun _ _ _ h => h) (Or.inl ⟨by rfl, ?_⟩) (by assumption) ?_
  rotate_left
  · intro w hSw; (try dsimp only at hSw); go_simp <;> with_reducible rfl
  try simp only [Act.put, List.getElem_toArray, List.getElem_cons_succ, List.getElem_cons_zero, List.setIfInBounds_toArray, List.set_cons_zero, List.set_cons_succ]
  refine wpAnyH_take (i := 17) (v := ?_) rfl (by kernel_rfl) (by kernel_rfl) (by kernel_rfl) (fun _ _ _ h => h) (Or.inl ⟨by rfl, ?_⟩) (by assumption) ?_
  rotate_left
  · intro w hSw; (try dsimp only at hSw); go_simp <;> with_reducible rfl
  try simp only [Act.put, List.getElem_toArray, List.getElem_cons_succ, List.getElem_cons_zero, List.setIfInBounds_toArray, List.set_cons_zero, List.set_cons_succ]
  refine wpAnyH_take (i := 18) (v := ?_) rfl (by kernel_rfl) (by kernel_rfl) (by kernel_rfl) (fun _ _ _ h => h) (Or.inl ⟨by rfl, ?_⟩) (by assumption) ?_
  rotate_left
  · intro w hSw; (try dsimp only at hSw); go_simp <;> with_reducible rfl
  try simp only [Act.put, List.getElem_toArray, List.getElem_cons_succ, List.getElem_cons_zero, List.setIfInBounds_toArray, List.set_cons_zero, List.set_cons_succ]
  refine wpAnyH_take (i := 19) (v := ?_) rfl (by kernel_rfl) (by kernel_rfl) (by kernel_rfl) (fun _ _ _ h => h) (Or.inl ⟨by rfl, ?_⟩) (by assumption) ?_
  rotate_left
  · intro w hSw; (try dsimp only at hSw); go_simp <;> with_reducible rfl
  try simp only [Act.put, List.getElem_toArray, List.getElem_cons_succ, List.getElem_cons_zero, List.setIfInBounds_toArray, List.set_cons_zero, List.set_cons_succ]
  refine wpAnyH_take (i := 20) (v := ?_) rfl (by kernel_rfl) (by kernel_rfl) (by kernel_rfl) (fun _ _ _ h => h) (Or.inl ⟨by rfl, ?_⟩) (by assumption) ?_
  rotate_left
  · intro w hSw; (try dsimp only at hSw); go_simp <;> with_reducible rfl
  try simp only [Act.put, List.getElem_toArray, List.getElem_cons_succ, List.getElem_cons_zero, List.setIfInBounds_toArray, List.set_cons_zero, List.set_cons_succ]
  refine wpAnyH_take (i := 21) (v := ?_) rfl (by kernel_rfl) (by kernel_rfl) (by kernel_rfl) (fun _ _ _ h => h) (Or.inl ⟨by rfl, ?_⟩) (by assumption) ?_
  rotate_left
  · intro w hSw; (try dsimp only at hSw); go_simp <;> with_reducible rfl
  try simp only [Act.put, List.getElem_toArray, List.getElem_cons_succ, List.getElem_cons_zero, List.setIfInBounds_toArray, List.set_cons_zero, List.set_cons_succ]
  refine wpAnyH_take (i := 22) (v := ?_) rfl (by kernel_rfl) (by kernel_rfl) (by kernel_rfl) (fun _ _ _ h => h) (Or.inl ⟨by rfl, ?_⟩) (by assumption) ?_
  rotate_left
  · intro w hSw; (try dsimp only at hSw); go_simp <;> with_reducible rfl
  try simp only [Act.put, List.getElem_toArray, List.getElem_cons_succ, List.getElem_cons_zero, List.setIfInBounds_toArray, List.set_cons_zero, List.set_cons_succ]
  refine wpAnyH_take (i := 23) (v := ?_) rfl (by kernel_rfl) (by kernel_rfl) (by kernel_rfl) (fun _ _ _ h => h) (Or.inl ⟨by rfl, ?_⟩) (by assumption) ?_
  rotate_left
  · intro w hSw; (try dsimp only at hSw); go_simp <;> with_reducible rfl
  try simp only [Act.put, List.getElem_toArray, List.getElem_cons_succ, List.getElem_cons_zero, List.setIfInBounds_toArray, List.set_cons_zero, List.set_cons_succ]
  refine wpAnyH_ready (rs := [24]) (by kernel_rfl) (by simp) ?_
  refine AllReadyH.cons rfl (fun K hK => ?_) AllReadyH.nil
  go_simp
  go_at_call 14
  refine (C4.out _ _ (HR3.out.later HB3.out)).mono ?_
  rintro e w4 ⟨rfl, hb4⟩
  have HB4 := Lib.hid (step HB3.out hb4)
  clear hb4
  refine hK.out _ _ (HQ.out _ HB4.out) (fun hHeld => ?_)
  clear hK K
  try simp only [Act.put, List.getElem_toArray, List.getElem_cons_succ, List.getElem_cons_zero, List.setIfInBounds_toArray, List.set_cons_zero, List.set_cons_succ]
  refine wpAnyH_take (i := 25) (v := ?_) rfl (by kernel_rfl) (by kernel_rfl) (by kernel_rfl) (fun _ _ _ h => h) (Or.inl ⟨by rfl, ?_⟩) (by assumption) ?_
  rotate_left
  · intro w hSw; (try dsimp only at hSw); go_simp <;> with_reducible rfl
  try simp only [Act.put, List.getElem_toArray, List.getElem_cons_succ, List.getElem_cons_zero, List.setIfInBounds_toArray, List.set_cons_zero, List.set_cons_succ]
  refine wpAnyH_take (i := 26) (v := ?_) rfl (by kernel_rfl) (by kernel_rfl) (by kernel_rfl) (fun _ _ _ h => h) (Or.inl ⟨by rfl, ?_⟩) (by assumption) ?_
  rotate_left
  · intro w hSw; (try dsimp only at hSw); go_simp <;> with_reducible rfl
  try simp only [Act.put, List.getElem_toArray, List.getElem_cons_succ, List.getElem_cons_zero, List.setIfInBounds_toArray, List.set_cons_zero, List.set_cons_succ]
  refine wpAnyH_take (i := 27) (v := ?_) rfl (by kernel_rfl) (by kernel_rfl) (by kernel_rfl) (fun _ _ _ h => h) (Or.inl ⟨by rfl, ?_⟩) (by assumption) ?_
  rotate_left
  · intro w hSw; (try dsimp only at hSw); go_simp <;> with_reducible rfl
  try simp only [Act.put, List.getElem_toArray, List.getElem_cons_succ, List.getElem_cons_zero, List.setIfInBounds_toArray, List.set_cons_zero, List.set_cons_succ]
  refine wpAnyH_ready (rs := [28]) (by kernel_rfl) (by simp) ?_
  refine AllReadyH.cons rfl (fun K hK => ?_) AllReadyH.nil
  go_simp
  go_at_call 17
  refine (C5.out _ _ (HR3.out.later HB4.out)).mono ?_
  rintro e w5 ⟨rfl, hb5⟩
  have HB5 := Lib.hid (step HB4.out hb5)
  clear hb5
  refine hK.out _ _ (HQ.out _ HB5.out) (fun hHeld => ?_)
  clear hK K
  try simp only [Act.put, List.getElem_toArray, List.getElem_cons_succ, List.getElem_cons_zero, List.setIfInBounds_toArray, List.set_cons_zero, List.set_cons_succ]
  refine wpAnyH_take (i := 29) (v := ?_) rfl (by kernel_rfl) (by kernel_rfl) (by kernel_rfl) (fun _ _ _ h => h) (Or.inl ⟨by rfl, ?_⟩) (by assumption) ?_
  rotate_left
  · intro w hSw; (try dsimp only at hSw); go_simp <;> with_reducible rfl
  try simp only [Act.put, List.getElem_toArray, List.getElem_cons_succ, List.getElem_cons_zero, List.setIfInBounds_toArray, List.set_cons_zero, List.set_cons_succ]
  refine wpAnyH_take (i := 30) (v := ?_) rfl (by kernel_rfl) (by kernel_rfl) (by kernel_rfl) (fun _ _ _ h => h) (Or.inl ⟨by rfl, ?_⟩) (by assumption) ?_
  rotate_left
  · intro w hSw; (try dsimp only at hSw); go_simp <;> with_reducible rfl
  try simp only [Act.put, List.getElem_toArray, List.getElem_cons_succ, List.getElem_cons_zero, List.setIfInBounds_toArray, List.set_cons_zero, List.set_cons_succ]
  refine wpAnyH_take (i := 31) (v := ?_) rfl (by kernel_rfl) (by kernel_rfl) (by kernel_rfl) (fun _ _ _ h => h) (Or.inl ⟨by rfl, ?_⟩) (by assumption) ?_
  rotate_left
  · intro w hSw; (try dsimp only at hSw); go_simp <;> with_reducible rfl
  try simp only [Act.put, List.getElem_toArray, List.getElem_cons_succ, List.getElem_cons_zero, List.setIfInBounds_toArray, List.set_cons_zero, List.set_cons_succ]
  refine wpAnyH_done (by kernel_rfl) ?_ _
  go_wp2
  go_ret
  exact ⟨rfl, step HB.out HB5.out⟩
end Cm
end Go.Proofs.Ytklnopgnlnfbnaa
