/- Contracts: package session's closures, isNumber, isRight, numOfAnother, indexOf, placeOf, Find. -/
import Derived.Test.YtkhcnhfdcbellaaIdx
import Derived.Test.YtkhcnhfdcbellaaCatS
set_option linter.unusedVariables false
set_option linter.unusedSimpArgs false
namespace Go.Proofs.Ytkhcnhfdcbellaa
open Go.RowKit Go.Shelf
namespace Cm

theorem isNumber_any (v : Int) (w : World) : Calls Try.prog 32 #[.int .i64 v] w (Says (highF v 0) w) := by
  unfold highF
  by_cases h1 : 0 ≤ v <;> by_cases h2 : v ≤ 2305843009213693952 <;>
    (go_enter Try.func32, Try.ntmps32
     go_wp2
     go_ret
     exact ⟨by simp [h1, h2] <;> omega, rfl⟩)

theorem oneS_split (gc gn gr : Int) : oneS ⟨gc, gn, gr⟩ = (decide (0 ≤ gc) && (decide (gc < 8) && (decide (1 ≤ gn) && (decide (gn ≤ 2305843009213693952) && highF gr 0)))) := by
  unfold oneS clientF
  rw [show highF gn 1 = (decide (1 ≤ gn) && decide (gn ≤ 2305843009213693952)) from rfl]
  simp only [Bool.and_assoc]

set_option maxHeartbeats 1000000 in
theorem isRight_any (s : SesV) (w : World) : Calls Try.prog 25 #[sesVal s] w (SaysB (oneS s) w) := by
  obtain ⟨gc, gn, gr⟩ := s
  rw [oneS_split]
  unfold sesVal
  dsimp only
  have HN := Lib.hid (fun w => isNumber_any gr w)
  have HB := Lib.hid (newAlloc w (.cells #[.int .i64 gc, .int .i64 gn, .int .i64 gr] 34))
  obtain ⟨y0, y1, y2⟩ := box3 (Below.refl _ (w.alloc (.cells #[.int .i64 gc, .int .i64 gn, .int .i64 gr] 34)))
  generalize highF gr 0 = H at HN ⊢
  go_enter Try.func25, Try.ntmps25
  go_wp2_with (go_at_call 32; refine (HN.out _).mono ?_; rintro e w1 ⟨rfl, rfl⟩)
  all_goals (go_ret; exact ⟨by simp_all <;> omega, HB.out⟩)

/-- What the closures capture. -/
theorem numOf1_any (s : SesV) (w : World) (b b2 : Nat) (c n : Int) (hb : w.cell? ⟨b, 0, none⟩ = some (.int .i64 n)) (hb2 : w.cell? ⟨b2, 0, none⟩ = some (.int .i64 c)) :
    Calls Try.prog 35 #[sesVal s, .pointer (some ⟨b, 0, none⟩), .pointer (some ⟨b2, 0, none⟩)] w (SaysB (decide (s.num = n) && !decide (s.client = c)) w) := by
  obtain ⟨gc, gn, gr⟩ := s
  unfold sesVal
  dsimp only
  have HB := Lib.hid (newAlloc w (.cells #[.int .i64 gc, .int .i64 gn, .int .i64 gr] 34))
  obtain ⟨y0, y1, y2⟩ := box3 (Below.refl _ (w.alloc (.cells #[.int .i64 gc, .int .i64 gn, .int .i64 gr] 34)))
  have z1 := (HB.out.cell (lt_of_cell hb)).trans hb
  have z2 := (HB.out.cell (lt_of_cell hb2)).trans hb2
  clear hb hb2
  by_cases e1 : gn = n
  · subst e1
    have d1 : (gn == gn) = true := by simp
    by_cases e2 : gc = c
    · subst e2
      have d2 : (gc != gc) = false := by simp
      go_enter Try.func35, Try.ntmps35
      go_wp2
      go_ret
      exact ⟨by simp, HB.out⟩
    · have d2 : (gc != c) = true := by simpa using e2
      go_enter Try.func35, Try.ntmps35
      go_wp2
      go_ret
      exact ⟨by simp [e2], HB.out⟩
  · have d1 : (gn == n) = false := by simpa using e1
    go_enter Try.func35, Try.ntmps35
    go_wp2
    go_ret
    exact ⟨by simp [e1], HB.out⟩

theorem index1_any (s : SesV) (w : World) (b : Nat) (c : Int) (hb : w.cell? ⟨b, 0, none⟩ = some (.int .i64 c)) :
    Calls Try.prog 37 #[sesVal s, .pointer (some ⟨b, 0, none⟩)] w (SaysB (decide (s.client = c)) w) := by
  obtain ⟨gc, gn, gr⟩ := s
  unfold sesVal
  dsimp only
  have HB := Lib.hid (newAlloc w (.cells #[.int .i64 gc, .int .i64 gn, .int .i64 gr] 34))
  obtain ⟨y0, y1, y2⟩ := box3 (Below.refl _ (w.alloc (.cells #[.int .i64 gc, .int .i64 gn, .int .i64 gr] 34)))
  have z1 := (HB.out.cell (lt_of_cell hb)).trans hb
  clear hb
  go_enter Try.func37, Try.ntmps37
  go_wp2
  go_ret
  exact ⟨by simp <;> rfl, HB.out⟩

theorem place1_any (s : SesV) (w : World) (b : Nat) (c : Int) (hb : w.cell? ⟨b, 0, none⟩ = some (.int .i64 c)) :
    Calls Try.prog 38 #[sesVal s, .pointer (some ⟨b, 0, none⟩)] w (SaysB (decide (c < s.client)) w) := by
  obtain ⟨gc, gn, gr⟩ := s
  unfold sesVal
  dsimp only
  have HB := Lib.hid (newAlloc w (.cells #[.int .i64 gc, .int .i64 gn, .int .i64 gr] 34))
  obtain ⟨y0, y1, y2⟩ := box3 (Below.refl _ (w.alloc (.cells #[.int .i64 gc, .int .i64 gn, .int .i64 gr] 34)))
  have z1 := (HB.out.cell (lt_of_cell hb)).trans hb
  clear hb
  go_enter Try.func38, Try.ntmps38
  go_wp2
  go_ret
  exact ⟨by simp <;> rfl, HB.out⟩

theorem isIdx (l : List SesV) (c : Int) (g : Int) : idxI (fun s => decide (s.client = c)) l = g → -1 ≤ g ∧ g < l.length := fun h => ⟨by rw [← h]; exact idxI_ge _ _, by rw [← h]; exact idxI_lt _ _⟩

theorem box1_at (w : World) (v : Value) (t : TypeId) (w' : World) (hb : Below (w.alloc (.cells #[v] t)).heap.size (w.alloc (.cells #[v] t)) w') : w'.cell? ⟨w.heap.size, 0, none⟩ = some v := by
  have h : (w.alloc (.cells #[v] t)).cell? ⟨w.heap.size, 0, none⟩ = some v := by simp
  exact (hb.cell (lt_of_cell h)).trans h

theorem enters_num : ∀ args w, (callFunc 35 args).run Try.prog w = .ok (.enter 35 args) w := enters_of Try.func35 (by kernel_rfl) rfl
theorem enters_index : ∀ args w, (callFunc 37 args).run Try.prog w = .ok (.enter 37 args) w := enters_of Try.func37 (by kernel_rfl) rfl
theorem enters_place : ∀ args w, (callFunc 38 args).run Try.prog w = .ok (.enter 38 args) w := enters_of Try.func38 (by kernel_rfl) rfl

theorem indexOf_any (v : Value) (l : List SesV) (c : Int) (w : World) (h : RdS w v l) : Calls Try.prog 27 #[v, .int .i64 c] w (SaysI (idxI (fun s => decide (s.client = c)) l) w) := by
  have hmf : ∀ (fn : Fn) (first cap : Array Value) (w : World), (Instr.makeFunc fn first cap).run Try.prog w = .ok (.func fn first cap) w := fun _ _ _ _ => rfl
  have HI := Lib.hid (IdxS_any (fun s => decide (s.client = c)) 37 #[.pointer (some ⟨w.heap.size, 0, none⟩)] enters_index v l (w.alloc (.cells #[.int .i64 c] 3)) (h.later (newAlloc _ _))
    (fun W x hb => index1_any x W w.heap.size c (box1_at w _ _ W hb)))
  have HB := Lib.hid (newAlloc w (.cells #[.int .i64 c] 3))
  obtain ⟨a, cap, rfl⟩ := h.form
  clear h
  generalize idxI (fun s : SesV => decide (s.client = c)) l = r at HI ⊢
  generalize l.length = L at *
  go_enter Try.func27, Try.ntmps27
  go_wp2_with (go_at_call 36; refine HI.out.mono ?_; rintro e w' ⟨rfl, hb'⟩)
  go_ret
  exact ⟨rfl, step HB.out hb'⟩

/-- Where a new one belongs. -/
def placeI (c : Int) (l : List SesV) : Nat := l.findIdx fun s => decide (c < s.client)

theorem placeOf_any (v : Value) (l : List SesV) (c : Int) (w : World) (h : RdS w v l) : Calls Try.prog 28 #[v, .int .i64 c] w (SaysI (placeI c l : Int) w) := by
  have hmf : ∀ (fn : Fn) (first cap : Array Value) (w : World), (Instr.makeFunc fn first cap).run Try.prog w = .ok (.func fn first cap) w := fun _ _ _ _ => rfl
  have HI := Lib.hid (IdxS_any (fun s => decide (c < s.client)) 38 #[.pointer (some ⟨w.heap.size, 0, none⟩)] enters_place v l (w.alloc (.cells #[.int .i64 c] 3)) (h.later (newAlloc _ _))
    (fun W x hb => place1_any x W w.heap.size c (box1_at w _ _ W hb)))
  have HB := Lib.hid (newAlloc w (.cells #[.int .i64 c] 3))
  have hm := h.len
  obtain ⟨a, cap, rfl⟩ := h.form
  clear h
  by_cases hq : placeI c l < l.length
  · have e : idxI (fun s : SesV => decide (c < s.client)) l = (placeI c l : Int) := by unfold idxI; exact if_pos hq
    rw [e] at HI
    clear e hq
    generalize placeI c l = r at HI ⊢
    generalize l.length = L at *
    go_enter Try.func28, Try.ntmps28
    go_wp2_with (go_at_call 36; refine HI.out.mono ?_; rintro e w' ⟨rfl, hb'⟩)
    go_ret
    exact ⟨rfl, step HB.out hb'⟩
  · have e : idxI (fun s : SesV => decide (c < s.client)) l = -1 := by unfold idxI; exact if_neg hq
    have e2 : placeI c l = l.length := by
      have : placeI c l ≤ l.length := List.findIdx_le_length
      omega
    rw [e] at HI
    rw [e2]
    clear e hq e2
    generalize l.length = L at *
    go_enter Try.func28, Try.ntmps28
    go_wp2_with (go_at_call 36; refine HI.out.mono ?_; rintro e w' ⟨rfl, hb'⟩)
    go_ret
    exact ⟨rfl, step HB.out hb'⟩

theorem numOf_any (v : Value) (l : List SesV) (c n : Int) (w : World) (h : RdS w v l) : Calls Try.prog 26 #[v, .int .i64 c, .int .i64 n] w (SaysB (takenS l c n) w) := by
  have hmf : ∀ (fn : Fn) (first cap : Array Value) (w : World), (Instr.makeFunc fn first cap).run Try.prog w = .ok (.func fn first cap) w := fun _ _ _ _ => rfl
  have HB := Lib.hid (step (newAlloc w (.cells #[.int .i64 c] 3)) (newAlloc _ (.cells #[.int .i64 n] 3)))
  have HI := Lib.hid (HasS_any (fun s => decide (s.num = n) && !decide (s.client = c)) 35 #[.pointer (some ⟨w.heap.size + 1, 0, none⟩), .pointer (some ⟨w.heap.size, 0, none⟩)] enters_num v l ((w.alloc (.cells #[.int .i64 c] 3)).alloc (.cells #[.int .i64 n] 3)) (h.later HB.out)
    (fun W x hb => numOf1_any x W (w.heap.size + 1) w.heap.size c n (by have := box1_at (w.alloc (.cells #[.int .i64 c] 3)) (.int .i64 n) 3 W hb; simpa using this) (box1_at w _ _ W (step (newAlloc _ _) hb))))
  obtain ⟨a, cap, rfl⟩ := h.form
  clear h
  unfold takenS
  generalize (l.any fun s => decide (s.num = n) && !decide (s.client = c)) = r at HI ⊢
  generalize l.length = L at *
  go_enter Try.func26, Try.ntmps26
  go_wp2_with (go_at_call 34; refine HI.out.mono ?_; rintro e w' ⟨rfl, hb'⟩)
  go_ret
  exact ⟨rfl, step HB.out hb'⟩
end Cm
end Go.Proofs.Ytkhcnhfdcbellaa
