/- PROVED: the statement OctetEdges of layer 1: for every input that can be read, the law returns true and leaves its arguments as they were. No condition. -/
import Derived.Test.YtfehjlkbgjcioaaRows
import Derived.Test.YtfehjlkbgjcioaaMath1
import Derived.WalkKit
import Derived.ProofKit
import Derived.OpenShut
import Derived.ShutString
import Derived.ChangeOld
import Derived.Below
namespace Go.Proofs.Ytfehjlkbgjcioaa.octetEdges
open Go.ChangeShapes Go.WideShapes Go.ChangeAt Go.RowKit
open Go.ChangeMaps (open_string shut_string)
set_option linter.unusedVariables false      -- a walk need not use every 'w<i>' (that an integer argument fits its kind)

theorem own : ownKnob Try.prog.godebug = none := by kernel_rfl

/-! ### STEP 1: THE WALK: the Go text returns true. 'Below w.heap.size w w'': the world has at most new blocks (Derived/RowKit3.lean). Part the cases AHEAD of 'go_enter' where a test parts the walk; take each callee by a contract of your own. -/
set_option maxRecDepth 100000 in
set_option maxHeartbeats 4000000 in
theorem walk (a0 : Int) (a1 : Int) (a2 : Int) (w0 : (Lit.int .i64 a0).wf = true) (w1 : (Lit.int .u16 a1).wf = true) (w2 : (Lit.int .u8 a2).wf = true) (w : World) :
    Calls Try.prog 7 #[.int .i64 a0, .int .u16 a1, .int .u8 a2] w fun e w' => e = .returned (.bool true) ∧ Below w.heap.size w w' := by
  obtain ⟨N, rfl⟩ : ∃ N : Nat, a1 = (N : Int) := Int.eq_ofNat_of_zero_le (by have := w1; simp [Lit.wf, IntKind.min, IntKind.max, IntKind.signed, IntKind.bits] at this; omega)
  obtain ⟨M, rfl⟩ : ∃ M : Nat, a2 = (M : Int) := Int.eq_ofNat_of_zero_le (by have := w2; simp [Lit.wf, IntKind.min, IntKind.max, IntKind.signed, IntKind.bits] at this; omega)
  have hN : N < 65536 := by have := w1; simp [Lit.wf, IntKind.min, IntKind.max, IntKind.signed, IntKind.bits] at this; omega
  have hM : M < 256 := by have := w2; simp [Lit.wf, IntKind.min, IntKind.max, IntKind.signed, IntKind.bits] at this; omega
  clear w0 w1 w2
  obtain ⟨i0, hi, hz0, hz1, hz2⟩ := info_parts info8
  obtain ⟨C, hC, hC8⟩ : ∃ C : Nat, (N : Int) % 256 = (C : Int) ∧ C < 256 := ⟨N % 256, by omega, by omega⟩
  obtain ⟨K, hK, hK6⟩ : ∃ K : Nat, (N : Int) % 600 = (K : Int) ∧ K < 600 := ⟨N % 600, by omega, by omega⟩

  obtain ⟨g, hg, hg0⟩ : ∃ g : Int, (∀ w, Calls Try.prog 19 #[.string (bstr (List.replicate K 0))] w (fun e w' => ∃ v, e = .returned (.tuple #[v, .int .i64 g]) ∧ Rd w' v (putTextOf (bstr (List.replicate K 0))).1 ∧ Below w.heap.size w w')) ∧ ((g == 0) = decide ((K : Int) < 256)) := by
    refine ⟨(putTextOf (bstr (List.replicate K 0))).2, fun w => (PutText_any _ w).mono fun e w' h => Made.rd h, ?_⟩
    unfold putTextOf
    rw [bstr_size, List.length_replicate]
    by_cases q : 255 < K
    · rw [if_pos q]; simp; omega
    · rw [if_neg q]; simp; omega
  obtain ⟨t3, ht3, ht0⟩ : ∃ t3 : Int × Int × Int, (∀ v w, Rd w v [UInt8.ofNat C, 0, 0, 0, 0, 0, 0, 0] → Calls Try.prog 12 #[v, .int .i64 0] w (Three t3 w)) ∧ ((t3.2.2 == 0) = decide ((C : Int) < 64)) := by
    refine ⟨numOf [UInt8.ofNat C, 0, 0, 0, 0, 0, 0, 0] 0, fun v w h => Num_any v _ 0 w h (by omega), ?_⟩
    unfold numOf
    rw [if_neg (by simp)]
    have hf := Ref1.first_small [UInt8.ofNat C, 0, 0, 0, 0, 0, 0, 0] 0 (by simp)
    have hc : ([UInt8.ofNat C, 0, 0, 0, 0, 0, 0, 0].getD 0 0).toNat = C := by simp; omega
    rw [hc] at hf
    by_cases q : C < 64
    · have := hf.2 q
      rw [if_pos (by simpa using this)]; simp; omega
    · have : ¬ _ := fun r => q (hf.1 r)
      rw [if_neg (by simpa using this)]; simp; omega
  obtain ⟨x3, y3, z3⟩ := t3
  have hsz : (bstr (List.replicate K 0)).size = K := by rw [bstr_size, List.length_replicate]
  have hcd : ([UInt8.ofNat C, 1, 2].getD (0 : Int).toNat 0).toNat = C := by simp; omega
  have hT : ∀ v w, Rd w v [UInt8.ofNat C, 1, 2] → Calls Try.prog 21 #[v, .int .i64 0, .int .i64 (M : Int)] w (TextTold (textOf [UInt8.ofNat C, 1, 2] 0 M) w) := fun v w h => Text_any v _ 0 M w h (by omega)
  unfold textOf at hT
  rw [if_neg (by simp), hcd] at hT
  clear hcd
  rcases (show (a0 < 0) ∨ (0 ≤ a0 ∧ a0 < 256) ∨ (256 ≤ a0 ∧ a0 < 4611686018427387904) ∨ (4611686018427387904 ≤ a0) by omega) with h | h | h | h
  · have d1 : decide ((0 : Int) ≤ a0) = false := decide_eq_false (by omega)
    have c1 : ∀ w, Calls Try.prog 10 #[.int .i64 a0] w (MadeRd ((putNumOf a0).1, 1) w) := fun w => (PutNum_any a0 w).mono fun e w' q => by have q := Made.rd q; unfold putNumOf at q ⊢; rw [if_pos (by omega)] at q ⊢; exact q
    have c2 : ∀ w, Calls Try.prog 14 #[.int .i64 a0] w (MadeRd ((putByteOf a0).1, 1) w) := fun w => (PutByte_any a0 w).mono fun e w' q => by have q := Made.rd q; unfold putByteOf at q ⊢; rw [if_pos (by omega)] at q ⊢; exact q
    have c3 := hg
    have c5 := ht3
    clear h hg ht3
    generalize (putNumOf a0).1 = x1 at c1
    generalize (putByteOf a0).1 = x2 at c2
    generalize (putTextOf (bstr (List.replicate K 0))).1 = x4 at c3
    rcases (show ((M : Int) < (C : Int)) ∨ ((C : Int) ≤ M ∧ 2 < C) ∨ ((C : Int) ≤ M ∧ C ≤ 2) by omega) with q | q | q
    · rw [if_pos q] at hT
      have c4 := hT
      clear hT
      (have HC1 := Lib.hid c1
       have HC2 := Lib.hid c2
       have HC3 := Lib.hid c3
       have HC4 := Lib.hid c4
       have HC5 := Lib.hid c5
       clear c1 c2 c3 c4 c5
       go_enter Try.func7, Try.ntmps7
       go_wp2_with (first
         | (go_at_call 10; refine (HC1.out _).mono ?_; rintro e w1 ⟨v1, rfl, hr1, hb1⟩)
         | (go_at_call 14; refine (HC2.out _).mono ?_; rintro e w2 ⟨v2, rfl, hr2, hb2⟩)
         | (at_make; go_loud (refine wpList_make_full _ rfl _ _ 22 rfl w2.heap.size 5 i0 (.int .u8 0) 1 Try.underlying22 hi hz0 hz1 .i64 .i64 _ _ K rfl rfl (by omega) (by omega) (by rw [hz2]; omega) (by unfold maxLen; omega) (Nat.le_refl _) ?_); intro w3 hown3 hgrow3; have hr3 := rd_zero K w2 w3 hown3; have kc := conv_rd w3 (P := Try.prog) Try.underlying22 Try.underlying5 Try.underlying9 _ _ hr3)
         | (go_at_call 19; refine (HC3.out _).mono ?_; rintro e w4 ⟨v4, rfl, hr4, hb4⟩)
         | (go_at_call 21; refine (HC4.out _ _ (rdL3 w4 C (by assumption))).mono ?_; rintro e w5 ⟨rfl, hb5⟩)
         | (go_at_call 12; refine (HC5.out _ _ (rdL8 w5 C (by assumption))).mono ?_; rintro e w6 ⟨rfl, hb6⟩)
         | (go_at_call 9; refine (awake_ok _).mono ?_; rintro e w7 ⟨rfl, hb7⟩))
       go_ret
       have b3 : Below w.heap.size w w3 := (step hb1 hb2).grown hgrow3 (step hb1 hb2).size (fun k hk => by cases hk)
       exact ⟨rfl, step (step (stepAlloc (step (stepAlloc (step b3 hb4) _) hb5) _) hb6) hb7⟩)
    · rw [if_neg (by omega), if_pos (by simp; omega)] at hT; obtain ⟨q, qq⟩ := q
      have c4 := hT
      clear hT
      (have HC1 := Lib.hid c1
       have HC2 := Lib.hid c2
       have HC3 := Lib.hid c3
       have HC4 := Lib.hid c4
       have HC5 := Lib.hid c5
       clear c1 c2 c3 c4 c5
       go_enter Try.func7, Try.ntmps7
       go_wp2_with (first
         | (go_at_call 10; refine (HC1.out _).mono ?_; rintro e w1 ⟨v1, rfl, hr1, hb1⟩)
         | (go_at_call 14; refine (HC2.out _).mono ?_; rintro e w2 ⟨v2, rfl, hr2, hb2⟩)
         | (at_make; go_loud (refine wpList_make_full _ rfl _ _ 22 rfl w2.heap.size 5 i0 (.int .u8 0) 1 Try.underlying22 hi hz0 hz1 .i64 .i64 _ _ K rfl rfl (by omega) (by omega) (by rw [hz2]; omega) (by unfold maxLen; omega) (Nat.le_refl _) ?_); intro w3 hown3 hgrow3; have hr3 := rd_zero K w2 w3 hown3; have kc := conv_rd w3 (P := Try.prog) Try.underlying22 Try.underlying5 Try.underlying9 _ _ hr3)
         | (go_at_call 19; refine (HC3.out _).mono ?_; rintro e w4 ⟨v4, rfl, hr4, hb4⟩)
         | (go_at_call 21; refine (HC4.out _ _ (rdL3 w4 C (by assumption))).mono ?_; rintro e w5 ⟨rfl, hb5⟩)
         | (go_at_call 12; refine (HC5.out _ _ (rdL8 w5 C (by assumption))).mono ?_; rintro e w6 ⟨rfl, hb6⟩)
         | (go_at_call 9; refine (awake_ok _).mono ?_; rintro e w7 ⟨rfl, hb7⟩))
       go_ret
       have b3 : Below w.heap.size w w3 := (step hb1 hb2).grown hgrow3 (step hb1 hb2).size (fun k hk => by cases hk)
       exact ⟨rfl, step (step (stepAlloc (step (stepAlloc (step b3 hb4) _) hb5) _) hb6) hb7⟩)
    · rw [if_neg (by omega), if_neg (by simp; omega)] at hT; obtain ⟨q, qq⟩ := q
      have c4 := hT
      clear hT
      (have HC1 := Lib.hid c1
       have HC2 := Lib.hid c2
       have HC3 := Lib.hid c3
       have HC4 := Lib.hid c4
       have HC5 := Lib.hid c5
       clear c1 c2 c3 c4 c5
       go_enter Try.func7, Try.ntmps7
       go_wp2_with (first
         | (go_at_call 10; refine (HC1.out _).mono ?_; rintro e w1 ⟨v1, rfl, hr1, hb1⟩)
         | (go_at_call 14; refine (HC2.out _).mono ?_; rintro e w2 ⟨v2, rfl, hr2, hb2⟩)
         | (at_make; go_loud (refine wpList_make_full _ rfl _ _ 22 rfl w2.heap.size 5 i0 (.int .u8 0) 1 Try.underlying22 hi hz0 hz1 .i64 .i64 _ _ K rfl rfl (by omega) (by omega) (by rw [hz2]; omega) (by unfold maxLen; omega) (Nat.le_refl _) ?_); intro w3 hown3 hgrow3; have hr3 := rd_zero K w2 w3 hown3; have kc := conv_rd w3 (P := Try.prog) Try.underlying22 Try.underlying5 Try.underlying9 _ _ hr3)
         | (go_at_call 19; refine (HC3.out _).mono ?_; rintro e w4 ⟨v4, rfl, hr4, hb4⟩)
         | (go_at_call 21; refine (HC4.out _ _ (rdL3 w4 C (by assumption))).mono ?_; rintro e w5 ⟨rfl, hb5⟩)
         | (go_at_call 12; refine (HC5.out _ _ (rdL8 w5 C (by assumption))).mono ?_; rintro e w6 ⟨rfl, hb6⟩)
         | (go_at_call 9; refine (awake_ok _).mono ?_; rintro e w7 ⟨rfl, hb7⟩))
       go_ret
       have b3 : Below w.heap.size w w3 := (step hb1 hb2).grown hgrow3 (step hb1 hb2).size (fun k hk => by cases hk)
       exact ⟨rfl, step (step (stepAlloc (step (stepAlloc (step b3 hb4) _) hb5) _) hb6) hb7⟩)
  · have d1 : decide ((0 : Int) ≤ a0) = true := decide_eq_true (by omega)
    have d2 : decide (a0 < 4611686018427387904) = true := decide_eq_true (by omega)
    have d3 : decide (a0 < 256) = true := decide_eq_true (by omega)
    have c1 : ∀ w, Calls Try.prog 10 #[.int .i64 a0] w (MadeRd ((putNumOf a0).1, 0) w) := fun w => (PutNum_any a0 w).mono fun e w' q => by have q := Made.rd q; unfold putNumOf at q ⊢; rw [if_neg (by omega)] at q ⊢; exact q
    have c2 : ∀ w, Calls Try.prog 14 #[.int .i64 a0] w (MadeRd ((putByteOf a0).1, 0) w) := fun w => (PutByte_any a0 w).mono fun e w' q => by have q := Made.rd q; unfold putByteOf at q ⊢; rw [if_neg (by omega)] at q ⊢; exact q
    have c3 := hg
    have c5 := ht3
    clear h hg ht3
    generalize (putNumOf a0).1 = x1 at c1
    generalize (putByteOf a0).1 = x2 at c2
    generalize (putTextOf (bstr (List.replicate K 0))).1 = x4 at c3
    rcases (show ((M : Int) < (C : Int)) ∨ ((C : Int) ≤ M ∧ 2 < C) ∨ ((C : Int) ≤ M ∧ C ≤ 2) by omega) with q | q | q
    · rw [if_pos q] at hT
      have c4 := hT
      clear hT
      (have HC1 := Lib.hid c1
       have HC2 := Lib.hid c2
       have HC3 := Lib.hid c3
       have HC4 := Lib.hid c4
       have HC5 := Lib.hid c5
       clear c1 c2 c3 c4 c5
       go_enter Try.func7, Try.ntmps7
       go_wp2_with (first
         | (go_at_call 10; refine (HC1.out _).mono ?_; rintro e w1 ⟨v1, rfl, hr1, hb1⟩)
         | (go_at_call 14; refine (HC2.out _).mono ?_; rintro e w2 ⟨v2, rfl, hr2, hb2⟩)
         | (at_make; go_loud (refine wpList_make_full _ rfl _ _ 22 rfl w2.heap.size 5 i0 (.int .u8 0) 1 Try.underlying22 hi hz0 hz1 .i64 .i64 _ _ K rfl rfl (by omega) (by omega) (by rw [hz2]; omega) (by unfold maxLen; omega) (Nat.le_refl _) ?_); intro w3 hown3 hgrow3; have hr3 := rd_zero K w2 w3 hown3; have kc := conv_rd w3 (P := Try.prog) Try.underlying22 Try.underlying5 Try.underlying9 _ _ hr3)
         | (go_at_call 19; refine (HC3.out _).mono ?_; rintro e w4 ⟨v4, rfl, hr4, hb4⟩)
         | (go_at_call 21; refine (HC4.out _ _ (rdL3 w4 C (by assumption))).mono ?_; rintro e w5 ⟨rfl, hb5⟩)
         | (go_at_call 12; refine (HC5.out _ _ (rdL8 w5 C (by assumption))).mono ?_; rintro e w6 ⟨rfl, hb6⟩)
         | (go_at_call 9; refine (awake_ok _).mono ?_; rintro e w7 ⟨rfl, hb7⟩))
       go_ret
       have b3 : Below w.heap.size w w3 := (step hb1 hb2).grown hgrow3 (step hb1 hb2).size (fun k hk => by cases hk)
       exact ⟨rfl, step (step (stepAlloc (step (stepAlloc (step b3 hb4) _) hb5) _) hb6) hb7⟩)
    · rw [if_neg (by omega), if_pos (by simp; omega)] at hT; obtain ⟨q, qq⟩ := q
      have c4 := hT
      clear hT
      (have HC1 := Lib.hid c1
       have HC2 := Lib.hid c2
       have HC3 := Lib.hid c3
       have HC4 := Lib.hid c4
       have HC5 := Lib.hid c5
       clear c1 c2 c3 c4 c5
       go_enter Try.func7, Try.ntmps7
       go_wp2_with (first
         | (go_at_call 10; refine (HC1.out _).mono ?_; rintro e w1 ⟨v1, rfl, hr1, hb1⟩)
         | (go_at_call 14; refine (HC2.out _).mono ?_; rintro e w2 ⟨v2, rfl, hr2, hb2⟩)
         | (at_make; go_loud (refine wpList_make_full _ rfl _ _ 22 rfl w2.heap.size 5 i0 (.int .u8 0) 1 Try.underlying22 hi hz0 hz1 .i64 .i64 _ _ K rfl rfl (by omega) (by omega) (by rw [hz2]; omega) (by unfold maxLen; omega) (Nat.le_refl _) ?_); intro w3 hown3 hgrow3; have hr3 := rd_zero K w2 w3 hown3; have kc := conv_rd w3 (P := Try.prog) Try.underlying22 Try.underlying5 Try.underlying9 _ _ hr3)
         | (go_at_call 19; refine (HC3.out _).mono ?_; rintro e w4 ⟨v4, rfl, hr4, hb4⟩)
         | (go_at_call 21; refine (HC4.out _ _ (rdL3 w4 C (by assumption))).mono ?_; rintro e w5 ⟨rfl, hb5⟩)
         | (go_at_call 12; refine (HC5.out _ _ (rdL8 w5 C (by assumption))).mono ?_; rintro e w6 ⟨rfl, hb6⟩)
         | (go_at_call 9; refine (awake_ok _).mono ?_; rintro e w7 ⟨rfl, hb7⟩))
       go_ret
       have b3 : Below w.heap.size w w3 := (step hb1 hb2).grown hgrow3 (step hb1 hb2).size (fun k hk => by cases hk)
       exact ⟨rfl, step (step (stepAlloc (step (stepAlloc (step b3 hb4) _) hb5) _) hb6) hb7⟩)
    · rw [if_neg (by omega), if_neg (by simp; omega)] at hT; obtain ⟨q, qq⟩ := q
      have c4 := hT
      clear hT
      (have HC1 := Lib.hid c1
       have HC2 := Lib.hid c2
       have HC3 := Lib.hid c3
       have HC4 := Lib.hid c4
       have HC5 := Lib.hid c5
       clear c1 c2 c3 c4 c5
       go_enter Try.func7, Try.ntmps7
       go_wp2_with (first
         | (go_at_call 10; refine (HC1.out _).mono ?_; rintro e w1 ⟨v1, rfl, hr1, hb1⟩)
         | (go_at_call 14; refine (HC2.out _).mono ?_; rintro e w2 ⟨v2, rfl, hr2, hb2⟩)
         | (at_make; go_loud (refine wpList_make_full _ rfl _ _ 22 rfl w2.heap.size 5 i0 (.int .u8 0) 1 Try.underlying22 hi hz0 hz1 .i64 .i64 _ _ K rfl rfl (by omega) (by omega) (by rw [hz2]; omega) (by unfold maxLen; omega) (Nat.le_refl _) ?_); intro w3 hown3 hgrow3; have hr3 := rd_zero K w2 w3 hown3; have kc := conv_rd w3 (P := Try.prog) Try.underlying22 Try.underlying5 Try.underlying9 _ _ hr3)
         | (go_at_call 19; refine (HC3.out _).mono ?_; rintro e w4 ⟨v4, rfl, hr4, hb4⟩)
         | (go_at_call 21; refine (HC4.out _ _ (rdL3 w4 C (by assumption))).mono ?_; rintro e w5 ⟨rfl, hb5⟩)
         | (go_at_call 12; refine (HC5.out _ _ (rdL8 w5 C (by assumption))).mono ?_; rintro e w6 ⟨rfl, hb6⟩)
         | (go_at_call 9; refine (awake_ok _).mono ?_; rintro e w7 ⟨rfl, hb7⟩))
       go_ret
       have b3 : Below w.heap.size w w3 := (step hb1 hb2).grown hgrow3 (step hb1 hb2).size (fun k hk => by cases hk)
       exact ⟨rfl, step (step (stepAlloc (step (stepAlloc (step b3 hb4) _) hb5) _) hb6) hb7⟩)
  · have d1 : decide ((0 : Int) ≤ a0) = true := decide_eq_true (by omega)
    have d2 : decide (a0 < 4611686018427387904) = true := decide_eq_true (by omega)
    have d3 : decide (a0 < 256) = false := decide_eq_false (by omega)
    have c1 : ∀ w, Calls Try.prog 10 #[.int .i64 a0] w (MadeRd ((putNumOf a0).1, 0) w) := fun w => (PutNum_any a0 w).mono fun e w' q => by have q := Made.rd q; unfold putNumOf at q ⊢; rw [if_neg (by omega)] at q ⊢; exact q
    have c2 : ∀ w, Calls Try.prog 14 #[.int .i64 a0] w (MadeRd ((putByteOf a0).1, 1) w) := fun w => (PutByte_any a0 w).mono fun e w' q => by have q := Made.rd q; unfold putByteOf at q ⊢; rw [if_pos (by omega)] at q ⊢; exact q
    have c3 := hg
    have c5 := ht3
    clear h hg ht3
    generalize (putNumOf a0).1 = x1 at c1
    generalize (putByteOf a0).1 = x2 at c2
    generalize (putTextOf (bstr (List.replicate K 0))).1 = x4 at c3
    rcases (show ((M : Int) < (C : Int)) ∨ ((C : Int) ≤ M ∧ 2 < C) ∨ ((C : Int) ≤ M ∧ C ≤ 2) by omega) with q | q | q
    · rw [if_pos q] at hT
      have c4 := hT
      clear hT
      (have HC1 := Lib.hid c1
       have HC2 := Lib.hid c2
       have HC3 := Lib.hid c3
       have HC4 := Lib.hid c4
       have HC5 := Lib.hid c5
       clear c1 c2 c3 c4 c5
       go_enter Try.func7, Try.ntmps7
       go_wp2_with (first
         | (go_at_call 10; refine (HC1.out _).mono ?_; rintro e w1 ⟨v1, rfl, hr1, hb1⟩)
         | (go_at_call 14; refine (HC2.out _).mono ?_; rintro e w2 ⟨v2, rfl, hr2, hb2⟩)
         | (at_make; go_loud (refine wpList_make_full _ rfl _ _ 22 rfl w2.heap.size 5 i0 (.int .u8 0) 1 Try.underlying22 hi hz0 hz1 .i64 .i64 _ _ K rfl rfl (by omega) (by omega) (by rw [hz2]; omega) (by unfold maxLen; omega) (Nat.le_refl _) ?_); intro w3 hown3 hgrow3; have hr3 := rd_zero K w2 w3 hown3; have kc := conv_rd w3 (P := Try.prog) Try.underlying22 Try.underlying5 Try.underlying9 _ _ hr3)
         | (go_at_call 19; refine (HC3.out _).mono ?_; rintro e w4 ⟨v4, rfl, hr4, hb4⟩)
         | (go_at_call 21; refine (HC4.out _ _ (rdL3 w4 C (by assumption))).mono ?_; rintro e w5 ⟨rfl, hb5⟩)
         | (go_at_call 12; refine (HC5.out _ _ (rdL8 w5 C (by assumption))).mono ?_; rintro e w6 ⟨rfl, hb6⟩)
         | (go_at_call 9; refine (awake_ok _).mono ?_; rintro e w7 ⟨rfl, hb7⟩))
       go_ret
       have b3 : Below w.heap.size w w3 := (step hb1 hb2).grown hgrow3 (step hb1 hb2).size (fun k hk => by cases hk)
       exact ⟨rfl, step (step (stepAlloc (step (stepAlloc (step b3 hb4) _) hb5) _) hb6) hb7⟩)
    · rw [if_neg (by omega), if_pos (by simp; omega)] at hT; obtain ⟨q, qq⟩ := q
      have c4 := hT
      clear hT
      (have HC1 := Lib.hid c1
       have HC2 := Lib.hid c2
       have HC3 := Lib.hid c3
       have HC4 := Lib.hid c4
       have HC5 := Lib.hid c5
       clear c1 c2 c3 c4 c5
       go_enter Try.func7, Try.ntmps7
       go_wp2_with (first
         | (go_at_call 10; refine (HC1.out _).mono ?_; rintro e w1 ⟨v1, rfl, hr1, hb1⟩)
         | (go_at_call 14; refine (HC2.out _).mono ?_; rintro e w2 ⟨v2, rfl, hr2, hb2⟩)
         | (at_make; go_loud (refine wpList_make_full _ rfl _ _ 22 rfl w2.heap.size 5 i0 (.int .u8 0) 1 Try.underlying22 hi hz0 hz1 .i64 .i64 _ _ K rfl rfl (by omega) (by omega) (by rw [hz2]; omega) (by unfold maxLen; omega) (Nat.le_refl _) ?_); intro w3 hown3 hgrow3; have hr3 := rd_zero K w2 w3 hown3; have kc := conv_rd w3 (P := Try.prog) Try.underlying22 Try.underlying5 Try.underlying9 _ _ hr3)
         | (go_at_call 19; refine (HC3.out _).mono ?_; rintro e w4 ⟨v4, rfl, hr4, hb4⟩)
         | (go_at_call 21; refine (HC4.out _ _ (rdL3 w4 C (by assumption))).mono ?_; rintro e w5 ⟨rfl, hb5⟩)
         | (go_at_call 12; refine (HC5.out _ _ (rdL8 w5 C (by assumption))).mono ?_; rintro e w6 ⟨rfl, hb6⟩)
         | (go_at_call 9; refine (awake_ok _).mono ?_; rintro e w7 ⟨rfl, hb7⟩))
       go_ret
       have b3 : Below w.heap.size w w3 := (step hb1 hb2).grown hgrow3 (step hb1 hb2).size (fun k hk => by cases hk)
       exact ⟨rfl, step (step (stepAlloc (step (stepAlloc (step b3 hb4) _) hb5) _) hb6) hb7⟩)
    · rw [if_neg (by omega), if_neg (by simp; omega)] at hT; obtain ⟨q, qq⟩ := q
      have c4 := hT
      clear hT
      (have HC1 := Lib.hid c1
       have HC2 := Lib.hid c2
       have HC3 := Lib.hid c3
       have HC4 := Lib.hid c4
       have HC5 := Lib.hid c5
       clear c1 c2 c3 c4 c5
       go_enter Try.func7, Try.ntmps7
       go_wp2_with (first
         | (go_at_call 10; refine (HC1.out _).mono ?_; rintro e w1 ⟨v1, rfl, hr1, hb1⟩)
         | (go_at_call 14; refine (HC2.out _).mono ?_; rintro e w2 ⟨v2, rfl, hr2, hb2⟩)
         | (at_make; go_loud (refine wpList_make_full _ rfl _ _ 22 rfl w2.heap.size 5 i0 (.int .u8 0) 1 Try.underlying22 hi hz0 hz1 .i64 .i64 _ _ K rfl rfl (by omega) (by omega) (by rw [hz2]; omega) (by unfold maxLen; omega) (Nat.le_refl _) ?_); intro w3 hown3 hgrow3; have hr3 := rd_zero K w2 w3 hown3; have kc := conv_rd w3 (P := Try.prog) Try.underlying22 Try.underlying5 Try.underlying9 _ _ hr3)
         | (go_at_call 19; refine (HC3.out _).mono ?_; rintro e w4 ⟨v4, rfl, hr4, hb4⟩)
         | (go_at_call 21; refine (HC4.out _ _ (rdL3 w4 C (by assumption))).mono ?_; rintro e w5 ⟨rfl, hb5⟩)
         | (go_at_call 12; refine (HC5.out _ _ (rdL8 w5 C (by assumption))).mono ?_; rintro e w6 ⟨rfl, hb6⟩)
         | (go_at_call 9; refine (awake_ok _).mono ?_; rintro e w7 ⟨rfl, hb7⟩))
       go_ret
       have b3 : Below w.heap.size w w3 := (step hb1 hb2).grown hgrow3 (step hb1 hb2).size (fun k hk => by cases hk)
       exact ⟨rfl, step (step (stepAlloc (step (stepAlloc (step b3 hb4) _) hb5) _) hb6) hb7⟩)
  · have d1 : decide ((0 : Int) ≤ a0) = true := decide_eq_true (by omega)
    have d2 : decide (a0 < 4611686018427387904) = false := decide_eq_false (by omega)
    have d3 : decide (a0 < 256) = false := decide_eq_false (by omega)
    have c1 : ∀ w, Calls Try.prog 10 #[.int .i64 a0] w (MadeRd ((putNumOf a0).1, 1) w) := fun w => (PutNum_any a0 w).mono fun e w' q => by have q := Made.rd q; unfold putNumOf at q ⊢; rw [if_pos (by omega)] at q ⊢; exact q
    have c2 : ∀ w, Calls Try.prog 14 #[.int .i64 a0] w (MadeRd ((putByteOf a0).1, 1) w) := fun w => (PutByte_any a0 w).mono fun e w' q => by have q := Made.rd q; unfold putByteOf at q ⊢; rw [if_pos (by omega)] at q ⊢; exact q
    have c3 := hg
    have c5 := ht3
    clear h hg ht3
    generalize (putNumOf a0).1 = x1 at c1
    generalize (putByteOf a0).1 = x2 at c2
    generalize (putTextOf (bstr (List.replicate K 0))).1 = x4 at c3
    rcases (show ((M : Int) < (C : Int)) ∨ ((C : Int) ≤ M ∧ 2 < C) ∨ ((C : Int) ≤ M ∧ C ≤ 2) by omega) with q | q | q
    · rw [if_pos q] at hT
      have c4 := hT
      clear hT
      (have HC1 := Lib.hid c1
       have HC2 := Lib.hid c2
       have HC3 := Lib.hid c3
       have HC4 := Lib.hid c4
       have HC5 := Lib.hid c5
       clear c1 c2 c3 c4 c5
       go_enter Try.func7, Try.ntmps7
       go_wp2_with (first
         | (go_at_call 10; refine (HC1.out _).mono ?_; rintro e w1 ⟨v1, rfl, hr1, hb1⟩)
         | (go_at_call 14; refine (HC2.out _).mono ?_; rintro e w2 ⟨v2, rfl, hr2, hb2⟩)
         | (at_make; go_loud (refine wpList_make_full _ rfl _ _ 22 rfl w2.heap.size 5 i0 (.int .u8 0) 1 Try.underlying22 hi hz0 hz1 .i64 .i64 _ _ K rfl rfl (by omega) (by omega) (by rw [hz2]; omega) (by unfold maxLen; omega) (Nat.le_refl _) ?_); intro w3 hown3 hgrow3; have hr3 := rd_zero K w2 w3 hown3; have kc := conv_rd w3 (P := Try.prog) Try.underlying22 Try.underlying5 Try.underlying9 _ _ hr3)
         | (go_at_call 19; refine (HC3.out _).mono ?_; rintro e w4 ⟨v4, rfl, hr4, hb4⟩)
         | (go_at_call 21; refine (HC4.out _ _ (rdL3 w4 C (by assumption))).mono ?_; rintro e w5 ⟨rfl, hb5⟩)
         | (go_at_call 12; refine (HC5.out _ _ (rdL8 w5 C (by assumption))).mono ?_; rintro e w6 ⟨rfl, hb6⟩)
         | (go_at_call 9; refine (awake_ok _).mono ?_; rintro e w7 ⟨rfl, hb7⟩))
       go_ret
       have b3 : Below w.heap.size w w3 := (step hb1 hb2).grown hgrow3 (step hb1 hb2).size (fun k hk => by cases hk)
       exact ⟨rfl, step (step (stepAlloc (step (stepAlloc (step b3 hb4) _) hb5) _) hb6) hb7⟩)
    · rw [if_neg (by omega), if_pos (by simp; omega)] at hT; obtain ⟨q, qq⟩ := q
      have c4 := hT
      clear hT
      (have HC1 := Lib.hid c1
       have HC2 := Lib.hid c2
       have HC3 := Lib.hid c3
       have HC4 := Lib.hid c4
       have HC5 := Lib.hid c5
       clear c1 c2 c3 c4 c5
       go_enter Try.func7, Try.ntmps7
       go_wp2_with (first
         | (go_at_call 10; refine (HC1.out _).mono ?_; rintro e w1 ⟨v1, rfl, hr1, hb1⟩)
         | (go_at_call 14; refine (HC2.out _).mono ?_; rintro e w2 ⟨v2, rfl, hr2, hb2⟩)
         | (at_make; go_loud (refine wpList_make_full _ rfl _ _ 22 rfl w2.heap.size 5 i0 (.int .u8 0) 1 Try.underlying22 hi hz0 hz1 .i64 .i64 _ _ K rfl rfl (by omega) (by omega) (by rw [hz2]; omega) (by unfold maxLen; omega) (Nat.le_refl _) ?_); intro w3 hown3 hgrow3; have hr3 := rd_zero K w2 w3 hown3; have kc := conv_rd w3 (P := Try.prog) Try.underlying22 Try.underlying5 Try.underlying9 _ _ hr3)
         | (go_at_call 19; refine (HC3.out _).mono ?_; rintro e w4 ⟨v4, rfl, hr4, hb4⟩)
         | (go_at_call 21; refine (HC4.out _ _ (rdL3 w4 C (by assumption))).mono ?_; rintro e w5 ⟨rfl, hb5⟩)
         | (go_at_call 12; refine (HC5.out _ _ (rdL8 w5 C (by assumption))).mono ?_; rintro e w6 ⟨rfl, hb6⟩)
         | (go_at_call 9; refine (awake_ok _).mono ?_; rintro e w7 ⟨rfl, hb7⟩))
       go_ret
       have b3 : Below w.heap.size w w3 := (step hb1 hb2).grown hgrow3 (step hb1 hb2).size (fun k hk => by cases hk)
       exact ⟨rfl, step (step (stepAlloc (step (stepAlloc (step b3 hb4) _) hb5) _) hb6) hb7⟩)
    · rw [if_neg (by omega), if_neg (by simp; omega)] at hT; obtain ⟨q, qq⟩ := q
      have c4 := hT
      clear hT
      (have HC1 := Lib.hid c1
       have HC2 := Lib.hid c2
       have HC3 := Lib.hid c3
       have HC4 := Lib.hid c4
       have HC5 := Lib.hid c5
       clear c1 c2 c3 c4 c5
       go_enter Try.func7, Try.ntmps7
       go_wp2_with (first
         | (go_at_call 10; refine (HC1.out _).mono ?_; rintro e w1 ⟨v1, rfl, hr1, hb1⟩)
         | (go_at_call 14; refine (HC2.out _).mono ?_; rintro e w2 ⟨v2, rfl, hr2, hb2⟩)
         | (at_make; go_loud (refine wpList_make_full _ rfl _ _ 22 rfl w2.heap.size 5 i0 (.int .u8 0) 1 Try.underlying22 hi hz0 hz1 .i64 .i64 _ _ K rfl rfl (by omega) (by omega) (by rw [hz2]; omega) (by unfold maxLen; omega) (Nat.le_refl _) ?_); intro w3 hown3 hgrow3; have hr3 := rd_zero K w2 w3 hown3; have kc := conv_rd w3 (P := Try.prog) Try.underlying22 Try.underlying5 Try.underlying9 _ _ hr3)
         | (go_at_call 19; refine (HC3.out _).mono ?_; rintro e w4 ⟨v4, rfl, hr4, hb4⟩)
         | (go_at_call 21; refine (HC4.out _ _ (rdL3 w4 C (by assumption))).mono ?_; rintro e w5 ⟨rfl, hb5⟩)
         | (go_at_call 12; refine (HC5.out _ _ (rdL8 w5 C (by assumption))).mono ?_; rintro e w6 ⟨rfl, hb6⟩)
         | (go_at_call 9; refine (awake_ok _).mono ?_; rintro e w7 ⟨rfl, hb7⟩))
       go_ret
       have b3 : Below w.heap.size w w3 := (step hb1 hb2).grown hgrow3 (step hb1 hb2).size (fun k hk => by cases hk)
       exact ⟨rfl, step (step (stepAlloc (step (stepAlloc (step b3 hb4) _) hb5) _) hb6) hb7⟩)

/-! ### THE ROW's STEP: WRITTEN OUT: LEAVE IT -/
set_option maxRecDepth 100000 in
theorem lifted (os : Os) (started : os.Started) (H : Type) (enc : TypeId × Value → H) :
    ReturnsInHanded {} Try.checked os 7 .any (Rows.octetEdgesSpec.pre6 enc Try.prog Try.f7 Rows.octetEdgesRow.domain false) (Rows.octetEdgesSpec.post enc Try.prog Try.f7 false true false false) := by
  refine returnsInHanded_of_change (C := Try.checked) own started (by kernel_rfl) Try.func7
    (ChangeSpec.witness6 (enc := enc) (C := Try.checked) false ⟨#[], #[.int .i64 0, .int .u16 0, .int .u8 0], []⟩ 8 (by kernel_rfl) (by kernel_rfl) (by kernel_rfl) (by kernel_rfl)) ?_
  intro W base args ds gs before hval0 hW hcnd _
  have hval : ∀ (j : Nat) t v, Try.f7.params[j]? = some t → args[j]? = some v → Value.okWide Try.prog W .any base t v := hval0
  have hW' := hW
  obtain ⟨p, q, hA0, hV, rfl, hfz, hnd⟩ := hW
  have hA : DataW.TrodAll enc Try.prog W 0 (fun _ => true) true Try.f7.params.toList args.toList ds p := hA0
  rw [Try.params7] at hA hval
  obtain ⟨v0, vs0, d0, ds0, p0, q0, hargs, rfl, rfl, h0, r0⟩ := trodAll_cons hA
  obtain ⟨v1, vs1, d1, ds1, p1, q1, rfl, rfl, rfl, h1, r1⟩ := trodAll_cons r0
  obtain ⟨v2, vs2, d2, ds2, p2, q2, rfl, rfl, rfl, h2, r2⟩ := trodAll_cons r1
  obtain ⟨rfl, rfl, rfl⟩ := trodAll_nil r2
  obtain rfl : args = #[v0, v1, v2] := by cases args; simp_all
  obtain ⟨rfl, rfl⟩ := trodVars_none hV
  obtain ⟨a0, rfl, rfl, rfl, w0⟩ := open_int Try.underlying3 (hval 0 3 v0 rfl rfl) h0
  obtain ⟨a1, rfl, rfl, rfl, w1⟩ := open_int Try.underlying36 (hval 1 36 v1 rfl rfl) h1
  obtain ⟨a2, rfl, rfl, rfl, w2⟩ := open_int Try.underlying5 (hval 2 5 v2 rfl rfl) h2
  clear hA0 hval0
  simp only [List.append_nil] at hW'
  refine (walk a0 a1 a2 w0 w1 w2 W).mono fun e W' ⟨he, bel⟩ => ?_
  subst he
  exact ⟨_, rfl, _, _, _, [], _, [], hW', (trodAll_cons_mk (shut_bool Try.underlying4 _) trodAll_mk0), (trodAll_cons_mk (shut_int Try.underlying3 w0) (trodAll_cons_mk (shut_int Try.underlying36 w1) (trodAll_cons_mk (shut_int Try.underlying5 w2) trodAll_mk0))), rfl, bel.frame _, fun h => by cases h⟩

theorem over : Rows.octetEdgesRow.holds Try.pinned (OpenSpec.ofChange Rows.octetEdgesSpec) :=
  OpenClaim.holds_of_wide 7 Try.f7 rfl rfl rfl rfl rfl rfl rfl ⟨rfl, rfl, rfl, rfl, rfl⟩ rfl rfl rfl rfl rfl (by kernel_rfl) Try.func7 (by kernel_rfl)
    (of_decide_eq_true (by kernel_rfl)) (by unfold Func.isWrapper; first | (rw [if_pos (by decide +kernel)]; kernel_rfl) | (rw [if_neg (by decide +kernel)]; exact ⟨rfl, rfl⟩))
    (fun os started H enc _ => lifted os started H enc)

/-- THE STATEMENT -/
theorem proved : Rows.OctetEdgesSaid :=
  over
end Go.Proofs.Ytfehjlkbgjcioaa.octetEdges
