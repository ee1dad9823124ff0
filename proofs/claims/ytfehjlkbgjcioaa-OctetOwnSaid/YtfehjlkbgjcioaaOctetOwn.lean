/- PROVED: the statement OctetOwn of layer 1: for every input that can be read, the law returns true and leaves its arguments as they were. No condition. -/
import Derived.Test.YtfehjlkbgjcioaaRows
import Derived.Test.YtfehjlkbgjcioaaMath2
import Derived.WalkKit
import Derived.ProofKit
import Derived.OpenShut
import Derived.ShutString
import Derived.ChangeOld
import Derived.Below
namespace Go.Proofs.Ytfehjlkbgjcioaa.octetOwn
open Go.ChangeShapes Go.WideShapes Go.ChangeAt Go.RowKit
open Go.ChangeMaps (open_string shut_string)
set_option linter.unusedVariables false

theorem own : ownKnob Try.prog.godebug = none := by kernel_rfl
theorem laidOut : laidOutB Try.prog = true := by kernel_rfl

/-! ### STEP 1: THE WALK: the Go text returns true, AND WRITES NOTHING THAT WAS THERE: 'Below w.heap.size w w'' (Derived/Below.lean: '.refl', '.alloc', '.drew', '.setCell' at a new block, '.trans'). Open each 'IsRow' by 'rcases' AHEAD of 'go_enter'; part every test ahead of the walk. -/
set_option maxRecDepth 100000 in
set_option maxHeartbeats 4000000 in
theorem walk (a0 : Int) (a1 : ByteArray) (a2 : Option Addr) (len2 cap2 : Nat) (z2 : List Int) (a3 : Int) (w : World) (w0 : (Lit.int .i64 a0).wf = true) (w1 : a1.size ≤ maxLen) (w2 : IsRow .u8 w a2 len2 cap2 z2) (w3 : (Lit.int .i64 a3).wf = true) :
    Calls Try.prog 8 #[.int .i64 a0, .string a1, .slice a2 len2 cap2, .int .i64 a3] w fun e w' => e = .returned (.bool true) ∧ Below w.heap.size w w' := by
  obtain ⟨hr, hrl⟩ := w2.rd
  have ht : a3 ≤ 9223372036854775807 := by have := w3; simp [Lit.wf, IntKind.min, IntKind.max, IntKind.signed, IntKind.bits] at this; omega
  generalize hv : (.slice a2 len2 cap2 : Value) = v at hr
  generalize bytesOf z2 len2 = bs at hr hrl
  clear w0 w1 w2 w3
  by_cases hs : 300 < a1.size
  · subst hv
    go_enter Try.func8, Try.ntmps8
    go_wp2_with (go_at_call 9; refine (awake_ok _).mono ?_; rintro e w' ⟨rfl, hb⟩)
    go_ret
    exact ⟨rfl, hb⟩
  by_cases hbig : 300 < len2
  · subst hv
    go_enter Try.func8, Try.ntmps8
    go_wp2_with (go_at_call 9; refine (awake_ok _).mono ?_; rintro e w' ⟨rfl, hb⟩)
    go_ret
    exact ⟨rfl, hb⟩
  obtain ⟨i0, hi, hz0, hz1, hz2⟩ := info_parts info8
  have ct := fun w h => Text_any v bs a3 255 w h ht
  generalize textOf bs a3 255 = r at ct
  obtain ⟨x1, y1, z1⟩ := r
  have CT := Lib.hid ct
  clear ct
  have HL := Lib.hid hrl
  have HBL : bs.length ≤ 300 := by omega
  clear hrl
  have CA : Hid (∀ w : World, Calls Try.prog 9 #[] w fun e w' => e = .returned (.bool true) ∧ Below w.heap.size w w') := awake_ok
  by_cases hv0 : a0 < 0 ∨ 2 ^ 62 ≤ a0 <;> by_cases hs0 : 255 < a1.size
  · have C1 : Hid (∀ w, Calls Try.prog 10 #[.int .i64 a0] w fun e w' => e = .returned (.tuple #[.slice none 0 0, .int .i64 1]) ∧ w = w') := fun w => PutNum_bad a0 w (by omega)
    have C2 : Hid (∀ w, Calls Try.prog 19 #[.string a1] w fun e w' => e = .returned (.tuple #[.slice none 0 0, .int .i64 3]) ∧ w = w') := fun w => PutText_bad a1 w (by omega)
    clear hv0
    subst hv
    go_enter Try.func8, Try.ntmps8
    go_wp2_with (first
      | (at_builtin; refine wpList_append_rd rfl _ _ 22 rfl w.heap.size 5 i0 Try.underlying22 hi hz0 hz1 hz2 (.slice (some ⟨w.heap.size, 0, none⟩) 0 0) 0 [] rfl (own_empty w _ (Nat.le_refl _)) _ bs rfl (hr.later (newAlloc _ _)) (by omega) (by simp) ?_; intro v1 w1 hown1 hgrow1; have hb1 : Below w.heap.size w w1 := ((Below.refl _ _).alloc (Nat.le_refl _) _).grown hgrow1 (by simp) (fun k hk => by simp [Value.ownBlock] at hk; omega); have hr1 := hr.later hb1; have hown1' : Rd w1 v1 bs := rd_app hown1)
      | (go_at_call 10; refine (C1.out _).mono ?_; rintro e w2 ⟨rfl, rfl⟩; have hb2 := Below.refl w1.heap.size w1)
      | (go_at_call 19; refine (C2.out _).mono ?_; rintro e w3 ⟨rfl, rfl⟩; have hb3 := Below.refl w1.heap.size w1)
      | (go_at_call 21; refine (CT.out _ (hr1.later (step hb2 hb3))).mono ?_; rintro e w4 ⟨rfl, hb4⟩))
    go_loopw [17] (fun i wr => ∃ k : Nat, k ≤ 0 ∧ i = .int .i64 k ∧ Below w1.heap.size w1 wr) (fun i _ => 0 - (intOf i).toNat)
    case atStart => exact ⟨0, by omega, rfl, step (step hb2 hb3) hb4⟩
    case round =>
      obtain ⟨k, hk, rfl, hbr⟩ := hrel
      by_cases hlt : k < 0
      · omega
      · go_wp2
        go_loopw [18] (fun i wr => ∃ k : Nat, k ≤ 0 ∧ i = .int .i64 k ∧ Below w1.heap.size w1 wr) (fun i _ => 0 - (intOf i).toNat)
        case atStart => exact ⟨0, by omega, rfl, hbr⟩
        case round =>
          obtain ⟨k2, hk2, rfl, hbr2⟩ := hrel
          by_cases hlt2 : k2 < 0
          · omega
          · go_wp2_with fail
            refine (CT.out _ (hr1.later hbr2)).mono ?_
            rintro e w5 ⟨rfl, hb5⟩
            go_wp2_with fail
            refine (C1.out _).mono ?_
            rintro e w6 ⟨rfl, rfl⟩
            have hb6 := Below.refl w5.heap.size w5
            go_wp2_with fail
            refine (C2.out _).mono ?_
            rintro e w7 ⟨rfl, rfl⟩
            have hb7 := Below.refl w5.heap.size w5
            go_wp2_with fail
            have B7 : Below w1.heap.size w1 w5 := step (step (step hbr2 hb5) hb6) hb7
            have hb8 := Below.refl w5.heap.size w5
            have B8 := step B7 hb8
            have hb9 := Below.refl w5.heap.size w5
            have B9 := step B8 hb9
            refine (Same_yes _ _ bs _ (hr1.later B9) (hown1'.later B9)).mono ?_
            rintro e w' ⟨rfl, rfl⟩
            go_wp2_with (go_at_call 9; refine (CA.out _).mono ?_; rintro e w10 ⟨rfl, hb10⟩)
            go_ret
            exact ⟨rfl, step hb1 (step B9 hb10)⟩
  · have C1 : Hid (∀ w, Calls Try.prog 10 #[.int .i64 a0] w fun e w' => e = .returned (.tuple #[.slice none 0 0, .int .i64 1]) ∧ w = w') := fun w => PutNum_bad a0 w (by omega)
    have C2 : Hid (∀ w, Calls Try.prog 19 #[.string a1] w (Row (1 + a1.size) (UInt8.ofNat a1.data.toList.length :: a1.data.toList) w)) := fun w => PutText_row a1 w (by omega)
    have C4 : Hid (∀ v w, Rd w v (UInt8.ofNat a1.data.toList.length :: a1.data.toList) → Calls Try.prog 21 #[v, .int .i64 0, .int .i64 255] w (fun e w' => e = .returned (.tuple #[.string a1, .int .i64 (1 + a1.data.toList.length), .int .i64 0]) ∧ Below w.heap.size w w')) := fun v w h => by
      have := Text_any v _ 0 255 w h (by omega)
      have hl : a1.data.toList.length = a1.size := by rw [Array.length_toList]; rfl
      have e := textOf_put a1.data.toList (by omega) [] [] 255 (by omega)
      simp only [List.nil_append, List.append_nil, List.length_nil, Int.zero_add, Int.cast_ofNat_Int] at e
      rw [e] at this
      exact this.mono fun e w' q => by obtain ⟨q1, q2⟩ := q; rw [bstr_self] at q1; exact ⟨q1, q2⟩
    clear hv0
    subst hv
    go_enter Try.func8, Try.ntmps8
    go_wp2_with (first
      | (at_builtin; refine wpList_append_rd rfl _ _ 22 rfl w.heap.size 5 i0 Try.underlying22 hi hz0 hz1 hz2 (.slice (some ⟨w.heap.size, 0, none⟩) 0 0) 0 [] rfl (own_empty w _ (Nat.le_refl _)) _ bs rfl (hr.later (newAlloc _ _)) (by omega) (by simp) ?_; intro v1 w1 hown1 hgrow1; have hb1 : Below w.heap.size w w1 := ((Below.refl _ _).alloc (Nat.le_refl _) _).grown hgrow1 (by simp) (fun k hk => by simp [Value.ownBlock] at hk; omega); have hr1 := hr.later hb1; have hown1' : Rd w1 v1 bs := rd_app hown1)
      | (go_at_call 10; refine (C1.out _).mono ?_; rintro e w2 ⟨rfl, rfl⟩; have hb2 := Below.refl w1.heap.size w1)
      | (go_at_call 19; refine (C2.out _).mono ?_; rintro e w3 ⟨g3, cap3, rfl, ho3, hrd3, hb3⟩)
      | (go_at_call 21; refine (CT.out _ (hr1.later (step hb2 hb3))).mono ?_; rintro e w4 ⟨rfl, hb4⟩))
    go_loopw [17] (fun i wr => ∃ k : Nat, k ≤ 0 ∧ i = .int .i64 k ∧ Owned wr w1.heap.size (.slice (some ⟨g3, 0, none⟩) (1 + a1.size) cap3) (1 + a1.size) ∧ Below w1.heap.size w1 wr) (fun i _ => 0 - (intOf i).toNat)
    case atStart => exact ⟨0, by omega, rfl, ho3.later hb4, step (step hb2 hb3) hb4⟩
    case round =>
      obtain ⟨k, hk, rfl, hO2, hbr⟩ := hrel
      by_cases hlt : k < 0
      · omega
      · go_wp2
        go_loopw [18] (fun i wr => ∃ k : Nat, k ≤ (1 + a1.size) ∧ i = .int .i64 k ∧ Owned wr w1.heap.size (.slice (some ⟨g3, 0, none⟩) (1 + a1.size) cap3) (1 + a1.size) ∧ Below w1.heap.size w1 wr) (fun i _ => (1 + a1.size) - (intOf i).toNat)
        case atStart => exact ⟨0, by omega, rfl, hO2, hbr⟩
        case round =>
          obtain ⟨k2, hk2, rfl, hO2, hbr2⟩ := hrel
          by_cases hlt2 : k2 < (1 + a1.size)
          · obtain ⟨c, hc, hcell, hfz, hg⟩ := hO2.cell k2 hlt2
            obtain ⟨D, hD, hD8⟩ : ∃ D : Nat, ((c : Int) + 1) % 256 = (D : Int) ∧ D < 256 := ⟨(c + 1) % 256, by omega, by omega⟩
            have hDw : IntKind.u8.wrap ((c : Int) + 1) = (D : Int) := by rw [IntKind.wrap_u8']; exact hD
            have hO2' := hO2.stored k2 D hD8
            have hbr' := hbr2.setCell (p := ⟨g3, k2, none⟩) (Nat.le_trans hb2.size hg) (.int .u8 (D : Int))
            go_wp2
            go_roundw
            case rel => exact ⟨k2 + 1, by omega, by go_num, hO2', hbr'⟩
            case measure => simp [intOf]; omega
          · go_wp2_with fail
            refine (CT.out _ (hr1.later hbr2)).mono ?_
            rintro e w5 ⟨rfl, hb5⟩
            go_wp2_with fail
            refine (C1.out _).mono ?_
            rintro e w6 ⟨rfl, rfl⟩
            have hb6 := Below.refl w5.heap.size w5
            go_wp2_with fail
            refine (C2.out _).mono ?_
            rintro e w7 ⟨g7, cap7, rfl, ho7, hrd7, hb7⟩
            go_wp2_with fail
            have B7 : Below w1.heap.size w1 w7 := step (step (step hbr2 hb5) hb6) hb7
            have hb8 := Below.refl w7.heap.size w7
            have B8 := step B7 hb8
            refine (C4.out _ _ (hrd7.later hb8)).mono ?_
            rintro e w9 ⟨rfl, hb9⟩
            go_wp2_with fail
            have B9 := step B8 hb9
            refine (Same_yes _ _ bs _ (hr1.later B9) (hown1'.later B9)).mono ?_
            rintro e w' ⟨rfl, rfl⟩
            go_wp2_with (go_at_call 9; refine (CA.out _).mono ?_; rintro e w10 ⟨rfl, hb10⟩)
            go_ret
            exact ⟨rfl, step hb1 (step B9 hb10)⟩
  · obtain ⟨n, rfl⟩ := Int.eq_ofNat_of_zero_le (show 0 ≤ a0 by omega)
    have C1 : Hid (∀ w, Calls Try.prog 10 #[.int .i64 (n : Int)] w (Row 8 (be8 n) w)) := fun w => PutNum_row n w (by omega)
    have C3 : Hid (∀ v w, Rd w v (be8 n) → Calls Try.prog 12 #[v, .int .i64 0] w (Three ((n : Int), 8, 0) w)) := fun v w h => by
      have := Num_any v (be8 n) 0 w h (by omega)
      have e := numOf_put n (by omega) [] []
      simp at e
      rwa [e] at this
    have C2 : Hid (∀ w, Calls Try.prog 19 #[.string a1] w fun e w' => e = .returned (.tuple #[.slice none 0 0, .int .i64 3]) ∧ w = w') := fun w => PutText_bad a1 w (by omega)
    clear hv0
    subst hv
    go_enter Try.func8, Try.ntmps8
    go_wp2_with (first
      | (at_builtin; refine wpList_append_rd rfl _ _ 22 rfl w.heap.size 5 i0 Try.underlying22 hi hz0 hz1 hz2 (.slice (some ⟨w.heap.size, 0, none⟩) 0 0) 0 [] rfl (own_empty w _ (Nat.le_refl _)) _ bs rfl (hr.later (newAlloc _ _)) (by omega) (by simp) ?_; intro v1 w1 hown1 hgrow1; have hb1 : Below w.heap.size w w1 := ((Below.refl _ _).alloc (Nat.le_refl _) _).grown hgrow1 (by simp) (fun k hk => by simp [Value.ownBlock] at hk; omega); have hr1 := hr.later hb1; have hown1' : Rd w1 v1 bs := rd_app hown1)
      | (go_at_call 10; refine (C1.out _).mono ?_; rintro e w2 ⟨g2, cap2', rfl, ho2, hrd2, hb2⟩; have hg2 := owned_lt ho2)
      | (go_at_call 19; refine (C2.out _).mono ?_; rintro e w3 ⟨rfl, rfl⟩; have hb3 := Below.refl w2.heap.size w2)
      | (go_at_call 21; refine (CT.out _ (hr1.later (step hb2 hb3))).mono ?_; rintro e w4 ⟨rfl, hb4⟩))
    go_loopw [17] (fun i wr => ∃ k : Nat, k ≤ 8 ∧ i = .int .i64 k ∧ Owned wr w1.heap.size (.slice (some ⟨g2, 0, none⟩) 8 cap2') 8 ∧ Below w1.heap.size w1 wr) (fun i _ => 8 - (intOf i).toNat)
    case atStart => exact ⟨0, by omega, rfl, ho2.later (step hb3 hb4), step (step hb2 hb3) hb4⟩
    case round =>
      obtain ⟨k, hk, rfl, hO1, hbr⟩ := hrel
      by_cases hlt : k < 8
      · obtain ⟨c, hc, hcell, hfz, hg⟩ := hO1.cell k hlt
        obtain ⟨D, hD, hD8⟩ : ∃ D : Nat, ((c : Int) + 1) % 256 = (D : Int) ∧ D < 256 := ⟨(c + 1) % 256, by omega, by omega⟩
        have hDw : IntKind.u8.wrap ((c : Int) + 1) = (D : Int) := by rw [IntKind.wrap_u8']; exact hD
        have hO1' := hO1.stored k D hD8
        have hbr' := hbr.setCell (p := ⟨g2, k, none⟩) hg (.int .u8 (D : Int))
        go_wp2
        go_roundw
        case rel => exact ⟨k + 1, by omega, by go_num, hO1', hbr'⟩
        case measure => simp [intOf]; omega
      · go_wp2
        go_loopw [18] (fun i wr => ∃ k : Nat, k ≤ 0 ∧ i = .int .i64 k ∧ Below w1.heap.size w1 wr) (fun i _ => 0 - (intOf i).toNat)
        case atStart => exact ⟨0, by omega, rfl, hbr⟩
        case round =>
          obtain ⟨k2, hk2, rfl, hbr2⟩ := hrel
          by_cases hlt2 : k2 < 0
          · omega
          · go_wp2_with fail
            refine (CT.out _ (hr1.later hbr2)).mono ?_
            rintro e w5 ⟨rfl, hb5⟩
            go_wp2_with fail
            refine (C1.out _).mono ?_
            rintro e w6 ⟨g6, cap6, rfl, ho6, hrd6, hb6⟩
            go_wp2_with fail
            refine (C2.out _).mono ?_
            rintro e w7 ⟨rfl, rfl⟩
            have hb7 := Below.refl w6.heap.size w6
            go_wp2_with fail
            have B7 : Below w1.heap.size w1 w6 := step (step (step hbr2 hb5) hb6) hb7
            refine (C3.out _ _ (hrd6.later hb7)).mono ?_
            rintro e w8 ⟨rfl, hb8⟩
            go_wp2_with fail
            have B8 := step B7 hb8
            have hb9 := Below.refl w8.heap.size w8
            have B9 := step B8 hb9
            refine (Same_yes _ _ bs _ (hr1.later B9) (hown1'.later B9)).mono ?_
            rintro e w' ⟨rfl, rfl⟩
            go_wp2_with (go_at_call 9; refine (CA.out _).mono ?_; rintro e w10 ⟨rfl, hb10⟩)
            go_ret
            exact ⟨rfl, step hb1 (step B9 hb10)⟩
  · obtain ⟨n, rfl⟩ := Int.eq_ofNat_of_zero_le (show 0 ≤ a0 by omega)
    have C1 : Hid (∀ w, Calls Try.prog 10 #[.int .i64 (n : Int)] w (Row 8 (be8 n) w)) := fun w => PutNum_row n w (by omega)
    have C3 : Hid (∀ v w, Rd w v (be8 n) → Calls Try.prog 12 #[v, .int .i64 0] w (Three ((n : Int), 8, 0) w)) := fun v w h => by
      have := Num_any v (be8 n) 0 w h (by omega)
      have e := numOf_put n (by omega) [] []
      simp at e
      rwa [e] at this
    have C2 : Hid (∀ w, Calls Try.prog 19 #[.string a1] w (Row (1 + a1.size) (UInt8.ofNat a1.data.toList.length :: a1.data.toList) w)) := fun w => PutText_row a1 w (by omega)
    have C4 : Hid (∀ v w, Rd w v (UInt8.ofNat a1.data.toList.length :: a1.data.toList) → Calls Try.prog 21 #[v, .int .i64 0, .int .i64 255] w (fun e w' => e = .returned (.tuple #[.string a1, .int .i64 (1 + a1.data.toList.length), .int .i64 0]) ∧ Below w.heap.size w w')) := fun v w h => by
      have := Text_any v _ 0 255 w h (by omega)
      have hl : a1.data.toList.length = a1.size := by rw [Array.length_toList]; rfl
      have e := textOf_put a1.data.toList (by omega) [] [] 255 (by omega)
      simp only [List.nil_append, List.append_nil, List.length_nil, Int.zero_add, Int.cast_ofNat_Int] at e
      rw [e] at this
      exact this.mono fun e w' q => by obtain ⟨q1, q2⟩ := q; rw [bstr_self] at q1; exact ⟨q1, q2⟩
    clear hv0
    subst hv
    go_enter Try.func8, Try.ntmps8
    go_wp2_with (first
      | (at_builtin; refine wpList_append_rd rfl _ _ 22 rfl w.heap.size 5 i0 Try.underlying22 hi hz0 hz1 hz2 (.slice (some ⟨w.heap.size, 0, none⟩) 0 0) 0 [] rfl (own_empty w _ (Nat.le_refl _)) _ bs rfl (hr.later (newAlloc _ _)) (by omega) (by simp) ?_; intro v1 w1 hown1 hgrow1; have hb1 : Below w.heap.size w w1 := ((Below.refl _ _).alloc (Nat.le_refl _) _).grown hgrow1 (by simp) (fun k hk => by simp [Value.ownBlock] at hk; omega); have hr1 := hr.later hb1; have hown1' : Rd w1 v1 bs := rd_app hown1)
      | (go_at_call 10; refine (C1.out _).mono ?_; rintro e w2 ⟨g2, cap2', rfl, ho2, hrd2, hb2⟩; have hg2 := owned_lt ho2)
      | (go_at_call 19; refine (C2.out _).mono ?_; rintro e w3 ⟨g3, cap3, rfl, ho3, hrd3, hb3⟩)
      | (go_at_call 21; refine (CT.out _ (hr1.later (step hb2 hb3))).mono ?_; rintro e w4 ⟨rfl, hb4⟩))
    go_loopw [17] (fun i wr => ∃ k : Nat, k ≤ 8 ∧ i = .int .i64 k ∧ Owned wr w1.heap.size (.slice (some ⟨g2, 0, none⟩) 8 cap2') 8 ∧ Owned wr w2.heap.size (.slice (some ⟨g3, 0, none⟩) (1 + a1.size) cap3) (1 + a1.size) ∧ Below w1.heap.size w1 wr) (fun i _ => 8 - (intOf i).toNat)
    case atStart => exact ⟨0, by omega, rfl, ho2.later (step hb3 hb4), ho3.later hb4, step (step hb2 hb3) hb4⟩
    case round =>
      obtain ⟨k, hk, rfl, hO1, hO2, hbr⟩ := hrel
      by_cases hlt : k < 8
      · obtain ⟨c, hc, hcell, hfz, hg⟩ := hO1.cell k hlt
        obtain ⟨D, hD, hD8⟩ : ∃ D : Nat, ((c : Int) + 1) % 256 = (D : Int) ∧ D < 256 := ⟨(c + 1) % 256, by omega, by omega⟩
        have hDw : IntKind.u8.wrap ((c : Int) + 1) = (D : Int) := by rw [IntKind.wrap_u8']; exact hD
        have hO1' := hO1.stored k D hD8
        have hbr' := hbr.setCell (p := ⟨g2, k, none⟩) hg (.int .u8 (D : Int))
        have hO2' := hO2.below (a := ⟨g2, k, none⟩) (hg2) (.int .u8 (D : Int))
        go_wp2
        go_roundw
        case rel => exact ⟨k + 1, by omega, by go_num, hO1', hO2', hbr'⟩
        case measure => simp [intOf]; omega
      · go_wp2
        go_loopw [18] (fun i wr => ∃ k : Nat, k ≤ (1 + a1.size) ∧ i = .int .i64 k ∧ Owned wr w2.heap.size (.slice (some ⟨g3, 0, none⟩) (1 + a1.size) cap3) (1 + a1.size) ∧ Below w1.heap.size w1 wr) (fun i _ => (1 + a1.size) - (intOf i).toNat)
        case atStart => exact ⟨0, by omega, rfl, hO2, hbr⟩
        case round =>
          obtain ⟨k2, hk2, rfl, hO2, hbr2⟩ := hrel
          by_cases hlt2 : k2 < (1 + a1.size)
          · obtain ⟨c, hc, hcell, hfz, hg⟩ := hO2.cell k2 hlt2
            obtain ⟨D, hD, hD8⟩ : ∃ D : Nat, ((c : Int) + 1) % 256 = (D : Int) ∧ D < 256 := ⟨(c + 1) % 256, by omega, by omega⟩
            have hDw : IntKind.u8.wrap ((c : Int) + 1) = (D : Int) := by rw [IntKind.wrap_u8']; exact hD
            have hO2' := hO2.stored k2 D hD8
            have hbr' := hbr2.setCell (p := ⟨g3, k2, none⟩) (Nat.le_trans hb2.size hg) (.int .u8 (D : Int))
            go_wp2
            go_roundw
            case rel => exact ⟨k2 + 1, by omega, by go_num, hO2', hbr'⟩
            case measure => simp [intOf]; omega
          · go_wp2_with fail
            refine (CT.out _ (hr1.later hbr2)).mono ?_
            rintro e w5 ⟨rfl, hb5⟩
            go_wp2_with fail
            refine (C1.out _).mono ?_
            rintro e w6 ⟨g6, cap6, rfl, ho6, hrd6, hb6⟩
            go_wp2_with fail
            refine (C2.out _).mono ?_
            rintro e w7 ⟨g7, cap7, rfl, ho7, hrd7, hb7⟩
            go_wp2_with fail
            have B7 : Below w1.heap.size w1 w7 := step (step (step hbr2 hb5) hb6) hb7
            refine (C3.out _ _ (hrd6.later hb7)).mono ?_
            rintro e w8 ⟨rfl, hb8⟩
            go_wp2_with fail
            have B8 := step B7 hb8
            refine (C4.out _ _ (hrd7.later hb8)).mono ?_
            rintro e w9 ⟨rfl, hb9⟩
            go_wp2_with fail
            have B9 := step B8 hb9
            refine (Same_yes _ _ bs _ (hr1.later B9) (hown1'.later B9)).mono ?_
            rintro e w' ⟨rfl, rfl⟩
            go_wp2_with (go_at_call 9; refine (CA.out _).mono ?_; rintro e w10 ⟨rfl, hb10⟩)
            go_ret
            exact ⟨rfl, step hb1 (step B9 hb10)⟩

/-! ### THE ROW's STEP: WRITTEN OUT: LEAVE IT -/
set_option maxRecDepth 100000 in
theorem lifted (os : Os) (started : os.Started) (H : Type) (enc : TypeId × Value → H) :
    ReturnsInHanded {} Try.checked os 8 .any (Rows.octetOwnSpec.pre6 enc Try.prog Try.f8 Rows.octetOwnRow.domain false) (Rows.octetOwnSpec.post enc Try.prog Try.f8 false true false false) := by
  refine returnsInHanded_of_change (C := Try.checked) own started (by kernel_rfl) Try.func8
    (ChangeSpec.witness6 (enc := enc) (C := Try.checked) false ⟨#[], #[.int .i64 0, .string ByteArray.empty, .slice none 0 0, .int .i64 0], []⟩ 8 (by kernel_rfl) (by kernel_rfl) (by kernel_rfl) (by kernel_rfl)) ?_
  intro W base args ds gs before hval0 hW hcnd _
  have hval : ∀ (j : Nat) t v, Try.f8.params[j]? = some t → args[j]? = some v → Value.okWide Try.prog W .any base t v := hval0
  have hW' := hW
  obtain ⟨p, q, hA0, hV, rfl, hfz, hnd⟩ := hW
  have hA : DataW.TrodAll enc Try.prog W 0 (fun _ => true) true Try.f8.params.toList args.toList ds p := hA0
  rw [Try.params8] at hA hval
  obtain ⟨v0, vs0, d0, ds0, p0, q0, hargs, rfl, rfl, h0, r0⟩ := trodAll_cons hA
  obtain ⟨v1, vs1, d1, ds1, p1, q1, rfl, rfl, rfl, h1, r1⟩ := trodAll_cons r0
  obtain ⟨v2, vs2, d2, ds2, p2, q2, rfl, rfl, rfl, h2, r2⟩ := trodAll_cons r1
  obtain ⟨v3, vs3, d3, ds3, p3, q3, rfl, rfl, rfl, h3, r3⟩ := trodAll_cons r2
  obtain ⟨rfl, rfl, rfl⟩ := trodAll_nil r3
  obtain rfl : args = #[v0, v1, v2, v3] := by cases args; simp_all
  obtain ⟨rfl, rfl⟩ := trodVars_none hV
  obtain ⟨a0, rfl, rfl, rfl, w0⟩ := open_int Try.underlying3 (hval 0 3 v0 rfl rfl) h0
  obtain ⟨a1, rfl, rfl, rfl, w1⟩ := open_string Try.underlying9 (hval 1 9 v1 rfl rfl) h1
  obtain ⟨a2, len2, cap2, rfl⟩ := okWide_slice Try.underlying22 (hval 2 22 v2 rfl rfl)
  have k2 := h2
  have lt2 : ∀ x ∈ p2, x.block < W.heap.size := by obtain ⟨m, hm⟩ := k2; exact DataW.trod_lt m _ _ _ hm
  obtain ⟨z2, w2⟩ : ∃ zs, IsRow .u8 W a2 len2 cap2 zs := by
    obtain ⟨fuel, hf⟩ := h2
    rcases open_ints Try.underlying22 Try.underlying5 (by kernel_rfl) hf with ⟨hcs, _⟩ | ⟨x, l, c, zs, hcs, _, hl, hm, hz, _, hcell, hwz⟩
    · simp [Value.cells] at hcs
      obtain ⟨rfl, rfl, rfl⟩ := hcs
      exact ⟨[], .inl ⟨rfl, rfl, rfl, rfl⟩⟩
    · simp [Value.cells] at hcs
      obtain ⟨rfl, rfl, rfl⟩ := hcs
      exact ⟨zs, .inr ⟨_, rfl, hl, hm, by simpa using hz, hcell, hwz⟩⟩
  obtain ⟨a3, rfl, rfl, rfl, w3⟩ := open_int Try.underlying3 (hval 3 3 v3 rfl rfl) h3
  clear hA0 hval0
  refine (walk a0 a1 a2 len2 cap2 z2 a3 W w0 w1 w2 w3).mono fun e W' ⟨he, bel⟩ => ?_
  subst he
  exact ⟨_, rfl, _, _, _, [], _, [], hW', trodAll_mk1 (shut_bool Try.underlying4 _), (trodAll_cons_mk (shut_int Try.underlying3 w0) (trodAll_cons_mk (shut_string Try.underlying9 w1) (trodAll_cons_mk (Below.trod laidOut (by kernel_rfl) (of_decide_eq_true (by kernel_rfl)) k2 bel lt2) (trodAll_cons_mk (shut_int Try.underlying3 w3) trodAll_mk0)))), rfl, bel.frame _, fun h => by cases h⟩

theorem over : Rows.octetOwnRow.holds Try.pinned (OpenSpec.ofChange Rows.octetOwnSpec) :=
  OpenClaim.holds_of_wide 8 Try.f8 rfl rfl rfl rfl rfl rfl rfl ⟨rfl, rfl, rfl, rfl, rfl⟩ rfl rfl rfl rfl rfl (by kernel_rfl) Try.func8 (by kernel_rfl)
    (of_decide_eq_true (by kernel_rfl)) (by unfold Func.isWrapper; first | (rw [if_pos (by decide +kernel)]; kernel_rfl) | (rw [if_neg (by decide +kernel)]; exact ⟨rfl, rfl⟩))
    (fun os started H enc _ => lifted os started H enc)

/-- THE STATEMENT -/
theorem proved : Rows.OctetOwnSaid := over
end Go.Proofs.Ytfehjlkbgjcioaa.octetOwn
