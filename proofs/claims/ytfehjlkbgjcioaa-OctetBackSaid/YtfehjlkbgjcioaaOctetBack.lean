/- PROVED: the statement OctetBack of layer 1: for every input that can be read, the law returns true and leaves its arguments as they were. No condition. -/
import Derived.Test.YtfehjlkbgjcioaaRows
import Derived.Test.YtfehjlkbgjcioaaMath2
import Derived.WalkKit
import Derived.ProofKit
import Derived.OpenShut
import Derived.ShutString
import Derived.ChangeOld
import Derived.Below
namespace Go.Proofs.Ytfehjlkbgjcioaa.octetBack
open Go.ChangeShapes Go.WideShapes Go.ChangeAt Go.RowKit
open Go.ChangeMaps (open_string shut_string)
set_option linter.unusedVariables false

theorem own : ownKnob Try.prog.godebug = none := by kernel_rfl
theorem laidOut : laidOutB Try.prog = true := by kernel_rfl

/-! ### STEP 1: THE WALK: the Go text returns true, AND WRITES NOTHING THAT WAS THERE: 'Below w.heap.size w w'' (Derived/Below.lean: '.refl', '.alloc', '.drew', '.setCell' at a new block, '.trans'). Open each 'IsRow' by 'rcases' AHEAD of 'go_enter'; part every test ahead of the walk. -/
set_option maxRecDepth 100000 in
set_option maxHeartbeats 4000000 in
theorem walk (a0 : Int) (a1 : ByteArray) (a2 : Option Addr) (len2 cap2 : Nat) (z2 : List Int) (a3 : Option Addr) (len3 cap3 : Nat) (z3 : List Int) (a4 : Int) (w : World) (w0 : (Lit.int .i64 a0).wf = true) (w1 : a1.size ≤ maxLen) (w2 : IsRow .u8 w a2 len2 cap2 z2) (w3 : IsRow .u8 w a3 len3 cap3 z3) (w4 : (Lit.int .u16 a4).wf = true) :
    Calls Try.prog 5 #[.int .i64 a0, .string a1, .slice a2 len2 cap2, .slice a3 len3 cap3, .int .u16 a4] w fun e w' => e = .returned (.bool true) ∧ Below w.heap.size w w' := by
  obtain ⟨hr, hrl⟩ := w2.rd
  obtain ⟨hs, hsl⟩ := w3.rd
  obtain ⟨N, rfl⟩ : ∃ N : Nat, a4 = (N : Int) := Int.eq_ofNat_of_zero_le (by have := w4; simp [Lit.wf, IntKind.min, IntKind.max, IntKind.signed, IntKind.bits] at this; omega)
  have hN : N < 65536 := by have := w4; simp [Lit.wf, IntKind.min, IntKind.max, IntKind.signed, IntKind.bits] at this; omega
  generalize bytesOf z2 len2 = A at hr hrl
  generalize bytesOf z3 len3 = Bh at hs hsl
  clear w0 w1 w2 w3 w4
  by_cases h1 : 255 < a1.size
  · go_enter Try.func5, Try.ntmps5
    go_wp2_with (go_at_call 9; refine (awake_ok _).mono ?_; rintro e w' ⟨rfl, hb⟩)
    go_ret
    exact ⟨rfl, hb⟩
  by_cases h2 : 200 < len2
  · go_enter Try.func5, Try.ntmps5
    go_wp2_with (go_at_call 9; refine (awake_ok _).mono ?_; rintro e w' ⟨rfl, hb⟩)
    go_ret
    exact ⟨rfl, hb⟩
  by_cases h3 : 200 < len3
  · go_enter Try.func5, Try.ntmps5
    go_wp2_with (go_at_call 9; refine (awake_ok _).mono ?_; rintro e w' ⟨rfl, hb⟩)
    go_ret
    exact ⟨rfl, hb⟩
  by_cases h4 : a0 < 0
  · have d0 : decide (a0 < 0) = true := decide_eq_true h4
    go_enter Try.func5, Try.ntmps5
    go_wp2_with (go_at_call 9; refine (awake_ok _).mono ?_; rintro e w' ⟨rfl, hb⟩)
    go_ret
    exact ⟨rfl, hb⟩
  have d0 : decide (a0 < 0) = false := decide_eq_false h4
  by_cases h5 : (4611686018427387904 : Int) ≤ a0
  · have d1 : decide ((4611686018427387904 : Int) ≤ a0) = true := decide_eq_true h5
    clear h5
    go_enter Try.func5, Try.ntmps5
    go_wp2_with (go_at_call 9; refine (awake_ok _).mono ?_; rintro e w' ⟨rfl, hb⟩)
    go_ret
    exact ⟨rfl, hb⟩
  have d1 : decide ((4611686018427387904 : Int) ≤ a0) = false := decide_eq_false h5
  obtain ⟨n, rfl⟩ := Int.eq_ofNat_of_zero_le (show 0 ≤ a0 by omega)
  obtain ⟨i0, hi, hz0, hz1, hz2⟩ := info_parts info8
  have hsl1 : a1.data.toList.length = a1.size := by rw [Array.length_toList]; rfl
  have C1 : Hid (∀ w, Calls Try.prog 10 #[.int .i64 (n : Int)] w (Row 8 (be8 n) w)) := fun w => PutNum_row n w (by omega)
  have C2 : Hid (∀ w, Calls Try.prog 19 #[.string a1] w (Row (1 + a1.size) (UInt8.ofNat a1.data.toList.length :: a1.data.toList) w)) := fun w => PutText_row a1 w (by omega)
  obtain ⟨S, hS, hSl⟩ : ∃ S, S = UInt8.ofNat a1.data.toList.length :: a1.data.toList ∧ S.length = 1 + a1.size := ⟨_, rfl, by rw [List.length_cons, hsl1]; omega⟩
  rw [← hS] at C2
  obtain ⟨T, hT⟩ : ∃ T, T = A ++ be8 n ++ (S ++ Bh) := ⟨_, rfl⟩
  have hTl : T.length = len2 + 8 + (1 + a1.size) + len3 := by rw [hT, List.length_append, List.length_append, List.length_append, be8_length, hrl, hSl, hsl]; omega
  have C3 : Hid (∀ v w, Rd w v T → Calls Try.prog 12 #[v, .int .i64 (len2 : Int)] w (Three ((n : Int), (len2 : Int) + 8, 0) w)) := fun v w h => by
    have := Num_any v T len2 w h (by omega)
    rwa [hT, ← hrl, numOf_put n (by omega) A (S ++ Bh), hrl] at this
  have C4 : Hid (∀ v w, Rd w v T → Calls Try.prog 21 #[v, .int .i64 ((len2 : Int) + 8), .int .i64 255] w (fun e w' => e = .returned (.tuple #[.string a1, .int .i64 ((len2 : Int) + 8 + 1 + (a1.size : Int)), .int .i64 0]) ∧ Below w.heap.size w w')) := fun v w h => by
    have := Text_any v T ((len2 : Int) + 8) 255 w h (by omega)
    have e := textOf_put a1.data.toList (by omega) (A ++ be8 n) Bh 255 (by omega)
    rw [← hS, List.length_append, be8_length, hrl, hsl1] at e
    rw [show ((len2 : Int) + 8) = ((len2 + 8 : Nat) : Int) by omega] at this
    rw [hT, ← List.append_assoc, e] at this
    exact this.mono fun e w' q => by obtain ⟨q1, q2⟩ := q; rw [bstr_self] at q1; exact ⟨q1, q2⟩
  obtain ⟨K, hK, hK9⟩ : ∃ K : Nat, (N : Int) % (8 + (1 + (a1.size : Int))) = (K : Int) ∧ K < 9 + a1.size := ⟨N % (9 + a1.size), by rw [show (8 + (1 + (a1.size : Int))) = ((9 + a1.size : Nat) : Int) by omega]; exact (Int.natCast_emod N (9 + a1.size)).symm, by have := Nat.mod_lt N (show 0 < 9 + a1.size by omega); omega⟩
  have hTd : T.length = len2 + 8 + (1 + a1.size) + len3 ∧ cellsOf T = [] ++ cellsOf A ++ cellsOf (be8 n) ++ cellsOf S ++ cellsOf Bh ∧ T.length = 0 + A.length + (be8 n).length + S.length + Bh.length ∧ 0 < T.length := by
    refine ⟨hTl, ?_, ?_, by omega⟩
    · rw [hT]; simp [cellsOf_append]
    · rw [hTl, be8_length, hrl, hSl, hsl]; omega
  have HTD := Lib.hid hTd
  clear hTd hTl
  by_cases hK8 : K < 8
  · have C5 : Hid (∀ v w, Rd w v (T.take (len2 + K)) → Calls Try.prog 12 #[v, .int .i64 (len2 : Int)] w (Three (0, 0, 2) w)) := fun v w h => by
      have := Num_any v _ len2 w h (by omega)
      rwa [numOf_short _ len2 (by rw [List.length_take]; omega)] at this
    clear h4 h5 hT hS
    go_enter Try.func5, Try.ntmps5
    go_wp2_with (first
      | (go_at_call 10; refine (C1.out _).mono ?_; rintro e w1 ⟨g1, c1, rfl, ho1, hrd1, hb1⟩; have hrA := hr.later hb1; have hrB := hs.later hb1)
      | (go_at_call 19; refine (C2.out _).mono ?_; rintro e w2 ⟨g2, c2, rfl, ho2, hrd2, hb2⟩; have hrA := hrA.later hb2; have hrB := hrB.later hb2; have hrd1 := hrd1.later hb2)
      | (at_builtin; refine wpList_append_rd rfl (.tmp 81) (.tmp 82) 22 rfl w2.heap.size 5 i0 Try.underlying22 hi hz0 hz1 hz2 (.slice (some ⟨w2.heap.size, 0, none⟩) 0 0) 0 [] rfl (own_empty w2 _ (Nat.le_refl _)) _ A rfl (hrA.later (newAlloc _ _)) (by omega) (by simp) ?_; intro v3 w3 hown3 hgrow3; have hb3 : Below w2.heap.size w2 w3 := ((Below.refl _ _).alloc (Nat.le_refl _) _).grown hgrow3 (by simp) (fun k hk => by simp [Value.ownBlock] at hk; omega))
      | (at_builtin; refine wpList_append_rd rfl (.tmp 83) (.tmp 84) 22 rfl w2.heap.size 5 i0 Try.underlying22 hi hz0 hz1 hz2 v3 _ _ rfl hown3 _ (be8 n) rfl (hrd1.later hb3) (by rw [be8_length]; omega) hb3.size ?_; intro v4 w4 hown4 hgrow4; have hb4 := hb3.grown hgrow4 hb3.size (fun k hk => (hown3.lt k hk).1))
      | (at_builtin; refine wpList_append_rd rfl (.tmp 85) (.tmp 86) 22 rfl w2.heap.size 5 i0 Try.underlying22 hi hz0 hz1 hz2 v4 _ _ rfl hown4 _ S rfl (hrd2.later hb4) (by rw [be8_length]; omega) hb4.size ?_; intro v5 w5 hown5 hgrow5; have hb5 := hb4.grown hgrow5 hb4.size (fun k hk => (hown4.lt k hk).1))
      | (at_builtin; refine wpList_append_rd rfl (.tmp 87) (.tmp 88) 22 rfl w2.heap.size 5 i0 Try.underlying22 hi hz0 hz1 hz2 v5 _ _ rfl hown5 _ Bh rfl (hrB.later hb5) (by rw [be8_length]; omega) hb5.size ?_; intro v6 w6 hown6 hgrow6; have hb6 := hb5.grown hgrow6 hb5.size (fun k hk => (hown5.lt k hk).1); obtain ⟨g6, c6, hv6, hc6, hr6⟩ := back_shape HTD.out hown6; rw [hv6]; clear hv6 hown6 hown5 hown4 hown3 hgrow6 hgrow5 hgrow4 hgrow3))
    refine (C3.out _ _ hr6).mono ?_
    rintro e w7 ⟨rfl, hb7⟩
    go_wp2_with fail
    refine (C4.out _ _ (hr6.later hb7)).mono ?_
    rintro e w8 ⟨rfl, hb8⟩
    go_wp2_with fail
    have hr8 := (hr6.later (step hb7 hb8)).pre (m := len2 + K) (by omega)
    refine (C5.out _ _ hr8).mono ?_
    rintro e w9 ⟨rfl, hb9⟩
    go_wp2_with (go_at_call 9; refine (awake_ok _).mono ?_; rintro e w10 ⟨rfl, hb10⟩)
    go_ret
    exact ⟨rfl, step (step hb1 hb2) (step (step (step (step hb6 hb7) hb8) hb9) hb10)⟩
  · have hT2 : T.take (len2 + K) = A ++ be8 n ++ (S ++ Bh).take (K - 8) := by rw [hT, ← hrl, take_cut A (be8 n) (S ++ Bh) K (by rw [be8_length]; omega), be8_length]
    have C5 : Hid (∀ v w, Rd w v (T.take (len2 + K)) → Calls Try.prog 12 #[v, .int .i64 (len2 : Int)] w (Three ((n : Int), (len2 : Int) + 8, 0) w)) := fun v w h => by
      have := Num_any v _ len2 w h (by omega)
      rwa [hT2, ← hrl, numOf_put n (by omega) A _, hrl] at this
    have C6 : Hid (∀ v w, Rd w v (T.take (len2 + K)) → Calls Try.prog 21 #[v, .int .i64 ((len2 : Int) + 8), .int .i64 255] w (TextTold ([], 0, 2) w)) := fun v w h => by
      have := Text_any v _ ((len2 : Int) + 8) 255 w h (by omega)
      have e := textOf_cut (A ++ be8 n) a1.data.toList Bh (K - 8) (by omega) (by omega)
      rw [← hS, List.length_append, be8_length, hrl] at e
      rw [show ((len2 : Int) + 8) = ((len2 + 8 : Nat) : Int) by omega] at this
      rwa [hT2, e] at this
    clear hT2
    clear h4 h5 hT hS
    go_enter Try.func5, Try.ntmps5
    go_wp2_with (first
      | (go_at_call 10; refine (C1.out _).mono ?_; rintro e w1 ⟨g1, c1, rfl, ho1, hrd1, hb1⟩; have hrA := hr.later hb1; have hrB := hs.later hb1)
      | (go_at_call 19; refine (C2.out _).mono ?_; rintro e w2 ⟨g2, c2, rfl, ho2, hrd2, hb2⟩; have hrA := hrA.later hb2; have hrB := hrB.later hb2; have hrd1 := hrd1.later hb2)
      | (at_builtin; refine wpList_append_rd rfl (.tmp 81) (.tmp 82) 22 rfl w2.heap.size 5 i0 Try.underlying22 hi hz0 hz1 hz2 (.slice (some ⟨w2.heap.size, 0, none⟩) 0 0) 0 [] rfl (own_empty w2 _ (Nat.le_refl _)) _ A rfl (hrA.later (newAlloc _ _)) (by omega) (by simp) ?_; intro v3 w3 hown3 hgrow3; have hb3 : Below w2.heap.size w2 w3 := ((Below.refl _ _).alloc (Nat.le_refl _) _).grown hgrow3 (by simp) (fun k hk => by simp [Value.ownBlock] at hk; omega))
      | (at_builtin; refine wpList_append_rd rfl (.tmp 83) (.tmp 84) 22 rfl w2.heap.size 5 i0 Try.underlying22 hi hz0 hz1 hz2 v3 _ _ rfl hown3 _ (be8 n) rfl (hrd1.later hb3) (by rw [be8_length]; omega) hb3.size ?_; intro v4 w4 hown4 hgrow4; have hb4 := hb3.grown hgrow4 hb3.size (fun k hk => (hown3.lt k hk).1))
      | (at_builtin; refine wpList_append_rd rfl (.tmp 85) (.tmp 86) 22 rfl w2.heap.size 5 i0 Try.underlying22 hi hz0 hz1 hz2 v4 _ _ rfl hown4 _ S rfl (hrd2.later hb4) (by rw [be8_length]; omega) hb4.size ?_; intro v5 w5 hown5 hgrow5; have hb5 := hb4.grown hgrow5 hb4.size (fun k hk => (hown4.lt k hk).1))
      | (at_builtin; refine wpList_append_rd rfl (.tmp 87) (.tmp 88) 22 rfl w2.heap.size 5 i0 Try.underlying22 hi hz0 hz1 hz2 v5 _ _ rfl hown5 _ Bh rfl (hrB.later hb5) (by rw [be8_length]; omega) hb5.size ?_; intro v6 w6 hown6 hgrow6; have hb6 := hb5.grown hgrow6 hb5.size (fun k hk => (hown5.lt k hk).1); obtain ⟨g6, c6, hv6, hc6, hr6⟩ := back_shape HTD.out hown6; rw [hv6]; clear hv6 hown6 hown5 hown4 hown3 hgrow6 hgrow5 hgrow4 hgrow3))
    refine (C3.out _ _ hr6).mono ?_
    rintro e w7 ⟨rfl, hb7⟩
    go_wp2_with fail
    refine (C4.out _ _ (hr6.later hb7)).mono ?_
    rintro e w8 ⟨rfl, hb8⟩
    go_wp2_with fail
    have hr8 := (hr6.later (step hb7 hb8)).pre (m := len2 + K) (by omega)
    refine (C5.out _ _ hr8).mono ?_
    rintro e w9 ⟨rfl, hb9⟩
    go_wp2_with fail
    refine (C6.out _ _ (hr8.later hb9)).mono ?_
    rintro e w11 ⟨rfl, hb11⟩
    go_wp2_with (go_at_call 9; refine (awake_ok _).mono ?_; rintro e w10 ⟨rfl, hb10⟩)
    go_ret
    exact ⟨rfl, step (step hb1 hb2) (step (step (step (step (step hb6 hb7) hb8) hb9) hb11) hb10)⟩

/-! ### THE ROW's STEP: WRITTEN OUT: LEAVE IT -/
set_option maxRecDepth 100000 in
theorem lifted (os : Os) (started : os.Started) (H : Type) (enc : TypeId × Value → H) :
    ReturnsInHanded {} Try.checked os 5 .any (Rows.octetBackSpec.pre6 enc Try.prog Try.f5 Rows.octetBackRow.domain false) (Rows.octetBackSpec.post enc Try.prog Try.f5 false true false false) := by
  refine returnsInHanded_of_change (C := Try.checked) own started (by kernel_rfl) Try.func5
    (ChangeSpec.witness6 (enc := enc) (C := Try.checked) false ⟨#[], #[.int .i64 0, .string ByteArray.empty, .slice none 0 0, .slice none 0 0, .int .u16 0], []⟩ 8 (by kernel_rfl) (by kernel_rfl) (by kernel_rfl) (by kernel_rfl)) ?_
  intro W base args ds gs before hval0 hW hcnd _
  have hval : ∀ (j : Nat) t v, Try.f5.params[j]? = some t → args[j]? = some v → Value.okWide Try.prog W .any base t v := hval0
  have hW' := hW
  obtain ⟨p, q, hA0, hV, rfl, hfz, hnd⟩ := hW
  have hA : DataW.TrodAll enc Try.prog W 0 (fun _ => true) true Try.f5.params.toList args.toList ds p := hA0
  rw [Try.params5] at hA hval
  obtain ⟨v0, vs0, d0, ds0, p0, q0, hargs, rfl, rfl, h0, r0⟩ := trodAll_cons hA
  obtain ⟨v1, vs1, d1, ds1, p1, q1, rfl, rfl, rfl, h1, r1⟩ := trodAll_cons r0
  obtain ⟨v2, vs2, d2, ds2, p2, q2, rfl, rfl, rfl, h2, r2⟩ := trodAll_cons r1
  obtain ⟨v3, vs3, d3, ds3, p3, q3, rfl, rfl, rfl, h3, r3⟩ := trodAll_cons r2
  obtain ⟨v4, vs4, d4, ds4, p4, q4, rfl, rfl, rfl, h4, r4⟩ := trodAll_cons r3
  obtain ⟨rfl, rfl, rfl⟩ := trodAll_nil r4
  obtain rfl : args = #[v0, v1, v2, v3, v4] := by cases args; simp_all
  obtain ⟨rfl, rfl⟩ := trodVars_none hV
  obtain ⟨a0, rfl, rfl, rfl, w0⟩ := open_int Try.underlying3 (hval 0 3 v0 rfl rfl) h0
  obtain ⟨a1, rfl, rfl, rfl, w1⟩ := open_string Try.underlying9 (hval 1 9 v1 rfl rfl) h1
  obtain ⟨a2, len2, cap2, rfl⟩ := okWide_slice Try.underlying22 (hval 2 22 v2 rfl rfl)
  have k2 := h2
  have lt2 : ∀ x ∈ p2, x.block < W.heap.size := by obtain ⟨m, hm⟩ := k2; exact DataW.trod_lt m _ _ _ hm
  obtain ⟨z2, w2⟩ : ∃ zs, IsRow .u8 W a2 len2 cap2 zs := by
    obtain ⟨fuel, hf⟩ := h2
    rcases open_ints Try.underlying22 Try.underlying5 (by kernel_rfl) hf with ⟨hcs, _⟩ | ⟨x, l, c, zs, hcs, _, hl, hm, hz, _, hcell, hwz⟩
    · simp [Value.cells] at hcs
      obtain ⟨rfl, rfl, rfl⟩ := hcs
      exact ⟨[], .inl ⟨rfl, rfl, rfl, rfl⟩⟩
    · simp [Value.cells] at hcs
      obtain ⟨rfl, rfl, rfl⟩ := hcs
      exact ⟨zs, .inr ⟨_, rfl, hl, hm, by simpa using hz, hcell, hwz⟩⟩
  obtain ⟨a3, len3, cap3, rfl⟩ := okWide_slice Try.underlying22 (hval 3 22 v3 rfl rfl)
  have k3 := h3
  have lt3 : ∀ x ∈ p3, x.block < W.heap.size := by obtain ⟨m, hm⟩ := k3; exact DataW.trod_lt m _ _ _ hm
  obtain ⟨z3, w3⟩ : ∃ zs, IsRow .u8 W a3 len3 cap3 zs := by
    obtain ⟨fuel, hf⟩ := h3
    rcases open_ints Try.underlying22 Try.underlying5 (by kernel_rfl) hf with ⟨hcs, _⟩ | ⟨x, l, c, zs, hcs, _, hl, hm, hz, _, hcell, hwz⟩
    · simp [Value.cells] at hcs
      obtain ⟨rfl, rfl, rfl⟩ := hcs
      exact ⟨[], .inl ⟨rfl, rfl, rfl, rfl⟩⟩
    · simp [Value.cells] at hcs
      obtain ⟨rfl, rfl, rfl⟩ := hcs
      exact ⟨zs, .inr ⟨_, rfl, hl, hm, by simpa using hz, hcell, hwz⟩⟩
  obtain ⟨a4, rfl, rfl, rfl, w4⟩ := open_int Try.underlying36 (hval 4 36 v4 rfl rfl) h4
  clear hA0 hval0
  refine (walk a0 a1 a2 len2 cap2 z2 a3 len3 cap3 z3 a4 W w0 w1 w2 w3 w4).mono fun e W' ⟨he, bel⟩ => ?_
  subst he
  exact ⟨_, rfl, _, _, _, [], _, [], hW', trodAll_mk1 (shut_bool Try.underlying4 _), (trodAll_cons_mk (shut_int Try.underlying3 w0) (trodAll_cons_mk (shut_string Try.underlying9 w1) (trodAll_cons_mk (Below.trod laidOut (by kernel_rfl) (of_decide_eq_true (by kernel_rfl)) k2 bel lt2) (trodAll_cons_mk (Below.trod laidOut (by kernel_rfl) (of_decide_eq_true (by kernel_rfl)) k3 bel lt3) (trodAll_cons_mk (shut_int Try.underlying36 w4) trodAll_mk0))))), rfl, bel.frame _, fun h => by cases h⟩

theorem over : Rows.octetBackRow.holds Try.pinned (OpenSpec.ofChange Rows.octetBackSpec) :=
  OpenClaim.holds_of_wide 5 Try.f5 rfl rfl rfl rfl rfl rfl rfl ⟨rfl, rfl, rfl, rfl, rfl⟩ rfl rfl rfl rfl rfl (by kernel_rfl) Try.func5 (by kernel_rfl)
    (of_decide_eq_true (by kernel_rfl)) (by unfold Func.isWrapper; first | (rw [if_pos (by decide +kernel)]; kernel_rfl) | (rw [if_neg (by decide +kernel)]; exact ⟨rfl, rfl⟩))
    (fun os started H enc _ => lifted os started H enc)

/-- THE STATEMENT -/
theorem proved : Rows.OctetBackSaid := over
end Go.Proofs.Ytfehjlkbgjcioaa.octetBack
