/- PROVED: the statement CmdNames of layer 4: for every input that can be read, the law returns true and leaves its arguments as they were. No condition. -/
import Derived.Test.YtgjeheekemebaaaRows
import Derived.Test.YtgjeheekemebaaaLaw4D
import Derived.WalkKit
import Derived.ProofKit
import Derived.OpenShut
import Derived.ShutString
import Derived.ChangeOld
import Derived.Below
import Derived.Deep.Cut
import Derived.Deep.CutBlock
import Derived.Deep.DeepCutAuto
namespace Go.Proofs.Ytgjeheekemebaaa.cmdNames
open Go.ChangeShapes Go.WideShapes Go.ChangeAt Go.RowKit
open Go.ChangeMaps (open_string shut_string)
open Go.Sort (grow)
set_option linter.unusedVariables false

theorem own : ownKnob Try.prog.godebug = none := by kernel_rfl
theorem laidOut : laidOutB Try.prog = true := by kernel_rfl

/-! ### STEP 1: THE WALK -/
set_option maxRecDepth 100000 in
set_option maxHeartbeats 4000000 in
theorem walk (a0 : Option Addr) (len0 cap0 : Nat) (z0 : List Int) (a1 : Int) (a2 : Int) (w : World) (w0 : IsRow .u8 w a0 len0 cap0 z0) (w1 : (Lit.int .u8 a1).wf = true) (w2 : (Lit.int .u8 a2).wf = true) :
    Calls Try.prog 6 #[.slice a0 len0 cap0, .int .u8 a1, .int .u8 a2] w fun e w' => e = .returned (.bool true) ∧ Below w.heap.size w w' := by
  obtain ⟨hr, hrl⟩ := w0.rd
  generalize bytesOf z0 len0 = A at hr hrl
  have nat8 : ∀ a : Int, (Lit.int .u8 a).wf = true → ∃ n : Nat, a = (n : Int) ∧ n < 256 := fun a h => by
    simp [Lit.wf, IntKind.min, IntKind.max, IntKind.signed, IntKind.bits] at h
    exact ⟨a.toNat, by omega, by omega⟩
  obtain ⟨q, rfl, lq⟩ := nat8 a1 w1
  obtain ⟨b, rfl, lb⟩ := nat8 a2 w2
  clear nat8 w0 w1 w2
  have C0 := Lib.hid (fun w => Cm.awake_ok w)
  have hmx := Cm.Rd.len_le hr
  unfold maxLen at hmx
  obtain ⟨i0, hi, hz0, hz1, hz2⟩ := info_parts info8
  by_cases h1 : len0 = 0 ∨ 12 < len0
  · obtain ⟨K, hK, hK5⟩ : ∃ K : Nat, (len0 : Int) % 50 = (K : Int) ∧ K < 50 := ⟨len0 % 50, (Int.natCast_emod len0 50).symm, Nat.mod_lt _ (by omega)⟩
    have C1 := Lib.hid (fun w => Cm.Name_any (List.replicate K 0) w)
    rw [Cm.name_none] at C1
    rcases h1 with h1 | h1
    · subst h1
      obtain rfl : K = 0 := by omega
      clear hr
      go_enter Try.func6, Try.ntmps6
      go_wp2_with (first
        | (at_make; refine wpList_make_full _ rfl _ _ 24 rfl w.heap.size 5 i0 (.int .u8 0) 1 Try.underlying24 hi hz0 hz1 .i64 .i64 _ _ 0 rfl rfl (by omega) (by omega) (by rw [hz2]; omega) (by unfold maxLen; omega) (Nat.le_refl _) ?_; intro w3 hown3 hgrow3; have hr3 := rd_zero 0 w w3 hown3; have kc := conv_rd w3 (P := Try.prog) Try.underlying24 Try.underlying5 Try.underlying9 _ _ hr3; have hb3 : Below w.heap.size w w3 := (Below.refl _ _).grown hgrow3 (Nat.le_refl _) (fun k hk => by cases hk))
        | (go_at_call 16; refine (C1.out _).mono ?_; rintro e w4 ⟨rfl, rfl⟩)
        | (go_at_call 9; refine (C0.out _).mono ?_; rintro e w5 ⟨rfl, hb5⟩))
      go_ret
      exact ⟨rfl, step hb3 hb5⟩
    · clear hr
      go_enter Try.func6, Try.ntmps6
      go_wp2_with (first
        | (at_make; refine wpList_make_full _ rfl _ _ 24 rfl w.heap.size 5 i0 (.int .u8 0) 1 Try.underlying24 hi hz0 hz1 .i64 .i64 _ _ K rfl rfl (by omega) (by omega) (by rw [hz2]; omega) (by unfold maxLen; omega) (Nat.le_refl _) ?_; intro w3 hown3 hgrow3; have hr3 := rd_zero K w w3 hown3; have kc := conv_rd w3 (P := Try.prog) Try.underlying24 Try.underlying5 Try.underlying9 _ _ hr3; have hb3 : Below w.heap.size w w3 := (Below.refl _ _).grown hgrow3 (Nat.le_refl _) (fun k hk => by cases hk))
        | (go_at_call 16; refine (C1.out _).mono ?_; rintro e w4 ⟨rfl, rfl⟩)
        | (go_at_call 9; refine (C0.out _).mono ?_; rintro e w5 ⟨rfl, hb5⟩))
      go_ret
      exact ⟨rfl, step hb3 hb5⟩
  · have hA1 : 1 ≤ A.length := by omega
    have hA2 : A.length ≤ 12 := by omega
    clear h1
    subst hrl
    obtain ⟨a, len, cap, hv, hl, hc, hm, hn, hx⟩ := hr.ex
    cases hv
    match a0, hn, hx with
    | none, hn, _ => have := (hn rfl).1; omega
    | some x, _, hx =>
    obtain ⟨g, o, sp⟩ := x
    obtain ⟨hsp, hcell⟩ := hx _ rfl (by omega)
    simp only at hsp hcell
    subst hsp
    have HC := Lib.hid hcell
    have HR := Lib.hid hr
    clear hx hcell hr hl
    have d0 : ((A.length : Int) == 0) = false := by rw [beq_eq_false_iff_ne]; omega
    have d12 : decide (12 < (A.length : Int)) = false := by simp; omega
    go_enter Try.func6, Try.ntmps6
    go_wp2_with fail
    generalize hAL : (⟨#[97, 98, 99, 100, 101, 102, 103, 104, 105, 106, 107, 108, 109, 110, 111, 112, 113, 114, 115, 116, 117, 118, 119, 120, 121, 122, 48, 49, 50, 51, 52, 53, 54, 55, 56, 57, 45]⟩ : ByteArray) = AL
    have hAL2 : AL = bstr Cm.alpha := hAL.symm
    have hALs : AL.size = 37 := by rw [hAL2]; rfl
    clear hAL
    have HAL := Lib.hid hAL2
    clear hAL2
    go_loopw [8, 9] (fun s i wr => ∃ j : Nat, j ≤ A.length ∧ i = .int .i64 j ∧ s = .string (bstr (Cm.lettersOf (A.take j))) ∧ Below w.heap.size w wr) (fun _ i _ => A.length - (intOf i).toNat)
    case atStart => exact ⟨0, by omega, rfl, rfl, Below.refl _ _⟩
    case round =>
      obtain ⟨j, hj, rfl, rfl, hbw⟩ := hrel
      have HBW := Lib.hid hbw
      clear hbw
      by_cases hlt : j < A.length
      · have hcell := HBW.out.cell (p := ⟨g, o + j, none⟩) (lt_of_cell (HC.out j hlt))
        rw [HC.out j hlt] at hcell
        have hc256 := UInt8.toNat_lt (A.getD j 0)
        have HS := Lib.hid (Cm.letters_succ A j hlt)
        generalize A.getD j 0 = c at hcell hc256 HS
        have hwr : IntKind.i64.wrap (c.toNat : Int) = (c.toNat : Int) := by rw [IntKind.wrap_i64]; omega
        obtain ⟨r, hr, hr37⟩ : ∃ r : Nat, c.toNat % 37 = r ∧ r < 37 := ⟨_, rfl, Nat.mod_lt _ (by omega)⟩
        have htm : (c.toNat : Int).tmod 37 = (r : Int) := by rw [Int.tmod_eq_emod_of_nonneg (by omega)]; omega
        rw [hr] at HS
        have hr0 : (0 : Int) ≤ (r : Int) := by omega
        have hr1 : (r : Int) < 37 := by omega
        clear hr
        have hsl := fun wx => Cm.slice_mid (P := Try.prog) Try.underlying9 wx Cm.alpha r hr37
        rw [← HAL.out] at hsl
        have hap := Cm.bstr_append
        generalize Cm.alpha.getD r 0 = x at hsl HS
        have hno : ¬ (9223372036854775807 < (bstr (Cm.lettersOf (A.take j))).size + (bstr [x]).size) := by
          rw [bstr_size, bstr_size, Cm.letters_length, List.length_take, List.length_singleton]
          omega
        have hj1 : (j : Int) < (A.length : Int) := by omega
        go_wp2_with fail
        go_quiet (fail)
        go_wp2
        go_roundw
        case rel => exact ⟨j + 1, by omega, by go_num, by rw [HS.out], below_drewN HBW.out nq⟩
        case measure => simp [intOf]; omega
      · obtain rfl : j = A.length := by omega
        rw [List.take_length]
        have hSl := Cm.letters_length A
        have hSa := Cm.letters_all A
        generalize Cm.lettersOf A = S at hSl hSa
        have hbS := bstr_size S
        obtain ⟨k, hk, hkS⟩ : ∃ k : Nat, (q : Int) % (A.length : Int) = (k : Int) ∧ k < S.length := ⟨q % A.length, (Int.natCast_emod q A.length).symm, by rw [hSl]; exact Nat.mod_lt _ (by omega)⟩
        have hS0 : 0 < (A.length : Int) := by omega
        have hBn : (UInt8.ofNat b).toNat = b := toNat_byte b lb
        have HAt : Hid (∀ j, j < 37 → ∀ h', AL[j]'h' = Cm.alpha.getD j 0) := fun j hj h' => by
          have e := HAL.out
          subst e
          exact Cm.bstr_get Cm.alpha j hj h'
        have HON := Lib.hid (fun j => Cm.isOne_succ (UInt8.ofNat b) j)
        have HALL := Lib.hid (Cm.isOne_all (UInt8.ofNat b))
        go_wp2_with fail
        go_loop [11, 12] (fun s i => ∃ j : Nat, j ≤ 37 ∧ i = .int .i64 j ∧ s = .bool (Cm.isOne (UInt8.ofNat b) j)) (fun _ i => 37 - (intOf i).toNat)
        case atStart => exact ⟨0, by omega, rfl, rfl⟩
        case round =>
          obtain ⟨j, hj, rfl, rfl⟩ := hrel
          by_cases hlt : j < 37
          · have hs := HON.out j hlt
            have hget := HAt.out j hlt
            generalize Cm.alpha.getD j 0 = x at hs hget
            cases h0 : Cm.isOne (UInt8.ofNat b) j
            · rw [h0, Bool.false_or] at hs
              by_cases hx : x = UInt8.ofNat b
              · have d : ((x.toNat : Int) == (b : Int)) = true := by rw [hx, hBn]; simp
                have hs' : Cm.isOne (UInt8.ofNat b) (j + 1) = true := by rw [hs, hx]; simp
                have HS' := Lib.hid hs'
                clear hs' hs hx h0
                go_wp2
                go_round
                case rel => exact ⟨j + 1, by omega, by go_num, by rw [HS'.out]⟩
                case measure => simp [intOf]; omega
              · have d : ((x.toNat : Int) == (b : Int)) = false := by
                  rw [beq_eq_false_iff_ne]
                  intro e
                  exact hx (by rw [← UInt8.toNat_inj, hBn]; omega)
                have hs' : Cm.isOne (UInt8.ofNat b) (j + 1) = false := by rw [hs]; simpa using hx
                have HS' := Lib.hid hs'
                clear hs' hs hx h0
                go_wp2
                go_round
                case rel => exact ⟨j + 1, by omega, by go_num, by rw [HS'.out]⟩
                case measure => simp [intOf]; omega
            · rw [h0, Bool.true_or] at hs
              have HS' := Lib.hid hs
              clear hs h0
              go_wp2
              go_round
              case rel => exact ⟨j + 1, by omega, by go_num, by rw [HS'.out]⟩
              case measure => simp [intOf]; omega
          · obtain rfl : j = 37 := by omega
            rw [HALL.out]
            obtain ⟨m, hkm, hmA, hmk⟩ : ∃ m : Nat, (k : Int) + 1 = (m : Int) ∧ (m : Int) ≤ (A.length : Int) ∧ m = k + 1 := ⟨k + 1, rfl, by omega, rfl⟩
            have HMK := Lib.hid hmk
            clear hmk
            have hno1 : ¬ (9223372036854775807 < (bstr (S.take k)).size + (bstr [UInt8.ofNat b]).size) := by
              rw [bstr_size, bstr_size, List.length_take, List.length_singleton]
              omega
            have hno2 : ¬ (9223372036854775807 < (bstr (S.take k ++ [UInt8.ofNat b])).size + (bstr (S.drop m)).size) := by
              rw [bstr_size, bstr_size, List.length_append, List.length_take, List.length_singleton, List.length_drop]
              omega
            have hs1 := fun wx => Cm.slice_to (P := Try.prog) Try.underlying9 wx S k (by omega)
            have hs2 := fun wx => Cm.slice_from (P := Try.prog) Try.underlying9 wx S m (by omega)
            have hap := Cm.bstr_append
            have hcv : (convert 24 9 (.slice (some ⟨wr.heap.size, 0, none⟩) 1 1)).run Try.prog (wr.alloc (.cells #[.int .u8 (b : Int)] 5)).drew = .ok (.string (bstr [UInt8.ofNat b])) (wr.alloc (.cells #[.int .u8 (b : Int)] 5)).drew := conv_rd _ Try.underlying24 Try.underlying5 Try.underlying9 _ _ ((Cm.rd1 wr b lb).later (Below.refl _ _).drew)
            go_wp2_with fail
            go_region
            have n1 : Cm.nameF S = true := Cm.name_all S (by omega) (by omega) hSa
            have n2 : Cm.nameF (S.take k ++ UInt8.ofNat b :: S.drop m) = Cm.nameB (UInt8.ofNat b) := by
              have := Cm.name_turned S k (UInt8.ofNat b) hkS (by omega) hSa
              rw [HMK.out]
              simpa using this
            have n3 : Cm.nameF (S ++ [120]) = decide ((A.length : Int) < 12) := by
              rw [Cm.name_more S (by omega) (by omega) hSa]
              exact decide_eq_decide.2 (by omega)
            have C1 := Lib.hid (fun w => Cm.Name_any S w)
            have C2 := Lib.hid (fun w => Cm.Name_any (S.take k ++ UInt8.ofNat b :: S.drop m) w)
            have C3 := Lib.hid (fun w => Cm.Name_any (S ++ [120]) w)
            rw [n1] at C1
            rw [n2] at C2
            rw [n3] at C3
            have hax : bstr S ++ ⟨#[120]⟩ = bstr (S ++ [120]) := Cm.bstr_append S [120]
            have hnx : ¬ (9223372036854775807 < (bstr S).size + (ByteArray.size ⟨#[120]⟩)) := by
              rw [bstr_size]
              show ¬ (9223372036854775807 < S.length + 1)
              omega
            generalize Cm.nameB (UInt8.ofNat b) = NB at C2 ⊢
            have BW := Lib.hid ((stepAlloc HBW.out (.cells #[.int .u8 (b : Int)] 5)).drew)
            clear n1 n2 n3 hap hno1 hno2 hs1 hs2 hcv hSa
            go_wp2_with fail
            refine (C1.out _).mono ?_
            rintro e w2 ⟨rfl, rfl⟩
            go_wp2_with fail
            refine (C2.out _).mono ?_
            rintro e w2 ⟨rfl, rfl⟩
            cases NB
            all_goals
              go_wp2_with fail
              refine (C3.out _).mono ?_
              rintro e w2 ⟨rfl, rfl⟩
              cases hD : decide ((A.length : Int) < 12)
              all_goals
                go_wp2_with fail
                refine (C0.out _).mono ?_
                rintro e w3 ⟨rfl, hb3⟩
                go_wp2
                go_ret
                exact ⟨rfl, step BW.out hb3⟩

/-! ### THE ROW's STEP -/
set_option maxRecDepth 100000 in
theorem lifted (os : Os) (started : os.Started) (H : Type) (enc : TypeId × Value → H) :
    ReturnsInHanded {} Try.checked os 6 .any (Rows.cmdNamesSpec.pre6 enc Try.prog Try.f6 Rows.cmdNamesRow.domain false) (Rows.cmdNamesSpec.post enc Try.prog Try.f6 false true false false) := by
  refine returnsInHanded_of_change (C := Try.checked) own started (by kernel_rfl) Try.func6
    (ChangeSpec.witness6 (enc := enc) (C := Try.checked) false ⟨#[], #[.slice none 0 0, .int .u8 0, .int .u8 0], []⟩ 8 (by kernel_rfl) (by kernel_rfl) (by kernel_rfl) (by kernel_rfl)) ?_
  intro W base args ds gs before hval0 hW hcnd _
  have hval : ∀ (j : Nat) t v, Try.f6.params[j]? = some t → args[j]? = some v → Value.okWide Try.prog W .any base t v := hval0
  have hW' := hW
  obtain ⟨p, q, hA0, hV, rfl, hfz, hnd⟩ := hW
  have hA : DataW.TrodAll enc Try.prog W 0 (fun _ => true) true Try.f6.params.toList args.toList ds p := hA0
  rw [Try.params6] at hA hval
  obtain ⟨v0, vs0, d0, ds0, p0, q0, hargs, rfl, rfl, h0, r0⟩ := trodAll_cons hA
  obtain ⟨v1, vs1, d1, ds1, p1, q1, rfl, rfl, rfl, h1, r1⟩ := trodAll_cons r0
  obtain ⟨v2, vs2, d2, ds2, p2, q2, rfl, rfl, rfl, h2, r2⟩ := trodAll_cons r1
  obtain ⟨rfl, rfl, rfl⟩ := trodAll_nil r2
  obtain rfl : args = #[v0, v1, v2] := by cases args; simp_all
  obtain ⟨rfl, rfl⟩ := trodVars_none hV
  obtain ⟨a0, len0, cap0, rfl⟩ := okWide_slice Try.underlying24 (hval 0 24 v0 rfl rfl)
  have k0 := h0
  have lt0 : ∀ x ∈ p0, x.block < W.heap.size := by obtain ⟨m, hm⟩ := k0; exact DataW.trod_lt m _ _ _ hm
  obtain ⟨z0, w0⟩ : ∃ zs, IsRow .u8 W a0 len0 cap0 zs := by
    obtain ⟨fuel, hf⟩ := h0
    rcases open_ints Try.underlying24 Try.underlying5 (by kernel_rfl) hf with ⟨hcs, _⟩ | ⟨x, l, c, zs, hcs, _, hl, hm, hz, _, hcell, hwz⟩
    · simp [Value.cells] at hcs
      obtain ⟨rfl, rfl, rfl⟩ := hcs
      exact ⟨[], .inl ⟨rfl, rfl, rfl, rfl⟩⟩
    · simp [Value.cells] at hcs
      obtain ⟨rfl, rfl, rfl⟩ := hcs
      exact ⟨zs, .inr ⟨_, rfl, hl, hm, by simpa using hz, hcell, hwz⟩⟩
  obtain ⟨a1, rfl, rfl, rfl, w1⟩ := open_int Try.underlying5 (hval 1 5 v1 rfl rfl) h1
  obtain ⟨a2, rfl, rfl, rfl, w2⟩ := open_int Try.underlying5 (hval 2 5 v2 rfl rfl) h2
  clear hA0 hval0
  refine (walk a0 len0 cap0 z0 a1 a2 W w0 w1 w2).mono fun e W' ⟨he, bel⟩ => ?_
  subst he
  exact ⟨_, rfl, _, _, _, [], _, [], hW', trodAll_mk1 (shut_bool Try.underlying4 _), (trodAll_cons_mk (Below.trod laidOut (by kernel_rfl) (of_decide_eq_true (by kernel_rfl)) k0 bel lt0) (trodAll_cons_mk (shut_int Try.underlying5 w1) (trodAll_cons_mk (shut_int Try.underlying5 w2) trodAll_mk0))), rfl, bel.frame _, fun h => by cases h⟩

theorem over : Rows.cmdNamesRow.holds Try.pinned (OpenSpec.ofChange Rows.cmdNamesSpec) :=
  OpenClaim.holds_of_wide 6 Try.f6 rfl rfl rfl rfl rfl rfl rfl ⟨rfl, rfl, rfl, rfl, rfl⟩ rfl rfl rfl rfl rfl (by kernel_rfl) Try.func6 (by kernel_rfl)
    (of_decide_eq_true (by kernel_rfl)) (by unfold Func.isWrapper; first | (rw [if_pos (by decide +kernel)]; kernel_rfl) | (rw [if_neg (by decide +kernel)]; exact ⟨rfl, rfl⟩))
    (fun os started H enc _ => lifted os started H enc)

/-- THE STATEMENT -/
theorem proved : Rows.CmdNamesSaid := over
end Go.Proofs.Ytgjeheekemebaaa.cmdNames
