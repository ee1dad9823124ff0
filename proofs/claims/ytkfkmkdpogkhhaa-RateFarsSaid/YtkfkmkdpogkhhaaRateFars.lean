/- PROVED: the statement RateFars of layer 2: for every input that can be read, the law returns true and leaves its arguments as they were. No condition. -/
import Derived.Test.YtkfkmkdpogkhhaaRows
import Derived.Test.YtkfkmkdpogkhhaaRateF
import Derived.WalkKit
import Derived.Deep.RegionWith
import Derived.ProofKit
import Derived.OpenShut
import Derived.ShutString
import Derived.ChangeOld
import Derived.Below
namespace Go.Proofs.Ytkfkmkdpogkhhaa.rateFars
open Go.ChangeShapes Go.WideShapes Go.ChangeAt Go.RowKit
open Go.ChangeMaps (open_string shut_string)
set_option linter.unusedVariables false

theorem own : ownKnob Try.prog.godebug = none := by kernel_rfl
theorem laidOut : laidOutB Try.prog = true := by kernel_rfl

attribute [local go_sem] Dbl.run_fadd Dbl.run_fsub Dbl.run_fmul Dbl.run_fdiv Dbl.run_fmax Dbl.run_fmin Dbl.unary_fneg Dbl.ford_lt Dbl.ford_gt Dbl.ford_eq Dbl.ford_ne Dbl.pick_told Dbl.pickW_told

/-! ### STEP 1: THE WALK: the Go text returns true, AND WRITES NOTHING THAT WAS THERE: 'Below w.heap.size w w'' (Derived/Below.lean: '.refl', '.alloc', '.drew', '.setCell' at a new block, '.trans'). Open each 'IsRow' by 'rcases' AHEAD of 'go_enter'; part every test ahead of the walk. -/
theorem walk (a0 : Option Addr) (len0 cap0 : Nat) (z0 : List Int) (w : World) (w0 : IsRow .u64 w a0 len0 cap0 z0) :
    Calls Try.prog 4 #[.slice a0 len0 cap0] w fun e w' => e = .returned (.bool true) ∧ Below w.heap.size w w' := by
  obtain ⟨hr, hzl⟩ := w0.rdl
  have hlt := wordsOf_lt w0
  have hwl := wordsOf_length z0 len0 hzl
  have hget := fun i (hi : i < len0) => wordsOf_getD z0 len0 i hzl hi
  have hnn : ∀ i, i < len0 → (((z0.take len0).map (Value.int .u64))[i]? = some (.int .u64 (z0.getD i 0))) := fun i hi => by
    simp [List.getD, hi, List.getElem?_eq_getElem (show i < z0.length by omega)]
  obtain ⟨a, len, cap, hv, hl, hc, hm, hn, hx⟩ := hr.ex
  cases hv
  have HX := Lib.hid hx
  have HN := Lib.hid hn
  have HG := Lib.hid hget
  have HNN := Lib.hid hnn
  have HW := Lib.hid hlt
  clear hx hn hget hnn hr w0 hlt hc
  generalize wordsOf z0 len0 = xs at *
  by_cases hbig : 40 < len0
  · clear HX HN HG HNN HW hwl hl hzl
    go_enter Try.func4, Try.ntmps4
    go_wp2_with (go_at_call 19; refine (awake_ok _).mono ?_; rintro e w' ⟨rfl, hb⟩)
    go_ret
    exact ⟨rfl, hb⟩
  · obtain ⟨i0, hi, hz0, hz1, hz2⟩ := info_parts infoF
    have HI := Lib.hid hi
    clear hi
    clear hl hm
    go_enter Try.func4, Try.ntmps4
    go_wp2
    go_loopw [3, 4, 5] (fun u v i wr => ∃ k : Nat, k ≤ len0 ∧ i = .int .i64 k ∧ wr.ownsRow w.heap.size 23 1 u k (fl (xs.take k)) ∧ wr.ownsRow w.heap.size 23 1 v k (fl (xs.take k)) ∧ Apart u v ∧ Below w.heap.size w wr) (fun _ _ i _ => len0 - (intOf i).toNat)
    case atStart => exact ⟨0, by omega, rfl, World.ownsRow_nil w _ _ _, World.ownsRow_nil w _ _ _, (fun g hg => by cases hg), Below.refl _ _⟩
    case round =>
      obtain ⟨k, hk, rfl, ho1, ho2, hap, hbr⟩ := hrel
      have O1 := Lib.hid ho1
      have O2 := Lib.hid ho2
      have AP := Lib.hid hap
      have HB := Lib.hid hbr
      clear ho1 ho2 hap hbr
      by_cases hlt : k < len0
      · match a0, HX, HN with
        | none, _, HN => have := (HN.out rfl).1; omega
        | some ⟨blk, off, spot⟩, HX, _ =>
          obtain ⟨hs, hi⟩ := HX.out _ rfl (by omega)
          simp only at hs hi
          subst hs
          have hc0 := hi k _ (HNN.out k hlt)
          have hcell : ∀ wr', Below w.heap.size w wr' → wr'.cell? ⟨blk, off + k, none⟩ = some (.int .u64 (z0.getD k 0)) := fun wr' hb => by
            rw [hb.cell (lt_of_cell hc0)]
            exact hc0
          have hcell1 := hcell wr HB.out
          have HC := Lib.hid hcell
          have hxk := HG.out k hlt
          have CF : Hid (∀ w, Calls Try.prog 9 #[.int .u64 (z0.getD k 0)] w fun e w' => e = .returned (.float .f64 (xs.getD k 0)) ∧ w = w') := by rw [hxk]; exact Float_any _
          have HS := Lib.hid (fl_snoc xs k (by omega))
          clear hcell hi hc0 hxk
          generalize z0.getD k 0 = zk at *
          generalize xs.getD k 0 = xk at *
          have hsz := HB.out.size
          go_wp2_with (first
            | (go_at_call 9; refine (CF.out _).mono ?_; rintro e w' ⟨rfl, rfl⟩)
            | (at_builtin; refine wpList_append_own_at _ rfl _ _ 33 rfl w.heap.size 23 i0 (.float .f64 0) 1 8 Try.underlying33 HI.out hz0 hz1 hz2 rfl (by decide) u3 k (fl (xs.take k)) rfl (own_alloc O1.out _) _ 1 1 [.float .f64 xk] rfl rfl (cell_one_new _ _ _) (by simp [Value.oneCell']) (by unfold maxLen; omega) (by omega) (by simp; omega) ?_; intro u' w2 hu hgr _ hat; have hb2 := below_grown (stepAlloc HB.out _) (own_alloc O1.out _) hgr (Nat.le_refl _) (by simp; omega); have O2' := Lib.hid (own_other (own_alloc O2.out _) hgr AP.out); have AP' := Lib.hid (apart_grown (own_alloc O2.out _) AP.out hat); have O1' := Lib.hid hu; have hcell2 := HC.out w2 hb2; have HB2 := Lib.hid hb2; have hsz2 := hb2.size; clear hu hgr hat hb2 hcell1)
            | (at_builtin; refine wpList_append_own_at _ rfl _ _ 33 rfl w.heap.size 23 i0 (.float .f64 0) 1 8 Try.underlying33 HI.out hz0 hz1 hz2 rfl (by decide) u4 k (fl (xs.take k)) rfl (own_alloc O2'.out _) _ 1 1 [.float .f64 xk] rfl rfl (cell_one_new _ _ _) (by simp [Value.oneCell']) (by unfold maxLen; omega) (by omega) (by simp; omega) ?_; intro v' w3 hv hgr2 _ hat2; have hb3 := below_grown (stepAlloc HB2.out _) (own_alloc O2'.out _) hgr2 (Nat.le_refl _) (by simp; omega); have O1'' := Lib.hid (own_other (own_alloc O1'.out _) hgr2 AP'.out.symm); have AP'' := Lib.hid (apart_grown (own_alloc O1'.out _) AP'.out.symm hat2).symm; have O2'' := Lib.hid hv; have HB3 := Lib.hid hb3; clear hv hgr2 hat2 hb3 hcell2))
          go_roundw
          case rel =>
            refine ⟨k + 1, by omega, by go_num, ?_, ?_, AP''.out, HB3.out⟩
            · rw [HS.out]; exact O1''.out
            · rw [HS.out]; exact O2''.out
          case measure => simp [intOf]; omega
      · obtain rfl : k = len0 := by omega
        have e : xs.take xs.length = xs := List.take_length
        rw [← hwl, e] at O1 O2
        have R1 := Lib.hid (RdL.own O1.out)
        have R2 := Lib.hid (RdL.own O2.out)
        clear e
        go_wp2_with fail
        refine (Far_any _ _ _ R1.out).mono ?_
        rintro e w1 ⟨b1, rfl, i1, hb1⟩
        have I1 := Lib.hid i1
        have HB1 := Lib.hid hb1
        clear i1 hb1
        go_wp2_with fail
        refine (RefFar_any _ _ _ (R1.out.later HB1.out)).mono ?_
        rintro e w2 ⟨b2, rfl, i2, hb2⟩
        have I2 := Lib.hid i2
        have HB2 := Lib.hid hb2
        clear i2 hb2
        go_wp2_with fail
        refine (Alike_any _ _ _ I1.out.1 I2.out.1).mono ?_
        rintro e w' ⟨rfl, rfl⟩
        rw [alike_is _ _ _ I1.out I2.out]
        obtain ⟨p1, l1, c1, rfl, q1, q2, q3, q4, q5⟩ := (R1.out.later (step HB1.out HB2.out)).ex
        obtain ⟨p2, l2, c2, rfl, r1, r2, r3, r4, r5⟩ := (R2.out.later (step HB1.out HB2.out)).ex
        rw [fl_length] at q1 r1
        subst q1
        subst r1
        have Q4 := Lib.hid q4
        have Q5 := Lib.hid q5
        have T4 := Lib.hid r4
        have T5 := Lib.hid r5
        have HBA := Lib.hid (step (step HB.out HB1.out) HB2.out)
        have GL := Lib.hid (fl_get xs)
        clear q4 q5 r4 r5 q2 q3 r2 r3 R1 R2 I1 I2 HX HN HNN HG O1 O2 AP HB HB1 HB2
        go_wp2_with fail
        go_loopw [6] (fun i wr => ∃ j : Nat, j ≤ xs.length ∧ i = .int .i64 j ∧ Below w2.heap.size w2 wr) (fun i _ => xs.length - (intOf i).toNat)
        case atStart => exact ⟨0, by omega, rfl, Below.refl _ _⟩
        case round =>
          obtain ⟨j, hj, rfl, hbj⟩ := hrel
          have HJ := Lib.hid hbj
          clear hbj
          by_cases hlj : j < xs.length
          · match p1, Q4, Q5, p2, T4, T5 with
            | none, Q4, _, _, _, _ => have := (Q4.out rfl).1; omega
            | some _, _, _, none, T4, _ => have := (T4.out rfl).1; omega
            | some ⟨g1, o1, s1⟩, _, Q5, some ⟨g2, o2, s2⟩, _, T5 =>
              obtain ⟨e1, f1⟩ := Q5.out _ rfl (by omega)
              obtain ⟨e2, f2⟩ := T5.out _ rfl (by omega)
              simp only at e1 e2 f1 f2
              subst e1
              subst e2
              have k1 := f1 j _ (GL.out j hlj)
              have k2 := f2 j _ (GL.out j hlj)
              have m1 : wr.cell? ⟨g1, o1 + j, none⟩ = some (.float .f64 (xs.getD j 0)) := by rw [HJ.out.cell (lt_of_cell k1)]; exact k1
              have m2 : wr.cell? ⟨g2, o2 + j, none⟩ = some (.float .f64 (xs.getD j 0)) := by rw [HJ.out.cell (lt_of_cell k2)]; exact k2
              have hxl : xs.getD j 0 < 18446744073709551616 := HW.out _ (by simp [List.getD, List.getElem?_eq_getElem hlj])
              have CA : Hid (∀ w, Calls Try.prog 10 #[.float .f64 (xs.getD j 0), .float .f64 (xs.getD j 0)] w fun e w' => e = .returned (.bool true) ∧ w = w') := fun w => by
                have := Alike_any _ _ w hxl hxl
                rwa [alike_self] at this
              clear f1 f2 k1 k2 hxl
              generalize xs.getD j 0 = xj at *
              go_wp2_with fail
              go_region_with (go_at_call 10; refine (CA.out _).mono ?_; rintro e w' ⟨rfl, rfl⟩)
              all_goals go_wp2_with fail
              all_goals go_roundw
              all_goals first
                | exact ⟨j + 1, by omega, by go_num, HJ.out⟩
                | exact ⟨j + 1, by omega, by go_num, HJ.out.drew⟩
                | (simp [intOf]; omega)
          · obtain rfl : j = xs.length := by omega
            go_wp2_with fail
            refine (awake_ok _).mono ?_
            rintro e w3 ⟨rfl, hb3⟩
            go_wp2_with fail
            go_ret
            exact ⟨rfl, step (step HBA.out HJ.out) hb3⟩

/-! ### THE ROW's STEP: WRITTEN OUT: LEAVE IT -/
set_option maxRecDepth 100000 in
theorem lifted (os : Os) (started : os.Started) (H : Type) (enc : TypeId × Value → H) :
    ReturnsInHanded {} Try.checked os 4 .any (Rows.rateFarsSpec.pre6 enc Try.prog Try.f4 Rows.rateFarsRow.domain false) (Rows.rateFarsSpec.post enc Try.prog Try.f4 false true false false) := by
  refine returnsInHanded_of_change (C := Try.checked) own started (by kernel_rfl) Try.func4
    (ChangeSpec.witness6 (enc := enc) (C := Try.checked) false ⟨#[], #[.slice none 0 0], []⟩ 8 (by kernel_rfl) (by kernel_rfl) (by kernel_rfl) (by kernel_rfl)) ?_
  intro W base args ds gs before hval0 hW hcnd _
  have hval : ∀ (j : Nat) t v, Try.f4.params[j]? = some t → args[j]? = some v → Value.okWide Try.prog W .any base t v := hval0
  have hW' := hW
  obtain ⟨p, q, hA0, hV, rfl, hfz, hnd⟩ := hW
  have hA : DataW.TrodAll enc Try.prog W 0 (fun _ => true) true Try.f4.params.toList args.toList ds p := hA0
  rw [Try.params4] at hA hval
  obtain ⟨v0, vs0, d0, ds0, p0, q0, hargs, rfl, rfl, h0, r0⟩ := trodAll_cons hA
  obtain ⟨rfl, rfl, rfl⟩ := trodAll_nil r0
  obtain rfl : args = #[v0] := by cases args; simp_all
  obtain ⟨rfl, rfl⟩ := trodVars_none hV
  obtain ⟨a0, len0, cap0, rfl⟩ := okWide_slice Try.underlying32 (hval 0 32 v0 rfl rfl)
  have k0 := h0
  have lt0 : ∀ x ∈ p0, x.block < W.heap.size := by obtain ⟨m, hm⟩ := k0; exact DataW.trod_lt m _ _ _ hm
  obtain ⟨z0, w0⟩ : ∃ zs, IsRow .u64 W a0 len0 cap0 zs := by
    obtain ⟨fuel, hf⟩ := h0
    rcases open_ints Try.underlying32 Try.underlying22 (by kernel_rfl) hf with ⟨hcs, _⟩ | ⟨x, l, c, zs, hcs, _, hl, hm, hz, _, hcell, hwz⟩
    · simp [Value.cells] at hcs
      obtain ⟨rfl, rfl, rfl⟩ := hcs
      exact ⟨[], .inl ⟨rfl, rfl, rfl, rfl⟩⟩
    · simp [Value.cells] at hcs
      obtain ⟨rfl, rfl, rfl⟩ := hcs
      exact ⟨zs, .inr ⟨_, rfl, hl, hm, by simpa using hz, hcell, hwz⟩⟩
  clear hA0 hval0
  refine (walk a0 len0 cap0 z0 W w0).mono fun e W' ⟨he, bel⟩ => ?_
  subst he
  exact ⟨_, rfl, _, _, _, [], _, [], hW', trodAll_mk1 (shut_bool Try.underlying4 _), (trodAll_cons_mk (Below.trod laidOut (by kernel_rfl) (of_decide_eq_true (by kernel_rfl)) k0 bel lt0) trodAll_mk0), rfl, bel.frame _, fun h => by cases h⟩

theorem over : Rows.rateFarsRow.holds Try.pinned (OpenSpec.ofChange Rows.rateFarsSpec) :=
  OpenClaim.holds_of_wide 4 Try.f4 rfl rfl rfl rfl rfl rfl rfl ⟨rfl, rfl, rfl, rfl, rfl⟩ rfl rfl rfl rfl rfl (by kernel_rfl) Try.func4 (by kernel_rfl)
    (of_decide_eq_true (by kernel_rfl)) (by unfold Func.isWrapper; first | (rw [if_pos (by decide +kernel)]; kernel_rfl) | (rw [if_neg (by decide +kernel)]; exact ⟨rfl, rfl⟩))
    (fun os started H enc _ => lifted os started H enc)

/-- THE STATEMENT -/
theorem proved : Rows.RateFarsSaid := over
end Go.Proofs.Ytkfkmkdpogkhhaa.rateFars
