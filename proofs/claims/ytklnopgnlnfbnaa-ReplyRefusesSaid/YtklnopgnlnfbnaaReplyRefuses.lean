/- PROVED: the statement ReplyRefuses of layer 5: for every input that can be read, the law returns true and leaves its arguments as they were. No condition. -/
import Derived.Test.YtklnopgnlnfbnaaRows
import Derived.Test.YtklnopgnlnfbnaaLaw5C
import Derived.WalkKit
import Derived.ProofKit
import Derived.OpenShut
import Derived.ShutString
import Derived.ChangeOld
import Derived.Below
import Derived.Deep.Cut
import Derived.Deep.CutBlock
import Derived.Deep.DeepCutAuto
namespace Go.Proofs.Ytklnopgnlnfbnaa.replyRefuses
open Go.ChangeShapes Go.WideShapes Go.ChangeAt Go.RowKit
open Go.ChangeMaps (open_string shut_string)
open Go.Sort (grow)
set_option linter.unusedVariables false

theorem own : ownKnob Try.prog.godebug = none := by kernel_rfl
theorem laidOut : laidOutB Try.prog = true := by kernel_rfl

/-! ### STEP 1: THE WALK -/
set_option maxRecDepth 100000 in
set_option maxHeartbeats 4000000 in
theorem walk (a0 : Option Addr) (len0 cap0 : Nat) (z0 : List Int) (a1 : Int) (a2 : Int) (w : World) (w0 : IsRow .u8 w a0 len0 cap0 z0) (w1 : (Lit.int .u8 a1).wf = true) (w2 : (Lit.int .u8 a2).wf = true) :
    Calls Try.prog 6 #[.slice a0 len0 cap0, .int .u8 a1, .int .u8 a2] w fun e w' => e = .returned (.bool true) ∧ Below w.heap.size w w' := by
  obtain ⟨hn, hnl⟩ := w0.rd
  generalize bytesOf z0 len0 = NS at hn hnl
  have nat8 : ∀ a : Int, (Lit.int .u8 a).wf = true → ∃ n : Nat, a = (n : Int) ∧ n < 256 := fun a h => by
    simp [Lit.wf, IntKind.min, IntKind.max, IntKind.signed, IntKind.bits] at h
    exact ⟨a.toNat, by omega, by omega⟩
  obtain ⟨n1, rfl, l1⟩ := nat8 a1 w1
  obtain ⟨n2, rfl, l2⟩ := nat8 a2 w2
  clear nat8 w0 w1 w2
  have C0 := Lib.hid (fun w => Cm.awake_ok w)
  have CN := Lib.hid (fun w => Cm.Named_any n2 w l2)
  have hnm := Cm.named_name (n2 % 6) (Nat.mod_lt _ (by omega))
  generalize Cm.namedF (n2 % 6) = nm at CN hnm
  have CR := Lib.hid ((Cm.Reply_any _ NS w hn).mono fun e w' h => Cm.MadeP.s h)
  clear hn
  go_enter Try.func6, Try.ntmps6
  go_upto_if 20 with (go_at_call 26; refine CR.out.mono ?_; rintro e w1 ⟨k, s, d, l, a, p, rfl, hm, hd, hb1⟩)
  have hblk1 : (w1.alloc (.cells #[.int .i64 k, .int .i64 3, .int .i64 d, .slice a l.length p] 25)).heap[w1.heap.size]? = some (Cm.repBox k 3 d (.slice a l.length p)) := Cm.alloc_at _ _
  have HM := Lib.hid hm
  have HD := Lib.hid hd
  have HB1 := Lib.hid hb1
  clear hm hd hb1
  obtain ⟨ll, hll⟩ : ∃ m, l.length = m := ⟨_, rfl⟩
  have HLL := Lib.hid hll
  rw [hll] at hblk1 HD ⊢
  clear hll CR
  go_cut [7] from 21 to 25 (fun s7 wc => s7 = .pointer (some ⟨w1.heap.size, 0, none⟩) ∧ ∃ (l' : List Cm.GrantV) (a' : Option Addr) (p' : Nat), wc.heap[w1.heap.size]? = some (Cm.repBox k 3 d (.slice a' l'.length p')) ∧ Cm.RdH wc (.slice a' l'.length p') l' ∧ Cm.mayP ⟨k, 3, d, l'⟩ = true ∧ 0 < l'.length ∧ Below w.heap.size w wc)
  case first =>
    by_cases hl0 : ll = 0
    · subst hl0
      go_wp2_with (go_at_call 27; refine (CN.out _).mono ?_; rintro e w2 ⟨rfl, hb2⟩; have hk1 : (w2.alloc (.cells #[.string (bstr nm), .int .i64 5] 49)).heap[w1.heap.size]? = some (Cm.repBox k 3 d (.slice a 0 p)) := ((newAlloc w2 _).block _ (by have := hb2.size; simp at this; omega)).trans ((hb2.block _ (by simp)).trans hblk1); obtain ⟨y0, y1, y2, y3, yf⟩ := Cm.box_cells hk1)
      go_meet
      case rel =>
        have hsz := hb2.size
        simp at hsz
        have hk2 : ((w2.alloc (.cells #[.string (bstr nm), .int .i64 5] 49)).setCell ⟨w1.heap.size, 3, none⟩ (.slice (some ⟨w2.heap.size, 0, none⟩) 1 1)).heap[w2.heap.size]? = some (.cells #[.string (bstr nm), .int .i64 5] 49) := by
          rw [Below.heap_setCell _ _ _ _ (by show w2.heap.size ≠ w1.heap.size; omega)]
          exact Cm.alloc_at _ _
        refine ⟨rfl, [⟨nm, 5⟩], some ⟨w2.heap.size, 0, none⟩, 1, Cm.set_box hk1 _, Cm.RdH.one (g := ⟨nm, 5⟩) ?_ ?_, Cm.may_one HM.out hnm, by simp, ?_⟩
        · exact (Cm.pair_cells hk2).1
        · exact (Cm.pair_cells hk2).2
        · exact (stepAlloc (step (stepAlloc HB1.out _) hb2) _).setCell (by have := HB1.out.size; show w.heap.size ≤ w1.heap.size; omega) _
    · have dl : ((ll : Int) == 0) = false := by simp; omega
      go_wp2
      go_meet
      case rel =>
        refine ⟨rfl, l, a, p, by rw [HLL.out]; exact hblk1, ?_, Cm.may_three HM.out, by rw [HLL.out]; omega, stepAlloc HB1.out _⟩
        rw [HLL.out]
        exact HD.out.later (newAlloc w1 _)
  case rest =>
    obtain ⟨rfl, l', a', p', hblk, hd', hm', hl', hbc⟩ := hcut
    have C1 := Lib.hid (fun (w' : World) (hb : Below wc.heap.size wc w') => Cm.RepMay_any ⟨k, 3, d, l'⟩ _ w' (hd'.later hb))
    unfold Cm.repVal at C1
    dsimp only at C1
    rw [hm'] at C1
    obtain ⟨b', o', hao, -, -⟩ := hd'.at 0 hl' _ (Below.refl _ _)
    subst hao
    have hml : l'.length ≤ 4 := (Cm.mayP_bounds _ hm').2.2.2.1
    have HM' := Lib.hid hm'
    have HD' := Lib.hid hd'
    have HBC := Lib.hid hbc
    have HBL := Lib.hid hblk
    obtain ⟨m, hlm⟩ : ∃ m, l'.length = m := ⟨_, rfl⟩
    have HLM := Lib.hid hlm
    rw [hlm] at C1 HD' HBL hl' hml hblk
    obtain ⟨x0, x1, x2, x3, xf⟩ := Cm.box_cells hblk
    obtain ⟨K, hK, hKm⟩ : ∃ K : Nat, (n2 : Int) % (m : Int) = (K : Int) ∧ K < m := ⟨n2 % m, (Int.natCast_emod n2 m).symm, Nat.mod_lt _ hl'⟩
    have HNW := Lib.hid (fun (w' : World) (hb : Below wc.heap.size wc w') => Cm.RdH.news (HD'.out.later hb))
    have HG1 := Lib.hid (Cm.gCells_one l')
    have HGL := Lib.hid (show (Cm.gCells l').length = m * 2 by rw [Cm.gCells_length, HLM.out])
    obtain ⟨i0, hi, hz0, hz1, hz2⟩ := info_parts Cm.info49
    generalize w1.heap.size = B at *
    clear hlm hblk hd' hm' hbc hblk1 HM HD HB1 HLL CN hnm
    go_upto_block 0 with (first
      | (go_at_call 14; refine (C1.out _ (Below.refl _ _)).mono ?_; rintro e w2 ⟨rfl, hb2⟩; have HB2 := Lib.hid hb2; have HBL2 := Lib.hid ((hb2.block _ (Cm.get_lt HBL.out)).trans HBL.out); clear hb2; obtain ⟨x0, x1, x2, x3, xf⟩ := Cm.box_cells HBL2.out; have HBL3 := Lib.hid (((newAlloc w2 (.cells #[.int .i64 k, .int .i64 3, .int .i64 d, .slice (some ⟨b', o', none⟩) m p'] 25)).block _ (Cm.get_lt HBL2.out)).trans HBL2.out); have HBL4 := Lib.hid (((newAlloc (w2.alloc (.cells #[.int .i64 k, .int .i64 3, .int .i64 d, .slice (some ⟨b', o', none⟩) m p'] 25)) (.cells #[] 49)).block _ (Cm.get_lt HBL3.out)).trans HBL3.out); obtain ⟨y0, y1, y2, y3, yf⟩ := Cm.box_cells HBL4.out)
      | (at_builtin; refine wpList_append_own_at ((w2.alloc (.cells #[.int .i64 k, .int .i64 3, .int .i64 d, .slice (some ⟨b', o', none⟩) m p'] 25)).alloc (.cells #[] 49)) rfl (.tmp 30) (.tmp 32) 23 rfl (w2.heap.size + 1) 49 i0 _ 2 24 Try.underlying23 hi hz0 hz1 hz2 rfl (by omega) (.slice (some ⟨w2.heap.size + 1, 0, none⟩) 0 0) 0 [] rfl (Cm.own_none_at _ _ _ (by simp) (Nat.le_refl _)) ⟨b', o', none⟩ m p' (Cm.gCells l') rfl HGL.out (HNW.out _ (stepAlloc (stepAlloc HB2.out _) _)) HG1.out (by unfold maxLen; omega) (by omega) (by simp) ?_; intro v8 w8 hown8 hgrow8 _ _; obtain ⟨g, cap, rfl, hg1, hg2, hog⟩ := Cm.grant_shape HLM.out hl' hown8; have HOG := Lib.hid hog; have HX8 := Lib.hid ((hgrow8.block w2.heap.size (by simp; omega) (fun q => by simp [Value.ownBlock] at q)).trans (((newAlloc (w2.alloc (.cells #[.int .i64 k, .int .i64 3, .int .i64 d, .slice (some ⟨b', o', none⟩) m p'] 25)) (.cells #[] 49)).block _ (by simp)).trans (Cm.alloc_at w2 (Cm.repBox k 3 d (.slice (some ⟨b', o', none⟩) m p'))))); obtain ⟨z0, z1, z2, z3, zf⟩ := Cm.box_cells HX8.out; have HB8 := Lib.hid ((stepAlloc (newAlloc w2 (.cells #[.int .i64 k, .int .i64 3, .int .i64 d, .slice (some ⟨b', o', none⟩) m p'] 25)) (.cells #[] 49)).grown hgrow8 (by simp; omega) (fun k hk => by simp [Value.ownBlock] at hk; omega)); clear hown8 hgrow8 hog))
    rw [hK]
    have hgX : g ≠ w2.heap.size := by omega
    have HBX := Lib.hid (Cm.set_box HX8.out (.slice (some ⟨g, 0, none⟩) m cap))
    have HOX := Lib.hid (HOG.out.later (Below.heap_setCell w8 ⟨w2.heap.size, 3, none⟩ (.slice (some ⟨g, 0, none⟩) m cap) g hgX))
    have hwX : w.heap.size ≤ w2.heap.size := by have h1 := HBC.out.size; have h2 := HB2.out.size; omega
    have HBW := Lib.hid ((step (step HBC.out HB2.out) HB8.out).setCell (p := ⟨w2.heap.size, 3, none⟩) hwX (.slice (some ⟨g, 0, none⟩) m cap))
    generalize w8.setCell ⟨w2.heap.size, 3, none⟩ (.slice (some ⟨g, 0, none⟩) m cap) = Wx at HBX HOX HBW ⊢
    have hgw : w.heap.size ≤ g := by omega
    generalize w2.heap.size = X at *
    clear x0 x1 x2 x3 xf y0 y1 y2 y3 yf z0 z1 z2 z3 zf HX8 HOG HB8 HBL2 HBL3 HBL4 HB2 hK C1 HNW HBL HBC HD' HGL HG1
    obtain ⟨h, hh, hh6⟩ : ∃ h : Nat, (n1 : Int) % 6 = (h : Int) ∧ h < 6 := ⟨n1 % 6, (Int.natCast_emod n1 6).symm, Nat.mod_lt _ (by omega)⟩
    rw [hh]
    clear hh
    obtain ⟨x0, x1, x2, x3, xf⟩ := Cm.box_cells HBX.out
    go_cut [8] from 43 to 94 (fun s8 wd => s8 = .pointer (some ⟨X, 0, none⟩) ∧ ∃ (k' s' d' : Int) (q : List Cm.GrantV) (a' : Option Addr) (p' : Nat), wd.heap[X]? = some (Cm.repBox k' s' d' (.slice a' q.length p')) ∧ Cm.RdH wd (.slice a' q.length p') q ∧ Cm.mayP ⟨k', s', d', q⟩ = false ∧ Below w.heap.size w wd)
    case first =>
      match h, hh6 with
      | 0, _ =>
        go_wp2
        go_meet
        case rel =>
          refine ⟨rfl, k, 0, d, l', some ⟨g, 0, none⟩, cap, by rw [HLM.out]; exact Cm.set_session HBX.out 0, (HOX.out.later (Below.heap_setCell _ _ _ _ hgX)).rd, Cm.may_alone (by rw [HLM.out]; exact hl'), HBW.out.setCell hwX _⟩
      | 4, _ =>
        go_wp2
        go_meet
        case rel =>
          refine ⟨rfl, k, 3, _, l', some ⟨g, 0, none⟩, cap, by rw [HLM.out]; exact Cm.set_ahead HBX.out _, (HOX.out.later (Below.heap_setCell _ _ _ _ hgX)).rd, Cm.may_ahead (by omega), HBW.out.setCell hwX _⟩
      | 5, _ =>
        go_wp2
        go_meet
        case rel =>
          refine ⟨rfl, _, 3, d, l', some ⟨g, 0, none⟩, cap, by rw [HLM.out]; exact Cm.set_code HBX.out _, (HOX.out.later (Below.heap_setCell _ _ _ _ hgX)).rd, Cm.may_code (by omega), HBW.out.setCell hwX _⟩
      | 1, _ =>
        have hKl : K < l'.length := by rw [HLM.out]; exact hKm
        obtain ⟨r0, r1, rf⟩ := HOX.out.at K hKl
        have e2 : (0 : Int) ≤ (K : Int) := by omega
        have e3 : (K : Int) < (m : Int) := by omega
        go_wp2
        go_meet
        case rel =>
          refine ⟨rfl, k, 3, d, l'.set K ⟨l'[K].name, -(n2 : Int)⟩, some ⟨g, 0, none⟩, cap, ?_, ?_, Cm.may_held (Cm.held_bad _ none ⟨l'[K].name, -(n2 : Int)⟩ (List.mem_iff_getElem.2 ⟨K, by simp [hKl], by simp⟩) (.inr (by unfold Cm.highF; simp; omega))), HBW.out.setCell hgw _⟩
          · rw [List.length_set, HLM.out, Below.heap_setCell _ _ _ _ (show X ≠ g from hgX.symm)]
            exact HBX.out
          · rw [List.length_set]
            exact HOX.out.token K hKl _
      | 2, _ =>
        obtain ⟨M, hM⟩ : ∃ M, m = M + 1 := ⟨m - 1, by omega⟩
        have hMl : M < l'.length := by rw [HLM.out]; omega
        obtain ⟨r0, r1, rf⟩ := HOX.out.at M hMl
        have hw1 : IntKind.i64.wrap ((m : Int) - 1) = (M : Int) := by rw [IntKind.wrap_i64]; omega
        have e2 : (0 : Int) ≤ (M : Int) := by omega
        have e3 : (M : Int) < (m : Int) := by omega
        have htw := Cm.held_twice_at l' M (by rw [HLM.out]; exact hM)
        have HTW := Lib.hid htw
        have hXl := Cm.get_lt HBX.out
        have HXL := Lib.hid hXl
        generalize l'[M] = gg at r0 r1 HTW htw
        clear hM
        obtain ⟨gn, gt⟩ := gg
        dsimp only at r0 r1
        have HOW : Hid ((Wx.alloc (.cells #[.string (bstr gn), .int .i64 gt] 49)).drew.ownsRow (X + 1) 49 2 (.slice (some ⟨g, 0, none⟩) m cap) m (Cm.gCells l')) := by
          have q := Rw.own_below HOX.out.own ((newAlloc Wx (.cells #[.string (bstr gn), .int .i64 gt] 49)).drew)
          rw [HLM.out] at q
          exact q
        have HSZ : Hid (X + 1 ≤ (Wx.alloc (.cells #[.string (bstr gn), .int .i64 gt] 49)).drew.heap.size) := Lib.hid (by have hz : (Wx.alloc (.cells #[.string (bstr gn), .int .i64 gt] 49)).drew.heap.size = Wx.heap.size + 1 := (by simp); rw [hz]; omega)
        have HNEWS : Hid (∀ j_1 u, [Value.string (bstr gn), .int .i64 gt][j_1]? = some u → (Wx.alloc (.cells #[.string (bstr gn), .int .i64 gt] 49)).drew.cell? ((⟨Wx.heap.size, 0, none⟩ : Addr).add j_1) = some u) :=
          World.news_of_block (w := (Wx.alloc (.cells #[.string (bstr gn), .int .i64 gt] 49)).drew) (cs := #[.string (bstr gn), .int .i64 gt]) (t := 49) (fr := (0, 0)) (by show (Wx.heap.push _)[Wx.heap.size]? = _; simp)
        have HQ5 : Hid (∀ w5, (Wx.alloc (.cells #[.string (bstr gn), .int .i64 gt] 49)).drew.grownBy w5 (Value.slice (some ⟨g, 0, none⟩) m cap).ownBlock → w5.heap[X]? = some (Cm.repBox k 3 d (.slice (some ⟨g, 0, none⟩) m cap))) := Lib.hid fun w5 hg => by
          refine (hg.block X (by show X < (Wx.heap.push _).size; simp; omega) (fun q => ?_)).trans (((newAlloc Wx _).block X hXl).trans HBX.out)
          have : X = g := by simpa [Value.ownBlock] using q
          omega
        obtain ⟨-, -, -, x3b, -⟩ := Cm.box_cells (((newAlloc Wx (.cells #[.string (bstr gn), .int .i64 gt] 49)).block X hXl).trans HBX.out)
        clear C0 x0 x1 x2 xf htw hXl HM' l1 l2 hnl
        go_upto_region 17 with fail
        go_region_law ((refine Cm.step_append_own (by rfl) _ _ _ (by rfl) (X + 1) 49 i0 _ 2 24 Try.underlying23 hi hz0 hz1 hz2 rfl (by omega) _ m _ (by rfl) HOW.out ⟨Wx.heap.size, 0, none⟩ 1 1 [.string (bstr gn), .int .i64 gt] (by rfl) rfl HNEWS.out (by simp [Value.oneCell']) (by unfold maxLen; omega) (by omega) HSZ.out ?_; intro v5 w5 hown5 hgrow5 _; obtain ⟨a5, c5, rfl⟩ := Rw.own_form hown5; obtain ⟨-, -, -, y3, yf⟩ := Cm.box_cells (HQ5.out w5 hgrow5)))
        all_goals
          go_wp2
          go_meet
          case rel =>
            have HX5 := HQ5.out w5 hgrow5
            refine ⟨rfl, k, 3, d, l' ++ [⟨gn, gt⟩], a5, c5, ?_, ?_, Cm.may_held HTW.out, ?_⟩
            · rw [List.length_append, HLM.out]
              exact Cm.set_box HX5 _
            · refine Cm.RdH.own (base := X + 1) (e := 49) (Rw.own_keep ?_ fun x hx => Below.heap_setCell _ _ _ _ (by have := (Rw.own_lt hown5 x (by rw [List.length_append, HLM.out] at hx; exact hx)).1; show x ≠ X; omega))
              rw [List.length_append, HLM.out, Cm.gCells_snoc]
              exact hown5
            · refine (Below.grown ((stepAlloc HBW.out (.cells #[.string (bstr gn), .int .i64 gt] 49)).drew) hgrow5 ?_ (fun x hx => ?_)).setCell hwX _
              · have := HSZ.out; omega
              · have : x = g := by simpa [Value.ownBlock, eq_comm] using hx
                omega
      | 3, _ =>
        have hKl : K < l'.length := by rw [HLM.out]; exact hKm
        obtain ⟨r0, r1, rf⟩ := HOX.out.at K hKl
        have e2 : (0 : Int) ≤ (K : Int) := by omega
        have e3 : (K : Int) < (m : Int) := by omega
        have hsz : (bstr l'[K].name).size ≤ 12 := by rw [bstr_size]; exact ((Cm.mayP_bounds _ HM'.out).2.2.2.2 l'[K] (List.getElem_mem _)).1
        go_upto_region 19 with fail
        clear C0 xf x0 x1 x2 r1
        go_region
        all_goals
          go_wp2
          go_meet
          case rel =>
            rw [Cm.bstr_under]
            refine ⟨rfl, k, 3, d, l'.set K ⟨l'[K].name ++ [95], l'[K].token⟩, some ⟨g, 0, none⟩, cap, ?_, ?_, Cm.may_held (Cm.held_bad _ none ⟨l'[K].name ++ [95], l'[K].token⟩ (List.mem_iff_getElem.2 ⟨K, by simp [hKl], by simp⟩) (.inl (Cm.name_under _))), (HBW.out.setCell hgw _).drew⟩
            · show (Wx.setCell _ _).heap[X]? = _
              rw [List.length_set, HLM.out, Below.heap_setCell _ _ _ _ (show X ≠ g from hgX.symm)]
              exact HBX.out
            · rw [List.length_set]
              exact (HOX.out.name K hKl _).later (Below.refl _ _).drew
    case rest =>
      obtain ⟨rfl, k', s', d', q, a', p', hblk, hdq, hbad, hbd⟩ := hcut
      have hbadA : Cm.mayA ⟨1, 1, ⟨k', s', d', q⟩⟩ = false := by unfold Cm.mayA; rw [hbad, Bool.and_false]
      have C2 := Lib.hid (fun (w' : World) (hb : Below wc.heap.size wc w') => Cm.RepPut_bad ⟨k', s', d', q⟩ _ hbad w' (hdq.later hb))
      have C3 := Lib.hid (fun (w' : World) (hb : Below wc.heap.size wc w') => Cm.RepPutAnswer_bad ⟨1, 1, ⟨k', s', d', q⟩⟩ _ hbadA w' (hdq.later hb))
      have C4 := Lib.hid (fun (w' : World) (hb : Below wc.heap.size wc w') => Cm.RepMay_any ⟨k', s', d', q⟩ _ w' (hdq.later hb))
      unfold Cm.repVal at C2 C4
      unfold Cm.ansVal at C3
      dsimp only at C2 C3 C4
      rw [hbad] at C4
      have HBL := Lib.hid hblk
      have HBD := Lib.hid hbd
      obtain ⟨x0, x1, x2, x3, xf⟩ := Cm.box_cells hblk
      clear hblk hdq hbad hbadA hbd HBX HOX HBW HM' HLM
      go_wp2_with (first
        | (go_at_call 10; refine (C2.out _ (Below.refl _ _)).mono ?_; rintro e w2 ⟨b1, c1, rfl, hb2⟩; have HB2 := Lib.hid hb2; obtain ⟨x0, x1, x2, x3, xf⟩ := Cm.box_cells ((hb2.block _ (Cm.get_lt HBL.out)).trans HBL.out))
        | (go_at_call 19; refine (C3.out _ HB2.out).mono ?_; rintro e w3 ⟨b2, c2, rfl, hb3⟩; have HB3 := Lib.hid (step HB2.out hb3); obtain ⟨x0, x1, x2, x3, xf⟩ := Cm.box_cells ((HB3.out.block _ (Cm.get_lt HBL.out)).trans HBL.out))
        | (go_at_call 14; refine (C4.out _ HB3.out).mono ?_; rintro e w4 ⟨rfl, hb4⟩; have HB4 := Lib.hid (step HB3.out hb4))
        | (go_at_call 9; refine (C0.out _).mono ?_; rintro e w5 ⟨rfl, hb5⟩))
      go_ret
      exact ⟨rfl, step HBD.out (step HB4.out hb5)⟩

/-! ### THE ROW's STEP -/
set_option maxRecDepth 100000 in
theorem lifted (os : Os) (started : os.Started) (H : Type) (enc : TypeId × Value → H) :
    ReturnsInHanded {} Try.checked os 6 .any (Rows.replyRefusesSpec.pre6 enc Try.prog Try.f6 Rows.replyRefusesRow.domain false) (Rows.replyRefusesSpec.post enc Try.prog Try.f6 false true false false) := by
  refine returnsInHanded_of_change (C := Try.checked) own started (by kernel_rfl) Try.func6
    (ChangeSpec.witness6 (enc := enc) (C := Try.checked) false ⟨#[], #[.slice none 0 0, .int .u8 0, .int .u8 0], []⟩ 8 (by kernel_rfl) (by kernel_rfl) (by kernel_rfl) (by kernel_rfl)) ?_
  intro W base args ds gs before hval0 hW hcnd _
  have hval : ∀ (j : Nat) t v, Try.f6.params[j]? = some t → args[j]? = some v → Value.okWide Try.prog W .any base t v := hval0
  have hW' := hW
  obtain ⟨p, q, hA0, hV, rfl, hfz, hnd⟩ := hW
  have hA : DataW.TrodAll enc Try.prog W 0 (fun _ => true) true Try.f6.params.toList args.toList ds p := hA0
  rw [Try.params6] at hA hval
  obtain ⟨v0, vs0, d0, ds0, p0, q0, hargs, rfl, rfl, h0, r0⟩ := trodAll_cons hA
  obtain ⟨v1, vs1, d1, ds1, p1, q1, rfl, rfl, rfl, h1, r1⟩ := trodAll_cons r0
  obtain ⟨v2, vs2, d2, ds2, p2, q2, rfl, rfl, rfl, h2, r2⟩ := trodAll_cons r1
  obtain ⟨rfl, rfl, rfl⟩ := trodAll_nil r2
  obtain rfl : args = #[v0, v1, v2] := by cases args; simp_all
  obtain ⟨rfl, rfl⟩ := trodVars_none hV
  obtain ⟨a0, len0, cap0, rfl⟩ := okWide_slice Try.underlying26 (hval 0 26 v0 rfl rfl)
  have k0 := h0
  have lt0 : ∀ x ∈ p0, x.block < W.heap.size := by obtain ⟨m, hm⟩ := k0; exact DataW.trod_lt m _ _ _ hm
  obtain ⟨z0, w0⟩ : ∃ zs, IsRow .u8 W a0 len0 cap0 zs := by
    obtain ⟨fuel, hf⟩ := h0
    rcases open_ints Try.underlying26 Try.underlying5 (by kernel_rfl) hf with ⟨hcs, _⟩ | ⟨x, l, c, zs, hcs, _, hl, hm, hz, _, hcell, hwz⟩
    · simp [Value.cells] at hcs
      obtain ⟨rfl, rfl, rfl⟩ := hcs
      exact ⟨[], .inl ⟨rfl, rfl, rfl, rfl⟩⟩
    · simp [Value.cells] at hcs
      obtain ⟨rfl, rfl, rfl⟩ := hcs
      exact ⟨zs, .inr ⟨_, rfl, hl, hm, by simpa using hz, hcell, hwz⟩⟩
  obtain ⟨a1, rfl, rfl, rfl, w1⟩ := open_int Try.underlying5 (hval 1 5 v1 rfl rfl) h1
  obtain ⟨a2, rfl, rfl, rfl, w2⟩ := open_int Try.underlying5 (hval 2 5 v2 rfl rfl) h2
  clear hA0 hval0
  refine (walk a0 len0 cap0 z0 a1 a2 W w0 w1 w2).mono fun e W' ⟨he, bel⟩ => ?_
  subst he
  exact ⟨_, rfl, _, _, _, [], _, [], hW', trodAll_mk1 (shut_bool Try.underlying4 _), (trodAll_cons_mk (Below.trod laidOut (by kernel_rfl) (of_decide_eq_true (by kernel_rfl)) k0 bel lt0) (trodAll_cons_mk (shut_int Try.underlying5 w1) (trodAll_cons_mk (shut_int Try.underlying5 w2) trodAll_mk0))), rfl, bel.frame _, fun h => by cases h⟩

theorem over : Rows.replyRefusesRow.holds Try.pinned (OpenSpec.ofChange Rows.replyRefusesSpec) :=
  OpenClaim.holds_of_wide 6 Try.f6 rfl rfl rfl rfl rfl rfl rfl ⟨rfl, rfl, rfl, rfl, rfl⟩ rfl rfl rfl rfl rfl (by kernel_rfl) Try.func6 (by kernel_rfl)
    (of_decide_eq_true (by kernel_rfl)) (by unfold Func.isWrapper; first | (rw [if_pos (by decide +kernel)]; kernel_rfl) | (rw [if_neg (by decide +kernel)]; exact ⟨rfl, rfl⟩))
    (fun os started H enc _ => lifted os started H enc)

/-- THE STATEMENT -/
theorem proved : Rows.ReplyRefusesSaid := over
end Go.Proofs.Ytklnopgnlnfbnaa.replyRefuses
