/- Contracts: padlockref6's RightSessions. -/
import Derived.Test.YtkhcnhfdcbellaaSesB
set_option linter.unusedVariables false
set_option linter.unusedSimpArgs false
namespace Go.Proofs.Ytkhcnhfdcbellaa
open Go.RowKit
namespace Cm

theorem quiet_eq6 {P : Program} {f : FuncId} {args : Array Value} {w : World} {n : Nat} {v : Value}
    (h : Calls P f args (w.drewN n) fun e w' => e = .returned v ∧ w.drewN n = w') : Calls P f args (w.drewN n) fun e w'' => e = .returned v ∧ ∃ m, w'' = w.drewN m :=
  h.mono fun _ _ ⟨he, hm⟩ => ⟨he, n, hm.symm⟩

theorem rightGo_drop (l : List SesV) (j : Nat) (h : j < l.length) : rightGo (l.take j) (l.drop j) = (sesOk (l.take j) l[j] && rightGo (l.take (j + 1)) (l.drop (j + 1))) := by
  rw [List.drop_eq_getElem_cons h, List.take_succ_eq_append_getElem h]
  rfl

def allN (l : List SesV) (n : Int) : Bool := l.all fun p => !decide (p.num = n)

theorem allN_drop (l : List SesV) (n : Int) (j k : Nat) (hj : j ≤ l.length) (h : k < j) : allN ((l.take j).drop k) n = (!decide ((l[k]'(by omega)).num = n) && allN ((l.take j).drop (k + 1)) n) := by
  have hk : k < (l.take j).length := by rw [List.length_take]; omega
  rw [List.drop_eq_getElem_cons hk]
  have e : (l.take j)[k] = l[k]'(by omega) := List.getElem_take
  unfold allN
  rw [List.all_cons, e]

theorem sesOk_first (s : SesV) : sesOk [] s = (clientF s.client && (highF s.num 1 && (highF s.ren 0 && allN [] s.num))) := by
  unfold sesOk allN
  simp [Bool.and_assoc]

theorem sesOk_next (l : List SesV) (q : Nat) (h : q < l.length) (s : SesV) : sesOk (l.take (q + 1)) s = (clientF s.client && (highF s.num 1 && (highF s.ren 0 && (decide (l[q].client < s.client) && allN (l.take (q + 1)) s.num)))) := by
  unfold sesOk allN
  have e : (l.take (q + 1)).getLast? = some l[q] := by rw [List.take_succ_eq_append_getElem h, List.getLast?_append]; simp
  rw [e]
  simp [Bool.and_assoc]

set_option maxHeartbeats 4000000 in
theorem Right_any (v : Value) (l : List SesV) (w : World) (h : RdS w v l) : Calls Try.prog 22 #[v] w (SaysB (rightS l) w) := by
  have hm := h.len
  obtain ⟨a, cap, rfl⟩ := h.form
  unfold rightS
  by_cases c6 : l.length ≤ 5
  case neg =>
    rw [decide_eq_false c6]
    clear h
    have d5 : decide (5 < (l.length : Int)) = true := by simp; omega
    go_enter Try.func22, Try.ntmps22
    go_wp2
    go_ret
    exact ⟨by simp, Below.refl _ _⟩
  have d5 : decide (5 < (l.length : Int)) = false := by simp; omega
  rw [decide_eq_true c6, Bool.true_and]
  have HA := Lib.hid (fun i hi => rds_at h i hi)
  have HD := Lib.hid (rightGo_drop l)
  have HN := Lib.hid (allN_drop l)
  have H0 := Lib.hid sesOk_first
  have H1 := Lib.hid (sesOk_next l)
  clear h
  obtain ⟨L, hL⟩ : ∃ L, l.length = L := ⟨_, rfl⟩
  have HLL := Lib.hid hL
  rw [hL] at hm c6 d5 ⊢
  clear hL
  go_enter Try.func22, Try.ntmps22
  go_wp2
  go_loopw [3] (fun i wr => ∃ j : Nat, j ≤ L ∧ i = .int .i64 j ∧ Hid (Below w.heap.size w wr) ∧ Hid (rightGo [] l = rightGo (l.take j) (l.drop j))) (fun i _ => L - (intOf i).toNat)
  case atStart => exact ⟨0, by omega, rfl, Lib.hid (Below.refl _ _), Lib.hid rfl⟩
  case round =>
    obtain ⟨j, hj, rfl, HB, ha⟩ := hrel
    by_cases hlt : j < L
    · have hjl : j < l.length := by rw [HLL.out]; exact hlt
      have hd := HD.out j hjl
      obtain ⟨b, o, rfl, hc⟩ := HA.out j hjl
      obtain ⟨q0, q1, q2⟩ := hc _ HB.out
      have HC : Hid (∀ i (hi : i < l.length) (w' : World), Below w.heap.size w w' → w'.cell? ⟨b, o + i * 3, none⟩ = some (.int .i64 l[i].client) ∧ w'.cell? ⟨b, o + i * 3 + 1, none⟩ = some (.int .i64 l[i].num)) := fun i hi w' hb => by
        obtain ⟨b', o', e, hc'⟩ := HA.out i hi
        cases e
        obtain ⟨x0, x1, -⟩ := hc' w' hb
        exact ⟨x0, x1⟩
      clear hc
      generalize l[j] = g at q0 q1 q2 hd
      obtain ⟨gc, gn, gr⟩ := g
      dsimp only at q0 q1 q2
      have HB1 := Lib.hid (stepAlloc HB.out (.cells #[.int .i64 gc, .int .i64 gn, .int .i64 gr] 34))
      obtain ⟨y0, y1, y2⟩ := box3 (Below.refl _ (wr.alloc (.cells #[.int .i64 gc, .int .i64 gn, .int .i64 gr] 34)))
      have hs : sesOk (l.take j) ⟨gc, gn, gr⟩ = (clientF gc && (highF gn 1 && (highF gr 0 && ((if 0 < j then decide ((l.getD (j - 1) zeroS).client < gc) else true) && allN (l.take j) gn)))) := by
        cases j with
        | zero => simpa using H0.out ⟨gc, gn, gr⟩
        | succ q =>
          have hq : q < l.length := by omega
          rw [H1.out q hq ⟨gc, gn, gr⟩]
          simp [List.getD, List.getElem?_eq_getElem hq]
      rw [hs] at hd
      clear hs
      cases n1 : clientF gc
      case false =>
        rw [n1, Bool.false_and, Bool.false_and] at hd
        have H := Lib.hid hd
        clear hd
        go_upto_region 7 with fail
        go_quiet (first | (go_at_call 30; exact quiet_eq6 (client6_any _ _)) | (go_at_call 31; exact quiet_eq6 (high6_any _ _ _)))
        go_wp2
        go_ret
        exact ⟨by rw [ha.out, H.out]; rfl, below_drewN6 HB1.out nq⟩
      rw [n1, Bool.true_and] at hd
      cases n2 : highF gn 1
      case false =>
        rw [n2, Bool.false_and, Bool.false_and] at hd
        have H := Lib.hid hd
        clear hd
        go_upto_region 7 with fail
        go_quiet (first | (go_at_call 30; exact quiet_eq6 (client6_any _ _)) | (go_at_call 31; exact quiet_eq6 (high6_any _ _ _)))
        go_wp2
        go_ret
        exact ⟨by rw [ha.out, H.out]; rfl, below_drewN6 HB1.out nq⟩
      rw [n2, Bool.true_and] at hd
      cases n3 : highF gr 0
      case false =>
        rw [n3, Bool.false_and, Bool.false_and] at hd
        have H := Lib.hid hd
        clear hd
        go_upto_region 7 with fail
        go_quiet (first | (go_at_call 30; exact quiet_eq6 (client6_any _ _)) | (go_at_call 31; exact quiet_eq6 (high6_any _ _ _)))
        go_wp2
        go_ret
        exact ⟨by rw [ha.out, H.out]; rfl, below_drewN6 HB1.out nq⟩
      rw [n3, Bool.true_and] at hd
      by_cases hj0 : 0 < j
      · obtain ⟨q, hq⟩ : ∃ q, j = q + 1 := ⟨j - 1, by omega⟩
        have hql : q < l.length := by omega
        have d0 : decide (0 < j) = true := decide_eq_true hj0
        have eg : l.getD (j - 1) zeroS = l[q] := by rw [hq]; simp [List.getD, List.getElem?_eq_getElem hql]
        rw [if_pos hj0, eg] at hd
        obtain ⟨p0, -⟩ := HC.out q hql _ HB1.out
        generalize l[q] = pv at p0 hd eg
        clear eg
        obtain ⟨pc, pn, pr⟩ := pv
        dsimp only at p0 hd
        have e1 : IntKind.i64.wrap ((j : Int) - 1) = (q : Int) := by rw [IntKind.wrap_i64]; omega
        have e2 : (0 : Int) ≤ (q : Int) := by omega
        have e3 : (q : Int) < (L : Int) := by omega
        clear hq
        by_cases hpg : pc < gc
        case neg =>
          have d2 : decide (gc ≤ pc) = true := by simp; omega
          rw [decide_eq_false hpg, Bool.false_and, Bool.false_and] at hd
          have H := Lib.hid hd
          clear hd hpg
          go_upto_region 7 with fail
          go_quiet (first | (go_at_call 30; exact quiet_eq6 (client6_any _ _)) | (go_at_call 31; exact quiet_eq6 (high6_any _ _ _)))
          go_wp2
          go_ret
          exact ⟨by rw [ha.out, H.out]; rfl, below_drewN6 HB1.out nq⟩
        have d2 : decide (gc ≤ pc) = false := by simp; omega
        rw [decide_eq_true hpg, Bool.true_and] at hd
        clear hpg
        go_upto_region 7 with fail
        go_quiet (first | (go_at_call 30; exact quiet_eq6 (client6_any _ _)) | (go_at_call 31; exact quiet_eq6 (high6_any _ _ _)))
        clear n1 n2 n3 d0 d2 e1 e2 e3 p0 q0 q1 q2
        have HBW := Lib.hid (below_drewN6 HB1.out nq)
        have y1' : ((wr.alloc (.cells #[.int .i64 gc, .int .i64 gn, .int .i64 gr] 34)).drewN nq).cell? ⟨wr.heap.size, 1, none⟩ = some (.int .i64 gn) := y1
        clear y0 y1 y2
        generalize (wr.alloc (.cells #[.int .i64 gc, .int .i64 gn, .int .i64 gr] 34)).drewN nq = W at HBW y1' ⊢
        have HY := Lib.hid y1'
        generalize wr.heap.size = X at HY ⊢
        clear y1' HB HB1
        go_wp2
        go_loopw [5] (fun kk wk => ∃ k : Nat, k ≤ j ∧ kk = .int .i64 k ∧ Hid (Below W.heap.size W wk) ∧ Hid (allN (l.take j) gn = allN ((l.take j).drop k) gn)) (fun kk _ => j - (intOf kk).toNat)
        case atStart => exact ⟨0, by omega, rfl, Lib.hid (Below.refl _ _), Lib.hid rfl⟩
        case round =>
          obtain ⟨k, hk, rfl, HBK, hak⟩ := hrel
          have z1 := (HBK.out.cell (lt_of_cell HY.out)).trans HY.out
          by_cases hkj : k < j
          · have hkl : k < l.length := by rw [HLL.out]; omega
            have hn := HN.out gn j k (by rw [HLL.out]; exact hj) hkj
            obtain ⟨-, p1⟩ := HC.out k hkl _ (step HBW.out HBK.out)
            generalize l[k] = pv at p1 hn
            obtain ⟨pc, pn, pr⟩ := pv
            dsimp only at p1 hn
            have f1 : (0 : Int) ≤ (k : Int) := by omega
            have f2 : (k : Int) < (L : Int) := by omega
            by_cases hq : pn = gn
            · have dq : (pn == gn) = true := by simpa using hq
              rw [decide_eq_true hq, Bool.not_true, Bool.false_and] at hn
              rw [hak.out, hn, Bool.false_and] at hd
              have H := Lib.hid hd
              clear hd hn hq
              go_upto_region 12 with fail
              go_quiet (fail)
              go_wp2
              go_ret
              exact ⟨by rw [ha.out, H.out]; rfl, below_drewN6 (step HBW.out HBK.out) nq⟩
            · have dq : (pn == gn) = false := by simpa using hq
              rw [decide_eq_false hq, Bool.not_false, Bool.true_and] at hn
              have H := Lib.hid hn
              clear hd hn hq
              go_upto_region 12 with fail
              go_quiet (fail)
              go_wp2
              go_roundw
              case rel => exact ⟨k + 1, by omega, by go_num, Lib.hid (below_drewN6 HBK.out nq), Lib.hid (by rw [hak.out, H.out])⟩
              case measure => simp [intOf]; omega
          · obtain rfl : k = j := by omega
            have hall : allN (l.take k) gn = true := by
              rw [hak.out, List.drop_eq_nil_of_le (by rw [List.length_take]; omega)]
              rfl
            rw [hall, Bool.true_and] at hd
            have H := Lib.hid hd
            clear hd hall
            go_wp2
            go_roundw
            case rel => exact ⟨k + 1, by omega, by go_num, Lib.hid (step HBW.out HBK.out), Lib.hid (by rw [ha.out, H.out])⟩
            case measure => simp [intOf]; omega
      · have d0 : decide (0 < j) = false := decide_eq_false hj0
        rw [if_neg hj0, Bool.true_and] at hd
        go_upto_region 7 with fail
        go_quiet (first | (go_at_call 30; exact quiet_eq6 (client6_any _ _)) | (go_at_call 31; exact quiet_eq6 (high6_any _ _ _)))
        clear n1 n2 n3 d0 q0 q1 q2
        have HBW := Lib.hid (below_drewN6 HB1.out nq)
        have y1' : ((wr.alloc (.cells #[.int .i64 gc, .int .i64 gn, .int .i64 gr] 34)).drewN nq).cell? ⟨wr.heap.size, 1, none⟩ = some (.int .i64 gn) := y1
        clear y0 y1 y2
        generalize (wr.alloc (.cells #[.int .i64 gc, .int .i64 gn, .int .i64 gr] 34)).drewN nq = W at HBW y1' ⊢
        have HY := Lib.hid y1'
        generalize wr.heap.size = X at HY ⊢
        clear y1' HB HB1
        go_wp2
        go_loopw [5] (fun kk wk => ∃ k : Nat, k ≤ j ∧ kk = .int .i64 k ∧ Hid (Below W.heap.size W wk) ∧ Hid (allN (l.take j) gn = allN ((l.take j).drop k) gn)) (fun kk _ => j - (intOf kk).toNat)
        case atStart => exact ⟨0, by omega, rfl, Lib.hid (Below.refl _ _), Lib.hid rfl⟩
        case round =>
          obtain ⟨k, hk, rfl, HBK, hak⟩ := hrel
          have z1 := (HBK.out.cell (lt_of_cell HY.out)).trans HY.out
          by_cases hkj : k < j
          · have hkl : k < l.length := by rw [HLL.out]; omega
            have hn := HN.out gn j k (by rw [HLL.out]; exact hj) hkj
            obtain ⟨-, p1⟩ := HC.out k hkl _ (step HBW.out HBK.out)
            generalize l[k] = pv at p1 hn
            obtain ⟨pc, pn, pr⟩ := pv
            dsimp only at p1 hn
            have f1 : (0 : Int) ≤ (k : Int) := by omega
            have f2 : (k : Int) < (L : Int) := by omega
            by_cases hq : pn = gn
            · have dq : (pn == gn) = true := by simpa using hq
              rw [decide_eq_true hq, Bool.not_true, Bool.false_and] at hn
              rw [hak.out, hn, Bool.false_and] at hd
              have H := Lib.hid hd
              clear hd hn hq
              go_upto_region 12 with fail
              go_quiet (fail)
              go_wp2
              go_ret
              exact ⟨by rw [ha.out, H.out]; rfl, below_drewN6 (step HBW.out HBK.out) nq⟩
            · have dq : (pn == gn) = false := by simpa using hq
              rw [decide_eq_false hq, Bool.not_false, Bool.true_and] at hn
              have H := Lib.hid hn
              clear hd hn hq
              go_upto_region 12 with fail
              go_quiet (fail)
              go_wp2
              go_roundw
              case rel => exact ⟨k + 1, by omega, by go_num, Lib.hid (below_drewN6 HBK.out nq), Lib.hid (by rw [hak.out, H.out])⟩
              case measure => simp [intOf]; omega
          · obtain rfl : k = j := by omega
            have hall : allN (l.take k) gn = true := by
              rw [hak.out, List.drop_eq_nil_of_le (by rw [List.length_take]; omega)]
              rfl
            rw [hall, Bool.true_and] at hd
            have H := Lib.hid hd
            clear hd hall
            go_wp2
            go_roundw
            case rel => exact ⟨k + 1, by omega, by go_num, Lib.hid (step HBW.out HBK.out), Lib.hid (by rw [ha.out, H.out])⟩
            case measure => simp [intOf]; omega
    · obtain rfl : j = L := by omega
      go_wp2
      go_ret
      have ha := ha.out
      rw [← HLL.out, List.drop_length] at ha
      exact ⟨by rw [ha]; rfl, HB.out⟩
end Cm
end Go.Proofs.Ytkhcnhfdcbellaa
