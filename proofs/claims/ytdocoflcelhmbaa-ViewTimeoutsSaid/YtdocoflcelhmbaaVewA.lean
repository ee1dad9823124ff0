/- Contracts of package view, and of the document's answers for it: quorums, leaders, who leads next. -/
import Derived.Test.YtdocoflcelhmbaaFView
import Derived.Test.YtdocoflcelhmbaaProg
set_option linter.unusedVariables false
set_option maxRecDepth 8000
set_option linter.unusedSimpArgs false
namespace Go.Proofs.Ytdocoflcelhmbaa
open Go.RowKit
namespace Vw

theorem within_any (v a b : Int) (w : World) : Calls Try.prog 26 #[.int .i64 v, .int .i64 a, .int .i64 b] w (Tells (.bool (withinF v a b)) w) := by
  unfold withinF
  by_cases h1 : a ≤ v <;> by_cases h2 : v ≤ b <;>
    (go_enter Try.func26, Try.ntmps26
     go_wp2
     go_ret
     exact ⟨by simp [h1, h2] <;> omega, rfl⟩)

theorem areReplicas_any (n : Int) (w : World) : Calls Try.prog 22 #[.int .i64 n] w (Tells (.bool (someF n)) w) := by
  go_enter Try.func22, Try.ntmps22
  go_wp2_with (go_at_call 26; refine (within_any _ _ _ _).mono ?_; rintro e w' ⟨rfl, rfl⟩)
  go_ret
  exact ⟨rfl, rfl⟩

theorem isView_any (n : Int) (w : World) : Calls Try.prog 24 #[.int .i64 n] w (Tells (.bool (hiF n)) w) := by
  go_enter Try.func24, Try.ntmps24
  go_wp2_with (go_at_call 26; refine (within_any _ _ _ _).mono ?_; rintro e w' ⟨rfl, rfl⟩)
  go_ret
  exact ⟨rfl, rfl⟩

theorem high12_any (v : Int) (w : World) : Calls Try.prog 25 #[.int .i64 v, .int .i64 0] w (Tells (.bool (hiF v)) w) := by
  unfold hiF withinF
  by_cases h1 : 0 ≤ v <;> by_cases h2 : v ≤ 2305843009213693952 <;>
    (go_enter Try.func25, Try.ntmps25
     go_wp2
     go_ret
     exact ⟨by simp [h1, h2] <;> omega, rfl⟩)

theorem some_any (v : Int) (w : World) : Calls Try.prog 23 #[.int .i64 v] w (Tells (.bool (someF v)) w) := by
  unfold someF withinF
  by_cases h1 : 1 ≤ v <;> by_cases h2 : v ≤ 7 <;>
    (go_enter Try.func23, Try.ntmps23
     go_wp2
     go_ret
     exact ⟨by simp [h1, h2] <;> omega, rfl⟩)

theorem ticks_any (v a : Int) (w : World) : Calls Try.prog 27 #[.int .i64 v, .int .i64 a] w (Tells (.bool (withinF v a 1000000)) w) := by
  unfold withinF
  by_cases h1 : a ≤ v <;> by_cases h2 : v ≤ 1000000 <;>
    (go_enter Try.func27, Try.ntmps27
     go_wp2
     go_ret
     exact ⟨by simp [h1, h2] <;> omega, rfl⟩)

theorem someF_iff {n : Int} : someF n = true ↔ 1 ≤ n ∧ n ≤ 7 := by simp [someF, withinF]
theorem hiF_iff {n : Int} : hiF n = true ↔ 0 ≤ n ∧ n ≤ 2305843009213693952 := by simp [hiF, withinF]

theorem Quorum_any (n : Int) (w : World) : Calls Try.prog 10 #[.int .i64 n] w (Tells (.int .i64 (quorumF n)) w) := by
  have CA := Lib.hid (fun w => areReplicas_any n w)
  unfold quorumF
  cases h : someF n <;> rw [h] at CA
  · go_enter Try.func10, Try.ntmps10
    go_wp2_with (go_at_call 22; refine (CA.out _).mono ?_; rintro e w' ⟨rfl, rfl⟩)
    go_ret
    exact ⟨rfl, rfl⟩
  · obtain ⟨h1, h2⟩ := someF_iff.1 h
    have e : n.tdiv 2 = n / 2 := Int.tdiv_eq_ediv_of_nonneg (by omega)
    have e2 : IntKind.i64.wrap (n / 2) = n / 2 := by rw [IntKind.wrap_i64]; omega
    have e3 : IntKind.i64.wrap (n / 2 + 1) = n / 2 + 1 := by rw [IntKind.wrap_i64]; omega
    clear h
    go_enter Try.func10, Try.ntmps10
    go_wp2_with (go_at_call 22; refine (CA.out _).mono ?_; rintro e w' ⟨rfl, rfl⟩)
    go_ret
    exact ⟨rfl, rfl⟩

theorem RefQuorum_any (n : Int) (w : World) : Calls Try.prog 11 #[.int .i64 n] w (Tells (.int .i64 (quorumF n)) w) := by
  have CA := Lib.hid (fun w => some_any n w)
  unfold quorumF
  cases h : someF n <;> rw [h] at CA
  · go_enter Try.func11, Try.ntmps11
    go_wp2_with (go_at_call 23; refine (CA.out _).mono ?_; rintro e w' ⟨rfl, rfl⟩)
    go_ret
    exact ⟨rfl, rfl⟩
  · obtain ⟨h1, h2⟩ := someF_iff.1 h
    have e : n.tdiv 2 = n / 2 := Int.tdiv_eq_ediv_of_nonneg (by omega)
    have e2 : IntKind.i64.wrap (n / 2) = n / 2 := by rw [IntKind.wrap_i64]; omega
    have e3 : IntKind.i64.wrap (n / 2 + 1) = n / 2 + 1 := by rw [IntKind.wrap_i64]; omega
    clear h
    go_enter Try.func11, Try.ntmps11
    go_wp2_with (go_at_call 23; refine (CA.out _).mono ?_; rintro e w' ⟨rfl, rfl⟩)
    go_ret
    exact ⟨rfl, rfl⟩
end Vw
end Go.Proofs.Ytdocoflcelhmbaa
