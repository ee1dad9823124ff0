/- Contracts of package octet's small readers. -/
import Derived.Test.YtklnopgnlnfbnaaBase
import Derived.Test.YtklnopgnlnfbnaaProg
import Derived.Defers
import Derived.Recover
set_option linter.unusedVariables false
set_option linter.unusedSimpArgs false
namespace Go.Proofs.Ytklnopgnlnfbnaa
open Go.RowKit

theorem need_ok (a : Option Addr) (len cap : Nat) (t s : Int) (w : World) (hm : len ≤ maxLen) (h0 : 0 ≤ t) (h1 : 0 ≤ s) (h2 : t + s ≤ len) :
    Calls Try.prog 54 #[.slice a len cap, .int .i64 t, .int .i64 s] w fun e w' => e = .returned (.tuple #[]) ∧ w = w' := by
  unfold maxLen at hm
  go_enter Try.func54, Try.ntmps54
  go_wp2
  go_end0
  exact ⟨rfl, rfl⟩

theorem need_neg (a : Option Addr) (len cap : Nat) (t s : Int) (w : World) (h0 : t < 0) :
    Calls Try.prog 54 #[.slice a len cap, .int .i64 t, .int .i64 s] w fun e w' => e = .panicked [{ v := .iface 79 (.agg #[.int .i64 2]), recovered := false }] ∧ w = w' := by
  go_enter Try.func54, Try.ntmps54
  go_wp2
  exact ⟨rfl, rfl, rfl⟩

theorem need_few (a : Option Addr) (len cap : Nat) (t s : Int) (w : World) (hm : len ≤ maxLen) (h0 : 0 ≤ t) (ht : t ≤ 9223372036854775807) (h1 : (len : Int) - t < s) :
    Calls Try.prog 54 #[.slice a len cap, .int .i64 t, .int .i64 s] w fun e w' => e = .panicked [{ v := .iface 79 (.agg #[.int .i64 2]), recovered := false }] ∧ w = w' := by
  unfold maxLen at hm
  go_enter Try.func54, Try.ntmps54
  go_wp2
  exact ⟨rfl, rfl, rfl⟩
end Go.Proofs.Ytklnopgnlnfbnaa
