/- Contracts of the statements' own helpers of layer 4: awake, Named, Cmd, Req. -/
import Derived.Test.YtgjeheekemebaaaCmdF
import Derived.Test.YtgjeheekemebaaaArgA
set_option linter.unusedVariables false
set_option linter.unusedSimpArgs false
namespace Go.Proofs.Ytgjeheekemebaaa
open Go.RowKit
namespace Cm

theorem awake_ok (w : World) : Calls Try.prog 9 #[] w (SaysB true w) := by
  have e1 : putF ⟨1, 0, []⟩ = ([1, 0, 0, 0, 0, 0, 0, 0, 0, 0], 0) := by decide +kernel
  have e0 : bytesC ⟨1, 0, []⟩ = [1, 0, 0, 0, 0, 0, 0, 0, 0, 0] := by decide +kernel
  have e2 : getF [1, 0, 0, 0, 0, 0, 0, 0, 0, 0] 0 = (⟨1, 0, []⟩, 10, 0) := by
    have := getF_put ⟨1, 0, []⟩ (by decide +kernel) [] []
    rw [e0] at this
    exact this
  have c1 : ∀ w, Calls Try.prog 10 #[.agg #[.int .i64 1, .int .i64 0, .string ⟨#[]⟩]] w (MadeS ([1, 0, 0, 0, 0, 0, 0, 0, 0, 0], 0) w) := fun w => by
    have := Put_any ⟨1, 0, []⟩ w
    rw [e1] at this
    exact this.mono fun e w' h => Made.s h
  have c2 : ∀ v w, Rd w v [1, 0, 0, 0, 0, 0, 0, 0, 0, 0] → Calls Try.prog 12 #[v, .int .i64 0] w (fun e w' => e = .returned (.tuple #[.agg #[.int .i64 1, .int .i64 0, .string ⟨#[]⟩], .int .i64 10, .int .i64 0]) ∧ Below w.heap.size w w') := fun v w h => by
    have := Get_any v _ 0 w h (by omega)
    rw [e2] at this
    exact this
  have c3 : ∀ w, Calls Try.prog 16 #[.string ⟨#[97, 45, 48]⟩] w (Says true w) := fun w => by
    have := Name_any [97, 45, 48] w
    rw [show nameF [97, 45, 48] = true by decide +kernel] at this
    exact this
  have c4 : ∀ w, Calls Try.prog 16 #[.string ⟨#[]⟩] w (Says false w) := fun w => Name_any [] w
  have c5 : ∀ v w, Rd w v [1, 0, 0, 0, 0, 0, 0, 0, 0, 0] → (convert 24 9 v).run Try.prog w = .ok (.string ⟨#[1, 0, 0, 0, 0, 0, 0, 0, 0, 0]⟩) w := fun v w h => conv_rd w Try.underlying24 Try.underlying5 Try.underlying9 v _ h
  have C1 := Lib.hid c1
  have C2 := Lib.hid c2
  have C3 := Lib.hid c3
  have C4 := Lib.hid c4
  have C5 := Lib.hid c5
  clear c1 c2 c3 c4 c5 e0 e1 e2
  go_enter Try.func9, Try.ntmps9
  go_wp2_with (first
    | (go_at_call 10; refine (C1.out _).mono ?_; rintro e w1 ⟨a1, l1, d1, rfl, hr1, hb1⟩)
    | (go_at_call 12; refine (C2.out _ _ hr1).mono ?_; rintro e w2 ⟨rfl, hb2⟩; have hcv := C5.out _ _ (hr1.later (stepAlloc hb2 (.cells #[.int .i64 1, .int .i64 0, .string ⟨#[]⟩] 23)))))
  refine (C3.out _).mono ?_
  rintro e w3 ⟨rfl, rfl⟩
  go_wp2_with fail
  refine (C4.out _).mono ?_
  rintro e w3 ⟨rfl, rfl⟩
  go_wp2
  go_ret
  exact ⟨rfl, stepAlloc (step hb1 hb2) _⟩

/-- The statements' names, by number. -/
def namedF : Nat → List UInt8
  | 0 => [97]
  | 1 => [98]
  | 2 => [99]
  | 3 => [100]
  | 4 => [107, 101, 121, 45, 49]
  | _ => [116, 104, 101, 45, 108, 97, 115, 116, 45, 111, 110, 101]

theorem Named_any (n : Nat) (w : World) (h : n < 256) : Calls Try.prog 25 #[.int .u8 (n : Int)] w fun e w' => e = .returned (.string (bstr (namedF (n % 6)))) ∧ Below w.heap.size w w' := by
  have hm : n % 6 < 6 := Nat.mod_lt _ (by omega)
  have hc : ((n : Int) % 6) = ((n % 6 : Nat) : Int) := by simp
  generalize n % 6 = r at hm hc ⊢
  match r, hm with
  | 0, _ | 1, _ | 2, _ | 3, _ | 4, _ | 5, _ =>
    simp at hc
    go_enter Try.func25, Try.ntmps25
    go_wp2
    go_ret
    exact ⟨rfl, newAlloc _ _⟩

/-- What lies in two new blocks, later. -/
theorem boxAB {w w' : World} {A B : Array Value} {t u : TypeId} (h : Below ((w.alloc (.cells A t)).alloc (.cells B u)).heap.size ((w.alloc (.cells A t)).alloc (.cells B u)) w') :
    (∀ k, w'.cell? ⟨w.heap.size, k, none⟩ = A[k]?) ∧ (∀ k, w'.cell? ⟨w.heap.size + 1, k, none⟩ = B[k]?) ∧ (∀ k, w'.frozen? ⟨w.heap.size, k, none⟩ = false) ∧ (∀ k, w'.frozen? ⟨w.heap.size + 1, k, none⟩ = false) := by
  have h0 : w.heap.size < ((w.alloc (.cells A t)).alloc (.cells B u)).heap.size := by simp; omega
  have h1 : w.heap.size + 1 < ((w.alloc (.cells A t)).alloc (.cells B u)).heap.size := by simp
  refine ⟨fun k => ?_, fun k => ?_, fun k => ?_, fun k => ?_⟩
  · rw [h.cell (p := ⟨w.heap.size, k, none⟩) h0]; simp [go_sem]
  · rw [h.cell (p := ⟨w.heap.size + 1, k, none⟩) h1]; simp [go_sem]
  · rw [h.frozen (p := ⟨w.heap.size, k, none⟩) h0]; simp [go_sem]
  · rw [h.frozen (p := ⟨w.heap.size + 1, k, none⟩) h1]; simp [go_sem]

/-- A command that may be, by numbers. -/
def cmdOf (k s n : Nat) : CmdV := ⟨1 + ((k % 6 : Nat) : Int), if k % 6 = 0 then 0 else 1 + ((s : Int) % 7), if k % 6 = 2 ∨ k % 6 = 3 ∨ k % 6 = 4 then namedF (n % 6) else []⟩

set_option maxHeartbeats 4000000 in
theorem Cmd_any (k s n : Nat) (w : World) (hk : k < 256) (hs : s < 256) (hn : n < 256) : Calls Try.prog 40 #[.int .u8 (k : Int), .int .u8 (s : Int), .int .u8 (n : Int)] w fun e w' => e = .returned (cmdVal (cmdOf k s n)) ∧ Below w.heap.size w w' := by
  have hm : k % 6 < 6 := Nat.mod_lt _ (by omega)
  have hc : ((k : Int) % 6) = ((k % 6 : Nat) : Int) := by simp
  have CN := Lib.hid (fun w => Named_any n w hn)
  unfold cmdOf cmdVal
  generalize k % 6 = r at hm hc ⊢
  generalize namedF (n % 6) = nm at CN ⊢
  match r, hm with
  | 0, _ | 1, _ | 2, _ | 3, _ | 4, _ | 5, _ =>
    simp at hc
    dsimp only
    go_enter Try.func40, Try.ntmps40
    go_wp2_with (go_at_call 25; refine (CN.out _).mono ?_; rintro e w1 ⟨rfl, hb1⟩; obtain ⟨c0, c1, f0, f1⟩ := boxAB hb1)
    first
      | (refine bodyPost_ret (by simp [results, Try.results40, go_sem]; rfl) rfl ⟨by simp [bstr], stepAlloc (newAlloc _ _) _⟩)
      | (refine bodyPost_ret (by simp [results, Try.results40, go_sem, c0, c1, f0, f1]; rfl) rfl ⟨by simp, set3 ((step (stepAlloc (newAlloc _ _) _) hb1).setCell (by simp) _) _ _ _⟩)

theorem cmdOf_may (k s n : Nat) : mayF (cmdOf k s n) = true := by
  have hm : k % 6 < 6 := Nat.mod_lt _ (by omega)
  have hn : n % 6 < 6 := Nat.mod_lt _ (by omega)
  have hs1 : 0 ≤ (s : Int) % 7 := by omega
  have hs2 : (s : Int) % 7 < 7 := by omega
  have hN : nameF (namedF (n % 6)) = true := by
    generalize n % 6 = r at hn
    match r, hn with
    | 0, _ | 1, _ | 2, _ | 3, _ | 4, _ | 5, _ => decide +kernel
  unfold cmdOf mayF highF
  generalize k % 6 = r at hm ⊢
  match r, hm with
  | 0, _ | 1, _ | 2, _ | 3, _ | 4, _ | 5, _ => simp [hN] <;> omega

/-- A request that may be, by numbers. -/
def reqOf (c q k s n : Nat) : ReqV := ⟨((c % 8 : Nat) : Int), 1 + (q : Int), cmdOf k s n⟩

theorem reqOf_may (c q k s n : Nat) (hq : q < 256) : mayR (reqOf c q k s n) = true := by
  have hm : c % 8 < 8 := Nat.mod_lt _ (by omega)
  unfold reqOf mayR highF
  simp [cmdOf_may]
  omega

theorem Req_any (c q k s n : Nat) (w : World) (hc : c < 256) (hq : q < 256) (hk : k < 256) (hs : s < 256) (hn : n < 256) : Calls Try.prog 24 #[.int .u8 (c : Int), .int .u8 (q : Int), .int .u8 (k : Int), .int .u8 (s : Int), .int .u8 (n : Int)] w fun e w' => e = .returned (reqVal (reqOf c q k s n)) ∧ Below w.heap.size w w' := by
  have CN := Lib.hid (fun w => Cmd_any k s n w hk hs hn)
  have hc8 : ((c : Int) % 8) = ((c % 8 : Nat) : Int) := by simp
  unfold reqVal reqOf
  unfold cmdVal at CN
  generalize cmdOf k s n = x at CN ⊢
  obtain ⟨ck, cs, cn⟩ := x
  dsimp only at CN ⊢
  generalize c % 8 = r at hc8 ⊢
  go_enter Try.func24, Try.ntmps24
  go_wp2_with (go_at_call 40; refine (CN.out _).mono ?_; rintro e w1 ⟨rfl, hb1⟩; obtain ⟨c0, c1, c2, c3, c4⟩ := box5 hb1; have f0 := free5 hb1)
  refine bodyPost_ret (by simp [results, Try.results24, go_sem, c0, c1, c2, c3, c4, f0]) rfl ⟨rfl, set5 (step (newAlloc _ _) hb1) _ _ _ _ _⟩
end Cm
end Go.Proofs.Ytgjeheekemebaaa
