/- Contracts of the document's clocks: New, Set, Now. -/
import Derived.Test.YthpfkbdbioabaaaClkF
set_option linter.unusedVariables false
set_option linter.unusedSimpArgs false
namespace Go.Proofs.Ythpfkbdbioabaaa
open Go.RowKit
attribute [local go_sem] Dbl.run_fadd Dbl.run_fsub Dbl.run_fmul Dbl.run_fdiv Dbl.run_fmax Dbl.run_fmin Dbl.unary_fneg Dbl.ford_lt Dbl.ford_gt Dbl.ford_eq Dbl.ford_ne Dbl.pick_told Dbl.pickW_told run_store_float

open Clk (St)

def cellR (bs br : Nat) (s : St) (i : Nat) : Value :=
  if i = 0 then .slice (some ⟨bs, 0, none⟩) s.n s.n else if i = 1 then .slice (some ⟨br, 0, none⟩) s.n s.n else if i = 2 then .int .i64 s.ref else .int .i64 s.worst

/-- The document's clocks: the struct, what they show, the rates. -/
structure HasR (w : World) (b bs br : Nat) (s : St) : Prop where
  obj : w.rowIs b 42 4 (cellR bs br s)
  sh : w.rowIs bs 3 s.n (fun i => .int .i64 (s.shown i))
  rt : w.rowIs br 37 s.n (fun i => .float .f64 (s.rate i))
  d1 : b ≠ bs
  d2 : b ≠ br
  d3 : bs ≠ br

/-- All blocks but these three are as they were. -/
structure Chg (a b c : Nat) (w w' : World) : Prop where
  os : w'.os = w.os
  tape : w'.tape = w.tape
  output : w'.output = w.output
  size : w.heap.size ≤ w'.heap.size
  block : ∀ k, k < w.heap.size → k ≠ a → k ≠ b → k ≠ c → w'.heap[k]? = w.heap[k]?

theorem Chg.refl (a b c : Nat) (w : World) : Chg a b c w w := ⟨rfl, rfl, rfl, Nat.le_refl _, fun _ _ _ _ _ => rfl⟩
theorem Chg.drew {a b c : Nat} {w w' : World} (h : Chg a b c w w') : Chg a b c w w'.drew := ⟨h.os, h.tape, h.output, h.size, h.block⟩
theorem Chg.set {a b c : Nat} {w w' : World} (h : Chg a b c w w') (ad : Addr) (v : Value) (ha : ad.block = a ∨ ad.block = b ∨ ad.block = c ∨ w.heap.size ≤ ad.block) : Chg a b c w (w'.setCell ad v) := by
  refine ⟨h.os, h.tape, h.output, by simpa [World.setCell] using h.size, fun k hk h1 h2 h3 => ?_⟩
  have hne : k ≠ ad.block := by
    rcases ha with q | q | q | q <;> omega
  exact (Below.heap_setCell _ _ _ _ hne).trans (h.block k hk h1 h2 h3)
theorem Chg.alloc {a b c : Nat} {w w' : World} (h : Chg a b c w w') (o : Obj) : Chg a b c w (w'.alloc o) :=
  ⟨h.os, h.tape, h.output, by rw [Go.Deep.nblk_alloc]; have := h.size; omega, fun k hk h1 h2 h3 => (Go.Deep.blk_alloc_lt _ _ _ (Nat.lt_of_lt_of_le hk h.size)).trans (h.block k hk h1 h2 h3)⟩
theorem Chg.below {A a b c : Nat} {w w' : World} (h : Chg a b c w w') (ha : A ≤ a) (hb : A ≤ b) (hc : A ≤ c) (hs : A ≤ w.heap.size) : Below A w w' :=
  ⟨h.os, h.tape, h.output, h.size, fun k hk => h.block k (by omega) (by omega) (by omega) (by omega)⟩

theorem HasR.later {w w' : World} {b bs br : Nat} {s : St} (h : HasR w b bs br s) (e1 : w'.heap[b]? = w.heap[b]?) (e2 : w'.heap[bs]? = w.heap[bs]?) (e3 : w'.heap[br]? = w.heap[br]?) : HasR w' b bs br s :=
  ⟨h.obj.of_block e1, h.sh.of_block e2, h.rt.of_block e3, h.d1, h.d2, h.d3⟩
theorem HasR.below {w w' : World} {b bs br : Nat} {s : St} (h : HasR w b bs br s) (hb : Below w.heap.size w w') : HasR w' b bs br s :=
  h.later (hb.block _ h.obj.lt) (hb.block _ h.sh.lt) (hb.block _ h.rt.lt)
theorem HasR.drew {w : World} {b bs br : Nat} {s : St} (h : HasR w b bs br s) : HasR w.drew b bs br s := h.later rfl rfl rfl

theorem HasR.c0 {w : World} {b bs br : Nat} {s : St} (h : HasR w b bs br s) : w.cell? ⟨b, 0, none⟩ = some (.slice (some ⟨bs, 0, none⟩) s.n s.n) := h.obj.cell (show 0 < 4 by omega)
theorem HasR.c1 {w : World} {b bs br : Nat} {s : St} (h : HasR w b bs br s) : w.cell? ⟨b, 1, none⟩ = some (.slice (some ⟨br, 0, none⟩) s.n s.n) := h.obj.cell (show 1 < 4 by omega)
theorem HasR.c2 {w : World} {b bs br : Nat} {s : St} (h : HasR w b bs br s) : w.cell? ⟨b, 2, none⟩ = some (.int .i64 s.ref) := h.obj.cell (show 2 < 4 by omega)
theorem HasR.c3 {w : World} {b bs br : Nat} {s : St} (h : HasR w b bs br s) : w.cell? ⟨b, 3, none⟩ = some (.int .i64 s.worst) := h.obj.cell (show 3 < 4 by omega)

theorem HasR.setRate {w : World} {b bs br : Nat} {s : St} (h : HasR w b bs br s) (i r : Nat) : HasR (w.setCell ⟨br, i, none⟩ (.float .f64 r)) b bs br { s with rate := Clk.upd s.rate i r } := by
  refine ⟨h.obj.setOther (a := ⟨br, i, none⟩) h.d2 _, h.sh.setOther (a := ⟨br, i, none⟩) h.d3 _, (h.rt.set i _).congr fun j hj => ?_, h.d1, h.d2, h.d3⟩
  show (if j = i then Value.float .f64 r else .float .f64 (s.rate j)) = .float .f64 (Clk.upd s.rate i r j)
  unfold Clk.upd
  split <;> rfl

theorem HasR.setShown {w : World} {b bs br : Nat} {s : St} (h : HasR w b bs br s) (i : Nat) (r : Int) : HasR (w.setCell ⟨bs, i, none⟩ (.int .i64 r)) b bs br { s with shown := Clk.upd s.shown i r } := by
  refine ⟨h.obj.setOther (a := ⟨bs, i, none⟩) h.d1 _, (h.sh.set i _).congr fun j hj => ?_, h.rt.setOther (a := ⟨bs, i, none⟩) h.d3.symm _, h.d1, h.d2, h.d3⟩
  show (if j = i then Value.int .i64 r else .int .i64 (s.shown j)) = .int .i64 (Clk.upd s.shown i r j)
  unfold Clk.upd
  split <;> rfl

theorem HasR.setRef {w : World} {b bs br : Nat} {s : St} (h : HasR w b bs br s) (r : Int) : HasR (w.setCell ⟨b, 2, none⟩ (.int .i64 r)) b bs br { s with ref := r } := by
  refine ⟨(h.obj.set 2 _).congr fun j hj => ?_, h.sh.setOther (a := ⟨b, 2, none⟩) h.d1.symm _, h.rt.setOther (a := ⟨b, 2, none⟩) h.d2.symm _, h.d1, h.d2, h.d3⟩
  rcases (by omega : j = 0 ∨ j = 1 ∨ j = 2 ∨ j = 3) with rfl | rfl | rfl | rfl <;> rfl

theorem HasR.setWorst {w : World} {b bs br : Nat} {s : St} (h : HasR w b bs br s) (r : Int) : HasR (w.setCell ⟨b, 3, none⟩ (.int .i64 r)) b bs br { s with worst := r } := by
  refine ⟨(h.obj.set 3 _).congr fun j hj => ?_, h.sh.setOther (a := ⟨b, 3, none⟩) h.d1.symm _, h.rt.setOther (a := ⟨b, 3, none⟩) h.d2.symm _, h.d1, h.d2, h.d3⟩
  rcases (by omega : j = 0 ∨ j = 1 ∨ j = 2 ∨ j = 3) with rfl | rfl | rfl | rfl <;> rfl

theorem infoF : (Try.prog.info? 37).map (fun i => (i.zero, i.size, i.bytes)) = some (some (.float .f64 0), 1, 8) := by kernel_rfl

theorem RefNow_any (w : World) (b bs br : Nat) (s : St) (i : Int) (h : HasR w b bs br s) (hn : s.n ≤ 15) :
    Calls Try.prog 20 #[pt b, .int .i64 i] w fun e w' => e = .returned (.int .i64 (Clk.nowI s i)) ∧ w = w' := by
  have c0 := h.c0
  unfold Clk.nowI
  by_cases h0 : 0 ≤ i
  · by_cases h1 : i < s.n
    · rw [if_pos ⟨h0, h1⟩]
      obtain ⟨k, rfl⟩ : ∃ k : Nat, i = k := ⟨i.toNat, by omega⟩
      rw [Int.toNat_natCast]
      have hk : k < s.n := by omega
      have cs := h.sh.cell hk
      generalize s.shown k = v at *
      generalize s.n = n at *
      have e1 : decide ((n : Int) ≤ k) = false := decide_eq_false (by omega)
      clear h
      go_enter Try.func20, Try.ntmps20
      go_wp2
      go_ret
      exact ⟨rfl, rfl⟩
    · rw [if_neg (by omega)]
      have e1 : decide ((s.n : Int) ≤ i) = true := decide_eq_true (by omega)
      clear h
      go_enter Try.func20, Try.ntmps20
      go_wp2
      go_ret
      exact ⟨rfl, rfl⟩
  · rw [if_neg (by omega)]
    clear h
    go_enter Try.func20, Try.ntmps20
    go_wp2
    go_ret
    exact ⟨rfl, rfl⟩

theorem RefSet_any (w : World) (b bs br : Nat) (s : St) (i : Int) (x : Nat) (h : HasR w b bs br s) (hn : s.n ≤ 15) :
    Calls Try.prog 16 #[pt b, .int .i64 i, .float .f64 x] w fun e w' => e = .returned (.int .i64 (setCode s i)) ∧ HasR w' b bs br (Clk.setI s i x) ∧ Chg b bs br w w' := by
  have c1 := h.c1
  unfold Clk.setI setCode
  by_cases h0 : 0 ≤ i
  · by_cases h1 : i < s.n
    · rw [if_pos ⟨h0, h1⟩, if_pos ⟨h0, h1⟩]
      obtain ⟨k, rfl⟩ : ∃ k : Nat, i = k := ⟨i.toNat, by omega⟩
      rw [Int.toNat_natCast]
      have hk : k < s.n := by omega
      have cs := h.rt.cell hk
      have fs := h.rt.frozen k
      have K : Hid (HasR (w.setCell ⟨br, k, none⟩ (.float .f64 (Dbl.cleanF x))) b bs br (Clk.set s k x)) := h.setRate k (Dbl.cleanF x)
      have D : Hid (∀ w, Calls Try.prog 29 #[.float .f64 x] w fun e w' => e = .returned (.float .f64 (Dbl.cleanF x)) ∧ w = w') := RefClean_any x
      have G : Hid (∀ v, Chg b bs br w (w.setCell ⟨br, k, none⟩ v)) := fun v => (Chg.refl _ _ _ w).set _ v (.inr (.inr (.inl rfl)))
      generalize s.rate k = v at *
      generalize Clk.set s k x = s' at *
      generalize Dbl.cleanF x = cx at *
      generalize s.n = n at *
      have e1 : decide ((n : Int) ≤ k) = false := decide_eq_false (by omega)
      clear h
      go_enter Try.func16, Try.ntmps16
      go_wp2_with fail
      go_region_with (go_at_call 29; refine (D.out _).mono ?_; rintro e w' ⟨rfl, rfl⟩)
      all_goals go_wp2_with fail
      all_goals go_ret
      all_goals first | exact ⟨rfl, K.out, G.out _⟩ | exact ⟨rfl, K.out.drew, (G.out _).drew⟩
    · rw [if_neg (by omega), if_neg (by omega)]
      have e1 : decide ((s.n : Int) ≤ i) = true := decide_eq_true (by omega)
      have H := Lib.hid h
      clear h
      go_enter Try.func16, Try.ntmps16
      go_wp2
      go_ret
      exact ⟨rfl, H.out, Chg.refl _ _ _ _⟩
  · rw [if_neg (by omega), if_neg (by omega)]
    have H := Lib.hid h
    clear h
    go_enter Try.func16, Try.ntmps16
    go_wp2
    go_ret
    exact ⟨rfl, H.out, Chg.refl _ _ _ _⟩
end Go.Proofs.Ythpfkbdbioabaaa
