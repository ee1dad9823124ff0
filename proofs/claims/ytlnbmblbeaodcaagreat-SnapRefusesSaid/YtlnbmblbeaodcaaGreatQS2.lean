/- Texts laid together by program. -/
import Derived.Test.YtlnbmblbeaodcaaGreatQS1
import Derived.Laws.Pointers
/- Contracts: codeOf and the deferred closures of package octet. -/
set_option linter.unusedVariables false
set_option maxRecDepth 8000
set_option linter.unusedSimpArgs false
namespace Go.Proofs.YtlnbmblbeaodcaaGreat
open Lib (hid)
open Go.RowKit

theorem assert_failure (v:Value) (w:World):(Instr.typeAssert (.iface 237 v) 20 237 true).run Tryz.prog w= .ok (.tuple #[v,.bool true]) w:=by kernel_rfl
theorem codeOf_any (c:Int) (w:World):
  Calls Tryz.prog 213 #[.iface 237 (.agg #[.int .i64 c])] w fun e w'=>e= .returned (.int .i64 c)/\w.alloc (.cells #[.int .i64 c] 237)=w':=by
 have ha:=assert_failure
 go_enter Tryz.func213,Tryz.ntmps213
 go_wp2
 go_ret
 exact⟨rfl,rfl⟩
theorem catch_Num (b o:Nat) (x c:Int) (older:List PanicEntry) (w:World) (hc:w.cell? ⟨b,o,none⟩=some (.int .i64 x)) (hz:w.frozen? ⟨b,o,none⟩=false):
  CallsD Tryz.prog 212 #[.pointer (some ⟨b,o,none⟩)] (.panicking ({ v:=.iface 237 (.agg #[.int .i64 c]),recovered:=false } ::older)) w fun e u' w'=>
   e= .returned (.tuple #[])/\u'= .panicking ({ v:=.iface 237 (.agg #[.int .i64 c]),recovered:=true } ::older)/\w'=(w.setCell ⟨b,o,none⟩ (.int .i64 c)).alloc (.cells #[.int .i64 c] 237):=by
 refine callsD_of_wpS Tryz.func212 rfl fun c₀ cs hu=>?_
 apply wpS_seq
 apply wpS_region
 simp [wpOpsS,go_sem,recoverD,hu,Tryz.ntmps212,Exit.thenS]
 apply wpS_seq
 apply wpS_region
 simp [wpOpsS,go_sem,Exit.thenS]
 refine wpS_cond (t:=true) (by simp [Act.eval,Array.replicate]) ?_
 simp only[if_true]
 refine wpS_of_wp ?_
 have hp:b<w.heap.size:=lt_of_cell hc
 have hcell:(w.alloc (.cells #[.int .i64 c] 237)).cell? ⟨b,o,none⟩=some (.int .i64 x):=by rw[World.cell?_alloc_past _ _ _ hp];exact hc
 have hfz:(w.alloc (.cells #[.int .i64 c] 237)).frozen? ⟨b,o,none⟩=false:=by rw[((Below.refl w.heap.size w).alloc (Nat.le_refl _) _).frozen hp];exact hz
 go_wp2_with (go_at_call 213;refine(codeOf_any _ _).mono ?_;rintro e w' ⟨rfl,rfl⟩)
 cases c₀
 simp_all [bodyPostS,results,Tryz.results212]
theorem idle_Num (p:Addr) (w:World):
  CallsD Tryz.prog 212 #[.pointer (some p)] .returning w fun e u' w'=>e= .returned (.tuple #[])/\u'= .returning /\w'=w:=by
 refine callsD_of_wpS Tryz.func212 rfl fun c₀ cs hu=>?_
 apply wpS_seq
 apply wpS_region
 simp [wpOpsS,go_sem,recoverD,hu,Tryz.ntmps212,Exit.thenS]
 apply wpS_seq
 apply wpS_region
 simp [wpOpsS,go_sem,Exit.thenS]
 refine wpS_cond (t:=false) (by simp [Act.eval,Array.replicate]) ?_
 simp only[Bool.false_eq_true,if_false]
 refine wpS_of_wp (wp_skip ?_)
 cases c₀
 simp_all [bodyPostS,results,Tryz.results212]
theorem catch_Byte (b o:Nat) (x c:Int) (older:List PanicEntry) (w:World) (hc:w.cell? ⟨b,o,none⟩=some (.int .i64 x)) (hz:w.frozen? ⟨b,o,none⟩=false):
  CallsD Tryz.prog 236 #[.pointer (some ⟨b,o,none⟩)] (.panicking ({ v:=.iface 237 (.agg #[.int .i64 c]),recovered:=false } ::older)) w fun e u' w'=>
   e= .returned (.tuple #[])/\u'= .panicking ({ v:=.iface 237 (.agg #[.int .i64 c]),recovered:=true } ::older)/\w'=(w.setCell ⟨b,o,none⟩ (.int .i64 c)).alloc (.cells #[.int .i64 c] 237):=by
 refine callsD_of_wpS Tryz.func236 rfl fun c₀ cs hu=>?_
 apply wpS_seq
 apply wpS_region
 simp [wpOpsS,go_sem,recoverD,hu,Tryz.ntmps236,Exit.thenS]
 apply wpS_seq
 apply wpS_region
 simp [wpOpsS,go_sem,Exit.thenS]
 refine wpS_cond (t:=true) (by simp [Act.eval,Array.replicate]) ?_
 simp only[if_true]
 refine wpS_of_wp ?_
 have hp:b<w.heap.size:=lt_of_cell hc
 have hcell:(w.alloc (.cells #[.int .i64 c] 237)).cell? ⟨b,o,none⟩=some (.int .i64 x):=by rw[World.cell?_alloc_past _ _ _ hp];exact hc
 have hfz:(w.alloc (.cells #[.int .i64 c] 237)).frozen? ⟨b,o,none⟩=false:=by rw[((Below.refl w.heap.size w).alloc (Nat.le_refl _) _).frozen hp];exact hz
 go_wp2_with (go_at_call 213;refine(codeOf_any _ _).mono ?_;rintro e w' ⟨rfl,rfl⟩)
 cases c₀
 simp_all [bodyPostS,results,Tryz.results236]
theorem idle_Byte (p:Addr) (w:World):
  CallsD Tryz.prog 236 #[.pointer (some p)] .returning w fun e u' w'=>e= .returned (.tuple #[])/\u'= .returning /\w'=w:=by
 refine callsD_of_wpS Tryz.func236 rfl fun c₀ cs hu=>?_
 apply wpS_seq
 apply wpS_region
 simp [wpOpsS,go_sem,recoverD,hu,Tryz.ntmps236,Exit.thenS]
 apply wpS_seq
 apply wpS_region
 simp [wpOpsS,go_sem,Exit.thenS]
 refine wpS_cond (t:=false) (by simp [Act.eval,Array.replicate]) ?_
 simp only[Bool.false_eq_true,if_false]
 refine wpS_of_wp (wp_skip ?_)
 cases c₀
 simp_all [bodyPostS,results,Tryz.results236]
theorem catch_Text (b o:Nat) (x c:Int) (older:List PanicEntry) (w:World) (hc:w.cell? ⟨b,o,none⟩=some (.int .i64 x)) (hz:w.frozen? ⟨b,o,none⟩=false):
  CallsD Tryz.prog 238 #[.pointer (some ⟨b,o,none⟩)] (.panicking ({ v:=.iface 237 (.agg #[.int .i64 c]),recovered:=false } ::older)) w fun e u' w'=>
   e= .returned (.tuple #[])/\u'= .panicking ({ v:=.iface 237 (.agg #[.int .i64 c]),recovered:=true } ::older)/\w'=(w.setCell ⟨b,o,none⟩ (.int .i64 c)).alloc (.cells #[.int .i64 c] 237):=by
 refine callsD_of_wpS Tryz.func238 rfl fun c₀ cs hu=>?_
 apply wpS_seq
 apply wpS_region
 simp [wpOpsS,go_sem,recoverD,hu,Tryz.ntmps238,Exit.thenS]
 apply wpS_seq
 apply wpS_region
 simp [wpOpsS,go_sem,Exit.thenS]
 refine wpS_cond (t:=true) (by simp [Act.eval,Array.replicate]) ?_
 simp only[if_true]
 refine wpS_of_wp ?_
 have hp:b<w.heap.size:=lt_of_cell hc
 have hcell:(w.alloc (.cells #[.int .i64 c] 237)).cell? ⟨b,o,none⟩=some (.int .i64 x):=by rw[World.cell?_alloc_past _ _ _ hp];exact hc
 have hfz:(w.alloc (.cells #[.int .i64 c] 237)).frozen? ⟨b,o,none⟩=false:=by rw[((Below.refl w.heap.size w).alloc (Nat.le_refl _) _).frozen hp];exact hz
 go_wp2_with (go_at_call 213;refine(codeOf_any _ _).mono ?_;rintro e w' ⟨rfl,rfl⟩)
 cases c₀
 simp_all [bodyPostS,results,Tryz.results238]
theorem idle_Text (p:Addr) (w:World):
  CallsD Tryz.prog 238 #[.pointer (some p)] .returning w fun e u' w'=>e= .returned (.tuple #[])/\u'= .returning /\w'=w:=by
 refine callsD_of_wpS Tryz.func238 rfl fun c₀ cs hu=>?_
 apply wpS_seq
 apply wpS_region
 simp [wpOpsS,go_sem,recoverD,hu,Tryz.ntmps238,Exit.thenS]
 apply wpS_seq
 apply wpS_region
 simp [wpOpsS,go_sem,Exit.thenS]
 refine wpS_cond (t:=false) (by simp [Act.eval,Array.replicate]) ?_
 simp only[Bool.false_eq_true,if_false]
 refine wpS_of_wp (wp_skip ?_)
 cases c₀
 simp_all [bodyPostS,results,Tryz.results238]
end Go.Proofs.YtlnbmblbeaodcaaGreat

/- Contracts of package octet's exported readers. -/
set_option linter.unusedVariables false
set_option maxRecDepth 8000
set_option linter.unusedSimpArgs false
namespace Go.Proofs.YtlnbmblbeaodcaaGreat
open Lib (hid)
open Go.RowKit

def numOf (bs:List UInt8) (t:Int):Int × Int × Int:=
 if t<0\/(bs.length:Int)<t+8 then (0,0,2) else if val (sub bs t.toNat 8)<2 ^ 62 then ((val (sub bs t.toNat 8):Int),t+8,0) else (0,0,4)
def byteOf (bs:List UInt8) (t:Int):Int × Int × Int:=
 if t<0\/(bs.length:Int)<=t then (0,0,2) else (((bs.getD t.toNat 0).toNat :Int),t+1,0)
def textOf (bs:List UInt8) (t m:Int):List UInt8 × Int × Int:=
 if t<0\/(bs.length:Int)<=t then ([],0,2) else
 if m<((bs.getD t.toNat 0).toNat :Int) then ([],0,3) else
 if (bs.length:Int)<t+1+(bs.getD t.toNat 0).toNat then ([],0,2) else
 (sub bs (t.toNat+1) (bs.getD t.toNat 0).toNat,t+1+(bs.getD t.toNat 0).toNat,0)
def Three (r:Int × Int × Int) (w:World) (e:Ending) (w':World):Prop:=
 e= .returned (.tuple #[.int .i64 r.1,.int .i64 r.2.1,.int .i64 r.2.2])/\Below w.heap.size w w'
def TextTold (r:List UInt8 × Int × Int) (w:World) (e:Ending) (w':World):Prop:=
 e= .returned (.tuple #[.string (bstr r.1),.int .i64 r.2.1,.int .i64 r.2.2])/\Below w.heap.size w w'
theorem made_func (fn:Fn) (first cap:Array Value) (w:World):(Instr.makeFunc fn first cap).run Tryz.prog w= .ok (.func fn first cap) w:=rfl
theorem Num_short (v:Value) (bs:List UInt8) (t:Int) (w:World) (h:Rd w v bs) (ht:t<=9223372036854775807) (h1:t<0\/(bs.length:Int)<t+8):
  Calls Tryz.prog 188 #[v,.int .i64 t] w (Three (0,0,2) w):=by
 have hmf:=made_func
 go_enter_defers Tryz.func188,Tryz.ntmps188
 go_wp2_with (go_at_call 214;refine(readNum_short _ bs _ _ (h.later ((Below.refl _ _).alloc (Nat.le_refl _) _)) (by omega) (by omega)).mono ?_;rintro e w' ⟨rfl,rfl⟩)
 refine leaves_cons (f:=212) (args:=#[.pointer (some ⟨w.heap.size,0,none⟩)]) (by simp) (by simp [go_sem]) ?_
 refine(catch_Num w.heap.size 0 0 2 [] _ ?_ ?_).mono ?_
 ·simp [go_sem]
 ·simp [go_sem]
 rintro e u' w'' ⟨rfl,rfl,rfl⟩
 simp [Leaves,settle,results,Tryz.results188,go_sem,Three]
 first | exact((((Below.refl _ _).alloc (Nat.le_refl _) _).alloc (by simp) _)) | exact⟨rfl,((((Below.refl _ _).alloc (Nat.le_refl _) _).alloc (by simp) _))⟩
theorem Num_form (v:Value) (bs:List UInt8) (t:Int) (w:World) (h:Rd w v bs) (h0:0<=t) (h1:t+8<=bs.length) (h2:2 ^ 62<=val (sub bs t.toNat 8)):
  Calls Tryz.prog 188 #[v,.int .i64 t] w (Three (0,0,4) w):=by
 have hmf:=made_func
 go_enter_defers Tryz.func188,Tryz.ntmps188
 go_wp2_with (go_at_call 214;refine(readNum_form _ bs _ _ (h.later ((Below.refl _ _).alloc (Nat.le_refl _) _)) (by omega) (by omega) h2).mono ?_;rintro e w' ⟨rfl,rfl⟩)
 refine leaves_cons (f:=212) (args:=#[.pointer (some ⟨w.heap.size,0,none⟩)]) (by simp) (by simp [go_sem]) ?_
 refine(catch_Num w.heap.size 0 0 4 [] _ ?_ ?_).mono ?_
 ·simp [go_sem]
 ·simp [go_sem]
 rintro e u' w'' ⟨rfl,rfl,rfl⟩
 simp [Leaves,settle,results,Tryz.results188,go_sem,Three]
 first | exact((((Below.refl _ _).alloc (Nat.le_refl _) _).alloc (by simp) _)) | exact⟨rfl,((((Below.refl _ _).alloc (Nat.le_refl _) _).alloc (by simp) _))⟩
theorem Num_ok (v:Value) (bs:List UInt8) (t:Int) (w:World) (h:Rd w v bs) (h0:0<=t) (h1:t+8<=bs.length) (h2:val (sub bs t.toNat 8)<2 ^ 62):
  Calls Tryz.prog 188 #[v,.int .i64 t] w (Three ((val (sub bs t.toNat 8):Int),t+8,0) w):=by
 have hmf:=made_func
 go_enter_defers Tryz.func188,Tryz.ntmps188
 go_wp2_with (go_at_call 214;refine(readNum_ok _ bs _ _ (h.later ((Below.refl _ _).alloc (Nat.le_refl _) _)) (by omega) (by omega) h2).mono ?_;rintro e w' ⟨rfl,rfl⟩)
 refine leaves_cons (f:=212) (args:=#[.pointer (some ⟨w.heap.size,0,none⟩)]) (by simp) (by simp [go_sem]) ?_
 refine(idle_Num ⟨w.heap.size,0,none⟩ _).mono ?_
 rintro e u' w'' ⟨rfl,rfl,rfl⟩
 simp [Leaves,settle,results,Tryz.results188,go_sem,Three]
 exact(((Below.refl _ _).alloc (Nat.le_refl _) _))
theorem Num_any (v:Value) (bs:List UInt8) (t:Int) (w:World) (h:Rd w v bs) (ht:t<=9223372036854775807):
  Calls Tryz.prog 188 #[v,.int .i64 t] w (Three (numOf bs t) w):=by
 unfold numOf
 by_cases h1:t<0\/(bs.length:Int)<t+8
 ·rw[if_pos h1];exact Num_short v bs t w h ht h1
 ·rw[if_neg h1]
  by_cases h2:val (sub bs t.toNat 8)<2 ^ 62
  ·rw[if_pos h2];exact Num_ok v bs t w h (by omega) (by omega) h2
  ·rw[if_neg h2];exact Num_form v bs t w h (by omega) (by omega) (by omega)
theorem Byte_short (v:Value) (bs:List UInt8) (t:Int) (w:World) (h:Rd w v bs) (ht:t<=9223372036854775807) (h1:t<0\/(bs.length:Int)<=t):
  Calls Tryz.prog 227 #[v,.int .i64 t] w (Three (0,0,2) w):=by
 have hmf:=made_func
 go_enter_defers Tryz.func227,Tryz.ntmps227
 go_wp2_with (go_at_call 237;refine(readByte_short _ bs _ _ (h.later ((Below.refl _ _).alloc (Nat.le_refl _) _)) (by omega) (by omega)).mono ?_;rintro e w' ⟨rfl,rfl⟩)
 refine leaves_cons (f:=236) (args:=#[.pointer (some ⟨w.heap.size,0,none⟩)]) (by simp) (by simp [go_sem]) ?_
 refine(catch_Byte w.heap.size 0 0 2 [] _ ?_ ?_).mono ?_
 ·simp [go_sem]
 ·simp [go_sem]
 rintro e u' w'' ⟨rfl,rfl,rfl⟩
 simp [Leaves,settle,results,Tryz.results227,go_sem,Three]
 first | exact((((Below.refl _ _).alloc (Nat.le_refl _) _).alloc (by simp) _)) | exact⟨rfl,((((Below.refl _ _).alloc (Nat.le_refl _) _).alloc (by simp) _))⟩
theorem Byte_ok (v:Value) (bs:List UInt8) (t:Int) (w:World) (h:Rd w v bs) (h0:0<=t) (h1:t<bs.length):
  Calls Tryz.prog 227 #[v,.int .i64 t] w (Three (((bs.getD t.toNat 0).toNat :Int),t+1,0) w):=by
 generalize hn:(bs.getD t.toNat 0).toNat =n
 have Hn:=hid hn
 clear hn
 have hmf:=made_func
 go_enter_defers Tryz.func227,Tryz.ntmps227
 go_wp2_with (go_at_call 237;refine(readByte_ok _ bs _ _ (h.later ((Below.refl _ _).alloc (Nat.le_refl _) _)) (by omega) (by omega)).mono ?_;rw[Hn.out];rintro e w' ⟨rfl,rfl⟩)
 refine leaves_cons (f:=236) (args:=#[.pointer (some ⟨w.heap.size,0,none⟩)]) (by simp) (by simp [go_sem]) ?_
 refine(idle_Byte ⟨w.heap.size,0,none⟩ _).mono ?_
 rintro e u' w'' ⟨rfl,rfl,rfl⟩
 simp [Leaves,settle,results,Tryz.results227,go_sem,Three]
 exact(((Below.refl _ _).alloc (Nat.le_refl _) _))
theorem Byte_any (v:Value) (bs:List UInt8) (t:Int) (w:World) (h:Rd w v bs) (ht:t<=9223372036854775807):
  Calls Tryz.prog 227 #[v,.int .i64 t] w (Three (byteOf bs t) w):=by
 unfold byteOf
 by_cases h1:t<0\/(bs.length:Int)<=t
 ·rw[if_pos h1];exact Byte_short v bs t w h ht h1
 ·rw[if_neg h1];exact Byte_ok v bs t w h (by omega) (by omega)
theorem Text_at (v:Value) (bs:List UInt8) (t m:Int) (w:World) (h:Rd w v bs) (ht:t<=9223372036854775807) (h1:t<0\/(bs.length:Int)<=t):
  Calls Tryz.prog 228 #[v,.int .i64 t,.int .i64 m] w (TextTold ([],0,2) w):=by
 have hmf:=made_func
 go_enter_defers Tryz.func228,Tryz.ntmps228
 go_wp2_with (go_at_call 239;refine(readText_at _ bs _ _ _ (h.later ((Below.refl _ _).alloc (Nat.le_refl _) _)) (by omega) (by omega)).mono ?_;rintro e w' ⟨rfl,rfl⟩)
 refine leaves_cons (f:=238) (args:=#[.pointer (some ⟨w.heap.size,0,none⟩)]) (by simp) (by simp [go_sem]) ?_
 refine(catch_Text w.heap.size 0 0 2 [] _ ?_ ?_).mono ?_
 ·simp [go_sem]
 ·simp [go_sem]
 rintro e u' w'' ⟨rfl,rfl,rfl⟩
 simp [Leaves,settle,results,Tryz.results228,go_sem,TextTold]
 first | exact((((Below.refl _ _).alloc (Nat.le_refl _) _).alloc (by simp) _)) | exact⟨rfl,((((Below.refl _ _).alloc (Nat.le_refl _) _).alloc (by simp) _))⟩
theorem Text_long (v:Value) (bs:List UInt8) (t m:Int) (w:World) (h:Rd w v bs) (h0:0<=t) (h1:t<bs.length) (h2:m<((bs.getD t.toNat 0).toNat :Int)):
  Calls Tryz.prog 228 #[v,.int .i64 t,.int .i64 m] w (TextTold ([],0,3) w):=by
 have hmf:=made_func
 go_enter_defers Tryz.func228,Tryz.ntmps228
 go_wp2_with (go_at_call 239;refine(readText_long _ bs _ _ _ (h.later ((Below.refl _ _).alloc (Nat.le_refl _) _)) (by omega) (by omega) h2).mono ?_;rintro e w' ⟨rfl,rfl⟩)
 refine leaves_cons (f:=238) (args:=#[.pointer (some ⟨w.heap.size,0,none⟩)]) (by simp) (by simp [go_sem]) ?_
 refine(catch_Text w.heap.size 0 0 3 [] _ ?_ ?_).mono ?_
 ·simp [go_sem]
 ·simp [go_sem]
 rintro e u' w'' ⟨rfl,rfl,rfl⟩
 simp [Leaves,settle,results,Tryz.results228,go_sem,TextTold]
 first | exact((((Below.refl _ _).alloc (Nat.le_refl _) _).alloc (by simp) _)) | exact⟨rfl,((((Below.refl _ _).alloc (Nat.le_refl _) _).alloc (by simp) _))⟩
theorem Text_few (v:Value) (bs:List UInt8) (t m:Int) (w:World) (h:Rd w v bs) (h0:0<=t) (h1:t<bs.length) (h2:((bs.getD t.toNat 0).toNat :Int)<=m) (h3:(bs.length:Int)<t+1+(bs.getD t.toNat 0).toNat):
  Calls Tryz.prog 228 #[v,.int .i64 t,.int .i64 m] w (TextTold ([],0,2) w):=by
 have hmf:=made_func
 go_enter_defers Tryz.func228,Tryz.ntmps228
 go_wp2_with (go_at_call 239;refine(readText_few _ bs _ _ _ (h.later ((Below.refl _ _).alloc (Nat.le_refl _) _)) (by omega) (by omega) h2 h3).mono ?_;rintro e w' ⟨rfl,rfl⟩)
 refine leaves_cons (f:=238) (args:=#[.pointer (some ⟨w.heap.size,0,none⟩)]) (by simp) (by simp [go_sem]) ?_
 refine(catch_Text w.heap.size 0 0 2 [] _ ?_ ?_).mono ?_
 ·simp [go_sem]
 ·simp [go_sem]
 rintro e u' w'' ⟨rfl,rfl,rfl⟩
 simp [Leaves,settle,results,Tryz.results228,go_sem,TextTold]
 first | exact((((Below.refl _ _).alloc (Nat.le_refl _) _).alloc (by simp) _)) | exact⟨rfl,((((Below.refl _ _).alloc (Nat.le_refl _) _).alloc (by simp) _))⟩
theorem Text_ok (v:Value) (bs:List UInt8) (t m:Int) (w:World) (h:Rd w v bs) (h0:0<=t) (h1:t<bs.length) (h2:((bs.getD t.toNat 0).toNat :Int)<=m) (h3:t+1+(bs.getD t.toNat 0).toNat <=(bs.length:Int)):
  Calls Tryz.prog 228 #[v,.int .i64 t,.int .i64 m] w (TextTold (sub bs (t.toNat+1) (bs.getD t.toNat 0).toNat,t+1+(bs.getD t.toNat 0).toNat,0) w):=by
 generalize hn:(bs.getD t.toNat 0).toNat =n at h2 h3 ⊢
 have Hn:=hid hn
 clear hn
 generalize hr:sub bs (t.toNat+1) n=r
 have Hr:=hid hr
 clear hr
 have hmf:=made_func
 go_enter_defers Tryz.func228,Tryz.ntmps228
 go_wp2_with (go_at_call 239;refine(readText_ok _ bs _ _ _ (h.later ((Below.refl _ _).alloc (Nat.le_refl _) _)) (by omega) (by omega) (by rw[Hn.out];exact h2) (by rw[Hn.out];exact h3)).mono ?_;rw[Hn.out,Hr.out];rintro e w' ⟨rfl,rfl⟩)
 refine leaves_cons (f:=238) (args:=#[.pointer (some ⟨w.heap.size,0,none⟩)]) (by simp) (by simp [go_sem]) ?_
 refine(idle_Text ⟨w.heap.size,0,none⟩ _).mono ?_
 rintro e u' w'' ⟨rfl,rfl,rfl⟩
 simp [Leaves,settle,results,Tryz.results228,go_sem,TextTold]
 exact(((Below.refl _ _).alloc (Nat.le_refl _) _))
theorem Text_any (v:Value) (bs:List UInt8) (t m:Int) (w:World) (h:Rd w v bs) (ht:t<=9223372036854775807):
  Calls Tryz.prog 228 #[v,.int .i64 t,.int .i64 m] w (TextTold (textOf bs t m) w):=by
 unfold textOf
 by_cases h1:t<0\/(bs.length:Int)<=t
 ·rw[if_pos h1];exact Text_at v bs t m w h ht h1
 ·rw[if_neg h1]
  by_cases h2:m<((bs.getD t.toNat 0).toNat :Int)
  ·rw[if_pos h2];exact Text_long v bs t m w h (by omega) (by omega) h2
  ·rw[if_neg h2]
   by_cases h3:(bs.length:Int)<t+1+(bs.getD t.toNat 0).toNat
   ·rw[if_pos h3];exact Text_few v bs t m w h (by omega) (by omega) (by omega) h3
   ·rw[if_neg h3];exact Text_ok v bs t m w h (by omega) (by omega) (by omega) (by omega)
end Go.Proofs.YtlnbmblbeaodcaaGreat
