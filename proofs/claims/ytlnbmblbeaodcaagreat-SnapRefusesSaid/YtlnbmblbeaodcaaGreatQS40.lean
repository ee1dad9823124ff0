/- Texts laid together by program. -/
import Derived.Test.YtlnbmblbeaodcaaGreatQS39
/- Package snap: Get, GetSnap: any bytes. -/
set_option linter.unusedVariables false
set_option maxRecDepth 8000
set_option linter.unusedSimpArgs false
namespace Go.Proofs.YtlnbmblbeaodcaaGreat
open Lib (hid)
open Go.RowKit
namespace Cm

theorem assert_failureS (v:Value) (w:World):(Instr.typeAssert (.iface 168 v) 20 168 true).run Tryz.prog w= .ok (.tuple #[v,.bool true]) w:=by kernel_rfl
theorem codeOfS_any (c:Int) (w:World):
  Calls Tryz.prog 73 #[.iface 168 (.agg #[.int .i64 c])] w fun e w'=>e= .returned (.int .i64 c)/\w.alloc (.cells #[.int .i64 c] 168)=w':=by
 have ha:=assert_failureS
 go_enter Tryz.func73,Tryz.ntmps73
 go_wp2
 go_ret
 exact⟨rfl,rfl⟩
def GotSt (r:StV × Int × Int) (w:World) (e:Ending) (w':World):Prop:= ∃x:StC,x.v=r.1/\e= .returned (.tuple #[stVal x,.int .i64 r.2.1,.int .i64 r.2.2])/\StO w.heap.size x w'/\Below w.heap.size w w'
def GotSn (r:SnV × Int × Int) (w:World) (e:Ending) (w':World):Prop:= ∃x:StC,x.v=r.1.st/\e= .returned (.tuple #[snapVal ⟨r.1.done,r.1.tv,r.1.ts,x⟩,.int .i64 r.2.1,.int .i64 r.2.2])/\StO w.heap.size x w'/\Below w.heap.size w w'
theorem StO.nil (b:Nat) (w:World):StO b zeroC10 w:=⟨World.ownsRow_nil _ _ _ _,World.ownsRow_nil _ _ _ _,(fun y hy=>by cases hy),World.ownsRow_nil _ _ _ _,fun y hy=>by cases hy⟩
def putS6 (w:World) (g:Nat) (x0 x1 x2 x3 x4 x5:Value):World:=((((((w.setCell ⟨g,0,none⟩ x0).setCell ⟨g,1,none⟩ x1).setCell ⟨g,2,none⟩ x2).setCell ⟨g,3,none⟩ x3).setCell ⟨g,4,none⟩ x4).setCell ⟨g,5,none⟩ x5)
theorem BxAt.put6 {w:World} {g:Nat} {y0 y1 y2 y3 y4 y5:Value} {t:TypeId} (h:BxAt w g (.cells #[y0,y1,y2,y3,y4,y5] t)) (x0 x1 x2 x3 x4 x5:Value):BxAt (putS6 w g x0 x1 x2 x3 x4 x5) g (.cells #[x0,x1,x2,x3,x4,x5] t):=by
 have h0:BxAt (w.setCell ⟨g,0,none⟩ x0) g (.cells #[x0,y1,y2,y3,y4,y5] t):=BxAt.set h 0 x0
 have h1:BxAt ((w.setCell ⟨g,0,none⟩ x0).setCell ⟨g,1,none⟩ x1) g (.cells #[x0,x1,y2,y3,y4,y5] t):=BxAt.set h0 1 x1
 have h2:BxAt (((w.setCell ⟨g,0,none⟩ x0).setCell ⟨g,1,none⟩ x1).setCell ⟨g,2,none⟩ x2) g (.cells #[x0,x1,x2,y3,y4,y5] t):=BxAt.set h1 2 x2
 have h3:BxAt ((((w.setCell ⟨g,0,none⟩ x0).setCell ⟨g,1,none⟩ x1).setCell ⟨g,2,none⟩ x2).setCell ⟨g,3,none⟩ x3) g (.cells #[x0,x1,x2,x3,y4,y5] t):=BxAt.set h2 3 x3
 have h4:BxAt (((((w.setCell ⟨g,0,none⟩ x0).setCell ⟨g,1,none⟩ x1).setCell ⟨g,2,none⟩ x2).setCell ⟨g,3,none⟩ x3).setCell ⟨g,4,none⟩ x4) g (.cells #[x0,x1,x2,x3,x4,y5] t):=BxAt.set h3 4 x4
 have h5:BxAt ((((((w.setCell ⟨g,0,none⟩ x0).setCell ⟨g,1,none⟩ x1).setCell ⟨g,2,none⟩ x2).setCell ⟨g,3,none⟩ x3).setCell ⟨g,4,none⟩ x4).setCell ⟨g,5,none⟩ x5) g (.cells #[x0,x1,x2,x3,x4,x5] t):=BxAt.set h4 5 x5
 exact h5
theorem BxAt.oth6 {w:World} {g b:Nat} {o:Obj} (h:BxAt w b o) (hk:b≠g) (x0 x1 x2 x3 x4 x5:Value):BxAt (putS6 w g x0 x1 x2 x3 x4 x5) b o:=by
 unfold putS6 BxAt
 rw[Below.heap_setCell _ _ _ _ hk,Below.heap_setCell _ _ _ _ hk,Below.heap_setCell _ _ _ _ hk,Below.heap_setCell _ _ _ _ hk,Below.heap_setCell _ _ _ _ hk,Below.heap_setCell _ _ _ _ hk]
 exact h
theorem StO.put6 {b g:Nat} {x:StC} {w:World} (h:StO b x w) (hg:g<b) (x0 x1 x2 x3 x4 x5:Value):StO b x (putS6 w g x0 x1 x2 x3 x4 x5):=((((((h.set hg 0 x0).set hg 1 x1).set hg 2 x2).set hg 3 x3).set hg 4 x4).set hg 5 x5)
theorem below_put6 {a w:World} {b:Nat} (h:Below b a w) (g:Nat) (hg:b<=g) (x0 x1 x2 x3 x4 x5:Value):Below b a (putS6 w g x0 x1 x2 x3 x4 x5):=((((((h.setCell (p:=⟨g,0,none⟩) hg x0).setCell (p:=⟨g,1,none⟩) hg x1).setCell (p:=⟨g,2,none⟩) hg x2).setCell (p:=⟨g,3,none⟩) hg x3).setCell (p:=⟨g,4,none⟩) hg x4).setCell (p:=⟨g,5,none⟩) hg x5)
def putS9 (w:World) (g:Nat) (x0 x1 x2 x3 x4 x5 x6 x7 x8:Value):World:=(((((((((w.setCell ⟨g,0,none⟩ x0).setCell ⟨g,1,none⟩ x1).setCell ⟨g,2,none⟩ x2).setCell ⟨g,3,none⟩ x3).setCell ⟨g,4,none⟩ x4).setCell ⟨g,5,none⟩ x5).setCell ⟨g,6,none⟩ x6).setCell ⟨g,7,none⟩ x7).setCell ⟨g,8,none⟩ x8)
theorem BxAt.put9 {w:World} {g:Nat} {y0 y1 y2 y3 y4 y5 y6 y7 y8:Value} {t:TypeId} (h:BxAt w g (.cells #[y0,y1,y2,y3,y4,y5,y6,y7,y8] t)) (x0 x1 x2 x3 x4 x5 x6 x7 x8:Value):BxAt (putS9 w g x0 x1 x2 x3 x4 x5 x6 x7 x8) g (.cells #[x0,x1,x2,x3,x4,x5,x6,x7,x8] t):=by
 have h0:BxAt (w.setCell ⟨g,0,none⟩ x0) g (.cells #[x0,y1,y2,y3,y4,y5,y6,y7,y8] t):=BxAt.set h 0 x0
 have h1:BxAt ((w.setCell ⟨g,0,none⟩ x0).setCell ⟨g,1,none⟩ x1) g (.cells #[x0,x1,y2,y3,y4,y5,y6,y7,y8] t):=BxAt.set h0 1 x1
 have h2:BxAt (((w.setCell ⟨g,0,none⟩ x0).setCell ⟨g,1,none⟩ x1).setCell ⟨g,2,none⟩ x2) g (.cells #[x0,x1,x2,y3,y4,y5,y6,y7,y8] t):=BxAt.set h1 2 x2
 have h3:BxAt ((((w.setCell ⟨g,0,none⟩ x0).setCell ⟨g,1,none⟩ x1).setCell ⟨g,2,none⟩ x2).setCell ⟨g,3,none⟩ x3) g (.cells #[x0,x1,x2,x3,y4,y5,y6,y7,y8] t):=BxAt.set h2 3 x3
 have h4:BxAt (((((w.setCell ⟨g,0,none⟩ x0).setCell ⟨g,1,none⟩ x1).setCell ⟨g,2,none⟩ x2).setCell ⟨g,3,none⟩ x3).setCell ⟨g,4,none⟩ x4) g (.cells #[x0,x1,x2,x3,x4,y5,y6,y7,y8] t):=BxAt.set h3 4 x4
 have h5:BxAt ((((((w.setCell ⟨g,0,none⟩ x0).setCell ⟨g,1,none⟩ x1).setCell ⟨g,2,none⟩ x2).setCell ⟨g,3,none⟩ x3).setCell ⟨g,4,none⟩ x4).setCell ⟨g,5,none⟩ x5) g (.cells #[x0,x1,x2,x3,x4,x5,y6,y7,y8] t):=BxAt.set h4 5 x5
 have h6:BxAt (((((((w.setCell ⟨g,0,none⟩ x0).setCell ⟨g,1,none⟩ x1).setCell ⟨g,2,none⟩ x2).setCell ⟨g,3,none⟩ x3).setCell ⟨g,4,none⟩ x4).setCell ⟨g,5,none⟩ x5).setCell ⟨g,6,none⟩ x6) g (.cells #[x0,x1,x2,x3,x4,x5,x6,y7,y8] t):=BxAt.set h5 6 x6
 have h7:BxAt ((((((((w.setCell ⟨g,0,none⟩ x0).setCell ⟨g,1,none⟩ x1).setCell ⟨g,2,none⟩ x2).setCell ⟨g,3,none⟩ x3).setCell ⟨g,4,none⟩ x4).setCell ⟨g,5,none⟩ x5).setCell ⟨g,6,none⟩ x6).setCell ⟨g,7,none⟩ x7) g (.cells #[x0,x1,x2,x3,x4,x5,x6,x7,y8] t):=BxAt.set h6 7 x7
 have h8:BxAt (((((((((w.setCell ⟨g,0,none⟩ x0).setCell ⟨g,1,none⟩ x1).setCell ⟨g,2,none⟩ x2).setCell ⟨g,3,none⟩ x3).setCell ⟨g,4,none⟩ x4).setCell ⟨g,5,none⟩ x5).setCell ⟨g,6,none⟩ x6).setCell ⟨g,7,none⟩ x7).setCell ⟨g,8,none⟩ x8) g (.cells #[x0,x1,x2,x3,x4,x5,x6,x7,x8] t):=BxAt.set h7 8 x8
 exact h8
theorem BxAt.oth9 {w:World} {g b:Nat} {o:Obj} (h:BxAt w b o) (hk:b≠g) (x0 x1 x2 x3 x4 x5 x6 x7 x8:Value):BxAt (putS9 w g x0 x1 x2 x3 x4 x5 x6 x7 x8) b o:=by
 unfold putS9 BxAt
 rw[Below.heap_setCell _ _ _ _ hk,Below.heap_setCell _ _ _ _ hk,Below.heap_setCell _ _ _ _ hk,Below.heap_setCell _ _ _ _ hk,Below.heap_setCell _ _ _ _ hk,Below.heap_setCell _ _ _ _ hk,Below.heap_setCell _ _ _ _ hk,Below.heap_setCell _ _ _ _ hk,Below.heap_setCell _ _ _ _ hk]
 exact h
theorem StO.put9 {b g:Nat} {x:StC} {w:World} (h:StO b x w) (hg:g<b) (x0 x1 x2 x3 x4 x5 x6 x7 x8:Value):StO b x (putS9 w g x0 x1 x2 x3 x4 x5 x6 x7 x8):=(((((((((h.set hg 0 x0).set hg 1 x1).set hg 2 x2).set hg 3 x3).set hg 4 x4).set hg 5 x5).set hg 6 x6).set hg 7 x7).set hg 8 x8)
theorem below_put9 {a w:World} {b:Nat} (h:Below b a w) (g:Nat) (hg:b<=g) (x0 x1 x2 x3 x4 x5 x6 x7 x8:Value):Below b a (putS9 w g x0 x1 x2 x3 x4 x5 x6 x7 x8):=(((((((((h.setCell (p:=⟨g,0,none⟩) hg x0).setCell (p:=⟨g,1,none⟩) hg x1).setCell (p:=⟨g,2,none⟩) hg x2).setCell (p:=⟨g,3,none⟩) hg x3).setCell (p:=⟨g,4,none⟩) hg x4).setCell (p:=⟨g,5,none⟩) hg x5).setCell (p:=⟨g,6,none⟩) hg x6).setCell (p:=⟨g,7,none⟩) hg x7).setCell (p:=⟨g,8,none⟩) hg x8)
theorem catch_SGet (b o:Nat) (x c:Int) (older:List PanicEntry) (w:World) (hc:w.cell? ⟨b,o,none⟩=some (.int .i64 x)) (hz:w.frozen? ⟨b,o,none⟩=false):
  CallsD Tryz.prog 72 #[.pointer (some ⟨b,o,none⟩)] (.panicking ({ v:=.iface 168 (.agg #[.int .i64 c]),recovered:=false } ::older)) w fun e u' w'=>
   e= .returned (.tuple #[])/\u'= .panicking ({ v:=.iface 168 (.agg #[.int .i64 c]),recovered:=true } ::older)/\w'=(w.setCell ⟨b,o,none⟩ (.int .i64 c)).alloc (.cells #[.int .i64 c] 168):=by
 refine callsD_of_wpS Tryz.func72 rfl fun c₀ cs hu=>?_
 apply wpS_seq
 apply wpS_region
 simp [wpOpsS,go_sem,recoverD,hu,Tryz.ntmps72,Exit.thenS]
 apply wpS_seq
 apply wpS_region
 simp [wpOpsS,go_sem,Exit.thenS]
 refine wpS_cond (t:=true) (by simp [Act.eval,Array.replicate]) ?_
 simp only[if_true]
 refine wpS_of_wp ?_
 have hp:b<w.heap.size:=lt_of_cell hc
 have hcell:(w.alloc (.cells #[.int .i64 c] 168)).cell? ⟨b,o,none⟩=some (.int .i64 x):=by rw[World.cell?_alloc_past _ _ _ hp];exact hc
 have hfz:(w.alloc (.cells #[.int .i64 c] 168)).frozen? ⟨b,o,none⟩=false:=by rw[((Below.refl w.heap.size w).alloc (Nat.le_refl _) _).frozen hp];exact hz
 go_wp2_with (go_at_call 73;refine(codeOfS_any _ _).mono ?_;rintro e w' ⟨rfl,rfl⟩)
 cases c₀
 simp_all [bodyPostS,results,Tryz.results72]
theorem idle_SGet (p:Addr) (w:World):
  CallsD Tryz.prog 72 #[.pointer (some p)] .returning w fun e u' w'=>e= .returned (.tuple #[])/\u'= .returning /\w'=w:=by
 refine callsD_of_wpS Tryz.func72 rfl fun c₀ cs hu=>?_
 apply wpS_seq
 apply wpS_region
 simp [wpOpsS,go_sem,recoverD,hu,Tryz.ntmps72,Exit.thenS]
 apply wpS_seq
 apply wpS_region
 simp [wpOpsS,go_sem,Exit.thenS]
 refine wpS_cond (t:=false) (by simp [Act.eval,Array.replicate]) ?_
 simp only[Bool.false_eq_true,if_false]
 refine wpS_of_wp (wp_skip ?_)
 cases c₀
 simp_all [bodyPostS,results,Tryz.results72]
theorem catch_SGetSnap (b o:Nat) (x c:Int) (older:List PanicEntry) (w:World) (hc:w.cell? ⟨b,o,none⟩=some (.int .i64 x)) (hz:w.frozen? ⟨b,o,none⟩=false):
  CallsD Tryz.prog 77 #[.pointer (some ⟨b,o,none⟩)] (.panicking ({ v:=.iface 168 (.agg #[.int .i64 c]),recovered:=false } ::older)) w fun e u' w'=>
   e= .returned (.tuple #[])/\u'= .panicking ({ v:=.iface 168 (.agg #[.int .i64 c]),recovered:=true } ::older)/\w'=(w.setCell ⟨b,o,none⟩ (.int .i64 c)).alloc (.cells #[.int .i64 c] 168):=by
 refine callsD_of_wpS Tryz.func77 rfl fun c₀ cs hu=>?_
 apply wpS_seq
 apply wpS_region
 simp [wpOpsS,go_sem,recoverD,hu,Tryz.ntmps77,Exit.thenS]
 apply wpS_seq
 apply wpS_region
 simp [wpOpsS,go_sem,Exit.thenS]
 refine wpS_cond (t:=true) (by simp [Act.eval,Array.replicate]) ?_
 simp only[if_true]
 refine wpS_of_wp ?_
 have hp:b<w.heap.size:=lt_of_cell hc
 have hcell:(w.alloc (.cells #[.int .i64 c] 168)).cell? ⟨b,o,none⟩=some (.int .i64 x):=by rw[World.cell?_alloc_past _ _ _ hp];exact hc
 have hfz:(w.alloc (.cells #[.int .i64 c] 168)).frozen? ⟨b,o,none⟩=false:=by rw[((Below.refl w.heap.size w).alloc (Nat.le_refl _) _).frozen hp];exact hz
 go_wp2_with (go_at_call 73;refine(codeOfS_any _ _).mono ?_;rintro e w' ⟨rfl,rfl⟩)
 cases c₀
 simp_all [bodyPostS,results,Tryz.results77]
theorem idle_SGetSnap (p:Addr) (w:World):
  CallsD Tryz.prog 77 #[.pointer (some p)] .returning w fun e u' w'=>e= .returned (.tuple #[])/\u'= .returning /\w'=w:=by
 refine callsD_of_wpS Tryz.func77 rfl fun c₀ cs hu=>?_
 apply wpS_seq
 apply wpS_region
 simp [wpOpsS,go_sem,recoverD,hu,Tryz.ntmps77,Exit.thenS]
 apply wpS_seq
 apply wpS_region
 simp [wpOpsS,go_sem,Exit.thenS]
 refine wpS_cond (t:=false) (by simp [Act.eval,Array.replicate]) ?_
 simp only[Bool.false_eq_true,if_false]
 refine wpS_of_wp (wp_skip ?_)
 cases c₀
 simp_all [bodyPostS,results,Tryz.results77]
theorem SnapGet_bad (v:Value) (bs:List UInt8) (t c:Int) (w:World) (h:Rd w v bs) (ht:t<=9223372036854775807) (hq:stateR bs t= .error c\/(c=4/\ ∃s t',stateR bs t= .ok (s,t')/\rightA s=false)):
  Calls Tryz.prog 23 #[v,.int .i64 t] w (GotSt (zeroSt,0,c) w):=by
 have HB:=hid (stepAlloc (newAlloc w (.cells #[.int .i64 0,.int .i64 0,.int .i64 0,.slice none 0 0,.slice none 0 0,.slice none 0 0] 26)) (.cells #[.int .i64 0] 33))
 have C:Hid (Calls Tryz.prog 74 #[v,.int .i64 t] ((w.alloc (.cells #[.int .i64 0,.int .i64 0,.int .i64 0,.slice none 0 0,.slice none 0 0,.slice none 0 0] 26)).alloc (.cells #[.int .i64 0] 33)) fun e w'=>FailsSn c e/\Below ((w.alloc (.cells #[.int .i64 0,.int .i64 0,.int .i64 0,.slice none 0 0,.slice none 0 0,.slice none 0 0] 26)).alloc (.cells #[.int .i64 0] 33)).heap.size ((w.alloc (.cells #[.int .i64 0,.int .i64 0,.int .i64 0,.slice none 0 0,.slice none 0 0,.slice none 0 0] 26)).alloc (.cells #[.int .i64 0] 33)) w'):=
  hid ((SnapReadState v bs t _ (h.later HB.out) ht).mono fun e w' hh=>by
   unfold PanicsSt at hh
   rcases hq with hq | ⟨rfl,s,t',hq,hr⟩
   ·rw[hq] at hh;exact hh
   ·rw[hq] at hh;dsimp only at hh;rw[hr] at hh;exact hh)
 have HA:Hid (BxAt ((w.alloc (.cells #[.int .i64 0,.int .i64 0,.int .i64 0,.slice none 0 0,.slice none 0 0,.slice none 0 0] 26)).alloc (.cells #[.int .i64 0] 33)) w.heap.size (.cells #[.int .i64 0,.int .i64 0,.int .i64 0,.slice none 0 0,.slice none 0 0,.slice none 0 0] 26)):=hid ((BxAt.new w _).later (newAlloc _ _))
 have HE:Hid (BxAt ((w.alloc (.cells #[.int .i64 0,.int .i64 0,.int .i64 0,.slice none 0 0,.slice none 0 0,.slice none 0 0] 26)).alloc (.cells #[.int .i64 0] 33)) (w.heap.size+1) (.cells #[.int .i64 0] 33)):=hid (by
  have:=BxAt.new (w.alloc (.cells #[.int .i64 0,.int .i64 0,.int .i64 0,.slice none 0 0,.slice none 0 0,.slice none 0 0] 26)) (.cells #[.int .i64 0] 33)
  rwa [show(w.alloc (.cells #[.int .i64 0,.int .i64 0,.int .i64 0,.slice none 0 0,.slice none 0 0,.slice none 0 0] 26)).heap.size =w.heap.size+1 by simp] at this)
 have hmf:=made_func
 clear h hq
 go_enter_defers Tryz.func23,Tryz.ntmps23
 go_upto_region 1 with fail
 generalize hW:(w.alloc (.cells #[.int .i64 0,.int .i64 0,.int .i64 0,.slice none 0 0,.slice none 0 0,.slice none 0 0] 26)).alloc (.cells #[.int .i64 0] 33)=W at HB C HA HE ⊢
 clear hW
 go_wp2_with (go_at_call 74;refine C.out.mono ?_;rintro e w2 ⟨rfl,hb2⟩;have hA:=HA.out.later hb2;have hE:=HE.out.later hb2;have HB2:=hid (step HB.out hb2);clear hb2)
 have hX:BxAt ((w2.setCell ⟨w.heap.size+1,0,none⟩ (.int .i64 c)).alloc (.cells #[.int .i64 c] 168)) w.heap.size (.cells #[.int .i64 0,.int .i64 0,.int .i64 0,.slice none 0 0,.slice none 0 0,.slice none 0 0] 26):=(hA.other (by omega) 0 (.int .i64 c)).later (newAlloc _ _)
 have hY:BxAt ((w2.setCell ⟨w.heap.size+1,0,none⟩ (.int .i64 c)).alloc (.cells #[.int .i64 c] 168)) (w.heap.size+1) (.cells #[.int .i64 c] 33):=BxAt.later (hE.set 0 (.int .i64 c)) (newAlloc _ _)
 have HB9:=hid ((HB2.out.setCell (p:=⟨w.heap.size+1,0,none⟩) (Nat.le_succ _) (.int .i64 c)).trans ((newAlloc _ (.cells #[.int .i64 c] 168)).mono (by have:=(HB2.out.setCell (p:=⟨w.heap.size+1,0,none⟩) (Nat.le_succ _) (.int .i64 c)).size;exact this)))
 refine leaves_cons (f:=72) (args:=#[.pointer (some ⟨w.heap.size+1,0,none⟩)]) (by simp) (by simp [go_sem]) ?_
 refine(catch_SGet (w.heap.size+1) 0 0 c [] _ (cell_atW hE 0) (frozen_atW hE 0)).mono ?_
 rintro e u' w'' ⟨rfl,rfl,rfl⟩
 have x0:=cell_atW hY 0
 have k0:=cell_atW hX 0
 have k1:=cell_atW hX 1
 have k2:=cell_atW hX 2
 have k3:=cell_atW hX 3
 have k4:=cell_atW hX 4
 have k5:=cell_atW hX 5
 simp only[List.getElem?_toArray,List.getElem?_cons_zero,List.getElem?_cons_succ] at k0 k1 k2 k3 k4 k5 x0
 generalize (w2.setCell ⟨w.heap.size+1,0,none⟩ (.int .i64 c)).alloc (.cells #[.int .i64 c] 168)=W9 at*
 simp [Leaves,settle,results,Tryz.results23,go_sem,k0,k1,k2,k3,k4,k5,x0]
 exact⟨zeroC10,rfl,rfl,StO.nil _ _,HB9.out⟩
set_option maxHeartbeats 4000000 in
theorem SnapGet_ok (v:Value) (bs:List UInt8) (t t':Int) (s:StV) (w:World) (h:Rd w v bs) (ht:t<=9223372036854775807) (hq:stateR bs t= .ok (s,t')) (hr:rightA s=true):
  Calls Tryz.prog 23 #[v,.int .i64 t] w (GotSt (s,t',0) w):=by
 have HB:=hid (stepAlloc (newAlloc w (.cells #[.int .i64 0,.int .i64 0,.int .i64 0,.slice none 0 0,.slice none 0 0,.slice none 0 0] 26)) (.cells #[.int .i64 0] 33))
 have C:=hid ((SnapReadState v bs t ((w.alloc (.cells #[.int .i64 0,.int .i64 0,.int .i64 0,.slice none 0 0,.slice none 0 0,.slice none 0 0] 26)).alloc (.cells #[.int .i64 0] 33)) (h.later HB.out) ht).mono fun e w' hh=>by
   unfold PanicsSt at hh
   rw[hq] at hh;dsimp only at hh;rw[hr,if_pos rfl] at hh;exact hh)
 have HA:Hid (BxAt ((w.alloc (.cells #[.int .i64 0,.int .i64 0,.int .i64 0,.slice none 0 0,.slice none 0 0,.slice none 0 0] 26)).alloc (.cells #[.int .i64 0] 33)) w.heap.size (.cells #[.int .i64 0,.int .i64 0,.int .i64 0,.slice none 0 0,.slice none 0 0,.slice none 0 0] 26)):=hid ((BxAt.new w _).later (newAlloc _ _))
 have HE:Hid (BxAt ((w.alloc (.cells #[.int .i64 0,.int .i64 0,.int .i64 0,.slice none 0 0,.slice none 0 0,.slice none 0 0] 26)).alloc (.cells #[.int .i64 0] 33)) (w.heap.size+1) (.cells #[.int .i64 0] 33)):=hid (by
  have:=BxAt.new (w.alloc (.cells #[.int .i64 0,.int .i64 0,.int .i64 0,.slice none 0 0,.slice none 0 0,.slice none 0 0] 26)) (.cells #[.int .i64 0] 33)
  rwa [show(w.alloc (.cells #[.int .i64 0,.int .i64 0,.int .i64 0,.slice none 0 0,.slice none 0 0,.slice none 0 0] 26)).heap.size =w.heap.size+1 by simp] at this)
 have HSZ:Hid (((w.alloc (.cells #[.int .i64 0,.int .i64 0,.int .i64 0,.slice none 0 0,.slice none 0 0,.slice none 0 0] 26)).alloc (.cells #[.int .i64 0] 33)).heap.size =w.heap.size+1+1):=hid (by simp)
 have hmf:=made_func
 clear h hq hr
 go_enter_defers Tryz.func23,Tryz.ntmps23
 go_upto_region 1 with fail
 generalize hW:(w.alloc (.cells #[.int .i64 0,.int .i64 0,.int .i64 0,.slice none 0 0,.slice none 0 0,.slice none 0 0] 26)).alloc (.cells #[.int .i64 0] 33)=W at HB C HA HE HSZ ⊢
 clear hW
 go_upto_region 2 with fail
 go_wp2_with fail
 refine C.out.mono ?_
 rintro e w2 ⟨x,hxv,rfl,hxo,hb2⟩
 have hA:=HA.out.later hb2
 have hE:=HE.out.later hb2
 have HB2:=hid (step HB.out hb2)
 rw[HSZ.out] at hxo
 obtain⟨ti,nu,tk,S,sa,sc,KL,ka,kc,M,ma,mc⟩:=x
 have HXV:=hid hxv
 have HXO:=hid hxo
 have HAA:=hid hA
 have HEE:=hid hE
 unfold stVal StC.sv StC.kv StC.mv
 dsimp only
 have k0:=cell_atW hA 0
 have k1:=cell_atW hA 1
 have k2:=cell_atW hA 2
 have k3:=cell_atW hA 3
 have k4:=cell_atW hA 4
 have k5:=cell_atW hA 5
 have kf:=frozen_atW hA
 have e0:=cell_atW hE 0
 have ef:=frozen_atW hE
 simp only[List.getElem?_toArray,List.getElem?_cons_zero,List.getElem?_cons_succ] at k0 k1 k2 k3 k4 k5 e0
 clear hb2 hxv hxo hA hE C HA HE
 go_upto_region 3 with fail
 have hA:=HAA.out.put6 (.int .i64 ti) (.int .i64 nu) (.int .i64 tk) (.slice sa S.length sc) (.slice ka KL.length kc) (.slice ma M.length mc)
 have hE:=HEE.out.oth6 (show w.heap.size+1≠w.heap.size by omega) (.int .i64 ti) (.int .i64 nu) (.int .i64 tk) (.slice sa S.length sc) (.slice ka KL.length kc) (.slice ma M.length mc)
 have HXO:=hid (HXO.out.put6 (show w.heap.size<w.heap.size+1+1 by omega) (.int .i64 ti) (.int .i64 nu) (.int .i64 tk) (.slice sa S.length sc) (.slice ka KL.length kc) (.slice ma M.length mc))
 have HB2:=hid (below_put6 HB2.out w.heap.size (Nat.le_refl _) (.int .i64 ti) (.int .i64 nu) (.int .i64 tk) (.slice sa S.length sc) (.slice ka KL.length kc) (.slice ma M.length mc))
 change Code.wp _ _ _ _ (putS6 w2 w.heap.size (.int .i64 ti) (.int .i64 nu) (.int .i64 tk) (.slice sa S.length sc) (.slice ka KL.length kc) (.slice ma M.length mc))
 generalize (putS6 w2 w.heap.size (.int .i64 ti) (.int .i64 nu) (.int .i64 tk) (.slice sa S.length sc) (.slice ka KL.length kc) (.slice ma M.length mc))=W5 at hA hE HXO HB2 ⊢
 clear k0 k1 k2 k3 k4 k5 kf e0 ef
 have k0:=cell_atW hA 0
 have k1:=cell_atW hA 1
 have k2:=cell_atW hA 2
 have k3:=cell_atW hA 3
 have k4:=cell_atW hA 4
 have k5:=cell_atW hA 5
 have kf:=frozen_atW hA
 have e0:=cell_atW hE 0
 have ef:=frozen_atW hE
 simp only[List.getElem?_toArray,List.getElem?_cons_zero,List.getElem?_cons_succ] at k0 k1 k2 k3 k4 k5 e0
 have HAA:=hid hA
 have HEE:=hid hE
 clear hA hE
 go_wp2_with fail
 have hA:=(HAA.out.put6 (.int .i64 ti) (.int .i64 nu) (.int .i64 tk) (.slice sa S.length sc) (.slice ka KL.length kc) (.slice ma M.length mc)).other (k:=w.heap.size+1) (by omega) 0 (.int .i64 0)
 have hE:=(HEE.out.oth6 (show w.heap.size+1≠w.heap.size by omega) (.int .i64 ti) (.int .i64 nu) (.int .i64 tk) (.slice sa S.length sc) (.slice ka KL.length kc) (.slice ma M.length mc)).set 0 (.int .i64 0)
 have hE:BxAt ((putS6 W5 w.heap.size (.int .i64 ti) (.int .i64 nu) (.int .i64 tk) (.slice sa S.length sc) (.slice ka KL.length kc) (.slice ma M.length mc)).setCell ⟨w.heap.size+1,0,none⟩ (.int .i64 0)) (w.heap.size+1) (.cells #[.int .i64 0] 33):=hE
 have o9:=hid ((HXO.out.put6 (show w.heap.size<w.heap.size+1+1 by omega) (.int .i64 ti) (.int .i64 nu) (.int .i64 tk) (.slice sa S.length sc) (.slice ka KL.length kc) (.slice ma M.length mc)).set (g:=w.heap.size+1) (by omega) 0 (.int .i64 0))
 have b9:=hid ((below_put6 HB2.out w.heap.size (Nat.le_refl _) (.int .i64 ti) (.int .i64 nu) (.int .i64 tk) (.slice sa S.length sc) (.slice ka KL.length kc) (.slice ma M.length mc)).setCell (p:=⟨w.heap.size+1,0,none⟩) (Nat.le_succ _) (.int .i64 0))
 change bodyPostD _ _ _ _ _ ((putS6 W5 w.heap.size (.int .i64 ti) (.int .i64 nu) (.int .i64 tk) (.slice sa S.length sc) (.slice ka KL.length kc) (.slice ma M.length mc)).setCell ⟨w.heap.size+1,0,none⟩ (.int .i64 0))
 generalize (putS6 W5 w.heap.size (.int .i64 ti) (.int .i64 nu) (.int .i64 tk) (.slice sa S.length sc) (.slice ka KL.length kc) (.slice ma M.length mc)).setCell ⟨w.heap.size+1,0,none⟩ (.int .i64 0)=W9 at hA hE o9 b9 ⊢
 clear k0 k1 k2 k3 k4 k5 kf e0 ef HAA HEE HXO HB2
 have k0:=cell_atW hA 0
 have k1:=cell_atW hA 1
 have k2:=cell_atW hA 2
 have k3:=cell_atW hA 3
 have k4:=cell_atW hA 4
 have k5:=cell_atW hA 5
 have kf:=frozen_atW hA
 have e0:=cell_atW hE 0
 have ef:=frozen_atW hE
 simp only[List.getElem?_toArray,List.getElem?_cons_zero,List.getElem?_cons_succ] at k0 k1 k2 k3 k4 k5 e0
 clear hA hE
 refine leaves_cons (f:=72) (args:=#[.pointer (some ⟨w.heap.size+1,0,none⟩)]) (by simp) (by simp [go_sem]) ?_
 refine(idle_SGet ⟨w.heap.size+1,0,none⟩ _).mono ?_
 rintro e u' w'' ⟨rfl,rfl,rfl⟩
 simp [Leaves,settle,results,Tryz.results23,go_sem,k0,k1,k2,k3,k4,k5,e0]
 exact⟨⟨ti,nu,tk,S,sa,sc,KL,ka,kc,M,ma,mc⟩,HXV.out,rfl,o9.out.lower (by omega),b9.out⟩
theorem SnapGet_any (v:Value) (bs:List UInt8) (t:Int) (w:World) (h:Rd w v bs) (ht:t<=9223372036854775807):Calls Tryz.prog 23 #[v,.int .i64 t] w (GotSt (getSt bs t) w):=by
 unfold getSt
 cases hq:stateR bs t with
 | error c=>exact SnapGet_bad v bs t c w h ht (.inl hq)
 | ok p=>
  obtain⟨s,t'⟩:=p
  dsimp only
  cases hr:rightA s
  ·exact SnapGet_bad v bs t 4 w h ht (.inr ⟨rfl,s,t',hq,hr⟩)
  ·exact SnapGet_ok v bs t t' s w h ht hq hr
theorem SnapGetSnap_bad (v:Value) (bs:List UInt8) (t c:Int) (w:World) (h:Rd w v bs) (ht:t<=9223372036854775807) (hq:snapR bs t= .error c\/(c=4/\ ∃s t',snapR bs t= .ok (s,t')/\maySV s=false)):
  Calls Tryz.prog 27 #[v,.int .i64 t] w (GotSn (zeroSn,0,c) w):=by
 have HB:=hid (stepAlloc (newAlloc w (.cells #[.int .i64 0,.int .i64 0,.int .i64 0,.int .i64 0,.int .i64 0,.int .i64 0,.slice none 0 0,.slice none 0 0,.slice none 0 0] 46)) (.cells #[.int .i64 0] 33))
 have C:Hid (Calls Tryz.prog 78 #[v,.int .i64 t] ((w.alloc (.cells #[.int .i64 0,.int .i64 0,.int .i64 0,.int .i64 0,.int .i64 0,.int .i64 0,.slice none 0 0,.slice none 0 0,.slice none 0 0] 46)).alloc (.cells #[.int .i64 0] 33)) fun e w'=>FailsSn c e/\Below ((w.alloc (.cells #[.int .i64 0,.int .i64 0,.int .i64 0,.int .i64 0,.int .i64 0,.int .i64 0,.slice none 0 0,.slice none 0 0,.slice none 0 0] 46)).alloc (.cells #[.int .i64 0] 33)).heap.size ((w.alloc (.cells #[.int .i64 0,.int .i64 0,.int .i64 0,.int .i64 0,.int .i64 0,.int .i64 0,.slice none 0 0,.slice none 0 0,.slice none 0 0] 46)).alloc (.cells #[.int .i64 0] 33)) w'):=
  hid ((SnapReadSnap v bs t _ (h.later HB.out) ht).mono fun e w' hh=>by
   unfold PanicsSn at hh
   rcases hq with hq | ⟨rfl,s,t',hq,hr⟩
   ·rw[hq] at hh;exact hh
   ·rw[hq] at hh;dsimp only at hh;rw[hr] at hh;exact hh)
 have HA:Hid (BxAt ((w.alloc (.cells #[.int .i64 0,.int .i64 0,.int .i64 0,.int .i64 0,.int .i64 0,.int .i64 0,.slice none 0 0,.slice none 0 0,.slice none 0 0] 46)).alloc (.cells #[.int .i64 0] 33)) w.heap.size (.cells #[.int .i64 0,.int .i64 0,.int .i64 0,.int .i64 0,.int .i64 0,.int .i64 0,.slice none 0 0,.slice none 0 0,.slice none 0 0] 46)):=hid ((BxAt.new w _).later (newAlloc _ _))
 have HE:Hid (BxAt ((w.alloc (.cells #[.int .i64 0,.int .i64 0,.int .i64 0,.int .i64 0,.int .i64 0,.int .i64 0,.slice none 0 0,.slice none 0 0,.slice none 0 0] 46)).alloc (.cells #[.int .i64 0] 33)) (w.heap.size+1) (.cells #[.int .i64 0] 33)):=hid (by
  have:=BxAt.new (w.alloc (.cells #[.int .i64 0,.int .i64 0,.int .i64 0,.int .i64 0,.int .i64 0,.int .i64 0,.slice none 0 0,.slice none 0 0,.slice none 0 0] 46)) (.cells #[.int .i64 0] 33)
  rwa [show(w.alloc (.cells #[.int .i64 0,.int .i64 0,.int .i64 0,.int .i64 0,.int .i64 0,.int .i64 0,.slice none 0 0,.slice none 0 0,.slice none 0 0] 46)).heap.size =w.heap.size+1 by simp] at this)
 have hmf:=made_func
 clear h hq
 go_enter_defers Tryz.func27,Tryz.ntmps27
 go_upto_region 1 with fail
 generalize hW:(w.alloc (.cells #[.int .i64 0,.int .i64 0,.int .i64 0,.int .i64 0,.int .i64 0,.int .i64 0,.slice none 0 0,.slice none 0 0,.slice none 0 0] 46)).alloc (.cells #[.int .i64 0] 33)=W at HB C HA HE ⊢
 clear hW
 go_wp2_with (go_at_call 78;refine C.out.mono ?_;rintro e w2 ⟨rfl,hb2⟩;have hA:=HA.out.later hb2;have hE:=HE.out.later hb2;have HB2:=hid (step HB.out hb2);clear hb2)
 have hX:BxAt ((w2.setCell ⟨w.heap.size+1,0,none⟩ (.int .i64 c)).alloc (.cells #[.int .i64 c] 168)) w.heap.size (.cells #[.int .i64 0,.int .i64 0,.int .i64 0,.int .i64 0,.int .i64 0,.int .i64 0,.slice none 0 0,.slice none 0 0,.slice none 0 0] 46):=(hA.other (by omega) 0 (.int .i64 c)).later (newAlloc _ _)
 have hY:BxAt ((w2.setCell ⟨w.heap.size+1,0,none⟩ (.int .i64 c)).alloc (.cells #[.int .i64 c] 168)) (w.heap.size+1) (.cells #[.int .i64 c] 33):=BxAt.later (hE.set 0 (.int .i64 c)) (newAlloc _ _)
 have HB9:=hid ((HB2.out.setCell (p:=⟨w.heap.size+1,0,none⟩) (Nat.le_succ _) (.int .i64 c)).trans ((newAlloc _ (.cells #[.int .i64 c] 168)).mono (by have:=(HB2.out.setCell (p:=⟨w.heap.size+1,0,none⟩) (Nat.le_succ _) (.int .i64 c)).size;exact this)))
 refine leaves_cons (f:=77) (args:=#[.pointer (some ⟨w.heap.size+1,0,none⟩)]) (by simp) (by simp [go_sem]) ?_
 refine(catch_SGetSnap (w.heap.size+1) 0 0 c [] _ (cell_atW hE 0) (frozen_atW hE 0)).mono ?_
 rintro e u' w'' ⟨rfl,rfl,rfl⟩
 have x0:=cell_atW hY 0
 have k0:=cell_atW hX 0
 have k1:=cell_atW hX 1
 have k2:=cell_atW hX 2
 have k3:=cell_atW hX 3
 have k4:=cell_atW hX 4
 have k5:=cell_atW hX 5
 have k6:=cell_atW hX 6
 have k7:=cell_atW hX 7
 have k8:=cell_atW hX 8
 simp only[List.getElem?_toArray,List.getElem?_cons_zero,List.getElem?_cons_succ] at k0 k1 k2 k3 k4 k5 k6 k7 k8 x0
 generalize (w2.setCell ⟨w.heap.size+1,0,none⟩ (.int .i64 c)).alloc (.cells #[.int .i64 c] 168)=W9 at*
 simp [Leaves,settle,results,Tryz.results27,go_sem,k0,k1,k2,k3,k4,k5,k6,k7,k8,x0]
 exact⟨zeroC10,rfl,rfl,StO.nil _ _,HB9.out⟩
set_option maxHeartbeats 4000000 in
theorem SnapGetSnap_ok (v:Value) (bs:List UInt8) (t t':Int) (s:SnV) (w:World) (h:Rd w v bs) (ht:t<=9223372036854775807) (hq:snapR bs t= .ok (s,t')) (hr:maySV s=true):
  Calls Tryz.prog 27 #[v,.int .i64 t] w (GotSn (s,t',0) w):=by
 have HB:=hid (stepAlloc (newAlloc w (.cells #[.int .i64 0,.int .i64 0,.int .i64 0,.int .i64 0,.int .i64 0,.int .i64 0,.slice none 0 0,.slice none 0 0,.slice none 0 0] 46)) (.cells #[.int .i64 0] 33))
 have C:=hid ((SnapReadSnap v bs t ((w.alloc (.cells #[.int .i64 0,.int .i64 0,.int .i64 0,.int .i64 0,.int .i64 0,.int .i64 0,.slice none 0 0,.slice none 0 0,.slice none 0 0] 46)).alloc (.cells #[.int .i64 0] 33)) (h.later HB.out) ht).mono fun e w' hh=>by
   unfold PanicsSn at hh
   rw[hq] at hh;dsimp only at hh;rw[hr,if_pos rfl] at hh;exact hh)
 have HA:Hid (BxAt ((w.alloc (.cells #[.int .i64 0,.int .i64 0,.int .i64 0,.int .i64 0,.int .i64 0,.int .i64 0,.slice none 0 0,.slice none 0 0,.slice none 0 0] 46)).alloc (.cells #[.int .i64 0] 33)) w.heap.size (.cells #[.int .i64 0,.int .i64 0,.int .i64 0,.int .i64 0,.int .i64 0,.int .i64 0,.slice none 0 0,.slice none 0 0,.slice none 0 0] 46)):=hid ((BxAt.new w _).later (newAlloc _ _))
 have HE:Hid (BxAt ((w.alloc (.cells #[.int .i64 0,.int .i64 0,.int .i64 0,.int .i64 0,.int .i64 0,.int .i64 0,.slice none 0 0,.slice none 0 0,.slice none 0 0] 46)).alloc (.cells #[.int .i64 0] 33)) (w.heap.size+1) (.cells #[.int .i64 0] 33)):=hid (by
  have:=BxAt.new (w.alloc (.cells #[.int .i64 0,.int .i64 0,.int .i64 0,.int .i64 0,.int .i64 0,.int .i64 0,.slice none 0 0,.slice none 0 0,.slice none 0 0] 46)) (.cells #[.int .i64 0] 33)
  rwa [show(w.alloc (.cells #[.int .i64 0,.int .i64 0,.int .i64 0,.int .i64 0,.int .i64 0,.int .i64 0,.slice none 0 0,.slice none 0 0,.slice none 0 0] 46)).heap.size =w.heap.size+1 by simp] at this)
 have HSZ:Hid (((w.alloc (.cells #[.int .i64 0,.int .i64 0,.int .i64 0,.int .i64 0,.int .i64 0,.int .i64 0,.slice none 0 0,.slice none 0 0,.slice none 0 0] 46)).alloc (.cells #[.int .i64 0] 33)).heap.size =w.heap.size+1+1):=hid (by simp)
 have hmf:=made_func
 clear h hq hr
 go_enter_defers Tryz.func27,Tryz.ntmps27
 go_upto_region 1 with fail
 generalize hW:(w.alloc (.cells #[.int .i64 0,.int .i64 0,.int .i64 0,.int .i64 0,.int .i64 0,.int .i64 0,.slice none 0 0,.slice none 0 0,.slice none 0 0] 46)).alloc (.cells #[.int .i64 0] 33)=W at HB C HA HE HSZ ⊢
 clear hW
 go_upto_region 2 with fail
 go_wp2_with fail
 refine C.out.mono ?_
 rintro e w2 ⟨x,hxv,rfl,hxo,hb2⟩
 have hA:=HA.out.later hb2
 have hE:=HE.out.later hb2
 have HB2:=hid (step HB.out hb2)
 rw[HSZ.out] at hxo
 obtain⟨ti,nu,tk,S,sa,sc,KL,ka,kc,M,ma,mc⟩:=x
 have HXV:=hid hxv
 have HXO:=hid hxo
 have HAA:=hid hA
 have HEE:=hid hE
 unfold snapVal StC.sv StC.kv StC.mv
 dsimp only
 have k0:=cell_atW hA 0
 have k1:=cell_atW hA 1
 have k2:=cell_atW hA 2
 have k3:=cell_atW hA 3
 have k4:=cell_atW hA 4
 have k5:=cell_atW hA 5
 have k6:=cell_atW hA 6
 have k7:=cell_atW hA 7
 have k8:=cell_atW hA 8
 have kf:=frozen_atW hA
 have e0:=cell_atW hE 0
 have ef:=frozen_atW hE
 simp only[List.getElem?_toArray,List.getElem?_cons_zero,List.getElem?_cons_succ] at k0 k1 k2 k3 k4 k5 k6 k7 k8 e0
 clear hb2 hxv hxo hA hE C HA HE
 go_upto_region 3 with fail
 have hA:=HAA.out.put9 (.int .i64 s.done) (.int .i64 s.tv) (.int .i64 s.ts) (.int .i64 ti) (.int .i64 nu) (.int .i64 tk) (.slice sa S.length sc) (.slice ka KL.length kc) (.slice ma M.length mc)
 have hE:=HEE.out.oth9 (show w.heap.size+1≠w.heap.size by omega) (.int .i64 s.done) (.int .i64 s.tv) (.int .i64 s.ts) (.int .i64 ti) (.int .i64 nu) (.int .i64 tk) (.slice sa S.length sc) (.slice ka KL.length kc) (.slice ma M.length mc)
 have HXO:=hid (HXO.out.put9 (show w.heap.size<w.heap.size+1+1 by omega) (.int .i64 s.done) (.int .i64 s.tv) (.int .i64 s.ts) (.int .i64 ti) (.int .i64 nu) (.int .i64 tk) (.slice sa S.length sc) (.slice ka KL.length kc) (.slice ma M.length mc))
 have HB2:=hid (below_put9 HB2.out w.heap.size (Nat.le_refl _) (.int .i64 s.done) (.int .i64 s.tv) (.int .i64 s.ts) (.int .i64 ti) (.int .i64 nu) (.int .i64 tk) (.slice sa S.length sc) (.slice ka KL.length kc) (.slice ma M.length mc))
 change Code.wp _ _ _ _ (putS9 w2 w.heap.size (.int .i64 s.done) (.int .i64 s.tv) (.int .i64 s.ts) (.int .i64 ti) (.int .i64 nu) (.int .i64 tk) (.slice sa S.length sc) (.slice ka KL.length kc) (.slice ma M.length mc))
 generalize (putS9 w2 w.heap.size (.int .i64 s.done) (.int .i64 s.tv) (.int .i64 s.ts) (.int .i64 ti) (.int .i64 nu) (.int .i64 tk) (.slice sa S.length sc) (.slice ka KL.length kc) (.slice ma M.length mc))=W5 at hA hE HXO HB2 ⊢
 clear k0 k1 k2 k3 k4 k5 k6 k7 k8 kf e0 ef
 have k0:=cell_atW hA 0
 have k1:=cell_atW hA 1
 have k2:=cell_atW hA 2
 have k3:=cell_atW hA 3
 have k4:=cell_atW hA 4
 have k5:=cell_atW hA 5
 have k6:=cell_atW hA 6
 have k7:=cell_atW hA 7
 have k8:=cell_atW hA 8
 have kf:=frozen_atW hA
 have e0:=cell_atW hE 0
 have ef:=frozen_atW hE
 simp only[List.getElem?_toArray,List.getElem?_cons_zero,List.getElem?_cons_succ] at k0 k1 k2 k3 k4 k5 k6 k7 k8 e0
 have HAA:=hid hA
 have HEE:=hid hE
 clear hA hE
 go_wp2_with fail
 have hA:=(HAA.out.put9 (.int .i64 s.done) (.int .i64 s.tv) (.int .i64 s.ts) (.int .i64 ti) (.int .i64 nu) (.int .i64 tk) (.slice sa S.length sc) (.slice ka KL.length kc) (.slice ma M.length mc)).other (k:=w.heap.size+1) (by omega) 0 (.int .i64 0)
 have hE:=(HEE.out.oth9 (show w.heap.size+1≠w.heap.size by omega) (.int .i64 s.done) (.int .i64 s.tv) (.int .i64 s.ts) (.int .i64 ti) (.int .i64 nu) (.int .i64 tk) (.slice sa S.length sc) (.slice ka KL.length kc) (.slice ma M.length mc)).set 0 (.int .i64 0)
 have hE:BxAt ((putS9 W5 w.heap.size (.int .i64 s.done) (.int .i64 s.tv) (.int .i64 s.ts) (.int .i64 ti) (.int .i64 nu) (.int .i64 tk) (.slice sa S.length sc) (.slice ka KL.length kc) (.slice ma M.length mc)).setCell ⟨w.heap.size+1,0,none⟩ (.int .i64 0)) (w.heap.size+1) (.cells #[.int .i64 0] 33):=hE
 have o9:=hid ((HXO.out.put9 (show w.heap.size<w.heap.size+1+1 by omega) (.int .i64 s.done) (.int .i64 s.tv) (.int .i64 s.ts) (.int .i64 ti) (.int .i64 nu) (.int .i64 tk) (.slice sa S.length sc) (.slice ka KL.length kc) (.slice ma M.length mc)).set (g:=w.heap.size+1) (by omega) 0 (.int .i64 0))
 have b9:=hid ((below_put9 HB2.out w.heap.size (Nat.le_refl _) (.int .i64 s.done) (.int .i64 s.tv) (.int .i64 s.ts) (.int .i64 ti) (.int .i64 nu) (.int .i64 tk) (.slice sa S.length sc) (.slice ka KL.length kc) (.slice ma M.length mc)).setCell (p:=⟨w.heap.size+1,0,none⟩) (Nat.le_succ _) (.int .i64 0))
 change bodyPostD _ _ _ _ _ ((putS9 W5 w.heap.size (.int .i64 s.done) (.int .i64 s.tv) (.int .i64 s.ts) (.int .i64 ti) (.int .i64 nu) (.int .i64 tk) (.slice sa S.length sc) (.slice ka KL.length kc) (.slice ma M.length mc)).setCell ⟨w.heap.size+1,0,none⟩ (.int .i64 0))
 generalize (putS9 W5 w.heap.size (.int .i64 s.done) (.int .i64 s.tv) (.int .i64 s.ts) (.int .i64 ti) (.int .i64 nu) (.int .i64 tk) (.slice sa S.length sc) (.slice ka KL.length kc) (.slice ma M.length mc)).setCell ⟨w.heap.size+1,0,none⟩ (.int .i64 0)=W9 at hA hE o9 b9 ⊢
 clear k0 k1 k2 k3 k4 k5 k6 k7 k8 kf e0 ef HAA HEE HXO HB2
 have k0:=cell_atW hA 0
 have k1:=cell_atW hA 1
 have k2:=cell_atW hA 2
 have k3:=cell_atW hA 3
 have k4:=cell_atW hA 4
 have k5:=cell_atW hA 5
 have k6:=cell_atW hA 6
 have k7:=cell_atW hA 7
 have k8:=cell_atW hA 8
 have kf:=frozen_atW hA
 have e0:=cell_atW hE 0
 have ef:=frozen_atW hE
 simp only[List.getElem?_toArray,List.getElem?_cons_zero,List.getElem?_cons_succ] at k0 k1 k2 k3 k4 k5 k6 k7 k8 e0
 clear hA hE
 refine leaves_cons (f:=77) (args:=#[.pointer (some ⟨w.heap.size+1,0,none⟩)]) (by simp) (by simp [go_sem]) ?_
 refine(idle_SGetSnap ⟨w.heap.size+1,0,none⟩ _).mono ?_
 rintro e u' w'' ⟨rfl,rfl,rfl⟩
 simp [Leaves,settle,results,Tryz.results27,go_sem,k0,k1,k2,k3,k4,k5,k6,k7,k8,e0]
 exact⟨⟨ti,nu,tk,S,sa,sc,KL,ka,kc,M,ma,mc⟩,HXV.out,rfl,o9.out.lower (by omega),b9.out⟩
theorem SnapGetSnap_any (v:Value) (bs:List UInt8) (t:Int) (w:World) (h:Rd w v bs) (ht:t<=9223372036854775807):Calls Tryz.prog 27 #[v,.int .i64 t] w (GotSn (getSn bs t) w):=by
 unfold getSn
 cases hq:snapR bs t with
 | error c=>exact SnapGetSnap_bad v bs t c w h ht (.inl hq)
 | ok p=>
  obtain⟨s,t'⟩:=p
  dsimp only
  cases hr:maySV s
  ·exact SnapGetSnap_bad v bs t 4 w h ht (.inr ⟨rfl,s,t',hq,hr⟩)
  ·exact SnapGetSnap_ok v bs t t' s w h ht hq hr
end Cm
end Go.Proofs.YtlnbmblbeaodcaaGreat
