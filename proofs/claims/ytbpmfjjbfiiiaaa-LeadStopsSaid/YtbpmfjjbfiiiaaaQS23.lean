/- Texts laid together by program. -/
import Derived.Test.YtbpmfjjbfiiiaaaQS22
/- lead's takeOver. -/
set_option linter.unusedVariables false
set_option maxRecDepth 8000
set_option linter.unusedSimpArgs false
namespace Go.Proofs.Ytbpmfjjbfiiiaaa
open Lib (hid)
open Go.RowKit
namespace Ld
open Cm Ac Pl Vw

def TakeL (g m:Nat) (s:LedV) (pv bv:Value) (w:World) (e:Ending) (w':World):Prop:=e= .returned (.tuple #[])/\DidL g m (takeF s) pv bv w w'
set_option maxHeartbeats 4000000 in
theorem LTake_any (g m:Nat) (s:LedV) (pv bv:Value) (w:World) (h:HasL w g m s pv bv) (h7:s.ps.length<=7) (hd0:0<=(makeF s.ps).1.done) (hd1:(makeF s.ps).1.done <=2305843009213693952) (hl9:(makeF s.ps).1.bats.length <=9):Calls Try.prog 40 #[.pointer (some ⟨g,0,none⟩)] w (TakeL g m s pv bv w):=by
 have c10:=h.c10
 have HH:=hid h
 have HG:=hid h.gm
 have HLT:=hid h.lt
 have HEX:=hid h.ex
 obtain⟨P,e1,hp⟩:=h.ps
 have CM:=hid (Make_any pv P w hp.rd (by have:=congrArg List.length e1;rw[valsP_length] at this;omega))
 rw[e1] at CM
 clear h e1 hp
 obtain⟨sn,sp,sv,sh,sps,sb,sx,s1,s2,s3⟩:=s
 unfold TakeL DidL takeF
 dsimp only at HEX c10 CM h7 hd0 hd1 hl9 ⊢
 have HP9:Hid (makeF sps=makeF sps):=hid rfl
 generalize makeF sps=R at CM hd0 hd1 hl9 ⊢
 obtain⟨⟨pd,pt,ps,pm,pb,pe,pf,pl⟩,pc⟩:=R
 unfold GivesP planVal at CM
 dsimp only at CM hd0 hd1 hl9 ⊢
 clear HP9
 go_enter Try.func40,Try.ntmps40
 go_upto_region 1 with (go_at_call 52;refine CM.out.mono ?_;rintro e w2 ⟨va,vc,Lb,rfl,hvb,hob,hb2⟩;have HVB:=hid hvb;have HOB:=hid hob;have HB2:=hid hb2;have HN:Hid (Lb.length=pb.length):=hid (by rw[<-hvb,valsB_length]);rw[HN.out];clear hvb hob hb2)
 obtain⟨N,hN⟩: ∃N,pb.length=N:=⟨_,rfl⟩
 have HNN:=hid hN
 rw[hN] at HN hl9 ⊢
 clear hN
 have hbp:=newAlloc w2 (.cells #[.int .i64 pd,.int .i64 pt,.int .i64 ps,.int .i64 pm,.slice va N vc,.int .i64 pe,.int .i64 pf,.int .i64 pl] 97)
 have k3:=alloc_atB w2 (.cells #[.int .i64 pd,.int .i64 pt,.int .i64 ps,.int .i64 pm,.slice va N vc,.int .i64 pe,.int .i64 pf,.int .i64 pl] 97) _ rfl
 have HEX3:=hid (cells_later HEX.out (step HB2.out hbp))
 have HOB3:=hid (HOB.out.later hbp)
 have HB3:=hid (step HB2.out hbp)
 have HGB:Hid (g<w2.heap.size):=hid (Nat.lt_of_lt_of_le HLT.out HB2.out.size)
 generalize w2.alloc (.cells #[.int .i64 pd,.int .i64 pt,.int .i64 ps,.int .i64 pm,.slice va N vc,.int .i64 pe,.int .i64 pf,.int .i64 pl] 97)=W3 at k3 HEX3 HOB3 HB3 ⊢
 generalize w2.heap.size=b3 at k3 HGB ⊢
 clear hbp c10
 have HK3:=hid k3
 have c1:=cell_at HEX3.out 1
 have c10:=cell_at HEX3.out 10
 have cf:=frozen_at HEX3.out
 simp at c1 c10
 go_upto_region 2 with fail
 have k4:=set_atB (set_atB HEX3.out 1 (.int .i64 2)) 10 (.slice none 0 0)
 simp only[List.setIfInBounds_toArray,List.set_cons_zero,List.set_cons_succ] at k4
 have HEX4:=hid k4
 have HC4:Hid (Chg (LS g pv bv) w ((W3.setCell ⟨g,1,none⟩ (.int .i64 2)).setCell ⟨g,10,none⟩ (.slice none 0 0))):=hid (((Chg.of HB3.out).set g 1 _ (.inl (.inl rfl))).set g 10 _ (.inl (.inl rfl)))
 have hne:b3≠g:=by have:=HGB.out;omega
 have HK4:Hid (HeapAt ((W3.setCell ⟨g,1,none⟩ (.int .i64 2)).setCell ⟨g,10,none⟩ (.slice none 0 0)) b3 (.cells #[.int .i64 pd,.int .i64 pt,.int .i64 ps,.int .i64 pm,.slice va N vc,.int .i64 pe,.int .i64 pf,.int .i64 pl] 97)):=hid (HeapAt.other (HeapAt.other HK3.out hne _) hne _)
 have HG4:=hid ((grown_set1 W3 g 1 (.int .i64 2)).trans (grown_set1 _ g 10 (.slice none 0 0)))
 have HOB4:=hid (HOB3.out.other HG4.out HEX3.out (by decide) (by decide))
 generalize (W3.setCell ⟨g,1,none⟩ (.int .i64 2)).setCell ⟨g,10,none⟩ (.slice none 0 0)=W4 at HEX4 HC4 HK4 HOB4 ⊢
 clear c1 c10 cf k4 k3 HG4 HEX3 HK3 HOB3 HB3
 have c11:=cell_at HEX4.out 11
 have c12:=cell_at HEX4.out 12
 have cf:=frozen_at HEX4.out
 have p0:=cell_at HK4.out 0
 have p4:=cell_at HK4.out 4
 simp at c11 c12 p0 p4
 have ew1:IntKind.i64.wrap (pd+1)=pd+1:=by rw[IntKind.wrap_i64];omega
 have ew2:IntKind.i64.wrap (pd+1+(N:Int))=pd+1+(N:Int):=by rw[IntKind.wrap_i64];omega
 have HD:=hid (And.intro hd0 (And.intro hd1 hl9))
 clear hd0 hd1 hl9
 have k5:=set_atB (set_atB HEX4.out 11 (.slice va N vc)) 12 (.int .i64 (pd+1+(N:Int)))
 simp only[List.setIfInBounds_toArray,List.set_cons_zero,List.set_cons_succ] at k5
 have HEX5:Hid (HeapAt ((W4.setCell ⟨g,11,none⟩ (.slice va N vc)).setCell ⟨g,12,none⟩ (.int .i64 (pd+1+(N:Int)))).drew g _):=hid (HeapAt.later k5 (Below.refl _ _).drew)
 have HC5:=hid (((HC4.out.set g 11 (.slice va N vc) (.inl (.inl rfl))).set g 12 (.int .i64 (pd+1+(N:Int))) (.inl (.inl rfl))).below (Below.refl _ _).drew)
 have HK5:=hid ((HeapAt.other (HeapAt.other HK4.out hne (i:=11) (.slice va N vc)) hne (i:=12) (.int .i64 (pd+1+(N:Int)))).later (Below.refl _ _).drew)
 have HG5:=hid ((grown_set1 W4 g 11 (.slice va N vc)).trans (grown_set1 _ g 12 (.int .i64 (pd+1+(N:Int)))))
 have HOB5:=hid ((HOB4.out.other HG5.out HEX4.out (by decide) (by decide)).later (Below.refl _ _).drew)
 go_region
 generalize ((W4.setCell ⟨g,11,none⟩ (.slice va N vc)).setCell ⟨g,12,none⟩ (.int .i64 (pd+1+(N:Int)))).drew =W5 at HEX5 HC5 HK5 HOB5 ⊢
 clear c11 c12 cf p0 p4 ew1 ew2 HG5 HEX4 HC4 HK4 HOB4 k5
 have c13:=cell_at HEX5.out 13
 have c14:=cell_at HEX5.out 14
 have c15:=cell_at HEX5.out 15
 have cf:=frozen_at HEX5.out
 have p5:=cell_at HK5.out 5
 have p6:=cell_at HK5.out 6
 have p7:=cell_at HK5.out 7
 simp at c13 c14 c15 p5 p6 p7
 have k6:=set_atB (set_atB (set_atB HEX5.out 13 (.int .i64 pe)) 14 (.int .i64 pf)) 15 (.int .i64 pl)
 simp only[List.setIfInBounds_toArray,List.set_cons_zero,List.set_cons_succ] at k6
 have HEX6:=hid (HeapAt.later k6 (Below.refl _ _).drew)
 have HC6:=hid ((((HC5.out.set g 13 (.int .i64 pe) (.inl (.inl rfl))).set g 14 (.int .i64 pf) (.inl (.inl rfl))).set g 15 (.int .i64 pl) (.inl (.inl rfl))).below (Below.refl _ _).drew)
 have HG6:=hid (((grown_set1 W5 g 13 (.int .i64 pe)).trans (grown_set1 _ g 14 (.int .i64 pf))).trans (grown_set1 _ g 15 (.int .i64 pl)))
 have HOB6:=hid ((HOB5.out.other HG6.out HEX5.out (by decide) (by decide)).later (Below.refl _ _).drew)
 clear k6
 go_upto_region 3 with fail
 go_region
 go_wp2
 go_end0
 have HOBF:Hid (OwnBs m (((W5.setCell ⟨g,13,none⟩ (.int .i64 pe)).setCell ⟨g,14,none⟩ (.int .i64 pf)).setCell ⟨g,15,none⟩ (.int .i64 pl)).drew (.slice va Lb.length vc) Lb):=hid (OwnBs.lower (base:=w.heap.size) HOB6.out (by have:=HG.out;have:=HLT.out;omega))
 refine⟨rfl,.slice none 0 0,.slice va N vc,⟨by have hx:=HEX6.out;unfold HeapAt at hx;dsimp only;rw[HNN.out];exact hx,⟨[],rfl,OwnPs.nil _ _⟩,⟨Lb,HVB.out,by rw[<-HN.out];exact OwnB.of HOBF.out⟩,HG.out⟩,HC6.out,Nxt.nil _ _,fun k hk=>.inr ?_⟩
 have:=(Rw.own_lt HOB6.out.row k (by rw[HN.out];exact hk)).1
 exact this
end Ld
end Go.Proofs.Ytbpmfjjbfiiiaaa

/- Rows of whole numbers in memory; contract: the document's SameInts (of seats without sessions). -/
set_option linter.unusedVariables false
set_option maxRecDepth 8000
set_option linter.unusedSimpArgs false
namespace Go.Proofs.Ytbpmfjjbfiiiaaa
open Lib (hid)
open Go.RowKit
namespace Ln
open Cm

def cellsI (x:Int):List Value:= [.int .i64 x]
theorem cellsI_length (x:Int):(cellsI x).length =1:=rfl
theorem cellsI_one (x:Int): ∀u∈cellsI x,u.oneCell'=true:=by
 intro u hu
 unfold cellsI at hu
 rw[List.mem_singleton] at hu
 subst hu
 rfl
end Ln
end Go.Proofs.Ytbpmfjjbfiiiaaa

/- lead's Heard. -/
set_option linter.unusedVariables false
set_option maxRecDepth 8000
set_option linter.unusedSimpArgs false
namespace Go.Proofs.Ytbpmfjjbfiiiaaa
open Lib (hid)
open Go.RowKit
namespace Ld
open Cm Ac Pl Vw Ln

theorem boolL (i:Nat) (vs:Array Value) (w:World) (h:i<7) (v:Value) (hv:vs[i]?=some v) (hs:vs.size=7):(Instr.index 61 (.agg vs) (.int .i64 (i:Int))).run Try.prog w= .ok v w:=by
 have h1:(0:Int)<=(i:Int)/\(i:Int)<((7:Nat):Int):=by omega
 have hu:(underlying 61).run Try.prog w= .ok (.array 7 4) w:=run_underlying Try.underlying61 w
 have hsz:(sizeOf 4).run Try.prog w= .ok 1 w:=by kernel_rfl
 have hag:(isAgg 4).run Try.prog w= .ok false w:=by kernel_rfl
 simp only[Instr.index,asIntOf,Sem.run_bind,Sem.run_pure,Result.andThen_ok,hu,if_pos h1,part,hsz,hag,Int.toNat_natCast]
 simp [hv]
def heardK (l:List Bool):Nat->List Int
 | 0=> []
 | k+1=>if hb l k=true then heardK l k++ [(k:Int)] else heardK l k
theorem heardK_succ (l:List Bool) (k:Nat):heardK l (k+1)=if hb l k=true then heardK l k++ [(k:Int)] else heardK l k:=rfl
theorem heardK_len (l:List Bool): ∀k,(heardK l k).length <=k
 | 0=>Nat.le_refl _
 | k+1=>by
  have:=heardK_len l k
  rw[heardK]
  split
  ·rw[List.length_append,List.length_singleton];omega
  ·omega
def TellsH (l:List Int) (w:World) (e:Ending) (w':World):Prop:= ∃a c,e= .returned (.slice a l.length c)/\w'.ownsRow w.heap.size 3 1 (.slice a l.length c) l.length (flatX cellsI l)/\Below w.heap.size w w'
theorem infoI7:(Try.prog.info? 3).map (fun i=>(i.zero,i.size,i.bytes))=some (some (.int .i64 0),1,8):=by kernel_rfl
set_option maxHeartbeats 4000000 in
theorem LHeard_any (g m:Nat) (s:LedV) (pv bv:Value) (w:World) (h:HasL w g m s pv bv):Calls Try.prog 22 #[.pointer (some ⟨g,0,none⟩)] w (TellsH (heardK s.hd 7) w):=by
 have c3:=h.c3
 have c4:=h.c4
 have c5:=h.c5
 have c6:=h.c6
 have c7:=h.c7
 have c8:=h.c8
 have c9:=h.c9
 have HX:Hid (∀(i:Nat) (hi:i<7) (w:World),(Instr.index 61 (.agg #[.bool (hb s.hd 0),.bool (hb s.hd 1),.bool (hb s.hd 2),.bool (hb s.hd 3),.bool (hb s.hd 4),.bool (hb s.hd 5),.bool (hb s.hd 6)]) (.int .i64 (i:Int))).run Try.prog w= .ok (.bool (hb s.hd i)) w):=hid fun i hi w=>boolL i _ w hi _ (by
  match i,hi with
  | 0,_=>rfl
  | 1,_=>rfl
  | 2,_=>rfl
  | 3,_=>rfl
  | 4,_=>rfl
  | 5,_=>rfl
  | 6,_=>rfl) rfl
 clear h
 generalize s.hd=sh at*
 obtain⟨i0,hi0,hz0,hz1,hz2⟩:=info_partsP infoI7
 obtain⟨y0,hy0⟩: ∃y,y=hb sh 0:=⟨_,rfl⟩
 obtain⟨y1,hy1⟩: ∃y,y=hb sh 1:=⟨_,rfl⟩
 obtain⟨y2,hy2⟩: ∃y,y=hb sh 2:=⟨_,rfl⟩
 obtain⟨y3,hy3⟩: ∃y,y=hb sh 3:=⟨_,rfl⟩
 obtain⟨y4,hy4⟩: ∃y,y=hb sh 4:=⟨_,rfl⟩
 obtain⟨y5,hy5⟩: ∃y,y=hb sh 5:=⟨_,rfl⟩
 obtain⟨y6,hy6⟩: ∃y,y=hb sh 6:=⟨_,rfl⟩
 rw[<-hy0,<-hy1,<-hy2,<-hy3,<-hy4,<-hy5,<-hy6] at HX
 rw[<-hy0] at c3
 rw[<-hy1] at c4
 rw[<-hy2] at c5
 rw[<-hy3] at c6
 rw[<-hy4] at c7
 rw[<-hy5] at c8
 rw[<-hy6] at c9
 clear hy0 hy1 hy2 hy3 hy4 hy5 hy6
 go_enter Try.func22,Try.ntmps22
 go_wp2
 go_loopw [3,4,5,12] (fun v _ _ i wr=> ∃k:Nat,k<=7/\i= .int .i64 (k:Int)/\Hid (wr.ownsRow w.heap.size 3 1 v (heardK sh k).length (flatX cellsI (heardK sh k)))/\Hid (Below w.heap.size w wr)) (fun _ _ _ i _=>7 - (intOf i).toNat)
 case atStart=>exact⟨0,by omega,rfl,hid (World.ownsRow_nil _ _ _ _),hid (Below.refl _ _)⟩
 case round=>
  obtain⟨k,hk,rfl,HO,HBR⟩:=hrel
  have hbr:=HBR.out.size
  by_cases hlt:k<7
  ·have hix:=HX.out k hlt wr
   have HS:=hid (heardK_succ sh k)
   have hlen:=heardK_len sh k
   generalize hb sh k=v at hix HS
   generalize heardK sh k=M at HO HS hlen
   cases v
   ·have HN:=HS.out
    rw[if_neg Bool.false_ne_true] at HN
    have HN:=hid HN
    clear HS
    go_wp2
    go_roundw
    case rel=>exact⟨k+1,by omega,by go_num,by rw[HN.out];exact HO,HBR⟩
    case measure=>simp [intOf];omega
   ·have HN:=HS.out
    rw[if_pos rfl] at HN
    have HN:=hid HN
    clear HS
    obtain⟨ma,mc,hmv⟩:=Rw.own_form HO.out
    subst hmv
    go_wp2_with (at_builtin;refine wpList_append_one cellsI_length (by omega) rfl _ _ 54 rfl 3 i0 _ 8 Try.underlying54 hi0 hz0 hz1 hz2 rfl #[.int .i64 (k:Int)] (k:Int) rfl (cellsI_one _) M w.heap.size w.heap.size w (.slice ma M.length mc) rfl rfl HO.out (by unfold maxLen;omega) (by omega) hbr HBR.out (Nat.le_refl _) ?_;intro v6 w6 ho6 hb6 _;have HO6:=hid ho6;have HB6:=hid hb6;clear ho6 hb6)
    go_roundw
    case rel=>exact⟨k+1,by omega,by go_num,by rw[HN.out];exact HO6,HB6⟩
    case measure=>simp [intOf];omega
  ·obtain rfl:k=7:=by omega
   obtain⟨ma,mc,hmv⟩:=Rw.own_form HO.out
   subst hmv
   go_wp2
   go_ret
   exact⟨ma,mc,rfl,HO.out,HBR.out⟩
end Ld
end Go.Proofs.Ytbpmfjjbfiiiaaa
