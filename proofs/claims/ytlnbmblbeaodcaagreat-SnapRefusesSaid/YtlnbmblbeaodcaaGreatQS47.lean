/- Texts laid together by program. -/
import Derived.Test.YtlnbmblbeaodcaaGreatQS45
/- padlocklaw10's Request. -/
set_option linter.unusedVariables false
set_option maxRecDepth 8000
set_option linter.unusedSimpArgs false
namespace Go.Proofs.YtlnbmblbeaodcaaGreat
open Lib (hid)
open Go.RowKit Go.Shelf
namespace Cm

structure Act10 where
 time:Nat
 client:Nat
 seq:Nat
 kind:Nat
 session:Nat
 name:Nat
structure Act10.ok (a:Act10):Prop where
 time:a.time<256
 client:a.client<256
 seq:a.seq<256
 kind:a.kind<256
 session:a.session<256
 name:a.name<256
def actVal (a:Act10):Value:=.agg #[.int .u8 (a.time:Int),.int .u8 (a.client:Int),.int .u8 (a.seq:Int),.int .u8 (a.kind:Int),.int .u8 (a.session:Int),.int .u8 (a.name:Int)]
def req0 (a:Act10):ReqV:=reqOf a.client (a.seq % 6) a.kind a.session a.name
def seqA (s:StV) (q:Nat) (r:ReqV):Int:=if q % 5=0 then r.seq else if (lastM s.memos r.client).2=true then (lastM s.memos r.client).1.seq +1 else 1
def cmdQ (s:StV) (k:Nat) (r:ReqV):CmdV:=
 if (findS s.ses r.client).2=true then (if k % 8=0\/r.cmd.kind=1 then r.cmd else ⟨r.cmd.kind,(findS s.ses r.client).1.num,r.cmd.name⟩)
 else (if k % 4=0 then r.cmd else ⟨1,0,[]⟩)
def requestA (s:StV) (a:Act10):ReqV:=⟨(req0 a).client,seqA s a.seq (req0 a),cmdQ s a.session (req0 a)⟩
structure BoxQ (w:World) (b:Nat) (r:ReqV):Prop where
 r:BoxR w b r
 fr: ∀k,w.frozen? ⟨b,k,none⟩=false
theorem BoxQ.later {w w':World} {b:Nat} {r:ReqV} (h:BoxQ w b r) (hb:Below w.heap.size w w'):BoxQ w' b r:=
 ⟨h.r.later hb,fun k=>(hb.frozen (p:=⟨b,k,none⟩) (show b< _ from lt_of_cell h.r.c0)).trans (h.fr k)⟩
theorem BoxQ.new (w:World) (r:ReqV) (t:TypeId):BoxQ (w.alloc (.cells #[.int .i64 r.client,.int .i64 r.seq,.int .i64 r.cmd.kind,.int .i64 r.cmd.session,.string (bstr r.cmd.name)] t)) w.heap.size r:=
 ⟨BoxR.new w r t,free5 (Below.refl _ _)⟩
theorem BoxQ.other {w:World} {b g:Nat} {r:ReqV} (h:BoxQ w b r) (hg:g≠b) (j:Nat) (v:Value):BoxQ (w.setCell ⟨g,j,none⟩ v) b r:=
 ⟨h.r.other hg j v,fun k=>by rw[<-h.fr k];simp [go_sem]⟩
theorem BoxQ.set1 {w:World} {b:Nat} {r:ReqV} (h:BoxQ w b r) (v:Int):BoxQ (w.setCell ⟨b,1,none⟩ (.int .i64 v)) b ⟨r.client,v,r.cmd⟩:=by
 obtain⟨⟨c0,c1,c2,c3,c4⟩,fr⟩:=h
 refine⟨⟨?_,?_,?_,?_,?_⟩,fun k=>?_⟩<;>simp [go_sem,c0,c1,c2,c3,c4,fr]
theorem BoxQ.set3 {w:World} {b:Nat} {r:ReqV} (h:BoxQ w b r) (v:Int):BoxQ (w.setCell ⟨b,3,none⟩ (.int .i64 v)) b ⟨r.client,r.seq,⟨r.cmd.kind,v,r.cmd.name⟩⟩:=by
 obtain⟨⟨c0,c1,c2,c3,c4⟩,fr⟩:=h
 refine⟨⟨?_,?_,?_,?_,?_⟩,fun k=>?_⟩<;>simp [go_sem,c0,c1,c2,c3,c4,fr]
def BoxA (w:World) (b:Nat) (a:Act10):Prop:=w.cell? ⟨b,0,none⟩=some (.int .u8 (a.time:Int))/\w.cell? ⟨b,1,none⟩=some (.int .u8 (a.client:Int))/\w.cell? ⟨b,2,none⟩=some (.int .u8 (a.seq:Int))/\w.cell? ⟨b,3,none⟩=some (.int .u8 (a.kind:Int))/\w.cell? ⟨b,4,none⟩=some (.int .u8 (a.session:Int))/\w.cell? ⟨b,5,none⟩=some (.int .u8 (a.name:Int))
theorem BoxA.later {w w':World} {b:Nat} {a:Act10} (h:BoxA w b a) (hb:Below w.heap.size w w'):BoxA w' b a:=
 ⟨(hb.cell (lt_of_cell h.1)).trans h.1,(hb.cell (lt_of_cell h.2.1)).trans h.2.1,(hb.cell (lt_of_cell h.2.2.1)).trans h.2.2.1,(hb.cell (lt_of_cell h.2.2.2.1)).trans h.2.2.2.1,(hb.cell (lt_of_cell h.2.2.2.2.1)).trans h.2.2.2.2.1,(hb.cell (lt_of_cell h.2.2.2.2.2)).trans h.2.2.2.2.2⟩
theorem BoxA.other {w:World} {b g:Nat} {a:Act10} (h:BoxA w b a) (hg:g≠b) (j:Nat) (v:Value):BoxA (w.setCell ⟨g,j,none⟩ v) b a:=by
 have hn: ∀k,(w.setCell ⟨g,j,none⟩ v).cell? ⟨b,k,none⟩=w.cell? ⟨b,k,none⟩:=fun k=>by
  simp only[World.cell?]
  rw[Below.heap_setCell w ⟨g,j,none⟩ v b (fun q=>hg (by have:b=g:=q;exact this.symm))]
 exact⟨(hn 0).trans h.1,(hn 1).trans h.2.1,(hn 2).trans h.2.2.1,(hn 3).trans h.2.2.2.1,(hn 4).trans h.2.2.2.2.1,(hn 5).trans h.2.2.2.2.2⟩
theorem set5q {a w:World} {b:Nat} (h:Below b a w) (g:Nat) (hg:b<=g) (x y z u v:Value):Below b a (((((w.setCell ⟨g,0,none⟩ x).setCell ⟨g,1,none⟩ y).setCell ⟨g,2,none⟩ z).setCell ⟨g,3,none⟩ u).setCell ⟨g,4,none⟩ v):=
 ((((h.setCell hg _).setCell hg _).setCell hg _).setCell hg _).setCell hg _
structure CurQ (w:World) (nb bq:Nat) (x:StC) (a:Act10) (r:ReqV) (W:World):Prop where
 X:BoxS W nb x
 A:BoxA W (nb+1) a
 Z:BoxQ W (nb+2) ⟨0,0,⟨0,0,[]⟩⟩
 Q:BoxQ W bq r
 B:Below w.heap.size w W
theorem CurQ.later {w W W':World} {nb bq:Nat} {x:StC} {a:Act10} {r:ReqV} (h:CurQ w nb bq x a r W) (hb:Below W.heap.size W W'):CurQ w nb bq x a r W':=
 ⟨h.X.later hb,h.A.later hb,h.Z.later hb,h.Q.later hb,step h.B hb⟩
set_option maxRecDepth 100000 in
set_option maxHeartbeats 8000000 in
theorem Request_any (x:StC) (a:Act10) (w:World) (h:RdSt w x) (hR:Rst x.v) (ha:a.ok):Calls Tryz.prog 35 #[stVal x,actVal a] w (fun e w'=>e= .returned (reqVal (requestA x.v a))/\Below w.heap.size w w'):=by
 obtain⟨W1,hW1⟩: ∃W1,W1=w.alloc (.cells #[.int .i64 x.time,.int .i64 x.num,.int .i64 x.token,x.sv,x.kv,x.mv] 26):=⟨_,rfl⟩
 have hb1:Below w.heap.size w W1:=by rw[hW1];exact newAlloc _ _
 have hB1:BoxS W1 w.heap.size x:=by rw[hW1];exact BoxS.new w x _
 have hs1:W1.heap.size=w.heap.size+1:=by rw[hW1];simp
 obtain⟨W2,hW2⟩: ∃W2,W2=W1.alloc (.cells #[.int .u8 (a.time:Int),.int .u8 (a.client:Int),.int .u8 (a.seq:Int),.int .u8 (a.kind:Int),.int .u8 (a.session:Int),.int .u8 (a.name:Int)] 65):=⟨_,rfl⟩
 have hb2:Below W1.heap.size W1 W2:=by rw[hW2];exact newAlloc _ _
 have hA:BoxA W2 (w.heap.size+1) a:=by rw[<-hs1,hW2];exact box6 (Below.refl _ _)
 have hs2:W2.heap.size=w.heap.size+2:=by rw[hW2];simp [hs1]
 obtain⟨W3,hW3⟩: ∃W3,W3=W2.alloc (.cells #[.int .i64 0,.int .i64 0,.int .i64 0,.int .i64 0,.string ⟨#[]⟩] 30):=⟨_,rfl⟩
 have hb3:Below W2.heap.size W2 W3:=by rw[hW3];exact newAlloc _ _
 have hZ:BoxQ W3 (w.heap.size+2) ⟨0,0,⟨0,0,[]⟩⟩:=by rw[<-hs2,hW3];exact BoxQ.new W2 ⟨0,0,⟨0,0,[]⟩⟩ _
 have hs3:W3.heap.size=w.heap.size+3:=by rw[hW3];simp [hs2]
 have HX0:=hid (hB1.later (step hb2 hb3))
 have HA0:=hid (hA.later hb3)
 have HZ0:=hid hZ
 have HB0:=hid (step hb1 (step hb2 hb3))
 have HRD:Hid (∀W,Below w.heap.size w W->RdSt W x):=hid fun W hb=>h.later hb
 have KQ:=hid (fun W=>Req_any a.client (a.seq % 6) a.kind a.session a.name W ha.client (by omega) ha.kind ha.session ha.name)
 have KL:=hid (fun c W (hb:Below w.heap.size w W)=>(RefLast_any x.mv x.M c W (HRD.out W hb).m).mono fun e w' q=>GetsM.s q)
 have KF:=hid (fun c W (hb:Below w.heap.size w W)=>Find_any x.sv x.S c W (HRD.out W hb).s)
 have HSQ:Hid (∀c,(lastM x.v.memos c).1.seq <=2305843009213693952/\0<=(lastM x.v.memos c).1.seq):=hid fun c=>by
  rcases idxM_cases x.v.memos c with ⟨_,q⟩ | ⟨k,hk,_,_,q⟩
  ·rw[q];exact⟨by decide,by decide⟩
  ·rw[q]
   have:=(mayA_bounds _ (hR.memos.may _ (List.getElem_mem hk))).2.1
   dsimp only
   omega
 have HRQ:Hid (∀r,req0 a=r->requestA x.v a=⟨r.client,seqA x.v a.seq r,cmdQ x.v a.session r⟩):=hid fun r q=>by rw[<-q];rfl
 obtain⟨R,hRR⟩: ∃R,requestA x.v a=R:=⟨_,rfl⟩
 rw[hRR] at HRQ ⊢
 clear hRR
 have HSA:Hid (∀q r,seqA x.v q r=if q % 5=0 then r.seq else if (lastM (valsM x.M) r.client).2=true then (lastM (valsM x.M) r.client).1.seq +1 else 1):=hid fun q r=>rfl
 have HCA:Hid (∀k r,cmdQ x.v k r=if (findS x.S r.client).2=true then (if k % 8=0\/r.cmd.kind=1 then r.cmd else ⟨r.cmd.kind,(findS x.S r.client).1.num,r.cmd.name⟩) else (if k % 4=0 then r.cmd else ⟨1,0,[]⟩)):=hid fun k r=>rfl
 have HSQ2:Hid (∀c,(lastM (valsM x.M) c).1.seq <=2305843009213693952/\0<=(lastM (valsM x.M) c).1.seq):=hid fun c=>HSQ.out c
 obtain⟨nb,hnb⟩: ∃nb,w.heap.size=nb:=⟨_,rfl⟩
 have HNB:=hid hnb
 have hsz3:nb+3<=W3.heap.size:=by omega
 rw[hnb] at HX0 HA0 HZ0
 have hq6:((a.seq:Int) % 6)=((a.seq % 6:Nat):Int):=by simp
 have hq5:((a.seq:Int) % 5)=((a.seq % 5:Nat):Int):=by simp
 have hk8:((a.session:Int) % 8)=((a.session % 8:Nat):Int):=by simp
 have hk4:((a.session:Int) % 4)=((a.session % 4:Nat):Int):=by simp
 have HAO:=hid ha
 clear hnb h hR ha hb1 hb2 hb3 hB1 hA hZ hs1 hs2 hs3 HSQ
 obtain⟨at',ac,aq,ak,an,am⟩:=a
 obtain⟨xt,xn,xk,xS,sa,sc,xK,ka,kc,xM,ma,mc⟩:=x
 unfold stVal actVal
 simp only[StC.sv,StC.kv,StC.mv] at hW1 KL KF ⊢
 dsimp only at hW2 KQ HRQ hq6 hq5 hk8 hk4 ⊢
 generalize hg6:aq % 6=q6 at hq6 KQ
 generalize hg5:aq % 5=q5 at hq5
 generalize hg8:an % 8=k8 at hk8
 generalize hg4:an % 4=k4 at hk4
 obtain⟨⟨rc,rs,⟨rk,rn,rm⟩⟩,hr0⟩: ∃r,reqOf ac q6 ak an am=r:=⟨_,rfl⟩
 rw[hr0] at KQ
 unfold reqVal at KQ
 dsimp only at KQ
 have hreq:=HRQ.out ⟨rc,rs,⟨rk,rn,rm⟩⟩ (by unfold req0;dsimp only;rw[hg6,hr0])
 rw[HSA.out,HCA.out] at hreq
 dsimp only at hreq
 rw[hg5,hg8,hg4] at hreq
 have HRE:=hid hreq
 have hsq:=HSQ2.out rc
 clear hg6 hg5 hg8 hg4 hr0 hreq HRQ HSA HCA HSQ2
 obtain⟨⟨⟨lc,ls,⟨lk,ln,ld,lh⟩⟩,lb⟩,hlm⟩: ∃l,lastM (valsM xM) rc=l:=⟨_,rfl⟩
 obtain⟨⟨⟨fc,fn,fe⟩,fb⟩,hfs⟩: ∃l,findS xS rc=l:=⟨_,rfl⟩
 rw[hlm] at hsq HRE
 rw[hfs] at HRE
 dsimp only at hsq HRE
 have KL:=hid (KL.out rc)
 have KF:=hid (KF.out rc)
 rw[hlm] at KL
 rw[hfs] at KF
 clear hlm hfs
 dsimp only at KL
 have e1:IntKind.i64.wrap (ls+1)=ls+1:=by rw[IntKind.wrap_i64];omega
 unfold reqVal
 obtain⟨c0,c1,c2,c3,c4,c5,cf⟩:=HX0.out
 simp only[StC.sv,StC.kv,StC.mv] at c0 c1 c2 c3 c4 c5
 obtain⟨p0,p1,p2,p3,p4,p5⟩:=HA0.out
 dsimp only at p0 p1 p2 p3 p4 p5
 go_enter Tryz.func35,Tryz.ntmps35
 go_upto_region 1 with fail
 rw[<-hW1,<-hW2,<-hW3]
 rw[HNB.out]
 try rw[show nb+1+1=nb+2 from rfl]
 clear hW1 hW2 hW3
 go_upto_region 2 with (go_at_call 87;refine(KQ.out W3).mono ?_;rintro e w4 ⟨rfl,hb4⟩;have HB34:=hid hb4;clear hb4)
 obtain⟨W5,hW5⟩: ∃W5,W5=w4.alloc (.cells #[.int .i64 rc,.int .i64 rs,.int .i64 rk,.int .i64 rn,.string (bstr rm)] 30):=⟨_,rfl⟩
 have hq5':BoxQ W5 w4.heap.size ⟨rc,rs,⟨rk,rn,rm⟩⟩:=by rw[hW5];exact BoxQ.new w4 ⟨rc,rs,⟨rk,rn,rm⟩⟩ _
 have hb5:Below w4.heap.size w4 W5:=by rw[hW5];exact newAlloc _ _
 have HB35:=hid (step HB34.out hb5)
 rw[<-hW5]
 obtain⟨bq,hbq⟩: ∃bq,w4.heap.size=bq:=⟨_,rfl⟩
 rw[hbq] at hq5' ⊢
 have hltq:nb+2<bq:=by have:=HB34.out.size;omega
 have HC5:Hid (CurQ w nb bq ⟨xt,xn,xk,xS,sa,sc,xK,ka,kc,xM,ma,mc⟩ ⟨at',ac,aq,ak,an,am⟩ ⟨rc,rs,⟨rk,rn,rm⟩⟩ W5):=hid ⟨HX0.out.later HB35.out,HA0.out.later HB35.out,HZ0.out.later HB35.out,hq5',step HB0.out HB35.out⟩
 clear hW5 hq5' hb5 hbq c0 c1 c2 c3 c4 c5 cf p0 p1 p2 p3 p4 p5 HX0 HA0 HZ0 KQ
 obtain⟨c0,c1,c2,c3,c4,c5,cf⟩:=HC5.out.X
 simp only[StC.sv,StC.kv,StC.mv] at c0 c1 c2 c3 c4 c5
 obtain⟨⟨q0,q1,q2,q3,q4⟩,qf⟩:=HC5.out.Q
 dsimp only at q0 q1 q2 q3 q4
 go_upto_region 3 with (go_at_call 58;refine(KL.out W5 HC5.out.B).mono ?_;rintro e w6 ⟨la,lp,rfl,hr6,hb6⟩;have HB56:=hid hb6;clear hr6 hb6)
 obtain⟨W7,hW7⟩: ∃W7,W7=w6.alloc (.cells #[.int .i64 lc,.int .i64 ls,.int .i64 lk,.int .i64 ln,.int .i64 ld,.slice la lh.length lp] 76):=⟨_,rfl⟩
 have hb7:Below w6.heap.size w6 W7:=by rw[hW7];exact newAlloc _ _
 have hm7:W7.cell? ⟨w6.heap.size,1,none⟩=some (.int .i64 ls):=by rw[hW7];exact(box6 (Below.refl _ _)).2.1
 have HB57:=hid (step HB56.out hb7)
 have HC7:=hid (HC5.out.later HB57.out)
 rw[<-hW7]
 obtain⟨bm,hbm⟩: ∃bm,w6.heap.size=bm:=⟨_,rfl⟩
 rw[hbm] at hm7 ⊢
 have hnm:bm≠bq:=by have:=lt_of_cell HC5.out.Q.r.c0;have:=HB56.out.size;have:bq<W5.heap.size:= ‹_›;omega
 clear hW7 hbm hb7 HC5 KL c0 c1 c2 c3 c4 c5 cf q0 q1 q2 q3 q4 qf
 obtain⟨c0,c1,c2,c3,c4,c5,cf⟩:=HC7.out.X
 simp only[StC.sv,StC.kv,StC.mv] at c0 c1 c2 c3 c4 c5
 obtain⟨p0,p1,p2,p3,p4,p5⟩:=HC7.out.A
 dsimp only at p0 p1 p2 p3 p4 p5
 obtain⟨⟨q0,q1,q2,q3,q4⟩,qf⟩:=HC7.out.Q
 dsimp only at q0 q1 q2 q3 q4
 obtain⟨sq,hsq⟩: ∃sq,(if q5=0 then rs else if lb=true then ls+1 else 1)=sq:=⟨_,rfl⟩
 rw[hsq] at HRE
 have hall:(q5=0/\sq=rs)\/(¬q5=0/\lb=true/\sq=ls+1)\/(¬q5=0/\lb=false/\sq=1):=by
  by_cases q:q5=0
  ·rw[if_pos q] at hsq;exact .inl ⟨q,hsq.symm⟩
  ·rw[if_neg q] at hsq
   cases lb
   ·exact .inr (.inr ⟨q,rfl,hsq.symm⟩)
   ·exact .inr (.inl ⟨q,rfl,hsq.symm⟩)
 clear hsq
 rcases hall with ⟨hz,hs⟩ | ⟨hz,hl,hs⟩ | ⟨hz,hl,hs⟩
 case' inl=>
  have d1:decide (0<q5)=false:=decide_eq_false (by omega)
  have HSE:=hid hs
  clear hs hz
  go_upto_region 7 with fail
  have HC8:Hid (CurQ w nb bq ⟨xt,xn,xk,xS,sa,sc,xK,ka,kc,xM,ma,mc⟩ ⟨at',ac,aq,ak,an,am⟩ ⟨rc,sq,⟨rk,rn,rm⟩⟩ W7):=hid (by rw[HSE.out];exact HC7.out)
  obtain⟨W8,hW8⟩: ∃W8,W8=W7:=⟨_,rfl⟩
  rw[<-hW8] at HC8 ⊢
  clear hW8
 case' inr.inl=>
  have d1:decide (0<q5)=true:=decide_eq_true (by omega)
  have HSE:=hid hs
  subst hl
  clear hs hz
  have h8:CurQ w nb bq ⟨xt,xn,xk,xS,sa,sc,xK,ka,kc,xM,ma,mc⟩ ⟨at',ac,aq,ak,an,am⟩ ⟨rc,sq,⟨rk,rn,rm⟩⟩ ((W7.setCell ⟨bq,1,none⟩ (.int .i64 1)).setCell ⟨bq,1,none⟩ (.int .i64 (ls+1))):=by
   rw[HSE.out]
   exact⟨(HC7.out.X.other (by omega) 1 _).other (by omega) 1 _,(HC7.out.A.other (by omega) 1 _).other (by omega) 1 _,(HC7.out.Z.other (by omega) 1 _).other (by omega) 1 _,(HC7.out.Q.set1 1).set1 (ls+1),(HC7.out.B.setCell (by have:=HNB.out;show w.heap.size<=bq;omega) _).setCell (by have:=HNB.out;show w.heap.size<=bq;omega) _⟩
  go_upto_region 7 with fail
  obtain⟨W8,hW8⟩: ∃W8,W8=(W7.setCell ⟨bq,1,none⟩ (.int .i64 1)).setCell ⟨bq,1,none⟩ (.int .i64 (ls+1)):=⟨_,rfl⟩
  rw[<-hW8] at h8 ⊢
  have HC8:=hid h8
  clear hW8 h8
 case' inr.inr=>
  have d1:decide (0<q5)=true:=decide_eq_true (by omega)
  have HSE:=hid hs
  subst hl
  clear hs hz
  have h8:CurQ w nb bq ⟨xt,xn,xk,xS,sa,sc,xK,ka,kc,xM,ma,mc⟩ ⟨at',ac,aq,ak,an,am⟩ ⟨rc,sq,⟨rk,rn,rm⟩⟩ (W7.setCell ⟨bq,1,none⟩ (.int .i64 1)):=by
   rw[HSE.out]
   exact⟨HC7.out.X.other (by omega) 1 _,HC7.out.A.other (by omega) 1 _,HC7.out.Z.other (by omega) 1 _,HC7.out.Q.set1 1,HC7.out.B.setCell (by have:=HNB.out;show w.heap.size<=bq;omega) _⟩
  go_upto_region 7 with fail
  obtain⟨W8,hW8⟩: ∃W8,W8=W7.setCell ⟨bq,1,none⟩ (.int .i64 1):=⟨_,rfl⟩
  rw[<-hW8] at h8 ⊢
  have HC8:=hid h8
  clear hW8 h8
 all_goals
  clear HSE d1 hm7 hnm HC7 c0 c1 c2 c3 c4 c5 cf q0 q1 q2 q3 q4 qf p0 p1 p2 p3 p4 p5
  obtain⟨c0,c1,c2,c3,c4,c5,cf⟩:=HC8.out.X
  simp only[StC.sv,StC.kv,StC.mv] at c0 c1 c2 c3 c4 c5
  obtain⟨⟨q0,q1,q2,q3,q4⟩,qf⟩:=HC8.out.Q
  dsimp only at q0 q1 q2 q3 q4
  go_upto_region 8 with (go_at_call 49;refine(KF.out W8 HC8.out.B).mono ?_;rintro e w9 ⟨rfl,hb9⟩;unfold sesVal;dsimp only;have HB89:=hid hb9;clear hb9)
  obtain⟨W9,hW9⟩: ∃W9,W9=w9.alloc (.cells #[.int .i64 fc,.int .i64 fn,.int .i64 fe] 73):=⟨_,rfl⟩
  have hb9:Below w9.heap.size w9 W9:=by rw[hW9];exact newAlloc _ _
  have hm9:W9.cell? ⟨w9.heap.size,1,none⟩=some (.int .i64 fn):=by rw[hW9];exact(box3s (Below.refl _ _)).2.1
  have HC9:=hid (HC8.out.later (step HB89.out hb9))
  rw[<-hW9]
  obtain⟨bf,hbf⟩: ∃bf,w9.heap.size=bf:=⟨_,rfl⟩
  rw[hbf] at hm9 ⊢
  clear hW9 hbf hb9 HC8 c0 c1 c2 c3 c4 c5 cf q0 q1 q2 q3 q4 qf
  obtain⟨p0,p1,p2,p3,p4,p5⟩:=HC9.out.A
  dsimp only at p0 p1 p2 p3 p4 p5
  obtain⟨⟨q0,q1,q2,q3,q4⟩,qf⟩:=HC9.out.Q
  dsimp only at q0 q1 q2 q3 q4
  obtain⟨⟨z0,z1,z2,z3,z4⟩,zf⟩:=HC9.out.Z
  dsimp only at z0 z1 z2 z3 z4
  have hcm:(fb=true/\k8=0)\/(fb=true/\ ¬k8=0/\rk=1)\/(fb=true/\ ¬k8=0/\ ¬rk=1)\/(fb=false/\k4=0)\/(fb=false/\ ¬k4=0):=by
   cases fb
   ·by_cases q:k4=0
    ·exact .inr (.inr (.inr (.inl ⟨rfl,q⟩)))
    ·exact .inr (.inr (.inr (.inr ⟨rfl,q⟩)))
   ·by_cases q:k8=0
    ·exact .inl ⟨rfl,q⟩
    ·by_cases q2:rk=1
     ·exact .inr (.inl ⟨rfl,q,q2⟩)
     ·exact .inr (.inr (.inl ⟨rfl,q,q2⟩))
  have hBn:w.heap.size<=nb+2:=by have:=HNB.out;omega
  rcases hcm with ⟨h1,h2⟩ | ⟨h1,h2,h3⟩ | ⟨h1,h2,h3⟩ | ⟨h1,h2⟩ | ⟨h1,h2⟩
  case' inl=>
   have g1:decide (0<k8)=false:=decide_eq_false (by omega)
   have HRF:Hid (R=⟨rc,sq,⟨rk,rn,rm⟩⟩):=hid (by rw[HRE.out,if_pos h1,if_pos (.inl h2)])
   have HBE:=hid (set5q HC9.out.B (nb+2) hBn (.int .i64 rc) (.int .i64 sq) (.int .i64 rk) (.int .i64 rn) (.string (bstr rm)))
   subst h1
   clear h2 HRE
  case' inr.inl=>
   have g1:decide (0<k8)=true:=decide_eq_true (by omega)
   have g2:(rk != (1:Int))=false:=by simp [h3]
   have HRF:Hid (R=⟨rc,sq,⟨rk,rn,rm⟩⟩):=hid (by rw[HRE.out,if_pos h1,if_pos (.inr h3)])
   have HBE:=hid (set5q HC9.out.B (nb+2) hBn (.int .i64 rc) (.int .i64 sq) (.int .i64 rk) (.int .i64 rn) (.string (bstr rm)))
   subst h1
   clear h2 h3 HRE
  case' inr.inr.inl=>
   have g1:decide (0<k8)=true:=decide_eq_true (by omega)
   have g2:(rk != (1:Int))=true:=by simp [h3]
   have HRF:Hid (R=⟨rc,sq,⟨rk,fn,rm⟩⟩):=hid (by rw[HRE.out,if_pos h1,if_neg (fun q=>q.elim h2 h3)])
   have HBE:=hid (set5q (HC9.out.B.setCell (p:=⟨bq,3,none⟩) (by show w.heap.size<=bq;omega) (.int .i64 fn)) (nb+2) hBn (.int .i64 rc) (.int .i64 sq) (.int .i64 rk) (.int .i64 fn) (.string (bstr rm)))
   have hnz:nb+2≠bq:=by omega
   have hnz2:bq≠nb+2:=by omega
   subst h1
   clear h2 h3 HRE
  case' inr.inr.inr.inl=>
   have g1:decide (0<k4)=false:=decide_eq_false (by omega)
   have HRF:Hid (R=⟨rc,sq,⟨rk,rn,rm⟩⟩):=hid (by rw[HRE.out,if_neg (by rw[h1];simp),if_pos h2])
   have HBE:=hid (set5q HC9.out.B (nb+2) hBn (.int .i64 rc) (.int .i64 sq) (.int .i64 rk) (.int .i64 rn) (.string (bstr rm)))
   subst h1
   clear h2 HRE
  case' inr.inr.inr.inr=>
   have g1:decide (0<k4)=true:=decide_eq_true (by omega)
   have HRF:Hid (R=⟨rc,sq,⟨1,0,[]⟩⟩):=hid (by rw[HRE.out,if_neg (by rw[h1];simp),if_neg h2])
   have HBE:=hid (set5q (((HC9.out.B.setCell (p:=⟨bq,2,none⟩) (by show w.heap.size<=bq;omega) (.int .i64 1)).setCell (p:=⟨bq,3,none⟩) (by show w.heap.size<=bq;omega) (.int .i64 0)).setCell (p:=⟨bq,4,none⟩) (by show w.heap.size<=bq;omega) (.string ⟨#[]⟩)) (nb+2) hBn (.int .i64 rc) (.int .i64 sq) (.int .i64 1) (.int .i64 0) (.string (bstr [])))
   have hnz:nb+2≠bq:=by omega
   have hnz2:bq≠nb+2:=by omega
   subst h1
   clear h2 HRE
  all_goals
   clear hBn HC9
   go_wp2
   refine bodyPost_ret (by simp [results,Tryz.results35,go_sem,z0,z1,z2,z3,z4,zf]<;>rfl) rfl ?_
   rw[HRF.out]
   exact⟨rfl,HBE.out⟩
end Cm
end Go.Proofs.YtlnbmblbeaodcaaGreat

/- States that come of acts, by plain functions: padlocklaw10's Made. -/
set_option linter.unusedVariables false
set_option maxRecDepth 8000
set_option linter.unusedSimpArgs false
namespace Go.Proofs.YtlnbmblbeaodcaaGreat
open Lib (hid)
open Go.RowKit Go.Shelf
namespace Cm

def atA (s:StV) (a:Act10) (d:Int):StV:=advA s (s.time+((a.time % 16:Nat):Int)) d
def stepA (d:Int) (s:StV) (a:Act10):StV:=(applyA (atA s a d) (requestA (atA s a d) a)).1
def madeA (d:Int) (acts:List Act10):StV:=acts.foldl (stepA d) zeroSt
theorem madeA_succ (d:Int) (acts:List Act10) (k:Nat) (h:k<acts.length):madeA d (acts.take (k+1))=stepA d (madeA d (acts.take k)) acts[k]:=by
 unfold madeA
 rw[List.take_succ_eq_append_getElem h,List.foldl_append]
 rfl
structure Few10 (k:Nat) (s:StV):Prop where
 right:Rst s
 num:s.num<=k
 tok:s.token<=8*k
theorem Few10.zero:Few10 0 zeroSt:=⟨Rst.zero,by decide,by decide⟩
theorem Few10.at {k:Nat} {s:StV} (h:Few10 k s) (hk:k<=1000) (a:Act10) (d:Int):Rst (atA s a d)/\s.token<=(atA s a d).token /\(atA s a d).token <=s.token+4/\(atA s a d).num =s.num:=by
 have ht:=h.tok
 obtain⟨h1,h2,h3⟩:=advA_right h.right (s.time+((a.time % 16:Nat):Int)) d (by omega)
 exact⟨h1,h2,h3,rfl⟩
theorem Few10.next {k:Nat} {s:StV} (h:Few10 k s) (hk:k<=1000) (a:Act10) (d:Int):Few10 (k+1) (stepA d s a)/\Next (atA s a d) (stepA d s a):=by
 obtain⟨h1,h2,h3,h4⟩:=h.at hk a d
 have ht:=h.tok
 have hn:=h.num
 have hx:=apply_next h1 (requestA (atA s a d) a) (by omega) (by omega)
 have e1:=hx.tok
 have e2:=hx.num
 exact⟨⟨hx.right,by show(applyA _ _).1.num <=_;omega,by show(applyA _ _).1.token <=_;omega⟩,hx⟩
theorem Few10.made (d:Int) (acts:List Act10): ∀k,k<=acts.length->k<=1000->Few10 k (madeA d (acts.take k))
 | 0,_,_=>Few10.zero
 | k+1,h,h2=>by
  rw[madeA_succ d acts k (by omega)]
  exact((Few10.made d acts k (by omega) (by omega)).next (by omega) _ d).1
def cells10 (a:Act10):List Value:= [.int .u8 (a.time:Int),.int .u8 (a.client:Int),.int .u8 (a.seq:Int),.int .u8 (a.kind:Int),.int .u8 (a.session:Int),.int .u8 (a.name:Int)]
theorem cells10_length (a:Act10):(cells10 a).length =6:=rfl
structure RdA (w:World) (v:Value) (l:List Act10):Prop where
 row:RdX 6 cells10 w v l
 ok: ∀a∈l,a.ok
theorem RdA.later {w w':World} {v:Value} {l:List Act10} (h:RdA w v l) (hb:Below w.heap.size w w'):RdA w' v l:=⟨h.row.later hb,h.ok⟩
theorem rda_at {w:World} {a:Option Addr} {n cap:Nat} {l:List Act10} (h:RdX 6 cells10 w (.slice a n cap) l) (i:Nat) (hi:i<l.length):
  ∃b o,a=some ⟨b,o,none⟩/\ ∀w':World,Below w.heap.size w w'->w'.cell? ⟨b,o+i*6,none⟩=some (.int .u8 (l[i].time :Int))/\w'.cell? ⟨b,o+i*6+1,none⟩=some (.int .u8 (l[i].client :Int))/\w'.cell? ⟨b,o+i*6+2,none⟩=some (.int .u8 (l[i].seq :Int))/\w'.cell? ⟨b,o+i*6+3,none⟩=some (.int .u8 (l[i].kind :Int))/\w'.cell? ⟨b,o+i*6+4,none⟩=some (.int .u8 (l[i].session :Int))/\w'.cell? ⟨b,o+i*6+5,none⟩=some (.int .u8 (l[i].name :Int)):=by
 obtain⟨b,o,e,c⟩:=h.at i hi
 exact⟨b,o,e,fun w' hb=>⟨c w' hb 0 _ rfl,c w' hb 1 _ rfl,c w' hb 2 _ rfl,c w' hb 3 _ rfl,c w' hb 4 _ rfl,c w' hb 5 _ rfl⟩⟩
end Cm
end Go.Proofs.YtlnbmblbeaodcaaGreat
