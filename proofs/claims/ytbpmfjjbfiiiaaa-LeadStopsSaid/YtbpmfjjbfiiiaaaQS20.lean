/- Texts laid together by program. -/
import Derived.Test.YtbpmfjjbfiiiaaaQS19
/- The statements' Promise of layer 16: a promise by numbers. -/
set_option linter.unusedVariables false
set_option maxRecDepth 8000
set_option linter.unusedSimpArgs false
namespace Go.Proofs.Ytbpmfjjbfiiiaaa
open Lib (hid)
open List (getElem_toArray getElem_cons_succ getElem_cons_zero setIfInBounds_toArray set_cons_zero set_cons_succ)
open Go.RowKit
namespace Pl
open Cm Ac

structure VtV where
 slot:Int
 ballot:Int
 ns:List UInt8
def findN (k:Nat) (l:List VtV):Option VtV:=l.find? fun v=>decide (v.slot % 9=(k:Int))
def oneN (d:Int) (k:Nat) (v:VtV):VoteV:=⟨d+((k:Int)+1),v.ballot % 9,batchF v.ns⟩
def atN (d:Int) (l:List VtV) (k:Nat):List VoteV:=match findN k l with
 | none=> []
 | some v=> [oneN d k v]
def votesN (d:Int) (l:List VtV):Nat->List VoteV
 | 0=> []
 | k+1=>votesN d l k++atN d l k
structure ToldV where
 done:Int
 view:Int
 slot:Int
 time:Int
 votes:List VtV
def promN (who:Int) (t:ToldV):PromV:=⟨who,t.done % 8,t.view % 4,t.slot % 6,t.time,votesN (t.done % 8) t.votes 9⟩
theorem find_none {k:Nat} {l:List VtV} (h: ∀i (hi:i<l.length),l[i].slot % 9≠(k:Int)):findN k l=none:=by
 unfold findN
 rw[List.find?_eq_none]
 intro x hx
 obtain⟨i,hi,rfl⟩:=List.mem_iff_getElem.1 hx
 simpa using h i hi
theorem find_some {k:Nat} {l:List VtV} (i:Nat) (hi:i<l.length) (h: ∀j (hj:j<l.length),j<i->l[j].slot % 9≠(k:Int)) (he:l[i].slot % 9=(k:Int)):findN k l=some l[i]:=by
 unfold findN
 rw[List.find?_eq_some_iff_getElem]
 refine⟨by simpa using he,i,hi,rfl,fun j hj=>by simpa using h j (by omega) hj⟩
structure VtC where
 v:VtV
 na:Option Addr
 nc:Nat
def VtC.u (x:VtC):Value:=.slice x.na x.v.ns.length x.nc
def cellsT (x:VtC):List Value:= [.int .u8 x.v.slot,.int .u8 x.v.ballot,x.u]
theorem cellsT_length (x:VtC):(cellsT x).length =3:=rfl
structure VtOk (W:World) (x:VtC):Prop where
 s0:0<=x.v.slot
 s1:x.v.slot<256
 b0:0<=x.v.ballot
 b1:x.v.ballot<256
 rd:Rd W x.u x.v.ns
 few:x.v.ns.length<=140737488355328
theorem VtOk.later {W W':World} {x:VtC} (h:VtOk W x) (hb:Below W.heap.size W W'):VtOk W' x:=⟨h.s0,h.s1,h.b0,h.b1,h.rd.later hb,h.few⟩
structure RdT (W:World) (v:Value) (L:List VtC):Prop where
 row:RdX 3 cellsT W v L
 ok: ∀x∈L,VtOk W x
theorem RdT.later {w w':World} {v:Value} {L:List VtC} (h:RdT w v L) (hb:Below w.heap.size w w'):RdT w' v L:=⟨h.row.later hb,fun x hx=>(h.ok x hx).later hb⟩
def valsN (L:List VtC):List VtV:=L.map VtC.v
theorem valsN_length (L:List VtC):(valsN L).length =L.length:=by simp [valsN]
theorem valsN_get (L:List VtC) (i:Nat) (h:i<L.length) (h':i<(valsN L).length):(valsN L)[i]=L[i].v :=by simp [valsN]
theorem rdt_at {w:World} {a:Option Addr} {n cap:Nat} {L:List VtC} (h:RdX 3 cellsT w (.slice a n cap) L) (i:Nat) (hi:i<L.length):
  ∃b o,a=some ⟨b,o,none⟩/\ ∀w':World,Below w.heap.size w w'->w'.cell? ⟨b,o+i*3,none⟩=some (.int .u8 L[i].v.slot)/\w'.cell? ⟨b,o+i*3+1,none⟩=some (.int .u8 L[i].v.ballot)/\w'.cell? ⟨b,o+i*3+2,none⟩=some L[i].u :=by
 obtain⟨b,o,e,c⟩:=h.at i hi
 exact⟨b,o,e,fun w' hb=>⟨c w' hb 0 _ rfl,c w' hb 1 _ rfl,c w' hb 2 _ rfl⟩⟩
theorem infoVoteP:(Try.prog.info? 48).map (fun i=>(i.zero,i.size,i.bytes))=some (some (.agg #[.int .i64 0,.int .i64 0,.bool false,.int .i64 0,.int .i64 0,.int .i64 0,.int .i64 0,.slice none 0 0]),8,80):=by kernel_rfl
theorem _root_.Go.Proofs.Ytbpmfjjbfiiiaaa.Ac.OwnV.pushP {base:Nat} {w3 w6:World} {m v':Value} {L:List VoteC} {x:VoteC} (h:OwnV base w3 m L)
  (hl:OwnR base w3 x) (hg:w3.grownBy w6 m.ownBlock) (ho:w6.ownsRow base 48 8 v' (L++ [x]).length (flatX cellsV (L++ [x]))):OwnV base w6 v' (L++ [x]):=by
 refine⟨ho,fun y hy=>?_⟩
 rcases List.mem_append.1 hy with q | q
 ·exact Rw.own_other (h.reqs y q) hg (own_typesD h.row (h.reqs y q) (by decide))
 ·rw[List.mem_singleton] at q
  subst q
  exact Rw.own_other hl hg (own_typesD h.row hl (by decide))
theorem _root_.Go.Proofs.Ytbpmfjjbfiiiaaa.Ac.OwnV.otherP {base b:Nat} {w w':World} {v:Value} {L:List VoteC} {cs:Array Value} {ty:TypeId} (h:OwnV base w v L) (hg:w.grownBy w' (some b)) (hx:w.heap[b]?=some (.cells cs ty)) (n1:48≠ty) (n2:71≠ty):OwnV base w' v L:=
 ⟨own_set h.row hg hx n1,fun x hx'=>own_set (h.reqs x hx') hg hx n2⟩
theorem BoxP.five {w:World} {b:Nat} {who d t s m:Int} {M:List VoteC} {a:Option Addr} {c:Nat} (h:BoxP w b ⟨who,d,t,s,m,M,a,c⟩) (M':List VoteC) (a':Option Addr) (c':Nat):BoxP (w.setCell ⟨b,5,none⟩ (.slice a' M'.length c')) b ⟨who,d,t,s,m,M',a',c'⟩:=by
 refine⟨?_⟩
 rw[set_atB h.ex _ _]
 rfl
def GivesPr (p:PromV) (w:World) (e:Ending) (w':World):Prop:= ∃x:PromC,e= .returned (promVal x)/\x.val=p/\OwnV w.heap.size w' x.u x.votes/\Below w.heap.size w w'
theorem tmod_of {a n q:Int} (h0:0<=a) (h:a % n=q):a.tmod n=q:=by rw[Int.tmod_eq_emod_of_nonneg h0];exact h
set_option maxHeartbeats 16000000 in
theorem Promise_any (who done view slot time:Int) (v:Value) (L:List VtC) (w:World) (h:RdT w v L) (h1:0<=done/\done<256) (h2:0<=view/\view<256) (h3:0<=slot/\slot<256) (h4:0<=time/\time<256):
  Calls Try.prog 20 #[.int .i64 who,.int .u8 done,.int .u8 view,.int .u8 slot,.int .u8 time,v] w (GivesPr (promN who ⟨done,view,slot,time,valsN L⟩) w):=by
 have hm:=h.row.len
 have hl0:=valsN_length L
 obtain⟨a,cap,rfl⟩:=h.row.form
 obtain⟨_,_,hv,hlc,hcm, -⟩:=h.row.ex
 cases hv
 have HA:=hid (fun i hi=>rdt_at h.row i hi)
 have HOK:=hid h.ok
 have HG:=hid (fun i (hi:i<L.length) hi'=>valsN_get L i hi hi')
 clear h
 unfold promN GivesPr
 dsimp only
 obtain⟨V0,hV⟩: ∃V,valsN L=V:=⟨_,rfl⟩
 rw[hV] at HG hl0 ⊢
 clear hV
 obtain⟨N,hn⟩: ∃N,L.length=N:=⟨_,rfl⟩
 have HN:=hid hn
 rw[hn] at hm hlc hl0 ⊢
 have HV:=hid hl0
 clear hn hl0
 obtain⟨d,hd⟩: ∃d,done % 8=d:=⟨_,rfl⟩
 obtain⟨tv,htv⟩: ∃d,view % 4=d:=⟨_,rfl⟩
 obtain⟨ts,hts⟩: ∃d,slot % 6=d:=⟨_,rfl⟩
 have e1:=tmod_of h1.1 hd
 have e2:=tmod_of h2.1 htv
 have e3:=tmod_of h3.1 hts
 have HD:Hid (0<=d/\d<8):=hid (by omega)
 have w1:IntKind.i64.wrap done=done:=by rw[IntKind.wrap_i64];omega
 have w2:IntKind.i64.wrap view=view:=by rw[IntKind.wrap_i64];omega
 have w3:IntKind.i64.wrap slot=slot:=by rw[IntKind.wrap_i64];omega
 have w4:IntKind.i64.wrap time=time:=by rw[IntKind.wrap_i64];omega
 have w5:IntKind.i64.wrap d=d:=by have:=HD.out;rw[IntKind.wrap_i64];omega
 have w6:IntKind.i64.wrap tv=tv:=by rw[IntKind.wrap_i64];omega
 have w7:IntKind.i64.wrap ts=ts:=by rw[IntKind.wrap_i64];omega
 rw[hd,htv,hts]
 clear h1 h2 h3 h4
 obtain⟨tm,htm⟩: ∃tm,tm=time:=⟨_,rfl⟩
 have hb1:=newAlloc w (promObj ⟨0,0,0,0,0,[],none,0⟩)
 have hz0:BoxP _ w.heap.size ⟨0,0,0,0,0,[],none,0⟩:=BoxP.new w ⟨0,0,0,0,0,[],none,0⟩ _ rfl
 have hb2:=newAlloc (w.alloc (promObj ⟨0,0,0,0,0,[],none,0⟩)) (promObj ⟨who,d,tv,ts,time,[],none,0⟩)
 have hx0:BoxP _ (w.heap.size+1) ⟨who,d,tv,ts,time,[],none,0⟩:=BoxP.new (w.alloc (promObj ⟨0,0,0,0,0,[],none,0⟩)) ⟨who,d,tv,ts,time,[],none,0⟩ _ (by simp)
 have HB0:=hid (step hb1 hb2)
 have HZ0:=hid (hz0.later hb2)
 have HX0:=hid hx0
 clear hb1 hb2 hz0 hx0
 unfold promObj PromC.u at HB0 HZ0 HX0
 dsimp only[List.length_nil] at HB0 HZ0 HX0
 obtain⟨i8,hi8,h80,h81,h82⟩:=info_partsP infoVoteP
 go_enter Try.func20,Try.ntmps20
 go_upto_region 2 with fail
 generalize (w.alloc (.cells #[.int .i64 0,.int .i64 0,.int .i64 0,.int .i64 0,.int .i64 0,.slice none 0 0] 59)).alloc (.cells #[.int .i64 who,.int .i64 d,.int .i64 tv,.int .i64 ts,.int .i64 time,.slice none 0 0] 59)=W at HB0 HZ0 HX0 ⊢
 have HG8:Hid (w.heap.size≠w.heap.size+1):=hid (by omega)
 have HG9:Hid (w.heap.size<=w.heap.size+1):=hid (by omega)
 generalize w.heap.size+1=g13 at HX0 HG8 HG9 ⊢
 rw[<-htm] at HX0 ⊢
 have HTM:=hid htm
 clear htm hd htv hts e1 e2 e3 w1 w2 w3 w4 w5 w6 w7
 go_wp2
 go_loopw [14,15,30] (fun s _ _ wr=> ∃(k:Nat) (S:Int) (M:List VoteC) (va:Option Addr) (vc:Nat),k<=9/\M.length<=k/\M.length<=9/\s= .int .i64 S/\Hid (S=(k:Int)+1)/\Hid (Below w.heap.size w wr)/\Hid (BoxP wr g13 ⟨who,d,tv,ts,tm,M,va,vc⟩)/\Hid (BoxP wr w.heap.size ⟨0,0,0,0,0,[],none,0⟩)/\Hid (OwnV w.heap.size wr (.slice va M.length vc) M)/\Hid (valsV M=votesN d V0 k)) (fun s _ _ _=>(10 - intOf s).toNat)
 case atStart=>exact⟨0,1,[],none,0,by omega,by simp,by simp,rfl,hid (by simp),HB0,HX0,HZ0,hid (OwnV.nil _ _),hid rfl⟩
 case round=>
  obtain⟨k,S,M,va,vc,hk,hMk,hM9,rfl,HSK,HB,HBX,HZ,HO,HVN⟩:=hrel
  by_cases hlk:k<9
  case neg=>
   obtain rfl:k=9:=by omega
   have dS:decide (S<=9)=false:=decide_eq_false (by have:=HSK.out;omega)
   obtain⟨m0,m1,m2,m3,m4,m5⟩:=HBX.out.c
   obtain⟨z0,z1,z2,z3,z4,z5⟩:=HZ.out.c
   have zf:=HZ.out.f
   unfold PromC.u at m5 z5
   dsimp only[List.length_nil] at m0 m1 m2 m3 m4 m5 z0 z1 z2 z3 z4 z5
   have HBF:=hid (below_putP HB.out (Nat.le_refl _) ⟨who,d,tv,ts,tm,M,va,vc⟩)
   have HOF:=hid (HO.out.otherP (grown_putP _ w.heap.size ⟨who,d,tv,ts,tm,M,va,vc⟩) HZ.out.ex (by decide) (by decide))
   unfold putP PromC.u at HBF HOF
   dsimp only at HBF HOF
   go_wp2
   refine bodyPost_ret (by simp [results,Try.results20,go_sem,z0,z1,z2,z3,z4,z5]<;>rfl) rfl ⟨⟨who,d,tv,ts,tm,M,va,vc⟩,rfl,?_,HOF.out,HBF.out⟩
   unfold PromC.val
   dsimp only
   rw[HVN.out,HTM.out]
  obtain⟨SN,hSN⟩: ∃SN,S+1=SN:=⟨_,rfl⟩
  have HSN:=hid hSN
  have HSN2:Hid (SN=((k+1:Nat):Int)+1):=hid (by have:=HSK.out;omega)
  have dS:decide (S<=9)=true:=decide_eq_true (by have:=HSK.out;omega)
  have ewS:IntKind.i64.wrap (S+1)=SN:=by have:=HSK.out;rw[IntKind.wrap_i64];omega
  clear hSN
  obtain⟨wo,rfl⟩: ∃wo,wo=wr:=⟨_,rfl⟩
  go_wp2
  go_loopw [15,34] (fun i _ wr=> ∃n:Nat,n<=N/\i= .int .i64 (n:Int)/\wr=wo/\Hid (∀i (hi:i<V0.length),i<n->V0[i].slot % 9≠(k:Int))) (fun i _ _=>N - (intOf i).toNat)
  case atStart=>exact⟨0,by omega,rfl,rfl,hid (fun i hi q=>absurd q (by omega))⟩
  case round=>
   obtain⟨n,hn,rfl,hwr,HNF⟩:=hrel
   have hwo:wo=wr:=hwr.symm
   have HB:=hid (show Below w.heap.size w wr from hwr ▸ HB.out)
   have HBX:=hid (show BoxP wr g13 ⟨who,d,tv,ts,tm,M,va,vc⟩ from hwr ▸ HBX.out)
   have HZ:=hid (show BoxP wr w.heap.size ⟨0,0,0,0,0,[],none,0⟩ from hwr ▸ HZ.out)
   have HO:=hid (show OwnV w.heap.size wr (.slice va M.length vc) M from hwr ▸ HO.out)
   have HWR:=hid hwr
   clear hwo hwr
   by_cases hln:n<N
   case neg=>
    obtain rfl:n=N:=by omega
    have HVN2:Hid (valsV M=votesN d V0 (k+1)):=hid (by
     rw[HVN.out]
     show _=votesN d V0 k++atN d V0 k
     unfold atN
     rw[find_none (fun i hi=>HNF.out i hi (by have:=HV.out;omega)),List.append_nil])
    go_wp2
    go_roundw
    case rel=>exact⟨k+1,SN,M,va,vc,by omega,by omega,hM9,rfl,HSN2,HB,HBX,HZ,HO,HVN2⟩
    case measure=>have:=HSK.out;have:=HSN.out;simp [intOf];omega
   have hnl:n<L.length:=by rw[HN.out];exact hln
   have hnv:n<V0.length:=by rw[HV.out];exact hln
   obtain⟨b,o,rfl,hc⟩:=HA.out n hnl
   have hok:=HOK.out L[n] (mem_get hnl)
   have hgn:=HG.out n hnl hnv
   obtain⟨x,hx⟩: ∃x,L[n]=x:=⟨_,rfl⟩
   rw[hx] at hok hgn
   have HCC:=hid (fun wx hb=>by have:=hc wx hb;rw[hx] at this;exact this)
   obtain⟨q0,q1,q2⟩:=HCC.out _ HB.out
   have HXO:=hid hok
   obtain⟨⟨sl,bl,ns⟩,na,nc⟩:=x
   unfold VtC.u at q2 HCC
   dsimp only at q0 q1 q2 hgn HCC
   obtain⟨q,hq⟩: ∃q,sl % 9=q:=⟨_,rfl⟩
   have hs0:=hok.s0
   have hs1:=hok.s1
   have hb0:=hok.b0
   have hb1:=hok.b1
   dsimp only at hs0 hs1 hb0 hb1
   have f1:=tmod_of hs0 hq
   have f2:IntKind.i64.wrap sl=sl:=by rw[IntKind.wrap_i64];omega
   have f3:IntKind.i64.wrap q=q:=by rw[IntKind.wrap_i64];omega
   obtain⟨q1',hq1⟩: ∃q1',q+1=q1':=⟨_,rfl⟩
   have f4:IntKind.i64.wrap (q+1)=q1':=by rw[IntKind.wrap_i64];omega
   have hn0:(0:Int)<=(n:Int):=by omega
   have hn1:(n:Int)<(N:Int):=by omega
   have HHIT:Hid (q1'=S->atN d V0 k= [oneN d k ⟨sl,bl,ns⟩]):=hid (fun e=>by
    unfold atN
    rw[find_some n hnv (fun j hj hjn=>HNF.out j hj hjn) (by rw[hgn];show sl % 9= _;have:=HSK.out;omega),hgn])
   have HMISS:Hid (¬q1'=S-> ∀i (hi:i<V0.length),i<n+1->V0[i].slot % 9≠(k:Int)):=hid (fun e i hi hin=>by
    by_cases hin2:i=n
    ·subst hin2
     rw[hgn]
     show sl % 9≠_
     have:=HSK.out
     omega
    ·exact HNF.out i hi (by omega))
   clear hc hx hok hgn hnl hnv hs0 hs1 hb0 hb1 hq hq1
   by_cases e:q1'=S
   case neg=>
    have de:(q1'==S)=false:=by simpa using e
    have HNF2:=hid (HMISS.out e)
    clear e
    go_wp2
    go_roundw
    case rel=>exact⟨n+1,by omega,by go_num,HWR.out,HNF2⟩
    case measure=>simp [intOf];omega
   have de:(q1'==S)=true:=by simpa using e
   have HAT:=hid (HHIT.out e)
   clear e
   obtain⟨Q,hQ⟩: ∃Q,bl % 9=Q:=⟨_,rfl⟩
   obtain⟨D,hD⟩: ∃D,d+S=D:=⟨_,rfl⟩
   have g1:=tmod_of (HXO.out.b0:0<=bl) hQ
   have g2:IntKind.i64.wrap bl=bl:=by have:=HXO.out.b0;have:=HXO.out.b1;dsimp only at*;rw[IntKind.wrap_i64];omega
   have g3:IntKind.i64.wrap Q=Q:=by have:0<=bl:=HXO.out.b0;rw[IntKind.wrap_i64];omega
   have g4:IntKind.i64.wrap (d+S)=D:=by have:=HSK.out;have:=HD.out;rw[IntKind.wrap_i64];omega
   have CB0:=fun(W':World) (hb:Below w.heap.size w W')=>Batch_F (.slice na ns.length nc) ns W' (HXO.out.rd.later hb) (by have:ns.length<=140737488355328:=HXO.out.few;omega)
   have HVX:Hid (votesN d V0 (k+1)=votesN d V0 k++ [⟨D,Q,batchF ns⟩]):=hid (by
    show votesN d V0 k++atN d V0 k= _
    rw[HAT.out]
    unfold oneN
    dsimp only
    rw[hQ,<-hD,HSK.out])
   obtain⟨BX,hBX⟩: ∃BX,batchF ns=BX:=⟨_,rfl⟩
   rw[hBX] at HVX
   obtain⟨xf,xv,xtv,xts,xt,xr⟩:=BX
   have CBF:Hid (∀V,Below w.heap.size w V->Calls Try.prog 41 #[.slice na ns.length nc] V (fun e V'=> ∃ya yc,e= .returned (.agg #[.bool xf,.int .i64 xv,.int .i64 xtv,.int .i64 xts,.int .i64 xt,.slice ya xr.length yc])/\OwnR w.heap.size V' ⟨D,Q,⟨xf,xv,xtv,xts,xt,xr⟩,ya,yc⟩/\Below V.heap.size V V')):=hid (fun V hb=>by
    refine(CB0 V hb).mono ?_
    intro e V' hmb
    obtain⟨u,rfl, -,hov,hbb⟩:=hmb.out
    rw[hBX] at hov ⊢
    obtain⟨ya,yc,rfl⟩:=Rw.own_form hov
    exact⟨ya,yc,rfl,own_lowerX hov (by have:=hb.size;omega),hbb⟩)
   generalize hnl:ns.length=nl at*
   have HSS:Hid (∀V,Below w.heap.size w V-> ∀(M':List VoteC) va' vc',BoxP V g13 ⟨who,d,tv,ts,tm,M',va',vc'⟩->(fun W=>(W.cell? ⟨g13,1,none⟩=some (.int .i64 d)/\W.cell? ⟨b,o+n*3+1,none⟩=some (.int .u8 bl)/\W.cell? ⟨b,o+n*3+2,none⟩=some (.slice na nl nc))) V):=hid (fun V hb M' va' vc' hx=>by
    obtain⟨-,c1,c2⟩:=HCC.out V hb
    obtain⟨-,k1, -, -, -, -⟩:=hx.c
    exact⟨k1,c1,c2⟩)
   clear CB0 hBX hQ hD HXO HHIT HMISS HNF
   go_upto_region 9 with fail
   refine wp_region_held_drew (S:=(fun W=>(W.cell? ⟨g13,1,none⟩=some (.int .i64 d)/\W.cell? ⟨b,o+n*3+1,none⟩=some (.int .u8 bl)/\W.cell? ⟨b,o+n*3+2,none⟩=some (.slice na nl nc)))) (by kernel_rfl) (HSS.out _ (step HB.out (Below.refl _ _).drew) _ _ _ (HBX.out.later (Below.refl _ _).drew)) (fun hHeld=>?_)
   obtain⟨V,hV⟩: ∃V,V=wr.drew:=⟨_,rfl⟩
   have hb:Below wr.heap.size wr V:=(by rw[hV];exact(Below.refl _ _).drew)
   rw[<-hV] at hHeld ⊢
   have HB:=hid (step HB.out hb)
   have HBX:=hid (HBX.out.later hb)
   have HZ:=hid (HZ.out.later hb)
   have HO:=hid (HO.out.later hb)
   clear hV hb
   refine wpAnyH_take (i:=0) (v:=?_) rfl (by kernel_rfl) (by kernel_rfl) (by kernel_rfl) (fun _ _ _ h=>h) (Or.inl ⟨by rfl,?_⟩) (by assumption) ?_
   rotate_left
   ·intro w hSw;(try dsimp only at hSw);go_simp<;>with_reducible rfl
   try simp only[Act.put,getElem_toArray,getElem_cons_succ,getElem_cons_zero,setIfInBounds_toArray,set_cons_zero,set_cons_succ]
   refine wpAnyH_take (i:=2) (v:=?_) rfl (by kernel_rfl) (by kernel_rfl) (by kernel_rfl) (fun _ _ _ h=>h) (Or.inl ⟨by rfl,?_⟩) (by assumption) ?_
   rotate_left
   ·intro w hSw;(try dsimp only at hSw);go_simp<;>with_reducible rfl
   try simp only[Act.put,getElem_toArray,getElem_cons_succ,getElem_cons_zero,setIfInBounds_toArray,set_cons_zero,set_cons_succ]
   refine wpAnyH_take (i:=3) (v:=?_) rfl (by kernel_rfl) (by kernel_rfl) (by kernel_rfl) (fun _ _ _ h=>h) (Or.inl ⟨by rfl,?_⟩) (by assumption) ?_
   rotate_left
   ·intro w hSw;(try dsimp only at hSw);go_simp<;>with_reducible rfl
   try simp only[Act.put,getElem_toArray,getElem_cons_succ,getElem_cons_zero,setIfInBounds_toArray,set_cons_zero,set_cons_succ]
   refine wpAnyH_take (i:=4) (v:=?_) rfl (by kernel_rfl) (by kernel_rfl) (by kernel_rfl) (fun _ _ _ h=>h) (Or.inl ⟨by rfl,?_⟩) (by assumption) ?_
   rotate_left
   ·intro w hSw;(try dsimp only at hSw);go_simp<;>with_reducible rfl
   try simp only[Act.put,getElem_toArray,getElem_cons_succ,getElem_cons_zero,setIfInBounds_toArray,set_cons_zero,set_cons_succ]
   refine wpAnyH_take (i:=5) (v:=?_) rfl (by kernel_rfl) (by kernel_rfl) (by kernel_rfl) (fun _ _ _ h=>h) (Or.inl ⟨by rfl,?_⟩) (by assumption) ?_
   rotate_left
   ·intro w hSw;(try dsimp only at hSw);go_simp<;>with_reducible rfl
   try simp only[Act.put,getElem_toArray,getElem_cons_succ,getElem_cons_zero,setIfInBounds_toArray,set_cons_zero,set_cons_succ]
   refine wpAnyH_take (i:=6) (v:=?_) rfl (by kernel_rfl) (by kernel_rfl) (by kernel_rfl) (fun _ _ _ h=>h) (Or.inl ⟨by rfl,?_⟩) (by assumption) ?_
   rotate_left
   ·intro w hSw;(try dsimp only at hSw);go_simp<;>with_reducible rfl
   try simp only[Act.put,getElem_toArray,getElem_cons_succ,getElem_cons_zero,setIfInBounds_toArray,set_cons_zero,set_cons_succ]
   refine wpAnyH_take (i:=7) (v:=?_) rfl (by kernel_rfl) (by kernel_rfl) (by kernel_rfl) (fun _ _ _ h=>h) (Or.inl ⟨by rfl,?_⟩) (by assumption) ?_
   rotate_left
   ·intro w hSw;(try dsimp only at hSw);go_simp<;>with_reducible rfl
   try simp only[Act.put,getElem_toArray,getElem_cons_succ,getElem_cons_zero,setIfInBounds_toArray,set_cons_zero,set_cons_succ]
   refine wpAnyH_take (i:=8) (v:=?_) rfl (by kernel_rfl) (by kernel_rfl) (by kernel_rfl) (fun _ _ _ h=>h) (Or.inl ⟨by rfl,?_⟩) (by assumption) ?_
   rotate_left
   ·intro w hSw;(try dsimp only at hSw);go_simp<;>with_reducible rfl
   try simp only[Act.put,getElem_toArray,getElem_cons_succ,getElem_cons_zero,setIfInBounds_toArray,set_cons_zero,set_cons_succ]
   refine wpAnyH_take (i:=9) (v:=?_) rfl (by kernel_rfl) (by kernel_rfl) (by kernel_rfl) (fun _ _ _ h=>h) (Or.inl ⟨by rfl,?_⟩) (by assumption) ?_
   rotate_left
   ·intro w hSw;(try dsimp only at hSw);go_simp<;>with_reducible rfl
   try simp only[Act.put,getElem_toArray,getElem_cons_succ,getElem_cons_zero,setIfInBounds_toArray,set_cons_zero,set_cons_succ]
   refine wpAnyH_take (i:=10) (v:=?_) rfl (by kernel_rfl) (by kernel_rfl) (by kernel_rfl) (fun _ _ _ h=>h) (Or.inl ⟨by rfl,?_⟩) (by assumption) ?_
   rotate_left
   ·intro w hSw;(try dsimp only at hSw);go_simp<;>with_reducible rfl
   try simp only[Act.put,getElem_toArray,getElem_cons_succ,getElem_cons_zero,setIfInBounds_toArray,set_cons_zero,set_cons_succ]
   refine wpAnyH_take (i:=11) (v:=?_) rfl (by kernel_rfl) (by kernel_rfl) (by kernel_rfl) (fun _ _ _ h=>h) (Or.inl ⟨by rfl,?_⟩) (by assumption) ?_
   rotate_left
   ·intro w hSw;(try dsimp only at hSw);go_simp<;>with_reducible rfl
   try simp only[Act.put,getElem_toArray,getElem_cons_succ,getElem_cons_zero,setIfInBounds_toArray,set_cons_zero,set_cons_succ]
   refine wpAnyH_take (i:=12) (v:=?_) rfl (by kernel_rfl) (by kernel_rfl) (by kernel_rfl) (fun _ _ _ h=>h) (Or.inl ⟨by rfl,?_⟩) (by assumption) ?_
   rotate_left
   ·intro w hSw;(try dsimp only at hSw);go_simp<;>with_reducible rfl
   try simp only[Act.put,getElem_toArray,getElem_cons_succ,getElem_cons_zero,setIfInBounds_toArray,set_cons_zero,set_cons_succ]
   refine wpAnyH_take (i:=13) (v:=?_) rfl (by kernel_rfl) (by kernel_rfl) (by kernel_rfl) (fun _ _ _ h=>h) (Or.inl ⟨by rfl,?_⟩) (by assumption) ?_
   rotate_left
   ·intro w hSw;(try dsimp only at hSw);go_simp<;>with_reducible rfl
   try simp only[Act.put,getElem_toArray,getElem_cons_succ,getElem_cons_zero,setIfInBounds_toArray,set_cons_zero,set_cons_succ]
   refine wpAnyH_take (i:=14) (v:=?_) rfl (by kernel_rfl) (by kernel_rfl) (by kernel_rfl) (fun _ _ _ h=>h) (Or.inl ⟨by rfl,?_⟩) (by assumption) ?_
   rotate_left
   ·intro w hSw;(try dsimp only at hSw);go_simp<;>with_reducible rfl
   try simp only[Act.put,getElem_toArray,getElem_cons_succ,getElem_cons_zero,setIfInBounds_toArray,set_cons_zero,set_cons_succ]
   refine wpAnyH_take (i:=15) (v:=?_) rfl (by kernel_rfl) (by kernel_rfl) (by kernel_rfl) (fun _ _ _ h=>h) (Or.inl ⟨by rfl,?_⟩) (by assumption) ?_
   rotate_left
   ·intro w hSw;(try dsimp only at hSw);go_simp<;>with_reducible rfl
   try simp only[Act.put,getElem_toArray,getElem_cons_succ,getElem_cons_zero,setIfInBounds_toArray,set_cons_zero,set_cons_succ]
   refine wpAnyH_take (i:=16) (v:=?_) rfl (by kernel_rfl) (by kernel_rfl) (by kernel_rfl) (fun _ _ _ h=>h) (Or.inl ⟨by rfl,?_⟩) (by assumption) ?_
   rotate_left
   ·intro w hSw;(try dsimp only at hSw);go_simp<;>with_reducible rfl
   try simp only[Act.put,getElem_toArray,getElem_cons_succ,getElem_cons_zero,setIfInBounds_toArray,set_cons_zero,set_cons_succ]
   refine wpAnyH_take (i:=17) (v:=?_) rfl (by kernel_rfl) (by kernel_rfl) (by kernel_rfl) (fun _ _ _ h=>h) (Or.inl ⟨by rfl,?_⟩) (by assumption) ?_
   rotate_left
   ·intro w hSw;(try dsimp only at hSw);go_simp<;>with_reducible rfl
   try simp only[Act.put,getElem_toArray,getElem_cons_succ,getElem_cons_zero,setIfInBounds_toArray,set_cons_zero,set_cons_succ]
   refine wpAnyH_ready (rs:= [1,18]) (by kernel_rfl) (by simp) ?_
   refine AllReadyH.cons rfl (fun K hK=>?_) (AllReadyH.cons rfl (fun K hK=>?_) AllReadyH.nil)
   ·skip
    obtain⟨-, -, -, -, -,kl⟩:=HBX.out.c
    unfold PromC.u at kl
    dsimp only at kl
    go_simp
    clear kl
    refine hK.out _ _ (HSS.out _ HB.out _ _ _ HBX.out) (fun hHeld=>?_)
    clear hK K
    try simp only[Act.put,getElem_toArray,getElem_cons_succ,getElem_cons_zero,setIfInBounds_toArray,set_cons_zero,set_cons_succ]
    refine wpAnyH_ready (rs:= [18]) (by kernel_rfl) (by simp) ?_
    refine AllReadyH.cons rfl (fun K hK=>?_) AllReadyH.nil
    ·skip
     go_simp
     go_at_call 41
     refine(CBF.out _ HB.out).mono ?_
     rintro e V' ⟨ya,yc,rfl,hoy,hb⟩
     have HB:=hid (step HB.out hb)
     have HBX:=hid (HBX.out.later hb)
     have HZ:=hid (HZ.out.later hb)
     have HO:=hid (HO.out.later hb)
     have HOY:=hid hoy
     have HVN2:Hid (valsV (M++ [(⟨D,Q,⟨xf,xv,xtv,xts,xt,xr⟩,ya,yc⟩:VoteC)])=votesN d V0 (k+1)):=hid (by rw[valsV_snoc,HVN.out,HVX.out];rfl)
     have HYC:=hid (cellsV_one (⟨D,Q,⟨xf,xv,xtv,xts,xt,xr⟩,ya,yc⟩:VoteC))
     clear hb hoy
     obtain⟨V,rfl⟩: ∃V,V=V':=⟨_,rfl⟩
     refine hK.out _ _ (HSS.out _ HB.out _ _ _ HBX.out) (fun hHeld=>?_)
     clear hK K
     try simp only[Act.put,getElem_toArray,getElem_cons_succ,getElem_cons_zero,setIfInBounds_toArray,set_cons_zero,set_cons_succ]
     refine wpAnyH_take (i:=19) (v:=?_) rfl (by kernel_rfl) (by kernel_rfl) (by kernel_rfl) (fun _ _ _ h=>h) (Or.inl ⟨by rfl,?_⟩) (by assumption) ?_
     rotate_left
     ·intro w hSw;(try dsimp only at hSw);go_simp<;>with_reducible rfl
     try simp only[Act.put,getElem_toArray,getElem_cons_succ,getElem_cons_zero,setIfInBounds_toArray,set_cons_zero,set_cons_succ]
     refine wpAnyH_ready (rs:= [20]) (by kernel_rfl) (by simp) ?_
     refine AllReadyH.cons rfl (fun K hK=>?_) AllReadyH.nil
     ·skip
      go_simp
      obtain⟨V',hV'⟩: ∃V',V'=V.alloc (.cells #[.int .i64 D,.int .i64 Q,.bool xf,.int .i64 xv,.int .i64 xtv,.int .i64 xts,.int .i64 xt,.slice ya xr.length yc] 48):=⟨_,rfl⟩
      have hb:Below V.heap.size V V':=(by rw[hV'];exact newAlloc _ _)
      have HNB:Hid (HeapAt V' V.heap.size (.cells #[.int .i64 D,.int .i64 Q,.bool xf,.int .i64 xv,.int .i64 xtv,.int .i64 xts,.int .i64 xt,.slice ya xr.length yc] 48)):=hid (by rw[hV'];exact alloc_atB _ _ _ rfl)
      rw[<-hV']
      have HB:=hid (step HB.out hb)
      have HBX:=hid (HBX.out.later hb)
      have HZ:=hid (HZ.out.later hb)
      have HO:=hid (HO.out.later hb)
      have HOY:=hid (OwnR.later HOY.out hb)
      clear hV' hb
      generalize V.heap.size=n5 at HNB ⊢
      obtain⟨V,rfl⟩: ∃V,V=V':=⟨_,rfl⟩
      refine hK.out _ _ (HSS.out _ HB.out _ _ _ HBX.out) (fun hHeld=>?_)
      clear hK K
      try simp only[Act.put,getElem_toArray,getElem_cons_succ,getElem_cons_zero,setIfInBounds_toArray,set_cons_zero,set_cons_succ]
      refine wpAnyH_ready (rs:= [21]) (by kernel_rfl) (by simp) ?_
      refine AllReadyH.cons rfl (fun K hK=>?_) AllReadyH.nil
      ·skip
       refine step_append_own (by rfl) _ _ _ (by rfl) w.heap.size 48 i8 _ 8 80 Try.underlying45 hi8 h80 h81 h82 rfl (by omega) (.slice va M.length vc) M.length _ (by rfl) HO.out.row ⟨n5,0,none⟩ 1 1 (cellsV (⟨D,Q,⟨xf,xv,xtv,xts,xt,xr⟩,ya,yc⟩:VoteC)) (by rfl) rfl (World.news_of_block (cs:=#[.int .i64 D,.int .i64 Q,.bool xf,.int .i64 xv,.int .i64 xtv,.int .i64 xts,.int .i64 xt,.slice ya xr.length yc]) (t:=48) (fr:=(0,0)) HNB.out) HYC.out (by unfold maxLen;omega) (by omega) HB.out.size ?_
       intro v' V' hown hgrow _
       have hnb:=fun {cs:Array Value} {t:TypeId} {g:Nat} (hx:V.heap[g]?=some (.cells cs t)) (hne:48≠t)=>ho_ne HO.out.row hx hne
       have hbx:BoxP V' g13 ⟨who,d,tv,ts,tm,M,va,vc⟩:=⟨(hgrow.block _ HBX.out.lt (fun q=>hnb HBX.out.ex (by decide) q.symm)).trans HBX.out.ex⟩
       have hzx:BoxP V' w.heap.size ⟨0,0,0,0,0,[],none,0⟩:=⟨(hgrow.block _ HZ.out.lt (fun q=>hnb HZ.out.ex (by decide) q.symm)).trans HZ.out.ex⟩
       have HB:=hid (HB.out.grown hgrow HB.out.size (fun g hg=>(Rw.own_lt HO.out.row g hg).1))
       have HO:Hid (OwnV w.heap.size V' v' (M++ [(⟨D,Q,⟨xf,xv,xtv,xts,xt,xr⟩,ya,yc⟩:VoteC)])):=hid (OwnV.pushP HO.out HOY.out hgrow (by rw[List.length_append,flatX_snoc];exact hown))
       obtain⟨vb,vd,rfl⟩:=Rw.own_form HO.out.row
       have HBX:=hid hbx
       have HZ:=hid hzx
       clear hown hgrow HNB hnb hbx hzx HOY
       obtain⟨V,rfl⟩: ∃V,V=V':=⟨_,rfl⟩
       refine hK.out _ _ (HSS.out _ HB.out _ _ _ HBX.out) (fun hHeld=>?_)
       clear hK K
       try simp only[Act.put,getElem_toArray,getElem_cons_succ,getElem_cons_zero,setIfInBounds_toArray,set_cons_zero,set_cons_succ]
       refine wpAnyH_take (i:=22) (v:=?_) rfl (by kernel_rfl) (by kernel_rfl) (by kernel_rfl) (fun _ _ _ h=>h) (Or.inl ⟨by rfl,?_⟩) (by assumption) ?_
       rotate_left
       ·intro w hSw;(try dsimp only at hSw);go_simp<;>with_reducible rfl
       try simp only[Act.put,getElem_toArray,getElem_cons_succ,getElem_cons_zero,setIfInBounds_toArray,set_cons_zero,set_cons_succ]
       refine wpAnyH_ready (rs:= [23]) (by kernel_rfl) (by simp) ?_
       refine AllReadyH.cons rfl (fun K hK=>?_) AllReadyH.nil
       ·skip
        obtain⟨-, -, -, -, -,kl⟩:=HBX.out.c
        have kf:=HBX.out.f
        go_simp
        have HZ:=hid (HZ.out.gr (grown_set1 V g13 5 (.slice vb (M++ [(⟨D,Q,⟨xf,xv,xtv,xts,xt,xr⟩,ya,yc⟩:VoteC)]).length vd)) HG8.out)
        have HB:=hid (HB.out.setCell (p:=⟨g13,5,none⟩) HG9.out (.slice vb (M++ [(⟨D,Q,⟨xf,xv,xtv,xts,xt,xr⟩,ya,yc⟩:VoteC)]).length vd))
        have HO:=hid (HO.out.otherP (grown_set1 V g13 5 (.slice vb (M++ [(⟨D,Q,⟨xf,xv,xtv,xts,xt,xr⟩,ya,yc⟩:VoteC)]).length vd)) HBX.out.ex (by decide) (by decide))
        have HBX:=hid (HBX.out.five (M++ [(⟨D,Q,⟨xf,xv,xtv,xts,xt,xr⟩,ya,yc⟩:VoteC)]) vb vd)
        rw[List.length_append,List.length_singleton] at HZ HB HO HBX
        clear kl kf
        refine hK.out _ _ (HSS.out _ HB.out _ _ _ HBX.out) (fun hHeld=>?_)
        clear hK K
        try simp only[Act.put,getElem_toArray,getElem_cons_succ,getElem_cons_zero,setIfInBounds_toArray,set_cons_zero,set_cons_succ]
        refine wpAnyH_done (by kernel_rfl) ?_ _
        go_wp2_with fail
        go_roundw
        case rel=>exact⟨k+1,SN,M++ [(⟨D,Q,⟨xf,xv,xtv,xts,xt,xr⟩,ya,yc⟩:VoteC)],_,_,by omega,by simp;omega,by simp;omega,rfl,HSN2,HB,HBX,HZ,hid (by rw[List.length_append,List.length_singleton];exact HO.out),HVN2⟩
        case measure=>have:=HSK.out;have:=HSN.out;simp [intOf];omega
   ·skip
    go_simp
    go_at_call 41
    refine(CBF.out _ HB.out).mono ?_
    rintro e V' ⟨ya,yc,rfl,hoy,hb⟩
    have HB:=hid (step HB.out hb)
    have HBX:=hid (HBX.out.later hb)
    have HZ:=hid (HZ.out.later hb)
    have HO:=hid (HO.out.later hb)
    have HOY:=hid hoy
    have HVN2:Hid (valsV (M++ [(⟨D,Q,⟨xf,xv,xtv,xts,xt,xr⟩,ya,yc⟩:VoteC)])=votesN d V0 (k+1)):=hid (by rw[valsV_snoc,HVN.out,HVX.out];rfl)
    have HYC:=hid (cellsV_one (⟨D,Q,⟨xf,xv,xtv,xts,xt,xr⟩,ya,yc⟩:VoteC))
    clear hb hoy
    obtain⟨V,rfl⟩: ∃V,V=V':=⟨_,rfl⟩
    refine hK.out _ _ (HSS.out _ HB.out _ _ _ HBX.out) (fun hHeld=>?_)
    clear hK K
    try simp only[Act.put,getElem_toArray,getElem_cons_succ,getElem_cons_zero,setIfInBounds_toArray,set_cons_zero,set_cons_succ]
    refine wpAnyH_take (i:=19) (v:=?_) rfl (by kernel_rfl) (by kernel_rfl) (by kernel_rfl) (fun _ _ _ h=>h) (Or.inl ⟨by rfl,?_⟩) (by assumption) ?_
    rotate_left
    ·intro w hSw;(try dsimp only at hSw);go_simp<;>with_reducible rfl
    try simp only[Act.put,getElem_toArray,getElem_cons_succ,getElem_cons_zero,setIfInBounds_toArray,set_cons_zero,set_cons_succ]
    refine wpAnyH_ready (rs:= [1,20]) (by kernel_rfl) (by simp) ?_
    refine AllReadyH.cons rfl (fun K hK=>?_) (AllReadyH.cons rfl (fun K hK=>?_) AllReadyH.nil)
    ·skip
     obtain⟨-, -, -, -, -,kl⟩:=HBX.out.c
     unfold PromC.u at kl
     dsimp only at kl
     go_simp
     clear kl
     refine hK.out _ _ (HSS.out _ HB.out _ _ _ HBX.out) (fun hHeld=>?_)
     clear hK K
     try simp only[Act.put,getElem_toArray,getElem_cons_succ,getElem_cons_zero,setIfInBounds_toArray,set_cons_zero,set_cons_succ]
     refine wpAnyH_ready (rs:= [20]) (by kernel_rfl) (by simp) ?_
     refine AllReadyH.cons rfl (fun K hK=>?_) AllReadyH.nil
     ·skip
      go_simp
      obtain⟨V',hV'⟩: ∃V',V'=V.alloc (.cells #[.int .i64 D,.int .i64 Q,.bool xf,.int .i64 xv,.int .i64 xtv,.int .i64 xts,.int .i64 xt,.slice ya xr.length yc] 48):=⟨_,rfl⟩
      have hb:Below V.heap.size V V':=(by rw[hV'];exact newAlloc _ _)
      have HNB:Hid (HeapAt V' V.heap.size (.cells #[.int .i64 D,.int .i64 Q,.bool xf,.int .i64 xv,.int .i64 xtv,.int .i64 xts,.int .i64 xt,.slice ya xr.length yc] 48)):=hid (by rw[hV'];exact alloc_atB _ _ _ rfl)
      rw[<-hV']
      have HB:=hid (step HB.out hb)
      have HBX:=hid (HBX.out.later hb)
      have HZ:=hid (HZ.out.later hb)
      have HO:=hid (HO.out.later hb)
      have HOY:=hid (OwnR.later HOY.out hb)
      clear hV' hb
      generalize V.heap.size=n5 at HNB ⊢
      obtain⟨V,rfl⟩: ∃V,V=V':=⟨_,rfl⟩
      refine hK.out _ _ (HSS.out _ HB.out _ _ _ HBX.out) (fun hHeld=>?_)
      clear hK K
      try simp only[Act.put,getElem_toArray,getElem_cons_succ,getElem_cons_zero,setIfInBounds_toArray,set_cons_zero,set_cons_succ]
      refine wpAnyH_ready (rs:= [21]) (by kernel_rfl) (by simp) ?_
      refine AllReadyH.cons rfl (fun K hK=>?_) AllReadyH.nil
      ·skip
       refine step_append_own (by rfl) _ _ _ (by rfl) w.heap.size 48 i8 _ 8 80 Try.underlying45 hi8 h80 h81 h82 rfl (by omega) (.slice va M.length vc) M.length _ (by rfl) HO.out.row ⟨n5,0,none⟩ 1 1 (cellsV (⟨D,Q,⟨xf,xv,xtv,xts,xt,xr⟩,ya,yc⟩:VoteC)) (by rfl) rfl (World.news_of_block (cs:=#[.int .i64 D,.int .i64 Q,.bool xf,.int .i64 xv,.int .i64 xtv,.int .i64 xts,.int .i64 xt,.slice ya xr.length yc]) (t:=48) (fr:=(0,0)) HNB.out) HYC.out (by unfold maxLen;omega) (by omega) HB.out.size ?_
       intro v' V' hown hgrow _
       have hnb:=fun {cs:Array Value} {t:TypeId} {g:Nat} (hx:V.heap[g]?=some (.cells cs t)) (hne:48≠t)=>ho_ne HO.out.row hx hne
       have hbx:BoxP V' g13 ⟨who,d,tv,ts,tm,M,va,vc⟩:=⟨(hgrow.block _ HBX.out.lt (fun q=>hnb HBX.out.ex (by decide) q.symm)).trans HBX.out.ex⟩
       have hzx:BoxP V' w.heap.size ⟨0,0,0,0,0,[],none,0⟩:=⟨(hgrow.block _ HZ.out.lt (fun q=>hnb HZ.out.ex (by decide) q.symm)).trans HZ.out.ex⟩
       have HB:=hid (HB.out.grown hgrow HB.out.size (fun g hg=>(Rw.own_lt HO.out.row g hg).1))
       have HO:Hid (OwnV w.heap.size V' v' (M++ [(⟨D,Q,⟨xf,xv,xtv,xts,xt,xr⟩,ya,yc⟩:VoteC)])):=hid (OwnV.pushP HO.out HOY.out hgrow (by rw[List.length_append,flatX_snoc];exact hown))
       obtain⟨vb,vd,rfl⟩:=Rw.own_form HO.out.row
       have HBX:=hid hbx
       have HZ:=hid hzx
       clear hown hgrow HNB hnb hbx hzx HOY
       obtain⟨V,rfl⟩: ∃V,V=V':=⟨_,rfl⟩
       refine hK.out _ _ (HSS.out _ HB.out _ _ _ HBX.out) (fun hHeld=>?_)
       clear hK K
       try simp only[Act.put,getElem_toArray,getElem_cons_succ,getElem_cons_zero,setIfInBounds_toArray,set_cons_zero,set_cons_succ]
       refine wpAnyH_take (i:=22) (v:=?_) rfl (by kernel_rfl) (by kernel_rfl) (by kernel_rfl) (fun _ _ _ h=>h) (Or.inl ⟨by rfl,?_⟩) (by assumption) ?_
       rotate_left
       ·intro w hSw;(try dsimp only at hSw);go_simp<;>with_reducible rfl
       try simp only[Act.put,getElem_toArray,getElem_cons_succ,getElem_cons_zero,setIfInBounds_toArray,set_cons_zero,set_cons_succ]
       refine wpAnyH_ready (rs:= [23]) (by kernel_rfl) (by simp) ?_
       refine AllReadyH.cons rfl (fun K hK=>?_) AllReadyH.nil
       ·skip
        obtain⟨-, -, -, -, -,kl⟩:=HBX.out.c
        have kf:=HBX.out.f
        go_simp
        have HZ:=hid (HZ.out.gr (grown_set1 V g13 5 (.slice vb (M++ [(⟨D,Q,⟨xf,xv,xtv,xts,xt,xr⟩,ya,yc⟩:VoteC)]).length vd)) HG8.out)
        have HB:=hid (HB.out.setCell (p:=⟨g13,5,none⟩) HG9.out (.slice vb (M++ [(⟨D,Q,⟨xf,xv,xtv,xts,xt,xr⟩,ya,yc⟩:VoteC)]).length vd))
        have HO:=hid (HO.out.otherP (grown_set1 V g13 5 (.slice vb (M++ [(⟨D,Q,⟨xf,xv,xtv,xts,xt,xr⟩,ya,yc⟩:VoteC)]).length vd)) HBX.out.ex (by decide) (by decide))
        have HBX:=hid (HBX.out.five (M++ [(⟨D,Q,⟨xf,xv,xtv,xts,xt,xr⟩,ya,yc⟩:VoteC)]) vb vd)
        rw[List.length_append,List.length_singleton] at HZ HB HO HBX
        clear kl kf
        refine hK.out _ _ (HSS.out _ HB.out _ _ _ HBX.out) (fun hHeld=>?_)
        clear hK K
        try simp only[Act.put,getElem_toArray,getElem_cons_succ,getElem_cons_zero,setIfInBounds_toArray,set_cons_zero,set_cons_succ]
        refine wpAnyH_done (by kernel_rfl) ?_ _
        go_wp2_with fail
        go_roundw
        case rel=>exact⟨k+1,SN,M++ [(⟨D,Q,⟨xf,xv,xtv,xts,xt,xr⟩,ya,yc⟩:VoteC)],_,_,by omega,by simp;omega,by simp;omega,rfl,HSN2,HB,HBX,HZ,hid (by rw[List.length_append,List.length_singleton];exact HO.out),HVN2⟩
        case measure=>have:=HSK.out;have:=HSN.out;simp [intOf];omega
    ·skip
     go_simp
     obtain⟨V',hV'⟩: ∃V',V'=V.alloc (.cells #[.int .i64 D,.int .i64 Q,.bool xf,.int .i64 xv,.int .i64 xtv,.int .i64 xts,.int .i64 xt,.slice ya xr.length yc] 48):=⟨_,rfl⟩
     have hb:Below V.heap.size V V':=(by rw[hV'];exact newAlloc _ _)
     have HNB:Hid (HeapAt V' V.heap.size (.cells #[.int .i64 D,.int .i64 Q,.bool xf,.int .i64 xv,.int .i64 xtv,.int .i64 xts,.int .i64 xt,.slice ya xr.length yc] 48)):=hid (by rw[hV'];exact alloc_atB _ _ _ rfl)
     rw[<-hV']
     have HB:=hid (step HB.out hb)
     have HBX:=hid (HBX.out.later hb)
     have HZ:=hid (HZ.out.later hb)
     have HO:=hid (HO.out.later hb)
     have HOY:=hid (OwnR.later HOY.out hb)
     clear hV' hb
     generalize V.heap.size=n5 at HNB ⊢
     obtain⟨V,rfl⟩: ∃V,V=V':=⟨_,rfl⟩
     refine hK.out _ _ (HSS.out _ HB.out _ _ _ HBX.out) (fun hHeld=>?_)
     clear hK K
     try simp only[Act.put,getElem_toArray,getElem_cons_succ,getElem_cons_zero,setIfInBounds_toArray,set_cons_zero,set_cons_succ]
     refine wpAnyH_ready (rs:= [1]) (by kernel_rfl) (by simp) ?_
     refine AllReadyH.cons rfl (fun K hK=>?_) AllReadyH.nil
     ·skip
      obtain⟨-, -, -, -, -,kl⟩:=HBX.out.c
      unfold PromC.u at kl
      dsimp only at kl
      go_simp
      clear kl
      refine hK.out _ _ (HSS.out _ HB.out _ _ _ HBX.out) (fun hHeld=>?_)
      clear hK K
      try simp only[Act.put,getElem_toArray,getElem_cons_succ,getElem_cons_zero,setIfInBounds_toArray,set_cons_zero,set_cons_succ]
      refine wpAnyH_ready (rs:= [21]) (by kernel_rfl) (by simp) ?_
      refine AllReadyH.cons rfl (fun K hK=>?_) AllReadyH.nil
      ·skip
       refine step_append_own (by rfl) _ _ _ (by rfl) w.heap.size 48 i8 _ 8 80 Try.underlying45 hi8 h80 h81 h82 rfl (by omega) (.slice va M.length vc) M.length _ (by rfl) HO.out.row ⟨n5,0,none⟩ 1 1 (cellsV (⟨D,Q,⟨xf,xv,xtv,xts,xt,xr⟩,ya,yc⟩:VoteC)) (by rfl) rfl (World.news_of_block (cs:=#[.int .i64 D,.int .i64 Q,.bool xf,.int .i64 xv,.int .i64 xtv,.int .i64 xts,.int .i64 xt,.slice ya xr.length yc]) (t:=48) (fr:=(0,0)) HNB.out) HYC.out (by unfold maxLen;omega) (by omega) HB.out.size ?_
       intro v' V' hown hgrow _
       have hnb:=fun {cs:Array Value} {t:TypeId} {g:Nat} (hx:V.heap[g]?=some (.cells cs t)) (hne:48≠t)=>ho_ne HO.out.row hx hne
       have hbx:BoxP V' g13 ⟨who,d,tv,ts,tm,M,va,vc⟩:=⟨(hgrow.block _ HBX.out.lt (fun q=>hnb HBX.out.ex (by decide) q.symm)).trans HBX.out.ex⟩
       have hzx:BoxP V' w.heap.size ⟨0,0,0,0,0,[],none,0⟩:=⟨(hgrow.block _ HZ.out.lt (fun q=>hnb HZ.out.ex (by decide) q.symm)).trans HZ.out.ex⟩
       have HB:=hid (HB.out.grown hgrow HB.out.size (fun g hg=>(Rw.own_lt HO.out.row g hg).1))
       have HO:Hid (OwnV w.heap.size V' v' (M++ [(⟨D,Q,⟨xf,xv,xtv,xts,xt,xr⟩,ya,yc⟩:VoteC)])):=hid (OwnV.pushP HO.out HOY.out hgrow (by rw[List.length_append,flatX_snoc];exact hown))
       obtain⟨vb,vd,rfl⟩:=Rw.own_form HO.out.row
       have HBX:=hid hbx
       have HZ:=hid hzx
       clear hown hgrow HNB hnb hbx hzx HOY
       obtain⟨V,rfl⟩: ∃V,V=V':=⟨_,rfl⟩
       refine hK.out _ _ (HSS.out _ HB.out _ _ _ HBX.out) (fun hHeld=>?_)
       clear hK K
       try simp only[Act.put,getElem_toArray,getElem_cons_succ,getElem_cons_zero,setIfInBounds_toArray,set_cons_zero,set_cons_succ]
       refine wpAnyH_take (i:=22) (v:=?_) rfl (by kernel_rfl) (by kernel_rfl) (by kernel_rfl) (fun _ _ _ h=>h) (Or.inl ⟨by rfl,?_⟩) (by assumption) ?_
       rotate_left
       ·intro w hSw;(try dsimp only at hSw);go_simp<;>with_reducible rfl
       try simp only[Act.put,getElem_toArray,getElem_cons_succ,getElem_cons_zero,setIfInBounds_toArray,set_cons_zero,set_cons_succ]
       refine wpAnyH_ready (rs:= [23]) (by kernel_rfl) (by simp) ?_
       refine AllReadyH.cons rfl (fun K hK=>?_) AllReadyH.nil
       ·skip
        obtain⟨-, -, -, -, -,kl⟩:=HBX.out.c
        have kf:=HBX.out.f
        go_simp
        have HZ:=hid (HZ.out.gr (grown_set1 V g13 5 (.slice vb (M++ [(⟨D,Q,⟨xf,xv,xtv,xts,xt,xr⟩,ya,yc⟩:VoteC)]).length vd)) HG8.out)
        have HB:=hid (HB.out.setCell (p:=⟨g13,5,none⟩) HG9.out (.slice vb (M++ [(⟨D,Q,⟨xf,xv,xtv,xts,xt,xr⟩,ya,yc⟩:VoteC)]).length vd))
        have HO:=hid (HO.out.otherP (grown_set1 V g13 5 (.slice vb (M++ [(⟨D,Q,⟨xf,xv,xtv,xts,xt,xr⟩,ya,yc⟩:VoteC)]).length vd)) HBX.out.ex (by decide) (by decide))
        have HBX:=hid (HBX.out.five (M++ [(⟨D,Q,⟨xf,xv,xtv,xts,xt,xr⟩,ya,yc⟩:VoteC)]) vb vd)
        rw[List.length_append,List.length_singleton] at HZ HB HO HBX
        clear kl kf
        refine hK.out _ _ (HSS.out _ HB.out _ _ _ HBX.out) (fun hHeld=>?_)
        clear hK K
        try simp only[Act.put,getElem_toArray,getElem_cons_succ,getElem_cons_zero,setIfInBounds_toArray,set_cons_zero,set_cons_succ]
        refine wpAnyH_done (by kernel_rfl) ?_ _
        go_wp2_with fail
        go_roundw
        case rel=>exact⟨k+1,SN,M++ [(⟨D,Q,⟨xf,xv,xtv,xts,xt,xr⟩,ya,yc⟩:VoteC)],_,_,by omega,by simp;omega,by simp;omega,rfl,HSN2,HB,HBX,HZ,hid (by rw[List.length_append,List.length_singleton];exact HO.out),HVN2⟩
        case measure=>have:=HSK.out;have:=HSN.out;simp [intOf];omega
end Pl
end Go.Proofs.Ytbpmfjjbfiiiaaa
