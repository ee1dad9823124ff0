/- Texts laid together by program. -/
import Derived.Test.YtbpmfjjbfiiiaaaQS14
/- The document's highest. -/
set_option linter.unusedVariables false
set_option maxRecDepth 8000
set_option linter.unusedSimpArgs false
namespace Go.Proofs.Ytbpmfjjbfiiiaaa
open Lib (hid)
open Go.RowKit
namespace Pl
open Cm Ac

structure TopV where
 bat:BatV
 ballot:Int
 who:Int
def stepT (t who:Int) (s:TopV) (v:VoteV):TopV:=
 if v.slot=t/\(s.ballot<v.ballot\/v.ballot=s.ballot/\who<s.who) then ⟨v.bat,v.ballot,who⟩ else s
def votesT (t who:Int) (s:TopV) (l:List VoteV):TopV:=l.foldl (stepT t who) s
def topT (t:Int) (s:TopV) (l:List PromV):TopV:=l.foldl (fun s p=>votesT t p.who s p.votes) s
def top0:TopV:=⟨fillB, -1,0⟩
def highR (l:List PromV) (t:Int):BatV:=(topT t top0 l).bat
theorem votesT_take (t who:Int) (s:TopV) (l:List VoteV) (i:Nat) (h:i<l.length):votesT t who s (l.take (i+1))=stepT t who (votesT t who s (l.take i)) l[i]:=by
 unfold votesT
 rw[List.take_succ_eq_append_getElem h,List.foldl_append]
 rfl
theorem topT_take (t:Int) (s:TopV) (l:List PromV) (i:Nat) (h:i<l.length):topT t s (l.take (i+1))=votesT t l[i].who (topT t s (l.take i)) l[i].votes :=by
 unfold topT
 rw[List.take_succ_eq_append_getElem h,List.foldl_append]
 rfl
theorem stepT_yes {t who:Int} {s:TopV} {v:VoteV} (h1:v.slot=t) (h2:s.ballot<v.ballot\/v.ballot=s.ballot/\who<s.who):stepT t who s v=⟨v.bat,v.ballot,who⟩:=by
 unfold stepT
 rw[if_pos ⟨h1,h2⟩]
theorem stepT_no {t who:Int} {s:TopV} {v:VoteV} (h: ¬(v.slot=t/\(s.ballot<v.ballot\/v.ballot=s.ballot/\who<s.who))):stepT t who s v=s:=by
 unfold stepT
 rw[if_neg h]
structure BoxV (w:World) (b:Nat) (x:BatC):Prop where
 ex:w.heap[b]?=some (.cells #[.bool x.bat.fill,.int .i64 x.bat.view,.int .i64 x.bat.tv,.int .i64 x.bat.ts,.int .i64 x.bat.time,x.u] 42)
section
variable {w w' : World} {b g : Nat} {x : BatC}
theorem BoxV.lt (h:BoxV w b x):b<w.heap.size:=get_ltB h.ex
theorem BoxV.later (h:BoxV w b x) (hb:Below w.heap.size w w'):BoxV w' b x:=⟨cells_later h.ex hb⟩
theorem BoxV.gr (h:BoxV w b x) (hg:w.grownBy w' (some g)) (hne:b≠g):BoxV w' b x:=⟨(hg.block _ h.lt (fun q=>hne (by cases q;rfl))).trans h.ex⟩
theorem BoxV.c (h:BoxV w b x):w.cell? ⟨b,0,none⟩=some (.bool x.bat.fill)/\w.cell? ⟨b,1,none⟩=some (.int .i64 x.bat.view)/\w.cell? ⟨b,2,none⟩=some (.int .i64 x.bat.tv)/\w.cell? ⟨b,3,none⟩=some (.int .i64 x.bat.ts)/\w.cell? ⟨b,4,none⟩=some (.int .i64 x.bat.time)/\w.cell? ⟨b,5,none⟩=some x.u:=
 ⟨cell_at h.ex 0,cell_at h.ex 1,cell_at h.ex 2,cell_at h.ex 3,cell_at h.ex 4,cell_at h.ex 5⟩
theorem BoxV.fz (h:BoxV w b x) (k:Nat):w.frozen? ⟨b,k,none⟩=false:=frozen_at h.ex k
def putV6 (w:World) (b:Nat) (y:BatC):World:=(((((w.setCell ⟨b,0,none⟩ (.bool y.bat.fill)).setCell ⟨b,1,none⟩ (.int .i64 y.bat.view)).setCell ⟨b,2,none⟩ (.int .i64 y.bat.tv)).setCell ⟨b,3,none⟩ (.int .i64 y.bat.ts)).setCell ⟨b,4,none⟩ (.int .i64 y.bat.time)).setCell ⟨b,5,none⟩ y.u
theorem BoxV.put (h:BoxV w b x) (y:BatC):BoxV (putV6 w b y) b y:=by
 refine⟨?_⟩
 unfold putV6
 rw[set_atB (set_atB (set_atB (set_atB (set_atB (set_atB h.ex _ _) _ _) _ _) _ _) _ _) _ _]
 simp only[List.setIfInBounds_toArray,List.set_cons_zero,List.set_cons_succ]
theorem grown_putV6 (w:World) (b:Nat) (y:BatC):w.grownBy (putV6 w b y) (some b):=
 (((((grown_set1 w b _ _).trans (grown_set1 _ b _ _)).trans (grown_set1 _ b _ _)).trans (grown_set1 _ b _ _)).trans (grown_set1 _ b _ _)).trans (grown_set1 _ b _ _)
theorem below_putV6 {B:Nat} {a:World} (h:Below B a w) (hb:B<=b) (y:BatC):Below B a (putV6 w b y):=
 (((((h.setCell (p:=⟨b,0,none⟩) hb _).setCell (p:=⟨b,1,none⟩) hb _).setCell (p:=⟨b,2,none⟩) hb _).setCell (p:=⟨b,3,none⟩) hb _).setCell (p:=⟨b,4,none⟩) hb _).setCell (p:=⟨b,5,none⟩) hb _
end

def GivesH (Q:BatC->Prop) (b:BatV) (w:World) (e:Ending) (w':World):Prop:= ∃y:BatC,e= .returned (batVal y.bat y.u)/\y.bat=b/\Q y/\Below w.heap.size w w'
set_option maxHeartbeats 8000000 in
theorem highest_any (v:Value) (L:List PromC) (t:Int) (w:World) (h:RdP w v L) (hN:L.length<=1000) (Q:BatC->Prop) (hQ0:Q ⟨fillB,none,0⟩) (hQ: ∀p∈L,∀x∈p.votes,Q ⟨x.bat,x.ua,x.uc⟩):
  Calls Try.prog 44 #[v,.int .i64 t] w (GivesH Q (highR (valsP L) t) w):=by
 have hl0:=valsP_length L
 obtain⟨a,cap,rfl⟩:=h.form
 obtain⟨_,_,hv,hlc,hcm, -⟩:=h.row.ex
 cases hv
 have HA:=hid (fun i hi=>rdp_at h.row i hi)
 have HR:=hid h.votes
 have HG:=hid (fun i (hi:i<L.length) hi'=>valsP_get L i hi hi')
 have HTK:=hid (fun i hi=>topT_take t top0 (valsP L) i hi)
 have HEND:=hid (show(valsP L).take L.length=valsP L by rw[<-hl0];exact List.take_length)
 have HQ0:=hid hQ0
 have HQQ:=hid hQ
 clear h hQ0 hQ
 unfold highR GivesH
 generalize valsP L=V at HG HTK HEND hl0 ⊢
 obtain⟨N,hn⟩: ∃N,L.length=N:=⟨_,rfl⟩
 have HN:=hid hn
 rw[hn] at hlc hl0 hN HEND ⊢
 have HV:=hid hl0
 clear hn hl0
 have hb1:=newAlloc w (.cells #[.bool false,.int .i64 0,.int .i64 0,.int .i64 0,.int .i64 0,.slice none 0 0] 42)
 have hz0:BoxV _ w.heap.size ⟨zeroB,none,0⟩:=⟨alloc_atB w (.cells #[.bool false,.int .i64 0,.int .i64 0,.int .i64 0,.int .i64 0,.slice none 0 0] 42) _ rfl⟩
 have hb2:=newAlloc (w.alloc (.cells #[.bool false,.int .i64 0,.int .i64 0,.int .i64 0,.int .i64 0,.slice none 0 0] 42)) (.cells #[.bool true,.int .i64 0,.int .i64 0,.int .i64 0,.int .i64 0,.slice none 0 0] 42)
 have hx0:BoxV _ (w.heap.size+1) ⟨fillB,none,0⟩:=⟨alloc_atB (w.alloc (.cells #[.bool false,.int .i64 0,.int .i64 0,.int .i64 0,.int .i64 0,.slice none 0 0] 42)) (.cells #[.bool true,.int .i64 0,.int .i64 0,.int .i64 0,.int .i64 0,.slice none 0 0] 42) _ (by simp)⟩
 have HB0:=hid (step hb1 hb2)
 have HZ0:=hid (hz0.later hb2)
 have HX0:=hid hx0
 clear hb1 hb2 hz0 hx0
 go_enter Try.func44,Try.ntmps44
 go_upto_region 2 with fail
 generalize (w.alloc (.cells #[.bool false,.int .i64 0,.int .i64 0,.int .i64 0,.int .i64 0,.slice none 0 0] 42)).alloc (.cells #[.bool true,.int .i64 0,.int .i64 0,.int .i64 0,.int .i64 0,.slice none 0 0] 42)=W at HB0 HZ0 HX0 ⊢
 go_wp2
 go_loopw [6,7,8,9,10,12] (fun bl fr i _ _ _ wr=> ∃(j:Nat) (B F:Int) (X:BatC),j<=N/\i= .int .i64 (j:Int)/\bl= .int .i64 B/\fr= .int .i64 F/\Hid (Below w.heap.size w wr)/\Hid (BoxV wr (w.heap.size+1) X)/\Hid (BoxV wr w.heap.size ⟨zeroB,none,0⟩)/\Hid (Q X)/\Hid (topT t top0 (V.take j)=⟨X.bat,B,F⟩)) (fun _ _ i _ _ _ _=>N - (intOf i).toNat)
 case atStart=>exact⟨0, -1,0,⟨fillB,none,0⟩,by omega,rfl,rfl,rfl,HB0,HX0,HZ0,HQ0,hid rfl⟩
 case round=>
  obtain⟨j,B,F,X,hj,rfl,rfl,rfl,HB,HX,HZ,HRX,HS⟩:=hrel
  by_cases hlt:j<N
  case neg=>
   obtain rfl:j=N:=by omega
   have HFIN:Hid (topT t top0 V=⟨X.bat,B,F⟩):=hid (by rw[<-HEND.out];exact HS.out)
   obtain⟨m0,m1,m2,m3,m4,m5⟩:=HX.out.c
   obtain⟨z0,z1,z2,z3,z4,z5⟩:=HZ.out.c
   have zf:=HZ.out.fz
   have HBF:=hid (below_putV6 HB.out (Nat.le_refl _) X)
   obtain⟨⟨xf,xv,xtv,xts,xt,xr⟩,xa,xc⟩:=X
   unfold putV6 BatC.u at HBF
   unfold BatC.u at m5 z5
   unfold zeroB at z0 z1 z2 z3 z4 z5
   dsimp only[List.length_nil] at m0 m1 m2 m3 m4 m5 z0 z1 z2 z3 z4 z5 HBF HFIN
   go_wp2
   refine bodyPost_ret (by simp [results,Try.results44,go_sem,z0,z1,z2,z3,z4,z5]<;>rfl) rfl ⟨⟨⟨xf,xv,xtv,xts,xt,xr⟩,xa,xc⟩,rfl,by rw[HFIN.out],HRX.out,HBF.out⟩
  have hjl:j<L.length:=by rw[HN.out];exact hlt
  have hjv:j<V.length:=by rw[HV.out];exact hlt
  obtain⟨b,o,rfl,hc⟩:=HA.out j hjl
  have htk:=HTK.out j hjv
  rw[HG.out j hjl hjv,HS.out] at htk
  have hr:=HR.out L[j] (mem_get hjl)
  have hqq:=HQQ.out L[j] (mem_get hjl)
  obtain⟨p,hp⟩: ∃p,L[j]=p:=⟨_,rfl⟩
  have hcc: ∀wx,Below w.heap.size w wx->wx.cell? ⟨b,o+j*6,none⟩=some (.int .i64 p.who)/\wx.cell? ⟨b,o+j*6+5,none⟩=some p.u:=fun wx hb=>by
   obtain⟨c0, -, -, -, -,c5⟩:=hc wx hb
   rw[<-hp]
   exact⟨c0,c5⟩
  have hbw:b<w.heap.size:=lt_of_cell (hcc w (Below.refl _ _)).1
  rw[hp] at htk hr hqq
  clear hc hp
  obtain⟨pw,pd,pv,ps,pt,l,pa,pc⟩:=p
  unfold PromC.u at hr hcc
  unfold PromC.val at htk
  dsimp only at htk hr hcc hqq
  have HQP:=hid hqq
  clear hqq
  have HRV:=hid (fun i hi=>rdv_at hr.row i hi)
  have HRR:=hid hr.reqs
  have hml:=hr.len
  obtain⟨_,_,hv,hlc2,hcm2, -⟩:=hr.row.ex
  cases hv
  have HTV:=hid (fun S i hi=>votesT_take t pw S (valsV l) i hi)
  have HGV:=hid (fun i (hi:i<l.length) hi'=>valsV_get l i hi hi')
  have hvl:=valsV_length l
  have HTE:Hid (topT t top0 (V.take (j+1))=votesT t pw ⟨X.bat,B,F⟩ ((valsV l).take l.length)):=hid (by rw[htk,<-hvl,List.take_length])
  have HST:Hid (votesT t pw ⟨X.bat,B,F⟩ ((valsV l).take 0)=⟨X.bat,B,F⟩):=hid rfl
  generalize valsV l=VL at HTV HGV hvl HTE HST
  obtain⟨K,hk⟩: ∃K,l.length=K:=⟨_,rfl⟩
  have HK:=hid hk
  rw[hk] at hml hlc2 hvl HTE hcc
  have HVK:=hid hvl
  have HCC:=hid hcc
  clear hk hvl hr htk hjl hjv hcc
  have hj0:(0:Int)<=(j:Int):=by omega
  have hj1:(j:Int)<(N:Int):=by omega
  obtain⟨S0,hS0⟩: ∃S0,(⟨X.bat,B,F⟩:TopV)=S0:=⟨_,rfl⟩
  rw[hS0] at HTE
  have HST2:Hid (votesT t pw S0 (VL.take 0)=⟨X.bat,B,F⟩):=hid (by rw[<-hS0];exact HST.out)
  clear HST hS0
  obtain⟨wo,rfl⟩: ∃wo,wo=wr:=⟨_,rfl⟩
  go_wp2
  go_loopw [6,7,9,10,18] (fun bl fr i _ _ wr=> ∃(k:Nat) (B F:Int) (X:BatC),k<=K/\i= .int .i64 (k:Int)/\bl= .int .i64 B/\fr= .int .i64 F/\Hid (Below w.heap.size w wr)/\Hid (BoxV wr (w.heap.size+1) X)/\Hid (BoxV wr w.heap.size ⟨zeroB,none,0⟩)/\Hid (Q X)/\Hid (votesT t pw S0 (VL.take k)=⟨X.bat,B,F⟩)) (fun _ _ i _ _ _=>K - (intOf i).toNat)
  case atStart=>exact⟨0,B,F,X,by omega,rfl,rfl,rfl,HB,HX,HZ,HRX,HST2⟩
  case round=>
   obtain⟨k,BI,FI,XI,hk,rfl,rfl,rfl,HBI,HXI,HZI,HRI,HSI⟩:=hrel
   obtain⟨s0,s5⟩:=HCC.out _ HBI.out
   by_cases hlk:k<K
   case neg=>
    obtain rfl:k=K:=by omega
    have HNX:Hid (topT t top0 (V.take (j+1))=⟨XI.bat,BI,FI⟩):=hid (by rw[HTE.out];exact HSI.out)
    go_wp2
    go_roundw
    case rel=>exact⟨j+1,BI,FI,XI,by omega,by go_num,rfl,rfl,HBI,HXI,HZI,HRI,HNX⟩
    case measure=>simp [intOf];omega
   have hkl:k<l.length:=by rw[HK.out];exact hlk
   have hkv:k<VL.length:=by rw[HVK.out];exact hlk
   obtain⟨b2,o2,rfl,hc2⟩:=HRV.out k hkl
   obtain⟨q0,q1,q2,q3,q4,q5,q6,q7⟩:=hc2 _ HBI.out
   have htv:=HTV.out S0 k hkv
   rw[HGV.out k hkl hkv,HSI.out] at htv
   have hrr:=HQP.out l[k] (mem_get hkl)
   obtain⟨x,hx⟩: ∃x,l[k]=x:=⟨_,rfl⟩
   rw[hx] at q0 q1 q2 q3 q4 q5 q6 q7 htv hrr
   clear hc2 hx hkl hkv
   have HRX2:=hid hrr
   have hk0:(0:Int)<=(k:Int):=by omega
   have hk1:(k:Int)<(K:Int):=by omega
   have hba:=newAlloc wr (.cells (cellsV x).toArray 48)
   obtain⟨y0,y1,y2,y3,y4,y5,y6,y7⟩:=box8p (x0:=.int .i64 x.slot) (x1:=.int .i64 x.ballot) (x2:=.bool x.bat.fill) (x3:=.int .i64 x.bat.view) (x4:=.int .i64 x.bat.tv) (x5:=.int .i64 x.bat.ts) (x6:=.int .i64 x.bat.time) (x7:=x.u) (Below.refl _ (wr.alloc (.cells (cellsV x).toArray 48)))
   have HBA:=hid hba
   have HB2:=hid (step HBI.out hba)
   have HX2:=hid (HXI.out.later hba)
   have HZ2:=hid (HZI.out.later hba)
   have HHX:=HX2.out
   obtain⟨r0,r5⟩:=HCC.out _ HB2.out
   obtain⟨m0,m1,m2,m3,m4,m5⟩:=HHX.c
   have mf:=HHX.fz
   have HPX:=hid (HHX.put ⟨x.bat,x.ua,x.uc⟩)
   have HPB:=hid (below_putV6 HB2.out (show w.heap.size<=w.heap.size+1 by omega) ⟨x.bat,x.ua,x.uc⟩)
   have HPZ:=hid (HZ2.out.gr (grown_putV6 _ (w.heap.size+1) ⟨x.bat,x.ua,x.uc⟩) (by omega))
   have HCP:Hid (∀wx,Below w.heap.size w wx->wx.cell? ⟨b,o+j*6,none⟩=some (.int .i64 pw)):=hid (fun wx hb=>(HCC.out wx hb).1)
   have hnb: ¬b=w.heap.size+1:=by omega
   have hnb2: ¬w.heap.size+1=b:=by omega
   have hnw: ¬wr.heap.size=w.heap.size+1:=by have:=HXI.out.lt;omega
   have hnw2: ¬w.heap.size+1=wr.heap.size:=by have:=HXI.out.lt;omega
   have HYES:=hid (fun h1 h2=>htv.trans (stepT_yes (t:=t) (who:=pw) (s:=⟨XI.bat,BI,FI⟩) (v:=x.val) h1 h2))
   have HNO:=hid (fun h=>htv.trans (stepT_no (t:=t) (who:=pw) (s:=⟨XI.bat,BI,FI⟩) (v:=x.val) h))
   clear htv hba hrr HHX
   obtain⟨xs,xb,⟨xf,xv,xtv,xts,xt,xr⟩,xa,xc⟩:=x
   unfold cellsV VoteC.u at HB2 HX2 HZ2 HBA y0 y1 y2 y3 y4 y5 y6 y7 r0 r5 m0 m1 m2 m3 m4 m5 mf HPX HPB HPZ
   unfold putV6 BatC.u at HPX HPB HPZ
   unfold VoteC.u at q7
   unfold VoteC.val at HYES HNO
   dsimp only at q0 q1 q2 q3 q4 q5 q6 q7 HB2 HX2 HZ2 HBA y0 y1 y2 y3 y4 y5 y6 y7 r0 r5 m0 m1 m2 m3 m4 m5 HPX HPB HPZ HYES HNO HRX2
   obtain⟨xn,hxn⟩: ∃xn,xr.length=xn:=⟨_,rfl⟩
   have HXN:=hid hxn
   rw[hxn] at q7 HB2 HX2 HZ2 HBA y0 y1 y2 y3 y4 y5 y6 y7 r0 r5 m0 m1 m2 m3 m4 m5 mf HPX HPB HPZ
   clear hxn
   have e5:=m5
   by_cases c1:xs=t
   case neg=>
    have d1:(xs==t)=false:=by simpa using c1
    have HN2:=hid (HNO.out (fun q=>c1 q.1))
    clear HNO HYES c1
    go_wp2
    go_roundw
    case rel=>exact⟨k+1,BI,FI,XI,by omega,by go_num,rfl,rfl,HB2,HX2,HZ2,HRI,HN2⟩
    case measure=>simp [intOf];omega
   have d1:(xs==t)=true:=by simpa using c1
   by_cases c2:BI<xb
   case pos=>
    have d2:decide (BI<xb)=true:=decide_eq_true c2
    have c2':=hid c2
    clear c2
    have HN2:=hid (HYES.out c1 (.inl c2'.out))
    clear HNO HYES c1
    go_wp2
    go_roundw
    case rel=>exact⟨k+1,xb,pw,⟨⟨xf,xv,xtv,xts,xt,xr⟩,xa,xc⟩,by omega,by go_num,rfl,rfl,HPB,HPX,HPZ,HRX2,HN2⟩
    case measure=>simp [intOf];omega
   have d2:decide (BI<xb)=false:=decide_eq_false c2
   by_cases c3:xb=BI
   case neg=>
    have d3:(xb==BI)=false:=by simpa using c3
    have HN2:=hid (HNO.out (fun q=>q.2.elim (fun r=>c2 r) (fun r=>c3 r.1)))
    clear HNO HYES c1 c2 c3
    go_wp2
    go_roundw
    case rel=>exact⟨k+1,BI,FI,XI,by omega,by go_num,rfl,rfl,HB2,HX2,HZ2,HRI,HN2⟩
    case measure=>simp [intOf];omega
   have d3:(xb==BI)=true:=by simpa using c3
   by_cases c4:pw<FI
   case pos=>
    have d4:decide (pw<FI)=true:=decide_eq_true c4
    have HN2:=hid (HYES.out c1 (.inr ⟨c3,c4⟩))
    clear HNO HYES c1 c2 c3 c4
    go_wp2
    go_roundw
    case rel=>exact⟨k+1,xb,pw,⟨⟨xf,xv,xtv,xts,xt,xr⟩,xa,xc⟩,by omega,by go_num,rfl,rfl,HPB,HPX,HPZ,HRX2,HN2⟩
    case measure=>simp [intOf];omega
   have d4:decide (pw<FI)=false:=decide_eq_false c4
   have HN2:=hid (HNO.out (fun q=>q.2.elim (fun r=>c2 r) (fun r=>c4 r.2)))
   clear HNO HYES c1 c2 c3 c4
   go_wp2
   go_roundw
   case rel=>exact⟨k+1,BI,FI,XI,by omega,by go_num,rfl,rfl,HB2,HX2,HZ2,HRI,HN2⟩
   case measure=>simp [intOf];omega
end Pl
end Go.Proofs.Ytbpmfjjbfiiiaaa

/- The document's plan, as a plain function; it is the program's. No program is named here. -/
set_option linter.unusedVariables false
set_option maxRecDepth 8000
set_option linter.unusedSimpArgs false
namespace Go.Proofs.Ytbpmfjjbfiiiaaa
open Lib (hid)
open Go.RowKit
namespace Pl
open Cm Ac

def pickP (a x:PromV):PromV:=if a.done<x.done\/x.done=a.done/\x.who<a.who then x else a
def bestR (p:PromV):List PromV->PromV
 | []=>p
 | x::l=>bestR (pickP p x) l
theorem bestR_step (p:PromV) (l:List PromV) (i:Nat) (h:i<l.length):bestR p (l.drop i)=bestR (pickP p l[i]) (l.drop (i+1)):=by
 rw[List.drop_eq_getElem_cons h,bestR]
theorem pickP_most (a x:PromV):a.done<=(pickP a x).done /\x.done<=(pickP a x).done :=by
 unfold pickP
 split
 ·rename_i h
  rcases h with h | h<;>omega
 ·rename_i h
  have: ¬a.done<x.done:=fun q=>h (.inl q)
  omega
theorem bestR_most: ∀(l:List PromV) (p x:PromV),x∈p::l->x.done<=(bestR p l).done
 | [],p,x,h=>by
  rw[List.mem_singleton] at h
  rw[h]
  exact Int.le_refl _
 | y::l,p,x,h=>by
  rw[bestR]
  rcases List.mem_cons.1 h with rfl | h
  ·exact Int.le_trans (pickP_most _ _).1 (bestR_most l _ _ List.mem_cons_self)
  ·rcases List.mem_cons.1 h with rfl | h
   ·exact Int.le_trans (pickP_most _ _).2 (bestR_most l _ _ List.mem_cons_self)
   ·exact bestR_most l _ x (List.mem_cons_of_mem _ h)
def endM (m:Int) (p:PromV):Int:=match p.votes.getLast? with
 | none=>m
 | some v=>max m v.slot
def lastR (d:Int) (l:List PromV):Int:=l.foldl endM d
theorem lastR_take (d:Int) (l:List PromV) (i:Nat) (h:i<l.length):lastR d (l.take (i+1))=endM (lastR d (l.take i)) l[i]:=by
 unfold lastR
 rw[List.take_succ_eq_append_getElem h,List.foldl_append]
 rfl
def batsR (l:List PromV) (d:Int) (n:Nat):List BatV:=(List.range n).map fun i:Nat=>highR l (d+1+(i:Int))
theorem batsR_succ (l:List PromV) (d:Int) (n:Nat):batsR l d (n+1)=batsR l d n++ [highR l (d+1+(n:Int))]:=by
 unfold batsR
 rw[List.range_succ,List.map_append]
 rfl
def planR (l:List PromV):PlanV:=
 match l with
 | []=>zeroL
 | p::r=>
  let x:=bestR p r
  let b:=batsR l x.done (lastR x.done l - x.done).toNat
  let e:=walkF ⟨x.tv,x.ts,x.time⟩ (startF (x.done+1)) b
  ⟨x.done,x.tv,x.ts,x.time,b,e.tv,e.ts,e.time⟩
def makeR (l:List PromV):PlanV × Int:=
 if l.length=0 then (zeroL,6) else if okS [] l=false then (zeroL,1) else (planR l,0)
theorem endM_some (m:Int) (p:PromV) (n:Nat) (h:p.votes.length=n+1) (h':n<p.votes.length):endM m p=max m p.votes[n].slot :=by
 unfold endM
 rw[List.getLast?_eq_getElem?,h,Nat.add_sub_cancel,List.getElem?_eq_getElem h']
theorem endM_none (m:Int) (p:PromV) (h:p.votes.length=0):endM m p=m:=by
 unfold endM
 rw[List.length_eq_zero_iff.1 h]
 rfl
theorem lastR_bound (d hi:Int): ∀(l:List PromV),d<=hi->(∀p∈l,∀v∈p.votes,v.slot<=hi)-> ∀m,d<=m->m<=hi->d<=l.foldl endM m/\l.foldl endM m<=hi
 | [],_,_,m,h1,h2=>⟨h1,h2⟩
 | p::l,hd,h,m,h1,h2=>by
  rw[List.foldl_cons]
  refine lastR_bound d hi l hd (fun q hq=>h q (List.mem_cons_of_mem _ hq)) _ ?_ ?_
  ·unfold endM
   split<;>omega
  ·unfold endM
   split
   ·exact h2
   ·rename_i v hv
    have:=h p List.mem_cons_self v (List.mem_of_getLast? hv)
    omega
end Pl
end Go.Proofs.Ytbpmfjjbfiiiaaa
