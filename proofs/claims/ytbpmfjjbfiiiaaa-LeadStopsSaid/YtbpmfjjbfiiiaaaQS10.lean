/- Texts laid together by program. -/
import Derived.Test.YtbpmfjjbfiiiaaaQS9
import Derived.Lib.QuietBelow
/- Contract of package plan's batches. -/
set_option linter.unusedVariables false
set_option maxRecDepth 8000
set_option linter.unusedSimpArgs false
namespace Go.Proofs.Ytbpmfjjbfiiiaaa
open Lib (hid)
open Go.RowKit
namespace Pl
open Cm Ac

def zero9:List VoteC:=List.replicate 9 zeroC
theorem zeroBest:(Try.prog.info? 120).map (fun i=>i.zero)=some (some (.agg (flatX cellsV zero9).toArray)):=by kernel_rfl
theorem flat8P (M:List VoteC) (p:Nat) (hp:p<M.length) (y:VoteC) (a b c d e f g h:Value) (hy:cellsV y= [a,b,c,d,e,f,g,h]):
  ((((((((flatX cellsV M).set (p*8) a).set (p*8+1) b).set (p*8+2) c).set (p*8+3) d).set (p*8+4) e).set (p*8+5) f).set (p*8+6) g).set (p*8+7) h=flatX cellsV (M.set p y):=by
 have e1:flatX cellsV M=flatX cellsV (M.take p)++(cellsV M[p]++flatX cellsV (M.drop (p+1))):=by
  rw[<-flatX_cons,<-flatX_append,<-List.drop_eq_getElem_cons hp,List.take_append_drop]
 have e2:M.set p y=M.take p++y::M.drop (p+1):=by rw[List.set_eq_take_append_cons_drop,if_pos hp]
 have hl:(flatX cellsV (M.take p)).length =p*8:=by rw[flatX_length cellsV_length];simp;omega
 rw[e1,e2,flatX_append,flatX_cons,hy]
 obtain⟨y0,y1,y2,y3,y4,y5,y6,y7,hq⟩: ∃y0 y1 y2 y3 y4 y5 y6 y7,cellsV M[p]= [y0,y1,y2,y3,y4,y5,y6,y7]:=⟨_,_,_,_,_,_,_,_,rfl⟩
 rw[hq]
 generalize flatX cellsV (M.take p)=A at hl ⊢
 generalize flatX cellsV (M.drop (p+1))=B
 generalize p*8=q at hl ⊢
 subst hl
 simp [List.set_append]
structure HasBest (w:World) (g:Nat) (M:List VoteC):Prop where
 ex:w.heap[g]?=some (.cells (flatX cellsV M).toArray 120)
section
variable {w w' : World} {g : Nat} {M : List VoteC}
theorem HasBest.lt (h:HasBest w g M):g<w.heap.size:=get_ltB h.ex
theorem HasBest.later (h:HasBest w g M) (hb:Below w.heap.size w w'):HasBest w' g M:=⟨cells_later h.ex hb⟩
theorem HasBest.cell (h:HasBest w g M) (i:Nat) (hi:i<M.length) (k:Nat) (hk:k<8) (u:Value) (hu:(cellsV M[i])[k]?=some u):w.cell? ⟨g,i*8+k,none⟩=some u:=by
 rw[cell_at h.ex]
 rw[<-flatX_get cellsV_length M i hi k hk] at hu
 rw[List.getElem?_toArray]
 exact hu
theorem HasBest.cells (h:HasBest w g M) (i:Nat) (hi:i<M.length):
  w.cell? ⟨g,i*8,none⟩=some (.int .i64 M[i].slot)/\w.cell? ⟨g,i*8+1,none⟩=some (.int .i64 M[i].ballot)/\w.cell? ⟨g,i*8+2,none⟩=some (.bool M[i].bat.fill)/\w.cell? ⟨g,i*8+3,none⟩=some (.int .i64 M[i].bat.view)/\w.cell? ⟨g,i*8+4,none⟩=some (.int .i64 M[i].bat.tv)/\w.cell? ⟨g,i*8+5,none⟩=some (.int .i64 M[i].bat.ts)/\w.cell? ⟨g,i*8+6,none⟩=some (.int .i64 M[i].bat.time)/\w.cell? ⟨g,i*8+7,none⟩=some M[i].u :=
 ⟨h.cell i hi 0 (by decide) _ rfl,h.cell i hi 1 (by decide) _ rfl,h.cell i hi 2 (by decide) _ rfl,h.cell i hi 3 (by decide) _ rfl,h.cell i hi 4 (by decide) _ rfl,h.cell i hi 5 (by decide) _ rfl,h.cell i hi 6 (by decide) _ rfl,h.cell i hi 7 (by decide) _ rfl⟩
theorem HasBest.f (h:HasBest w g M) (k:Nat):w.frozen? ⟨g,k,none⟩=false:=frozen_at h.ex k
def set8P (w:World) (g o:Nat) (y:VoteC):World:=(((((((w.setCell ⟨g,o,none⟩ (.int .i64 y.slot)).setCell ⟨g,o+1,none⟩ (.int .i64 y.ballot)).setCell ⟨g,o+2,none⟩ (.bool y.bat.fill)).setCell ⟨g,o+3,none⟩ (.int .i64 y.bat.view)).setCell ⟨g,o+4,none⟩ (.int .i64 y.bat.tv)).setCell ⟨g,o+5,none⟩ (.int .i64 y.bat.ts)).setCell ⟨g,o+6,none⟩ (.int .i64 y.bat.time)).setCell ⟨g,o+7,none⟩ y.u
theorem HasBest.put (h:HasBest w g M) (p:Nat) (hp:p<M.length) (y:VoteC):HasBest (set8P w g (p*8) y) g (M.set p y):=by
 refine⟨?_⟩
 unfold set8P
 rw[set_atB (set_atB (set_atB (set_atB (set_atB (set_atB (set_atB (set_atB h.ex _ _) _ _) _ _) _ _) _ _) _ _) _ _) _ _]
 simp only[List.setIfInBounds_toArray]
 rw[flat8P M p hp y _ _ _ _ _ _ _ _ rfl]
theorem below_set8P {B:Nat} {a:World} (h:Below B a w) (hb:B<=g) (o:Nat) (y:VoteC):Below B a (set8P w g o y):=
 (((((((h.setCell (p:=⟨g,_,none⟩) hb _).setCell (p:=⟨g,_,none⟩) hb _).setCell (p:=⟨g,_,none⟩) hb _).setCell (p:=⟨g,_,none⟩) hb _).setCell (p:=⟨g,_,none⟩) hb _).setCell (p:=⟨g,_,none⟩) hb _).setCell (p:=⟨g,_,none⟩) hb _).setCell (p:=⟨g,_,none⟩) hb _
end

structure BestW (w:World) (M:List VoteC) (c:Nat):Prop where
 len:M.length=9
 cnt:c<=9
 reqs: ∀x∈M,RdR w x.u x.bat.reqs
 few: ∀x∈M,x.bat.reqs.length<=1000
theorem BestW.start (w:World):BestW w zero9 0:=
 ⟨rfl,by omega,fun x hx=>by rw[(List.mem_replicate.1 hx).2];exact RdX.nil w,fun x hx=>by rw[(List.mem_replicate.1 hx).2];decide⟩
theorem BestW.put {w:World} {M:List VoteC} {c:Nat} (h:BestW w M c) (p:Nat) (y:VoteC) (c':Nat) (hc:c'<=9) (hr:RdR w y.u y.bat.reqs) (hf:y.bat.reqs.length<=1000):BestW w (M.set p y) c':=
 ⟨by rw[List.length_set];exact h.len,hc,fun x hx=>by
  rcases List.mem_or_eq_of_mem_set hx with q | q
  ·exact h.reqs x q
  ·rw[q];exact hr,fun x hx=>by
  rcases List.mem_or_eq_of_mem_set hx with q | q
  ·exact h.few x q
  ·rw[q];exact hf⟩
theorem stepB_out {d:Int} {s:BestV} {v:VoteV} (h: ¬0<=v.slot - d - 1):stepB d s v=s:=by
 unfold stepB
 rw[if_neg (fun q=>h q.1)]
theorem stepB_not {d:Int} {s:BestV} {v:VoteV} {n:Nat} (hn:v.slot - d - 1=(n:Int)) (h:better v (s.row.getD n zeroV)=false):stepB d s v=s:=by
 unfold stepB
 rw[hn,Int.toNat_natCast,if_neg (fun q=>by rw[h] at q;exact Bool.false_ne_true q.2)]
theorem stepB_yes {d:Int} {s:BestV} {v:VoteV} {n:Nat} (hn:v.slot - d - 1=(n:Int)) (h:better v (s.row.getD n zeroV)=true):stepB d s v=⟨s.row.set n v,max s.count (v.slot - d)⟩:=by
 unfold stepB
 rw[hn,Int.toNat_natCast,if_pos ⟨by omega,h⟩]
theorem votesB_take (d:Int) (s:BestV) (l:List VoteV) (i:Nat) (h:i<l.length):votesB d s (l.take (i+1))=stepB d (votesB d s (l.take i)) l[i]:=by
 unfold votesB
 rw[List.take_succ_eq_append_getElem h,List.foldl_append]
 rfl
theorem bestB_take (d:Int) (s:BestV) (l:List PromV) (i:Nat) (h:i<l.length):bestB d s (l.take (i+1))=votesB d (bestB d s (l.take i)) l[i].votes :=by
 unfold bestB
 rw[List.take_succ_eq_append_getElem h,List.foldl_append]
 rfl
theorem valsV_getD (M:List VoteC) (n:Nat) (h:n<M.length):(valsV M).getD n zeroV=M[n].val :=by
 have h':n<(valsV M).length :=by rw[valsV_length];exact h
 rw[List.getD_eq_getElem?_getD,List.getElem?_eq_getElem h',Option.getD_some,valsV_get M n h h']
theorem mem_get {α:Type} {l:List α} {i:Nat} (h:i<l.length):l[i]∈l:=List.getElem_mem h
theorem infoBat:(Try.prog.info? 42).map (fun i=>(i.zero,i.size,i.bytes))=some (some (.agg #[.bool false,.int .i64 0,.int .i64 0,.int .i64 0,.int .i64 0,.slice none 0 0]),6,64):=by kernel_rfl
structure OwnBs (base:Nat) (w:World) (v:Value) (L:List BatC):Prop where
 row:w.ownsRow base 42 6 v L.length (flatX cellsB L)
 reqs: ∀x∈L,OwnQ base w x
theorem OwnBs.nil (base:Nat) (w:World):OwnBs base w (.slice none 0 0) []:=⟨World.ownsRow_nil _ _ _ _,fun x hx=>by cases hx⟩
theorem OwnBs.rd {base:Nat} {w:World} {v:Value} {L:List BatC} (h:OwnBs base w v L):RdB w v L:=⟨RdX.own cellsB_length h.row,fun x hx=>(h.reqs x hx).rd⟩
theorem OwnBs.later {base:Nat} {w w':World} {v:Value} {L:List BatC} (h:OwnBs base w v L) (hb:Below w.heap.size w w'):OwnBs base w' v L:=⟨Rw.own_below h.row hb,fun x hx=>(h.reqs x hx).later hb⟩
theorem OwnBs.lower {base base':Nat} {w:World} {v:Value} {L:List BatC} (h:OwnBs base w v L) (hb:base'<=base):OwnBs base' w v L:=⟨own_lowerX h.row hb,fun x hx=>own_lowerX (h.reqs x hx) hb⟩
theorem OwnBs.push {base base':Nat} {wr w3 w6:World} {m v':Value} {L:List BatC} {x:BatC} (h:OwnBs base wr m L) (hb:Below wr.heap.size wr w3)
  (hl:OwnQ base' w3 x) (hbs:base<=base') (hg:w3.grownBy w6 m.ownBlock) (ho:w6.ownsRow base 42 6 v' (L++ [x]).length (flatX cellsB (L++ [x]))):OwnBs base w6 v' (L++ [x]):=by
 have hm:=(h.later hb).row
 refine⟨ho,fun y hy=>?_⟩
 rcases List.mem_append.1 hy with q | q
 ·have hy':=(h.later hb).reqs y q
  exact Rw.own_other hy' hg (own_typesD hm hy' (by decide))
 ·rw[List.mem_singleton] at q
  subst q
  exact own_lowerX (Rw.own_other hl hg (own_typesD hm hl (by decide))) hbs
def FitV (d:Int) (x:VoteC):Prop:=1<=x.slot/\x.slot<=2305843009213693952/\x.slot<=d+9/\x.bat.reqs.length<=1000
theorem ho_ne {w:World} {base n g:Nat} {v:Value} {xs:List Value} {cs:Array Value} {e t:TypeId} {sz:Nat} (ho:w.ownsRow base e sz v n xs) (hg:w.heap[g]?=some (.cells cs t)) (hne:e≠t:=by decide):v.ownBlock≠some g:=by
 intro q
 rcases ho.2 with ⟨rfl,_⟩ | ⟨g1,cap,cur,rfl,_,q1,_⟩
 ·cases q
 have r1:g1=g:=by simpa [Value.ownBlock] using q
 subst r1
 rw[q1] at hg
 injection hg with hg
 injection hg with _ hg
 exact hne hg
def GivesBs (l:List PromV) (d:Int) (w:World) (e:Ending) (w':World):Prop:=
 ∃va,∃vc,∃Lb:List BatC,e= .returned (.slice va Lb.length vc)/\valsB Lb=batsF l d/\OwnBs w.heap.size w' (.slice va Lb.length vc) Lb/\Below w.heap.size w w'
set_option maxHeartbeats 16000000 in
theorem batches_any (v:Value) (L:List PromC) (d:Int) (w:World) (h:RdP w v L) (hd0:0<=d) (hd1:d<=2305843009213693952) (hf: ∀p∈L,∀x∈p.votes,FitV d x):
  Calls Try.prog 66 #[v,.int .i64 d] w (GivesBs (valsP L) d w):=by
 have hz:=fun w=>run_zero zeroBest w
 have hm:=h.row.len
 have hl0:=valsP_length L
 obtain⟨a,cap,rfl⟩:=h.form
 obtain⟨_,_,hv,hlc,hcm, -⟩:=h.row.ex
 cases hv
 have HA:=hid (fun i hi=>rdp_at h.row i hi)
 have HR:=hid h.votes
 have HF:=hid hf
 have HG:=hid (fun i (hi:i<L.length) hi'=>valsP_get L i hi hi')
 have HD0:=hid hd0
 have HD1:=hid hd1
 have HTK:=hid (fun i hi=>bestB_take d newB (valsP L) i hi)
 have HEND:=hid (show(valsP L).take L.length=valsP L by rw[<-hl0];exact List.take_length)
 clear h hf hd0 hd1
 unfold GivesBs batsF
 generalize valsP L=V at HG HTK HEND hl0 ⊢
 obtain⟨N,hn⟩: ∃N,L.length=N:=⟨_,rfl⟩
 have HN:=hid hn
 rw[hn] at hm hlc hl0 HEND ⊢
 have HV:=hid hl0
 clear hn hl0
 have H0:Hid (HasBest (w.alloc (.cells (flatX cellsV zero9).toArray 120)) w.heap.size zero9):=hid ⟨alloc_atB w _ _ rfl⟩
 have HB0:=hid (newAlloc w (.cells (flatX cellsV zero9).toArray 120))
 go_enter Try.func66,Try.ntmps66
 go_upto_region 2 with fail
 generalize w.alloc (.cells (flatX cellsV zero9).toArray 120)=W at H0 HB0 ⊢
 clear hz
 go_wp2
 go_loopw [6,8,10,11,17] (fun c _ _ _ i wr=> ∃(j cn:Nat) (M:List VoteC),j<=N/\i= .int .i64 (j:Int)/\c= .int .i64 (cn:Int)/\Hid (Below w.heap.size w wr)/\Hid (HasBest wr w.heap.size M)/\Hid (BestW w M cn)/\Hid (bestB d newB (V.take j)=⟨valsV M,(cn:Int)⟩)) (fun _ _ _ _ i _=>N - (intOf i).toNat)
 case atStart=>exact⟨0,0,zero9,by omega,rfl,rfl,HB0,H0,hid (BestW.start w),hid (by simp [bestB,newB,valsV,zero9,zeroC,VoteC.val,zeroV])⟩
 case round=>
  obtain⟨j,cn,M,hj,rfl,rfl,HB,HM,HW,HS⟩:=hrel
  by_cases hlt:j<N
  case neg=>
   obtain rfl:j=N:=by omega
   have HFIN:Hid (bestB d newB V=⟨valsV M,(cn:Int)⟩):=hid (by rw[<-HEND.out];exact HS.out)
   have hc9:=HW.out.cnt
   have hcm9:cn<=M.length:=by rw[HW.out.len];exact hc9
   have HCM:=hid hcm9
   have c0:(0:Int)<=(cn:Int):=by omega
   have c9:(cn:Int)<=9:=by omega
   obtain⟨i6,hi6,h60,h61,h62⟩:=info_partsP infoBat
   clear hcm9 HS
   obtain⟨wo,rfl⟩: ∃wo,wo=wr:=⟨_,rfl⟩
   go_wp2
   go_loopw [12,14,54] (fun r _ i wr=> ∃(k:Nat) (va:Option Addr) (vc:Nat) (Lb:List BatC),k<=cn/\i= .int .i64 (k:Int)/\Lb.length=k/\r= .slice va k vc/\Hid (valsB Lb=((valsV M).take k).map batOf)/\Hid (OwnBs w.heap.size wr (.slice va k vc) Lb)/\Hid (HasBest wr w.heap.size M)/\Hid (Below w.heap.size w wr)) (fun _ _ i _=>cn - (intOf i).toNat)
   case atStart=>exact⟨0,none,0,[],by omega,rfl,rfl,rfl,hid rfl,hid (OwnBs.nil _ _),HM,HB⟩
   case round=>
    obtain⟨k,va,vc,Lb,hk,rfl,hLb,rfl,HVB,HO,HMR,HBR⟩:=hrel
    by_cases hlk:k<cn
    case neg=>
     obtain rfl:k=cn:=by omega
     have HRES:Hid (valsB Lb=((bestB d newB V).row.take (bestB d newB V).count.toNat).map batOf):=hid (by rw[HFIN.out];show _=((valsV M).take ((k:Int).toNat)).map batOf;rw[Int.toNat_natCast];exact HVB.out)
     go_wp2
     go_ret
     exact⟨va,vc,Lb,by rw[hLb];rfl,HRES.out,by rw[hLb];exact HO.out,HBR.out⟩
    have hkM:k<M.length:=by have:=HCM.out;omega
    obtain⟨p0,p1,p2,p3,p4,p5,p6,p7⟩:=HMR.out.cells k hkM
    have hrq:=HW.out.reqs M[k] (mem_get hkM)
    have hfw:=HW.out.few M[k] (mem_get hkM)
    have htk:(valsV M).take (k+1)=(valsV M).take k++ [M[k].val]:=by
     have h':k<(valsV M).length :=by rw[valsV_length];exact hkM
     rw[List.take_succ_eq_append_getElem h',valsV_get M k hkM h']
    obtain⟨x,hx⟩: ∃x,M[k]=x:=⟨_,rfl⟩
    rw[hx] at p0 p1 p2 p3 p4 p5 p6 p7 hrq hfw htk
    have HTK2:Hid (((valsV M).take (k+1)).map batOf=((valsV M).take k).map batOf++ [batOf x.val]):=hid (by rw[htk];simp)
    have HRX:=hid hrq
    have HFX:=hid hfw
    have HLb:=hid hLb
    have hk0:(0:Int)<=(k:Int):=by omega
    have hk1:(k:Int)<(cn:Int):=by omega
    clear hx hkM hrq hfw htk hLb
    have hba:=newAlloc wr (.cells (cellsV x).toArray 48)
    obtain⟨y0,y1,y2,y3,y4,y5,y6,y7⟩:=box8p (x0:=.int .i64 x.slot) (x1:=.int .i64 x.ballot) (x2:=.bool x.bat.fill) (x3:=.int .i64 x.bat.view) (x4:=.int .i64 x.bat.tv) (x5:=.int .i64 x.bat.ts) (x6:=.int .i64 x.bat.time) (x7:=x.u) (Below.refl _ (wr.alloc (.cells (cellsV x).toArray 48)))
    have HBA:=hid hba
    have HB2:=hid (step HBR.out hba)
    have HM2:=hid (HMR.out.later hba)
    have HO2:=hid (HO.out.later hba)
    have CO:=hid (batchOf_any x (wr.alloc (.cells (cellsV x).toArray 48)) (HRX.out.later HB2.out) HFX.out)
    clear hba HRX HFX
    generalize batOf x.val=bx at CO HTK2
    obtain⟨xs,xb,⟨xf,xv,xtv,xts,xt,xr⟩,xa,xc⟩:=x
    unfold cellsV VoteC.u at HB2 HM2 HBA HO2 y0 y1 y2 y3 y4 y5 y6 y7 CO
    unfold VoteC.u at p7
    unfold voteVal VoteC.u at CO
    dsimp only at p0 p1 p2 p3 p4 p5 p6 p7 HB2 HM2 HBA HO2 y0 y1 y2 y3 y4 y5 y6 y7 CO
    go_upto_region 19 with fail
    generalize wr.alloc (.cells #[.int .i64 xs,.int .i64 xb,.bool xf,.int .i64 xv,.int .i64 xtv,.int .i64 xts,.int .i64 xt,.slice xa xr.length xc] 48)=W2 at HB2 HM2 HBA HO2 y0 y1 y2 y3 y4 y5 y6 y7 CO ⊢
    clear p0 p1 p2 p3 p4 p5 p6 p7 HO HMR
    have hb2:=HB2.out.size
    go_wp2_with (first
     | (go_at_call 76;refine CO.out.mono ?_;rintro e W3 ⟨⟨⟨zf,zv,ztv,zts,zt,zr⟩,za,zc⟩,rfl,hy,hoy,hb⟩;have HY:=hid hy;have HOY:=hid hoy;have HB3:=hid hb;have HO3:=hid (HO2.out.later hb);have HM3:=hid (by have q:=HO3.out.row;rw[HLb.out] at q;exact q:Hid (W3.ownsRow w.heap.size 42 6 (.slice va k vc) k (flatX cellsB Lb))).out;have hb3:=hb.size;clear hy hoy hb;unfold batVal BatC.u;dsimp only)
     | (at_builtin;refine wpList_append_grD cellsB_length (by omega) rfl _ _ 29 rfl 42 i6 _ 64 Try.underlying29 hi6 h60 h61 h62 rfl #[.bool zf,.int .i64 zv,.int .i64 ztv,.int .i64 zts,.int .i64 zt,.slice za zr.length zc] (⟨⟨zf,zv,ztv,zts,zt,zr⟩,za,zc⟩:BatC) rfl (cellsB_one _) Lb w.heap.size (.slice va k vc) rfl rfl HO3.out.row (by have:=HLb.out;unfold maxLen;omega) (by have:=HLb.out;omega) (by omega) ?_;intro v6 w6 ho6 hg6 _;have HO6:Hid (OwnBs w.heap.size w6 v6 (Lb++ [⟨⟨zf,zv,ztv,zts,zt,zr⟩,za,zc⟩])):=hid (HO2.out.push (x:=⟨⟨zf,zv,ztv,zts,zt,zr⟩,za,zc⟩) (stepAlloc HB3.out _) (Rw.own_alloc HOY.out _) (by omega) hg6 ho6);have HB6:Hid (Below w.heap.size w w6):=hid ((step HB2.out (stepAlloc HB3.out _)).grown hg6 (by simp;omega) (fun g hg=>(Rw.own_lt HO3.out.row g hg).1));have HM6:Hid (HasBest w6 w.heap.size M):=hid ⟨(hg6.block _ (by have:=HM2.out.lt;simp;omega) (fun q=>by have:=ho_ne HO3.out.row (HM2.out.later HB3.out).ex;exact this q.symm)).trans ((HM2.out.later (stepAlloc HB3.out _)).ex)⟩;obtain⟨ga,gc,rfl⟩:=Rw.own_form ho6;clear ho6 hg6))
    go_roundw
    case rel=>exact⟨k+1,_,_,Lb++ [⟨⟨zf,zv,ztv,zts,zt,zr⟩,za,zc⟩],by omega,by go_num,by simp [HLb.out],by rw[HLb.out],hid (by rw[valsB_snoc,HVB.out,HTK2.out,<-HY.out]),hid (by have q:=HO6.out;rw[List.length_append,HLb.out] at q;exact q),HM6,HB6⟩
    case measure=>simp [intOf];omega
  have hjl:j<L.length:=by rw[HN.out];exact hlt
  have hjv:j<V.length:=by rw[HV.out];exact hlt
  obtain⟨b,o,rfl,hc⟩:=HA.out j hjl
  obtain⟨q0,q1,q2,q3,q4,q5⟩:=hc _ HB.out
  have htk:=HTK.out j hjv
  rw[HG.out j hjl hjv,HS.out] at htk
  have hr:=HR.out L[j] (mem_get hjl)
  have hf:=HF.out L[j] (mem_get hjl)
  obtain⟨p,hp⟩: ∃p,L[j]=p:=⟨_,rfl⟩
  rw[hp] at q0 q1 q2 q3 q4 q5 htk hr hf
  clear hc hp
  obtain⟨pw,pd,pv,ps,pt,l,pa,pc⟩:=p
  unfold PromC.u at hr q5
  unfold PromC.val at htk
  dsimp only at q0 q1 q2 q3 q4 q5 htk hr hf
  have HRV:=hid (fun i hi=>rdv_at hr.row i hi)
  have HRR:=hid hr.reqs
  have hml:=hr.len
  obtain⟨_,_,hv,hlc2,hcm2, -⟩:=hr.row.ex
  cases hv
  have HFF:=hid hf
  have HTV:=hid (fun i hi=>votesB_take d ⟨valsV M,(cn:Int)⟩ (valsV l) i hi)
  have HGV:=hid (fun i (hi:i<l.length) hi'=>valsV_get l i hi hi')
  have hvl:=valsV_length l
  have HTE:Hid (bestB d newB (V.take (j+1))=votesB d ⟨valsV M,(cn:Int)⟩ ((valsV l).take l.length)):=hid (by rw[htk,<-hvl,List.take_length])
  generalize valsV l=VL at HTV HGV hvl HTE
  obtain⟨K,hk⟩: ∃K,l.length=K:=⟨_,rfl⟩
  have HK:=hid hk
  rw[hk] at hml hlc2 hvl HTE q5
  have HVK:=hid hvl
  clear hk hvl hr hf htk hjl hjv
  have hj0:(0:Int)<=(j:Int):=by omega
  have hj1:(j:Int)<(N:Int):=by omega
  have hbx:=newAlloc wr (.cells #[.int .i64 pw,.int .i64 pd,.int .i64 pv,.int .i64 ps,.int .i64 pt,.slice pa K pc] 59)
  obtain⟨m0,m1,m2,m3,m4,m5⟩:=box6p (Below.refl _ (wr.alloc (.cells #[.int .i64 pw,.int .i64 pd,.int .i64 pv,.int .i64 ps,.int .i64 pt,.slice pa K pc] 59)))
  have HB1:=hid (step HB.out hbx)
  have HM1:=hid (HM.out.later hbx)
  go_upto_region 6 with fail
  generalize wr.alloc (.cells #[.int .i64 pw,.int .i64 pd,.int .i64 pv,.int .i64 ps,.int .i64 pt,.slice pa K pc] 59)=W1 at m0 m1 m2 m3 m4 m5 HB1 HM1 ⊢
  clear hbx
  have HS1:Hid (votesB d ⟨valsV M,(cn:Int)⟩ (VL.take 0)=⟨valsV M,(cn:Int)⟩):=hid rfl
  clear HS HM HB q0 q1 q2 q3 q4 q5
  generalize hM0:(⟨valsV M,(cn:Int)⟩:BestV)=S0 at HTV HTE HS1
  obtain⟨wo,rfl⟩: ∃wo,wo=wr:=⟨_,rfl⟩
  rw[<-hM0] at HS1
  have HM0:=hid hM0
  clear hM0
  go_wp2
  clear m0 m1 m2 m3 m4 m5
  go_loopw [6,10,11,24] (fun c _ _ i wr=> ∃(k cn:Nat) (M:List VoteC),k<=K/\i= .int .i64 (k:Int)/\c= .int .i64 (cn:Int)/\Hid (Below w.heap.size w wr)/\Hid (HasBest wr w.heap.size M)/\Hid (BestW w M cn)/\Hid (votesB d S0 (VL.take k)=⟨valsV M,(cn:Int)⟩)) (fun _ _ _ i _=>K - (intOf i).toNat)
  case atStart=>exact⟨0,cn,M,by omega,rfl,rfl,HB1,HM1,HW,hid (by rw[<-HM0.out] at*;exact HS1.out)⟩
  case round=>
   obtain⟨k,ci,Mi,hk,rfl,rfl,HBI,HMI,HWI,HSI⟩:=hrel
   by_cases hlk:k<K
   case neg=>
    obtain rfl:k=K:=by omega
    have HNX:Hid (bestB d newB (V.take (j+1))=⟨valsV Mi,(ci:Int)⟩):=hid (by rw[HTE.out];exact HSI.out)
    go_wp2
    go_roundw
    case rel=>exact⟨j+1,ci,Mi,by omega,by go_num,rfl,HBI,HMI,HWI,HNX⟩
    case measure=>simp [intOf];omega
   have hkl:k<l.length:=by rw[HK.out];exact hlk
   have hkv:k<VL.length:=by rw[HVK.out];exact hlk
   obtain⟨b2,o2,rfl,hc2⟩:=HRV.out k hkl
   obtain⟨q0,q1,q2,q3,q4,q5,q6,q7⟩:=hc2 _ HBI.out
   have htv:=HTV.out k hkv
   rw[HGV.out k hkl hkv,HSI.out] at htv
   have hrr:=HRR.out l[k] (mem_get hkl)
   have hff:=HFF.out l[k] (mem_get hkl)
   obtain⟨x,hx⟩: ∃x,l[k]=x:=⟨_,rfl⟩
   rw[hx] at q0 q1 q2 q3 q4 q5 q6 q7 htv hrr hff
   clear hc2 hx hkl hkv
   obtain⟨f1,f2,f3,f4⟩:=hff
   have HRX:=hid hrr
   have HFX:=hid f4
   have HTX:=hid htv
   have hxs: ∃s,x.slot=s:=⟨_,rfl⟩
   obtain⟨s,hxs⟩:=hxs
   have HXS:=hid hxs
   rw[hxs] at f1 f2 f3
   have e1:IntKind.i64.wrap (s - d)=s - d:=by have:=HD0.out;have:=HD1.out;rw[IntKind.wrap_i64];omega
   have e2:IntKind.i64.wrap (s - d - 1)=s - d - 1:=by have:=HD0.out;have:=HD1.out;rw[IntKind.wrap_i64];omega
   have hk0:(0:Int)<=(k:Int):=by omega
   have hk1:(k:Int)<(K:Int):=by omega
   have hba:=newAlloc wr (.cells (cellsV x).toArray 48)
   obtain⟨y0,y1,y2,y3,y4,y5,y6,y7⟩:=box8p (x0:=.int .i64 x.slot) (x1:=.int .i64 x.ballot) (x2:=.bool x.bat.fill) (x3:=.int .i64 x.bat.view) (x4:=.int .i64 x.bat.tv) (x5:=.int .i64 x.bat.ts) (x6:=.int .i64 x.bat.time) (x7:=x.u) (Below.refl _ (wr.alloc (.cells (cellsV x).toArray 48)))
   have HBA:=hid hba
   have HB2:=hid (step HBI.out hba)
   have HM2:=hid (HMI.out.later hba)
   clear hba
   by_cases hA:0<=s - d - 1
   case neg=>
    have HNO:Hid (votesB d S0 (VL.take (k+1))=⟨valsV Mi,(ci:Int)⟩):=hid (by rw[HTX.out,stepB_out (by show ¬0<=x.slot - d - 1;rw[hxs];exact hA)])
    obtain⟨A,hAA⟩: ∃A,s - d - 1=A:=⟨_,rfl⟩
    rw[hAA] at hA
    have e2':=e2.trans hAA
    have dA:decide (0<=A)=false:=decide_eq_false hA
    clear e2 hAA hA
    clear htv hxs hrr
    obtain⟨xs,xb,⟨xf,xv,xtv,xts,xt,xr⟩,xa,xc⟩:=x
    unfold cellsV VoteC.u at HB2 HM2 HBA y0 y1 y2 y3 y4 y5 y6 y7
    unfold VoteC.u at q7
    dsimp only at q0 q1 q2 q3 q4 q5 q6 q7 HB2 HM2 HBA y0 y1 y2 y3 y4 y5 y6 y7 HXS
    obtain rfl:=HXS.out
    go_upto_region 10 with fail
    go_quiet (fail)
    go_wp2
    go_roundw
    case rel=>exact⟨k+1,ci,Mi,by omega,by go_num,rfl,hid (below_drewB HB2.out nq),hid (HM2.out.later (below_drewB (Below.refl _ _) nq)),HWI,HNO⟩
    case measure=>simp [intOf];omega
   obtain⟨n,hn⟩: ∃n:Nat,s - d - 1=(n:Int):=⟨(s - d - 1).toNat,by omega⟩
   have hn9:n<9:=by omega
   have e2':=e2.trans hn
   have dn:decide ((0:Int)<=(n:Int))=true:=decide_eq_true (by omega)
   have hn0:(0:Int)<=(n:Int):=by omega
   clear e2
   have hnM:n<Mi.length:=by rw[HWI.out.len];exact hn9
   obtain⟨p0,p1,p2,p3,p4,p5,p6,p7⟩:=HM2.out.cells n hnM
   have hny:=stepB_not (d:=d) (s:=⟨valsV Mi,(ci:Int)⟩) (v:=x.val) (n:=n) (by show x.slot - d - 1= _;rw[hxs];exact hn)
   have hye:=stepB_yes (d:=d) (s:=⟨valsV Mi,(ci:Int)⟩) (v:=x.val) (n:=n) (by show x.slot - d - 1= _;rw[hxs];exact hn)
   rw[show(BestV.mk (valsV Mi) (ci:Int)).row.getD n zeroV=Mi[n].val from valsV_getD Mi n hnM,<-htv] at hny hye
   have hpc:=fun(wz:World) (hb:Below (wr.alloc (.cells (cellsV x).toArray 48)).heap.size (wr.alloc (.cells (cellsV x).toArray 48)) wz)=>And.intro ((HM2.out.later hb).cells n hnM) (And.intro (HM2.out.later hb).f ((HM2.out.later hb).put n hnM x))
   obtain⟨y,hy⟩: ∃y,Mi[n]=y:=⟨_,rfl⟩
   rw[hy] at p0 p1 p2 p3 p4 p5 p6 p7 hny hye hpc
   clear hy
   have CB:=hid (fun w=>isBetter_any x y w)
   generalize better x.val y.val=B at CB hny hye
   have HNY:=hid hny
   have HYE:=hid hye
   have HPC:=hid hpc
   have HVS:Hid (valsV (Mi.set n x)=(valsV Mi).set n x.val):=hid (valsV_set Mi n x)
   obtain⟨N1,hN1⟩: ∃N1:Int,(n:Int)+1=N1:=⟨_,rfl⟩
   have e3:IntKind.i64.wrap ((n:Int)+1)=N1:=by rw[IntKind.wrap_i64];omega
   obtain⟨c',hc'⟩: ∃c':Nat,(if (ci:Int)<N1 then N1 else (ci:Int))=(c':Int):=⟨max ci (n+1),by split<;>omega⟩
   have hc9:c'<=9:=by have:=HWI.out.cnt;split at hc'<;>omega
   have HCX:Hid (max (ci:Int) (x.slot - d)=(c':Int)):=hid (by rw[<-hc',max_eq,hxs];omega)
   have HWX:Hid (BestW w (Mi.set n x) c'):=hid (HWI.out.put n x c' hc9 HRX.out HFX.out)
   clear hn hnM hny hye hpc htv hxs hrr hA hN1 hc9
   obtain⟨xs,xb,⟨xf,xv,xtv,xts,xt,xr⟩,xa,xc⟩:=x
   obtain⟨ys,yb,⟨yf,yv,ytv,yts,yt,yr⟩,ya,yc⟩:=y
   unfold cellsV VoteC.u at HB2 HM2 HBA y0 y1 y2 y3 y4 y5 y6 y7 p0 p1 p2 p3 p4 p5 p6 p7
   unfold set8P cellsV VoteC.u at HPC
   unfold VoteC.u at q7
   unfold voteVal VoteC.u at CB
   dsimp only at q0 q1 q2 q3 q4 q5 q6 q7 HB2 HM2 HBA y0 y1 y2 y3 y4 y5 y6 y7 p0 p1 p2 p3 p4 p5 p6 p7 HPC CB HXS
   obtain rfl:=HXS.out
   go_upto_region 10 with fail
   have k0:=cell_regrown y0
   have k1:=cell_regrown y1
   have k2:=cell_regrown y2
   have k3:=cell_regrown y3
   have k4:=cell_regrown y4
   have k5:=cell_regrown y5
   have k6:=cell_regrown y6
   have k7:=cell_regrown y7
   have r0:=cell_regrown p0
   have r1:=cell_regrown p1
   have r2:=cell_regrown p2
   have r3:=cell_regrown p3
   have r4:=cell_regrown p4
   have r5:=cell_regrown p5
   have r6:=cell_regrown p6
   have r7:=cell_regrown p7
   generalize hW2:wr.alloc (.cells #[.int .i64 xs,.int .i64 xb,.bool xf,.int .i64 xv,.int .i64 xtv,.int .i64 xts,.int .i64 xt,.slice xa xr.length xc] 48)=W2 at*
   have D1:=hid (fun d os=>Calls.regrown_of (w:=W2) (d:=d) (os:=os) (CB.out _))
   have HBX:Hid (∀wz,Below W2.heap.size W2 wz->wz.cell? ⟨wr.heap.size,0,none⟩=some (.int .i64 xs)/\wz.cell? ⟨wr.heap.size,1,none⟩=some (.int .i64 xb)/\wz.cell? ⟨wr.heap.size,2,none⟩=some (.bool xf)/\wz.cell? ⟨wr.heap.size,3,none⟩=some (.int .i64 xv)/\wz.cell? ⟨wr.heap.size,4,none⟩=some (.int .i64 xtv)/\wz.cell? ⟨wr.heap.size,5,none⟩=some (.int .i64 xts)/\wz.cell? ⟨wr.heap.size,6,none⟩=some (.int .i64 xt)/\wz.cell? ⟨wr.heap.size,7,none⟩=some (.slice xa xr.length xc)):=hid (fun wz hb=>by rw[<-hW2] at hb;exact box8p hb)
   have HNE:Hid (¬wr.heap.size=w.heap.size):=hid (by have:=HMI.out.lt;omega)
   clear y0 y1 y2 y3 y4 y5 y6 y7 p0 p1 p2 p3 p4 p5 p6 p7 q0 q1 q2 q3 q4 q5 q6 q7 hW2
   cases B
   case false=>
    have HNO:=hid (HNY.out rfl)
    refine wp_region_quiet_below (by kernel_rfl) (by kernel_rfl) ?_
    repeat (go_big_quiet_step (fail))
    go_big_quiet_step (exact D1.out _ _)
    repeat (go_big_quiet_step (fail))
    refine wpQuiet_nil ?_
    intro wz hw'
    have HBZ:Hid (Below W2.heap.size W2 wz):=hid (by obtain⟨⟨dq,osq⟩,hw2⟩:=hw';rw[hw2];exact below_regrown W2 dq osq)
    clear hw' k0 k1 k2 k3 k4 k5 k6 k7 r0 r1 r2 r3 r4 r5 r6 r7 D1
    go_wp2
    go_roundw
    case rel=>exact⟨k+1,ci,Mi,by omega,by go_num,rfl,hid (step HB2.out HBZ.out),hid (HM2.out.later HBZ.out),HWI,HNO⟩
    case measure=>simp [intOf];omega
   have HYES:=hid (HYE.out rfl)
   refine wp_region_quiet_below (by kernel_rfl) (by kernel_rfl) ?_
   repeat (go_big_quiet_step (fail))
   go_big_quiet_step (exact D1.out _ _)
   repeat (go_big_quiet_step (fail))
   refine wpQuiet_nil ?_
   intro wz hw'
   have HBZ:Hid (Below W2.heap.size W2 wz):=hid (by obtain⟨⟨dq,osq⟩,hw2⟩:=hw';rw[hw2];exact below_regrown W2 dq osq)
   clear hw' k0 k1 k2 k3 k4 k5 k6 k7 r0 r1 r2 r3 r4 r5 r6 r7 D1
   obtain⟨⟨p0,p1,p2,p3,p4,p5,p6,p7⟩,pf,hput⟩:=HPC.out wz HBZ.out
   obtain⟨y0,y1,y2,y3,y4,y5,y6,y7⟩:=HBX.out wz HBZ.out
   have HPUT:=hid hput
   have HBF:=hid (below_set8P (step HB2.out HBZ.out) (Nat.le_refl _) (n*8) ⟨xs,xb,⟨xf,xv,xtv,xts,xt,xr⟩,xa,xc⟩)
   unfold set8P VoteC.u at HBF
   dsimp only at HBF
   have hne:=HNE.out
   clear hput
   go_wp2
   go_roundw
   case rel=>exact⟨k+1,c',Mi.set n ⟨xs,xb,⟨xf,xv,xtv,xts,xt,xr⟩,xa,xc⟩,by omega,by go_num,rfl,HBF,HPUT,HWX,hid (by rw[HYES.out,HVS.out];show BestV.mk _ (max (ci:Int) (xs - d))= _;rw[HCX.out])⟩
   case measure=>simp [intOf];omega
end Pl
end Go.Proofs.Ytbpmfjjbfiiiaaa
