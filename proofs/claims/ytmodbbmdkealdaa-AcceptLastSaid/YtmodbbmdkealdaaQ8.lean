/- Texts laid together by program. -/
import Derived.Test.YtmodbbmdkealdaaQ7
import Derived.Lib.QuietBelow
/- Contract of package accept: Votes. -/
set_option linter.unusedVariables false
set_option maxRecDepth 8000
set_option linter.unusedSimpArgs false
namespace Go.Proofs.Ytmodbbmdkealdaa
open Lib (hid)
open Go.RowKit
namespace Ac
open Cm

def TellsV (l:List VoteV) (w:World) (e:Ending) (w':World):Prop:= ∃v L,e= .returned v/\valsV L=l/\OwnV w.heap.size w' v L/\Below w.heap.size w w'
theorem OwnV.push {base base':Nat} {wr w3 w6:World} {m v':Value} {L:List VoteC} {x:VoteC} (h:OwnV base wr m L) (hb:Below wr.heap.size wr w3)
  (hl:OwnR base' w3 x) (hbs:base<=base') (hg:w3.grownBy w6 m.ownBlock) (ho:w6.ownsRow base 49 8 v' (L++ [x]).length (flatX cellsV (L++ [x]))):OwnV base w6 v' (L++ [x]):=by
 have hm:=(h.later hb).row
 refine⟨ho,fun y hy=>?_⟩
 rcases List.mem_append.1 hy with q | q
 ·have hy':=(h.later hb).reqs y q
  exact Rw.own_other hy' hg (own_typesD hm hy' (by decide))
 ·rw[List.mem_singleton] at q
  subst q
  exact own_lowerX (Rw.own_other hl hg (own_typesD hm hl (by decide))) hbs
set_option maxHeartbeats 4000000 in
theorem Votes_any (g m:Nat) (s:AccV) (w:World) (h:HasA w g m s) (hs:Good s):
  Calls Try.prog 21 #[.pointer (some ⟨g,0,none⟩)] w (TellsV s.votes w):=by
 have HH:=hid h
 have HG:=hid hs
 have HD0:=hid hs.d0
 have HD1:=hid hs.d1
 obtain⟨d,hd⟩: ∃d,s.done=d:=⟨_,rfl⟩
 obtain⟨l,hl⟩: ∃l,s.votes=l:=⟨_,rfl⟩
 have HLL:Hid (GoodL d l):=hid (by rw[<-hd,<-hl];exact hs.list)
 have HMAY:Hid (∀x∈l,mayB x.bat=true):=hid (by rw[<-hl];exact hs.may)
 rw[hd] at HD0 HD1
 rw[hl]
 have HC:Hid (∀W,Below w.heap.size w W->W.cell? ⟨g,1,none⟩=some (.int .i64 d)/\ ∀p,p<9-> ∃x:VoteC,x.val=plc l p/\OwnR m W x/\ ∀W',Below W.heap.size W W'-> ∀k,k<8->W'.cell? ⟨g,2+p*8+k,none⟩=(cellsV x)[k]?):=hid fun W hb=>by
  have hA:=HH.out.later hb
  obtain⟨M,h1,h2,h3⟩:=hA.ex
  have hM:M.length=9:=by rw[<-valsV_length,h2,places_length]
  refine⟨by rw[<-hd];exact hA.c1,fun p hp=>⟨M[p]'(by omega),?_,h3 _ (List.getElem_mem _),fun W' hb' k hk=>?_⟩⟩
  ·have e:=valsV_get M p (by omega) (by rw[valsV_length];omega)
   rw[<-e,<-hl,<-places_get s.votes p (by rw[places_length];exact hp)]
   congr 1
  ·rw[cell_at (cells_later h1 hb')]
   exact accCells_get _ _ M p (by omega) k hk
 clear hd hl h hs HG HH
 obtain⟨i1,hi1,hz0,hz1,hz2⟩:=info_partsA infoV
 go_enter Try.func21,Try.ntmps21
 go_wp2
 go_loopw [3,4,5,8] (fun v _ _ i wr=> ∃(k:Nat) (L:List VoteC),k<=9/\i= .int .i64 (k:Int)/\L.length<=k/\Hid (valsV L=l.filter fun x=>decide (x.slot<=d+(k:Int)))/\Hid (OwnV w.heap.size wr v L)/\Hid (Below w.heap.size w wr)) (fun _ _ _ i _=>9 - (intOf i).toNat)
 case atStart=>exact⟨0,[],by omega,rfl,by simp,hid (by rw[all_none d l HLL.out];rfl),hid (OwnV.nil _ _),hid (Below.refl _ _)⟩
 case round=>
  obtain⟨k,L,hk,rfl,hLk,HV,HO,HB⟩:=hrel
  obtain⟨va,vc,hvv⟩:=HO.out.rd.form
  subst hvv
  by_cases hlt:k<9
  ·obtain⟨p,hp⟩: ∃p:Nat,(d+1+(k:Int)) % 9=(p:Int):=⟨((d+1+(k:Int)) % 9).toNat,by have:=HD0.out;omega⟩
   have hp9:p<9:=by omega
   have hw1:IntKind.i64.wrap (d+1)=d+1:=by have:=HD0.out;have:=HD1.out;rw[IntKind.wrap_i64];omega
   have hw2:IntKind.i64.wrap (d+1+(k:Int))=d+1+(k:Int):=by have:=HD0.out;have:=HD1.out;rw[IntKind.wrap_i64];omega
   have ht9:(d+1+(k:Int)).tmod 9=(p:Int):=by rw[Int.tmod_eq_emod_of_nonneg (by have:=HD0.out;omega)];exact hp
   have q0:(0:Int)<=(p:Int):=by omega
   have q9:(p:Int)<9:=by omega
   have HN:=hid (plc_next d HD0.out k p hlt hp l HLL.out)
   obtain⟨hc1,hx⟩:=HC.out _ HB.out
   obtain⟨x,hxv,hox,hxc⟩:=hx p hp9
   have HXV:=hid hxv
   have HOX:=hid hox
   have HXC:=hid hxc
   clear hx hxv hox hxc hp hp9
   obtain⟨x1,x2,⟨x3,x4,x5,x6,x7,x8⟩,xa,xc⟩:=x
   have HBZ:Hid (Below wr.heap.size wr (wr.alloc (.cells #[.int .i64 0,.int .i64 0,.bool false,.int .i64 0,.int .i64 0,.int .i64 0,.int .i64 0,.slice none 0 0] 49)).drew):=hid (newAlloc wr _).drew
   have b1:(wr.alloc (.cells #[.int .i64 0,.int .i64 0,.bool false,.int .i64 0,.int .i64 0,.int .i64 0,.int .i64 0,.slice none 0 0] 49)).drew.cell? ⟨g,1,none⟩=some (.int .i64 d):=(HC.out _ (step HB.out HBZ.out)).1
   have a0:(wr.alloc (.cells #[.int .i64 0,.int .i64 0,.bool false,.int .i64 0,.int .i64 0,.int .i64 0,.int .i64 0,.slice none 0 0] 49)).drew.cell? ⟨g,2+p*8,none⟩=some (.int .i64 x1):=HXC.out _ HBZ.out 0 (by omega)
   have a1:(wr.alloc (.cells #[.int .i64 0,.int .i64 0,.bool false,.int .i64 0,.int .i64 0,.int .i64 0,.int .i64 0,.slice none 0 0] 49)).drew.cell? ⟨g,2+p*8+1,none⟩=some (.int .i64 x2):=HXC.out _ HBZ.out 1 (by omega)
   have a2:(wr.alloc (.cells #[.int .i64 0,.int .i64 0,.bool false,.int .i64 0,.int .i64 0,.int .i64 0,.int .i64 0,.slice none 0 0] 49)).drew.cell? ⟨g,2+p*8+2,none⟩=some (.bool x3):=HXC.out _ HBZ.out 2 (by omega)
   have a3:(wr.alloc (.cells #[.int .i64 0,.int .i64 0,.bool false,.int .i64 0,.int .i64 0,.int .i64 0,.int .i64 0,.slice none 0 0] 49)).drew.cell? ⟨g,2+p*8+3,none⟩=some (.int .i64 x4):=HXC.out _ HBZ.out 3 (by omega)
   have a4:(wr.alloc (.cells #[.int .i64 0,.int .i64 0,.bool false,.int .i64 0,.int .i64 0,.int .i64 0,.int .i64 0,.slice none 0 0] 49)).drew.cell? ⟨g,2+p*8+4,none⟩=some (.int .i64 x5):=HXC.out _ HBZ.out 4 (by omega)
   have a5:(wr.alloc (.cells #[.int .i64 0,.int .i64 0,.bool false,.int .i64 0,.int .i64 0,.int .i64 0,.int .i64 0,.slice none 0 0] 49)).drew.cell? ⟨g,2+p*8+5,none⟩=some (.int .i64 x6):=HXC.out _ HBZ.out 5 (by omega)
   have a6:(wr.alloc (.cells #[.int .i64 0,.int .i64 0,.bool false,.int .i64 0,.int .i64 0,.int .i64 0,.int .i64 0,.slice none 0 0] 49)).drew.cell? ⟨g,2+p*8+6,none⟩=some (.int .i64 x7):=HXC.out _ HBZ.out 6 (by omega)
   have a7:(wr.alloc (.cells #[.int .i64 0,.int .i64 0,.bool false,.int .i64 0,.int .i64 0,.int .i64 0,.int .i64 0,.slice none 0 0] 49)).drew.cell? ⟨g,2+p*8+7,none⟩=some (.slice xa x8.length xc):=HXC.out _ HBZ.out 7 (by omega)
   have e0:wr.cell? ⟨g,2+p*8,none⟩=some (.int .i64 x1):=HXC.out _ (Below.refl _ _) 0 (by omega)
   have e1:wr.cell? ⟨g,2+p*8+1,none⟩=some (.int .i64 x2):=HXC.out _ (Below.refl _ _) 1 (by omega)
   have e2:wr.cell? ⟨g,2+p*8+2,none⟩=some (.bool x3):=HXC.out _ (Below.refl _ _) 2 (by omega)
   have e3:wr.cell? ⟨g,2+p*8+3,none⟩=some (.int .i64 x4):=HXC.out _ (Below.refl _ _) 3 (by omega)
   have e4:wr.cell? ⟨g,2+p*8+4,none⟩=some (.int .i64 x5):=HXC.out _ (Below.refl _ _) 4 (by omega)
   have e5:wr.cell? ⟨g,2+p*8+5,none⟩=some (.int .i64 x6):=HXC.out _ (Below.refl _ _) 5 (by omega)
   have e6:wr.cell? ⟨g,2+p*8+6,none⟩=some (.int .i64 x7):=HXC.out _ (Below.refl _ _) 6 (by omega)
   have e7:wr.cell? ⟨g,2+p*8+7,none⟩=some (.slice xa x8.length xc):=HXC.out _ (Below.refl _ _) 7 (by omega)
   have hz:=cells_later (alloc_atB wr (.cells #[.int .i64 0,.int .i64 0,.bool false,.int .i64 0,.int .i64 0,.int .i64 0,.int .i64 0,.slice none 0 0] 49) _ rfl) (Below.refl _ _).drew
   have z0:=cell_at hz 0
   have z1:=cell_at hz 1
   have z2:=cell_at hz 2
   have z3:=cell_at hz 3
   have z4:=cell_at hz 4
   have z5:=cell_at hz 5
   have z6:=cell_at hz 6
   have z7:=cell_at hz 7
   have zf:=frozen_at hz
   simp at z0 z1 z2 z3 z4 z5 z6 z7
   clear hz
   go_upto_region 7 with fail
   go_region
   clear a0 a1 a2 a3 a4 a5 a6 a7 e0 e1 e2 e3 e4 e5 e6 e7 z0 z1 z2 z3 z4 z5 z6 z7 zf b1 hc1 hw1 hw2 ht9 q0 q9 HBZ
   have hk2:=cells_later (alloc_atB wr (.cells #[.int .i64 x1,.int .i64 x2,.bool x3,.int .i64 x4,.int .i64 x5,.int .i64 x6,.int .i64 x7,.slice xa x8.length xc] 49) _ rfl) (Below.refl _ _).drew
   have HB2:Hid (Below wr.heap.size wr (wr.alloc (.cells #[.int .i64 x1,.int .i64 x2,.bool x3,.int .i64 x4,.int .i64 x5,.int .i64 x6,.int .i64 x7,.slice xa x8.length xc] 49)).drew):=hid (newAlloc wr _).drew
   generalize (wr.alloc (.cells #[.int .i64 x1,.int .i64 x2,.bool x3,.int .i64 x4,.int .i64 x5,.int .i64 x6,.int .i64 x7,.slice xa x8.length xc] 49)).drew =W2 at hk2 HB2 ⊢
   have c0:=cell_at hk2 0
   have c1:=cell_at hk2 1
   have c2:=cell_at hk2 2
   have c3:=cell_at hk2 3
   have c4:=cell_at hk2 4
   have c5:=cell_at hk2 5
   have c6:=cell_at hk2 6
   have c7:=cell_at hk2 7
   simp at c0 c1 c2 c3 c4 c5 c6 c7
   clear hk2
   by_cases h0:0<x1
   ·have d0:decide (0<x1)=true:=decide_eq_true h0
    have HNV:Hid (l.filter (fun v=>decide (v.slot<=d+((k+1:Nat):Int)))=l.filter (fun v=>decide (v.slot<=d+(k:Int)))++ [⟨x1,x2,⟨x3,x4,x5,x6,x7,x8⟩⟩]):=hid (by
     rw[HN.out,<-HXV.out]
     unfold VoteC.val
     dsimp only
     rw[if_pos h0])
    have HLN:Hid (x8.length<=1000):=hid (by
     have hm:(⟨x1,x2,⟨x3,x4,x5,x6,x7,x8⟩⟩:VoteV)∈l:=by
      rcases plc_mem l p with q | ⟨q,_⟩
      ·rw[<-HXV.out] at q
       have q2:x1=0:=congrArg VoteV.slot q
       omega
      ·rw[<-HXV.out] at q
       exact q
     have h3:=mayB_len (HMAY.out _ hm)
     show x8.length<=1000
     have h4:x8.length<=3:=h3
     omega)
    have HR2:Hid (RdR W2 (.slice xa x8.length xc) x8):=hid ((HOX.out.later HB2.out).rd)
    clear h0 HN HXV HXC HOX
    have hbw:=HB.out.size
    have hb2:=HB2.out.size
    have HLk:=hid hLk
    go_wp2_with (first
     | (go_at_call 28;refine(copyOf_any ⟨x1,x2,⟨x3,x4,x5,x6,x7,x8⟩,xa,xc⟩ W2 HR2.out HLN.out).mono ?_;rintro e W3 ⟨⟨y1,y2,⟨y3,y4,y5,y6,y7,y8⟩,ya,yc⟩,rfl,hy,hoy,hb⟩;have HY:=hid hy;have HOY:=hid hoy;have HB3:=hid (step HB2.out hb);have HM3:=hid (HO.out.later (step HB2.out hb)).row;have hb3:=hb.size;clear hy hoy hb;unfold voteVal VoteC.u;dsimp only)
     | (at_builtin;refine wpList_append_grD cellsV_length (by omega) rfl _ _ 33 rfl 49 i1 _ 80 Try.underlying33 hi1 hz0 hz1 hz2 rfl #[.int .i64 y1,.int .i64 y2,.bool y3,.int .i64 y4,.int .i64 y5,.int .i64 y6,.int .i64 y7,.slice ya y8.length yc] (⟨y1,y2,⟨y3,y4,y5,y6,y7,y8⟩,ya,yc⟩:VoteC) rfl (cellsV_one _) L w.heap.size (.slice va L.length vc) rfl rfl HM3.out (by unfold maxLen;omega) (by omega) (by omega) ?_;intro v6 w6 ho6 hg6 _;have HO6:Hid (OwnV w.heap.size w6 v6 (L++ [⟨y1,y2,⟨y3,y4,y5,y6,y7,y8⟩,ya,yc⟩])):=hid (HO.out.push (x:=⟨y1,y2,⟨y3,y4,y5,y6,y7,y8⟩,ya,yc⟩) (stepAlloc HB3.out _) (Rw.own_alloc HOY.out _) (by omega) hg6 ho6);have HB6:Hid (Below w.heap.size w w6):=hid ((step HB.out (stepAlloc HB3.out _)).grown hg6 (by simp;omega) (fun g hg=>(Rw.own_lt HM3.out g hg).1));clear ho6 hg6))
    go_roundw
    case rel=>exact⟨k+1,L++ [⟨y1,y2,⟨y3,y4,y5,y6,y7,y8⟩,ya,yc⟩],by omega,by go_num,by have:=HLk.out;simp;omega,hid (by rw[valsV_snoc,HV.out,HY.out,HNV.out];rfl),HO6,HB6⟩
    case measure=>simp [intOf];omega
   ·have d0:decide (0<x1)=false:=decide_eq_false h0
    have HNV:Hid (l.filter (fun v=>decide (v.slot<=d+((k+1:Nat):Int)))=l.filter (fun v=>decide (v.slot<=d+(k:Int)))):=hid (by
     rw[HN.out,<-HXV.out]
     unfold VoteC.val
     dsimp only
     rw[if_neg h0,List.append_nil])
    clear h0 HN HXV HXC HOX
    go_wp2
    go_roundw
    case rel=>exact⟨k+1,L,by omega,by go_num,by omega,hid (by rw[HV.out,HNV.out]),hid (HO.out.later HB2.out),hid (step HB.out HB2.out)⟩
    case measure=>simp [intOf];omega
  ·obtain rfl:k=9:=by omega
   go_wp2
   go_ret
   exact⟨_,L,rfl,by rw[HV.out,all_done d l HLL.out],HO.out,HB.out⟩
end Ac
end Go.Proofs.Ytmodbbmdkealdaa

/- Contract of layer 14's awake. -/
set_option linter.unusedVariables false
set_option maxRecDepth 8000
set_option linter.unusedSimpArgs false
namespace Go.Proofs.Ytmodbbmdkealdaa
open Lib (hid)
open Go.RowKit
namespace Ac
open Cm

theorem prom3:promF newA 3=(⟨3,0,[]⟩,0):=by rfl
theorem acc2:accF ⟨3,0,[]⟩ 2 1 fillB=(⟨3,0,[]⟩,11):=by rfl
theorem acc3:accF ⟨3,0,[]⟩ 3 1 fillB=(⟨3,0,[⟨1,3,fillB⟩]⟩,0):=by rfl
theorem step_gr {B:Nat} {a w w':World} {g:Nat} (h:Below B a w) (hg:w.grownBy w' (some g)) (hB:B<=g) (hs:B<=w.heap.size):Below B a w':=
 h.grown hg hs (fun k hk=>by cases hk;exact hB)
set_option maxHeartbeats 4000000 in
theorem awake14_ok (w:World):Calls Try.prog 9 #[] w (SaysB true w):=by
 have CN:=hid (New_any w)
 have CP:=hid (fun(w':World) h=>Promise_any w.heap.size (w.heap.size+1) newA 3 w' h)
 have CA:=hid (fun(w':World) h=>Accept_any w.heap.size (w.heap.size+1) ⟨3,0,[]⟩ 2 1 fillB (.slice none 0 0) w' h (by have:=newA_good.prom 3;rw[prom3] at this;exact this) (RdX.nil _) (by intro q;cases q))
 have CB:=hid (fun(w':World) h=>Accept_any w.heap.size (w.heap.size+1) ⟨3,0,[]⟩ 3 1 fillB (.slice none 0 0) w' h (by have:=newA_good.prom 3;rw[prom3] at this;exact this) (RdX.nil _) (by intro q;cases q))
 have hg3:Good ⟨3,0,[⟨1,3,fillB⟩]⟩:=by
  have h1:=newA_good.prom 3
  rw[prom3] at h1
  have h2:=h1.acc 3 1 fillB
  rw[acc3] at h2
  exact h2
 have CV:=hid (fun(w':World) h=>Votes_any w.heap.size (w.heap.size+1) ⟨3,0,[⟨1,3,fillB⟩]⟩ w' h hg3)
 have CL:=hid (fun(w':World) h=>Ballot_any w.heap.size (w.heap.size+1) ⟨3,0,[⟨1,3,fillB⟩]⟩ w' h)
 rw[prom3] at CP
 rw[acc2] at CA
 rw[acc3] at CB
 unfold batVal fillB at CA CB
 dsimp only at CA CB
 clear hg3
 go_enter Try.func9,Try.ntmps9
 obtain⟨g,hgw⟩: ∃g,w.heap.size=g:=⟨_,rfl⟩
 rw[hgw] at CN CP CA CB CV CL
 have HGW:=hid hgw
 clear hgw
 go_upto_region 6 with (first
  | (go_at_call 10;refine CN.out.mono ?_;rintro e w1 ⟨rfl,hw⟩;have HA1:Hid (HasA w1 g (g+1) newA):=hid (HasA.new (by rw[hw];exact alloc_atB _ _ _ HGW.out) (by omega) (by rw[hw];simp [HGW.out]));have HB1:Hid (Below w.heap.size w w1):=hid (by rw[hw];exact newAlloc _ _);clear hw)
  | (go_at_call 12;refine(CP.out _ HA1.out).mono ?_;rintro e w2 ⟨rfl,ha,hg⟩;have HA2:=hid ha;have HB2:=hid (step_gr HB1.out hg (by rw[HGW.out];exact Nat.le_refl _) HB1.out.size);clear ha hg;dsimp only)
  | (go_at_call 14;refine(CA.out _ HA2.out).mono ?_;rintro e w3 ⟨rfl,ha,hg⟩;have HA3:=hid ha;have HB3:=hid (step_gr HB2.out hg (by rw[HGW.out];exact Nat.le_refl _) HB2.out.size);clear ha hg;dsimp only))
 go_wp2_with (first
  | (go_at_call 14;refine(CB.out _ HA3.out).mono ?_;rintro e w4 ⟨rfl,ha,hg⟩;have HA4:=hid ha;have HB4:=hid (step_gr HB3.out hg (by rw[HGW.out];exact Nat.le_refl _) HB3.out.size);clear ha hg;dsimp only)
  | (go_at_call 21;refine(CV.out _ HA4.out).mono ?_;rintro e w5 ⟨v,L,rfl,hL,ho,hb⟩;have HA5:=hid (HA4.out.later hb);have HB5:=hid (step HB4.out hb);have hlen:L.length=1:=(by rw[<-valsV_length,hL];rfl);obtain⟨va,vc,hv⟩:=ho.rd.form;rw[hlen] at hv;subst hv;clear ho hb hL)
  | (go_at_call 18;refine(CL.out _ HA5.out).mono ?_;rintro e w6 ⟨rfl,rfl⟩;dsimp only))
 go_ret
 exact⟨rfl,HB5.out⟩
end Ac
end Go.Proofs.Ytmodbbmdkealdaa
