/- Texts laid together by program. -/
import Derived.Test.YtlaomehfhooiaaaQ12
/- Contracts: package batch's getReqs; the document's nums. -/
set_option linter.unusedVariables false
set_option maxRecDepth 8000
set_option linter.unusedSimpArgs false
namespace Go.Proofs.Ytlaomehfhooiaaa
open Lib (hid)
open Go.RowKit
namespace Cm

theorem infoReqB:(Try.prog.info? 44).map (fun i=>(i.zero,i.size,i.bytes))=some (some (.agg #[.int .i64 0,.int .i64 0,.int .i64 0,.int .i64 0,.string ⟨#[]⟩]),5,48):=by kernel_rfl
theorem infoIntB:(Try.prog.info? 3).map (fun i=>(i.zero,i.size,i.bytes))=some (some (.int .i64 0),1,8):=by kernel_rfl
theorem info_partsB {e:TypeId} {z:Option Value} {s b:Nat} (h:(Try.prog.info? e).map (fun i=>(i.zero,i.size,i.bytes))=some (z,s,b)): ∃i,Try.prog.info? e=some i/\i.zero=z/\i.size=s/\i.bytes=b:=by
 match hi:Try.prog.info? e with
 | none=>rw[hi] at h;cases h
 | some i=>
  rw[hi] at h
  simp at h
  exact⟨i,rfl,h.1,h.2.1,h.2.2⟩
def getRsF (bs:List UInt8) (t:Int):List ReqV × Int × Int:=
 if (byteOf bs t).2.2≠0 then ([],0,(byteOf bs t).2.2) else if 3<(byteOf bs t).1 then ([],0,4) else readRs bs [] (byteOf bs t).2.1 (byteOf bs t).1.toNat
def GetsL (r:List ReqV × Int × Int) (w:World) (e:Ending) (w':World):Prop:=
 ∃v,e= .returned (.tuple #[v,.int .i64 r.2.1,.int .i64 r.2.2])/\w'.ownsRow w.heap.size 44 5 v r.1.length (flatX cellsR r.1)/\Below w.heap.size w w'
theorem byteOf_lt (bs:List UInt8) (t:Int):0<=(byteOf bs t).1/\(byteOf bs t).1<256:=by
 unfold byteOf
 split
 ·simp
 ·have:=UInt8.toNat_lt (bs.getD t.toNat 0)
  simp only
  omega
theorem getR_le (bs:List UInt8) (t:Int):(getR bs t).2.1<=bs.length:=by
 unfold getR
 split
 ·simp
 ·split
  ·simp
  ·split
   ·simp
   ·split
    ·exact getF_le _ _
    ·simp
set_option maxHeartbeats 4000000 in
theorem getReqs_any (v:Value) (bs:List UInt8) (t:Int) (w:World) (h:Rd w v bs) (ht:t<=9223372036854775807):
  Calls Try.prog 27 #[v,.int .i64 t] w (GetsL (getRsF bs t) w):=by
 have hlen:=Rd.len_le h
 unfold maxLen at hlen
 have hlt:=byteOf_lt bs t
 unfold getRsF
 rcases hB:byteOf bs t with ⟨n,t1,e1⟩
 have b1:t1<=bs.length:=by have:=byteOf_le bs t;rw[hB] at this;exact this
 rw[hB] at hlt
 dsimp only at hlt ⊢
 have C1:=hid (show Calls Try.prog 25 #[v,.int .i64 t] w (Three (n,t1,e1) w) by rw[<-hB];exact Byte_any v bs t w h ht)
 by_cases z1:e1≠0
 ·have d1:(e1 != 0)=true:=by simpa using z1
  rw[if_pos z1]
  clear h hB
  go_enter Try.func27,Try.ntmps27
  go_wp2_with (go_at_call 25;refine C1.out.mono ?_;rintro e w1 ⟨rfl,hb1⟩)
  refine bodyPost_ret (by simp [results,Try.results27,go_sem]<;>rfl) rfl ⟨_,rfl,World.ownsRow_nil _ _ _ _,hb1⟩
 rw[if_neg z1]
 obtain rfl:e1=0:=by omega
 clear z1
 by_cases z2:3<n
 ·have d2:decide (3<n)=true:=by simpa using z2
  rw[if_pos z2]
  clear h hB
  go_enter Try.func27,Try.ntmps27
  go_wp2_with (go_at_call 25;refine C1.out.mono ?_;rintro e w1 ⟨rfl,hb1⟩)
  refine bodyPost_ret (by simp [results,Try.results27,go_sem]<;>rfl) rfl ⟨_,rfl,World.ownsRow_nil _ _ _ _,hb1⟩
 rw[if_neg z2]
 have d2:decide (3<n)=false:=by simpa using z2
 obtain⟨N,rfl⟩:=Int.eq_ofNat_of_zero_le hlt.1
 have hN:N<=3:=by omega
 rw[Int.toNat_natCast]
 have CR:Hid (∀T r u e,T<=(bs.length:Int)->getR bs T=(r,u,e)-> ∀w',Below w.heap.size w w'->Calls Try.prog 50 #[v,.int .i64 T] w' (GetsR (r,u,e) w')):=fun T r u e hT hE w' hb=>by rw[<-hE];exact GetReq_any v bs T w' (h.later hb) (by omega)
 obtain⟨i5,hi5,h50,h51,h52⟩:=info_partsB infoReqB
 clear h hB hlt z2
 go_enter Try.func27,Try.ntmps27
 go_wp2_with (go_at_call 25;refine C1.out.mono ?_;rintro e w1 ⟨rfl,hb1⟩;have HB1:=hid hb1)
 clear C1 hb1
 go_loopw [1,9,10,11,12,26] (fun x u _ _ _ i wr=> ∃(j:Nat) (T:Int) (G:List ReqV),j<=N/\i= .int .i64 (j:Int)/\x= .int .i64 T/\G.length=j/\T<=(bs.length:Int)/\Hid (wr.ownsRow w.heap.size 44 5 u G.length (flatX cellsR G))/\Hid (Below w.heap.size w wr)/\Hid (readRs bs [] t1 N=readRs bs G T (N - j))) (fun _ _ _ _ _ i _=>N - (intOf i).toNat)
 case atStart=>exact⟨0,t1,[],by omega,rfl,rfl,rfl,b1,hid (World.ownsRow_nil _ _ _ _),HB1,hid rfl⟩
 case round=>
  obtain⟨j,T,G,hj,rfl,rfl,hGl,hT,HO,HB,HF⟩:=hrel
  by_cases hlt:j<N
  ·obtain⟨m,hm⟩: ∃m,N - j=m+1:=⟨N - j - 1,by omega⟩
   rcases hS:getR bs T with ⟨r,u,e⟩
   have b5:u<=bs.length:=by have:=getR_le bs T;rw[hS] at this;exact this
   have CK:=hid (CR.out T r u e hT hS)
   have hF:=HF.out
   rw[hm] at hF
   by_cases y:e≠0
   ·have d:(e != 0)=true:=by simpa using y
    rw[readRs_bad hS y] at hF
    have HF2:=hid hF
    clear hF HF hS y CR hGl
    obtain⟨rc,rq,rk,rs,rn⟩:=r
    unfold GetsR reqVal at CK
    dsimp only at CK
    go_wp2_with (go_at_call 50;refine(CK.out _ HB.out).mono ?_;rintro e w2 ⟨rfl,hb2⟩;have HB2:=hid (step HB.out hb2))
    rw[HF2.out]
    refine bodyPost_ret (by simp [results,Try.results27,go_sem]<;>rfl) rfl ⟨_,rfl,World.ownsRow_nil _ _ _ _,stepAlloc HB2.out _⟩
   obtain rfl:e=0:=by omega
   rw[readRs_ok hS] at hF
   have HF2:=hid hF
   clear hF HF hS y CR
   have hone:=cellsR_one r
   obtain⟨rc,rq,rk,rs,rn⟩:=r
   unfold GetsR reqVal at CK
   dsimp only at CK
   subst hGl
   obtain⟨ua,uc,hu⟩:=Rw.own_form HO.out
   subst hu
   go_wp2_with (first
    | (go_at_call 50;refine(CK.out _ HB.out).mono ?_;rintro e w2 ⟨rfl,hb2⟩;have HB2:=hid (stepAlloc (step HB.out hb2) (.cells #[.int .i64 rc,.int .i64 rq,.int .i64 rk,.int .i64 rs,.string (bstr rn)] 44));have HO2:=hid (Rw.own_alloc (Rw.own_below HO.out hb2) (.cells #[.int .i64 rc,.int .i64 rq,.int .i64 rk,.int .i64 rs,.string (bstr rn)] 44)))
    | (at_builtin;refine wpList_append_one cellsR_length (by omega) rfl (.tmp 38) (.tmp 40) 24 rfl 44 i5 _ 48 Try.underlying24 hi5 h50 h51 h52 rfl #[.int .i64 rc,.int .i64 rq,.int .i64 rk,.int .i64 rs,.string (bstr rn)] ⟨rc,rq,⟨rk,rs,rn⟩⟩ rfl hone G w.heap.size w.heap.size w _ rfl (by rw[show(w2.alloc (.cells #[.int .i64 rc,.int .i64 rq,.int .i64 rk,.int .i64 rs,.string (bstr rn)] 44)).heap.size =w2.heap.size+1 by simp];rfl) HO2.out (by unfold maxLen;omega) (by omega) HB2.out.size HB2.out (Nat.le_refl _) ?_;intro v4 w4 hown4 hb4 hat4))
   go_roundw
   case rel=>exact⟨G.length+1,u,G++ [⟨rc,rq,⟨rk,rs,rn⟩⟩],by omega,by go_num,rfl,by simp,b5,hid hown4,hid hb4,hid (by rw[HF2.out,show N - (G.length+1)=m by omega])⟩
   case measure=>simp [intOf];omega
  ·obtain rfl:j=N:=by omega
   have hF:=HF.out
   rw[Nat.sub_self,readRs] at hF
   have HF2:=hid hF
   clear hF HF CR
   go_wp2
   rw[HF2.out]
   refine bodyPost_ret (by simp [results,Try.results27,go_sem]<;>rfl) rfl ⟨_,rfl,HO.out,HB.out⟩
end Cm
end Go.Proofs.Ytlaomehfhooiaaa

/- Contract: package batch's Get. -/
set_option linter.unusedVariables false
set_option maxRecDepth 8000
set_option linter.unusedSimpArgs false
namespace Go.Proofs.Ytlaomehfhooiaaa
open Lib (hid)
open Go.RowKit
namespace Cm

def GetsB (r:BatV × Int × Int) (w:World) (e:Ending) (w':World):Prop:=
 ∃v,e= .returned (.tuple #[batVal r.1 v,.int .i64 r.2.1,.int .i64 r.2.2])/\RdR w' v r.1.reqs/\Below w.heap.size w w'
def batZero:Obj:=.cells #[.bool false,.int .i64 0,.int .i64 0,.int .i64 0,.int .i64 0,.slice none 0 0] 26
def batBox (G:List Int) (v:Value):Obj:=.cells #[.bool false,.int .i64 (G.getD 0 0),.int .i64 (G.getD 1 0),.int .i64 (G.getD 2 0),.int .i64 (G.getD 3 0),v] 26
theorem set_atB {w:World} {g:Nat} {cs:Array Value} {t:TypeId} (h:w.heap[g]?=some (.cells cs t)) (i:Nat) (u:Value):(w.setCell ⟨g,i,none⟩ u).heap[g]?=some (.cells (cs.setIfInBounds i u) t):=by
 have hl:=get_ltB h
 have h':w.heap[g]= .cells cs t:=by simpa [hl] using h
 simp [World.setCell,h',hl,Array.getElem_modify]
theorem frozen_at {w:World} {g:Nat} {cs:Array Value} {t:TypeId} (h:w.heap[g]?=some (.cells cs t)) (k:Nat):w.frozen? ⟨g,k,none⟩=false:=by
 simp [World.frozen?,h]
structure GB (w:World) (A:Nat) (o:Obj) (wr:World):Prop where
 below:Below w.heap.size w wr
 zero:wr.heap[w.heap.size]?=some batZero
 box:wr.heap[A]?=some o
 lt:w.heap.size<A
theorem GB.later {w:World} {A:Nat} {o:Obj} {wr wx:World} (h:GB w A o wr) (hb:Below wr.heap.size wr wx):GB w A o wx:=
 ⟨h.below.trans (hb.mono h.below.size),(hb.block _ (get_ltB h.zero)).trans h.zero,(hb.block _ (get_ltB h.box)).trans h.box,h.lt⟩
theorem GB.zc {w:World} {A:Nat} {o:Obj} {wr:World} (h:GB w A o wr):
  (wr.cell? ⟨w.heap.size,0,none⟩=some (.bool false)/\wr.cell? ⟨w.heap.size,1,none⟩=some (.int .i64 0)/\wr.cell? ⟨w.heap.size,2,none⟩=some (.int .i64 0)/\wr.cell? ⟨w.heap.size,3,none⟩=some (.int .i64 0)/\wr.cell? ⟨w.heap.size,4,none⟩=some (.int .i64 0)/\wr.cell? ⟨w.heap.size,5,none⟩=some (.slice none 0 0))/\ ∀k,wr.frozen? ⟨w.heap.size,k,none⟩=false:=by
 have hz:=h.zero
 unfold batZero at hz
 exact⟨⟨cell_at hz 0,cell_at hz 1,cell_at hz 2,cell_at hz 3,cell_at hz 4,cell_at hz 5⟩,frozen_at hz⟩
theorem zc_new (w w':World) (hb:Below (w.alloc batZero).heap.size (w.alloc batZero) w'):
  (w'.cell? ⟨w.heap.size,0,none⟩=some (.bool false)/\w'.cell? ⟨w.heap.size,1,none⟩=some (.int .i64 0)/\w'.cell? ⟨w.heap.size,2,none⟩=some (.int .i64 0)/\w'.cell? ⟨w.heap.size,3,none⟩=some (.int .i64 0)/\w'.cell? ⟨w.heap.size,4,none⟩=some (.int .i64 0)/\w'.cell? ⟨w.heap.size,5,none⟩=some (.slice none 0 0))/\ ∀k,w'.frozen? ⟨w.heap.size,k,none⟩=false:=
 ⟨box6b hb,free6b hb⟩
theorem GB.bc {w:World} {A:Nat} {G:List Int} {v:Value} {wr:World} (h:GB w A (batBox G v) wr):
  (wr.cell? ⟨A,0,none⟩=some (.bool false)/\wr.cell? ⟨A,1,none⟩=some (.int .i64 (G.getD 0 0))/\wr.cell? ⟨A,2,none⟩=some (.int .i64 (G.getD 1 0))/\wr.cell? ⟨A,3,none⟩=some (.int .i64 (G.getD 2 0))/\wr.cell? ⟨A,4,none⟩=some (.int .i64 (G.getD 3 0))/\wr.cell? ⟨A,5,none⟩=some v)/\ ∀k,wr.frozen? ⟨A,k,none⟩=false:=by
 have hz:=h.box
 unfold batBox at hz
 exact⟨⟨cell_at hz 0,cell_at hz 1,cell_at hz 2,cell_at hz 3,cell_at hz 4,cell_at hz 5⟩,frozen_at hz⟩
theorem GB.bc4 {w:World} {A:Nat} {a b c d:Int} {v:Value} {wr:World} (h:GB w A (batBox [a,b,c,d] v) wr):
  (wr.cell? ⟨A,0,none⟩=some (.bool false)/\wr.cell? ⟨A,1,none⟩=some (.int .i64 a)/\wr.cell? ⟨A,2,none⟩=some (.int .i64 b)/\wr.cell? ⟨A,3,none⟩=some (.int .i64 c)/\wr.cell? ⟨A,4,none⟩=some (.int .i64 d)/\wr.cell? ⟨A,5,none⟩=some v)/\ ∀k,wr.frozen? ⟨A,k,none⟩=false:=h.bc
theorem GB.num {w:World} {A:Nat} {G:List Int} {v:Value} {wr:World} (h:GB w A (batBox G v) wr) (hG:G.length<4) (x:Int):GB w A (batBox (G++ [x]) v) (wr.setCell ⟨A,G.length+1,none⟩ (.int .i64 x)):=by
 refine⟨h.below.setCell (by have:=h.lt;show w.heap.size<=A;omega) _,?_,?_,h.lt⟩
 ·rw[Below.heap_setCell _ _ _ _ (by have:=h.lt;show w.heap.size≠A;omega)]
  exact h.zero
 ·have hb:=h.box
  unfold batBox at hb
  rw[set_atB hb]
  unfold batBox
  match G,hG with
  | [],_=>rfl
  | [a],_=>rfl
  | [a,b],_=>rfl
  | [a,b,c],_=>rfl
theorem GB.list {w:World} {A:Nat} {G:List Int} {v:Value} {wr:World} (h:GB w A (batBox G v) wr) (u:Value):GB w A (batBox G u) (wr.setCell ⟨A,5,none⟩ u):=by
 refine⟨h.below.setCell (by have:=h.lt;show w.heap.size<=A;omega) _,?_,?_,h.lt⟩
 ·rw[Below.heap_setCell _ _ _ _ (by have:=h.lt;show w.heap.size≠A;omega)]
  exact h.zero
 ·have hb:=h.box
  unfold batBox at hb
  rw[set_atB hb]
  rfl
theorem set6z {w w1:World} (h:Below w.heap.size w w1) (x0 x1 x2 x3 x4 x5:Value):Below w.heap.size w ((((((w1.setCell ⟨w.heap.size,0,none⟩ x0).setCell ⟨w.heap.size,1,none⟩ x1).setCell ⟨w.heap.size,2,none⟩ x2).setCell ⟨w.heap.size,3,none⟩ x3).setCell ⟨w.heap.size,4,none⟩ x4).setCell ⟨w.heap.size,5,none⟩ x5):=
 (((((h.setCell (Nat.le_refl _) _).setCell (Nat.le_refl _) _).setCell (Nat.le_refl _) _).setCell (Nat.le_refl _) _).setCell (Nat.le_refl _) _).setCell (Nat.le_refl _) _
theorem GetsB.zeroed {w w1:World} {e:Ending} {c:Int} (he:e= .returned (.tuple #[.agg #[.bool false,.int .i64 0,.int .i64 0,.int .i64 0,.int .i64 0,.slice none 0 0],.int .i64 0,.int .i64 c])) (hb:Below w.heap.size w w1):GetsB (zeroB,0,c) w e w1:=
 ⟨.slice none 0 0,he,RdX.nil _,hb⟩
def ptrObj (A:Nat):Obj:=.cells #[.pointer (some ⟨A,1,none⟩),.pointer (some ⟨A,2,none⟩),.pointer (some ⟨A,3,none⟩),.pointer (some ⟨A,4,none⟩)] 55
def PtrAt (A:Nat) (wr:World):Prop:=wr.heap[A+1]?=some (ptrObj A)
theorem alloc_atB (w:World) (o:Obj) (H:Nat) (hH:w.heap.size=H):(w.alloc o).heap[H]?=some o:=by
 subst hH
 show(w.heap.push o)[w.heap.size]?= _
 simp
theorem readNs_le {bs:List UInt8} : ∀(k:Nat) (G:List Int) (t:Int),t<=bs.length->(readNs bs G t k).2.1<=bs.length
 | 0,G,t,h=>h
 | k+1,G,t,h=>by
  rw[readNs]
  split
  ·simp
  ·exact readNs_le k _ _ (numOf_le _ _)
theorem own_box {w':World} {base A n:Nat} {e:TypeId} {v:Value} {xs:List Value} (h:w'.ownsRow base e 5 v n xs) (hA:A<base) (u:Value):(w'.setCell ⟨A,5,none⟩ u).ownsRow base e 5 v n xs:=
 Rw.own_keep h fun g hg=>Below.heap_setCell _ _ _ _ (by have:=(Rw.own_lt h g hg).1;show g≠A;omega)
def getTail (bs:List UInt8) (l:List Int) (t2 e2:Int):BatV × Int × Int:=
 if e2≠0 then (zeroB,0,e2) else
   if (getRsF bs t2).2.2≠0 then (zeroB,0,(getRsF bs t2).2.2) else if mayB (batOf l (getRsF bs t2).1) then (batOf l (getRsF bs t2).1,(getRsF bs t2).2.1,0) else (zeroB,0,4)
theorem tail_bad (bs:List UInt8) (l:List Int) (t2 e2:Int) (h:e2≠0):getTail bs l t2 e2=(zeroB,0,e2):=if_pos h
theorem tail_rs {bs:List UInt8} {l:List Int} {t2 t e:Int} {q:List ReqV} (h:getRsF bs t2=(q,t,e)) (he:e≠0):getTail bs l t2 0=(zeroB,0,e):=by
 unfold getTail
 rw[if_neg (by simp),h]
 exact if_pos he
theorem tail_ok {bs:List UInt8} {l:List Int} {t2 t:Int} {q:List ReqV} (h:getRsF bs t2=(q,t,0)):getTail bs l t2 0=if mayB (batOf l q) then (batOf l q,t,0) else (zeroB,0,4):=by
 unfold getTail
 rw[if_neg (by simp),h]
 exact if_neg (by simp)
theorem getB_told' {bs:List UInt8} {t k t1 e1 t2 e2:Int} {l:List Int} (hB:byteOf bs t=(k,t1,e1)) (hN:readNs bs [] t1 4=(l,t2,e2)):
  getB bs t=if e1≠0 then (zeroB,0,e1) else if 1<k then (zeroB,0,4) else if k=1 then (fillB,t1,0) else getTail bs l t2 e2:=by
 unfold getTail
 rcases hC:byteOf bs t2 with ⟨n,t3,e3⟩
 rcases hR:readRs bs [] t3 n.toNat with ⟨q,t4,e4⟩
 rw[getB_told hB hN hC hR]
 unfold getRsF
 rw[hC]
 dsimp only
 by_cases z3:e3≠0
 ·simp only[if_pos z3]
 simp only[if_neg z3]
 by_cases z4:3<n
 ·simp only[if_pos z4]
  rw[if_pos (show(4:Int)≠0 by decide)]
 simp only[if_neg z4,hR]
set_option maxHeartbeats 8000000 in
theorem GetB_any (v:Value) (bs:List UInt8) (t:Int) (w:World) (h:Rd w v bs) (ht:t<=9223372036854775807):
  Calls Try.prog 10 #[v,.int .i64 t] w (GetsB (getB bs t) w):=by
 have hlen:=Rd.len_le h
 unfold maxLen at hlen
 have hlt:=byteOf_lt bs t
 rcases hB:byteOf bs t with ⟨n,t1,e1⟩
 rcases hN:readNs bs [] t1 4 with ⟨l,t2,e2⟩
 rw[getB_told' hB hN]
 have b1:t1<=bs.length:=by have:=byteOf_le bs t;rw[hB] at this;exact this
 rw[hB] at hlt
 dsimp only at hlt
 have C1:=hid (fun w' (hb:Below w.heap.size w w')=>show Calls Try.prog 25 #[v,.int .i64 t] w' (Three (n,t1,e1) w') by rw[<-hB];exact Byte_any v bs t w' (h.later hb) ht)
 have CN:Hid (∀T x u e,T<=(bs.length:Int)->numOf bs T=(x,u,e)-> ∀w',Below w.heap.size w w'->Calls Try.prog 26 #[v,.int .i64 T] w' (Three (x,u,e) w')):=fun T x u e hT hE w' hb=>by rw[<-hE];exact Num_any v bs T w' (h.later hb) (by omega)
 have CR:Hid (∀T,T<=(bs.length:Int)-> ∀w',Below w.heap.size w w'->Calls Try.prog 27 #[v,.int .i64 T] w' (GetsL (getRsF bs T) w')):=fun T hT w' hb=>getReqs_any v bs T w' (h.later hb) (by omega)
 clear h hB ht
 by_cases z1:e1≠0
 ·have d1:(e1 != 0)=true:=by simpa using z1
  rw[if_pos z1]
  clear CN CR
  go_enter Try.func10,Try.ntmps10
  go_wp2_with (go_at_call 25;refine(C1.out _ (newAlloc _ _)).mono ?_;rintro e w1 ⟨rfl,hb1⟩;obtain⟨⟨c0,c1,c2,c3,c4,c5⟩,f0⟩:=zc_new w w1 hb1;have HB1:=hid (step (newAlloc w batZero) hb1))
  refine bodyPost_ret (by simp [results,Try.results10,go_sem,c0,c1,c2,c3,c4,c5]<;>rfl) rfl (GetsB.zeroed rfl (set6z HB1.out _ _ _ _ _ _))
 rw[if_neg z1]
 obtain rfl:e1=0:=by omega
 clear z1
 by_cases y1:1<n
 ·rw[if_pos y1]
  have d1:(n==1)=false:=by simp;omega
  have d2:(n==0)=false:=by simp;omega
  clear CN CR
  go_enter Try.func10,Try.ntmps10
  go_wp2_with (go_at_call 25;refine(C1.out _ (newAlloc _ _)).mono ?_;rintro e w1 ⟨rfl,hb1⟩;obtain⟨⟨c0,c1,c2,c3,c4,c5⟩,f0⟩:=zc_new w w1 hb1;have HB1:=hid (step (newAlloc w batZero) hb1))
  refine bodyPost_ret (by simp [results,Try.results10,go_sem,c0,c1,c2,c3,c4,c5]<;>rfl) rfl (GetsB.zeroed rfl (set6z HB1.out _ _ _ _ _ _))
 rw[if_neg y1]
 by_cases y2:n=1
 ·rw[if_pos y2]
  subst y2
  clear CN CR
  go_enter Try.func10,Try.ntmps10
  go_wp2_with (go_at_call 25;refine(C1.out _ (newAlloc _ _)).mono ?_;rintro e w1 ⟨rfl,hb1⟩;obtain⟨⟨c0,c1,c2,c3,c4,c5⟩,f0⟩:=zc_new w w1 hb1;have HB1:=hid (step (newAlloc w batZero) hb1))
  refine bodyPost_ret (by simp [results,Try.results10,go_sem,c0,c1,c2,c3,c4,c5]<;>rfl) rfl ⟨.slice none 0 0,rfl,RdX.nil _,set6z HB1.out _ _ _ _ _ _⟩
 rw[if_neg y2]
 obtain rfl:n=0:=by omega
 clear y1 y2 hlt
 go_enter Try.func10,Try.ntmps10
 go_wp2_with (go_at_call 25;refine(C1.out _ (newAlloc _ _)).mono ?_;rintro e w1 ⟨rfl,hb1⟩)
 have HG0:Hid (GB w w1.heap.size (batBox [] (.slice none 0 0)) (w1.alloc (batBox [] (.slice none 0 0)))):=by
  have hz:w1.heap[w.heap.size]?=some batZero:=by
   rw[hb1.block w.heap.size (by simp)]
   show(w.heap.push batZero)[w.heap.size]?= _
   simp
  refine⟨stepAlloc (step (newAlloc w _) hb1) _,?_,?_,get_ltB hz⟩
  ·exact((newAlloc w1 _).block _ (get_ltB hz)).trans hz
  ·show(w1.heap.push _)[w1.heap.size]?= _
   simp
 have HG1:=hid (HG0.out.later (newAlloc _ (ptrObj w1.heap.size)))
 have HQ0:Hid (PtrAt w1.heap.size ((w1.alloc (batBox [] (.slice none 0 0))).alloc (ptrObj w1.heap.size))):=alloc_atB _ _ _ (by simp)
 unfold batBox at HG1 HQ0
 unfold ptrObj at HG1
 rw[show ptrObj w1.heap.size= .cells #[.pointer (some ⟨w1.heap.size,1,none⟩),.pointer (some ⟨w1.heap.size,2,none⟩),.pointer (some ⟨w1.heap.size,3,none⟩),.pointer (some ⟨w1.heap.size,4,none⟩)] 55 from rfl] at HQ0
 simp only[List.getD_nil] at HG1 HQ0
 generalize hW:(w1.alloc _).alloc _=W at HG1 HQ0 ⊢
 generalize w1.heap.size=A at HG1 HQ0 ⊢
 clear hb1 hW HG0 C1
 go_wp2_with fail
 go_loopw [1,8,11,41] (fun x c _ i wr=> ∃(G:List Int) (T:Int),G.length<=4/\i= .int .i64 (G.length:Int)/\x= .int .i64 T/\c= .int .i64 0/\T<=(bs.length:Int)/\Hid (GB w A (batBox G (.slice none 0 0)) wr)/\Hid (PtrAt A wr)/\Hid (readNs bs [] t1 4=readNs bs G T (4 - G.length))) (fun _ _ _ i _=>4 - (intOf i).toNat)
 case atStart=>exact⟨[],t1,by simp,rfl,rfl,rfl,b1,HG1,HQ0,hid rfl⟩
 case round=>
  obtain⟨G,T,hj,rfl,rfl,rfl,hT,HG,HQ,HF⟩:=hrel
  by_cases hlt:G.length<4
  ·obtain⟨m,hm⟩: ∃m,4 - G.length=m+1:=⟨4 - G.length - 1,by omega⟩
   rcases hS:numOf bs T with ⟨x,u,e⟩
   have b5:u<=bs.length:=by have:=numOf_le bs T;rw[hS] at this;exact this
   have CK:=hid (CN.out T x u e hT hS)
   have hF:=HF.out
   rw[hm] at hF
   have hp:wr.cell? ⟨A+1,G.length,none⟩=some (.pointer (some ⟨A,G.length+1,none⟩)):=by
    have hq:wr.heap[A+1]?=some (ptrObj A):=HQ.out
    unfold ptrObj at hq
    rw[cell_at hq]
    match G,hlt with
    | [],_=>rfl
    | [a],_=>rfl
    | [a,b],_=>rfl
    | [a,b,c],_=>rfl
   have HC:Hid (∀wx,GB w A (batBox G (.slice none 0 0)) wx-> ∃y,wx.cell? ⟨A,G.length+1,none⟩=some (.int .i64 y)):=hid fun wx hx=>by
    obtain⟨⟨k0,k1,k2,k3,k4,k5⟩,kf⟩:=hx.bc
    match G,hlt with
    | [],_=>exact⟨_,k1⟩
    | [a],_=>exact⟨_,k2⟩
    | [a,b],_=>exact⟨_,k3⟩
    | [a,b,c],_=>exact⟨_,k4⟩
   have HQL:Hid (∀wx,Below wr.heap.size wr wx->PtrAt A (wx.setCell ⟨A,G.length+1,none⟩ (.int .i64 x))):=hid fun wx hb=>by
    have hq:wr.heap[A+1]?=some (ptrObj A):=HQ.out
    unfold PtrAt
    rw[Below.heap_setCell _ _ _ _ (by show A+1≠A;omega)]
    exact(hb.block _ (get_ltB hq)).trans hq
   clear HF
   by_cases y:e≠0
   ·have d:(e != 0)=true:=by simpa using y
    rw[readNs_bad hS y] at hF
    have hl:l= []/\t2=0/\e2=e:=by
     rw[hN] at hF
     cases hF
     exact⟨rfl,rfl,rfl⟩
    obtain⟨rfl,rfl,rfl⟩:=hl
    rw[tail_bad _ _ _ _ y]
    clear hF hS y CR CN hN
    go_wp2_with (go_at_call 26;refine(CK.out _ HG.out.below).mono ?_;rintro e w2 ⟨rfl,hb2⟩;have HG2:=hid (HG.out.later hb2);obtain⟨y0,hy0⟩:=HC.out _ HG2.out;have hyf:=HG2.out.bc.2;have HG3:=hid (HG2.out.num hlt x);obtain⟨⟨c0,c1,c2,c3,c4,c5⟩,f0⟩:=HG3.out.zc)
    refine bodyPost_ret (by simp [results,Try.results10,go_sem,c0,c1,c2,c3,c4,c5]<;>rfl) rfl (GetsB.zeroed rfl (set6z HG3.out.below _ _ _ _ _ _))
   obtain rfl:e=0:=by omega
   rw[readNs_ok hS] at hF
   have HF2:=hid hF
   clear hF hS y CR CN hN
   go_wp2_with (go_at_call 26;refine(CK.out _ HG.out.below).mono ?_;rintro e w2 ⟨rfl,hb2⟩;have HG2:=hid (HG.out.later hb2);obtain⟨y0,hy0⟩:=HC.out _ HG2.out;have hyf:=HG2.out.bc.2;have HG3:=hid (HG2.out.num hlt x);have HQ3:=hid (HQL.out _ hb2))
   go_roundw
   case rel=>exact⟨G++ [x],u,by simp;omega,by rw[List.length_append];go_num,rfl,rfl,b5,HG3,HQ3,hid (by rw[HF2.out,List.length_append,show 4 - (G.length+ [x].length)=m by simp;omega])⟩
   case measure=>simp [intOf];omega
  ·have hG4:G.length=4:=by omega
   rw[hG4]
   have hF:=HF.out
   rw[hG4,show 4 - 4=0 from rfl,readNs,hN] at hF
   have hl:l=G/\t2=T/\e2=0:=by
    cases hF
    exact⟨rfl,rfl,rfl⟩
   obtain⟨rfl,rfl,rfl⟩:=hl
   rcases hS:getRsF bs t2 with ⟨q,u,e⟩
   have CK:=CR.out t2 hT
   rw[hS] at CK
   have CK:=hid CK
   obtain⟨la,lb,lc,ld,hl4⟩: ∃a b c d,l= [a,b,c,d]:=by
    match l,hG4 with
    | [a,b,c,d],_=>exact⟨a,b,c,d,rfl⟩
   have CM:Hid (∀(v:Value) (w':World),RdR w' v q->Calls Try.prog 12 #[.agg #[.bool false,.int .i64 la,.int .i64 lb,.int .i64 lc,.int .i64 ld,v]] w' (SaysB (mayB (batOf l q)) w')):=fun v w' hq=>by rw[hl4];exact MayB_any (batOf [la,lb,lc,ld] q) v w' hq
   obtain⟨⟨k0,k1,k2,k3,k4,k5⟩,kf⟩:=HG.out.bc
   have hA:A<wr.heap.size:=get_ltB HG.out.box
   clear HF hF CR CN hN hlt HQ k0 k1 k2 k3 k4 k5 kf
   rw[hl4] at HG
   have HL4:=hid hl4
   clear hl4 hG4
   by_cases y:e≠0
   ·have d:(e != 0)=true:=by simpa using y
    have TL:=hid (tail_rs (l:=l) hS y)
    clear hS y CM
    go_wp2_with (go_at_call 27;refine(CK.out _ HG.out.below).mono ?_;rintro e w2 ⟨q2,rfl,hr2,hb2⟩;obtain⟨qa,qc,rfl⟩:=Rw.own_form hr2;have HG2:=hid (HG.out.later hb2);obtain⟨⟨k0,k1,k2,k3,k4,k5⟩,kf⟩:=HG2.out.bc4;have HG3:=hid (HG2.out.list (.slice qa q.length qc));obtain⟨⟨c0,c1,c2,c3,c4,c5⟩,f0⟩:=HG3.out.zc)
    rw[TL.out]
    refine bodyPost_ret (by simp [results,Try.results10,go_sem,c0,c1,c2,c3,c4,c5]<;>rfl) rfl (GetsB.zeroed rfl (set6z HG3.out.below _ _ _ _ _ _))
   obtain rfl:e=0:=by omega
   have TL:=hid (tail_ok (l:=l) hS)
   have HBO:Hid (batOf l q=batOf [la,lb,lc,ld] q):=hid (by rw[HL4.out])
   clear hS y
   cases hm:mayB (batOf l q)
   case false=>
    have HM:=hid hm
    clear hm
    go_wp2_with (first
     | (go_at_call 27;refine(CK.out _ HG.out.below).mono ?_;rintro e w2 ⟨q2,rfl,hr2,hb2⟩;obtain⟨qa,qc,rfl⟩:=Rw.own_form hr2;have HG2:=hid (HG.out.later hb2);obtain⟨⟨k0,k1,k2,k3,k4,k5⟩,kf⟩:=HG2.out.bc4;have HG3:=hid (HG2.out.list (.slice qa q.length qc));obtain⟨⟨x0,x1,x2,x3,x4,x5⟩,xf⟩:=HG3.out.bc4;have HO3:=hid (own_box hr2 hA (.slice qa q.length qc)))
     | (go_at_call 12;refine(CM.out _ _ (RdX.own cellsR_length HO3.out)).mono ?_;rw[HM.out];rintro e w3 ⟨rfl,hb3⟩;have HG4:=hid (HG3.out.later hb3);have HO4:=hid (Rw.own_below HO3.out hb3);obtain⟨⟨c0,c1,c2,c3,c4,c5⟩,f0⟩:=HG4.out.zc;obtain⟨⟨y0,y1,y2,y3,y4,y5⟩,yf⟩:=HG4.out.bc4))
    rw[TL.out,HM.out,if_neg (by simp)]
    refine bodyPost_ret (by simp [results,Try.results10,go_sem,c0,c1,c2,c3,c4,c5]<;>rfl) rfl (GetsB.zeroed rfl (set6z HG4.out.below _ _ _ _ _ _))
   have HM:=hid hm
   clear hm
   go_wp2_with (first
     | (go_at_call 27;refine(CK.out _ HG.out.below).mono ?_;rintro e w2 ⟨q2,rfl,hr2,hb2⟩;obtain⟨qa,qc,rfl⟩:=Rw.own_form hr2;have HG2:=hid (HG.out.later hb2);obtain⟨⟨k0,k1,k2,k3,k4,k5⟩,kf⟩:=HG2.out.bc4;have HG3:=hid (HG2.out.list (.slice qa q.length qc));obtain⟨⟨x0,x1,x2,x3,x4,x5⟩,xf⟩:=HG3.out.bc4;have HO3:=hid (own_box hr2 hA (.slice qa q.length qc)))
     | (go_at_call 12;refine(CM.out _ _ (RdX.own cellsR_length HO3.out)).mono ?_;rw[HM.out];rintro e w3 ⟨rfl,hb3⟩;have HG4:=hid (HG3.out.later hb3);have HO4:=hid (Rw.own_below HO3.out hb3);obtain⟨⟨c0,c1,c2,c3,c4,c5⟩,f0⟩:=HG4.out.zc;obtain⟨⟨y0,y1,y2,y3,y4,y5⟩,yf⟩:=HG4.out.bc4))
   rw[TL.out,HM.out,if_pos rfl,HBO.out]
   refine bodyPost_ret (by simp [results,Try.results10,go_sem,c0,c1,c2,c3,c4,c5]<;>rfl) rfl ⟨.slice qa q.length qc,rfl,RdX.own cellsR_length (Rw.own_keep HO4.out fun g hg=>?_),set6z HG4.out.below _ _ _ _ _ _⟩
   have hg1:=(Rw.own_lt HO4.out g hg).1
   have hne:g≠w.heap.size:=by have:=HG.out.lt;omega
   have key: ∀(W:World) (i:Nat) (u:Value),(W.setCell ⟨w.heap.size,i,none⟩ u).heap[g]?=W.heap[g]?:=fun W i u=>Below.heap_setCell _ _ _ _ hne
   rw[key,key,key,key,key,key]
end Cm
end Go.Proofs.Ytlaomehfhooiaaa
