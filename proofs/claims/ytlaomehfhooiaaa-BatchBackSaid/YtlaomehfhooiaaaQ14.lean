/- Texts laid together by program. -/
import Derived.Test.YtlaomehfhooiaaaQ13
/- Contracts: the document's nums, Get of a batch. -/
set_option linter.unusedVariables false
set_option maxRecDepth 8000
set_option linter.unusedSimpArgs false
namespace Go.Proofs.Ytlaomehfhooiaaa
open Lib (hid)
open Go.RowKit
namespace Cm

def cellsZ (x:Int):List Value:= [.int .i64 x]
theorem cellsZ_length (x:Int):(cellsZ x).length =1:=rfl
theorem cellsZ_one (x:Int): ∀u∈cellsZ x,u.oneCell'=true:=by
 intro u hu
 simp only[cellsZ,List.mem_cons,List.not_mem_nil,or_false] at hu
 subst hu
 rfl
def GetsZ (r:List Int × Int × Int) (w:World) (e:Ending) (w':World):Prop:=
 ∃v,e= .returned (.tuple #[v,.int .i64 r.2.1,.int .i64 r.2.2])/\w'.ownsRow w.heap.size 3 1 v r.1.length (flatX cellsZ r.1)/\Below w.heap.size w w'
set_option maxHeartbeats 4000000 in
theorem RefNums_any (v:Value) (bs:List UInt8) (t:Int) (N:Nat) (w:World) (h:Rd w v bs) (ht:t<=bs.length) (hN:N<=4):
  Calls Try.prog 29 #[v,.int .i64 t,.int .i64 (N:Int)] w (GetsZ (readNs bs [] t N) w):=by
 have hlen:=Rd.len_le h
 unfold maxLen at hlen
 have CR:Hid (∀T x u e,T<=(bs.length:Int)->numOf bs T=(x,u,e)-> ∀w',Below w.heap.size w w'->Calls Try.prog 52 #[v,.int .i64 T] w' (Three (x,u,e) w')):=fun T x u e hT hE w' hb=>by rw[<-hE];exact Ref1.Num_any v bs T w' (h.later hb) (by omega)
 obtain⟨i5,hi5,h50,h51,h52⟩:=info_partsB infoIntB
 clear h
 go_enter Try.func29,Try.ntmps29
 go_wp2_with fail
 go_loopw [1,9,10,11,12,13] (fun x u i _ _ _ wr=> ∃(j:Nat) (T:Int) (G:List Int),j<=N/\i= .int .i64 (j:Int)/\x= .int .i64 T/\G.length=j/\T<=(bs.length:Int)/\Hid (wr.ownsRow w.heap.size 3 1 u G.length (flatX cellsZ G))/\Hid (Below w.heap.size w wr)/\Hid (readNs bs [] t N=readNs bs G T (N - j))) (fun _ _ i _ _ _ _=>N - (intOf i).toNat)
 case atStart=>exact⟨0,t,[],by omega,rfl,rfl,rfl,ht,hid (World.ownsRow_nil _ _ _ _),hid (Below.refl _ _),hid rfl⟩
 case round=>
  obtain⟨j,T,G,hj,rfl,rfl,hGl,hT,HO,HB,HF⟩:=hrel
  by_cases hlt:j<N
  ·obtain⟨m,hm⟩: ∃m,N - j=m+1:=⟨N - j - 1,by omega⟩
   rcases hS:numOf bs T with ⟨x,u,e⟩
   have b5:u<=bs.length:=by have:=numOf_le bs T;rw[hS] at this;exact this
   have CK:=hid (CR.out T x u e hT hS)
   have hF:=HF.out
   rw[hm] at hF
   by_cases y:e≠0
   ·have d:(e != 0)=true:=by simpa using y
    rw[readNs_bad hS y] at hF
    have HF2:=hid hF
    clear hF HF hS y CR hGl
    go_wp2_with (go_at_call 52;refine(CK.out _ HB.out).mono ?_;rintro e w2 ⟨rfl,hb2⟩;have HB2:=hid (step HB.out hb2))
    rw[HF2.out]
    refine bodyPost_ret (by simp [results,Try.results29,go_sem]<;>rfl) rfl ⟨_,rfl,World.ownsRow_nil _ _ _ _,HB2.out⟩
   obtain rfl:e=0:=by omega
   rw[readNs_ok hS] at hF
   have HF2:=hid hF
   clear hF HF hS y CR
   subst hGl
   obtain⟨ua,uc,hu⟩:=Rw.own_form HO.out
   subst hu
   go_wp2_with (first
    | (go_at_call 52;refine(CK.out _ HB.out).mono ?_;rintro e w2 ⟨rfl,hb2⟩;have HB2:=hid (step HB.out hb2);have HO2:=hid (Rw.own_below HO.out hb2))
    | (at_builtin;refine wpList_append_one cellsZ_length (by omega) rfl (.tmp 29) (.tmp 31) 49 rfl 3 i5 _ 8 Try.underlying49 hi5 h50 h51 h52 rfl #[.int .i64 x] x rfl (cellsZ_one x) G w.heap.size w.heap.size w _ rfl rfl HO2.out (by unfold maxLen;omega) (by omega) HB2.out.size HB2.out (Nat.le_refl _) ?_;intro v4 w4 hown4 hb4 hat4))
   go_roundw
   case rel=>exact⟨G.length+1,u,G++ [x],by omega,by go_num,rfl,by simp,b5,hid hown4,hid hb4,hid (by rw[HF2.out,show N - (G.length+1)=m by omega])⟩
   case measure=>simp [intOf];omega
  ·obtain rfl:j=N:=by omega
   have hF:=HF.out
   rw[Nat.sub_self,readNs] at hF
   have HF2:=hid hF
   clear hF HF CR
   go_wp2
   rw[HF2.out]
   refine bodyPost_ret (by simp [results,Try.results29,go_sem]<;>rfl) rfl ⟨_,rfl,HO.out,HB.out⟩
theorem GB.below1 {w:World} {A:Nat} {o:Obj} {wr wx:World} (h:GB w A o wr) (hb:Below (A+1) wr wx):GB w A o wx:=by
 have hl:=h.lt
 exact⟨h.below.trans (hb.mono (by omega)),(hb.block _ (by omega)).trans h.zero,(hb.block _ (by omega)).trans h.box,hl⟩
theorem GB.new {w W:World} (h:Below w.heap.size w W) (hz:W.heap[w.heap.size]?=some batZero) (o:Obj):GB w W.heap.size o (W.alloc o):=
 ⟨stepAlloc h _,((newAlloc W _).block _ (get_ltB hz)).trans hz,alloc_atB _ _ _ rfl,get_ltB hz⟩
theorem GB.put6 {w:World} {A:Nat} {x0 x1 x2 x3 x4 x5:Value} {wr:World} (h:GB w A (.cells #[x0,x1,x2,x3,x4,x5] 26) wr) (y0 y1 y2 y3 y4 y5:Value):
  GB w A (.cells #[y0,y1,y2,y3,y4,y5] 26) ((((((wr.setCell ⟨A,0,none⟩ y0).setCell ⟨A,1,none⟩ y1).setCell ⟨A,2,none⟩ y2).setCell ⟨A,3,none⟩ y3).setCell ⟨A,4,none⟩ y4).setCell ⟨A,5,none⟩ y5):=by
 have hl:=h.lt
 have hA:w.heap.size<=A:=by omega
 have hne:w.heap.size≠A:=by omega
 have key: ∀(W:World) (i:Nat) (u:Value),(W.setCell ⟨A,i,none⟩ u).heap[w.heap.size]?=W.heap[w.heap.size]?:=fun W i u=>Below.heap_setCell _ _ _ _ hne
 refine⟨((((((h.below.setCell hA _).setCell hA _).setCell hA _).setCell hA _).setCell hA _).setCell hA _),?_,?_,hl⟩
 ·rw[key,key,key,key,key,key]
  exact h.zero
 ·exact set_atB (set_atB (set_atB (set_atB (set_atB (set_atB h.box 0 y0) 1 y1) 2 y2) 3 y3) 4 y4) 5 y5
theorem rdz_at {w:World} {a:Option Addr} {n cap:Nat} {l:List Int} (h:RdX 1 cellsZ w (.slice a n cap) l) (i:Nat) (hi:i<l.length):
  ∃b o,a=some ⟨b,o,none⟩/\ ∀w':World,Below w.heap.size w w'->w'.cell? ⟨b,o+i,none⟩=some (.int .i64 l[i]):=by
 obtain⟨b,o,e,c⟩:=h.at i hi
 refine⟨b,o,e,fun w' hb=>?_⟩
 have:=c w' hb 0 _ rfl
 rw[Nat.mul_one] at this
 exact this
theorem four_cells {w:World} {a:Option Addr} {cap:Nat} {x y z u:Int} (h:RdX 1 cellsZ w (.slice a 4 cap) [x,y,z,u]):
  ∃b o,a=some ⟨b,o,none⟩/\ ∀w':World,Below w.heap.size w w'->w'.cell? ⟨b,o,none⟩=some (.int .i64 x)/\w'.cell? ⟨b,o+1,none⟩=some (.int .i64 y)/\w'.cell? ⟨b,o+2,none⟩=some (.int .i64 z)/\w'.cell? ⟨b,o+3,none⟩=some (.int .i64 u):=by
 obtain⟨b,o,rfl,c0⟩:=rdz_at h 0 (by simp)
 obtain⟨b1,o1,e1,c1⟩:=rdz_at h 1 (by simp)
 obtain⟨b2,o2,e2,c2⟩:=rdz_at h 2 (by simp)
 obtain⟨b3,o3,e3,c3⟩:=rdz_at h 3 (by simp)
 cases e1
 cases e2
 cases e3
 exact⟨b,o,rfl,fun w' hb=>⟨c0 w' hb,c1 w' hb,c2 w' hb,c3 w' hb⟩⟩
theorem readNs_len {bs:List UInt8} : ∀(k:Nat) (G L:List Int) (t u:Int),readNs bs G t k=(L,u,0)->L.length=G.length+k
 | 0,G,L,t,u,h=>by rw[readNs] at h;cases h;rfl
 | k+1,G,L,t,u,h=>by
  rcases hN:numOf bs t with ⟨v,s,e⟩
  by_cases he:e≠0
  ·rw[readNs_bad hN he] at h
   exact absurd (congrArg (fun x=>x.2.2) h) he
  ·obtain rfl:e=0:=by omega
   rw[readNs_ok hN] at h
   have:=readNs_len k _ _ _ _ h
   rw[this,List.length_append]
   simp
   omega
theorem rs_bad1 {bs:List UInt8} {t t3 n e:Int} (h:byteOf bs t=(n,t3,e)) (he:e≠0):getRsF bs t=([],0,e):=by
 unfold getRsF
 rw[h]
 exact if_pos he
theorem rs_bad2 {bs:List UInt8} {t t3 n:Int} (h:byteOf bs t=(n,t3,0)) (hn:3<n):getRsF bs t=([],0,4):=by
 unfold getRsF
 rw[h,if_neg (by simp)]
 exact if_pos hn
theorem rs_ok {bs:List UInt8} {t t3:Int} {N:Nat} (h:byteOf bs t=((N:Int),t3,0)) (hn:N<=3):getRsF bs t=readRs bs [] t3 N:=by
 unfold getRsF
 rw[h,if_neg (by simp),if_neg (by simp;omega)]
 rfl
end Cm
end Go.Proofs.Ytlaomehfhooiaaa
