/- Texts laid together by program. -/
import Derived.Test.YtlaomehfhooiaaaQ4
import Derived.Lib.AppendZeros
/- Contracts: slices.Grow and slices.Concat over bytes. -/
set_option linter.unusedVariables false
set_option maxRecDepth 8000
set_option linter.unusedSimpArgs false
namespace Go.Proofs.Ytlaomehfhooiaaa
open Lib (hid)
open Go.RowKit

theorem owns_new (w:World) (cs:Array Value) (cap:Nat) (hc:cs.size=cap) (hm:cap<=maxLen):
  (w.alloc (.cells cs 5)).drew.ownsRow w.heap.size 5 1 (.slice (some ⟨w.heap.size,0,none⟩) 0 cap) 0 []:=by
 refine⟨rfl,.inr ⟨w.heap.size,cap,cs,rfl,Nat.le_refl _,?_,Nat.zero_le _,hm,by omega,by simp⟩⟩
 show(w.heap.push (.cells cs 5))[w.heap.size]?= _
 simp
theorem Grow_nil (n:Nat) (w:World) (h0:0<n) (h:n<=1000000):
  Calls Try.prog 59 #[.slice none 0 0,.int .i64 (n:Int)] w fun e w'=> ∃cap,e= .returned (.slice (some ⟨w.heap.size,0,none⟩) 0 cap)/\
   w'.ownsRow w.heap.size 5 1 (.slice (some ⟨w.heap.size,0,none⟩) 0 cap) 0 []/\Below w.heap.size w w':=by
 obtain⟨i0,hi,hz0,hz1,hz2⟩:=info_parts info8
 have hr:=fun ty=>Lib.run_append_nil_zeros (P:=Try.prog) w 27 3 ty 5 i0 (.int .u8 0) .i64 .i64 Try.underlying27 Try.underlying3 hi hz0 n h0 (by rw[hz1];omega) (by omega) (by rw[hz2];omega)
 have hge:=grownCap_ge w n 0 5
 have hle:=grownCap_le_maxLen w n 0 5 (by unfold maxLen;omega)
 generalize grownCap w n 0 5=cap at hr hge hle
 have hmx:=hle
 unfold maxLen at hmx
 have HR:=hid hr
 clear hr
 go_enter Try.func59,Try.ntmps59
 go_wp2_with (at_builtin;refine Lib.wpList_append_run _ rfl _ _ _ _ rfl _ _ rfl rfl _ _ (HR.out _) ?_)
 go_ret
 exact⟨cap,rfl,owns_new w _ cap (by simp [Builtin.zeroCells];omega) hle,((Below.refl _ _).alloc (Nat.le_refl _) _).drew⟩
def flat (l:List (Value × List UInt8)):List UInt8:=l.flatMap (·.2)
theorem flat_take_succ (l:List (Value × List UInt8)) (j:Nat) (h:j<l.length):flat (l.take (j+1))=flat (l.take j)++(l[j]).2:=by
 unfold flat
 rw[List.take_succ_eq_append_getElem h,List.flatMap_append]
 simp
theorem flat_take_le (l:List (Value × List UInt8)) (j:Nat):(flat (l.take j)).length <=(flat l).length :=by
 conv=>rhs;rw[<-List.take_append_drop j l]
 unfold flat
 rw[List.flatMap_append,List.length_append]
 omega
def MadeOne (bs:List UInt8) (w:World) (e:Ending) (w':World):Prop:=
 ∃v,e= .returned v/\w'.ownsRow w.heap.size 5 1 v bs.length (cellsOf bs)/\Below w.heap.size w w'
theorem Concat_any (b:Nat) (l:List (Value × List UInt8)) (w:World) (hc: ∀j (h:j<l.length),w.cell? ⟨b,j,none⟩=some (l[j]).1/\Rd w (l[j]).1 (l[j]).2) (hk:l.length<=1000) (h0:0<(flat l).length) (h1:(flat l).length <=1000000):
  Calls Try.prog 42 #[.slice (some ⟨b,0,none⟩) l.length l.length] w (MadeOne (flat l) w):=by
 obtain⟨i0,hi,hz0,hz1,hz2⟩:=info_parts info8
 have HC:=hid hc
 have HS:=hid (flat_take_succ l)
 have HL:=hid (flat_take_le l)
 clear hc
 go_enter Try.func42,Try.ntmps42
 go_wp2
 go_loop [3,11] (fun z i=> ∃j:Nat,j<=l.length/\i= .int .i64 j/\z= .int .i64 ((flat (l.take j)).length :Int)) (fun _ i=>l.length - (intOf i).toNat)
 case atStart=>exact⟨0,by omega,rfl,rfl⟩
 case round=>
  obtain⟨j,hj,rfl,rfl⟩:=hrel
  by_cases hlt:j<l.length
  ·obtain⟨hcell,hrd⟩:=HC.out j hlt
   have hsz:(flat (l.take (j+1))).length =(flat (l.take j)).length +(l[j]).2.length :=by rw[HS.out j hlt,List.length_append]
   have hle:=HL.out (j+1)
   generalize l[j]=x at hcell hrd hsz
   obtain⟨v,bs⟩:=x
   obtain⟨a,len,cap,rfl,hl,hcp,hm,hn,hx⟩:=hrd.ex
   clear hn hx hrd
   dsimp only at hcell hsz hl
   subst hl
   unfold maxLen at hm
   generalize (flat (l.take j)).length =A at hsz ⊢
   generalize hB:(flat (l.take (j+1))).length =B at hsz hle ⊢
   have HB:=hid hB
   clear hB
   go_wp2
   go_round
   case rel=>exact⟨j+1,by omega,by go_num,by rw[HB.out,hsz];go_num⟩
   case measure=>simp [intOf];omega
  ·obtain rfl:j=l.length:=by omega
   rw[List.take_length]
   have G:Hid (∀w,Calls Try.prog 59 #[.slice none 0 0,.int .i64 ((flat l).length :Int)] w fun e w'=> ∃cap,e= .returned (.slice (some ⟨w.heap.size,0,none⟩) 0 cap)/\
    w'.ownsRow w.heap.size 5 1 (.slice (some ⟨w.heap.size,0,none⟩) 0 cap) 0 []/\Below w.heap.size w w'):=fun w=>Grow_nil _ w h0 h1
   go_wp2_with (go_at_call 59;refine(G.out _).mono ?_;rintro e w1 ⟨cap,rfl,hown,hb⟩)
   go_loopw [6,27] (fun v i wr=> ∃j:Nat,j<=l.length/\i= .int .i64 j/\wr.ownsRow w.heap.size 5 1 v (flat (l.take j)).length (cellsOf (flat (l.take j)))/\Below w.heap.size w wr) (fun _ i _=>l.length - (intOf i).toNat)
   case atStart=>exact⟨0,by omega,rfl,hown,hb⟩
   case round=>
    obtain⟨j,hj,rfl,ho,hbw⟩:=hrel
    by_cases hlt:j<l.length
    ·obtain⟨hcell0,hrd0⟩:=HC.out j hlt
     have hcell:=hbw.cell (p:=⟨b,j,none⟩) (lt_of_cell hcell0)
     rw[hcell0] at hcell
     have hrd:=hrd0.later hbw
     have hsz:flat (l.take (j+1))=flat (l.take j)++(l[j]).2:=HS.out j hlt
     have hle:=HL.out (j+1)
     have hbs:=hbw.size
     rw[hsz] at hle
     generalize l[j]=x at hcell hrd hsz hle
     clear hcell0 hrd0
     obtain⟨v,bs⟩:=x
     dsimp only at hcell hrd hsz hle
     rw[List.length_append] at hle
     have HZ:=hid hsz
     clear hsz
     generalize flat (l.take j)=A at ho hle HZ
     have HO:=hid ho
     have HR:=hid hrd
     have HB:=hid hbw
     clear ho hrd hbw
     go_wp2_with (at_builtin;refine wpList_append_rd rfl _ _ 27 rfl w.heap.size 5 i0 Try.underlying27 hi hz0 hz1 hz2 _ _ _ rfl HO.out _ bs rfl HR.out (by omega) hbs ?_;intro v1 w2 hown2 hgrow2)
     go_roundw
     case rel=>exact⟨j+1,by omega,by go_num,by rw[HZ.out,List.length_append,cellsOf_append];exact hown2,HB.out.grown hgrow2 hbs (fun k hk=>(HO.out.lt k hk).1)⟩
     case measure=>simp [intOf];omega
    ·obtain rfl:j=l.length:=by omega
     rw[List.take_length] at ho
     go_wp2
     go_ret
     exact⟨_,rfl,ho,hbw⟩
theorem Concat_three (w:World) (b:Nat) (u v x:Value) (us vs xs:List UInt8) (hu:Rd w u us) (hv:Rd w v vs) (hx:Rd w x xs) (h0:w.cell? ⟨b,0,none⟩=some u) (h1:w.cell? ⟨b,1,none⟩=some v) (h2:w.cell? ⟨b,2,none⟩=some x)
  (hp:0<us.length) (hl:us.length+vs.length+xs.length<=1000000):
  Calls Try.prog 42 #[.slice (some ⟨b,0,none⟩) 3 3] w (MadeOne (us++(vs++xs)) w):=by
 have e:flat [(u,us),(v,vs),(x,xs)]=us++(vs++xs):=by simp [flat]
 have:=Concat_any b [(u,us),(v,vs),(x,xs)] w (fun j h=>by
  match j,h with
  | 0,_=>exact⟨h0,hu⟩
  | 1,_=>exact⟨h1,hv⟩
  | 2,_=>exact⟨h2,hx⟩) (by simp) (by rw[e];simp;omega) (by rw[e];simp;omega)
 rw[e] at this
 exact this
end Go.Proofs.Ytlaomehfhooiaaa

/- Contracts: package cmd's Put, Get of commands. -/
set_option linter.unusedVariables false
set_option maxRecDepth 8000
set_option linter.unusedSimpArgs false
namespace Go.Proofs.Ytlaomehfhooiaaa
open Lib (hid)
open Go.RowKit
namespace Cm

theorem box3 {w w':World} {x y z:Value} {t:TypeId} (h:Below (w.alloc (.cells #[x,y,z] t)).heap.size (w.alloc (.cells #[x,y,z] t)) w'):
  w'.cell? ⟨w.heap.size,0,none⟩=some x/\w'.cell? ⟨w.heap.size,1,none⟩=some y/\w'.cell? ⟨w.heap.size,2,none⟩=some z:=by
 have hl:w.heap.size<(w.alloc (.cells #[x,y,z] t)).heap.size :=by simp
 refine⟨?_,?_,?_⟩
 ·rw[h.cell (p:=⟨w.heap.size,0,none⟩) hl];simp [go_sem]
 ·rw[h.cell (p:=⟨w.heap.size,1,none⟩) hl];simp [go_sem]
 ·rw[h.cell (p:=⟨w.heap.size,2,none⟩) hl];simp [go_sem]
theorem box5 {w w':World} {x y z u v:Value} {t:TypeId} (h:Below (w.alloc (.cells #[x,y,z,u,v] t)).heap.size (w.alloc (.cells #[x,y,z,u,v] t)) w'):
  w'.cell? ⟨w.heap.size,0,none⟩=some x/\w'.cell? ⟨w.heap.size,1,none⟩=some y/\w'.cell? ⟨w.heap.size,2,none⟩=some z/\w'.cell? ⟨w.heap.size,3,none⟩=some u/\w'.cell? ⟨w.heap.size,4,none⟩=some v:=by
 have hl:w.heap.size<(w.alloc (.cells #[x,y,z,u,v] t)).heap.size :=by simp
 refine⟨?_,?_,?_,?_,?_⟩
 ·rw[h.cell (p:=⟨w.heap.size,0,none⟩) hl];simp [go_sem]
 ·rw[h.cell (p:=⟨w.heap.size,1,none⟩) hl];simp [go_sem]
 ·rw[h.cell (p:=⟨w.heap.size,2,none⟩) hl];simp [go_sem]
 ·rw[h.cell (p:=⟨w.heap.size,3,none⟩) hl];simp [go_sem]
 ·rw[h.cell (p:=⟨w.heap.size,4,none⟩) hl];simp [go_sem]
def MadeS (r:List UInt8 × Int) (w:World) (e:Ending) (w':World):Prop:=
 ∃a l c,e= .returned (.tuple #[.slice a l c,.int .i64 r.2])/\Rd w' (.slice a l c) r.1/\Below w.heap.size w w'
theorem Made.s {r:List UInt8 × Int} {w:World} {e:Ending} {w':World} (h:Made r w e w'):MadeS r w e w':=by
 obtain⟨v,he,ho,hb⟩:=h
 have hr:=Rd.own ho
 obtain⟨a,l,c,rfl,_⟩:=hr.ex
 exact⟨a,l,c,he,hr,hb⟩
theorem PutByte_in (k:Int) (w:World) (h0:0<=k) (h1:k<=255):Calls Try.prog 40 #[.int .i64 k] w (MadeS ([UInt8.ofNat k.toNat],0) w):=by
 refine(PutByte_any k w).mono fun e w' h=>?_
 unfold putByteOf at h
 rw[if_neg (by omega)] at h
 exact Made.s h
theorem PutNum_in (k:Int) (w:World) (h0:0<=k) (h1:k<=2305843009213693952):Calls Try.prog 21 #[.int .i64 k] w (MadeS (be8 k.toNat,0) w):=by
 refine(PutNum_any k w).mono fun e w' h=>?_
 unfold putNumOf at h
 rw[if_neg (by omega)] at h
 exact Made.s h
theorem PutText_in (s:List UInt8) (w:World) (h1:s.length<=12):Calls Try.prog 58 #[.string (bstr s)] w (MadeS (UInt8.ofNat s.length::s,0) w):=by
 refine(PutText_any (bstr s) w).mono fun e w' h=>?_
 unfold putTextOf at h
 rw[bstr_size,if_neg (by omega),bstr_toList] at h
 exact Made.s h
theorem MadeOne.made {bs:List UInt8} {w0 w w':World} {e:Ending} (h:MadeOne bs w e w') (hb:w0.heap.size<=w.heap.size): ∃v,e= .returned v/\w'.ownsRow w0.heap.size 5 1 v bs.length (cellsOf bs)/\Below w.heap.size w w':=by
 obtain⟨v,he,ho,hbb⟩:=h
 exact⟨v,he,own_mono ho hb,hbb⟩
set_option maxHeartbeats 1000000 in
theorem Put_any (c:CmdV) (w:World):Calls Try.prog 41 #[cmdVal c] w (Made (putF c) w):=by
 have C0:=hid (fun w=>May_any c w)
 unfold putF
 cases hm:mayF c
 ·have HM:=hid hm
  clear hm
  obtain⟨k,s,n⟩:=c
  unfold cmdVal at C0 ⊢
  dsimp only at C0 ⊢
  go_enter Try.func41,Try.ntmps41
  go_wp2_with (go_at_call 57;refine(C0.out _).mono ?_;rw[HM.out];rintro e w1 ⟨rfl,hb1⟩)
  go_ret2
  exact⟨_,rfl,World.ownsRow_nil _ _ _ _,step (newAlloc _ _) hb1⟩
 ·obtain⟨hk,hs,hn⟩:=may_bounds c hm
  have HM:=hid hm
  clear hm
  have hbl:bytesC c= [UInt8.ofNat c.kind.toNat]++(be8 c.session.toNat++(UInt8.ofNat c.name.length::c.name)):=rfl
  have HBL:=hid hbl
  clear hbl
  obtain⟨k,s,n⟩:=c
  unfold cmdVal at C0 ⊢
  dsimp only at C0 hk hs hn HBL ⊢
  have C1:=hid (fun w=>PutByte_in k w (by omega) (by omega))
  have C2:=hid (fun w=>PutNum_in s w (by omega) (by omega))
  have C3:=hid (fun w=>PutText_in n w hn)
  go_enter Try.func41,Try.ntmps41
  go_wp2_with (first
   | (go_at_call 57;refine(C0.out _).mono ?_;rw[HM.out];rintro e w1 ⟨rfl,hb1⟩;obtain⟨c0,c1,c2⟩:=box3 hb1)
   | (go_at_call 40;refine(C1.out _).mono ?_;rintro e w2 ⟨a2,l2,d2,rfl,hr2,hb2⟩;obtain⟨c0,c1,c2⟩:=box3 (step hb1 hb2))
   | (go_at_call 21;refine(C2.out _).mono ?_;rintro e w3 ⟨a3,l3,d3,rfl,hr3,hb3⟩;obtain⟨c0,c1,c2⟩:=box3 (step (step hb1 hb2) hb3))
   | (go_at_call 58;refine(C3.out _).mono ?_;rintro e w4 ⟨a4,l4,d4,rfl,hr4,hb4⟩;obtain⟨c0,c1,c2⟩:=box3 (step (step (step hb1 hb2) hb3) hb4)))
  have hb:=step (step (step (step (newAlloc _ _) hb1) hb2) hb3) hb4
  refine((Concat_three _ w4.heap.size _ _ _ _ _ _ (hr2.later (stepAlloc (step hb3 hb4) _)) (hr3.later (stepAlloc hb4 _)) (hr4.later (newAlloc _ _)) (by simp [go_sem]) (by simp [go_sem]) (by simp [go_sem]) (by simp) (by simp [be8_length];omega)).mono fun e w' h=>MadeOne.made h (w0:=w) (Nat.le_trans hb.size (by simp))).mono ?_
  rintro e w5 ⟨v,rfl,ho,hb5⟩
  go_wp2
  go_ret2
  rw[HBL.out]
  exact⟨_,rfl,ho,step (stepAlloc hb _) hb5⟩
theorem Rd.len_le {w:World} {v:Value} {bs:List UInt8} (h:Rd w v bs):bs.length<=maxLen:=by
 obtain⟨a,l,c,_,h1,h2,h3,_⟩:=h.ex
 omega
theorem byteOf_le (bs:List UInt8) (t:Int):(byteOf bs t).2.1<=bs.length:=by
 unfold byteOf
 split
 ·simp
 ·simp only;omega
theorem numOf_le (bs:List UInt8) (t:Int):(numOf bs t).2.1<=bs.length:=by
 unfold numOf
 split
 ·simp
 ·split
  ·simp only;omega
  ·simp
theorem textOf_le (bs:List UInt8) (t m:Int):(textOf bs t m).2.1<=bs.length:=by
 unfold textOf
 split
 ·simp
 ·split
  ·simp
  ·split
   ·simp
   ·simp only;omega
def GetsC (r:CmdV × Int × Int) (w:World) (e:Ending) (w':World):Prop:=
 e= .returned (.tuple #[cmdVal r.1,.int .i64 r.2.1,.int .i64 r.2.2])/\Below w.heap.size w w'
theorem getF_told (bs:List UInt8) (t:Int) {k t1 e1 s t2 e2 t3 e3:Int} {n:List UInt8} (hB:byteOf bs t=(k,t1,e1)) (hN:numOf bs t1=(s,t2,e2)) (hT:textOf bs t2 12=(n,t3,e3)):
  getF bs t=if e1≠0 then (zero,0,e1) else if e2≠0 then (zero,0,e2) else if e3≠0 then (zero,0,e3) else if mayF ⟨k,s,n⟩ then (⟨k,s,n⟩,t3,0) else (zero,0,4):=by
 unfold getF
 rw[hB]
 dsimp only
 rw[hN]
 dsimp only
 rw[hT]
theorem free3 {w w':World} {x y z:Value} {t:TypeId} (h:Below (w.alloc (.cells #[x,y,z] t)).heap.size (w.alloc (.cells #[x,y,z] t)) w'):
  ∀k,w'.frozen? ⟨w.heap.size,k,none⟩=false:=by
 intro k
 have hl:w.heap.size<(w.alloc (.cells #[x,y,z] t)).heap.size :=by simp
 rw[h.frozen (p:=⟨w.heap.size,k,none⟩) hl]
 simp [go_sem]
theorem set3 {w w1:World} (h:Below w.heap.size w w1) (x y z:Value):Below w.heap.size w (((w1.setCell ⟨w.heap.size,0,none⟩ x).setCell ⟨w.heap.size,1,none⟩ y).setCell ⟨w.heap.size,2,none⟩ z):=
 ((h.setCell (Nat.le_refl _) _).setCell (Nat.le_refl _) _).setCell (Nat.le_refl _) _
set_option maxHeartbeats 2000000 in
theorem Get_any (v:Value) (bs:List UInt8) (t:Int) (w:World) (h:Rd w v bs) (ht:t<=9223372036854775807):
  Calls Try.prog 63 #[v,.int .i64 t] w (GetsC (getF bs t) w):=by
 have hlen:=Rd.len_le h
 unfold maxLen at hlen
 rcases hB:byteOf bs t with ⟨k,t1,e1⟩
 rcases hN:numOf bs t1 with ⟨s,t2,e2⟩
 rcases hT:textOf bs t2 12 with ⟨n,t3,e3⟩
 have b1:t1<=bs.length:=by have:=byteOf_le bs t;rw[hB] at this;exact this
 have b2:t2<=bs.length:=by have:=numOf_le bs t1;rw[hN] at this;exact this
 have C1:Hid (∀w',Below w.heap.size w w'->Calls Try.prog 25 #[v,.int .i64 t] w' (Three (k,t1,e1) w')):=fun w' hb=>by rw[<-hB];exact Byte_any v bs t w' (h.later hb) ht
 have C2:Hid (∀w',Below w.heap.size w w'->Calls Try.prog 26 #[v,.int .i64 t1] w' (Three (s,t2,e2) w')):=fun w' hb=>by rw[<-hN];exact Num_any v bs t1 w' (h.later hb) (by omega)
 have C3:Hid (∀w',Below w.heap.size w w'->Calls Try.prog 69 #[v,.int .i64 t2,.int .i64 12] w' (TextTold (n,t3,e3) w')):=fun w' hb=>by rw[<-hT];exact Text_any v bs t2 12 w' (h.later hb) (by omega)
 have C4:Hid (∀w',Calls Try.prog 57 #[cmdVal ⟨k,s,n⟩] w' (SaysB (mayF ⟨k,s,n⟩) w')):=fun w'=>May_any _ w'
 unfold cmdVal at C4
 dsimp only at C4
 rw[getF_told bs t hB hN hT]
 clear h hB hN hT b1 b2 hlen ht
 by_cases z1:e1≠0
 ·have d1:(e1==0)=false:=by simpa using z1
  rw[if_pos z1]
  go_enter Try.func63,Try.ntmps63
  go_wp2_with (first
   | (go_at_call 25;refine(C1.out _ (newAlloc _ _)).mono ?_;rintro e w1 ⟨rfl,hb1⟩;have B1:=step (newAlloc w _) hb1;obtain⟨c0,c1,c2⟩:=box3 hb1;have f0:=free3 hb1))
  refine bodyPost_ret (by simp [results,Try.results63,go_sem,c0,c1,c2];rfl) rfl ⟨rfl,set3 B1 _ _ _⟩
 rw[if_neg z1]
 obtain rfl:e1=0:=by omega
 clear z1
 by_cases z2:e2≠0
 ·have d1:(e2==0)=false:=by simpa using z2
  rw[if_pos z2]
  go_enter Try.func63,Try.ntmps63
  go_wp2_with (first
   | (go_at_call 25;refine(C1.out _ (newAlloc _ _)).mono ?_;rintro e w1 ⟨rfl,hb1⟩;have B1:=step (newAlloc w _) hb1;obtain⟨c0,c1,c2⟩:=box3 hb1;have f0:=free3 hb1)
   | (go_at_call 26;refine(C2.out _ B1).mono ?_;rintro e w2 ⟨rfl,hb2⟩;have B2:=step B1 hb2;have hb2:=step hb1 hb2;obtain⟨c0,c1,c2⟩:=box3 hb2;have f0:=free3 hb2))
  refine bodyPost_ret (by simp [results,Try.results63,go_sem,c0,c1,c2];rfl) rfl ⟨rfl,set3 B2 _ _ _⟩
 rw[if_neg z2]
 obtain rfl:e2=0:=by omega
 clear z2
 by_cases z3:e3≠0
 ·have d1:(e3==0)=false:=by simpa using z3
  rw[if_pos z3]
  go_enter Try.func63,Try.ntmps63
  go_wp2_with (first
   | (go_at_call 25;refine(C1.out _ (newAlloc _ _)).mono ?_;rintro e w1 ⟨rfl,hb1⟩;have B1:=step (newAlloc w _) hb1;obtain⟨c0,c1,c2⟩:=box3 hb1;have f0:=free3 hb1)
   | (go_at_call 26;refine(C2.out _ B1).mono ?_;rintro e w2 ⟨rfl,hb2⟩;have B2:=step B1 hb2;have hb2:=step hb1 hb2;obtain⟨c0,c1,c2⟩:=box3 hb2;have f0:=free3 hb2)
   | (go_at_call 69;refine(C3.out _ B2).mono ?_;rintro e w3 ⟨rfl,hb3⟩;have B3:=step B2 hb3;have hb3:=step hb2 hb3;obtain⟨c0,c1,c2⟩:=box3 hb3;have f0:=free3 hb3))
  refine bodyPost_ret (by simp [results,Try.results63,go_sem,c0,c1,c2];rfl) rfl ⟨rfl,set3 B3 _ _ _⟩
 rw[if_neg z3]
 obtain rfl:e3=0:=by omega
 clear z3
 cases hm:mayF ⟨k,s,n⟩
 ·have HM:=hid hm
  clear hm
  go_enter Try.func63,Try.ntmps63
  go_wp2_with (first
   | (go_at_call 25;refine(C1.out _ (newAlloc _ _)).mono ?_;rintro e w1 ⟨rfl,hb1⟩;have B1:=step (newAlloc w _) hb1;obtain⟨c0,c1,c2⟩:=box3 hb1;have f0:=free3 hb1)
   | (go_at_call 26;refine(C2.out _ B1).mono ?_;rintro e w2 ⟨rfl,hb2⟩;have B2:=step B1 hb2;have hb2:=step hb1 hb2;obtain⟨c0,c1,c2⟩:=box3 hb2;have f0:=free3 hb2)
   | (go_at_call 69;refine(C3.out _ B2).mono ?_;rintro e w3 ⟨rfl,hb3⟩;have B3:=step B2 hb3;have hb3:=step hb2 hb3;obtain⟨c0,c1,c2⟩:=box3 hb3;have f0:=free3 hb3)
   | (go_at_call 57;refine(C4.out _).mono ?_;rw[HM.out];rintro e w4 ⟨rfl,hb4⟩;have B4:=step (stepAlloc B3 _) hb4;obtain⟨g0,g1,g2⟩:=box3 hb4;have hb4:=step (stepAlloc hb3 _) hb4;obtain⟨c0,c1,c2⟩:=box3 hb4;have f0:=free3 hb4))
  refine bodyPost_ret (by simp [results,Try.results63,go_sem,c0,c1,c2];rfl) rfl ⟨rfl,set3 B4 _ _ _⟩
 ·have HM:=hid hm
  clear hm
  go_enter Try.func63,Try.ntmps63
  go_wp2_with (first
   | (go_at_call 25;refine(C1.out _ (newAlloc _ _)).mono ?_;rintro e w1 ⟨rfl,hb1⟩;have B1:=step (newAlloc w _) hb1;obtain⟨c0,c1,c2⟩:=box3 hb1;have f0:=free3 hb1)
   | (go_at_call 26;refine(C2.out _ B1).mono ?_;rintro e w2 ⟨rfl,hb2⟩;have B2:=step B1 hb2;have hb2:=step hb1 hb2;obtain⟨c0,c1,c2⟩:=box3 hb2;have f0:=free3 hb2)
   | (go_at_call 69;refine(C3.out _ B2).mono ?_;rintro e w3 ⟨rfl,hb3⟩;have B3:=step B2 hb3;have hb3:=step hb2 hb3;obtain⟨c0,c1,c2⟩:=box3 hb3;have f0:=free3 hb3)
   | (go_at_call 57;refine(C4.out _).mono ?_;rw[HM.out];rintro e w4 ⟨rfl,hb4⟩;have B4:=step (stepAlloc B3 _) hb4;obtain⟨g0,g1,g2⟩:=box3 hb4;have hb4:=step (stepAlloc hb3 _) hb4;obtain⟨c0,c1,c2⟩:=box3 hb4;have f0:=free3 hb4))
  refine bodyPost_ret (by simp [results,Try.results63,go_sem,c0,c1,c2];rfl) rfl ⟨rfl,set3 B4 _ _ _⟩
end Cm
end Go.Proofs.Ytlaomehfhooiaaa
