/- Texts laid together by program. -/
import Derived.Test.YtlaomehfhooiaaaQ5
import Derived.Lib.QuietBelow
import Derived.Deep.RegionHeld3
import Derived.BigQuiet
/- Contracts: package cmd's PutReq, GetReq. -/
set_option linter.unusedVariables false
set_option maxRecDepth 8000
set_option linter.unusedSimpArgs false
namespace Go.Proofs.Ytlaomehfhooiaaa
open Lib (hid)
open Go.RowKit
namespace Cm

theorem Put_in (c:CmdV) (h:mayF c=true) (w:World):Calls Try.prog 41 #[cmdVal c] w (MadeS (bytesC c,0) w):=by
 refine(Put_any c w).mono fun e w' q=>?_
 unfold putF at q
 rw[if_pos h] at q
 exact Made.s q
set_option maxHeartbeats 1000000 in
theorem PutReq_any (r:ReqV) (w:World):Calls Try.prog 22 #[reqVal r] w (Made (putR r) w):=by
 have C0:=hid (fun w=>MayReq_any r w)
 unfold putR
 cases hm:mayR r
 ·have HM:=hid hm
  clear hm
  obtain⟨c,q,k,s,n⟩:=r
  unfold reqVal at C0 ⊢
  dsimp only at C0 ⊢
  go_enter Try.func22,Try.ntmps22
  go_wp2_with (go_at_call 39;refine(C0.out _).mono ?_;rw[HM.out];rintro e w1 ⟨rfl,hb1⟩)
  go_ret2
  exact⟨_,rfl,World.ownsRow_nil _ _ _ _,step (newAlloc _ _) hb1⟩
 ·obtain⟨hk,hs,hc⟩:=mayR_bounds r hm
  have hbl:bytesR r= [UInt8.ofNat r.client.toNat]++(be8 r.seq.toNat++bytesC r.cmd):=rfl
  have hln:=bytesC_length r.cmd
  have hn:=(may_bounds _ hc).2.2
  have C3:=hid (fun w=>Put_in r.cmd hc w)
  have HM:=hid hm
  clear hm hc
  have HBL:=hid hbl
  clear hbl
  obtain⟨c,q,k,s,n⟩:=r
  unfold cmdVal at C3
  unfold reqVal at C0 ⊢
  dsimp only at C0 C3 hk hs hn hln HBL ⊢
  generalize bytesC ⟨k,s,n⟩=cb at hln C3 HBL
  have C1:=hid (fun w=>PutByte_in c w (by omega) (by omega))
  have C2:=hid (fun w=>PutNum_in q w (by omega) (by omega))
  go_enter Try.func22,Try.ntmps22
  go_wp2_with (first
   | (go_at_call 39;refine(C0.out _).mono ?_;rw[HM.out];rintro e w1 ⟨rfl,hb1⟩;obtain⟨c0,c1,c2,c3,c4⟩:=box5 hb1)
   | (go_at_call 40;refine(C1.out _).mono ?_;rintro e w2 ⟨a2,l2,d2,rfl,hr2,hb2⟩;obtain⟨c0,c1,c2,c3,c4⟩:=box5 (step hb1 hb2))
   | (go_at_call 21;refine(C2.out _).mono ?_;rintro e w3 ⟨a3,l3,d3,rfl,hr3,hb3⟩;obtain⟨c0,c1,c2,c3,c4⟩:=box5 (step (step hb1 hb2) hb3))
   | (go_at_call 41;refine(C3.out _).mono ?_;rintro e w4 ⟨a4,l4,d4,rfl,hr4,hb4⟩))
  have hb:=step (step (step (step (newAlloc _ _) hb1) hb2) hb3) hb4
  refine((Concat_three _ w4.heap.size _ _ _ _ _ _ (hr2.later (stepAlloc (step hb3 hb4) _)) (hr3.later (stepAlloc hb4 _)) (hr4.later (newAlloc _ _)) (by simp [go_sem]) (by simp [go_sem]) (by simp [go_sem]) (by simp) (by simp [be8_length];omega)).mono fun e w' h=>MadeOne.made h (w0:=w) (Nat.le_trans hb.size (by simp))).mono ?_
  rintro e w5 ⟨v,rfl,ho,hb5⟩
  go_wp2
  go_ret2
  rw[HBL.out]
  exact⟨_,rfl,ho,step (stepAlloc hb _) hb5⟩
def GetsR (r:ReqV × Int × Int) (w:World) (e:Ending) (w':World):Prop:=
 e= .returned (.tuple #[reqVal r.1,.int .i64 r.2.1,.int .i64 r.2.2])/\Below w.heap.size w w'
theorem getF_le (bs:List UInt8) (t:Int):(getF bs t).2.1<=bs.length:=by
 unfold getF
 split
 ·simp
 ·split
  ·simp
  ·split
   ·simp
   ·split
    ·exact textOf_le _ _ _
    ·simp
theorem getR_told (bs:List UInt8) (t:Int) {k t1 e1 s t2 e2 t3 e3:Int} {c:CmdV} (hB:byteOf bs t=(k,t1,e1)) (hN:numOf bs t1=(s,t2,e2)) (hT:getF bs t2=(c,t3,e3)):
  getR bs t=if e1≠0 then (zeroR,0,e1) else if e2≠0 then (zeroR,0,e2) else if e3≠0 then (zeroR,0,e3) else if mayR ⟨k,s,c⟩ then (⟨k,s,c⟩,t3,0) else (zeroR,0,4):=by
 unfold getR
 rw[hB]
 dsimp only
 rw[hN]
 dsimp only
 rw[hT]
theorem free5 {w w':World} {x y z u v:Value} {t:TypeId} (h:Below (w.alloc (.cells #[x,y,z,u,v] t)).heap.size (w.alloc (.cells #[x,y,z,u,v] t)) w'):
  ∀k,w'.frozen? ⟨w.heap.size,k,none⟩=false:=by
 intro k
 have hl:w.heap.size<(w.alloc (.cells #[x,y,z,u,v] t)).heap.size :=by simp
 rw[h.frozen (p:=⟨w.heap.size,k,none⟩) hl]
 simp [go_sem]
theorem set5 {w w1:World} (h:Below w.heap.size w w1) (x y z u v:Value):Below w.heap.size w (((((w1.setCell ⟨w.heap.size,0,none⟩ x).setCell ⟨w.heap.size,1,none⟩ y).setCell ⟨w.heap.size,2,none⟩ z).setCell ⟨w.heap.size,3,none⟩ u).setCell ⟨w.heap.size,4,none⟩ v):=
 ((((h.setCell (Nat.le_refl _) _).setCell (Nat.le_refl _) _).setCell (Nat.le_refl _) _).setCell (Nat.le_refl _) _).setCell (Nat.le_refl _) _
set_option maxHeartbeats 4000000 in
theorem GetReq_any (v:Value) (bs:List UInt8) (t:Int) (w:World) (h:Rd w v bs) (ht:t<=9223372036854775807):
  Calls Try.prog 50 #[v,.int .i64 t] w (GetsR (getR bs t) w):=by
 have hlen:=Rd.len_le h
 unfold maxLen at hlen
 rcases hB:byteOf bs t with ⟨k,t1,e1⟩
 rcases hN:numOf bs t1 with ⟨s,t2,e2⟩
 rcases hT:getF bs t2 with ⟨⟨ck,cs,cn⟩,t3,e3⟩
 have b1:t1<=bs.length:=by have:=byteOf_le bs t;rw[hB] at this;exact this
 have b2:t2<=bs.length:=by have:=numOf_le bs t1;rw[hN] at this;exact this
 have C1:Hid (∀w',Below w.heap.size w w'->Calls Try.prog 25 #[v,.int .i64 t] w' (Three (k,t1,e1) w')):=fun w' hb=>by rw[<-hB];exact Byte_any v bs t w' (h.later hb) ht
 have C2:Hid (∀w',Below w.heap.size w w'->Calls Try.prog 26 #[v,.int .i64 t1] w' (Three (s,t2,e2) w')):=fun w' hb=>by rw[<-hN];exact Num_any v bs t1 w' (h.later hb) (by omega)
 have C3:Hid (∀w',Below w.heap.size w w'->Calls Try.prog 63 #[v,.int .i64 t2] w' (fun e w''=>e= .returned (.tuple #[.agg #[.int .i64 ck,.int .i64 cs,.string (bstr cn)],.int .i64 t3,.int .i64 e3])/\Below w'.heap.size w' w'')):=fun w' hb=>by
  have:=Get_any v bs t2 w' (h.later hb) (by omega)
  rw[hT] at this
  exact this
 have C4:Hid (∀w',Calls Try.prog 39 #[reqVal ⟨k,s,⟨ck,cs,cn⟩⟩] w' (SaysB (mayR ⟨k,s,⟨ck,cs,cn⟩⟩) w')):=fun w'=>MayReq_any _ w'
 unfold reqVal at C4
 dsimp only at C4
 rw[getR_told bs t hB hN hT]
 clear h hB hN hT b1 b2 hlen ht
 by_cases z1:e1≠0
 ·have d1:(e1==0)=false:=by simpa using z1
  rw[if_pos z1]
  go_enter Try.func50,Try.ntmps50
  go_wp2_with (first
   | (go_at_call 25;refine(C1.out _ (newAlloc _ _)).mono ?_;rintro e w1 ⟨rfl,hb1⟩;have B1:=step (newAlloc w _) hb1;obtain⟨c0,c1,c2,c3,c4⟩:=box5 hb1;have f0:=free5 hb1))
  refine bodyPost_ret (by simp [results,Try.results50,go_sem,c0,c1,c2,c3,c4];rfl) rfl ⟨rfl,set5 B1 _ _ _ _ _⟩
 rw[if_neg z1]
 obtain rfl:e1=0:=by omega
 clear z1
 by_cases z2:e2≠0
 ·have d1:(e2==0)=false:=by simpa using z2
  rw[if_pos z2]
  go_enter Try.func50,Try.ntmps50
  go_wp2_with (first
   | (go_at_call 25;refine(C1.out _ (newAlloc _ _)).mono ?_;rintro e w1 ⟨rfl,hb1⟩;have B1:=step (newAlloc w _) hb1;obtain⟨c0,c1,c2,c3,c4⟩:=box5 hb1;have f0:=free5 hb1)
   | (go_at_call 26;refine(C2.out _ B1).mono ?_;rintro e w2 ⟨rfl,hb2⟩;have B2:=step B1 hb2;have hb2:=step hb1 hb2;obtain⟨c0,c1,c2,c3,c4⟩:=box5 hb2;have f0:=free5 hb2))
  refine bodyPost_ret (by simp [results,Try.results50,go_sem,c0,c1,c2,c3,c4];rfl) rfl ⟨rfl,set5 B2 _ _ _ _ _⟩
 rw[if_neg z2]
 obtain rfl:e2=0:=by omega
 clear z2
 by_cases z3:e3≠0
 ·have d1:(e3==0)=false:=by simpa using z3
  rw[if_pos z3]
  go_enter Try.func50,Try.ntmps50
  go_wp2_with (first
   | (go_at_call 25;refine(C1.out _ (newAlloc _ _)).mono ?_;rintro e w1 ⟨rfl,hb1⟩;have B1:=step (newAlloc w _) hb1;obtain⟨c0,c1,c2,c3,c4⟩:=box5 hb1;have f0:=free5 hb1)
   | (go_at_call 26;refine(C2.out _ B1).mono ?_;rintro e w2 ⟨rfl,hb2⟩;have B2:=step B1 hb2;have hb2:=step hb1 hb2;obtain⟨c0,c1,c2,c3,c4⟩:=box5 hb2;have f0:=free5 hb2)
   | (go_at_call 63;refine(C3.out _ B2).mono ?_;rintro e w3 ⟨rfl,hb3⟩;have B3:=stepAlloc (step B2 hb3) (.cells #[.int .i64 ck,.int .i64 cs,.string (bstr cn)] 42);have hb3:=stepAlloc (step hb2 hb3) (.cells #[.int .i64 ck,.int .i64 cs,.string (bstr cn)] 42);obtain⟨c0,c1,c2,c3,c4⟩:=box5 hb3;have f0:=free5 hb3))
  refine bodyPost_ret (by simp [results,Try.results50,go_sem,c0,c1,c2,c3,c4];rfl) rfl ⟨rfl,set5 B3 _ _ _ _ _⟩
 rw[if_neg z3]
 obtain rfl:e3=0:=by omega
 clear z3
 cases hm:mayR ⟨k,s,⟨ck,cs,cn⟩⟩
 ·have HM:=hid hm
  clear hm
  go_enter Try.func50,Try.ntmps50
  go_wp2_with (first
   | (go_at_call 25;refine(C1.out _ (newAlloc _ _)).mono ?_;rintro e w1 ⟨rfl,hb1⟩;have B1:=step (newAlloc w _) hb1;obtain⟨c0,c1,c2,c3,c4⟩:=box5 hb1;have f0:=free5 hb1)
   | (go_at_call 26;refine(C2.out _ B1).mono ?_;rintro e w2 ⟨rfl,hb2⟩;have B2:=step B1 hb2;have hb2:=step hb1 hb2;obtain⟨c0,c1,c2,c3,c4⟩:=box5 hb2;have f0:=free5 hb2)
   | (go_at_call 63;refine(C3.out _ B2).mono ?_;rintro e w3 ⟨rfl,hb3⟩;have B3:=stepAlloc (step B2 hb3) (.cells #[.int .i64 ck,.int .i64 cs,.string (bstr cn)] 42);have hb3:=stepAlloc (step hb2 hb3) (.cells #[.int .i64 ck,.int .i64 cs,.string (bstr cn)] 42);obtain⟨c0,c1,c2,c3,c4⟩:=box5 hb3;have f0:=free5 hb3)
   | (go_at_call 39;refine(C4.out _).mono ?_;rw[HM.out];rintro e w4 ⟨rfl,hb4⟩;have B4:=step (stepAlloc B3 _) hb4;obtain⟨g0,g1,g2,g3,g4⟩:=box5 hb4;simp at g0 g1 g2 g3 g4;have hb4:=step (stepAlloc hb3 _) hb4;obtain⟨c0,c1,c2,c3,c4⟩:=box5 hb4;have f0:=free5 hb4))
  refine bodyPost_ret (by simp [results,Try.results50,go_sem,c0,c1,c2,c3,c4];rfl) rfl ⟨rfl,set5 B4 _ _ _ _ _⟩
 ·have HM:=hid hm
  clear hm
  go_enter Try.func50,Try.ntmps50
  go_wp2_with (first
   | (go_at_call 25;refine(C1.out _ (newAlloc _ _)).mono ?_;rintro e w1 ⟨rfl,hb1⟩;have B1:=step (newAlloc w _) hb1;obtain⟨c0,c1,c2,c3,c4⟩:=box5 hb1;have f0:=free5 hb1)
   | (go_at_call 26;refine(C2.out _ B1).mono ?_;rintro e w2 ⟨rfl,hb2⟩;have B2:=step B1 hb2;have hb2:=step hb1 hb2;obtain⟨c0,c1,c2,c3,c4⟩:=box5 hb2;have f0:=free5 hb2)
   | (go_at_call 63;refine(C3.out _ B2).mono ?_;rintro e w3 ⟨rfl,hb3⟩;have B3:=stepAlloc (step B2 hb3) (.cells #[.int .i64 ck,.int .i64 cs,.string (bstr cn)] 42);have hb3:=stepAlloc (step hb2 hb3) (.cells #[.int .i64 ck,.int .i64 cs,.string (bstr cn)] 42);obtain⟨c0,c1,c2,c3,c4⟩:=box5 hb3;have f0:=free5 hb3)
   | (go_at_call 39;refine(C4.out _).mono ?_;rw[HM.out];rintro e w4 ⟨rfl,hb4⟩;have B4:=step (stepAlloc B3 _) hb4;obtain⟨g0,g1,g2,g3,g4⟩:=box5 hb4;simp at g0 g1 g2 g3 g4;have hb4:=step (stepAlloc hb3 _) hb4;obtain⟨c0,c1,c2,c3,c4⟩:=box5 hb4;have f0:=free5 hb4))
  refine bodyPost_ret (by simp [results,Try.results50,go_sem,c0,c1,c2,c3,c4];rfl) rfl ⟨rfl,set5 B4 _ _ _ _ _⟩
end Cm
end Go.Proofs.Ytlaomehfhooiaaa

/- Laws of the walk at a step of a region that draws its order: appends of bytes, of a text's bytes. No program is named here. -/
set_option linter.unusedVariables false
set_option maxRecDepth 8000
set_option linter.unusedSimpArgs false
namespace Go.Proofs.Ytlaomehfhooiaaa
open Lib (hid)
open Go.RowKit

section
variable {P : Program} {w : World}
theorem step_append_rd {ops:Array Oper} {o:Oper} {a:Act} {K:Act->World->Prop} {Q:Exit->Act->World->Prop} {E:Prop} (hgd:o.guard=none) (s x:Operand) (t:TypeId)
  (ho:o.op= .call { callee:=.builtin .append,args:=#[s,x],argTypes:=#[t,t] })
  (base:Nat) (e:TypeId) (i:TypeInfo) (ht:P.underlying t=some (.slice e)) (hi:P.info? e=some i) (hz:i.zero=some (.int .u8 0)) (hsize:i.size=1) (hby:i.bytes=1)
  (v:Value) (n:Nat) (xs:List Value) (hs:a.eval s=v) (hown:w.ownsRow base e 1 v n xs) (y:Value) (bs:List UInt8) (hx:a.eval x=y) (hr:Rd w y bs)
  (hlen:n+bs.length<=140737488355328) (hbase:base<=w.heap.size)
  (h: ∀v' w',w'.ownsRow base e 1 v' (n+bs.length) (xs++cellsOf bs)->w.grownBy w' v.ownBlock->K (a.put o.dst v') w'):
  if Region.wanted o (yielded ops a.tmps)=true then Oper.wp P o a w K Q else E:=by
 have hw:Region.wanted o (yielded ops a.tmps)=true:=by simp [Region.wanted,hgd]
 rw[if_pos hw]
 obtain⟨ao,len,cap,rfl,hl,hc,hm,hn,hcells⟩:=hr.ex
 match ao,hn,hcells with
 | none,hn,_=>
  obtain⟨rfl,rfl⟩:=hn rfl
  obtain rfl:bs= []:=List.length_eq_zero_iff.1 hl
  have hrun:=run_append_owned_none (P:=P) (w:=w) base t o.type e i 1 ht hi v n xs hown
  unfold Oper.wp
  simp [execOp,ho,resolve,invoke,builtin,hs,hx,hrun,Result.andThen]
  exact h v w (by simpa [cellsOf] using hown) (World.grownBy.refl _ _)
 | some ad,_,hcells=>
  refine wp_append_own w s x t ho base e i (.int .u8 0) 1 1 ht hi hz hsize hby rfl (by decide) v n xs hs hown ad len cap (cellsOf bs) hx (by rw[cellsOf_length];omega) ?_ (cellsOf_one bs) (by unfold maxLen;omega) (by omega) hbase ?_
  ·intro j u hj
   obtain⟨hj',rfl⟩:=cellsOf_get bs j u hj
   obtain⟨hs',hi'⟩:=hcells ad rfl (by omega)
   obtain⟨b,off,spot⟩:=ad
   simp only at hs'
   subst hs'
   have hadd:(⟨b,off,none⟩:Addr).add j=⟨b,off+j,none⟩:=by unfold Addr.add;split<;>simp_all
   rw[hadd]
   exact hi' j (by omega)
  ·intro v' w' h1 h2 _
   rw[<-hl] at h1
   exact h v' w' h1 h2
theorem step_append_str {ops:Array Oper} {o:Oper} {a:Act} {K:Act->World->Prop} {Q:Exit->Act->World->Prop} {E:Prop} (hgd:o.guard=none) (s x:Operand) (t u:TypeId)
  (ho:o.op= .call { callee:=.builtin .append,args:=#[s,x],argTypes:=#[t,u] })
  (base:Nat) (e:TypeId) (i:TypeInfo) (ht:P.underlying t=some (.slice e)) (hu:P.underlying u=some .string) (hi:P.info? e=some i) (hz:i.zero=some (.int .u8 0)) (hsize:i.size=1) (hby:i.bytes=1)
  (v:Value) (n:Nat) (xs:List Value) (hs:a.eval s=v) (hown:w.ownsRow base e 1 v n xs) (bs:List UInt8) (hx:a.eval x= .string (bstr bs))
  (hlen:n+bs.length<=140737488355328) (hbase:base<=w.heap.size)
  (h: ∀v' w',w'.ownsRow base e 1 v' (n+bs.length) (xs++cellsOf bs)->w.grownBy w' v.ownBlock->K (a.put o.dst v') w'):
  if Region.wanted o (yielded ops a.tmps)=true then Oper.wp P o a w K Q else E:=by
 have hw:Region.wanted o (yielded ops a.tmps)=true:=by simp [Region.wanted,hgd]
 rw[if_pos hw]
 obtain⟨v',w',hr,h2,h3,_⟩:=Lib.run_append_own_string (P:=P) w base t u o.type e i ht hu hi hz hsize hby v n xs hown (bstr bs) (by rw[bstr_size];unfold maxLen;omega) (by rw[bstr_size];omega) hbase
 unfold Oper.wp execOp
 simp only[ho,resolve,invoke,builtin,Sem.run_bind,Sem.run_pure,Result.andThen_ok,List.map_toArray,List.map_cons,List.map_nil,hs,hx,hr]
 rw[bstr_size,strCells_bstr] at h2
 exact h v' w' h2 h3
end
end Go.Proofs.Ytlaomehfhooiaaa

/- Contracts: the document's Put, Get of commands. -/
set_option linter.unusedVariables false
set_option maxRecDepth 8000
set_option linter.unusedSimpArgs false
namespace Go.Proofs.Ytlaomehfhooiaaa
open Lib (hid)
open Go.RowKit
namespace Cm

theorem byte_cell (k:Nat) (h:k<256):cellsOf [UInt8.ofNat k]= [.int .u8 (k:Int)]:=by simp [cellsOf];omega
theorem own1 (w:World) (base k:Nat) (h:k<256) (hb:base<=w.heap.size):(w.alloc (.cells #[.int .u8 (k:Int)] 5)).ownsRow base 5 1 (.slice (some ⟨w.heap.size,0,none⟩) 1 1) 1 (cellsOf [UInt8.ofNat k]):=
 own_mono (owns_lit w #[.int .u8 (k:Int)] [UInt8.ofNat k] (byte_cell k h).symm (by simp [maxLen])) hb
theorem rd1 (w:World) (k:Nat) (h:k<256):Rd (w.alloc (.cells #[.int .u8 (k:Int)] 5)) (.slice (some ⟨w.heap.size,0,none⟩) 1 1) [UInt8.ofNat k]:=
 Rd.own (own1 w 0 k h (Nat.zero_le _))
theorem byte_eight (w:World) (base k n:Nat) (h:k<256) (hb:base<=w.heap.size):
  ((w.alloc (.cells #[.int .u8 (k:Int)] 5)).alloc (.cells (beArr n 8) 5)).drew.ownsRow base 5 1 (.slice (some ⟨w.heap.size,0,none⟩) 1 1) 1 (cellsOf [UInt8.ofNat k])/\
  Rd ((w.alloc (.cells #[.int .u8 (k:Int)] 5)).alloc (.cells (beArr n 8) 5)).drew (.slice (some ⟨w.heap.size+1,0,none⟩) 8 8) (be8 n):=by
 refine⟨((own1 w base k h hb).alloc _).drew,?_⟩
 have:=(rd8 (w.alloc (.cells #[.int .u8 (k:Int)] 5)) n).later (Below.refl _ _).drew
 rwa [show(w.alloc (.cells #[.int .u8 (k:Int)] 5)).heap.size =w.heap.size+1 by simp] at this
theorem eight_byte (w:World) (base k n:Nat) (h:k<256) (hb:base<=w.heap.size):
  ((w.alloc (.cells (beArr n 8) 5)).alloc (.cells #[.int .u8 (k:Int)] 5)).drew.ownsRow base 5 1 (.slice (some ⟨w.heap.size+1,0,none⟩) 1 1) 1 (cellsOf [UInt8.ofNat k])/\
  Rd ((w.alloc (.cells (beArr n 8) 5)).alloc (.cells #[.int .u8 (k:Int)] 5)).drew (.slice (some ⟨w.heap.size,0,none⟩) 8 8) (be8 n):=by
 refine⟨?_,((rd8 w n).later (newAlloc _ _)).later (Below.refl _ _).drew⟩
 have:=(own1 (w.alloc (.cells (beArr n 8) 5)) base k h (by simp;omega)).drew
 rwa [show(w.alloc (.cells (beArr n 8) 5)).heap.size =w.heap.size+1 by simp] at this
set_option maxHeartbeats 2000000 in
theorem RefPut_any (c:CmdV) (w:World):Calls Try.prog 44 #[cmdVal c] w (Made (putF c) w):=by
 have C0:=hid (fun w=>RefMay_any c w)
 unfold putF
 cases hm:mayF c
 ·have HM:=hid hm
  clear hm
  obtain⟨k,s,n⟩:=c
  unfold cmdVal at C0 ⊢
  dsimp only at C0 ⊢
  go_enter Try.func44,Try.ntmps44
  go_wp2_with (go_at_call 61;refine(C0.out _).mono ?_;rw[HM.out];rintro e w1 ⟨rfl,hb1⟩)
  go_ret2
  exact⟨_,rfl,World.ownsRow_nil _ _ _ _,step (newAlloc _ _) hb1⟩
 ·obtain⟨hk,hs,hn⟩:=may_bounds c hm
  have HM:=hid hm
  clear hm
  obtain⟨k,s,n⟩:=c
  unfold cmdVal at C0 ⊢
  dsimp only at C0 hk hs hn HM ⊢
  obtain⟨K,rfl⟩:=Int.eq_ofNat_of_zero_le (show 0<=k by omega)
  obtain⟨S,rfl⟩:=Int.eq_ofNat_of_zero_le (show 0<=s by omega)
  have hK:K<256:=by omega
  have hKw:IntKind.u8.wrap (K:Int)=(K:Int):=by rw[IntKind.wrap_u8];omega
  obtain⟨i0,hi,hz0,hz1,hz2⟩:=info_parts info8
  have hbl:bytesC ⟨(K:Int),(S:Int),n⟩= [UInt8.ofNat K]++be8 S++ [UInt8.ofNat n.length]++n:=by simp [bytesC]
  have HBL:=hid hbl
  clear hbl
  go_enter Try.func44,Try.ntmps44
  go_wp2_with (go_at_call 61;refine(C0.out _).mono ?_;rw[HM.out];rintro e w1 ⟨rfl,hb1⟩;obtain⟨c0,c1,c2⟩:=box3 hb1)
  have hbs:=hb1.size
  have hbs1:w.heap.size<=w1.heap.size:=by simp at hbs;omega
  have HB1:=hid hb1
  clear hb1
  go_region_held3 (fun w'=>w'.cell? ⟨w.heap.size,0,none⟩=some (.int .i64 (K:Int))/\w'.cell? ⟨w.heap.size,1,none⟩=some (.int .i64 (S:Int))/\w'.cell? ⟨w.heap.size,2,none⟩=some (.string (bstr n)))
   (first | go_keep | exact box3 (step HB1.out HB2.out))
   (first
    | (go_at_call 23;refine(Ref1.Eight_ok S _).mono ?_;rintro e w2 ⟨rfl,rfl⟩)
    | (refine step_append_rd (by rfl) _ _ _ (by rfl) w1.heap.size 5 i0 Try.underlying27 hi hz0 hz1 hz2 _ 1 (cellsOf [UInt8.ofNat K]) (by rfl) (byte_eight w1 w1.heap.size K S hK (Nat.le_refl _)).1 _ (be8 S) (by rfl) (byte_eight w1 w1.heap.size K S hK (Nat.le_refl _)).2 (by simp [be8_length]) (by simp;omega) ?_;intro v2 w2 hown2 hgrow2;have HB2:=hid ((((Below.refl _ _).alloc (Nat.le_refl _) _).alloc (by simp) _).drew.grown hgrow2 (by simp;omega) (fun k hk=>by simp [Value.ownBlock] at hk;omega)))
    | (refine step_append_rd (by rfl) _ _ _ (by rfl) w1.heap.size 5 i0 Try.underlying27 hi hz0 hz1 hz2 _ 1 (cellsOf [UInt8.ofNat K]) (by rfl) (eight_byte w1 w1.heap.size K S hK (Nat.le_refl _)).1 _ (be8 S) (by rfl) (eight_byte w1 w1.heap.size K S hK (Nat.le_refl _)).2 (by simp [be8_length]) (by simp;omega) ?_;intro v2 w2 hown2 hgrow2;have HB2:=hid ((((Below.refl _ _).alloc (Nat.le_refl _) _).alloc (by simp) _).drew.grown hgrow2 (by simp;omega) (fun k hk=>by simp [Value.ownBlock] at hk;omega))))
  all_goals
   obtain⟨c0,c1,c2⟩:=box3 (step HB1.out HB2.out)
   have hz:w1.heap.size<=w2.heap.size:=HB2.out.size
   have hnl:n.length<256:=by omega
   have hnw:IntKind.u8.wrap (n.length:Int)=(n.length:Int):=by rw[IntKind.wrap_u8];omega
   have hns:=bstr_size n
   rename_i hHeld
   clear hHeld hgrow2
   generalize hX:cellsOf [UInt8.ofNat K]++cellsOf (be8 S)=X at hown2
   generalize hN:1+(be8 S).length =N at hown2
   have HX:=hid hX
   have hN9:N=9:=by rw[<-hN,be8_length]
   have HO:=hid hown2
   clear hX hN hown2
   go_wp2_with fail
   go_region_held3 (fun w'=>w'.cell? ⟨w.heap.size,0,none⟩=some (.int .i64 (K:Int))/\w'.cell? ⟨w.heap.size,1,none⟩=some (.int .i64 (S:Int))/\w'.cell? ⟨w.heap.size,2,none⟩=some (.string (bstr n)))
    (first | go_keep | exact box3 (step HB1.out HB4.out) | exact box3 (step HB1.out HB3.out))
    (first
     | (refine step_append_rd (by rfl) _ _ _ (by rfl) w1.heap.size 5 i0 Try.underlying27 hi hz0 hz1 hz2 _ N X (by rfl) (HO.out.alloc _).drew _ [UInt8.ofNat n.length] (by rfl) ((rd1 w2 _ hnl).later (Below.refl _ _).drew) (by simp;omega) (by simp;omega) ?_;intro v3 w3 hown3 hgrow3;have HB3:=hid ((HB2.out.alloc hz _).drew.grown hgrow3 (by simp;omega) (fun k hk=>(HO.out.lt k hk).1)))
     | (refine step_append_str (by rfl) _ _ _ _ (by rfl) w1.heap.size 5 i0 Try.underlying27 Try.underlying9 hi hz0 hz1 hz2 _ _ _ (by rfl) hown3 n (by rfl) (by simp;omega) HB3.out.size ?_;intro v4 w4 hown4 hgrow4;have HB4:=hid (HB3.out.grown hgrow4 HB3.out.size (fun k hk=>(hown3.lt k hk).1))))
   rename_i hHeld
   clear hHeld hgrow3 hgrow4
   go_wp2
   go_ret2
   refine⟨v4,rfl,?_,step (step (newAlloc _ _) HB1.out) HB4.out⟩
   have e:N+ [UInt8.ofNat n.length].length +n.length=(bytesC ⟨(K:Int),(S:Int),n⟩).length :=by rw[bytesC_length];simp;omega
   rw[<-HX.out,<-cellsOf_append,<-cellsOf_append,<-cellsOf_append,<-HBL.out,e] at hown4
   exact own_mono hown4 hbs1
end Cm
end Go.Proofs.Ytlaomehfhooiaaa
