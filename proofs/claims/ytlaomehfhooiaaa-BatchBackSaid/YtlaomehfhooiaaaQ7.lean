/- Texts laid together by program. -/
import Derived.Test.YtlaomehfhooiaaaQ6
import Derived.ProofKit
import Derived.OpenShut
import Derived.Deep.Strs
import Derived.Deep.Slices
/- Contracts: the document's Get, PutReq, GetReq. -/
set_option linter.unusedVariables false
set_option maxRecDepth 8000
set_option linter.unusedSimpArgs false
namespace Go.Proofs.Ytlaomehfhooiaaa
open Lib (hid)
open Go.RowKit
namespace Cm

theorem own_later {w w':World} {base:Nat} {e:TypeId} {v:Value} {n:Nat} {xs:List Value} (ho:w.ownsRow base e 1 v n xs) (hb:Below w.heap.size w w'):w'.ownsRow base e 1 v n xs:=by
 refine⟨ho.1,?_⟩
 rcases ho.2 with h' | ⟨g,cap,cur,h1,h2,h3,r⟩
 ·exact .inl h'
 ·refine .inr ⟨g,cap,cur,h1,h2,?_,r⟩
  rw[hb.block g (Array.getElem?_eq_some_iff.1 h3).1]
  exact h3
set_option maxHeartbeats 2000000 in
theorem RefGet_any (v:Value) (bs:List UInt8) (t:Int) (w:World) (h:Rd w v bs) (ht:t<=9223372036854775807):
  Calls Try.prog 53 #[v,.int .i64 t] w (GetsC (getF bs t) w):=by
 have hlen:=Rd.len_le h
 unfold maxLen at hlen
 rcases hB:byteOf bs t with ⟨k,t1,e1⟩
 rcases hN:numOf bs t1 with ⟨s,t2,e2⟩
 rcases hT:textOf bs t2 12 with ⟨n,t3,e3⟩
 have b1:t1<=bs.length:=by have:=byteOf_le bs t;rw[hB] at this;exact this
 have b2:t2<=bs.length:=by have:=numOf_le bs t1;rw[hN] at this;exact this
 have C1:Hid (∀w',Below w.heap.size w w'->Calls Try.prog 28 #[v,.int .i64 t] w' (Three (k,t1,e1) w')):=fun w' hb=>by rw[<-hB];exact Ref1.Byte_any v bs t w' (h.later hb) ht
 have C2:Hid (∀w',Below w.heap.size w w'->Calls Try.prog 52 #[v,.int .i64 t1] w' (Three (s,t2,e2) w')):=fun w' hb=>by rw[<-hN];exact Ref1.Num_any v bs t1 w' (h.later hb) (by omega)
 have C3:Hid (∀w',Below w.heap.size w w'->Calls Try.prog 64 #[v,.int .i64 t2,.int .i64 12] w' (TextTold (n,t3,e3) w')):=fun w' hb=>by rw[<-hT];exact Ref1.Text_any v bs t2 12 w' (h.later hb) (by omega)
 have C4:Hid (∀w',Calls Try.prog 61 #[cmdVal ⟨k,s,n⟩] w' (SaysB (mayF ⟨k,s,n⟩) w')):=fun w'=>RefMay_any _ w'
 unfold cmdVal at C4
 dsimp only at C4
 rw[getF_told bs t hB hN hT]
 clear h hB hN hT b1 b2 hlen ht
 by_cases z1:e1≠0
 ·have d1:(e1==0)=false:=by simpa using z1
  rw[if_pos z1]
  go_enter Try.func53,Try.ntmps53
  go_wp2_with (first
   | (go_at_call 28;refine(C1.out _ (newAlloc _ _)).mono ?_;rintro e w1 ⟨rfl,hb1⟩;have B1:=step (newAlloc w _) hb1;obtain⟨c0,c1,c2⟩:=box3 hb1;have f0:=free3 hb1))
  refine bodyPost_ret (by simp [results,Try.results53,go_sem,c0,c1,c2];rfl) rfl ⟨rfl,set3 B1 _ _ _⟩
 rw[if_neg z1]
 obtain rfl:e1=0:=by omega
 clear z1
 by_cases z2:e2≠0
 ·have d1:(e2==0)=false:=by simpa using z2
  rw[if_pos z2]
  go_enter Try.func53,Try.ntmps53
  go_wp2_with (first
   | (go_at_call 28;refine(C1.out _ (newAlloc _ _)).mono ?_;rintro e w1 ⟨rfl,hb1⟩;have B1:=step (newAlloc w _) hb1;obtain⟨c0,c1,c2⟩:=box3 hb1;have f0:=free3 hb1)
   | (go_at_call 52;refine(C2.out _ B1).mono ?_;rintro e w2 ⟨rfl,hb2⟩;have B2:=step B1 hb2;have hb2:=step hb1 hb2;obtain⟨c0,c1,c2⟩:=box3 hb2;have f0:=free3 hb2))
  refine bodyPost_ret (by simp [results,Try.results53,go_sem,c0,c1,c2];rfl) rfl ⟨rfl,set3 B2 _ _ _⟩
 rw[if_neg z2]
 obtain rfl:e2=0:=by omega
 clear z2
 by_cases z3:e3≠0
 ·have d1:(e3==0)=false:=by simpa using z3
  rw[if_pos z3]
  go_enter Try.func53,Try.ntmps53
  go_wp2_with (first
   | (go_at_call 28;refine(C1.out _ (newAlloc _ _)).mono ?_;rintro e w1 ⟨rfl,hb1⟩;have B1:=step (newAlloc w _) hb1;obtain⟨c0,c1,c2⟩:=box3 hb1;have f0:=free3 hb1)
   | (go_at_call 52;refine(C2.out _ B1).mono ?_;rintro e w2 ⟨rfl,hb2⟩;have B2:=step B1 hb2;have hb2:=step hb1 hb2;obtain⟨c0,c1,c2⟩:=box3 hb2;have f0:=free3 hb2)
   | (go_at_call 64;refine(C3.out _ B2).mono ?_;rintro e w3 ⟨rfl,hb3⟩;have B3:=step B2 hb3;have hb3:=step hb2 hb3;obtain⟨c0,c1,c2⟩:=box3 hb3;have f0:=free3 hb3))
  refine bodyPost_ret (by simp [results,Try.results53,go_sem,c0,c1,c2];rfl) rfl ⟨rfl,set3 B3 _ _ _⟩
 rw[if_neg z3]
 obtain rfl:e3=0:=by omega
 clear z3
 cases hm:mayF ⟨k,s,n⟩
 ·have HM:=hid hm
  clear hm
  go_enter Try.func53,Try.ntmps53
  go_wp2_with (first
   | (go_at_call 28;refine(C1.out _ (newAlloc _ _)).mono ?_;rintro e w1 ⟨rfl,hb1⟩;have B1:=step (newAlloc w _) hb1;obtain⟨c0,c1,c2⟩:=box3 hb1;have f0:=free3 hb1)
   | (go_at_call 52;refine(C2.out _ B1).mono ?_;rintro e w2 ⟨rfl,hb2⟩;have B2:=step B1 hb2;have hb2:=step hb1 hb2;obtain⟨c0,c1,c2⟩:=box3 hb2;have f0:=free3 hb2)
   | (go_at_call 64;refine(C3.out _ B2).mono ?_;rintro e w3 ⟨rfl,hb3⟩;have B3:=step B2 hb3;have hb3:=step hb2 hb3;obtain⟨c0,c1,c2⟩:=box3 hb3;have f0:=free3 hb3)
   | (go_at_call 61;refine(C4.out _).mono ?_;rw[HM.out];rintro e w4 ⟨rfl,hb4⟩;have B4:=step (stepAlloc B3 _) hb4;obtain⟨g0,g1,g2⟩:=box3 hb4;have hb4:=step (stepAlloc hb3 _) hb4;obtain⟨c0,c1,c2⟩:=box3 hb4;have f0:=free3 hb4))
  refine bodyPost_ret (by simp [results,Try.results53,go_sem,c0,c1,c2];rfl) rfl ⟨rfl,set3 B4 _ _ _⟩
 ·have HM:=hid hm
  clear hm
  go_enter Try.func53,Try.ntmps53
  go_wp2_with (first
   | (go_at_call 28;refine(C1.out _ (newAlloc _ _)).mono ?_;rintro e w1 ⟨rfl,hb1⟩;have B1:=step (newAlloc w _) hb1;obtain⟨c0,c1,c2⟩:=box3 hb1;have f0:=free3 hb1)
   | (go_at_call 52;refine(C2.out _ B1).mono ?_;rintro e w2 ⟨rfl,hb2⟩;have B2:=step B1 hb2;have hb2:=step hb1 hb2;obtain⟨c0,c1,c2⟩:=box3 hb2;have f0:=free3 hb2)
   | (go_at_call 64;refine(C3.out _ B2).mono ?_;rintro e w3 ⟨rfl,hb3⟩;have B3:=step B2 hb3;have hb3:=step hb2 hb3;obtain⟨c0,c1,c2⟩:=box3 hb3;have f0:=free3 hb3)
   | (go_at_call 61;refine(C4.out _).mono ?_;rw[HM.out];rintro e w4 ⟨rfl,hb4⟩;have B4:=step (stepAlloc B3 _) hb4;obtain⟨g0,g1,g2⟩:=box3 hb4;have hb4:=step (stepAlloc hb3 _) hb4;obtain⟨c0,c1,c2⟩:=box3 hb4;have f0:=free3 hb4))
  refine bodyPost_ret (by simp [results,Try.results53,go_sem,c0,c1,c2];rfl) rfl ⟨rfl,set3 B4 _ _ _⟩
set_option maxHeartbeats 4000000 in
theorem RefGetReq_any (v:Value) (bs:List UInt8) (t:Int) (w:World) (h:Rd w v bs) (ht:t<=9223372036854775807):
  Calls Try.prog 30 #[v,.int .i64 t] w (GetsR (getR bs t) w):=by
 have hlen:=Rd.len_le h
 unfold maxLen at hlen
 rcases hB:byteOf bs t with ⟨k,t1,e1⟩
 rcases hN:numOf bs t1 with ⟨s,t2,e2⟩
 rcases hT:getF bs t2 with ⟨⟨ck,cs,cn⟩,t3,e3⟩
 have b1:t1<=bs.length:=by have:=byteOf_le bs t;rw[hB] at this;exact this
 have b2:t2<=bs.length:=by have:=numOf_le bs t1;rw[hN] at this;exact this
 have C1:Hid (∀w',Below w.heap.size w w'->Calls Try.prog 28 #[v,.int .i64 t] w' (Three (k,t1,e1) w')):=fun w' hb=>by rw[<-hB];exact Ref1.Byte_any v bs t w' (h.later hb) ht
 have C2:Hid (∀w',Below w.heap.size w w'->Calls Try.prog 52 #[v,.int .i64 t1] w' (Three (s,t2,e2) w')):=fun w' hb=>by rw[<-hN];exact Ref1.Num_any v bs t1 w' (h.later hb) (by omega)
 have C3:Hid (∀w',Below w.heap.size w w'->Calls Try.prog 53 #[v,.int .i64 t2] w' (fun e w''=>e= .returned (.tuple #[.agg #[.int .i64 ck,.int .i64 cs,.string (bstr cn)],.int .i64 t3,.int .i64 e3])/\Below w'.heap.size w' w'')):=fun w' hb=>by
  have:=RefGet_any v bs t2 w' (h.later hb) (by omega)
  rw[hT] at this
  exact this
 have C4:Hid (∀w',Calls Try.prog 43 #[reqVal ⟨k,s,⟨ck,cs,cn⟩⟩] w' (SaysB (mayR ⟨k,s,⟨ck,cs,cn⟩⟩) w')):=fun w'=>RefMayReq_any _ w'
 unfold reqVal at C4
 dsimp only at C4
 rw[getR_told bs t hB hN hT]
 clear h hB hN hT b1 b2 hlen ht
 by_cases z1:e1≠0
 ·have d1:(e1==0)=false:=by simpa using z1
  rw[if_pos z1]
  go_enter Try.func30,Try.ntmps30
  go_wp2_with (first
   | (go_at_call 28;refine(C1.out _ (newAlloc _ _)).mono ?_;rintro e w1 ⟨rfl,hb1⟩;have B1:=step (newAlloc w _) hb1;obtain⟨c0,c1,c2,c3,c4⟩:=box5 hb1;have f0:=free5 hb1))
  refine bodyPost_ret (by simp [results,Try.results30,go_sem,c0,c1,c2,c3,c4];rfl) rfl ⟨rfl,set5 B1 _ _ _ _ _⟩
 rw[if_neg z1]
 obtain rfl:e1=0:=by omega
 clear z1
 by_cases z2:e2≠0
 ·have d1:(e2==0)=false:=by simpa using z2
  rw[if_pos z2]
  go_enter Try.func30,Try.ntmps30
  go_wp2_with (first
   | (go_at_call 28;refine(C1.out _ (newAlloc _ _)).mono ?_;rintro e w1 ⟨rfl,hb1⟩;have B1:=step (newAlloc w _) hb1;obtain⟨c0,c1,c2,c3,c4⟩:=box5 hb1;have f0:=free5 hb1)
   | (go_at_call 52;refine(C2.out _ B1).mono ?_;rintro e w2 ⟨rfl,hb2⟩;have B2:=step B1 hb2;have hb2:=step hb1 hb2;obtain⟨c0,c1,c2,c3,c4⟩:=box5 hb2;have f0:=free5 hb2))
  refine bodyPost_ret (by simp [results,Try.results30,go_sem,c0,c1,c2,c3,c4];rfl) rfl ⟨rfl,set5 B2 _ _ _ _ _⟩
 rw[if_neg z2]
 obtain rfl:e2=0:=by omega
 clear z2
 by_cases z3:e3≠0
 ·have d1:(e3==0)=false:=by simpa using z3
  rw[if_pos z3]
  go_enter Try.func30,Try.ntmps30
  go_wp2_with (first
   | (go_at_call 28;refine(C1.out _ (newAlloc _ _)).mono ?_;rintro e w1 ⟨rfl,hb1⟩;have B1:=step (newAlloc w _) hb1;obtain⟨c0,c1,c2,c3,c4⟩:=box5 hb1;have f0:=free5 hb1)
   | (go_at_call 52;refine(C2.out _ B1).mono ?_;rintro e w2 ⟨rfl,hb2⟩;have B2:=step B1 hb2;have hb2:=step hb1 hb2;obtain⟨c0,c1,c2,c3,c4⟩:=box5 hb2;have f0:=free5 hb2)
   | (go_at_call 53;refine(C3.out _ B2).mono ?_;rintro e w3 ⟨rfl,hb3⟩;have B3:=stepAlloc (step B2 hb3) (.cells #[.int .i64 ck,.int .i64 cs,.string (bstr cn)] 42);have hb3:=stepAlloc (step hb2 hb3) (.cells #[.int .i64 ck,.int .i64 cs,.string (bstr cn)] 42);obtain⟨c0,c1,c2,c3,c4⟩:=box5 hb3;have f0:=free5 hb3))
  refine bodyPost_ret (by simp [results,Try.results30,go_sem,c0,c1,c2,c3,c4];rfl) rfl ⟨rfl,set5 B3 _ _ _ _ _⟩
 rw[if_neg z3]
 obtain rfl:e3=0:=by omega
 clear z3
 cases hm:mayR ⟨k,s,⟨ck,cs,cn⟩⟩
 ·have HM:=hid hm
  clear hm
  go_enter Try.func30,Try.ntmps30
  go_wp2_with (first
   | (go_at_call 28;refine(C1.out _ (newAlloc _ _)).mono ?_;rintro e w1 ⟨rfl,hb1⟩;have B1:=step (newAlloc w _) hb1;obtain⟨c0,c1,c2,c3,c4⟩:=box5 hb1;have f0:=free5 hb1)
   | (go_at_call 52;refine(C2.out _ B1).mono ?_;rintro e w2 ⟨rfl,hb2⟩;have B2:=step B1 hb2;have hb2:=step hb1 hb2;obtain⟨c0,c1,c2,c3,c4⟩:=box5 hb2;have f0:=free5 hb2)
   | (go_at_call 53;refine(C3.out _ B2).mono ?_;rintro e w3 ⟨rfl,hb3⟩;have B3:=stepAlloc (step B2 hb3) (.cells #[.int .i64 ck,.int .i64 cs,.string (bstr cn)] 42);have hb3:=stepAlloc (step hb2 hb3) (.cells #[.int .i64 ck,.int .i64 cs,.string (bstr cn)] 42);obtain⟨c0,c1,c2,c3,c4⟩:=box5 hb3;have f0:=free5 hb3)
   | (go_at_call 43;refine(C4.out _).mono ?_;rw[HM.out];rintro e w4 ⟨rfl,hb4⟩;have B4:=step (stepAlloc B3 _) hb4;obtain⟨g0,g1,g2,g3,g4⟩:=box5 hb4;simp at g0 g1 g2 g3 g4;have hb4:=step (stepAlloc hb3 _) hb4;obtain⟨c0,c1,c2,c3,c4⟩:=box5 hb4;have f0:=free5 hb4))
  refine bodyPost_ret (by simp [results,Try.results30,go_sem,c0,c1,c2,c3,c4];rfl) rfl ⟨rfl,set5 B4 _ _ _ _ _⟩
 ·have HM:=hid hm
  clear hm
  go_enter Try.func30,Try.ntmps30
  go_wp2_with (first
   | (go_at_call 28;refine(C1.out _ (newAlloc _ _)).mono ?_;rintro e w1 ⟨rfl,hb1⟩;have B1:=step (newAlloc w _) hb1;obtain⟨c0,c1,c2,c3,c4⟩:=box5 hb1;have f0:=free5 hb1)
   | (go_at_call 52;refine(C2.out _ B1).mono ?_;rintro e w2 ⟨rfl,hb2⟩;have B2:=step B1 hb2;have hb2:=step hb1 hb2;obtain⟨c0,c1,c2,c3,c4⟩:=box5 hb2;have f0:=free5 hb2)
   | (go_at_call 53;refine(C3.out _ B2).mono ?_;rintro e w3 ⟨rfl,hb3⟩;have B3:=stepAlloc (step B2 hb3) (.cells #[.int .i64 ck,.int .i64 cs,.string (bstr cn)] 42);have hb3:=stepAlloc (step hb2 hb3) (.cells #[.int .i64 ck,.int .i64 cs,.string (bstr cn)] 42);obtain⟨c0,c1,c2,c3,c4⟩:=box5 hb3;have f0:=free5 hb3)
   | (go_at_call 43;refine(C4.out _).mono ?_;rw[HM.out];rintro e w4 ⟨rfl,hb4⟩;have B4:=step (stepAlloc B3 _) hb4;obtain⟨g0,g1,g2,g3,g4⟩:=box5 hb4;simp at g0 g1 g2 g3 g4;have hb4:=step (stepAlloc hb3 _) hb4;obtain⟨c0,c1,c2,c3,c4⟩:=box5 hb4;have f0:=free5 hb4))
  refine bodyPost_ret (by simp [results,Try.results30,go_sem,c0,c1,c2,c3,c4];rfl) rfl ⟨rfl,set5 B4 _ _ _ _ _⟩
theorem RefPut_in (c:CmdV) (h:mayF c=true) (w:World):Calls Try.prog 44 #[cmdVal c] w (MadeS (bytesC c,0) w):=by
 refine(RefPut_any c w).mono fun e w' q=>?_
 unfold putF at q
 rw[if_pos h] at q
 exact Made.s q
set_option maxHeartbeats 2000000 in
theorem RefPutReq_any (r:ReqV) (w:World):Calls Try.prog 24 #[reqVal r] w (Made (putR r) w):=by
 have C0:=hid (fun w=>RefMayReq_any r w)
 unfold putR
 cases hm:mayR r
 ·have HM:=hid hm
  clear hm
  obtain⟨c,q,k,s,n⟩:=r
  unfold reqVal at C0 ⊢
  dsimp only at C0 ⊢
  go_enter Try.func24,Try.ntmps24
  go_wp2_with (go_at_call 43;refine(C0.out _).mono ?_;rw[HM.out];rintro e w1 ⟨rfl,hb1⟩)
  go_ret2
  exact⟨_,rfl,World.ownsRow_nil _ _ _ _,step (newAlloc _ _) hb1⟩
 ·obtain⟨hk,hs,hc⟩:=mayR_bounds r hm
  have hln:=bytesC_length r.cmd
  have hn:=(may_bounds _ hc).2.2
  have C3:=hid (fun w=>RefPut_in r.cmd hc w)
  have HM:=hid hm
  clear hm hc
  obtain⟨c,q,k,s,n⟩:=r
  unfold cmdVal at C3
  unfold reqVal at C0 ⊢
  dsimp only at C0 C3 hk hs hn hln HM ⊢
  obtain⟨K,rfl⟩:=Int.eq_ofNat_of_zero_le (show 0<=c by omega)
  obtain⟨S,rfl⟩:=Int.eq_ofNat_of_zero_le (show 0<=q by omega)
  have hK:K<256:=by omega
  have hKw:IntKind.u8.wrap (K:Int)=(K:Int):=by rw[IntKind.wrap_u8];omega
  obtain⟨i0,hi,hz0,hz1,hz2⟩:=info_parts info8
  have hbl:bytesR ⟨(K:Int),(S:Int),⟨k,s,n⟩⟩= [UInt8.ofNat K]++be8 S++bytesC ⟨k,s,n⟩:=by simp [bytesR]
  have HBL:=hid hbl
  clear hbl
  generalize bytesC ⟨k,s,n⟩=cb at hln C3 HBL
  have hcb:cb.length<=22:=by omega
  clear hln
  go_enter Try.func24,Try.ntmps24
  go_wp2_with (go_at_call 43;refine(C0.out _).mono ?_;rw[HM.out];rintro e w1 ⟨rfl,hb1⟩;obtain⟨c0,c1,c2,c3,c4⟩:=box5 hb1)
  have hbs:=hb1.size
  have hbs1:w.heap.size<=w1.heap.size:=by simp at hbs;omega
  have HB1:=hid hb1
  clear hb1
  go_region_held3 (fun w'=>w'.cell? ⟨w.heap.size,0,none⟩=some (.int .i64 (K:Int))/\w'.cell? ⟨w.heap.size,1,none⟩=some (.int .i64 (S:Int))/\w'.cell? ⟨w.heap.size,2,none⟩=some (.int .i64 k)/\w'.cell? ⟨w.heap.size,3,none⟩=some (.int .i64 s)/\w'.cell? ⟨w.heap.size,4,none⟩=some (.string (bstr n)))
   (first | go_keep | exact box5 (step HB1.out HB2.out))
   (first
    | (go_at_call 23;refine(Ref1.Eight_ok S _).mono ?_;rintro e w2 ⟨rfl,rfl⟩)
    | (refine step_append_rd (by rfl) _ _ _ (by rfl) w1.heap.size 5 i0 Try.underlying27 hi hz0 hz1 hz2 _ 1 (cellsOf [UInt8.ofNat K]) (by rfl) (byte_eight w1 w1.heap.size K S hK (Nat.le_refl _)).1 _ (be8 S) (by rfl) (byte_eight w1 w1.heap.size K S hK (Nat.le_refl _)).2 (by simp [be8_length]) (by simp;omega) ?_;intro v2 w2 hown2 hgrow2;have HB2:=hid ((((Below.refl _ _).alloc (Nat.le_refl _) _).alloc (by simp) _).drew.grown hgrow2 (by simp;omega) (fun k hk=>by simp [Value.ownBlock] at hk;omega)))
    | (refine step_append_rd (by rfl) _ _ _ (by rfl) w1.heap.size 5 i0 Try.underlying27 hi hz0 hz1 hz2 _ 1 (cellsOf [UInt8.ofNat K]) (by rfl) (eight_byte w1 w1.heap.size K S hK (Nat.le_refl _)).1 _ (be8 S) (by rfl) (eight_byte w1 w1.heap.size K S hK (Nat.le_refl _)).2 (by simp [be8_length]) (by simp;omega) ?_;intro v2 w2 hown2 hgrow2;have HB2:=hid ((((Below.refl _ _).alloc (Nat.le_refl _) _).alloc (by simp) _).drew.grown hgrow2 (by simp;omega) (fun k hk=>by simp [Value.ownBlock] at hk;omega))))
  all_goals
   obtain⟨c0,c1,c2,c3,c4⟩:=box5 (step HB1.out HB2.out)
   have hz:w1.heap.size<=w2.heap.size:=HB2.out.size
   rename_i hHeld
   clear hHeld hgrow2
   have e0:cellsOf [UInt8.ofNat K]++cellsOf (be8 S)=cellsOf ([UInt8.ofNat K]++be8 S):=(cellsOf_append _ _).symm
   rw[e0] at hown2
   generalize hX: [UInt8.ofNat K]++be8 S=X at hown2
   have hN9:1+(be8 S).length =9:=by rw[be8_length]
   rw[hN9] at hown2
   have HX:=hid hX
   have HO:=hid hown2
   clear hX hown2 hN9 e0
   go_wp2_with (first
    | (go_at_call 44;refine(C3.out _).mono ?_;rintro e w3 ⟨a3,l3,d3,rfl,hr3,hb3⟩;have HB3:=hid (HB2.out.trans (hb3.mono hz));have HO3:=hid (own_later HO.out hb3))
    | (at_builtin;refine wpList_append_rd rfl _ _ 27 rfl w1.heap.size 5 i0 Try.underlying27 hi hz0 hz1 hz2 _ 9 (cellsOf X) rfl HO3.out _ cb rfl hr3 (by omega) HB3.out.size ?_;intro v4 w4 hown4 hgrow4))
   go_ret2
   have HB4:=HB3.out.grown hgrow4 HB3.out.size (fun k hk=>(HO3.out.lt k hk).1)
   refine⟨v4,rfl,?_,step (step (newAlloc _ _) HB1.out) HB4⟩
   have e:9+cb.length=(X++cb).length :=by rw[<-HX.out];simp [be8_length];omega
   rw[HBL.out,HX.out]
   rw[<-cellsOf_append,e] at hown4
   exact own_mono hown4 hbs1
end Cm
end Go.Proofs.Ytlaomehfhooiaaa

/- Arguments that are commands and requests, opened. -/
set_option linter.unusedVariables false
set_option maxRecDepth 8000
set_option linter.unusedSimpArgs false
namespace Go.Proofs.Ytlaomehfhooiaaa
open Lib (hid)
open Go.RowKit Go.ChangeShapes Go.WideShapes Go.Deep
namespace Cm
section
variable {H : Type} {enc : TypeId × Value → H} {W : World} {base : Nat} {sp : Nat → Bool} {held : Bool}
theorem cmd_cells {fuel:Nat} {cs:List Value} {x:DataW H × List MemPlace} (h:DataW.trod enc Try.prog W base sp held fuel 42 cs=some x):
  ∃c:CmdV,cs= [.int .i64 c.kind,.int .i64 c.session,.string (bstr c.name)]:=by
 have hce:Try.prog.cellsOf 42=3:=by kernel_rfl
 obtain⟨y0,y1,y2,n',_,hlen,t0,t1,t2⟩:=trod_struct3 Try.underlying42 h
 rw[hce] at hlen
 match cs,hlen with
 | [c0,c1,c2],_=>
  obtain⟨d,e0,_⟩:=DataW.trod_int Try.underlying3 t0
  obtain⟨m,e1,_⟩:=DataW.trod_int Try.underlying3 t1
  obtain⟨q,e2,_⟩:=DataW.trod_string Try.underlying9 t2
  have e0':c0= .int .i64 d:=by injection e0
  have e1':c1= .int .i64 m:=by injection e1
  have e2':c2= .string q:=by injection e2
  exact⟨⟨d,m,q.data.toList⟩,by rw[e0',e1',e2',bstr_self]⟩
theorem req_cells {fuel:Nat} {cs:List Value} {x:DataW H × List MemPlace} (h:DataW.trod enc Try.prog W base sp held fuel 44 cs=some x):
  ∃r:ReqV,cs= [.int .i64 r.client,.int .i64 r.seq,.int .i64 r.cmd.kind,.int .i64 r.cmd.session,.string (bstr r.cmd.name)]:=by
 have hce:Try.prog.cellsOf 44=5:=by kernel_rfl
 have hcc:Try.prog.cellsOf 42=3:=by kernel_rfl
 obtain⟨y0,y1,y2,n',_,hlen,t0,t1,t2⟩:=trod_struct3 Try.underlying44 h
 rw[hce] at hlen
 match cs,hlen with
 | [c0,c1,c2,c3,c4],_=>
  obtain⟨d,e0,_⟩:=DataW.trod_int Try.underlying3 t0
  obtain⟨m,e1,_⟩:=DataW.trod_int Try.underlying3 t1
  obtain⟨c,hc⟩:=cmd_cells t2
  rw[hcc] at hc
  have e0':c0= .int .i64 d:=by injection e0
  have e1':c1= .int .i64 m:=by injection e1
  have e2': [c2,c3,c4]= [.int .i64 c.kind,.int .i64 c.session,.string (bstr c.name)]:=hc
  exact⟨⟨d,m,c⟩,by rw[e0',e1',e2']⟩
end
end Cm
end Go.Proofs.Ytlaomehfhooiaaa

/- Contracts of the statements' own helpers of layer 4: awake, Named, Cmd, Req. -/
set_option linter.unusedVariables false
set_option maxRecDepth 8000
set_option linter.unusedSimpArgs false
namespace Go.Proofs.Ytlaomehfhooiaaa
open Lib (hid)
open Go.RowKit
namespace Cm


def namedF:Nat->List UInt8
 | 0=> [97]
 | 1=> [98]
 | 2=> [99]
 | 3=> [100]
 | 4=> [107,101,121,45,49]
 | _=> [116,104,101,45,108,97,115,116,45,111,110,101]
theorem Named_any (n:Nat) (w:World) (h:n<256):Calls Try.prog 55 #[.int .u8 (n:Int)] w fun e w'=>e= .returned (.string (bstr (namedF (n % 6))))/\Below w.heap.size w w':=by
 have hm:n % 6<6:=Nat.mod_lt _ (by omega)
 have hc:((n:Int) % 6)=((n % 6:Nat):Int):=by simp
 generalize n % 6=r at hm hc ⊢
 match r,hm with
 | 0,_ | 1,_ | 2,_ | 3,_ | 4,_ | 5,_=>
  simp at hc
  go_enter Try.func55,Try.ntmps55
  go_wp2
  go_ret
  exact⟨rfl,newAlloc _ _⟩
theorem boxAB {w w':World} {A B:Array Value} {t u:TypeId} (h:Below ((w.alloc (.cells A t)).alloc (.cells B u)).heap.size ((w.alloc (.cells A t)).alloc (.cells B u)) w'):
  (∀k,w'.cell? ⟨w.heap.size,k,none⟩=A[k]?)/\(∀k,w'.cell? ⟨w.heap.size+1,k,none⟩=B[k]?)/\(∀k,w'.frozen? ⟨w.heap.size,k,none⟩=false)/\(∀k,w'.frozen? ⟨w.heap.size+1,k,none⟩=false):=by
 have h0:w.heap.size<((w.alloc (.cells A t)).alloc (.cells B u)).heap.size :=by simp;omega
 have h1:w.heap.size+1<((w.alloc (.cells A t)).alloc (.cells B u)).heap.size :=by simp
 refine⟨fun k=>?_,fun k=>?_,fun k=>?_,fun k=>?_⟩
 ·rw[h.cell (p:=⟨w.heap.size,k,none⟩) h0];simp [go_sem]
 ·rw[h.cell (p:=⟨w.heap.size+1,k,none⟩) h1];simp [go_sem]
 ·rw[h.frozen (p:=⟨w.heap.size,k,none⟩) h0];simp [go_sem]
 ·rw[h.frozen (p:=⟨w.heap.size+1,k,none⟩) h1];simp [go_sem]
def cmdOf (k s n:Nat):CmdV:=⟨1+((k % 6:Nat):Int),if k % 6=0 then 0 else 1+((s:Int) % 7),if k % 6=2\/k % 6=3\/k % 6=4 then namedF (n % 6) else []⟩
set_option maxHeartbeats 4000000 in
theorem Cmd_any (k s n:Nat) (w:World) (hk:k<256) (hs:s<256) (hn:n<256):Calls Try.prog 38 #[.int .u8 (k:Int),.int .u8 (s:Int),.int .u8 (n:Int)] w fun e w'=>e= .returned (cmdVal (cmdOf k s n))/\Below w.heap.size w w':=by
 have hm:k % 6<6:=Nat.mod_lt _ (by omega)
 have hc:((k:Int) % 6)=((k % 6:Nat):Int):=by simp
 have CN:=hid (fun w=>Named_any n w hn)
 unfold cmdOf cmdVal
 generalize k % 6=r at hm hc ⊢
 generalize namedF (n % 6)=nm at CN ⊢
 match r,hm with
 | 0,_ | 1,_ | 2,_ | 3,_ | 4,_ | 5,_=>
  simp at hc
  dsimp only
  go_enter Try.func38,Try.ntmps38
  go_wp2_with (go_at_call 55;refine(CN.out _).mono ?_;rintro e w1 ⟨rfl,hb1⟩;obtain⟨c0,c1,f0,f1⟩:=boxAB hb1)
  first
   | (refine bodyPost_ret (by simp [results,Try.results38,go_sem];rfl) rfl ⟨by simp [bstr],stepAlloc (newAlloc _ _) _⟩)
   | (refine bodyPost_ret (by simp [results,Try.results38,go_sem,c0,c1,f0,f1];rfl) rfl ⟨by simp,set3 ((step (stepAlloc (newAlloc _ _) _) hb1).setCell (by simp) _) _ _ _⟩)
theorem cmdOf_may (k s n:Nat):mayF (cmdOf k s n)=true:=by
 have hm:k % 6<6:=Nat.mod_lt _ (by omega)
 have hn:n % 6<6:=Nat.mod_lt _ (by omega)
 have hs1:0<=(s:Int) % 7:=by omega
 have hs2:(s:Int) % 7<7:=by omega
 have hN:nameF (namedF (n % 6))=true:=by
  generalize n % 6=r at hn
  match r,hn with
  | 0,_ | 1,_ | 2,_ | 3,_ | 4,_ | 5,_=>decide+kernel
 unfold cmdOf mayF highF
 generalize k % 6=r at hm ⊢
 match r,hm with
 | 0,_ | 1,_ | 2,_ | 3,_ | 4,_ | 5,_=>simp [hN]<;>omega
def reqOf (c q k s n:Nat):ReqV:=⟨((c % 8:Nat):Int),1+(q:Int),cmdOf k s n⟩
theorem reqOf_may (c q k s n:Nat) (hq:q<256):mayR (reqOf c q k s n)=true:=by
 have hm:c % 8<8:=Nat.mod_lt _ (by omega)
 unfold reqOf mayR highF
 simp [cmdOf_may]
 omega
theorem Req_any (c q k s n:Nat) (w:World) (hc:c<256) (hq:q<256) (hk:k<256) (hs:s<256) (hn:n<256):Calls Try.prog 19 #[.int .u8 (c:Int),.int .u8 (q:Int),.int .u8 (k:Int),.int .u8 (s:Int),.int .u8 (n:Int)] w fun e w'=>e= .returned (reqVal (reqOf c q k s n))/\Below w.heap.size w w':=by
 have CN:=hid (fun w=>Cmd_any k s n w hk hs hn)
 have hc8:((c:Int) % 8)=((c % 8:Nat):Int):=by simp
 unfold reqVal reqOf
 unfold cmdVal at CN
 generalize cmdOf k s n=x at CN ⊢
 obtain⟨ck,cs,cn⟩:=x
 dsimp only at CN ⊢
 generalize c % 8=r at hc8 ⊢
 go_enter Try.func19,Try.ntmps19
 go_wp2_with (go_at_call 38;refine(CN.out _).mono ?_;rintro e w1 ⟨rfl,hb1⟩;obtain⟨c0,c1,c2,c3,c4⟩:=box5 hb1;have f0:=free5 hb1)
 refine bodyPost_ret (by simp [results,Try.results19,go_sem,c0,c1,c2,c3,c4,f0]) rfl ⟨rfl,set5 (step (newAlloc _ _) hb1) _ _ _ _ _⟩
end Cm
end Go.Proofs.Ytlaomehfhooiaaa
