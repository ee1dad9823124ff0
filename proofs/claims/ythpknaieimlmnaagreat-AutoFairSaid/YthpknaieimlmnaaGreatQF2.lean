/- Texts laid together by program. -/
import Derived.Test.YthpknaieimlmnaaGreatQF1
import Derived.Test.YthpknaieimlmnaaGreatQ52
/- Who wait for a lock have it in their order: pure. -/
set_option linter.unusedVariables false
set_option maxRecDepth 8000
set_option linter.unusedSimpArgs false
namespace Go.Proofs.YthpknaieimlmnaaGreat
open Lib (hid)
open Go.RowKit
namespace Cm

def lockF (n:List UInt8) (k:Int):List Int->List LockV
 | []=> []
 | h::t=> [⟨n,h,k,t⟩]
theorem idx_nil (n:List UInt8):idxI (isNm n) []<0:=by unfold idxI;rw[if_neg (by simp)];decide
theorem idx_one (n:List UInt8) (h k:Int) (t:List Int):idxI (isNm n) [⟨n,h,k,t⟩]=0:=idx_app n [] [] ⟨n,h,k,t⟩ (fun a ha=>by cases ha) rfl
theorem get_one (x:LockV):getK [x] 0=x:=rfl
theorem take_nil (n:List UInt8) (c t:Int):takeK (lockF n 1 []) n c t true=(lockF n (t+1) [c],0,0):=by
 unfold takeK lockF
 rw[if_pos (idx_nil n),if_neg (by simp)]
 rfl
theorem take_cons (n:List UInt8) (h:Int) (T:List Int) (c t:Int) (hc:h≠c) (hn:c ∉ T) (hl:T.length<3):takeK (lockF n 1 (h::T)) n c t true=(lockF n 1 (h::(T++ [c])),(T.length:Int),10):=by
 unfold takeK lockF
 rw[idx_one,if_neg (by decide),get_one,if_neg hc,if_neg (by decide),aheadL_has,(hasL_not _ _).2 hn,if_neg (by decide),if_neg (by dsimp only;omega)]
 rfl
theorem free_one (n:List UInt8) (h k:Int) (T:List Int) (t:Int):freeK (lockF n k (h::T)) n h t=(lockF n (t+1) T,(if T= [] then 0 else 1),0):=by
 unfold freeK
 show(if idxI (isNm n) [⟨n,h,k,T⟩]<0 then _ else _)= _
 have e:lockF n k (h::T)= [⟨n,h,k,T⟩]:=rfl
 rw[e,idx_one,if_neg (by decide),get_one,if_neg (by simp)]
 cases T with
 | nil=>rw[if_pos rfl,if_pos rfl];rfl
 | cons x T=>rw[if_neg (by simp),if_neg (by simp)];rfl
theorem drop_one (n:List UInt8) (h k:Int) (T:List Int) (t:Int) (hn:h ∉ T):dropK [h] (lockF n k (h::T)) t=(lockF n (t+1) T,if T= [] then 0 else 1):=by
 have e:lockF n k (h::T)= [⟨n,h,k,T⟩]:=rfl
 have el:leftK [h] ⟨n,h,k,T⟩=⟨n,h,k,T⟩:=by
  unfold leftK withoutL
  dsimp only
  congr 1
  exact List.filter_eq_self.2 fun x hx=>by
   rw[show hasL [h] x=false from(hasL_not _ _).2 (by rw[List.mem_singleton];rintro rfl;exact hn hx)];rfl
 rw[e,dropK,el,if_neg (by rw[(hasL_iff _ _).2 (List.mem_singleton.2 rfl)];simp)]
 cases T with
 | nil=>rw[if_pos rfl,dropK,if_pos rfl];rfl
 | cons x T=>rw[if_neg (by simp),dropK,if_neg (by simp)];rfl
theorem fresh_lt {l:List AnsV} {c q:Int} (h:(lastM l c).1.seq <q):freshM l c q=1:=by
 unfold freshM
 split
 ·rfl
 ·first | rfl | rw[if_pos h]
theorem apply_lt {s:StV} {r:ReqV} (hm:mayR r=true) (hq:(lastM s.memos r.client).1.seq <r.seq):applyA s r=(keptA (doesA s r).1 ⟨r.client,r.seq,(doesA s r).2⟩,(doesA s r).2,true):=by
 have hf:=fresh_lt hq
 unfold applyA
 rw[if_neg (by rw[hm];simp),if_neg (by rw[hf];decide),if_neg (by rw[hf];decide)]
theorem kept_seq {s:StV} (h:Rst s) {r:ReqV} (hn:s.num<2305843009213693900) (ht:s.token<2305843009213693900) (hm:mayR r=true) (hq:(lastM s.memos r.client).1.seq <r.seq) (d:Int):
  (lastM (applyA s r).1.memos d).1.seq =if d=r.client then r.seq else (lastM s.memos d).1.seq :=by
 rw[apply_lt hm hq]
 show(lastM (keepM (doesA s r).1.memos ⟨r.client,r.seq,(doesA s r).2⟩) d).1.seq = _
 rw[does_memos]
 obtain⟨b1,b2,b3⟩:=mayR_bounds r hm
 have hp:=does_may h b3 hn ht
 have ha:mayA ⟨r.client,r.seq,(doesA s r).2⟩=true:=by
  unfold mayA
  dsimp only
  have e:highF r.seq 1=true:=by unfold highF;rw[decide_eq_true b2.1,decide_eq_true b2.2];rfl
  rw[hp,e,decide_eq_true b1.1,decide_eq_true (by omega)]
  rfl
 unfold keepM
 rw[if_pos (by rw[ha,decide_eq_true (fresh_lt hq)];rfl),last_ins]
 dsimp only
 by_cases e:d=r.client
 ·rw[if_pos e,if_pos e.symm]
 ·rw[if_neg e,if_neg (fun q=>e q.symm)]
structure Come (n:List UInt8) (C:List Int) (s:StV):Prop where
 right:Rst s
 num:s.num=C.length
 tok:s.token=if C= [] then 0 else 1
 ses:s.ses.length=C.length
 has: ∀c,hasA s c=true ↔ c∈C
 locks:s.locks=lockF n 1 C
 memo: ∀c,(lastM s.memos c).1.seq =if c∈C then 2 else 0
theorem Come.zero (n:List UInt8):Come n [] zeroSt:=⟨Rst.zero,rfl,rfl,rfl,(fun c=>by unfold hasA zeroSt findS;simp),rfl,fun c=>rfl⟩
def reqO (c:Int):ReqV:=⟨c,1,⟨1,0,[]⟩⟩
def reqT (n:List UInt8) (c v:Int):ReqV:=⟨c,2,⟨3,v,n⟩⟩
structure Midw (n:List UInt8) (C:List Int) (c:Int) (t:StV):Prop where
 right:Rst t
 num:t.num=C.length+1
 tok:t.token=if C= [] then 0 else 1
 ses:t.ses.length=C.length+1
 has: ∀d,hasA t d=true ↔ d=c\/d∈C
 own:(findS t.ses c).1.num =C.length+1
 locks:t.locks=lockF n 1 C
 memo: ∀d,(lastM t.memos d).1.seq =if d=c then 1 else if d∈C then 2 else 0
theorem clientF_of {c:Int} (hc:0<=c/\c<8):clientF c=true:=by unfold clientF;simp;omega
theorem come_open {n:List UInt8} {C:List Int} {s:StV} (h:Come n C s) {c:Int} (hc:0<=c/\c<8) (hn:c ∉ C) (h4:C.length<4):
  (applyA s (reqO c)).2.1.session =C.length+1/\Midw n C c (applyA s (reqO c)).1:=by
 have hm:mayR (reqO c)=true:=open_may c 1 hc (by omega)
 have hq:(lastM s.memos (reqO c).client).1.seq <(reqO c).seq :=by
  show(lastM s.memos c).1.seq <1
  rw[h.memo c,if_neg hn]
  decide
 have htk:s.token<2305843009213693900:=by rw[h.tok];split<;>decide
 have hnm:s.num<2305843009213693900:=by rw[h.num];omega
 have hf:(findS s.ses c).2=false:=by
  cases q:(findS s.ses c).2 with
  | false=>rfl
  | true=>exact absurd ((h.has c).1 q) hn
 have hne:=(findS_none _ _).1 hf
 have hl:s.ses.length<5:=by rw[h.ses];omega
 have e0:openS s.ses c (s.num+1) s.time=(putS ⟨c,s.num+1,s.time⟩ s.ses,0):=by rw[open1_not h.right (by omega) (clientF_of hc) hf,if_neg (by omega)]
 have ed:doesA s (reqO c)=(openedA s c,toldA (openedA s c) c 0 0):=by
  show(if (1:Int)=1 then openA s c else _)= _
  rw[if_pos rfl]
  unfold openA
  rw[if_neg (by rw[hf];simp),if_pos (by rw[e0])]
 have es:(openedA s c).ses =putS ⟨c,s.num+1,s.time⟩ s.ses:=by show(openS s.ses c (s.num+1) s.time).1= _;rw[e0]
 have eo:(findS (openedA s c).ses c).1.num =s.num+1:=by
  rw[es]
  have:=put_find ⟨c,s.num+1,s.time⟩ s.ses hne
  dsimp only at this
  rw[this]
 have hx:=(apply_next h.right (reqO c) hnm htk).right
 have hk:=kept_seq h.right (r:=reqO c) hnm htk hm hq
 have ea:=apply_lt hm hq
 rw[ed] at ea
 refine⟨?_,hx,?_,?_,?_,?_,?_,?_,?_⟩
 ·rw[ea]
  show(findS (openedA s c).ses c).1.num = _
  rw[eo,h.num]
 ·rw[ea]
  show s.num+1= _
  rw[h.num]
 ·rw[ea]
  exact h.tok
 ·rw[ea]
  show(openedA s c).ses.length = _
  rw[es,putS_length,h.ses]
 ·intro d
  rw[ea]
  show(findS (openedA s c).ses d).2=true ↔ _
  rw[es,findS_some,<-h.has d]
  unfold hasA
  rw[findS_some]
  constructor
  ·rintro ⟨x,hx,e⟩
   rcases (putS_mem _ _ _).1 hx with q | q
   ·rw[q] at e;exact .inl e.symm
   ·exact .inr ⟨x,q,e⟩
  ·rintro (q | ⟨x,hx,e⟩)
   ·exact⟨_,(putS_mem _ _ _).2 (.inl rfl),q.symm⟩
   ·exact⟨x,(putS_mem _ _ _).2 (.inr hx),e⟩
 ·rw[ea]
  show(findS (openedA s c).ses c).1.num = _
  rw[eo,h.num]
 ·rw[ea]
  exact h.locks
 ·intro d
  rw[hk d,h.memo d]
  rfl
theorem come_take {n:List UInt8} {C:List Int} {t:StV} {c:Int} (h:Midw n C c t) (hc:0<=c/\c<8) (hn:c ∉ C) (h4:C.length<4) (hnm:nameF n=true):
  (applyA t (reqT n c (C.length+1))).2.2=true/\(C= []->(applyA t (reqT n c (C.length+1))).2.1.code =0/\tokenF (applyA t (reqT n c (C.length+1))).2.1.held n=1)/\
  (C≠ []->(applyA t (reqT n c (C.length+1))).2.1.code =10/\(applyA t (reqT n c (C.length+1))).2.1.ahead =C.length - 1)/\Come n (C++ [c]) (applyA t (reqT n c (C.length+1))).1:=by
 have hmc:mayF ⟨3,(C.length:Int)+1,n⟩=true:=by
  unfold mayF
  dsimp only
  rw[if_neg (by decide),if_neg (by decide),if_pos (.inl rfl),hnm]
  unfold highF
  rw[decide_eq_true (by omega),decide_eq_true (by omega)]
  rfl
 have hm:mayR (reqT n c (C.length+1))=true:=next_may hc (by omega) hmc
 have hq:(lastM t.memos (reqT n c (C.length+1)).client).1.seq <(reqT n c (C.length+1)).seq :=by
  show(lastM t.memos c).1.seq <2
  rw[h.memo c,if_pos rfl]
  decide
 have htk:t.token<2305843009213693900:=by rw[h.tok];split<;>decide
 have hnb:t.num<2305843009213693900:=by rw[h.num];omega
 have hf:(findS t.ses c).2=true:=(h.has c).2 (.inl rfl)
 have ed:doesA t (reqT n c (C.length+1))=(takenA (renewedA t c) n c true,toldA (takenA (renewedA t c) n c true) c (takeK (lockF n 1 C) n c t.token true).2.2 (takeK (lockF n 1 C) n c t.token true).2.1):=by
  unfold doesA
  rw[if_neg (by show ¬((3:Int)=1);decide),if_neg (by
   show ¬((findS t.ses c).2=false\/(findS t.ses c).1.num ≠(C.length:Int)+1)
   rw[hf,h.own];simp)]
  show cmdA (renewedA t c) c ⟨3,(C.length:Int)+1,n⟩= _
  unfold cmdA
  rw[if_pos (.inl rfl)]
  have e1:(renewedA t c).locks =lockF n 1 C:=h.locks
  have e2:(renewedA t c).token =t.token:=rfl
  rw[e1,e2]
  rfl
 have hx:=(apply_next h.right (reqT n c (C.length+1)) hnb htk).right
 have hk:=kept_seq h.right (r:=reqT n c (C.length+1)) hnb htk hm hq
 have ea:=apply_lt hm hq
 rw[ed] at ea
 have hses:(renewedA t c).ses =t.ses.map (renewE c t.time):=renewed_ses h.right hf
 have hl:takeK (renewedA t c).locks n c (renewedA t c).token true=takeK (lockF n 1 C) n c t.token true:=by rw[show(renewedA t c).locks =lockF n 1 C from h.locks];rfl
 have hres:(takenA (renewedA t c) n c true).locks =lockF n 1 (C++ [c])/\(takenA (renewedA t c) n c true).token =1/\(C= []->(takeK (lockF n 1 C) n c t.token true).2.2=0)/\
   (C≠ []->(takeK (lockF n 1 C) n c t.token true).2.2=10/\(takeK (lockF n 1 C) n c t.token true).2.1=C.length - 1):=by
  unfold takenA
  dsimp only
  rw[hl]
  have etk:(renewedA t c).token =t.token:=rfl
  rw[etk]
  have ht0:=h.tok
  cases C with
  | nil=>
   rw[take_nil,if_pos (.inl rfl),if_pos rfl]
   rw[if_pos rfl] at ht0
   rw[ht0]
   exact⟨rfl,rfl,fun _=>rfl,fun q=>absurd rfl q⟩
  | cons x T=>
   rw[if_neg (by simp)] at ht0
   rw[take_cons n x T c t.token (fun e=>hn (by rw[e];exact List.mem_cons_self)) (fun q=>hn (List.mem_cons_of_mem _ q)) (by rw[List.length_cons] at h4;omega)]
   rw[if_pos (.inr rfl),if_neg (by show ¬((10:Int)=0);decide),ht0]
   exact⟨rfl,rfl,(fun q=>by cases q),fun _=>⟨rfl,by show(T.length:Int)=((x::T).length :Int) - 1;rw[List.length_cons];omega⟩⟩
 obtain⟨r1,r2,r3,r4⟩:=hres
 refine⟨by rw[ea],fun q=>?_,fun q=>?_,hx,?_,?_,?_,?_,?_,?_⟩
 ·rw[ea]
  refine⟨r3 q,?_⟩
  show tokenF (heldK (takenA (renewedA t c) n c true).locks c) n=1
  rw[r1,q]
  unfold heldK
  simp [lockF,tokenF]
 ·rw[ea]
  exact r4 q
 ·rw[ea]
  show t.num= _
  rw[h.num];simp
 ·rw[ea,if_neg (by simp)]
  exact r2
 ·rw[ea]
  show(renewedA t c).ses.length = _
  rw[hses,List.length_map,h.ses];simp
 ·intro d
  rw[ea]
  show(findS (renewedA t c).ses d).2=true ↔ _
  rw[hses,(find_map c t.time t.ses d).1,List.mem_append,List.mem_singleton]
  exact(h.has d).trans Or.comm
 ·rw[ea]
  exact r1
 ·intro d
  rw[hk d,h.memo d]
  show(if d=c then (2:Int) else if d=c then 1 else if d∈C then 2 else 0)= _
  by_cases e:d=c
  ·rw[if_pos e,if_pos (by rw[e];simp)]
  ·rw[if_neg e,if_neg e]
   by_cases e2:d∈C
   ·rw[if_pos e2,if_pos (List.mem_append.2 (.inl e2))]
   ·rw[if_neg e2,if_neg (fun q=>(List.mem_append.1 q).elim e2 (fun q=>e (List.mem_singleton.1 q)))]
structure Goes (n:List UInt8) (C:List Int) (i:Nat) (s:StV):Prop where
 right:Rst s
 num:s.num=C.length
 tok:i<C.length->s.token=(i:Int)+1
 most:s.token<=C.length
 has: ∀c∈C.drop i,hasA s c=true
 locks:s.locks=lockF n ((i:Int)+1) (C.drop i)
 memo: ∀c∈C.drop i,(lastM s.memos c).1.seq =2
theorem Come.goes {n:List UInt8} {C:List Int} {s:StV} (h:Come n C s):Goes n C 0 s:=by
 refine⟨h.right,h.num,fun q=>?_,?_,fun c hc=>(h.has c).2 hc,h.locks,fun c hc=>?_⟩
 ·rw[h.tok,if_neg (by intro e;rw[e] at q;cases q)];rfl
 ·rw[h.tok]
  split
  ·omega
  ·rename_i q
   have:=List.length_pos_iff.2 q
   omega
 ·rw[h.memo c,if_pos (show c∈C from hc)]
theorem lock_drop (n:List UInt8) (C:List Int) (i:Nat) (h:i<C.length) (k:Int):lockF n k (C.drop i)= [⟨n,C[i],k,C.drop (i+1)⟩]:=by
 rw[List.drop_eq_getElem_cons h];rfl
def cmdG (n:List UInt8) (close:Bool) (v:Int):CmdV:=if close then ⟨6,v,[]⟩ else ⟨5,v,n⟩
def reqG (n:List UInt8) (c:Int) (close:Bool) (v:Int):ReqV:=⟨c,3,cmdG n close v⟩
theorem goes_next {n:List UInt8} {C:List Int} {i:Nat} {s:StV} (h:Goes n C i s) (hi:i<C.length) (h4:C.length<=4) (hC: ∀c∈C,0<=c/\c<8) (hd:C.Pairwise (· ≠ ·)) (hnm:nameF n=true) (close:Bool):
  (applyA s (reqG n C[i] close (findS s.ses C[i]).1.num)).2.2=true/\(applyA s (reqG n C[i] close (findS s.ses C[i]).1.num)).2.1.code =0/\(applyA s (reqG n C[i] close (findS s.ses C[i]).1.num)).2.1.held = []/\
  Goes n C (i+1) (applyA s (reqG n C[i] close (findS s.ses C[i]).1.num)).1:=by
 have hdr:C.drop i=C[i]::C.drop (i+1):=List.drop_eq_getElem_cons hi
 have hnot:C[i] ∉ C.drop (i+1):=by
  have:(C.drop i).Pairwise (· ≠ ·):=hd.sublist (List.drop_sublist _ _)
  rw[hdr] at this
  intro q
  exact(List.pairwise_cons.1 this).1 _ q rfl
 have hc:=hC _ (List.getElem_mem hi)
 generalize hce:C[i]=c at hdr hnot hc ⊢
 have hin:c∈C.drop i:=by rw[hdr];exact List.mem_cons_self
 have hf:(findS s.ses c).2=true:=h.has c hin
 have hv:1<=(findS s.ses c).1.num /\(findS s.ses c).1.num <=4:=by
  have hs:=(find_in hf).1
  have h1:=((rightS_iff s.ses).1 h.right.ses).2.one _ hs
  unfold oneS highF at h1
  simp only[Bool.and_eq_true,decide_eq_true_eq] at h1
  have h2:=h.right.nums _ hs
  have h3:=h.num
  omega
 generalize hve:(findS s.ses c).1.num =v at hv ⊢
 have hcm:mayF (cmdG n close v)=true/\(cmdG n close v).session =v/\(cmdG n close v).kind ≠1:=by
  have hh:highF v 1=true:=by unfold highF;rw[decide_eq_true (by omega),decide_eq_true (by omega)];rfl
  cases close with
  | true=>
   refine⟨?_,rfl,by show(6:Int)≠1;decide⟩
   show mayF ⟨6,v,[]⟩=true
   unfold mayF
   dsimp only
   rw[if_neg (by decide),if_pos (.inr rfl),hh];rfl
  | false=>
   refine⟨?_,rfl,by show(5:Int)≠1;decide⟩
   show mayF ⟨5,v,n⟩=true
   unfold mayF
   dsimp only
   rw[if_neg (by decide),if_neg (by decide),if_pos (.inr (.inr rfl)),hh,hnm];rfl
 have hm:mayR (reqG n c close v)=true:=next_may hc (by omega) hcm.1
 have hq:(lastM s.memos (reqG n c close v).client).1.seq <(reqG n c close v).seq :=by
  show(lastM s.memos c).1.seq <3
  rw[h.memo c hin]
  decide
 have htk:s.token<2305843009213693900:=by have:=h.most;omega
 have hnb:s.num<2305843009213693900:=by rw[h.num];omega
 have ht1:=h.tok hi
 have hx:=(apply_next h.right (reqG n c close v) hnb htk).right
 have hk:=kept_seq h.right (r:=reqG n c close v) hnb htk hm hq
 have ea:=apply_lt hm hq
 have hrl:(renewedA s c).locks =lockF n ((i:Int)+1) (c::C.drop (i+1)):=by rw[<-hdr];exact h.locks
 have hrt:(renewedA s c).token =s.token:=rfl
 have hses:(renewedA s c).ses =s.ses.map (renewE c s.time):=renewed_ses h.right hf
 have ed0:doesA s (reqG n c close v)=cmdA (renewedA s c) c (cmdG n close v):=by
  unfold doesA
  rw[if_neg (by exact hcm.2.2),if_neg (by
   show ¬((findS s.ses c).2=false\/(findS s.ses c).1.num ≠(cmdG n close v).session)
   rw[hf,hve,hcm.2.1];simp)]
  rfl
 have hgt:s.token+1=((i+1:Nat):Int)+1:=by rw[ht1];omega
 have hheld:heldK (lockF n (s.token+1) (C.drop (i+1))) c= []:=by
  unfold heldK
  cases hT:C.drop (i+1) with
  | nil=>rfl
  | cons x T=>
   have:x≠c:=fun e=>hnot (by rw[hT,e];exact List.mem_cons_self)
   simp [lockF,this]
 have hgv:(if C.drop (i+1)= [] then (0:Int) else 1)=if i+1<C.length then 1 else 0:=by
  by_cases q:i+1<C.length
  ·rw[if_pos q,if_neg (by intro e;have:=congrArg List.length e;rw[List.length_drop] at this;simp at this;omega)]
  ·rw[if_neg q,if_pos (List.drop_eq_nil_of_le (by omega))]
 have hsub: ∀d∈C.drop (i+1),d∈C.drop i/\d≠c:=fun d hd=>⟨by rw[hdr];exact List.mem_cons_of_mem _ hd,fun e=>hnot (e ▸ hd)⟩
 have hmem: ∀d∈C.drop (i+1),(lastM (applyA s (reqG n c close v)).1.memos d).1.seq =2:=fun d hd=>by
  rw[hk d,if_neg (by exact(hsub d hd).2)]
  exact h.memo d (hsub d hd).1
 rw[ed0] at ea
 cases close with
 | false=>
  have e1:cmdA (renewedA s c) c (cmdG n false v)=(freedA (renewedA s c) n c,toldA (freedA (renewedA s c) n c) c 0 0):=by
   show cmdA (renewedA s c) c ⟨5,v,n⟩= _
   unfold cmdA
   rw[if_neg (by show ¬((5:Int)=3\/(5:Int)=4);decide),if_pos rfl]
   dsimp only
   rw[hrl,free_one]
  have e2:(freedA (renewedA s c) n c).locks =lockF n (s.token+1) (C.drop (i+1)):=by
   unfold freedA
   dsimp only
   rw[hrl,free_one,if_pos rfl,hrt]
  have e3:(freedA (renewedA s c) n c).token =s.token+if i+1<C.length then 1 else 0:=by
   unfold freedA
   dsimp only
   rw[hrl,free_one,if_pos rfl,hrt]
   dsimp only
   rw[hgv]
  rw[e1] at ea
  refine⟨by rw[ea],by rw[ea];rfl,?_,hx,?_,?_,?_,?_,?_,hmem⟩
  ·rw[ea]
   show heldK (freedA (renewedA s c) n c).locks c= []
   rw[e2];exact hheld
  ·rw[ea];exact h.num
  ·intro q
   rw[ea]
   show(freedA (renewedA s c) n c).token = _
   rw[e3,if_pos q];exact hgt
  ·rw[ea]
   show(freedA (renewedA s c) n c).token <=_
   rw[e3]
   split<;>omega
  ·intro d hd
   rw[ea]
   show(findS (renewedA s c).ses d).2=true
   rw[hses,(find_map c s.time s.ses d).1]
   exact h.has d (hsub d hd).1
  ·rw[ea]
   show(freedA (renewedA s c) n c).locks = _
   rw[e2,hgt]
 | true=>
  have e1:cmdA (renewedA s c) c (cmdG n true v)=(dropA (renewedA s c) [c],onlyA 0):=by
   show cmdA (renewedA s c) c ⟨6,v,[]⟩= _
   unfold cmdA
   rw[if_neg (by show ¬((6:Int)=3\/(6:Int)=4);decide),if_neg (by show ¬((6:Int)=5);decide),if_pos rfl]
  have e2:(dropA (renewedA s c) [c]).locks =lockF n (s.token+1) (C.drop (i+1)):=by
   unfold dropA
   dsimp only
   rw[hrl,drop_one _ _ _ _ _ hnot,hrt]
  have e3:(dropA (renewedA s c) [c]).token =s.token+if i+1<C.length then 1 else 0:=by
   unfold dropA
   dsimp only
   rw[hrl,drop_one _ _ _ _ _ hnot,hrt]
   dsimp only
   rw[hgv]
  rw[e1] at ea
  refine⟨by rw[ea],by rw[ea];rfl,by rw[ea];rfl,hx,?_,?_,?_,?_,?_,hmem⟩
  ·rw[ea];exact h.num
  ·intro q
   rw[ea]
   show(dropA (renewedA s c) [c]).token = _
   rw[e3,if_pos q];exact hgt
  ·rw[ea]
   show(dropA (renewedA s c) [c]).token <=_
   rw[e3]
   split<;>omega
  ·intro d hd
   rw[ea]
   show(findS (closeAll (renewedA s c).ses [c]) d).2=true
   rw[closeAll_eq,hses]
   have h1:=h.has d (hsub d hd).1
   unfold hasA at h1
   rw[<-(find_map c s.time s.ses d).1] at h1
   obtain⟨x,hx,e⟩:=(findS_some _ _).1 h1
   refine(findS_some _ _).2 ⟨x,List.mem_filter.2 ⟨hx,?_⟩,e⟩
   rw[e,show hasL [c] d=false from(hasL_not _ _).2 (by rw[List.mem_singleton];exact(hsub d hd).2)]
   rfl
  ·rw[ea]
   show(dropA (renewedA s c) [c]).locks = _
   rw[e2,hgt]
end Cm
end Go.Proofs.YthpknaieimlmnaaGreat
