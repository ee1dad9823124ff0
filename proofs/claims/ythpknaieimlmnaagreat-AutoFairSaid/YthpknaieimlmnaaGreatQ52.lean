/- Texts laid together by program. -/
import Derived.Test.YthpknaieimlmnaaGreatQ50
import Derived.Deep.RegionWith
/- What is refused: pure. -/
set_option linter.unusedVariables false
set_option maxRecDepth 8000
set_option linter.unusedSimpArgs false
namespace Go.Proofs.YthpknaieimlmnaaGreat
open Lib (hid)
open Go.RowKit
namespace Cm

/-! ### the numbers of a made state's memos -/
theorem keepM_in {l:List AnsV} {a m:AnsV} (h:m∈keepM l a):m=a\/m∈l:=by
 unfold keepM at h
 split at h
 ·exact ins_mem a l m h
 ·exact .inr h
theorem lastM_most {l:List AnsV} {n:Int} (hn:0<=n) (h: ∀m∈l,m.seq<=n) (c:Int):(lastM l c).1.seq <=n:=by
 rcases idxM_cases l c with ⟨_,q⟩ | ⟨k,hk,_,_,q⟩
 ·rw[q];exact hn
 ·rw[q];exact h _ (List.getElem_mem hk)
theorem step_seq {s:StV} {n:Int} (hn:6<=n) (h: ∀m∈s.memos,m.seq<=n) (a:Act10) (d:Int): ∀m∈(stepA d s a).memos,m.seq<=n+1:=by
 intro m hm
 have hA:(atA s a d).memos =s.memos:=rfl
 unfold stepA at hm
 generalize atA s a d=t at hA hm
 have hq:(requestA t a).seq <=n+1:=by
  have hl:=lastM_most (n:=n) (by omega) (by rw[hA];exact h) (req0 a).client (l:=t.memos)
  have hr:(req0 a).seq =1+((a.seq % 6:Nat):Int):=rfl
  show seqA t a.seq (req0 a)<=n+1
  unfold seqA
  split
  ·omega
  ·split<;>omega
 generalize requestA t a=r at hq hm
 have h': ∀x∈t.memos,x.seq<=n+1:=fun x hx=>by have:=h x (by rw[<-hA];exact hx);omega
 unfold applyA at hm
 split at hm
 ·exact h' m hm
 ·split at hm
  ·exact h' m hm
  ·split at hm
   ·exact h' m hm
   ·have hm2:m∈keepM (doesA t r).1.memos ⟨r.client,r.seq,(doesA t r).2⟩:=hm
    rw[does_memos] at hm2
    rcases keepM_in hm2 with q | q
    ·rw[q];exact hq
    ·exact h' m q
theorem made_seq (d:Int) (L:List Act10): ∀k:Nat,k<=L.length-> ∀m∈(madeA d (L.take k)).memos,m.seq<=6+(k:Int)
 | 0,_=>fun m hm=>by cases hm
 | k+1,h=>by
  rw[madeA_succ d L k (by omega)]
  have:=step_seq (n:=6+(k:Int)) (by omega) (made_seq d L k (by omega)) (L[k]'(by omega)) d
  intro m hm
  have:=this m hm
  omega
theorem made_last (d:Int) (L:List Act10) (c:Int):(lastM (madeA d (L.take 60)).memos c).1.seq <=66:=by
 refine lastM_most (by omega) (fun m hm=>?_) c
 by_cases h:60<=L.length
 ·exact made_seq d L 60 h m hm
 ·have e:L.take 60=L.take L.length:=by rw[List.take_of_length_le (Nat.le_refl _),List.take_of_length_le (by omega)]
  rw[e] at hm
  have:=made_seq d L L.length (Nat.le_refl _) m hm
  omega
theorem find_zero {l:List SesV} {c:Int} (h:(findS l c).2=false):(findS l c).1.num =0:=by
 induction l with
 | nil=>rfl
 | cons x l ih=>
  unfold findS at h ⊢
  split
  ·rename_i q;rw[if_pos q] at h;cases h
  ·rename_i q;rw[if_neg q] at h;exact ih h
theorem find_num {s:StV} (h:Rst s) {n:Int} (hn:s.num<=n) (c:Int):0<=(findS s.ses c).1.num /\(findS s.ses c).1.num <=n:=by
 have h0:=h.num
 cases q:(findS s.ses c).2 with
 | true=>
  have hs:=(find_in q).1
  have h1:=((rightS_iff s.ses).1 h.ses).2.one _ hs
  unfold oneS highF at h1
  simp only[Bool.and_eq_true,decide_eq_true_eq] at h1
  have h2:=h.nums _ hs
  omega
 | false=>
  have e:(findS s.ses c).1.num =0:=find_zero q
  rw[e]
  exact⟨Int.le_refl _,by omega⟩
theorem rst_five {s:StV} (h:Rst s):s.ses.length<=5:=((rightS_iff s.ses).1 h.ses).1
/-! ### what is told -/
theorem fresh_next (l:List AnsV) (c:Int):freshM l c ((lastM l c).1.seq +1)=1:=by
 unfold freshM
 split
 ·rfl
 ·rw[if_pos (by omega)]
theorem refuse_kind (s:StV) (c q:Int) (k:Nat):applyA s ⟨c,q,⟨7+(k:Int),0,[]⟩⟩=(s,onlyA 1,false):=by
 have:mayR ⟨c,q,⟨7+(k:Int),0,[]⟩⟩=false:=by
  unfold mayR mayF
  dsimp only
  rw[if_neg (by omega),if_neg (by omega),if_neg (by omega),Bool.and_false]
 unfold applyA
 rw[if_pos this]
theorem next_may {c q:Int} {m:CmdV} (hc:0<=c/\c<8) (hq:1<=q/\q<=2305843009213693952) (hm:mayF m=true):mayR ⟨c,q,m⟩=true:=by
 unfold mayR highF
 dsimp only
 rw[hm,decide_eq_true hc.1,decide_eq_true hc.2,decide_eq_true hq.1,decide_eq_true hq.2]
 rfl
theorem apply_new {s:StV} {r:ReqV} (hm:mayR r=true) (hq:r.seq=(lastM s.memos r.client).1.seq +1):applyA s r=(keptA (doesA s r).1 ⟨r.client,r.seq,(doesA s r).2⟩,(doesA s r).2,true):=by
 have hf:freshM s.memos r.client r.seq=1:=by rw[hq];exact fresh_next _ _
 unfold applyA
 rw[if_neg (by rw[hm];simp),if_neg (by rw[hf];decide),if_neg (by rw[hf];decide)]
theorem refuse_num {s:StV} {r:ReqV} (hk:r.cmd.kind≠1) (hs:(findS s.ses r.client).1.num <r.cmd.session):doesA s r=(s,onlyA 9):=by
 unfold doesA
 rw[if_neg hk,if_pos (.inr (by omega))]
theorem cmd_num (k s n:Nat) (hk:1<=k/\k<=5) (v:Int) (hv:1<=v/\v<=2305843009213693952):mayF ⟨(cmdOf k s n).kind,v,(cmdOf k s n).name⟩=true/\(cmdOf k s n).kind ≠1:=by
 have h:=cmdOf_may k s n
 have e:(cmdOf k s n).kind =1+((k % 6:Nat):Int):=rfl
 have hk1:(cmdOf k s n).kind ≠1:=by rw[e];omega
 refine⟨?_,hk1⟩
 have hh:highF v 1=true:=by unfold highF;rw[decide_eq_true hv.1,decide_eq_true hv.2];rfl
 unfold mayF at h ⊢
 dsimp only
 rw[if_neg hk1] at h ⊢
 rw[hh]
 split at h
 ·rename_i q;rw[if_pos q];rw[Bool.and_eq_true] at h;rw[h.2];rfl
 ·rename_i q
  rw[if_neg q]
  split at h
  ·rename_i q2;rw[if_pos q2];rw[Bool.and_eq_true] at h;rw[h.2];rfl
  ·cases h
theorem open_may (c q:Int) (hc:0<=c/\c<8) (hq:1<=q/\q<=2305843009213693952):mayR ⟨c,q,⟨1,0,[]⟩⟩=true:=next_may hc hq (by decide)
theorem put_len (x:SesV): ∀l:List SesV,(∀s∈l,s.client≠x.client)->(putS x l).length =l.length+1
 | [],_=>rfl
 | s::l,h=>by
  have h1:=h s List.mem_cons_self
  have ih:=put_len x l (fun y hy=>h y (List.mem_cons_of_mem _ hy))
  unfold putS
  split
  ·first | rfl | rw[List.length_cons,ih,List.length_cons]
  ·first | rfl | rw[List.length_cons,ih,List.length_cons] | (split<;>first | rfl | rw[List.length_cons,ih,List.length_cons] | (rename_i q;exact absurd q.symm h1) | (rename_i q;exact absurd q h1))
theorem open_has {s:StV} {c:Int} (hf:(findS s.ses c).2=true):openA s c=(s,toldA s c 7 0):=by unfold openA;rw[if_pos hf]
theorem open_full {s:StV} (h:Rst s) {c:Int} (hn:s.num<2305843009213693952) (hc:clientF c=true) (hf:(findS s.ses c).2=false) (h5:5<=s.ses.length):openA s c=(s,onlyA 5):=by
 unfold openA
 rw[if_neg (by rw[hf];simp),open1_not h hn hc hf,if_pos h5]
 rfl
theorem open_new {s:StV} (h:Rst s) {c:Int} (hn:s.num<2305843009213693952) (hc:clientF c=true) (hf:(findS s.ses c).2=false) (h5:s.ses.length<5):
  (openA s c).2.code =0/\(openA s c).2.session =s.num+1/\(openA s c).1.num =s.num+1/\(openA s c).1.ses.length =s.ses.length+1:=by
 have e:openS s.ses c (s.num+1) s.time=(putS ⟨c,s.num+1,s.time⟩ s.ses,0):=by rw[open1_not h hn hc hf,if_neg (by omega)]
 have ho:(openS s.ses c (s.num+1) s.time).2=0:=by rw[e]
 have hne:=(findS_none _ _).1 hf
 have es:(openedA s c).ses =putS ⟨c,s.num+1,s.time⟩ s.ses:=by show(openS s.ses c (s.num+1) s.time).1= _;rw[e]
 unfold openA
 rw[if_neg (by rw[hf];simp),if_pos ho]
 refine⟨rfl,?_,rfl,?_⟩
 ·show(findS (openedA s c).ses c).1.num =s.num+1
  rw[es]
  have:=put_find ⟨c,s.num+1,s.time⟩ s.ses hne
  dsimp only at this
  rw[this]
 ·show(openedA s c).ses.length = _
  rw[es]
  exact put_len _ _ hne
theorem BoxP.other {w:World} {b g:Nat} {r:ReplyV} {u:Value} (h:BoxP w b r u) (hg:g≠b) (j:Nat) (v:Value):BoxP (w.setCell ⟨g,j,none⟩ v) b r u:=by
 have hn: ∀k,(w.setCell ⟨g,j,none⟩ v).cell? ⟨b,k,none⟩=w.cell? ⟨b,k,none⟩:=fun k=>by
  simp only[World.cell?]
  rw[Below.heap_setCell w ⟨g,j,none⟩ v b (fun q=>hg (by have:b=g:=q;exact this.symm))]
 exact⟨(hn 0).trans h.c0,(hn 1).trans h.c1,(hn 2).trans h.c2,(hn 3).trans h.c3⟩
theorem v_back {h y:StC} {s:StV} {a:AnsV} (e:h.v=keptA s a) (e2:y.v=s):StC.v ⟨h.time,h.num,h.token,h.S,h.sa,h.sc,h.K,h.ka,h.kc,y.M,y.ma,y.mc⟩=s:=by
 show(⟨h.time,h.num,h.token,h.S,vals h.K,valsM y.M⟩:StV)=s
 rw[show h.time=s.time from congrArg StV.time e,show h.num=s.num from congrArg StV.num e,show h.token=s.token from congrArg StV.token e,show h.S=s.ses from congrArg StV.ses e,show vals h.K=s.locks from congrArg StV.locks e,show valsM y.M=s.memos from congrArg StV.memos e2]
end Cm
end Go.Proofs.YthpknaieimlmnaaGreat
