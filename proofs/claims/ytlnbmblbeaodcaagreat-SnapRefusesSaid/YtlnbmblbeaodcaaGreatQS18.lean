/- Texts laid together by program. -/
import Derived.Test.YtlnbmblbeaodcaaGreatQS17
/- Right locks stay right, whatever is done to them: plain facts. No program is named here. -/
set_option linter.unusedVariables false
set_option maxRecDepth 8000
set_option linter.unusedSimpArgs false
namespace Go.Proofs.YtlnbmblbeaodcaaGreat
open Lib (hid)
open Go.RowKit
namespace Cm

theorem oneK_iff (k:LockV):oneK k=true ↔ nameF k.name=true/\clientF k.holder=true/\highF k.token 1=true/\rightL k.line=true/\k.holder ∉ k.line:=by
 unfold oneK
 rw[Bool.and_eq_true,Bool.and_eq_true,Bool.and_eq_true,Bool.and_eq_true,Bool.not_eq_true',hasL_not]
structure Good (l:List LockV) (t:Int):Prop where
 rk:Rk l
 len:l.length<=4
 tok: ∀k∈l,k.token<=t
 pos:0<=t
theorem Good.right {l:List LockV} {t:Int} (h:Good l t):rightK l=true:=(rightK_iff l).2 ⟨h.len,h.rk⟩
theorem Good.nil:Good [] 0:=⟨Rk.nil,by simp,(fun k h=>by cases h),Int.le_refl _⟩
theorem less_irr (a:List UInt8):Op.bytesLess a a=false:=by
 rcases less_tri a a with ⟨_,_,h⟩ | ⟨h,_,_⟩ | ⟨_,h⟩
 ·exact absurd rfl h
 ·exact h
 ·exact h
theorem Rk.names {l:List LockV} (h:Rk l):l.Pairwise fun a b=>a.name≠b.name:=h.up.imp fun {a b} q e=>by
 rw[e,less_irr] at q
 cases q
theorem Rk.sub {l m:List LockV} (h:Rk l) (hs:m.Sublist l):Rk m:=⟨fun k hk=>h.one k (hs.subset hk),h.up.sublist hs,h.tok.sublist hs⟩
theorem rk_set {l:List LockV} (h:Rk l) (i:Nat) (hi:i<l.length) (k:LockV) (hn:k.name=l[i].name) (h1:oneK k=true) (ht:k.token=l[i].token \/ ∀x∈l,x.token<k.token):Rk (l.set i k):=by
 have hu:=List.pairwise_iff_getElem.1 h.up
 have hk:=List.pairwise_iff_getElem.1 h.tok
 refine⟨fun x hx=>?_,List.pairwise_iff_getElem.2 fun a b ha hb hab=>?_,List.pairwise_iff_getElem.2 fun a b ha hb hab=>?_⟩
 ·rcases List.mem_or_eq_of_mem_set hx with q | q
  ·exact h.one x q
  ·rw[q];exact h1
 ·rw[List.length_set] at ha hb
  rw[List.getElem_set,List.getElem_set]
  have:=hu a b ha hb hab
  split
  ·split
   ·omega
   ·rename_i e _;subst e;rw[hn];exact this
  ·split
   ·rename_i e;subst e;rw[hn];exact this
   ·exact this
 ·rw[List.length_set] at ha hb
  rw[List.getElem_set,List.getElem_set]
  have:=hk a b ha hb hab
  split
  ·split
   ·omega
   ·rename_i e _
    subst e
    rcases ht with q | q
    ·rw[q];exact this
    ·have:=q _ (List.getElem_mem hb);omega
  ·split
   ·rename_i e
    subst e
    rcases ht with q | q
    ·rw[q];exact this
    ·have:=q _ (List.getElem_mem ha);omega
   ·exact this
theorem putK_mem (x:LockV) (l:List LockV): ∀s,s∈putK x l ↔ s=x\/s∈l:=by
 intro s
 rw[putK_place]
 constructor
 ·intro h
  rcases List.mem_append.1 h with q | q
  ·exact .inr (List.mem_of_mem_take q)
  ·rcases List.mem_cons.1 q with q | q
   ·exact .inl q
   ·exact .inr (List.mem_of_mem_drop q)
 ·rintro (rfl | h)
  ·simp
  ·rw[<-List.take_append_drop (placeK x.name l) l] at h
   rcases List.mem_append.1 h with q | q
   ·exact List.mem_append_left _ q
   ·exact List.mem_append_right _ (List.mem_cons_of_mem _ q)
theorem putK_length (x:LockV) (l:List LockV):(putK x l).length =l.length+1:=by
 have:=placeK_le x.name l
 rw[putK_place,List.length_append,List.length_cons,List.length_take,List.length_drop]
 omega
theorem rk_put (x:LockV) (l:List LockV) (h:Rk l) (hx:oneK x=true) (hn: ∀s∈l,s.name≠x.name) (ht: ∀s∈l,s.token≠x.token):Rk (putK x l):=by
 refine⟨fun s hs=>?_,?_,?_⟩
 ·rcases (putK_mem x l s).1 hs with rfl | q
  ·exact hx
  ·exact h.one s q
 ·have hu:=h.up
  clear h ht
  induction l with
  | nil=>exact List.pairwise_singleton _ _
  | cons y l ih=>
   rw[List.pairwise_cons] at hu
   unfold putK
   split
   ·rename_i q
    refine List.pairwise_cons.2 ⟨fun b hb=>?_,ih (fun s hs=>hn s (List.mem_cons_of_mem _ hs)) hu.2⟩
    rcases (putK_mem x l b).1 hb with rfl | hb
    ·exact q
    ·exact hu.1 b hb
   ·rename_i q
    have hxy:Op.bytesLess x.name y.name=true:=by
     rcases less_tri x.name y.name with ⟨t,_,_⟩ | ⟨_,t,_⟩ | ⟨t,_⟩
     ·exact t
     ·exact absurd t q
     ·exact absurd t.symm (hn y List.mem_cons_self)
    refine List.pairwise_cons.2 ⟨fun b hb=>?_,List.pairwise_cons.2 hu⟩
    rcases List.mem_cons.1 hb with rfl | hb
    ·exact hxy
    ·exact less_tr _ _ _ hxy (hu.1 b hb)
 ·have hu:=h.tok
  clear h hn
  induction l with
  | nil=>exact List.pairwise_singleton _ _
  | cons y l ih=>
   rw[List.pairwise_cons] at hu
   unfold putK
   split
   ·refine List.pairwise_cons.2 ⟨fun b hb=>?_,ih (fun s hs=>ht s (List.mem_cons_of_mem _ hs)) hu.2⟩
    rcases (putK_mem x l b).1 hb with rfl | hb
    ·exact ht y List.mem_cons_self
    ·exact hu.1 b hb
   ·refine List.pairwise_cons.2 ⟨fun b hb=>?_,List.pairwise_cons.2 hu⟩
    exact(ht b hb).symm
theorem idx_none (n:List UInt8) (l:List LockV) (h:idxI (isNm n) l<0): ∀k∈l,k.name≠n:=by
 have h2: ¬l.findIdx (isNm n)<l.length:=by
  intro q
  unfold idxI at h
  rw[if_pos q] at h
  omega
 intro k hk e
 exact h2 (List.findIdx_lt_length_of_exists ⟨k,hk,by unfold isNm;exact decide_eq_true e⟩)
theorem idx_some (n:List UInt8) (l:List LockV) (h: ¬idxI (isNm n) l<0): ∃k,∃hk:k<l.length,idxI (isNm n) l=(k:Int)/\l[k].name =n:=by
 rcases idx_casesG (isNm n) l with e | ⟨k,hk,e,q⟩
 ·omega
 ·exact⟨k,hk,e,by unfold isNm at q;exact of_decide_eq_true q⟩
theorem line_more (l:List Int) (c:Int) (h:rightL l=true) (h3: ¬3<=l.length) (hc:clientF c=true) (hn:(aheadL l c).2≠true):rightL (l++ [c])=true:=by
 obtain⟨_,hr⟩:=(rightL_iff l).1 h
 have hh:c ∉ l:=(hasL_not _ _).1 (by rw[<-aheadL_has];simpa using hn)
 refine(rightL_iff _).2 ⟨by rw[List.length_append,List.length_singleton];omega,fun x hx=>?_,List.pairwise_append.2 ⟨hr.apart,List.pairwise_singleton _ _,fun a ha b hb=>?_⟩⟩
 ·rcases List.mem_append.1 hx with g | g
  ·exact hr.ok x g
  ·rw[List.mem_singleton] at g;rw[g];exact hc
 ·rw[List.mem_singleton] at hb;subst hb
  intro e;exact hh (e ▸ ha)
theorem high_next (t:Int) (h0:0<=t) (h1:t<2305843009213693952):highF (t+1) 1=true:=by
 unfold highF
 simp
 omega
theorem good_take {l:List LockV} {t:Int} (h:Good l t) (n:List UInt8) (c:Int) (wt:Bool) (hn:nameF n=true) (hc:clientF c=true) (ht:t<2305843009213693952):
  ((takeK l n c t wt).2.2=0->Good (takeK l n c t wt).1 (t+1))/\((takeK l n c t wt).2.2=10->Good (takeK l n c t wt).1 t):=by
 unfold takeK
 split
 ·rename_i hi
  split
  ·exact⟨(fun q=>by cases q),(fun q=>by cases q)⟩
  ·rename_i h4
   refine⟨fun _=>?_,(fun q=>by cases q)⟩
   refine⟨rk_put _ _ h.rk ((oneK_iff _).2 ⟨hn,hc,high_next t h.pos ht,nil_right,by simp⟩) (idx_none n l hi) (fun s hs=>?_),by rw[putK_length];omega,fun k hk=>?_,by have:=h.pos;omega⟩
   ·have:=h.tok s hs
    dsimp only
    omega
   ·rcases (putK_mem _ l k).1 hk with rfl | q
    ·exact Int.le_refl _
    ·have:=h.tok k q;omega
 ·rename_i hi
  obtain⟨i,hil,hii,hin⟩:=idx_some n l hi
  rw[hii,getK_nat l i hil,Int.toNat_natCast]
  have ho:=(oneK_iff _).1 (h.rk.one _ (List.getElem_mem hil))
  split
  ·exact⟨(fun q=>by cases q),(fun q=>by cases q)⟩
  rename_i e1
  split
  ·exact⟨(fun q=>by cases q),(fun q=>by cases q)⟩
  split
  ·exact⟨(fun q=>by cases q),fun _=>h⟩
  rename_i e2
  split
  ·exact⟨(fun q=>by cases q),(fun q=>by cases q)⟩
  rename_i e3
  refine⟨(fun q=>by cases q),fun _=>⟨rk_set h.rk i hil _ rfl ((oneK_iff _).2 ⟨ho.1,ho.2.1,ho.2.2.1,line_more _ _ ho.2.2.2.1 e3 hc e2,?_⟩) (.inl rfl),by rw[List.length_set];exact h.len,fun k hk=>?_,h.pos⟩⟩
  ·intro q
   rcases List.mem_append.1 q with q | q
   ·exact ho.2.2.2.2 q
   ·rw[List.mem_singleton] at q
    exact e1 q
  ·rcases List.mem_or_eq_of_mem_set hk with q | q
   ·exact h.tok k q
   ·rw[q]
    show l[i].token <=t
    exact h.tok _ (List.getElem_mem hil)
theorem pass_one {k:LockV} (h:oneK k=true) (t:Int) (h0:0<=t) (ht:t<2305843009213693952) (hl:k.line≠ []):oneK (passK k t)=true:=by
 obtain⟨h1,h2,h3,h4,h5⟩:=(oneK_iff k).1 h
 obtain⟨h6,h7⟩:=(rightL_iff _).1 h4
 unfold passK
 match hk:k.line,hl with
 | d::r,_=>
  rw[hk] at h6 h7 h4
  refine(oneK_iff _).2 ⟨h1,h7.ok d List.mem_cons_self,high_next t h0 ht,tail_right _ h4,?_⟩
  intro q
  exact(List.pairwise_cons.1 h7.apart).1 d q rfl
theorem left_one {k:LockV} (G:List Int) (h:oneK k=true):oneK (leftK G k)=true:=by
 obtain⟨h1,h2,h3,h4,h5⟩:=(oneK_iff k).1 h
 exact(oneK_iff _).2 ⟨h1,h2,h3,without_right _ _ h4,fun q=>h5 (List.mem_filter.1 q).1⟩
theorem good_free {l:List LockV} {t:Int} (h:Good l t) (n:List UInt8) (c:Int) (ht:t<2305843009213693952):
  (freeK l n c t).2.2=0->Good (freeK l n c t).1 (t+(freeK l n c t).2.1):=by
 unfold freeK
 split
 ·intro q;cases q
 ·rename_i hi
  obtain⟨i,hil,hii,hin⟩:=idx_some n l hi
  rw[hii,getK_nat l i hil,Int.toNat_natCast]
  have ho:=h.rk.one _ (List.getElem_mem hil)
  split
  ·split
   ·intro q;cases q
   ·intro _
    refine⟨rk_set h.rk i hil _ rfl (left_one [c] ho) (.inl rfl),by rw[List.length_set];exact h.len,fun k hk=>?_,by have:=h.pos;simpa using this⟩
    rcases List.mem_or_eq_of_mem_set hk with q | q
    ·have:=h.tok k q;simpa using this
    ·rw[q];have:=h.tok _ (List.getElem_mem hil);simpa using this
  ·split
   ·intro _
    have hs:(l.take i++l.drop (i+1)).Sublist l:=by
     rw[<-List.eraseIdx_eq_take_drop_succ]
     exact List.eraseIdx_sublist l i
    refine⟨h.rk.sub hs,Nat.le_trans hs.length_le h.len,fun k hk=>?_,by have:=h.pos;simpa using this⟩
    have:=h.tok k (hs.subset hk);simpa using this
   ·rename_i e1
    intro _
    refine⟨rk_set h.rk i hil _ rfl (pass_one ho t h.pos ht e1) (.inr fun x hx=>?_),by rw[List.length_set];exact h.len,fun k hk=>?_,by have:=h.pos;dsimp only;omega⟩
    ·have:=h.tok x hx
     show x.token<t+1
     omega
    ·rcases List.mem_or_eq_of_mem_set hk with q | q
     ·have:=h.tok k q;dsimp only;omega
     ·rw[q];exact Int.le_refl _
theorem dropK_toks (G:List Int): ∀(l:List LockV) (t:Int) (x:LockV),x∈(dropK G l t).1->(∃y∈l,x.name=y.name/\x.token=y.token/\x.holder=y.holder/\hasL G y.holder=false)\/(∃y∈l,x.name=y.name/\hasL G y.holder=true)/\t<x.token/\x.token<=t+(dropK G l t).2
 | [],t,x,h=>by simp [dropK] at h
 | k::l,t,x,h=>by
  have hc:=dropK_count G l t
  have hc2:=dropK_count G l (t+1)
  rw[dropK] at h ⊢
  split at h
  ·rename_i hg
   rw[if_pos hg]
   rcases List.mem_cons.1 h with rfl | h
   ·exact .inl ⟨k,List.mem_cons_self,rfl,rfl,rfl,hg⟩
   ·rcases dropK_toks G l t x h with ⟨y,hy,e⟩ | ⟨⟨y,hy,e⟩,e1,e2⟩
    ·exact .inl ⟨y,List.mem_cons_of_mem _ hy,e⟩
    ·exact .inr ⟨⟨y,List.mem_cons_of_mem _ hy,e⟩,e1,e2⟩
  ·rename_i hg
   rw[if_neg hg]
   have hg':hasL G k.holder=true:=by simpa using hg
   split at h
   ·rename_i hl
    rw[if_pos hl]
    rcases dropK_toks G l t x h with ⟨y,hy,e⟩ | ⟨⟨y,hy,e⟩,e1,e2⟩
    ·exact .inl ⟨y,List.mem_cons_of_mem _ hy,e⟩
    ·exact .inr ⟨⟨y,List.mem_cons_of_mem _ hy,e⟩,e1,e2⟩
   ·rename_i hl
    rw[if_neg hl]
    rcases List.mem_cons.1 h with rfl | h
    ·refine .inr ⟨⟨k,List.mem_cons_self,rfl,hg'⟩,?_,?_⟩
     ·show t<t+1
      omega
     ·show t+1<=t+((dropK G l (t+1)).2+1)
      omega
    ·rcases dropK_toks G l (t+1) x h with ⟨y,hy,e⟩ | ⟨⟨y,hy,e⟩,e1,e2⟩
     ·exact .inl ⟨y,List.mem_cons_of_mem _ hy,e⟩
     ·exact .inr ⟨⟨y,List.mem_cons_of_mem _ hy,e⟩,by omega,by dsimp only;omega⟩
theorem dropK_rk (G:List Int) (t0:Int): ∀(l:List LockV) (t:Int),Rk l->(∀x∈l,x.token<=t0)->t0<=t->0<=t->t+l.length<2305843009213693952->Rk (dropK G l t).1
 | [],t,_,_,_,_,_=>Rk.nil
 | k::l,t,h,h1,h2,h3,h4=>by
  rw[List.length_cons] at h4
  have hr:Rk l:=h.sub (List.sublist_cons_self _ _)
  have hl1: ∀x∈l,x.token<=t0:=fun x hx=>h1 x (List.mem_cons_of_mem _ hx)
  have ih:=dropK_rk G t0 l t hr hl1 h2 h3 (by omega)
  have ih2:=dropK_rk G t0 l (t+1) hr hl1 (by omega) (by omega) (by omega)
  have hu:=(List.pairwise_cons.1 h.up).1
  have ht:=(List.pairwise_cons.1 h.tok).1
  have hk0:=h1 k List.mem_cons_self
  rw[dropK]
  split
  ·refine⟨fun x hx=>?_,List.pairwise_cons.2 ⟨fun x hx=>?_,ih.up⟩,List.pairwise_cons.2 ⟨fun x hx=>?_,ih.tok⟩⟩
   ·rcases List.mem_cons.1 hx with rfl | hx
    ·exact left_one G (h.one k List.mem_cons_self)
    ·exact ih.one x hx
   ·obtain⟨y,hy,e⟩:=dropK_names G l t x hx
    rw[e];exact hu y hy
   ·rcases dropK_toks G l t x hx with ⟨y,hy,_,e,_⟩ | ⟨_,e,_⟩
    ·rw[e];exact ht y hy
    ·show k.token≠x.token
     omega
  ·split
   ·exact ih
   ·rename_i hl
    refine⟨fun x hx=>?_,List.pairwise_cons.2 ⟨fun x hx=>?_,ih2.up⟩,List.pairwise_cons.2 ⟨fun x hx=>?_,ih2.tok⟩⟩
    ·rcases List.mem_cons.1 hx with rfl | hx
     ·exact pass_one (left_one G (h.one k List.mem_cons_self)) t h3 (by omega) hl
     ·exact ih2.one x hx
    ·obtain⟨y,hy,e⟩:=dropK_names G l (t+1) x hx
     rw[e];exact hu y hy
    ·rcases dropK_toks G l (t+1) x hx with ⟨y,hy,_,e,_⟩ | ⟨_,e,_⟩
     ·rw[e]
      have:=hl1 y hy
      show t+1≠y.token
      omega
     ·show t+1≠x.token
      omega
theorem good_drop {l:List LockV} {t:Int} (h:Good l t) (G:List Int) (ht:t<2305843009213693900):Good (dropK G l t).1 (t+(dropK G l t).2):=by
 have hc:=dropK_count G l t
 refine⟨dropK_rk G t l t h.rk h.tok (Int.le_refl _) h.pos (by have:=h.len;omega),Nat.le_trans (dropK_length G l t) h.len,fun x hx=>?_,by have:=h.pos;omega⟩
 rcases dropK_toks G l t x hx with ⟨y,hy,_,e,_⟩ | ⟨_,_,e⟩
 ·have:=h.tok y hy;omega
 ·exact e
end Cm
end Go.Proofs.YtlnbmblbeaodcaaGreat

/- Right states stay right, as plain facts. -/
set_option linter.unusedVariables false
set_option maxRecDepth 8000
set_option linter.unusedSimpArgs false
namespace Go.Proofs.YtlnbmblbeaodcaaGreat
open Lib (hid)
open Go.RowKit
namespace Cm

/-! ### Who is there -/
theorem closeE_eq (l:List SesV) (c:Int):closeE l c=l.filter fun s=> !decide (s.client=c):=by
 unfold closeE closeS
 by_cases h:(findS l c).2=false
 ·rw[if_pos h,if_neg (by simp)]
  rw[findS_none] at h
  exact(List.filter_eq_self.2 fun s hs=>by simpa using h s hs).symm
 ·rw[if_neg h,if_pos rfl]
theorem closeAll_eq (G:List Int): ∀l:List SesV,closeAll l G=l.filter fun s=> !hasL G s.client:=by
 induction G with
 | nil=>intro l;exact(List.filter_eq_self.2 fun s hs=>rfl).symm
 | cons c G ih=>
  intro l
  show closeAll (closeE l c) G= _
  rw[ih,closeE_eq,List.filter_filter]
  congr 1
  funext s
  unfold hasL
  rw[List.any_cons]
  by_cases q:s.client=c
  ·rw[decide_eq_true q,decide_eq_true q.symm];simp
  ·rw[decide_eq_false q,decide_eq_false (fun e=>q e.symm)];simp
theorem findS_some (l:List SesV) (c:Int):(findS l c).2=true ↔ ∃s∈l,s.client=c:=by
 cases h:(findS l c).2 with
 | false=>
  rw[findS_none] at h
  constructor
  ·intro q;cases q
  ·rintro ⟨s,hs,e⟩;exact absurd e (h s hs)
 | true=>
  refine⟨fun _=>?_,fun _=>rfl⟩
  apply Decidable.byContradiction
  intro q
  have:(findS l c).2=false:=(findS_none l c).2 fun s hs e=>q ⟨s,hs,e⟩
  rw[h] at this
  cases this
theorem close_rs {l:List SesV} (h:rightS l=true) (p:SesV->Bool):rightS (l.filter p)=true:=by
 obtain⟨h1,h2⟩:=(rightS_iff l).1 h
 refine(rightS_iff _).2 ⟨Nat.le_trans (List.length_filter_le _ _) h1,⟨fun s hs=>h2.one s (List.mem_filter.1 hs).1,h2.up.filter p,h2.num.filter p⟩⟩
/-! ### Who holds, who waits -/
def InL (P:Int->Prop) (l:List LockV):Prop:= ∀k∈l,P k.holder/\ ∀c∈k.line,P c
theorem InL.imp {P Q:Int->Prop} {l:List LockV} (h:InL P l) (hq: ∀c,P c->Q c):InL Q l:=fun k hk=>⟨hq _ (h k hk).1,fun c hc=>hq _ ((h k hk).2 c hc)⟩
theorem InL.sub {P:Int->Prop} {l m:List LockV} (h:InL P l) (hs: ∀k∈m,k∈l):InL P m:=fun k hk=>h k (hs k hk)
theorem InL.set {P:Int->Prop} {l:List LockV} (h:InL P l) (i:Nat) (k:LockV) (hk:P k.holder/\ ∀c∈k.line,P c):InL P (l.set i k):=fun x hx=>by
 rcases List.mem_or_eq_of_mem_set hx with q | q
 ·exact h x q
 ·rw[q];exact hk
theorem getK_in {l:List LockV} {n:List UInt8} (h: ¬idxI (isNm n) l<0):getK l (idxI (isNm n) l)∈l:=by
 obtain⟨k,hk,e,_⟩:=idx_some n l h
 rw[e]
 unfold getK
 rw[Int.toNat_natCast,List.getD_eq_getElem?_getD,List.getElem?_eq_getElem hk,Option.getD_some]
 exact List.getElem_mem hk
theorem in_take {P:Int->Prop} {l:List LockV} (h:InL P l) (n:List UInt8) (c t:Int) (wt:Bool) (hc:P c):InL P (takeK l n c t wt).1:=by
 unfold takeK
 split
 ·split
  ·exact fun k hk=>by cases hk
  ·intro k hk
   rcases (putK_mem _ l k).1 hk with q | q
   ·rw[q];exact⟨hc,fun x hx=>by cases hx⟩
   ·exact h k q
 ·rename_i hi
  have hg:=h _ (getK_in hi)
  split
  ·exact fun k hk=>by cases hk
  ·split
   ·exact fun k hk=>by cases hk
   ·split
    ·exact h
    ·split
     ·exact fun k hk=>by cases hk
     ·refine h.set _ _ ⟨hg.1,fun x hx=>?_⟩
      rcases List.mem_append.1 hx with q | q
      ·exact hg.2 x q
      ·rw[List.mem_singleton] at q;rw[q];exact hc
theorem headD_in {l:List Int} (h:l≠ []):l.headD 0∈l:=by
 cases l with
 | nil=>exact absurd rfl h
 | cons x l=>exact List.mem_cons_self
theorem in_free {P:Int->Prop} {l:List LockV} (h:InL P l) (n:List UInt8) (c t:Int):InL P (freeK l n c t).1:=by
 unfold freeK
 split
 ·exact fun k hk=>by cases hk
 ·rename_i hi
  have hg:=h _ (getK_in hi)
  split
  ·split
   ·exact fun k hk=>by cases hk
   ·exact h.set _ _ ⟨hg.1,fun x hx=>hg.2 x (List.mem_filter.1 hx).1⟩
  ·split
   ·exact h.sub fun k hk=>by
     rcases List.mem_append.1 hk with q | q
     ·exact List.mem_of_mem_take q
     ·exact List.mem_of_mem_drop q
   ·rename_i hl
    exact h.set _ _ ⟨hg.2 _ (headD_in hl),fun x hx=>hg.2 x (List.mem_of_mem_drop hx)⟩
theorem in_drop {P:Int->Prop} (G:List Int): ∀(l:List LockV) (t:Int),InL P l->InL (fun c=>P c/\hasL G c=false) (dropK G l t).1
 | [],t,_=>by
  rw[dropK]
  exact fun k hk=>by cases hk
 | k::l,t,h=>by
  have hk:=h k List.mem_cons_self
  have hl:InL P l:=fun x hx=>h x (List.mem_cons_of_mem _ hx)
  have hline: ∀c∈(leftK G k).line,P c/\hasL G c=false:=fun c hc=>by
   have:c∈k.line/\(!hasL G c)=true:=List.mem_filter.1 hc
   exact⟨hk.2 c this.1,by simpa using this.2⟩
  rw[dropK]
  split
  ·rename_i q
   intro x hx
   rcases List.mem_cons.1 hx with e | e
   ·rw[e];exact⟨⟨hk.1,q⟩,hline⟩
   ·exact in_drop G l t hl x e
  ·split
   ·exact in_drop G l t hl
   ·rename_i q
    intro x hx
    rcases List.mem_cons.1 hx with e | e
    ·rw[e];exact⟨hline _ (headD_in q),fun c hc=>hline c (List.mem_of_mem_drop hc)⟩
    ·exact in_drop G l (t+1) hl x e
/-! ### Right states -/
structure Rst (s:StV):Prop where
 time:0<=s.time/\s.time<=2305843009213693952
 num:0<=s.num/\s.num<=2305843009213693952
 token:s.token<=2305843009213693952
 ses:rightS s.ses=true
 good:Good s.locks s.token
 memos:Rm s.memos
 nums: ∀x∈s.ses,x.num<=s.num
 has:InL (fun c=>hasA s c=true) s.locks
theorem Rst.zero:Rst zeroSt:=⟨by decide,by decide,by decide,rfl,Good.nil,Rm.nil,(fun x hx=>by cases hx),fun k hk=>by cases hk⟩
theorem rightA_iff (s:StV):rightA s=true ↔ Rst s:=by
 unfold rightA highF
 simp only[Bool.and_eq_true,decide_eq_true_eq,List.all_eq_true]
 constructor
 ·rintro ⟨⟨h1,h2,h3,h4,h5,h6⟩,h7,h8⟩
  obtain⟨g1,g2⟩:=(rightK_iff _).1 h5
  refine⟨h1,h2,h3.2,h4,⟨g2,g1,fun k hk=>?_,h3.1⟩,(rightM_iff _).1 h6,h7,fun k hk=>?_⟩
  ·have:=h8 k hk
   unfold fitA at this
   simp only[Bool.and_eq_true,decide_eq_true_eq] at this
   exact this.2.1
  ·have:=h8 k hk
   unfold fitA at this
   simp only[Bool.and_eq_true,decide_eq_true_eq,List.all_eq_true] at this
   exact⟨this.1,this.2.2⟩
 ·intro h
  refine⟨⟨h.time,h.num,⟨h.good.pos,h.token⟩,h.ses,h.good.right,(rightM_iff _).2 h.memos⟩,h.nums,fun k hk=>?_⟩
  unfold fitA
  simp only[Bool.and_eq_true,decide_eq_true_eq,List.all_eq_true]
  exact⟨(h.has k hk).1,h.good.tok k hk,(h.has k hk).2⟩
theorem dropA_right {s:StV} (h:Rst s) (G:List Int) (ht:s.token<2305843009213693900):Rst (dropA s G)/\s.token<=(dropA s G).token /\(dropA s G).token <=s.token+4:=by
 have hg:=good_drop h.good G ht
 have hc:=dropK_count G s.locks s.token
 have hl:=h.good.len
 refine⟨⟨h.time,h.num,?_,?_,hg,h.memos,?_,?_⟩,?_,?_⟩
 ·show s.token+(dropK G s.locks s.token).2<=_
  omega
 ·show rightS (closeAll s.ses G)=true
  rw[closeAll_eq]
  exact close_rs h.ses _
 ·intro x hx
  have hx':x∈closeAll s.ses G:=hx
  rw[closeAll_eq] at hx'
  exact h.nums x (List.mem_filter.1 hx').1
 ·refine(in_drop G s.locks s.token h.has).imp fun c hc=>?_
  obtain⟨h1,h2⟩:=hc
  show(findS (closeAll s.ses G) c).2=true
  rw[closeAll_eq]
  obtain⟨x,hx,e⟩:=(findS_some _ _).1 h1
  exact(findS_some _ _).2 ⟨x,List.mem_filter.2 ⟨hx,by rw[e,h2];rfl⟩,e⟩
 ·show s.token<=s.token+(dropK G s.locks s.token).2
  omega
 ·show s.token+(dropK G s.locks s.token).2<=_
  omega
theorem advA_right {s:StV} (h:Rst s) (t d:Int) (ht:s.token<2305843009213693900):Rst (advA s t d)/\s.token<=(advA s t d).token /\(advA s t d).token <=s.token+4:=by
 have h2:Rst ⟨timeA s t,s.num,s.token,s.ses,s.locks,s.memos⟩:=⟨by
  have:=h.time
  unfold timeA
  split
  ·dsimp only;omega
  ·exact this,h.num,h.token,h.ses,h.good,h.memos,h.nums,h.has⟩
 exact dropA_right h2 _ ht
end Cm
end Go.Proofs.YtlnbmblbeaodcaaGreat
