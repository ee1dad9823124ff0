/- Texts laid together by program. -/
import Derived.Test.YthpknaieimlmnaaGreatQ14
import Derived.Lib.QuietBelow
import Derived.Deep.RegionHeld3
import Derived.BigQuiet
import Derived.ProofKit
import Derived.OpenShut
import Derived.Deep.Strs
import Derived.Deep.Slices
import Derived.Deep.DrawnRows
import Derived.Lib.SmallJoins
/- Right locks stay right, whatever is done to them: plain facts. No program is named here. -/
set_option linter.unusedVariables false
set_option maxRecDepth 8000
set_option linter.unusedSimpArgs false
namespace Go.Proofs.YthpknaieimlmnaaGreat
open Lib (hid)
open Go.RowKit
namespace Cm

theorem oneK_iff (k:LockV):oneK k=true ↔ nameF k.name=true/\clientF k.holder=true/\highF k.token 1=true/\rightL k.line=true/\k.holder ∉ k.line:=by
 unfold oneK
 rw[Bool.and_eq_true,Bool.and_eq_true,Bool.and_eq_true,Bool.and_eq_true,Bool.not_eq_true',hasL_not]
structure Good (l:List LockV) (t:Int):Prop where
 rk:Rk l
 len:l.length<=4
 tok: ∀k∈l,k.token<=t
 pos:0<=t
theorem Good.right {l:List LockV} {t:Int} (h:Good l t):rightK l=true:=(rightK_iff l).2 ⟨h.len,h.rk⟩
theorem Good.nil:Good [] 0:=⟨Rk.nil,by simp,(fun k h=>by cases h),Int.le_refl _⟩
theorem less_irr (a:List UInt8):Op.bytesLess a a=false:=by
 rcases less_tri a a with ⟨_,_,h⟩ | ⟨h,_,_⟩ | ⟨_,h⟩
 ·exact absurd rfl h
 ·exact h
 ·exact h
theorem Rk.names {l:List LockV} (h:Rk l):l.Pairwise fun a b=>a.name≠b.name:=h.up.imp fun {a b} q e=>by
 rw[e,less_irr] at q
 cases q
theorem Rk.sub {l m:List LockV} (h:Rk l) (hs:m.Sublist l):Rk m:=⟨fun k hk=>h.one k (hs.subset hk),h.up.sublist hs,h.tok.sublist hs⟩
theorem rk_set {l:List LockV} (h:Rk l) (i:Nat) (hi:i<l.length) (k:LockV) (hn:k.name=l[i].name) (h1:oneK k=true) (ht:k.token=l[i].token \/ ∀x∈l,x.token<k.token):Rk (l.set i k):=by
 have hu:=List.pairwise_iff_getElem.1 h.up
 have hk:=List.pairwise_iff_getElem.1 h.tok
 refine⟨fun x hx=>?_,List.pairwise_iff_getElem.2 fun a b ha hb hab=>?_,List.pairwise_iff_getElem.2 fun a b ha hb hab=>?_⟩
 ·rcases List.mem_or_eq_of_mem_set hx with q | q
  ·exact h.one x q
  ·rw[q];exact h1
 ·rw[List.length_set] at ha hb
  rw[List.getElem_set,List.getElem_set]
  have:=hu a b ha hb hab
  split
  ·split
   ·omega
   ·rename_i e _;subst e;rw[hn];exact this
  ·split
   ·rename_i e;subst e;rw[hn];exact this
   ·exact this
 ·rw[List.length_set] at ha hb
  rw[List.getElem_set,List.getElem_set]
  have:=hk a b ha hb hab
  split
  ·split
   ·omega
   ·rename_i e _
    subst e
    rcases ht with q | q
    ·rw[q];exact this
    ·have:=q _ (List.getElem_mem hb);omega
  ·split
   ·rename_i e
    subst e
    rcases ht with q | q
    ·rw[q];exact this
    ·have:=q _ (List.getElem_mem ha);omega
   ·exact this
theorem putK_mem (x:LockV) (l:List LockV): ∀s,s∈putK x l ↔ s=x\/s∈l:=by
 intro s
 rw[putK_place]
 constructor
 ·intro h
  rcases List.mem_append.1 h with q | q
  ·exact .inr (List.mem_of_mem_take q)
  ·rcases List.mem_cons.1 q with q | q
   ·exact .inl q
   ·exact .inr (List.mem_of_mem_drop q)
 ·rintro (rfl | h)
  ·simp
  ·rw[<-List.take_append_drop (placeK x.name l) l] at h
   rcases List.mem_append.1 h with q | q
   ·exact List.mem_append_left _ q
   ·exact List.mem_append_right _ (List.mem_cons_of_mem _ q)
theorem putK_length (x:LockV) (l:List LockV):(putK x l).length =l.length+1:=by
 have:=placeK_le x.name l
 rw[putK_place,List.length_append,List.length_cons,List.length_take,List.length_drop]
 omega
theorem rk_put (x:LockV) (l:List LockV) (h:Rk l) (hx:oneK x=true) (hn: ∀s∈l,s.name≠x.name) (ht: ∀s∈l,s.token≠x.token):Rk (putK x l):=by
 refine⟨fun s hs=>?_,?_,?_⟩
 ·rcases (putK_mem x l s).1 hs with rfl | q
  ·exact hx
  ·exact h.one s q
 ·have hu:=h.up
  clear h ht
  induction l with
  | nil=>exact List.pairwise_singleton _ _
  | cons y l ih=>
   rw[List.pairwise_cons] at hu
   unfold putK
   split
   ·rename_i q
    refine List.pairwise_cons.2 ⟨fun b hb=>?_,ih (fun s hs=>hn s (List.mem_cons_of_mem _ hs)) hu.2⟩
    rcases (putK_mem x l b).1 hb with rfl | hb
    ·exact q
    ·exact hu.1 b hb
   ·rename_i q
    have hxy:Op.bytesLess x.name y.name=true:=by
     rcases less_tri x.name y.name with ⟨t,_,_⟩ | ⟨_,t,_⟩ | ⟨t,_⟩
     ·exact t
     ·exact absurd t q
     ·exact absurd t.symm (hn y List.mem_cons_self)
    refine List.pairwise_cons.2 ⟨fun b hb=>?_,List.pairwise_cons.2 hu⟩
    rcases List.mem_cons.1 hb with rfl | hb
    ·exact hxy
    ·exact less_tr _ _ _ hxy (hu.1 b hb)
 ·have hu:=h.tok
  clear h hn
  induction l with
  | nil=>exact List.pairwise_singleton _ _
  | cons y l ih=>
   rw[List.pairwise_cons] at hu
   unfold putK
   split
   ·refine List.pairwise_cons.2 ⟨fun b hb=>?_,ih (fun s hs=>ht s (List.mem_cons_of_mem _ hs)) hu.2⟩
    rcases (putK_mem x l b).1 hb with rfl | hb
    ·exact ht y List.mem_cons_self
    ·exact hu.1 b hb
   ·refine List.pairwise_cons.2 ⟨fun b hb=>?_,List.pairwise_cons.2 hu⟩
    exact(ht b hb).symm
theorem idx_none (n:List UInt8) (l:List LockV) (h:idxI (isNm n) l<0): ∀k∈l,k.name≠n:=by
 have h2: ¬l.findIdx (isNm n)<l.length:=by
  intro q
  unfold idxI at h
  rw[if_pos q] at h
  omega
 intro k hk e
 exact h2 (List.findIdx_lt_length_of_exists ⟨k,hk,by unfold isNm;exact decide_eq_true e⟩)
theorem idx_some (n:List UInt8) (l:List LockV) (h: ¬idxI (isNm n) l<0): ∃k,∃hk:k<l.length,idxI (isNm n) l=(k:Int)/\l[k].name =n:=by
 rcases idx_casesG (isNm n) l with e | ⟨k,hk,e,q⟩
 ·omega
 ·exact⟨k,hk,e,by unfold isNm at q;exact of_decide_eq_true q⟩
theorem line_more (l:List Int) (c:Int) (h:rightL l=true) (h3: ¬3<=l.length) (hc:clientF c=true) (hn:(aheadL l c).2≠true):rightL (l++ [c])=true:=by
 obtain⟨_,hr⟩:=(rightL_iff l).1 h
 have hh:c ∉ l:=(hasL_not _ _).1 (by rw[<-aheadL_has];simpa using hn)
 refine(rightL_iff _).2 ⟨by rw[List.length_append,List.length_singleton];omega,fun x hx=>?_,List.pairwise_append.2 ⟨hr.apart,List.pairwise_singleton _ _,fun a ha b hb=>?_⟩⟩
 ·rcases List.mem_append.1 hx with g | g
  ·exact hr.ok x g
  ·rw[List.mem_singleton] at g;rw[g];exact hc
 ·rw[List.mem_singleton] at hb;subst hb
  intro e;exact hh (e ▸ ha)
theorem high_next (t:Int) (h0:0<=t) (h1:t<2305843009213693952):highF (t+1) 1=true:=by
 unfold highF
 simp
 omega
theorem good_take {l:List LockV} {t:Int} (h:Good l t) (n:List UInt8) (c:Int) (wt:Bool) (hn:nameF n=true) (hc:clientF c=true) (ht:t<2305843009213693952):
  ((takeK l n c t wt).2.2=0->Good (takeK l n c t wt).1 (t+1))/\((takeK l n c t wt).2.2=10->Good (takeK l n c t wt).1 t):=by
 unfold takeK
 split
 ·rename_i hi
  split
  ·exact⟨(fun q=>by cases q),(fun q=>by cases q)⟩
  ·rename_i h4
   refine⟨fun _=>?_,(fun q=>by cases q)⟩
   refine⟨rk_put _ _ h.rk ((oneK_iff _).2 ⟨hn,hc,high_next t h.pos ht,nil_right,by simp⟩) (idx_none n l hi) (fun s hs=>?_),by rw[putK_length];omega,fun k hk=>?_,by have:=h.pos;omega⟩
   ·have:=h.tok s hs
    dsimp only
    omega
   ·rcases (putK_mem _ l k).1 hk with rfl | q
    ·exact Int.le_refl _
    ·have:=h.tok k q;omega
 ·rename_i hi
  obtain⟨i,hil,hii,hin⟩:=idx_some n l hi
  rw[hii,getK_nat l i hil,Int.toNat_natCast]
  have ho:=(oneK_iff _).1 (h.rk.one _ (List.getElem_mem hil))
  split
  ·exact⟨(fun q=>by cases q),(fun q=>by cases q)⟩
  rename_i e1
  split
  ·exact⟨(fun q=>by cases q),(fun q=>by cases q)⟩
  split
  ·exact⟨(fun q=>by cases q),fun _=>h⟩
  rename_i e2
  split
  ·exact⟨(fun q=>by cases q),(fun q=>by cases q)⟩
  rename_i e3
  refine⟨(fun q=>by cases q),fun _=>⟨rk_set h.rk i hil _ rfl ((oneK_iff _).2 ⟨ho.1,ho.2.1,ho.2.2.1,line_more _ _ ho.2.2.2.1 e3 hc e2,?_⟩) (.inl rfl),by rw[List.length_set];exact h.len,fun k hk=>?_,h.pos⟩⟩
  ·intro q
   rcases List.mem_append.1 q with q | q
   ·exact ho.2.2.2.2 q
   ·rw[List.mem_singleton] at q
    exact e1 q
  ·rcases List.mem_or_eq_of_mem_set hk with q | q
   ·exact h.tok k q
   ·rw[q]
    show l[i].token <=t
    exact h.tok _ (List.getElem_mem hil)
theorem pass_one {k:LockV} (h:oneK k=true) (t:Int) (h0:0<=t) (ht:t<2305843009213693952) (hl:k.line≠ []):oneK (passK k t)=true:=by
 obtain⟨h1,h2,h3,h4,h5⟩:=(oneK_iff k).1 h
 obtain⟨h6,h7⟩:=(rightL_iff _).1 h4
 unfold passK
 match hk:k.line,hl with
 | d::r,_=>
  rw[hk] at h6 h7 h4
  refine(oneK_iff _).2 ⟨h1,h7.ok d List.mem_cons_self,high_next t h0 ht,tail_right _ h4,?_⟩
  intro q
  exact(List.pairwise_cons.1 h7.apart).1 d q rfl
theorem left_one {k:LockV} (G:List Int) (h:oneK k=true):oneK (leftK G k)=true:=by
 obtain⟨h1,h2,h3,h4,h5⟩:=(oneK_iff k).1 h
 exact(oneK_iff _).2 ⟨h1,h2,h3,without_right _ _ h4,fun q=>h5 (List.mem_filter.1 q).1⟩
theorem good_free {l:List LockV} {t:Int} (h:Good l t) (n:List UInt8) (c:Int) (ht:t<2305843009213693952):
  (freeK l n c t).2.2=0->Good (freeK l n c t).1 (t+(freeK l n c t).2.1):=by
 unfold freeK
 split
 ·intro q;cases q
 ·rename_i hi
  obtain⟨i,hil,hii,hin⟩:=idx_some n l hi
  rw[hii,getK_nat l i hil,Int.toNat_natCast]
  have ho:=h.rk.one _ (List.getElem_mem hil)
  split
  ·split
   ·intro q;cases q
   ·intro _
    refine⟨rk_set h.rk i hil _ rfl (left_one [c] ho) (.inl rfl),by rw[List.length_set];exact h.len,fun k hk=>?_,by have:=h.pos;simpa using this⟩
    rcases List.mem_or_eq_of_mem_set hk with q | q
    ·have:=h.tok k q;simpa using this
    ·rw[q];have:=h.tok _ (List.getElem_mem hil);simpa using this
  ·split
   ·intro _
    have hs:(l.take i++l.drop (i+1)).Sublist l:=by
     rw[<-List.eraseIdx_eq_take_drop_succ]
     exact List.eraseIdx_sublist l i
    refine⟨h.rk.sub hs,Nat.le_trans hs.length_le h.len,fun k hk=>?_,by have:=h.pos;simpa using this⟩
    have:=h.tok k (hs.subset hk);simpa using this
   ·rename_i e1
    intro _
    refine⟨rk_set h.rk i hil _ rfl (pass_one ho t h.pos ht e1) (.inr fun x hx=>?_),by rw[List.length_set];exact h.len,fun k hk=>?_,by have:=h.pos;dsimp only;omega⟩
    ·have:=h.tok x hx
     show x.token<t+1
     omega
    ·rcases List.mem_or_eq_of_mem_set hk with q | q
     ·have:=h.tok k q;dsimp only;omega
     ·rw[q];exact Int.le_refl _
theorem dropK_toks (G:List Int): ∀(l:List LockV) (t:Int) (x:LockV),x∈(dropK G l t).1->(∃y∈l,x.name=y.name/\x.token=y.token/\x.holder=y.holder/\hasL G y.holder=false)\/(∃y∈l,x.name=y.name/\hasL G y.holder=true)/\t<x.token/\x.token<=t+(dropK G l t).2
 | [],t,x,h=>by simp [dropK] at h
 | k::l,t,x,h=>by
  have hc:=dropK_count G l t
  have hc2:=dropK_count G l (t+1)
  rw[dropK] at h ⊢
  split at h
  ·rename_i hg
   rw[if_pos hg]
   rcases List.mem_cons.1 h with rfl | h
   ·exact .inl ⟨k,List.mem_cons_self,rfl,rfl,rfl,hg⟩
   ·rcases dropK_toks G l t x h with ⟨y,hy,e⟩ | ⟨⟨y,hy,e⟩,e1,e2⟩
    ·exact .inl ⟨y,List.mem_cons_of_mem _ hy,e⟩
    ·exact .inr ⟨⟨y,List.mem_cons_of_mem _ hy,e⟩,e1,e2⟩
  ·rename_i hg
   rw[if_neg hg]
   have hg':hasL G k.holder=true:=by simpa using hg
   split at h
   ·rename_i hl
    rw[if_pos hl]
    rcases dropK_toks G l t x h with ⟨y,hy,e⟩ | ⟨⟨y,hy,e⟩,e1,e2⟩
    ·exact .inl ⟨y,List.mem_cons_of_mem _ hy,e⟩
    ·exact .inr ⟨⟨y,List.mem_cons_of_mem _ hy,e⟩,e1,e2⟩
   ·rename_i hl
    rw[if_neg hl]
    rcases List.mem_cons.1 h with rfl | h
    ·refine .inr ⟨⟨k,List.mem_cons_self,rfl,hg'⟩,?_,?_⟩
     ·show t<t+1
      omega
     ·show t+1<=t+((dropK G l (t+1)).2+1)
      omega
    ·rcases dropK_toks G l (t+1) x h with ⟨y,hy,e⟩ | ⟨⟨y,hy,e⟩,e1,e2⟩
     ·exact .inl ⟨y,List.mem_cons_of_mem _ hy,e⟩
     ·exact .inr ⟨⟨y,List.mem_cons_of_mem _ hy,e⟩,by omega,by dsimp only;omega⟩
theorem dropK_rk (G:List Int) (t0:Int): ∀(l:List LockV) (t:Int),Rk l->(∀x∈l,x.token<=t0)->t0<=t->0<=t->t+l.length<2305843009213693952->Rk (dropK G l t).1
 | [],t,_,_,_,_,_=>Rk.nil
 | k::l,t,h,h1,h2,h3,h4=>by
  rw[List.length_cons] at h4
  have hr:Rk l:=h.sub (List.sublist_cons_self _ _)
  have hl1: ∀x∈l,x.token<=t0:=fun x hx=>h1 x (List.mem_cons_of_mem _ hx)
  have ih:=dropK_rk G t0 l t hr hl1 h2 h3 (by omega)
  have ih2:=dropK_rk G t0 l (t+1) hr hl1 (by omega) (by omega) (by omega)
  have hu:=(List.pairwise_cons.1 h.up).1
  have ht:=(List.pairwise_cons.1 h.tok).1
  have hk0:=h1 k List.mem_cons_self
  rw[dropK]
  split
  ·refine⟨fun x hx=>?_,List.pairwise_cons.2 ⟨fun x hx=>?_,ih.up⟩,List.pairwise_cons.2 ⟨fun x hx=>?_,ih.tok⟩⟩
   ·rcases List.mem_cons.1 hx with rfl | hx
    ·exact left_one G (h.one k List.mem_cons_self)
    ·exact ih.one x hx
   ·obtain⟨y,hy,e⟩:=dropK_names G l t x hx
    rw[e];exact hu y hy
   ·rcases dropK_toks G l t x hx with ⟨y,hy,_,e,_⟩ | ⟨_,e,_⟩
    ·rw[e];exact ht y hy
    ·show k.token≠x.token
     omega
  ·split
   ·exact ih
   ·rename_i hl
    refine⟨fun x hx=>?_,List.pairwise_cons.2 ⟨fun x hx=>?_,ih2.up⟩,List.pairwise_cons.2 ⟨fun x hx=>?_,ih2.tok⟩⟩
    ·rcases List.mem_cons.1 hx with rfl | hx
     ·exact pass_one (left_one G (h.one k List.mem_cons_self)) t h3 (by omega) hl
     ·exact ih2.one x hx
    ·obtain⟨y,hy,e⟩:=dropK_names G l (t+1) x hx
     rw[e];exact hu y hy
    ·rcases dropK_toks G l (t+1) x hx with ⟨y,hy,_,e,_⟩ | ⟨_,e,_⟩
     ·rw[e]
      have:=hl1 y hy
      show t+1≠y.token
      omega
     ·show t+1≠x.token
      omega
theorem good_drop {l:List LockV} {t:Int} (h:Good l t) (G:List Int) (ht:t<2305843009213693900):Good (dropK G l t).1 (t+(dropK G l t).2):=by
 have hc:=dropK_count G l t
 refine⟨dropK_rk G t l t h.rk h.tok (Int.le_refl _) h.pos (by have:=h.len;omega),Nat.le_trans (dropK_length G l t) h.len,fun x hx=>?_,by have:=h.pos;omega⟩
 rcases dropK_toks G l t x hx with ⟨y,hy,_,e,_⟩ | ⟨_,_,e⟩
 ·have:=h.tok y hy;omega
 ·exact e
end Cm
end Go.Proofs.YthpknaieimlmnaaGreat

/- Contracts of the statements' own helpers of layer 4: awake, Named, Cmd, Req. -/
set_option linter.unusedVariables false
set_option maxRecDepth 8000
set_option linter.unusedSimpArgs false
namespace Go.Proofs.YthpknaieimlmnaaGreat
open Lib (hid)
open Go.RowKit
namespace Cm


def namedF:Nat->List UInt8
 | 0=> [97]
 | 1=> [98]
 | 2=> [99]
 | 3=> [100]
 | 4=> [107,101,121,45,49]
 | _=> [116,104,101,45,108,97,115,116,45,111,110,101]
theorem Named_any (n:Nat) (w:World) (h:n<256):Calls Tryz.prog 38 #[.int .u8 (n:Int)] w fun e w'=>e= .returned (.string (bstr (namedF (n % 6))))/\Below w.heap.size w w':=by
 have hm:n % 6<6:=Nat.mod_lt _ (by omega)
 have hc:((n:Int) % 6)=((n % 6:Nat):Int):=by simp
 generalize n % 6=r at hm hc ⊢
 match r,hm with
 | 0,_ | 1,_ | 2,_ | 3,_ | 4,_ | 5,_=>
  simp at hc
  go_enter Tryz.func38,Tryz.ntmps38
  go_wp2
  go_ret
  exact⟨rfl,newAlloc _ _⟩
theorem boxAB {w w':World} {A B:Array Value} {t u:TypeId} (h:Below ((w.alloc (.cells A t)).alloc (.cells B u)).heap.size ((w.alloc (.cells A t)).alloc (.cells B u)) w'):
  (∀k,w'.cell? ⟨w.heap.size,k,none⟩=A[k]?)/\(∀k,w'.cell? ⟨w.heap.size+1,k,none⟩=B[k]?)/\(∀k,w'.frozen? ⟨w.heap.size,k,none⟩=false)/\(∀k,w'.frozen? ⟨w.heap.size+1,k,none⟩=false):=by
 have h0:w.heap.size<((w.alloc (.cells A t)).alloc (.cells B u)).heap.size :=by simp;omega
 have h1:w.heap.size+1<((w.alloc (.cells A t)).alloc (.cells B u)).heap.size :=by simp
 refine⟨fun k=>?_,fun k=>?_,fun k=>?_,fun k=>?_⟩
 ·rw[h.cell (p:=⟨w.heap.size,k,none⟩) h0];simp [go_sem]
 ·rw[h.cell (p:=⟨w.heap.size+1,k,none⟩) h1];simp [go_sem]
 ·rw[h.frozen (p:=⟨w.heap.size,k,none⟩) h0];simp [go_sem]
 ·rw[h.frozen (p:=⟨w.heap.size+1,k,none⟩) h1];simp [go_sem]
def cmdOf (k s n:Nat):CmdV:=⟨1+((k % 6:Nat):Int),if k % 6=0 then 0 else 1+((s:Int) % 7),if k % 6=2\/k % 6=3\/k % 6=4 then namedF (n % 6) else []⟩
set_option maxHeartbeats 4000000 in
theorem Cmd_any (k s n:Nat) (w:World) (hk:k<256) (hs:s<256) (hn:n<256):Calls Tryz.prog 82 #[.int .u8 (k:Int),.int .u8 (s:Int),.int .u8 (n:Int)] w fun e w'=>e= .returned (cmdVal (cmdOf k s n))/\Below w.heap.size w w':=by
 have hm:k % 6<6:=Nat.mod_lt _ (by omega)
 have hc:((k:Int) % 6)=((k % 6:Nat):Int):=by simp
 have CN:=hid (fun w=>Named_any n w hn)
 unfold cmdOf cmdVal
 generalize k % 6=r at hm hc ⊢
 generalize namedF (n % 6)=nm at CN ⊢
 match r,hm with
 | 0,_ | 1,_ | 2,_ | 3,_ | 4,_ | 5,_=>
  simp at hc
  dsimp only
  go_enter Tryz.func82,Tryz.ntmps82
  go_wp2_with (go_at_call 38;refine(CN.out _).mono ?_;rintro e w1 ⟨rfl,hb1⟩;obtain⟨c0,c1,f0,f1⟩:=boxAB hb1)
  first
   | (refine bodyPost_ret (by simp [results,Tryz.results82,go_sem];rfl) rfl ⟨by simp [bstr],stepAlloc (newAlloc _ _) _⟩)
   | (refine bodyPost_ret (by simp [results,Tryz.results82,go_sem,c0,c1,f0,f1];rfl) rfl ⟨by simp,set3 ((step (stepAlloc (newAlloc _ _) _) hb1).setCell (by simp) _) _ _ _⟩)
theorem cmdOf_may (k s n:Nat):mayF (cmdOf k s n)=true:=by
 have hm:k % 6<6:=Nat.mod_lt _ (by omega)
 have hn:n % 6<6:=Nat.mod_lt _ (by omega)
 have hs1:0<=(s:Int) % 7:=by omega
 have hs2:(s:Int) % 7<7:=by omega
 have hN:nameF (namedF (n % 6))=true:=by
  generalize n % 6=r at hn
  match r,hn with
  | 0,_ | 1,_ | 2,_ | 3,_ | 4,_ | 5,_=>decide+kernel
 unfold cmdOf mayF highF
 generalize k % 6=r at hm ⊢
 match r,hm with
 | 0,_ | 1,_ | 2,_ | 3,_ | 4,_ | 5,_=>simp [hN]<;>omega
def reqOf (c q k s n:Nat):ReqV:=⟨((c % 8:Nat):Int),1+(q:Int),cmdOf k s n⟩
theorem Req_any (c q k s n:Nat) (w:World) (hc:c<256) (hq:q<256) (hk:k<256) (hs:s<256) (hn:n<256):Calls Tryz.prog 40 #[.int .u8 (c:Int),.int .u8 (q:Int),.int .u8 (k:Int),.int .u8 (s:Int),.int .u8 (n:Int)] w fun e w'=>e= .returned (reqVal (reqOf c q k s n))/\Below w.heap.size w w':=by
 have CN:=hid (fun w=>Cmd_any k s n w hk hs hn)
 have hc8:((c:Int) % 8)=((c % 8:Nat):Int):=by simp
 unfold reqVal reqOf
 unfold cmdVal at CN
 generalize cmdOf k s n=x at CN ⊢
 obtain⟨ck,cs,cn⟩:=x
 dsimp only at CN ⊢
 generalize c % 8=r at hc8 ⊢
 go_enter Tryz.func40,Tryz.ntmps40
 go_wp2_with (go_at_call 82;refine(CN.out _).mono ?_;rintro e w1 ⟨rfl,hb1⟩;obtain⟨c0,c1,c2,c3,c4⟩:=box5 hb1;have f0:=free5 hb1)
 refine bodyPost_ret (by simp [results,Tryz.results40,go_sem,c0,c1,c2,c3,c4,f0]) rfl ⟨rfl,set5 (step (newAlloc _ _) hb1) _ _ _ _ _⟩
end Cm
end Go.Proofs.YthpknaieimlmnaaGreat

/- Arguments that are slices of sessions, of acts, opened. -/
set_option linter.unusedVariables false
set_option maxRecDepth 8000
set_option linter.unusedSimpArgs false
namespace Go.Proofs.YthpknaieimlmnaaGreat
open Lib (hid)
open Go.RowKit Go.ChangeShapes Go.WideShapes Go.Deep
namespace Cm

theorem list_ofX {α:Type} {P:Nat->α->Prop} : ∀n,(∀i,i<n-> ∃g,P i g)-> ∃l:List α,l.length=n/\ ∀i (h:i<l.length),P i l[i]
 | 0,_=>⟨[],rfl,fun i h=>absurd h (Nat.not_lt_zero _)⟩
 | n+1,h=>by
  obtain⟨l,hl,hp⟩:=list_ofX n (fun i hi=>h i (by omega))
  obtain⟨g,hg⟩:=h n (by omega)
  refine⟨l++ [g],by simp [hl],fun i hi=>?_⟩
  rw[List.length_append,List.length_singleton,hl] at hi
  by_cases q:i<n
  ·rw[List.getElem_append_left (by omega)]
   exact hp i (by omega)
  ·obtain rfl:i=n:=by omega
   rw[List.getElem_append_right (by omega)]
   simpa [hl] using hg
section
variable {H : Type} {enc : TypeId × Value → H} {W : World}

theorem slice_of {α:Type} {sz:Nat} {f:α->List Value} {t e:TypeId} (hu:Tryz.prog.underlying t=some (.slice e)) (hce:Tryz.prog.cellsOf e=sz) (hsz:0<sz) (hf: ∀x,(f x).length =sz)
  (hel: ∀fuel cs x,DataW.trod enc Tryz.prog W 0 (fun _=>true) true fuel e cs=some x-> ∃y:α,cs=f y)
  {fuel:Nat} {cs:List Value} {x:DataW H × List MemPlace} (h:DataW.trod enc Tryz.prog W 0 (fun _=>true) true fuel t cs=some x): ∃v l,cs= [v]/\RdX sz f W v l:=by
 rcases open_slice hu h with ⟨h0,_⟩ | ⟨ad,len,cap,m,n,D,Pl,h0,_,hl,hm,hmm,_,hi⟩
 ·exact⟨_,[],h0,RdX.nil W⟩
 ·have hm':m=cap:=by rw[hmm];rfl
  subst hm'
  clear hmm
  have key: ∀i,i<len-> ∃g:α,∀k u,(f g)[k]?=some u->W.cell? (ad.add (i*sz+k))=some u:=by
   intro i hil
   obtain⟨cs',hc,ht⟩:=hi i (by omega)
   rw[hce] at hc
   obtain⟨y,rfl⟩:=hel _ _ _ ht
   obtain⟨_,hcl,hat⟩:=World.cells?_some hc
   refine⟨y,fun k u hk=>?_⟩
   have hks:k<(f y).length :=(List.getElem?_eq_some_iff.1 hk).1
   have a0:=hat k (by rw[hf] at hks;exact hks)
   rw[Go.Deep.add_add] at a0
   rw[<-hk,<-a0]
  obtain⟨l,hll,hp⟩:=list_ofX len key
  refine⟨_,l,h0,some ad,m,by rw[hll],by omega,hm,(fun q=>by cases q),fun x hx hne=>?_⟩
  cases hx
  obtain⟨b,o,spot⟩:=ad
  have hpos:0<l.length:=List.length_pos_iff.2 hne
  have h0l:0<(f l[0]).length :=by rw[hf];exact hsz
  have hc:=hp 0 hpos 0 _ (List.getElem?_eq_getElem h0l)
  have hspot:spot=none:=by simpa [Addr.add] using World.cell?_spot hc
  subst hspot
  refine⟨rfl,fun i hil k u hu=>?_⟩
  have hadd: ∀j,(⟨b,o,none⟩:Addr).add j=⟨b,o+j,none⟩:=fun j=>by unfold Addr.add;split<;>simp_all
  have:=hp i hil k u hu
  rw[hadd] at this
  exact this
end
end Cm
end Go.Proofs.YthpknaieimlmnaaGreat

/- Arguments that are slices of numbers, of a line's acts, opened. A slice laid as it stands. -/
set_option linter.unusedVariables false
set_option maxRecDepth 8000
set_option linter.unusedSimpArgs false
namespace Go.Proofs.YthpknaieimlmnaaGreat
open Lib (hid)
open Go.RowKit Go.ChangeShapes Go.WideShapes Go.Deep
namespace Cm

theorem RdX.block {α:Type} {sz:Nat} {f:α->List Value} (hf: ∀x,(f x).length =sz) {w:World} {b:Nat} {cs:Array Value} {t:TypeId} {l:List α} (h:w.heap[b]?=some (.cells cs t)) (hcs:cs.toList=flatX f l) (hm:l.length<=maxLen):RdX sz f w (.slice (some ⟨b,0,none⟩) l.length l.length) l:=by
 refine⟨some ⟨b,0,none⟩,l.length,rfl,Nat.le_refl _,hm,(fun q=>by cases q),fun x hx hp=>?_⟩
 cases hx
 refine⟨rfl,fun i hi k u hu=>?_⟩
 have hk:k<sz:=by
  have:=(List.getElem?_eq_some_iff.1 hu).1
  rw[hf] at this
  exact this
 rw[<-flatX_get hf l i hi k hk,<-hcs] at hu
 simp only[Nat.zero_add]
 simpa [World.cell?,h] using hu
section
variable {H : Type} {enc : TypeId × Value → H} {W : World}

end
end Cm
end Go.Proofs.YthpknaieimlmnaaGreat

/- Arguments that are slices of locks, of acts on locks, opened. -/
set_option linter.unusedVariables false
set_option maxRecDepth 8000
set_option linter.unusedSimpArgs false
namespace Go.Proofs.YthpknaieimlmnaaGreat
open Lib (hid)
open Go.RowKit Go.ChangeShapes Go.WideShapes Go.Deep
namespace Cm

theorem RdX.map {α β:Type} {sz:Nat} {f:β->List Value} (g:α->β) {w:World} {v:Value} {l:List α} (h:RdX sz (fun x=>f (g x)) w v l):RdX sz f w v (l.map g):=by
 obtain⟨a,cap,hv,h1,h2,h3,h4⟩:=h.ex
 refine⟨a,cap,by rw[List.length_map];exact hv,by rw[List.length_map];exact h1,h2,fun q=>by obtain⟨q1,q2⟩:=h3 q;subst q1;exact⟨rfl,q2⟩,fun x hx hp=>?_⟩
 obtain⟨hs,hc⟩:=h4 x hx (fun q=>hp (by rw[q];rfl))
 refine⟨hs,fun i hi k u hu=>?_⟩
 rw[List.length_map] at hi
 rw[List.getElem_map] at hu
 exact hc i hi k u hu
section
variable {H : Type} {enc : TypeId × Value → H} {W : World}

end
end Cm
end Go.Proofs.YthpknaieimlmnaaGreat
