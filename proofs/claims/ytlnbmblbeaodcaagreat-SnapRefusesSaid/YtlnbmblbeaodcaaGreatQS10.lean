/- Texts laid together by program. -/
import Derived.Test.YtlnbmblbeaodcaaGreatQS9
import Derived.Lib.QuietBelow
import Derived.Deep.RegionHeld3
import Derived.BigQuiet
import Derived.Deep.Cut
import Derived.Deep.CutBlock
import Derived.Deep.DeepCutAuto
import Derived.Deep.CutRange
import Derived.Deep.RegionWith
/- What package memo answers, as plain functions over lists of memos (a memo is an answer that was kept). No program is named here. -/
set_option linter.unusedVariables false
set_option maxRecDepth 8000
set_option linter.unusedSimpArgs false
namespace Go.Proofs.YtlnbmblbeaodcaaGreat
open Lib (hid)
open Go.RowKit
namespace Cm

def zeroM:AnsV:=⟨0,0,⟨0,0,0,[]⟩⟩
def isCl (c:Int) (m:AnsV):Bool:=decide (m.client=c)
def lastM:List AnsV->Int->AnsV × Bool
 | [],_=>(zeroM,false)
 | m::l,c=>if m.client=c then (m,true) else lastM l c
def freshM (l:List AnsV) (c s:Int):Int:=if (lastM l c).2=false then 1 else if (lastM l c).1.seq <s then 1 else if (lastM l c).1.seq =s then 0 else -1
def insM (a:AnsV):List AnsV->List AnsV
 | []=> [a]
 | m::l=>if m.client<a.client then m::insM a l else if m.client=a.client then a::l else a::m::l
def keepM (l:List AnsV) (a:AnsV):List AnsV:=if (mayA a && decide (freshM l a.client a.seq=1))=true then insM a l else l
structure Rm (l:List AnsV):Prop where
 may: ∀m∈l,mayA m=true
 up:l.Pairwise fun a b=>a.client<b.client
theorem Rm.nil:Rm []:=⟨(fun m h=>by cases h),List.Pairwise.nil⟩
def upM:List AnsV->Bool
 | []=>true
 | [_]=>true
 | m::n::l=>decide (m.client<n.client) && upM (n::l)
def rightM (l:List AnsV):Bool:=l.all mayA && upM l
theorem upM_iff: ∀l:List AnsV,upM l=true ↔ l.Pairwise fun a b=>a.client<b.client
 | []=>by simp [upM]
 | [_]=>by simp [upM]
 | m::n::l=>by
  rw[upM,Bool.and_eq_true,decide_eq_true_eq,upM_iff (n::l)]
  constructor
  ·rintro ⟨h1,h2⟩
   refine List.pairwise_cons.2 ⟨fun x hx=>?_,h2⟩
   rcases List.mem_cons.1 hx with rfl | q
   ·exact h1
   ·exact Int.lt_trans h1 ((List.pairwise_cons.1 h2).1 x q)
  ·intro h
   exact⟨(List.pairwise_cons.1 h).1 n List.mem_cons_self,(List.pairwise_cons.1 h).2⟩
theorem rightM_iff (l:List AnsV):rightM l=true ↔ Rm l:=by
 unfold rightM
 rw[Bool.and_eq_true,List.all_eq_true,upM_iff]
 exact⟨fun h=>⟨h.1,h.2⟩,fun h=>⟨h.may,h.up⟩⟩
theorem wrongM_may {l:List AnsV} {j:Nat} {hj:j<l.length} (h:mayA l[j]=false):rightM l=false:=by
 cases q:rightM l
 ·rfl
 ·rw[((rightM_iff l).1 q).may l[j] (List.getElem_mem hj)] at h
  cases h
theorem wrongM_up {l:List AnsV} {j:Nat} {hj:j+1<l.length} (h:l[j+1].client <=(l[j]'(by omega)).client):rightM l=false:=by
 cases q:rightM l
 ·rfl
 ·have:=List.pairwise_iff_getElem.1 ((rightM_iff l).1 q).up j (j+1) (by omega) hj (by omega)
  omega
theorem rightM_of (l:List AnsV) (h1: ∀j (hj:j<l.length),mayA l[j]=true) (h3: ∀j (hj:j+1<l.length),(l[j]'(by omega)).client <l[j+1].client):rightM l=true:=by
 refine(rightM_iff l).2 ⟨fun s hs=>?_,?_⟩
 ·obtain⟨i,hi,rfl⟩:=List.mem_iff_getElem.1 hs
  exact h1 i hi
 ·rw[List.pairwise_iff_getElem]
  intro i j hi hj hij
  obtain⟨d,rfl⟩: ∃d,j=i+1+d:=⟨j - i - 1,by omega⟩
  clear hij
  induction d with
  | zero=>exact h3 i hj
  | succ d ih=>exact Int.lt_trans (ih (by omega)) (h3 (i+1+d) (by omega))
/-! ### Last -/
theorem ins_mem (a:AnsV): ∀(l:List AnsV) (x:AnsV),x∈insM a l->x=a\/x∈l
 | [],x,h=>by simpa [insM] using h
 | m::l,x,h=>by
  rw[insM] at h
  split at h
  ·rcases List.mem_cons.1 h with q | q
   ·exact .inr (by rw[q];exact List.mem_cons_self)
   ·rcases ins_mem a l x q with q | q
    ·exact .inl q
    ·exact .inr (List.mem_cons_of_mem _ q)
  ·split at h
   ·rcases List.mem_cons.1 h with q | q
    ·exact .inl q
    ·exact .inr (List.mem_cons_of_mem _ q)
   ·rcases List.mem_cons.1 h with q | q
    ·exact .inl q
    ·exact .inr q
theorem ins_up (a:AnsV): ∀l:List AnsV,(l.Pairwise fun a b=>a.client<b.client)->(insM a l).Pairwise fun a b=>a.client<b.client
 | [],_=>by simp [insM]
 | m::l,h=>by
  obtain⟨h1,h2⟩:=List.pairwise_cons.1 h
  rw[insM]
  split
  ·rename_i hlt
   refine List.pairwise_cons.2 ⟨fun x hx=>?_,ins_up a l h2⟩
   rcases ins_mem a l x hx with rfl | q
   ·exact hlt
   ·exact h1 x q
  ·split
   ·rename_i e
    exact List.pairwise_cons.2 ⟨fun x hx=>by have:=h1 x hx;omega,h2⟩
   ·refine List.pairwise_cons.2 ⟨fun x hx=>?_,h⟩
    rcases List.mem_cons.1 hx with rfl | q
    ·omega
    ·have:=h1 x q;omega
theorem Rm.ins {l:List AnsV} (h:Rm l) (a:AnsV) (ha:mayA a=true):Rm (insM a l):=by
 refine⟨fun x hx=>?_,ins_up a l h.up⟩
 rcases ins_mem a l x hx with q | q
 ·subst q;exact ha
 ·exact h.may x q
theorem Rm.keep {l:List AnsV} (h:Rm l) (a:AnsV):Rm (keepM l a):=by
 unfold keepM
 split
 ·rename_i q
  rw[Bool.and_eq_true] at q
  exact h.ins a q.1
 ·exact h
/-! ### By places -/
theorem last_idx (l:List AnsV) (c:Int):lastM l c=if h:l.findIdx (isCl c)<l.length then (l[l.findIdx (isCl c)],true) else (zeroM,false):=by
 induction l with
 | nil=>simp [lastM]
 | cons x l ih=>
  unfold lastM
  by_cases q:x.client=c
  ·simp [List.findIdx_cons,isCl,q]
  ·rw[if_neg q,ih]
   have e:(x::l).findIdx (isCl c)=l.findIdx (isCl c)+1:=by simp [List.findIdx_cons,isCl,q]
   simp only[e,List.length_cons]
   by_cases h:l.findIdx (isCl c)<l.length
   ·simp [h]
   ·simp [h]
theorem last_hit (l:List AnsV) (c:Int) (k:Nat) (h:idxI (isCl c) l=k): ∃hk:k<l.length,l[k].client =c/\lastM l c=(l[k],true):=by
 rw[last_idx]
 unfold idxI at h
 split at h
 ·rename_i q
  have e:l.findIdx (isCl c)=k:=by omega
  subst e
  refine⟨q,?_,by rw[dif_pos q]⟩
  have:=List.findIdx_getElem (w:=q)
  simpa [isCl] using this
 ·omega
theorem last_miss (l:List AnsV) (c:Int) (h:idxI (isCl c) l= -1):lastM l c=(zeroM,false):=by
 rw[last_idx]
 unfold idxI at h
 split at h
 ·omega
 ·rename_i q
  rw[dif_neg q]
/-! ### The document's way -/
def goM (a:AnsV):Bool->List AnsV->List AnsV
 | put,[]=>if put then [] else [a]
 | put,m::l=>if m.client=a.client then a::goM a true l else if (!put && decide (a.client<m.client))=true then a::m::goM a true l else m::goM a put l
theorem goM_put (a:AnsV): ∀l:List AnsV,(∀m∈l,a.client<m.client)->goM a true l=l
 | [],_=>rfl
 | m::l,h=>by
  have:=h m List.mem_cons_self
  rw[goM,if_neg (by omega),if_neg (by simp),goM_put a l fun x hx=>h x (List.mem_cons_of_mem _ hx)]
theorem goM_ins (a:AnsV): ∀l:List AnsV,(l.Pairwise fun a b=>a.client<b.client)->goM a false l=insM a l
 | [],_=>rfl
 | m::l,h=>by
  obtain⟨h1,h2⟩:=List.pairwise_cons.1 h
  rw[goM,insM]
  by_cases q:m.client=a.client
  ·rw[if_pos q,if_neg (by omega),if_pos q,goM_put a l fun x hx=>by have:=h1 x hx;omega]
  ·rw[if_neg q]
   by_cases q2:a.client<m.client
   ·rw[if_pos (by simp [q2]),if_neg (by omega),if_neg q,goM_put a l fun x hx=>by have:=h1 x hx;omega]
   ·rw[if_neg (by simp [q2]),if_pos (by omega),goM_ins a l h2]
end Cm
end Go.Proofs.YtlnbmblbeaodcaaGreat

/- Contracts: package cmd's PutReq, GetReq. -/
set_option linter.unusedVariables false
set_option maxRecDepth 8000
set_option linter.unusedSimpArgs false
namespace Go.Proofs.YtlnbmblbeaodcaaGreat
open Lib (hid)
open Go.RowKit
namespace Cm



theorem free5 {w w':World} {x y z u v:Value} {t:TypeId} (h:Below (w.alloc (.cells #[x,y,z,u,v] t)).heap.size (w.alloc (.cells #[x,y,z,u,v] t)) w'):
  ∀k,w'.frozen? ⟨w.heap.size,k,none⟩=false:=by
 intro k
 have hl:w.heap.size<(w.alloc (.cells #[x,y,z,u,v] t)).heap.size :=by simp
 rw[h.frozen (p:=⟨w.heap.size,k,none⟩) hl]
 simp [go_sem]
theorem set5 {w w1:World} (h:Below w.heap.size w w1) (x y z u v:Value):Below w.heap.size w (((((w1.setCell ⟨w.heap.size,0,none⟩ x).setCell ⟨w.heap.size,1,none⟩ y).setCell ⟨w.heap.size,2,none⟩ z).setCell ⟨w.heap.size,3,none⟩ u).setCell ⟨w.heap.size,4,none⟩ v):=
 ((((h.setCell (Nat.le_refl _) _).setCell (Nat.le_refl _) _).setCell (Nat.le_refl _) _).setCell (Nat.le_refl _) _).setCell (Nat.le_refl _) _
end Cm
end Go.Proofs.YtlnbmblbeaodcaaGreat

/- Locks that are held, in memory; contracts of the document's Token. -/
set_option linter.unusedVariables false
set_option maxRecDepth 8000
set_option linter.unusedSimpArgs false
namespace Go.Proofs.YtlnbmblbeaodcaaGreat
open Lib (hid)
open Go.RowKit
namespace Cm

structure RdH (w:World) (v:Value) (l:List GrantV):Prop where
 ex: ∃a cap,v= .slice a l.length cap/\l.length<=cap/\cap<=maxLen/\(a=none->l= [])/\
  ∀x,a=some x->l≠ []->x.spot=none/\ ∀i (h:i<l.length),w.cell? ⟨x.block,x.off+i*2,none⟩=some (.string (bstr l[i].name))/\w.cell? ⟨x.block,x.off+i*2+1,none⟩=some (.int .i64 l[i].token)
theorem RdH.later {w w':World} {v:Value} {l:List GrantV} (h:RdH w v l) (hb:Below w.heap.size w w'):RdH w' v l:=by
 obtain⟨a,cap,hv,h1,h2,h3,h4⟩:=h.ex
 refine⟨a,cap,hv,h1,h2,h3,fun x hx hp=>?_⟩
 obtain⟨hs,hc⟩:=h4 x hx hp
 refine⟨hs,fun i hi=>?_⟩
 obtain⟨c1,c2⟩:=hc i hi
 exact⟨(hb.cell (lt_of_cell c1)).trans c1,(hb.cell (lt_of_cell c2)).trans c2⟩
theorem RdH.nil (w:World):RdH w (.slice none 0 0) []:=⟨none,0,rfl,Nat.le_refl _,by unfold maxLen;omega,fun _=>rfl,fun x hx=>by cases hx⟩
theorem RdH.at {w:World} {a:Option Addr} {n cap:Nat} {l:List GrantV} (h:RdH w (.slice a n cap) l) (i:Nat) (hi:i<l.length) (w':World) (hb:Below w.heap.size w w'):
  ∃b o,a=some ⟨b,o,none⟩/\w'.cell? ⟨b,o+i*2,none⟩=some (.string (bstr l[i].name))/\w'.cell? ⟨b,o+i*2+1,none⟩=some (.int .i64 l[i].token):=by
 obtain⟨a',cap',hv,h1,h2,h3,h4⟩:=(h.later hb).ex
 cases hv
 match a,h3,h4 with
 | none,h3,_=>have:=h3 rfl;subst this;simp at hi
 | some ⟨b,o,sp⟩,_,h4=>
  obtain⟨hs,hc⟩:=h4 _ rfl (by intro q;subst q;simp at hi)
  simp only at hs
  subst hs
  exact⟨b,o,rfl,hc i hi⟩
theorem RdH.len {w:World} {v:Value} {l:List GrantV} (h:RdH w v l):l.length<=9223372036854775807:=by
 obtain⟨a,cap,hv,h1,h2,h3,h4⟩:=h.ex
 unfold maxLen at h2
 omega
def repVal (r:ReplyV) (v:Value):Value:=.agg #[.int .i64 r.code,.int .i64 r.session,.int .i64 r.ahead,v]
theorem box4 {w w':World} {x y z u:Value} {t:TypeId} (h:Below (w.alloc (.cells #[x,y,z,u] t)).heap.size (w.alloc (.cells #[x,y,z,u] t)) w'):
  w'.cell? ⟨w.heap.size,0,none⟩=some x/\w'.cell? ⟨w.heap.size,1,none⟩=some y/\w'.cell? ⟨w.heap.size,2,none⟩=some z/\w'.cell? ⟨w.heap.size,3,none⟩=some u:=by
 have hl:w.heap.size<(w.alloc (.cells #[x,y,z,u] t)).heap.size :=by simp
 refine⟨?_,?_,?_,?_⟩
 ·rw[h.cell (p:=⟨w.heap.size,0,none⟩) hl];simp [go_sem]
 ·rw[h.cell (p:=⟨w.heap.size,1,none⟩) hl];simp [go_sem]
 ·rw[h.cell (p:=⟨w.heap.size,2,none⟩) hl];simp [go_sem]
 ·rw[h.cell (p:=⟨w.heap.size,3,none⟩) hl];simp [go_sem]
def sameH:List GrantV->List GrantV->Bool
 | [],[]=>true
 | g::l,h::m=>decide (g.name=h.name) && decide (g.token=h.token) && sameH l m
 | _,_=>false
theorem str_eq (a b:List UInt8):((bstr a).toList ==(bstr b).toList)=decide (a=b):=by
 rw[ByteArray.toList_eq,ByteArray.toList_eq,bstr_toList,bstr_toList]
 by_cases h:a=b<;>simp [h]
theorem same_len: ∀(l m:List GrantV),l.length≠m.length->sameH l m=false
 | [],[],h=>absurd rfl h
 | [],_::_,_=>rfl
 | _::_,[],_=>rfl
 | g::l,h::m,q=>by
  have:=same_len l m (by simpa using q)
  unfold sameH
  rw[this,Bool.and_false]
theorem sameH_iff: ∀(l m:List GrantV),sameH l m=true ↔ l=m
 | [],[]=>by simp [sameH]
 | [],_::_=>by simp [sameH]
 | _::_,[]=>by simp [sameH]
 | ⟨a,b⟩::l,⟨c,d⟩::m=>by
  unfold sameH
  simp [sameH_iff l m]
theorem below_drewN {B:Nat} {a w:World} (h:Below B a w) (n:Nat):Below B a (w.drewN n):=⟨h.os,h.tape,h.output,h.size,h.block⟩
theorem same_drop (l m:List GrantV) (j:Nat) (h:j<l.length) (hm:j<m.length):sameH (l.drop j) (m.drop j)=(decide (l[j].name =m[j].name) && decide (l[j].token =m[j].token) && sameH (l.drop (j+1)) (m.drop (j+1))):=by
 rw[List.drop_eq_getElem_cons h,List.drop_eq_getElem_cons hm]
 rfl
set_option maxHeartbeats 1000000 in
theorem SameGrants_any (u v:Value) (l m:List GrantV) (w:World) (h:RdH w u l) (h2:RdH w v m):
  Calls Tryz.prog 68 #[u,v] w (SaysB (sameH l m) w):=by
 have hm:=h.len
 have hm2:=h2.len
 obtain⟨a,cap,rfl, -⟩:=h.ex
 obtain⟨a2,cap2,rfl, -⟩:=h2.ex
 by_cases hn:l.length=m.length
 ·have HA:=hid (fun i hi=>h.at i hi)
  have HA2:=hid (fun i hi=>h2.at i hi)
  have HD:=hid (same_drop l m)
  clear h h2
  obtain⟨L,hL⟩: ∃L,l.length=L:=⟨_,rfl⟩
  have hL2:m.length=L:=by omega
  rw[hL] at hm ⊢
  rw[hL2] at hm2 ⊢
  go_enter Tryz.func68,Tryz.ntmps68
  go_wp2
  go_loopw [5] (fun i wr=> ∃j:Nat,j<=L/\i= .int .i64 j/\Below w.heap.size w wr/\Hid (sameH l m=sameH (l.drop j) (m.drop j))) (fun i _=>L - (intOf i).toNat)
  case atStart=>exact⟨0,by omega,rfl,Below.refl _ _,hid rfl⟩
  case round=>
   obtain⟨j,hj,rfl,hb,ha⟩:=hrel
   have HB:=hid hb
   clear hb
   by_cases hlt:j<L
   ·obtain⟨b,o,rfl,q1,q2⟩:=HA.out j (by omega) _ HB.out
    obtain⟨b',o',rfl,q3,q4⟩:=HA2.out j (by omega) _ HB.out
    have hd:=HD.out j (by omega) (by omega)
    clear HA HA2 HD
    generalize l[j]=g at q1 q2 hd
    generalize m[j]=g2 at q3 q4 hd
    have hE:=str_eq g.name g2.name
    by_cases e1:g.name=g2.name/\g.token=g2.token
    ·rw[decide_eq_true e1.1,decide_eq_true e1.2] at hd
     rw[decide_eq_true e1.1] at hE
     have d1:(g.token==g2.token)=true:=by simp [e1.2]
     have H:=hid hd
     clear hd e1
     go_upto_region 6 with fail
     go_quiet (fail)
     go_wp2
     go_roundw
     case rel=>exact⟨j+1,by omega,by go_num,below_drewN HB.out nq,hid (by rw[ha.out,H.out];rfl)⟩
     case measure=>simp [intOf];omega
    ·have d0:(decide (g.name=g2.name) && decide (g.token=g2.token))=false:=by simpa using e1
     rw[d0] at hd
     have H:=hid hd
     clear hd d0
     by_cases e2:g.name=g2.name
     ·rw[decide_eq_true e2] at hE
      have d1:(g.token==g2.token)=false:=by simpa using fun q=>e1 ⟨e2,q⟩
      clear e1 e2
      go_upto_region 6 with fail
      go_quiet (fail)
      go_wp2
      go_ret
      exact⟨by rw[ha.out,H.out];rfl,below_drewN HB.out nq⟩
     ·rw[decide_eq_false e2] at hE
      clear e1 e2
      go_upto_region 6 with fail
      go_quiet (fail)
      go_wp2
      go_ret
      exact⟨by rw[ha.out,H.out];rfl,below_drewN HB.out nq⟩
   ·obtain rfl:j=L:=by omega
    go_wp2
    go_ret
    have ha:=ha.out
    rw[<-hL,List.drop_length,hL,<-hL2,List.drop_length] at ha
    exact⟨by rw[ha];rfl,HB.out⟩
 ·have d1:((l.length:Int) != (m.length:Int))=true:=by simp;omega
  have e:sameH l m=false:=same_len l m hn
  rw[e]
  clear h h2 hn e
  generalize l.length=L at*
  generalize m.length=M at*
  go_enter Tryz.func68,Tryz.ntmps68
  go_wp2
  go_ret
  exact⟨rfl,Below.refl _ _⟩
end Cm
end Go.Proofs.YtlnbmblbeaodcaaGreat
