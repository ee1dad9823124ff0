/- Texts laid together by program. -/
import Derived.Test.YtbcnednhfmchpaaQT1
import Derived.Test.YtbcnednhfmchpaaProg
/- What package learn answers, as plain functions: what was heard, slot by slot, in the order in which it was first heard. No program is named here. -/
set_option linter.unusedVariables false
set_option maxRecDepth 8000
set_option linter.unusedSimpArgs false
namespace Go.Proofs.Ytbcnednhfmchpaa
open Lib (hid)
open Go.RowKit
namespace Ln
open Cm

theorem at_none {l:List SlotV} {t:Int} (h:at_ l t=none): ∀x∈l,x.slot≠t:=fun x hx e=>by
 have:=List.find?_eq_none.1 h x hx
 simp [e] at this
theorem putS_miss (y:SlotV): ∀l:List SlotV,(∀x∈l,x.slot≠y.slot)->putS y l=l++ [y]
 | [],_=>rfl
 | x::l,h=>by
  rw[putS,if_neg (h x List.mem_cons_self),putS_miss y l fun z hz=>h z (List.mem_cons_of_mem _ hz)]
  rfl
theorem putS_hit (y:SlotV): ∀(l:List SlotV) (k:Nat) (hk:k<l.length),l[k].slot =y.slot->(∀j (hj:j<k),(l[j]'(by omega)).slot ≠y.slot)->putS y l=l.set k y
 | [],k,hk,_,_=>by simp at hk
 | x::l,0,_,h,_=>by
  have h:x.slot=y.slot:=h
  rw[putS,if_pos h]
  rfl
 | x::l,k+1,hk,h,hn=>by
  have h0: ¬x.slot=y.slot:=hn 0 (by omega)
  rw[putS,if_neg h0,putS_hit y l k (by simpa using hk) h fun j hj=>hn (j+1) (by omega)]
  rfl
def refW (f:Int):Bool->List Int->List Int->List Int
 | put,acc,[]=>if put then acc else acc++ [f]
 | put,acc,x::l=>refW f (put || decide (f<=x)) (let a:=if !put && decide (f<=x) then acc++ [f] else acc;if x=f then a else a++ [x]) l
theorem refW_put (f:Int): ∀(l acc:List Int),(∀x∈l,f<x)->refW f true acc l=acc++l
 | [],acc,_=>by simp [refW]
 | x::l,acc,h=>by
  have h1:=h x List.mem_cons_self
  rw[refW]
  simp only[Bool.true_or,Bool.not_true,Bool.false_and,Bool.false_eq_true,if_false]
  rw[if_neg (by omega),refW_put f l _ fun y hy=>h y (List.mem_cons_of_mem _ hy)]
  simp
theorem refW_go (f:Int): ∀(l acc:List Int),l.Pairwise (· < ·)->refW f false acc l=acc++addW f l
 | [],acc,_=>by simp [refW,addW]
 | x::l,acc,h=>by
  obtain⟨h1,h2⟩:=List.pairwise_cons.1 h
  rw[refW,addW]
  simp only[Bool.false_or,Bool.not_false,Bool.true_and]
  by_cases q:f<x
  ·rw[if_pos q,decide_eq_true (show f<=x by omega),if_pos rfl,if_neg (by omega),refW_put f l _ fun y hy=>by have:=h1 y hy;omega]
   simp
  ·rw[if_neg q]
   by_cases e:f=x
   ·rw[if_pos e,decide_eq_true (show f<=x by omega),if_pos rfl,if_pos e.symm,refW_put f l _ fun y hy=>by have:=h1 y hy;omega]
    simp
   ·rw[if_neg e,decide_eq_false (show ¬f<=x by omega),if_neg Bool.false_ne_true,if_neg (fun q=>e q.symm),refW_go f l _ h2]
    simp
theorem below_len: ∀(n:Nat) (l:List Nat),l.Nodup->(∀x∈l,x<n)->l.length<=n
 | 0,l,_,h=>by
  cases l with
  | nil=>exact Nat.le_refl _
  | cons x l=>exact absurd (h x List.mem_cons_self) (Nat.not_lt_zero _)
 | n+1,l,hn,h=>by
  have h1:(l.filter fun x=>decide (x≠n)).length <=n:=below_len n _ (hn.filter _) fun x hx=>by
   obtain⟨p,q⟩:=List.mem_filter.1 hx
   have:=h x p
   have q:x≠n:=by simpa using q
   omega
  have h2:(l.filter fun x=>decide (x=n)).length <=1:=by
   have hd:(l.filter fun x=>decide (x=n)).Nodup :=hn.filter _
   match q:l.filter (fun x=>decide (x=n)) with
   | []=>simp
   | [a]=>simp
   | a::b::r=>
    rw[q] at hd
    have ha:a=n:=by
     have:a∈l.filter (fun x=>decide (x=n)):=by rw[q];exact List.mem_cons_self
     simpa using (List.mem_filter.1 this).2
    have hb:b=n:=by
     have:b∈l.filter (fun x=>decide (x=n)):=by rw[q];exact List.mem_cons_of_mem _ List.mem_cons_self
     simpa using (List.mem_filter.1 this).2
    rw[ha,hb] at hd
    simp at hd
  have h3:l.length=(l.filter fun x=>decide (x≠n)).length +(l.filter fun x=>decide (x=n)).length :=by
   clear h hn h1 h2
   induction l with
   | nil=>rfl
   | cons x l ih=>
    by_cases e:x=n
    ·rw[List.filter_cons_of_neg (by simpa using e),List.filter_cons_of_pos (by simpa using e),List.length_cons,List.length_cons]
     omega
    ·rw[List.filter_cons_of_pos (by simpa using e),List.filter_cons_of_neg (by simpa using e),List.length_cons,List.length_cons]
     omega
  omega
theorem goodN_len {s:LrnV} (h:GoodN s):s.l.length<=9:=by
 have h1:(s.l.map fun x=>(x.slot - s.done - 1).toNat).Nodup :=by
  unfold List.Nodup
  rw[List.pairwise_map]
  refine List.Pairwise.imp_of_mem ?_ h.part
  intro a b ha hb hne
  have:=(h.all a ha).lo
  have:=(h.all b hb).lo
  omega
 have:=below_len 9 _ h1 fun x hx=>by
  obtain⟨y,hy,rfl⟩:=List.mem_map.1 hx
  have:=(h.all y hy).hi
  have:=(h.all y hy).lo
  omega
 simpa using this
theorem goodN_who {s:LrnV} (h:GoodN s): ∀x∈s.l,x.who.length<=7:=fun x hx=>by
 have:=(h.all x hx).who.len (by have:=h.n1;omega)
 have:=h.n7
 omega
end Ln
end Go.Proofs.Ytbcnednhfmchpaa

/- What package view answers, as plain functions over numbers. No program is named here. -/
set_option linter.unusedVariables false
set_option maxRecDepth 8000
set_option linter.unusedSimpArgs false
namespace Go.Proofs.Ytbcnednhfmchpaa
open Lib (hid)
open Go.RowKit
namespace Vw

def hiF (v:Int):Bool:=withinF v 0 2305843009213693952
end Vw
end Go.Proofs.Ytbcnednhfmchpaa

/- Contracts of package view, and of the document's answers for it: quorums, leaders, who leads next. -/
set_option linter.unusedVariables false
set_option maxRecDepth 8000
set_option linter.unusedSimpArgs false
namespace Go.Proofs.Ytbcnednhfmchpaa
open Lib (hid)
open Go.RowKit
namespace Vw

theorem high12_any (v:Int) (w:World):Calls Try.prog 32 #[.int .i64 v,.int .i64 0] w (Tells (.bool (hiF v)) w):=by
  unfold hiF withinF
  by_cases h1:0<=v<;>by_cases h2:v<=2305843009213693952<;>
    (go_enter Try.func32,Try.ntmps32
     go_wp2
     go_ret
     exact⟨by simp [h1,h2]<;>omega,rfl⟩)
theorem some_any (v:Int) (w:World):Calls Try.prog 24 #[.int .i64 v] w (Tells (.bool (someF v)) w):=by
  unfold someF withinF
  by_cases h1:1<=v<;>by_cases h2:v<=7<;>
    (go_enter Try.func24,Try.ntmps24
     go_wp2
     go_ret
     exact⟨by simp [h1,h2]<;>omega,rfl⟩)
theorem RefQuorum_any (n:Int) (w:World):Calls Try.prog 35 #[.int .i64 n] w (Tells (.int .i64 (quorumF n)) w):=by
 have CA:=hid (fun w=>some_any n w)
 unfold quorumF
 cases h:someF n<;>rw[h] at CA
 ·go_enter Try.func35,Try.ntmps35
  go_wp2_with (go_at_call 24;refine(CA.out _).mono ?_;rintro e w' ⟨rfl,rfl⟩)
  go_ret
  exact⟨rfl,rfl⟩
 ·obtain⟨h1,h2⟩:=someF_iff.1 h
  have e:n.tdiv 2=n / 2:=Int.tdiv_eq_ediv_of_nonneg (by omega)
  have e2:IntKind.i64.wrap (n / 2)=n / 2:=by rw[IntKind.wrap_i64];omega
  have e3:IntKind.i64.wrap (n / 2+1)=n / 2+1:=by rw[IntKind.wrap_i64];omega
  clear h
  go_enter Try.func35,Try.ntmps35
  go_wp2_with (go_at_call 24;refine(CA.out _).mono ?_;rintro e w' ⟨rfl,rfl⟩)
  go_ret
  exact⟨rfl,rfl⟩
end Vw
end Go.Proofs.Ytbcnednhfmchpaa

/- The document's learner in memory; contracts: its at, Trim. -/
set_option linter.unusedVariables false
set_option maxRecDepth 8000
set_option linter.unusedSimpArgs false
namespace Go.Proofs.Ytbcnednhfmchpaa
open Lib (hid)
open Go.RowKit
namespace Ln
open Cm

structure SlotC where
 slot:Int
 ballot:Int
 who:List Int
 wa:Option Addr
 wc:Nat
 bat:BatV
 ua:Option Addr
 uc:Nat
 chosen:Bool
def SlotC.wv (x:SlotC):Value:=.slice x.wa x.who.length x.wc
def SlotC.uv (x:SlotC):Value:=.slice x.ua x.bat.reqs.length x.uc
def SlotC.val (x:SlotC):SlotV:=⟨x.slot,x.ballot,x.who,x.bat,x.chosen⟩
def valsL (L:List SlotC):List SlotV:=L.map SlotC.val
theorem valsL_length (L:List SlotC):(valsL L).length =L.length:=by simp [valsL]
theorem valsL_get (L:List SlotC) (i:Nat) (h:i<L.length) (h':i<(valsL L).length):(valsL L)[i]=L[i].val :=by simp [valsL]
theorem valsL_set (L:List SlotC) (k:Nat) (x:SlotC):valsL (L.set k x)=(valsL L).set k x.val:=by simp [valsL,List.map_set]
theorem valsL_snoc (L:List SlotC) (x:SlotC):valsL (L++ [x])=valsL L++ [x.val]:=by simp [valsL]
def cellsS (x:SlotC):List Value:= [.int .i64 x.slot,.int .i64 x.ballot,x.wv,.bool x.bat.fill,.int .i64 x.bat.view,.int .i64 x.bat.tv,.int .i64 x.bat.ts,.int .i64 x.bat.time,x.uv,.bool x.chosen]
theorem cellsS_length (x:SlotC):(cellsS x).length =10:=rfl
theorem cellsS_one (x:SlotC): ∀u∈cellsS x,u.oneCell'=true:=by
 intro u hu
 unfold cellsS SlotC.wv SlotC.uv at hu
 simp only[List.mem_cons,List.not_mem_nil,or_false] at hu
 rcases hu with rfl | rfl | rfl | rfl | rfl | rfl | rfl | rfl | rfl | rfl<;>rfl
theorem rds_at {w:World} {a:Option Addr} {n cap:Nat} {L:List SlotC} (h:RdX 10 cellsS w (.slice a n cap) L) (i:Nat) (hi:i<L.length):
  ∃b o,a=some ⟨b,o,none⟩/\ ∀w':World,Below w.heap.size w w'->w'.cell? ⟨b,o+i*10,none⟩=some (.int .i64 L[i].slot)/\w'.cell? ⟨b,o+i*10+1,none⟩=some (.int .i64 L[i].ballot)/\w'.cell? ⟨b,o+i*10+2,none⟩=some L[i].wv /\w'.cell? ⟨b,o+i*10+3,none⟩=some (.bool L[i].bat.fill)/\w'.cell? ⟨b,o+i*10+4,none⟩=some (.int .i64 L[i].bat.view)/\w'.cell? ⟨b,o+i*10+5,none⟩=some (.int .i64 L[i].bat.tv)/\w'.cell? ⟨b,o+i*10+6,none⟩=some (.int .i64 L[i].bat.ts)/\w'.cell? ⟨b,o+i*10+7,none⟩=some (.int .i64 L[i].bat.time)/\w'.cell? ⟨b,o+i*10+8,none⟩=some L[i].uv /\w'.cell? ⟨b,o+i*10+9,none⟩=some (.bool L[i].chosen):=by
 obtain⟨b,o,e,c⟩:=h.at i hi
 exact⟨b,o,e,fun w' hb=>⟨c w' hb 0 _ rfl,c w' hb 1 _ rfl,c w' hb 2 _ rfl,c w' hb 3 _ rfl,c w' hb 4 _ rfl,c w' hb 5 _ rfl,c w' hb 6 _ rfl,c w' hb 7 _ rfl,c w' hb 8 _ rfl,c w' hb 9 _ rfl⟩⟩
def OwnX (m:Nat) (w:World) (x:SlotC):Prop:=w.ownsRow m 3 1 x.wv x.who.length (flatX cellsI x.who)/\w.ownsRow m 73 5 x.uv x.bat.reqs.length (flatX cellsR x.bat.reqs)
theorem OwnX.later {m:Nat} {w w':World} {x:SlotC} (h:OwnX m w x) (hb:Below w.heap.size w w'):OwnX m w' x:=⟨Rw.own_below h.1 hb,Rw.own_below h.2 hb⟩
theorem OwnX.keep {m g:Nat} {w w':World} {x:SlotC} (h:OwnX m w x) (hg:w.grownBy w' (some g)) (hb:g<m):OwnX m w' x:=
 ⟨Rw.own_keep h.1 fun k hk=>hg.block k (Rw.own_lt h.1 k hk).2 (fun q=>by cases q;have:=(Rw.own_lt h.1 _ hk).1;omega),Rw.own_keep h.2 fun k hk=>hg.block k (Rw.own_lt h.2 k hk).2 (fun q=>by cases q;have:=(Rw.own_lt h.2 _ hk).1;omega)⟩
structure HasL (w:World) (g m:Nat) (s:LrnV):Prop where
 ex: ∃(v:Value) (L:List SlotC),w.heap[g]?=some (.cells #[.int .i64 s.n,.int .i64 s.done,v] 42)/\valsL L=s.l/\w.ownsRow m 66 10 v L.length (flatX cellsS L)/\ ∀x∈L,OwnX m w x
 gm:g<m
 mw:m<=w.heap.size
section
variable {w w' : World} {g1 g m k : Nat} {s : LrnV}
theorem HasL.lt (h:HasL w g m s):g<w.heap.size:=Nat.lt_of_lt_of_le h.gm h.mw
theorem HasL.later (h:HasL w g m s) (hb:Below w.heap.size w w'):HasL w' g m s:=by
 obtain⟨v,L,h1,h2,h3,h4⟩:=h.ex
 exact⟨⟨v,L,(hb.block _ h.lt).trans h1,h2,Rw.own_below h3 hb,fun x hx=>(h4 x hx).later hb⟩,h.gm,Nat.le_trans h.mw hb.size⟩
theorem HasL.other (h:HasL w g m s) (hg:w.grownBy w' (some g1)) (hne:g≠g1) (h1m:g1<m):HasL w' g m s:=by
 obtain⟨v,L,h1,h2,h3,h4⟩:=h.ex
 refine⟨⟨v,L,(hg.block _ h.lt (fun q=>hne (by cases q;rfl))).trans h1,h2,?_,fun x hx=>(h4 x hx).keep hg h1m⟩,h.gm,Nat.le_trans h.mw hg.size⟩
 exact Rw.own_keep h3 fun j hj=>hg.block j (Rw.own_lt h3 j hj).2 (fun q=>by cases q;have:=(Rw.own_lt h3 _ hj).1;omega)
theorem HasL.c0 (h:HasL w g m s):w.cell? ⟨g,0,none⟩=some (.int .i64 s.n):=by
 obtain⟨v,L,h1, -⟩:=h.ex
 exact cell_at h1 0
theorem HasL.c1 (h:HasL w g m s):w.cell? ⟨g,1,none⟩=some (.int .i64 s.done):=by
 obtain⟨v,L,h1, -⟩:=h.ex
 exact cell_at h1 1
theorem HasL.open_ (h:HasL w g m s) (j:Nat):w.frozen? ⟨g,j,none⟩=false:=by
 obtain⟨v,L,h1, -⟩:=h.ex
 exact frozen_at h1 j
end

def idxS (l:List SlotV) (t:Int):Int:=match l.findIdx? (fun x=>decide (x.slot=t)) with
 | some i=>i
 | none=> -1
theorem idxS_hit (l:List SlotV) (t:Int) (k:Nat) (hk:k<l.length) (h:l[k].slot =t) (hn: ∀j (hj:j<k),(l[j]'(by omega)).slot ≠t):idxS l t=(k:Int):=by
 unfold idxS
 have:l.findIdx? (fun x=>decide (x.slot=t))=some k:=by
  rw[List.findIdx?_eq_some_iff_getElem]
  exact⟨hk,by simpa using h,fun j hj=>by simpa using hn j hj⟩
 rw[this]
theorem idxS_miss (l:List SlotV) (t:Int) (h: ∀j (hj:j<l.length),l[j].slot ≠t):idxS l t= -1:=by
 unfold idxS
 have:l.findIdx? (fun x=>decide (x.slot=t))=none:=by
  rw[List.findIdx?_eq_none_iff]
  intro x hx
  obtain⟨j,hj,rfl⟩:=List.getElem_of_mem hx
  simpa using h j hj
 rw[this]
set_option maxHeartbeats 2000000 in
theorem At_any (g m:Nat) (s:LrnV) (t:Int) (w:World) (h:HasL w g m s) (hn9:s.l.length<=1000):Calls Try.prog 34 #[.pointer (some ⟨g,0,none⟩),.int .i64 t] w (fun e w'=>e= .returned (.int .i64 (idxS s.l t))/\w'=w):=by
 obtain⟨lv,L,h1,h2,h3, -⟩:=h.ex
 obtain⟨la,lc,rfl⟩:=Rw.own_form h3
 have c2:=cell_at h1 2
 simp at c2
 have HA:=hid (fun i hi=>rds_at (RdX.own cellsS_length h3) i hi)
 have hL:L.length<=1000:=by rw[<-valsL_length,h2];exact hn9
 have HV:Hid (∀i (hi:i<L.length) (hp:i<s.l.length),s.l[i]=L[i].val):=hid fun i hi hp=>by
  have e:=valsL_get L i hi (by rw[valsL_length];exact hi)
  simp only[h2] at e
  exact e
 have HLL:Hid (s.l.length=L.length):=hid (by rw[<-h2,valsL_length])
 clear h h1 h2 h3 hn9
 obtain⟨n,hn⟩: ∃n,L.length=n:=⟨_,rfl⟩
 have HN:=hid hn
 rw[hn] at hL c2
 clear hn
 go_enter Try.func34,Try.ntmps34
 go_wp2
 go_loopw [5] (fun i wr=> ∃k:Nat,k<=n/\i= .int .i64 (k:Int)/\wr=w/\Hid (∀j (hj:j<k) (hl:j<L.length),L[j].slot ≠t)) (fun i _=>n - (intOf i).toNat)
 case atStart=>exact⟨0,by omega,rfl,rfl,hid (fun j hj=>absurd hj (Nat.not_lt_zero _))⟩
 case round=>
  obtain⟨k,hk,rfl,rfl,HJ⟩:=hrel
  by_cases hlt:k<n
  ·have hkl:k<L.length:=by rw[HN.out];exact hlt
   obtain⟨b,o,rfl,hc⟩:=HA.out k hkl
   obtain⟨q0, -⟩:=hc _ (Below.refl _ _)
   have HI:Hid (L[k].slot =t->idxS s.l t=(k:Int)):=hid fun q=>idxS_hit s.l t k (by rw[HLL.out];exact hkl) (by rw[HV.out k hkl];exact q) (fun j hj=>by rw[HV.out j (by omega)];exact HJ.out j hj (by omega))
   have HK:Hid (L[k].slot ≠t-> ∀j (hj:j<k+1) (hl:j<L.length),L[j].slot ≠t):=hid fun q j hj hl=>by
    by_cases e:j=k
    ·subst e;exact q
    ·exact HJ.out j (by omega) hl
   have k1:(k:Int)<(n:Int):=by omega
   clear hc HA HV
   generalize L[k].slot =x at q0 HI HK
   by_cases e:x=t
   ·have d:(x==t)=true:=by simpa using e
    have H:=hid (HI.out e)
    clear e HI HK
    go_wp2
    go_ret
    refine⟨by rw[H.out];rfl,?_⟩
    first | rfl | trivial
   ·have d:(x==t)=false:=by simpa using e
    have H:=hid (HK.out e)
    clear e HI HK
    go_wp2
    go_roundw
    case rel=>exact⟨k+1,by omega,by go_num,(by first | rfl | trivial),H⟩
    case measure=>simp [intOf];omega
  ·obtain rfl:k=n:=by omega
   have H:Hid (idxS s.l t= -1):=hid (idxS_miss s.l t fun j hj=>by
    have hj':j<L.length:=by rw[<-HLL.out];exact hj
    rw[HV.out j hj']
    exact HJ.out j (by rw[<-HN.out];exact hj') hj')
   clear HA HV HJ
   go_wp2
   go_ret
   refine⟨by rw[H.out];rfl,?_⟩
   first | rfl | trivial
end Ln
end Go.Proofs.Ytbcnednhfmchpaa

/- Contract: the document's learner's Trim. -/
set_option linter.unusedVariables false
set_option maxRecDepth 8000
set_option linter.unusedSimpArgs false
namespace Go.Proofs.Ytbcnednhfmchpaa
open Lib (hid)
open Go.RowKit
namespace Ln
open Cm

theorem infoS:(Try.prog.info? 66).map (fun i=>(i.zero,i.size,i.bytes))=some (some (.agg #[.int .i64 0,.int .i64 0,.slice none 0 0,.bool false,.int .i64 0,.int .i64 0,.int .i64 0,.int .i64 0,.slice none 0 0,.bool false]),10,112):=by kernel_rfl
theorem vals_filterS (L:List SlotC) (d:Int):valsL (L.filter fun x=>decide (d<x.slot))=(valsL L).filter fun v=>decide (d<v.slot):=by
 unfold valsL
 rw[List.filter_map]
 rfl
theorem filter_takeS (L:List SlotC) (d:Int) (k:Nat) (hk:k<L.length):(L.take (k+1)).filter (fun x=>decide (d<x.slot))=(L.take k).filter (fun x=>decide (d<x.slot))++(if d<L[k].slot then [L[k]] else []):=by
 rw[List.take_succ_eq_append_getElem hk,List.filter_append]
 congr 1
 by_cases q:d<L[k].slot
 ·rw[if_pos q]
  simp [q]
 ·rw[if_neg q]
  simp [q]
theorem hasL_put {w:World} {g m:Nat} {v v':Value} {n d:Int} {M:List SlotC} {l:List SlotV} (h1:w.heap[g]?=some (.cells #[.int .i64 n,.int .i64 d,v] 42)) (hv:valsL M=l) (ho:w.ownsRow m 66 10 v' M.length (flatX cellsS M)) (hr: ∀x∈M,OwnX m w x) (gm:g<m) (mw:m<=w.heap.size):HasL (w.setCell ⟨g,2,none⟩ v') g m ⟨n,d,l⟩:=by
 have hg:=grown_setL w g 2 v'
 refine⟨⟨v',M,by rw[set_atB h1];rfl,hv,?_,fun x hx=>(hr x hx).keep hg gm⟩,gm,Nat.le_trans mw hg.size⟩
 exact Rw.own_keep ho fun j hj=>hg.block j (Rw.own_lt ho j hj).2 (fun q=>by cases q;have:=(Rw.own_lt ho _ hj).1;omega)
set_option maxHeartbeats 4000000 in
theorem RefTrim_any (g m:Nat) (s:LrnV) (d:Int) (w:World) (h:HasL w g m s) (hs:GoodN s) (hn9:s.l.length<=1000):
  Calls Try.prog 12 #[.pointer (some ⟨g,0,none⟩),.int .i64 d] w (fun e w'=>e= .returned (.tuple #[])/\HasL w' g m (trimL s d)/\w.grownBy w' (some g)):=by
 have c1:=h.c1
 have cf:=h.open_ 1
 have HH:=hid h
 have HG:=hid hs
 clear h hs
 obtain⟨s',hE⟩: ∃s',trimL s d=s':=⟨_,rfl⟩
 rw[hE]
 unfold trimL at hE
 by_cases h1:d<=s.done
 ·rw[if_pos (.inl h1)] at hE
  subst hE
  have d1:decide (d<=s.done)=true:=decide_eq_true h1
  clear h1
  go_enter Try.func12,Try.ntmps12
  go_wp2
  refine bodyPost_ret (by simp [results,Try.results12,go_sem]<;>rfl) rfl ⟨rfl,HH.out,World.grownBy.refl _ _⟩
 have d1:decide (d<=s.done)=false:=decide_eq_false h1
 by_cases h2:2305843009213693952<d
 ·rw[if_pos (.inr h2)] at hE
  subst hE
  have d2:decide (2305843009213693952<d)=true:=decide_eq_true h2
  clear h1 h2
  go_enter Try.func12,Try.ntmps12
  go_wp2
  refine bodyPost_ret (by simp [results,Try.results12,go_sem]<;>rfl) rfl ⟨rfl,HH.out,World.grownBy.refl _ _⟩
 have d2:decide (2305843009213693952<d)=false:=decide_eq_false h2
 rw[if_neg (by omega)] at hE
 have HE:=hid hE
 clear h1 h2 hE
 obtain⟨lv,L,hL1,hL2,hL3,hL4⟩:=HH.out.ex
 obtain⟨la,lc,rfl⟩:=Rw.own_form hL3
 have hg1:=grown_setL w g 1 (.int .i64 d)
 have hb1:(w.setCell ⟨g,1,none⟩ (.int .i64 d)).heap[g]?=some (.cells #[.int .i64 s.n,.int .i64 d,.slice la L.length lc] 42):=by rw[set_atB hL1];rfl
 have ho1:(w.setCell ⟨g,1,none⟩ (.int .i64 d)).ownsRow m 66 10 (.slice la L.length lc) L.length (flatX cellsS L):=Rw.own_keep hL3 fun j hj=>hg1.block j (Rw.own_lt hL3 j hj).2 (fun q=>by cases q;have:=(Rw.own_lt hL3 _ hj).1;have:=HH.out.gm;omega)
 have hr1: ∀x∈L,OwnX m (w.setCell ⟨g,1,none⟩ (.int .i64 d)) x:=fun x hx=>(hL4 x hx).keep hg1 HH.out.gm
 have HGW:=hid hg1
 have HB1:=hid hb1
 have HO1:=hid ho1
 have HR1:=hid hr1
 have HMW:Hid (m<=(w.setCell ⟨g,1,none⟩ (.int .i64 d)).heap.size):=hid (Nat.le_trans HH.out.mw hg1.size)
 have HLV:=hid hL2
 have hn:L.length<=1000:=by rw[<-valsL_length,hL2];exact hn9
 clear hn9
 clear hL1 hL2 hL3 hL4 hg1 hb1 ho1 hr1
 obtain⟨i1,hi1,hz0,hz1,hz2⟩:=info_partsS infoS
 go_enter Try.func12,Try.ntmps12
 go_upto_region 2 with fail
 clear c1 cf d1 d2
 generalize w.setCell ⟨g,1,none⟩ (.int .i64 d)=W1 at HGW HB1 HO1 HR1 HMW ⊢
 have HAT:=hid (fun i hi=>rds_at (RdX.own cellsS_length HO1.out) i hi)
 obtain⟨n,hnn⟩: ∃n,L.length=n:=⟨_,rfl⟩
 have HN:=hid hnn
 rw[hnn] at hn HB1
 clear hnn
 have HC2:Hid (∀W,Below W1.heap.size W1 W->W.cell? ⟨g,2,none⟩=some (.slice la n lc)/\ ∀j,W.frozen? ⟨g,j,none⟩=false):=hid fun W hb=>⟨cell_at (cells_later HB1.out hb) 2,frozen_at (cells_later HB1.out hb)⟩
 go_wp2
 go_loopw [4,5] (fun v i wr=> ∃k:Nat,k<=n/\i= .int .i64 (k:Int)/\Hid (wr.ownsRow W1.heap.size 66 10 v ((L.take k).filter fun x=>decide (d<x.slot)).length (flatX cellsS ((L.take k).filter fun x=>decide (d<x.slot))))/\Hid (Below W1.heap.size W1 wr)) (fun _ i _=>n - (intOf i).toNat)
 case atStart=>exact⟨0,by omega,rfl,hid (World.ownsRow_nil _ _ _ _),hid (Below.refl _ _)⟩
 case round=>
  obtain⟨k,hk,rfl,HOW,HBW⟩:=hrel
  obtain⟨c2,cf⟩:=HC2.out _ HBW.out
  by_cases hlt:k<n
  ·have hkl:k<L.length:=by rw[HN.out];exact hlt
   obtain⟨b',o',rfl,hc⟩:=HAT.out k hkl
   obtain⟨q0,q1,q2,q3,q4,q5,q6,q7,q8,q9⟩:=hc _ HBW.out
   have hf:=filter_takeS L d k hkl
   clear hc HAT
   generalize L[k]=x at q0 q1 q2 q3 q4 q5 q6 q7 q8 q9 hf
   obtain⟨x1,x2,xw,xwa,xwc,⟨x3,x4,x5,x6,x7,x8⟩,xa,xc,xh⟩:=x
   unfold SlotC.wv at q2
   unfold SlotC.uv at q8
   dsimp only at q0 q1 q2 q3 q4 q5 q6 q7 q8 q9 hf
   have hlen:((L.take k).filter fun x=>decide (d<x.slot)).length <=k:=Nat.le_trans (List.length_filter_le _ _) (by rw[List.length_take];omega)
   generalize (L.take k).filter (fun x=>decide (d<x.slot))=M at HOW hf hlen
   have k1:(k:Int)<(n:Int):=by omega
   by_cases e:d<x1
   ·have d1:decide (d<x1)=true:=decide_eq_true e
    rw[if_pos e] at hf
    have HF:=hid hf
    have hb5:=HBW.out.size
    clear e hf
    obtain⟨ma,mc,hmv⟩:=Rw.own_form HOW.out
    subst hmv
    go_wp2_with (at_builtin;refine wpList_append_one cellsS_length (by omega) rfl _ _ 40 rfl 66 i1 _ 112 Try.underlying40 hi1 hz0 hz1 hz2 rfl #[.int .i64 x1,.int .i64 x2,.slice xwa xw.length xwc,.bool x3,.int .i64 x4,.int .i64 x5,.int .i64 x6,.int .i64 x7,.slice xa x8.length xc,.bool xh] (⟨x1,x2,xw,xwa,xwc,⟨x3,x4,x5,x6,x7,x8⟩,xa,xc,xh⟩:SlotC) rfl (cellsS_one _) M W1.heap.size W1.heap.size W1 (.slice ma M.length mc) rfl rfl HOW.out (by unfold maxLen;omega) (by omega) hb5 HBW.out (Nat.le_refl _) ?_;intro v6 w6 ho6 hb6 _;have HO6:=hid ho6;have HB6:=hid hb6;clear ho6 hb6)
    go_roundw
    case rel=>exact⟨k+1,by omega,by go_num,by rw[HF.out];exact HO6,HB6⟩
    case measure=>simp [intOf];omega
   ·have d1:decide (d<x1)=false:=decide_eq_false e
    rw[if_neg e,List.append_nil] at hf
    have HF:=hid hf
    clear e hf
    go_wp2
    go_roundw
    case rel=>exact⟨k+1,by omega,by go_num,by rw[HF.out];exact HOW,HBW⟩
    case measure=>simp [intOf];omega
  ·obtain rfl:k=n:=by omega
   have hT:L.take k=L:=by rw[<-HN.out];exact List.take_length
   rw[hT] at HOW
   obtain⟨ta,tc,hta⟩:=Rw.own_form HOW.out
   subst hta
   have HF:Hid (HasL (wr.setCell ⟨g,2,none⟩ (.slice ta (L.filter fun x=>decide (d<x.slot)).length tc)) g m s'):=hid (by
    rw[<-HE.out]
    exact hasL_put (cells_later HB1.out HBW.out) (by rw[vals_filterS,HLV.out]) (own_lowerX HOW.out HMW.out) (fun x hx=>(HR1.out x (List.mem_filter.1 hx).1).later HBW.out) HH.out.gm (Nat.le_trans HMW.out HBW.out.size))
   have HGF:Hid (w.grownBy (wr.setCell ⟨g,2,none⟩ (.slice ta (L.filter fun x=>decide (d<x.slot)).length tc)) (some g)):=hid ((gr_belowL HGW.out HBW.out).trans (grown_setL _ _ _ _))
   clear HOW hT HAT
   generalize (L.filter fun x=>decide (d<x.slot)).length =ml at HF HGF ⊢
   go_wp2
   go_end0
   exact⟨rfl,HF.out,HGF.out⟩
end Ln
end Go.Proofs.Ytbcnednhfmchpaa
