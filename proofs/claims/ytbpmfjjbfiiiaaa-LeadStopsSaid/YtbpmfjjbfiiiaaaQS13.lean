/- Texts laid together by program. -/
import Derived.Deep.RegionHeld3
import Derived.Lib.Hide
/- A region that draws its order: each operation shown once, in whatever order they come. -/
set_option linter.unusedVariables false
set_option maxRecDepth 8000
set_option linter.unusedSimpArgs false
namespace Go.Proofs.Ytbpmfjjbfiiiaaa
open Lib (hid)
namespace Ev
section
variable {P : Program} {ops : Array Oper} {Q : Exit → Act → World → Prop} {md : Region.Mode} {S : World → Prop}

def upd {α:Type} (f:Nat->α) (i:Nat) (x:α):Nat->α:=fun j=>bif Nat.beq j i then x else f j
theorem upd_self {α:Type} (f:Nat->α) (i:Nat) (x:α):upd f i x i=x:=by unfold upd;rw[show Nat.beq i i=true from Nat.beq_refl i];rfl
theorem upd_ne {α:Type} (f:Nat->α) {i j:Nat} (x:α) (h:j≠i):upd f i x j=f j:=by
 unfold upd
 have:Nat.beq j i=false:=by
  cases q:Nat.beq j i with
  | false=>rfl
  | true=>exact absurd (Nat.eq_of_beq_eq_true q) h
 rw[this];rfl
def putAll:List (Nat × Option Tmp)->(Nat->Value)->Act->Act
 | [],_,a=>a
 | p::ds,v,a=>putAll ds v (a.put p.2 (v p.1))
theorem put_put (a:Act) (d:Option Tmp) (x y:Value):(a.put d x).put d y=a.put d y:=by
 cases d with
 | none=>rfl
 | some d=>simp [Act.put]
theorem put_self (a:Act) (d:Tmp):a.put (some d) (a.tmps.getD d undef)=a:=by
 obtain⟨t,q⟩:=a
 simp only[Act.put]
 congr 1
 apply Array.ext_getElem?
 intro k
 by_cases h:d=k
 ·subst h
  rcases Nat.lt_or_ge d t.size with q | q
  ·simp [q]
  ·simp [Array.getElem?_eq_none q];exact q
 ·rw[Array.getElem?_setIfInBounds_ne h]
def good (ops:Array Oper):List (Nat × Option Tmp)->Bool
 | []=>true
 | p::ds=>((ops[p.1]?).map (·.dst)==some p.2) && ds.all (fun q=>q.1 != p.1 && (p.2.isNone || q.2 != p.2)) && good ops ds
theorem good_cons {p:Nat × Option Tmp} {ds:List (Nat × Option Tmp)} (h:good ops (p::ds)=true):
  (ops[p.1]?).map (·.dst)=some p.2/\(∀q∈ds,q.1≠p.1/\(p.2=none\/q.2≠p.2))/\good ops ds=true:=by
 simp only[good,Bool.and_eq_true,List.all_eq_true,beq_iff_eq,bne_iff_ne,Bool.or_eq_true,Option.isNone_iff_eq_none] at h
 exact⟨h.1.1,fun q hq=>h.1.2 q hq,h.2⟩
theorem putAll_put: ∀(ds:List (Nat × Option Tmp)) (v:Nat->Value) (a:Act) (d:Option Tmp) (x:Value),(∀q∈ds,d=none\/q.2≠d)->
  putAll ds v (a.put d x)=(putAll ds v a).put d x:=by
 intro ds
 induction ds with
 | nil=>intros;rfl
 | cons p ds ih=>
  intro v a d x h
  simp only[putAll]
  rw[<-ih v (a.put p.2 (v p.1)) d x (fun q hq=>h q (List.mem_cons_of_mem _ hq))]
  congr 1
  rcases h p List.mem_cons_self with rfl | hne
  ·rfl
  ·exact Act.put_comm a x (v p.1) (fun e he hp=>hne (by rw[hp,he]))
theorem putAll_congr: ∀(ds:List (Nat × Option Tmp)) (v u:Nat->Value) (a:Act),(∀q∈ds,v q.1=u q.1)->putAll ds v a=putAll ds u a:=by
 intro ds
 induction ds with
 | nil=>intros;rfl
 | cons p ds ih=>
  intro v u a h
  simp only[putAll]
  rw[h p List.mem_cons_self]
  exact ih v u _ (fun q hq=>h q (List.mem_cons_of_mem _ hq))
theorem putAll_upd: ∀(ds:List (Nat × Option Tmp)) (v:Nat->Value) (a:Act) (i:Nat) (d:Option Tmp) (x:Value),good ops ds=true->(i,d)∈ds->
  putAll ds (upd v i x) a=(putAll ds v a).put d x:=by
 intro ds
 induction ds with
 | nil=>intro v a i d x _ h;cases h
 | cons p ds ih=>
  intro v a i d x hg h
  obtain⟨_,hne,hg'⟩:=good_cons hg
  rcases List.mem_cons.1 h with rfl | h
  ·simp only[putAll,upd_self]
   rw[putAll_put _ _ _ _ _ (fun q hq=>(hne q hq).2),putAll_put _ _ _ _ _ (fun q hq=>(hne q hq).2),put_put]
   rw[putAll_congr ds (upd v i x) v a (fun q hq=>upd_ne v x (hne q hq).1)]
  ·simp only[putAll]
   have hpi:p.1≠i:=fun e=>(hne (i,d) h).1 e.symm
   rw[upd_ne v x hpi]
   exact ih v _ i d x hg' h
def vals0 (ops:Array Oper) (a:Act) (j:Nat):Value:=match (ops[j]?).map (·.dst) with
 | some (some d)=>a.tmps.getD d undef
 | _=>undef
theorem putAll_vals0: ∀(ds:List (Nat × Option Tmp)) (a:Act),good ops ds=true->putAll ds (vals0 ops a) a=a:=by
 intro ds
 induction ds with
 | nil=>intros;rfl
 | cons p ds ih=>
  intro a hg
  obtain⟨h1,_,hg'⟩:=good_cons hg
  simp only[putAll]
  have:a.put p.2 (vals0 ops a p.1)=a:=by
   unfold vals0
   rw[h1]
   cases h:p.2 with
   | none=>rfl
   | some d=>exact put_self a d
  rw[this]
  exact ih a hg'
def waits (md:Region.Mode) (ops:Array Oper) (i j:Nat):Bool:=match ops[i]? with
 | none=>false
 | some o=>o.after.any fun e=>Region.binds md e && Nat.beq e.on j
def backs (md:Region.Mode) (ops:Array Oper):Bool:=(List.range ops.size).all fun i=>match ops[i]? with
 | none=>true
 | some o=>o.after.all fun e=> !Region.binds md e || Nat.blt e.on i
def covers (ops:Array Oper) (L:Array Bool) (ds:List (Nat × Option Tmp)) (fuel:Nat):Bool:=
 Nat.beq L.size ops.size && Nat.ble ds.length fuel && (List.range L.size).all fun j=>L.getD j true || (ds.map (·.1)).contains j
theorem backs_spec (h:backs md ops=true) {i:Nat} {o:Oper} (ho:ops[i]?=some o) (e:Edge) (he:e∈o.after) (hb:Region.binds md e=true):e.on<i:=by
 have hi:i<ops.size:=(Array.getElem?_eq_some_iff.1 ho).1
 have h1:=List.all_eq_true.1 h i (List.mem_range.2 hi)
 rw[ho] at h1
 have h2:=Array.all_eq_true_iff_forall_mem.1 h1 e he
 rw[hb] at h2
 simpa using h2
theorem all_listed (hb:backs md ops=true) {L:Array Bool} (hs:L.size=ops.size) (hr:Region.ready md ops L= []): ∀j,L.getD j true=true:=by
 intro j
 induction j using Nat.strongRecOn with
 | _ j ih=>
  cases hj:L.getD j true with
  | true=>rfl
  | false=>
   have hlt:j<L.size:=by
    rcases Nat.lt_or_ge j L.size with q | q
    ·exact q
    ·rw[Array.getD_eq_getD_getElem?,Array.getElem?_eq_none q] at hj;cases hj
   have hlo:j<ops.size:=by omega
   have:j∈Region.ready md ops L:=mem_ready.2 ⟨hj,ops[j],by simp [hlo],fun e he hbe=>by
    have hlt2:=backs_spec hb (by simp [hlo]:ops[j]?=some ops[j]) e he hbe
    have h3:=ih e.on hlt2
    have h4:e.on<L.size:=by omega
    simpa [Array.getD_eq_getD_getElem?,h4] using h3⟩
   rw[hr] at this
   cases this
def AllEv (P:Program) (md:Region.Mode) (ops:Array Oper) (Q:Exit->Act->World->Prop) (F:(Nat->Bool)->(Nat->Value)->World->Prop) (ds:List (Nat × Option Tmp)) (a:Act) (es:List (Nat × Option Tmp)):Prop:=
 ∀p∈es,∀(l:Nat->Bool) (v:Nat->Value) (w:World),F l v w->l p.1=false->(∀j,waits md ops p.1 j=true->l j=true)->
  wpOp P ops Q p.1 (fun a' w'=> ∃x,a'=(putAll ds v a).put p.2 x/\F (upd l p.1 true) (upd v p.1 x) w') (putAll ds v a) w
theorem AllEv.nil {F:(Nat->Bool)->(Nat->Value)->World->Prop} {ds:List (Nat × Option Tmp)} {a:Act} :AllEv P md ops Q F ds a []:=fun _ h=>by cases h
theorem AllEv.cons {F:(Nat->Bool)->(Nat->Value)->World->Prop} {ds es:List (Nat × Option Tmp)} {a:Act} {i:Nat} {d:Option Tmp} {o:Oper} (ho:ops[i]?=some o)
  (h: ∀(l:Nat->Bool) (v:Nat->Value) (w:World),F l v w->l i=false->(∀j,waits md ops i j=true->l j=true)->
   ∀K':Act->World->Prop,Shut (∀x w',F (upd l i true) (upd v i x) w'->K' ((putAll ds v a).put d x) w')->
    if Region.wanted o (yielded ops (putAll ds v a).tmps)=true then Oper.wp P o (putAll ds v a) w K' Q else K' ((putAll ds v a).put o.dst undef) w)
  (hs:AllEv P md ops Q F ds a es):AllEv P md ops Q F ds a ((i,d)::es):=fun p hp=>by
 rcases List.mem_cons.1 hp with rfl | hp
 ·intro l v w hF hl hd
  exact wpOp_step ho (fun K' hK=>h l v w hF hl hd K' (fun x w' hx=>hK _ _ ⟨x,rfl,hx⟩))
 ·exact hs p hp
theorem ext_getD {L:Array Bool} {i:Nat} (h:L.getD i true=false):(fun j=>(L.setIfInBounds i true).getD j true)=upd (fun j=>L.getD j true) i true:=by
 funext j
 have hlt:i<L.size:=by
  rcases Nat.lt_or_ge i L.size with q | q
  ·exact q
  ·rw[Array.getD_eq_getD_getElem?,Array.getElem?_eq_none q] at h;cases h
 by_cases q:j=i
 ·subst q;rw[upd_self];simp [hlt]
 ·rw[upd_ne _ _ q,getD_set_ne true (Ne.symm q)]
theorem events_aux {F:(Nat->Bool)->(Nat->Value)->World->Prop} {ds:List (Nat × Option Tmp)} {a0:Act}
  (hg:good ops ds=true) (hb:backs md ops=true) (hS: ∀l v w,F l v w->S w) (hstep:AllEv P md ops Q F ds a0 ds)
  (hend: ∀l v w,F l v w->(∀j,l j=true)->Q .normal (putAll ds v a0) w):
  ∀(fuel:Nat) (R:List Nat) (L:Array Bool) (v:Nat->Value) (w:World),R.length<=fuel->L.size=ops.size->(∀j,L.getD j true=false->j∈R)->(∀j,L.getD j true=false-> ∃d,(j,d)∈ds)->
   F (fun j=>L.getD j true) v w->wpAnyH P md ops Q S fuel L (putAll ds v a0) w:=by
 intro fuel
 induction fuel with
 | zero=>
  intro R L v w hR hs hL _ hF
  have hR:R= []:=List.eq_nil_of_length_eq_zero (by omega)
  subst hR
  have hall: ∀j,L.getD j true=true:=fun j=>by
   cases h:L.getD j true with
   | true=>rfl
   | false=>cases hL j h
  refine⟨?_,hend _ v w hF hall⟩
  cases hr:Region.ready md ops L with
  | nil=>rfl
  | cons x xs=>
   have:=(mem_ready.1 (show x∈Region.ready md ops L by rw[hr];exact List.mem_cons_self)).1
   rw[hall x] at this
   cases this
 | succ fuel ih=>
  intro R L v w hR hs hL hD hF
  refine⟨fun hr=>hend _ v w hF (all_listed hb hs hr),fun i hi=>?_⟩
  obtain⟨hun,o,ho,hdep⟩:=mem_ready.1 hi
  obtain⟨d,hid⟩:=hD i hun
  have h1:=hstep (i,d) hid (fun j=>L.getD j true) v w hF hun (fun j hj=>by
   unfold waits at hj
   rw[ho] at hj
   obtain⟨e,he,hbe⟩:=Array.any_eq_true'.1 hj
   rw[Bool.and_eq_true] at hbe
   have h2:=hdep e he hbe.1
   rw[Nat.eq_of_beq_eq_true hbe.2] at h2
   rcases Nat.lt_or_ge j L.size with q | q
   ·simpa [Array.getD_eq_getD_getElem?,q] using h2
   ·simp [Array.getD_eq_getD_getElem?,Array.getElem?_eq_none q])
  refine wpOp_mono (fun a' w' ⟨x,ha,hx⟩=>?_) h1
  rw[ha,<-putAll_upd ds v a0 i d x hg hid]
  refine⟨hS _ _ _ hx,ih (R.erase i) _ (upd v i x) w' ?_ (by rw[Array.size_setIfInBounds];exact hs) ?_ ?_ ?_⟩
  ·have:=hL i hun
   rw[List.length_erase_of_mem this]
   omega
  ·intro j hj
   by_cases q:j=i
   ·subst q
    have:=congrFun (ext_getD hun) j
    simp only[upd_self] at this
    rw[this] at hj;cases hj
   ·rw[getD_set_ne true (Ne.symm q)] at hj
    exact(List.mem_erase_of_ne q).2 (hL j hj)
  ·intro j hj
   by_cases q:j=i
   ·subst q;exact⟨d,hid⟩
   ·rw[getD_set_ne true (Ne.symm q)] at hj
    exact hD j hj
  ·rw[ext_getD hun];exact hx
theorem events {fuel:Nat} {L:Array Bool} {a:Act} {w:World} (ds:List (Nat × Option Tmp)) (F:(Nat->Bool)->(Nat->Value)->World->Prop)
  (hg:good ops ds=true) (hb:backs md ops=true) (hc:covers ops L ds fuel=true) (h0:F (fun j=>L.getD j true) (vals0 ops a) w)
  (hS: ∀l v w,F l v w->S w) (hstep:AllEv P md ops Q F ds a ds) (hend: ∀l v w,F l v w->(∀j,l j=true)->Q .normal (putAll ds v a) w):
  wpAnyH P md ops Q S fuel L a w:=by
 simp only[covers,Bool.and_eq_true,Nat.ble_eq,List.all_eq_true,List.mem_range,Bool.or_eq_true,List.contains_iff_mem] at hc
 obtain⟨⟨c1,c2⟩,c3⟩:=hc
 have c1:=Nat.eq_of_beq_eq_true c1
 have hin: ∀j,L.getD j true=false->j∈ds.map (·.1):=fun j hj=>by
  rcases Nat.lt_or_ge j L.size with q | q
  ·rcases c3 j q with h | h
   ·rw[hj] at h;cases h
   ·exact h
  ·rw[Array.getD_eq_getD_getElem?,Array.getElem?_eq_none q] at hj;cases hj
 have:=events_aux hg hb hS hstep hend fuel (ds.map (·.1)) L (vals0 ops a) w (by simpa using c2) c1 hin (fun j hj=>by
  obtain⟨⟨i,d⟩,h1,h2⟩:=List.mem_map.1 (hin j hj)
  exact⟨d,by rw[<-h2];exact h1⟩) h0
 rwa [putAll_vals0 ds a hg] at this
end
end Ev
end Go.Proofs.Ytbpmfjjbfiiiaaa
