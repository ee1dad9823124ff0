/- Texts laid together by program. -/
import Derived.Test.YtbpmfjjbfiiiaaaQS25
import Derived.Test.YtbpmfjjbfiiiaaaQS27
/- lead's Hear. -/
set_option linter.unusedVariables false
set_option maxRecDepth 8000
set_option linter.unusedSimpArgs false
namespace Go.Proofs.Ytbpmfjjbfiiiaaa
open Lib (hid)
open List (getElem_toArray getElem_cons_succ getElem_cons_zero setIfInBounds_toArray set_cons_zero set_cons_succ)
open Go.RowKit
namespace Ld
open Cm Ac Pl Vw

theorem quiet_eqL {P:Program} {f:FuncId} {args:Array Value} {w:World} {n:Nat} {v:Value}
  (h:Calls P f args (w.drewN n) fun e w'=>e= .returned v/\w.drewN n=w'):Calls P f args (w.drewN n) fun e w''=>e= .returned v/\ ∃m,w''=w.drewN m:=
 h.mono fun _ _ ⟨he,hm⟩=>⟨he,n,hm.symm⟩
theorem mark_cells (sn sp sv sx s1 s2 s3:Int) (sh:List Bool) (h7:sh.length=7) (pv bv:Value) (K:Nat) (hK:K<7):
  (#[.int .i64 sn,.int .i64 sp,.int .i64 sv,.bool (hb sh 0),.bool (hb sh 1),.bool (hb sh 2),.bool (hb sh 3),.bool (hb sh 4),.bool (hb sh 5),.bool (hb sh 6),pv,bv,.int .i64 sx,.int .i64 s1,.int .i64 s2,.int .i64 s3]:Array Value).setIfInBounds (3+K) (.bool true)=#[.int .i64 sn,.int .i64 sp,.int .i64 sv,.bool (hb (sh.set K true) 0),.bool (hb (sh.set K true) 1),.bool (hb (sh.set K true) 2),.bool (hb (sh.set K true) 3),.bool (hb (sh.set K true) 4),.bool (hb (sh.set K true) 5),.bool (hb (sh.set K true) 6),pv,bv,.int .i64 sx,.int .i64 s1,.int .i64 s2,.int .i64 s3]:=by
 match sh,h7 with
 | [a0,a1,a2,a3,a4,a5,a6],_=>
  match K,hK with
  | 0,_=>rfl
  | 1,_=>rfl
  | 2,_=>rfl
  | 3,_=>rfl
  | 4,_=>rfl
  | 5,_=>rfl
  | 6,_=>rfl
theorem hd_cell {w:World} {g:Nat} {sn sp sv sx s1 s2 s3:Int} {sh:List Bool} {pv bv:Value} {t:TypeId} (h:w.heap[g]?=some (.cells #[.int .i64 sn,.int .i64 sp,.int .i64 sv,.bool (hb sh 0),.bool (hb sh 1),.bool (hb sh 2),.bool (hb sh 3),.bool (hb sh 4),.bool (hb sh 5),.bool (hb sh 6),pv,bv,.int .i64 sx,.int .i64 s1,.int .i64 s2,.int .i64 s3] t)) (K:Nat) (hK:K<7):w.cell? ⟨g,3+K,none⟩=some (.bool (hb sh K)):=by
 rw[cell_at h]
 match K,hK with
 | 0,_=>rfl
 | 1,_=>rfl
 | 2,_=>rfl
 | 3,_=>rfl
 | 4,_=>rfl
 | 5,_=>rfl
 | 6,_=>rfl
section
variable {w w' : World} {base : Nat}
theorem OwnB.grP {b2 n2 sz2:Nat} {u v:Value} {L:List BatC} {ys:List Value} (h:OwnB base w v L) (ho:w.ownsRow b2 59 sz2 u n2 ys) (hg:w.grownBy w' u.ownBlock):OwnB base w' v L:=
 ⟨h.row.keep fun k hk=>hg.block k (h.row.lt k hk).2 (fun q=>h.row.apart (OwnO.of ho) (by decide) k hk q.symm),fun x hx=>Rw.own_other (h.reqs x hx) hg (own_typesD ho (h.reqs x hx) (by decide))⟩
end
theorem Nxt.trans {u v x:Value} {H H':Nat} (h:Nxt u v H) (k:Nxt v x H') (hH:H<=H'):Nxt u x H:=fun i hi=>by
 rcases k i hi with q | q
 ·exact h i q
 ·exact .inr (by omega)
theorem DidL.from_ {w V w':World} {g m:Nat} {s:LedV} {pv bv pv' bv':Value} (hc:Chg (LS g pv bv) w V) (h1:Nxt pv pv' w.heap.size) (h2:Nxt bv bv' w.heap.size) (h:DidL g m s pv' bv' V w'):DidL g m s pv bv w w':=by
 obtain⟨pv2,bv2,hh,hk,n1,n2⟩:=h
 refine⟨pv2,bv2,hh,hc.trans hk (fun i q=>?_),h1.trans n1 hc.size,h2.trans n2 hc.size⟩
 rcases q with q | q | q
 ·exact .inl (.inl q)
 ·rcases h1 i q with r | r
  ·exact .inl (.inr (.inl r))
  ·exact .inr r
 ·rcases h2 i q with r | r
  ·exact .inl (.inr (.inr r))
  ·exact .inr r
theorem step_append_at {P:Program} {w:World} {ops:Array Oper} {o:Oper} {a:Act} {K:Act->World->Prop} {Q:Exit->Act->World->Prop} {E:Prop} (hgd:o.guard=none) (s x:Operand) (t:TypeId)
  (ho:o.op= .call { callee:=.builtin .append,args:=#[s,x],argTypes:=#[t,t] })
  (base:Nat) (e:TypeId) (i:TypeInfo) (z:Value) (size bytes:Nat) (ht:P.underlying t=some (.slice e)) (hi:P.info? e=some i) (hz:i.zero=some z)
  (hsize:i.size=size) (hby:i.bytes=bytes) (hzs:z.cells.size=size) (hsz:0<size)
  (v:Value) (n:Nat) (xs:List Value) (hs:a.eval s=v) (hown:w.ownsRow base e size v n xs)
  (ad:Addr) (m c:Nat) (news:List Value) (hx:a.eval x= .slice (some ad) m c) (hl:news.length=m*size) (hnews: ∀j u,news[j]?=some u->w.cell? (ad.add j)=some u) (h1: ∀u∈news,u.oneCell'=true)
  (h63:n+m<=maxLen) (hbytes:(n+m)*bytes<=140737488355328) (hbase:base<=w.heap.size)
  (h: ∀v' w',w'.ownsRow base e size v' (n+m) (xs++news)->w.grownBy w' v.ownBlock->(v'.ownBlock=v.ownBlock\/v'.ownBlock=some w.heap.size)->K (a.put o.dst v') w'):
  if Region.wanted o (yielded ops a.tmps)=true then Oper.wp P o a w K Q else E:=by
 have hw:Region.wanted o (yielded ops a.tmps)=true:=by simp [Region.wanted,hgd]
 rw[if_pos hw]
 obtain⟨v',w',hr,h2,h3,_,h5⟩:=run_append_own_at (P:=P) w base t o.type e i z size bytes ht hi hz hsize hby hzs hsz v n xs hown ad m c news hl hnews h1 h63 hbytes hbase
 unfold Oper.wp execOp
 simp only[ho,resolve,invoke,builtin,Sem.run_bind,Sem.run_pure,Result.andThen_ok,List.map_toArray,List.map_cons,List.map_nil,hs,hx,hr]
 exact h v' w' h2 h3 h5
def SepP (p:PromC) (g:Nat):Prop:=(∀k,p.u.ownBlock=some k->k≠g)/\ ∀x∈p.votes,∀k,x.u.ownBlock=some k->k≠g
theorem OwnV.sep {w:World} {base g:Nat} {p:PromC} {cs:Array Value} (h:OwnV base w p.u p.votes) (hg:w.heap[g]?=some (.cells cs 79)):SepP p g:=
 ⟨fun k hk e=>ho_ne h.row hg (by decide) (by rw[<-e];exact hk),fun x hx k hk e=>ho_ne (h.reqs x hx) hg (by decide) (by rw[<-e];exact hk)⟩
theorem hear_few {s:LedV} {p:PromV} (h1:s.ph=1) (h2:mayP p=true) (h3:p.who<s.n) (h4:hb s.hd p.who.toNat=false) (h5:((s.ps.length+1:Nat):Int)<quorumF s.n):hearF s p=(markF s p,false,0):=by
 unfold hb at h4
 unfold hearF
 rw[if_pos h1,if_pos ⟨h2,h3⟩,if_pos h4,if_pos h5]
theorem hear_take {s:LedV} {p:PromV} (h1:s.ph=1) (h2:mayP p=true) (h3:p.who<s.n) (h4:hb s.hd p.who.toNat=false) (h5: ¬((s.ps.length+1:Nat):Int)<quorumF s.n):hearF s p=(takeF (markF s p),true,0):=by
 unfold hb at h4
 unfold hearF
 rw[if_pos h1,if_pos ⟨h2,h3⟩,if_pos h4,if_neg h5]
def HearL (g m:Nat) (r:LedV × Bool × Int) (pv bv:Value) (w:World) (e:Ending) (w':World):Prop:=e= .returned (.tuple #[.bool r.2.1,.int .i64 r.2.2])/\DidL g m r.1 pv bv w w'
set_option maxHeartbeats 8000000 in
theorem LHear_any (g m:Nat) (s:LedV) (p:PromC) (pv bv:Value) (w:World) (h:HasL w g m s pv bv) (hr:RdV w p.u p.votes) (hsep:SepP p g) (h7:s.hd.length=7) (hn:s.n<=7) (hok:okS [] s.ps=true) (hlow: ∀q∈s.ps,hb s.hd q.who.toNat=true) (hfew:s.ps.length<=6):Calls Try.prog 18 #[.pointer (some ⟨g,0,none⟩),promVal p] w (HearL g m (hearF s p.val) pv bv w):=by
 obtain⟨P,eP,hP⟩:=h.ps
 obtain⟨B,eB,hB⟩:=h.bs
 have HEP:=hid eP
 have HEB:=hid eB
 have HP:=hid hP
 have HQ:=hid hB
 have HGM:=hid h.gm
 have HLT:=hid h.lt
 have HEX:=hid h.ex
 have HH:=hid h
 have HPLT:=hid (fun k hk=>(Rw.own_lt hP.row k hk).2)
 have H7:=hid h7
 have HOK:=hid hok
 have HLO:=hid hlow
 have HFW:Hid (P.length<=6):=hid (by have:=congrArg List.length eP;rw[valsP_length] at this;omega)
 have CM:=hid (fun W (hb:Below w.heap.size w W)=>MayP_any p W (hr.later hb))
 have HR:=hid hr
 have HSEP:=hid hsep
 obtain⟨R,hR⟩: ∃R,hearF s p.val=R:=⟨_,rfl⟩
 have HA:=hid hR
 rw[hR]
 clear hR eP eB hP hB h hok hlow hr hfew h7 hsep
 have HMV:Hid (mayP p.val=true->p.votes.length<=9/\(∀x∈p.votes,x.bat.reqs.length<=1000)/\0<=p.who/\p.who<7):=hid (fun q=>by
  have ho:=mayP_ok q
  refine⟨by have:=ho.n9;rw[show p.val.votes=valsV p.votes from rfl,valsV_length] at this;exact this,fun x hx=>?_,ho.w0,ho.w7⟩
  have:=mayB_few (ho.votes x.val (List.mem_map.2 ⟨x,hx,rfl⟩)).may
  rw[show x.val.bat=x.bat from rfl] at this
  omega)
 unfold HearL
 obtain⟨sn,sp,sv,sh,sps,sb,sx,s1,s2,s3⟩:=s
 dsimp only at HEX HEP HEB H7 HOK HLO hn
 have hbx:=newAlloc w (promObj p)
 have kx:=alloc_atB w (promObj p) _ rfl
 obtain⟨MB,hMB⟩: ∃MB,mayP p.val=MB:=⟨_,rfl⟩
 have HMB:=hid hMB
 rw[hMB] at CM HMV
 clear hMB
 obtain⟨pw,pd,pt,pq,pm,L,pa,pc⟩:=p
 unfold promObj PromC.u at hbx kx
 unfold promVal PromC.u at CM
 unfold PromC.u at HR
 unfold SepP PromC.u at HSEP
 unfold promVal PromC.u
 dsimp only at hbx kx CM HR HMV HSEP ⊢
 obtain⟨N,hN⟩: ∃N,L.length=N:=⟨_,rfl⟩
 have HN:=hid hN
 rw[hN] at hbx kx CM HR HSEP ⊢
 rw[hN] at HMV
 clear hN
 have HB1:=hid hbx
 have HX1:=hid kx
 go_enter Try.func18,Try.ntmps18
 go_upto_region 1 with fail
 generalize w.alloc (.cells #[.int .i64 pw,.int .i64 pd,.int .i64 pt,.int .i64 pq,.int .i64 pm,.slice pa N pc] 59)=W1 at HB1 HX1 ⊢
 clear hbx kx
 have HEX1:=hid (cells_later HEX.out HB1.out)
 have c1:=cell_at HEX1.out 1
 simp at c1
 by_cases hp:sp=1
 case neg=>
  have d:(sp != 1)=true:=by simpa using hp
  have hRv:R=(⟨sn,sp,sv,sh,sps,sb,sx,s1,s2,s3⟩,false,11):=HA.out.symm.trans (by unfold hearF;rw[if_neg hp])
  clear HA hp
  subst hRv
  go_wp2
  go_ret2
  exact⟨rfl,_,_,HH.out.later HB1.out,Chg.of HB1.out,Nxt.refl _ _,Nxt.refl _ _⟩
 subst hp
 have HSS:Hid (∀V,Below W1.heap.size W1 V->(V.cell? ⟨w.heap.size,0,none⟩=some (.int .i64 pw)/\V.cell? ⟨w.heap.size,1,none⟩=some (.int .i64 pd)/\V.cell? ⟨w.heap.size,2,none⟩=some (.int .i64 pt)/\V.cell? ⟨w.heap.size,3,none⟩=some (.int .i64 pq)/\V.cell? ⟨w.heap.size,4,none⟩=some (.int .i64 pm)/\V.cell? ⟨w.heap.size,5,none⟩=some (.slice pa N pc))/\V.cell? ⟨g,0,none⟩=some (.int .i64 sn)):=hid (fun V hb=>by
  have e:=cells_later HX1.out hb
  exact⟨⟨cell_at e 0,cell_at e 1,cell_at e 2,cell_at e 3,cell_at e 4,cell_at e 5⟩,cell_at (cells_later HEX1.out hb) 0⟩)
 go_upto_region 5 with fail
 clear c1
 have HW1:=HB1
 have CM1:=hid (fun W (hb:Below W1.heap.size W1 W)=>CM.out W (step HW1.out hb))
 have HB1:=hid (Below.refl W1.heap.size W1)
 clear CM
 have CM:=CM1
 clear CM1
 cases MB
 case false=>
  have hRv:R=(⟨sn,1,sv,sh,sps,sb,sx,s1,s2,s3⟩,false,1):=HA.out.symm.trans (by unfold hearF;rw[if_pos rfl,if_neg (fun q=>by have e:=HMB.out;rw[q.1] at e;cases e)])
  clear HA HMV HMB
  subst hRv
  refine wp_region_held_drew (S:=fun W=>(W.cell? ⟨w.heap.size,0,none⟩=some (.int .i64 pw)/\W.cell? ⟨w.heap.size,1,none⟩=some (.int .i64 pd)/\W.cell? ⟨w.heap.size,2,none⟩=some (.int .i64 pt)/\W.cell? ⟨w.heap.size,3,none⟩=some (.int .i64 pq)/\W.cell? ⟨w.heap.size,4,none⟩=some (.int .i64 pm)/\W.cell? ⟨w.heap.size,5,none⟩=some (.slice pa N pc))/\W.cell? ⟨g,0,none⟩=some (.int .i64 sn)) (by kernel_rfl) (HSS.out _ (step HB1.out (Below.refl _ _).drew)) (fun hHeld=>?_)
  obtain⟨V,hV⟩: ∃V,V=W1.drew:=⟨_,rfl⟩
  have hb:Below W1.heap.size W1 V:=(by rw[hV];exact(Below.refl _ _).drew)
  rw[<-hV] at hHeld ⊢
  have HB:=HB1
  have HB:=hid (step HB.out hb)
  clear hV hb HB1
  refine wpAnyH_take (i:=0) (v:=?_) rfl (by kernel_rfl) (by kernel_rfl) (by kernel_rfl) (fun _ _ _ h=>h) (Or.inl ⟨by rfl,?_⟩) (by assumption) ?_
  rotate_left
  ·intro w hSw;(try dsimp only at hSw);go_simp<;>with_reducible rfl
  try simp only[Act.put,getElem_toArray,getElem_cons_succ,getElem_cons_zero,setIfInBounds_toArray,set_cons_zero,set_cons_succ]
  refine wpAnyH_ready (rs:= [1]) (by kernel_rfl) (by simp) ?_
  refine AllReadyH.cons rfl (fun K hK=>?_) AllReadyH.nil
  go_simp
  go_at_call 38
  refine(CM.out _ HB.out).mono ?_
  rintro e V' ⟨rfl,hb⟩
  have HB:=hid (step HB.out hb)
  clear hb
  obtain⟨V,rfl⟩: ∃V,V=V':=⟨_,rfl⟩
  refine hK.out _ _ (HSS.out _ HB.out) (fun hHeld=>?_)
  clear hK K
  try simp only[Act.put,getElem_toArray,getElem_cons_succ,getElem_cons_zero,setIfInBounds_toArray,set_cons_zero,set_cons_succ]
  refine wpAnyH_take (i:=2) (v:=?_) rfl (by kernel_rfl) (by kernel_rfl) (by kernel_rfl) (fun _ _ _ h=>h) (Or.inl ⟨by rfl,?_⟩) (by assumption) ?_
  rotate_left
  ·intro w hSw;(try dsimp only at hSw);go_simp<;>with_reducible rfl
  try simp only[Act.put,getElem_toArray,getElem_cons_succ,getElem_cons_zero,setIfInBounds_toArray,set_cons_zero,set_cons_succ]
  refine wpAnyH_take (i:=3) (v:=?_) rfl (by kernel_rfl) (by kernel_rfl) (by kernel_rfl) (fun _ _ _ h=>h) (Or.inl ⟨by rfl,?_⟩) (by assumption) ?_
  rotate_left
  ·intro w hSw;(try dsimp only at hSw);go_simp<;>with_reducible rfl
  try simp only[Act.put,getElem_toArray,getElem_cons_succ,getElem_cons_zero,setIfInBounds_toArray,set_cons_zero,set_cons_succ]
  refine wpAnyH_take (i:=4) (v:=undef) rfl (by kernel_rfl) (by kernel_rfl) (by kernel_rfl) (fun _ _ _ h=>h) (Or.inr ⟨by rfl,rfl⟩) (by assumption) ?_
  try simp only[Act.put,getElem_toArray,getElem_cons_succ,getElem_cons_zero,setIfInBounds_toArray,set_cons_zero,set_cons_succ]
  refine wpAnyH_take (i:=5) (v:=undef) rfl (by kernel_rfl) (by kernel_rfl) (by kernel_rfl) (fun _ _ _ h=>h) (Or.inr ⟨by rfl,rfl⟩) (by assumption) ?_
  try simp only[Act.put,getElem_toArray,getElem_cons_succ,getElem_cons_zero,setIfInBounds_toArray,set_cons_zero,set_cons_succ]
  refine wpAnyH_take (i:=6) (v:=undef) rfl (by kernel_rfl) (by kernel_rfl) (by kernel_rfl) (fun _ _ _ h=>h) (Or.inr ⟨by rfl,rfl⟩) (by assumption) ?_
  try simp only[Act.put,getElem_toArray,getElem_cons_succ,getElem_cons_zero,setIfInBounds_toArray,set_cons_zero,set_cons_succ]
  refine wpAnyH_take (i:=7) (v:=undef) rfl (by kernel_rfl) (by kernel_rfl) (by kernel_rfl) (fun _ _ _ h=>h) (Or.inr ⟨by rfl,rfl⟩) (by assumption) ?_
  try simp only[Act.put,getElem_toArray,getElem_cons_succ,getElem_cons_zero,setIfInBounds_toArray,set_cons_zero,set_cons_succ]
  refine wpAnyH_take (i:=8) (v:=undef) rfl (by kernel_rfl) (by kernel_rfl) (by kernel_rfl) (fun _ _ _ h=>h) (Or.inr ⟨by rfl,rfl⟩) (by assumption) ?_
  try simp only[Act.put,getElem_toArray,getElem_cons_succ,getElem_cons_zero,setIfInBounds_toArray,set_cons_zero,set_cons_succ]
  refine wpAnyH_take (i:=9) (v:=undef) rfl (by kernel_rfl) (by kernel_rfl) (by kernel_rfl) (fun _ _ _ h=>h) (Or.inr ⟨by rfl,rfl⟩) (by assumption) ?_
  try simp only[Act.put,getElem_toArray,getElem_cons_succ,getElem_cons_zero,setIfInBounds_toArray,set_cons_zero,set_cons_succ]
  refine wpAnyH_take (i:=10) (v:=undef) rfl (by kernel_rfl) (by kernel_rfl) (by kernel_rfl) (fun _ _ _ h=>h) (Or.inr ⟨by rfl,rfl⟩) (by assumption) ?_
  try simp only[Act.put,getElem_toArray,getElem_cons_succ,getElem_cons_zero,setIfInBounds_toArray,set_cons_zero,set_cons_succ]
  refine wpAnyH_take (i:=11) (v:=?_) rfl (by kernel_rfl) (by kernel_rfl) (by kernel_rfl) (fun _ _ _ h=>h) (Or.inl ⟨by rfl,?_⟩) (by assumption) ?_
  rotate_left
  ·intro w hSw;(try dsimp only at hSw);go_simp<;>with_reducible rfl
  try simp only[Act.put,getElem_toArray,getElem_cons_succ,getElem_cons_zero,setIfInBounds_toArray,set_cons_zero,set_cons_succ]
  refine wpAnyH_take (i:=12) (v:=?_) rfl (by kernel_rfl) (by kernel_rfl) (by kernel_rfl) (fun _ _ _ h=>h) (Or.inl ⟨by rfl,?_⟩) (by assumption) ?_
  rotate_left
  ·intro w hSw;(try dsimp only at hSw);go_simp<;>with_reducible rfl
  try simp only[Act.put,getElem_toArray,getElem_cons_succ,getElem_cons_zero,setIfInBounds_toArray,set_cons_zero,set_cons_succ]
  refine wpAnyH_done (by kernel_rfl) ?_ _
  clear hHeld
  have HB:=hid (step HW1.out HB.out)
  go_wp2
  go_ret2
  exact⟨rfl,_,_,HH.out.later HB.out,Chg.of HB.out,Nxt.refl _ _,Nxt.refl _ _⟩
 obtain⟨hn9,hv3,hw0,hw7⟩:=HMV.out rfl
 have HV9:=hid (And.intro hn9 hv3)
 clear hn9 hv3 HMV
 by_cases hlt:pw<sn
 case neg=>
  have d:decide (sn<=pw)=true:=decide_eq_true (by omega)
  have hRv:R=(⟨sn,1,sv,sh,sps,sb,sx,s1,s2,s3⟩,false,1):=HA.out.symm.trans (by unfold hearF;rw[if_pos rfl,if_neg (fun q=>hlt q.2)])
  clear HA hlt hw0 hw7 HMB
  subst hRv
  refine wp_region_held_drew (S:=fun W=>(W.cell? ⟨w.heap.size,0,none⟩=some (.int .i64 pw)/\W.cell? ⟨w.heap.size,1,none⟩=some (.int .i64 pd)/\W.cell? ⟨w.heap.size,2,none⟩=some (.int .i64 pt)/\W.cell? ⟨w.heap.size,3,none⟩=some (.int .i64 pq)/\W.cell? ⟨w.heap.size,4,none⟩=some (.int .i64 pm)/\W.cell? ⟨w.heap.size,5,none⟩=some (.slice pa N pc))/\W.cell? ⟨g,0,none⟩=some (.int .i64 sn)) (by kernel_rfl) (HSS.out _ (step HB1.out (Below.refl _ _).drew)) (fun hHeld=>?_)
  obtain⟨V,hV⟩: ∃V,V=W1.drew:=⟨_,rfl⟩
  have hb:Below W1.heap.size W1 V:=(by rw[hV];exact(Below.refl _ _).drew)
  rw[<-hV] at hHeld ⊢
  have HB:=HB1
  have HB:=hid (step HB.out hb)
  clear hV hb HB1
  refine wpAnyH_take (i:=0) (v:=?_) rfl (by kernel_rfl) (by kernel_rfl) (by kernel_rfl) (fun _ _ _ h=>h) (Or.inl ⟨by rfl,?_⟩) (by assumption) ?_
  rotate_left
  ·intro w hSw;(try dsimp only at hSw);go_simp<;>with_reducible rfl
  try simp only[Act.put,getElem_toArray,getElem_cons_succ,getElem_cons_zero,setIfInBounds_toArray,set_cons_zero,set_cons_succ]
  refine wpAnyH_ready (rs:= [1]) (by kernel_rfl) (by simp) ?_
  refine AllReadyH.cons rfl (fun K hK=>?_) AllReadyH.nil
  go_simp
  go_at_call 38
  refine(CM.out _ HB.out).mono ?_
  rintro e V' ⟨rfl,hb⟩
  have HB:=hid (step HB.out hb)
  clear hb
  obtain⟨V,rfl⟩: ∃V,V=V':=⟨_,rfl⟩
  refine hK.out _ _ (HSS.out _ HB.out) (fun hHeld=>?_)
  clear hK K
  try simp only[Act.put,getElem_toArray,getElem_cons_succ,getElem_cons_zero,setIfInBounds_toArray,set_cons_zero,set_cons_succ]
  refine wpAnyH_take (i:=2) (v:=?_) rfl (by kernel_rfl) (by kernel_rfl) (by kernel_rfl) (fun _ _ _ h=>h) (Or.inl ⟨by rfl,?_⟩) (by assumption) ?_
  rotate_left
  ·intro w hSw;(try dsimp only at hSw);go_simp<;>with_reducible rfl
  try simp only[Act.put,getElem_toArray,getElem_cons_succ,getElem_cons_zero,setIfInBounds_toArray,set_cons_zero,set_cons_succ]
  refine wpAnyH_take (i:=3) (v:=?_) rfl (by kernel_rfl) (by kernel_rfl) (by kernel_rfl) (fun _ _ _ h=>h) (Or.inl ⟨by rfl,?_⟩) (by assumption) ?_
  rotate_left
  ·intro w hSw;(try dsimp only at hSw);go_simp<;>with_reducible rfl
  try simp only[Act.put,getElem_toArray,getElem_cons_succ,getElem_cons_zero,setIfInBounds_toArray,set_cons_zero,set_cons_succ]
  refine wpAnyH_take (i:=4) (v:=?_) rfl (by kernel_rfl) (by kernel_rfl) (by kernel_rfl) (fun _ _ _ h=>h) (Or.inl ⟨by rfl,?_⟩) (by assumption) ?_
  rotate_left
  ·intro w hSw;(try dsimp only at hSw);go_simp<;>with_reducible rfl
  try simp only[Act.put,getElem_toArray,getElem_cons_succ,getElem_cons_zero,setIfInBounds_toArray,set_cons_zero,set_cons_succ]
  refine wpAnyH_take (i:=5) (v:=?_) rfl (by kernel_rfl) (by kernel_rfl) (by kernel_rfl) (fun _ _ _ h=>h) (Or.inl ⟨by rfl,?_⟩) (by assumption) ?_
  rotate_left
  ·intro w hSw;(try dsimp only at hSw);go_simp<;>with_reducible rfl
  try simp only[Act.put,getElem_toArray,getElem_cons_succ,getElem_cons_zero,setIfInBounds_toArray,set_cons_zero,set_cons_succ]
  refine wpAnyH_take (i:=6) (v:=?_) rfl (by kernel_rfl) (by kernel_rfl) (by kernel_rfl) (fun _ _ _ h=>h) (Or.inl ⟨by rfl,?_⟩) (by assumption) ?_
  rotate_left
  ·intro w hSw;(try dsimp only at hSw);go_simp<;>with_reducible rfl
  try simp only[Act.put,getElem_toArray,getElem_cons_succ,getElem_cons_zero,setIfInBounds_toArray,set_cons_zero,set_cons_succ]
  refine wpAnyH_take (i:=7) (v:=?_) rfl (by kernel_rfl) (by kernel_rfl) (by kernel_rfl) (fun _ _ _ h=>h) (Or.inl ⟨by rfl,?_⟩) (by assumption) ?_
  rotate_left
  ·intro w hSw;(try dsimp only at hSw);go_simp<;>with_reducible rfl
  try simp only[Act.put,getElem_toArray,getElem_cons_succ,getElem_cons_zero,setIfInBounds_toArray,set_cons_zero,set_cons_succ]
  refine wpAnyH_take (i:=8) (v:=?_) rfl (by kernel_rfl) (by kernel_rfl) (by kernel_rfl) (fun _ _ _ h=>h) (Or.inl ⟨by rfl,?_⟩) (by assumption) ?_
  rotate_left
  ·intro w hSw;(try dsimp only at hSw);go_simp<;>with_reducible rfl
  try simp only[Act.put,getElem_toArray,getElem_cons_succ,getElem_cons_zero,setIfInBounds_toArray,set_cons_zero,set_cons_succ]
  refine wpAnyH_take (i:=9) (v:=?_) rfl (by kernel_rfl) (by kernel_rfl) (by kernel_rfl) (fun _ _ _ h=>h) (Or.inl ⟨by rfl,?_⟩) (by assumption) ?_
  rotate_left
  ·intro w hSw;(try dsimp only at hSw);go_simp<;>with_reducible rfl
  try simp only[Act.put,getElem_toArray,getElem_cons_succ,getElem_cons_zero,setIfInBounds_toArray,set_cons_zero,set_cons_succ]
  refine wpAnyH_take (i:=10) (v:=?_) rfl (by kernel_rfl) (by kernel_rfl) (by kernel_rfl) (fun _ _ _ h=>h) (Or.inl ⟨by rfl,?_⟩) (by assumption) ?_
  rotate_left
  ·intro w hSw;(try dsimp only at hSw);go_simp<;>with_reducible rfl
  try simp only[Act.put,getElem_toArray,getElem_cons_succ,getElem_cons_zero,setIfInBounds_toArray,set_cons_zero,set_cons_succ]
  refine wpAnyH_take (i:=11) (v:=?_) rfl (by kernel_rfl) (by kernel_rfl) (by kernel_rfl) (fun _ _ _ h=>h) (Or.inl ⟨by rfl,?_⟩) (by assumption) ?_
  rotate_left
  ·intro w hSw;(try dsimp only at hSw);go_simp<;>with_reducible rfl
  try simp only[Act.put,getElem_toArray,getElem_cons_succ,getElem_cons_zero,setIfInBounds_toArray,set_cons_zero,set_cons_succ]
  refine wpAnyH_take (i:=12) (v:=?_) rfl (by kernel_rfl) (by kernel_rfl) (by kernel_rfl) (fun _ _ _ h=>h) (Or.inl ⟨by rfl,?_⟩) (by assumption) ?_
  rotate_left
  ·intro w hSw;(try dsimp only at hSw);go_simp<;>with_reducible rfl
  try simp only[Act.put,getElem_toArray,getElem_cons_succ,getElem_cons_zero,setIfInBounds_toArray,set_cons_zero,set_cons_succ]
  refine wpAnyH_done (by kernel_rfl) ?_ _
  clear hHeld
  have HB:=hid (step HW1.out HB.out)
  go_wp2
  go_ret2
  exact⟨rfl,_,_,HH.out.later HB.out,Chg.of HB.out,Nxt.refl _ _,Nxt.refl _ _⟩
 have d:decide (sn<=pw)=false:=decide_eq_false (by omega)
 have HWL:=hid hlt
 obtain⟨KW,rfl⟩: ∃KW:Nat,pw=(KW:Int):=⟨pw.toNat,by omega⟩
 have hKW:KW<7:=by omega
 have HK7:=hid hKW
 clear hlt hw0 hw7
 refine wp_region_held_drew (S:=fun W=>(W.cell? ⟨w.heap.size,0,none⟩=some (.int .i64 (KW:Int))/\W.cell? ⟨w.heap.size,1,none⟩=some (.int .i64 pd)/\W.cell? ⟨w.heap.size,2,none⟩=some (.int .i64 pt)/\W.cell? ⟨w.heap.size,3,none⟩=some (.int .i64 pq)/\W.cell? ⟨w.heap.size,4,none⟩=some (.int .i64 pm)/\W.cell? ⟨w.heap.size,5,none⟩=some (.slice pa N pc))/\W.cell? ⟨g,0,none⟩=some (.int .i64 sn)) (by kernel_rfl) (HSS.out _ (step HB1.out (Below.refl _ _).drew)) (fun hHeld=>?_)
 obtain⟨V,hV⟩: ∃V,V=W1.drew:=⟨_,rfl⟩
 have hb:Below W1.heap.size W1 V:=(by rw[hV];exact(Below.refl _ _).drew)
 rw[<-hV] at hHeld ⊢
 have HB:=HB1
 have HB:=hid (step HB.out hb)
 clear hV hb HB1
 refine wpAnyH_take (i:=0) (v:=?_) rfl (by kernel_rfl) (by kernel_rfl) (by kernel_rfl) (fun _ _ _ h=>h) (Or.inl ⟨by rfl,?_⟩) (by assumption) ?_
 rotate_left
 ·intro w hSw;(try dsimp only at hSw);go_simp<;>with_reducible rfl
 try simp only[Act.put,getElem_toArray,getElem_cons_succ,getElem_cons_zero,setIfInBounds_toArray,set_cons_zero,set_cons_succ]
 refine wpAnyH_ready (rs:= [1]) (by kernel_rfl) (by simp) ?_
 refine AllReadyH.cons rfl (fun K hK=>?_) AllReadyH.nil
 go_simp
 go_at_call 38
 refine(CM.out _ HB.out).mono ?_
 rintro e V' ⟨rfl,hb⟩
 have HB:=hid (step HB.out hb)
 clear hb
 obtain⟨V,rfl⟩: ∃V,V=V':=⟨_,rfl⟩
 refine hK.out _ _ (HSS.out _ HB.out) (fun hHeld=>?_)
 clear hK K
 try simp only[Act.put,getElem_toArray,getElem_cons_succ,getElem_cons_zero,setIfInBounds_toArray,set_cons_zero,set_cons_succ]
 refine wpAnyH_take (i:=2) (v:=?_) rfl (by kernel_rfl) (by kernel_rfl) (by kernel_rfl) (fun _ _ _ h=>h) (Or.inl ⟨by rfl,?_⟩) (by assumption) ?_
 rotate_left
 ·intro w hSw;(try dsimp only at hSw);go_simp<;>with_reducible rfl
 try simp only[Act.put,getElem_toArray,getElem_cons_succ,getElem_cons_zero,setIfInBounds_toArray,set_cons_zero,set_cons_succ]
 refine wpAnyH_take (i:=3) (v:=?_) rfl (by kernel_rfl) (by kernel_rfl) (by kernel_rfl) (fun _ _ _ h=>h) (Or.inl ⟨by rfl,?_⟩) (by assumption) ?_
 rotate_left
 ·intro w hSw;(try dsimp only at hSw);go_simp<;>with_reducible rfl
 try simp only[Act.put,getElem_toArray,getElem_cons_succ,getElem_cons_zero,setIfInBounds_toArray,set_cons_zero,set_cons_succ]
 refine wpAnyH_take (i:=4) (v:=?_) rfl (by kernel_rfl) (by kernel_rfl) (by kernel_rfl) (fun _ _ _ h=>h) (Or.inl ⟨by rfl,?_⟩) (by assumption) ?_
 rotate_left
 ·intro w hSw;(try dsimp only at hSw);go_simp<;>with_reducible rfl
 try simp only[Act.put,getElem_toArray,getElem_cons_succ,getElem_cons_zero,setIfInBounds_toArray,set_cons_zero,set_cons_succ]
 refine wpAnyH_take (i:=5) (v:=?_) rfl (by kernel_rfl) (by kernel_rfl) (by kernel_rfl) (fun _ _ _ h=>h) (Or.inl ⟨by rfl,?_⟩) (by assumption) ?_
 rotate_left
 ·intro w hSw;(try dsimp only at hSw);go_simp<;>with_reducible rfl
 try simp only[Act.put,getElem_toArray,getElem_cons_succ,getElem_cons_zero,setIfInBounds_toArray,set_cons_zero,set_cons_succ]
 refine wpAnyH_take (i:=6) (v:=?_) rfl (by kernel_rfl) (by kernel_rfl) (by kernel_rfl) (fun _ _ _ h=>h) (Or.inl ⟨by rfl,?_⟩) (by assumption) ?_
 rotate_left
 ·intro w hSw;(try dsimp only at hSw);go_simp<;>with_reducible rfl
 try simp only[Act.put,getElem_toArray,getElem_cons_succ,getElem_cons_zero,setIfInBounds_toArray,set_cons_zero,set_cons_succ]
 refine wpAnyH_take (i:=7) (v:=?_) rfl (by kernel_rfl) (by kernel_rfl) (by kernel_rfl) (fun _ _ _ h=>h) (Or.inl ⟨by rfl,?_⟩) (by assumption) ?_
 rotate_left
 ·intro w hSw;(try dsimp only at hSw);go_simp<;>with_reducible rfl
 try simp only[Act.put,getElem_toArray,getElem_cons_succ,getElem_cons_zero,setIfInBounds_toArray,set_cons_zero,set_cons_succ]
 refine wpAnyH_take (i:=8) (v:=?_) rfl (by kernel_rfl) (by kernel_rfl) (by kernel_rfl) (fun _ _ _ h=>h) (Or.inl ⟨by rfl,?_⟩) (by assumption) ?_
 rotate_left
 ·intro w hSw;(try dsimp only at hSw);go_simp<;>with_reducible rfl
 try simp only[Act.put,getElem_toArray,getElem_cons_succ,getElem_cons_zero,setIfInBounds_toArray,set_cons_zero,set_cons_succ]
 refine wpAnyH_take (i:=9) (v:=?_) rfl (by kernel_rfl) (by kernel_rfl) (by kernel_rfl) (fun _ _ _ h=>h) (Or.inl ⟨by rfl,?_⟩) (by assumption) ?_
 rotate_left
 ·intro w hSw;(try dsimp only at hSw);go_simp<;>with_reducible rfl
 try simp only[Act.put,getElem_toArray,getElem_cons_succ,getElem_cons_zero,setIfInBounds_toArray,set_cons_zero,set_cons_succ]
 refine wpAnyH_take (i:=10) (v:=?_) rfl (by kernel_rfl) (by kernel_rfl) (by kernel_rfl) (fun _ _ _ h=>h) (Or.inl ⟨by rfl,?_⟩) (by assumption) ?_
 rotate_left
 ·intro w hSw;(try dsimp only at hSw);go_simp<;>with_reducible rfl
 try simp only[Act.put,getElem_toArray,getElem_cons_succ,getElem_cons_zero,setIfInBounds_toArray,set_cons_zero,set_cons_succ]
 refine wpAnyH_take (i:=11) (v:=?_) rfl (by kernel_rfl) (by kernel_rfl) (by kernel_rfl) (fun _ _ _ h=>h) (Or.inl ⟨by rfl,?_⟩) (by assumption) ?_
 rotate_left
 ·intro w hSw;(try dsimp only at hSw);go_simp<;>with_reducible rfl
 try simp only[Act.put,getElem_toArray,getElem_cons_succ,getElem_cons_zero,setIfInBounds_toArray,set_cons_zero,set_cons_succ]
 refine wpAnyH_take (i:=12) (v:=?_) rfl (by kernel_rfl) (by kernel_rfl) (by kernel_rfl) (fun _ _ _ h=>h) (Or.inl ⟨by rfl,?_⟩) (by assumption) ?_
 rotate_left
 ·intro w hSw;(try dsimp only at hSw);go_simp<;>with_reducible rfl
 try simp only[Act.put,getElem_toArray,getElem_cons_succ,getElem_cons_zero,setIfInBounds_toArray,set_cons_zero,set_cons_succ]
 refine wpAnyH_done (by kernel_rfl) ?_ _
 clear hHeld
 clear d
 have HX2:=hid (cells_later HX1.out HB.out)
 have HEX2:=hid (cells_later HEX1.out HB.out)
 have HB2:=hid (step HW1.out HB.out)
 clear HB HX1 HEX1 HW1 HSS CM
 obtain⟨W2,rfl⟩: ∃W2,W2=V:=⟨_,rfl⟩
 have x0:=cell_at HX2.out 0
 simp at x0
 have hk0:(0:Int)<=(KW:Int):=by omega
 have hk7:(KW:Int)<7:=by omega
 have ck:=hd_cell HEX2.out KW hKW
 obtain⟨HKB,hHKB⟩: ∃b,hb sh KW=b:=⟨_,rfl⟩
 have HHK:=hid hHKB
 rw[hHKB] at ck
 clear hHKB
 cases HKB
 case true=>
  have hRv:R=(⟨sn,1,sv,sh,sps,sb,sx,s1,s2,s3⟩,false,7):=HA.out.symm.trans (by unfold hearF;rw[if_pos rfl,if_pos ⟨HMB.out,HWL.out⟩,if_neg (fun q=>by have e:=HHK.out;unfold hb at e;rw[show(PromC.val ⟨(KW:Int),pd,pt,pq,pm,L,pa,pc⟩).who.toNat =KW from rfl] at q;rw[e] at q;cases q)])
  clear HA
  subst hRv
  go_upto_region 7 with fail
  go_quiet (fail)
  go_wp2
  go_ret2
  exact⟨rfl,_,_,HH.out.later (below_drewB HB2.out nq),Chg.of (below_drewB HB2.out nq),Nxt.refl _ _,Nxt.refl _ _⟩
 go_upto_region 7 with fail
 go_quiet (fail)
 have HB3:=hid (below_drewB HB2.out nq)
 have HX3:=hid (cells_later HX2.out (below_drewB (Below.refl _ _) nq))
 have HEX3:=hid (cells_later HEX2.out (below_drewB (Below.refl _ _) nq))
 generalize W2.drewN nq=W3 at HB3 HX3 HEX3 ⊢
 clear x0 ck HB2 HX2 HEX2
 have x0:=cell_at HX3.out 0
 simp at x0
 have ck:=hd_cell HEX3.out KW hKW
 have cf:=frozen_at HEX3.out
 have hx:=set_atB HEX3.out (3+KW) (.bool true)
 rw[mark_cells sn 1 sv sx s1 s2 s3 sh H7.out pv bv KW hKW] at hx
 have HEX4:=hid (cells_later hx (Below.refl _ _).drew)
 have hg:=grown_set1 W3 g (3+KW) (.bool true)
 have HC4:=hid (((Chg.of (S:=LS g pv bv) HB3.out).set g (3+KW) (.bool true) (.inl (.inl rfl))).below (Below.refl _ _).drew)
 have HP4:=hid ((OwnPs.far (HP.out.later HB3.out) hg HEX3.out (by decide) (by decide) (by decide)).later (Below.refl _ _).drew)
 have HQ4:=hid ((OwnB.far (HQ.out.later HB3.out) hg HEX3.out (by decide) (by decide)).later (Below.refl _ _).drew)
 have hne:w.heap.size≠g:=by have:=HLT.out;omega
 have HX4:=hid ((HeapAt.other (show HeapAt W3 w.heap.size _ from HX3.out) hne (i:=3+KW) (.bool true)).later (Below.refl _ _).drew)
 have HS4:Hid (w.heap.size<=(W3.setCell ⟨g,3+KW,none⟩ (.bool true)).drew.heap.size):=hid HC4.out.size
 have HRV4:Hid (RdV (W3.setCell ⟨g,3+KW,none⟩ (.bool true)).drew (.slice pa N pc) L):=hid (by
  have q:=HR.out.later HB3.out
  have hs:Chg (fun k=>k=g) W3 (W3.setCell ⟨g,3+KW,none⟩ (.bool true)).drew :=((Chg.refl (fun k=>k=g) W3).set g (3+KW) (.bool true) (.inl rfl)).below (Below.refl _ _).drew
  exact⟨RdX.chg q.row hs HSEP.out.1,fun x hx=>RdX.chg (q.reqs x hx) hs (HSEP.out.2 x hx)⟩)
 clear hx hg
 go_upto_region 9 with fail
 go_region
 go_upto_region 10 with fail
 generalize (W3.setCell ⟨g,3+KW,none⟩ (.bool true)).drew =W4 at HEX4 HC4 HP4 HQ4 HX4 HS4 HRV4 ⊢
 clear x0 ck cf hk0 hk7 HEX3 HX3 HB3
 obtain⟨pa1,pc1,rfl⟩:=Rw.own_form HP.out.row
 obtain⟨i6,hi6,h60,h61,h62⟩:=info_partsP infoPr
 refine wp_region_held_drew (S:=fun W=>W.cell? ⟨w.heap.size,0,none⟩=some (.int .i64 (KW:Int))/\W.cell? ⟨w.heap.size,1,none⟩=some (.int .i64 pd)/\W.cell? ⟨w.heap.size,2,none⟩=some (.int .i64 pt)/\W.cell? ⟨w.heap.size,3,none⟩=some (.int .i64 pq)/\W.cell? ⟨w.heap.size,4,none⟩=some (.int .i64 pm)/\W.cell? ⟨w.heap.size,5,none⟩=some (.slice pa N pc)) (by kernel_rfl) (by have HX:=hid (HX4.out.later (Below.refl _ _).drew);exact⟨cell_at HX.out 0,cell_at HX.out 1,cell_at HX.out 2,cell_at HX.out 3,cell_at HX.out 4,cell_at HX.out 5⟩) (fun hHeld=>?_)
 obtain⟨V,hV⟩: ∃V,V=W4.drew:=⟨_,rfl⟩
 have hb:Below W4.heap.size W4 V:=(by rw[hV];exact(Below.refl _ _).drew)
 rw[<-hV] at hHeld ⊢
 have HC:=HC4
 have HEX:=HEX4
 have HP:=HP4
 have HQ:=HQ4
 have HX:=HX4
 have HRV:=HRV4
 have HS:=HS4
 have HC:=hid (HC.out.below hb)
 have HEX:=hid (cells_later HEX.out hb)
 have HP:=hid (HP.out.later hb)
 have HQ:=hid (HQ.out.later hb)
 have HX:=hid (HX.out.later hb)
 have HRV:=hid (HRV.out.later hb)
 have HS:=hid (Nat.le_trans HS.out hb.size)
 clear hV hb HC4 HEX4 HP4 HQ4 HX4 HRV4 HS4
 refine wpAnyH_take (i:=0) (v:=?_) rfl (by kernel_rfl) (by kernel_rfl) (by kernel_rfl) (fun _ _ _ h=>h) (Or.inl ⟨by rfl,?_⟩) (by assumption) ?_
 rotate_left
 ·intro w hSw;(try dsimp only at hSw);go_simp<;>with_reducible rfl
 try simp only[Act.put,getElem_toArray,getElem_cons_succ,getElem_cons_zero,setIfInBounds_toArray,set_cons_zero,set_cons_succ]
 refine wpAnyH_take (i:=1) (v:=?_) rfl (by kernel_rfl) (by kernel_rfl) (by kernel_rfl) (fun _ _ _ h=>h) (Or.inl ⟨by rfl,?_⟩) (by assumption) ?_
 rotate_left
 ·intro w hSw;(try dsimp only at hSw);go_simp<;>with_reducible rfl
 try simp only[Act.put,getElem_toArray,getElem_cons_succ,getElem_cons_zero,setIfInBounds_toArray,set_cons_zero,set_cons_succ]
 refine wpAnyH_take (i:=2) (v:=?_) rfl (by kernel_rfl) (by kernel_rfl) (by kernel_rfl) (fun _ _ _ h=>h) (Or.inl ⟨by rfl,?_⟩) (by assumption) ?_
 rotate_left
 ·intro w hSw;(try dsimp only at hSw);go_simp<;>with_reducible rfl
 try simp only[Act.put,getElem_toArray,getElem_cons_succ,getElem_cons_zero,setIfInBounds_toArray,set_cons_zero,set_cons_succ]
 refine wpAnyH_take (i:=3) (v:=?_) rfl (by kernel_rfl) (by kernel_rfl) (by kernel_rfl) (fun _ _ _ h=>h) (Or.inl ⟨by rfl,?_⟩) (by assumption) ?_
 rotate_left
 ·intro w hSw;(try dsimp only at hSw);go_simp<;>with_reducible rfl
 try simp only[Act.put,getElem_toArray,getElem_cons_succ,getElem_cons_zero,setIfInBounds_toArray,set_cons_zero,set_cons_succ]
 refine wpAnyH_take (i:=5) (v:=?_) rfl (by kernel_rfl) (by kernel_rfl) (by kernel_rfl) (fun _ _ _ h=>h) (Or.inl ⟨by rfl,?_⟩) (by assumption) ?_
 rotate_left
 ·intro w hSw;(try dsimp only at hSw);go_simp<;>with_reducible rfl
 try simp only[Act.put,getElem_toArray,getElem_cons_succ,getElem_cons_zero,setIfInBounds_toArray,set_cons_zero,set_cons_succ]
 refine wpAnyH_ready (rs:= [4,6]) (by kernel_rfl) (by simp) ?_
 refine AllReadyH.cons rfl (fun K hK=>?_) (AllReadyH.cons rfl (fun K hK=>?_) AllReadyH.nil)
 have kl:=cell_at HEX.out 10
 simp only[List.getElem?_toArray,List.getElem?_cons_zero,List.getElem?_cons_succ] at kl
 go_simp
 clear kl
 refine hK.out _ _ (⟨cell_at HX.out 0,cell_at HX.out 1,cell_at HX.out 2,cell_at HX.out 3,cell_at HX.out 4,cell_at HX.out 5⟩) (fun hHeld=>?_)
 clear hK K
 try simp only[Act.put,getElem_toArray,getElem_cons_succ,getElem_cons_zero,setIfInBounds_toArray,set_cons_zero,set_cons_succ]
 refine wpAnyH_ready (rs:= [6]) (by kernel_rfl) (by simp) ?_
 refine AllReadyH.cons rfl (fun K hK=>?_) AllReadyH.nil
 go_simp
 go_at_call 39
 have CC:=LCopyP_any ⟨(KW:Int),pd,pt,pq,pm,L,pa,pc⟩ V (by unfold PromC.u;dsimp only;rw[HN.out];exact HRV.out) (by have:=HV9.out.1;dsimp only;rw[HN.out];omega) HV9.out.2
 unfold promVal PromC.u at CC
 dsimp only at CC
 rw[HN.out] at CC
 refine CC.mono ?_
 clear CC
 rintro e V' ⟨⟨yw,yd,yt,yq,ym,yl,ya,yc⟩,rfl,hyb,hyo,hb⟩
 unfold promVal PromC.u
 dsimp only
 have HYB:=hid hyb
 have HYO:=hid (show OwnV m V' (.slice ya yl.length yc) yl from hyo.lower (by have:=HGM.out;have:=get_ltB HEX.out;omega))
 have HC:=hid (HC.out.below hb)
 have HEX:=hid (cells_later HEX.out hb)
 have HP:=hid (HP.out.later hb)
 have HQ:=hid (HQ.out.later hb)
 have HX:=hid (HX.out.later hb)
 have HRV:=hid (HRV.out.later hb)
 have HS:=hid (Nat.le_trans HS.out hb.size)
 clear hyb hyo hb
 obtain⟨V,rfl⟩: ∃V,V=V':=⟨_,rfl⟩
 clear HRV
 refine hK.out _ _ (⟨cell_at HX.out 0,cell_at HX.out 1,cell_at HX.out 2,cell_at HX.out 3,cell_at HX.out 4,cell_at HX.out 5⟩) (fun hHeld=>?_)
 clear hK K
 try simp only[Act.put,getElem_toArray,getElem_cons_succ,getElem_cons_zero,setIfInBounds_toArray,set_cons_zero,set_cons_succ]
 refine wpAnyH_ready (rs:= [7]) (by kernel_rfl) (by simp) ?_
 refine AllReadyH.cons rfl (fun K hK=>?_) AllReadyH.nil
 go_simp
 obtain⟨V',hV'⟩: ∃V',V'=V.alloc (.cells #[.int .i64 yw,.int .i64 yd,.int .i64 yt,.int .i64 yq,.int .i64 ym,.slice ya yl.length yc] 59):=⟨_,rfl⟩
 have hb:Below V.heap.size V V':=(by rw[hV'];exact newAlloc _ _)
 have HNB:Hid (HeapAt V' V.heap.size (.cells #[.int .i64 yw,.int .i64 yd,.int .i64 yt,.int .i64 yq,.int .i64 ym,.slice ya yl.length yc] 59)):=hid (by rw[hV'];exact alloc_atB _ _ _ rfl)
 rw[<-hV']
 have HC:=hid (HC.out.below hb)
 have HEX:=hid (cells_later HEX.out hb)
 have HP:=hid (HP.out.later hb)
 have HQ:=hid (HQ.out.later hb)
 have HX:=hid (HX.out.later hb)
 have HS:=hid (Nat.le_trans HS.out hb.size)
 have HYO:=hid (HYO.out.later hb)
 clear hV' hb
 generalize V.heap.size=n5 at HNB ⊢
 obtain⟨V,rfl⟩: ∃V,V=V':=⟨_,rfl⟩
 refine hK.out _ _ (⟨cell_at HX.out 0,cell_at HX.out 1,cell_at HX.out 2,cell_at HX.out 3,cell_at HX.out 4,cell_at HX.out 5⟩) (fun hHeld=>?_)
 clear hK K
 try simp only[Act.put,getElem_toArray,getElem_cons_succ,getElem_cons_zero,setIfInBounds_toArray,set_cons_zero,set_cons_succ]
 refine wpAnyH_ready (rs:= [8]) (by kernel_rfl) (by simp) ?_
 refine AllReadyH.cons rfl (fun K hK=>?_) AllReadyH.nil
 refine step_append_at (by rfl) _ _ _ (by rfl) m 59 i6 _ 6 64 Try.underlying77 hi6 h60 h61 h62 rfl (by omega) (.slice pa1 P.length pc1) P.length (flatX cellsP P) (by rfl) HP.out.row ⟨n5,0,none⟩ 1 1 (cellsP (⟨yw,yd,yt,yq,ym,yl,ya,yc⟩:PromC)) (by rfl) rfl (World.news_of_block (cs:=#[.int .i64 yw,.int .i64 yd,.int .i64 yt,.int .i64 yq,.int .i64 ym,.slice ya yl.length yc]) (t:=59) (fr:=(0,0)) HNB.out) (cellsP_one (⟨yw,yd,yt,yq,ym,yl,ya,yc⟩:PromC)) (by unfold maxLen;have:=HFW.out;omega) (by have:=HFW.out;omega) (by have:=HGM.out;have:=get_ltB HEX.out;omega) ?_
 intro v' V' hown hgrow hat
 have hsz:=HC.out.size
 have HC':=hid (HC.out.grown hgrow (fun i q=>.inl (.inr (.inl q))))
 have HEX':Hid (V'.heap[g]?= _):=hid ((hgrow.block g (get_ltB HEX.out) (fun q=>ho_ne HP.out.row HEX.out (by decide) q.symm)).trans HEX.out)
 have HQ':=hid (OwnB.grP HQ.out HP.out.row hgrow)
 have HX':Hid (HeapAt V' w.heap.size _):=hid ((hgrow.block w.heap.size (get_ltB HX.out) (fun q=>by have:=HPLT.out _ q.symm;omega)).trans HX.out)
 have HP':Hid (OwnPs m V' v' (P++ [(⟨yw,yd,yt,yq,ym,yl,ya,yc⟩:PromC)])):=hid (OwnPs.push HP.out HYO.out hgrow (by rw[List.length_append,flatX_snoc];exact hown))
 have HNX:Hid (Nxt (.slice pa1 P.length pc1) v' w.heap.size):=hid (Nxt.step hat hsz)
 have HC:=HC'
 have HEX:=HEX'
 have HQ:=HQ'
 have HX:=HX'
 have HP:=HP'
 obtain⟨va,vb,rfl⟩:=Rw.own_form HP.out.row
 clear hat hsz hown hgrow HNB HYO HEX' HQ' HC' HX' HP'
 rw[List.length_append,List.length_singleton] at HP HNX ⊢
 obtain⟨V,rfl⟩: ∃V,V=V':=⟨_,rfl⟩
 refine hK.out _ _ (⟨cell_at HX.out 0,cell_at HX.out 1,cell_at HX.out 2,cell_at HX.out 3,cell_at HX.out 4,cell_at HX.out 5⟩) (fun hHeld=>?_)
 clear hK K
 try simp only[Act.put,getElem_toArray,getElem_cons_succ,getElem_cons_zero,setIfInBounds_toArray,set_cons_zero,set_cons_succ]
 refine wpAnyH_take (i:=9) (v:=?_) rfl (by kernel_rfl) (by kernel_rfl) (by kernel_rfl) (fun _ _ _ h=>h) (Or.inl ⟨by rfl,?_⟩) (by assumption) ?_
 rotate_left
 ·intro w hSw;(try dsimp only at hSw);go_simp<;>with_reducible rfl
 try simp only[Act.put,getElem_toArray,getElem_cons_succ,getElem_cons_zero,setIfInBounds_toArray,set_cons_zero,set_cons_succ]
 refine wpAnyH_take (i:=10) (v:=?_) rfl (by kernel_rfl) (by kernel_rfl) (by kernel_rfl) (fun _ _ _ h=>h) (Or.inl ⟨by rfl,?_⟩) (by assumption) ?_
 rotate_left
 ·intro w hSw;(try dsimp only at hSw);go_simp<;>with_reducible rfl
 try simp only[Act.put,getElem_toArray,getElem_cons_succ,getElem_cons_zero,setIfInBounds_toArray,set_cons_zero,set_cons_succ]
 refine wpAnyH_ready (rs:= [11]) (by kernel_rfl) (by simp) ?_
 refine AllReadyH.cons rfl (fun K hK=>?_) AllReadyH.nil
 have kl:=cell_at HEX.out 10
 simp only[List.getElem?_toArray,List.getElem?_cons_zero,List.getElem?_cons_succ] at kl
 have kf:=frozen_at HEX.out
 go_simp
 clear kl kf
 have hg:=grown_set1 V g 10 (.slice va (P.length+1) vb)
 have HC:=hid (HC.out.set g 10 (.slice va (P.length+1) vb) (.inl (.inl rfl)))
 have HP:=hid (OwnPs.far HP.out hg HEX.out (by decide) (by decide) (by decide))
 have HQ:=hid (OwnB.far HQ.out hg HEX.out (by decide) (by decide))
 have HX:=hid (HeapAt.other HX.out hne (i:=10) (.slice va (P.length+1) vb))
 have hx:=set_atB HEX.out 10 (.slice va (P.length+1) vb)
 simp only[setIfInBounds_toArray,set_cons_zero,set_cons_succ] at hx
 have HEX:=hid hx
 clear hx hg
 refine hK.out _ _ (⟨cell_at HX.out 0,cell_at HX.out 1,cell_at HX.out 2,cell_at HX.out 3,cell_at HX.out 4,cell_at HX.out 5⟩) (fun hHeld=>?_)
 clear hK K
 try simp only[Act.put,getElem_toArray,getElem_cons_succ,getElem_cons_zero,setIfInBounds_toArray,set_cons_zero,set_cons_succ]
 rotate_left
 go_simp
 go_at_call 39
 have CC:=LCopyP_any ⟨(KW:Int),pd,pt,pq,pm,L,pa,pc⟩ V (by unfold PromC.u;dsimp only;rw[HN.out];exact HRV.out) (by have:=HV9.out.1;dsimp only;rw[HN.out];omega) HV9.out.2
 unfold promVal PromC.u at CC
 dsimp only at CC
 rw[HN.out] at CC
 refine CC.mono ?_
 clear CC
 rintro e V' ⟨⟨yw,yd,yt,yq,ym,yl,ya,yc⟩,rfl,hyb,hyo,hb⟩
 unfold promVal PromC.u
 dsimp only
 have HYB:=hid hyb
 have HYO:=hid (show OwnV m V' (.slice ya yl.length yc) yl from hyo.lower (by have:=HGM.out;have:=get_ltB HEX.out;omega))
 have HC:=hid (HC.out.below hb)
 have HEX:=hid (cells_later HEX.out hb)
 have HP:=hid (HP.out.later hb)
 have HQ:=hid (HQ.out.later hb)
 have HX:=hid (HX.out.later hb)
 have HRV:=hid (HRV.out.later hb)
 have HS:=hid (Nat.le_trans HS.out hb.size)
 clear hyb hyo hb
 obtain⟨V,rfl⟩: ∃V,V=V':=⟨_,rfl⟩
 clear HRV
 refine hK.out _ _ (⟨cell_at HX.out 0,cell_at HX.out 1,cell_at HX.out 2,cell_at HX.out 3,cell_at HX.out 4,cell_at HX.out 5⟩) (fun hHeld=>?_)
 clear hK K
 try simp only[Act.put,getElem_toArray,getElem_cons_succ,getElem_cons_zero,setIfInBounds_toArray,set_cons_zero,set_cons_succ]
 refine wpAnyH_ready (rs:= [4,7]) (by kernel_rfl) (by simp) ?_
 refine AllReadyH.cons rfl (fun K hK=>?_) (AllReadyH.cons rfl (fun K hK=>?_) AllReadyH.nil)
 have kl:=cell_at HEX.out 10
 simp only[List.getElem?_toArray,List.getElem?_cons_zero,List.getElem?_cons_succ] at kl
 go_simp
 clear kl
 refine hK.out _ _ (⟨cell_at HX.out 0,cell_at HX.out 1,cell_at HX.out 2,cell_at HX.out 3,cell_at HX.out 4,cell_at HX.out 5⟩) (fun hHeld=>?_)
 clear hK K
 try simp only[Act.put,getElem_toArray,getElem_cons_succ,getElem_cons_zero,setIfInBounds_toArray,set_cons_zero,set_cons_succ]
 refine wpAnyH_ready (rs:= [7]) (by kernel_rfl) (by simp) ?_
 refine AllReadyH.cons rfl (fun K hK=>?_) AllReadyH.nil
 go_simp
 obtain⟨V',hV'⟩: ∃V',V'=V.alloc (.cells #[.int .i64 yw,.int .i64 yd,.int .i64 yt,.int .i64 yq,.int .i64 ym,.slice ya yl.length yc] 59):=⟨_,rfl⟩
 have hb:Below V.heap.size V V':=(by rw[hV'];exact newAlloc _ _)
 have HNB:Hid (HeapAt V' V.heap.size (.cells #[.int .i64 yw,.int .i64 yd,.int .i64 yt,.int .i64 yq,.int .i64 ym,.slice ya yl.length yc] 59)):=hid (by rw[hV'];exact alloc_atB _ _ _ rfl)
 rw[<-hV']
 have HC:=hid (HC.out.below hb)
 have HEX:=hid (cells_later HEX.out hb)
 have HP:=hid (HP.out.later hb)
 have HQ:=hid (HQ.out.later hb)
 have HX:=hid (HX.out.later hb)
 have HS:=hid (Nat.le_trans HS.out hb.size)
 have HYO:=hid (HYO.out.later hb)
 clear hV' hb
 generalize V.heap.size=n5 at HNB ⊢
 obtain⟨V,rfl⟩: ∃V,V=V':=⟨_,rfl⟩
 refine hK.out _ _ (⟨cell_at HX.out 0,cell_at HX.out 1,cell_at HX.out 2,cell_at HX.out 3,cell_at HX.out 4,cell_at HX.out 5⟩) (fun hHeld=>?_)
 clear hK K
 try simp only[Act.put,getElem_toArray,getElem_cons_succ,getElem_cons_zero,setIfInBounds_toArray,set_cons_zero,set_cons_succ]
 refine wpAnyH_ready (rs:= [8]) (by kernel_rfl) (by simp) ?_
 refine AllReadyH.cons rfl (fun K hK=>?_) AllReadyH.nil
 refine step_append_at (by rfl) _ _ _ (by rfl) m 59 i6 _ 6 64 Try.underlying77 hi6 h60 h61 h62 rfl (by omega) (.slice pa1 P.length pc1) P.length (flatX cellsP P) (by rfl) HP.out.row ⟨n5,0,none⟩ 1 1 (cellsP (⟨yw,yd,yt,yq,ym,yl,ya,yc⟩:PromC)) (by rfl) rfl (World.news_of_block (cs:=#[.int .i64 yw,.int .i64 yd,.int .i64 yt,.int .i64 yq,.int .i64 ym,.slice ya yl.length yc]) (t:=59) (fr:=(0,0)) HNB.out) (cellsP_one (⟨yw,yd,yt,yq,ym,yl,ya,yc⟩:PromC)) (by unfold maxLen;have:=HFW.out;omega) (by have:=HFW.out;omega) (by have:=HGM.out;have:=get_ltB HEX.out;omega) ?_
 intro v' V' hown hgrow hat
 have hsz:=HC.out.size
 have HC':=hid (HC.out.grown hgrow (fun i q=>.inl (.inr (.inl q))))
 have HEX':Hid (V'.heap[g]?= _):=hid ((hgrow.block g (get_ltB HEX.out) (fun q=>ho_ne HP.out.row HEX.out (by decide) q.symm)).trans HEX.out)
 have HQ':=hid (OwnB.grP HQ.out HP.out.row hgrow)
 have HX':Hid (HeapAt V' w.heap.size _):=hid ((hgrow.block w.heap.size (get_ltB HX.out) (fun q=>by have:=HPLT.out _ q.symm;omega)).trans HX.out)
 have HP':Hid (OwnPs m V' v' (P++ [(⟨yw,yd,yt,yq,ym,yl,ya,yc⟩:PromC)])):=hid (OwnPs.push HP.out HYO.out hgrow (by rw[List.length_append,flatX_snoc];exact hown))
 have HNX:Hid (Nxt (.slice pa1 P.length pc1) v' w.heap.size):=hid (Nxt.step hat hsz)
 have HC:=HC'
 have HEX:=HEX'
 have HQ:=HQ'
 have HX:=HX'
 have HP:=HP'
 obtain⟨va,vb,rfl⟩:=Rw.own_form HP.out.row
 clear hat hsz hown hgrow HNB HYO HEX' HQ' HC' HX' HP'
 rw[List.length_append,List.length_singleton] at HP HNX ⊢
 obtain⟨V,rfl⟩: ∃V,V=V':=⟨_,rfl⟩
 refine hK.out _ _ (⟨cell_at HX.out 0,cell_at HX.out 1,cell_at HX.out 2,cell_at HX.out 3,cell_at HX.out 4,cell_at HX.out 5⟩) (fun hHeld=>?_)
 clear hK K
 try simp only[Act.put,getElem_toArray,getElem_cons_succ,getElem_cons_zero,setIfInBounds_toArray,set_cons_zero,set_cons_succ]
 refine wpAnyH_take (i:=9) (v:=?_) rfl (by kernel_rfl) (by kernel_rfl) (by kernel_rfl) (fun _ _ _ h=>h) (Or.inl ⟨by rfl,?_⟩) (by assumption) ?_
 rotate_left
 ·intro w hSw;(try dsimp only at hSw);go_simp<;>with_reducible rfl
 try simp only[Act.put,getElem_toArray,getElem_cons_succ,getElem_cons_zero,setIfInBounds_toArray,set_cons_zero,set_cons_succ]
 refine wpAnyH_take (i:=10) (v:=?_) rfl (by kernel_rfl) (by kernel_rfl) (by kernel_rfl) (fun _ _ _ h=>h) (Or.inl ⟨by rfl,?_⟩) (by assumption) ?_
 rotate_left
 ·intro w hSw;(try dsimp only at hSw);go_simp<;>with_reducible rfl
 try simp only[Act.put,getElem_toArray,getElem_cons_succ,getElem_cons_zero,setIfInBounds_toArray,set_cons_zero,set_cons_succ]
 refine wpAnyH_ready (rs:= [11]) (by kernel_rfl) (by simp) ?_
 refine AllReadyH.cons rfl (fun K hK=>?_) AllReadyH.nil
 have kl:=cell_at HEX.out 10
 simp only[List.getElem?_toArray,List.getElem?_cons_zero,List.getElem?_cons_succ] at kl
 have kf:=frozen_at HEX.out
 go_simp
 clear kl kf
 have hg:=grown_set1 V g 10 (.slice va (P.length+1) vb)
 have HC:=hid (HC.out.set g 10 (.slice va (P.length+1) vb) (.inl (.inl rfl)))
 have HP:=hid (OwnPs.far HP.out hg HEX.out (by decide) (by decide) (by decide))
 have HQ:=hid (OwnB.far HQ.out hg HEX.out (by decide) (by decide))
 have HX:=hid (HeapAt.other HX.out hne (i:=10) (.slice va (P.length+1) vb))
 have hx:=set_atB HEX.out 10 (.slice va (P.length+1) vb)
 simp only[setIfInBounds_toArray,set_cons_zero,set_cons_succ] at hx
 have HEX:=hid hx
 clear hx hg
 refine hK.out _ _ (⟨cell_at HX.out 0,cell_at HX.out 1,cell_at HX.out 2,cell_at HX.out 3,cell_at HX.out 4,cell_at HX.out 5⟩) (fun hHeld=>?_)
 clear hK K
 try simp only[Act.put,getElem_toArray,getElem_cons_succ,getElem_cons_zero,setIfInBounds_toArray,set_cons_zero,set_cons_succ]
 rotate_left
 go_simp
 obtain⟨V',hV'⟩: ∃V',V'=V.alloc (.cells #[.int .i64 yw,.int .i64 yd,.int .i64 yt,.int .i64 yq,.int .i64 ym,.slice ya yl.length yc] 59):=⟨_,rfl⟩
 have hb:Below V.heap.size V V':=(by rw[hV'];exact newAlloc _ _)
 have HNB:Hid (HeapAt V' V.heap.size (.cells #[.int .i64 yw,.int .i64 yd,.int .i64 yt,.int .i64 yq,.int .i64 ym,.slice ya yl.length yc] 59)):=hid (by rw[hV'];exact alloc_atB _ _ _ rfl)
 rw[<-hV']
 have HC:=hid (HC.out.below hb)
 have HEX:=hid (cells_later HEX.out hb)
 have HP:=hid (HP.out.later hb)
 have HQ:=hid (HQ.out.later hb)
 have HX:=hid (HX.out.later hb)
 have HS:=hid (Nat.le_trans HS.out hb.size)
 have HYO:=hid (HYO.out.later hb)
 clear hV' hb
 generalize V.heap.size=n5 at HNB ⊢
 obtain⟨V,rfl⟩: ∃V,V=V':=⟨_,rfl⟩
 refine hK.out _ _ (⟨cell_at HX.out 0,cell_at HX.out 1,cell_at HX.out 2,cell_at HX.out 3,cell_at HX.out 4,cell_at HX.out 5⟩) (fun hHeld=>?_)
 clear hK K
 try simp only[Act.put,getElem_toArray,getElem_cons_succ,getElem_cons_zero,setIfInBounds_toArray,set_cons_zero,set_cons_succ]
 refine wpAnyH_ready (rs:= [4]) (by kernel_rfl) (by simp) ?_
 refine AllReadyH.cons rfl (fun K hK=>?_) AllReadyH.nil
 have kl:=cell_at HEX.out 10
 simp only[List.getElem?_toArray,List.getElem?_cons_zero,List.getElem?_cons_succ] at kl
 go_simp
 clear kl
 refine hK.out _ _ (⟨cell_at HX.out 0,cell_at HX.out 1,cell_at HX.out 2,cell_at HX.out 3,cell_at HX.out 4,cell_at HX.out 5⟩) (fun hHeld=>?_)
 clear hK K
 try simp only[Act.put,getElem_toArray,getElem_cons_succ,getElem_cons_zero,setIfInBounds_toArray,set_cons_zero,set_cons_succ]
 refine wpAnyH_ready (rs:= [8]) (by kernel_rfl) (by simp) ?_
 refine AllReadyH.cons rfl (fun K hK=>?_) AllReadyH.nil
 refine step_append_at (by rfl) _ _ _ (by rfl) m 59 i6 _ 6 64 Try.underlying77 hi6 h60 h61 h62 rfl (by omega) (.slice pa1 P.length pc1) P.length (flatX cellsP P) (by rfl) HP.out.row ⟨n5,0,none⟩ 1 1 (cellsP (⟨yw,yd,yt,yq,ym,yl,ya,yc⟩:PromC)) (by rfl) rfl (World.news_of_block (cs:=#[.int .i64 yw,.int .i64 yd,.int .i64 yt,.int .i64 yq,.int .i64 ym,.slice ya yl.length yc]) (t:=59) (fr:=(0,0)) HNB.out) (cellsP_one (⟨yw,yd,yt,yq,ym,yl,ya,yc⟩:PromC)) (by unfold maxLen;have:=HFW.out;omega) (by have:=HFW.out;omega) (by have:=HGM.out;have:=get_ltB HEX.out;omega) ?_
 intro v' V' hown hgrow hat
 have hsz:=HC.out.size
 have HC':=hid (HC.out.grown hgrow (fun i q=>.inl (.inr (.inl q))))
 have HEX':Hid (V'.heap[g]?= _):=hid ((hgrow.block g (get_ltB HEX.out) (fun q=>ho_ne HP.out.row HEX.out (by decide) q.symm)).trans HEX.out)
 have HQ':=hid (OwnB.grP HQ.out HP.out.row hgrow)
 have HX':Hid (HeapAt V' w.heap.size _):=hid ((hgrow.block w.heap.size (get_ltB HX.out) (fun q=>by have:=HPLT.out _ q.symm;omega)).trans HX.out)
 have HP':Hid (OwnPs m V' v' (P++ [(⟨yw,yd,yt,yq,ym,yl,ya,yc⟩:PromC)])):=hid (OwnPs.push HP.out HYO.out hgrow (by rw[List.length_append,flatX_snoc];exact hown))
 have HNX:Hid (Nxt (.slice pa1 P.length pc1) v' w.heap.size):=hid (Nxt.step hat hsz)
 have HC:=HC'
 have HEX:=HEX'
 have HQ:=HQ'
 have HX:=HX'
 have HP:=HP'
 obtain⟨va,vb,rfl⟩:=Rw.own_form HP.out.row
 clear hat hsz hown hgrow HNB HYO HEX' HQ' HC' HX' HP'
 rw[List.length_append,List.length_singleton] at HP HNX ⊢
 obtain⟨V,rfl⟩: ∃V,V=V':=⟨_,rfl⟩
 refine hK.out _ _ (⟨cell_at HX.out 0,cell_at HX.out 1,cell_at HX.out 2,cell_at HX.out 3,cell_at HX.out 4,cell_at HX.out 5⟩) (fun hHeld=>?_)
 clear hK K
 try simp only[Act.put,getElem_toArray,getElem_cons_succ,getElem_cons_zero,setIfInBounds_toArray,set_cons_zero,set_cons_succ]
 refine wpAnyH_take (i:=9) (v:=?_) rfl (by kernel_rfl) (by kernel_rfl) (by kernel_rfl) (fun _ _ _ h=>h) (Or.inl ⟨by rfl,?_⟩) (by assumption) ?_
 rotate_left
 ·intro w hSw;(try dsimp only at hSw);go_simp<;>with_reducible rfl
 try simp only[Act.put,getElem_toArray,getElem_cons_succ,getElem_cons_zero,setIfInBounds_toArray,set_cons_zero,set_cons_succ]
 refine wpAnyH_take (i:=10) (v:=?_) rfl (by kernel_rfl) (by kernel_rfl) (by kernel_rfl) (fun _ _ _ h=>h) (Or.inl ⟨by rfl,?_⟩) (by assumption) ?_
 rotate_left
 ·intro w hSw;(try dsimp only at hSw);go_simp<;>with_reducible rfl
 try simp only[Act.put,getElem_toArray,getElem_cons_succ,getElem_cons_zero,setIfInBounds_toArray,set_cons_zero,set_cons_succ]
 refine wpAnyH_ready (rs:= [11]) (by kernel_rfl) (by simp) ?_
 refine AllReadyH.cons rfl (fun K hK=>?_) AllReadyH.nil
 have kl:=cell_at HEX.out 10
 simp only[List.getElem?_toArray,List.getElem?_cons_zero,List.getElem?_cons_succ] at kl
 have kf:=frozen_at HEX.out
 go_simp
 clear kl kf
 have hg:=grown_set1 V g 10 (.slice va (P.length+1) vb)
 have HC:=hid (HC.out.set g 10 (.slice va (P.length+1) vb) (.inl (.inl rfl)))
 have HP:=hid (OwnPs.far HP.out hg HEX.out (by decide) (by decide) (by decide))
 have HQ:=hid (OwnB.far HQ.out hg HEX.out (by decide) (by decide))
 have HX:=hid (HeapAt.other HX.out hne (i:=10) (.slice va (P.length+1) vb))
 have hx:=set_atB HEX.out 10 (.slice va (P.length+1) vb)
 simp only[setIfInBounds_toArray,set_cons_zero,set_cons_succ] at hx
 have HEX:=hid hx
 clear hx hg
 refine hK.out _ _ (⟨cell_at HX.out 0,cell_at HX.out 1,cell_at HX.out 2,cell_at HX.out 3,cell_at HX.out 4,cell_at HX.out 5⟩) (fun hHeld=>?_)
 clear hK K
 try simp only[Act.put,getElem_toArray,getElem_cons_succ,getElem_cons_zero,setIfInBounds_toArray,set_cons_zero,set_cons_succ]
 rotate_left
 all_goals
  refine wpAnyH_done (by kernel_rfl) ?_ _
  clear hHeld HX
  generalize V.setCell ⟨g,10,none⟩ (.slice va (P.length+1) vb)=V5 at HC HP HQ HEX ⊢
  have HH5:Hid (HasL V5 g m (markF ⟨sn,1,sv,sh,sps,sb,sx,s1,s2,s3⟩ (PromC.val ⟨(KW:Int),pd,pt,pq,pm,L,pa,pc⟩)) (.slice va (P.length+1) vb) bv):=hid ⟨HEX.out,⟨P++ [(⟨yw,yd,yt,yq,ym,yl,ya,yc⟩:PromC)],by rw[valsP_snoc,HEP.out,HYB.out];rfl,HP.out⟩,⟨B,HEB.out,HQ.out⟩,HGM.out⟩
  have HPL:Hid (sps.length+1=P.length+1):=hid (by rw[<-HEP.out,valsP_length])
  clear HEX HP HQ
  generalize P.length+1=PL at HH5 HNX HPL ⊢
  have c0:=HH5.out.c0
  have c10:=HH5.out.c10
  rw[show(markF ⟨sn,1,sv,sh,sps,sb,sx,s1,s2,s3⟩ (PromC.val ⟨(KW:Int),pd,pt,pq,pm,L,pa,pc⟩)).n =sn from rfl] at c0
  have CQ:=hid (fun W=>Quorum_any sn W)
  have HMK:Hid (MakeOk (sps++ [(PromC.val ⟨(KW:Int),pd,pt,pq,pm,L,pa,pc⟩)])):=hid (make_ok (okS_snoc HOK.out HMB.out (fun q hq e=>by have h1:=HLO.out q hq;rw[e,show(PromC.val ⟨(KW:Int),pd,pt,pq,pm,L,pa,pc⟩).who.toNat =KW from rfl,HHK.out] at h1;cases h1)) (by rw[List.length_append,List.length_singleton];omega))
  have HQL:=hid (quorum_le sn)
  obtain⟨QF,hQF⟩: ∃QF,quorumF sn=QF:=⟨_,rfl⟩
  rw[hQF] at CQ HQL
  have HQF:=hid hQF
  clear hQF
  go_upto_region 11 with fail
  by_cases hlt:(PL:Int)<QF
  case' pos=>have d:decide ((PL:Int)<QF)=true:=decide_eq_true hlt
  case' neg=>have d:decide ((PL:Int)<QF)=false:=decide_eq_false hlt
  all_goals
   have HLTQ:=hid hlt
   clear hlt
   go_quiet ((go_at_call 37;exact quiet_eqL (CQ.out _)))
   have HH6:=hid (HH5.out.later (below_drewB (Below.refl _ _) nq))
   have HC6:=hid (HC.out.below (below_drewB (Below.refl _ _) nq))
   generalize V5.drewN nq=V6 at HH6 HC6 ⊢
   clear c0 c10 HH5 HC CQ
  case pos=>
   have hq:((sps.length+1:Nat):Int)<quorumF sn:=(by rw[HPL.out,HQF.out];exact HLTQ.out)
   have hRv:R=((markF ⟨sn,1,sv,sh,sps,sb,sx,s1,s2,s3⟩ (PromC.val ⟨(KW:Int),pd,pt,pq,pm,L,pa,pc⟩)),false,0):=HA.out.symm.trans (hear_few rfl HMB.out HWL.out HHK.out hq)
   clear HA
   subst hRv
   go_wp2
   go_ret2
   exact⟨rfl,_,_,HH6.out,HC6.out,HNX.out,Nxt.refl _ _⟩
  case neg=>
   have hq: ¬((sps.length+1:Nat):Int)<quorumF sn:=(by rw[HPL.out,HQF.out];exact HLTQ.out)
   have hRv:R=(takeF (markF ⟨sn,1,sv,sh,sps,sb,sx,s1,s2,s3⟩ (PromC.val ⟨(KW:Int),pd,pt,pq,pm,L,pa,pc⟩)),true,0):=HA.out.symm.trans (hear_take rfl HMB.out HWL.out HHK.out hq)
   clear HA
   subst hRv
   have CT:=hid (LTake_any g m (markF ⟨sn,1,sv,sh,sps,sb,sx,s1,s2,s3⟩ (PromC.val ⟨(KW:Int),pd,pt,pq,pm,L,pa,pc⟩)) (.slice va PL vb) bv V6 HH6.out (by show(sps++ [_]).length <=7;rw[List.length_append,List.length_singleton];have:=HFW.out;have:=HPL.out;have:=congrArg List.length HEP.out;rw[valsP_length] at this;omega) HMK.out.d0 HMK.out.d1 HMK.out.l9)
   go_wp2_with (go_at_call 40;refine CT.out.mono ?_;rintro e w5 ⟨rfl,hdid⟩;have HDID:=hid hdid;clear hdid)
   go_ret2
   exact⟨rfl,DidL.from_ HC6.out HNX.out (Nxt.refl _ _) HDID.out⟩
end Ld
end Go.Proofs.Ytbpmfjjbfiiiaaa
