/- Texts laid together by program. -/
import Derived.Test.YtheenjkmglmihaaQT4
/- The statements' Promises of layer 16: promises by numbers. -/
set_option linter.unusedVariables false
set_option maxRecDepth 8000
set_option linter.unusedSimpArgs false
namespace Go.Proofs.Ytheenjkmglmihaa
open Lib (hid)
open List (getElem_toArray getElem_cons_succ getElem_cons_zero setIfInBounds_toArray set_cons_zero set_cons_succ)
open Go.RowKit
namespace Pl
open Cm Ac

def zeroT:ToldV:=⟨0,0,0,0,[]⟩
def promsK (l:List ToldV):Nat->List PromV
 | 0=> []
 | k+1=>promsK l k++ [promN (k:Int) (l.getD k zeroT)]
def promsN (l:List ToldV):List PromV:=promsK l (min l.length 7)
structure ToldC where
 done:Int
 view:Int
 slot:Int
 time:Int
 votes:List VtC
 va:Option Addr
 vc:Nat
def ToldC.u (x:ToldC):Value:=.slice x.va x.votes.length x.vc
def ToldC.val (x:ToldC):ToldV:=⟨x.done,x.view,x.slot,x.time,valsN x.votes⟩
def cellsD (x:ToldC):List Value:= [.int .u8 x.done,.int .u8 x.view,.int .u8 x.slot,.int .u8 x.time,x.u]
theorem cellsD_length (x:ToldC):(cellsD x).length =5:=rfl
structure ToldOk (W:World) (x:ToldC):Prop where
 d:0<=x.done/\x.done<256
 v:0<=x.view/\x.view<256
 s:0<=x.slot/\x.slot<256
 t:0<=x.time/\x.time<256
 rd:RdT W x.u x.votes
structure RdD (W:World) (v:Value) (L:List ToldC):Prop where
 row:RdX 5 cellsD W v L
 ok: ∀x∈L,ToldOk W x
def valsD (L:List ToldC):List ToldV:=L.map ToldC.val
theorem valsD_length (L:List ToldC):(valsD L).length =L.length:=by simp [valsD]
theorem valsD_getD (L:List ToldC) (i:Nat) (h:i<L.length):(valsD L).getD i zeroT=L[i].val :=by
 have h':i<(valsD L).length :=by rw[valsD_length];exact h
 rw[List.getD_eq_getElem?_getD,List.getElem?_eq_getElem h',Option.getD_some]
 simp [valsD]
theorem rdd_at {w:World} {a:Option Addr} {n cap:Nat} {L:List ToldC} (h:RdX 5 cellsD w (.slice a n cap) L) (i:Nat) (hi:i<L.length):
  ∃b o,a=some ⟨b,o,none⟩/\ ∀w':World,Below w.heap.size w w'->w'.cell? ⟨b,o+i*5,none⟩=some (.int .u8 L[i].done)/\w'.cell? ⟨b,o+i*5+1,none⟩=some (.int .u8 L[i].view)/\w'.cell? ⟨b,o+i*5+2,none⟩=some (.int .u8 L[i].slot)/\w'.cell? ⟨b,o+i*5+3,none⟩=some (.int .u8 L[i].time)/\w'.cell? ⟨b,o+i*5+4,none⟩=some L[i].u :=by
 obtain⟨b,o,e,c⟩:=h.at i hi
 exact⟨b,o,e,fun w' hb=>⟨c w' hb 0 _ rfl,c w' hb 1 _ rfl,c w' hb 2 _ rfl,c w' hb 3 _ rfl,c w' hb 4 _ rfl⟩⟩
theorem valsP_snoc (L:List PromC) (x:PromC):valsP (L++ [x])=valsP L++ [x.val]:=by simp [valsP]
structure OwnPs (base:Nat) (w:World) (v:Value) (L:List PromC):Prop where
 row:w.ownsRow base 29 6 v L.length (flatX cellsP L)
 votes: ∀x∈L,OwnV base w x.u x.votes
theorem OwnPs.nil (base:Nat) (w:World):OwnPs base w (.slice none 0 0) []:=⟨World.ownsRow_nil _ _ _ _,fun x hx=>by cases hx⟩
theorem OwnPs.rd {base:Nat} {w:World} {v:Value} {L:List PromC} (h:OwnPs base w v L):RdP w v L:=⟨RdX.own cellsP_length h.row,fun x hx=>(h.votes x hx).rd⟩
theorem OwnPs.later {base:Nat} {w w':World} {v:Value} {L:List PromC} (h:OwnPs base w v L) (hb:Below w.heap.size w w'):OwnPs base w' v L:=⟨Rw.own_below h.row hb,fun x hx=>(h.votes x hx).later hb⟩
theorem OwnPs.lower {base base':Nat} {w:World} {v:Value} {L:List PromC} (h:OwnPs base w v L) (hb:base'<=base):OwnPs base' w v L:=⟨own_lowerX h.row hb,fun x hx=>(h.votes x hx).lower hb⟩
theorem own_vP {base base':Nat} {w w':World} {m v:Value} {L:List VoteC} {n:Nat} {xs:List Value} (h:OwnV base w v L) (hm:w.ownsRow base' 29 6 m n xs) (hg:w.grownBy w' m.ownBlock):OwnV base w' v L:=
 ⟨Rw.own_other h.row hg (own_typesD hm h.row (by decide)),fun x hx=>Rw.own_other (h.reqs x hx) hg (own_typesD hm (h.reqs x hx) (by decide))⟩
theorem OwnPs.push {base:Nat} {w3 w6:World} {m v':Value} {L:List PromC} {x:PromC} (h:OwnPs base w3 m L)
  (hl:OwnV base w3 x.u x.votes) (hg:w3.grownBy w6 m.ownBlock) (ho:w6.ownsRow base 29 6 v' (L++ [x]).length (flatX cellsP (L++ [x]))):OwnPs base w6 v' (L++ [x]):=by
 refine⟨ho,fun y hy=>?_⟩
 rcases List.mem_append.1 hy with q | q
 ·exact own_vP (h.votes y q) h.row hg
 ·rw[List.mem_singleton] at q
  subst q
  exact own_vP hl h.row hg
def GivesPs (l:List ToldV) (w:World) (e:Ending) (w':World):Prop:=
 ∃va vc,∃G:List PromC,e= .returned (.slice va G.length vc)/\valsP G=promsN l/\G.length<=7/\OwnPs w.heap.size w' (.slice va G.length vc) G/\Below w.heap.size w w'
set_option maxHeartbeats 16000000 in
theorem Promises_any (v:Value) (T:List ToldC) (w:World) (h:RdD w v T):Calls Try.prog 14 #[v] w (GivesPs (valsD T) w):=by
 have hm:=h.row.len
 have hl0:=valsD_length T
 obtain⟨a,cap,rfl⟩:=h.row.form
 obtain⟨_,_,hv,hlc,hcm, -⟩:=h.row.ex
 cases hv
 have HA:=hid (fun i hi=>rdd_at h.row i hi)
 have HOK:=hid h.ok
 have HG:=hid (fun i (hi:i<T.length)=>valsD_getD T i hi)
 clear h
 unfold GivesPs promsN
 rw[hl0]
 obtain⟨V0,hV⟩: ∃V,valsD T=V:=⟨_,rfl⟩
 rw[hV] at HG ⊢
 clear hV hl0
 obtain⟨N,hn⟩: ∃N,T.length=N:=⟨_,rfl⟩
 have HN:=hid hn
 rw[hn] at hm hlc ⊢
 clear hn
 obtain⟨i6,hi6,h60,h61,h62⟩:=info_partsP infoPr
 go_enter Try.func14,Try.ntmps14
 go_wp2
 go_loopw [3,4,5] (fun r i _ wr=> ∃(k:Nat) (va:Option Addr) (vc:Nat) (G:List PromC),k<=N/\k<=7/\i= .int .i64 (k:Int)/\Hid (G.length=k)/\r= .slice va k vc/\Hid (Below w.heap.size w wr)/\Hid (OwnPs w.heap.size wr (.slice va k vc) G)/\Hid (valsP G=promsK V0 k)) (fun _ i _ _=>7 - (intOf i).toNat)
 case atStart=>exact⟨0,none,0,[],by omega,by omega,rfl,hid rfl,rfl,hid (Below.refl _ _),hid (OwnPs.nil _ _),hid rfl⟩
 case round=>
  obtain⟨k,va,vc,G,hk,hk7,rfl,HGK,rfl,HB,HO,HVP⟩:=hrel
  by_cases hlt:k<N
  case neg=>
   obtain rfl:k=N:=by omega
   have HMN:Hid (min k 7=k):=hid (by omega)
   go_wp2
   go_ret
   exact⟨va,vc,G,by rw[HGK.out];rfl,by rw[HMN.out];exact HVP.out,by rw[HGK.out];omega,by rw[HGK.out];exact HO.out,HB.out⟩
  by_cases hl7:k<7
  case neg=>
   obtain rfl:k=7:=by omega
   have HMN:Hid (min N 7=7):=hid (by omega)
   have d7:decide ((7:Int)<(N:Int))=true:=decide_eq_true (by omega)
   go_wp2
   go_ret
   exact⟨va,vc,G,by rw[HGK.out];rfl,by rw[HMN.out];exact HVP.out,by rw[HGK.out];omega,by rw[HGK.out];exact HO.out,HB.out⟩
  have hkl:k<T.length:=by rw[HN.out];exact hlt
  obtain⟨b,o,rfl,hc⟩:=HA.out k hkl
  have hok:=HOK.out T[k] (mem_get hkl)
  have hgk:=HG.out k hkl
  obtain⟨x,hx⟩: ∃x,T[k]=x:=⟨_,rfl⟩
  rw[hx] at hok hgk
  have HCC:=hid (fun wx hb=>by have:=hc wx hb;rw[hx] at this;exact this)
  have HOX:=hid hok
  have HNX:Hid (promsK V0 (k+1)=promsK V0 k++ [promN (k:Int) x.val]):=hid (by rw[promsK,hgk])
  have hk0:(0:Int)<=(k:Int):=by omega
  have hk1:(k:Int)<(N:Int):=by omega
  have CPR:=hid (fun W' (hb:Below w.heap.size w W')=>Promise_any (k:Int) x.done x.view x.slot x.time x.u x.votes W' (HOX.out.rd.later hb) HOX.out.d HOX.out.v HOX.out.s HOX.out.t)
  rw[show(ToldV.mk x.done x.view x.slot x.time (valsN x.votes))=x.val from rfl] at CPR
  clear hc hx hok hgk hkl
  generalize promN (k:Int) x.val=PN at CPR HNX
  obtain⟨td,tw,ts,tm,tl,ta,tc⟩:=x
  unfold ToldC.u at CPR HCC
  dsimp only at CPR HCC
  generalize tl.length=tn at CPR HCC
  have HSS:Hid (∀V,Below w.heap.size w V->(fun W=>(W.cell? ⟨b,o+k*5,none⟩=some (.int .u8 td)/\W.cell? ⟨b,o+k*5+1,none⟩=some (.int .u8 tw)/\W.cell? ⟨b,o+k*5+2,none⟩=some (.int .u8 ts)/\W.cell? ⟨b,o+k*5+3,none⟩=some (.int .u8 tm)/\W.cell? ⟨b,o+k*5+4,none⟩=some (.slice ta tn tc))) V):=hid (fun V hb=>HCC.out V hb)
  go_upto_region 5 with fail
  refine wp_region_held_drew (S:=(fun W=>(W.cell? ⟨b,o+k*5,none⟩=some (.int .u8 td)/\W.cell? ⟨b,o+k*5+1,none⟩=some (.int .u8 tw)/\W.cell? ⟨b,o+k*5+2,none⟩=some (.int .u8 ts)/\W.cell? ⟨b,o+k*5+3,none⟩=some (.int .u8 tm)/\W.cell? ⟨b,o+k*5+4,none⟩=some (.slice ta tn tc)))) (by kernel_rfl) (HSS.out _ (step HB.out (Below.refl _ _).drew)) (fun hHeld=>?_)
  obtain⟨V,hV⟩: ∃V,V=wr.drew:=⟨_,rfl⟩
  have hb:Below wr.heap.size wr V:=(by rw[hV];exact(Below.refl _ _).drew)
  rw[<-hV] at hHeld ⊢
  have HB:=hid (step HB.out hb)
  have HO:=hid (HO.out.later hb)
  clear hV hb
  refine wpAnyH_take (i:=0) (v:=?_) rfl (by kernel_rfl) (by kernel_rfl) (by kernel_rfl) (fun _ _ _ h=>h) (Or.inl ⟨by rfl,?_⟩) (by assumption) ?_
  rotate_left
  ·intro w hSw;(try dsimp only at hSw);go_simp<;>with_reducible rfl
  try simp only[Act.put,getElem_toArray,getElem_cons_succ,getElem_cons_zero,setIfInBounds_toArray,set_cons_zero,set_cons_succ]
  refine wpAnyH_take (i:=1) (v:=?_) rfl (by kernel_rfl) (by kernel_rfl) (by kernel_rfl) (fun _ _ _ h=>h) (Or.inl ⟨by rfl,?_⟩) (by assumption) ?_
  rotate_left
  ·intro w hSw;(try dsimp only at hSw);go_simp<;>with_reducible rfl
  try simp only[Act.put,getElem_toArray,getElem_cons_succ,getElem_cons_zero,setIfInBounds_toArray,set_cons_zero,set_cons_succ]
  refine wpAnyH_take (i:=2) (v:=?_) rfl (by kernel_rfl) (by kernel_rfl) (by kernel_rfl) (fun _ _ _ h=>h) (Or.inl ⟨by rfl,?_⟩) (by assumption) ?_
  rotate_left
  ·intro w hSw;(try dsimp only at hSw);go_simp<;>with_reducible rfl
  try simp only[Act.put,getElem_toArray,getElem_cons_succ,getElem_cons_zero,setIfInBounds_toArray,set_cons_zero,set_cons_succ]
  refine wpAnyH_take (i:=3) (v:=?_) rfl (by kernel_rfl) (by kernel_rfl) (by kernel_rfl) (fun _ _ _ h=>h) (Or.inl ⟨by rfl,?_⟩) (by assumption) ?_
  rotate_left
  ·intro w hSw;(try dsimp only at hSw);go_simp<;>with_reducible rfl
  try simp only[Act.put,getElem_toArray,getElem_cons_succ,getElem_cons_zero,setIfInBounds_toArray,set_cons_zero,set_cons_succ]
  refine wpAnyH_take (i:=4) (v:=?_) rfl (by kernel_rfl) (by kernel_rfl) (by kernel_rfl) (fun _ _ _ h=>h) (Or.inl ⟨by rfl,?_⟩) (by assumption) ?_
  rotate_left
  ·intro w hSw;(try dsimp only at hSw);go_simp<;>with_reducible rfl
  try simp only[Act.put,getElem_toArray,getElem_cons_succ,getElem_cons_zero,setIfInBounds_toArray,set_cons_zero,set_cons_succ]
  refine wpAnyH_take (i:=5) (v:=?_) rfl (by kernel_rfl) (by kernel_rfl) (by kernel_rfl) (fun _ _ _ h=>h) (Or.inl ⟨by rfl,?_⟩) (by assumption) ?_
  rotate_left
  ·intro w hSw;(try dsimp only at hSw);go_simp<;>with_reducible rfl
  try simp only[Act.put,getElem_toArray,getElem_cons_succ,getElem_cons_zero,setIfInBounds_toArray,set_cons_zero,set_cons_succ]
  refine wpAnyH_take (i:=6) (v:=?_) rfl (by kernel_rfl) (by kernel_rfl) (by kernel_rfl) (fun _ _ _ h=>h) (Or.inl ⟨by rfl,?_⟩) (by assumption) ?_
  rotate_left
  ·intro w hSw;(try dsimp only at hSw);go_simp<;>with_reducible rfl
  try simp only[Act.put,getElem_toArray,getElem_cons_succ,getElem_cons_zero,setIfInBounds_toArray,set_cons_zero,set_cons_succ]
  refine wpAnyH_take (i:=7) (v:=?_) rfl (by kernel_rfl) (by kernel_rfl) (by kernel_rfl) (fun _ _ _ h=>h) (Or.inl ⟨by rfl,?_⟩) (by assumption) ?_
  rotate_left
  ·intro w hSw;(try dsimp only at hSw);go_simp<;>with_reducible rfl
  try simp only[Act.put,getElem_toArray,getElem_cons_succ,getElem_cons_zero,setIfInBounds_toArray,set_cons_zero,set_cons_succ]
  refine wpAnyH_take (i:=8) (v:=?_) rfl (by kernel_rfl) (by kernel_rfl) (by kernel_rfl) (fun _ _ _ h=>h) (Or.inl ⟨by rfl,?_⟩) (by assumption) ?_
  rotate_left
  ·intro w hSw;(try dsimp only at hSw);go_simp<;>with_reducible rfl
  try simp only[Act.put,getElem_toArray,getElem_cons_succ,getElem_cons_zero,setIfInBounds_toArray,set_cons_zero,set_cons_succ]
  refine wpAnyH_take (i:=9) (v:=?_) rfl (by kernel_rfl) (by kernel_rfl) (by kernel_rfl) (fun _ _ _ h=>h) (Or.inl ⟨by rfl,?_⟩) (by assumption) ?_
  rotate_left
  ·intro w hSw;(try dsimp only at hSw);go_simp<;>with_reducible rfl
  try simp only[Act.put,getElem_toArray,getElem_cons_succ,getElem_cons_zero,setIfInBounds_toArray,set_cons_zero,set_cons_succ]
  refine wpAnyH_take (i:=10) (v:=?_) rfl (by kernel_rfl) (by kernel_rfl) (by kernel_rfl) (fun _ _ _ h=>h) (Or.inl ⟨by rfl,?_⟩) (by assumption) ?_
  rotate_left
  ·intro w hSw;(try dsimp only at hSw);go_simp<;>with_reducible rfl
  try simp only[Act.put,getElem_toArray,getElem_cons_succ,getElem_cons_zero,setIfInBounds_toArray,set_cons_zero,set_cons_succ]
  refine wpAnyH_take (i:=11) (v:=?_) rfl (by kernel_rfl) (by kernel_rfl) (by kernel_rfl) (fun _ _ _ h=>h) (Or.inl ⟨by rfl,?_⟩) (by assumption) ?_
  rotate_left
  ·intro w hSw;(try dsimp only at hSw);go_simp<;>with_reducible rfl
  try simp only[Act.put,getElem_toArray,getElem_cons_succ,getElem_cons_zero,setIfInBounds_toArray,set_cons_zero,set_cons_succ]
  refine wpAnyH_take (i:=12) (v:=?_) rfl (by kernel_rfl) (by kernel_rfl) (by kernel_rfl) (fun _ _ _ h=>h) (Or.inl ⟨by rfl,?_⟩) (by assumption) ?_
  rotate_left
  ·intro w hSw;(try dsimp only at hSw);go_simp<;>with_reducible rfl
  try simp only[Act.put,getElem_toArray,getElem_cons_succ,getElem_cons_zero,setIfInBounds_toArray,set_cons_zero,set_cons_succ]
  refine wpAnyH_take (i:=13) (v:=?_) rfl (by kernel_rfl) (by kernel_rfl) (by kernel_rfl) (fun _ _ _ h=>h) (Or.inl ⟨by rfl,?_⟩) (by assumption) ?_
  rotate_left
  ·intro w hSw;(try dsimp only at hSw);go_simp<;>with_reducible rfl
  try simp only[Act.put,getElem_toArray,getElem_cons_succ,getElem_cons_zero,setIfInBounds_toArray,set_cons_zero,set_cons_succ]
  refine wpAnyH_take (i:=14) (v:=?_) rfl (by kernel_rfl) (by kernel_rfl) (by kernel_rfl) (fun _ _ _ h=>h) (Or.inl ⟨by rfl,?_⟩) (by assumption) ?_
  rotate_left
  ·intro w hSw;(try dsimp only at hSw);go_simp<;>with_reducible rfl
  try simp only[Act.put,getElem_toArray,getElem_cons_succ,getElem_cons_zero,setIfInBounds_toArray,set_cons_zero,set_cons_succ]
  refine wpAnyH_take (i:=15) (v:=?_) rfl (by kernel_rfl) (by kernel_rfl) (by kernel_rfl) (fun _ _ _ h=>h) (Or.inl ⟨by rfl,?_⟩) (by assumption) ?_
  rotate_left
  ·intro w hSw;(try dsimp only at hSw);go_simp<;>with_reducible rfl
  try simp only[Act.put,getElem_toArray,getElem_cons_succ,getElem_cons_zero,setIfInBounds_toArray,set_cons_zero,set_cons_succ]
  refine wpAnyH_take (i:=16) (v:=?_) rfl (by kernel_rfl) (by kernel_rfl) (by kernel_rfl) (fun _ _ _ h=>h) (Or.inl ⟨by rfl,?_⟩) (by assumption) ?_
  rotate_left
  ·intro w hSw;(try dsimp only at hSw);go_simp<;>with_reducible rfl
  try simp only[Act.put,getElem_toArray,getElem_cons_succ,getElem_cons_zero,setIfInBounds_toArray,set_cons_zero,set_cons_succ]
  refine wpAnyH_take (i:=17) (v:=?_) rfl (by kernel_rfl) (by kernel_rfl) (by kernel_rfl) (fun _ _ _ h=>h) (Or.inl ⟨by rfl,?_⟩) (by assumption) ?_
  rotate_left
  ·intro w hSw;(try dsimp only at hSw);go_simp<;>with_reducible rfl
  try simp only[Act.put,getElem_toArray,getElem_cons_succ,getElem_cons_zero,setIfInBounds_toArray,set_cons_zero,set_cons_succ]
  refine wpAnyH_take (i:=18) (v:=?_) rfl (by kernel_rfl) (by kernel_rfl) (by kernel_rfl) (fun _ _ _ h=>h) (Or.inl ⟨by rfl,?_⟩) (by assumption) ?_
  rotate_left
  ·intro w hSw;(try dsimp only at hSw);go_simp<;>with_reducible rfl
  try simp only[Act.put,getElem_toArray,getElem_cons_succ,getElem_cons_zero,setIfInBounds_toArray,set_cons_zero,set_cons_succ]
  refine wpAnyH_take (i:=19) (v:=?_) rfl (by kernel_rfl) (by kernel_rfl) (by kernel_rfl) (fun _ _ _ h=>h) (Or.inl ⟨by rfl,?_⟩) (by assumption) ?_
  rotate_left
  ·intro w hSw;(try dsimp only at hSw);go_simp<;>with_reducible rfl
  try simp only[Act.put,getElem_toArray,getElem_cons_succ,getElem_cons_zero,setIfInBounds_toArray,set_cons_zero,set_cons_succ]
  refine wpAnyH_take (i:=20) (v:=?_) rfl (by kernel_rfl) (by kernel_rfl) (by kernel_rfl) (fun _ _ _ h=>h) (Or.inl ⟨by rfl,?_⟩) (by assumption) ?_
  rotate_left
  ·intro w hSw;(try dsimp only at hSw);go_simp<;>with_reducible rfl
  try simp only[Act.put,getElem_toArray,getElem_cons_succ,getElem_cons_zero,setIfInBounds_toArray,set_cons_zero,set_cons_succ]
  refine wpAnyH_take (i:=21) (v:=?_) rfl (by kernel_rfl) (by kernel_rfl) (by kernel_rfl) (fun _ _ _ h=>h) (Or.inl ⟨by rfl,?_⟩) (by assumption) ?_
  rotate_left
  ·intro w hSw;(try dsimp only at hSw);go_simp<;>with_reducible rfl
  try simp only[Act.put,getElem_toArray,getElem_cons_succ,getElem_cons_zero,setIfInBounds_toArray,set_cons_zero,set_cons_succ]
  refine wpAnyH_take (i:=22) (v:=?_) rfl (by kernel_rfl) (by kernel_rfl) (by kernel_rfl) (fun _ _ _ h=>h) (Or.inl ⟨by rfl,?_⟩) (by assumption) ?_
  rotate_left
  ·intro w hSw;(try dsimp only at hSw);go_simp<;>with_reducible rfl
  try simp only[Act.put,getElem_toArray,getElem_cons_succ,getElem_cons_zero,setIfInBounds_toArray,set_cons_zero,set_cons_succ]
  refine wpAnyH_take (i:=23) (v:=?_) rfl (by kernel_rfl) (by kernel_rfl) (by kernel_rfl) (fun _ _ _ h=>h) (Or.inl ⟨by rfl,?_⟩) (by assumption) ?_
  rotate_left
  ·intro w hSw;(try dsimp only at hSw);go_simp<;>with_reducible rfl
  try simp only[Act.put,getElem_toArray,getElem_cons_succ,getElem_cons_zero,setIfInBounds_toArray,set_cons_zero,set_cons_succ]
  refine wpAnyH_take (i:=24) (v:=?_) rfl (by kernel_rfl) (by kernel_rfl) (by kernel_rfl) (fun _ _ _ h=>h) (Or.inl ⟨by rfl,?_⟩) (by assumption) ?_
  rotate_left
  ·intro w hSw;(try dsimp only at hSw);go_simp<;>with_reducible rfl
  try simp only[Act.put,getElem_toArray,getElem_cons_succ,getElem_cons_zero,setIfInBounds_toArray,set_cons_zero,set_cons_succ]
  refine wpAnyH_take (i:=25) (v:=?_) rfl (by kernel_rfl) (by kernel_rfl) (by kernel_rfl) (fun _ _ _ h=>h) (Or.inl ⟨by rfl,?_⟩) (by assumption) ?_
  rotate_left
  ·intro w hSw;(try dsimp only at hSw);go_simp<;>with_reducible rfl
  try simp only[Act.put,getElem_toArray,getElem_cons_succ,getElem_cons_zero,setIfInBounds_toArray,set_cons_zero,set_cons_succ]
  refine wpAnyH_take (i:=26) (v:=?_) rfl (by kernel_rfl) (by kernel_rfl) (by kernel_rfl) (fun _ _ _ h=>h) (Or.inl ⟨by rfl,?_⟩) (by assumption) ?_
  rotate_left
  ·intro w hSw;(try dsimp only at hSw);go_simp<;>with_reducible rfl
  try simp only[Act.put,getElem_toArray,getElem_cons_succ,getElem_cons_zero,setIfInBounds_toArray,set_cons_zero,set_cons_succ]
  refine wpAnyH_ready (rs:= [27]) (by kernel_rfl) (by simp) ?_
  refine AllReadyH.cons rfl (fun K hK=>?_) AllReadyH.nil
  go_simp
  go_at_call 33
  refine(CPR.out _ HB.out).mono ?_
  rintro e V' ⟨⟨pw,pd,pv,pq,pt,pl,pa,pc⟩,rfl,hv,ho,hb⟩
  unfold promVal PromC.u
  dsimp only
  have HPV:=hid hv
  have HOY:=hid (show OwnV w.heap.size V' (.slice pa pl.length pc) pl from ho.lower HB.out.size)
  have HB:=hid (step HB.out hb)
  have HO:=hid (HO.out.later hb)
  have HYC:=hid (cellsP_one (⟨pw,pd,pv,pq,pt,pl,pa,pc⟩:PromC))
  clear hv ho hb
  obtain⟨V,rfl⟩: ∃V,V=V':=⟨_,rfl⟩
  refine hK.out _ _ (HSS.out _ HB.out) (fun hHeld=>?_)
  clear hK K
  try simp only[Act.put,getElem_toArray,getElem_cons_succ,getElem_cons_zero,setIfInBounds_toArray,set_cons_zero,set_cons_succ]
  refine wpAnyH_ready (rs:= [28]) (by kernel_rfl) (by simp) ?_
  refine AllReadyH.cons rfl (fun K hK=>?_) AllReadyH.nil
  go_simp
  obtain⟨V',hV'⟩: ∃V',V'=V.alloc (.cells #[.int .i64 pw,.int .i64 pd,.int .i64 pv,.int .i64 pq,.int .i64 pt,.slice pa pl.length pc] 29):=⟨_,rfl⟩
  have hb:Below V.heap.size V V':=(by rw[hV'];exact newAlloc _ _)
  have HNB:Hid (HeapAt V' V.heap.size (.cells #[.int .i64 pw,.int .i64 pd,.int .i64 pv,.int .i64 pq,.int .i64 pt,.slice pa pl.length pc] 29)):=hid (by rw[hV'];exact alloc_atB _ _ _ rfl)
  rw[<-hV']
  have HB:=hid (step HB.out hb)
  have HO:=hid (HO.out.later hb)
  have HOY:=hid (HOY.out.later hb)
  clear hV' hb
  generalize V.heap.size=n5 at HNB ⊢
  obtain⟨V,rfl⟩: ∃V,V=V':=⟨_,rfl⟩
  refine hK.out _ _ (HSS.out _ HB.out) (fun hHeld=>?_)
  clear hK K
  try simp only[Act.put,getElem_toArray,getElem_cons_succ,getElem_cons_zero,setIfInBounds_toArray,set_cons_zero,set_cons_succ]
  refine wpAnyH_ready (rs:= [29]) (by kernel_rfl) (by simp) ?_
  refine AllReadyH.cons rfl (fun K hK=>?_) AllReadyH.nil
  refine step_append_own (by rfl) _ _ _ (by rfl) w.heap.size 29 i6 _ 6 64 Try.underlying22 hi6 h60 h61 h62 rfl (by omega) (.slice va k vc) G.length _ (by rfl) HO.out.row ⟨n5,0,none⟩ 1 1 (cellsP (⟨pw,pd,pv,pq,pt,pl,pa,pc⟩:PromC)) (by rfl) rfl (World.news_of_block (cs:=#[.int .i64 pw,.int .i64 pd,.int .i64 pv,.int .i64 pq,.int .i64 pt,.slice pa pl.length pc]) (t:=29) (fr:=(0,0)) HNB.out) HYC.out (by unfold maxLen;have:=HGK.out;omega) (by have:=HGK.out;omega) HB.out.size ?_
  intro v' V' hown hgrow _
  have HB:=hid (HB.out.grown hgrow HB.out.size (fun g hg=>(Rw.own_lt HO.out.row g hg).1))
  have HO:Hid (OwnPs w.heap.size V' v' (G++ [(⟨pw,pd,pv,pq,pt,pl,pa,pc⟩:PromC)])):=hid (OwnPs.push HO.out HOY.out hgrow (by rw[List.length_append,flatX_snoc];exact hown))
  obtain⟨vb,vd,rfl⟩:=Rw.own_form HO.out.row
  clear hown hgrow HNB HOY
  rw[List.length_append,List.length_singleton,HGK.out] at HO ⊢
  obtain⟨V,rfl⟩: ∃V,V=V':=⟨_,rfl⟩
  refine hK.out _ _ (HSS.out _ HB.out) (fun hHeld=>?_)
  clear hK K
  try simp only[Act.put,getElem_toArray,getElem_cons_succ,getElem_cons_zero,setIfInBounds_toArray,set_cons_zero,set_cons_succ]
  refine wpAnyH_take (i:=30) (v:=?_) rfl (by kernel_rfl) (by kernel_rfl) (by kernel_rfl) (fun _ _ _ h=>h) (Or.inl ⟨by rfl,?_⟩) (by assumption) ?_
  rotate_left
  ·intro w hSw;(try dsimp only at hSw);go_simp<;>with_reducible rfl
  try simp only[Act.put,getElem_toArray,getElem_cons_succ,getElem_cons_zero,setIfInBounds_toArray,set_cons_zero,set_cons_succ]
  refine wpAnyH_done (by kernel_rfl) ?_ _
  go_wp2_with fail
  go_roundw
  case rel=>exact⟨k+1,_,_,G++ [(⟨pw,pd,pv,pq,pt,pl,pa,pc⟩:PromC)],by omega,by omega,by go_num,hid (by rw[List.length_append,HGK.out];rfl),rfl,HB,HO,hid (by rw[valsP_snoc,HVP.out,HPV.out,HNX.out])⟩
  case measure=>simp [intOf];omega
end Pl
end Go.Proofs.Ytheenjkmglmihaa
