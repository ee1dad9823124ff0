/- Texts laid together by program. -/
import Derived.Test.YtbcnednhfmchpaaQT2
import Derived.Laws.AppendOwn
/- Contracts: the document's learner: some, NewLearner, Chosen, Heard. -/
set_option linter.unusedVariables false
set_option maxRecDepth 8000
set_option linter.unusedSimpArgs false
namespace Go.Proofs.Ytbcnednhfmchpaa
open Lib (hid)
open List (getElem_toArray getElem_cons_succ getElem_cons_zero setIfInBounds_toArray set_cons_zero set_cons_succ)
open Go.RowKit
namespace Ln
open Cm

section
variable {α : Type} {sz : Nat} {f : α → List Value}
theorem step_append_rdL (hf: ∀x,(f x).length =sz) (hsz:0<sz) (h1: ∀x:α,∀u∈f x,u.oneCell'=true) {P:Program} {w:World} {ops:Array Oper} {o:Oper} {a:Act} {K:Act->World->Prop} {Q:Exit->Act->World->Prop} {E:Prop} (hgd:o.guard=none) (s x:Operand) (t:TypeId)
  (ho:o.op= .call { callee:=.builtin .append,args:=#[s,x],argTypes:=#[t,t] })
  (base:Nat) (e:TypeId) (i:TypeInfo) (z:Value) (bytes:Nat) (ht:P.underlying t=some (.slice e)) (hi:P.info? e=some i) (hz:i.zero=some z) (hsize:i.size=sz) (hby:i.bytes=bytes) (hzs:z.cells.size=sz)
  (v:Value) (n:Nat) (xs:List Value) (hs:a.eval s=v) (hown:w.ownsRow base e sz v n xs) (y:Value) (l:List α) (hx:a.eval x=y) (hr:RdX sz f w y l)
  (h63:n+l.length<=maxLen) (hlen:(n+l.length)*bytes<=140737488355328) (hbase:base<=w.heap.size)
  (h: ∀v' w',w'.ownsRow base e sz v' (n+l.length) (xs++flatX f l)->w.grownBy w' v.ownBlock->K (a.put o.dst v') w'):
  if Region.wanted o (yielded ops a.tmps)=true then Oper.wp P o a w K Q else E:=by
 have hw:Region.wanted o (yielded ops a.tmps)=true:=by simp [Region.wanted,hgd]
 rw[if_pos hw]
 obtain⟨ao,cap,rfl,hc,hm,hn,hcells⟩:=hr.ex
 match ao,hn,hcells,hx,hr with
 | none,hn,_,hx,_=>
  obtain⟨rfl,rfl⟩:=hn rfl
  have hrun:=run_append_owned_none (P:=P) (w:=w) base t o.type e i sz ht hi v n xs hown
  unfold Oper.wp
  simp only[List.length_nil] at hx
  simp [execOp,ho,resolve,invoke,builtin,hs,hx,hrun,Result.andThen]
  exact h v w (by simpa [flatX] using hown) (World.grownBy.refl _ _)
 | some ad,_,hcells,hx,hr=>
  refine wp_append_own w s x t ho base e i z sz bytes ht hi hz hsize hby hzs hsz v n xs hs hown ad l.length cap (flatX f l) hx (by rw[flatX_length hf]) ?_ (flatX_one h1 l) h63 hlen hbase (fun v' w' h1 h2 _=>h v' w' h1 h2)
  intro j u hj
  have hl:l≠ []:=by
   intro q
   subst q
   simp [flatX] at hj
  obtain⟨hs',_⟩:=hcells ad rfl hl
  obtain⟨b,off,spot⟩:=ad
  simp only at hs'
  subst hs'
  exact hr.news hf hsz j u hj
end

theorem RefSome_any (v:Int) (w:World):Calls Try.prog 24 #[.int .i64 v] w (Says (someN v) w):=by
  unfold someN
  by_cases h1:1<=v<;>by_cases h2:v<=7<;>
    (go_enter Try.func24,Try.ntmps24
     go_wp2
     go_ret
     exact⟨by simp [h1,h2]<;>omega,rfl⟩)
theorem RefNew_any (n:Int) (w:World):Calls Try.prog 10 #[.int .i64 n] w (fun e w'=>if someN n then e= .returned (.pointer (some ⟨w.heap.size,0,none⟩))/\w'=w.alloc (.cells #[.int .i64 n,.int .i64 0,.slice none 0 0] 42) else e= .returned (.pointer none)/\w'=w):=by
 have CS:=hid (RefSome_any n w)
 cases h:someN n
 ·rw[h] at CS
  go_enter Try.func10,Try.ntmps10
  go_wp2_with (go_at_call 24;refine CS.out.mono ?_;rintro e w1 ⟨rfl,rfl⟩)
  go_ret
  simp
 ·rw[h] at CS
  go_enter Try.func10,Try.ntmps10
  go_wp2_with (go_at_call 24;refine CS.out.mono ?_;rintro e w1 ⟨rfl,rfl⟩)
  go_ret
  simp
theorem idx_at (l:List SlotV) (t:Int):(idxS l t= -1/\at_ l t=none)\/ ∃k,∃h:k<l.length,idxS l t=(k:Int)/\at_ l t=some l[k]:=by
 by_cases q: ∀j (hj:j<l.length),l[j].slot ≠t
 ·refine .inl ⟨idxS_miss l t q,List.find?_eq_none.2 fun x hx=>?_⟩
  obtain⟨j,hj,rfl⟩:=List.getElem_of_mem hx
  simpa using q j hj
 ·have hex: ∃k,∃h:k<l.length,l[k].slot =t/\ ∀j (hj:j<k),(l[j]'(by omega)).slot ≠t:=by
   induction l with
   | nil=>exact absurd (fun j hj=>by simp at hj) q
   | cons x l ih=>
    by_cases e:x.slot=t
    ·exact⟨0,by simp,e,fun j hj=>absurd hj (Nat.not_lt_zero _)⟩
    ·obtain⟨k,hk,h1,h2⟩:=ih (fun r=>q (fun j hj=>by
      cases j with
      | zero=>exact e
      | succ j=>exact r j (by simpa using hj)))
     refine⟨k+1,by simpa using hk,h1,fun j hj=>?_⟩
     cases j with
     | zero=>exact e
     | succ j=>exact h2 j (by omega)
  obtain⟨k,hk,h1,h2⟩:=hex
  refine .inr ⟨k,hk,idxS_hit l t k hk h1 h2,?_⟩
  unfold at_
  rw[List.find?_eq_some_iff_getElem]
  exact⟨by simpa using h1,k,hk,rfl,fun j hj=>by simpa using h2 j hj⟩
theorem HasL.slot {w:World} {g m:Nat} {s:LrnV} (h:HasL w g m s) (k:Nat) (hk:k<s.l.length): ∃(b o:Nat) (lc:Nat) (x:SlotC),x.val=s.l[k]/\OwnX m w x/\ ∀W,Below w.heap.size w W->W.cell? ⟨g,2,none⟩=some (.slice (some ⟨b,o,none⟩) s.l.length lc)/\ ∀j,j<10->W.cell? ⟨b,o+k*10+j,none⟩=(cellsS x)[j]?:=by
 obtain⟨v,L,h1,h2,h3,h4⟩:=h.ex
 have hl:s.l.length=L.length:=by rw[<-h2,valsL_length]
 obtain⟨va,vc,rfl⟩:=Rw.own_form h3
 obtain⟨b,o,rfl,hc⟩:=RdX.at (RdX.own cellsS_length h3) k (by omega)
 refine⟨b,o,vc,L[k]'(by omega),?_,h4 _ (List.getElem_mem _),fun W hb=>⟨?_,fun j hj=>?_⟩⟩
 ·have e:=valsL_get L k (by omega) (by rw[valsL_length];omega)
  simp only[h2] at e
  exact e.symm
 ·rw[hl]
  exact cell_at (cells_later h1 hb) 2
 ·have hj':j<(cellsS (L[k]'(by omega))).length :=by rw[cellsS_length];exact hj
  rw[Nat.add_assoc,hc W hb j _ (List.getElem?_eq_getElem hj'),List.getElem?_eq_getElem hj']
set_option maxHeartbeats 2000000 in
theorem RefChosen_any (g m:Nat) (s:LrnV) (t:Int) (w:World) (h:HasL w g m s) (hn9:s.l.length<=1000):Calls Try.prog 17 #[.pointer (some ⟨g,0,none⟩),.int .i64 t] w (TellsC (chosenF s t) w):=by
 have hz:=alloc_atB w (.cells #[.bool false,.int .i64 0,.int .i64 0,.int .i64 0,.int .i64 0,.slice none 0 0] 38) _ rfl
 have hb:=newAlloc w (.cells #[.bool false,.int .i64 0,.int .i64 0,.int .i64 0,.int .i64 0,.slice none 0 0] 38)
 obtain⟨W1,hW1⟩: ∃W1,W1=w.alloc (.cells #[.bool false,.int .i64 0,.int .i64 0,.int .i64 0,.int .i64 0,.slice none 0 0] 38):=⟨_,rfl⟩
 rw[<-hW1] at hz hb
 have hL1:=h.later hb
 have CA:=hid (At_any g m s t W1 hL1 hn9)
 have z0:=cell_at hz 0
 have z1:=cell_at hz 1
 have z2:=cell_at hz 2
 have z3:=cell_at hz 3
 have z4:=cell_at hz 4
 have z5:=cell_at hz 5
 have zf:=frozen_at hz
 simp at z0 z1 z2 z3 z4 z5
 have HB:=hid hb
 rcases idx_at s.l t with ⟨h1,h2⟩ | ⟨k,hk,h1,h2⟩
 ·have hE:chosenF s t=(zeroB,false):=by unfold chosenF;rw[h2]
  rw[hE]
  rw[h1] at CA
  clear hz hb hL1 h h1 h2 hE
  go_enter Try.func17,Try.ntmps17
  go_upto_region 1 with fail
  rw[<-hW1]
  clear hW1
  go_wp2_with (go_at_call 34;refine CA.out.mono ?_;rintro e wz ⟨rfl,hwz⟩;rw[hwz];clear hwz wz)
  refine bodyPost_ret (by simp [results,Try.results17,go_sem,z0,z1,z2,z3,z4,z5]<;>rfl) rfl ⟨.slice none 0 0,rfl,RdX.nil _,(((((HB.out.setCell (p:=⟨w.heap.size,0,none⟩) (Nat.le_refl _) _).setCell (p:=⟨w.heap.size,1,none⟩) (Nat.le_refl _) _).setCell (p:=⟨w.heap.size,2,none⟩) (Nat.le_refl _) _).setCell (p:=⟨w.heap.size,3,none⟩) (Nat.le_refl _) _).setCell (p:=⟨w.heap.size,4,none⟩) (Nat.le_refl _) _).setCell (p:=⟨w.heap.size,5,none⟩) (Nat.le_refl _) _⟩
 ·obtain⟨b,o,lc,x,hx,hox,hc⟩:=h.slot k hk
  have hE:chosenF s t=if x.chosen then (x.bat,true) else (zeroB,false):=by
   unfold chosenF
   rw[h2,<-hx]
   rfl
  rw[hE]
  rw[h1] at CA
  have HRW:=hid (RdX.own cellsR_length hox.2)
  obtain⟨c2,hc⟩:=hc W1 hb
  have q3:W1.cell? ⟨b,o+k*10+3,none⟩=some (.bool x.bat.fill):=hc 3 (by omega)
  have q4:W1.cell? ⟨b,o+k*10+3+1,none⟩=some (.int .i64 x.bat.view):=hc 4 (by omega)
  have q5:W1.cell? ⟨b,o+k*10+3+2,none⟩=some (.int .i64 x.bat.tv):=hc 5 (by omega)
  have q6:W1.cell? ⟨b,o+k*10+3+3,none⟩=some (.int .i64 x.bat.ts):=hc 6 (by omega)
  have q7:W1.cell? ⟨b,o+k*10+3+4,none⟩=some (.int .i64 x.bat.time):=hc 7 (by omega)
  have q8:W1.cell? ⟨b,o+k*10+3+5,none⟩=some x.uv:=hc 8 (by omega)
  have q9:W1.cell? ⟨b,o+k*10+9,none⟩=some (.bool x.chosen):=hc 9 (by omega)
  clear hz hb hL1 h h1 h2 hE hx hox hc
  generalize s.l.length=n at hk hn9 c2
  obtain⟨x1,x2,xw,xwa,xwc,⟨x3,x4,x5,x6,x7,x8⟩,xa,xc,xh⟩:=x
  unfold SlotC.uv at q8 HRW
  dsimp only at q3 q4 q5 q6 q7 q8 q9 HRW ⊢
  have k1:(k:Int)<(n:Int):=by omega
  have k2:(0:Int)<=(k:Int):=by omega
  cases xh
  ·go_enter Try.func17,Try.ntmps17
   go_upto_region 1 with fail
   rw[<-hW1]
   clear hW1
   go_wp2_with (go_at_call 34;refine CA.out.mono ?_;rintro e wz ⟨rfl,hwz⟩;rw[hwz];clear hwz wz)
   refine bodyPost_ret (by simp [results,Try.results17,go_sem,z0,z1,z2,z3,z4,z5]<;>rfl) rfl ⟨.slice none 0 0,rfl,RdX.nil _,(((((HB.out.setCell (p:=⟨w.heap.size,0,none⟩) (Nat.le_refl _) _).setCell (p:=⟨w.heap.size,1,none⟩) (Nat.le_refl _) _).setCell (p:=⟨w.heap.size,2,none⟩) (Nat.le_refl _) _).setCell (p:=⟨w.heap.size,3,none⟩) (Nat.le_refl _) _).setCell (p:=⟨w.heap.size,4,none⟩) (Nat.le_refl _) _).setCell (p:=⟨w.heap.size,5,none⟩) (Nat.le_refl _) _⟩
  ·go_enter Try.func17,Try.ntmps17
   go_upto_region 1 with fail
   rw[<-hW1]
   clear hW1
   go_wp2_with (go_at_call 34;refine CA.out.mono ?_;rintro e wz ⟨rfl,hwz⟩;rw[hwz];clear hwz wz)
   refine bodyPost_ret (by simp [results,Try.results17,go_sem,z0,z1,z2,z3,z4,z5]<;>rfl) rfl ⟨.slice xa x8.length xc,rfl,HRW.out.later ((((((HB.out.setCell (p:=⟨w.heap.size,0,none⟩) (Nat.le_refl _) _).setCell (p:=⟨w.heap.size,1,none⟩) (Nat.le_refl _) _).setCell (p:=⟨w.heap.size,2,none⟩) (Nat.le_refl _) _).setCell (p:=⟨w.heap.size,3,none⟩) (Nat.le_refl _) _).setCell (p:=⟨w.heap.size,4,none⟩) (Nat.le_refl _) _).setCell (p:=⟨w.heap.size,5,none⟩) (Nat.le_refl _) _),(((((HB.out.setCell (p:=⟨w.heap.size,0,none⟩) (Nat.le_refl _) _).setCell (p:=⟨w.heap.size,1,none⟩) (Nat.le_refl _) _).setCell (p:=⟨w.heap.size,2,none⟩) (Nat.le_refl _) _).setCell (p:=⟨w.heap.size,3,none⟩) (Nat.le_refl _) _).setCell (p:=⟨w.heap.size,4,none⟩) (Nat.le_refl _) _).setCell (p:=⟨w.heap.size,5,none⟩) (Nat.le_refl _) _⟩
set_option maxHeartbeats 2000000 in
theorem RefHeard_any (g m:Nat) (s:LrnV) (t:Int) (w:World) (h:HasL w g m s) (hn9:s.l.length<=1000) (hw: ∀x∈s.l,x.who.length<=1000):Calls Try.prog 19 #[.pointer (some ⟨g,0,none⟩),.int .i64 t] w (TellsH (heardF s t) w):=by
 have CA:=hid (At_any g m s t w h hn9)
 rcases idx_at s.l t with ⟨h1,h2⟩ | ⟨k,hk,h1,h2⟩
 ·have hE:heardF s t=(0,[]):=by unfold heardF;rw[h2]
  rw[hE]
  rw[h1] at CA
  clear h h1 h2 hE hw
  go_enter Try.func19,Try.ntmps19
  go_wp2_with (go_at_call 34;refine CA.out.mono ?_;rintro e wz ⟨rfl,hwz⟩;rw[hwz];clear hwz wz)
  go_ret2
  exact⟨.slice none 0 0,rfl,RdX.nil _,Below.refl _ _⟩
 ·obtain⟨b,o,lc,x,hx,hox,hc⟩:=h.slot k hk
  have hE:heardF s t=(x.ballot,x.who):=by
   unfold heardF
   rw[h2,<-hx]
   rfl
  have hwl:x.who.length<=1000:=by
   have:=hw s.l[k] (List.getElem_mem hk)
   rw[<-hx] at this
   exact this
  rw[hE]
  rw[h1] at CA
  have HRW:=hid (RdX.own cellsI_length hox.1)
  have HLW:=hid hwl
  have HKP:Hid (∀W,Below w.heap.size w W->W.cell? ⟨g,2,none⟩=some (.slice (some ⟨b,o,none⟩) s.l.length lc)/\W.cell? ⟨b,o+k*10+1,none⟩=some (.int .i64 x.ballot)/\W.cell? ⟨b,o+k*10+2,none⟩=some (.slice x.wa x.who.length x.wc)):=hid fun W hb=>⟨(hc W hb).1,(hc W hb).2 1 (by omega),(hc W hb).2 2 (by omega)⟩
  clear h h1 h2 hE hw hx hox hc hwl
  generalize s.l.length=n at hk hn9 HKP
  obtain⟨x1,x2,xw,xwa,xwc,xq,xa,xc,xh⟩:=x
  dsimp only at HRW HLW HKP ⊢
  unfold SlotC.wv at HRW
  dsimp only at HRW
  obtain⟨i0,hi0,hz0,hz1,hz2⟩:=info_partsS infoJ
  have k1:(k:Int)<(n:Int):=by omega
  have k2:(0:Int)<=(k:Int):=by omega
  go_enter Try.func19,Try.ntmps19
  go_upto_region 4 with (go_at_call 34;refine CA.out.mono ?_;rintro e wz ⟨rfl,hwz⟩;rw[hwz];clear hwz wz)
  refine wp_region_held_drew (S:=(fun W=>W.cell? ⟨g,2,none⟩=some (.slice (some ⟨b,o,none⟩) n lc)/\W.cell? ⟨b,o+k*10+1,none⟩=some (.int .i64 x2)/\W.cell? ⟨b,o+k*10+2,none⟩=some (.slice xwa xw.length xwc))) (by kernel_rfl) (HKP.out _ (Below.refl _ _).drew) (fun hHeld=>?_)
  obtain⟨V,hV⟩: ∃V,V=w.drew:=⟨_,rfl⟩
  have HBV:Hid (Below w.heap.size w V):=hid (by rw[hV];exact(Below.refl _ _).drew)
  rw[<-hV] at hHeld ⊢
  clear hV
  refine wpAnyH_take (i:=0) (v:=?_) rfl (by kernel_rfl) (by kernel_rfl) (by kernel_rfl) (fun _ _ _ h=>h) (Or.inl ⟨by rfl,?_⟩) (by assumption) ?_
  rotate_left
  ·intro w hSw;(try dsimp only at hSw);go_simp<;>with_reducible rfl
  try simp only[Act.put,getElem_toArray,getElem_cons_zero,setIfInBounds_toArray,set_cons_zero,set_cons_succ]
  refine wpAnyH_take (i:=1) (v:=?_) rfl (by kernel_rfl) (by kernel_rfl) (by kernel_rfl) (fun _ _ _ h=>h) (Or.inl ⟨by rfl,?_⟩) (by assumption) ?_
  rotate_left
  ·intro w hSw;(try dsimp only at hSw);go_simp<;>with_reducible rfl
  try simp only[Act.put,getElem_toArray,getElem_cons_succ,getElem_cons_zero,setIfInBounds_toArray,set_cons_zero,set_cons_succ]
  refine wpAnyH_take (i:=2) (v:=?_) rfl (by kernel_rfl) (by kernel_rfl) (by kernel_rfl) (fun _ _ _ h=>h) (Or.inl ⟨by rfl,?_⟩) (by assumption) ?_
  rotate_left
  ·intro w hSw;(try dsimp only at hSw);go_simp<;>with_reducible rfl
  try simp only[Act.put,getElem_toArray,getElem_cons_succ,getElem_cons_zero,setIfInBounds_toArray,set_cons_zero,set_cons_succ]
  refine wpAnyH_take (i:=3) (v:=?_) rfl (by kernel_rfl) (by kernel_rfl) (by kernel_rfl) (fun _ _ _ h=>h) (Or.inl ⟨by rfl,?_⟩) (by assumption) ?_
  rotate_left
  ·intro w hSw;(try dsimp only at hSw);go_simp<;>with_reducible rfl
  try simp only[Act.put,getElem_toArray,getElem_cons_succ,getElem_cons_zero,setIfInBounds_toArray,set_cons_zero,set_cons_succ]
  refine wpAnyH_take (i:=4) (v:=?_) rfl (by kernel_rfl) (by kernel_rfl) (by kernel_rfl) (fun _ _ _ h=>h) (Or.inl ⟨by rfl,?_⟩) (by assumption) ?_
  rotate_left
  ·intro w hSw;(try dsimp only at hSw);go_simp<;>with_reducible rfl
  try simp only[Act.put,getElem_toArray,getElem_cons_succ,getElem_cons_zero,setIfInBounds_toArray,set_cons_zero,set_cons_succ]
  refine wpAnyH_take (i:=5) (v:=?_) rfl (by kernel_rfl) (by kernel_rfl) (by kernel_rfl) (fun _ _ _ h=>h) (Or.inl ⟨by rfl,?_⟩) (by assumption) ?_
  rotate_left
  ·intro w hSw;(try dsimp only at hSw);go_simp<;>with_reducible rfl
  try simp only[Act.put,getElem_toArray,getElem_cons_succ,getElem_cons_zero,setIfInBounds_toArray,set_cons_zero,set_cons_succ]
  refine wpAnyH_take (i:=6) (v:=?_) rfl (by kernel_rfl) (by kernel_rfl) (by kernel_rfl) (fun _ _ _ h=>h) (Or.inl ⟨by rfl,?_⟩) (by assumption) ?_
  rotate_left
  ·intro w hSw;(try dsimp only at hSw);go_simp<;>with_reducible rfl
  try simp only[Act.put,getElem_toArray,getElem_cons_succ,getElem_cons_zero,setIfInBounds_toArray,set_cons_zero,set_cons_succ]
  refine wpAnyH_take (i:=7) (v:=?_) rfl (by kernel_rfl) (by kernel_rfl) (by kernel_rfl) (fun _ _ _ h=>h) (Or.inl ⟨by rfl,?_⟩) (by assumption) ?_
  rotate_left
  ·intro w hSw;(try dsimp only at hSw);go_simp<;>with_reducible rfl
  try simp only[Act.put,getElem_toArray,getElem_cons_succ,getElem_cons_zero,setIfInBounds_toArray,set_cons_zero,set_cons_succ]
  refine wpAnyH_take (i:=9) (v:=?_) rfl (by kernel_rfl) (by kernel_rfl) (by kernel_rfl) (fun _ _ _ h=>h) (Or.inl ⟨by rfl,?_⟩) (by assumption) ?_
  rotate_left
  ·intro w hSw;(try dsimp only at hSw);go_simp<;>with_reducible rfl
  try simp only[Act.put,getElem_toArray,getElem_cons_succ,getElem_cons_zero,setIfInBounds_toArray,set_cons_zero,set_cons_succ]
  refine wpAnyH_take (i:=10) (v:=?_) rfl (by kernel_rfl) (by kernel_rfl) (by kernel_rfl) (fun _ _ _ h=>h) (Or.inl ⟨by rfl,?_⟩) (by assumption) ?_
  rotate_left
  ·intro w hSw;(try dsimp only at hSw);go_simp<;>with_reducible rfl
  try simp only[Act.put,getElem_toArray,getElem_cons_succ,getElem_cons_zero,setIfInBounds_toArray,set_cons_zero,set_cons_succ]
  refine wpAnyH_take (i:=11) (v:=?_) rfl (by kernel_rfl) (by kernel_rfl) (by kernel_rfl) (fun _ _ _ h=>h) (Or.inl ⟨by rfl,?_⟩) (by assumption) ?_
  rotate_left
  ·intro w hSw;(try dsimp only at hSw);go_simp<;>with_reducible rfl
  try simp only[Act.put,getElem_toArray,getElem_cons_succ,getElem_cons_zero,setIfInBounds_toArray,set_cons_zero,set_cons_succ]
  refine wpAnyH_take (i:=12) (v:=?_) rfl (by kernel_rfl) (by kernel_rfl) (by kernel_rfl) (fun _ _ _ h=>h) (Or.inl ⟨by rfl,?_⟩) (by assumption) ?_
  rotate_left
  ·intro w hSw;(try dsimp only at hSw);go_simp<;>with_reducible rfl
  try simp only[Act.put,getElem_toArray,getElem_cons_succ,getElem_cons_zero,setIfInBounds_toArray,set_cons_zero,set_cons_succ]
  refine wpAnyH_take (i:=13) (v:=?_) rfl (by kernel_rfl) (by kernel_rfl) (by kernel_rfl) (fun _ _ _ h=>h) (Or.inl ⟨by rfl,?_⟩) (by assumption) ?_
  rotate_left
  ·intro w hSw;(try dsimp only at hSw);go_simp<;>with_reducible rfl
  try simp only[Act.put,getElem_toArray,getElem_cons_succ,getElem_cons_zero,setIfInBounds_toArray,set_cons_zero,set_cons_succ]
  refine wpAnyH_take (i:=14) (v:=?_) rfl (by kernel_rfl) (by kernel_rfl) (by kernel_rfl) (fun _ _ _ h=>h) (Or.inl ⟨by rfl,?_⟩) (by assumption) ?_
  rotate_left
  ·intro w hSw;(try dsimp only at hSw);go_simp<;>with_reducible rfl
  try simp only[Act.put,getElem_toArray,getElem_cons_succ,getElem_cons_zero,setIfInBounds_toArray,set_cons_zero,set_cons_succ]
  refine wpAnyH_take (i:=15) (v:=?_) rfl (by kernel_rfl) (by kernel_rfl) (by kernel_rfl) (fun _ _ _ h=>h) (Or.inl ⟨by rfl,?_⟩) (by assumption) ?_
  rotate_left
  ·intro w hSw;(try dsimp only at hSw);go_simp<;>with_reducible rfl
  try simp only[Act.put,getElem_toArray,getElem_cons_succ,getElem_cons_zero,setIfInBounds_toArray,set_cons_zero,set_cons_succ]
  refine wpAnyH_take (i:=16) (v:=?_) rfl (by kernel_rfl) (by kernel_rfl) (by kernel_rfl) (fun _ _ _ h=>h) (Or.inl ⟨by rfl,?_⟩) (by assumption) ?_
  rotate_left
  ·intro w hSw;(try dsimp only at hSw);go_simp<;>with_reducible rfl
  try simp only[Act.put,getElem_toArray,getElem_cons_succ,getElem_cons_zero,setIfInBounds_toArray,set_cons_zero,set_cons_succ]
  refine wpAnyH_ready (rs:= [8]) (by kernel_rfl) (by simp) ?_
  refine AllReadyH.cons rfl (fun K hK=>?_) AllReadyH.nil
  go_simp
  obtain⟨V1,hV1⟩: ∃V1,V1=V.alloc (.cells #[] 3):=⟨_,rfl⟩
  have hb1:Below V.heap.size V V1:=by rw[hV1];exact newAlloc _ _
  have HO1:Hid (V1.ownsRow w.heap.size 3 1 (.slice (some ⟨V.heap.size,0,none⟩) 0 0) 0 []):=hid (by rw[hV1];exact own_new V _ 1 _ _ rfl HBV.out.size)
  rw[<-hV1]
  have HBV1:=hid (step HBV.out hb1)
  have HS1:Hid (w.heap.size<=V1.heap.size):=hid HBV1.out.size
  clear hV1 hb1
  refine hK.out _ _ (HKP.out _ HBV1.out) (fun hHeld=>?_)
  clear hK K
  try simp only[Act.put,getElem_toArray,getElem_cons_succ,getElem_cons_zero,setIfInBounds_toArray,set_cons_zero,set_cons_succ]
  refine wpAnyH_ready (rs:= [17]) (by kernel_rfl) (by simp) ?_
  refine AllReadyH.cons rfl (fun K hK=>?_) AllReadyH.nil
  refine step_append_rdL cellsI_length (by omega) cellsI_one rfl _ _ 45 rfl w.heap.size 3 i0 _ 8 Try.underlying45 hi0 hz0 hz1 hz2 rfl (.slice (some ⟨V.heap.size,0,none⟩) 0 0) 0 [] rfl HO1.out (.slice xwa xw.length xwc) xw rfl (HRW.out.later HBV1.out) (by unfold maxLen;have:=HLW.out;omega) (by have:=HLW.out;omega) HS1.out (fun v2 V2 ho2 hg2=>?_)
  rw[Nat.zero_add,List.nil_append] at ho2
  have HB2:Hid (Below w.heap.size w V2):=hid (HBV1.out.grown hg2 HS1.out (fun k hk=>(Rw.own_lt HO1.out k hk).1))
  have HR2:=hid (RdX.own cellsI_length ho2)
  refine hK.out _ _ (HKP.out _ HB2.out) (fun hHeld=>?_)
  clear hK K ho2 hg2
  try simp only[Act.put,getElem_toArray,getElem_cons_succ,getElem_cons_zero,setIfInBounds_toArray,set_cons_zero,set_cons_succ]
  refine wpAnyH_take (i:=18) (v:=?_) rfl (by kernel_rfl) (by kernel_rfl) (by kernel_rfl) (fun _ _ _ h=>h) (Or.inl ⟨by rfl,?_⟩) (by assumption) ?_
  rotate_left
  ·intro w hSw;(try dsimp only at hSw);go_simp<;>with_reducible rfl
  try simp only[Act.put,getElem_toArray,getElem_cons_succ,getElem_cons_zero,setIfInBounds_toArray,set_cons_zero,set_cons_succ]
  refine wpAnyH_take (i:=19) (v:=?_) rfl (by kernel_rfl) (by kernel_rfl) (by kernel_rfl) (fun _ _ _ h=>h) (Or.inl ⟨by rfl,?_⟩) (by assumption) ?_
  rotate_left
  ·intro w hSw;(try dsimp only at hSw);go_simp<;>with_reducible rfl
  try simp only[Act.put,getElem_toArray,getElem_cons_succ,getElem_cons_zero,setIfInBounds_toArray,set_cons_zero,set_cons_succ]
  refine wpAnyH_done (by kernel_rfl) ?_ _
  go_wp2_with fail
  go_ret2
  exact⟨_,rfl,HR2.out,HB2.out⟩
end Ln
end Go.Proofs.Ytbcnednhfmchpaa
