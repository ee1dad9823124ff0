/- Texts laid together by program. -/
import Derived.Test.YthpknaieimlmnaaGreatQ5
import Derived.Laws.AppendOwnNone
import Derived.Lib.AppendZeros
import Derived.Lib.QuietBelow
/- Slices that read as lists: parts of them; appended to a row of one's own. No program is named here. -/
set_option linter.unusedVariables false
set_option maxRecDepth 8000
set_option linter.unusedSimpArgs false
namespace Go.Proofs.YthpknaieimlmnaaGreat
open Lib (hid)
open Go.RowKit

section
variable {α : Type} {sz : Nat} {f : α → List Value}

theorem RdX.take {w:World} {a:Option Addr} {n cap:Nat} {l:List α} (h:RdX sz f w (.slice a n cap) l) (k:Nat) (hk:k<=n):RdX sz f w (.slice a k cap) (l.take k):=by
 obtain⟨a',cap',hv,h1,h2,h3,h4⟩:=h.ex
 cases hv
 have hl:(l.take k).length =k:=by rw[List.length_take];omega
 refine⟨a,cap,by rw[hl],by rw[hl];omega,h2,fun q=>?_,fun x hx hne=>?_⟩
 ·obtain⟨q1,q2⟩:=h3 q
  subst q1
  exact⟨by simp,q2⟩
 ·obtain⟨hs,hc⟩:=h4 x hx (by intro q;subst q;simp at hne)
  refine⟨hs,fun i hi j u hu=>?_⟩
  have hi':i<l.length:=by rw[List.length_take] at hi;omega
  exact hc i hi' j u (by rw[<-hu,List.getElem_take])
theorem RdX.drop (hsz:0<sz) {w:World} {a:Option Addr} {n cap:Nat} {l:List α} (h:RdX sz f w (.slice a n cap) l) (k:Nat) (hk:k<=n):
  RdX sz f w (.slice (if cap=k then a else a.map (·.add (k*sz))) (n - k) (cap - k)) (l.drop k):=by
 obtain⟨a',cap',hv,h1,h2,h3,h4⟩:=h.ex
 cases hv
 have hl:(l.drop k).length =l.length - k:=List.length_drop
 refine⟨_,cap - k,by rw[hl],by rw[hl];omega,by omega,fun q=>?_,fun x hx hne=>?_⟩
 ·have q':a=none:=by
   split at q
   ·exact q
   ·cases a<;>simp_all
  obtain⟨q1,q2⟩:=h3 q'
  subst q1
  exact⟨by simp,by omega⟩
 ·have hkl:k<l.length:=by
   rcases Nat.lt_or_ge k l.length with g | g
   ·exact g
   ·exact absurd (List.drop_eq_nil_of_le g) hne
  rw[if_neg (by omega)] at hx
  match a,hx,h4 with
  | some y,hx,h4=>
   obtain⟨hs,hc⟩:=h4 y rfl (by intro q;subst q;simp at hkl)
   obtain⟨b,o,sp⟩:=y
   simp only at hs
   subst hs
   have hadd:(⟨b,o,none⟩:Addr).add (k*sz)=⟨b,o+k*sz,none⟩:=by unfold Addr.add;split<;>simp_all
   simp only[Option.map_some,hadd] at hx
   cases hx
   refine⟨rfl,fun i hi j u hu=>?_⟩
   have hi':k+i<l.length:=by rw[hl] at hi;omega
   have e:(l.drop k)[i]=l[k+i]:=List.getElem_drop
   have:=hc (k+i) hi' j u (by rw[<-hu,e])
   have e2:o+((k+i)*sz+j)=o+k*sz+(i*sz+j):=by rw[Nat.add_mul];omega
   simp only at this ⊢
   rw[<-e2]
   exact this
theorem RdX.one {w:World} {b:Nat} {cs:Array Value} {t:TypeId} {y:α} (h:w.heap[b]?=some (.cells cs t)) (hcs:cs.toList=f y):RdX sz f w (.slice (some ⟨b,0,none⟩) 1 1) [y]:=by
 refine⟨some ⟨b,0,none⟩,1,rfl,Nat.le_refl _,by unfold maxLen;omega,(fun q=>by cases q),fun x hx hp=>?_⟩
 cases hx
 refine⟨rfl,fun i hi k u hu=>?_⟩
 obtain rfl:i=0:=by simpa using hi
 have hu:(f y)[k]?=some u:=hu
 rw[<-hcs] at hu
 simp only[Nat.zero_mul,Nat.zero_add]
 simpa [World.cell?,h] using hu
theorem flatX_one (h1: ∀x:α,∀u∈f x,u.oneCell'=true) (l:List α): ∀u∈flatX f l,u.oneCell'=true:=by
 intro u hu
 unfold flatX at hu
 obtain⟨x,_,hx⟩:=List.mem_flatMap.1 hu
 exact h1 x u hx
theorem wpList_append_rdx (hf: ∀x,(f x).length =sz) (hsz:0<sz) (h1: ∀x:α,∀u∈f x,u.oneCell'=true) {P:Program} {w:World} {ops:Array Oper} {rest:List Oper} {o:Oper} {a:Act} {Q:Exit->Act->World->Prop} (hgd:o.guard=none) (s x:Operand) (t:TypeId)
  (ho:o.op= .call { callee:=.builtin .append,args:=#[s,x],argTypes:=#[t,t] })
  (base:Nat) (e:TypeId) (i:TypeInfo) (z:Value) (bytes:Nat) (ht:P.underlying t=some (.slice e)) (hi:P.info? e=some i) (hz:i.zero=some z) (hsize:i.size=sz) (hby:i.bytes=bytes) (hzs:z.cells.size=sz)
  (v:Value) (n:Nat) (xs:List Value) (hs:a.eval s=v) (hown:w.ownsRow base e sz v n xs) (y:Value) (l:List α) (hx:a.eval x=y) (hr:RdX sz f w y l)
  (h63:n+l.length<=maxLen) (hlen:(n+l.length)*bytes<=140737488355328) (hbase:base<=w.heap.size)
  (h: ∀v' w',w'.ownsRow base e sz v' (n+l.length) (xs++flatX f l)->w.grownBy w' v.ownBlock->wpList P ops Q rest (a.put o.dst v') w'):wpList P ops Q (o::rest) a w:=by
 obtain⟨ao,cap,rfl,hc,hm,hn,hcells⟩:=hr.ex
 match ao,hn,hcells,hx,hr with
 | none,hn,_,hx,_=>
  obtain⟨rfl,rfl⟩:=hn rfl
  refine wpList_append_own_none hgd s x t ho base e i sz ht hi v n xs hs hown hx ?_
  exact h v w (by simpa [flatX] using hown) (World.grownBy.refl _ _)
 | some ad,_,hcells,hx,hr=>
  refine wpList_append_own w hgd s x t ho base e i z sz bytes ht hi hz hsize hby hzs hsz v n xs hs hown ad l.length cap (flatX f l) hx (by rw[flatX_length hf]) ?_ (flatX_one h1 l) h63 hlen hbase (fun v' w' h1 h2 _=>h v' w' h1 h2)
  intro j u hj
  have hl:l≠ []:=by
   intro q
   subst q
   simp [flatX] at hj
  obtain⟨hs',_⟩:=hcells ad rfl hl
  obtain⟨b,off,spot⟩:=ad
  simp only at hs'
  subst hs'
  exact hr.news hf hsz j u hj
end
end Go.Proofs.YthpknaieimlmnaaGreat

/- What package line answers, as plain functions over lists of numbers. No program is named here but in the contracts' forms. -/
set_option linter.unusedVariables false
set_option maxRecDepth 8000
set_option linter.unusedSimpArgs false
namespace Go.Proofs.YthpknaieimlmnaaGreat
open Lib (hid)
open Go.RowKit
namespace Cm

def hasL (l:List Int) (c:Int):Bool:=l.any fun y=>decide (y=c)
def isN (c:Int) (y:Int):Bool:=decide (y=c)
theorem hasL_idx (l:List Int) (c:Int):hasL l c=decide (0<=idxI (isN c) l):=(idxI_any (isN c) l).symm
def aheadL (l:List Int) (c:Int):Int × Bool:=if idxI (isN c) l<0 then (0,false) else (idxI (isN c) l,true)
theorem aheadL_has (l:List Int) (c:Int):(aheadL l c).2=hasL l c:=by
 rw[hasL_idx]
 unfold aheadL
 split
 ·exact(decide_eq_false (by omega)).symm
 ·exact(decide_eq_true (by omega)).symm
def lineGo (pre:List Int):List Int->Bool
 | []=>true
 | c::l=>clientF c && !hasL pre c && lineGo (pre++ [c]) l
def rightL (l:List Int):Bool:=decide (l.length<=3) && lineGo [] l
def joinL (l:List Int) (c:Int):List Int × Int × Int:=
 if clientF c=false then ([],0,1) else if hasL l c=true then ([],0,7) else if 3<=l.length then ([],0,5) else (l++ [c],l.length,0)
def withoutL (l gone:List Int):List Int:=l.filter fun x=> !hasL gone x
/-! ### Right lines, as a relation -/
structure Rl (l:List Int):Prop where
 ok: ∀c∈l,clientF c=true
 apart:l.Pairwise fun a b=>a≠b
theorem hasL_iff (l:List Int) (c:Int):hasL l c=true ↔ c∈l:=by
 unfold hasL
 rw[List.any_eq_true]
 constructor
 ·rintro ⟨x,hx,h⟩
  rw[decide_eq_true_eq] at h
  rw[<-h];exact hx
 ·intro h
  exact⟨c,h,by simp⟩
theorem hasL_not (l:List Int) (c:Int):hasL l c=false ↔ c ∉ l:=by
 rw[<-hasL_iff]
 simp
theorem lineGo_iff (l:List Int): ∀pre,Rl pre->(lineGo pre l=true ↔ Rl (pre++l)):=by
 induction l with
 | nil=>intro pre h;simp [lineGo,h]
 | cons c l ih=>
  intro pre h
  have e:pre++c::l=(pre++ [c])++l:=by simp
  have hs:Rl (pre++ [c]) ↔ clientF c=true/\c ∉ pre:=by
   constructor
   ·intro q
    refine⟨q.ok c (by simp),fun hm=>?_⟩
    exact(List.pairwise_append.1 q.apart).2.2 c hm c (by simp) rfl
   ·rintro ⟨q1,q2⟩
    refine⟨fun x hx=>?_,List.pairwise_append.2 ⟨h.apart,List.pairwise_singleton _ _,fun a ha b hb=>?_⟩⟩
    ·rcases List.mem_append.1 hx with g | g
     ·exact h.ok x g
     ·rw[List.mem_singleton] at g;rw[g];exact q1
    ·rw[List.mem_singleton] at hb;subst hb
     intro e2;exact q2 (e2 ▸ ha)
  unfold lineGo
  rw[Bool.and_eq_true,Bool.and_eq_true,e]
  constructor
  ·rintro ⟨⟨h1,h2⟩,h3⟩
   have h4:Rl (pre++ [c]):=hs.2 ⟨h1,(hasL_not _ _).1 (by simpa using h2)⟩
   exact(ih _ h4).1 h3
  ·intro q
   have h4:Rl (pre++ [c]):=⟨fun x hx=>q.ok x (List.mem_append_left _ hx),(List.pairwise_append.1 q.apart).1⟩
   obtain⟨h1,h2⟩:=hs.1 h4
   exact⟨⟨h1,by rw[(hasL_not _ _).2 h2];rfl⟩,(ih _ h4).2 q⟩
theorem rightL_iff (l:List Int):rightL l=true ↔ l.length<=3/\Rl l:=by
 unfold rightL
 rw[Bool.and_eq_true,decide_eq_true_eq,lineGo_iff l [] ⟨(fun c hc=>by cases hc),List.Pairwise.nil⟩,List.nil_append]
theorem lineGo_drop (l:List Int) (j:Nat) (h:j<l.length):lineGo (l.take j) (l.drop j)=(clientF l[j] && !hasL (l.take j) l[j] && lineGo (l.take (j+1)) (l.drop (j+1))):=by
 rw[List.drop_eq_getElem_cons h]
 have:l.take (j+1)=l.take j++ [l[j]]:=List.take_succ_eq_append_getElem h
 rw[this]
 rfl
theorem withoutL_succ (l gone:List Int) (j:Nat) (h:j<l.length):withoutL (l.take (j+1)) gone=withoutL (l.take j) gone++if hasL gone l[j] then [] else [l[j]]:=by
 unfold withoutL
 rw[List.take_succ_eq_append_getElem h,List.filter_append]
 congr 1
 cases q:hasL gone l[j]<;>simp [q]
theorem without_right (l gone:List Int) (h:rightL l=true):rightL (withoutL l gone)=true:=by
 obtain⟨h3,hr⟩:=(rightL_iff l).1 h
 refine(rightL_iff _).2 ⟨?_,fun x hx=>hr.ok x (List.mem_filter.1 hx).1,hr.apart.filter _⟩
 have:=List.length_filter_le (fun x=> !hasL gone x) l
 unfold withoutL
 omega
theorem tail_right (l:List Int) (h:rightL l=true):rightL (l.drop 1)=true:=by
 obtain⟨h3,hr⟩:=(rightL_iff l).1 h
 exact(rightL_iff _).2 ⟨by rw[List.length_drop];omega,fun x hx=>hr.ok x (List.mem_of_mem_drop hx),hr.apart.sublist (List.drop_sublist 1 l)⟩
theorem nil_right:rightL []=true:=by decide
end Cm
end Go.Proofs.YthpknaieimlmnaaGreat

/- Contracts: slices.Grow, slices.Concat, slices.Clone over numbers. -/
set_option linter.unusedVariables false
set_option maxRecDepth 8000
set_option linter.unusedSimpArgs false
namespace Go.Proofs.YthpknaieimlmnaaGreat
open Lib (hid)
open Go.RowKit
namespace Cm

theorem ownsI_new (w:World) (cs:Array Value) (cap:Nat) (hc:cs.size=cap) (hm:cap<=maxLen):
  (w.alloc (.cells cs 3)).drew.ownsRow w.heap.size 3 1 (.slice (some ⟨w.heap.size,0,none⟩) 0 cap) 0 []:=by
 refine⟨rfl,.inr ⟨w.heap.size,cap,cs,rfl,Nat.le_refl _,?_,Nat.zero_le _,hm,by omega,by simp⟩⟩
 show(w.heap.push (.cells cs 3))[w.heap.size]?= _
 simp
def MadeI (l:List Int) (w:World) (e:Ending) (w':World):Prop:=
 ∃v,e= .returned v/\w'.ownsRow w.heap.size 3 1 v l.length (flatX cellsI l)/\Below w.heap.size w w'
theorem GrowI_none (w:World):
  Calls Tryz.prog 186 #[.slice none 0 0,.int .i64 0] w (MadeI [] w):=by
 go_enter Tryz.func186,Tryz.ntmps186
 go_wp2
 go_ret
 exact⟨_,rfl,World.ownsRow_nil _ _ _ _,Below.refl _ _⟩
theorem GrowI_some (n:Nat) (w:World) (h0:0<n) (h:n<=1000000):
  Calls Tryz.prog 186 #[.slice none 0 0,.int .i64 (n:Int)] w (MadeI [] w):=by
 obtain⟨i0,hi,hz0,hz1,hz2⟩:=info_parts infoN
 have hr:=fun ty=>Lib.run_append_nil_zeros (P:=Tryz.prog) w 34 3 ty 3 i0 (.int .i64 0) .i64 .i64 Tryz.underlying34 Tryz.underlying3 hi hz0 n h0 (by rw[hz1];omega) (by omega) (by rw[hz2];omega)
 have hge:=grownCap_ge w n 0 3
 have hle:=grownCap_le_maxLen w n 0 3 (by unfold maxLen;omega)
 generalize grownCap w n 0 3=cap at hr hge hle
 have hmx:=hle
 unfold maxLen at hmx
 have HR:=hid hr
 clear hr
 go_enter Tryz.func186,Tryz.ntmps186
 go_wp2_with (at_builtin;refine Lib.wpList_append_run _ rfl _ _ _ _ rfl _ _ rfl rfl _ _ (HR.out _) ?_)
 go_ret
 exact⟨_,rfl,ownsI_new w _ cap (by simp [Builtin.zeroCells,Value.cells];omega) hle,((Below.refl _ _).alloc (Nat.le_refl _) _).drew⟩
theorem GrowI_any (n:Nat) (w:World) (h:n<=1000000):
  Calls Tryz.prog 186 #[.slice none 0 0,.int .i64 (n:Int)] w (MadeI [] w):=by
 rcases Nat.eq_zero_or_pos n with rfl | h0
 ·exact GrowI_none w
 ·exact GrowI_some n w h0 h
def flatQ (l:List (Value × List Int)):List Int:=l.flatMap (·.2)
theorem flatQ_take_succ (l:List (Value × List Int)) (j:Nat) (h:j<l.length):flatQ (l.take (j+1))=flatQ (l.take j)++(l[j]).2:=by
 unfold flatQ
 rw[List.take_succ_eq_append_getElem h,List.flatMap_append]
 simp
theorem flatQ_take_le (l:List (Value × List Int)) (j:Nat):(flatQ (l.take j)).length <=(flatQ l).length :=by
 conv=>rhs;rw[<-List.take_append_drop j l]
 unfold flatQ
 rw[List.flatMap_append,List.length_append]
 omega
set_option maxHeartbeats 1000000 in
theorem ConcatI_any (b:Nat) (l:List (Value × List Int)) (w:World) (hc: ∀j (h:j<l.length),w.cell? ⟨b,j,none⟩=some (l[j]).1/\RdI w (l[j]).1 (l[j]).2) (hk:l.length<=1000) (h1:(flatQ l).length <=1000000):
  Calls Tryz.prog 141 #[.slice (some ⟨b,0,none⟩) l.length l.length] w (MadeI (flatQ l) w):=by
 obtain⟨i0,hi,hz0,hz1,hz2⟩:=info_parts infoN
 have HC:=hid hc
 have HS:=hid (flatQ_take_succ l)
 have HL:=hid (flatQ_take_le l)
 clear hc
 go_enter Tryz.func141,Tryz.ntmps141
 go_wp2
 go_loop [3,11] (fun z i=> ∃j:Nat,j<=l.length/\i= .int .i64 j/\z= .int .i64 ((flatQ (l.take j)).length :Int)) (fun _ i=>l.length - (intOf i).toNat)
 case atStart=>exact⟨0,by omega,rfl,rfl⟩
 case round=>
  obtain⟨j,hj,rfl,rfl⟩:=hrel
  by_cases hlt:j<l.length
  ·obtain⟨hcell,hrd⟩:=HC.out j hlt
   have hsz:(flatQ (l.take (j+1))).length =(flatQ (l.take j)).length +(l[j]).2.length :=by rw[HS.out j hlt,List.length_append]
   have hle:=HL.out (j+1)
   generalize l[j]=x at hcell hrd hsz
   obtain⟨v,bs⟩:=x
   dsimp only at hcell hsz hrd
   have hm:=hrd.len
   obtain⟨a,cap,rfl⟩:=hrd.form
   clear hrd
   generalize (flatQ (l.take j)).length =A at hsz ⊢
   generalize hB:(flatQ (l.take (j+1))).length =B at hsz hle ⊢
   generalize bs.length=Z at hsz hm hcell
   have HB:=hid hB
   clear hB
   go_wp2
   go_round
   case rel=>exact⟨j+1,by omega,by go_num,by rw[HB.out,hsz];go_num⟩
   case measure=>simp [intOf];omega
  ·obtain rfl:j=l.length:=by omega
   rw[List.take_length]
   have G:=hid (fun w=>GrowI_any (flatQ l).length w h1)
   go_wp2_with (go_at_call 186;refine(G.out _).mono ?_;rintro e w1 ⟨v1,rfl,hown,hb⟩)
   go_loopw [6,27] (fun v i wr=> ∃j:Nat,j<=l.length/\i= .int .i64 j/\wr.ownsRow w.heap.size 3 1 v (flatQ (l.take j)).length (flatX cellsI (flatQ (l.take j)))/\Below w.heap.size w wr) (fun _ i _=>l.length - (intOf i).toNat)
   case atStart=>exact⟨0,by omega,rfl,hown,hb⟩
   case round=>
    obtain⟨j,hj,rfl,ho,hbw⟩:=hrel
    by_cases hlt:j<l.length
    ·obtain⟨hcell0,hrd0⟩:=HC.out j hlt
     have hcell:=hbw.cell (p:=⟨b,j,none⟩) (lt_of_cell hcell0)
     rw[hcell0] at hcell
     have hrd:=hrd0.later hbw
     have hsz:flatQ (l.take (j+1))=flatQ (l.take j)++(l[j]).2:=HS.out j hlt
     have hle:=HL.out (j+1)
     have hbs:=hbw.size
     rw[hsz] at hle
     generalize l[j]=x at hcell hrd hsz hle
     clear hcell0 hrd0
     obtain⟨v,bs⟩:=x
     dsimp only at hcell hrd hsz hle
     rw[List.length_append] at hle
     have HZ:=hid hsz
     clear hsz
     generalize flatQ (l.take j)=A at ho hle HZ
     have HO:=hid ho
     have HR:=hid hrd
     have HB:=hid hbw
     clear ho hrd hbw
     go_wp2_with (at_builtin;refine wpList_append_rdx cellsI_length (by omega) cellsI_one rfl _ _ 34 rfl w.heap.size 3 i0 _ 8 Tryz.underlying34 hi hz0 hz1 hz2 rfl _ _ _ rfl HO.out _ bs rfl HR.out (by unfold maxLen;omega) (by omega) hbs ?_;intro v1 w2 hown2 hgrow2)
     go_roundw
     case rel=>exact⟨j+1,by omega,by go_num,by rw[HZ.out,List.length_append,flatX_append];exact hown2,HB.out.grown hgrow2 hbs (fun k hk=>(Rw.own_lt HO.out k hk).1)⟩
     case measure=>simp [intOf];omega
    ·obtain rfl:j=l.length:=by omega
     rw[List.take_length] at ho
     go_wp2
     go_ret
     exact⟨_,rfl,ho,hbw⟩
theorem ConcatI_two (w:World) (b:Nat) (u v:Value) (us vs:List Int) (hu:RdI w u us) (hv:RdI w v vs) (h0:w.cell? ⟨b,0,none⟩=some u) (h1:w.cell? ⟨b,1,none⟩=some v)
  (hl:us.length+vs.length<=1000000):
  Calls Tryz.prog 141 #[.slice (some ⟨b,0,none⟩) 2 2] w (MadeI (us++vs) w):=by
 have e:flatQ [(u,us),(v,vs)]=us++vs:=by simp [flatQ]
 have:=ConcatI_any b [(u,us),(v,vs)] w (fun j h=>by
  match j,h with
  | 0,_=>exact⟨h0,hu⟩
  | 1,_=>exact⟨h1,hv⟩) (by simp) (by rw[e];simp;omega)
 rw[e] at this
 exact this
theorem CloneI_any (v:Value) (l:List Int) (w:World) (h:RdI w v l) (h5:l.length<=1000000):
  Calls Tryz.prog 103 #[v] w (MadeI l w):=by
 obtain⟨i0,hi,hz0,hz1,hz2⟩:=info_parts infoN
 have heq: ∀w a n c,(binOp .eql 34 (.slice a n c) (.slice none 0 0)).run Tryz.prog w= .ok (.bool a.isNone) w:=fun w a n c=>Lib.run_eql_slice_nil w 34 3 a n c 0 0 Tryz.underlying34
 have HR:=hid h
 obtain⟨a,cap,rfl⟩:=h.form
 cases a with
 | none=>
  have hl:l= []:=by
   obtain⟨a',cap',hv,_,_,h3,_⟩:=h.ex
   cases hv
   exact(h3 rfl).1
  subst hl
  clear h
  go_enter Tryz.func103,Tryz.ntmps103
  go_wp2
  go_ret
  exact⟨_,rfl,World.ownsRow_nil _ _ _ _,Below.refl _ _⟩
 | some ad=>
  clear h
  have HR2:=hid (fun o=>HR.out.later (newAlloc w o))
  clear HR
  go_enter Tryz.func103,Tryz.ntmps103
  go_wp2_with (at_builtin;refine wpList_append_rdx cellsI_length (by omega) cellsI_one rfl _ _ 34 rfl w.heap.size 3 i0 _ 8 Tryz.underlying34 hi hz0 hz1 hz2 rfl _ 0 [] rfl (own_new w _ 1 _ _ rfl (Nat.le_refl _)) _ l rfl (HR2.out _) (by unfold maxLen;omega) (by omega) (newAlloc w (.cells #[] 3)).size ?_;intro v1 w2 hown2 hgrow2)
  go_ret
  refine⟨_,rfl,by simpa using hown2,(newAlloc w (.cells #[] 3)).grown hgrow2 (newAlloc w (.cells #[] 3)).size (fun k hk=>?_)⟩
  cases hk
  exact Nat.le_refl _
end Cm
end Go.Proofs.YthpknaieimlmnaaGreat

/- Contracts: padlockref6's Ahead, RightLine, Join, Without; slices.Index, Contains of numbers. -/
set_option linter.unusedVariables false
set_option maxRecDepth 8000
set_option linter.unusedSimpArgs false
namespace Go.Proofs.YthpknaieimlmnaaGreat
open Lib (hid)
open Go.RowKit
namespace Cm

theorem In_has (v:Value) (l:List Int) (x:Int) (w:World) (h:RdI w v l):Calls Tryz.prog 37 #[v,.int .i64 x] w (Says (hasL l x) w):=In_any v l x w h
def Stands (r:Int × Bool) (w:World) (e:Ending) (w':World):Prop:=e= .returned (.tuple #[.int .i64 r.1,.bool r.2])/\w'=w
theorem Ahead_any (v:Value) (l:List Int) (c:Int) (w:World) (h:RdI w v l):Calls Tryz.prog 179 #[v,.int .i64 c] w (Stands (aheadL l c) w):=by
 have hm:=h.len
 obtain⟨a,cap,rfl⟩:=h.form
 have HA:=hid (fun i hi=>rdi_at h i hi)
 have HH:=hid (idxI_hit (isN c) l)
 have HM:=hid (idxI_miss (isN c) l)
 clear h
 obtain⟨L,hL⟩: ∃L,l.length=L:=⟨_,rfl⟩
 have HLL:=hid hL
 rw[hL] at hm ⊢
 clear hL
 go_enter Tryz.func179,Tryz.ntmps179
 go_wp2
 go_loop [6] (fun i=> ∃k:Nat,k<=L/\i= .int .i64 k/\Hid (∀j (hj:j<k) (hl:j<l.length),isN c l[j]=false)) (fun i=>L - (intOf i).toNat)
 case atStart=>exact⟨0,by omega,rfl,hid (fun j hj=>absurd hj (Nat.not_lt_zero _))⟩
 case round=>
  obtain⟨k,hk,rfl,HJ⟩:=hrel
  by_cases hlt:k<L
  ·have hkl:k<l.length:=by rw[HLL.out];exact hlt
   obtain⟨b,o,rfl,hc⟩:=HA.out k hkl
   have q1:=hc w (Below.refl _ _)
   have HI:Hid (isN c l[k]=true->idxI (isN c) l=k):=hid (fun q=>HH.out k hkl q (fun j hj=>HJ.out j hj (by omega)))
   have HN:Hid (isN c l[k]=false-> ∀j (hj:j<k+1) (hl:j<l.length),isN c l[j]=false):=hid (fun q j hj hl=>by
    by_cases e:j=k
    ·subst e;exact q
    ·exact HJ.out j (by omega) hl)
   clear HA HH HM hc
   generalize l[k]=g at q1 HI HN
   by_cases hq:g=c
   ·have d:(g==c)=true:=by simpa using hq
    have H:=hid (HI.out (by unfold isN;exact decide_eq_true hq))
    clear hq HI HN
    go_wp2
    go_ret2
    refine⟨?_,rfl⟩
    unfold aheadL
    rw[H.out,if_neg (by omega)]
    rfl
   ·have d:(g==c)=false:=by simpa using hq
    have H:=hid (HN.out (by unfold isN;exact decide_eq_false hq))
    clear hq HI HN
    go_wp2
    go_round
    case rel=>exact⟨k+1,by omega,by go_num,H⟩
    case measure=>simp [intOf];omega
  ·obtain rfl:k=L:=by omega
   have H:=hid (HM.out (fun j hj=>HJ.out j (by rw[<-HLL.out];exact hj) hj))
   clear HM HH
   go_wp2
   go_ret2
   refine⟨?_,rfl⟩
   unfold aheadL
   rw[H.out,if_pos (by omega)]
   rfl
def GetsJ (r:List Int × Int × Int) (w:World) (e:Ending) (w':World):Prop:=
 ∃v,e= .returned (.tuple #[v,.int .i64 r.2.1,.int .i64 r.2.2])/\w'.ownsRow w.heap.size 3 1 v r.1.length (flatX cellsI r.1)/\Below w.heap.size w w'
theorem GetsJ.empty {w w':World} {e:Ending} {c:Int} (he:e= .returned (.tuple #[.slice none 0 0,.int .i64 0,.int .i64 c])) (hb:Below w.heap.size w w'):GetsJ ([],0,c) w e w':=
 ⟨_,he,World.ownsRow_nil _ _ _ _,hb⟩
end Cm
end Go.Proofs.YthpknaieimlmnaaGreat

/- Contracts: padlockref6's Without, RightLine; padlocklaw7's Line. -/
set_option linter.unusedVariables false
set_option maxRecDepth 8000
set_option linter.unusedSimpArgs false
namespace Go.Proofs.YthpknaieimlmnaaGreat
open Lib (hid)
open Go.RowKit
namespace Cm

set_option maxHeartbeats 2000000 in
theorem Without_any (v u:Value) (l g:List Int) (w:World) (h:RdI w v l) (h2:RdI w u g) (h5:l.length<=1000):Calls Tryz.prog 164 #[v,u] w (GetsN (withoutL l g) w):=by
 have hm:=h.len
 obtain⟨a,cap,rfl⟩:=h.form
 have HA:=hid (fun i hi=>rdi_at h i hi)
 have HF:=hid (withoutL_succ l g)
 have HG:=hid (fun x w' (hb:Below w.heap.size w w')=>In_has u g x w' (h2.later hb))
 obtain⟨a2,cap2,rfl⟩:=h2.form
 clear h h2
 obtain⟨i0,hi,hz0,hz1,hz2⟩:=info_parts infoN
 obtain⟨L,hL⟩: ∃L,l.length=L:=⟨_,rfl⟩
 have HLL:=hid hL
 rw[hL] at hm h5 ⊢
 clear hL
 generalize g.length=GL at*
 go_enter Tryz.func164,Tryz.ntmps164
 go_wp2
 go_loopw [5,6] (fun m i wr=> ∃(k:Nat) (M:List Int),k<=L/\i= .int .i64 k/\Hid (withoutL (l.take k) g=M)/\M.length<=k/\Hid (wr.ownsRow w.heap.size 3 1 m M.length (flatX cellsI M))/\Hid (Below w.heap.size w wr)) (fun _ i _=>L - (intOf i).toNat)
 case atStart=>exact⟨0,[],by omega,rfl,hid rfl,by simp,hid (World.ownsRow_nil _ _ _ _),hid (Below.refl _ _)⟩
 case round=>
  obtain⟨k,M,hk,rfl,HM,hMk,HO,HB⟩:=hrel
  by_cases hlt:k<L
  ·have hkl:k<l.length:=by rw[HLL.out];exact hlt
   obtain⟨b,o,rfl,hc⟩:=HA.out k hkl
   have q0:=hc _ HB.out
   have hp:=HF.out k hkl
   rw[HM.out] at hp
   clear hc HA HF
   generalize l[k]=x at q0 hp
   have HI:=hid (HG.out x wr HB.out)
   clear HG
   cases n1:hasL g x with
   | true=>
    have H:Hid (withoutL (l.take (k+1)) g=M):=hid (by rw[hp,n1];simp)
    rw[n1] at HI
    clear hp n1
    go_wp2_with fail
    refine HI.out.mono ?_
    rintro e w1 ⟨rfl,rfl⟩
    go_wp2
    go_roundw
    case rel=>exact⟨k+1,M,by omega,by go_num,H,by omega,HO,HB⟩
    case measure=>simp [intOf];omega
   | false=>
    have H:Hid (withoutL (l.take (k+1)) g=M++ [x]):=hid (by rw[hp,n1];simp)
    rw[n1] at HI
    clear hp n1
    go_wp2_with fail
    refine HI.out.mono ?_
    rintro e w1 ⟨rfl,rfl⟩
    go_wp2_with (at_builtin;(refine wpList_append_one cellsI_length (by omega) rfl (.tmp 20) (.tmp 25) 34 rfl 3 i0 _ 8 Tryz.underlying34 hi hz0 hz1 hz2 rfl #[.int .i64 x] x rfl (cellsI_one _) M w.heap.size w.heap.size w _ rfl rfl HO.out (by unfold maxLen;omega) (by omega) HB.out.size HB.out (Nat.le_refl _) ?_);intro v5 w5 ho5 hb5 _;have HO5:=hid ho5;have HB5:=hid hb5;clear ho5 hb5)
    go_roundw
    case rel=>exact⟨k+1,M++ [x],by omega,by go_num,H,by simp;omega,HO5,HB5⟩
    case measure=>simp [intOf];omega
  ·obtain rfl:k=L:=by omega
   have hM:=HM.out
   rw[<-HLL.out,List.take_length] at hM
   have H:=hid hM
   clear hM
   go_wp2
   go_ret
   rw[H.out]
   exact⟨_,rfl,HO.out,HB.out⟩
end Cm
end Go.Proofs.YthpknaieimlmnaaGreat

/- Contract: padlocklaw7's Line. What the developers' calls answer: forms. -/
set_option linter.unusedVariables false
set_option maxRecDepth 8000
set_option linter.unusedSimpArgs false
namespace Go.Proofs.YthpknaieimlmnaaGreat
open Lib (hid)
open Go.RowKit
namespace Cm

def StandsB (r:Int × Bool) (w:World) (e:Ending) (w':World):Prop:=e= .returned (.tuple #[.int .i64 r.1,.bool r.2])/\Below w.heap.size w w'
def GetsL (r:List Int × Bool) (w:World) (e:Ending) (w':World):Prop:=
 ∃v,e= .returned (.tuple #[v,.bool r.2])/\w'.ownsRow w.heap.size 3 1 v r.1.length (flatX cellsI r.1)/\Below w.heap.size w w'
def GetsX (r:Int × List Int × Bool) (w:World) (e:Ending) (w':World):Prop:=
 ∃v,e= .returned (.tuple #[.int .i64 r.1,v,.bool r.2.2])/\w'.ownsRow w.heap.size 3 1 v r.2.1.length (flatX cellsI r.2.1)/\Below w.heap.size w w'
def leaveL (l:List Int) (c:Int):List Int × Bool:=(withoutL l [c],hasL l c)
def nextL:List Int->Int × List Int × Bool
 | []=>(0,[],false)
 | c::l=>(c,l,true)
end Cm
end Go.Proofs.YthpknaieimlmnaaGreat
