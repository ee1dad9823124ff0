/- Texts laid together by program. -/
import Derived.Test.YtbpmfjjbfiiiaaaQS11
import Derived.Test.YtbpmfjjbfiiiaaaQS8
import Derived.RangeFuncNested
import Derived.RangeFuncBound
import Derived.RangeFuncCalls
import Derived.RangeFuncBox
import Derived.RangeFuncLeaves
import Derived.Shelf.Abstract
import Derived.Shelf.RegionOpen
import Derived.WalkKit
import Derived.OwnWalkIn
import Derived.TacticsInMore
import Derived.LoopNIn
import Derived.LoopIn
/- slices.Values, AppendSeq, Collect of promises: a range over a function. -/
set_option linter.unusedVariables false
set_option maxRecDepth 8000
set_option linter.unusedSimpArgs false
namespace Go.Proofs.Ytbpmfjjbfiiiaaa
open Lib (hid)
open Go.RowKit Go.Shelf
namespace Pl
open Cm Ac
attribute [local go_sem] Oper.semAt_some

set_option maxRecDepth 100000 in
set_option maxHeartbeats 4000000 in
theorem Values1_in (F:Fence) (n:Nat) (h53:F.fn 81) (hro:F.round=none) (hn:1<=n) (l Bs:Nat) (w0:World) (u:Value) (L:List PromC) (hR:RdX 6 cellsP w0 u L) (J Jx:List PromC->World->Prop)
  (hY: ∀pre x W,J pre W->pre.length<L.length->YieldAt F (n - 1) Try.prog l #[promVal x] W fun e W'=>
   (e= .returned (.bool true)/\J (pre++ [x]) W'/\Below w0.heap.size W W')\/(e= .returned (.bool false)/\Jx (pre++ [x]) W'))
  (W:World) (hW:Below w0.heap.size w0 W) (hJ:AbidesFrom W.heap.size J) (hBs:W.cell? ⟨Bs,0,none⟩=some u) (h0:J [] W):
  CallsIn F n Try.prog 81 #[.func (.yield l) #[] #[],.pointer (some ⟨Bs,0,none⟩)] W fun e W'=>(∃v,e= .returned v)/\
   ((∃ys,ys=L/\J ys W')\/(∃pre,pre<+:L/\Jx pre W')):=by
 have hlen:=hR.len
 obtain⟨a,cap,rfl⟩:=hR.form
 have HA:=hid (fun i hi=>rdp_at hR i hi)
 clear hR
 obtain⟨N,hN⟩: ∃N,L.length=N:=⟨_,rfl⟩
 have HN:=hid hN
 have HW:=hid hW
 rw[hN] at hY hlen hBs
 clear hN hW
 refine callsIn_of_wp Try.func81 rfl h53 ?_ hro
 simp only[Try.ntmps81,List.size_toArray,List.length_cons,List.length_nil,Nat.reduceAdd,Nat.reduceSub,Array.replicate_succ,Array.replicate_zero,List.push_toArray,List.append_toArray,List.nil_append,List.cons_append]
 gi_wp2
 gi_loopw [7] (fun i wr=> ∃k:Nat,k<=N/\i= .int .i64 k/\Hid (J (L.take k) wr)/\Hid (Below w0.heap.size W wr))
  (fun i _=>N - (intOf i).toNat)
 case atStart=>exact⟨0,Nat.zero_le _,rfl,hid h0,hid (Below.refl _ _)⟩
 case round=>
  obtain⟨k,hk,rfl,hJs,hnx⟩:=hrel
  by_cases hlt:k<N
  ·have hkl:k<L.length:=by rw[HN.out];exact hlt
   obtain⟨b,o,rfl,hc⟩:=HA.out k hkl
   obtain⟨q0,q1,q2,q3,q4,q5⟩:=hc _ (HW.out.trans hnx.out)
   have ht:L.take (k+1)=L.take k++ [L[k]]:=List.take_succ_eq_append_getElem hkl
   clear hc HA
   have hJ2:J (L.take k) (wr.alloc (promObj L[k])):=hJ _ _ _ none hJs.out (World.grownBy_alloc wr (promObj L[k]) none) (fun r e=>by cases e)
   obtain⟨fn,tmps,assign,body,hy,hR⟩:=hY _ L[k] _ hJ2 (by rw[List.length_take];omega)
   generalize L[k]=x at q0 q1 q2 q3 q4 q5 ht hy hR
   obtain⟨xw,xd,xv,xs,xt,xl,xa,xc⟩:=x
   obtain⟨xn,hxn⟩: ∃xn,xl.length=xn:=⟨_,rfl⟩
   unfold promVal promObj at hy
   unfold promObj at hR
   unfold PromC.u at hy hR q5
   dsimp only at hy hR q0 q1 q2 q3 q4 q5
   rw[hxn] at hy hR q5
   have HT:=hid ht
   have HX:=hid hxn
   clear ht hxn hJ2
   obtain⟨y0,y1,y2,y3,y4,y5⟩:=box6p (Below.refl _ (wr.alloc (.cells #[.int .i64 xw,.int .i64 xd,.int .i64 xv,.int .i64 xs,.int .i64 xt,.slice xa xn xc] 59)))
   have HB:=hid (hnx.out.trans ((Below.refl w0.heap.size wr).alloc (by have:=hnx.out.size;have:=HW.out.size;omega) (.cells #[.int .i64 xw,.int .i64 xd,.int .i64 xv,.int .i64 xs,.int .i64 xt,.slice xa xn xc] 59)))
   gi_wp2
   refine hR.mono ?_
   rintro e W3 (⟨rfl,hJ3,hk3⟩ | ⟨rfl,hJx3⟩)
   ·have HJ3:=hid hJ3
    have HK3:=hid (HB.out.trans hk3)
    clear hJ3 hk3
    gi_wp2
    go_roundw
    case rel=>exact⟨k+1,by omega,by go_num,hid (by rw[HT.out];exact HJ3.out),HK3⟩
    case measure=>simp [intOf];omega
   ·have HJ3:=hid hJx3
    clear hJx3
    gi_wp2
    refine bodyPost_ret (results_none rfl _ _ _) rfl ?_
    exact⟨⟨_,rfl⟩,.inr ⟨_,by rw[<-HT.out];exact List.take_prefix _ _,HJ3.out⟩⟩
  ·obtain rfl:k=N:=by omega
   have HE:=hid (show L.take k=L by rw[<-HN.out];exact List.take_length)
   gi_wp2
   go_end0
   exact⟨⟨_,rfl⟩,.inl ⟨_,HE.out,hJs.out⟩⟩
theorem Values_stops (F:Fence) (n:Nat) (h53:F.fn 81) (hro:F.round=none) (hn:1<=n) (Bs:Nat) (u:Value) (L:List PromC) (w0 w:World) (hw:Below w0.heap.size w0 w) (hR:RdX 6 cellsP w0 u L) (hBs:Bs<w.heap.size) (hc:w.cell? ⟨Bs,0,none⟩=some u):
  SeqStopsK F n Try.prog 81 #[.pointer (some ⟨Bs,0,none⟩)] (fun x:PromC=>#[promVal x]) (Below w0.heap.size) (fun ys=>ys=L) (fun pre=>pre<+:L) L.length w:=fun l J Jx W hW hJ _ hY h0=>
 Values1_in F n h53 hro hn l Bs w0 u L hR J Jx hY W (hw.trans (hW.mono hw.size)) hJ ((hW.cell (p:=⟨Bs,0,none⟩) hBs).trans hc) h0
set_option maxHeartbeats 1000000 in
theorem Values_any (a:Option Addr) (n cap:Nat) (w:World):Calls Try.prog 72 #[.slice a n cap] w fun e w'=>e= .returned (.func (.func 81) #[] #[.pointer (some ⟨w.heap.size,0,none⟩)])/\w'=w.alloc (.cells #[.slice a n cap] 77):=by
 go_enter Try.func72,Try.ntmps72
 go_wp2
 go_ret
 exact⟨rfl,rfl⟩
end Pl
end Go.Proofs.Ytbpmfjjbfiiiaaa

/- slices.AppendSeq, Collect of promises. -/
set_option linter.unusedVariables false
set_option maxRecDepth 8000
set_option linter.unusedSimpArgs false
namespace Go.Proofs.Ytbpmfjjbfiiiaaa
open Lib (hid)
open Go.RowKit Go.Shelf
namespace Pl
open Cm Ac
attribute [local go_sem] Oper.semAt_some

theorem infoPr:(Try.prog.info? 59).map (fun i=>(i.zero,i.size,i.bytes))=some (some (.agg #[.int .i64 0,.int .i64 0,.int .i64 0,.int .i64 0,.int .i64 0,.slice none 0 0]),6,64):=by kernel_rfl
theorem at_own {β:Type} (B g:Nat) (cs:Array Value) (t:TypeId):OwnFrom B (fun(_:β) W=>W.heap[g]?=some (.cells cs t)):=fun s X Y row hs hg hrow=>
 (hg.block g (Array.getElem?_eq_some_iff.1 hs).1 (fun e'=>by obtain⟨_,o,ho,hc⟩:=hrow g e'.symm;rw[hs] at ho;cases ho;cases hc)).trans hs
theorem at_newP (W:World) (cs:Array Value) (t:TypeId):(W.alloc (.cells cs t)).heap[W.heap.size]?=some (.cells cs t):=by
 show(W.heap.push _)[W.heap.size]?= _
 simp
theorem news6 (W:World) (t:TypeId) (a b c d e f:Value): ∀j u,[a,b,c,d,e,f][j]?=some u->(W.alloc (.cells #[a,b,c,d,e,f] t)).cell? ((⟨W.heap.size,0,none⟩:Addr).add j)=some u:=by
 have:=World.news_of_block (w:=W.alloc (.cells #[a,b,c,d,e,f] t)) (B:=W.heap.size) (cs:=#[a,b,c,d,e,f]) (t:=t) (fr:=(0,0)) (at_newP W _ t)
 exact this
set_option maxRecDepth 100000 in
set_option maxHeartbeats 4000000 in
theorem AppendSeq_in (F:Fence) (n:Nat) (h61:F.fn 85) (h53:F.fn 81) (hro:F.round=none) (hn:3<=n) (Bs:Nat) (u:Value) (L:List PromC) (hL:L.length<=1000) (w0 w:World) (hw:Below w0.heap.size w0 w) (hR:RdX 6 cellsP w0 u L) (hBs:Bs<w.heap.size) (hc:w.cell? ⟨Bs,0,none⟩=some u):
  CallsIn F n Try.prog 85 #[.slice none 0 0,.func (.func 81) #[] #[.pointer (some ⟨Bs,0,none⟩)]] w fun e W'=> ∃v,e= .returned v/\W'.ownsRow w.heap.size 59 6 v L.length (flatX cellsP L)/\Below w.heap.size w W':=by
 have h1:1<=n:=by omega
 obtain⟨i0,hi,hz0,hz1,hz2⟩:=info_parts infoPr
 have hsr:=hw.size
 refine callsIn_of_wp_marks Try.func85 rfl h61 ?_ hro
 simp only[Try.ntmps85,List.size_toArray,List.length_cons,List.length_nil,Nat.reduceAdd,Nat.reduceSub,Array.replicate_succ,Array.replicate_zero,List.push_toArray,List.append_toArray,List.nil_append,List.cons_append]
 gi_wp2
 have bS:=Boxed.new w 77 (.slice none 0 0)
 have hB0:Below w.heap.size w (w.alloc (.cells #[.slice none 0 0] 77)):=(Below.refl _ w).alloc (Nat.le_refl _) _
 have hsz:(w.alloc (.cells #[.slice none 0 0] 77)).heap.size =w.heap.size+1:=by simp
 have hc0:(w.alloc (.cells #[.slice none 0 0] 77)).cell? ⟨Bs,0,none⟩=some u:=(hB0.cell (p:=⟨Bs,0,none⟩) hBs).trans hc
 obtain⟨W0,hW0⟩: ∃W0,w.alloc (.cells #[.slice none 0 0] 77)=W0:=⟨_,rfl⟩
 rw[hW0] at bS hB0 hsz hc0 ⊢
 clear hW0
 refine wpIn_rangeFunc_ownH hro h1 (gf:=81) (lb:=#[.pointer (some ⟨Bs,0,none⟩)]) rfl h53 (enters_of Try.func81 (by kernel_rfl) rfl)
  (Values_stops F (n - 1) h53 hro (by omega) Bs u L w0 W0 (hw.trans (hB0.mono hsr)) hR (by omega) hc0) belowK_t (belowK_b (by omega)) (Below.refl _ _) (fun _=>rfl)
  (fun pre W=>(∃v,Boxed W w.heap.size 77 v/\W.ownsRow w.heap.size 59 6 v pre.length (flatX cellsP pre)/\True)/\Below w.heap.size w W)
  (fun _ _ _=>False)
  (OwnFrom.and (Own.from (holdsRow_own w.heap.size w.heap.size 77 59 6 (fun pre=>pre.length) (fun pre=>flatX cellsP pre) (fun _ _=>True)) _) (ownFrom_below (Nat.le_refl _) (by omega)))
  (fun _ _ _ _ _ hs _ _=>hs)
  ⟨⟨_,bS,World.ownsRow_nil _ _ _ _,trivial⟩,hB0⟩
  (fun x a' W=> ∃Bx,w.heap.size<Bx/\W.heap[Bx]?=some (.cells (cellsP x).toArray 59)/\a'= { tmps:=#[.slice none 0 0,.func (.func 81) #[] #[.pointer (some ⟨Bs,0,none⟩)],.pointer (some ⟨w.heap.size,0,none⟩),undef,.slice none 0 0,.pointer (some ⟨Bx,0,none⟩),.func (.func 81) #[] #[.pointer (some ⟨Bs,0,none⟩)],promVal x,undef,undef,undef,undef,undef],defers:= [] })
  (fun x a' s X Y row hs hg hrow=>by
   obtain⟨Bx,hx1,hx2,hx3⟩:=hs
   exact⟨Bx,hx1,at_own (β:=Unit) _ Bx _ _ s X Y row hx2 hg hrow,hx3⟩) ?assign ?body ?done ?stop
 case assign=>
  rintro l pre x W K ⟨⟨v,hv,hrow, -⟩,hB⟩ hK
  obtain⟨xw,xd,xv,xs,xt,xl,xa,xc⟩:=x
  unfold promVal PromC.u cellsP at hK
  unfold promVal PromC.u
  dsimp only at hK ⊢
  gi_wp2
  refine hK _ _ ((KeepsOthers.alloc _ _).from _) ((Below.refl w0.heap.size W).alloc (by have:=hB.size;omega) _) ⟨⟨v,hv.alloc _,hrow.alloc _,trivial⟩,hB.alloc hB.size _⟩ ⟨W.heap.size,hv.lt,at_newP W _ _,rfl⟩
 case body=>
  rintro l pre x a' W hl ⟨r,hr⟩ ⟨⟨v,hv,hrow, -⟩,hB⟩ ⟨Bx,hBx,bX,rfl⟩ hlt
  have hcv:=hv.cell
  have c0:=cell_at bX 0
  have c1:=cell_at bX 1
  have c2:=cell_at bX 2
  have c3:=cell_at bX 3
  have c4:=cell_at bX 4
  have c5:=cell_at bX 5
  have hone:=cellsP_one x
  have hfs:=flatX_snoc (f:=cellsP) pre x
  obtain⟨xw,xd,xv,xs,xt,xl,xa,xc⟩:=x
  unfold cellsP PromC.u at c0 c1 c2 c3 c4 c5 hone
  unfold promVal PromC.u
  dsimp only at c0 c1 c2 c3 c4 c5 hone ⊢
  simp only[List.getElem?_toArray,List.getElem?_cons_zero,List.getElem?_cons_succ] at c0 c1 c2 c3 c4 c5
  have HFS:=hid hfs
  clear hfs
  generalize hxn:xl.length=xn at*
  have HXN:=hid hxn
  clear hxn
  gi_wp2_with (gi_at_builtin;refine wpListIn_append_own _ rfl _ _ 77 rfl w.heap.size 59 i0 _ 6 64 Try.underlying77 hi hz0 hz1 hz2 rfl (by decide) _ _ _ rfl (hrow.alloc _) ⟨W.heap.size,0,none⟩ 1 1 [.int .i64 xw,.int .i64 xd,.int .i64 xv,.int .i64 xs,.int .i64 xt,.slice xa xn xc] rfl rfl (news6 W _ _ _ _ _ _ _) hone (by unfold maxLen;omega) (by omega) (by have:=hB.size;simp;omega) ?_;intro v' w1 hown' hgrow _;obtain⟨g',cap',rfl⟩:=ownsRow_succ hown';obtain⟨hv1,hv2,hr2,hk2,hb2⟩:=hv.appended (by decide) hrow hB.size (Nat.le_refl _) hown' hgrow;have hc1:=hv1.cell;have hf1:=hv1.frozen)
  exact⟨hk2.from _,hb2.mono hsr,⟨_,hv2,by rw[List.length_append,HFS.out];unfold cellsP PromC.u;dsimp only;rw[HXN.out];exact hr2,trivial⟩,hB.trans hb2⟩
 case done=>
  rintro D ys W hD rfl ⟨⟨v,hv,hrow, -⟩,hB⟩ hK
  have hcv:=hv.cell
  gi_wp2
  refine⟨by simp,.inl ⟨_,_,rfl,run_takeDeferred hK,?_⟩⟩
  exact⟨_,results_tmp rfl _ _ _,v,rfl,ownsRow_putObj hrow _ hK rfl,hB.trans (belowK_b (w:=w) (Nat.le_refl _) W D _ _ (by omega) hK rfl rfl)⟩
 case stop=>
  rintro D c pre W _ _ h _
  exact h.elim
end Pl
end Go.Proofs.Ytbpmfjjbfiiiaaa

/- byFrom: promises by whom they are of, in a row of the call's own. -/
set_option linter.unusedVariables false
set_option maxRecDepth 8000
set_option linter.unusedSimpArgs false
namespace Go.Proofs.Ytbpmfjjbfiiiaaa
open Lib (hid)
open Go.RowKit
namespace Pl
open Cm Ac

set_option maxHeartbeats 4000000 in
theorem bitsLen64_any (n:Nat) (hn:n<=12) (w:World):Calls Try.prog 98 #[.int .u64 (n:Int)] w (fun e w'=>(∃l:Int,e= .returned (.int .i64 l))/\w'=w):=by
 match n,hn with
 | 0,_ | 1,_ | 2,_ | 3,_ | 4,_ | 5,_ | 6,_ | 7,_ | 8,_ | 9,_ | 10,_ | 11,_ | 12,_=>
  go_enter Try.func98,Try.ntmps98
  go_wp2
  go_ret
  exact⟨⟨_,rfl⟩,rfl⟩
theorem bitsLen_any (n:Nat) (hn:n<=12) (w:World):Calls Try.prog 87 #[.int .u64 (n:Int)] w (fun e w'=>(∃l:Int,e= .returned (.int .i64 l))/\w'=w):=by
 have C:=hid (fun w=>bitsLen64_any n hn w)
 go_enter Try.func87,Try.ntmps87
 go_wp2_with (go_at_call 98;refine(C.out _).mono ?_;rintro e w1 ⟨⟨l,rfl⟩,rfl⟩)
 go_ret
 exact⟨⟨_,rfl⟩,rfl⟩
set_option maxHeartbeats 4000000 in
theorem pdq_any (g:Nat) (D:List PromC) (T:List Value) (cap:Nat) (l:Int) (hcap:D.length<=cap) (hN:D.length<=12) (w:World) (h:RowC w g D T):
  Calls Try.prog 86 #[.slice (some ⟨g,0,none⟩) D.length cap,.int .i64 0,.int .i64 (D.length:Int),.int .i64 l,.func (.func 73) #[] #[]] w (fun e w'=>e= .returned (.tuple #[])/\RowC w' g (sortC D) T/\w.grownBy w' (some g)):=by
 have C:=hid (insertion_any g D T cap hcap (by omega) w h)
 clear h
 generalize D.length=N at*
 have d1:decide ((N:Int)<=12)=true:=by simp;omega
 go_enter Try.func86,Try.ntmps86
 go_wp2
 refine wp_loop_rounds 1 ?_
 rw[rounds_succ]
 go_wp2_with (go_at_call 89;refine C.out.mono ?_;rintro e w1 ⟨rfl,hr,hg⟩)
 (try simp only[Exit.inBlock,Exit.then])
 refine bodyPost_ret (results_none rfl _ _ _) rfl ?_
 exact⟨rfl,hr,hg⟩
set_option maxHeartbeats 4000000 in
theorem SortFunc_any (g:Nat) (D:List PromC) (T:List Value) (cap:Nat) (hcap:D.length<=cap) (hN:D.length<=12) (w:World) (h:RowC w g D T):
  Calls Try.prog 80 #[.slice (some ⟨g,0,none⟩) D.length cap,.func (.func 73) #[] #[]] w (fun e w'=>e= .returned (.tuple #[])/\RowC w' g (sortC D) T/\w.grownBy w' (some g)):=by
 have C:=hid (fun l=>pdq_any g D T cap l hcap hN w h)
 have CL:=hid (fun w=>bitsLen_any D.length hN w)
 clear h
 generalize D.length=N at*
 go_enter Try.func80,Try.ntmps80
 go_wp2_with (first
  | (go_at_call 87;refine(CL.out _).mono ?_;rintro e w1 ⟨⟨l,rfl⟩,rfl⟩)
  | (go_at_call 86;refine(C.out _).mono ?_;rintro e w1 ⟨rfl,hr,hg⟩))
 go_end0
 exact⟨rfl,hr,hg⟩
theorem Collect_in (F:Fence) (n:Nat) (h51:F.fn 79) (h61:F.fn 85) (h53:F.fn 81) (hro:F.round=none) (hn:4<=n) (Bs:Nat) (u:Value) (L:List PromC) (hL:L.length<=1000) (w0 w:World) (hw:Below w0.heap.size w0 w) (hR:RdX 6 cellsP w0 u L) (hBs:Bs<w.heap.size) (hc:w.cell? ⟨Bs,0,none⟩=some u):
  CallsIn F n Try.prog 79 #[.func (.func 81) #[] #[.pointer (some ⟨Bs,0,none⟩)]] w fun e W'=> ∃v,e= .returned v/\W'.ownsRow w.heap.size 59 6 v L.length (flatX cellsP L)/\Below w.heap.size w W':=by
 have h1:1<=n:=by omega
 have C:=hid (AppendSeq_in F (n - 1) h61 h53 hro (by omega) Bs u L hL w0 w hw hR hBs hc)
 clear hR hc hw
 refine callsIn_of_wp Try.func79 rfl h51 ?_ hro
 simp only[Try.ntmps79,List.size_toArray,List.length_cons,List.length_nil,Nat.reduceAdd,Nat.reduceSub,Array.replicate_succ,Array.replicate_zero,List.push_toArray,List.append_toArray,List.nil_append,List.cons_append]
 gi_wp2_with (gi_at_call 85;refine C.out.mono ?_;rintro e w1 ⟨v,rfl,ho,hb⟩)
 go_ret
 exact⟨v,rfl,ho,hb⟩
theorem Collect_any (Bs:Nat) (u:Value) (L:List PromC) (hL:L.length<=1000) (w0 w:World) (hw:Below w0.heap.size w0 w) (hR:RdX 6 cellsP w0 u L) (hBs:Bs<w.heap.size) (hc:w.cell? ⟨Bs,0,none⟩=some u):
  Calls Try.prog 79 #[.func (.func 81) #[] #[.pointer (some ⟨Bs,0,none⟩)]] w fun e W'=> ∃v,e= .returned v/\W'.ownsRow w.heap.size 59 6 v L.length (flatX cellsP L)/\Below w.heap.size w W':=
 callsIn_wide.1 (Collect_in Fence.wide 4 trivial trivial trivial rfl (Nat.le_refl _) Bs u L hL w0 w hw hR hBs hc)
theorem own_shape {w:World} {base m:Nat} {e:TypeId} {v:Value} {xs:List Value} (ho:w.ownsRow base e 6 v m xs) (h0:0<m): ∃g cap,v= .slice (some ⟨g,0,none⟩) m cap:=by
 rcases ho.2 with ⟨_,h'⟩ | ⟨g,cap,cur,rfl,_⟩
 ·omega
 ·exact⟨g,cap,rfl⟩
theorem box1_atP (w:World) (v:Value) (t:TypeId) (w':World) (hb:Below (w.alloc (.cells #[v] t)).heap.size (w.alloc (.cells #[v] t)) w'):w'.cell? ⟨w.heap.size,0,none⟩=some v:=by
 have h0:w.heap.size<(w.alloc (.cells #[v] t)).heap.size :=by simp
 rw[hb.cell (p:=⟨w.heap.size,0,none⟩) h0]
 simp [go_sem]
def SortedR (base:Nat) (v:Value) (L:List PromC) (w:World) (e:Ending) (w':World):Prop:=
 e= .returned (.tuple #[])/\w'.ownsRow base 59 6 v L.length (flatX cellsP (sortC L))/\Below base w w'
theorem SortFunc_own (base:Nat) (v:Value) (L:List PromC) (hN:L.length<=12) (h0:0<L.length) (w:World) (h:w.ownsRow base 59 6 v L.length (flatX cellsP L)) (hb:base<=w.heap.size):
  Calls Try.prog 80 #[v,.func (.func 73) #[] #[]] w (SortedR base v L w):=by
 rcases h.2 with ⟨_,q⟩ | ⟨g,cap,cur,rfl,hbg,hg,hn,hc,hs,ht⟩
 ·omega
 obtain⟨T,hT⟩: ∃T,cur.toList.drop (L.length*6)=T:=⟨_,rfl⟩
 have hcur:cur=(flatX cellsP L++T).toArray :=by
  apply Array.ext'
  show cur.toList=flatX cellsP L++T
  rw[<-ht,<-hT,List.take_append_drop]
 have hR:RowC w g L T:=⟨by rw[hg,hcur]⟩
 refine(SortFunc_any g L T cap hn hN w hR).mono ?_
 rintro e w' ⟨rfl,hr,hgr⟩
 have hl1:(flatX cellsP L).length =L.length*6:=flatX_length cellsP_length L
 have hl2:(flatX cellsP (sortC L)).length =L.length*6:=by rw[flatX_length cellsP_length,sortC_length]
 refine⟨rfl,⟨hl2,.inr ⟨g,cap,_,rfl,hbg,hr.ex,hn,hc,?_,?_⟩⟩,(Below.refl base w).grown hgr hb (fun k hk=>by cases hk;exact hbg)⟩
 ·rw[hcur] at hs
  simp only[List.size_toArray,List.length_append] at hs ⊢
  rw[hl2]
  rw[hl1] at hs
  exact hs
 ·show List.take _ (flatX cellsP (sortC L)++T)= _
  rw[<-hl2,List.take_left']
  rfl
def SortedN (L:List PromC) (w:World) (e:Ending) (w':World):Prop:=
 ∃v,e= .returned v/\w'.ownsRow w.heap.size 59 6 v L.length (flatX cellsP (sortC L))/\Below w.heap.size w w'
set_option maxHeartbeats 4000000 in
theorem SortedFunc_any (Bs:Nat) (u:Value) (L:List PromC) (hN:L.length<=12) (h0:0<L.length) (w0 w:World) (hw:Below w0.heap.size w0 w) (hR:RdX 6 cellsP w0 u L) (hBs:Bs<w.heap.size) (hc:w.cell? ⟨Bs,0,none⟩=some u):
  Calls Try.prog 71 #[.func (.func 81) #[] #[.pointer (some ⟨Bs,0,none⟩)],.func (.func 73) #[] #[]] w (SortedN L w):=by
 have CC:=hid (Collect_any Bs u L (by omega) w0 w hw hR hBs hc)
 have CS:=hid (fun v W (h:W.ownsRow w.heap.size 59 6 v L.length (flatX cellsP L)) hb=>SortFunc_own w.heap.size v L hN h0 W h hb)
 have HN:=hid h0
 clear hR hc hw hN h0
 unfold SortedN
 go_enter Try.func71,Try.ntmps71
 go_upto_region 2 with (go_at_call 79;refine CC.out.mono ?_;rintro e w1 ⟨v,rfl,ho,hb⟩;obtain⟨g,cap,hv⟩:=own_shape ho HN.out;subst hv)
 have C2:=hid (CS.out _ w1 ho hb.size)
 have HB:=hid hb
 clear ho hb CC CS
 generalize L.length=N at*
 go_wp2_with (go_at_call 80;refine C2.out.mono ?_;rintro e w2 ⟨rfl,ho,hb2⟩)
 go_ret
 exact⟨_,rfl,ho,HB.out.trans hb2⟩
set_option maxHeartbeats 4000000 in
theorem byFrom_any (v:Value) (L:List PromC) (hN:L.length<=12) (h0:0<L.length) (w:World) (hR:RdX 6 cellsP w v L):Calls Try.prog 63 #[v] w (SortedN L w):=by
 obtain⟨a,cap,rfl⟩:=hR.form
 have CV:=hid (fun w=>Values_any a L.length cap w)
 have hb:=newAlloc w (.cells #[.slice a L.length cap] 77)
 have C2:=hid (SortedFunc_any w.heap.size _ L hN h0 w _ hb hR (by simp) (box1_atP w _ _ _ (Below.refl _ _)))
 have HB:=hid hb
 have HS:=hid (show(w.alloc (.cells #[.slice a L.length cap] 77)).heap.size =w.heap.size+1 by simp)
 clear hR hb
 unfold SortedN at C2 ⊢
 generalize L.length=N at*
 go_enter Try.func63,Try.ntmps63
 go_wp2_with (first
  | (go_at_call 72;refine(CV.out _).mono ?_;rintro e w1 ⟨rfl,rfl⟩)
  | (go_at_call 71;refine C2.out.mono ?_;rintro e w2 ⟨v,rfl,ho,hb2⟩))
 go_ret
 exact⟨_,rfl,own_lowerX ho HB.out.size,step HB.out hb2⟩
end Pl
end Go.Proofs.Ytbpmfjjbfiiiaaa

/- Of promises that may be: their votes; twins; the greatest Done. No program is named here. -/
set_option linter.unusedVariables false
set_option maxRecDepth 8000
set_option linter.unusedSimpArgs false
namespace Go.Proofs.Ytbpmfjjbfiiiaaa
open Lib (hid)
open Go.RowKit
namespace Pl
open Cm Ac

structure VoteOk (d:Int) (v:VoteV):Prop where
 low:d<v.slot
 most:v.slot<=d+9
 high:v.slot<=2305843009213693952
 b0:0<=v.ballot
 b1:v.ballot<=2305843009213693952
 may:mayB v.bat=true
theorem voteOk_iff {d b:Int} {v:VoteV} :voteOk d b v=true ↔ b<v.slot/\v.slot<=d+9/\v.slot<=2305843009213693952/\0<=v.ballot/\v.ballot<=2305843009213693952/\mayB v.bat=true:=by
 unfold voteOk highF
 simp only[Bool.and_eq_true,decide_eq_true_eq]
 constructor
 ·rintro ⟨⟨⟨⟨h1,h2⟩,h3⟩,h4,h5⟩,h6⟩
  exact⟨h1,h2,h3,h4,h5,h6⟩
 ·rintro ⟨h1,h2,h3,h4,h5,h6⟩
  exact⟨⟨⟨⟨h1,h2⟩,h3⟩,h4,h5⟩,h6⟩
theorem mayVs_all {d:Int} : ∀(l:List VoteV) (b:Int),d<=b->mayVs d b l=true->(∀v∈l,VoteOk d v/\b<v.slot)/\l.Pairwise fun x y=>x.slot<y.slot
 | [],_,_,_=>⟨fun v hv=>(by cases hv),List.Pairwise.nil⟩
 | x::l,b,hb,h=>by
  rw[mayVs,Bool.and_eq_true,voteOk_iff] at h
  obtain⟨⟨h1,h2,h3,h4,h5,h6⟩,h7⟩:=h
  obtain⟨i1,i2⟩:=mayVs_all l x.slot (by omega) h7
  refine⟨fun v hv=>?_,List.pairwise_cons.2 ⟨fun v hv=>(i1 v hv).2,i2⟩⟩
  rcases List.mem_cons.1 hv with rfl | hv
  ·exact⟨⟨by omega,h2,h3,h4,h5,h6⟩,h1⟩
  ·obtain⟨j1,j2⟩:=i1 v hv
   exact⟨j1,by omega⟩
structure PromOk (p:PromV):Prop where
 w0:0<=p.who
 w7:p.who<7
 d0:0<=p.done
 d1:p.done<=2305843009213693952
 n9:p.votes.length<=9
 votes: ∀v∈p.votes,VoteOk p.done v
 rise:p.votes.Pairwise fun x y=>x.slot<y.slot
theorem mayP_ok {p:PromV} (h:mayP p=true):PromOk p:=by
 unfold mayP headP highF at h
 simp only[Bool.and_eq_true,decide_eq_true_eq] at h
 obtain⟨⟨⟨⟨⟨⟨h1,h2⟩,h3,h4⟩, -⟩, -⟩,h5⟩,h6⟩:=h
 obtain⟨i1,i2⟩:=mayVs_all p.votes p.done (Int.le_refl _) h6
 exact⟨h1,h2,h3,h4,h5,fun v hv=>(i1 v hv).1,i2⟩
theorem mayB_few {x:BatV} (h:mayB x=true):x.reqs.length<=3:=by
 unfold mayB at h
 split at h
 ·simp only[Bool.and_eq_true,decide_eq_true_eq] at h
  omega
 ·unfold reqsF at h
  simp only[Bool.and_eq_true,decide_eq_true_eq] at h
  omega
theorem twins_iff: ∀l:List PromV,l.Pairwise (fun a b=>a.who<=b.who)->(twinsF l=false ↔ l.Pairwise fun a b=>a.who≠b.who)
 | [],_=>by simp [twinsF]
 | [x],_=>by simp [twinsF]
 | x::y::l,h=>by
  obtain⟨h1,h2⟩:=List.pairwise_cons.1 h
  rw[twinsF,Bool.or_eq_false_iff,twins_iff (y::l) h2,decide_eq_false_iff_not,@List.pairwise_cons _ _ x]
  constructor
  ·rintro ⟨q1,q2⟩
   refine⟨fun z hz=>?_,q2⟩
   have hxy:=h1 y List.mem_cons_self
   rcases List.mem_cons.1 hz with rfl | hz
   ·exact q1
   ·have:=(List.pairwise_cons.1 h2).1 z hz
    omega
  ·rintro ⟨q1,q2⟩
   exact⟨q1 y List.mem_cons_self,q2⟩
theorem twins_ok {l:List PromV} (h: ∀x∈l,mayP x=true):twinsF (sortP l)= !okS [] l:=by
 have hs:=twins_iff (sortP l) (sortP_rise l)
 have hp:(sortP l).Pairwise (fun a b=>a.who≠b.who) ↔ l.Pairwise fun a b=>a.who≠b.who:=(sortP_perm l).pairwise_iff (fun {a b} r e=>r e.symm)
 have ho:=okS_iff l []
 cases q:okS [] l
 ·cases q2:twinsF (sortP l)
  ·rw[ho.2 ⟨h,hp.1 (hs.1 q2),fun x _ y hy=>by cases hy⟩] at q
   cases q
  ·rfl
 ·exact hs.2 (hp.2 (ho.1 q).2.1)
theorem newF_most: ∀(l:List PromV) (p x:PromV),x∈p::l->x.done<=(newF p l).done
 | [],p,x,h=>by
  rw[List.mem_singleton] at h
  rw[h]
  exact Int.le_refl _
 | y::l,p,x,h=>by
  rw[newF]
  rcases List.mem_cons.1 h with rfl | h
  ·refine Int.le_trans ?_ (newF_most l _ _ List.mem_cons_self)
   split<;>omega
  ·rcases List.mem_cons.1 h with rfl | h
   ·refine Int.le_trans ?_ (newF_most l _ _ List.mem_cons_self)
    split<;>omega
   ·exact newF_most l _ x (List.mem_cons_of_mem _ h)
theorem newF_mem: ∀(l:List PromV) (p:PromV),newF p l∈p::l
 | [],p=>List.mem_cons_self
 | y::l,p=>by
  rw[newF]
  have:=newF_mem l (if p.done<y.done then y else p)
  rcases List.mem_cons.1 this with e | e
  ·rw[e]
   split
   ·exact List.mem_cons_of_mem _ List.mem_cons_self
   ·exact List.mem_cons_self
  ·exact List.mem_cons_of_mem _ (List.mem_cons_of_mem _ e)
theorem stepB_len (d:Int) (s:BestV) (v:VoteV):(stepB d s v).row.length =s.row.length:=by
 unfold stepB
 split
 ·show(s.row.set _ _).length = _
  rw[List.length_set]
 ·rfl
theorem votesB_len (d:Int): ∀(l:List VoteV) (s:BestV),(votesB d s l).row.length =s.row.length
 | [],s=>rfl
 | v::l,s=>(votesB_len d l (stepB d s v)).trans (stepB_len d s v)
theorem bestB_len (d:Int): ∀(l:List PromV) (s:BestV),(bestB d s l).row.length =s.row.length
 | [],s=>rfl
 | p::l,s=>(bestB_len d l (votesB d s p.votes)).trans (votesB_len d p.votes s)
theorem batsF_len (l:List PromV) (d:Int):(batsF l d).length <=9:=by
 unfold batsF
 rw[List.length_map,List.length_take,bestB_len]
 show min _ (List.replicate 9 zeroV).length <=9
 rw[List.length_replicate]
 omega
end Pl
end Go.Proofs.Ytbpmfjjbfiiiaaa
