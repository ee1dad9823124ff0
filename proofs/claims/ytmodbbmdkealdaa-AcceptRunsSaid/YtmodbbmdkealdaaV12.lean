/- Texts laid together by program. -/
import Derived.Test.YtmodbbmdkealdaaV11
/- The document's acceptor in memory; contracts: its Promise, its Trim. -/
set_option linter.unusedVariables false
set_option maxRecDepth 8000
set_option linter.unusedSimpArgs false
namespace Go.Proofs.Ytmodbbmdkealdaa
open Lib (hid)
open Go.RowKit
namespace Ac
open Cm

theorem RdX.blockLt {α:Type} {sz:Nat} {f:α->List Value} {w:World} {v:Value} {l:List α} (h:RdX sz f w v l) (hf: ∀x,0<(f x).length): ∀k,v.ownBlock=some k->l≠ []->k<w.heap.size:=fun k hk hl=>by
 obtain⟨a,cap,hv,h1,h2,h3,h4⟩:=h.ex
 subst hv
 cases a with
 | none=>cases hk
 | some x=>
  obtain⟨_,hc⟩:=h4 x rfl hl
  have hk:x.block=k:=by injection hk
  have h0:0<l.length:=List.length_pos_iff.2 hl
  have hc0:=hc 0 h0 0 _ (List.getElem?_eq_getElem (hf l[0]))
  rw[<-hk]
  exact lt_of_cell (a:=⟨x.block,x.off+(0*sz+0),none⟩) hc0
structure HasW (w:World) (g1 g m:Nat) (s:AccV):Prop where
 ex: ∃(v:Value) (L:List VoteC),w.heap[g]?=some (.cells #[.int .i64 s.ballot,.int .i64 s.done,v] 35)/\valsV L=s.votes/\w.ownsRow m 49 8 v L.length (flatX cellsV L)/\ ∀x∈L,RdR w x.u x.bat.reqs/\(∀b,x.u.ownBlock=some b->x.bat.reqs≠ []->b≠g/\b≠g1)
 gm:g<m
 gm1:g1<m
 mw:m<=w.heap.size
section
variable {w w' : World} {g1 g m k : Nat} {s : AccV}
theorem HasW.lt (h:HasW w g1 g m s):g<w.heap.size:=Nat.lt_of_lt_of_le h.gm h.mw
theorem HasW.later (h:HasW w g1 g m s) (hb:Below w.heap.size w w'):HasW w' g1 g m s:=by
 obtain⟨v,L,h1,h2,h3,h4⟩:=h.ex
 exact⟨⟨v,L,(hb.block _ h.lt).trans h1,h2,Rw.own_below h3 hb,fun x hx=>⟨(h4 x hx).1.later hb,(h4 x hx).2⟩⟩,h.gm,h.gm1,Nat.le_trans h.mw hb.size⟩
theorem HasW.other (h:HasW w g1 g m s) (hg:w.grownBy w' (some g1)) (hne:g≠g1):HasW w' g1 g m s:=by
 obtain⟨v,L,h1,h2,h3,h4⟩:=h.ex
 refine⟨⟨v,L,(hg.block _ h.lt (fun q=>hne (by cases q;rfl))).trans h1,h2,?_,fun x hx=>⟨(h4 x hx).1.but hg (fun b hb hl q=>((h4 x hx).2 b hb hl).2 (by cases q;rfl)),(h4 x hx).2⟩⟩,h.gm,h.gm1,Nat.le_trans h.mw hg.size⟩
 exact Rw.own_keep h3 fun j hj=>hg.block j (Rw.own_lt h3 j hj).2 (fun q=>by cases q;have:=(Rw.own_lt h3 _ hj).1;have:=h.gm1;omega)
theorem HasW.c0 (h:HasW w g1 g m s):w.cell? ⟨g,0,none⟩=some (.int .i64 s.ballot):=by
 obtain⟨v,L,h1, -⟩:=h.ex
 exact cell_at h1 0
theorem HasW.c1 (h:HasW w g1 g m s):w.cell? ⟨g,1,none⟩=some (.int .i64 s.done):=by
 obtain⟨v,L,h1, -⟩:=h.ex
 exact cell_at h1 1
theorem HasW.open_ (h:HasW w g1 g m s) (j:Nat):w.frozen? ⟨g,j,none⟩=false:=by
 obtain⟨v,L,h1, -⟩:=h.ex
 exact frozen_at h1 j
theorem HasW.putB (h:HasW w g1 g m s) (b:Int):HasW (w.setCell ⟨g,0,none⟩ (.int .i64 b)) g1 g m ⟨b,s.done,s.votes⟩:=by
 obtain⟨v,L,h1,h2,h3,h4⟩:=h.ex
 have hg:=grown_setA w g 0 (.int .i64 b)
 refine⟨⟨v,L,by rw[set_atB h1];rfl,h2,?_,fun x hx=>⟨(h4 x hx).1.but hg (fun b hb hl q=>((h4 x hx).2 b hb hl).1 (by cases q;rfl)),(h4 x hx).2⟩⟩,h.gm,h.gm1,Nat.le_trans h.mw hg.size⟩
 exact Rw.own_keep h3 fun j hj=>hg.block j (Rw.own_lt h3 j hj).2 (fun q=>by cases q;have:=(Rw.own_lt h3 _ hj).1;have:=h.gm;omega)
theorem hasW_put {v v':Value} {b d:Int} {M:List VoteC} {l:List VoteV} (h1:w.heap[g]?=some (.cells #[.int .i64 b,.int .i64 d,v] 35)) (hv:valsV M=l) (ho:w.ownsRow m 49 8 v' M.length (flatX cellsV M)) (hr: ∀x∈M,RdR w x.u x.bat.reqs/\(∀b,x.u.ownBlock=some b->x.bat.reqs≠ []->b≠g/\b≠g1)) (gm:g<m) (gm1:g1<m) (mw:m<=w.heap.size):HasW (w.setCell ⟨g,2,none⟩ v') g1 g m ⟨b,d,l⟩:=by
 have hg:=grown_setA w g 2 v'
 refine⟨⟨v',M,by rw[set_atB h1];rfl,hv,?_,fun x hx=>⟨(hr x hx).1.but hg (fun b hb hl q=>((hr x hx).2 b hb hl).1 (by cases q;rfl)),(hr x hx).2⟩⟩,gm,gm1,Nat.le_trans mw hg.size⟩
 exact Rw.own_keep ho fun j hj=>hg.block j (Rw.own_lt ho j hj).2 (fun q=>by cases q;have:=(Rw.own_lt ho _ hj).1;omega)
theorem HasW.new (h1:w.heap[g]?=some (.cells #[.int .i64 0,.int .i64 0,.slice none 0 0] 35)) (h2:g<m) (h3:g1<m) (h4:m<=w.heap.size):HasW w g1 g m newA:=
 ⟨⟨.slice none 0 0,[],h1,rfl,World.ownsRow_nil _ _ _ _,fun x hx=>by cases hx⟩,h2,h3,h4⟩
end

def DidW (g1 g m:Nat) (r:AccV × Int) (w:World) (e:Ending) (w':World):Prop:=e= .returned (.int .i64 r.2)/\HasW w' g1 g m r.1/\w.grownBy w' (some g)
theorem RefPromise_any (g1 g m:Nat) (s:AccV) (b:Int) (w:World) (h:HasW w g1 g m s):Calls Try.prog 13 #[.pointer (some ⟨g,0,none⟩),.int .i64 b] w (DidW g1 g m (promF s b) w):=by
 have CB:=hid (fun w=>high12_any b 0 w)
 have c0:=h.c0
 have cf:=h.open_ 0
 have HH:=hid h
 clear h
 rcases q:promF s b with ⟨s',c⟩
 unfold promF at q
 by_cases h1:highF b 0=false
 ·rw[if_pos h1] at q
  rw[h1] at CB
  cases q
  go_enter Try.func13,Try.ntmps13
  go_wp2_with (go_at_call 25;refine(CB.out _).mono ?_;rintro e w1 ⟨rfl,rfl⟩)
  go_ret
  exact⟨rfl,HH.out,World.grownBy.refl _ _⟩
 rw[if_neg h1] at q
 rw[Bool.not_eq_false] at h1
 rw[h1] at CB
 by_cases h2:b<s.ballot
 ·rw[if_pos h2] at q
  cases q
  have d:decide (b<s.ballot)=true:=decide_eq_true h2
  clear h2
  go_enter Try.func13,Try.ntmps13
  go_wp2_with (go_at_call 25;refine(CB.out _).mono ?_;rintro e w1 ⟨rfl,rfl⟩)
  go_ret
  exact⟨rfl,HH.out,World.grownBy.refl _ _⟩
 rw[if_neg h2] at q
 cases q
 have d:decide (b<s.ballot)=false:=decide_eq_false h2
 clear h2
 go_enter Try.func13,Try.ntmps13
 go_wp2_with (go_at_call 25;refine(CB.out _).mono ?_;rintro e w1 ⟨rfl,rfl⟩)
 go_ret
 exact⟨rfl,HH.out.putB b,grown_setA _ _ _ _⟩
set_option maxHeartbeats 4000000 in
theorem RefTrim_any (g1 g m:Nat) (s:AccV) (d:Int) (w:World) (h:HasW w g1 g m s) (hs:Good s):
  Calls Try.prog 17 #[.pointer (some ⟨g,0,none⟩),.int .i64 d] w (fun e w'=>e= .returned (.tuple #[])/\HasW w' g1 g m (trimF s d)/\w.grownBy w' (some g)):=by
 have c1:=h.c1
 have cf:=h.open_ 1
 have HH:=hid h
 have HG:=hid hs
 clear h hs
 obtain⟨s',hE⟩: ∃s',trimF s d=s':=⟨_,rfl⟩
 rw[hE]
 unfold trimF at hE
 by_cases h1:d<=s.done
 ·rw[if_pos (.inl h1)] at hE
  subst hE
  have d1:decide (d<=s.done)=true:=decide_eq_true h1
  clear h1
  go_enter Try.func17,Try.ntmps17
  go_wp2
  refine bodyPost_ret (by simp [results,Try.results17,go_sem]<;>rfl) rfl ⟨rfl,HH.out,World.grownBy.refl _ _⟩
 have d1:decide (d<=s.done)=false:=decide_eq_false h1
 by_cases h2:2305843009213693952<d
 ·rw[if_pos (.inr h2)] at hE
  subst hE
  have d2:decide (2305843009213693952<d)=true:=decide_eq_true h2
  clear h1 h2
  go_enter Try.func17,Try.ntmps17
  go_wp2
  refine bodyPost_ret (by simp [results,Try.results17,go_sem]<;>rfl) rfl ⟨rfl,HH.out,World.grownBy.refl _ _⟩
 have d2:decide (2305843009213693952<d)=false:=decide_eq_false h2
 rw[if_neg (by omega)] at hE
 have HE:=hid hE
 clear h1 h2 hE
 obtain⟨lv,L,hL1,hL2,hL3,hL4⟩:=HH.out.ex
 obtain⟨la,lc,rfl⟩:=Rw.own_form hL3
 have hg1:=grown_setA w g 1 (.int .i64 d)
 have hb1:(w.setCell ⟨g,1,none⟩ (.int .i64 d)).heap[g]?=some (.cells #[.int .i64 s.ballot,.int .i64 d,.slice la L.length lc] 35):=by rw[set_atB hL1];rfl
 have ho1:(w.setCell ⟨g,1,none⟩ (.int .i64 d)).ownsRow m 49 8 (.slice la L.length lc) L.length (flatX cellsV L):=Rw.own_keep hL3 fun j hj=>hg1.block j (Rw.own_lt hL3 j hj).2 (fun q=>by cases q;have:=(Rw.own_lt hL3 _ hj).1;have:=HH.out.gm;omega)
 have hr1: ∀x∈L,RdR (w.setCell ⟨g,1,none⟩ (.int .i64 d)) x.u x.bat.reqs/\(∀b,x.u.ownBlock=some b->x.bat.reqs≠ []->b≠g/\b≠g1):=fun x hx=>⟨(hL4 x hx).1.but hg1 (fun b hb hl q=>((hL4 x hx).2 b hb hl).1 (by cases q;rfl)),(hL4 x hx).2⟩
 have HGW:=hid hg1
 have HB1:=hid hb1
 have HO1:=hid ho1
 have HR1:=hid hr1
 have HMW:Hid (m<=(w.setCell ⟨g,1,none⟩ (.int .i64 d)).heap.size):=hid (Nat.le_trans HH.out.mw hg1.size)
 have HLV:=hid hL2
 have hn:L.length<=9:=by rw[<-valsV_length,hL2];exact good_len HG.out
 clear hL1 hL2 hL3 hL4 hg1 hb1 ho1 hr1
 obtain⟨i1,hi1,hz0,hz1,hz2⟩:=info_partsA infoV
 go_enter Try.func17,Try.ntmps17
 go_upto_region 2 with fail
 clear c1 cf d1 d2
 generalize w.setCell ⟨g,1,none⟩ (.int .i64 d)=W1 at HGW HB1 HO1 HR1 HMW ⊢
 have HAT:=hid (fun i hi=>rdv_at (RdX.own cellsV_length HO1.out) i hi)
 obtain⟨n,hnn⟩: ∃n,L.length=n:=⟨_,rfl⟩
 have HN:=hid hnn
 rw[hnn] at hn HB1
 clear hnn
 have HC2:Hid (∀W,Below W1.heap.size W1 W->W.cell? ⟨g,2,none⟩=some (.slice la n lc)/\ ∀j,W.frozen? ⟨g,j,none⟩=false):=hid fun W hb=>⟨cell_at (cells_later HB1.out hb) 2,frozen_at (cells_later HB1.out hb)⟩
 go_wp2
 go_loopw [4,5] (fun v i wr=> ∃k:Nat,k<=n/\i= .int .i64 (k:Int)/\Hid (wr.ownsRow W1.heap.size 49 8 v ((L.take k).filter fun x=>decide (d<x.slot)).length (flatX cellsV ((L.take k).filter fun x=>decide (d<x.slot))))/\Hid (Below W1.heap.size W1 wr)) (fun _ i _=>n - (intOf i).toNat)
 case atStart=>exact⟨0,by omega,rfl,hid (World.ownsRow_nil _ _ _ _),hid (Below.refl _ _)⟩
 case round=>
  obtain⟨k,hk,rfl,HOW,HBW⟩:=hrel
  obtain⟨c2,cf⟩:=HC2.out _ HBW.out
  by_cases hlt:k<n
  ·have hkl:k<L.length:=by rw[HN.out];exact hlt
   obtain⟨b',o',rfl,hc⟩:=HAT.out k hkl
   obtain⟨q0,q1,q2,q3,q4,q5,q6,q7⟩:=hc _ HBW.out
   have hf:=filter_take L d k hkl
   clear hc HAT
   generalize L[k]=x at q0 q1 q2 q3 q4 q5 q6 q7 hf
   obtain⟨x1,x2,⟨x3,x4,x5,x6,x7,x8⟩,xa,xc⟩:=x
   unfold VoteC.u at q7
   dsimp only at q0 q1 q2 q3 q4 q5 q6 q7 hf
   have hlen:((L.take k).filter fun x=>decide (d<x.slot)).length <=k:=Nat.le_trans (List.length_filter_le _ _) (by rw[List.length_take];omega)
   generalize (L.take k).filter (fun x=>decide (d<x.slot))=M at HOW hf hlen
   have k1:(k:Int)<(n:Int):=by omega
   by_cases e:d<x1
   ·have d1:decide (d<x1)=true:=decide_eq_true e
    rw[if_pos e] at hf
    have HF:=hid hf
    have hb5:=HBW.out.size
    clear e hf
    obtain⟨ma,mc,hmv⟩:=Rw.own_form HOW.out
    subst hmv
    go_wp2_with (at_builtin;refine wpList_append_one cellsV_length (by omega) rfl _ _ 33 rfl 49 i1 _ 80 Try.underlying33 hi1 hz0 hz1 hz2 rfl #[.int .i64 x1,.int .i64 x2,.bool x3,.int .i64 x4,.int .i64 x5,.int .i64 x6,.int .i64 x7,.slice xa x8.length xc] (⟨x1,x2,⟨x3,x4,x5,x6,x7,x8⟩,xa,xc⟩:VoteC) rfl (cellsV_one _) M W1.heap.size W1.heap.size W1 (.slice ma M.length mc) rfl rfl HOW.out (by unfold maxLen;omega) (by omega) hb5 HBW.out (Nat.le_refl _) ?_;intro v6 w6 ho6 hb6 _;have HO6:=hid ho6;have HB6:=hid hb6;clear ho6 hb6)
    go_roundw
    case rel=>exact⟨k+1,by omega,by go_num,by rw[HF.out];exact HO6,HB6⟩
    case measure=>simp [intOf];omega
   ·have d1:decide (d<x1)=false:=decide_eq_false e
    rw[if_neg e,List.append_nil] at hf
    have HF:=hid hf
    clear e hf
    go_wp2
    go_roundw
    case rel=>exact⟨k+1,by omega,by go_num,by rw[HF.out];exact HOW,HBW⟩
    case measure=>simp [intOf];omega
  ·obtain rfl:k=n:=by omega
   have hT:L.take k=L:=by rw[<-HN.out];exact List.take_length
   rw[hT] at HOW
   obtain⟨ta,tc,hta⟩:=Rw.own_form HOW.out
   subst hta
   have HF:Hid (HasW (wr.setCell ⟨g,2,none⟩ (.slice ta (L.filter fun x=>decide (d<x.slot)).length tc)) g1 g m s'):=hid (by
    rw[<-HE.out]
    refine hasW_put (cells_later HB1.out HBW.out) (by rw[vals_filter,HLV.out]) (own_lowerX HOW.out HMW.out) (fun x hx=>?_) HH.out.gm HH.out.gm1 (Nat.le_trans HMW.out HBW.out.size)
    have hx':=(List.mem_filter.1 hx).1
    exact⟨(HR1.out x hx').1.later HBW.out,(HR1.out x hx').2⟩)
   have HGF:Hid (w.grownBy (wr.setCell ⟨g,2,none⟩ (.slice ta (L.filter fun x=>decide (d<x.slot)).length tc)) (some g)):=hid ((gr_below HGW.out HBW.out).trans (grown_setA _ _ _ _))
   clear HOW hT HAT
   generalize (L.filter fun x=>decide (d<x.slot)).length =ml at HF HGF ⊢
   go_wp2
   go_end0
   exact⟨rfl,HF.out,HGF.out⟩
end Ac
end Go.Proofs.Ytmodbbmdkealdaa
