/- Texts laid together by program. -/
import Derived.Test.YtclcgkpfcogcdaaGreatQ47
import Derived.Deep.RegionWith
/- Arguments that are slices of acts of layer 10, one such act, opened. -/
set_option linter.unusedVariables false
set_option maxRecDepth 8000
set_option linter.unusedSimpArgs false
namespace Go.Proofs.YtclcgkpfcogcdaaGreat
open Lib (hid)
open Go.RowKit Go.ChangeShapes Go.WideShapes Go.Deep
namespace Cm
section
variable {H : Type} {enc : TypeId × Value → H} {W : World} {base : Nat} {sp : Nat → Bool} {held : Bool}
theorem trod_struct6 {P:Program} {t:TypeId} {f0 f1 f2 f3 f4 f5:Field} {fuel:Nat} {cs:List Value} {x:DataW H × List MemPlace} (ht:P.underlying t=some (.struct #[f0,f1,f2,f3,f4,f5])) (h:DataW.trod enc P W base sp held fuel t cs=some x):
  ∃y0 y1 y2 y3 y4 y5 n,cs.length=P.cellsOf t/\DataW.trod enc P W base sp held n f0.type ((cs.drop f0.offset).take (P.cellsOf f0.type))=some y0/\
   DataW.trod enc P W base sp held n f1.type ((cs.drop f1.offset).take (P.cellsOf f1.type))=some y1/\DataW.trod enc P W base sp held n f2.type ((cs.drop f2.offset).take (P.cellsOf f2.type))=some y2/\
   DataW.trod enc P W base sp held n f3.type ((cs.drop f3.offset).take (P.cellsOf f3.type))=some y3/\DataW.trod enc P W base sp held n f4.type ((cs.drop f4.offset).take (P.cellsOf f4.type))=some y4/\
   DataW.trod enc P W base sp held n f5.type ((cs.drop f5.offset).take (P.cellsOf f5.type))=some y5:=by
 obtain⟨xs,n,_,rfl,hl,hlen,hf⟩:=DataW.trod_struct ht h
 match xs,hlen with
 | [y0,y1,y2,y3,y4,y5],_=>exact⟨y0,y1,y2,y3,y4,y5,n,hl,by simpa using hf 0 f0 rfl,by simpa using hf 1 f1 rfl,by simpa using hf 2 f2 rfl,by simpa using hf 3 f3 rfl,by simpa using hf 4 f4 rfl,by simpa using hf 5 f5 rfl⟩
theorem u8_10 {n:Int} (h:(Lit.int .u8 n).wf =true): ∃k:Nat,n=(k:Int)/\k<256:=by
 have:0<=n/\n<256:=by
  simp [Lit.wf,IntKind.min,IntKind.max,IntKind.signed,IntKind.bits] at h
  omega
 exact⟨n.toNat,by omega,by omega⟩
theorem list6 {α:Type} {cs:List α} (h:cs.length=6): ∃c0 c1 c2 c3 c4 c5,cs= [c0,c1,c2,c3,c4,c5]:=by
 match cs,h with
 | [c0,c1,c2,c3,c4,c5],_=>exact⟨c0,c1,c2,c3,c4,c5,rfl⟩
theorem act10_cells (fuel:Nat) (cs:List Value) (x:DataW H × List MemPlace) (h:DataW.trod enc Tryz.prog W base sp held fuel 84 cs=some x): ∃a: {a:Act10 // a.ok},cs=cells10 a.1:=by
 have hce:Tryz.prog.cellsOf 84=6:=by kernel_rfl
 obtain⟨y0,y1,y2,y3,y4,y5,n',hlen,t0,t1,t2,t3,t4,t5⟩:=trod_struct6 Tryz.underlying84 h
 rw[hce] at hlen
 obtain⟨c0,c1,c2,c3,c4,c5,rfl⟩:=list6 hlen
 obtain⟨d0,e0,_,w0⟩:=DataW.trod_int Tryz.underlying5 t0
 obtain⟨d1,e1,_,w1⟩:=DataW.trod_int Tryz.underlying5 t1
 obtain⟨d2,e2,_,w2⟩:=DataW.trod_int Tryz.underlying5 t2
 obtain⟨d3,e3,_,w3⟩:=DataW.trod_int Tryz.underlying5 t3
 obtain⟨d4,e4,_,w4⟩:=DataW.trod_int Tryz.underlying5 t4
 obtain⟨d5,e5,_,w5⟩:=DataW.trod_int Tryz.underlying5 t5
 have e0':c0= .int .u8 d0:=by injection e0
 have e1':c1= .int .u8 d1:=by injection e1
 have e2':c2= .int .u8 d2:=by injection e2
 have e3':c3= .int .u8 d3:=by injection e3
 have e4':c4= .int .u8 d4:=by injection e4
 have e5':c5= .int .u8 d5:=by injection e5
 obtain⟨q0,rfl,h0⟩:=u8_10 w0
 obtain⟨q1,rfl,h1⟩:=u8_10 w1
 obtain⟨q2,rfl,h2⟩:=u8_10 w2
 obtain⟨q3,rfl,h3⟩:=u8_10 w3
 obtain⟨q4,rfl,h4⟩:=u8_10 w4
 obtain⟨q5,rfl,h5⟩:=u8_10 w5
 exact⟨⟨⟨q0,q1,q2,q3,q4,q5⟩,h0,h1,h2,h3,h4,h5⟩,by rw[e0',e1',e2',e3',e4',e5'];rfl⟩
end
section
variable {H : Type} {enc : TypeId × Value → H} {W : World}
def act10A (a:List Act10 × Value):Value:=a.2
def act10OkA (w:World) (a:List Act10 × Value):Prop:=RdA w a.2 a.1
theorem open_act10 {r:Reach} {b0:Nat} {v:Value} {d:DataW H} {p:List MemPlace} (hv:Value.okWide Tryz.prog W r b0 43 v) (h:DataW.Trod enc Tryz.prog W 0 (fun _=>true) true 43 v d p): ∃a:List Act10 × Value,v=act10A a/\act10OkA W a:=by
 obtain⟨a,len,cap,rfl⟩:=okWide_slice Tryz.underlying43 hv
 obtain⟨m,hm⟩:=h
 obtain⟨u,l,hu,hl⟩:=slice_of (f:=fun x: {a:Act10 // a.ok} =>cells10 x.1) Tryz.underlying43 (show Tryz.prog.cellsOf 84=6 by kernel_rfl) (by omega) (fun x=>cells10_length x.1) act10_cells hm
 have:Value.slice a len cap=u:=by simpa [Value.cells] using hu
 subst this
 refine⟨(l.map Subtype.val,_),rfl,⟨RdX.map (f:=cells10) Subtype.val hl,fun x hx=>?_⟩⟩
 obtain⟨y,_,rfl⟩:=List.mem_map.1 hx
 exact y.2
end
end Cm
end Go.Proofs.YtclcgkpfcogcdaaGreat

/- What is told may be told; asked again, it is told again. Pure. -/
set_option linter.unusedVariables false
set_option maxRecDepth 8000
set_option linter.unusedSimpArgs false
namespace Go.Proofs.YtclcgkpfcogcdaaGreat
open Lib (hid)
open Go.RowKit
namespace Cm

theorem heldGs_of: ∀(l:List GrantV) (p:Option (List UInt8)),(∀g∈l,nameF g.name=true/\highF g.token 1=true)->l.Pairwise (fun a b=>Op.bytesLess a.name b.name=true)->(∀n,p=some n-> ∀g∈l,Op.bytesLess n g.name=true)->heldOk p l=true
 | [],p,_,_,_=>by cases p<;>rfl
 | g::l,p,h,hp,hl=>by
  obtain⟨p1,p2⟩:=List.pairwise_cons.1 hp
  rw[heldOk,heldGs_of l (some g.name) (fun x hx=>h x (List.mem_cons_of_mem _ hx)) p2 (fun n hn x hx=>by cases hn;exact p1 x hx),Bool.and_true]
  unfold grantOk
  obtain⟨h1,h2⟩:=h g List.mem_cons_self
  rw[h1,h2]
  cases p with
  | none=>rfl
  | some n=>exact hl n rfl g List.mem_cons_self
theorem heldK_ok {l:List LockV} {t:Int} (h:Good l t) (c:Int):heldOk none (heldK l c)=true:=by
 refine heldGs_of _ none (fun g hg=>?_) ?_ (fun n hn=>by cases hn)
 ·unfold heldK at hg
  obtain⟨k,hk,rfl⟩:=List.mem_map.1 hg
  have h1:=(oneK_iff k).1 (h.rk.one k (List.mem_filter.1 hk).1)
  exact⟨h1.1,h1.2.2.1⟩
 ·unfold heldK
  rw[List.pairwise_map]
  exact h.rk.up.filter _
theorem told_may {s:StV} (h:Rst s) {c:Int} (hf:(findS s.ses c).2=true) {code ahead:Int} (h1:0<=code/\code<=12) (h2:0<=ahead/\ahead<=3):mayP (toldA s c code ahead)=true:=by
 have hs:=find_in hf
 have hone:=((rightS_iff s.ses).1 h.ses).2.one _ hs.1
 unfold oneS at hone
 simp only[Bool.and_eq_true] at hone
 have hnum:=hone.1.2
 unfold highF at hnum
 rw[Bool.and_eq_true,decide_eq_true_eq,decide_eq_true_eq] at hnum
 have hlen:(heldK s.locks c).length <=4:=Nat.le_trans (heldK_length _ _) h.good.len
 unfold mayP toldA
 dsimp only
 rw[heldK_ok h.good c]
 have e1:highF (findS s.ses c).1.num 0=true:=by unfold highF;rw[decide_eq_true (by omega),decide_eq_true (by omega)];rfl
 have e2:decide ((findS s.ses c).1.num =0)=false:=decide_eq_false (by omega)
 rw[e1,e2,decide_eq_true h1.1,decide_eq_true h1.2,decide_eq_true h2.1,decide_eq_true h2.2,decide_eq_true hlen]
 rfl
theorem only_may {code:Int} (h1:0<=code/\code<=12):mayP (onlyA code)=true:=by
 unfold mayP onlyA
 dsimp only
 rw[decide_eq_true h1.1,decide_eq_true h1.2]
 rfl
theorem ahead_most {l:List Int} (hl:l.length<=3) (c:Int):0<=(aheadL l c).1/\(aheadL l c).1<=3:=by
 have h1:=idxI_lt (isN c) l
 unfold aheadL
 split
 ·dsimp only;omega
 ·dsimp only;omega
theorem open_put {l:List SesV} {c n t:Int} (ho:(openS l c n t).2=0):(openS l c n t).1=putS ⟨c,n,t⟩ l:=by
 unfold openS at ho ⊢
 split
 ·rename_i q;rw[if_pos q] at ho;cases ho
 ·rename_i q
  rw[if_neg q] at ho
  split
  ·rename_i q;rw[if_pos q] at ho;cases ho
  ·rename_i q
   rw[if_neg q] at ho
   split
   ·rename_i q;rw[if_pos q] at ho;cases ho
   ·rename_i q
    rw[if_neg q] at ho
    split
    ·rename_i q;rw[if_pos q] at ho;cases ho
    ·rfl
theorem open_code (l:List SesV) (c n t:Int):0<=(openS l c n t).2/\(openS l c n t).2<=12:=by
 unfold openS
 split
 ·simp
 ·split
  ·simp
  ·split
   ·simp
   ·split<;>simp
theorem take_codes (l:List LockV) (n:List UInt8) (c t:Int) (wt:Bool) (hl: ∀k∈l,k.line.length<=3):(0<=(takeK l n c t wt).2.2/\(takeK l n c t wt).2.2<=12)/\0<=(takeK l n c t wt).2.1/\(takeK l n c t wt).2.1<=3:=by
 unfold takeK
 split
 ·split<;>simp
 ·rename_i hi
  have hg:=hl _ (getK_in hi)
  split
  ·simp
  ·split
   ·simp
   ·split
    ·have:=ahead_most hg c
     simp;omega
    ·split
     ·simp
     ·simp;omega
theorem free_codes (l:List LockV) (n:List UInt8) (c t:Int):0<=(freeK l n c t).2.2/\(freeK l n c t).2.2<=12:=by
 unfold freeK
 split
 ·simp
 ·split
  ·split<;>simp
  ·split<;>simp
theorem Rst.lines {s:StV} (h:Rst s): ∀k∈s.locks,k.line.length<=3:=fun k hk=>((rightL_iff _).1 ((oneK_iff k).1 (h.good.rk.one k hk)).2.2.2.1).1
theorem does_may {s:StV} (h:Rst s) {r:ReqV} (hm:mayF r.cmd=true) (hn:s.num<2305843009213693900) (ht:s.token<2305843009213693900):mayP (doesA s r).2=true:=by
 unfold doesA
 split
 ·unfold openA
  split
  ·rename_i hf
   exact told_may h hf (by decide) (by decide)
  ·split
   ·rename_i hf ho
    refine told_may (h.opened (by omega) ho) ?_ (by decide) (by decide)
    have e:(openS s.ses r.client (s.num+1) s.time).1=putS ⟨r.client,s.num+1,s.time⟩ s.ses:=open_put ho
    show(findS (openS s.ses r.client (s.num+1) s.time).1 r.client).2=true
    rw[e]
    exact(findS_some _ _).2 ⟨_,(putS_mem _ _ _).2 (.inl rfl),rfl⟩
   ·exact only_may (open_code _ _ _ _)
 ·split
  ·exact only_may (by decide)
  ·rename_i hq
   have hf:(findS s.ses r.client).2=true:=by
    cases q:(findS s.ses r.client).2 with
    | true=>rfl
    | false=>exact absurd (.inl q) hq
   have h2:=h.renewed hf
   have hr:hasA (renewedA s r.client) r.client=true:=by rw[has_renewed h hf];exact hf
   have ht2:(renewedA s r.client).token <2305843009213693900:=ht
   unfold cmdA
   split
   ·rename_i hk
    obtain⟨p1, -, -⟩:=h2.taken (decide (r.cmd.kind=3)) (mayF_name hm (by omega)) hr ht2
    obtain⟨q1,q2⟩:=take_codes (renewedA s r.client).locks r.cmd.name r.client (renewedA s r.client).token (decide (r.cmd.kind=3)) h2.lines
    exact told_may p1 hr q1 q2
   ·split
    ·obtain⟨p1, -, -⟩:=h2.freed r.cmd.name r.client ht2
     exact told_may p1 hr (free_codes _ _ _ _) (by decide)
    ·split
     ·exact only_may (by decide)
     ·exact told_may h2 hr (by decide) (by decide)
end Cm
end Go.Proofs.YtclcgkpfcogcdaaGreat

/- What the laws over a made state share: how few was given, a request's number, a reply's box. -/
set_option linter.unusedVariables false
set_option maxRecDepth 8000
set_option linter.unusedSimpArgs false
namespace Go.Proofs.YtclcgkpfcogcdaaGreat
open Lib (hid)
open Go.RowKit Go.Shelf
namespace Cm

theorem made_few (d:Int) (L:List Act10):Few10 60 (madeA d (L.take 60)):=by
 by_cases h:60<=L.length
 ·exact Few10.made d L 60 h (by omega)
 ·have h1:=Few10.made d L L.length (Nat.le_refl _) (by omega)
  have e:L.take 60=L.take L.length:=by rw[List.take_of_length_le (Nat.le_refl _),List.take_of_length_le (by omega)]
  rw[e]
  have:=h1.num
  have:=h1.tok
  exact⟨h1.right,by omega,by omega⟩
theorem last_bounds {s:StV} (h:Rst s) (c:Int):(lastM s.memos c).1.seq <=2305843009213693952/\0<=(lastM s.memos c).1.seq :=by
 rcases idxM_cases s.memos c with ⟨_,q⟩ | ⟨k,hk,_,_,q⟩
 ·rw[q];exact⟨by decide,by decide⟩
 ·rw[q]
  have:=(mayA_bounds _ (h.memos.may _ (List.getElem_mem hk))).2.1
  dsimp only
  omega
structure BoxP (w:World) (b:Nat) (r:ReplyV) (v:Value):Prop where
 c0:w.cell? ⟨b,0,none⟩=some (.int .i64 r.code)
 c1:w.cell? ⟨b,1,none⟩=some (.int .i64 r.session)
 c2:w.cell? ⟨b,2,none⟩=some (.int .i64 r.ahead)
 c3:w.cell? ⟨b,3,none⟩=some v
theorem BoxP.later {w w':World} {b:Nat} {r:ReplyV} {v:Value} (h:BoxP w b r v) (hb:Below w.heap.size w w'):BoxP w' b r v:=
 ⟨(hb.cell (lt_of_cell h.c0)).trans h.c0,(hb.cell (lt_of_cell h.c1)).trans h.c1,(hb.cell (lt_of_cell h.c2)).trans h.c2,(hb.cell (lt_of_cell h.c3)).trans h.c3⟩
theorem BoxP.new (w:World) (r:ReplyV) (v:Value) (t:TypeId):BoxP (w.alloc (.cells #[.int .i64 r.code,.int .i64 r.session,.int .i64 r.ahead,v] t)) w.heap.size r v:=by
 obtain⟨c0,c1,c2,c3⟩:=box4 (Below.refl _ (w.alloc (.cells #[.int .i64 r.code,.int .i64 r.session,.int .i64 r.ahead,v] t)))
 exact⟨c0,c1,c2,c3⟩
theorem two_boxes (w:World) (x:StC) (r:ReplyV) (v:Value) (t u:TypeId) {b:Nat} (hb:w.heap.size=b):
  BoxS ((w.alloc (.cells #[.int .i64 x.time,.int .i64 x.num,.int .i64 x.token,x.sv,x.kv,x.mv] t)).alloc (.cells #[.int .i64 r.code,.int .i64 r.session,.int .i64 r.ahead,v] u)) b x/\
  BoxP ((w.alloc (.cells #[.int .i64 x.time,.int .i64 x.num,.int .i64 x.token,x.sv,x.kv,x.mv] t)).alloc (.cells #[.int .i64 r.code,.int .i64 r.session,.int .i64 r.ahead,v] u)) (b+1) r v/\
  Below w.heap.size w ((w.alloc (.cells #[.int .i64 x.time,.int .i64 x.num,.int .i64 x.token,x.sv,x.kv,x.mv] t)).alloc (.cells #[.int .i64 r.code,.int .i64 r.session,.int .i64 r.ahead,v] u)):=by
 subst hb
 refine⟨(BoxS.new w x t).later (newAlloc _ _),?_,step (newAlloc _ _) (newAlloc _ _)⟩
 have:=BoxP.new (w.alloc (.cells #[.int .i64 x.time,.int .i64 x.num,.int .i64 x.token,x.sv,x.kv,x.mv] t)) r v u
 have e:(w.alloc (.cells #[.int .i64 x.time,.int .i64 x.num,.int .i64 x.token,x.sv,x.kv,x.mv] t)).heap.size =w.heap.size+1:=by simp
 rw[e] at this
 exact this
end Cm
end Go.Proofs.YtclcgkpfcogcdaaGreat

/- What is said of all later worlds; blocks by their tag; sessions in a box. -/
set_option linter.unusedVariables false
set_option maxRecDepth 8000
set_option linter.unusedSimpArgs false
namespace Go.Proofs.YtclcgkpfcogcdaaGreat
open Lib (hid)
open Go.RowKit
namespace Cm

def Tag (w:World) (b:Nat) (e:TypeId):Prop:= ∃cs fr,w.heap[b]?=some (.cells cs e fr)
theorem Tag.lt {w:World} {b:Nat} {e:TypeId} (h:Tag w b e):b<w.heap.size:=by
 obtain⟨cs,fr,h⟩:=h
 rcases Nat.lt_or_ge b w.heap.size with q | q
 ·exact q
 ·rw[Array.getElem?_eq_none q] at h;cases h
theorem Tag.later {w w':World} {b:Nat} {e:TypeId} (h:Tag w b e) (hb:Below w.heap.size w w'):Tag w' b e:=by
 have hl:=h.lt
 obtain⟨cs,fr,h⟩:=h
 exact⟨cs,fr,by rw[hb.block b hl];exact h⟩
theorem Tag.set {w:World} {b:Nat} {e:TypeId} (h:Tag w b e) (g j:Nat) (v:Value):Tag (w.setCell ⟨g,j,none⟩ v) b e:=by
 obtain⟨cs,fr,h⟩:=h
 by_cases q:b=g
 ·subst q
  refine⟨cs.setIfInBounds j v,fr,?_⟩
  show(w.heap.modify b _)[b]?= _
  rw[Array.getElem?_modify,if_pos rfl,h]
  rfl
 ·exact⟨cs,fr,by rw[Below.heap_setCell w ⟨g,j,none⟩ v b q];exact h⟩
theorem Tag.new (w:World) (cs:Array Value) (e:TypeId):Tag (w.alloc (.cells cs e)) w.heap.size e:=⟨cs,(0,0),by show(w.heap.push _)[w.heap.size]?= _;simp⟩
def NotRow (e:TypeId):Prop:=e≠46/\e≠60/\e≠51/\e≠57/\e≠3
theorem own_tag {w:World} {base s n:Nat} {e f:TypeId} {v:Value} {xs:List Value} (h:w.ownsRow base e s v n xs) {g:Nat} (ht:Tag w g f) (hn:f≠e) (j:Nat) (y:Value):(w.setCell ⟨g,j,none⟩ y).ownsRow base e s v n xs:=by
 refine Rw.own_keep h fun k hk=>?_
 refine Below.heap_setCell w ⟨g,j,none⟩ y k fun q=>?_
 have q:k=g:=q
 subst q
 obtain⟨cs,fr,ht⟩:=ht
 rcases h.2 with ⟨rfl,_⟩ | ⟨g1,cap,cur,rfl,_,q1,_⟩
 ·cases hk
 have r1:g1=k:=by simpa [Value.ownBlock] using hk
 subst r1
 rw[q1] at ht
 injection ht with ht
 injection ht with _ ht
 exact hn ht.symm
theorem NewI.tag {base:Nat} {w:World} {u:Value} {l:List Int} (h:NewI base w u l) {g:Nat} {f:TypeId} (ht:Tag w g f) (hn:f≠3) (j:Nat) (y:Value):NewI base (w.setCell ⟨g,j,none⟩ y) u l:=by
 obtain⟨hr,ho⟩:=h
 obtain⟨a,cap,rfl,h1,h2,h3,h4⟩:=hr.ex
 have hne: ∀k,(Value.slice a l.length cap).ownBlock =some k->k≠g:=fun k hk=>by
  rintro rfl
  obtain⟨h5,cs,h6⟩:=ho k hk
  obtain⟨cs2,fr,ht⟩:=ht
  rw[h6] at ht
  injection ht with ht
  injection ht with _ ht
  exact hn ht.symm
 refine⟨⟨a,cap,rfl,h1,h2,h3,fun x hx hp=>?_⟩,fun k hk=>?_⟩
 ·obtain⟨hs,hc⟩:=h4 x hx hp
  refine⟨hs,fun i hi n q hq=>?_⟩
  have hcell:=hc i hi n q hq
  have hk:(Value.slice a l.length cap).ownBlock =some x.block:=by subst hx;rfl
  simp only[World.cell?] at hcell ⊢
  rw[Below.heap_setCell w ⟨g,j,none⟩ y x.block (fun q=>by have:x.block=g:=q;exact hne _ hk this)]
  exact hcell
 ·obtain⟨h5,cs,h6⟩:=ho k hk
  refine⟨h5,cs,?_⟩
  rw[Below.heap_setCell w ⟨g,j,none⟩ y k (fun q=>by have:k=g:=q;exact hne _ hk this)]
  exact h6
theorem FromS.tag {base:Nat} {w:World} {x y:StC} (h:FromS base w x y) {g:Nat} {f:TypeId} (ht:Tag w g f) (hf:NotRow f) (j:Nat) (u:Value):FromS base (w.setCell ⟨g,j,none⟩ u) x y:=
 ⟨h.s.imp id fun q=>own_tag q ht hf.1 j u,h.k.imp id fun q=>⟨own_tag q.row ht hf.2.1 j u,fun z hz=>(q.line z hz).tag ht hf.2.2.2.2 j u⟩,h.m.imp id fun q=>⟨own_tag q.1 ht hf.2.2.1 j u,fun z hz=>(q.2 z hz).imp id fun r=>own_tag r ht hf.2.2.2.1 j u⟩⟩
theorem FromS.tag4 {base:Nat} {w:World} {x y:StC} (h:FromS base w x y) {g:Nat} {f:TypeId} (ht:Tag w g f) (hf:NotRow f) (v0 v1 v2 v3:Value):FromS base ((((w.setCell ⟨g,0,none⟩ v0).setCell ⟨g,1,none⟩ v1).setCell ⟨g,2,none⟩ v2).setCell ⟨g,3,none⟩ v3) x y:=
 (((h.tag ht hf 0 v0).tag (ht.set _ _ _) hf 1 v1).tag ((ht.set _ _ _).set _ _ _) hf 2 v2).tag (((ht.set _ _ _).set _ _ _).set _ _ _) hf 3 v3
theorem FromS.tag6 {base:Nat} {w:World} {x y:StC} (h:FromS base w x y) {g:Nat} {f:TypeId} (ht:Tag w g f) (hf:NotRow f) (v0 v1 v2 v3 v4 v5:Value):FromS base ((((((w.setCell ⟨g,0,none⟩ v0).setCell ⟨g,1,none⟩ v1).setCell ⟨g,2,none⟩ v2).setCell ⟨g,3,none⟩ v3).setCell ⟨g,4,none⟩ v4).setCell ⟨g,5,none⟩ v5) x y:=
 ((h.tag4 ht hf v0 v1 v2 v3).tag ((((ht.set _ _ _).set _ _ _).set _ _ _).set _ _ _) hf 4 v4).tag (((((ht.set _ _ _).set _ _ _).set _ _ _).set _ _ _).set _ _ _) hf 5 v5
theorem Tag.set6 {w:World} {b:Nat} {e:TypeId} (h:Tag w b e) (g:Nat) (v0 v1 v2 v3 v4 v5:Value):Tag ((((((w.setCell ⟨g,0,none⟩ v0).setCell ⟨g,1,none⟩ v1).setCell ⟨g,2,none⟩ v2).setCell ⟨g,3,none⟩ v3).setCell ⟨g,4,none⟩ v4).setCell ⟨g,5,none⟩ v5) b e:=
 (((((h.set _ _ _).set _ _ _).set _ _ _).set _ _ _).set _ _ _).set _ _ _
theorem notRow_state:NotRow 26:=⟨by decide,by decide,by decide,by decide,by decide⟩
structure BoxE (w:World) (b:Nat) (s:SesV):Prop where
 c0:w.cell? ⟨b,0,none⟩=some (.int .i64 s.client)
 c1:w.cell? ⟨b,1,none⟩=some (.int .i64 s.num)
 c2:w.cell? ⟨b,2,none⟩=some (.int .i64 s.ren)
 fr: ∀k,w.frozen? ⟨b,k,none⟩=false
theorem BoxE.later {w w':World} {b:Nat} {x:SesV} (h:BoxE w b x) (hb:Below w.heap.size w w'):BoxE w' b x:=
 ⟨(hb.cell (lt_of_cell h.c0)).trans h.c0,(hb.cell (lt_of_cell h.c1)).trans h.c1,(hb.cell (lt_of_cell h.c2)).trans h.c2,fun k=>(hb.frozen (p:=⟨b,k,none⟩) (show b< _ from lt_of_cell h.c0)).trans (h.fr k)⟩
theorem BoxE.new (w:World) (x:SesV) (t:TypeId):BoxE (w.alloc (.cells #[.int .i64 x.client,.int .i64 x.num,.int .i64 x.ren] t)) w.heap.size x:=by
 refine⟨?_,?_,?_,fun k=>?_⟩<;>simp [go_sem]
theorem BoxE.put {w:World} {b:Nat} {x:SesV} (h:BoxE w b x) (c n r:Int):BoxE (((w.setCell ⟨b,0,none⟩ (.int .i64 c)).setCell ⟨b,1,none⟩ (.int .i64 n)).setCell ⟨b,2,none⟩ (.int .i64 r)) b ⟨c,n,r⟩:=by
 obtain⟨c0,c1,c2,fr⟩:=h
 refine⟨?_,?_,?_,fun k=>?_⟩<;>simp [go_sem,c0,c1,c2,fr]
end Cm
end Go.Proofs.YtclcgkpfcogcdaaGreat

/- What is refused: pure. -/
set_option linter.unusedVariables false
set_option maxRecDepth 8000
set_option linter.unusedSimpArgs false
namespace Go.Proofs.YtclcgkpfcogcdaaGreat
open Lib (hid)
open Go.RowKit
namespace Cm

/-! ### the numbers of a made state's memos -/
theorem keepM_in {l:List AnsV} {a m:AnsV} (h:m∈keepM l a):m=a\/m∈l:=by
 unfold keepM at h
 split at h
 ·exact ins_mem a l m h
 ·exact .inr h
theorem lastM_most {l:List AnsV} {n:Int} (hn:0<=n) (h: ∀m∈l,m.seq<=n) (c:Int):(lastM l c).1.seq <=n:=by
 rcases idxM_cases l c with ⟨_,q⟩ | ⟨k,hk,_,_,q⟩
 ·rw[q];exact hn
 ·rw[q];exact h _ (List.getElem_mem hk)
theorem step_seq {s:StV} {n:Int} (hn:6<=n) (h: ∀m∈s.memos,m.seq<=n) (a:Act10) (d:Int): ∀m∈(stepA d s a).memos,m.seq<=n+1:=by
 intro m hm
 have hA:(atA s a d).memos =s.memos:=rfl
 unfold stepA at hm
 generalize atA s a d=t at hA hm
 have hq:(requestA t a).seq <=n+1:=by
  have hl:=lastM_most (n:=n) (by omega) (by rw[hA];exact h) (req0 a).client (l:=t.memos)
  have hr:(req0 a).seq =1+((a.seq % 6:Nat):Int):=rfl
  show seqA t a.seq (req0 a)<=n+1
  unfold seqA
  split
  ·omega
  ·split<;>omega
 generalize requestA t a=r at hq hm
 have h': ∀x∈t.memos,x.seq<=n+1:=fun x hx=>by have:=h x (by rw[<-hA];exact hx);omega
 unfold applyA at hm
 split at hm
 ·exact h' m hm
 ·split at hm
  ·exact h' m hm
  ·split at hm
   ·exact h' m hm
   ·have hm2:m∈keepM (doesA t r).1.memos ⟨r.client,r.seq,(doesA t r).2⟩:=hm
    rw[does_memos] at hm2
    rcases keepM_in hm2 with q | q
    ·rw[q];exact hq
    ·exact h' m q
theorem made_seq (d:Int) (L:List Act10): ∀k:Nat,k<=L.length-> ∀m∈(madeA d (L.take k)).memos,m.seq<=6+(k:Int)
 | 0,_=>fun m hm=>by cases hm
 | k+1,h=>by
  rw[madeA_succ d L k (by omega)]
  have:=step_seq (n:=6+(k:Int)) (by omega) (made_seq d L k (by omega)) (L[k]'(by omega)) d
  intro m hm
  have:=this m hm
  omega
theorem made_last (d:Int) (L:List Act10) (c:Int):(lastM (madeA d (L.take 60)).memos c).1.seq <=66:=by
 refine lastM_most (by omega) (fun m hm=>?_) c
 by_cases h:60<=L.length
 ·exact made_seq d L 60 h m hm
 ·have e:L.take 60=L.take L.length:=by rw[List.take_of_length_le (Nat.le_refl _),List.take_of_length_le (by omega)]
  rw[e] at hm
  have:=made_seq d L L.length (Nat.le_refl _) m hm
  omega
/-! ### what is told -/
theorem next_may {c q:Int} {m:CmdV} (hc:0<=c/\c<8) (hq:1<=q/\q<=2305843009213693952) (hm:mayF m=true):mayR ⟨c,q,m⟩=true:=by
 unfold mayR highF
 dsimp only
 rw[hm,decide_eq_true hc.1,decide_eq_true hc.2,decide_eq_true hq.1,decide_eq_true hq.2]
 rfl
theorem BoxP.other {w:World} {b g:Nat} {r:ReplyV} {u:Value} (h:BoxP w b r u) (hg:g≠b) (j:Nat) (v:Value):BoxP (w.setCell ⟨g,j,none⟩ v) b r u:=by
 have hn: ∀k,(w.setCell ⟨g,j,none⟩ v).cell? ⟨b,k,none⟩=w.cell? ⟨b,k,none⟩:=fun k=>by
  simp only[World.cell?]
  rw[Below.heap_setCell w ⟨g,j,none⟩ v b (fun q=>hg (by have:b=g:=q;exact this.symm))]
 exact⟨(hn 0).trans h.c0,(hn 1).trans h.c1,(hn 2).trans h.c2,(hn 3).trans h.c3⟩
end Cm
end Go.Proofs.YtclcgkpfcogcdaaGreat

/- Who wait for a lock have it in their order: pure. -/
set_option linter.unusedVariables false
set_option maxRecDepth 8000
set_option linter.unusedSimpArgs false
namespace Go.Proofs.YtclcgkpfcogcdaaGreat
open Lib (hid)
open Go.RowKit
namespace Cm

def lockF (n:List UInt8) (k:Int):List Int->List LockV
 | []=> []
 | h::t=> [⟨n,h,k,t⟩]
theorem drop_one (n:List UInt8) (h k:Int) (T:List Int) (t:Int) (hn:h ∉ T):dropK [h] (lockF n k (h::T)) t=(lockF n (t+1) T,if T= [] then 0 else 1):=by
 have e:lockF n k (h::T)= [⟨n,h,k,T⟩]:=rfl
 have el:leftK [h] ⟨n,h,k,T⟩=⟨n,h,k,T⟩:=by
  unfold leftK withoutL
  dsimp only
  congr 1
  exact List.filter_eq_self.2 fun x hx=>by
   rw[show hasL [h] x=false from(hasL_not _ _).2 (by rw[List.mem_singleton];rintro rfl;exact hn hx)];rfl
 rw[e,dropK,el,if_neg (by rw[(hasL_iff _ _).2 (List.mem_singleton.2 rfl)];simp)]
 cases T with
 | nil=>rw[if_pos rfl,dropK,if_pos rfl];rfl
 | cons x T=>rw[if_neg (by simp),dropK,if_neg (by simp)];rfl
theorem fresh_lt {l:List AnsV} {c q:Int} (h:(lastM l c).1.seq <q):freshM l c q=1:=by
 unfold freshM
 split
 ·rfl
 ·first | rfl | rw[if_pos h]
theorem apply_lt {s:StV} {r:ReqV} (hm:mayR r=true) (hq:(lastM s.memos r.client).1.seq <r.seq):applyA s r=(keptA (doesA s r).1 ⟨r.client,r.seq,(doesA s r).2⟩,(doesA s r).2,true):=by
 have hf:=fresh_lt hq
 unfold applyA
 rw[if_neg (by rw[hm];simp),if_neg (by rw[hf];decide),if_neg (by rw[hf];decide)]
theorem kept_seq {s:StV} (h:Rst s) {r:ReqV} (hn:s.num<2305843009213693900) (ht:s.token<2305843009213693900) (hm:mayR r=true) (hq:(lastM s.memos r.client).1.seq <r.seq) (d:Int):
  (lastM (applyA s r).1.memos d).1.seq =if d=r.client then r.seq else (lastM s.memos d).1.seq :=by
 rw[apply_lt hm hq]
 show(lastM (keepM (doesA s r).1.memos ⟨r.client,r.seq,(doesA s r).2⟩) d).1.seq = _
 rw[does_memos]
 obtain⟨b1,b2,b3⟩:=mayR_bounds r hm
 have hp:=does_may h b3 hn ht
 have ha:mayA ⟨r.client,r.seq,(doesA s r).2⟩=true:=by
  unfold mayA
  dsimp only
  have e:highF r.seq 1=true:=by unfold highF;rw[decide_eq_true b2.1,decide_eq_true b2.2];rfl
  rw[hp,e,decide_eq_true b1.1,decide_eq_true (by omega)]
  rfl
 unfold keepM
 rw[if_pos (by rw[ha,decide_eq_true (fresh_lt hq)];rfl),last_ins]
 dsimp only
 by_cases e:d=r.client
 ·rw[if_pos e,if_pos e.symm]
 ·rw[if_neg e,if_neg (fun q=>e q.symm)]
end Cm
end Go.Proofs.YtclcgkpfcogcdaaGreat
