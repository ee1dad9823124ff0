/- Texts laid together by program. -/
import Derived.Test.YthpknaieimlmnaaGreatQ49
/- Arguments that are slices of acts of layer 10, one such act, opened. -/
set_option linter.unusedVariables false
set_option maxRecDepth 8000
set_option linter.unusedSimpArgs false
namespace Go.Proofs.YthpknaieimlmnaaGreat
open Lib (hid)
open Go.RowKit Go.ChangeShapes Go.WideShapes Go.Deep
namespace Cm
section
variable {H : Type} {enc : TypeId × Value → H} {W : World} {base : Nat} {sp : Nat → Bool} {held : Bool}
theorem trod_struct6 {P:Program} {t:TypeId} {f0 f1 f2 f3 f4 f5:Field} {fuel:Nat} {cs:List Value} {x:DataW H × List MemPlace} (ht:P.underlying t=some (.struct #[f0,f1,f2,f3,f4,f5])) (h:DataW.trod enc P W base sp held fuel t cs=some x):
  ∃y0 y1 y2 y3 y4 y5 n,cs.length=P.cellsOf t/\DataW.trod enc P W base sp held n f0.type ((cs.drop f0.offset).take (P.cellsOf f0.type))=some y0/\
   DataW.trod enc P W base sp held n f1.type ((cs.drop f1.offset).take (P.cellsOf f1.type))=some y1/\DataW.trod enc P W base sp held n f2.type ((cs.drop f2.offset).take (P.cellsOf f2.type))=some y2/\
   DataW.trod enc P W base sp held n f3.type ((cs.drop f3.offset).take (P.cellsOf f3.type))=some y3/\DataW.trod enc P W base sp held n f4.type ((cs.drop f4.offset).take (P.cellsOf f4.type))=some y4/\
   DataW.trod enc P W base sp held n f5.type ((cs.drop f5.offset).take (P.cellsOf f5.type))=some y5:=by
 obtain⟨xs,n,_,rfl,hl,hlen,hf⟩:=DataW.trod_struct ht h
 match xs,hlen with
 | [y0,y1,y2,y3,y4,y5],_=>exact⟨y0,y1,y2,y3,y4,y5,n,hl,by simpa using hf 0 f0 rfl,by simpa using hf 1 f1 rfl,by simpa using hf 2 f2 rfl,by simpa using hf 3 f3 rfl,by simpa using hf 4 f4 rfl,by simpa using hf 5 f5 rfl⟩
theorem u8_10 {n:Int} (h:(Lit.int .u8 n).wf =true): ∃k:Nat,n=(k:Int)/\k<256:=by
 have:0<=n/\n<256:=by
  simp [Lit.wf,IntKind.min,IntKind.max,IntKind.signed,IntKind.bits] at h
  omega
 exact⟨n.toNat,by omega,by omega⟩
theorem list6 {α:Type} {cs:List α} (h:cs.length=6): ∃c0 c1 c2 c3 c4 c5,cs= [c0,c1,c2,c3,c4,c5]:=by
 match cs,h with
 | [c0,c1,c2,c3,c4,c5],_=>exact⟨c0,c1,c2,c3,c4,c5,rfl⟩
theorem act10_cells (fuel:Nat) (cs:List Value) (x:DataW H × List MemPlace) (h:DataW.trod enc Tryz.prog W base sp held fuel 30 cs=some x): ∃a: {a:Act10 // a.ok},cs=cells10 a.1:=by
 have hce:Tryz.prog.cellsOf 30=6:=by kernel_rfl
 obtain⟨y0,y1,y2,y3,y4,y5,n',hlen,t0,t1,t2,t3,t4,t5⟩:=trod_struct6 Tryz.underlying30 h
 rw[hce] at hlen
 obtain⟨c0,c1,c2,c3,c4,c5,rfl⟩:=list6 hlen
 obtain⟨d0,e0,_,w0⟩:=DataW.trod_int Tryz.underlying5 t0
 obtain⟨d1,e1,_,w1⟩:=DataW.trod_int Tryz.underlying5 t1
 obtain⟨d2,e2,_,w2⟩:=DataW.trod_int Tryz.underlying5 t2
 obtain⟨d3,e3,_,w3⟩:=DataW.trod_int Tryz.underlying5 t3
 obtain⟨d4,e4,_,w4⟩:=DataW.trod_int Tryz.underlying5 t4
 obtain⟨d5,e5,_,w5⟩:=DataW.trod_int Tryz.underlying5 t5
 have e0':c0= .int .u8 d0:=by injection e0
 have e1':c1= .int .u8 d1:=by injection e1
 have e2':c2= .int .u8 d2:=by injection e2
 have e3':c3= .int .u8 d3:=by injection e3
 have e4':c4= .int .u8 d4:=by injection e4
 have e5':c5= .int .u8 d5:=by injection e5
 obtain⟨q0,rfl,h0⟩:=u8_10 w0
 obtain⟨q1,rfl,h1⟩:=u8_10 w1
 obtain⟨q2,rfl,h2⟩:=u8_10 w2
 obtain⟨q3,rfl,h3⟩:=u8_10 w3
 obtain⟨q4,rfl,h4⟩:=u8_10 w4
 obtain⟨q5,rfl,h5⟩:=u8_10 w5
 exact⟨⟨⟨q0,q1,q2,q3,q4,q5⟩,h0,h1,h2,h3,h4,h5⟩,by rw[e0',e1',e2',e3',e4',e5'];rfl⟩
def act1OkA (w:World) (a:Act10):Prop:=a.ok
theorem open_act1 {r:Reach} {b0:Nat} {v:Value} {d:DataW H} {p:List MemPlace} (hv:Value.okWide Tryz.prog W r b0 30 v) (h:DataW.Trod enc Tryz.prog W base sp held 30 v d p): ∃a:Act10,v=actVal a/\act1OkA W a:=by
 obtain⟨cs,rfl,hs⟩:=okWide_struct Tryz.underlying30 hv
 obtain⟨m,hm⟩:=h
 obtain⟨c,hc⟩:=act10_cells _ _ _ hm
 exact⟨c.1,by unfold actVal;congr 1;apply Array.ext';simpa [Value.cells,cells10] using hc,c.2⟩
end
section
variable {H : Type} {enc : TypeId × Value → H} {W : World}
def act10A (a:List Act10 × Value):Value:=a.2
def act10OkA (w:World) (a:List Act10 × Value):Prop:=RdA w a.2 a.1
theorem open_act10 {r:Reach} {b0:Nat} {v:Value} {d:DataW H} {p:List MemPlace} (hv:Value.okWide Tryz.prog W r b0 22 v) (h:DataW.Trod enc Tryz.prog W 0 (fun _=>true) true 22 v d p): ∃a:List Act10 × Value,v=act10A a/\act10OkA W a:=by
 obtain⟨a,len,cap,rfl⟩:=okWide_slice Tryz.underlying22 hv
 obtain⟨m,hm⟩:=h
 obtain⟨u,l,hu,hl⟩:=slice_of (f:=fun x: {a:Act10 // a.ok} =>cells10 x.1) Tryz.underlying22 (show Tryz.prog.cellsOf 30=6 by kernel_rfl) (by omega) (fun x=>cells10_length x.1) act10_cells hm
 have:Value.slice a len cap=u:=by simpa [Value.cells] using hu
 subst this
 refine⟨(l.map Subtype.val,_),rfl,⟨RdX.map (f:=cells10) Subtype.val hl,fun x hx=>?_⟩⟩
 obtain⟨y,_,rfl⟩:=List.mem_map.1 hx
 exact y.2
end
end Cm
end Go.Proofs.YthpknaieimlmnaaGreat

/- What is told may be told; asked again, it is told again. Pure. -/
set_option linter.unusedVariables false
set_option maxRecDepth 8000
set_option linter.unusedSimpArgs false
namespace Go.Proofs.YthpknaieimlmnaaGreat
open Lib (hid)
open Go.RowKit
namespace Cm

theorem heldGs_of: ∀(l:List GrantV) (p:Option (List UInt8)),(∀g∈l,nameF g.name=true/\highF g.token 1=true)->l.Pairwise (fun a b=>Op.bytesLess a.name b.name=true)->(∀n,p=some n-> ∀g∈l,Op.bytesLess n g.name=true)->heldOk p l=true
 | [],p,_,_,_=>by cases p<;>rfl
 | g::l,p,h,hp,hl=>by
  obtain⟨p1,p2⟩:=List.pairwise_cons.1 hp
  rw[heldOk,heldGs_of l (some g.name) (fun x hx=>h x (List.mem_cons_of_mem _ hx)) p2 (fun n hn x hx=>by cases hn;exact p1 x hx),Bool.and_true]
  unfold grantOk
  obtain⟨h1,h2⟩:=h g List.mem_cons_self
  rw[h1,h2]
  cases p with
  | none=>rfl
  | some n=>exact hl n rfl g List.mem_cons_self
theorem heldK_ok {l:List LockV} {t:Int} (h:Good l t) (c:Int):heldOk none (heldK l c)=true:=by
 refine heldGs_of _ none (fun g hg=>?_) ?_ (fun n hn=>by cases hn)
 ·unfold heldK at hg
  obtain⟨k,hk,rfl⟩:=List.mem_map.1 hg
  have h1:=(oneK_iff k).1 (h.rk.one k (List.mem_filter.1 hk).1)
  exact⟨h1.1,h1.2.2.1⟩
 ·unfold heldK
  rw[List.pairwise_map]
  exact h.rk.up.filter _
theorem told_may {s:StV} (h:Rst s) {c:Int} (hf:(findS s.ses c).2=true) {code ahead:Int} (h1:0<=code/\code<=12) (h2:0<=ahead/\ahead<=3):mayP (toldA s c code ahead)=true:=by
 have hs:=find_in hf
 have hone:=((rightS_iff s.ses).1 h.ses).2.one _ hs.1
 unfold oneS at hone
 simp only[Bool.and_eq_true] at hone
 have hnum:=hone.1.2
 unfold highF at hnum
 rw[Bool.and_eq_true,decide_eq_true_eq,decide_eq_true_eq] at hnum
 have hlen:(heldK s.locks c).length <=4:=Nat.le_trans (heldK_length _ _) h.good.len
 unfold mayP toldA
 dsimp only
 rw[heldK_ok h.good c]
 have e1:highF (findS s.ses c).1.num 0=true:=by unfold highF;rw[decide_eq_true (by omega),decide_eq_true (by omega)];rfl
 have e2:decide ((findS s.ses c).1.num =0)=false:=decide_eq_false (by omega)
 rw[e1,e2,decide_eq_true h1.1,decide_eq_true h1.2,decide_eq_true h2.1,decide_eq_true h2.2,decide_eq_true hlen]
 rfl
theorem only_may {code:Int} (h1:0<=code/\code<=12):mayP (onlyA code)=true:=by
 unfold mayP onlyA
 dsimp only
 rw[decide_eq_true h1.1,decide_eq_true h1.2]
 rfl
theorem ahead_most {l:List Int} (hl:l.length<=3) (c:Int):0<=(aheadL l c).1/\(aheadL l c).1<=3:=by
 have h1:=idxI_lt (isN c) l
 unfold aheadL
 split
 ·dsimp only;omega
 ·dsimp only;omega
theorem open_put {l:List SesV} {c n t:Int} (ho:(openS l c n t).2=0):(openS l c n t).1=putS ⟨c,n,t⟩ l:=by
 unfold openS at ho ⊢
 split
 ·rename_i q;rw[if_pos q] at ho;cases ho
 ·rename_i q
  rw[if_neg q] at ho
  split
  ·rename_i q;rw[if_pos q] at ho;cases ho
  ·rename_i q
   rw[if_neg q] at ho
   split
   ·rename_i q;rw[if_pos q] at ho;cases ho
   ·rename_i q
    rw[if_neg q] at ho
    split
    ·rename_i q;rw[if_pos q] at ho;cases ho
    ·rfl
theorem open_code (l:List SesV) (c n t:Int):0<=(openS l c n t).2/\(openS l c n t).2<=12:=by
 unfold openS
 split
 ·simp
 ·split
  ·simp
  ·split
   ·simp
   ·split<;>simp
theorem take_codes (l:List LockV) (n:List UInt8) (c t:Int) (wt:Bool) (hl: ∀k∈l,k.line.length<=3):(0<=(takeK l n c t wt).2.2/\(takeK l n c t wt).2.2<=12)/\0<=(takeK l n c t wt).2.1/\(takeK l n c t wt).2.1<=3:=by
 unfold takeK
 split
 ·split<;>simp
 ·rename_i hi
  have hg:=hl _ (getK_in hi)
  split
  ·simp
  ·split
   ·simp
   ·split
    ·have:=ahead_most hg c
     simp;omega
    ·split
     ·simp
     ·simp;omega
theorem free_codes (l:List LockV) (n:List UInt8) (c t:Int):0<=(freeK l n c t).2.2/\(freeK l n c t).2.2<=12:=by
 unfold freeK
 split
 ·simp
 ·split
  ·split<;>simp
  ·split<;>simp
theorem Rst.lines {s:StV} (h:Rst s): ∀k∈s.locks,k.line.length<=3:=fun k hk=>((rightL_iff _).1 ((oneK_iff k).1 (h.good.rk.one k hk)).2.2.2.1).1
theorem does_may {s:StV} (h:Rst s) {r:ReqV} (hm:mayF r.cmd=true) (hn:s.num<2305843009213693900) (ht:s.token<2305843009213693900):mayP (doesA s r).2=true:=by
 unfold doesA
 split
 ·unfold openA
  split
  ·rename_i hf
   exact told_may h hf (by decide) (by decide)
  ·split
   ·rename_i hf ho
    refine told_may (h.opened (by omega) ho) ?_ (by decide) (by decide)
    have e:(openS s.ses r.client (s.num+1) s.time).1=putS ⟨r.client,s.num+1,s.time⟩ s.ses:=open_put ho
    show(findS (openS s.ses r.client (s.num+1) s.time).1 r.client).2=true
    rw[e]
    exact(findS_some _ _).2 ⟨_,(putS_mem _ _ _).2 (.inl rfl),rfl⟩
   ·exact only_may (open_code _ _ _ _)
 ·split
  ·exact only_may (by decide)
  ·rename_i hq
   have hf:(findS s.ses r.client).2=true:=by
    cases q:(findS s.ses r.client).2 with
    | true=>rfl
    | false=>exact absurd (.inl q) hq
   have h2:=h.renewed hf
   have hr:hasA (renewedA s r.client) r.client=true:=by rw[has_renewed h hf];exact hf
   have ht2:(renewedA s r.client).token <2305843009213693900:=ht
   unfold cmdA
   split
   ·rename_i hk
    obtain⟨p1, -, -⟩:=h2.taken (decide (r.cmd.kind=3)) (mayF_name hm (by omega)) hr ht2
    obtain⟨q1,q2⟩:=take_codes (renewedA s r.client).locks r.cmd.name r.client (renewedA s r.client).token (decide (r.cmd.kind=3)) h2.lines
    exact told_may p1 hr q1 q2
   ·split
    ·obtain⟨p1, -, -⟩:=h2.freed r.cmd.name r.client ht2
     exact told_may p1 hr (free_codes _ _ _ _) (by decide)
    ·split
     ·exact only_may (by decide)
     ·exact told_may h2 hr (by decide) (by decide)
theorem last_kept (l:List AnsV) (a:AnsV) (ha:mayA a=true) (hf:freshM l a.client a.seq=1):lastM (keepM l a) a.client=(a,true):=by
 unfold keepM
 rw[if_pos (by rw[ha,decide_eq_true hf];rfl),last_ins,if_pos rfl]
theorem apply_again {s:StV} (h:Rst s) {r:ReqV} (hn:s.num<2305843009213693900) (ht:s.token<2305843009213693900) (hd:(applyA s r).2.2=true):
  mayR r=true/\freshM s.memos r.client r.seq=1/\mayP (applyA s r).2.1=true/\lastM (applyA s r).1.memos r.client=(⟨r.client,r.seq,(applyA s r).2.1⟩,true):=by
 unfold applyA at hd ⊢
 by_cases hm:mayR r=false
 ·rw[if_pos hm] at hd;cases hd
 rw[if_neg hm] at hd ⊢
 by_cases h1:freshM s.memos r.client r.seq<0
 ·rw[if_pos h1] at hd;cases hd
 rw[if_neg h1] at hd ⊢
 by_cases h2:freshM s.memos r.client r.seq=0
 ·rw[if_pos h2] at hd;cases hd
 rw[if_neg h2]
 have hm:mayR r=true:=by simpa using hm
 have hf:freshM s.memos r.client r.seq=1:=by
  rcases fresh_vals s.memos r.client r.seq with q | q | q
  ·exact q
  ·exact absurd q h2
  ·rw[q] at h1;exact absurd (by decide) h1
 obtain⟨b1,b2,b3⟩:=mayR_bounds r hm
 have hp:=does_may h b3 hn ht
 have ha:mayA ⟨r.client,r.seq,(doesA s r).2⟩=true:=by
  unfold mayA
  dsimp only
  have e:highF r.seq 1=true:=by unfold highF;rw[decide_eq_true b2.1,decide_eq_true b2.2];rfl
  rw[hp,e,decide_eq_true b1.1,decide_eq_true (by omega)]
  rfl
 refine⟨hm,hf,hp,?_⟩
 show lastM (keepM (doesA s r).1.memos _) _= _
 rw[does_memos]
 exact last_kept s.memos _ ha hf
theorem twice_same {s:StV} (h:Rst s) {r:ReqV} (hn:s.num<2305843009213693900) (ht:s.token<2305843009213693900) (hd:(applyA s r).2.2=true):applyA (applyA s r).1 r=((applyA s r).1,(applyA s r).2.1,false):=by
 obtain⟨h1,h2,h3,h4⟩:=apply_again h hn ht hd
 generalize applyA s r=x at*
 have hf:freshM x.1.memos r.client r.seq=0:=by
  unfold freshM
  rw[h4]
  simp
 unfold applyA
 rw[if_neg (by rw[h1];simp),if_neg (by rw[hf];decide),if_pos hf,h4]
theorem twice_old {s:StV} (h:Rst s) {r:ReqV} (hn:s.num<2305843009213693900) (ht:s.token<2305843009213693900) (hd:(applyA s r).2.2=true) (hq:1<r.seq):applyA (applyA s r).1 ⟨r.client,r.seq - 1,r.cmd⟩=((applyA s r).1,onlyA 0,false):=by
 obtain⟨h1,h2,h3,h4⟩:=apply_again h hn ht hd
 generalize applyA s r=x at*
 obtain⟨b1,b2,b3⟩:=mayR_bounds r h1
 have hf:freshM x.1.memos r.client (r.seq - 1)= -1:=by
  unfold freshM
  rw[h4]
  dsimp only
  rw[if_neg (by simp),if_neg (by omega),if_neg (by omega)]
 have hm:mayR ⟨r.client,r.seq - 1,r.cmd⟩=true:=by
  unfold mayR
  dsimp only
  have e:highF (r.seq - 1) 1=true:=by unfold highF;rw[decide_eq_true (by omega),decide_eq_true (by omega)];rfl
  rw[b3,e,decide_eq_true b1.1,decide_eq_true (by omega)]
  rfl
 unfold applyA
 rw[if_neg (by rw[hm];simp)]
 dsimp only
 rw[if_pos (by rw[hf];decide)]
theorem not_done {s:StV} {r:ReqV} (hd:(applyA s r).2.2=false):(applyA s r).1=s:=by
 unfold applyA at hd ⊢
 split
 ·rfl
 ·rename_i h1
  rw[if_neg h1] at hd
  split
  ·rfl
  ·rename_i h2
   rw[if_neg h2] at hd
   split
   ·rfl
   ·rename_i h3
    rw[if_neg h3] at hd
    cases hd
end Cm
end Go.Proofs.YthpknaieimlmnaaGreat

/- What the laws over a made state share: how few was given, a request's number, a reply's box. -/
set_option linter.unusedVariables false
set_option maxRecDepth 8000
set_option linter.unusedSimpArgs false
namespace Go.Proofs.YthpknaieimlmnaaGreat
open Lib (hid)
open Go.RowKit Go.Shelf
namespace Cm

theorem made_few (d:Int) (L:List Act10):Few10 60 (madeA d (L.take 60)):=by
 by_cases h:60<=L.length
 ·exact Few10.made d L 60 h (by omega)
 ·have h1:=Few10.made d L L.length (Nat.le_refl _) (by omega)
  have e:L.take 60=L.take L.length:=by rw[List.take_of_length_le (Nat.le_refl _),List.take_of_length_le (by omega)]
  rw[e]
  have:=h1.num
  have:=h1.tok
  exact⟨h1.right,by omega,by omega⟩
theorem last_bounds {s:StV} (h:Rst s) (c:Int):(lastM s.memos c).1.seq <=2305843009213693952/\0<=(lastM s.memos c).1.seq :=by
 rcases idxM_cases s.memos c with ⟨_,q⟩ | ⟨k,hk,_,_,q⟩
 ·rw[q];exact⟨by decide,by decide⟩
 ·rw[q]
  have:=(mayA_bounds _ (h.memos.may _ (List.getElem_mem hk))).2.1
  dsimp only
  omega
theorem request_seq {s:StV} (h:Rst s) (a:Act10) (ha:a.ok):0<=(requestA s a).seq /\(requestA s a).seq <=2305843009213693953:=by
 have hl:=last_bounds h (req0 a).client
 have hr:(req0 a).seq =1+((a.seq % 6:Nat):Int):=rfl
 show 0<=seqA s a.seq (req0 a)/\seqA s a.seq (req0 a)<=2305843009213693953
 unfold seqA
 split
 ·omega
 ·split<;>omega
structure BoxP (w:World) (b:Nat) (r:ReplyV) (v:Value):Prop where
 c0:w.cell? ⟨b,0,none⟩=some (.int .i64 r.code)
 c1:w.cell? ⟨b,1,none⟩=some (.int .i64 r.session)
 c2:w.cell? ⟨b,2,none⟩=some (.int .i64 r.ahead)
 c3:w.cell? ⟨b,3,none⟩=some v
theorem BoxP.later {w w':World} {b:Nat} {r:ReplyV} {v:Value} (h:BoxP w b r v) (hb:Below w.heap.size w w'):BoxP w' b r v:=
 ⟨(hb.cell (lt_of_cell h.c0)).trans h.c0,(hb.cell (lt_of_cell h.c1)).trans h.c1,(hb.cell (lt_of_cell h.c2)).trans h.c2,(hb.cell (lt_of_cell h.c3)).trans h.c3⟩
theorem BoxP.new (w:World) (r:ReplyV) (v:Value) (t:TypeId):BoxP (w.alloc (.cells #[.int .i64 r.code,.int .i64 r.session,.int .i64 r.ahead,v] t)) w.heap.size r v:=by
 obtain⟨c0,c1,c2,c3⟩:=box4 (Below.refl _ (w.alloc (.cells #[.int .i64 r.code,.int .i64 r.session,.int .i64 r.ahead,v] t)))
 exact⟨c0,c1,c2,c3⟩
theorem two_boxes (w:World) (x:StC) (r:ReplyV) (v:Value) (t u:TypeId) {b:Nat} (hb:w.heap.size=b):
  BoxS ((w.alloc (.cells #[.int .i64 x.time,.int .i64 x.num,.int .i64 x.token,x.sv,x.kv,x.mv] t)).alloc (.cells #[.int .i64 r.code,.int .i64 r.session,.int .i64 r.ahead,v] u)) b x/\
  BoxP ((w.alloc (.cells #[.int .i64 x.time,.int .i64 x.num,.int .i64 x.token,x.sv,x.kv,x.mv] t)).alloc (.cells #[.int .i64 r.code,.int .i64 r.session,.int .i64 r.ahead,v] u)) (b+1) r v/\
  Below w.heap.size w ((w.alloc (.cells #[.int .i64 x.time,.int .i64 x.num,.int .i64 x.token,x.sv,x.kv,x.mv] t)).alloc (.cells #[.int .i64 r.code,.int .i64 r.session,.int .i64 r.ahead,v] u)):=by
 subst hb
 refine⟨(BoxS.new w x t).later (newAlloc _ _),?_,step (newAlloc _ _) (newAlloc _ _)⟩
 have:=BoxP.new (w.alloc (.cells #[.int .i64 x.time,.int .i64 x.num,.int .i64 x.token,x.sv,x.kv,x.mv] t)) r v u
 have e:(w.alloc (.cells #[.int .i64 x.time,.int .i64 x.num,.int .i64 x.token,x.sv,x.kv,x.mv] t)).heap.size =w.heap.size+1:=by simp
 rw[e] at this
 exact this
end Cm
end Go.Proofs.YthpknaieimlmnaaGreat
