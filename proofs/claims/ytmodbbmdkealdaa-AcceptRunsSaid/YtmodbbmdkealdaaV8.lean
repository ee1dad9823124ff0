/- Texts laid together by program. -/
import Derived.Test.YtmodbbmdkealdaaV7
/- Contracts of package accept: copyOf, Accept. -/
set_option linter.unusedVariables false
set_option maxRecDepth 8000
set_option linter.unusedSimpArgs false
namespace Go.Proofs.Ytmodbbmdkealdaa
open Lib (hid)
open Go.RowKit
namespace Ac
open Cm

theorem infoReqA:(Try.prog.info? 53).map (fun i=>(i.zero,i.size,i.bytes))=some (some (.agg #[.int .i64 0,.int .i64 0,.int .i64 0,.int .i64 0,.string ⟨#[]⟩]),5,48):=by kernel_rfl
theorem info_partsA {e:TypeId} {z:Option Value} {s b:Nat} (h:(Try.prog.info? e).map (fun i=>(i.zero,i.size,i.bytes))=some (z,s,b)): ∃i,Try.prog.info? e=some i/\i.zero=z/\i.size=s/\i.bytes=b:=by
 cases hi:Try.prog.info? e with
 | none=>rw[hi] at h;cases h
 | some i=>
  rw[hi] at h
  simp only[Option.map_some,Option.some.injEq,Prod.mk.injEq] at h
  exact⟨i,rfl,h.1,h.2.1,h.2.2⟩
def voteObj (s b:Int) (f:Bool) (v t q m:Int) (u:Value):Obj:=.cells #[.int .i64 s,.int .i64 b,.bool f,.int .i64 v,.int .i64 t,.int .i64 q,.int .i64 m,u] 49
def Copied (x:VoteC) (w:World) (e:Ending) (w':World):Prop:= ∃y:VoteC,e= .returned (voteVal y)/\y.val=x.val/\OwnR w.heap.size w' y/\Below w.heap.size w w'
set_option maxHeartbeats 2000000 in
theorem copyOf_any (x:VoteC) (w:World) (h:RdR w x.u x.bat.reqs) (h3:x.bat.reqs.length<=1000):Calls Try.prog 28 #[voteVal x] w (Copied x w):=by
 obtain⟨s,b,⟨f,v,t,q,m,l⟩,ua,uc⟩:=x
 unfold voteVal
 dsimp only at h3
 rw[show VoteC.u ⟨s,b,⟨f,v,t,q,m,l⟩,ua,uc⟩= .slice ua l.length uc from rfl] at h ⊢
 dsimp only at h ⊢
 have hb1:=newAlloc w (voteObj s b f v t q m (.slice ua l.length uc))
 have k1:=alloc_atB w (voteObj s b f v t q m (.slice ua l.length uc)) _ rfl
 obtain⟨W1,hW1⟩: ∃W1,W1=w.alloc (voteObj s b f v t q m (.slice ua l.length uc)):=⟨_,rfl⟩
 rw[<-hW1] at hb1 k1
 have hs1:W1.heap.size=w.heap.size+1:=by rw[hW1];simp
 have hb2:=newAlloc W1 (voteObj 0 0 false 0 0 0 0 (.slice none 0 0))
 have d2:=alloc_atB W1 (voteObj 0 0 false 0 0 0 0 (.slice none 0 0)) _ hs1
 have k2:=cells_later k1 hb2
 obtain⟨W2,hW2⟩: ∃W2,W2=W1.alloc (voteObj 0 0 false 0 0 0 0 (.slice none 0 0)):=⟨_,rfl⟩
 rw[<-hW2] at hb2 d2 k2
 have hs2:W2.heap.size=w.heap.size+2:=by rw[hW2];simp [hs1]
 have HB2:=hid (step hb1 hb2)
 have HR2:=hid (h.later (step hb1 hb2))
 have HK2:=hid k2
 have HD2:=hid d2
 have HS2:=hid hs2
 have HL:=hid h3
 have c0:=cell_at k2 0
 have c1:=cell_at k2 1
 have c2:=cell_at k2 2
 have c3:=cell_at k2 3
 have c4:=cell_at k2 4
 have c5:=cell_at k2 5
 have c6:=cell_at k2 6
 have c7:=cell_at k2 7
 simp at c0 c1 c2 c3 c4 c5 c6 c7
 obtain⟨i5,hi5,h50,h51,h52⟩:=info_partsA infoReqA
 clear h hb1 hb2 k1 k2 d2 h3
 unfold voteObj at hW1 hW2
 go_enter Try.func28,Try.ntmps28
 go_upto_region 1 with fail
 rw[<-hW1,<-hW2]
 clear hW1 hW2 hs1 hs2
 go_wp2_with (at_builtin;refine wpList_append_rdx cellsR_length (by omega) cellsR_one rfl _ _ 25 rfl (w.heap.size+2) 53 i5 _ 48 Try.underlying25 hi5 h50 h51 h52 rfl (.slice none 0 0) 0 [] rfl (World.ownsRow_nil _ _ _ _) _ l rfl HR2.out (by have:=HL.out;unfold maxLen;omega) (by have:=HL.out;omega) (by have:=HS2.out;omega) ?_;intro v6 w6 hown6 hg6;rw[Nat.zero_add,List.nil_append] at hown6;obtain⟨va,vc,rfl⟩:=Rw.own_form hown6;have HO6:=hid hown6;have k6:w6.heap[w.heap.size]?= _:=(hg6.block _ (get_ltB HK2.out) (fun q=>by cases q)).trans HK2.out;have d6:w6.heap[w.heap.size+1]?= _:=(hg6.block _ (get_ltB HD2.out) (fun q=>by cases q)).trans HD2.out;have HB6:Hid (Below w.heap.size w w6):=hid (HB2.out.grown hg6 (by have:=HS2.out;omega) (fun k hk=>by cases hk));clear hown6 hg6;have g0:=cell_at k6 0;have g1:=cell_at k6 1;have g2:=cell_at k6 2;have g3:=cell_at k6 3;have g4:=cell_at k6 4;have g5:=cell_at k6 5;have g6:=cell_at k6 6;have g7:=cell_at k6 7;have gf:=frozen_at k6;have e0:=cell_at d6 0;have e1:=cell_at d6 1;have e2:=cell_at d6 2;have e3:=cell_at d6 3;have e4:=cell_at d6 4;have e5:=cell_at d6 5;have e6:=cell_at d6 6;have e7:=cell_at d6 7;have ef:=frozen_at d6;simp at g0 g1 g2 g3 g4 g5 g6 g7 e0 e1 e2 e3 e4 e5 e6 e7;have HK6:=hid k6;have HD6:=hid d6;clear k6 d6 c0 c1 c2 c3 c4 c5 c6 c7)
 refine bodyPost_ret (by simp [results,Try.results28,go_sem,g0,g1,g2,g3,g4,g5,g6,e0,e1,e2,e3,e4,e5,e6,e7]<;>rfl) rfl ⟨⟨s,b,⟨f,v,t,q,m,l⟩,va,vc⟩,rfl,rfl,?_,?_⟩
 ·have hk:=HK6.out
  have hd:=HD6.out
  refine own_lowerX (base:=w.heap.size+2) (Rw.own_keep HO6.out fun k hk=>?_) (by omega)
  have hk1:=(Rw.own_lt HO6.out k hk).1
  have key: ∀(W:World) (g j:Nat) (u:Value),k≠g->(W.setCell ⟨g,j,none⟩ u).heap[k]?=W.heap[k]?:=fun W g j u hne=>Below.heap_setCell _ _ _ _ hne
  have n1:k≠w.heap.size+1:=by omega
  rw[key _ _ _ _ n1,key _ _ _ _ n1,key _ _ _ _ n1,key _ _ _ _ n1,key _ _ _ _ n1,key _ _ _ _ n1,key _ _ _ _ n1,key _ _ _ _ n1,key _ _ _ _ (by omega)]
 ·have h1:w.heap.size<=w.heap.size+1:=by omega
  exact((((((((HB6.out.setCell (p:=⟨w.heap.size,7,none⟩) (Nat.le_refl _) _).setCell h1 _).setCell h1 _).setCell h1 _).setCell h1 _).setCell h1 _).setCell h1 _).setCell h1 _).setCell h1 _
end Ac
end Go.Proofs.Ytmodbbmdkealdaa
