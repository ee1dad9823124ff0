/- Texts laid together by program. -/
import Derived.Test.YtbcnednhfmchpaaQT5
import Derived.Test.YtbcnednhfmchpaaQ14
/- Contract: the document's learner's Hear, whatever is heard. -/
set_option linter.unusedVariables false
set_option maxRecDepth 8000
set_option linter.unusedSimpArgs false
namespace Go.Proofs.Ytbcnednhfmchpaa
open Lib (hid)
open Go.RowKit
namespace Ln
open Cm

def DidR (g m:Nat) (r:LrnV × Int) (w:World) (e:Ending) (w':World):Prop:=e= .returned (.int .i64 r.2)/\HasL w' g m r.1/\Turns g m w w'
theorem SaysNo.did {c:Int} {g m:Nat} {s:LrnV} {w:World} {e:Ending} {w':World} (h:SaysNo c g m s w e w'):DidR g m (s,c) w e w':=⟨h.1,h.2.1,(Turns.refl g m w).below h.2.2⟩
theorem RefHear_any (g m:Nat) (s:LrnV) (f b t:Int) (x:BatV) (u:Value) (w:World) (h:HasL w g m s) (hs:GoodN s) (ho:w.ownsRow m 73 5 u x.reqs.length (flatX cellsR x.reqs)):
  Calls Try.prog 15 #[.pointer (some ⟨g,0,none⟩),.int .i64 f,.int .i64 b,.int .i64 t,batVal x u] w (DidR g m (hearF s f b t x) w):=by
 have hn9:s.l.length<=1000:=by have:=goodN_len hs;omega
 have hr:RdR w u x.reqs:=RdX.own cellsR_length ho
 cases hbad:badF s f b t x
 case true=>
  rw[hearF_bad hbad]
  exact(RefHear_arg g m s f b t x u w h hr hbad).mono fun _ _ q=>q.did
 by_cases h1:t<=s.done
 ·have e:hearF s f b t x=(s,(11:Int)):=by
   rw[hearF_good hbad]
   split
   ·rw[if_pos (.inl h1)]
   ·rw[if_pos h1]
  rw[e]
  exact(RefHear_old g m s f b t x u w 11 h hs hn9 hr hbad (.inl ⟨h1,rfl⟩)).mono fun _ _ q=>q.did
 rw[hearF_good hbad]
 by_cases h9:s.done+9<t
 ·have hf:=at_far hs.win (.inr h9)
  rw[hf]
  dsimp only
  rw[if_neg h1,if_pos h9]
  exact(RefHear_old g m s f b t x u w 5 h hs hn9 hr hbad (.inr (.inr ⟨h9,fun y hy=>(by rw[hf] at hy;cases hy),rfl⟩))).mono fun _ _ q=>q.did
 cases hy:at_ s.l t with
 | none=>
  dsimp only
  rw[if_neg h1,if_neg h9]
  exact RefHear_new g m s f b t x u w h hs hn9 hr ho hbad (by omega) (by omega) hy
 | some y=>
  dsimp only
  by_cases hc:y.chosen=true
  ·rw[if_pos (.inr hc)]
   exact(RefHear_old g m s f b t x u w 11 h hs hn9 hr hbad (.inr (.inl ⟨by omega,⟨y,hy,hc⟩,rfl⟩))).mono fun _ _ q=>q.did
  ·have hc':y.chosen=false:=by simpa using hc
   rw[if_neg (fun q=>q.elim h1 hc),if_neg h9]
   by_cases hl:b<y.ballot
   ·rw[if_pos hl]
    exact(RefHear_less g m s f b t x u w h hs hn9 hr hbad (by omega) (by omega) y hy hc' hl).mono fun _ _ q=>q.did
   ·rw[if_neg hl]
    by_cases hgr:y.ballot<b
    ·exact RefHear_over g m s f b t x u w h hs hn9 hr ho hbad (by omega) (by omega) y hy hc' hgr
    ·exact RefHear_more g m s f b t x u w h hs hn9 hr ho hbad (by omega) (by omega) y hy hc' (by omega)
end Ln
end Go.Proofs.Ytbcnednhfmchpaa

/- What LearnRuns stands on: both learners side by side. -/
set_option linter.unusedVariables false
set_option maxRecDepth 8000
set_option linter.unusedSimpArgs false
namespace Go.Proofs.Ytbcnednhfmchpaa
open Lib (hid)
open Go.RowKit
namespace Ln
open Cm
section
variable {w w' : World} {g g2 m m1 B : Nat} {s : LrnV}
theorem Turns.at_ (ht:Turns g2 m w w') {k:Nat} {o:Obj} (h:w.heap[k]?=some o) (hne:k≠g2) (hty: ∀cs,o≠ .cells cs 66):w'.heap[k]?=some o:=
 (ht.block k (get_ltB h) hne (.inr fun cs q=>hty cs (by rw[h] at q;injection q))).trans h
theorem HasD.turns (h:HasD w g m1 s) (ht:Turns g2 m w w') (hne:g≠g2) (hg:g2<m1):HasD w' g m1 s:=by
 obtain⟨M,h1,h2,h3⟩:=h.ex
 refine⟨⟨M,ht.at_ h1 hne (fun cs q=>by injection q with _ q;exact absurd q (by decide)),h2,fun x hx=>?_⟩,h.gm,Nat.le_trans h.mw ht.size⟩
 refine Rw.own_keep (h3 x hx) fun k hk=>?_
 have hk2:=Rw.own_lt (h3 x hx) k hk
 rcases (h3 x hx).2 with ⟨q,_⟩ | ⟨lb,cap,cur,e,hb,hc,_⟩
 ·rw[q] at hk
  cases hk
 ·rw[e] at hk
  have hk:lb=k:=by simpa [Value.ownBlock] using hk
  subst hk
  rw[ht.at_ hc (by omega) (fun cs q=>by injection q with _ q;exact absurd q (by decide)),hc]
theorem below_turns (hb:Below B w w') {w'':World} (ht:Turns g2 m w' w'') (h1:B<=g2) (h2:B<=m) (h3:B<=w'.heap.size):Below B w w'':=
 ⟨ht.os.trans hb.os,ht.tape.trans hb.tape,ht.output.trans hb.output,Nat.le_trans hb.size ht.size,fun k hk=>(ht.block k (Nat.lt_of_lt_of_le hk h3) (by omega) (.inl (by omega))).trans (hb.block k hk)⟩
theorem HasL.new {n:Int} (h:w.heap[g]?=some (.cells #[.int .i64 n,.int .i64 0,.slice none 0 0] 42)) (h1:g<m) (h2:m<=w.heap.size):HasL w g m (newL n):=
 ⟨⟨.slice none 0 0,[],h,rfl,World.ownsRow_nil _ _ _ _,fun x hx=>by cases hx⟩,h1,h2⟩
end
theorem RefNew_yes (n:Int) (w:World) (h:someN n=true):Calls Try.prog 10 #[.int .i64 n] w (fun e w'=>e= .returned (.pointer (some ⟨w.heap.size,0,none⟩))/\w'=w.alloc (.cells #[.int .i64 n,.int .i64 0,.slice none 0 0] 42)):=by
 refine(RefNew_any n w).mono ?_
 intro e w' q
 rw[if_pos h] at q
 exact q
theorem RefNew_no (n:Int) (w:World) (h:someN n=false):Calls Try.prog 10 #[.int .i64 n] w (fun e w'=>e= .returned (.pointer none)/\w'=w):=by
 refine(RefNew_any n w).mono ?_
 intro e w' q
 rw[h,if_neg Bool.false_ne_true] at q
 exact q
theorem some_iff {n:Int} (h:someN n=true):1<=n/\n<=7:=by
 unfold someN at h
 simpa using h
end Ln
end Go.Proofs.Ytbcnednhfmchpaa
