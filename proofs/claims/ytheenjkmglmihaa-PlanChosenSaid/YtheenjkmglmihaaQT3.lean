/- Texts laid together by program. -/
import Derived.Test.YtheenjkmglmihaaQT2
/- Votes in memory. -/
set_option linter.unusedVariables false
set_option maxRecDepth 8000
set_option linter.unusedSimpArgs false
namespace Go.Proofs.Ytheenjkmglmihaa
open Lib (hid)
open Go.RowKit
namespace Ac
open Cm

theorem valsV_snoc (L:List VoteC) (x:VoteC):valsV (L++ [x])=valsV L++ [x.val]:=by simp [valsV]
theorem cellsV_one (x:VoteC): ∀u∈cellsV x,u.oneCell'=true:=by
 intro u hu
 unfold cellsV VoteC.u at hu
 simp only[List.mem_cons,List.not_mem_nil,or_false] at hu
 rcases hu with rfl | rfl | rfl | rfl | rfl | rfl | rfl | rfl<;>rfl
def OwnR (base:Nat) (w:World) (x:VoteC):Prop:=w.ownsRow base 77 5 x.u x.bat.reqs.length (flatX cellsR x.bat.reqs)
structure OwnV (base:Nat) (w:World) (v:Value) (L:List VoteC):Prop where
 row:w.ownsRow base 49 8 v L.length (flatX cellsV L)
 reqs: ∀x∈L,OwnR base w x
theorem OwnR.zero (base:Nat) (w:World):OwnR base w zeroC:=World.ownsRow_nil _ _ _ _
theorem OwnR.rd {base:Nat} {w:World} {x:VoteC} (h:OwnR base w x):RdR w x.u x.bat.reqs:=RdX.own cellsR_length h
theorem OwnR.later {base:Nat} {w w':World} {x:VoteC} (h:OwnR base w x) (hb:Below w.heap.size w w'):OwnR base w' x:=Rw.own_below h hb
theorem OwnV.nil (base:Nat) (w:World):OwnV base w (.slice none 0 0) []:=⟨World.ownsRow_nil _ _ _ _,fun x hx=>by cases hx⟩
theorem OwnV.rd {base:Nat} {w:World} {v:Value} {L:List VoteC} (h:OwnV base w v L):RdV w v L:=⟨RdX.own cellsV_length h.row,fun x hx=>(h.reqs x hx).rd⟩
theorem OwnV.later {base:Nat} {w w':World} {v:Value} {L:List VoteC} (h:OwnV base w v L) (hb:Below w.heap.size w w'):OwnV base w' v L:=⟨Rw.own_below h.row hb,fun x hx=>(h.reqs x hx).later hb⟩
theorem OwnV.lower {base base':Nat} {w:World} {v:Value} {L:List VoteC} (h:OwnV base w v L) (hb:base'<=base):OwnV base' w v L:=⟨own_lowerX h.row hb,fun x hx=>own_lowerX (h.reqs x hx) hb⟩
end Ac
end Go.Proofs.Ytheenjkmglmihaa
