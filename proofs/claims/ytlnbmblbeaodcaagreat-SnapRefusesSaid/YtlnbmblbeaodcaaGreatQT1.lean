/- Texts laid together by program. -/
import Derived.Test.YtlnbmblbeaodcaaGreatQS50
import Derived.Laws.CopyOwn
import Derived.Lib.Overlaps
import Derived.Lib.AppendZerosOnto
import Derived.Shelf.RegionOpenPlain
/- Contract: slices.Insert of one lock. -/
set_option linter.unusedVariables false
set_option maxRecDepth 8000
set_option linter.unusedSimpArgs false
namespace Go.Proofs.YtlnbmblbeaodcaaGreat
open Lib (hid)
open Go.RowKit Go.Shelf
namespace Cm

section
variable (base : Nat) (M : List LockC) (k : Nat) (y : LockC) (b : Nat) (w : World)

theorem src_one (hy:w.heap[b]?=some (.cells #[.string (bstr y.name),.int .i64 y.holder,.int .i64 y.token,y.lv] 71)):RdX 4 cellsK w (.slice (some ⟨b,0,none⟩) 1 1) [y]:=RdX.one hy rfl
end
end Cm
end Go.Proofs.YtlnbmblbeaodcaaGreat

/- What SnapRefuses asks besides: snapshots that may not be; what PutSnap tells of one. -/
set_option linter.unusedVariables false
set_option maxRecDepth 8000
set_option linter.unusedSimpArgs false
namespace Go.Proofs.YtlnbmblbeaodcaaGreat
open Lib (hid)
open Go.RowKit
namespace Cm

theorem PutSnap_no (x:SnapC) (w:World) (h:RdSt w x.st) (h5:x.st.S.length<=1000) (h6:x.st.K.length<=9223372036854775807) (h7: ∀k∈x.st.K,k.line.length<=1000) (hn: ∀k∈x.st.K,k.name.length<=maxLen) (hm:maySn x=false):
  Calls Tryz.prog 25 #[snapVal x] w (fun e w'=> ∃a c,e= .returned (.tuple #[.slice a 0 c,.int .i64 1])/\Below w.heap.size w w'):=
 (PutSnap_any x w h h5 h6 h7 hn).mono fun e w' q=>by
  unfold putSn at q
  rw[hm,if_neg (by simp)] at q
  obtain⟨v,he,ho,hb⟩:=q
  obtain⟨a,c,rfl⟩:=Rw.own_form ho
  exact⟨a,c,he,hb⟩
theorem MaySnap_no (x:SnapC) (w:World) (h:RdSt w x.st) (h5:x.st.S.length<=1000) (h6:x.st.K.length<=9223372036854775807) (h7: ∀k∈x.st.K,k.line.length<=1000) (hn: ∀k∈x.st.K,k.name.length<=maxLen) (hm:maySn x=false):
  Calls Tryz.prog 29 #[snapVal x] w (SaysB false w):=by
 have:=MaySnap_any x w h h5 h6 h7 hn
 rwa [hm] at this
theorem OwnD.setB {base g:Nat} {w:World} {v:Value} {M:List LockC} (h:OwnD base w v M) (hg:g<base) (i:Nat) (u:Value):OwnD base (w.setCell ⟨g,i,none⟩ u) v M:=by
 have key: ∀ {e sz n xs} {v:Value},w.ownsRow base e sz v n xs->(w.setCell ⟨g,i,none⟩ u).ownsRow base e sz v n xs:=fun h'=>Rw.own_keep h' fun k hk=>Below.heap_setCell _ _ _ _ (by have:=(Rw.own_lt h' k hk).1;show k≠g;omega)
 exact⟨key h.row,fun x hx=>key (h.line x hx),h.sep⟩
theorem maySn_st {x:SnapC} (h:rightA x.st.v=false):maySn x=false:=by unfold maySn;rw[h];simp
theorem maySn_done {x:SnapC} (h:highF x.done 0=false):maySn x=false:=by unfold maySn;rw[h];rfl
theorem maySn_slot {x:SnapC} (h:highF x.ts 0=false):maySn x=false:=by unfold maySn;rw[h];simp
theorem not_num {s:StV} (h:highF s.num 0=false):rightA s=false:=by unfold rightA;rw[h];simp
theorem not_time {s:StV} (h:highF s.time 0=false):rightA s=false:=by unfold rightA;rw[h];simp
theorem not_ses {s:StV} {x:SesV} (hx:x∈s.ses) (h:s.num<x.num):rightA s=false:=by
 have:s.ses.all (fun x=>decide (x.num<=s.num))=false:=List.all_eq_false.2 ⟨x,hx,by simp;omega⟩
 unfold rightA;rw[this];simp
theorem not_lock {s:StV} {k:LockV} (hk:k∈s.locks) (h:oneK k=false):rightA s=false:=by
 refine Bool.eq_false_iff.2 fun q=>?_
 unfold rightA at q
 simp only[Bool.and_eq_true] at q
 have:=((rightK_iff _).1 q.1.2.2.2.2.1).2.one k hk
 rw[h] at this
 cases this
theorem oneK_eight (n:List UInt8) (t:Int) (l:List Int):oneK ⟨n,8,t,l⟩=false:=by
 unfold oneK clientF
 simp
end Cm
end Go.Proofs.YtlnbmblbeaodcaaGreat

/- Contract: what an own row of locks, grown by one without a line, is. -/
set_option linter.unusedVariables false
set_option maxRecDepth 8000
set_option linter.unusedSimpArgs false
namespace Go.Proofs.YtlnbmblbeaodcaaGreat
open Lib (hid)
open Go.RowKit Go.Shelf
namespace Cm
theorem OwnD.add0 {base:Nat} {w1 w4:World} {a:Option Addr} {N c:Nat} {M:List LockC} {o:Obj} {v:Value} {x:LockC} (ho:OwnD base w1 (.slice a N c) M) (hg:(w1.alloc o).grownBy w4 (Value.slice a N c).ownBlock)
  (hl:x.line= []) (hv:x.lv= .slice none 0 0) (hr:w4.ownsRow base 71 4 v (M++ [x]).length (flatX cellsK (M++ [x]))):OwnD base w4 v (M++ [x]):=by
 refine⟨hr,fun y hy=>?_,List.pairwise_append.2 ⟨ho.sep,List.pairwise_singleton _ _,fun p hp q hq=>?_⟩⟩
 ·rcases List.mem_append.1 hy with q | q
  ·exact(app_facts ho hg).1 y q
  ·rw[List.mem_singleton] at q
   subst q
   rw[hl,hv]
   exact World.ownsRow_nil _ _ _ _
 ·rw[List.mem_singleton] at hq
  subst hq
  rw[hv]
  intro g _ h2
  cases h2
theorem add_fits {M:List LockC} {x:LockC} (h:M.length<=1000/\(∀x∈M,x.line.length<=1000)/\(∀x∈M,x.name.length<=maxLen)) (hl:x.line= []:=by rfl) (hn:x.name.length<=maxLen:=by decide):(M++ [x]).length <=1001/\(∀z∈M++ [x],z.line.length<=1000)/\(∀z∈M++ [x],z.name.length<=maxLen)/\x∈M++ [x]:=by
 refine⟨by rw[List.length_append];simp;omega,fun z hz=>?_,fun z hz=>?_,by simp⟩
 ·rcases List.mem_append.1 hz with q | q
  ·exact h.2.1 z q
  ·rw[List.mem_singleton] at q;subst q;rw[hl];simp
 ·rcases List.mem_append.1 hz with q | q
  ·exact h.2.2 z q
  ·rw[List.mem_singleton] at q;subst q;exact hn
end Cm
end Go.Proofs.YtlnbmblbeaodcaaGreat
