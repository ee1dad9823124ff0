/- Texts laid together by program. -/
import Derived.Test.YtlnbmblbeaodcaaGreatQS18
import Derived.Maps.AppendAt
/- Package snap, as plain functions: readers that are put together, what is put is read as it was, cut anywhere it is too short. No program is named here. -/
set_option linter.unusedVariables false
set_option maxRecDepth 8000
set_option linter.unusedSimpArgs false
namespace Go.Proofs.YtlnbmblbeaodcaaGreat
open Lib (hid)
open Go.RowKit
namespace Cm
variable {α β : Type}

abbrev Rdr (α:Type):=List UInt8->Int->Except Int (α × Int)
def toldR (f:List UInt8->Int->α × Int × Int):Rdr α:=fun bs t=>if (f bs t).2.2=0 then .ok ((f bs t).1,(f bs t).2.1) else .error (f bs t).2.2
def pureR (x:α):Rdr α:=fun _ t=>.ok (x,t)
def failR (e:Int):Rdr α:=fun _ _=>.error e
def thenR (f:Rdr α) (g:α->Rdr β):Rdr β:=fun bs t=>match f bs t with
 | .error e=>.error e
 | .ok r=>g r.1 bs r.2
def rowR (f:Rdr α) (G:List α):Nat->Rdr (List α)
 | 0=>pureR G
 | n+1=>thenR f fun x=>rowR f (G++ [x]) n
def numR:Rdr Int:=toldR numOf
def byteR:Rdr Int:=toldR byteOf
def textR (m:Int):Rdr (List UInt8):=toldR fun bs t=>textOf bs t m
def ansR:Rdr AnsV:=toldR getA
def countR (m:Int):Rdr Int:=thenR byteR fun n=>if m<n then failR 4 else pureR n
structure BackR (f:Rdr α) (p:List UInt8) (x:α):Prop where
 back: ∀a c,f (a++p++c) a.length= .ok (x,((a.length+p.length:Nat):Int))
 cut: ∀(a:List UInt8) j,j<p.length->f (a++p.take j) a.length= .error 2
theorem BackR.pure (x:α):BackR (pureR x) [] x:=
 ⟨fun a c=>by simp [pureR],fun a j h=>absurd h (by simp)⟩
theorem BackR.bind {f:Rdr α} {g:α->Rdr β} {p q:List UInt8} {x:α} {y:β} (hf:BackR f p x) (hg:BackR (g x) q y):BackR (thenR f g) (p++q) y:=by
 refine⟨fun a c=>?_,fun a j h=>?_⟩
 ·have h1:=hf.back a (q++c)
  have h2:=hg.back (a++p) c
  rw[show a++p++(q++c)=a++p++q++c by simp] at h1
  unfold thenR
  rw[show a++(p++q)++c=a++p++q++c by simp,h1]
  dsimp only
  rw[<-List.length_append,h2,List.length_append,List.length_append]
  simp [Nat.add_assoc]
 ·unfold thenR
  by_cases hj:j<p.length
  ·rw[List.take_append_of_le_length (by omega),hf.cut a j hj]
  ·have h1:=hf.back a (q.take (j - p.length))
   have h2:=hg.cut (a++p) (j - p.length) (by rw[List.length_append] at h;omega)
   have e:a++(p++q).take j=a++p++q.take (j - p.length):=by rw[List.take_append,List.take_of_length_le (by omega),List.append_assoc]
   rw[e,h1]
   dsimp only
   rw[<-List.length_append,h2]
theorem BackR.row {f:Rdr α} {put:α->List UInt8} : ∀(l:List α) (G:List α),(∀x∈l,BackR f (put x) x)->BackR (rowR f G l.length) (l.flatMap put) (G++l)
 | [],G,h=>by rw[List.append_nil];exact BackR.pure G
 | x::l,G,h=>by
  have h1:=h x List.mem_cons_self
  have h2:=BackR.row l (G++ [x]) (fun y hy=>h y (List.mem_cons_of_mem _ hy))
  rw[List.append_assoc] at h2
  exact BackR.bind h1 h2
theorem BackR.told {f:List UInt8->Int->α × Int × Int} {p:List UInt8} {x z:α} (h1: ∀a c,f (a++p++c) a.length=(x,((a.length+p.length:Nat):Int),0)) (h2: ∀(a:List UInt8) j,j<p.length->f (a++p.take j) a.length=(z,0,2)):BackR (toldR f) p x:=
 ⟨fun a c=>by unfold toldR;rw[h1];rfl,fun a j h=>by unfold toldR;rw[h2 a j h];rfl⟩
theorem BackR.num {v:Int} (h0:0<=v) (h1:v<4611686018427387904):BackR numR (be8 v.toNat) v:=by
 refine BackR.told (z:=0) (fun a c=>?_) (fun a j h=>?_)
 ·have:=numOf_put v.toNat (by omega) a c
  rw[this,be8_length,Int.toNat_of_nonneg h0]
  rfl
 ·rw[be8_length] at h
  exact numOf_short _ a.length (by rw[List.length_append,List.length_take,be8_length];omega)
theorem BackR.byte {v:Int} (h0:0<=v) (h1:v<256):BackR byteR [UInt8.ofNat v.toNat] v:=by
 refine BackR.told (z:=0) (fun a c=>?_) (fun a j h=>?_)
 ·rw[byteOf_put,toNat_byte _ (by omega),Int.toNat_of_nonneg h0]
  simp
 ·rw[List.length_singleton] at h
  obtain rfl:j=0:=by omega
  exact byteOf_short _ _ (by simp)
theorem BackR.count {n:Nat} {m:Int} (h:(n:Int)<=m) (h1:n<256):BackR (countR m) [UInt8.ofNat n] n:=by
 have hb:=BackR.byte (v:=(n:Int)) (by omega) (by omega)
 rw[Int.toNat_natCast] at hb
 have:=BackR.bind (g:=fun n:Int=>if m<n then failR 4 else pureR n) (q:= []) (y:=(n:Int)) hb (by rw[if_neg (by omega)];exact BackR.pure _)
 rwa [List.append_nil] at this
theorem BackR.text {s:List UInt8} {m:Int} (h:s.length<=255) (hm:(s.length:Int)<=m):BackR (textR m) (UInt8.ofNat s.length::s) s:=by
 refine BackR.told (z:= []) (fun a c=>?_) (fun a j hj=>?_)
 ·rw[textOf_put' s h a c m hm]
  simp;omega
 ·exact textOf_short _ a.length m s h hm a j (by rw[List.length_cons] at hj;omega) rfl rfl
theorem BackR.ans {r:AnsV} (h:mayA r=true):BackR ansR (bytesA r) r:=
 BackR.told (z:=zeroA) (fun a c=>by rw[getA_put r h a c,bytesA_length];simp) (fun a j hj=>getA_cut r h a j hj)
/-! ### A session, a lock, a state, a snapshot -/
def sesR:Rdr SesV:=thenR byteR fun c=>thenR numR fun n=>thenR numR fun r=>pureR ⟨c,n,r⟩
def bytesSes (x:SesV):List UInt8:= [UInt8.ofNat x.client.toNat]++(be8 x.num.toNat++(be8 x.ren.toNat++ []))
def lineB (l:List Int):List UInt8:=l.flatMap fun c=> [UInt8.ofNat c.toNat]
def lockR:Rdr LockV:=thenR (textR 12) fun n=>thenR byteR fun h=>thenR numR fun t=>thenR (countR 3) fun m=>thenR (rowR byteR [] m.toNat) fun l=>pureR ⟨n,h,t,l⟩
def bytesLock (k:LockV):List UInt8:=(UInt8.ofNat k.name.length::k.name)++([UInt8.ofNat k.holder.toNat]++(be8 k.token.toNat++([UInt8.ofNat k.line.length]++(lineB k.line++ []))))
def stateR:Rdr StV:=thenR numR fun t=>thenR numR fun n=>thenR numR fun k=>thenR (countR 5) fun a=>thenR (rowR sesR [] a.toNat) fun ses=>thenR (countR 4) fun b=>thenR (rowR lockR [] b.toNat) fun locks=>
 thenR (countR 8) fun c=>thenR (rowR ansR [] c.toNat) fun memos=>pureR ⟨t,n,k,ses,locks,memos⟩
def bytesSt (s:StV):List UInt8:=be8 s.time.toNat++(be8 s.num.toNat++(be8 s.token.toNat++([UInt8.ofNat s.ses.length]++(s.ses.flatMap bytesSes++([UInt8.ofNat s.locks.length]++(s.locks.flatMap bytesLock++([UInt8.ofNat s.memos.length]++(s.memos.flatMap bytesA++ []))))))))
theorem oneS_bounds {x:SesV} (h:oneS x=true):(0<=x.client/\x.client<8)/\(1<=x.num/\x.num<=2305843009213693952)/\(0<=x.ren/\x.ren<=2305843009213693952):=by
 unfold oneS clientF highF at h
 simp at h
 omega
theorem BackR.ses {x:SesV} (h:oneS x=true):BackR sesR (bytesSes x) x:=by
 obtain⟨h1,h2,h3⟩:=oneS_bounds h
 exact(BackR.byte h1.1 (by omega)).bind ((BackR.num (by omega) (by omega)).bind ((BackR.num (by omega) (by omega)).bind (BackR.pure _)))
theorem BackR.line {l:List Int} (h:rightL l=true):BackR (rowR byteR [] l.length) (lineB l) l:=by
 have:=BackR.row (f:=byteR) (put:=fun c=> [UInt8.ofNat c.toNat]) l [] fun x hx=>by
  have:=((rightL_iff l).1 h).2.ok x hx
  unfold clientF at this
  simp at this
  exact BackR.byte this.1 (by omega)
 exact this
theorem BackR.lock {k:LockV} (h:oneK k=true):BackR lockR (bytesLock k) k:=by
 unfold oneK at h
 simp only[Bool.and_eq_true] at h
 obtain⟨hn,hc,ht,hl,_⟩:=h
 have hnl:k.name.length<=12:=name_len _ hn
 unfold clientF at hc
 unfold highF at ht
 simp at hc ht
 have h3:=((rightL_iff k.line).1 hl).1
 refine(BackR.text (by omega) (by omega)).bind ((BackR.byte hc.1 (by omega)).bind ((BackR.num (by omega) (by omega)).bind ((BackR.count (n:=k.line.length) (by omega) (by omega)).bind ?_)))
 rw[Int.toNat_natCast]
 exact(BackR.line hl).bind (BackR.pure _)
theorem rm_few {l:List AnsV} (h:Rm l):l.length<=8:=by
 have hm:(l.map fun a=>a.client.toNat).Nodup :=by
  rw[List.nodup_iff_pairwise_ne,List.pairwise_map]
  refine h.up.imp_of_mem fun {a b} ha hb hlt=>?_
  have:=(mayA_bounds a (h.may a ha)).1
  omega
 have hs:(l.map fun a=>a.client.toNat) ⊆ List.range 8:=fun x hx=>by
  obtain⟨a,ha,rfl⟩:=List.mem_map.1 hx
  have:=(mayA_bounds a (h.may a ha)).1
  exact List.mem_range.2 (by omega)
 have:=(List.Nodup.length_le_of_subset hm hs)
 simpa using this
theorem BackR.state {s:StV} (h:rightA s=true):BackR stateR (bytesSt s) s:=by
 unfold rightA at h
 simp only[Bool.and_eq_true] at h
 obtain⟨⟨h1,h2,h3,h4,h5,h6⟩, -, -⟩:=h
 unfold highF at h1 h2 h3
 simp at h1 h2 h3
 obtain⟨n4,r4⟩:=(rightS_iff _).1 h4
 obtain⟨n5,r5⟩:=(rightK_iff _).1 h5
 have r6:=(rightM_iff _).1 h6
 have n6:=rm_few r6
 have b4:=BackR.row (f:=sesR) (put:=bytesSes) s.ses [] fun x hx=>BackR.ses (r4.one x hx)
 have b5:=BackR.row (f:=lockR) (put:=bytesLock) s.locks [] fun x hx=>BackR.lock (r5.one x hx)
 have b6:=BackR.row (f:=ansR) (put:=bytesA) s.memos [] fun x hx=>BackR.ans (r6.may x hx)
 rw[List.nil_append] at b4 b5 b6
 refine(BackR.num (by omega) (by omega)).bind ((BackR.num (by omega) (by omega)).bind ((BackR.num (by omega) (by omega)).bind ((BackR.count (n:=s.ses.length) (by omega) (by omega)).bind ?_)))
 rw[Int.toNat_natCast]
 refine b4.bind ((BackR.count (n:=s.locks.length) (by omega) (by omega)).bind ?_)
 rw[Int.toNat_natCast]
 refine b5.bind ((BackR.count (n:=s.memos.length) (by omega) (by omega)).bind ?_)
 rw[Int.toNat_natCast]
 exact b6.bind (BackR.pure _)
end Cm
end Go.Proofs.YtlnbmblbeaodcaaGreat

/- Contracts: the document's MayAnswer, SameAnswer. -/
set_option linter.unusedVariables false
set_option maxRecDepth 8000
set_option linter.unusedSimpArgs false
namespace Go.Proofs.YtlnbmblbeaodcaaGreat
open Lib (hid)
open Go.RowKit
namespace Cm

def ansVal (r:AnsV) (v:Value):Value:=.agg #[.int .i64 r.client,.int .i64 r.seq,.int .i64 r.rep.code,.int .i64 r.rep.session,.int .i64 r.rep.ahead,v]
theorem box6 {w w':World} {x y z u v s:Value} {t:TypeId} (h:Below (w.alloc (.cells #[x,y,z,u,v,s] t)).heap.size (w.alloc (.cells #[x,y,z,u,v,s] t)) w'):
  w'.cell? ⟨w.heap.size,0,none⟩=some x/\w'.cell? ⟨w.heap.size,1,none⟩=some y/\w'.cell? ⟨w.heap.size,2,none⟩=some z/\w'.cell? ⟨w.heap.size,3,none⟩=some u/\w'.cell? ⟨w.heap.size,4,none⟩=some v/\w'.cell? ⟨w.heap.size,5,none⟩=some s:=by
 have hl:w.heap.size<(w.alloc (.cells #[x,y,z,u,v,s] t)).heap.size :=by simp
 refine⟨?_,?_,?_,?_,?_,?_⟩
 ·rw[h.cell (p:=⟨w.heap.size,0,none⟩) hl];simp [go_sem]
 ·rw[h.cell (p:=⟨w.heap.size,1,none⟩) hl];simp [go_sem]
 ·rw[h.cell (p:=⟨w.heap.size,2,none⟩) hl];simp [go_sem]
 ·rw[h.cell (p:=⟨w.heap.size,3,none⟩) hl];simp [go_sem]
 ·rw[h.cell (p:=⟨w.heap.size,4,none⟩) hl];simp [go_sem]
 ·rw[h.cell (p:=⟨w.heap.size,5,none⟩) hl];simp [go_sem]
theorem free4 {w w':World} {x y z u:Value} {t:TypeId} (h:Below (w.alloc (.cells #[x,y,z,u] t)).heap.size (w.alloc (.cells #[x,y,z,u] t)) w'):
  ∀k,w'.frozen? ⟨w.heap.size,k,none⟩=false:=by
 intro k
 have hl:w.heap.size<(w.alloc (.cells #[x,y,z,u] t)).heap.size :=by simp
 rw[h.frozen (p:=⟨w.heap.size,k,none⟩) hl]
 simp [go_sem]
theorem free6 {w w':World} {x y z u v s:Value} {t:TypeId} (h:Below (w.alloc (.cells #[x,y,z,u,v,s] t)).heap.size (w.alloc (.cells #[x,y,z,u,v,s] t)) w'):
  ∀k,w'.frozen? ⟨w.heap.size,k,none⟩=false:=by
 intro k
 have hl:w.heap.size<(w.alloc (.cells #[x,y,z,u,v,s] t)).heap.size :=by simp
 rw[h.frozen (p:=⟨w.heap.size,k,none⟩) hl]
 simp [go_sem]
theorem RefMayAnswer_any (r:AnsV) (v:Value) (w:World) (h:RdH w v r.rep.held):Calls Tryz.prog 102 #[ansVal r v] w (SaysB (mayA r) w):=by
 obtain⟨c,q,m⟩:=r
 have C1:=hid (fun w=>high_any q 1 w)
 have C2:Hid (∀w',Below w.heap.size w w'->Calls Tryz.prog 158 #[repVal m v] w' (SaysB (mayP m) w')):=fun w' hb=>MayReply_any m v w' (h.later hb)
 clear h
 unfold ansVal mayA
 unfold repVal at C2
 obtain⟨k,s,d,l⟩:=m
 dsimp only at C2 ⊢
 by_cases h0:0<=c
 ·have d0:decide (0<=c)=true:=decide_eq_true h0
  by_cases h1:c<8
  ·have d1:decide (c<8)=true:=decide_eq_true h1
   cases hh:highF q 1
   all_goals
    have H:=hid hh
    clear hh
    go_enter Tryz.func102,Tryz.ntmps102
    go_wp2_with (first
     | (go_at_call 121;refine(C1.out _).mono ?_;rw[H.out];rintro e w' ⟨rfl,rfl⟩)
     | (go_at_call 158;refine(C2.out _ (newAlloc _ _)).mono ?_;rintro e w' ⟨rfl,hb⟩))
    go_ret
    first
     | exact⟨by simp [h0,h1],newAlloc _ _⟩
     | exact⟨by simp [h0,h1],step (newAlloc _ _) hb⟩
  ·have d1:decide (c<8)=false:=decide_eq_false h1
   go_enter Tryz.func102,Tryz.ntmps102
   go_wp2
   go_ret
   exact⟨by simp [h0,h1],newAlloc _ _⟩
 ·have d0:decide (0<=c)=false:=decide_eq_false h0
  go_enter Tryz.func102,Tryz.ntmps102
  go_wp2
  go_ret
  exact⟨by simp [h0],newAlloc _ _⟩
end Cm
end Go.Proofs.YtlnbmblbeaodcaaGreat

/- Contracts: the document's PutReply. -/
set_option linter.unusedVariables false
set_option maxRecDepth 8000
set_option linter.unusedSimpArgs false
namespace Go.Proofs.YtlnbmblbeaodcaaGreat
open Lib (hid)
open Go.RowKit
namespace Cm

theorem bytesH_take (l:List GrantV) (j:Nat) (h:j<l.length):bytesH (l.take (j+1))=bytesH (l.take j)++bytesG l[j]:=by
 rw[List.take_succ_eq_append_getElem h,bytesH_snoc]
theorem bytesH_le: ∀(l:List GrantV),(∀g∈l,g.name.length<=12/\1<=g.token/\g.token<=2305843009213693952)->(bytesH l).length <=l.length*21
 | [],_=>by simp [bytesH]
 | g::l,h=>by
  have:=bytesH_le l (fun x hx=>h x (List.mem_cons_of_mem _ hx))
  have hg:=(h g List.mem_cons_self).1
  rw[bytesH_cons,List.length_append,bytesG_length,List.length_cons]
  omega
end Cm
end Go.Proofs.YtlnbmblbeaodcaaGreat

/- Contracts: the document's PutAnswer. -/
set_option linter.unusedVariables false
set_option maxRecDepth 8000
set_option linter.unusedSimpArgs false
namespace Go.Proofs.YtlnbmblbeaodcaaGreat
open Lib (hid)
open Go.RowKit
namespace Cm

theorem bytesP_le (r:ReplyV) (hm:mayP r=true):(bytesP r).length <=95:=by
 obtain⟨hk,hs,hd,hl4,hall⟩:=mayP_bounds r hm
 have:=bytesH_le r.held hall
 rw[bytesP_length]
 omega
end Cm
end Go.Proofs.YtlnbmblbeaodcaaGreat

/- Contracts: the document's GetReply. -/
set_option linter.unusedVariables false
set_option maxRecDepth 8000
set_option linter.unusedSimpArgs false
namespace Go.Proofs.YtlnbmblbeaodcaaGreat
open Lib (hid)
open Go.RowKit
namespace Cm

def gCells:List GrantV->List Value
 | []=> []
 | g::l=>.string (bstr g.name):: .int .i64 g.token::gCells l
theorem gCells_snoc: ∀(l:List GrantV) (g:GrantV),gCells (l++ [g])=gCells l++ [.string (bstr g.name),.int .i64 g.token]
 | [],g=>rfl
 | x::l,g=>by rw[List.cons_append,gCells,gCells_snoc l g];rfl
theorem gCells_get: ∀(l:List GrantV) (i:Nat) (h:i<l.length),(gCells l)[i*2]?=some (.string (bstr l[i].name))/\(gCells l)[i*2+1]?=some (.int .i64 l[i].token)
 | g::l,0,_=>⟨rfl,rfl⟩
 | g::l,i+1,h=>by
  have:=gCells_get l i (by simpa using h)
  rw[show(i+1)*2=i*2+1+1 by omega,show i*2+1+1+1=(i*2+1)+1+1 by omega]
  exact this
theorem RdH.own {w:World} {base:Nat} {e:TypeId} {v:Value} {l:List GrantV} (h:w.ownsRow base e 2 v l.length (gCells l)):RdH w v l:=by
 rcases h.2 with ⟨rfl,hn⟩ | ⟨g,cap,cur,rfl,hb,hg,hn,hc,hs,ht⟩
 ·have:l= []:=List.length_eq_zero_iff.1 hn
  subst this
  exact RdH.nil w
 ·refine⟨some ⟨g,0,none⟩,cap,rfl,hn,hc,(fun q=>by cases q),fun x hx hp=>?_⟩
  cases hx
  refine⟨rfl,fun i hi=>?_⟩
  obtain⟨h1,h2⟩:=gCells_get l i hi
  have a1:=h.cellAt (i*2) (by omega)
  have a2:=h.cellAt (i*2+1) (by omega)
  rw[h1] at a1
  rw[h2] at a2
  simp only[Nat.zero_add]
  exact⟨a1,a2⟩
theorem get_lt {w:World} {a:Nat} {o:Obj} (h:w.heap[a]?=some o):a<w.heap.size:=(Array.getElem?_eq_some_iff.1 h).1
theorem own_lower {w:World} {base base':Nat} {e:TypeId} {size n:Nat} {v:Value} {xs:List Value} (h:w.ownsRow base e size v n xs) (hb:base'<=base):w.ownsRow base' e size v n xs:=by
 refine⟨h.1,?_⟩
 rcases h.2 with q | ⟨g,cap,cur,h1,h2,r⟩
 ·exact .inl q
 ·exact .inr ⟨g,cap,cur,h1,Nat.le_trans hb h2,r⟩
theorem set4 {w w1:World} (h:Below w.heap.size w w1) (x y z u:Value):Below w.heap.size w ((((w1.setCell ⟨w.heap.size,0,none⟩ x).setCell ⟨w.heap.size,1,none⟩ y).setCell ⟨w.heap.size,2,none⟩ z).setCell ⟨w.heap.size,3,none⟩ u):=
 (((h.setCell (Nat.le_refl _) _).setCell (Nat.le_refl _) _).setCell (Nat.le_refl _) _).setCell (Nat.le_refl _) _
def GetsP (r:ReplyV × Int × Int) (w:World) (e:Ending) (w':World):Prop:=
 ∃v,e= .returned (.tuple #[repVal r.1 v,.int .i64 r.2.1,.int .i64 r.2.2])/\w'.ownsRow (w.heap.size+1) 141 2 v r.1.held.length (gCells r.1.held)/\Below w.heap.size w w'
theorem GetsP.zeroed {w w':World} {e:Ending} {c:Int} (he:e= .returned (.tuple #[.agg #[.int .i64 0,.int .i64 0,.int .i64 0,.slice none 0 0],.int .i64 0,.int .i64 c])) (hb:Below w.heap.size w w'):GetsP (zeroP,0,c) w e w':=
 ⟨.slice none 0 0,he,World.ownsRow_nil _ _ _ _,hb⟩
def finP (bs:List UInt8) (k s a:Int) (G:List GrantV) (T:Int) (m:Nat):ReplyV × Int × Int:=
 if (getHeld bs m T).2.2≠0 then (zeroP,0,(getHeld bs m T).2.2) else if mayP ⟨k,s,a,G++(getHeld bs m T).1⟩ then (⟨k,s,a,G++(getHeld bs m T).1⟩,(getHeld bs m T).2.1,0) else (zeroP,0,4)
theorem byteOf_pos (bs:List UInt8) (t:Int):0<=(byteOf bs t).1:=by
 unfold byteOf
 split
 ·simp
 ·simp only;omega
theorem getP_told (bs:List UInt8) (t:Int) {k t1 e1 s t2 e2 a t3 e3 n t4 e4:Int} (h1:byteOf bs t=(k,t1,e1)) (h2:numOf bs t1=(s,t2,e2)) (h3:byteOf bs t2=(a,t3,e3)) (h4:byteOf bs t3=(n,t4,e4)):
  getP bs t=if e1≠0 then (zeroP,0,e1) else if e2≠0 then (zeroP,0,e2) else if e3≠0 then (zeroP,0,e3) else if e4≠0 then (zeroP,0,e4) else if 4<n then (zeroP,0,4) else finP bs k s a [] t4 n.toNat:=by
 unfold getP finP
 rw[h1]
 dsimp only
 rw[h2]
 dsimp only
 rw[h3]
 dsimp only
 rw[h4]
 dsimp only
 simp only[List.nil_append]
theorem info49:(Tryz.prog.info? 141).map (fun i=>(i.zero,i.size,i.bytes))=some (some (.agg #[.string ⟨#[]⟩,.int .i64 0]),2,24):=by kernel_rfl
end Cm
end Go.Proofs.YtlnbmblbeaodcaaGreat

/- Contracts: the document's GetAnswer. -/
set_option linter.unusedVariables false
set_option maxRecDepth 8000
set_option linter.unusedSimpArgs false
namespace Go.Proofs.YtlnbmblbeaodcaaGreat
open Lib (hid)
open Go.RowKit
namespace Cm

theorem set6 {w w1:World} (h:Below w.heap.size w w1) (x y z u v s:Value):Below w.heap.size w ((((((w1.setCell ⟨w.heap.size,0,none⟩ x).setCell ⟨w.heap.size,1,none⟩ y).setCell ⟨w.heap.size,2,none⟩ z).setCell ⟨w.heap.size,3,none⟩ u).setCell ⟨w.heap.size,4,none⟩ v).setCell ⟨w.heap.size,5,none⟩ s):=
 (((((h.setCell (Nat.le_refl _) _).setCell (Nat.le_refl _) _).setCell (Nat.le_refl _) _).setCell (Nat.le_refl _) _).setCell (Nat.le_refl _) _).setCell (Nat.le_refl _) _
theorem own_set6 {w w1:World} {base n:Nat} {e:TypeId} {v:Value} {xs:List Value} (h:w1.ownsRow base e 2 v n xs) (hb:w.heap.size<base) (x y z u t s:Value):
  ((((((w1.setCell ⟨w.heap.size,0,none⟩ x).setCell ⟨w.heap.size,1,none⟩ y).setCell ⟨w.heap.size,2,none⟩ z).setCell ⟨w.heap.size,3,none⟩ u).setCell ⟨w.heap.size,4,none⟩ t).setCell ⟨w.heap.size,5,none⟩ s).ownsRow base e 2 v n xs:=by
 refine Rw.own_keep h fun g hg=>?_
 have h1:=(Rw.own_lt h g hg).1
 rw[Below.heap_setCell _ _ _ _ (by show g≠w.heap.size;omega),Below.heap_setCell _ _ _ _ (by show g≠w.heap.size;omega),Below.heap_setCell _ _ _ _ (by show g≠w.heap.size;omega),Below.heap_setCell _ _ _ _ (by show g≠w.heap.size;omega),Below.heap_setCell _ _ _ _ (by show g≠w.heap.size;omega),Below.heap_setCell _ _ _ _ (by show g≠w.heap.size;omega)]
def GetsA (r:AnsV × Int × Int) (w:World) (e:Ending) (w':World):Prop:=
 ∃v,e= .returned (.tuple #[ansVal r.1 v,.int .i64 r.2.1,.int .i64 r.2.2])/\w'.ownsRow (w.heap.size+1) 141 2 v r.1.rep.held.length (gCells r.1.rep.held)/\Below w.heap.size w w'
theorem GetsA.zeroed {w w':World} {e:Ending} {c:Int} (he:e= .returned (.tuple #[.agg #[.int .i64 0,.int .i64 0,.int .i64 0,.int .i64 0,.int .i64 0,.slice none 0 0],.int .i64 0,.int .i64 c])) (hb:Below w.heap.size w w'):GetsA (zeroA,0,c) w e w':=
 ⟨.slice none 0 0,he,World.ownsRow_nil _ _ _ _,hb⟩
theorem getA_told (bs:List UInt8) (t:Int) {k t1 e1 s t2 e2 t3 e3:Int} {c:ReplyV} (hB:byteOf bs t=(k,t1,e1)) (hN:numOf bs t1=(s,t2,e2)) (hT:getP bs t2=(c,t3,e3)):
  getA bs t=if e1≠0 then (zeroA,0,e1) else if e2≠0 then (zeroA,0,e2) else if e3≠0 then (zeroA,0,e3) else if mayA ⟨k,s,c⟩ then (⟨k,s,c⟩,t3,0) else (zeroA,0,4):=by
 unfold getA
 rw[hB]
 dsimp only
 rw[hN]
 dsimp only
 rw[hT]
end Cm
end Go.Proofs.YtlnbmblbeaodcaaGreat

/- Contracts: padlocklaw5's Reply: a reply that may be. -/
set_option linter.unusedVariables false
set_option maxRecDepth 8000
set_option linter.unusedSimpArgs false
namespace Go.Proofs.YtlnbmblbeaodcaaGreat
open Lib (hid)
open Go.RowKit
namespace Cm

theorem alloc_at (w:World) (o:Obj):(w.alloc o).heap[w.heap.size]?=some o:=by
 show(w.heap.push o)[w.heap.size]?= _
 simp
theorem step_append_own {P:Program} {w:World} {ops:Array Oper} {o:Oper} {a:Act} {K:Act->World->Prop} {Q:Exit->Act->World->Prop} {E:Prop} (hgd:o.guard=none) (s x:Operand) (t:TypeId)
  (ho:o.op= .call { callee:=.builtin .append,args:=#[s,x],argTypes:=#[t,t] })
  (base:Nat) (e:TypeId) (i:TypeInfo) (z:Value) (size bytes:Nat) (ht:P.underlying t=some (.slice e)) (hi:P.info? e=some i) (hz:i.zero=some z)
  (hsize:i.size=size) (hby:i.bytes=bytes) (hzs:z.cells.size=size) (hsz:0<size)
  (v:Value) (n:Nat) (xs:List Value) (hs:a.eval s=v) (hown:w.ownsRow base e size v n xs)
  (ad:Addr) (m c:Nat) (news:List Value) (hx:a.eval x= .slice (some ad) m c) (hl:news.length=m*size) (hnews: ∀j u,news[j]?=some u->w.cell? (ad.add j)=some u) (h1: ∀u∈news,u.oneCell'=true)
  (h63:n+m<=maxLen) (hbytes:(n+m)*bytes<=140737488355328) (hbase:base<=w.heap.size)
  (h: ∀v' w',w'.ownsRow base e size v' (n+m) (xs++news)->w.grownBy w' v.ownBlock->(v'= .slice none 0 0 ↔ v= .slice none 0 0/\m=0)->K (a.put o.dst v') w'):
  if Region.wanted o (yielded ops a.tmps)=true then Oper.wp P o a w K Q else E:=by
 have hw:Region.wanted o (yielded ops a.tmps)=true:=by simp [Region.wanted,hgd]
 rw[if_pos hw]
 exact wp_append_own w s x t ho base e i z size bytes ht hi hz hsize hby hzs hsz v n xs hs hown ad m c news hx hl hnews h1 h63 hbytes hbase h
end Cm
end Go.Proofs.YtlnbmblbeaodcaaGreat
