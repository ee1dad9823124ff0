/- Texts laid together by program. -/
import Derived.Test.YtlnbmblbeaodcaaGreatQS24
import Derived.Deep.RegionHeld3
/- The developers' reader of package snap: a memo. -/
set_option linter.unusedVariables false
set_option maxRecDepth 8000
set_option linter.unusedSimpArgs false
namespace Go.Proofs.YtlnbmblbeaodcaaGreat
open Lib (hid)
open List (getElem_toArray getElem_cons_succ getElem_cons_zero setIfInBounds_toArray set_cons_zero set_cons_succ)
open Go.RowKit
open Go.Sort (grow)
namespace Cm
variable {α β : Type}

def BxAt (w:World) (g:Nat) (o:Obj):Prop:=w.heap[g]?=some o
theorem BxAt.later {w w':World} {g:Nat} {o:Obj} (h:BxAt w g o) (hb:Below w.heap.size w w'):BxAt w' g o:=(hb.block g (get_ltW h)).trans h
theorem BxAt.new (w:World) (o:Obj):BxAt (w.alloc o) w.heap.size o:=by
 show(w.heap.push _)[w.heap.size]?= _
 simp
theorem BxAt.set {w:World} {g:Nat} {cs:Array Value} {t:TypeId} (h:BxAt w g (.cells cs t)) (i:Nat) (u:Value):BxAt (w.setCell ⟨g,i,none⟩ u) g (.cells (cs.setIfInBounds i u) t):=set_atW h i u
theorem BxAt.other {w:World} {g k:Nat} {o:Obj} (h:BxAt w g o) (hne:g≠k) (i:Nat) (u:Value):BxAt (w.setCell ⟨k,i,none⟩ u) g o:=(Below.heap_setCell _ _ _ _ hne).trans h
def put6s (w:World) (g:Nat) (x y z u v s:Value):World:=(((((w.setCell ⟨g,0,none⟩ x).setCell ⟨g,1,none⟩ y).setCell ⟨g,2,none⟩ z).setCell ⟨g,3,none⟩ u).setCell ⟨g,4,none⟩ v).setCell ⟨g,5,none⟩ s
theorem put6s_other (w:World) (g k:Nat) (x y z u v s:Value) (hk:k≠g):(put6s w g x y z u v s).heap[k]?=w.heap[k]?:=by
 unfold put6s
 rw[Below.heap_setCell _ _ _ _ hk,Below.heap_setCell _ _ _ _ hk,Below.heap_setCell _ _ _ _ hk,Below.heap_setCell _ _ _ _ hk,Below.heap_setCell _ _ _ _ hk,Below.heap_setCell _ _ _ _ hk]
theorem own_tagX {w:World} {base n k sz:Nat} {e:TypeId} {v:Value} {xs:List Value} (ho:w.ownsRow base e sz v n xs) (hk:v.ownBlock=some k): ∃cs,w.heap[k]?=some (.cells cs e):=by
 rcases ho.2 with ⟨h,_⟩ | ⟨g,cap,cur,rfl,_,hh,_⟩
 ·subst h;cases hk
 ·cases hk;exact⟨cur,hh⟩
theorem own_ne_tag {w:World} {base n k sz b:Nat} {e t:TypeId} {v:Value} {xs:List Value} {cs:Array Value} (ho:w.ownsRow base e sz v n xs) (hb:w.heap[b]?=some (.cells cs t)) (hne:e≠t) (hk:v.ownBlock=some k):k≠b:=by
 obtain⟨cs',h⟩:=own_tagX ho hk
 rintro rfl
 rw[h] at hb
 cases hb
 exact hne rfl
def GetsRl {α:Type} (R:α->Value->World->Prop) (r:Except Int (α × Int)) (w0:World) (g:Nat) (v:Value) (bs:List UInt8) (w:World) (e:Ending) (w':World):Prop:=
 match r with
 | .ok p=> ∃u,e= .returned u/\R p.1 u w'/\RX w0 g v bs p.2 w'/\Gr g w w'
 | .error c=>FailsSn c e/\Below w0.heap.size w0 w'
theorem GetsRl.fails {R:α->Value->World->Prop} {w0:World} {g:Nat} {v:Value} {bs:List UInt8} {w w':World} {e:Ending} {r:Except Int (α × Int)} {c:Int} (hr:r= .error c) (h:FailsSn c e) (hb:Below w0.heap.size w0 w'):GetsRl R r w0 g v bs w e w':=by
 rw[hr];exact⟨h,hb⟩
theorem GetsRl.ok {R:α->Value->World->Prop} {w0:World} {g:Nat} {v:Value} {bs:List UInt8} {w w':World} {e:Ending} {r:Except Int (α × Int)} {x:α} {t:Int} {u:Value} (hr:r= .ok (x,t)) (h:e= .returned u) (hR:R x u w') (hx:RX w0 g v bs t w') (hg:Gr g w w'):GetsRl R r w0 g v bs w e w':=by
 rw[hr];exact⟨u,h,hR,hx,hg⟩
theorem GetsRl.bad {R:α->Value->World->Prop} {w0:World} {g:Nat} {v:Value} {bs:List UInt8} {w w':World} {e:Ending} {r:Except Int (α × Int)} {c:Int} (h:GetsRl R r w0 g v bs w e w') (hr:r= .error c):FailsSn c e/\Below w0.heap.size w0 w':=by
 rw[hr] at h;exact h
theorem GetsRl.good {R:α->Value->World->Prop} {w0:World} {g:Nat} {v:Value} {bs:List UInt8} {w w':World} {e:Ending} {r:Except Int (α × Int)} {x:α} {t:Int} (h:GetsRl R r w0 g v bs w e w') (hr:r= .ok (x,t)): ∃u,e= .returned u/\R x u w'/\RX w0 g v bs t w'/\Gr g w w':=by
 rw[hr] at h;exact h
theorem gCells_flat: ∀l:List GrantV,gCells l=flatX cellsG l
 | []=>rfl
 | x::l=>by rw[gCells,flatX_cons,gCells_flat l];rfl
def MemO (g:Nat) (m:AnsV) (u:Value) (w:World):Prop:= ∃x:MemC,x.m=m/\u=memVal x/\w.ownsRow (g+1) 141 2 x.hv x.m.rep.held.length (flatX cellsG x.m.rep.held)
theorem getHeld_top {bs:List UInt8} (hl:bs.length<=9223372036854775807): ∀(n:Nat) (t:Int),t<=9223372036854775807->(getHeld bs n t).2.1<=9223372036854775807
 | 0,t,ht=>ht
 | n+1,t,ht=>by
  rw[getHeld_succ]
  split
  ·simp
  split
  ·simp
  split
  ·simp
  exact getHeld_top hl n _ (numOf_top (textOf_top ht hl) hl)
theorem getP_top {bs:List UInt8} {t:Int} (ht:t<=9223372036854775807) (hl:bs.length<=9223372036854775807):(getP bs t).2.1<=9223372036854775807:=by
 unfold getP
 split
 ·simp
 split
 ·simp
 split
 ·simp
 split
 ·simp
 split
 ·simp
 split
 ·simp
 split
 ·exact getHeld_top hl _ _ (byteOf_top (byteOf_top (numOf_top (byteOf_top ht hl) hl) hl) hl)
 ·simp
theorem getA_top {bs:List UInt8} {t:Int} (ht:t<=9223372036854775807) (hl:bs.length<=9223372036854775807):(getA bs t).2.1<=9223372036854775807:=by
 unfold getA
 split
 ·simp
 split
 ·simp
 split
 ·simp
 split
 ·exact getP_top (numOf_top (byteOf_top ht hl) hl) hl
 ·simp
set_option maxRecDepth 100000 in
set_option maxHeartbeats 4000000 in
theorem SnapGetMemo (w0:World) (g:Nat) (v:Value) (bs:List UInt8) (t:Int) (w:World) (h:RX w0 g v bs t w):
    Calls Tryz.prog 184 #[.pointer (some ⟨g,0,none⟩)] w (GetsRl (MemO g) (ansR bs t) w0 g v bs w):=by
  have hlt:=h.lt
  have hlen:=Rd.len_le h.rd
  unfold maxLen at hlen
  have htop:=getA_top (bs:=bs) h.top (by omega)
  have HX:Hid (RX w0 g v bs t (w.alloc (.cells #[.int .i64 0,.int .i64 0,.int .i64 0,.int .i64 0,.int .i64 0,.slice none 0 0] 76))):=hid (h.later (newAlloc _ _))
  have HG:Hid (Gr g w (w.alloc (.cells #[.int .i64 0,.int .i64 0,.int .i64 0,.int .i64 0,.int .i64 0,.slice none 0 0] 76))):=hid (Gr.new (newAlloc _ _))
  have HA:Hid (BxAt (w.alloc (.cells #[.int .i64 0,.int .i64 0,.int .i64 0,.int .i64 0,.int .i64 0,.slice none 0 0] 76)) w.heap.size (.cells #[.int .i64 0,.int .i64 0,.int .i64 0,.int .i64 0,.int .i64 0,.slice none 0 0] 76)):=hid (BxAt.new _ _)
  have HL:Hid (g<w.heap.size):=hid hlt
  have HR:Hid (ansR bs t=if (getA bs t).2.2=0 then .ok ((getA bs t).1,(getA bs t).2.1) else .error (getA bs t).2.2):=hid rfl
  have KC0:=hid (fun W (hb:Below w.heap.size w W)=>RepGetAnswer_any v bs t W (h.later hb).rd' h.top)
  generalize getA bs t=q at KC0 HR htop
  obtain⟨⟨ac,asq,⟨ak,an,ad,al⟩⟩,t',c⟩:=q
  unfold GetsA ansVal at KC0
  dsimp only at KC0 HR htop
  have HT:=hid htop
  clear h hlt hlen htop
  go_enter Tryz.func184,Tryz.ntmps184
  go_upto_region 1 with fail
  have KC:=hid (fun W hb=>KC0.out W (step (newAlloc w (.cells #[.int .i64 0,.int .i64 0,.int .i64 0,.int .i64 0,.int .i64 0,.slice none 0 0] 76)) hb))
  have hsz:(w.alloc (.cells #[.int .i64 0,.int .i64 0,.int .i64 0,.int .i64 0,.int .i64 0,.slice none 0 0] 76)).heap.size =w.heap.size+1:=by simp
  have HL1:Hid (g<=(w.alloc (.cells #[.int .i64 0,.int .i64 0,.int .i64 0,.int .i64 0,.int .i64 0,.slice none 0 0] 76)).heap.size):=hid (by have:=HL.out;omega)
  have HL2:Hid (w.heap.size<(w.alloc (.cells #[.int .i64 0,.int .i64 0,.int .i64 0,.int .i64 0,.int .i64 0,.slice none 0 0] 76)).heap.size):=hid (by omega)
  clear hsz KC0
  generalize hW:w.alloc _=wr at HX HG HA KC HL1 HL2 ⊢
  clear hW
  have HKP:Hid (∀W,Below wr.heap.size wr W->W.cell? ⟨g,0,none⟩=some v/\W.cell? ⟨g,1,none⟩=some (.int .i64 t)):=hid fun W hb=>by
    have hb:=(HX.out.later hb).box
    exact⟨cell_atW hb 0,cell_atW hb 1⟩
  refine wp_region_held_drew (S:=(fun W=>W.cell? ⟨g,0,none⟩=some v/\W.cell? ⟨g,1,none⟩=some (.int .i64 t))) (by kernel_rfl) (HKP.out _ (Below.refl _ _).drew) (fun hHeld=>?_)
  obtain⟨V,hV⟩: ∃V,V=wr.drew:=⟨_,rfl⟩
  have HBR:Hid (Below wr.heap.size wr V):=hid (by rw[hV];exact(Below.refl _ _).drew)
  rw[<-hV] at hHeld ⊢
  clear hV
  refine wpAnyH_take (i:=0) (v:=?_) rfl (by kernel_rfl) (by kernel_rfl) (by kernel_rfl) (fun _ _ _ h=>h) (Or.inl ⟨by rfl,?_⟩) (by assumption) ?_
  rotate_left
  · intro w hSw;(try dsimp only at hSw);go_simp<;>with_reducible rfl
  try simp only[Act.put,getElem_toArray,getElem_cons_succ,getElem_cons_zero,setIfInBounds_toArray,set_cons_zero,set_cons_succ]
  refine wpAnyH_take (i:=1) (v:=?_) rfl (by kernel_rfl) (by kernel_rfl) (by kernel_rfl) (fun _ _ _ h=>h) (Or.inl ⟨by rfl,?_⟩) (by assumption) ?_
  rotate_left
  · intro w hSw;(try dsimp only at hSw);go_simp<;>with_reducible rfl
  try simp only[Act.put,getElem_toArray,getElem_cons_succ,getElem_cons_zero,setIfInBounds_toArray,set_cons_zero,set_cons_succ]
  refine wpAnyH_take (i:=2) (v:=?_) rfl (by kernel_rfl) (by kernel_rfl) (by kernel_rfl) (fun _ _ _ h=>h) (Or.inl ⟨by rfl,?_⟩) (by assumption) ?_
  rotate_left
  · intro w hSw;(try dsimp only at hSw);go_simp<;>with_reducible rfl
  try simp only[Act.put,getElem_toArray,getElem_cons_succ,getElem_cons_zero,setIfInBounds_toArray,set_cons_zero,set_cons_succ]
  refine wpAnyH_take (i:=3) (v:=?_) rfl (by kernel_rfl) (by kernel_rfl) (by kernel_rfl) (fun _ _ _ h=>h) (Or.inl ⟨by rfl,?_⟩) (by assumption) ?_
  rotate_left
  · intro w hSw;(try dsimp only at hSw);go_simp<;>with_reducible rfl
  try simp only[Act.put,getElem_toArray,getElem_cons_succ,getElem_cons_zero,setIfInBounds_toArray,set_cons_zero,set_cons_succ]
  refine wpAnyH_take (i:=4) (v:=?_) rfl (by kernel_rfl) (by kernel_rfl) (by kernel_rfl) (fun _ _ _ h=>h) (Or.inl ⟨by rfl,?_⟩) (by assumption) ?_
  rotate_left
  · intro w hSw;(try dsimp only at hSw);go_simp<;>with_reducible rfl
  try simp only[Act.put,getElem_toArray,getElem_cons_succ,getElem_cons_zero,setIfInBounds_toArray,set_cons_zero,set_cons_succ]
  refine wpAnyH_take (i:=5) (v:=?_) rfl (by kernel_rfl) (by kernel_rfl) (by kernel_rfl) (fun _ _ _ h=>h) (Or.inl ⟨by rfl,?_⟩) (by assumption) ?_
  rotate_left
  · intro w hSw;(try dsimp only at hSw);go_simp<;>with_reducible rfl
  try simp only[Act.put,getElem_toArray,getElem_cons_succ,getElem_cons_zero,setIfInBounds_toArray,set_cons_zero,set_cons_succ]
  refine wpAnyH_take (i:=6) (v:=?_) rfl (by kernel_rfl) (by kernel_rfl) (by kernel_rfl) (fun _ _ _ h=>h) (Or.inl ⟨by rfl,?_⟩) (by assumption) ?_
  rotate_left
  · intro w hSw;(try dsimp only at hSw);go_simp<;>with_reducible rfl
  try simp only[Act.put,getElem_toArray,getElem_cons_succ,getElem_cons_zero,setIfInBounds_toArray,set_cons_zero,set_cons_succ]
  refine wpAnyH_take (i:=7) (v:=?_) rfl (by kernel_rfl) (by kernel_rfl) (by kernel_rfl) (fun _ _ _ h=>h) (Or.inl ⟨by rfl,?_⟩) (by assumption) ?_
  rotate_left
  · intro w hSw;(try dsimp only at hSw);go_simp<;>with_reducible rfl
  try simp only[Act.put,getElem_toArray,getElem_cons_succ,getElem_cons_zero,setIfInBounds_toArray,set_cons_zero,set_cons_succ]
  have HNC:Hid (Old V fun _=>True):=hid fun _ _=>trivial
  have HNA:Hid (Old V fun _=>True):=hid fun _ _=>trivial
  all_goals
    refine wpAnyH_ready (rs:= [8,13]) (by kernel_rfl) (by simp) ?_
    refine AllReadyH.cons rfl (fun K hK=>?_) (AllReadyH.cons rfl (fun K hK=>?_) AllReadyH.nil)
  all_goals
    go_simp
    first
      | (go_at_call 211
         refine(KC.out _ HBR.out).mono ?_
         rintro e V ⟨hv,rfl,ho,hb⟩
         obtain⟨ha,hcp,rfl⟩:=Rw.own_form ho
         have ho:=own_lowerX ho (Nat.succ_le_succ (Nat.le_trans HL1.out HBR.out.size))
         have HNC:Hid (Old V (fun W=>W.ownsRow (g+1) 141 2 (.slice ha al.length hcp) al.length (gCells al))):=hid fun W hw=>Rw.own_below ho hw
         have HNA:=hid (HNA.out.later hb)
         have HBR:=hid (step HBR.out hb)
         clear hb
         have mC:=trivial
         refine hK.out _ _ (HKP.out _ HBR.out) (fun hHeld=>?_)
         clear hK K
         try simp only[Act.put,getElem_toArray,getElem_cons_succ,getElem_cons_zero,setIfInBounds_toArray,set_cons_zero,set_cons_succ]
         refine wpAnyH_take (i:=9) (v:=?_) rfl (by kernel_rfl) (by kernel_rfl) (by kernel_rfl) (fun _ _ _ h=>h) (Or.inl ⟨by rfl,?_⟩) (by assumption) ?_
         rotate_left
         · intro w hSw;(try dsimp only at hSw);go_simp<;>with_reducible rfl
         try simp only[Act.put,getElem_toArray,getElem_cons_succ,getElem_cons_zero,setIfInBounds_toArray,set_cons_zero,set_cons_succ]
         refine wpAnyH_take (i:=10) (v:=?_) rfl (by kernel_rfl) (by kernel_rfl) (by kernel_rfl) (fun _ _ _ h=>h) (Or.inl ⟨by rfl,?_⟩) (by assumption) ?_
         rotate_left
         · intro w hSw;(try dsimp only at hSw);go_simp<;>with_reducible rfl
         try simp only[Act.put,getElem_toArray,getElem_cons_succ,getElem_cons_zero,setIfInBounds_toArray,set_cons_zero,set_cons_succ]
         refine wpAnyH_take (i:=11) (v:=?_) rfl (by kernel_rfl) (by kernel_rfl) (by kernel_rfl) (fun _ _ _ h=>h) (Or.inl ⟨by rfl,?_⟩) (by assumption) ?_
         rotate_left
         · intro w hSw;(try dsimp only at hSw);go_simp<;>with_reducible rfl
         try simp only[Act.put,getElem_toArray,getElem_cons_succ,getElem_cons_zero,setIfInBounds_toArray,set_cons_zero,set_cons_succ]
         refine wpAnyH_take (i:=12) (v:=?_) rfl (by kernel_rfl) (by kernel_rfl) (by kernel_rfl) (fun _ _ _ h=>h) (Or.inl ⟨by rfl,?_⟩) (by assumption) ?_
         rotate_left
         · intro w hSw;(try dsimp only at hSw);go_simp<;>with_reducible rfl
         try simp only[Act.put,getElem_toArray,getElem_cons_succ,getElem_cons_zero,setIfInBounds_toArray,set_cons_zero,set_cons_succ])
      | (obtain⟨V',hV'⟩: ∃V',V'=V.alloc (.cells #[.int .i64 0,.int .i64 0,.int .i64 0,.int .i64 0,.int .i64 0,.slice none 0 0] 94):=⟨_,rfl⟩
         rw[<-hV']
         have hb:Below V.heap.size V V':=(by rw[hV'];exact newAlloc _ _)
         have hn:BxAt V' V.heap.size (.cells #[.int .i64 0,.int .i64 0,.int .i64 0,.int .i64 0,.int .i64 0,.slice none 0 0] 94):=(by rw[hV'];exact BxAt.new V _)
         have hgeb5:wr.heap.size<=V.heap.size:=HBR.out.size
         obtain⟨b5,hb5⟩: ∃b5,V.heap.size=b5:=⟨_,rfl⟩
         rw[hb5] at hn hgeb5 ⊢
         have HNA:Hid (Old V' (fun W=>BxAt W b5 (.cells #[.int .i64 0,.int .i64 0,.int .i64 0,.int .i64 0,.int .i64 0,.slice none 0 0] 94))):=hid fun W hw=>hn.later hw
         have HNC:=hid (HNC.out.later hb)
         have HBR:=hid (step HBR.out hb)
         clear hV' hb hn hb5
         obtain⟨V,rfl⟩: ∃V,V=V':=⟨_,rfl⟩
         have mA:=trivial
         refine hK.out _ _ (HKP.out _ HBR.out) (fun hHeld=>?_)
         clear hK K
         try simp only[Act.put,getElem_toArray,getElem_cons_succ,getElem_cons_zero,setIfInBounds_toArray,set_cons_zero,set_cons_succ])
  all_goals
    first
      | (revert mA;intro mA;refine wpAnyH_ready (rs:= [8]) (by kernel_rfl) (by simp) ?_;refine AllReadyH.cons rfl (fun K hK=>?_) AllReadyH.nil)
      | (revert mC;intro mC;refine wpAnyH_ready (rs:= [13]) (by kernel_rfl) (by simp) ?_;refine AllReadyH.cons rfl (fun K hK=>?_) AllReadyH.nil)
  all_goals
    go_simp
    first
      | (go_at_call 211
         refine(KC.out _ HBR.out).mono ?_
         rintro e V ⟨hv,rfl,ho,hb⟩
         obtain⟨ha,hcp,rfl⟩:=Rw.own_form ho
         have ho:=own_lowerX ho (Nat.succ_le_succ (Nat.le_trans HL1.out HBR.out.size))
         have HNC:Hid (Old V (fun W=>W.ownsRow (g+1) 141 2 (.slice ha al.length hcp) al.length (gCells al))):=hid fun W hw=>Rw.own_below ho hw
         have HNA:=hid (HNA.out.later hb)
         have HBR:=hid (step HBR.out hb)
         clear hb
         have mC:=trivial
         refine hK.out _ _ (HKP.out _ HBR.out) (fun hHeld=>?_)
         clear hK K
         try simp only[Act.put,getElem_toArray,getElem_cons_succ,getElem_cons_zero,setIfInBounds_toArray,set_cons_zero,set_cons_succ]
         refine wpAnyH_take (i:=9) (v:=?_) rfl (by kernel_rfl) (by kernel_rfl) (by kernel_rfl) (fun _ _ _ h=>h) (Or.inl ⟨by rfl,?_⟩) (by assumption) ?_
         rotate_left
         · intro w hSw;(try dsimp only at hSw);go_simp<;>with_reducible rfl
         try simp only[Act.put,getElem_toArray,getElem_cons_succ,getElem_cons_zero,setIfInBounds_toArray,set_cons_zero,set_cons_succ]
         refine wpAnyH_take (i:=10) (v:=?_) rfl (by kernel_rfl) (by kernel_rfl) (by kernel_rfl) (fun _ _ _ h=>h) (Or.inl ⟨by rfl,?_⟩) (by assumption) ?_
         rotate_left
         · intro w hSw;(try dsimp only at hSw);go_simp<;>with_reducible rfl
         try simp only[Act.put,getElem_toArray,getElem_cons_succ,getElem_cons_zero,setIfInBounds_toArray,set_cons_zero,set_cons_succ]
         refine wpAnyH_take (i:=11) (v:=?_) rfl (by kernel_rfl) (by kernel_rfl) (by kernel_rfl) (fun _ _ _ h=>h) (Or.inl ⟨by rfl,?_⟩) (by assumption) ?_
         rotate_left
         · intro w hSw;(try dsimp only at hSw);go_simp<;>with_reducible rfl
         try simp only[Act.put,getElem_toArray,getElem_cons_succ,getElem_cons_zero,setIfInBounds_toArray,set_cons_zero,set_cons_succ]
         refine wpAnyH_take (i:=12) (v:=?_) rfl (by kernel_rfl) (by kernel_rfl) (by kernel_rfl) (fun _ _ _ h=>h) (Or.inl ⟨by rfl,?_⟩) (by assumption) ?_
         rotate_left
         · intro w hSw;(try dsimp only at hSw);go_simp<;>with_reducible rfl
         try simp only[Act.put,getElem_toArray,getElem_cons_succ,getElem_cons_zero,setIfInBounds_toArray,set_cons_zero,set_cons_succ])
      | (obtain⟨V',hV'⟩: ∃V',V'=V.alloc (.cells #[.int .i64 0,.int .i64 0,.int .i64 0,.int .i64 0,.int .i64 0,.slice none 0 0] 94):=⟨_,rfl⟩
         rw[<-hV']
         have hb:Below V.heap.size V V':=(by rw[hV'];exact newAlloc _ _)
         have hn:BxAt V' V.heap.size (.cells #[.int .i64 0,.int .i64 0,.int .i64 0,.int .i64 0,.int .i64 0,.slice none 0 0] 94):=(by rw[hV'];exact BxAt.new V _)
         have hgeb5:wr.heap.size<=V.heap.size:=HBR.out.size
         obtain⟨b5,hb5⟩: ∃b5,V.heap.size=b5:=⟨_,rfl⟩
         rw[hb5] at hn hgeb5 ⊢
         have HNA:Hid (Old V' (fun W=>BxAt W b5 (.cells #[.int .i64 0,.int .i64 0,.int .i64 0,.int .i64 0,.int .i64 0,.slice none 0 0] 94))):=hid fun W hw=>hn.later hw
         have HNC:=hid (HNC.out.later hb)
         have HBR:=hid (step HBR.out hb)
         clear hV' hb hn hb5
         obtain⟨V,rfl⟩: ∃V,V=V':=⟨_,rfl⟩
         have mA:=trivial
         refine hK.out _ _ (HKP.out _ HBR.out) (fun hHeld=>?_)
         clear hK K
         try simp only[Act.put,getElem_toArray,getElem_cons_succ,getElem_cons_zero,setIfInBounds_toArray,set_cons_zero,set_cons_succ])
  all_goals
    have hbx:=HNA.out.now
    have x0:=cell_atW hbx 0
    have x1:=cell_atW hbx 1
    have x2:=cell_atW hbx 2
    have x3:=cell_atW hbx 3
    have x4:=cell_atW hbx 4
    have x5:=cell_atW hbx 5
    have xf:=frozen_atW hbx
    simp only[List.getElem?_toArray,List.getElem?_cons_zero,List.getElem?_cons_succ] at x0 x1 x2 x3 x4 x5
    clear hbx
  all_goals
    refine wpAnyH_ready (rs:= [14]) (by kernel_rfl) (by simp) ?_
    refine AllReadyH.cons rfl (fun K hK=>?_) AllReadyH.nil
    go_simp
    refine hK.out _ _ (HKP.out _ (set6m HBR.out b5 hgeb5 _ _ _ _ _ _)) (fun hHeld=>?_)
    clear hK K
    try simp only[Act.put,getElem_toArray,getElem_cons_succ,getElem_cons_zero,setIfInBounds_toArray,set_cons_zero,set_cons_succ]
  all_goals
    refine wpAnyH_take (i:=15) (v:=?_) rfl (by kernel_rfl) (by kernel_rfl) (by kernel_rfl) (fun _ _ _ h=>h) (Or.inl ⟨by rfl,?_⟩) (by assumption) ?_
    rotate_left
    · intro w hSw;(try dsimp only at hSw);go_simp<;>with_reducible rfl
    try simp only[Act.put,getElem_toArray,getElem_cons_succ,getElem_cons_zero,setIfInBounds_toArray,set_cons_zero,set_cons_succ]
  all_goals
    refine wpAnyH_take (i:=16) (v:=?_) rfl (by kernel_rfl) (by kernel_rfl) (by kernel_rfl) (fun _ _ _ h=>h) (Or.inl ⟨by rfl,?_⟩) (by assumption) ?_
    rotate_left
    · intro w hSw;(try dsimp only at hSw);go_simp<;>with_reducible rfl
    try simp only[Act.put,getElem_toArray,getElem_cons_succ,getElem_cons_zero,setIfInBounds_toArray,set_cons_zero,set_cons_succ]
  all_goals refine wpAnyH_done (by kernel_rfl) ?_ _
  all_goals
    have HB5:Hid (Below wr.heap.size wr (put6s V b5 (.int .i64 ac) (.int .i64 asq) (.int .i64 ak) (.int .i64 an) (.int .i64 ad) (.slice ha al.length hcp))):=hid (set6m HBR.out b5 hgeb5 _ _ _ _ _ _)
    have HO5:Hid ((put6s V b5 (.int .i64 ac) (.int .i64 asq) (.int .i64 ak) (.int .i64 an) (.int .i64 ad) (.slice ha al.length hcp)).ownsRow (g+1) 141 2 (.slice ha al.length hcp) al.length (flatX cellsG al)):=hid (by
      rw[<-gCells_flat]
      exact Rw.own_keep HNC.out.now fun k hk=>put6s_other _ _ _ _ _ _ _ _ _ (own_ne_tag HNC.out.now HNA.out.now (by decide) hk))
    have HX5:Hid (BxAt (put6s V b5 (.int .i64 ac) (.int .i64 asq) (.int .i64 ak) (.int .i64 an) (.int .i64 ad) (.slice ha al.length hcp)) b5 (.cells #[.int .i64 ac,.int .i64 asq,.int .i64 ak,.int .i64 an,.int .i64 ad,.slice ha al.length hcp] 94)):=hid ((((((HNA.out.now.set 0 (.int .i64 ac)).set 1 (.int .i64 asq)).set 2 (.int .i64 ak)).set 3 (.int .i64 an)).set 4 (.int .i64 ad)).set 5 (.slice ha al.length hcp))
    have HGE:Hid (wr.heap.size<=b5):=hid hgeb5
    go_upto_region 2 with fail
    change Code.wp _ _ _ _ (put6s V b5 (.int .i64 ac) (.int .i64 asq) (.int .i64 ak) (.int .i64 an) (.int .i64 ad) (.slice ha al.length hcp))
    generalize put6s V b5 (.int .i64 ac) (.int .i64 asq) (.int .i64 ak) (.int .i64 an) (.int .i64 ad) (.slice ha al.length hcp)=W5 at HB5 HO5 HX5 ⊢
    clear x0 x1 x2 x3 x4 x5 xf HNA HNC HBR hHeld hgeb5 mC mA KC HKP
    by_cases hc:c=0
    · subst hc
      have HP:=hid (HX.out.go HB5.out t' HT.out)
      have CS:=hid (SnapStep_ok g v t t' W5 (HX.out.later HB5.out).box)
      have hgb:g≠b5:=by have:=HL1.out;have:=HGE.out;have:=HX.out.lt;omega
      have hgn:w.heap.size≠g:=by have:=HL.out;omega
      have hnb:w.heap.size≠b5:=by have:=HL2.out;have:=HGE.out;omega
      have hA:=((HA.out.later HB5.out).other hgn 1 (.int .i64 t'))
      have hX:=(HX5.out.other (fun q=>hgb q.symm) 1 (.int .i64 t'))
      have HOW:Hid ((W5.setCell ⟨g,1,none⟩ (.int .i64 t')).ownsRow (g+1) 141 2 (.slice ha al.length hcp) al.length (flatX cellsG al)):=hid (Rw.own_keep HO5.out fun k hk=>Below.heap_setCell _ _ _ _ (by have:=(Rw.own_lt HO5.out k hk).1;show k≠g;omega))
      have k0:=cell_atW hA 0
      have k1:=cell_atW hA 1
      have k2:=cell_atW hA 2
      have k3:=cell_atW hA 3
      have k4:=cell_atW hA 4
      have k5:=cell_atW hA 5
      have kf:=frozen_atW hA
      have x0:=cell_atW hX 0
      have x1:=cell_atW hX 1
      have x2:=cell_atW hX 2
      have x3:=cell_atW hX 3
      have x4:=cell_atW hX 4
      have x5:=cell_atW hX 5
      simp only[List.getElem?_toArray,List.getElem?_cons_zero,List.getElem?_cons_succ] at k0 k1 k2 k3 k4 k5 x0 x1 x2 x3 x4 x5
      have HAW:=hid hA
      clear hA hX hgb hgn hnb HX5 HO5
      go_upto_region 3 with (go_at_call 189;refine CS.out.mono ?_;rintro e w2 ⟨rfl,rfl⟩)
      generalize W5.setCell ⟨g,1,none⟩ (.int .i64 t')=W6 at HP HOW HAW k0 k1 k2 k3 k4 k5 kf x0 x1 x2 x3 x4 x5 ⊢
      go_wp2
      refine bodyPost_ret (by simp [results,Tryz.results184,go_sem,k0,k1,k2,k3,k4,k5,kf]<;>rfl) rfl (GetsRl.ok (x:=⟨ac,asq,⟨ak,an,ad,al⟩⟩) (t:=t') HR.out rfl ⟨⟨⟨ac,asq,⟨ak,an,ad,al⟩⟩,ha,hcp⟩,rfl,rfl,?_⟩ ?_ ?_)
      · have:=HOW.out
        refine Rw.own_keep this fun k hk=>?_
        exact put6s_other _ _ _ _ _ _ _ _ _ (own_ne_tag this HAW.out (by decide) hk)
      · exact(((((HP.out.1.set HL.out _ _).set HL.out _ _).set HL.out _ _).set HL.out _ _).set HL.out _ _).set HL.out _ _
      · have hg:Gr g w W6:=HG.out.trans HP.out.2
        exact(((((hg.set (Nat.le_refl _) _ _).set (Nat.le_refl _) _ _).set (Nat.le_refl _) _ _).set (Nat.le_refl _) _ _).set (Nat.le_refl _) _ _).set (Nat.le_refl _) _ _
    · have CS:=hid (SnapStep_bad (.pointer (some ⟨g,0,none⟩)) t' c W5 hc)
      go_wp2_with (go_at_call 189;refine CS.out.mono ?_;rintro e w2 ⟨rfl,hb2⟩)
      have hr:=HR.out
      rw[if_neg hc] at hr
      exact⟨rfl,GetsRl.fails hr rfl (step (HX.out.later HB5.out).below hb2)⟩
end Cm
end Go.Proofs.YtlnbmblbeaodcaaGreat
