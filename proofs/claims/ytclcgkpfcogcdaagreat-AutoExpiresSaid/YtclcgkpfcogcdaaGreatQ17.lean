/- Texts laid together by program. -/
import Derived.Test.YtclcgkpfcogcdaaGreatQ16
import Derived.Lib.AppendZeros
import Derived.Deep.RegionHeld3
/- Contracts: slices.Grow, slices.Concat over locks (made from XCatS by program). -/
set_option linter.unusedVariables false
set_option maxRecDepth 8000
set_option linter.unusedSimpArgs false
namespace Go.Proofs.YtclcgkpfcogcdaaGreat
open Lib (hid)
open Go.RowKit
namespace Cm

theorem ownsK_new (w:World) (cs:Array Value) (cap:Nat) (hc:cs.size=cap*4) (hm:cap<=maxLen):
  (w.alloc (.cells cs 60)).drew.ownsRow w.heap.size 60 4 (.slice (some ⟨w.heap.size,0,none⟩) 0 cap) 0 []:=by
 refine⟨rfl,.inr ⟨w.heap.size,cap,cs,rfl,Nat.le_refl _,?_,Nat.zero_le _,hm,by omega,by simp⟩⟩
 show(w.heap.push (.cells cs 60))[w.heap.size]?= _
 simp
def MadeQ (l:List LockC) (w:World) (e:Ending) (w':World):Prop:=
 ∃v,e= .returned v/\w'.ownsRow w.heap.size 60 4 v l.length (flatX cellsK l)/\Below w.heap.size w w'
theorem GrowK_none (w:World):
  Calls Tryz.prog 237 #[.slice none 0 0,.int .i64 0] w (MadeQ [] w):=by
 go_enter Tryz.func237,Tryz.ntmps237
 go_wp2
 go_ret
 exact⟨_,rfl,World.ownsRow_nil _ _ _ _,Below.refl _ _⟩
theorem GrowK_some (n:Nat) (w:World) (h0:0<n) (h:n<=1000000):
  Calls Tryz.prog 237 #[.slice none 0 0,.int .i64 (n:Int)] w (MadeQ [] w):=by
 obtain⟨i0,hi,hz0,hz1,hz2⟩:=info_parts infoK
 have hr:=fun ty=>Lib.run_append_nil_zeros (P:=Tryz.prog) w 23 3 ty 60 i0 (.agg #[.string ⟨#[]⟩,.int .i64 0,.int .i64 0,.slice none 0 0]) .i64 .i64 Tryz.underlying23 Tryz.underlying3 hi hz0 n h0 (by rw[hz1];omega) (by omega) (by rw[hz2];omega)
 have hge:=grownCap_ge w n 0 60
 have hle:=grownCap_le_maxLen w n 0 60 (by unfold maxLen;omega)
 generalize grownCap w n 0 60=cap at hr hge hle
 have hmx:=hle
 unfold maxLen at hmx
 have HR:=hid hr
 clear hr
 go_enter Tryz.func237,Tryz.ntmps237
 go_wp2_with (at_builtin;refine Lib.wpList_append_run _ rfl _ _ _ _ rfl _ _ rfl rfl _ _ (HR.out _) ?_)
 go_ret
 exact⟨_,rfl,ownsK_new w _ cap (by simp [Builtin.zeroCells,Value.cells];omega) hle,((Below.refl _ _).alloc (Nat.le_refl _) _).drew⟩
theorem GrowK_any (n:Nat) (w:World) (h:n<=1000000):
  Calls Tryz.prog 237 #[.slice none 0 0,.int .i64 (n:Int)] w (MadeQ [] w):=by
 rcases Nat.eq_zero_or_pos n with rfl | h0
 ·exact GrowK_none w
 ·exact GrowK_some n w h0 h
def flatR (l:List (Value × List LockC)):List LockC:=l.flatMap (·.2)
theorem flatR_take_succ (l:List (Value × List LockC)) (j:Nat) (h:j<l.length):flatR (l.take (j+1))=flatR (l.take j)++(l[j]).2:=by
 unfold flatR
 rw[List.take_succ_eq_append_getElem h,List.flatMap_append]
 simp
theorem flatR_take_le (l:List (Value × List LockC)) (j:Nat):(flatR (l.take j)).length <=(flatR l).length :=by
 conv=>rhs;rw[<-List.take_append_drop j l]
 unfold flatR
 rw[List.flatMap_append,List.length_append]
 omega
set_option maxHeartbeats 1000000 in
theorem ConcatK_any (b:Nat) (l:List (Value × List LockC)) (w:World) (hc: ∀j (h:j<l.length),w.cell? ⟨b,j,none⟩=some (l[j]).1/\RdX 4 cellsK w (l[j]).1 (l[j]).2) (hk:l.length<=1000) (h1:(flatR l).length <=1000000):
  Calls Tryz.prog 225 #[.slice (some ⟨b,0,none⟩) l.length l.length] w (MadeQ (flatR l) w):=by
 obtain⟨i0,hi,hz0,hz1,hz2⟩:=info_parts infoK
 have HC:=hid hc
 have HS:=hid (flatR_take_succ l)
 have HL:=hid (flatR_take_le l)
 clear hc
 go_enter Tryz.func225,Tryz.ntmps225
 go_wp2
 go_loop [3,11] (fun z i=> ∃j:Nat,j<=l.length/\i= .int .i64 j/\z= .int .i64 ((flatR (l.take j)).length :Int)) (fun _ i=>l.length - (intOf i).toNat)
 case atStart=>exact⟨0,by omega,rfl,rfl⟩
 case round=>
  obtain⟨j,hj,rfl,rfl⟩:=hrel
  by_cases hlt:j<l.length
  ·obtain⟨hcell,hrd⟩:=HC.out j hlt
   have hsz:(flatR (l.take (j+1))).length =(flatR (l.take j)).length +(l[j]).2.length :=by rw[HS.out j hlt,List.length_append]
   have hle:=HL.out (j+1)
   generalize l[j]=x at hcell hrd hsz
   obtain⟨v,bs⟩:=x
   dsimp only at hcell hsz hrd
   have hm:=hrd.len
   obtain⟨a,cap,rfl⟩:=hrd.form
   clear hrd
   generalize (flatR (l.take j)).length =A at hsz ⊢
   generalize hB:(flatR (l.take (j+1))).length =B at hsz hle ⊢
   generalize bs.length=Z at hsz hm hcell
   have HB:=hid hB
   clear hB
   go_wp2
   go_round
   case rel=>exact⟨j+1,by omega,by go_num,by rw[HB.out,hsz];go_num⟩
   case measure=>simp [intOf];omega
  ·obtain rfl:j=l.length:=by omega
   rw[List.take_length]
   have G:=hid (fun w=>GrowK_any (flatR l).length w h1)
   go_wp2_with (go_at_call 237;refine(G.out _).mono ?_;rintro e w1 ⟨v1,rfl,hown,hb⟩)
   go_loopw [6,27] (fun v i wr=> ∃j:Nat,j<=l.length/\i= .int .i64 j/\wr.ownsRow w.heap.size 60 4 v (flatR (l.take j)).length (flatX cellsK (flatR (l.take j)))/\Below w.heap.size w wr) (fun _ i _=>l.length - (intOf i).toNat)
   case atStart=>exact⟨0,by omega,rfl,hown,hb⟩
   case round=>
    obtain⟨j,hj,rfl,ho,hbw⟩:=hrel
    by_cases hlt:j<l.length
    ·obtain⟨hcell0,hrd0⟩:=HC.out j hlt
     have hcell:=hbw.cell (p:=⟨b,j,none⟩) (lt_of_cell hcell0)
     rw[hcell0] at hcell
     have hrd:=hrd0.later hbw
     have hsz:flatR (l.take (j+1))=flatR (l.take j)++(l[j]).2:=HS.out j hlt
     have hle:=HL.out (j+1)
     have hbs:=hbw.size
     rw[hsz] at hle
     generalize l[j]=x at hcell hrd hsz hle
     clear hcell0 hrd0
     obtain⟨v,bs⟩:=x
     dsimp only at hcell hrd hsz hle
     rw[List.length_append] at hle
     have HZ:=hid hsz
     clear hsz
     generalize flatR (l.take j)=A at ho hle HZ
     have HO:=hid ho
     have HR:=hid hrd
     have HB:=hid hbw
     clear ho hrd hbw
     go_wp2_with (at_builtin;refine wpList_append_rdx cellsK_length (by omega) cellsK_one rfl _ _ 23 rfl w.heap.size 60 i0 _ 56 Tryz.underlying23 hi hz0 hz1 hz2 rfl _ _ _ rfl HO.out _ bs rfl HR.out (by unfold maxLen;omega) (by omega) hbs ?_;intro v1 w2 hown2 hgrow2)
     go_roundw
     case rel=>exact⟨j+1,by omega,by go_num,by rw[HZ.out,List.length_append,flatX_append];exact hown2,HB.out.grown hgrow2 hbs (fun k hk=>(Rw.own_lt HO.out k hk).1)⟩
     case measure=>simp [intOf];omega
    ·obtain rfl:j=l.length:=by omega
     rw[List.take_length] at ho
     go_wp2
     go_ret
     exact⟨_,rfl,ho,hbw⟩
theorem ConcatK_three (w:World) (b:Nat) (u v x:Value) (us vs xs:List LockC) (hu:RdX 4 cellsK w u us) (hv:RdX 4 cellsK w v vs) (hx:RdX 4 cellsK w x xs) (h0:w.cell? ⟨b,0,none⟩=some u) (h1:w.cell? ⟨b,1,none⟩=some v) (h2:w.cell? ⟨b,2,none⟩=some x)
  (hl:us.length+vs.length+xs.length<=1000000):
  Calls Tryz.prog 225 #[.slice (some ⟨b,0,none⟩) 3 3] w (MadeQ (us++(vs++xs)) w):=by
 have e:flatR [(u,us),(v,vs),(x,xs)]=us++(vs++xs):=by simp [flatR]
 have:=ConcatK_any b [(u,us),(v,vs),(x,xs)] w (fun j h=>by
  match j,h with
  | 0,_=>exact⟨h0,hu⟩
  | 1,_=>exact⟨h1,hv⟩
  | 2,_=>exact⟨h2,hx⟩) (by simp) (by rw[e];simp;omega)
 rw[e] at this
 exact this
theorem CloneK_any (v:Value) (l:List LockC) (w:World) (h:RdX 4 cellsK w v l) (h5:l.length<=1000000):
  Calls Tryz.prog 107 #[v] w (MadeQ l w):=by
 obtain⟨i0,hi,hz0,hz1,hz2⟩:=info_parts infoK
 have heq: ∀w a n c,(binOp .eql 23 (.slice a n c) (.slice none 0 0)).run Tryz.prog w= .ok (.bool a.isNone) w:=fun w a n c=>Lib.run_eql_slice_nil w 23 60 a n c 0 0 Tryz.underlying23
 have HR:=hid h
 obtain⟨a,cap,rfl⟩:=h.form
 cases a with
 | none=>
  have hl:l= []:=by
   obtain⟨a',cap',hv,_,_,h3,_⟩:=h.ex
   cases hv
   exact(h3 rfl).1
  subst hl
  clear h
  go_enter Tryz.func107,Tryz.ntmps107
  go_wp2
  go_ret
  exact⟨_,rfl,World.ownsRow_nil _ _ _ _,Below.refl _ _⟩
 | some ad=>
  clear h
  have HR2:=hid (fun o=>HR.out.later (newAlloc w o))
  clear HR
  go_enter Tryz.func107,Tryz.ntmps107
  go_wp2_with (at_builtin;refine wpList_append_rdx cellsK_length (by omega) cellsK_one rfl _ _ 23 rfl w.heap.size 60 i0 _ 56 Tryz.underlying23 hi hz0 hz1 hz2 rfl _ 0 [] rfl (own_new w _ 4 _ _ rfl (Nat.le_refl _)) _ l rfl (HR2.out _) (by unfold maxLen;omega) (by omega) (newAlloc w (.cells #[] 60)).size ?_;intro v1 w2 hown2 hgrow2)
  go_ret
  refine⟨_,rfl,by simpa using hown2,(newAlloc w (.cells #[] 60)).grown hgrow2 (newAlloc w (.cells #[] 60)).size (fun k hk=>?_)⟩
  cases hk
  exact Nat.le_refl _
end Cm
end Go.Proofs.YtclcgkpfcogcdaaGreat

/- Contracts: package lock's withLine, copyOf, copies. -/
set_option linter.unusedVariables false
set_option maxRecDepth 8000
set_option linter.unusedSimpArgs false
namespace Go.Proofs.YtclcgkpfcogcdaaGreat
open Lib (hid)
open Go.RowKit Go.Shelf
namespace Cm

theorem free4k {w w':World} {x y z u:Value} {t:TypeId} (h:Below (w.alloc (.cells #[x,y,z,u] t)).heap.size (w.alloc (.cells #[x,y,z,u] t)) w'):
  ∀k,w'.frozen? ⟨w.heap.size,k,none⟩=false:=by
 intro k
 have hl:w.heap.size<(w.alloc (.cells #[x,y,z,u] t)).heap.size :=by simp
 rw[h.frozen (p:=⟨w.heap.size,k,none⟩) hl]
 simp [go_sem]
theorem set4k {a w:World} {b:Nat} (h:Below b a w) (g:Nat) (hg:b<=g) (x y z u:Value):Below b a ((((w.setCell ⟨g,0,none⟩ x).setCell ⟨g,1,none⟩ y).setCell ⟨g,2,none⟩ z).setCell ⟨g,3,none⟩ u):=
 (((h.setCell hg _).setCell hg _).setCell hg _).setCell hg _
def IsL (x:LockV) (r:Value) (w:World) (e:Ending) (w':World):Prop:=e= .returned (.agg #[.string (bstr x.name),.int .i64 x.holder,.int .i64 x.token,r])/\Below w.heap.size w w'
set_option maxHeartbeats 1000000 in
theorem withLine_any (n:List UInt8) (h t:Int) (la ra:Option Addr) (ln lc rn rc:Nat) (w:World):
  Calls Tryz.prog 176 #[.agg #[.string (bstr n),.int .i64 h,.int .i64 t,.slice la ln lc],.slice ra rn rc] w (IsL ⟨n,h,t,[]⟩ (.slice ra rn rc) w):=by
 unfold IsL
 dsimp only
 have hb1:=newAlloc w (.cells #[.string (bstr n),.int .i64 h,.int .i64 t,.slice la ln lc] 60)
 obtain⟨c0,c1,c2,c3⟩:=box4 (Below.refl _ (w.alloc (.cells #[.string (bstr n),.int .i64 h,.int .i64 t,.slice la ln lc] 60)))
 have f0:=free4k (Below.refl _ (w.alloc (.cells #[.string (bstr n),.int .i64 h,.int .i64 t,.slice la ln lc] 60)))
 obtain⟨W1,hW1⟩: ∃W1,W1=w.alloc (.cells #[.string (bstr n),.int .i64 h,.int .i64 t,.slice la ln lc] 60):=⟨_,rfl⟩
 rw[<-hW1] at hb1 c0 c1 c2 c3 f0
 have hs:W1.heap.size=w.heap.size+1:=by rw[hW1];simp
 have hb2:=newAlloc W1 (.cells #[.string ⟨#[]⟩,.int .i64 0,.int .i64 0,.slice none 0 0] 60)
 have k0:=(hb2.cell (lt_of_cell c0)).trans c0
 have k1:=(hb2.cell (lt_of_cell c1)).trans c1
 have k2:=(hb2.cell (lt_of_cell c2)).trans c2
 have k3:=(hb2.cell (lt_of_cell c3)).trans c3
 have kf: ∀k,(W1.alloc (.cells #[.string ⟨#[]⟩,.int .i64 0,.int .i64 0,.slice none 0 0] 60)).frozen? ⟨w.heap.size,k,none⟩=false:=fun k=>(hb2.frozen (p:=⟨w.heap.size,k,none⟩) (show w.heap.size< _ from lt_of_cell c0)).trans (f0 k)
 obtain⟨d0,d1,d2,d3⟩:=box4 (Below.refl _ (W1.alloc (.cells #[.string ⟨#[]⟩,.int .i64 0,.int .i64 0,.slice none 0 0] 60)))
 have df:=free4k (Below.refl _ (W1.alloc (.cells #[.string ⟨#[]⟩,.int .i64 0,.int .i64 0,.slice none 0 0] 60)))
 obtain⟨W2,hW2⟩: ∃W2,W2=W1.alloc (.cells #[.string ⟨#[]⟩,.int .i64 0,.int .i64 0,.slice none 0 0] 60):=⟨_,rfl⟩
 rw[<-hW2] at hb2 k0 k1 k2 k3 kf d0 d1 d2 d3 df
 rw[hs] at d0 d1 d2 d3 df
 have HB:=hid (step hb1 hb2)
 obtain⟨W3,hW3⟩: ∃W3,W3=W2.setCell ⟨w.heap.size,3,none⟩ (.slice ra rn rc):=⟨_,rfl⟩
 have HB3:Hid (Below w.heap.size w W3):=hid (by rw[hW3];exact HB.out.setCell (Nat.le_refl _) _)
 have t0:W3.cell? ⟨w.heap.size,0,none⟩=some (.string (bstr n)):=by rw[hW3];simp [go_sem,k0]
 have t1:W3.cell? ⟨w.heap.size,1,none⟩=some (.int .i64 h):=by rw[hW3];simp [go_sem,k1]
 have t2:W3.cell? ⟨w.heap.size,2,none⟩=some (.int .i64 t):=by rw[hW3];simp [go_sem,k2]
 have t3:W3.cell? ⟨w.heap.size,3,none⟩=some (.slice ra rn rc):=by rw[hW3];simp [go_sem,k3,kf]
 have e0:W3.cell? ⟨w.heap.size+1,0,none⟩=some (.string ⟨#[]⟩):=by rw[hW3];simp [go_sem,d0]
 have e1:W3.cell? ⟨w.heap.size+1,1,none⟩=some (.int .i64 0):=by rw[hW3];simp [go_sem,d1]
 have e2:W3.cell? ⟨w.heap.size+1,2,none⟩=some (.int .i64 0):=by rw[hW3];simp [go_sem,d2]
 have e3:W3.cell? ⟨w.heap.size+1,3,none⟩=some (.slice none 0 0):=by rw[hW3];simp [go_sem,d3]
 have ef: ∀k,W3.frozen? ⟨w.heap.size+1,k,none⟩=false:=fun k=>by rw[hW3];simp [go_sem,df]
 clear hb1 hb2 c0 c1 c2 c3 f0 d0 d1 d2 d3 df
 go_enter Tryz.func176,Tryz.ntmps176
 go_upto_region 1 with fail
 rw[<-hW1,<-hW2]
 clear hW1 hW2 hs
 have HW3:=hid hW3
 clear hW3
 go_upto_region 2 with fail
 rw[<-HW3.out]
 clear HW3 HB k0 k1 k2 k3 kf
 go_wp2
 refine bodyPost_ret (by simp [results,Tryz.results176,go_sem,e0,e1,e2,e3,ef]<;>rfl) rfl ⟨rfl,?_⟩
 exact set4k HB3.out _ (Nat.le_succ _) _ _ _ _
def IsCopy (x:LockC) (w:World) (e:Ending) (w':World):Prop:=
 ∃a c,e= .returned (.agg #[.string (bstr x.name),.int .i64 x.holder,.int .i64 x.token,.slice a x.line.length c])/\w'.ownsRow w.heap.size 3 1 (.slice a x.line.length c) x.line.length (flatX cellsI x.line)/\Below w.heap.size w w'
set_option maxHeartbeats 2000000 in
theorem copyOf_any (x:LockC) (w:World) (hl:RdI w x.lv x.line) (h5:x.line.length<=1000):Calls Tryz.prog 235 #[lockVal x] w (IsCopy x w):=by
 obtain⟨xn,xh,xt,xl,xa,xc⟩:=x
 unfold lockVal IsCopy
 unfold LockC.lv at hl ⊢
 dsimp only at hl h5 ⊢
 have hb1:=newAlloc w (.cells #[.string (bstr xn),.int .i64 xh,.int .i64 xt,.slice xa xl.length xc] 60)
 obtain⟨c0,c1,c2,c3⟩:=box4 (Below.refl _ (w.alloc (.cells #[.string (bstr xn),.int .i64 xh,.int .i64 xt,.slice xa xl.length xc] 60)))
 obtain⟨W1,hW1⟩: ∃W1,W1=w.alloc (.cells #[.string (bstr xn),.int .i64 xh,.int .i64 xt,.slice xa xl.length xc] 60):=⟨_,rfl⟩
 rw[<-hW1] at hb1 c0 c1 c2 c3
 have hs:W1.heap.size=w.heap.size+1:=by rw[hW1];simp
 have hb2:=newAlloc W1 (.cells #[.string ⟨#[]⟩,.int .i64 0,.int .i64 0,.slice none 0 0] 60)
 have k0:=(hb2.cell (lt_of_cell c0)).trans c0
 have k1:=(hb2.cell (lt_of_cell c1)).trans c1
 have k2:=(hb2.cell (lt_of_cell c2)).trans c2
 have k3:=(hb2.cell (lt_of_cell c3)).trans c3
 obtain⟨d0,d1,d2,d3⟩:=box4 (Below.refl _ (W1.alloc (.cells #[.string ⟨#[]⟩,.int .i64 0,.int .i64 0,.slice none 0 0] 60)))
 have df:=free4k (Below.refl _ (W1.alloc (.cells #[.string ⟨#[]⟩,.int .i64 0,.int .i64 0,.slice none 0 0] 60)))
 obtain⟨W2,hW2⟩: ∃W2,W2=W1.alloc (.cells #[.string ⟨#[]⟩,.int .i64 0,.int .i64 0,.slice none 0 0] 60):=⟨_,rfl⟩
 rw[<-hW2] at hb2 k0 k1 k2 k3 d0 d1 d2 d3 df
 rw[hs] at d0 d1 d2 d3 df
 have HB:=hid (step hb1 hb2)
 have hs2:W2.heap.size=w.heap.size+2:=by rw[hW2];simp [hs]
 have HS2:=hid hs2
 have HQ:Hid (∀w',Below W2.heap.size W2 w'->w'.cell? ⟨w.heap.size,0,none⟩=some (.string (bstr xn))/\w'.cell? ⟨w.heap.size,1,none⟩=some (.int .i64 xh)/\w'.cell? ⟨w.heap.size,2,none⟩=some (.int .i64 xt)/\w'.cell? ⟨w.heap.size,3,none⟩=some (.slice xa xl.length xc)):=hid fun w' hb=>⟨(hb.cell (lt_of_cell k0)).trans k0,(hb.cell (lt_of_cell k1)).trans k1,(hb.cell (lt_of_cell k2)).trans k2,(hb.cell (lt_of_cell k3)).trans k3⟩
 have HD:Hid (∀w',Below W2.heap.size W2 w'->(w'.cell? ⟨w.heap.size+1,0,none⟩=some (.string ⟨#[]⟩)/\w'.cell? ⟨w.heap.size+1,1,none⟩=some (.int .i64 0)/\w'.cell? ⟨w.heap.size+1,2,none⟩=some (.int .i64 0)/\w'.cell? ⟨w.heap.size+1,3,none⟩=some (.slice none 0 0))/\ ∀k,w'.frozen? ⟨w.heap.size+1,k,none⟩=false):=hid fun w' hb=>⟨⟨(hb.cell (lt_of_cell d0)).trans d0,(hb.cell (lt_of_cell d1)).trans d1,(hb.cell (lt_of_cell d2)).trans d2,(hb.cell (lt_of_cell d3)).trans d3⟩,fun k=>(hb.frozen (p:=⟨w.heap.size+1,k,none⟩) (show w.heap.size+1< _ from lt_of_cell d0)).trans (df k)⟩
 have KC:Hid (∀w',Below W2.heap.size W2 w'->Calls Tryz.prog 108 #[.slice xa xl.length xc] w' (MadeI xl w')):=hid fun w' hb=>CloneI_any _ xl w' (hl.later (step HB.out hb)) (by omega)
 clear hb1 hb2 c0 c1 c2 c3 k0 k1 k2 k3 d0 d1 d2 d3 df hl
 obtain⟨L,hL⟩: ∃L,xl.length=L:=⟨_,rfl⟩
 have HL:=hid hL
 rw[hL] at h5 HQ KC ⊢
 rw[hL] at hW1
 clear hL
 go_enter Tryz.func235,Tryz.ntmps235
 go_upto_region 1 with fail
 rw[<-hW1,<-hW2]
 clear hW1 hW2 hs hs2
 obtain⟨k0,k1,k2,k3⟩:=HQ.out _ (Below.refl _ W2)
 go_region_held3 (fun w'=>w'.cell? ⟨w.heap.size,0,none⟩=some (.string (bstr xn))/\w'.cell? ⟨w.heap.size,1,none⟩=some (.int .i64 xh)/\w'.cell? ⟨w.heap.size,2,none⟩=some (.int .i64 xt)/\w'.cell? ⟨w.heap.size,3,none⟩=some (.slice xa L xc)) (first | exact⟨k0,k1,k2,k3⟩ | exact HQ.out _ (step (Below.refl _ _).drew hb6) | exact HQ.out _ (step (step (Below.refl _ _).drew hb6) hb7) | exact HQ.out _ (Below.refl _ _).drew | go_keep) (first
  | (go_at_call 108;refine(KC.out _ (Below.refl _ _).drew).mono ?_;rintro e w6 ⟨v6,rfl,ho6,hb6⟩;have HO6:=hid ho6;obtain⟨a6,c6,rfl⟩:=Rw.own_form HO6.out;have hb6:Below W2.heap.size W2.drew w6:=hb6;clear ho6)
  | (go_at_call 176;refine(withLine_any xn xh xt _ _ _ _ _ _ _).mono ?_;rintro e w7 ⟨rfl,hb7⟩;obtain⟨⟨y0,y1,y2,y3⟩,yf⟩:=HD.out _ (step (step (Below.refl _ _).drew hb6) hb7)))
 have HB7:=hid (step (step (Below.refl W2.heap.size W2).drew hb6) hb7)
 have HO7:=hid (Rw.own_below HO6.out hb7)
 clear hb6 hb7 HO6 HQ HD KC k0 k1 k2 k3
 go_wp2
 refine bodyPost_ret (by simp [results,Tryz.results235,go_sem,y0,y1,y2,y3,yf]<;>rfl) rfl ?_
 have ho:=HO7.out
 rw[HL.out] at ho ⊢
 have hlt:w.heap.size+1<W2.heap.size:=by rw[HS2.out];omega
 refine⟨a6,c6,rfl,own_lowerX (ownsRow_setCell_below (ownsRow_setCell_below (ownsRow_setCell_below (ownsRow_setCell_below ho hlt _) hlt _) hlt _) hlt _) HB.out.size,set4k (step HB.out HB7.out) _ (Nat.le_succ _) _ _ _ _⟩
end Cm
end Go.Proofs.YtclcgkpfcogcdaaGreat
