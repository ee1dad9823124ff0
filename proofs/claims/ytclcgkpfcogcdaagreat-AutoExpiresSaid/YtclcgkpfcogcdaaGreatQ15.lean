/- Texts laid together by program. -/
import Derived.Test.YtclcgkpfcogcdaaGreatQ14
import Derived.Deep.RegionHeld3
/- Contract: padlockref6's drop (states). -/
set_option linter.unusedVariables false
set_option maxRecDepth 8000
set_option linter.unusedSimpArgs false
namespace Go.Proofs.YtclcgkpfcogcdaaGreat
open Lib (hid)
open Go.RowKit
namespace Cm

structure Small (x:StC):Prop where
 s:x.S.length<=1000
 k:x.K.length<=1000
 l: ∀k∈x.K,k.line.length<=1000
 m:x.M.length<=1000
 h: ∀m∈x.M,m.m.rep.held.length<=1000
 n:(vals x.K).Pairwise fun a b=>a.name≠b.name
 t:0<=x.token/\x.token<=2305843009213693952
theorem closeE_len (l:List SesV) (c:Int):(closeE l c).length <=l.length:=by
 unfold closeE
 split
 ·unfold closeS
  split
  ·simp
  ·exact List.length_filter_le _ _
 ·exact Nat.le_refl _
theorem closeAll_len (G:List Int): ∀l:List SesV,(closeAll l G).length <=l.length:=by
 induction G with
 | nil=>intro l;exact Nat.le_refl _
 | cons c G ih=>intro l;exact Nat.le_trans (ih (closeE l c)) (closeE_len l c)
theorem closeAll_succ (l:List SesV) (G:List Int) (k:Nat) (h:k<G.length):closeAll l (G.take (k+1))=closeE (closeAll l (G.take k)) G[k]:=by
 unfold closeAll
 rw[List.take_succ_eq_append_getElem h,List.foldl_append]
 rfl
theorem below_set6 {a w:World} {b:Nat} (h:Below b a w) (g:Nat) (hg:b<=g) (x y z u v s:Value):Below b a ((((((w.setCell ⟨g,0,none⟩ x).setCell ⟨g,1,none⟩ y).setCell ⟨g,2,none⟩ z).setCell ⟨g,3,none⟩ u).setCell ⟨g,4,none⟩ v).setCell ⟨g,5,none⟩ s):=set6m h g hg x y z u v s
theorem FromS.set6 {base:Nat} {w:World} {x y:StC} (h:FromS base w x y) {g:Nat} (hg:g<base) (v0 v1 v2 v3 v4 v5:Value):FromS base ((((((w.setCell ⟨g,0,none⟩ v0).setCell ⟨g,1,none⟩ v1).setCell ⟨g,2,none⟩ v2).setCell ⟨g,3,none⟩ v3).setCell ⟨g,4,none⟩ v4).setCell ⟨g,5,none⟩ v5) x y:=
 (((((h.setBelow hg 0 v0).setBelow hg 1 v1).setBelow hg 2 v2).setBelow hg 3 v3).setBelow hg 4 v4).setBelow hg 5 v5
set_option maxHeartbeats 8000000 in
theorem RefDrop_any (x:StC) (u:Value) (G:List Int) (w:World) (h:RdSt w x) (hG:RdI w u G) (hs:Small x):Calls Tryz.prog 71 #[stVal x,u] w (GetsSt (dropA x.v G) x w):=by
 obtain⟨W1,hW1⟩: ∃W1,W1=w.alloc (.cells #[.int .i64 x.time,.int .i64 x.num,.int .i64 x.token,x.sv,x.kv,x.mv] 26):=⟨_,rfl⟩
 have hb1:Below w.heap.size w W1:=by rw[hW1];exact newAlloc _ _
 have hB1:BoxS W1 w.heap.size x:=by rw[hW1];exact BoxS.new w x _
 have hs1:W1.heap.size=w.heap.size+1:=by rw[hW1];simp
 obtain⟨W2,hW2⟩: ∃W2,W2=W1.alloc (.cells #[.int .i64 0,.int .i64 0,.int .i64 0,.slice none 0 0,.slice none 0 0,.slice none 0 0] 26):=⟨_,rfl⟩
 have hb2:Below W1.heap.size W1 W2:=by rw[hW2];exact newAlloc _ _
 have hZ:BoxS W2 (w.heap.size+1) zeroC10:=by rw[<-hs1,hW2];exact BoxS.new W1 zeroC10 _
 have HX0:=hid (hB1.later hb2)
 have HZ0:=hid hZ
 have HB2:=hid (step hb1 hb2)
 have hs2:W2.heap.size=w.heap.size+2:=by rw[hW2];simp [hs1]
 have HS2:=hid hs2
 have HS1:Hid (W1.heap.size=w.heap.size+1):=hid hs1
 have HRD:Hid (∀W,Below w.heap.size w W->RdSt W x):=hid fun W hb=>h.later hb
 have HGR:Hid (∀W,Below w.heap.size w W->RdI W u G):=hid fun W hb=>hG.later hb
 have hdg:=dropK_count G (vals x.K) x.token
 rw[vals_length] at hdg
 have hk5:=hs.k
 have htk:=hs.t
 have KD:Hid (∀W,Below w.heap.size w W->Calls Tryz.prog 134 #[x.kv,u,.int .i64 x.token] W (GetsD (dropK G (vals x.K) x.token) W)):=hid fun W hb=>DropLocks_any x.kv u x.K G x.token W ((h.later hb).k) hs.k hs.l hs.t (hG.later hb) hs.n
 have HSM:=hid hs
 have HDV:Hid (dropA x.v G=⟨x.time,x.num,x.token+(dropK G (vals x.K) x.token).2,closeAll x.S G,(dropK G (vals x.K) x.token).1,valsM x.M⟩):=hid rfl
 have hm:=hG.len
 obtain⟨ga,gc,rfl⟩:=hG.form
 have HA:=hid (fun i hi=>rdi_at hG i hi)
 clear h hG hs hb1 hb2 hB1 hZ
 generalize dropK G (vals x.K) x.token=d at KD hdg HDV
 obtain⟨dl,dg⟩:=d
 dsimp only at hdg HDV
 obtain⟨N,hN⟩: ∃N,G.length=N:=⟨_,rfl⟩
 have HNN:=hid hN
 rw[hN] at hm KD ⊢
 clear hN
 have HDVV:=HDV
 obtain⟨R,hR⟩: ∃R,dropA x.v G=R:=⟨_,rfl⟩
 rw[hR] at HDV ⊢
 clear hR HDVV
 have e1:IntKind.i64.wrap (x.token+dg)=x.token+dg:=by rw[IntKind.wrap_i64];omega
 obtain⟨nb,hnb⟩: ∃nb,w.heap.size=nb:=⟨_,rfl⟩
 have HNB:=hid hnb
 have hHI:nb+2=W2.heap.size:=by omega
 have HHI:=hid hHI
 have HCL:=hid (closeAll_succ x.S G)
 have HCN:=hid (fun k=>closeAll_len (G.take k) x.S)
 clear hHI hs1 hs2
 unfold stVal
 rw[hnb] at HX0 HZ0 HS1
 clear hnb
 go_enter Tryz.func71,Tryz.ntmps71
 go_upto_region 1 with fail
 rw[<-hW1,<-hW2]
 rw[HNB.out]
 clear hW1 hW2
 obtain⟨c0,c1,c2,c3,c4,c5,cf⟩:=HX0.out
 go_upto_region 2 with (go_at_call 134;refine(KD.out _ HB2.out).mono ?_;rintro e w3 ⟨v3,M3,rfl,hv3,ho3,hb3⟩;have HV3:=hid hv3;have HO3:=hid ho3;have HB3:=hid hb3;obtain⟨a3,p3,rfl⟩:=Rw.own_form ho3.row;clear hv3 ho3 hb3)
 have hX3:=HX0.out.later HB3.out
 have hZ3:=HZ0.out.later HB3.out
 have HX4:=hid ((hX3.set4 M3 a3 p3).set2 (x.token+dg))
 have HZ4:=hid ((hZ3.other (Nat.ne_of_lt (Nat.lt_succ_self nb)) 4 (.slice a3 M3.length p3)).other (Nat.ne_of_lt (Nat.lt_succ_self nb)) 2 (.int .i64 (x.token+dg)))
 have hlt:nb<W2.heap.size:=by have:=HHI.out;omega
 have hf3:FromS W2.heap.size w3 x { x with token:=x.token+dg,K:=M3,ka:=a3,kc:=p3 } :=⟨.inl ⟨rfl,rfl,rfl⟩,.inr HO3.out,.inl ⟨rfl,rfl,rfl⟩⟩
 have HF4:Hid (FromS W2.heap.size ((w3.setCell ⟨nb,4,none⟩ (.slice a3 M3.length p3)).setCell ⟨nb,2,none⟩ (.int .i64 (x.token+dg))) x { x with token:=x.token+dg,K:=M3,ka:=a3,kc:=p3 }):=hid ((hf3.setBelow hlt 4 _).setBelow hlt 2 _)
 have HB4:Hid (Below w.heap.size w ((w3.setCell ⟨nb,4,none⟩ (.slice a3 M3.length p3)).setCell ⟨nb,2,none⟩ (.int .i64 (x.token+dg)))):=hid (((step HB2.out HB3.out).setCell (Nat.le_of_eq HNB.out) _).setCell (Nat.le_of_eq HNB.out) _)
 have hs4:W2.heap.size<=((w3.setCell ⟨nb,4,none⟩ (.slice a3 M3.length p3)).setCell ⟨nb,2,none⟩ (.int .i64 (x.token+dg))).heap.size :=by simpa using HB3.out.size
 obtain⟨y0,hy0⟩: ∃y0:StC,y0= { x with token:=x.token+dg,K:=M3,ka:=a3,kc:=p3 } :=⟨_,rfl⟩
 have HYV:Hid (y0.v=⟨x.time,x.num,x.token+dg,x.S,dl,valsM x.M⟩):=hid (by rw[hy0];show(⟨_,_,_,_,vals M3,_⟩:StV)= _;rw[HV3.out])
 rw[<-hy0] at HX4 HF4
 clear hy0
 obtain⟨d0,d1,d2,d3,d4,d5,df⟩:=hX3
 clear c0 c1 c2 c3 c4 c5 cf hZ3
 go_upto_region 4 with fail
 obtain⟨W4,hW4⟩: ∃W4,W4=(w3.setCell ⟨nb,4,none⟩ (.slice a3 M3.length p3)).setCell ⟨nb,2,none⟩ (.int .i64 (x.token+dg)):=⟨_,rfl⟩
 rw[<-hW4] at HX4 HZ4 HF4 HB4 hs4 ⊢
 clear hW4 d0 d1 d2 d3 d4 d5 df
 clear KD HX0 HZ0 hf3 HO3 HB3 hk5 htk hdg
 go_wp2
 go_loopw [7] (fun i wr=> ∃(k:Nat) (y:StC),k<=N/\i= .int .i64 k/\W2.heap.size<=wr.heap.size/\Hid (y.v=⟨x.time,x.num,x.token+dg,closeAll x.S (G.take k),dl,valsM x.M⟩)/\Hid (BoxS wr nb y)/\Hid (BoxS wr (nb+1) zeroC10)/\Hid (FromS W2.heap.size wr x y)/\Hid (Below w.heap.size w wr)) (fun i _=>N - (intOf i).toNat)
 case atStart=>exact⟨0,y0,by omega,rfl,hs4,HYV,HX4,HZ4,HF4,HB4⟩
 case round=>
  obtain⟨k,y,hk,rfl,hsz,HV,HX,HZ,HF,HB⟩:=hrel
  obtain⟨c0,c1,c2,c3,c4,c5,cf⟩:=HX.out
  by_cases hkN:k<N
  ·have hkG:k<G.length:=by rw[HNN.out];exact hkN
   obtain⟨b,o,rfl,hc⟩:=HA.out k hkG
   have q0:=hc _ HB.out
   have hcl:=HCL.out k hkG
   have hys:y.S=closeAll x.S (G.take k):=by have:=congrArg StV.ses HV.out;exact this
   have hlen:y.S.length<=1000:=by rw[hys];exact Nat.le_trans (HCN.out k) HSM.out.s
   rw[<-hys] at hcl
   unfold closeE at hcl
   have KC:=fun W (hb:Below wr.heap.size wr W)=>Close_any y.sv y.S G[k] W ((HF.out.later hb).rd (HRD.out W (step HB.out hb))).s hlen
   have HCC:Hid (∀W,Below wr.heap.size wr W->W.cell? ⟨b,o+k,none⟩=some (.int .i64 G[k])):=hid fun W hb=>hc W (step HB.out hb)
   generalize G[k]=gk at q0 hcl KC HCC
   generalize closeS y.S gk=r at hcl KC
   obtain⟨rl,rc⟩:=r
   dsimp only at hcl
   have KC:=hid KC
   have HCLL:=hid hcl
   have HYS:=hid hys
   clear hcl hys hc hlen HA HCL hkG
   have f1:(0:Int)<=(k:Int):=by omega
   have f2:(k:Int)<(N:Int):=by omega
   go_upto_region 7 with fail
   go_region_held3 (fun W=>W.cell? ⟨nb,3,none⟩=some y.sv/\W.cell? ⟨b,o+k,none⟩=some (.int .i64 gk)) (first | exact⟨c3,q0⟩ | exact⟨(HX.out.later (Below.refl _ wr).drew).c3,HCC.out _ (Below.refl _ wr).drew⟩ | exact⟨(HX.out.later HB5.out).c3,HCC.out _ HB5.out⟩ | go_keep) (first | (go_at_call 135;refine(KC.out _ (Below.refl _ wr).drew).mono ?_;rintro e w5 ⟨v5,rfl,ho5,hb5⟩;dsimp only at ho5;obtain⟨a5,p5,rfl⟩:=Rw.own_form ho5;have HO5:=hid ho5;have HB5:Hid (Below wr.heap.size wr w5):=hid (step (Below.refl wr.heap.size wr).drew hb5);clear ho5 hb5))
   have hX5:=HX.out.later HB5.out
   have HX5:=hid hX5
   have HZ5:=hid (HZ.out.later HB5.out)
   have HF5:=hid (HF.out.later HB5.out)
   have HB05:=hid (step HB.out HB5.out)
   have hsz5:W2.heap.size<=w5.heap.size:=Nat.le_trans hsz HB5.out.size
   obtain⟨d0,d1,d2,d3,d4,d5,df⟩:=hX5
   clear c0 c1 c2 c3 c4 c5 cf q0 KC HCC
   by_cases hr:rc=0
   ·have g1:(rc==0)=true:=by simpa using hr
    have HO6:=hid (own_lowerX HO5.out hsz)
    have hX6:=HX5.out.set3 rl a5 p5
    have hZ6:=HZ5.out.other (Nat.ne_of_lt (Nat.lt_succ_self nb)) 3 (.slice a5 rl.length p5)
    have hf6:FromS W2.heap.size w5 x { y with S:=rl,sa:=a5,sc:=p5 } :=⟨.inr HO6.out,HF5.out.k,HF5.out.m⟩
    have HX6:=hid hX6
    have HZ6:=hid hZ6
    have HF6:=hid (hf6.setBelow hlt 3 (.slice a5 rl.length p5))
    have HB6:Hid (Below w.heap.size w (w5.setCell ⟨nb,3,none⟩ (.slice a5 rl.length p5))):=hid (HB05.out.setCell (Nat.le_of_eq HNB.out) _)
    have hcl:=HCLL.out
    rw[if_pos hr] at hcl
    have HV6:Hid (({ y with S:=rl,sa:=a5,sc:=p5 } :StC).v =⟨x.time,x.num,x.token+dg,closeAll x.S (G.take (k+1)),dl,valsM x.M⟩):=hid (by
     have hv:=HV.out
     rw[hcl]
     unfold StC.v at hv ⊢
     injection hv with v1 v2 v3 v4 v5 v6
     dsimp only
     rw[v1,v2,v3,v5,v6])
    have hsz6:W2.heap.size<=(w5.setCell ⟨nb,3,none⟩ (.slice a5 rl.length p5)).heap.size :=by simpa using hsz5
    clear hr hX6 hZ6 hf6 hcl
    go_wp2
    go_roundw
    case rel=>exact⟨k+1,_,by omega,by go_num,hsz6,HV6,HX6,HZ6,HF6,HB6⟩
    case measure=>simp [intOf];omega
   ·have g1:(rc==0)=false:=by simpa using hr
    have hcl:=HCLL.out
    rw[if_neg hr] at hcl
    have HV6:Hid (y.v=⟨x.time,x.num,x.token+dg,closeAll x.S (G.take (k+1)),dl,valsM x.M⟩):=hid (by rw[hcl,HYS.out];exact HV.out)
    clear hr hcl
    go_wp2
    go_roundw
    case rel=>exact⟨k+1,y,by omega,by go_num,hsz5,HV6,HX5,HZ5,HF5,HB05⟩
    case measure=>simp [intOf];omega
  ·obtain rfl:k=N:=by omega
   obtain⟨z0,z1,z2,z3,z4,z5,zf⟩:=HZ.out
   simp only[zeroC10,StC.sv,StC.kv,StC.mv,List.length_nil] at z0 z1 z2 z3 z4 z5
   have HE:=hid ((HF.out.set6 (show nb+1<W2.heap.size by have:=HHI.out;omega) (.int .i64 y.time) (.int .i64 y.num) (.int .i64 y.token) y.sv y.kv y.mv).lower HB2.out.size)
   have HBE:=hid (below_set6 HB.out (nb+1) (by have:=HNB.out;omega) (.int .i64 y.time) (.int .i64 y.num) (.int .i64 y.token) y.sv y.kv y.mv)
   have HVE:Hid (y.v=R):=hid (by
    have hv:=HV.out
    rw[<-HNN.out,List.take_length] at hv
    rw[hv,HDV.out])
   obtain⟨yt,yn,yk,yS,ya,yc,yK,yka,ykc,yM,yma,ymc⟩:=y
   simp only[StC.sv,StC.kv,StC.mv] at c0 c1 c2 c3 c4 c5 HE HBE
   clear HA HCL HX HZ HF HV
   go_wp2
   refine bodyPost_ret (by simp [results,Tryz.results71,go_sem,z0,z1,z2,z3,z4,z5,zf]<;>rfl) rfl ?_
   exact⟨_,rfl,HVE.out,HE.out,HBE.out⟩
end Cm
end Go.Proofs.YtclcgkpfcogcdaaGreat

/- Right locks stay right, whatever is done to them: plain facts. No program is named here. -/
set_option linter.unusedVariables false
set_option maxRecDepth 8000
set_option linter.unusedSimpArgs false
namespace Go.Proofs.YtclcgkpfcogcdaaGreat
open Lib (hid)
open Go.RowKit
namespace Cm

theorem oneK_iff (k:LockV):oneK k=true ↔ nameF k.name=true/\clientF k.holder=true/\highF k.token 1=true/\rightL k.line=true/\k.holder ∉ k.line:=by
 unfold oneK
 rw[Bool.and_eq_true,Bool.and_eq_true,Bool.and_eq_true,Bool.and_eq_true,Bool.not_eq_true',hasL_not]
structure Good (l:List LockV) (t:Int):Prop where
 rk:Rk l
 len:l.length<=4
 tok: ∀k∈l,k.token<=t
 pos:0<=t
theorem Good.right {l:List LockV} {t:Int} (h:Good l t):rightK l=true:=(rightK_iff l).2 ⟨h.len,h.rk⟩
theorem Good.nil:Good [] 0:=⟨Rk.nil,by simp,(fun k h=>by cases h),Int.le_refl _⟩
theorem less_irr (a:List UInt8):Op.bytesLess a a=false:=by
 rcases less_tri a a with ⟨_,_,h⟩ | ⟨h,_,_⟩ | ⟨_,h⟩
 ·exact absurd rfl h
 ·exact h
 ·exact h
theorem Rk.names {l:List LockV} (h:Rk l):l.Pairwise fun a b=>a.name≠b.name:=h.up.imp fun {a b} q e=>by
 rw[e,less_irr] at q
 cases q
theorem Rk.sub {l m:List LockV} (h:Rk l) (hs:m.Sublist l):Rk m:=⟨fun k hk=>h.one k (hs.subset hk),h.up.sublist hs,h.tok.sublist hs⟩
theorem rk_set {l:List LockV} (h:Rk l) (i:Nat) (hi:i<l.length) (k:LockV) (hn:k.name=l[i].name) (h1:oneK k=true) (ht:k.token=l[i].token \/ ∀x∈l,x.token<k.token):Rk (l.set i k):=by
 have hu:=List.pairwise_iff_getElem.1 h.up
 have hk:=List.pairwise_iff_getElem.1 h.tok
 refine⟨fun x hx=>?_,List.pairwise_iff_getElem.2 fun a b ha hb hab=>?_,List.pairwise_iff_getElem.2 fun a b ha hb hab=>?_⟩
 ·rcases List.mem_or_eq_of_mem_set hx with q | q
  ·exact h.one x q
  ·rw[q];exact h1
 ·rw[List.length_set] at ha hb
  rw[List.getElem_set,List.getElem_set]
  have:=hu a b ha hb hab
  split
  ·split
   ·omega
   ·rename_i e _;subst e;rw[hn];exact this
  ·split
   ·rename_i e;subst e;rw[hn];exact this
   ·exact this
 ·rw[List.length_set] at ha hb
  rw[List.getElem_set,List.getElem_set]
  have:=hk a b ha hb hab
  split
  ·split
   ·omega
   ·rename_i e _
    subst e
    rcases ht with q | q
    ·rw[q];exact this
    ·have:=q _ (List.getElem_mem hb);omega
  ·split
   ·rename_i e
    subst e
    rcases ht with q | q
    ·rw[q];exact this
    ·have:=q _ (List.getElem_mem ha);omega
   ·exact this
theorem putK_mem (x:LockV) (l:List LockV): ∀s,s∈putK x l ↔ s=x\/s∈l:=by
 intro s
 rw[putK_place]
 constructor
 ·intro h
  rcases List.mem_append.1 h with q | q
  ·exact .inr (List.mem_of_mem_take q)
  ·rcases List.mem_cons.1 q with q | q
   ·exact .inl q
   ·exact .inr (List.mem_of_mem_drop q)
 ·rintro (rfl | h)
  ·simp
  ·rw[<-List.take_append_drop (placeK x.name l) l] at h
   rcases List.mem_append.1 h with q | q
   ·exact List.mem_append_left _ q
   ·exact List.mem_append_right _ (List.mem_cons_of_mem _ q)
theorem putK_length (x:LockV) (l:List LockV):(putK x l).length =l.length+1:=by
 have:=placeK_le x.name l
 rw[putK_place,List.length_append,List.length_cons,List.length_take,List.length_drop]
 omega
theorem rk_put (x:LockV) (l:List LockV) (h:Rk l) (hx:oneK x=true) (hn: ∀s∈l,s.name≠x.name) (ht: ∀s∈l,s.token≠x.token):Rk (putK x l):=by
 refine⟨fun s hs=>?_,?_,?_⟩
 ·rcases (putK_mem x l s).1 hs with rfl | q
  ·exact hx
  ·exact h.one s q
 ·have hu:=h.up
  clear h ht
  induction l with
  | nil=>exact List.pairwise_singleton _ _
  | cons y l ih=>
   rw[List.pairwise_cons] at hu
   unfold putK
   split
   ·rename_i q
    refine List.pairwise_cons.2 ⟨fun b hb=>?_,ih (fun s hs=>hn s (List.mem_cons_of_mem _ hs)) hu.2⟩
    rcases (putK_mem x l b).1 hb with rfl | hb
    ·exact q
    ·exact hu.1 b hb
   ·rename_i q
    have hxy:Op.bytesLess x.name y.name=true:=by
     rcases less_tri x.name y.name with ⟨t,_,_⟩ | ⟨_,t,_⟩ | ⟨t,_⟩
     ·exact t
     ·exact absurd t q
     ·exact absurd t.symm (hn y List.mem_cons_self)
    refine List.pairwise_cons.2 ⟨fun b hb=>?_,List.pairwise_cons.2 hu⟩
    rcases List.mem_cons.1 hb with rfl | hb
    ·exact hxy
    ·exact less_tr _ _ _ hxy (hu.1 b hb)
 ·have hu:=h.tok
  clear h hn
  induction l with
  | nil=>exact List.pairwise_singleton _ _
  | cons y l ih=>
   rw[List.pairwise_cons] at hu
   unfold putK
   split
   ·refine List.pairwise_cons.2 ⟨fun b hb=>?_,ih (fun s hs=>ht s (List.mem_cons_of_mem _ hs)) hu.2⟩
    rcases (putK_mem x l b).1 hb with rfl | hb
    ·exact ht y List.mem_cons_self
    ·exact hu.1 b hb
   ·refine List.pairwise_cons.2 ⟨fun b hb=>?_,List.pairwise_cons.2 hu⟩
    exact(ht b hb).symm
theorem idx_none (n:List UInt8) (l:List LockV) (h:idxI (isNm n) l<0): ∀k∈l,k.name≠n:=by
 have h2: ¬l.findIdx (isNm n)<l.length:=by
  intro q
  unfold idxI at h
  rw[if_pos q] at h
  omega
 intro k hk e
 exact h2 (List.findIdx_lt_length_of_exists ⟨k,hk,by unfold isNm;exact decide_eq_true e⟩)
theorem idx_some (n:List UInt8) (l:List LockV) (h: ¬idxI (isNm n) l<0): ∃k,∃hk:k<l.length,idxI (isNm n) l=(k:Int)/\l[k].name =n:=by
 rcases idx_casesG (isNm n) l with e | ⟨k,hk,e,q⟩
 ·omega
 ·exact⟨k,hk,e,by unfold isNm at q;exact of_decide_eq_true q⟩
theorem line_more (l:List Int) (c:Int) (h:rightL l=true) (h3: ¬3<=l.length) (hc:clientF c=true) (hn:(aheadL l c).2≠true):rightL (l++ [c])=true:=by
 obtain⟨_,hr⟩:=(rightL_iff l).1 h
 have hh:c ∉ l:=(hasL_not _ _).1 (by rw[<-aheadL_has];simpa using hn)
 refine(rightL_iff _).2 ⟨by rw[List.length_append,List.length_singleton];omega,fun x hx=>?_,List.pairwise_append.2 ⟨hr.apart,List.pairwise_singleton _ _,fun a ha b hb=>?_⟩⟩
 ·rcases List.mem_append.1 hx with g | g
  ·exact hr.ok x g
  ·rw[List.mem_singleton] at g;rw[g];exact hc
 ·rw[List.mem_singleton] at hb;subst hb
  intro e;exact hh (e ▸ ha)
theorem high_next (t:Int) (h0:0<=t) (h1:t<2305843009213693952):highF (t+1) 1=true:=by
 unfold highF
 simp
 omega
theorem good_take {l:List LockV} {t:Int} (h:Good l t) (n:List UInt8) (c:Int) (wt:Bool) (hn:nameF n=true) (hc:clientF c=true) (ht:t<2305843009213693952):
  ((takeK l n c t wt).2.2=0->Good (takeK l n c t wt).1 (t+1))/\((takeK l n c t wt).2.2=10->Good (takeK l n c t wt).1 t):=by
 unfold takeK
 split
 ·rename_i hi
  split
  ·exact⟨(fun q=>by cases q),(fun q=>by cases q)⟩
  ·rename_i h4
   refine⟨fun _=>?_,(fun q=>by cases q)⟩
   refine⟨rk_put _ _ h.rk ((oneK_iff _).2 ⟨hn,hc,high_next t h.pos ht,nil_right,by simp⟩) (idx_none n l hi) (fun s hs=>?_),by rw[putK_length];omega,fun k hk=>?_,by have:=h.pos;omega⟩
   ·have:=h.tok s hs
    dsimp only
    omega
   ·rcases (putK_mem _ l k).1 hk with rfl | q
    ·exact Int.le_refl _
    ·have:=h.tok k q;omega
 ·rename_i hi
  obtain⟨i,hil,hii,hin⟩:=idx_some n l hi
  rw[hii,getK_nat l i hil,Int.toNat_natCast]
  have ho:=(oneK_iff _).1 (h.rk.one _ (List.getElem_mem hil))
  split
  ·exact⟨(fun q=>by cases q),(fun q=>by cases q)⟩
  rename_i e1
  split
  ·exact⟨(fun q=>by cases q),(fun q=>by cases q)⟩
  split
  ·exact⟨(fun q=>by cases q),fun _=>h⟩
  rename_i e2
  split
  ·exact⟨(fun q=>by cases q),(fun q=>by cases q)⟩
  rename_i e3
  refine⟨(fun q=>by cases q),fun _=>⟨rk_set h.rk i hil _ rfl ((oneK_iff _).2 ⟨ho.1,ho.2.1,ho.2.2.1,line_more _ _ ho.2.2.2.1 e3 hc e2,?_⟩) (.inl rfl),by rw[List.length_set];exact h.len,fun k hk=>?_,h.pos⟩⟩
  ·intro q
   rcases List.mem_append.1 q with q | q
   ·exact ho.2.2.2.2 q
   ·rw[List.mem_singleton] at q
    exact e1 q
  ·rcases List.mem_or_eq_of_mem_set hk with q | q
   ·exact h.tok k q
   ·rw[q]
    show l[i].token <=t
    exact h.tok _ (List.getElem_mem hil)
theorem pass_one {k:LockV} (h:oneK k=true) (t:Int) (h0:0<=t) (ht:t<2305843009213693952) (hl:k.line≠ []):oneK (passK k t)=true:=by
 obtain⟨h1,h2,h3,h4,h5⟩:=(oneK_iff k).1 h
 obtain⟨h6,h7⟩:=(rightL_iff _).1 h4
 unfold passK
 match hk:k.line,hl with
 | d::r,_=>
  rw[hk] at h6 h7 h4
  refine(oneK_iff _).2 ⟨h1,h7.ok d List.mem_cons_self,high_next t h0 ht,tail_right _ h4,?_⟩
  intro q
  exact(List.pairwise_cons.1 h7.apart).1 d q rfl
theorem left_one {k:LockV} (G:List Int) (h:oneK k=true):oneK (leftK G k)=true:=by
 obtain⟨h1,h2,h3,h4,h5⟩:=(oneK_iff k).1 h
 exact(oneK_iff _).2 ⟨h1,h2,h3,without_right _ _ h4,fun q=>h5 (List.mem_filter.1 q).1⟩
theorem good_free {l:List LockV} {t:Int} (h:Good l t) (n:List UInt8) (c:Int) (ht:t<2305843009213693952):
  (freeK l n c t).2.2=0->Good (freeK l n c t).1 (t+(freeK l n c t).2.1):=by
 unfold freeK
 split
 ·intro q;cases q
 ·rename_i hi
  obtain⟨i,hil,hii,hin⟩:=idx_some n l hi
  rw[hii,getK_nat l i hil,Int.toNat_natCast]
  have ho:=h.rk.one _ (List.getElem_mem hil)
  split
  ·split
   ·intro q;cases q
   ·intro _
    refine⟨rk_set h.rk i hil _ rfl (left_one [c] ho) (.inl rfl),by rw[List.length_set];exact h.len,fun k hk=>?_,by have:=h.pos;simpa using this⟩
    rcases List.mem_or_eq_of_mem_set hk with q | q
    ·have:=h.tok k q;simpa using this
    ·rw[q];have:=h.tok _ (List.getElem_mem hil);simpa using this
  ·split
   ·intro _
    have hs:(l.take i++l.drop (i+1)).Sublist l:=by
     rw[<-List.eraseIdx_eq_take_drop_succ]
     exact List.eraseIdx_sublist l i
    refine⟨h.rk.sub hs,Nat.le_trans hs.length_le h.len,fun k hk=>?_,by have:=h.pos;simpa using this⟩
    have:=h.tok k (hs.subset hk);simpa using this
   ·rename_i e1
    intro _
    refine⟨rk_set h.rk i hil _ rfl (pass_one ho t h.pos ht e1) (.inr fun x hx=>?_),by rw[List.length_set];exact h.len,fun k hk=>?_,by have:=h.pos;dsimp only;omega⟩
    ·have:=h.tok x hx
     show x.token<t+1
     omega
    ·rcases List.mem_or_eq_of_mem_set hk with q | q
     ·have:=h.tok k q;dsimp only;omega
     ·rw[q];exact Int.le_refl _
theorem dropK_toks (G:List Int): ∀(l:List LockV) (t:Int) (x:LockV),x∈(dropK G l t).1->(∃y∈l,x.name=y.name/\x.token=y.token/\x.holder=y.holder/\hasL G y.holder=false)\/(∃y∈l,x.name=y.name/\hasL G y.holder=true)/\t<x.token/\x.token<=t+(dropK G l t).2
 | [],t,x,h=>by simp [dropK] at h
 | k::l,t,x,h=>by
  have hc:=dropK_count G l t
  have hc2:=dropK_count G l (t+1)
  rw[dropK] at h ⊢
  split at h
  ·rename_i hg
   rw[if_pos hg]
   rcases List.mem_cons.1 h with rfl | h
   ·exact .inl ⟨k,List.mem_cons_self,rfl,rfl,rfl,hg⟩
   ·rcases dropK_toks G l t x h with ⟨y,hy,e⟩ | ⟨⟨y,hy,e⟩,e1,e2⟩
    ·exact .inl ⟨y,List.mem_cons_of_mem _ hy,e⟩
    ·exact .inr ⟨⟨y,List.mem_cons_of_mem _ hy,e⟩,e1,e2⟩
  ·rename_i hg
   rw[if_neg hg]
   have hg':hasL G k.holder=true:=by simpa using hg
   split at h
   ·rename_i hl
    rw[if_pos hl]
    rcases dropK_toks G l t x h with ⟨y,hy,e⟩ | ⟨⟨y,hy,e⟩,e1,e2⟩
    ·exact .inl ⟨y,List.mem_cons_of_mem _ hy,e⟩
    ·exact .inr ⟨⟨y,List.mem_cons_of_mem _ hy,e⟩,e1,e2⟩
   ·rename_i hl
    rw[if_neg hl]
    rcases List.mem_cons.1 h with rfl | h
    ·refine .inr ⟨⟨k,List.mem_cons_self,rfl,hg'⟩,?_,?_⟩
     ·show t<t+1
      omega
     ·show t+1<=t+((dropK G l (t+1)).2+1)
      omega
    ·rcases dropK_toks G l (t+1) x h with ⟨y,hy,e⟩ | ⟨⟨y,hy,e⟩,e1,e2⟩
     ·exact .inl ⟨y,List.mem_cons_of_mem _ hy,e⟩
     ·exact .inr ⟨⟨y,List.mem_cons_of_mem _ hy,e⟩,by omega,by dsimp only;omega⟩
theorem dropK_rk (G:List Int) (t0:Int): ∀(l:List LockV) (t:Int),Rk l->(∀x∈l,x.token<=t0)->t0<=t->0<=t->t+l.length<2305843009213693952->Rk (dropK G l t).1
 | [],t,_,_,_,_,_=>Rk.nil
 | k::l,t,h,h1,h2,h3,h4=>by
  rw[List.length_cons] at h4
  have hr:Rk l:=h.sub (List.sublist_cons_self _ _)
  have hl1: ∀x∈l,x.token<=t0:=fun x hx=>h1 x (List.mem_cons_of_mem _ hx)
  have ih:=dropK_rk G t0 l t hr hl1 h2 h3 (by omega)
  have ih2:=dropK_rk G t0 l (t+1) hr hl1 (by omega) (by omega) (by omega)
  have hu:=(List.pairwise_cons.1 h.up).1
  have ht:=(List.pairwise_cons.1 h.tok).1
  have hk0:=h1 k List.mem_cons_self
  rw[dropK]
  split
  ·refine⟨fun x hx=>?_,List.pairwise_cons.2 ⟨fun x hx=>?_,ih.up⟩,List.pairwise_cons.2 ⟨fun x hx=>?_,ih.tok⟩⟩
   ·rcases List.mem_cons.1 hx with rfl | hx
    ·exact left_one G (h.one k List.mem_cons_self)
    ·exact ih.one x hx
   ·obtain⟨y,hy,e⟩:=dropK_names G l t x hx
    rw[e];exact hu y hy
   ·rcases dropK_toks G l t x hx with ⟨y,hy,_,e,_⟩ | ⟨_,e,_⟩
    ·rw[e];exact ht y hy
    ·show k.token≠x.token
     omega
  ·split
   ·exact ih
   ·rename_i hl
    refine⟨fun x hx=>?_,List.pairwise_cons.2 ⟨fun x hx=>?_,ih2.up⟩,List.pairwise_cons.2 ⟨fun x hx=>?_,ih2.tok⟩⟩
    ·rcases List.mem_cons.1 hx with rfl | hx
     ·exact pass_one (left_one G (h.one k List.mem_cons_self)) t h3 (by omega) hl
     ·exact ih2.one x hx
    ·obtain⟨y,hy,e⟩:=dropK_names G l (t+1) x hx
     rw[e];exact hu y hy
    ·rcases dropK_toks G l (t+1) x hx with ⟨y,hy,_,e,_⟩ | ⟨_,e,_⟩
     ·rw[e]
      have:=hl1 y hy
      show t+1≠y.token
      omega
     ·show t+1≠x.token
      omega
theorem good_drop {l:List LockV} {t:Int} (h:Good l t) (G:List Int) (ht:t<2305843009213693900):Good (dropK G l t).1 (t+(dropK G l t).2):=by
 have hc:=dropK_count G l t
 refine⟨dropK_rk G t l t h.rk h.tok (Int.le_refl _) h.pos (by have:=h.len;omega),Nat.le_trans (dropK_length G l t) h.len,fun x hx=>?_,by have:=h.pos;omega⟩
 rcases dropK_toks G l t x hx with ⟨y,hy,_,e,_⟩ | ⟨_,_,e⟩
 ·have:=h.tok y hy;omega
 ·exact e
end Cm
end Go.Proofs.YtclcgkpfcogcdaaGreat
