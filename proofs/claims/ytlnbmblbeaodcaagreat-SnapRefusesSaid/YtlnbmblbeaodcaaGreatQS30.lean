/- Texts laid together by program. -/
import Derived.Test.YtlnbmblbeaodcaaGreatQS24
import Derived.Deep.RegionHeld3
import Derived.Lib.QuietBelow
import Derived.BigQuiet
import Derived.ProofKit
import Derived.OpenShut
import Derived.Deep.Strs
import Derived.Deep.Slices
import Derived.Deep.DrawnRows
import Derived.Lib.SmallJoins
/- Contract: padlockref6's drop (states). -/
set_option linter.unusedVariables false
set_option maxRecDepth 8000
set_option linter.unusedSimpArgs false
namespace Go.Proofs.YtlnbmblbeaodcaaGreat
open Lib (hid)
open Go.RowKit
namespace Cm

structure Small (x:StC):Prop where
 s:x.S.length<=1000
 k:x.K.length<=1000
 l: ∀k∈x.K,k.line.length<=1000
 m:x.M.length<=1000
 h: ∀m∈x.M,m.m.rep.held.length<=1000
 n:(vals x.K).Pairwise fun a b=>a.name≠b.name
 t:0<=x.token/\x.token<=2305843009213693952
theorem closeE_len (l:List SesV) (c:Int):(closeE l c).length <=l.length:=by
 unfold closeE
 split
 ·unfold closeS
  split
  ·simp
  ·exact List.length_filter_le _ _
 ·exact Nat.le_refl _
theorem closeAll_len (G:List Int): ∀l:List SesV,(closeAll l G).length <=l.length:=by
 induction G with
 | nil=>intro l;exact Nat.le_refl _
 | cons c G ih=>intro l;exact Nat.le_trans (ih (closeE l c)) (closeE_len l c)
theorem closeAll_succ (l:List SesV) (G:List Int) (k:Nat) (h:k<G.length):closeAll l (G.take (k+1))=closeE (closeAll l (G.take k)) G[k]:=by
 unfold closeAll
 rw[List.take_succ_eq_append_getElem h,List.foldl_append]
 rfl
theorem below_set6 {a w:World} {b:Nat} (h:Below b a w) (g:Nat) (hg:b<=g) (x y z u v s:Value):Below b a ((((((w.setCell ⟨g,0,none⟩ x).setCell ⟨g,1,none⟩ y).setCell ⟨g,2,none⟩ z).setCell ⟨g,3,none⟩ u).setCell ⟨g,4,none⟩ v).setCell ⟨g,5,none⟩ s):=set6m h g hg x y z u v s
theorem FromS.set6 {base:Nat} {w:World} {x y:StC} (h:FromS base w x y) {g:Nat} (hg:g<base) (v0 v1 v2 v3 v4 v5:Value):FromS base ((((((w.setCell ⟨g,0,none⟩ v0).setCell ⟨g,1,none⟩ v1).setCell ⟨g,2,none⟩ v2).setCell ⟨g,3,none⟩ v3).setCell ⟨g,4,none⟩ v4).setCell ⟨g,5,none⟩ v5) x y:=
 (((((h.setBelow hg 0 v0).setBelow hg 1 v1).setBelow hg 2 v2).setBelow hg 3 v3).setBelow hg 4 v4).setBelow hg 5 v5
set_option maxHeartbeats 8000000 in
theorem RefDrop_any (x:StC) (u:Value) (G:List Int) (w:World) (h:RdSt w x) (hG:RdI w u G) (hs:Small x):Calls Tryz.prog 66 #[stVal x,u] w (GetsSt (dropA x.v G) x w):=by
 obtain⟨W1,hW1⟩: ∃W1,W1=w.alloc (.cells #[.int .i64 x.time,.int .i64 x.num,.int .i64 x.token,x.sv,x.kv,x.mv] 26):=⟨_,rfl⟩
 have hb1:Below w.heap.size w W1:=by rw[hW1];exact newAlloc _ _
 have hB1:BoxS W1 w.heap.size x:=by rw[hW1];exact BoxS.new w x _
 have hs1:W1.heap.size=w.heap.size+1:=by rw[hW1];simp
 obtain⟨W2,hW2⟩: ∃W2,W2=W1.alloc (.cells #[.int .i64 0,.int .i64 0,.int .i64 0,.slice none 0 0,.slice none 0 0,.slice none 0 0] 26):=⟨_,rfl⟩
 have hb2:Below W1.heap.size W1 W2:=by rw[hW2];exact newAlloc _ _
 have hZ:BoxS W2 (w.heap.size+1) zeroC10:=by rw[<-hs1,hW2];exact BoxS.new W1 zeroC10 _
 have HX0:=hid (hB1.later hb2)
 have HZ0:=hid hZ
 have HB2:=hid (step hb1 hb2)
 have hs2:W2.heap.size=w.heap.size+2:=by rw[hW2];simp [hs1]
 have HS2:=hid hs2
 have HS1:Hid (W1.heap.size=w.heap.size+1):=hid hs1
 have HRD:Hid (∀W,Below w.heap.size w W->RdSt W x):=hid fun W hb=>h.later hb
 have HGR:Hid (∀W,Below w.heap.size w W->RdI W u G):=hid fun W hb=>hG.later hb
 have hdg:=dropK_count G (vals x.K) x.token
 rw[vals_length] at hdg
 have hk5:=hs.k
 have htk:=hs.t
 have KD:Hid (∀W,Below w.heap.size w W->Calls Tryz.prog 131 #[x.kv,u,.int .i64 x.token] W (GetsD (dropK G (vals x.K) x.token) W)):=hid fun W hb=>DropLocks_any x.kv u x.K G x.token W ((h.later hb).k) hs.k hs.l hs.t (hG.later hb) hs.n
 have HSM:=hid hs
 have HDV:Hid (dropA x.v G=⟨x.time,x.num,x.token+(dropK G (vals x.K) x.token).2,closeAll x.S G,(dropK G (vals x.K) x.token).1,valsM x.M⟩):=hid rfl
 have hm:=hG.len
 obtain⟨ga,gc,rfl⟩:=hG.form
 have HA:=hid (fun i hi=>rdi_at hG i hi)
 clear h hG hs hb1 hb2 hB1 hZ
 generalize dropK G (vals x.K) x.token=d at KD hdg HDV
 obtain⟨dl,dg⟩:=d
 dsimp only at hdg HDV
 obtain⟨N,hN⟩: ∃N,G.length=N:=⟨_,rfl⟩
 have HNN:=hid hN
 rw[hN] at hm KD ⊢
 clear hN
 have HDVV:=HDV
 obtain⟨R,hR⟩: ∃R,dropA x.v G=R:=⟨_,rfl⟩
 rw[hR] at HDV ⊢
 clear hR HDVV
 have e1:IntKind.i64.wrap (x.token+dg)=x.token+dg:=by rw[IntKind.wrap_i64];omega
 obtain⟨nb,hnb⟩: ∃nb,w.heap.size=nb:=⟨_,rfl⟩
 have HNB:=hid hnb
 have hHI:nb+2=W2.heap.size:=by omega
 have HHI:=hid hHI
 have HCL:=hid (closeAll_succ x.S G)
 have HCN:=hid (fun k=>closeAll_len (G.take k) x.S)
 clear hHI hs1 hs2
 unfold stVal
 rw[hnb] at HX0 HZ0 HS1
 clear hnb
 go_enter Tryz.func66,Tryz.ntmps66
 go_upto_region 1 with fail
 rw[<-hW1,<-hW2]
 rw[HNB.out]
 clear hW1 hW2
 obtain⟨c0,c1,c2,c3,c4,c5,cf⟩:=HX0.out
 go_upto_region 2 with (go_at_call 131;refine(KD.out _ HB2.out).mono ?_;rintro e w3 ⟨v3,M3,rfl,hv3,ho3,hb3⟩;have HV3:=hid hv3;have HO3:=hid ho3;have HB3:=hid hb3;obtain⟨a3,p3,rfl⟩:=Rw.own_form ho3.row;clear hv3 ho3 hb3)
 have hX3:=HX0.out.later HB3.out
 have hZ3:=HZ0.out.later HB3.out
 have HX4:=hid ((hX3.set4 M3 a3 p3).set2 (x.token+dg))
 have HZ4:=hid ((hZ3.other (Nat.ne_of_lt (Nat.lt_succ_self nb)) 4 (.slice a3 M3.length p3)).other (Nat.ne_of_lt (Nat.lt_succ_self nb)) 2 (.int .i64 (x.token+dg)))
 have hlt:nb<W2.heap.size:=by have:=HHI.out;omega
 have hf3:FromS W2.heap.size w3 x { x with token:=x.token+dg,K:=M3,ka:=a3,kc:=p3 } :=⟨.inl ⟨rfl,rfl,rfl⟩,.inr HO3.out,.inl ⟨rfl,rfl,rfl⟩⟩
 have HF4:Hid (FromS W2.heap.size ((w3.setCell ⟨nb,4,none⟩ (.slice a3 M3.length p3)).setCell ⟨nb,2,none⟩ (.int .i64 (x.token+dg))) x { x with token:=x.token+dg,K:=M3,ka:=a3,kc:=p3 }):=hid ((hf3.setBelow hlt 4 _).setBelow hlt 2 _)
 have HB4:Hid (Below w.heap.size w ((w3.setCell ⟨nb,4,none⟩ (.slice a3 M3.length p3)).setCell ⟨nb,2,none⟩ (.int .i64 (x.token+dg)))):=hid (((step HB2.out HB3.out).setCell (Nat.le_of_eq HNB.out) _).setCell (Nat.le_of_eq HNB.out) _)
 have hs4:W2.heap.size<=((w3.setCell ⟨nb,4,none⟩ (.slice a3 M3.length p3)).setCell ⟨nb,2,none⟩ (.int .i64 (x.token+dg))).heap.size :=by simpa using HB3.out.size
 obtain⟨y0,hy0⟩: ∃y0:StC,y0= { x with token:=x.token+dg,K:=M3,ka:=a3,kc:=p3 } :=⟨_,rfl⟩
 have HYV:Hid (y0.v=⟨x.time,x.num,x.token+dg,x.S,dl,valsM x.M⟩):=hid (by rw[hy0];show(⟨_,_,_,_,vals M3,_⟩:StV)= _;rw[HV3.out])
 rw[<-hy0] at HX4 HF4
 clear hy0
 obtain⟨d0,d1,d2,d3,d4,d5,df⟩:=hX3
 clear c0 c1 c2 c3 c4 c5 cf hZ3
 go_upto_region 4 with fail
 obtain⟨W4,hW4⟩: ∃W4,W4=(w3.setCell ⟨nb,4,none⟩ (.slice a3 M3.length p3)).setCell ⟨nb,2,none⟩ (.int .i64 (x.token+dg)):=⟨_,rfl⟩
 rw[<-hW4] at HX4 HZ4 HF4 HB4 hs4 ⊢
 clear hW4 d0 d1 d2 d3 d4 d5 df
 clear KD HX0 HZ0 hf3 HO3 HB3 hk5 htk hdg
 go_wp2
 go_loopw [7] (fun i wr=> ∃(k:Nat) (y:StC),k<=N/\i= .int .i64 k/\W2.heap.size<=wr.heap.size/\Hid (y.v=⟨x.time,x.num,x.token+dg,closeAll x.S (G.take k),dl,valsM x.M⟩)/\Hid (BoxS wr nb y)/\Hid (BoxS wr (nb+1) zeroC10)/\Hid (FromS W2.heap.size wr x y)/\Hid (Below w.heap.size w wr)) (fun i _=>N - (intOf i).toNat)
 case atStart=>exact⟨0,y0,by omega,rfl,hs4,HYV,HX4,HZ4,HF4,HB4⟩
 case round=>
  obtain⟨k,y,hk,rfl,hsz,HV,HX,HZ,HF,HB⟩:=hrel
  obtain⟨c0,c1,c2,c3,c4,c5,cf⟩:=HX.out
  by_cases hkN:k<N
  ·have hkG:k<G.length:=by rw[HNN.out];exact hkN
   obtain⟨b,o,rfl,hc⟩:=HA.out k hkG
   have q0:=hc _ HB.out
   have hcl:=HCL.out k hkG
   have hys:y.S=closeAll x.S (G.take k):=by have:=congrArg StV.ses HV.out;exact this
   have hlen:y.S.length<=1000:=by rw[hys];exact Nat.le_trans (HCN.out k) HSM.out.s
   rw[<-hys] at hcl
   unfold closeE at hcl
   have KC:=fun W (hb:Below wr.heap.size wr W)=>Close_any y.sv y.S G[k] W ((HF.out.later hb).rd (HRD.out W (step HB.out hb))).s hlen
   have HCC:Hid (∀W,Below wr.heap.size wr W->W.cell? ⟨b,o+k,none⟩=some (.int .i64 G[k])):=hid fun W hb=>hc W (step HB.out hb)
   generalize G[k]=gk at q0 hcl KC HCC
   generalize closeS y.S gk=r at hcl KC
   obtain⟨rl,rc⟩:=r
   dsimp only at hcl
   have KC:=hid KC
   have HCLL:=hid hcl
   have HYS:=hid hys
   clear hcl hys hc hlen HA HCL hkG
   have f1:(0:Int)<=(k:Int):=by omega
   have f2:(k:Int)<(N:Int):=by omega
   go_upto_region 7 with fail
   go_region_held3 (fun W=>W.cell? ⟨nb,3,none⟩=some y.sv/\W.cell? ⟨b,o+k,none⟩=some (.int .i64 gk)) (first | exact⟨c3,q0⟩ | exact⟨(HX.out.later (Below.refl _ wr).drew).c3,HCC.out _ (Below.refl _ wr).drew⟩ | exact⟨(HX.out.later HB5.out).c3,HCC.out _ HB5.out⟩ | go_keep) (first | (go_at_call 132;refine(KC.out _ (Below.refl _ wr).drew).mono ?_;rintro e w5 ⟨v5,rfl,ho5,hb5⟩;dsimp only at ho5;obtain⟨a5,p5,rfl⟩:=Rw.own_form ho5;have HO5:=hid ho5;have HB5:Hid (Below wr.heap.size wr w5):=hid (step (Below.refl wr.heap.size wr).drew hb5);clear ho5 hb5))
   have hX5:=HX.out.later HB5.out
   have HX5:=hid hX5
   have HZ5:=hid (HZ.out.later HB5.out)
   have HF5:=hid (HF.out.later HB5.out)
   have HB05:=hid (step HB.out HB5.out)
   have hsz5:W2.heap.size<=w5.heap.size:=Nat.le_trans hsz HB5.out.size
   obtain⟨d0,d1,d2,d3,d4,d5,df⟩:=hX5
   clear c0 c1 c2 c3 c4 c5 cf q0 KC HCC
   by_cases hr:rc=0
   ·have g1:(rc==0)=true:=by simpa using hr
    have HO6:=hid (own_lowerX HO5.out hsz)
    have hX6:=HX5.out.set3 rl a5 p5
    have hZ6:=HZ5.out.other (Nat.ne_of_lt (Nat.lt_succ_self nb)) 3 (.slice a5 rl.length p5)
    have hf6:FromS W2.heap.size w5 x { y with S:=rl,sa:=a5,sc:=p5 } :=⟨.inr HO6.out,HF5.out.k,HF5.out.m⟩
    have HX6:=hid hX6
    have HZ6:=hid hZ6
    have HF6:=hid (hf6.setBelow hlt 3 (.slice a5 rl.length p5))
    have HB6:Hid (Below w.heap.size w (w5.setCell ⟨nb,3,none⟩ (.slice a5 rl.length p5))):=hid (HB05.out.setCell (Nat.le_of_eq HNB.out) _)
    have hcl:=HCLL.out
    rw[if_pos hr] at hcl
    have HV6:Hid (({ y with S:=rl,sa:=a5,sc:=p5 } :StC).v =⟨x.time,x.num,x.token+dg,closeAll x.S (G.take (k+1)),dl,valsM x.M⟩):=hid (by
     have hv:=HV.out
     rw[hcl]
     unfold StC.v at hv ⊢
     injection hv with v1 v2 v3 v4 v5 v6
     dsimp only
     rw[v1,v2,v3,v5,v6])
    have hsz6:W2.heap.size<=(w5.setCell ⟨nb,3,none⟩ (.slice a5 rl.length p5)).heap.size :=by simpa using hsz5
    clear hr hX6 hZ6 hf6 hcl
    go_wp2
    go_roundw
    case rel=>exact⟨k+1,_,by omega,by go_num,hsz6,HV6,HX6,HZ6,HF6,HB6⟩
    case measure=>simp [intOf];omega
   ·have g1:(rc==0)=false:=by simpa using hr
    have hcl:=HCLL.out
    rw[if_neg hr] at hcl
    have HV6:Hid (y.v=⟨x.time,x.num,x.token+dg,closeAll x.S (G.take (k+1)),dl,valsM x.M⟩):=hid (by rw[hcl,HYS.out];exact HV.out)
    clear hr hcl
    go_wp2
    go_roundw
    case rel=>exact⟨k+1,y,by omega,by go_num,hsz5,HV6,HX5,HZ5,HF5,HB05⟩
    case measure=>simp [intOf];omega
  ·obtain rfl:k=N:=by omega
   obtain⟨z0,z1,z2,z3,z4,z5,zf⟩:=HZ.out
   simp only[zeroC10,StC.sv,StC.kv,StC.mv,List.length_nil] at z0 z1 z2 z3 z4 z5
   have HE:=hid ((HF.out.set6 (show nb+1<W2.heap.size by have:=HHI.out;omega) (.int .i64 y.time) (.int .i64 y.num) (.int .i64 y.token) y.sv y.kv y.mv).lower HB2.out.size)
   have HBE:=hid (below_set6 HB.out (nb+1) (by have:=HNB.out;omega) (.int .i64 y.time) (.int .i64 y.num) (.int .i64 y.token) y.sv y.kv y.mv)
   have HVE:Hid (y.v=R):=hid (by
    have hv:=HV.out
    rw[<-HNN.out,List.take_length] at hv
    rw[hv,HDV.out])
   obtain⟨yt,yn,yk,yS,ya,yc,yK,yka,ykc,yM,yma,ymc⟩:=y
   simp only[StC.sv,StC.kv,StC.mv] at c0 c1 c2 c3 c4 c5 HE HBE
   clear HA HCL HX HZ HF HV
   go_wp2
   refine bodyPost_ret (by simp [results,Tryz.results66,go_sem,z0,z1,z2,z3,z4,z5,zf]<;>rfl) rfl ?_
   exact⟨_,rfl,HVE.out,HE.out,HBE.out⟩
end Cm
end Go.Proofs.YtlnbmblbeaodcaaGreat

/- Contracts of the statements' own helpers of layer 4: awake, Named, Cmd, Req. -/
set_option linter.unusedVariables false
set_option maxRecDepth 8000
set_option linter.unusedSimpArgs false
namespace Go.Proofs.YtlnbmblbeaodcaaGreat
open Lib (hid)
open Go.RowKit
namespace Cm


def namedF:Nat->List UInt8
 | 0=> [97]
 | 1=> [98]
 | 2=> [99]
 | 3=> [100]
 | 4=> [107,101,121,45,49]
 | _=> [116,104,101,45,108,97,115,116,45,111,110,101]
theorem Named_any (n:Nat) (w:World) (h:n<256):Calls Tryz.prog 192 #[.int .u8 (n:Int)] w fun e w'=>e= .returned (.string (bstr (namedF (n % 6))))/\Below w.heap.size w w':=by
 have hm:n % 6<6:=Nat.mod_lt _ (by omega)
 have hc:((n:Int) % 6)=((n % 6:Nat):Int):=by simp
 generalize n % 6=r at hm hc ⊢
 match r,hm with
 | 0,_ | 1,_ | 2,_ | 3,_ | 4,_ | 5,_=>
  simp at hc
  go_enter Tryz.func192,Tryz.ntmps192
  go_wp2
  go_ret
  exact⟨rfl,newAlloc _ _⟩
theorem boxAB {w w':World} {A B:Array Value} {t u:TypeId} (h:Below ((w.alloc (.cells A t)).alloc (.cells B u)).heap.size ((w.alloc (.cells A t)).alloc (.cells B u)) w'):
  (∀k,w'.cell? ⟨w.heap.size,k,none⟩=A[k]?)/\(∀k,w'.cell? ⟨w.heap.size+1,k,none⟩=B[k]?)/\(∀k,w'.frozen? ⟨w.heap.size,k,none⟩=false)/\(∀k,w'.frozen? ⟨w.heap.size+1,k,none⟩=false):=by
 have h0:w.heap.size<((w.alloc (.cells A t)).alloc (.cells B u)).heap.size :=by simp;omega
 have h1:w.heap.size+1<((w.alloc (.cells A t)).alloc (.cells B u)).heap.size :=by simp
 refine⟨fun k=>?_,fun k=>?_,fun k=>?_,fun k=>?_⟩
 ·rw[h.cell (p:=⟨w.heap.size,k,none⟩) h0];simp [go_sem]
 ·rw[h.cell (p:=⟨w.heap.size+1,k,none⟩) h1];simp [go_sem]
 ·rw[h.frozen (p:=⟨w.heap.size,k,none⟩) h0];simp [go_sem]
 ·rw[h.frozen (p:=⟨w.heap.size+1,k,none⟩) h1];simp [go_sem]
def cmdOf (k s n:Nat):CmdV:=⟨1+((k % 6:Nat):Int),if k % 6=0 then 0 else 1+((s:Int) % 7),if k % 6=2\/k % 6=3\/k % 6=4 then namedF (n % 6) else []⟩
set_option maxHeartbeats 4000000 in
theorem Cmd_any (k s n:Nat) (w:World) (hk:k<256) (hs:s<256) (hn:n<256):Calls Tryz.prog 148 #[.int .u8 (k:Int),.int .u8 (s:Int),.int .u8 (n:Int)] w fun e w'=>e= .returned (cmdVal (cmdOf k s n))/\Below w.heap.size w w':=by
 have hm:k % 6<6:=Nat.mod_lt _ (by omega)
 have hc:((k:Int) % 6)=((k % 6:Nat):Int):=by simp
 have CN:=hid (fun w=>Named_any n w hn)
 unfold cmdOf cmdVal
 generalize k % 6=r at hm hc ⊢
 generalize namedF (n % 6)=nm at CN ⊢
 match r,hm with
 | 0,_ | 1,_ | 2,_ | 3,_ | 4,_ | 5,_=>
  simp at hc
  dsimp only
  go_enter Tryz.func148,Tryz.ntmps148
  go_wp2_with (go_at_call 192;refine(CN.out _).mono ?_;rintro e w1 ⟨rfl,hb1⟩;obtain⟨c0,c1,f0,f1⟩:=boxAB hb1)
  first
   | (refine bodyPost_ret (by simp [results,Tryz.results148,go_sem];rfl) rfl ⟨by simp [bstr],stepAlloc (newAlloc _ _) _⟩)
   | (refine bodyPost_ret (by simp [results,Tryz.results148,go_sem,c0,c1,f0,f1];rfl) rfl ⟨by simp,set3 ((step (stepAlloc (newAlloc _ _) _) hb1).setCell (by simp) _) _ _ _⟩)
def reqOf (c q k s n:Nat):ReqV:=⟨((c % 8:Nat):Int),1+(q:Int),cmdOf k s n⟩
theorem Req_any (c q k s n:Nat) (w:World) (hc:c<256) (hq:q<256) (hk:k<256) (hs:s<256) (hn:n<256):Calls Tryz.prog 87 #[.int .u8 (c:Int),.int .u8 (q:Int),.int .u8 (k:Int),.int .u8 (s:Int),.int .u8 (n:Int)] w fun e w'=>e= .returned (reqVal (reqOf c q k s n))/\Below w.heap.size w w':=by
 have CN:=hid (fun w=>Cmd_any k s n w hk hs hn)
 have hc8:((c:Int) % 8)=((c % 8:Nat):Int):=by simp
 unfold reqVal reqOf
 unfold cmdVal at CN
 generalize cmdOf k s n=x at CN ⊢
 obtain⟨ck,cs,cn⟩:=x
 dsimp only at CN ⊢
 generalize c % 8=r at hc8 ⊢
 go_enter Tryz.func87,Tryz.ntmps87
 go_wp2_with (go_at_call 148;refine(CN.out _).mono ?_;rintro e w1 ⟨rfl,hb1⟩;obtain⟨c0,c1,c2,c3,c4⟩:=box5 hb1;have f0:=free5 hb1)
 refine bodyPost_ret (by simp [results,Tryz.results87,go_sem,c0,c1,c2,c3,c4,f0]) rfl ⟨rfl,set5 (step (newAlloc _ _) hb1) _ _ _ _ _⟩
end Cm
end Go.Proofs.YtlnbmblbeaodcaaGreat

/- Arguments that are slices of sessions, of acts, opened. -/
set_option linter.unusedVariables false
set_option maxRecDepth 8000
set_option linter.unusedSimpArgs false
namespace Go.Proofs.YtlnbmblbeaodcaaGreat
open Lib (hid)
open Go.RowKit Go.ChangeShapes Go.WideShapes Go.Deep
namespace Cm

theorem list_ofX {α:Type} {P:Nat->α->Prop} : ∀n,(∀i,i<n-> ∃g,P i g)-> ∃l:List α,l.length=n/\ ∀i (h:i<l.length),P i l[i]
 | 0,_=>⟨[],rfl,fun i h=>absurd h (Nat.not_lt_zero _)⟩
 | n+1,h=>by
  obtain⟨l,hl,hp⟩:=list_ofX n (fun i hi=>h i (by omega))
  obtain⟨g,hg⟩:=h n (by omega)
  refine⟨l++ [g],by simp [hl],fun i hi=>?_⟩
  rw[List.length_append,List.length_singleton,hl] at hi
  by_cases q:i<n
  ·rw[List.getElem_append_left (by omega)]
   exact hp i (by omega)
  ·obtain rfl:i=n:=by omega
   rw[List.getElem_append_right (by omega)]
   simpa [hl] using hg
section
variable {H : Type} {enc : TypeId × Value → H} {W : World}

theorem slice_of {α:Type} {sz:Nat} {f:α->List Value} {t e:TypeId} (hu:Tryz.prog.underlying t=some (.slice e)) (hce:Tryz.prog.cellsOf e=sz) (hsz:0<sz) (hf: ∀x,(f x).length =sz)
  (hel: ∀fuel cs x,DataW.trod enc Tryz.prog W 0 (fun _=>true) true fuel e cs=some x-> ∃y:α,cs=f y)
  {fuel:Nat} {cs:List Value} {x:DataW H × List MemPlace} (h:DataW.trod enc Tryz.prog W 0 (fun _=>true) true fuel t cs=some x): ∃v l,cs= [v]/\RdX sz f W v l:=by
 rcases open_slice hu h with ⟨h0,_⟩ | ⟨ad,len,cap,m,n,D,Pl,h0,_,hl,hm,hmm,_,hi⟩
 ·exact⟨_,[],h0,RdX.nil W⟩
 ·have hm':m=cap:=by rw[hmm];rfl
  subst hm'
  clear hmm
  have key: ∀i,i<len-> ∃g:α,∀k u,(f g)[k]?=some u->W.cell? (ad.add (i*sz+k))=some u:=by
   intro i hil
   obtain⟨cs',hc,ht⟩:=hi i (by omega)
   rw[hce] at hc
   obtain⟨y,rfl⟩:=hel _ _ _ ht
   obtain⟨_,hcl,hat⟩:=World.cells?_some hc
   refine⟨y,fun k u hk=>?_⟩
   have hks:k<(f y).length :=(List.getElem?_eq_some_iff.1 hk).1
   have a0:=hat k (by rw[hf] at hks;exact hks)
   rw[Go.Deep.add_add] at a0
   rw[<-hk,<-a0]
  obtain⟨l,hll,hp⟩:=list_ofX len key
  refine⟨_,l,h0,some ad,m,by rw[hll],by omega,hm,(fun q=>by cases q),fun x hx hne=>?_⟩
  cases hx
  obtain⟨b,o,spot⟩:=ad
  have hpos:0<l.length:=List.length_pos_iff.2 hne
  have h0l:0<(f l[0]).length :=by rw[hf];exact hsz
  have hc:=hp 0 hpos 0 _ (List.getElem?_eq_getElem h0l)
  have hspot:spot=none:=by simpa [Addr.add] using World.cell?_spot hc
  subst hspot
  refine⟨rfl,fun i hil k u hu=>?_⟩
  have hadd: ∀j,(⟨b,o,none⟩:Addr).add j=⟨b,o+j,none⟩:=fun j=>by unfold Addr.add;split<;>simp_all
  have:=hp i hil k u hu
  rw[hadd] at this
  exact this
end
end Cm
end Go.Proofs.YtlnbmblbeaodcaaGreat

/- Arguments that are slices of numbers, of a line's acts, opened. A slice laid as it stands. -/
set_option linter.unusedVariables false
set_option maxRecDepth 8000
set_option linter.unusedSimpArgs false
namespace Go.Proofs.YtlnbmblbeaodcaaGreat
open Lib (hid)
open Go.RowKit Go.ChangeShapes Go.WideShapes Go.Deep
namespace Cm

theorem RdX.block {α:Type} {sz:Nat} {f:α->List Value} (hf: ∀x,(f x).length =sz) {w:World} {b:Nat} {cs:Array Value} {t:TypeId} {l:List α} (h:w.heap[b]?=some (.cells cs t)) (hcs:cs.toList=flatX f l) (hm:l.length<=maxLen):RdX sz f w (.slice (some ⟨b,0,none⟩) l.length l.length) l:=by
 refine⟨some ⟨b,0,none⟩,l.length,rfl,Nat.le_refl _,hm,(fun q=>by cases q),fun x hx hp=>?_⟩
 cases hx
 refine⟨rfl,fun i hi k u hu=>?_⟩
 have hk:k<sz:=by
  have:=(List.getElem?_eq_some_iff.1 hu).1
  rw[hf] at this
  exact this
 rw[<-flatX_get hf l i hi k hk,<-hcs] at hu
 simp only[Nat.zero_add]
 simpa [World.cell?,h] using hu
section
variable {H : Type} {enc : TypeId × Value → H} {W : World}

end
end Cm
end Go.Proofs.YtlnbmblbeaodcaaGreat

/- Arguments that are slices of locks, of acts on locks, opened. -/
set_option linter.unusedVariables false
set_option maxRecDepth 8000
set_option linter.unusedSimpArgs false
namespace Go.Proofs.YtlnbmblbeaodcaaGreat
open Lib (hid)
open Go.RowKit Go.ChangeShapes Go.WideShapes Go.Deep
namespace Cm

theorem RdX.map {α β:Type} {sz:Nat} {f:β->List Value} (g:α->β) {w:World} {v:Value} {l:List α} (h:RdX sz (fun x=>f (g x)) w v l):RdX sz f w v (l.map g):=by
 obtain⟨a,cap,hv,h1,h2,h3,h4⟩:=h.ex
 refine⟨a,cap,by rw[List.length_map];exact hv,by rw[List.length_map];exact h1,h2,fun q=>by obtain⟨q1,q2⟩:=h3 q;subst q1;exact⟨rfl,q2⟩,fun x hx hp=>?_⟩
 obtain⟨hs,hc⟩:=h4 x hx (fun q=>hp (by rw[q];rfl))
 refine⟨hs,fun i hi k u hu=>?_⟩
 rw[List.length_map] at hi
 rw[List.getElem_map] at hu
 exact hc i hi k u hu
section
variable {H : Type} {enc : TypeId × Value → H} {W : World}

end
end Cm
end Go.Proofs.YtlnbmblbeaodcaaGreat
