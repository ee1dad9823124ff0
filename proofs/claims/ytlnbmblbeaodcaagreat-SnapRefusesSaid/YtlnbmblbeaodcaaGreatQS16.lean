/- Texts laid together by program. -/
import Derived.Test.YtlnbmblbeaodcaaGreatQS15
import Derived.Deep.RegionHeld3
/- Contracts: padlockref6's FreeLock. -/
set_option linter.unusedVariables false
set_option maxRecDepth 8000
set_option linter.unusedSimpArgs false
namespace Go.Proofs.YtlnbmblbeaodcaaGreat
open Lib (hid)
open Go.RowKit
namespace Cm

section
variable {α : Type} {sz : Nat} {f : α → List Value}
theorem step_append_rdx (hf: ∀x,(f x).length =sz) (hsz:0<sz) (h1: ∀x:α,∀u∈f x,u.oneCell'=true) {P:Program} {w:World} {ops:Array Oper} {o:Oper} {a:Act} {K:Act->World->Prop} {Q:Exit->Act->World->Prop} {E:Prop} (hgd:o.guard=none) (s x:Operand) (t:TypeId)
  (ho:o.op= .call { callee:=.builtin .append,args:=#[s,x],argTypes:=#[t,t] })
  (base:Nat) (e:TypeId) (i:TypeInfo) (z:Value) (bytes:Nat) (ht:P.underlying t=some (.slice e)) (hi:P.info? e=some i) (hz:i.zero=some z) (hsize:i.size=sz) (hby:i.bytes=bytes) (hzs:z.cells.size=sz)
  (v:Value) (n:Nat) (xs:List Value) (hs:a.eval s=v) (hown:w.ownsRow base e sz v n xs) (y:Value) (l:List α) (hx:a.eval x=y) (hr:RdX sz f w y l)
  (h63:n+l.length<=maxLen) (hlen:(n+l.length)*bytes<=140737488355328) (hbase:base<=w.heap.size)
  (h: ∀v' w',w'.ownsRow base e sz v' (n+l.length) (xs++flatX f l)->w.grownBy w' v.ownBlock->K (a.put o.dst v') w'):
  if Region.wanted o (yielded ops a.tmps)=true then Oper.wp P o a w K Q else E:=by
 have hw:Region.wanted o (yielded ops a.tmps)=true:=by simp [Region.wanted,hgd]
 rw[if_pos hw]
 obtain⟨ao,cap,rfl,hc,hm,hn,hcells⟩:=hr.ex
 match ao,hn,hcells,hx,hr with
 | none,hn,_,hx,_=>
  obtain⟨rfl,rfl⟩:=hn rfl
  have hrun:=run_append_owned_none (P:=P) (w:=w) base t o.type e i sz ht hi v n xs hown
  unfold Oper.wp
  simp only[List.length_nil] at hx
  simp [execOp,ho,resolve,invoke,builtin,hs,hx,hrun,Result.andThen]
  exact h v w (by simpa [flatX] using hown) (World.grownBy.refl _ _)
 | some ad,_,hcells,hx,hr=>
  refine wp_append_own w s x t ho base e i z sz bytes ht hi hz hsize hby hzs hsz v n xs hs hown ad l.length cap (flatX f l) hx (by rw[flatX_length hf]) ?_ (flatX_one h1 l) h63 hlen hbase (fun v' w' h1 h2 _=>h v' w' h1 h2)
  intro j u hj
  have hl:l≠ []:=by
   intro q
   subst q
   simp [flatX] at hj
  obtain⟨hs',_⟩:=hcells ad rfl hl
  obtain⟨b,off,spot⟩:=ad
  simp only at hs'
  subst hs'
  exact hr.news hf hsz j u hj
end

theorem below_any {w w':World} (h:Below w.heap.size w w') (row:Option Nat):w.grownBy w' row:=⟨h.os,h.tape,h.output,h.size,fun k hk _=>h.block k hk⟩
theorem pass_row {base:Nat} {w:World} {g N c:Nat} {M:List LockC} (h:w.ownsRow base 71 4 (.slice (some ⟨g,0,none⟩) N c) N (flatX cellsK M)) (hM:M.length=N) (k:Nat) (hk:k<M.length):
  ∃u2 u3,w.cell? ⟨g,k*4+2,none⟩=some u2/\w.cell? ⟨g,k*4+3,none⟩=some u3/\w.frozen? ⟨g,k*4+2,none⟩=false/\w.frozen? ⟨g,k*4+3,none⟩=false:=by
 obtain⟨-, -,p2,p3,pf⟩:=ownK_at h hM k hk
 exact⟨_,_,p2,p3,pf _,pf _⟩
theorem pass_done {w w2 w3:World} {g N c1:Nat} {M L:List LockC} {xn:List UInt8} {xh xt d t1:Int} {xl r:List Int} {ya za:Option Addr} {yc zc:Nat} (ho:OwnD w.heap.size w2 (.slice (some ⟨g,0,none⟩) N c1) M) (hM:M.length=N) (hV:vals M=vals L) (k:Nat)
  (hMk: ∃hk:k<M.length,M[k]=⟨xn,xh,xt,xl,ya,yc⟩) (hb:Below w.heap.size w w2) (h23:Below (w2.setCell ⟨g,k*4+1,none⟩ (.int .i64 d)).heap.size (w2.setCell ⟨g,k*4+1,none⟩ (.int .i64 d)) w3)
  (hz:w3.ownsRow (w2.setCell ⟨g,k*4+1,none⟩ (.int .i64 d)).heap.size 3 1 (.slice za r.length zc) r.length (flatX cellsI r)):
  (∃u2 u3,w3.cell? ⟨g,k*4+2,none⟩=some u2/\w3.cell? ⟨g,k*4+3,none⟩=some u3/\w3.frozen? ⟨g,k*4+2,none⟩=false/\w3.frozen? ⟨g,k*4+3,none⟩=false)/\
   ∀p q:Int,GetsT ((vals L).set k ⟨xn,d,t1,r⟩,p,q) w (.returned (.tuple #[.slice (some ⟨g,0,none⟩) N c1,.int .i64 p,.int .i64 q])) ((w3.setCell ⟨g,k*4+3,none⟩ (.slice za r.length zc)).setCell ⟨g,k*4+2,none⟩ (.int .i64 t1)):=by
 obtain⟨hk,hMk⟩:=hMk
 have hr:=ho.row
 rw[hM] at hr
 have hs:(w2.setCell ⟨g,k*4+1,none⟩ (.int .i64 d)).heap.size =w2.heap.size:=by simp
 have hr2:=ownK_cell hr k hk 1 (by omega) (.int .i64 d) ⟨xn,d,xt,xl,ya,yc⟩ (by rw[hMk];rfl)
 have hr3:=Rw.own_below hr2 h23
 have k2:k<(M.set k ⟨xn,d,xt,xl,ya,yc⟩).length :=by rw[List.length_set];exact hk
 have hr4:=ownK_cell hr3 k k2 3 (by omega) (.slice za r.length zc) ⟨xn,d,xt,r,za,zc⟩ (by rw[List.getElem_set_self];rfl)
 rw[List.set_set] at hr4
 have k3:k<(M.set k ⟨xn,d,xt,r,za,zc⟩).length :=by rw[List.length_set];exact hk
 have hr5:=ownK_cell hr4 k k3 2 (by omega) (.int .i64 t1) ⟨xn,d,t1,r,za,zc⟩ (by rw[List.getElem_set_self];rfl)
 rw[List.set_set] at hr5
 have hz3:=own_lowerX hz (by rw[hs];exact hb.size:w.heap.size<=_)
 have hz4:=own_set_other hr3 hz3 (by decide) (k*4+3) (.slice za r.length zc)
 have hz5:=own_set_other hr4 hz4 (by decide) (k*4+2) (.int .i64 t1)
 obtain⟨hd1,hd2⟩:=room_done hr ho.line hb (grown_set (grown_set ((grown_set (World.grownBy.refl w2 (some g)) (k*4+1) (.int .i64 d)).trans (below_any h23 _)) (k*4+3) (.slice za r.length zc)) (k*4+2) (.int .i64 t1)) hr5 (by rw[List.length_set];exact hM) (fun x hx=>by
  rcases List.mem_or_eq_of_mem_set hx with q | q
  ·exact .inl q
  ·subst q
   exact .inr (NewI.own hz5))
 refine⟨pass_row hr3 (by rw[List.length_set];exact hM) k k2,fun p q=>⟨_,_,rfl,?_,hd1,hd2⟩⟩
 rw[vals_set,hV]
 rfl
section
variable (v : Value) (L : List LockC) (n : List UInt8) (c t : Int) (w : World)

set_option maxHeartbeats 4000000 in
theorem Free_none (h:RdK w v L) (h5:L.length<=1000) (h6: ∀x∈L,x.line.length<=1000) (hi:idxI (isNm n) (vals L)= -1):
  Calls Tryz.prog 127 #[v,.string (bstr n),.int .i64 c,.int .i64 t] w (GetsT ([],0,6) w):=by
 obtain⟨N,hN⟩: ∃N,L.length=N:=⟨_,rfl⟩
 have CC:=hid (Copy_at v L w N hN h h5 h6)
 have HI:=hid hi
 clear h h5 h6 hi hN
 go_enter Tryz.func127,Tryz.ntmps127
 go_wp2_with (first
  | (go_at_call 36;refine CC.out.mono ?_;rintro e w1 ⟨a1,c1,M,rfl,hM,hv,ho,hb⟩;have HF:=hid (Find_at a1 N c1 M n w1 (-1) (by rw[hv];exact HI.out) ho.rd.row);have HB:=hid hb;clear ho hb hv)
  | (go_at_call 170;refine HF.out.mono ?_;rintro e w2 ⟨rfl,rfl⟩))
 refine bodyPost_ret (by simp [results,Tryz.results127,go_sem]<;>rfl) rfl ?_
 exact GetsT.empty rfl HB.out
set_option maxHeartbeats 4000000 in
theorem Free_other (k:Nat) (hk:k<L.length) (h:RdK w v L) (h5:L.length<=1000) (h6: ∀x∈L,x.line.length<=1000) (hi:idxI (isNm n) (vals L)=(k:Int)) (hc:L[k].holder ≠c) (p:Int) (ha:aheadL L[k].line c=(p,false)):
  Calls Tryz.prog 127 #[v,.string (bstr n),.int .i64 c,.int .i64 t] w (GetsT ([],0,6) w):=by
 obtain⟨N,hN⟩: ∃N,L.length=N:=⟨_,rfl⟩
 have CC:=hid (Copy_at v L w N hN h h5 h6)
 have HI:=hid hi
 have hm:=h.len
 have hxl:=h6 _ (List.getElem_mem hk)
 have HK:=hid (fun(a:Option Addr) (c:Nat) (M:List LockC) (w':World) (ho:OwnD w.heap.size w' (.slice a N c) M) (hM:M.length=N) (hv:vals M=vals L)=>own_k ho hM hv k hk)
 have cc:(L[k].holder != c)=true:=by simpa using hc
 clear hc
 have HA:=hid ha
 clear ha
 rw[hN] at hm hk
 clear h h5 h6 hi hN
 generalize L[k]=x at*
 obtain⟨xn,xh,xt,xl,xa,xc⟩:=x
 dsimp only at*
 obtain⟨i0,hi,hz0,hz1,hz2⟩:=info_parts infoN
 go_enter Tryz.func127,Tryz.ntmps127
 have f1:(0:Int)<=(k:Int):=by omega
 have f2:(k:Int)<(N:Int):=by omega
 go_wp2_with (first
  | (go_at_call 36;refine CC.out.mono ?_;rintro e w1 ⟨a1,c1,M,rfl,hM,hv,ho,hb⟩;have HF:=hid (Find_at a1 N c1 M n w1 k (by rw[hv];exact HI.out) ho.rd.row);obtain⟨g,ya,yc,rfl,hg,hMk,q0,q1,q2,q3,qf,hly⟩:=HK.out _ _ _ _ ho hM hv;have HO:=hid ho;have HMk:=hid hMk;have HLY:=hid hly;have HB:=hid hb;have HV:=hid hv;have q3':=fun o=>((newAlloc w1 o).cell (p:=⟨g,k*4+3,none⟩) (lt_of_cell q3)).trans q3;clear ho hb hv hly hMk)
  | (go_at_call 170;refine HF.out.mono ?_;rintro e w2 ⟨rfl,rfl⟩)
  | (go_at_call 171;refine(Ahead_any _ xl c _ (RdX.own cellsI_length HLY.out)).mono ?_;rw[HA.out];rintro e w2 ⟨rfl,rfl⟩))
 refine bodyPost_ret (by simp [results,Tryz.results127,go_sem]<;>rfl) rfl ?_
 exact GetsT.empty rfl HB.out
set_option maxHeartbeats 4000000 in
theorem Free_leave (k:Nat) (hk:k<L.length) (h:RdK w v L) (h5:L.length<=1000) (h6: ∀x∈L,x.line.length<=1000) (hi:idxI (isNm n) (vals L)=(k:Int)) (hc:L[k].holder ≠c) (p:Int) (ha:aheadL L[k].line c=(p,true)):
  Calls Tryz.prog 127 #[v,.string (bstr n),.int .i64 c,.int .i64 t] w (GetsT ((vals L).set k ⟨L[k].name,L[k].holder,L[k].token,withoutL L[k].line [c]⟩,0,0) w):=by
 obtain⟨N,hN⟩: ∃N,L.length=N:=⟨_,rfl⟩
 have CC:=hid (Copy_at v L w N hN h h5 h6)
 have HI:=hid hi
 have hm:=h.len
 have hxl:=h6 _ (List.getElem_mem hk)
 have HK:=hid (fun(a:Option Addr) (c:Nat) (M:List LockC) (w':World) (ho:OwnD w.heap.size w' (.slice a N c) M) (hM:M.length=N) (hv:vals M=vals L)=>own_k ho hM hv k hk)
 have cc:(L[k].holder != c)=true:=by simpa using hc
 clear hc
 have HA:=hid ha
 clear ha
 rw[hN] at hm hk
 clear h h5 h6 hi hN
 generalize L[k]=x at*
 obtain⟨xn,xh,xt,xl,xa,xc⟩:=x
 dsimp only at*
 obtain⟨i0,hi,hz0,hz1,hz2⟩:=info_parts infoN
 go_enter Tryz.func127,Tryz.ntmps127
 have f1:(0:Int)<=(k:Int):=by omega
 have f2:(k:Int)<(N:Int):=by omega
 go_wp2_with (first
  | (go_at_call 36;refine CC.out.mono ?_;rintro e w1 ⟨a1,c1,M,rfl,hM,hv,ho,hb⟩;have HF:=hid (Find_at a1 N c1 M n w1 k (by rw[hv];exact HI.out) ho.rd.row);obtain⟨g,ya,yc,rfl,hg,hMk,q0,q1,q2,q3,qf,hly⟩:=HK.out _ _ _ _ ho hM hv;have HO:=hid ho;have HMk:=hid hMk;have HLY:=hid hly;have HB:=hid hb;have HV:=hid hv;have q3':=fun o=>((newAlloc w1 o).cell (p:=⟨g,k*4+3,none⟩) (lt_of_cell q3)).trans q3;clear ho hb hv hly hMk)
  | (go_at_call 170;refine HF.out.mono ?_;rintro e w2 ⟨rfl,rfl⟩)
  | (go_at_call 171;refine(Ahead_any _ xl c _ (RdX.own cellsI_length HLY.out)).mono ?_;rw[HA.out];rintro e w2 ⟨rfl,rfl⟩)
  | (go_at_call 173;refine(Without_any _ _ xl [c] _ ((RdX.own cellsI_length HLY.out).later (newAlloc w2 (.cells #[.int .i64 c] 3))) (RdX.one (cs:=#[.int .i64 c]) (t:=3) (y:=c) (w:=w2.alloc (.cells #[.int .i64 c] 3)) (b:=w2.heap.size) (by show(w2.heap.push _)[w2.heap.size]?= _;simp) rfl) hxl).mono ?_;rintro e w5 ⟨v5,rfl,ho5,hb5⟩;obtain⟨za,zc,rfl⟩:=Rw.own_form ho5;obtain⟨⟨u5,p3⟩,pf3,hfin⟩:=join_facts HO.out hM HV.out k HMk.out HB.out hg (step (newAlloc _ _) hb5) (World.grownBy.refl _ _) (withoutL xl [c]) za zc (own_lowerX ho5 (by have:=HB.out.size;simp;omega));have HFIN:=hid hfin;clear hfin ho5))
 refine bodyPost_ret (by simp [results,Tryz.results127,go_sem]<;>rfl) rfl ?_
 exact HFIN.out 0 0
set_option maxHeartbeats 4000000 in
theorem Free_pass (k:Nat) (hk:k<L.length) (h:RdK w v L) (h5:L.length<=1000) (h6: ∀x∈L,x.line.length<=1000) (hi:idxI (isNm n) (vals L)=(k:Int)) (hc:L[k].holder =c) (d:Int) (r:List Int) (hd:L[k].line =d::r) (ht:0<=t/\t<=4611686018427387904):
  Calls Tryz.prog 127 #[v,.string (bstr n),.int .i64 c,.int .i64 t] w (GetsT ((vals L).set k ⟨L[k].name,d,t+1,r⟩,1,0) w):=by
 obtain⟨N,hN⟩: ∃N,L.length=N:=⟨_,rfl⟩
 have CC:=hid (Copy_at v L w N hN h h5 h6)
 have HI:=hid hi
 have hm:=h.len
 have hxl:=h6 _ (List.getElem_mem hk)
 have HK:=hid (fun(a:Option Addr) (c:Nat) (M:List LockC) (w':World) (ho:OwnD w.heap.size w' (.slice a N c) M) (hM:M.length=N) (hv:vals M=vals L)=>own_k ho hM hv k hk)
 have cc:(L[k].holder != c)=false:=by simpa using hc
 clear hc
 rw[hd] at HK hxl
 clear hd
 rw[hN] at hm hk
 have hw1:IntKind.i64.wrap (t+1)=t+1:=by rw[IntKind.wrap_i64];omega
 have HT:=hid ht
 clear h h5 h6 hi hN ht
 generalize L[k]=x at*
 obtain⟨xn,xh,xt,xl,xa,xc⟩:=x
 dsimp only at*
 have hR:r.length<=999:=by rw[List.length_cons] at hxl;omega
 obtain⟨R,hRR⟩: ∃R,(d::r).length =R:=⟨_,rfl⟩
 have HRR:Hid (R=r.length+1):=hid (by rw[<-hRR];rfl)
 have hR1:1<=R:=by rw[<-hRR];simp
 have zR:((R:Int)==0)=false:=by simp;omega
 obtain⟨i0,hi,hz0,hz1,hz2⟩:=info_parts infoN
 go_enter Tryz.func127,Tryz.ntmps127
 have f1:(0:Int)<=(k:Int):=by omega
 have f2:(k:Int)<(N:Int):=by omega
 go_upto_region 13 with (first
  | (go_at_call 36;refine CC.out.mono ?_;rintro e w1 ⟨a1,c1,M,rfl,hM,hv,ho,hb⟩;have HF:=hid (Find_at a1 N c1 M n w1 k (by rw[hv];exact HI.out) ho.rd.row);obtain⟨g,ya,yc,rfl,hg,hMk,q0,q1,q2,q3,qf,hly⟩:=HK.out _ _ _ _ ho hM hv;rw[hRR] at q3 hly;have HO:=hid ho;have HMk:=hid hMk;have HLY:=hid hly;have HB:=hid hb;have HV:=hid hv;clear ho hb hv hly hMk)
  | (go_at_call 170;refine HF.out.mono ?_;rintro e w2 ⟨rfl,rfl⟩))
 obtain⟨gl,rfl, -⟩:=own_some (sz:=1) HLY.out (by omega)
 have HRd:Hid (RdI w2 (.slice (some ⟨gl,0,none⟩) R yc) (d::r)):=hid (by have:=RdX.own (f:=cellsI) (l:=d::r) cellsI_length (by rw[hRR];exact HLY.out);exact this)
 obtain⟨b',o',e',hc0⟩:=rdi_at HRd.out 0 (by simp)
 cases e'
 have y0:=hc0 w2 (Below.refl _ _)
 simp only[List.getElem_cons_zero,Nat.add_zero] at y0
 have f3:(0:Int)<(R:Int):=by omega
 have qf1:=qf (k*4+1)
 have hgl:gl≠g:=fun q=>own_types HLY.out HO.out.row (by decide) gl rfl (by rw[q];rfl)
 go_upto_region 14 with fail
 obtain⟨W2,hW2⟩: ∃W2,W2=w2.setCell ⟨g,k*4+1,none⟩ (.int .i64 d):=⟨_,rfl⟩
 have hOr:=HO.out.row
 rw[hM] at hOr
 have HLY2:Hid (W2.ownsRow w.heap.size 3 1 (.slice (some ⟨gl,0,none⟩) R yc) R (flatX cellsI (d::r))):=hid (by rw[hW2];exact own_set_other hOr HLY.out (by decide) _ _)
 have HRd2:Hid (RdI W2 (.slice (some ⟨gl,0,none⟩) R yc) (d::r)):=hid (by have:=RdX.own (f:=cellsI) (l:=d::r) cellsI_length (by rw[hRR];exact HLY2.out);exact this)
 have z3:W2.cell? ⟨g,k*4+3,none⟩=some (.slice (some ⟨gl,0,none⟩) R yc):=by rw[hW2];simp [go_sem,q3]
 have z3':=((newAlloc W2 (.cells #[] 3)).cell (p:=⟨g,k*4+3,none⟩) (lt_of_cell z3)).trans z3
 have hcap:R<=yc/\yc<=maxLen:=by
  obtain⟨a',cap',hv,q1,q2,_⟩:=HRd2.out.ex
  cases hv
  rw[hRR] at q1
  exact⟨q1,q2⟩
 unfold maxLen at hcap
 obtain⟨hc1,hc2⟩:=hcap
 have HDR:=hid ((HRd2.out.drop (by omega) 1 hR1).later (newAlloc W2 (.cells #[] 3)))
 rw[List.drop_one,List.tail_cons] at HDR
 have g2:(1:Int)<=(R:Int):=by omega
 have HPD:Hid (∀(w3:World) za zc,Below W2.heap.size W2 w3->w3.ownsRow W2.heap.size 3 1 (.slice za r.length zc) r.length (flatX cellsI r)->(∃u2 u3,w3.cell? ⟨g,k*4+2,none⟩=some u2/\w3.cell? ⟨g,k*4+3,none⟩=some u3/\w3.frozen? ⟨g,k*4+2,none⟩=false/\w3.frozen? ⟨g,k*4+3,none⟩=false)/\
   ∀p q:Int,GetsT ((vals L).set k ⟨xn,d,t+1,r⟩,p,q) w (.returned (.tuple #[.slice (some ⟨g,0,none⟩) N c1,.int .i64 p,.int .i64 q])) ((w3.setCell ⟨g,k*4+3,none⟩ (.slice za r.length zc)).setCell ⟨g,k*4+2,none⟩ (.int .i64 (t+1)))):=hid (fun w3 za zc h23 hz=>by
  rw[hW2] at h23 hz
  exact pass_done HO.out hM HV.out k HMk.out HB.out h23 hz)
 rw[<-hW2]
 have HRN:Hid (R - 1=r.length):=hid (by have:=HRR.out;omega)
 clear hW2 q0 q1 q2 q3 qf qf1 y0 hc0 HO HMk HLY HRd HLY2 HRd2 hOr HF CC HK HI z3
 by_cases hcp:yc=1
 case' pos=>
  rw[if_pos hcp] at HDR
  obtain rfl:R=1:=by omega
  subst hcp
  clear hc1 hc2 g2
 case' neg=>
  rw[if_neg hcp] at HDR
  have hadd:(⟨gl,0,none⟩:Addr).add (1*1)=⟨gl,0+1,none⟩:=by unfold Addr.add;split<;>simp_all
  rw[Option.map_some,hadd] at HDR
  clear hadd
 all_goals
  go_upto_region 15 with (at_builtin;refine wpList_append_rdx cellsI_length (by omega) cellsI_one rfl (.tmp 84) (.tmp 90) 69 rfl W2.heap.size 3 i0 _ 8 Tryz.underlying69 hi hz0 hz1 hz2 rfl _ 0 [] rfl (own_new W2 _ 1 _ _ rfl (Nat.le_refl _)) _ r rfl (HDR.out) (by unfold maxLen;omega) (by omega) (newAlloc W2 (.cells #[] 3)).size ?_;intro v3 w3 hown3 hgrow3;have HB3:Hid (Below W2.heap.size W2 w3):=hid ((newAlloc W2 (.cells #[] 3)).grown hgrow3 (newAlloc W2 (.cells #[] 3)).size (fun k hk=>by cases hk;exact Nat.le_refl _));have HO3:Hid (w3.ownsRow W2.heap.size 3 1 v3 r.length (flatX cellsI r)):=hid (by simpa using hown3);obtain⟨za,zc,rfl⟩:=Rw.own_form HO3.out;obtain⟨⟨u2,u3,p2,p3,pf2,pf3⟩,hfin⟩:=HPD.out _ _ _ HB3.out HO3.out;have HFIN:=hid hfin;clear hfin hown3 hgrow3 HO3 HB3 HPD)
  go_wp2
  refine bodyPost_ret (by simp [results,Tryz.results127,go_sem]<;>rfl) rfl ?_
  exact HFIN.out 1 0
set_option maxHeartbeats 4000000 in
theorem Free_last (k:Nat) (hk:k<L.length) (h:RdK w v L) (h5:L.length<=1000) (h6: ∀x∈L,x.line.length<=1000) (hi:idxI (isNm n) (vals L)=(k:Int)) (hc:L[k].holder =c) (hd:L[k].line = []):
  Calls Tryz.prog 127 #[v,.string (bstr n),.int .i64 c,.int .i64 t] w (GetsT ((vals L).take k++(vals L).drop (k+1),0,0) w):=by
 obtain⟨N,hN⟩: ∃N,L.length=N:=⟨_,rfl⟩
 have CC:=hid (Copy_at v L w N hN h h5 h6)
 have HI:=hid hi
 have hm:=h.len
 have HK:=hid (fun(a:Option Addr) (c:Nat) (M:List LockC) (w':World) (ho:OwnD w.heap.size w' (.slice a N c) M) (hM:M.length=N) (hv:vals M=vals L)=>own_k ho hM hv k hk)
 have cc:(L[k].holder != c)=false:=by simpa using hc
 clear hc
 rw[hd] at HK
 clear hd
 rw[hN] at hm hk h5
 clear h h6 hi hN
 generalize L[k]=x at*
 obtain⟨xn,xh,xt,xl,xa,xc⟩:=x
 dsimp only at*
 obtain⟨i0,hi,hz0,hz1,hz2⟩:=info_parts infoK
 have hk1:(1:Int)<=(k:Int)+1:=by omega
 go_enter Tryz.func127,Tryz.ntmps127
 have f1:(0:Int)<=(k:Int):=by omega
 have f2:(k:Int)<(N:Int):=by omega
 go_upto_region 12 with (first
  | (go_at_call 36;refine CC.out.mono ?_;rintro e w1 ⟨a1,c1,M,rfl,hM,hv,ho,hb⟩;have HF:=hid (Find_at a1 N c1 M n w1 k (by rw[hv];exact HI.out) ho.rd.row);obtain⟨g,ya,yc,rfl,hg,hMk,q0,q1,q2,q3,qf,hly⟩:=HK.out _ _ _ _ ho hM hv;have HO:=hid ho;have HMk:=hid hMk;have HB:=hid hb;have HV:=hid hv;clear ho hb hv hly hMk)
  | (go_at_call 170;refine HF.out.mono ?_;rintro e w2 ⟨rfl,rfl⟩))
 have HR:=hid HO.out.rd.row
 have hcap:N<=c1/\c1<=maxLen:=by
  obtain⟨a',cap',hv,q1,q2,_⟩:=HR.out.ex
  cases hv
  rw[hM] at q1
  exact⟨q1,q2⟩
 unfold maxLen at hcap
 obtain⟨hc1,hc2⟩:=hcap
 have HT:=hid (HR.out.take k (by omega))
 have HD:=hid (HR.out.drop (by omega) (k+1) (by omega))
 have HLT:Hid ((M.take k).length =k):=hid (by rw[List.length_take];omega)
 have HLD:Hid ((M.drop (k+1)).length =N - (k+1)):=hid (by rw[List.length_drop];omega)
 have g2:(k:Int)<=(c1:Int):=by omega
 have g3:IntKind.i64.wrap ((k:Int)+1)=(k:Int)+1:=by rw[IntKind.wrap_i64];omega
 have g4:(0:Int)<=(k:Int)+1:=by omega
 have g5:(k:Int)+1<=(N:Int):=by omega
 have g6:((k:Int)+1).toNat =k+1:=by omega
 have g7:decide ((k:Int)<0)=false:=by simp
 clear HF CC HK HI q0 q1 q2 q3 qf hc1 hc2 hk1
 by_cases hcp:c1=k+1
 case' pos=>
  rw[if_pos hcp] at HD
  subst hcp
  rw[Nat.sub_self] at HD
  have g8:(k:Int)<=(k:Int)+1:=by omega
  clear g2
 case' neg=>
  rw[if_neg hcp] at HD
  have hadd:(⟨g,0,none⟩:Addr).add ((k+1)*4)=⟨g,(k+1)*4,none⟩:=by unfold Addr.add;split<;>simp_all
  rw[Option.map_some,hadd] at HD
  clear hadd
 all_goals
  go_region_held3 (fun _=>True) (trivial) (first
   | (refine step_append_rdx cellsK_length (by omega) cellsK_one (by rfl) (.tmp 61) (.tmp 64) 23 (by rfl) w2.heap.size 71 i0 _ 56 Tryz.underlying23 hi hz0 hz1 hz2 rfl _ 0 [] (by rfl) (Rw.own_below (own_new w2 71 4 _ _ rfl (Nat.le_refl _)) ((Below.refl _ _).drew)) _ (M.take k) (by rfl) (HT.out.later ((newAlloc w2 _).drew)) (by rw[HLT.out];unfold maxLen;omega) (by rw[HLT.out];omega) (by simp) ?_;intro v3 w3 ho3 hg3;have HO3:Hid (w3.ownsRow w2.heap.size 71 4 v3 k (flatX cellsK (M.take k))):=hid (by rw[HLT.out,Nat.zero_add,List.nil_append] at ho3;exact ho3);have HB3:Hid (Below w2.heap.size w2 w3):=hid (((newAlloc w2 _).drew).grown hg3 (by simp) (fun k hk=>by cases hk;exact Nat.le_refl _));clear ho3 hg3)
   | (refine step_append_rdx cellsK_length (by omega) cellsK_one (by rfl) (.tmp 65) (.tmp 69) 23 (by rfl) w2.heap.size 71 i0 _ 56 Tryz.underlying23 hi hz0 hz1 hz2 rfl v3 k _ (by rfl) HO3.out _ (M.drop (k+1)) (by rfl) (HD.out.later HB3.out) (by rw[HLD.out];unfold maxLen;omega) (by rw[HLD.out];omega) HB3.out.size ?_;intro v4 w4 ho4 hg4;have HO4:Hid (w4.ownsRow w2.heap.size 71 4 v4 (M.take k++M.drop (k+1)).length (flatX cellsK (M.take k++M.drop (k+1)))):=hid (by rw[List.length_append,HLT.out,flatX_append];exact ho4);have HB4:Hid (Below w2.heap.size w2 w4):=hid (HB3.out.grown hg4 HB3.out.size (fun k hk=>(Rw.own_lt HO3.out k hk).1));clear ho4 hg4))
 all_goals
  go_wp2
  refine bodyPost_ret (by simp [results,Tryz.results127,go_sem]<;>rfl) rfl ?_
  refine⟨v4,M.take k++M.drop (k+1),rfl,?_,⟨own_lowerX HO4.out HB.out.size,fun x hx=>?_⟩,step HB.out HB4.out⟩
  ·rw[<-HV.out,<-vals_take,<-vals_drop]
   unfold vals
   rw[List.map_append]
  ·have hx':x∈M:=by
    rcases List.mem_append.1 hx with q | q
    ·exact List.mem_of_mem_take q
    ·exact List.mem_of_mem_drop q
   exact NewI.own ((HO.out.later HB4.out).line x hx')
end

theorem FreeLock_any (v:Value) (L:List LockC) (n:List UInt8) (c t:Int) (w:World) (h:RdK w v L) (h5:L.length<=1000) (h6: ∀x∈L,x.line.length<=1000) (ht:0<=t/\t<=4611686018427387904):
  Calls Tryz.prog 127 #[v,.string (bstr n),.int .i64 c,.int .i64 t] w (GetsT (freeK (vals L) n c t) w):=by
 rcases idx_casesG (isNm n) (vals L) with hi | ⟨k,hk,hi, -⟩
 ·unfold freeK
  rw[if_pos (by omega)]
  exact Free_none v L n c t w h h5 h6 hi
 ·have hg:=getK_nat (vals L) k hk
  unfold freeK passK
  rw[hi,if_neg (by omega),hg]
  rw[vals_length] at hk
  rw[vals_get L k hk]
  unfold LockC.val
  dsimp only[Int.toNat_natCast]
  by_cases h1:L[k].holder =c
  ·rw[if_neg (by simpa using h1)]
   cases hd:L[k].line with
   | nil=>
    rw[if_pos rfl]
    exact Free_last v L n c t w k hk h h5 h6 hi h1 hd
   | cons d r=>
    rw[if_neg (by simp)]
    exact Free_pass v L n c t w k hk h h5 h6 hi h1 d r hd ht
  ·rw[if_pos h1]
   by_cases h3:(aheadL L[k].line c).2=false
   ·rw[if_pos h3]
    exact Free_other v L n c t w k hk h h5 h6 hi h1 _ (Prod.ext rfl h3)
   ·rw[if_neg h3]
    have h3:(aheadL L[k].line c).2=true:=by simpa using h3
    exact Free_leave v L n c t w k hk h h5 h6 hi h1 _ (Prod.ext rfl h3)
end Cm
end Go.Proofs.YtlnbmblbeaodcaaGreat
