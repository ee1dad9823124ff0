/- Texts laid together by program. -/
import Derived.Test.YtlnbmblbeaodcaaGreatQS16
import Derived.Deep.RegionHeld3
/- Locks, some of whose clients go: plain facts. No program is named here. -/
set_option linter.unusedVariables false
set_option maxRecDepth 8000
set_option linter.unusedSimpArgs false
namespace Go.Proofs.YtlnbmblbeaodcaaGreat
open Lib (hid)
open Go.RowKit
namespace Cm

theorem dropK_snoc (G:List Int) (k:LockV): ∀(l:List LockV) (t:Int),dropK G (l++ [k]) t=
  if hasL G k.holder=false then ((dropK G l t).1++ [leftK G k],(dropK G l t).2) else
  if (leftK G k).line = [] then dropK G l t else ((dropK G l t).1++ [passK (leftK G k) (t+(dropK G l t).2)],(dropK G l t).2+1)
 | [],t=>by
  simp only[List.nil_append,dropK]
  split
  ·rfl
  ·split
   ·rfl
   ·simp
 | x::l,t=>by
  rw[List.cons_append,dropK,dropK]
  split
  ·rw[dropK_snoc G k l t]
   split
   ·rfl
   ·split
    ·rfl
    ·rfl
  ·split
   ·rw[dropK_snoc G k l t]
   ·rw[dropK_snoc G k l (t+1)]
    split
    ·rfl
    ·split
     ·rfl
     ·simp only[List.cons_append]
      rw[show t+1+(dropK G l (t+1)).2=t+((dropK G l (t+1)).2+1) by omega]
theorem dropK_names (G:List Int): ∀(l:List LockV) (t:Int) (x:LockV),x∈(dropK G l t).1-> ∃y∈l,x.name=y.name
 | [],t,x,h=>by simp [dropK] at h
 | k::l,t,x,h=>by
  rw[dropK] at h
  split at h
  ·rcases List.mem_cons.1 h with rfl | h
   ·exact⟨k,List.mem_cons_self,rfl⟩
   ·obtain⟨y,hy,e⟩:=dropK_names G l t x h
    exact⟨y,List.mem_cons_of_mem _ hy,e⟩
  ·split at h
   ·obtain⟨y,hy,e⟩:=dropK_names G l t x h
    exact⟨y,List.mem_cons_of_mem _ hy,e⟩
   ·rcases List.mem_cons.1 h with rfl | h
    ·exact⟨k,List.mem_cons_self,rfl⟩
    ·obtain⟨y,hy,e⟩:=dropK_names G l (t+1) x h
     exact⟨y,List.mem_cons_of_mem _ hy,e⟩
theorem dropK_count (G:List Int): ∀(l:List LockV) (t:Int),0<=(dropK G l t).2/\(dropK G l t).2<=l.length
 | [],t=>by simp [dropK]
 | k::l,t=>by
  have h1:=dropK_count G l t
  have h2:=dropK_count G l (t+1)
  rw[dropK,List.length_cons]
  split
  ·dsimp only;omega
  ·split
   ·omega
   ·dsimp only;omega
theorem dropK_length (G:List Int): ∀(l:List LockV) (t:Int),(dropK G l t).1.length <=l.length
 | [],t=>by simp [dropK]
 | k::l,t=>by
  have h1:=dropK_length G l t
  have h2:=dropK_length G l (t+1)
  rw[dropK,List.length_cons]
  split
  ·simp;omega
  ·split
   ·omega
   ·simp;omega
theorem without_le (l g:List Int):(withoutL l g).length <=l.length:=List.length_filter_le _ _
theorem dropK_lines (G:List Int): ∀(l:List LockV) (t:Int) (x:LockV),x∈(dropK G l t).1-> ∃y∈l,x.line.length<=y.line.length
 | [],t,x,h=>by simp [dropK] at h
 | k::l,t,x,h=>by
  have hw:=without_le k.line G
  rw[dropK] at h
  split at h
  ·rcases List.mem_cons.1 h with rfl | h
   ·exact⟨k,List.mem_cons_self,hw⟩
   ·obtain⟨y,hy,e⟩:=dropK_lines G l t x h
    exact⟨y,List.mem_cons_of_mem _ hy,e⟩
  ·split at h
   ·obtain⟨y,hy,e⟩:=dropK_lines G l t x h
    exact⟨y,List.mem_cons_of_mem _ hy,e⟩
   ·rcases List.mem_cons.1 h with rfl | h
    ·refine⟨k,List.mem_cons_self,?_⟩
     show((leftK G k).line.drop 1).length <=_
     rw[List.length_drop]
     show(withoutL k.line G).length - 1<=_
     omega
    ·obtain⟨y,hy,e⟩:=dropK_lines G l (t+1) x h
     exact⟨y,List.mem_cons_of_mem _ hy,e⟩
def midK (G:List Int) (l:List LockV) (t:Int) (i:Nat):List LockV:=(dropK G (l.take i) t).1++(l.drop i).map (leftK G)
theorem midK_zero (G:List Int) (l:List LockV) (t:Int):midK G l t 0=l.map (leftK G):=by simp [midK,dropK]
theorem midK_all (G:List Int) (l:List LockV) (t:Int):midK G l t l.length=(dropK G l t).1:=by simp [midK]
theorem idx_app (n:List UInt8) (A B:List LockV) (k:LockV) (hA: ∀a∈A,a.name≠n) (hk:k.name=n):idxI (isNm n) (A++k::B)=(A.length:Int):=by
 refine idxI_hit _ _ A.length (by simp) (by simp [isNm,hk]) (fun j hj=>?_)
 rw[List.getElem_append_left hj]
 unfold isNm
 exact decide_eq_false (hA _ (List.getElem_mem hj))
theorem getK_app (A B:List LockV) (k:LockV):getK (A++k::B) (A.length:Int)=k:=by
 rw[getK_nat _ _ (by simp)]
 simp
theorem midK_keep (G:List Int) (l:List LockV) (t:Int) (i:Nat) (h:i<l.length) (hg:hasL G l[i].holder =false):
  midK G l t (i+1)=midK G l t i/\(dropK G (l.take (i+1)) t).2=(dropK G (l.take i) t).2:=by
 unfold midK
 rw[List.take_succ_eq_append_getElem h,dropK_snoc,if_pos hg]
 refine⟨?_,rfl⟩
 rw[List.drop_eq_getElem_cons h,List.map_cons,List.append_assoc]
 rfl
theorem midK_free (G:List Int) (l:List LockV) (t:Int) (i:Nat) (h:i<l.length) (hn:l.Pairwise fun a b=>a.name≠b.name) (hg:hasL G l[i].holder =true):
  freeK (midK G l t i) l[i].name l[i].holder (t+(dropK G (l.take i) t).2)=(midK G l t (i+1),(dropK G (l.take (i+1)) t).2 - (dropK G (l.take i) t).2,0):=by
 have hA: ∀a∈(dropK G (l.take i) t).1,a.name≠l[i].name :=fun a ha=>by
  obtain⟨y,hy,e⟩:=dropK_names G _ _ _ ha
  rw[e]
  obtain⟨j,hj,rfl⟩:=List.getElem_of_mem hy
  rw[List.length_take] at hj
  rw[List.getElem_take]
  exact List.pairwise_iff_getElem.1 hn j i (by omega) h (by omega)
 have e1:midK G l t i=(dropK G (l.take i) t).1++leftK G l[i]::(l.drop (i+1)).map (leftK G):=by
  unfold midK
  rw[List.drop_eq_getElem_cons h,List.map_cons]
 have e2:midK G l t (i+1)=(dropK G (l.take i++ [l[i]]) t).1++(l.drop (i+1)).map (leftK G):=by
  unfold midK
  rw[List.take_succ_eq_append_getElem h]
 rw[e1,e2,List.take_succ_eq_append_getElem h,dropK_snoc,if_neg (by rw[hg];simp)]
 clear e1 e2
 generalize dropK G (l.take i) t=pr at hA ⊢
 obtain⟨A,q⟩:=pr
 dsimp only at hA ⊢
 generalize (l.drop (i+1)).map (leftK G)=B
 have hi:=idx_app l[i].name A B (leftK G l[i]) hA rfl
 have hk:=getK_app A B (leftK G l[i])
 unfold freeK
 rw[hi,if_neg (by omega),hk,if_neg (by simp [leftK])]
 split
 ·rename_i hl
  simp only[Int.toNat_natCast]
  rw[List.take_left' rfl]
  have:(A++leftK G l[i]::B).drop (A.length+1)=B:=by
   rw[List.drop_append]
   simp
  rw[this]
  simp
 ·rename_i hl
  simp only[Int.toNat_natCast]
  rw[List.set_append_right _ _ (Nat.le_refl _),Nat.sub_self]
  simp only[List.set_cons_zero,List.append_assoc,List.cons_append,List.nil_append]
  congr 2
  omega
theorem midK_bounds (G:List Int) (l:List LockV) (t:Int) (i:Nat) (hi:i<=l.length) (h: ∀y∈l,y.line.length<=1000):(midK G l t i).length <=l.length/\ ∀x∈midK G l t i,x.line.length<=1000:=by
 unfold midK
 refine⟨?_,fun x hx=>?_⟩
 ·have:=dropK_length G (l.take i) t
  rw[List.length_take] at this
  rw[List.length_append,List.length_map,List.length_drop]
  omega
 ·rcases List.mem_append.1 hx with q | q
  ·obtain⟨y,hy,e⟩:=dropK_lines G _ _ x q
   exact Nat.le_trans e (h y (List.mem_of_mem_take hy))
  ·obtain⟨y,hy,rfl⟩:=List.mem_map.1 q
   exact Nat.le_trans (without_le _ _) (h y (List.mem_of_mem_drop hy))
end Cm
end Go.Proofs.YtlnbmblbeaodcaaGreat

/- Contracts: padlockref6's DropLocks. -/
set_option linter.unusedVariables false
set_option maxRecDepth 8000
set_option linter.unusedSimpArgs false
namespace Go.Proofs.YtlnbmblbeaodcaaGreat
open Lib (hid)
open Go.RowKit
namespace Cm

theorem OwnN.lower {base base':Nat} {w:World} {v:Value} {M:List LockC} (h:OwnN base w v M) (hb:base'<=base):OwnN base' w v M:=
 ⟨own_lowerX h.row hb,fun x hx=>⟨(h.line x hx).1,fun g hg=>by obtain⟨h1,h2⟩:=(h.line x hx).2 g hg;exact⟨Nat.le_trans hb h1,h2⟩⟩⟩
theorem NewI.keep {base:Nat} {w w':World} {u:Value} {l:List Int} (h:NewI base w u l) (hb: ∀g,u.ownBlock=some g->w'.heap[g]?=w.heap[g]?):NewI base w' u l:=by
 refine⟨?_,fun g hg=>?_⟩
 ·obtain⟨a,cap,hv,h1,h2,h3,h4⟩:=h.1.ex
  refine⟨a,cap,hv,h1,h2,h3,fun x hx hp=>?_⟩
  obtain⟨hs,hc⟩:=h4 x hx hp
  refine⟨hs,fun i hi k z hz=>?_⟩
  have hbk:=hb x.block (by rw[hv,hx];rfl)
  rw[World.cell?_of_block (w:=w) (a:=⟨x.block,x.off+(i*1+k),none⟩) hbk]
  exact hc i hi k z hz
 ·obtain⟨h1,cs,h2⟩:=h.2 g hg
  exact⟨h1,cs,(hb g hg).trans h2⟩
theorem NewI.apart {base b1 s n cap:Nat} {w:World} {u:Value} {l:List Int} {g:Nat} {xs:List Value} (h:NewI base w u l) (hr:w.ownsRow b1 71 s (.slice (some ⟨g,0,none⟩) n cap) n xs) (g':Nat) (hg:u.ownBlock=some g'):g'≠g:=by
 intro q
 subst q
 obtain⟨_,cs,h2⟩:=h.2 g' hg
 rcases hr.2 with ⟨q,_⟩ | ⟨g1,cap1,cur,q1,_,q2,_⟩
 ·cases q
 ·cases q1
  rw[h2] at q2
  injection q2 with q2
  injection q2 with _ q2
  exact absurd q2 (by decide)
theorem NewI.set_row {base b1 s n cap:Nat} {w:World} {u:Value} {l:List Int} {g:Nat} {xs:List Value} (h:NewI base w u l) (hr:w.ownsRow b1 71 s (.slice (some ⟨g,0,none⟩) n cap) n xs) (j:Nat) (z:Value):NewI base (w.setCell ⟨g,j,none⟩ z) u l:=
 h.keep fun g' hg'=>Below.heap_setCell w ⟨g,j,none⟩ z g' (h.apart hr g' hg')
theorem OwnN.set_line {base:Nat} {w:World} {g N c1:Nat} {M:List LockC} (ho:OwnN base w (.slice (some ⟨g,0,none⟩) N c1) M) (hM:M.length=N) (k:Nat) (hk:k<M.length) (l:List Int) (a:Option Addr) (c:Nat) (hl:NewI base w (.slice a l.length c) l):
  OwnN base (w.setCell ⟨g,k*4+3,none⟩ (.slice a l.length c)) (.slice (some ⟨g,0,none⟩) N c1) (M.set k ⟨M[k].name,M[k].holder,M[k].token,l,a,c⟩):=by
 subst hM
 refine⟨?_,fun x hx=>?_⟩
 ·rw[List.length_set]
  exact ownK_line ho.row k hk l a c
 ·rcases List.mem_or_eq_of_mem_set hx with q | q
  ·exact(ho.line x q).set_row ho.row _ _
  ·subst q
   exact hl.set_row ho.row _ _
theorem vals_bounds {M:List LockC} {l:List LockV} {n:Nat} (h:vals M=l) (h1:l.length<=n/\ ∀x∈l,x.line.length<=1000):M.length<=n/\ ∀x∈M,x.line.length<=1000:=by
 refine⟨by rw[<-vals_length M,h];exact h1.1,fun x hx=>?_⟩
 have:x.val∈l:=by rw[<-h];exact List.mem_map_of_mem hx
 exact h1.2 _ this
theorem ownN_at {base:Nat} {w:World} {a:Option Addr} {N c:Nat} {M:List LockC} (ho:OwnN base w (.slice a N c) M) (hM:M.length=N) (k:Nat) (hk:k<N):
  ∃g,a=some ⟨g,0,none⟩/\base<=g/\ ∃hk':k<M.length,w.cell? ⟨g,k*4,none⟩=some (.string (bstr M[k].name))/\w.cell? ⟨g,k*4+1,none⟩=some (.int .i64 M[k].holder)/\w.cell? ⟨g,k*4+2,none⟩=some (.int .i64 M[k].token)/\w.cell? ⟨g,k*4+3,none⟩=some M[k].lv /\
   (∀j,w.frozen? ⟨g,j,none⟩=false)/\NewI base w M[k].lv M[k].line :=by
 have hr:=ho.row
 rw[hM] at hr
 obtain⟨g,rfl,hg⟩:=own_some (sz:=4) hr (by omega)
 have hk':k<M.length:=by omega
 obtain⟨q0,q1,q2,q3,qf⟩:=ownK_at hr hM k hk'
 exact⟨g,rfl,hg,hk',q0,q1,q2,q3,qf,ho.line _ (List.getElem_mem hk')⟩
def GetsD (r:List LockV × Int) (w:World) (e:Ending) (w':World):Prop:=
 ∃v M,e= .returned (.tuple #[v,.int .i64 r.2])/\vals M=r.1/\OwnN w.heap.size w' v M/\Below w.heap.size w w'
def leftN (G:List Int) (l:List LockV) (k:Nat):List LockV:=(l.take k).map (leftK G)++l.drop k
theorem leftN_zero (G:List Int) (l:List LockV):leftN G l 0=l:=by simp [leftN]
theorem leftN_all (G:List Int) (l:List LockV):leftN G l l.length=l.map (leftK G):=by simp [leftN]
theorem leftN_get (G:List Int) (l:List LockV) (k:Nat) (h:k<l.length) (h':k<(leftN G l k).length):(leftN G l k)[k]=l[k]:=by
 unfold leftN at h' ⊢
 rw[List.getElem_append_right (by rw[List.length_map,List.length_take];omega)]
 simp only[List.length_map,List.length_take,List.getElem_drop]
 congr 1
 omega
theorem leftN_succ (G:List Int) (l:List LockV) (k:Nat) (h:k<l.length):leftN G l (k+1)=(leftN G l k).set k (leftK G l[k]):=by
 unfold leftN
 have hk:((l.take k).map (leftK G)).length =k:=by rw[List.length_map,List.length_take];omega
 rw[List.take_succ_eq_append_getElem h,List.map_append,List.set_append_right _ _ (by omega),hk,Nat.sub_self,List.append_assoc]
 congr 1
 rw[List.drop_eq_getElem_cons h]
 rfl
set_option maxHeartbeats 8000000 in
theorem DropLocks_any (v u:Value) (L:List LockC) (G:List Int) (t:Int) (w:World) (h:RdK w v L) (h5:L.length<=1000) (h6: ∀x∈L,x.line.length<=1000) (ht:0<=t/\t<=2305843009213693952) (hG:RdI w u G)
  (hn:(vals L).Pairwise fun a b=>a.name≠b.name):
  Calls Tryz.prog 131 #[v,u,.int .i64 t] w (GetsD (dropK G (vals L) t) w):=by
 obtain⟨N,hN⟩: ∃N,L.length=N:=⟨_,rfl⟩
 have CC:=hid (Copy_at v L w N hN h h5 h6)
 have hm:=h.len
 have HGW:=hid (fun l a c w' (hb:Below w.heap.size w w') (hl:RdI w' (.slice a l.length c) l) (h5:l.length<=1000)=>Without_any (.slice a l.length c) u l G w' hl (hG.later hb) h5)
 have HGI:=hid (fun x w' (hb:Below w.heap.size w w')=>In_has u G x w' (hG.later hb))
 have HLS:Hid (∀k (hk:k<N),leftN G (vals L) (k+1)=(leftN G (vals L) k).set k (leftK G ((vals L)[k]'(by rw[vals_length,hN];exact hk)))):=hid fun k hk=>leftN_succ G (vals L) k (by rw[vals_length,hN];exact hk)
 have HLG:Hid (∀k (hk:k<N) h',(leftN G (vals L) k)[k]'h'=(vals L)[k]'(by rw[vals_length,hN];exact hk)):=hid fun k hk h'=>leftN_get G (vals L) k (by rw[vals_length,hN];exact hk) h'
 have HLA:=hid (leftN_all G (vals L))
 rw[vals_length,hN] at HLA
 have H6:Hid (∀k (hk:k<N),((vals L)[k]'(by rw[vals_length,hN];exact hk)).line.length <=1000):=hid fun k hk=>by
  rw[vals_get L k (by omega)]
  exact h6 _ (List.getElem_mem _)
 obtain⟨ua,uc,rfl⟩:=hG.form
 obtain⟨a0,c0,rfl⟩:=h.form
 have HA:=hid (fun i hi=>rdk_at h.row i hi)
 have HNN:=hid hN
 rw[hN] at hm h5 CC ⊢
 have HK:Hid (∀k (hk:k<N),hasL G L[k].holder =false->midK G (vals L) t (k+1)=midK G (vals L) t k/\(dropK G ((vals L).take (k+1)) t).2=(dropK G ((vals L).take k) t).2):=hid fun k hk q=>by
  have e:=vals_get L k (by omega) (by rw[vals_length];omega)
  exact midK_keep G (vals L) t k (by rw[vals_length];omega) (by rw[e];exact q)
 have HE:Hid (∀k (hk:k<N),hasL G L[k].holder =true->freeK (midK G (vals L) t k) L[k].name L[k].holder (t+(dropK G ((vals L).take k) t).2)=(midK G (vals L) t (k+1),(dropK G ((vals L).take (k+1)) t).2 - (dropK G ((vals L).take k) t).2,0)):=hid fun k hk q=>by
  have e:=vals_get L k (by omega) (by rw[vals_length];omega)
  have:=midK_free G (vals L) t k (by rw[vals_length];omega) hn (by rw[e];exact q)
  rw[e] at this
  exact this
 have HBD:Hid (∀k,k<=N-> ∀M,vals M=midK G (vals L) t k->M.length<=1000/\ ∀x∈M,x.line.length<=1000):=hid fun k hk M hM=>by
  have h1:=midK_bounds G (vals L) t k (by rw[vals_length];omega) (fun y hy=>by
   obtain⟨x,hx,rfl⟩:=List.mem_map.1 hy
   exact h6 x hx)
  rw[vals_length,hN] at h1
  exact vals_bounds hM ⟨Nat.le_trans h1.1 h5,h1.2⟩
 have HQ:Hid (∀k,k<=N->0<=(dropK G ((vals L).take k) t).2/\(dropK G ((vals L).take k) t).2<=1000):=hid fun k hk=>by
  have:=dropK_count G ((vals L).take k) t
  rw[List.length_take,vals_length] at this
  omega
 have HMA:Hid (midK G (vals L) t N=(dropK G (vals L) t).1/\(dropK G ((vals L).take N) t).2=(dropK G (vals L) t).2):=hid (by
  have e:N=(vals L).length :=by rw[vals_length];omega
  rw[e,midK_all,List.take_length]
  exact⟨rfl,rfl⟩)
 have HM0:Hid ((vals L).map (leftK G)=midK G (vals L) t 0):=hid (midK_zero _ _ _).symm
 have hw0:(dropK G ((vals L).take 0) t).2=0:=rfl
 clear h h6 hG hn
 generalize G.length=GL at*
 go_enter Tryz.func131,Tryz.ntmps131
 go_wp2_with (first
  | (go_at_call 36;refine CC.out.mono ?_;rintro e w1 ⟨a1,c1,M,rfl,hM,hv,ho,hb⟩;have HO:=hid ho.n;have HB:=hid hb;have HV:=hid hv;have HMM:=hid hM;clear ho hb hv hM))
 go_loopw [9] (fun i wr=> ∃(k:Nat) (M:List LockC),k<=N/\i= .int .i64 k/\Hid (M.length=N)/\Hid (vals M=leftN G (vals L) k)/\Hid (OwnN w.heap.size wr (.slice a1 N c1) M)/\Hid (Below w.heap.size w wr)) (fun i _=>N - (intOf i).toNat)
 case atStart=>exact⟨0,M,by omega,rfl,HMM,hid (by rw[leftN_zero];exact HV.out),HO,HB⟩
 case round=>
  obtain⟨k,M,hk,rfl,HMM,HV,HO,HB⟩:=hrel
  by_cases hlt:k<N
  ·obtain⟨g,rfl,hg,hk',q0,q1,q2,q3,qf,hl⟩:=ownN_at HO.out HMM.out k hlt
   have hx:M[k].val =(vals L)[k]'(by rw[vals_length,HNN.out];exact hlt):=by
    have e1:=vals_get M k hk' (by rw[vals_length];exact hk')
    have e2:=HLG.out k hlt (by rw[<-HV.out,vals_length];exact hk')
    rw[<-e1,<-e2]
    simp [HV.out]
   have hll:M[k].line.length <=1000:=by
    have:=H6.out k hlt
    rw[<-hx] at this
    exact this
   have hs:=HLS.out k hlt
   rw[<-hx,<-HV.out] at hs
   have HS:=hid hs
   have HSET:=hid (fun wz (hb:Below wr.heap.size wr wz) l a c hl=>(HO.out.later hb).set_line HMM.out k hk' l a c hl)
   have HROW:=hid (fun wz (hb:Below wr.heap.size wr wz)=>(HMM.out ▸ (HO.out.later hb).row :wz.ownsRow w.heap.size 71 4 (.slice (some ⟨g,0,none⟩) N c1) N (flatX cellsK M)))
   have HLEN:=HMM
   clear hx hs H6 HLS HLG HLA HA
   generalize hMk:M[k]=x at q0 q1 q2 q3 hl hll HS HSET
   have HMK:=hid hMk
   obtain⟨xn,xh,xt,xl,xa,xc⟩:=x
   unfold LockC.lv at q3 hl
   dsimp only at q0 q1 q2 q3 hl hll HSET
   clear hMk
   have f1:(0:Int)<=(k:Int):=by omega
   have f2:(k:Int)<(N:Int):=by omega
   have HL1:=hid hl
   clear hl
   go_wp2_with (go_at_call 173;refine(HGW.out xl xa xc _ HB.out HL1.out.1 hll).mono ?_;rintro e w5 ⟨v5,rfl,ho5,hb5⟩;obtain⟨za,zc,rfl⟩:=Rw.own_form ho5;obtain⟨-, -, -,p3,pf⟩:=ownK_at (HROW.out _ hb5) HLEN.out k hk';have pf3:=pf (k*4+3);have HD:=hid (HSET.out _ hb5 (withoutL xl G) za zc (NewI.own (own_lowerX ho5 HB.out.size)));have HB5:=hid ((step HB.out hb5).setCell (p:=⟨g,k*4+3,none⟩) hg (.slice za (withoutL xl G).length zc));clear ho5 hb5 pf)
   go_roundw
   case rel=>exact⟨k+1,_,by omega,by go_num,hid (by rw[List.length_set];exact HLEN.out),hid (by rw[vals_set,HS.out];rfl),HD,HB5⟩
   case measure=>simp [intOf];omega
  ·obtain rfl:k=N:=by omega
   rw[HLA.out] at HV
   clear HLS HLG HLA H6 HGW CC
   go_wp2
   rw[HM0.out] at HV
   have H00:=hid hw0
   clear hw0 HM0 HMM
   go_loopw [8,10,11] (fun m gv i wr=> ∃(j:Nat) (M:List LockC),j<=k/\i= .int .i64 j/\gv= .int .i64 (dropK G ((vals L).take j) t).2/\Hid (vals M=midK G (vals L) t j)/\Hid (OwnN w.heap.size wr m M)/\Hid (Below w.heap.size w wr)) (fun _ _ i _=>k - (intOf i).toNat)
   case atStart=>exact⟨0,M,by omega,rfl,by rw[H00.out],HV,HO,HB⟩
   case round=>
    obtain⟨j,M,hj,rfl,rfl,HV2,HO2,HB2⟩:=hrel
    by_cases hlt:j<k
    ·have hjL:j<L.length:=by omega
     obtain⟨b,o,rfl,hc⟩:=HA.out j hjL
     obtain⟨q0,q1,q2,q3⟩:=hc _ HB2.out
     have HC:=hid (fun W (hb:Below wr.heap.size wr W)=>hc W (step HB2.out hb))
     have hke:=HK.out j hlt
     have hfe:=HE.out j hlt
     have hq:=HQ.out j (by omega)
     have hq2:=HQ.out (j+1) (by omega)
     have hbd:=HBD.out j (by omega) M HV2.out
     have HFR:=hid (fun W (hb:Below wr.heap.size wr W) n c tt (htt:0<=tt/\tt<=4611686018427387904)=>FreeLock_any _ M n c tt W ((HO2.out.later hb).rd) hbd.1 hbd.2 htt)
     have HI:=hid (fun x=>HGI.out x wr HB2.out)
     clear hc HK HE HQ HBD HA
     generalize L[j]=x at q0 q1 q2 q3 hke hfe HC
     obtain⟨xn,xh,xt,xl,xa,xc⟩:=x
     unfold LockC.lv at q3
     dsimp only at q0 q1 q2 q3 hke hfe HC
     obtain⟨q,hqq⟩: ∃q,(dropK G ((vals L).take j) t).2=q:=⟨_,rfl⟩
     obtain⟨q',hqq'⟩: ∃q',(dropK G ((vals L).take (j+1)) t).2=q':=⟨_,rfl⟩
     rw[hqq] at hke hfe hq ⊢
     rw[hqq'] at hke hfe hq2
     have HQ':=hid hqq'
     clear hqq hqq' hbd
     have f2:(j:Int)<(k:Int):=by omega
     have f1:(0:Int)<=(j:Int):=by omega
     cases n1:hasL G xh with
     | false=>
      have HKE:=hid (hke n1)
      have CI:=hid (HI.out xh)
      rw[n1] at CI
      clear hke hfe n1 HI
      go_wp2_with (go_at_call 101;refine CI.out.mono ?_;rintro e w5 ⟨rfl,rfl⟩)
      go_roundw
      case rel=>exact⟨j+1,M,by omega,by go_num,by rw[HQ'.out,HKE.out.2],hid (by rw[HV2.out,HKE.out.1]),HO2,HB2⟩
      case measure=>simp [intOf];omega
     | true=>
      have hfe:=hfe n1
      have CI:=hid (HI.out xh)
      rw[n1] at CI
      have e1:IntKind.i64.wrap (t+q)=t+q:=by rw[IntKind.wrap_i64];omega
      have e2:IntKind.i64.wrap (q+(q' - q))=q':=by rw[IntKind.wrap_i64];omega
      have HF2:Hid (∀W,Below wr.heap.size wr W->Calls Tryz.prog 127 #[u8,.string (bstr xn),.int .i64 xh,.int .i64 (t+q)] W (GetsT (midK G (vals L) t (j+1),q' - q,0) W)):=hid fun W hb=>by
       have:=HFR.out W hb xn xh (t+q) (by omega)
       rw[HV2.out,hfe] at this
       exact this
      clear hke hfe n1 HI HFR hq hq2
      go_upto_region 11 with (go_at_call 101;refine CI.out.mono ?_;rintro e w5 ⟨rfl,rfl⟩)
      go_region_held3 (fun w'=>w'.cell? ⟨b,o+j*4,none⟩=some (.string (bstr xn))/\w'.cell? ⟨b,o+j*4+1,none⟩=some (.int .i64 xh)) (first | exact⟨q0,q1⟩ | go_keep | exact⟨(HC.out _ HBZ.out).1,(HC.out _ HBZ.out).2.1⟩) (first
       | (go_at_call 127;refine(HF2.out _ (below_drewN6 (Below.refl _ _) _)).mono ?_;rintro e wz ⟨vz,Mz,rfl,hvz,hoz,hbz⟩;have HBZ:=hid (step (below_drewN6 (Below.refl wr.heap.size wr) 1) hbz);have HVZ:=hid hvz;have HOZ:=hid hoz;clear hbz hvz hoz))
      go_wp2
      go_roundw
      case rel=>exact⟨j+1,Mz,by omega,by go_num,by rw[HQ'.out],HVZ,hid (HOZ.out.lower HB2.out.size),hid (step HB2.out HBZ.out)⟩
      case measure=>simp [intOf];omega
    ·obtain rfl:j=k:=by omega
     clear HK HE HQ HBD
     go_wp2
     refine bodyPost_ret (by simp [results,Tryz.results131,go_sem]<;>rfl) rfl ?_
     exact⟨_,M,by rw[HMA.out.2],by rw[HV2.out];exact HMA.out.1,HO2.out,HB2.out⟩
end Cm
end Go.Proofs.YtlnbmblbeaodcaaGreat

/- Contracts: padlockref6's Held. -/
set_option linter.unusedVariables false
set_option maxRecDepth 8000
set_option linter.unusedSimpArgs false
namespace Go.Proofs.YtlnbmblbeaodcaaGreat
open Lib (hid)
open Go.RowKit
namespace Cm

theorem heldK_length (l:List LockV) (c:Int):(heldK l c).length <=l.length:=by
 unfold heldK
 rw[List.length_map]
 exact List.length_filter_le _ _
end Cm
end Go.Proofs.YtlnbmblbeaodcaaGreat
