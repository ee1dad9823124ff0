/- Texts laid together by program. -/
import Derived.Test.YtbpmfjjbfiiiaaaQS28
/- lead's Trim. -/
set_option linter.unusedVariables false
set_option maxRecDepth 8000
set_option linter.unusedSimpArgs false
namespace Go.Proofs.Ytbpmfjjbfiiiaaa
open Lib (hid)
open Go.RowKit
namespace Ld
open Cm Ac Pl Vw

theorem run_clear_O {P:Program} (w:World) (t e ty:TypeId) (z:Value) (ht:P.underlying t=some (.slice e)) (hv: ∀w,(zeroValue e).run P w= .ok z w) (g off n c:Nat) (cur:Array Value) (hg:w.heap[g]?=some (.cells cur e))
  (h1: ∀u∈(Builtin.zeroCells z.cells n).toList,u.oneCell'=true) (hn:0<n) (hfit:off+(Builtin.zeroCells z.cells n).toList.length <=cur.size):
  (Builtin.clear_ #[t] ty #[.slice (some ⟨g,off,none⟩) n c]).run P w= .ok (.tuple #[]) (w.setRow g (cur.toList.take off++(Builtin.zeroCells z.cells n).toList ++cur.toList.drop (off+(Builtin.zeroCells z.cells n).toList.length)).toArray):=by
 have hst:=run_storeCells_at P g off e (Builtin.zeroCells z.cells n).toList 0 cur w hg (by simpa using hfit) h1
 simp only[Nat.add_zero] at hst
 obtain⟨m,rfl⟩: ∃m,n=m+1:=⟨n - 1,by omega⟩
 simp [Builtin.clear_,run_underlying ht,hv,hst]
theorem OwnO.cut {w:World} {base g off n cap k:Nat} {L:List BatC} {zs:List Value} {cur:Array Value} (h:OwnO w base 42 6 (.slice (some ⟨g,off,none⟩) n cap) n (flatX cellsB L)) (hg:w.heap[g]?=some (.cells cur 42)) (hL:L.length=n) (hk:k<=n) (hz:zs.length=k*6):
  OwnO (w.setRow g (cur.toList.take off++zs++cur.toList.drop (off+zs.length)).toArray) base 42 6 (.slice (some ⟨g,off+k*6,none⟩) (n - k) (cap - k)) (n - k) (flatX cellsB (L.drop k)):=by
 refine⟨by rw[flatX_length cellsB_length,List.length_drop,hL],?_⟩
 rcases h.2 with ⟨q,_⟩ | ⟨g1,off1,cap1,cur1,hv,h1,h2,h3,h4,h5,h6⟩
 ·cases q
 cases hv
 rw[hg] at h2
 cases h2
 have hcl:cur.toList.length=cur.size:=Array.length_toList
 have hkc:k*6<=cap*6:=Nat.mul_le_mul_right _ (by omega)
 have hnc:n*6<=cap*6:=Nat.mul_le_mul_right _ h3
 have hkn:k*6<=n*6:=Nat.mul_le_mul_right _ hk
 have e1:(n - k)*6=n*6 - k*6:=Nat.sub_mul _ _ _
 have e2:(cap - k)*6=cap*6 - k*6:=Nat.sub_mul _ _ _
 refine .inr ⟨g,off+k*6,cap - k,_,rfl,h1,setRow_heap w g cur _ _ _ hg,by omega,by omega,?_,?_⟩
 ·simp only[List.size_toArray,List.length_append,List.length_take,List.length_drop,Array.length_toList]
  omega
 ·show List.take ((n - k)*6) (List.drop (off+k*6) (cur.toList.take off++zs++cur.toList.drop (off+zs.length)))= _
  have e3:(cur.toList.take off++zs).length =off+k*6:=by rw[List.length_append,List.length_take,hz];omega
  rw[<-e3,List.drop_left,hz]
  have e4:flatX cellsB L=flatX cellsB (L.take k)++flatX cellsB (L.drop k):=by rw[<-flatX_append,List.take_append_drop]
  have e5:(flatX cellsB (L.take k)).length =k*6:=by rw[flatX_length cellsB_length,List.length_take];congr 1;omega
  have e6:flatX cellsB (L.drop k)=((cur.toList.drop off).take (n*6)).drop (k*6):=by rw[h6,e4,<-e5,List.drop_left]
  rw[e6,List.drop_take,List.drop_drop,e1]
theorem zero_one (K:Nat): ∀u∈(Builtin.zeroCells (Value.cells (.agg #[.bool false,.int .i64 0,.int .i64 0,.int .i64 0,.int .i64 0,.slice none 0 0])) K).toList,u.oneCell'=true:=by
 intro u hu
 have hu':u∈(Builtin.zeroCells (Value.cells (.agg #[.bool false,.int .i64 0,.int .i64 0,.int .i64 0,.int .i64 0,.slice none 0 0])) K):=by simpa using hu
 unfold Builtin.zeroCells at hu'
 obtain⟨i,_,rfl⟩:=Array.mem_map.1 hu'
 have h6:i % (Value.cells (.agg #[.bool false,.int .i64 0,.int .i64 0,.int .i64 0,.int .i64 0,.slice none 0 0])).size <6:=Nat.mod_lt _ (by decide)
 generalize i % (Value.cells (.agg #[.bool false,.int .i64 0,.int .i64 0,.int .i64 0,.int .i64 0,.slice none 0 0])).size =r at h6 ⊢
 match r,h6 with
 | 0,_=>rfl
 | 1,_=>rfl
 | 2,_=>rfl
 | 3,_=>rfl
 | 4,_=>rfl
 | 5,_=>rfl
def TrimL (g m:Nat) (s:LedV) (pv bv:Value) (w:World) (e:Ending) (w':World):Prop:=e= .returned (.tuple #[])/\DidL g m s pv bv w w'
theorem zeroBt:(Try.prog.info? 42).map (fun i=>i.zero)=some (some (.agg #[.bool false,.int .i64 0,.int .i64 0,.int .i64 0,.int .i64 0,.slice none 0 0])):=by kernel_rfl
set_option maxHeartbeats 8000000 in
theorem LTrim_any (g m:Nat) (s:LedV) (done:Int) (pv bv:Value) (w:World) (h:HasL w g m s pv bv) (h0:0<=firstF s) (h1:s.next<=2305843009213693962) (hd0: -9223372036854775808<=done) (hd1:done<=9223372036854775807):Calls Try.prog 25 #[.pointer (some ⟨g,0,none⟩),.int .i64 done] w (TrimL g m (trimF2 s done) pv bv w):=by
 have CF:=hid (fun W (hb:Below w.heap.size w W)=>LFirst_any g m s pv bv W (h.later hb) h0 h1)
 have CS:=hid (LStop_any g m s pv bv w h)
 have c1:=h.c1
 have c12:=h.c12
 have HH:=hid h
 have HEX:=hid h.ex
 obtain⟨P,eP,hP⟩:=h.ps
 obtain⟨B,eB,hB⟩:=h.bs
 have HEP:=hid eP
 have HEB:=hid eB
 have HP:=hid hP
 have HQ:=hid hB
 have hBl:=valsB_length B
 rw[eB] at hBl
 have hlm:=hB.rd.row.len
 obtain⟨R,hR⟩: ∃R,trimF2 s done=R:=⟨_,rfl⟩
 have HA:=hid hR
 have HGM:=hid h.gm
 rw[hR]
 clear hR h eP eB hP
 obtain⟨sn,sp,sv,sh,sps,sb,sx,s1,s2,s3⟩:=s
 unfold firstF at h0 CF
 dsimp only at c1 c12 h0 h1 CF HEX HEB HEP hBl
 unfold TrimL
 by_cases hp:sp=2
 case neg=>
  have d:(sp != 2)=true:=by simpa using hp
  have hRv:R=⟨sn,sp,sv,sh,sps,sb,sx,s1,s2,s3⟩:=HA.out.symm.trans (by unfold trimF2;rw[if_neg hp])
  subst hRv
  clear HA hp h0 h1 hd0 hd1 hlm
  go_enter Try.func25,Try.ntmps25
  go_wp2
  refine bodyPost_ret (by simp [results,Try.results25,go_sem]<;>rfl) rfl ⟨rfl,_,_,HH.out,Chg.refl _ _,Nxt.refl _ _,Nxt.refl _ _⟩
 subst hp
 by_cases hle:sx<=done
 ·have d:decide (sx<=done)=true:=decide_eq_true hle
  have hRv:R=idleL sn sv:=HA.out.symm.trans (by unfold trimF2;rw[if_pos rfl,if_pos hle])
  subst hRv
  clear HA hle h0 h1 hd0 hd1 hlm
  go_enter Try.func25,Try.ntmps25
  go_wp2_with (go_at_call 24;refine CS.out.mono ?_;rintro e w2 ⟨rfl,hd⟩;have HD:=hid hd;clear hd)
  go_end0
  exact⟨rfl,HD.out⟩
 have d:decide (sx<=done)=false:=decide_eq_false hle
 by_cases hf:sx - (sb.length:Int)<=done
 case neg=>
  have d2:decide (sx - (sb.length:Int)<=done)=false:=decide_eq_false hf
  have hRv:R=⟨sn,2,sv,sh,sps,sb,sx,s1,s2,s3⟩:=HA.out.symm.trans (by unfold trimF2 firstF;dsimp only;rw[if_pos rfl,if_neg hle,if_neg hf])
  subst hRv
  clear HA hle hf h0 h1 hd0 hd1 hlm
  generalize sx - (sb.length:Int)=ft at CF d2
  go_enter Try.func25,Try.ntmps25
  go_wp2_with (go_at_call 35;refine(CF.out _ (Below.refl _ _)).mono ?_;rintro e w2 ⟨rfl,hb2⟩;have HB2:=hid hb2;clear hb2)
  go_end0
  exact⟨rfl,_,_,HH.out.later HB2.out,Chg.of HB2.out,Nxt.refl _ _,Nxt.refl _ _⟩
 have d2:decide (sx - (sb.length:Int)<=done)=true:=decide_eq_true hf
 have HRV:Hid (R=cutF ⟨sn,2,sv,sh,sps,sb,sx,s1,s2,s3⟩ done):=hid (HA.out.symm.trans (by unfold trimF2 firstF;dsimp only;rw[if_pos rfl,if_neg hle,if_pos hf]))
 clear HA CS
 obtain⟨K,hK⟩: ∃K:Nat,done - (sx - (sb.length:Int))+1=(K:Int):=⟨(done - (sx - (sb.length:Int))+1).toNat,by omega⟩
 have HRV2:Hid (R=⟨sn,2,sv,sh,sps,sb.drop K,sx,s1,s2,s3⟩):=hid (by
  rw[HRV.out]
  unfold cutF firstF
  dsimp only
  rw[hK]
  rfl)
 clear HRV
 obtain⟨N,hN⟩: ∃N,sb.length=N:=⟨_,rfl⟩
 rw[hN] at hK h0 CF d2 hBl hf
 have hKN:K<=N:=by omega
 have hK0:0<K:=by omega
 obtain⟨ft,hft⟩: ∃ft,sx - (N:Int)=ft:=⟨_,rfl⟩
 rw[hft] at hK h0 CF d2 hf
 obtain⟨bo,bf,bc,hbv⟩: ∃g o c,bv= .slice (some ⟨g,o,none⟩) N c:=by
  rcases hB.row.2 with ⟨rfl,q⟩ | ⟨g,off,cap,cur,rfl,_⟩
  ·omega
  ·exact⟨g,off,cap,by rw[<-hBl]⟩
 subst hbv
 have ew1:IntKind.i64.wrap (done - ft)=done - ft:=by rw[IntKind.wrap_i64];omega
 have ew2:IntKind.i64.wrap (done - ft+1)=(K:Int):=by rw[IntKind.wrap_i64];omega
 have HD:=hid (And.intro hd0 (And.intro hd1 (And.intro h0 h1)))
 have HKF:=hid hK
 have HBN:=hid hBl.symm
 clear hle hf hd0 hd1 h0 h1 hK hft hN hB hlm c1 c12 hBl
 have c1:=cell_at HEX.out 1
 have c12:=cell_at HEX.out 12
 simp at c1 c12
 go_enter Try.func25,Try.ntmps25
 go_upto_region 4 with (go_at_call 35;refine(CF.out _ (Below.refl _ _)).mono ?_;rintro e w2 ⟨rfl,hb2⟩;have HB2:=hid hb2;clear hb2)
 go_upto_region 5 with (go_at_call 35;refine(CF.out _ HB2.out).mono ?_;rintro e w3 ⟨rfl,hb3⟩;have HB3:=hid (step HB2.out hb3);clear hb3)
 clear c1 c12 d d2 ew1 ew2 HB2 CF
 have HEX3:=hid (cells_later HEX.out HB3.out)
 have HP3:=hid (HP.out.later HB3.out)
 have HQ3:=hid (HQ.out.later HB3.out)
 have HC3:Hid (Chg (LS g pv (.slice (some ⟨bo,bf,none⟩) N bc)) w w3):=hid (Chg.of HB3.out)
 obtain⟨cur,hcur,hNc,hcm,hcs⟩: ∃cur:Array Value,w3.heap[bo]?=some (.cells cur 42)/\N<=bc/\bc<=maxLen/\bf+bc*6<=cur.size:=by
  rcases HQ3.out.row.2 with ⟨q,_⟩ | ⟨g1,off,cap,cur,hv,_,h2,h3,h4,h5,_⟩
  ·cases q
  ·cases hv
   exact⟨cur,h2,by rw[<-HBN.out];exact h3,h4,h5⟩
 have hzs:(Builtin.zeroCells (Value.cells (.agg #[.bool false,.int .i64 0,.int .i64 0,.int .i64 0,.int .i64 0,.slice none 0 0])) K).toList.length =K*6:=by
  rw[Array.length_toList,size_zeroCells]
  rfl
 have hz1: ∀u∈(Builtin.zeroCells (Value.cells (.agg #[.bool false,.int .i64 0,.int .i64 0,.int .i64 0,.int .i64 0,.slice none 0 0])) K).toList,u.oneCell'=true:=zero_one K
 have hKb:K*6<=bc*6:=Nat.mul_le_mul_right _ (by omega)
 have hrun:=fun ty c=>run_clear_O (P:=Try.prog) w3 29 42 ty _ Try.underlying29 (fun w=>run_zero zeroBt w) bo bf K c cur hcur hz1 hK0 (by rw[hzs];omega)
 have HCUT:=hid (OwnO.cut (k:=K) (by have:=HQ3.out.row;rw[HBN.out] at this;exact this) hcur HBN.out hKN hzs)
 have hg4:w3.grownBy (w3.setRow bo (cur.toList.take bf++(Builtin.zeroCells (Value.cells (.agg #[.bool false,.int .i64 0,.int .i64 0,.int .i64 0,.int .i64 0,.slice none 0 0])) K).toList ++cur.toList.drop (bf+(Builtin.zeroCells (Value.cells (.agg #[.bool false,.int .i64 0,.int .i64 0,.int .i64 0,.int .i64 0,.slice none 0 0])) K).toList.length)).toArray) (some bo):=⟨rfl,rfl,rfl,by simp,fun k _ hk=>setRow_other _ _ _ _ (fun e=>hk (by rw[e]))⟩
 generalize w3.setRow bo (cur.toList.take bf++(Builtin.zeroCells (Value.cells (.agg #[.bool false,.int .i64 0,.int .i64 0,.int .i64 0,.int .i64 0,.slice none 0 0])) K).toList ++cur.toList.drop (bf+(Builtin.zeroCells (Value.cells (.agg #[.bool false,.int .i64 0,.int .i64 0,.int .i64 0,.int .i64 0,.slice none 0 0])) K).toList.length)).toArray =W4 at hrun HCUT hg4
 have hgb:g≠bo:=fun q=>by
  have e:=HEX3.out
  rw[q,hcur] at e
  injection e with e
  injection e with _ e
  exact absurd e (by decide)
 have HEX4:Hid (W4.heap[g]?= _):=hid ((hg4.block g (get_ltB HEX3.out) (fun q=>hgb (by cases q;rfl))).trans HEX3.out)
 have HP4:=hid (OwnPs.far HP3.out hg4 hcur (by decide) (by decide) (by decide))
 have HQ4:Hid (OwnB m W4 (.slice (some ⟨bo,bf+K*6,none⟩) (N - K) (bc - K)) (B.drop K)):=hid ⟨by rw[List.length_drop,HBN.out];exact HCUT.out,fun x hx=>own_far (HQ3.out.reqs x (List.mem_of_mem_drop hx)) hg4 hcur (by decide)⟩
 have HC4:=hid (HC3.out.grown hg4 (fun i q=>by cases q;exact .inl (.inr (.inr rfl))))
 have c11:=cell_at HEX3.out 11
 simp at c11
 have hk0:(0:Int)<=(K:Int):=by omega
 have hkb:K<=bc:=by omega
 have hkb2:(K:Int)<=(bc:Int):=by omega
 have hkn:(K:Int)<=(N:Int):=by omega
 clear hcur hzs hz1 hKb hcs hg4 HEX3 HP3 HQ3 HC3
 go_upto_region 6 with fail
 clear c11 hrun
 have c11:=cell_at HEX4.out 11
 have cf:=frozen_at HEX4.out
 simp at c11
 by_cases hbk:bc=K
 ·have hBK:B.length=K:=by have:=HBN.out;omega
  have hz0:bc - K=0:=by omega
  have hz1:N - K=0:=by omega
  have HQ4:Hid (OwnB m W4 (.slice (some ⟨bo,bf,none⟩) 0 0) (B.drop K)):=hid (by
   have hd:B.drop K= []:=List.drop_eq_nil_of_le (by omega)
   rw[hd]
   refine⟨⟨rfl,.inr ?_⟩,fun x hx=>by cases hx⟩
   rcases HCUT.out.2 with ⟨q,_⟩ | ⟨g1,off,cap,cur1,hv,h1,h2,h3,h4,h5,_⟩
   ·cases q
   ·cases hv
    exact⟨bo,bf,0,cur1,rfl,h1,h2,Nat.le_refl _,by unfold maxLen;omega,by omega,by simp [flatX]⟩)
  have hx:=set_atB HEX4.out 11 (.slice (some ⟨bo,bf,none⟩) 0 0)
  simp only[List.setIfInBounds_toArray,List.set_cons_zero,List.set_cons_succ] at hx
  have hg:=grown_set1 W4 g 11 (.slice (some ⟨bo,bf,none⟩) 0 0)
  have HP5:=hid (OwnPs.far HP4.out hg HEX4.out (by decide) (by decide) (by decide))
  have HQ5:=hid (OwnB.far HQ4.out hg HEX4.out (by decide) (by decide))
  have HC5:=hid (HC4.out.set g 11 (.slice (some ⟨bo,bf,none⟩) 0 0) (.inl (.inl rfl)))
  have HX5:=hid hx
  clear hx hg
  go_wp2
  go_end0
  have hRv:=HRV2.out
  subst hRv
  refine⟨rfl,pv,(.slice (some ⟨bo,bf,none⟩) 0 0),⟨HX5.out,⟨P,HEP.out,HP5.out⟩,⟨B.drop K,by rw[<-HEB.out];simp [valsB,List.map_drop],HQ5.out⟩,HGM.out⟩,HC5.out,Nxt.refl _ _,fun k hk=>.inl hk⟩
 have hbk2:bc - K≠0:=by omega
 have hx:=set_atB HEX4.out 11 (.slice (some ⟨bo,bf+K*6,none⟩) (N - K) (bc - K))
 simp only[List.setIfInBounds_toArray,List.set_cons_zero,List.set_cons_succ] at hx
 have hg:=grown_set1 W4 g 11 (.slice (some ⟨bo,bf+K*6,none⟩) (N - K) (bc - K))
 have HP5:=hid (OwnPs.far HP4.out hg HEX4.out (by decide) (by decide) (by decide))
 have HQ5:=hid (OwnB.far HQ4.out hg HEX4.out (by decide) (by decide))
 have HC5:=hid (HC4.out.set g 11 (.slice (some ⟨bo,bf+K*6,none⟩) (N - K) (bc - K)) (.inl (.inl rfl)))
 have HX5:=hid hx
 clear hx hg
 go_wp2
 go_end0
 have hRv:=HRV2.out
 subst hRv
 refine⟨rfl,pv,(.slice (some ⟨bo,bf+K*6,none⟩) (N - K) (bc - K)),⟨HX5.out,⟨P,HEP.out,HP5.out⟩,⟨B.drop K,by rw[<-HEB.out];simp [valsB,List.map_drop],HQ5.out⟩,HGM.out⟩,HC5.out,Nxt.refl _ _,fun k hk=>.inl hk⟩
end Ld
end Go.Proofs.Ytbpmfjjbfiiiaaa

/- A lead that adds, and is trimmed. No program is named here. -/
set_option linter.unusedVariables false
set_option maxRecDepth 8000
set_option linter.unusedSimpArgs false
namespace Go.Proofs.Ytbpmfjjbfiiiaaa
open Lib (hid)
open Go.RowKit
namespace Ld
open Cm Ac Pl Vw

theorem stepB_mem {d:Int} {s:BestV} {v x:VoteV} (h:x∈(stepB d s v).row):x∈s.row\/x=v:=by
 unfold stepB at h
 split at h
 ·exact List.mem_or_eq_of_mem_set h
 ·exact .inl h
theorem votesB_mem {d:Int} {x:VoteV} : ∀(l:List VoteV) (s:BestV),x∈(votesB d s l).row ->x∈s.row\/x∈l
 | [],s,h=>.inl h
 | v::l,s,h=>by
  have h':x∈(votesB d (stepB d s v) l).row :=h
  rcases votesB_mem l _ h' with q | q
  ·rcases stepB_mem q with r | r
   ·exact .inl r
   ·exact .inr (by rw[r];exact List.mem_cons_self)
  ·exact .inr (List.mem_cons_of_mem _ q)
theorem bestB_mem {d:Int} {x:VoteV} : ∀(l:List PromV) (s:BestV),x∈(bestB d s l).row ->x∈s.row\/ ∃p∈l,x∈p.votes
 | [],s,h=>.inl h
 | p::l,s,h=>by
  have h':x∈(bestB d (votesB d s p.votes) l).row :=h
  rcases bestB_mem l _ h' with q | ⟨p',hp,q⟩
  ·rcases votesB_mem _ _ q with r | r
   ·exact .inl r
   ·exact .inr ⟨p,List.mem_cons_self,r⟩
  ·exact .inr ⟨p',List.mem_cons_of_mem _ hp,q⟩
theorem bats_few {l:List PromV} (h: ∀p∈l,mayP p=true) {d:Int} {b:BatV} (hb:b∈batsF l d):b.reqs.length<=3:=by
 unfold batsF at hb
 obtain⟨v,hv,rfl⟩:=List.mem_map.1 hb
 have hz:fillB.reqs.length<=3:=by decide
 unfold Pl.batOf
 split
 ·exact hz
 ·rename_i hs
  rcases bestB_mem _ _ (List.mem_of_mem_take hv) with q | ⟨p,hp,q⟩
  ·have e:v=zeroV:=(List.mem_replicate.1 q).2
   rw[e] at hs
   exact absurd rfl hs
  ·exact mayB_few ((mayP_ok (h p hp)).votes v q).may
theorem make_few {l:List PromV} (h:okS [] l=true) (h0:l.length≠0): ∀b∈(makeF l).1.bats,b.reqs.length<=3:=by
 intro b hb
 rw[make_plan h h0] at hb
 have hall:=((okS_iff l []).1 h).1
 have hall2: ∀p∈sortP l,mayP p=true:=fun p hp=>hall p ((sortP_perm l).mem_iff.1 hp)
 generalize sortP l=m at hb hall2
 match m,hb with
 | [],hb=>cases hb
 | p::r,hb=>exact bats_few hall2 hb
structure AddI (d0 view:Int) (K:Nat) (s:LedV):Prop where
 ph:s.ph=2
 n:s.n=3
 view:s.view=view
 first:s.next - (s.bats.length:Int)=d0+1
 len:s.bats.length<=K
 top:s.next<=2305843009213693962
 reqs: ∀b∈s.bats,b.reqs.length<=1000
theorem AddI.start {view:Int} {p q:PromV} (h:okS [] [p,q]=true):AddI (makeF [p,q]).1.done view 9 (takeF (markF (markF (askL 3 view) p) q)):=by
 have mo:=make_ok h (by simp)
 have h1:=mo.d1
 have h9:=mo.l9
 refine⟨rfl,rfl,rfl,?_,mo.l9,?_,fun b hb=>by have:=make_few h (by simp) b hb;omega⟩
 ·show(makeF [p,q]).1.done +1+((makeF [p,q]).1.bats.length :Int) - ((makeF [p,q]).1.bats.length :Int)= _
  omega
 ·show(makeF [p,q]).1.done +1+((makeF [p,q]).1.bats.length :Int)<=_
  omega
theorem AddI.add {d0 view:Int} {K:Nat} {s:LedV} (h:AddI d0 view K s) (d t:Int) (rs:List ReqV) (hr:rs.length<=1000):AddI d0 view (K+1) (addF s d t rs).1:=by
 have hs:AddI d0 view (K+1) s:=⟨h.ph,h.n,h.view,h.first,Nat.le_succ_of_le h.len,h.top,h.reqs⟩
 unfold addF
 split
 ·split
  ·split
   ·rename_i q
    refine⟨h.ph,h.n,h.view,?_,?_,?_,fun b hb=>?_⟩
    ·show s.next+1 - ((s.bats++ [_]).length :Int)= _
     rw[List.length_append,List.length_singleton]
     have:=h.first
     push_cast
     omega
    ·show(s.bats++ [_]).length <=_
     rw[List.length_append,List.length_singleton]
     have:=h.len
     omega
    ·show s.next+1<=_
     omega
    ·rcases List.mem_append.1 hb with z | z
     ·exact h.reqs b z
     ·rw[List.mem_singleton] at z
      rw[z]
      exact hr
   ·exact hs
  ·exact hs
 ·exact hs
theorem votesAt_drop (view:Int): ∀(c:Nat) (l:List BatV) (t:Int),(votesAt view t l).drop c=votesAt view (t+(c:Int)) (l.drop c)
 | 0,l,t=>by simp
 | c+1,[],t=>by simp [votesAt]
 | c+1,b::l,t=>by
  rw[votesAt,List.drop_succ_cons,votesAt_drop view c l (t+1),List.drop_succ_cons]
  congr 1
  push_cast
  omega
section
variable {d0 view : Int} {K : Nat} {s : LedV}
theorem AddI.was (h:AddI d0 view K s):slotsF s d0=votesAt view (d0+1) (s.bats.take 3):=by
 have h1:=h.first
 have e1:firstF s=d0+1:=h1
 have e2:startS s d0=d0+1:=by unfold startS;rw[e1];omega
 unfold slotsF
 rw[if_neg (by omega),e2,e1,h.view,show(d0+1 - (d0+1)).toNat =0 by omega,show(d0+4 - (d0+1)).toNat =3 by omega,List.drop_zero]
theorem AddI.trim (h:AddI d0 view K s) {c:Nat} (hc:d0+(c:Int)<s.next):
  (trimF2 s (d0+(c:Int))).ph =2/\(trimF2 s (d0+(c:Int))).next =s.next/\0<=firstF (trimF2 s (d0+(c:Int))) - (d0+1)/\(∀b∈(trimF2 s (d0+(c:Int))).bats,b.reqs.length<=1000)/\slotsF (trimF2 s (d0+(c:Int))) d0=(slotsF s d0).drop c:=by
 have h1:=h.first
 have e1:firstF s=d0+1:=h1
 rw[h.was]
 unfold trimF2
 rw[if_pos h.ph,if_neg (by omega),e1]
 by_cases q:d0+1<=d0+(c:Int)
 ·rw[if_pos q]
  have hcl:c<=s.bats.length:=by omega
  have e2:(d0+(c:Int) - firstF s+1).toNat =c:=by rw[e1];omega
  unfold cutF
  rw[e2]
  refine⟨h.ph,rfl,?_,fun b hb=>h.reqs b (List.mem_of_mem_drop hb),?_⟩
  ·unfold firstF
   dsimp only
   rw[List.length_drop]
   omega
  ·have e3:firstF (⟨s.n,s.ph,s.view,s.hd,s.ps,s.bats.drop c,s.next,s.tv,s.ts,s.time⟩:LedV)=d0+1+(c:Int):=by
    unfold firstF
    dsimp only
    rw[List.length_drop]
    omega
   have e4:startS (⟨s.n,s.ph,s.view,s.hd,s.ps,s.bats.drop c,s.next,s.tv,s.ts,s.time⟩:LedV) d0=d0+1+(c:Int):=by unfold startS;rw[e3];omega
   unfold slotsF
   rw[if_neg (by dsimp only;omega),e4,e3,votesAt_drop,show(d0+1+(c:Int) - (d0+1+(c:Int))).toNat =0 by omega,List.drop_zero,List.drop_take]
   dsimp only
   rw[h.view,show(d0+4 - (d0+1+(c:Int))).toNat =3 - c by omega]
 ·have hc0:c=0:=by omega
  subst hc0
  rw[if_neg q,h.was]
  exact⟨h.ph,rfl,by rw[e1];omega,h.reqs,by simp⟩
end
end Ld
end Go.Proofs.Ytbpmfjjbfiiiaaa
