/- Texts laid together by program. -/
import Derived.Test.YtlnbmblbeaodcaaGreatQS49
/- Plain facts for CmdBack: a byte of a kind turned; an append beyond what there is room for. -/
set_option linter.unusedVariables false
set_option maxRecDepth 8000
set_option linter.unusedSimpArgs false
namespace Go.Proofs.YtlnbmblbeaodcaaGreat
open Lib (hid)
open Go.RowKit

theorem owns_news (w:World) (cs:Array Value) (n cap:Nat) (xs:List Value) (hx:xs.length=n) (hn:n<=cap) (hm:cap<=maxLen) (hc:cs.size=cap) (ht:cs.toList.take n=xs):
  (w.drew.alloc (.cells cs 5)).ownsRow w.heap.size 5 1 (.slice (some ⟨w.heap.size,0,none⟩) n cap) n xs:=by
 refine⟨by omega,.inr ⟨w.heap.size,cap,cs,rfl,Nat.le_refl _,?_,hn,hm,by omega,by rw[Nat.mul_one];exact ht⟩⟩
 show(w.heap.push (.cells cs 5))[w.heap.size]?= _
 simp
section
variable {P : Program} {w : World}
theorem wpList_append_full {ops:Array Oper} {rest:List Oper} {o:Oper} {a:Act} {Q:Exit->Act->World->Prop} (hgd:o.guard=none) (s x:Operand) (t:TypeId)
  (ho:o.op= .call { callee:=.builtin .append,args:=#[s,x],argTypes:=#[t,t] })
  (e:TypeId) (he:e=5) (i:TypeInfo) (ht:P.underlying t=some (.slice e)) (hi:P.info? e=some i) (hz:i.zero=some (.int .u8 0)) (hsize:i.size=1) (hby:i.bytes=1)
  (g N:Nat) (T:List UInt8) (hs:a.eval s= .slice (some ⟨g,0,none⟩) N N) (hr:Rd w (.slice (some ⟨g,0,none⟩) N N) T) (hN:0<N) (y:Value) (bs:List UInt8) (hx:a.eval x=y) (hry:Rd w y bs) (hne:0<bs.length)
  (hlen:N+bs.length<=1000000)
  (h: ∀cap w',Rd w' (.slice (some ⟨w.heap.size,0,none⟩) (N+bs.length) cap) (T++bs)->Below w.heap.size w w'->wpList P ops Q rest (a.put o.dst (.slice (some ⟨w.heap.size,0,none⟩) (N+bs.length) cap)) w'):wpList P ops Q (o::rest) a w:=by
 subst he
 obtain⟨a1,l1,c1,hv1,hl1,_,hm1,_,hx1⟩:=hr.ex
 cases hv1
 obtain⟨a2,l2,c2,rfl,hl2,hc2,hm2,hn2,hx2⟩:=hry.ex
 match a2,hn2,hx2 with
 | none,hn2,_=>have:=(hn2 rfl).1;omega
 | some ad,_,hx2=>
  obtain⟨b2,o2,s2⟩:=ad
  obtain⟨hsp,hc⟩:=hx2 _ rfl (by omega)
  simp only at hsp hc
  subst hsp
  have add: ∀(b o j:Nat),(⟨b,o,none⟩:Addr).add j=⟨b,o+j,none⟩:=fun b o j=>by unfold Addr.add;split<;>simp_all
  have hfit:=nextslicecap_le (need:=N+l2) (old:=N) (by omega)
  have hrun:=fun ty=>run_append_grow (P:=P) (w:=w) t ty 5 i (.int .u8 0) ht hi hz ⟨g,0,none⟩ N N (cellsOf T) (by rw[cellsOf_length,hsize];omega)
   (fun j v hj=>by
    obtain⟨hj',rfl⟩:=cellsOf_get T j v hj
    rw[add]
    exact(hx1 _ rfl (by omega)).2 j (by omega)) ⟨b2,o2,none⟩ l2 c2 (cellsOf bs) (by rw[cellsOf_length,hsize];omega)
   (fun j v hj=>by
    obtain⟨hj',rfl⟩:=cellsOf_get bs j v hj
    rw[add]
    exact hc j (by omega)) (by omega) (by omega) (by rw[hby];omega)
  have hge:=grownCap_ge w (N+l2) N 5
  have hle:=grownCap_le_maxLen w (N+l2) N 5 (by unfold maxLen;omega)
  generalize grownCap w (N+l2) N 5=cap at hrun hge hle
  refine Lib.wpList_append_run w hgd s x t t ho _ _ hs hx _ _ (hrun _) ?_
  rw[<-hl2]
  refine h cap _ ?_ (((Below.refl _ _).drew).alloc (Nat.le_refl _) _)
  have hTl:(T++bs).length =N+bs.length:=by rw[List.length_append,hl1]
  have:=owns_news w ((cellsOf T).toArray ++(cellsOf bs).toArray ++Builtin.zeroCells (Value.int .u8 0).cells (cap - (N+bs.length))) (N+bs.length) cap (cellsOf (T++bs)) (by rw[cellsOf_length,hTl]) (by omega) hle
   (by simp [cellsOf_length,Builtin.zeroCells,Value.cells];omega)
   (by
    simp only[Array.toList_append]
    rw[<-cellsOf_append,List.take_append_of_le_length (by rw[cellsOf_length,hTl];exact Nat.le_refl _),List.take_of_length_le (by rw[cellsOf_length,hTl];exact Nat.le_refl _)])
  rw[<-hTl] at this ⊢
  exact Rd.own this
end
namespace Cm
end Cm

theorem back_shape2 {w:World} {base N:Nat} {v:Value} {A B:List UInt8} (h:(A++B).length =N/\0<N) (ho:w.ownsRow base 5 1 v (0+A.length+B.length) ([]++cellsOf A++cellsOf B)):
  ∃g cap,v= .slice (some ⟨g,0,none⟩) N cap/\N<=cap/\base<=g/\Rd w (.slice (some ⟨g,0,none⟩) N cap) (A++B):=by
 obtain⟨h1,h2⟩:=h
 have e1: []++cellsOf A++cellsOf B=cellsOf (A++B):=by rw[List.nil_append,cellsOf_append]
 have e2:0+A.length+B.length=(A++B).length :=by rw[List.length_append];omega
 rw[e1,e2] at ho
 have hr:=Rd.own ho
 rcases ho.2 with ⟨_,h'⟩ | ⟨g,cap,cur,rfl,hb,_,hc,_⟩
 ·omega
 ·subst h1
  exact⟨g,cap,rfl,hc,hb,hr⟩
theorem Rd.full {w:World} {g N cap:Nat} {T:List UInt8} (h:Rd w (.slice (some ⟨g,0,none⟩) N cap) T):Rd w (.slice (some ⟨g,0,none⟩) N N) T:=by
 obtain⟨a,len,c,hv,hl,hc,hmx,hn,hx⟩:=h.ex
 cases hv
 exact⟨some ⟨g,0,none⟩,N,N,rfl,hl,Nat.le_refl _,by omega,(fun q=>by cases q),hx⟩
end Go.Proofs.YtlnbmblbeaodcaaGreat

/- What stage 11's laws ask besides, as plain facts: a snapshot put and read; how long its bytes are. -/
set_option linter.unusedVariables false
set_option maxRecDepth 8000
set_option linter.unusedSimpArgs false
namespace Go.Proofs.YtlnbmblbeaodcaaGreat
open Lib (hid)
open Go.RowKit
namespace Cm

def bytesSV (x:SnV):List UInt8:=be8 x.done.toNat++(be8 x.tv.toNat++(be8 x.ts.toNat++bytesSt x.st))
theorem maySV_iff {x:SnV} :maySV x=true ↔ (0<=x.done/\x.done<=2305843009213693952)/\(0<=x.tv/\x.tv<=2305843009213693952)/\(0<=x.ts/\x.ts<=2305843009213693952)/\rightA x.st=true:=by
 unfold maySV highF
 simp
theorem BackR.snap {x:SnV} (h:maySV x=true):BackR snapR (bytesSV x) x:=by
 obtain⟨h1,h2,h3,h4⟩:=maySV_iff.1 h
 have:=(show BackR snapR (be8 x.done.toNat++(be8 x.tv.toNat++(be8 x.ts.toNat++(bytesSt x.st++ [])))) (⟨x.done,x.tv,x.ts,x.st⟩:SnV) from
  (BackR.num (by omega) (by omega)).bind ((BackR.num (by omega) (by omega)).bind ((BackR.num (by omega) (by omega)).bind ((BackR.state h4).bind (BackR.pure _)))))
 rw[List.append_nil] at this
 exact this
theorem getSn_put {x:SnV} (h:maySV x=true) (a c:List UInt8):getSn (a++bytesSV x++c) a.length=(x,((a.length+(bytesSV x).length :Nat):Int),0):=by
 unfold getSn
 rw[(BackR.snap h).back a c]
 dsimp only
 rw[h]
 rfl
theorem getSn_cut {x:SnV} (h:maySV x=true) (a:List UInt8) (j:Nat) (hj:j<(bytesSV x).length):getSn (a++(bytesSV x).take j) a.length=(zeroSn,0,2):=by
 unfold getSn
 rw[(BackR.snap h).cut a j hj]
theorem bytesSt_bound {s:StV} (h:rightA s=true):27<=(bytesSt s).length /\(bytesSt s).length <=20000:=by
 have h':=h
 unfold rightA at h'
 simp only[Bool.and_eq_true] at h'
 obtain⟨⟨h1,h2,h3,h4,h5,h6⟩, -, -⟩:=h'
 obtain⟨n4,r4⟩:=(rightS_iff _).1 h4
 obtain⟨n5,r5⟩:=(rightK_iff _).1 h5
 have r6:=(rightM_iff _).1 h6
 have n6:=rm_few r6
 have b4:=flat_few bytesSes s.ses fun x _=>ses_few x
 have b5:=flat_few bytesLock s.locks fun x hx=>lock_few x (r5.one x hx)
 have b6:=flat_few bytesA s.memos fun x hx=>memo_few x (r6.may x hx)
 unfold bytesSt
 simp only[List.length_append,be8_length,List.length_singleton,List.length_nil]
 omega
theorem bytesSV_bound {x:SnV} (h:maySV x=true):51<=(bytesSV x).length /\(bytesSV x).length <=30000:=by
 have:=bytesSt_bound (maySV_iff.1 h).2.2.2
 unfold bytesSV
 simp only[List.length_append,be8_length]
 omega
theorem bytesSV_drop (x:SnV):(bytesSV x).drop 24=bytesSt x.st:=by
 unfold bytesSV
 rw[<-List.append_assoc,<-List.append_assoc]
 exact List.drop_left' (by simp [be8_length])
theorem rd_drop24 {w:World} {g N cap:Nat} {T:List UInt8} (h:Rd w (.slice (some ⟨g,0,none⟩) N cap) T) (hN:24<=N):Rd w (.slice (some ⟨g,24,none⟩) (N - 24) (cap - 24)) (T.drop 24):=by
 obtain⟨a,len,c,hv,hl,hc,hm,hn,hx⟩:=h.ex
 cases hv
 refine⟨some ⟨g,24,none⟩,N - 24,cap - 24,rfl,by rw[List.length_drop,hl],by omega,by omega,(fun q=>by cases q),fun x hx' hp=>?_⟩
 cases hx'
 obtain⟨_,hi⟩:=hx _ rfl (by omega)
 refine⟨rfl,fun i h'=>?_⟩
 have:=hi (24+i) (by omega)
 simp only[Nat.zero_add] at this
 dsimp only
 rw[this]
 simp [List.getD,List.getElem?_drop]
theorem Rst.fits {x:StC} (h:Rst x.v):x.S.length<=1000/\x.K.length<=9223372036854775807/\(∀k∈x.K,k.line.length<=1000)/\(∀k∈x.K,k.name.length<=maxLen):=
 ⟨h.small.s,by have:=h.small.k;omega,h.small.l,h.names⟩
theorem PutSnap_row (x:SnapC) (w:World) (h:RdSt w x.st) (hR:Rst x.st.v) (hm:maySn x=true) (L:Nat) (hL:(bytesSn x).length =L) (h0:0<L):Calls Tryz.prog 25 #[snapVal x] w (Row L (bytesSn x) w):=
 (PutSnap_any x w h hR.fits.1 hR.fits.2.1 hR.fits.2.2.1 hR.fits.2.2.2).mono fun e w' q=>by
  unfold putSn at q
  rw[if_pos hm] at q
  exact row_of hL h0 q
theorem SnapPut_row (x:StC) (w:World) (h:RdSt w x) (hR:Rst x.v) (L:Nat) (hL:(bytesSt x.v).length =L) (h0:0<L):Calls Tryz.prog 21 #[stVal x] w (Row L (bytesSt x.v) w):=
 (SnapPut_any x w h hR.fits.1 hR.fits.2.1 hR.fits.2.2.1 hR.fits.2.2.2).mono fun e w' q=>by
  unfold putSt at q
  rw[if_pos ((rightA_iff x.v).2 hR)] at q
  exact row_of hL h0 q
end Cm
end Go.Proofs.YtlnbmblbeaodcaaGreat
