/- Texts laid together by program. -/
import Derived.Test.YtlaomehfhooiaaaQ4
/- Plain facts on bytes of numbers. -/
set_option linter.unusedVariables false
set_option linter.unusedSimpArgs false
namespace Go.Proofs.Ytlaomehfhooiaaa
open Lib (hid)
open Go.RowKit

def valr:List UInt8->Nat
 | []=>0
 | x::l=>x.toNat*256 ^ l.length+valr l
theorem valr_lt (l:List UInt8):valr l<256 ^ l.length:=by
 induction l with
 | nil=>simp [valr]
 | cons x l ih=>
  have hx:=UInt8.toNat_lt x
  have h2:(x.toNat+1)*256 ^ l.length<=256*256 ^ l.length:=Nat.mul_le_mul_right _ (by omega)
  rw[valr,List.length_cons,Nat.pow_succ,Nat.mul_comm (256 ^ l.length) 256]
  rw[Nat.add_mul] at h2
  omega
theorem val_valr (l:List UInt8) (a:Nat):l.foldl (fun a x=>a*256+x.toNat) a=a*256 ^ l.length+valr l:=by
 induction l generalizing a with
 | nil=>simp [valr]
 | cons x l ih=>
  rw[List.foldl_cons,ih,valr,List.length_cons,Nat.pow_succ,Nat.add_mul,Nat.mul_comm (256 ^ l.length) 256,Nat.mul_assoc,Nat.add_assoc]
theorem val_eq (l:List UInt8):val l=valr l:=by
 have:=val_valr l 0
 simpa [val] using this
theorem val_be8 (n:Nat) (h:n<2 ^ 64):val (be8 n)=n:=by
 have t:=fun i=>toNat_byte (beByte n i) (beByte_lt n i)
 simp only[val,be8,List.foldl_cons,List.foldl_nil,t]
 simp only[beByte]
 omega
end Go.Proofs.Ytlaomehfhooiaaa

/- What is owned and written over; what was put and is read again. -/
set_option linter.unusedVariables false
set_option linter.unusedSimpArgs false
namespace Go.Proofs.Ytlaomehfhooiaaa
open Lib (hid)
open Go.RowKit

def Owned (w:World) (base:Nat) (v:Value) (n:Nat):Prop:= ∃bs:List UInt8,bs.length=n/\w.ownsRow base 5 1 v n (cellsOf bs)
theorem Owned.cell {w:World} {base g n cap:Nat} (h:Owned w base (.slice (some ⟨g,0,none⟩) n cap) n) (k:Nat) (hk:k<n):
  ∃c:Nat,c<256/\w.cell? ⟨g,k,none⟩=some (.int .u8 (c:Int))/\w.frozen? ⟨g,k,none⟩=false/\base<=g:=by
 obtain⟨bs,hl,ho⟩:=h
 refine⟨(bs.getD k 0).toNat,UInt8.toNat_lt _,?_,ho.frozenAt k,(ho.lt g rfl).1⟩
 rw[ho.cellAt k (by omega)]
 simp [cellsOf,List.getElem?_eq_getElem (show k<bs.length by omega)]
theorem Owned.stored {w:World} {base g n cap:Nat} (h:Owned w base (.slice (some ⟨g,0,none⟩) n cap) n) (k c:Nat) (hc:c<256):
  Owned (w.setCell ⟨g,k,none⟩ (.int .u8 (c:Int))) base (.slice (some ⟨g,0,none⟩) n cap) n:=by
 obtain⟨bs,hl,ho⟩:=h
 refine⟨bs.set k (UInt8.ofNat c),by simp [hl],?_⟩
 have h1:=(ho.stored k (.int .u8 (c:Int))).1
 have e:(cellsOf bs).set k (.int .u8 (c:Int))=cellsOf (bs.set k (UInt8.ofNat c)):=by
  unfold cellsOf
  rw[List.map_set,toNat_byte c hc]
 rw[e] at h1
 exact h1
theorem Owned.below {w:World} {base n:Nat} {v:Value} (h:Owned w base v n) {a:Addr} (ha:a.block<base) (u:Value):Owned (w.setCell a u) base v n:=by
 obtain⟨bs,hl,ho⟩:=h
 exact⟨bs,hl,ownsRow_setCell_below ho ha u⟩
theorem Owned.later {w w':World} {base n:Nat} {v:Value} (h:Owned w base v n) (hb:Below w.heap.size w w'):Owned w' base v n:=by
 obtain⟨bs,hl,ho⟩:=h
 refine⟨bs,hl,ho.1,?_⟩
 rcases ho.2 with h' | ⟨g,cap,cur,h1,h2,h3,r⟩
 ·exact .inl h'
 ·refine .inr ⟨g,cap,cur,h1,h2,?_,r⟩
  rw[hb.block g (Array.getElem?_eq_some_iff.1 h3).1]
  exact h3
theorem sub_whole (a b:List UInt8) (n k:Nat) (h:a.length=k) (hn:b.length=n) (c:List UInt8):sub (a++b++c) k n=b:=by
 subst h;subst hn
 unfold sub
 rw[List.append_assoc,List.drop_left,List.take_left]
theorem numOf_put (n:Nat) (h:n<2 ^ 62) (a c:List UInt8):numOf (a++be8 n++c) a.length=((n:Int),(a.length:Int)+8,0):=by
 unfold numOf
 have hs:sub (a++be8 n++c) a.length 8=be8 n:=sub_whole a (be8 n) 8 a.length rfl rfl c
 rw[Int.toNat_natCast,hs,val_be8 n (by omega)]
 rw[if_neg (by simp [be8_length];omega),if_pos h]
def Row (n:Nat) (bs:List UInt8) (w:World) (e:Ending) (w':World):Prop:=
 ∃g cap,e= .returned (.tuple #[.slice (some ⟨g,0,none⟩) n cap,.int .i64 0])/\Owned w' w.heap.size (.slice (some ⟨g,0,none⟩) n cap) n/\Rd w' (.slice (some ⟨g,0,none⟩) n cap) bs/\Below w.heap.size w w'
theorem row_of {w w':World} {e:Ending} {n:Nat} {bs:List UInt8} (hl:bs.length=n) (hn:0<n) (h:Made (bs,0) w e w'):Row n bs w e w':=by
 obtain⟨v,he,ho,hb⟩:=h
 subst hl
 have hr:=Rd.own ho
 have hO:Owned w' w.heap.size v bs.length:=⟨bs,rfl,ho⟩
 rcases ho.2 with ⟨_,h'⟩ | ⟨g,cap,cur,rfl,_⟩
 ·exact absurd h' (by simp only;omega)
 ·exact⟨g,cap,he,hO,hr,hb⟩
theorem own_empty (w:World) (base:Nat) (hb:base<=w.heap.size):(w.alloc (.cells #[] 5)).ownsRow base 5 1 (.slice (some ⟨w.heap.size,0,none⟩) 0 0) 0 []:=
 own_mono (World.ownsRow_lit (base:=w.heap.size) (e:=5) (size:=1) w #[] 0 (Nat.le_refl _) (by unfold maxLen;omega) rfl) hb
theorem Rd.pre {w:World} {g N cap m:Nat} {T:List UInt8} (h:Rd w (.slice (some ⟨g,0,none⟩) N cap) T) (hm:m<=N):Rd w (.slice (some ⟨g,0,none⟩) m cap) (T.take m):=by
 obtain⟨a,len,c,hv,hl,hc,hmx,hn,hx⟩:=h.ex
 cases hv
 refine⟨some ⟨g,0,none⟩,m,cap,rfl,by simp;omega,by omega,hmx,(fun q=>by cases q),fun x hx' hp=>?_⟩
 cases hx'
 refine⟨rfl,fun i hi=>?_⟩
 have:=(hx _ rfl (by omega)).2 i (by omega)
 rw[this]
 have e:(T.take m).getD i 0=T.getD i 0:=by simp [List.getD,List.getElem?_take,hi]
 rw[e]
theorem numOf_short (T:List UInt8) (k:Nat) (h:T.length<k+8):numOf T k=(0,0,2):=by
 unfold numOf
 rw[if_pos (by omega)]
end Go.Proofs.Ytlaomehfhooiaaa

/- What package cmd answers, as plain functions over bytes: names, commands, requests; what is put is read as it was. No program is named here. -/
set_option linter.unusedVariables false
set_option linter.unusedSimpArgs false
namespace Go.Proofs.Ytlaomehfhooiaaa
open Lib (hid)
open Go.RowKit

theorem byteOf_put (x:UInt8) (a c:List UInt8):byteOf (a++ [x]++c) a.length=((x.toNat:Int),(a.length:Int)+1,0):=by
 unfold byteOf
 rw[if_neg (by simp;omega),Int.toNat_natCast]
 simp [List.getD]
theorem textOf_put' (s:List UInt8) (h:s.length<=255) (a c:List UInt8) (m:Int) (hm:(s.length:Int)<=m):
  textOf (a++(UInt8.ofNat s.length::s)++c) a.length m=(s,(a.length:Int)+1+s.length,0):=by
 unfold textOf
 have h0:(a++(UInt8.ofNat s.length::s)++c).getD a.length 0=UInt8.ofNat s.length:=by
  simp [List.getD]
 have hn:(UInt8.ofNat s.length).toNat =s.length:=toNat_byte _ (by omega)
 have hs:sub (a++(UInt8.ofNat s.length::s)++c) (a.length+1) s.length=s:=by
  have:=sub_whole (a++ [UInt8.ofNat s.length]) s s.length (a.length+1) (by simp) rfl c
  simpa using this
 rw[Int.toNat_natCast,h0,hn]
 rw[if_neg (by simp;omega),if_neg (by omega),if_neg (by simp;omega)]
 rw[hs]
theorem textOf_short (T:List UInt8) (k:Nat) (m:Int) (s:List UInt8) (h:s.length<=255) (hm:(s.length:Int)<=m) (P:List UInt8) (j:Nat) (hj:j<1+s.length) (hk:k=P.length) (hT:T=P++(UInt8.ofNat s.length::s).take j):
  textOf T k m=([],0,2):=by
 subst hT
 subst hk
 unfold textOf
 have hlen:(P++(UInt8.ofNat s.length::s).take j).length =P.length+j:=by simp;omega
 rw[hlen]
 by_cases h0:j=0
 ·rw[if_pos (by omega)]
 ·rw[if_neg (by omega)]
  have hd:(P++(UInt8.ofNat s.length::s).take j).getD ((P.length:Int)).toNat 0=UInt8.ofNat s.length:=by
   rw[Int.toNat_natCast]
   match j,h0 with
   | j+1,_=>simp [List.getD]
  rw[hd,toNat_byte _ (by omega)]
  rw[if_neg (by omega),if_pos (by omega)]
theorem byteOf_short (T:List UInt8) (k:Nat) (h:T.length<=k):byteOf T k=(0,0,2):=by
 unfold byteOf
 rw[if_pos (by omega)]
namespace Cm

theorem getF_of (bs:List UInt8) (t:Int) (k t1 s t2 t3:Int) (n:List UInt8) (h1:byteOf bs t=(k,t1,0)) (h2:numOf bs t1=(s,t2,0)) (h3:textOf bs t2 12=(n,t3,0)):
  getF bs t=if mayF ⟨k,s,n⟩ then (⟨k,s,n⟩,t3,0) else (zero,0,4):=by
 unfold getF
 rw[h1]
 dsimp only
 rw[if_neg (by simp),h2]
 dsimp only
 rw[if_neg (by simp),h3]
 dsimp only
 rw[if_neg (by simp)]
theorem getF_put (c:CmdV) (h:mayF c=true) (a r:List UInt8):getF (a++bytesC c++r) a.length=(c,(a.length:Int)+(10+c.name.length),0):=by
 obtain⟨hk,hs,hn⟩:=may_bounds c h
 have e1:a++bytesC c++r=a++ [UInt8.ofNat c.kind.toNat]++(be8 c.session.toNat++(UInt8.ofNat c.name.length::c.name)++r):=by simp [bytesC]
 have e2:a++bytesC c++r=(a++ [UInt8.ofNat c.kind.toNat])++be8 c.session.toNat++((UInt8.ofNat c.name.length::c.name)++r):=by simp [bytesC]
 have e3:a++bytesC c++r=(a++ [UInt8.ofNat c.kind.toNat]++be8 c.session.toNat)++(UInt8.ofNat c.name.length::c.name)++r:=by simp [bytesC]
 have h1:byteOf (a++bytesC c++r) a.length=(c.kind,(a.length:Int)+1,0):=by
  rw[e1,byteOf_put,toNat_byte _ (by omega),Int.toNat_of_nonneg (by omega)]
 have h2:numOf (a++bytesC c++r) ((a.length:Int)+1)=(c.session,(a.length:Int)+1+8,0):=by
  have:=numOf_put c.session.toNat (by omega) (a++ [UInt8.ofNat c.kind.toNat]) ((UInt8.ofNat c.name.length::c.name)++r)
  rw[<-e2,Int.toNat_of_nonneg (by omega)] at this
  simpa using this
 have h3:textOf (a++bytesC c++r) ((a.length:Int)+1+8) 12=(c.name,(a.length:Int)+1+8+1+c.name.length,0):=by
  have:=textOf_put' c.name (by omega) (a++ [UInt8.ofNat c.kind.toNat]++be8 c.session.toNat) r 12 (by omega)
  rw[<-e3] at this
  have el:((a++ [UInt8.ofNat c.kind.toNat]++be8 c.session.toNat).length :Int)=(a.length:Int)+1+8:=by
   simp [be8_length]
   omega
  rw[el] at this
  exact this
 rw[getF_of _ _ _ _ _ _ _ _ h1 h2 h3]
 have e:(⟨c.kind,c.session,c.name⟩:CmdV)=c:=rfl
 rw[e,if_pos h]
 congr 2
 omega
theorem getF_cut (c:CmdV) (h:mayF c=true) (a:List UInt8) (j:Nat) (hj:j<(bytesC c).length):getF (a++(bytesC c).take j) a.length=(zero,0,2):=by
 obtain⟨hk,hs,hn⟩:=may_bounds c h
 rw[bytesC_length] at hj
 by_cases j0:j=0
 ·subst j0
  unfold getF
  rw[byteOf_short _ _ (by simp)]
  rfl
 ·obtain⟨j,rfl⟩: ∃i,j=i+1:=⟨j - 1,by omega⟩
  have ht:(bytesC c).take (j+1)=UInt8.ofNat c.kind.toNat::(be8 c.session.toNat++(UInt8.ofNat c.name.length::c.name)).take j:=rfl
  rw[ht]
  have h1:byteOf (a++(UInt8.ofNat c.kind.toNat::(be8 c.session.toNat++(UInt8.ofNat c.name.length::c.name)).take j)) a.length=(c.kind,(a.length:Int)+1,0):=by
   have:=byteOf_put (UInt8.ofNat c.kind.toNat) a ((be8 c.session.toNat++(UInt8.ofNat c.name.length::c.name)).take j)
   rw[toNat_byte _ (by omega),Int.toNat_of_nonneg (by omega)] at this
   simpa using this
  by_cases j8:j<8
  ·have h2:numOf (a++(UInt8.ofNat c.kind.toNat::(be8 c.session.toNat++(UInt8.ofNat c.name.length::c.name)).take j)) ((a.length:Int)+1)=(0,0,2):=by
    have:=numOf_short (a++(UInt8.ofNat c.kind.toNat::(be8 c.session.toNat++(UInt8.ofNat c.name.length::c.name)).take j)) (a.length+1) (by simp [be8_length];omega)
    simpa using this
   unfold getF
   rw[h1]
   dsimp only
   rw[if_neg (by simp),h2]
   rfl
  ·have hb:(be8 c.session.toNat++(UInt8.ofNat c.name.length::c.name)).take j=be8 c.session.toNat++(UInt8.ofNat c.name.length::c.name).take (j - 8):=by
    rw[List.take_append,List.take_of_length_le (by rw[be8_length];omega),be8_length]
   rw[hb] at h1 ⊢
   have h2:numOf (a++(UInt8.ofNat c.kind.toNat::(be8 c.session.toNat++(UInt8.ofNat c.name.length::c.name).take (j - 8)))) ((a.length:Int)+1)=(c.session,(a.length:Int)+1+8,0):=by
    have:=numOf_put c.session.toNat (by omega) (a++ [UInt8.ofNat c.kind.toNat]) ((UInt8.ofNat c.name.length::c.name).take (j - 8))
    rw[Int.toNat_of_nonneg (by omega)] at this
    simpa using this
   have h3:textOf (a++(UInt8.ofNat c.kind.toNat::(be8 c.session.toNat++(UInt8.ofNat c.name.length::c.name).take (j - 8)))) ((a.length:Int)+1+8) 12=([],0,2):=by
    have:=textOf_short (a++(UInt8.ofNat c.kind.toNat::(be8 c.session.toNat++(UInt8.ofNat c.name.length::c.name).take (j - 8)))) (a.length+1+8) 12 c.name (by omega) (by omega) (a++ [UInt8.ofNat c.kind.toNat]++be8 c.session.toNat) (j - 8) (by omega) (by simp [be8_length]) (by simp)
    have e:((a.length+1+8:Nat):Int)=(a.length:Int)+1+8:=by omega
    rw[e] at this
    exact this
   unfold getF
   rw[h1]
   dsimp only
   rw[if_neg (by simp),h2]
   dsimp only
   rw[if_neg (by simp),h3]
   rfl
end Cm
end Go.Proofs.Ytlaomehfhooiaaa

/- What package cmd answers of requests, as plain functions over bytes. No program is named here. -/
set_option linter.unusedVariables false
set_option linter.unusedSimpArgs false
namespace Go.Proofs.Ytlaomehfhooiaaa
open Lib (hid)
open Go.RowKit
namespace Cm

theorem getR_of (bs:List UInt8) (t:Int) (k t1 s t2 t3:Int) (c:CmdV) (h1:byteOf bs t=(k,t1,0)) (h2:numOf bs t1=(s,t2,0)) (h3:getF bs t2=(c,t3,0)):
  getR bs t=if mayR ⟨k,s,c⟩ then (⟨k,s,c⟩,t3,0) else (zeroR,0,4):=by
 unfold getR
 rw[h1]
 dsimp only
 rw[if_neg (by simp),h2]
 dsimp only
 rw[if_neg (by simp),h3]
 dsimp only
 rw[if_neg (by simp)]
theorem getR_put (r:ReqV) (h:mayR r=true) (a b:List UInt8):getR (a++bytesR r++b) a.length=(r,(a.length:Int)+(19+r.cmd.name.length),0):=by
 obtain⟨hk,hs,hc⟩:=mayR_bounds r h
 have e1:a++bytesR r++b=a++ [UInt8.ofNat r.client.toNat]++(be8 r.seq.toNat++bytesC r.cmd++b):=by simp [bytesR]
 have e2:a++bytesR r++b=(a++ [UInt8.ofNat r.client.toNat])++be8 r.seq.toNat++(bytesC r.cmd++b):=by simp [bytesR]
 have e3:a++bytesR r++b=(a++ [UInt8.ofNat r.client.toNat]++be8 r.seq.toNat)++bytesC r.cmd++b:=by simp [bytesR]
 have h1:byteOf (a++bytesR r++b) a.length=(r.client,(a.length:Int)+1,0):=by
  rw[e1,byteOf_put,toNat_byte _ (by omega),Int.toNat_of_nonneg (by omega)]
 have h2:numOf (a++bytesR r++b) ((a.length:Int)+1)=(r.seq,(a.length:Int)+1+8,0):=by
  have:=numOf_put r.seq.toNat (by omega) (a++ [UInt8.ofNat r.client.toNat]) (bytesC r.cmd++b)
  rw[<-e2,Int.toNat_of_nonneg (by omega)] at this
  simpa using this
 have h3:getF (a++bytesR r++b) ((a.length:Int)+1+8)=(r.cmd,(a.length:Int)+1+8+(10+r.cmd.name.length),0):=by
  have:=getF_put r.cmd hc (a++ [UInt8.ofNat r.client.toNat]++be8 r.seq.toNat) b
  rw[<-e3] at this
  have el:((a++ [UInt8.ofNat r.client.toNat]++be8 r.seq.toNat).length :Int)=(a.length:Int)+1+8:=by
   simp [be8_length]
   omega
  rw[el] at this
  exact this
 rw[getR_of _ _ _ _ _ _ _ _ h1 h2 h3]
 have e:(⟨r.client,r.seq,r.cmd⟩:ReqV)=r:=rfl
 rw[e,if_pos h]
 congr 2
 omega
theorem getR_cut (r:ReqV) (h:mayR r=true) (a:List UInt8) (j:Nat) (hj:j<(bytesR r).length):getR (a++(bytesR r).take j) a.length=(zeroR,0,2):=by
 obtain⟨hk,hs,hc⟩:=mayR_bounds r h
 rw[bytesR_length] at hj
 by_cases j0:j=0
 ·subst j0
  unfold getR
  rw[byteOf_short _ _ (by simp)]
  rfl
 ·obtain⟨j,rfl⟩: ∃i,j=i+1:=⟨j - 1,by omega⟩
  have ht:(bytesR r).take (j+1)=UInt8.ofNat r.client.toNat::(be8 r.seq.toNat++bytesC r.cmd).take j:=rfl
  rw[ht]
  have h1:byteOf (a++(UInt8.ofNat r.client.toNat::(be8 r.seq.toNat++bytesC r.cmd).take j)) a.length=(r.client,(a.length:Int)+1,0):=by
   have:=byteOf_put (UInt8.ofNat r.client.toNat) a ((be8 r.seq.toNat++bytesC r.cmd).take j)
   rw[toNat_byte _ (by omega),Int.toNat_of_nonneg (by omega)] at this
   simpa using this
  by_cases j8:j<8
  ·have h2:numOf (a++(UInt8.ofNat r.client.toNat::(be8 r.seq.toNat++bytesC r.cmd).take j)) ((a.length:Int)+1)=(0,0,2):=by
    have:=numOf_short (a++(UInt8.ofNat r.client.toNat::(be8 r.seq.toNat++bytesC r.cmd).take j)) (a.length+1) (by simp [be8_length];omega)
    simpa using this
   unfold getR
   rw[h1]
   dsimp only
   rw[if_neg (by simp),h2]
   rfl
  ·have hb:(be8 r.seq.toNat++bytesC r.cmd).take j=be8 r.seq.toNat++(bytesC r.cmd).take (j - 8):=by
    rw[List.take_append,List.take_of_length_le (by rw[be8_length];omega),be8_length]
   rw[hb] at h1 ⊢
   have h2:numOf (a++(UInt8.ofNat r.client.toNat::(be8 r.seq.toNat++(bytesC r.cmd).take (j - 8)))) ((a.length:Int)+1)=(r.seq,(a.length:Int)+1+8,0):=by
    have:=numOf_put r.seq.toNat (by omega) (a++ [UInt8.ofNat r.client.toNat]) ((bytesC r.cmd).take (j - 8))
    rw[Int.toNat_of_nonneg (by omega)] at this
    simpa using this
   have h3:getF (a++(UInt8.ofNat r.client.toNat::(be8 r.seq.toNat++(bytesC r.cmd).take (j - 8)))) ((a.length:Int)+1+8)=(zero,0,2):=by
    have:=getF_cut r.cmd hc (a++ [UInt8.ofNat r.client.toNat]++be8 r.seq.toNat) (j - 8) (by rw[bytesC_length];omega)
    have el:((a++ [UInt8.ofNat r.client.toNat]++be8 r.seq.toNat).length :Int)=(a.length:Int)+1+8:=by
     simp [be8_length]
     omega
    rw[el] at this
    simpa using this
   unfold getR
   rw[h1]
   dsimp only
   rw[if_neg (by simp),h2]
   dsimp only
   rw[if_neg (by simp),h3]
   rfl
end Cm
end Go.Proofs.Ytlaomehfhooiaaa

/- What is read determines the bytes that it was read from (numbers, texts, commands, requests). No program is named here. -/
set_option linter.unusedVariables false
set_option maxRecDepth 8000
set_option linter.unusedSimpArgs false
namespace Go.Proofs.Ytlaomehfhooiaaa
open Lib (hid)
open Go.RowKit
namespace Cm

theorem split_eq (x y m p q:Nat) (hp:p<m) (hq:q<m) (h:x*m+p=y*m+q):x=y/\p=q:=by
 rcases Nat.lt_trichotomy x y with g | g | g
 ·have:(x+1)*m<=y*m:=Nat.mul_le_mul_right _ g
  rw[Nat.add_mul] at this
  omega
 ·subst g
  exact⟨rfl,by omega⟩
 ·have:(y+1)*m<=x*m:=Nat.mul_le_mul_right _ g
  rw[Nat.add_mul] at this
  omega
theorem valr_inj: ∀a b:List UInt8,a.length=b.length->valr a=valr b->a=b
 | [],[],_,_=>rfl
 | x::a,y::b,hl,hv=>by
  have hl':a.length=b.length:=by simpa using hl
  have h1:=valr_lt a
  have h2:=valr_lt b
  rw[valr,valr,hl'] at hv
  rw[hl'] at h1
  obtain⟨e1,e2⟩:=split_eq _ _ _ _ _ h1 h2 hv
  rw[UInt8.toNat_inj.1 e1,valr_inj a b hl' e2]
theorem be8_val (l:List UInt8) (h:l.length=8):be8 (val l)=l:=by
 have hl:val l<2 ^ 64:=by
  have:=val_lt l
  rw[h] at this
  omega
 refine valr_inj _ _ (by rw[be8_length,h]) ?_
 rw[<-val_eq,<-val_eq,val_be8 _ hl]
theorem take_sub (bs:List UInt8) (n k:Nat):bs.take (n+k)=bs.take n++sub bs n k:=by
 unfold sub
 exact List.take_add
theorem byte_fit {bs:List UInt8} {n:Nat} {k t':Int} (h:byteOf bs (n:Int)=(k,t',0)):
  t'=((n+1:Nat):Int)/\0<=k/\n+1<=bs.length/\bs.take (n+1)=bs.take n++ [UInt8.ofNat k.toNat]:=by
 unfold byteOf at h
 by_cases g:(n:Int)<0\/(bs.length:Int)<=(n:Int)
 ·rw[if_pos g] at h
  exact absurd (congrArg (fun x=>x.2.2) h) (by simp)
 ·rw[if_neg g] at h
  have e1:=congrArg (fun x=>x.1) h
  have e2:=congrArg (fun x=>x.2.1) h
  dsimp only at e1 e2
  rw[Int.toNat_natCast] at e1
  have hn:n<bs.length:=by omega
  refine⟨by omega,by omega,hn,?_⟩
  rw[<-e1,Int.toNat_natCast,UInt8.ofNat_toNat,List.take_succ_eq_append_getElem hn]
  simp [List.getD,List.getElem?_eq_getElem hn]
theorem num_fit {bs:List UInt8} {n:Nat} {v t':Int} (h:numOf bs (n:Int)=(v,t',0)):
  t'=((n+8:Nat):Int)/\0<=v/\n+8<=bs.length/\bs.take (n+8)=bs.take n++be8 v.toNat:=by
 unfold numOf at h
 by_cases g:(n:Int)<0\/(bs.length:Int)<(n:Int)+8
 ·rw[if_pos g] at h
  exact absurd (congrArg (fun x=>x.2.2) h) (by simp)
 ·rw[if_neg g] at h
  by_cases g2:val (sub bs ((n:Int)).toNat 8)<2 ^ 62
  ·rw[if_pos g2] at h
   have e1:=congrArg (fun x=>x.1) h
   have e2:=congrArg (fun x=>x.2.1) h
   dsimp only at e1 e2
   rw[Int.toNat_natCast] at e1
   have hl:=sub_length bs n 8 (by omega)
   refine⟨by omega,by omega,by omega,?_⟩
   rw[<-e1,Int.toNat_natCast,be8_val _ hl,take_sub]
  ·rw[if_neg g2] at h
   exact absurd (congrArg (fun x=>x.2.2) h) (by simp)
theorem text_fit {bs:List UInt8} {n:Nat} {m t':Int} {s:List UInt8} (h:textOf bs (n:Int) m=(s,t',0)):
  t'=((n+(1+s.length):Nat):Int)/\n+(1+s.length)<=bs.length/\bs.take (n+(1+s.length))=bs.take n++(UInt8.ofNat s.length::s):=by
 unfold textOf at h
 by_cases g:(n:Int)<0\/(bs.length:Int)<=(n:Int)
 ·rw[if_pos g] at h
  exact absurd (congrArg (fun x=>x.2.2) h) (by simp)
 ·rw[if_neg g] at h
  by_cases g2:m<((bs.getD ((n:Int)).toNat 0).toNat :Int)
  ·rw[if_pos g2] at h
   exact absurd (congrArg (fun x=>x.2.2) h) (by simp)
  ·rw[if_neg g2] at h
   by_cases g3:(bs.length:Int)<(n:Int)+1+(bs.getD ((n:Int)).toNat 0).toNat
   ·rw[if_pos g3] at h
    exact absurd (congrArg (fun x=>x.2.2) h) (by simp)
   ·rw[if_neg g3] at h
    have e1:=congrArg (fun x=>x.1) h
    have e2:=congrArg (fun x=>x.2.1) h
    dsimp only at e1 e2
    rw[Int.toNat_natCast] at e1 e2 g3
    have hn:n<bs.length:=by omega
    have hl:=sub_length bs (n+1) (bs.getD n 0).toNat (by omega)
    rw[e1] at hl
    refine⟨by omega,by omega,?_⟩
    have e5:UInt8.ofNat s.length=bs.getD n 0:=by rw[hl,UInt8.ofNat_toNat]
    have e6:bs.getD n 0=bs[n]:=by simp [List.getD,List.getElem?_eq_getElem hn]
    rw[e5,<-Nat.add_assoc,take_sub,hl,e1,List.take_succ_eq_append_getElem hn,e6,List.append_assoc]
    rfl
theorem getF_told' (bs:List UInt8) (t:Int) {k t1 e1 s t2 e2 t3 e3:Int} {n:List UInt8} (hB:byteOf bs t=(k,t1,e1)) (hN:numOf bs t1=(s,t2,e2)) (hT:textOf bs t2 12=(n,t3,e3)):
  getF bs t=if e1≠0 then (zero,0,e1) else if e2≠0 then (zero,0,e2) else if e3≠0 then (zero,0,e3) else if mayF ⟨k,s,n⟩ then (⟨k,s,n⟩,t3,0) else (zero,0,4):=by
 unfold getF
 rw[hB]
 dsimp only
 rw[hN]
 dsimp only
 rw[hT]
theorem cmd_fit {bs:List UInt8} {n:Nat} {c:CmdV} {t':Int} (h:getF bs (n:Int)=(c,t',0)):
  t'=((n+(bytesC c).length :Nat):Int)/\n+(bytesC c).length <=bs.length/\bs.take (n+(bytesC c).length)=bs.take n++bytesC c/\mayF c=true:=by
 rcases hB:byteOf bs (n:Int) with ⟨k,t1,e1⟩
 rcases hN:numOf bs t1 with ⟨s,t2,e2⟩
 rcases hT:textOf bs t2 12 with ⟨nm,t3,e3⟩
 rw[getF_told' bs _ hB hN hT] at h
 by_cases z1:e1≠0
 ·rw[if_pos z1] at h
  exact absurd (congrArg (fun x=>x.2.2) h) z1
 rw[if_neg z1] at h
 by_cases z2:e2≠0
 ·rw[if_pos z2] at h
  exact absurd (congrArg (fun x=>x.2.2) h) z2
 rw[if_neg z2] at h
 by_cases z3:e3≠0
 ·rw[if_pos z3] at h
  exact absurd (congrArg (fun x=>x.2.2) h) z3
 rw[if_neg z3] at h
 obtain rfl:e1=0:=by omega
 obtain rfl:e2=0:=by omega
 obtain rfl:e3=0:=by omega
 by_cases z4:mayF ⟨k,s,nm⟩=true
 ·rw[if_pos z4] at h
  have q1:(⟨k,s,nm⟩:CmdV)=c:=congrArg (fun x=>x.1) h
  have q2:t3=t':=congrArg (fun x=>x.2.1) h
  subst q1
  subst q2
  obtain⟨f1,f2,f3,f4⟩:=byte_fit hB
  subst f1
  obtain⟨g1,g2,g3,g4⟩:=num_fit hN
  subst g1
  obtain⟨l1,l2,l3⟩:=text_fit hT
  have hlen:(bytesC ⟨k,s,nm⟩).length =10+nm.length:=bytesC_length _
  have en:n+(10+nm.length)=n+1+8+(1+nm.length):=by omega
  rw[hlen]
  refine⟨by omega,by omega,?_,z4⟩
  rw[en,l3,g4,f4]
  simp [bytesC]
 ·rw[if_neg z4] at h
  exact absurd (congrArg (fun x=>x.2.2) h) (by simp)
theorem getR_told' (bs:List UInt8) (t:Int) {k t1 e1 s t2 e2 t3 e3:Int} {c:CmdV} (hB:byteOf bs t=(k,t1,e1)) (hN:numOf bs t1=(s,t2,e2)) (hT:getF bs t2=(c,t3,e3)):
  getR bs t=if e1≠0 then (zeroR,0,e1) else if e2≠0 then (zeroR,0,e2) else if e3≠0 then (zeroR,0,e3) else if mayR ⟨k,s,c⟩ then (⟨k,s,c⟩,t3,0) else (zeroR,0,4):=by
 unfold getR
 rw[hB]
 dsimp only
 rw[hN]
 dsimp only
 rw[hT]
theorem req_fit {bs:List UInt8} {n:Nat} {r:ReqV} {t':Int} (h:getR bs (n:Int)=(r,t',0)):
  t'=((n+(bytesR r).length :Nat):Int)/\n+(bytesR r).length <=bs.length/\bs.take (n+(bytesR r).length)=bs.take n++bytesR r/\mayR r=true:=by
 rcases hB:byteOf bs (n:Int) with ⟨k,t1,e1⟩
 rcases hN:numOf bs t1 with ⟨s,t2,e2⟩
 rcases hT:getF bs t2 with ⟨c,t3,e3⟩
 rw[getR_told' bs _ hB hN hT] at h
 by_cases z1:e1≠0
 ·rw[if_pos z1] at h
  exact absurd (congrArg (fun x=>x.2.2) h) z1
 rw[if_neg z1] at h
 by_cases z2:e2≠0
 ·rw[if_pos z2] at h
  exact absurd (congrArg (fun x=>x.2.2) h) z2
 rw[if_neg z2] at h
 by_cases z3:e3≠0
 ·rw[if_pos z3] at h
  exact absurd (congrArg (fun x=>x.2.2) h) z3
 rw[if_neg z3] at h
 obtain rfl:e1=0:=by omega
 obtain rfl:e2=0:=by omega
 obtain rfl:e3=0:=by omega
 by_cases z4:mayR ⟨k,s,c⟩=true
 ·rw[if_pos z4] at h
  have q1:(⟨k,s,c⟩:ReqV)=r:=congrArg (fun x=>x.1) h
  have q2:t3=t':=congrArg (fun x=>x.2.1) h
  subst q1
  subst q2
  obtain⟨f1,f2,f3,f4⟩:=byte_fit hB
  subst f1
  obtain⟨g1,g2,g3,g4⟩:=num_fit hN
  subst g1
  obtain⟨l1,l2,l3,_⟩:=cmd_fit hT
  have hlen:(bytesR ⟨k,s,c⟩).length =1+8+(bytesC c).length :=by simp [bytesR,be8_length];omega
  rw[hlen]
  have en:n+(1+8+(bytesC c).length)=n+1+8+(bytesC c).length :=by omega
  refine⟨by omega,by omega,?_,z4⟩
  rw[en,l3,g4,f4]
  simp [bytesR]
 ·rw[if_neg z4] at h
  exact absurd (congrArg (fun x=>x.2.2) h) (by simp)
end Cm
end Go.Proofs.Ytlaomehfhooiaaa
