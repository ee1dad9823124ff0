/- Texts laid together by program. -/
import Derived.Test.YtlnbmblbeaodcaaGreatQS4
import Derived.Maps.AppendAt
import Derived.Deep.AppendLies
/- What package reply answers, on: replies and answers read. No program is named here. -/
set_option linter.unusedVariables false
set_option maxRecDepth 8000
set_option linter.unusedSimpArgs false
namespace Go.Proofs.YtlnbmblbeaodcaaGreat
open Lib (hid)
open Go.RowKit
namespace Cm

def getP (bs:List UInt8) (t:Int):ReplyV × Int × Int:=
 if (byteOf bs t).2.2≠0 then (zeroP,0,(byteOf bs t).2.2) else
 if (numOf bs (byteOf bs t).2.1).2.2≠0 then (zeroP,0,(numOf bs (byteOf bs t).2.1).2.2) else
 if (byteOf bs (numOf bs (byteOf bs t).2.1).2.1).2.2≠0 then (zeroP,0,(byteOf bs (numOf bs (byteOf bs t).2.1).2.1).2.2) else
 if (byteOf bs (byteOf bs (numOf bs (byteOf bs t).2.1).2.1).2.1).2.2≠0 then (zeroP,0,(byteOf bs (byteOf bs (numOf bs (byteOf bs t).2.1).2.1).2.1).2.2) else
 if 4<(byteOf bs (byteOf bs (numOf bs (byteOf bs t).2.1).2.1).2.1).1 then (zeroP,0,4) else
 if (getHeld bs (byteOf bs (byteOf bs (numOf bs (byteOf bs t).2.1).2.1).2.1).1.toNat (byteOf bs (byteOf bs (numOf bs (byteOf bs t).2.1).2.1).2.1).2.1).2.2≠0 then
  (zeroP,0,(getHeld bs (byteOf bs (byteOf bs (numOf bs (byteOf bs t).2.1).2.1).2.1).1.toNat (byteOf bs (byteOf bs (numOf bs (byteOf bs t).2.1).2.1).2.1).2.1).2.2) else
 if mayP ⟨(byteOf bs t).1,(numOf bs (byteOf bs t).2.1).1,(byteOf bs (numOf bs (byteOf bs t).2.1).2.1).1,(getHeld bs (byteOf bs (byteOf bs (numOf bs (byteOf bs t).2.1).2.1).2.1).1.toNat (byteOf bs (byteOf bs (numOf bs (byteOf bs t).2.1).2.1).2.1).2.1).1⟩ then
  (⟨(byteOf bs t).1,(numOf bs (byteOf bs t).2.1).1,(byteOf bs (numOf bs (byteOf bs t).2.1).2.1).1,(getHeld bs (byteOf bs (byteOf bs (numOf bs (byteOf bs t).2.1).2.1).2.1).1.toNat (byteOf bs (byteOf bs (numOf bs (byteOf bs t).2.1).2.1).2.1).2.1).1⟩,
   (getHeld bs (byteOf bs (byteOf bs (numOf bs (byteOf bs t).2.1).2.1).2.1).1.toNat (byteOf bs (byteOf bs (numOf bs (byteOf bs t).2.1).2.1).2.1).2.1).2.1,0)
 else (zeroP,0,4)
theorem getP_of (bs:List UInt8) (t k t1 s t2 a t3 n t4:Int) (h1:byteOf bs t=(k,t1,0)) (h2:numOf bs t1=(s,t2,0)) (h3:byteOf bs t2=(a,t3,0)) (h4:byteOf bs t3=(n,t4,0)) (hn:n<=4):
  getP bs t=if (getHeld bs n.toNat t4).2.2≠0 then (zeroP,0,(getHeld bs n.toNat t4).2.2) else if mayP ⟨k,s,a,(getHeld bs n.toNat t4).1⟩ then (⟨k,s,a,(getHeld bs n.toNat t4).1⟩,(getHeld bs n.toNat t4).2.1,0) else (zeroP,0,4):=by
 unfold getP
 rw[h1]
 dsimp only
 rw[if_neg (by simp),h2]
 dsimp only
 rw[if_neg (by simp),h3]
 dsimp only
 rw[if_neg (by simp),h4]
 dsimp only
 rw[if_neg (by simp),if_neg (by omega)]
theorem headP (r:ReplyV) (hc:0<=r.code/\r.code<=12) (hs:0<=r.session/\r.session<=2305843009213693952) (ha:0<=r.ahead/\r.ahead<=3) (hl:r.held.length<=4) (a x:List UInt8):
  byteOf (a++(UInt8.ofNat r.code.toNat::(be8 r.session.toNat++(UInt8.ofNat r.ahead.toNat::UInt8.ofNat r.held.length::x)))) a.length=(r.code,(a.length:Int)+1,0)/\
  numOf (a++(UInt8.ofNat r.code.toNat::(be8 r.session.toNat++(UInt8.ofNat r.ahead.toNat::UInt8.ofNat r.held.length::x)))) ((a.length:Int)+1)=(r.session,(a.length:Int)+9,0)/\
  byteOf (a++(UInt8.ofNat r.code.toNat::(be8 r.session.toNat++(UInt8.ofNat r.ahead.toNat::UInt8.ofNat r.held.length::x)))) ((a.length:Int)+9)=(r.ahead,(a.length:Int)+10,0)/\
  byteOf (a++(UInt8.ofNat r.code.toNat::(be8 r.session.toNat++(UInt8.ofNat r.ahead.toNat::UInt8.ofNat r.held.length::x)))) ((a.length:Int)+10)=((r.held.length:Int),(a.length:Int)+11,0):=by
 refine⟨?_,?_,?_,?_⟩
 ·have:=byteOf_put (UInt8.ofNat r.code.toNat) a (be8 r.session.toNat++(UInt8.ofNat r.ahead.toNat::UInt8.ofNat r.held.length::x))
  rw[toNat_byte _ (by omega),Int.toNat_of_nonneg (by omega)] at this
  simpa using this
 ·have:=numOf_put r.session.toNat (by omega) (a++ [UInt8.ofNat r.code.toNat]) (UInt8.ofNat r.ahead.toNat::UInt8.ofNat r.held.length::x)
  rw[Int.toNat_of_nonneg (by omega)] at this
  have el:((a++ [UInt8.ofNat r.code.toNat]).length :Int)=(a.length:Int)+1:=by simp
  rw[el] at this
  have e:(a.length:Int)+1+8=(a.length:Int)+9:=by omega
  rw[e] at this
  simpa using this
 ·have:=byteOf_put (UInt8.ofNat r.ahead.toNat) (a++ [UInt8.ofNat r.code.toNat]++be8 r.session.toNat) (UInt8.ofNat r.held.length::x)
  rw[toNat_byte _ (by omega),Int.toNat_of_nonneg (by omega)] at this
  have el:((a++ [UInt8.ofNat r.code.toNat]++be8 r.session.toNat).length :Int)=(a.length:Int)+9:=by simp [be8_length]<;>omega
  rw[el] at this
  have e:(a.length:Int)+9+1=(a.length:Int)+10:=by omega
  rw[e] at this
  simpa using this
 ·have:=byteOf_put (UInt8.ofNat r.held.length) (a++ [UInt8.ofNat r.code.toNat]++be8 r.session.toNat++ [UInt8.ofNat r.ahead.toNat]) x
  rw[toNat_byte _ (by omega)] at this
  have el:((a++ [UInt8.ofNat r.code.toNat]++be8 r.session.toNat++ [UInt8.ofNat r.ahead.toNat]).length :Int)=(a.length:Int)+10:=by simp [be8_length]<;>omega
  rw[el] at this
  have e:(a.length:Int)+10+1=(a.length:Int)+11:=by omega
  rw[e] at this
  simpa using this
theorem getP_put (r:ReplyV) (h:mayP r=true) (a b:List UInt8):getP (a++bytesP r++b) a.length=(r,(a.length:Int)+(11+(bytesH r.held).length),0):=by
 obtain⟨hc,hs,ha,hl,hg⟩:=mayP_bounds r h
 have e:a++bytesP r++b=a++(UInt8.ofNat r.code.toNat::(be8 r.session.toNat++(UInt8.ofNat r.ahead.toNat::UInt8.ofNat r.held.length::(bytesH r.held++b)))):=by simp [bytesP]
 obtain⟨h1,h2,h3,h4⟩:=headP r hc hs ha hl a (bytesH r.held++b)
 rw[<-e] at h1 h2 h3 h4
 have e5:a++bytesP r++b=(a++ [UInt8.ofNat r.code.toNat]++be8 r.session.toNat++ [UInt8.ofNat r.ahead.toNat,UInt8.ofNat r.held.length])++bytesH r.held++b:=by simp [bytesP]
 have h5:=getHeld_put r.held (a++ [UInt8.ofNat r.code.toNat]++be8 r.session.toNat++ [UInt8.ofNat r.ahead.toNat,UInt8.ofNat r.held.length]) b hg
 have el:((a++ [UInt8.ofNat r.code.toNat]++be8 r.session.toNat++ [UInt8.ofNat r.ahead.toNat,UInt8.ofNat r.held.length]).length :Int)=(a.length:Int)+11:=by simp [be8_length]<;>omega
 rw[<-e5,el] at h5
 rw[getP_of _ _ _ _ _ _ _ _ _ _ h1 h2 h3 h4 (by omega),Int.toNat_natCast,h5]
 dsimp only
 have e6:(⟨r.code,r.session,r.ahead,r.held⟩:ReplyV)=r:=rfl
 rw[if_neg (by simp),e6,if_pos h]
 congr 2
 omega
theorem getP_cut (r:ReplyV) (h:mayP r=true) (a:List UInt8) (j:Nat) (hj:j<(bytesP r).length):getP (a++(bytesP r).take j) a.length=(zeroP,0,2):=by
 obtain⟨hc,hs,ha,hl,hg⟩:=mayP_bounds r h
 rw[bytesP_length] at hj
 have hlen:(a++(bytesP r).take j).length =a.length+j:=by rw[List.length_append,List.length_take,bytesP_length];omega
 by_cases j0:j=0
 ·subst j0
  unfold getP
  rw[byteOf_short _ _ (by rw[hlen];omega)]
  rfl
 ·by_cases j11:j<11
  ·have h1:byteOf (a++(bytesP r).take j) a.length=((((a++(bytesP r).take j).getD a.length 0).toNat :Int),(a.length:Int)+1,0):=by
    unfold byteOf
    rw[if_neg (by rw[hlen];omega),Int.toNat_natCast]
   by_cases j9:j<9
   ·have h2:numOf (a++(bytesP r).take j) ((a.length:Int)+1)=(0,0,2):=by
     have:=numOf_short (a++(bytesP r).take j) (a.length+1) (by rw[hlen];omega)
     simpa using this
    unfold getP
    rw[h1]
    dsimp only
    rw[if_neg (by simp),h2]
    rfl
   ·have ht:(bytesP r).take j=UInt8.ofNat r.code.toNat::(be8 r.session.toNat++(UInt8.ofNat r.ahead.toNat::UInt8.ofNat r.held.length::bytesH r.held).take (j - 9)):=by
     have e1:bytesP r=(UInt8.ofNat r.code.toNat::be8 r.session.toNat)++(UInt8.ofNat r.ahead.toNat::UInt8.ofNat r.held.length::bytesH r.held):=by simp [bytesP]
     rw[e1,List.take_append,List.take_of_length_le (by simp [be8_length];omega)]
     have e2:j - (UInt8.ofNat r.code.toNat::be8 r.session.toNat).length =j - 9:=by simp [be8_length]
     rw[e2]
     rfl
    have h2:numOf (a++(bytesP r).take j) ((a.length:Int)+1)=(r.session,(a.length:Int)+1+8,0):=by
     rw[ht]
     have:=numOf_put r.session.toNat (by omega) (a++ [UInt8.ofNat r.code.toNat]) ((UInt8.ofNat r.ahead.toNat::UInt8.ofNat r.held.length::bytesH r.held).take (j - 9))
     rw[Int.toNat_of_nonneg (by omega)] at this
     simpa using this
    by_cases j10:j=9
    ·have h3:byteOf (a++(bytesP r).take j) ((a.length:Int)+1+8)=(0,0,2):=by
      have:=byteOf_short (a++(bytesP r).take j) (a.length+1+8) (by rw[hlen];omega)
      have e:((a.length+1+8:Nat):Int)=(a.length:Int)+1+8:=by omega
      rw[e] at this
      exact this
     unfold getP
     rw[h1]
     dsimp only
     rw[if_neg (by simp),h2]
     dsimp only
     rw[if_neg (by simp),h3]
     rfl
    ·have h3:byteOf (a++(bytesP r).take j) ((a.length:Int)+1+8)=((((a++(bytesP r).take j).getD (a.length+9) 0).toNat :Int),(a.length:Int)+1+8+1,0):=by
      unfold byteOf
      have e:((a.length:Int)+1+8).toNat =a.length+9:=by omega
      rw[if_neg (by rw[hlen];omega),e]
     have h4:byteOf (a++(bytesP r).take j) ((a.length:Int)+1+8+1)=(0,0,2):=by
      have:=byteOf_short (a++(bytesP r).take j) (a.length+1+8+1) (by rw[hlen];omega)
      have e:((a.length+1+8+1:Nat):Int)=(a.length:Int)+1+8+1:=by omega
      rw[e] at this
      exact this
     unfold getP
     rw[h1]
     dsimp only
     rw[if_neg (by simp),h2]
     dsimp only
     rw[if_neg (by simp),h3]
     dsimp only
     rw[if_neg (by simp),h4]
     rfl
  ·have ht:(bytesP r).take j=UInt8.ofNat r.code.toNat::(be8 r.session.toNat++(UInt8.ofNat r.ahead.toNat::UInt8.ofNat r.held.length::(bytesH r.held).take (j - 11))):=by
    have e1:bytesP r=(UInt8.ofNat r.code.toNat::(be8 r.session.toNat++ [UInt8.ofNat r.ahead.toNat,UInt8.ofNat r.held.length]))++bytesH r.held:=by simp [bytesP]
    rw[e1,List.take_append,List.take_of_length_le (by simp [be8_length];omega)]
    have e2:j - (UInt8.ofNat r.code.toNat::(be8 r.session.toNat++ [UInt8.ofNat r.ahead.toNat,UInt8.ofNat r.held.length])).length =j - 11:=by simp [be8_length]
    rw[e2]
    simp
   rw[ht]
   obtain⟨h1,h2,h3,h4⟩:=headP r hc hs ha hl a ((bytesH r.held).take (j - 11))
   have h5:=getHeld_cut r.held (a++ [UInt8.ofNat r.code.toNat]++be8 r.session.toNat++ [UInt8.ofNat r.ahead.toNat,UInt8.ofNat r.held.length]) (j - 11) hg (by omega)
   have el:((a++ [UInt8.ofNat r.code.toNat]++be8 r.session.toNat++ [UInt8.ofNat r.ahead.toNat,UInt8.ofNat r.held.length]).length :Int)=(a.length:Int)+11:=by simp [be8_length]<;>omega
   rw[el] at h5
   have e5:(a++ [UInt8.ofNat r.code.toNat]++be8 r.session.toNat++ [UInt8.ofNat r.ahead.toNat,UInt8.ofNat r.held.length])++(bytesH r.held).take (j - 11)=a++(UInt8.ofNat r.code.toNat::(be8 r.session.toNat++(UInt8.ofNat r.ahead.toNat::UInt8.ofNat r.held.length::(bytesH r.held).take (j - 11)))):=by simp
   rw[e5] at h5
   rw[getP_of _ _ _ _ _ _ _ _ _ _ h1 h2 h3 h4 (by omega),Int.toNat_natCast,h5]
   rfl
end Cm
end Go.Proofs.YtlnbmblbeaodcaaGreat

/- What package reply answers of answers, as plain functions over bytes. No program is named here. -/
set_option linter.unusedVariables false
set_option maxRecDepth 8000
set_option linter.unusedSimpArgs false
namespace Go.Proofs.YtlnbmblbeaodcaaGreat
open Lib (hid)
open Go.RowKit
namespace Cm

structure AnsV where
 client:Int
 seq:Int
 rep:ReplyV
def zeroA:AnsV:=⟨0,0,zeroP⟩
def mayA (r:AnsV):Bool:=decide (0<=r.client) && decide (r.client<8) && highF r.seq 1 && mayP r.rep
theorem mayA_bounds (r:AnsV) (h:mayA r=true):(0<=r.client/\r.client<=7)/\(1<=r.seq/\r.seq<=2305843009213693952)/\mayP r.rep=true:=by
 unfold mayA highF at h
 simp at h
 obtain⟨⟨⟨h1,h2⟩,h3,h4⟩,h5⟩:=h
 exact⟨by omega,by omega,h5⟩
def bytesA (r:AnsV):List UInt8:=UInt8.ofNat r.client.toNat::(be8 r.seq.toNat++bytesP r.rep)
theorem bytesA_length (r:AnsV):(bytesA r).length =20+(bytesH r.rep.held).length :=by
 unfold bytesA
 simp [be8_length,bytesP_length]
 omega
def putA (r:AnsV):List UInt8 × Int:=if mayA r then (bytesA r,0) else ([],1)
def getA (bs:List UInt8) (t:Int):AnsV × Int × Int:=
 if (byteOf bs t).2.2≠0 then (zeroA,0,(byteOf bs t).2.2) else
 if (numOf bs (byteOf bs t).2.1).2.2≠0 then (zeroA,0,(numOf bs (byteOf bs t).2.1).2.2) else
 if (getP bs (numOf bs (byteOf bs t).2.1).2.1).2.2≠0 then (zeroA,0,(getP bs (numOf bs (byteOf bs t).2.1).2.1).2.2) else
 if mayA ⟨(byteOf bs t).1,(numOf bs (byteOf bs t).2.1).1,(getP bs (numOf bs (byteOf bs t).2.1).2.1).1⟩ then
  (⟨(byteOf bs t).1,(numOf bs (byteOf bs t).2.1).1,(getP bs (numOf bs (byteOf bs t).2.1).2.1).1⟩,(getP bs (numOf bs (byteOf bs t).2.1).2.1).2.1,0)
 else (zeroA,0,4)
theorem getA_of (bs:List UInt8) (t:Int) (k t1 s t2 t3:Int) (c:ReplyV) (h1:byteOf bs t=(k,t1,0)) (h2:numOf bs t1=(s,t2,0)) (h3:getP bs t2=(c,t3,0)):
  getA bs t=if mayA ⟨k,s,c⟩ then (⟨k,s,c⟩,t3,0) else (zeroA,0,4):=by
 unfold getA
 rw[h1]
 dsimp only
 rw[if_neg (by simp),h2]
 dsimp only
 rw[if_neg (by simp),h3]
 dsimp only
 rw[if_neg (by simp)]
theorem getA_put (r:AnsV) (h:mayA r=true) (a b:List UInt8):getA (a++bytesA r++b) a.length=(r,(a.length:Int)+(20+(bytesH r.rep.held).length),0):=by
 obtain⟨hk,hs,hc⟩:=mayA_bounds r h
 have e1:a++bytesA r++b=a++ [UInt8.ofNat r.client.toNat]++(be8 r.seq.toNat++bytesP r.rep++b):=by simp [bytesA]
 have e2:a++bytesA r++b=(a++ [UInt8.ofNat r.client.toNat])++be8 r.seq.toNat++(bytesP r.rep++b):=by simp [bytesA]
 have e3:a++bytesA r++b=(a++ [UInt8.ofNat r.client.toNat]++be8 r.seq.toNat)++bytesP r.rep++b:=by simp [bytesA]
 have h1:byteOf (a++bytesA r++b) a.length=(r.client,(a.length:Int)+1,0):=by
  rw[e1,byteOf_put,toNat_byte _ (by omega),Int.toNat_of_nonneg (by omega)]
 have h2:numOf (a++bytesA r++b) ((a.length:Int)+1)=(r.seq,(a.length:Int)+1+8,0):=by
  have:=numOf_put r.seq.toNat (by omega) (a++ [UInt8.ofNat r.client.toNat]) (bytesP r.rep++b)
  rw[<-e2,Int.toNat_of_nonneg (by omega)] at this
  simpa using this
 have h3:getP (a++bytesA r++b) ((a.length:Int)+1+8)=(r.rep,(a.length:Int)+1+8+(11+(bytesH r.rep.held).length),0):=by
  have:=getP_put r.rep hc (a++ [UInt8.ofNat r.client.toNat]++be8 r.seq.toNat) b
  rw[<-e3] at this
  have el:((a++ [UInt8.ofNat r.client.toNat]++be8 r.seq.toNat).length :Int)=(a.length:Int)+1+8:=by
   simp [be8_length]
   omega
  rw[el] at this
  exact this
 rw[getA_of _ _ _ _ _ _ _ _ h1 h2 h3]
 have e:(⟨r.client,r.seq,r.rep⟩:AnsV)=r:=rfl
 rw[e,if_pos h]
 congr 2
 omega
theorem getA_cut (r:AnsV) (h:mayA r=true) (a:List UInt8) (j:Nat) (hj:j<(bytesA r).length):getA (a++(bytesA r).take j) a.length=(zeroA,0,2):=by
 obtain⟨hk,hs,hc⟩:=mayA_bounds r h
 rw[bytesA_length] at hj
 by_cases j0:j=0
 ·subst j0
  unfold getA
  rw[byteOf_short _ _ (by simp)]
  rfl
 ·obtain⟨j,rfl⟩: ∃i,j=i+1:=⟨j - 1,by omega⟩
  have ht:(bytesA r).take (j+1)=UInt8.ofNat r.client.toNat::(be8 r.seq.toNat++bytesP r.rep).take j:=rfl
  rw[ht]
  have h1:byteOf (a++(UInt8.ofNat r.client.toNat::(be8 r.seq.toNat++bytesP r.rep).take j)) a.length=(r.client,(a.length:Int)+1,0):=by
   have:=byteOf_put (UInt8.ofNat r.client.toNat) a ((be8 r.seq.toNat++bytesP r.rep).take j)
   rw[toNat_byte _ (by omega),Int.toNat_of_nonneg (by omega)] at this
   simpa using this
  by_cases j8:j<8
  ·have h2:numOf (a++(UInt8.ofNat r.client.toNat::(be8 r.seq.toNat++bytesP r.rep).take j)) ((a.length:Int)+1)=(0,0,2):=by
    have:=numOf_short (a++(UInt8.ofNat r.client.toNat::(be8 r.seq.toNat++bytesP r.rep).take j)) (a.length+1) (by simp [be8_length];omega)
    simpa using this
   unfold getA
   rw[h1]
   dsimp only
   rw[if_neg (by simp),h2]
   rfl
  ·have hb:(be8 r.seq.toNat++bytesP r.rep).take j=be8 r.seq.toNat++(bytesP r.rep).take (j - 8):=by
    rw[List.take_append,List.take_of_length_le (by rw[be8_length];omega),be8_length]
   rw[hb] at h1 ⊢
   have h2:numOf (a++(UInt8.ofNat r.client.toNat::(be8 r.seq.toNat++(bytesP r.rep).take (j - 8)))) ((a.length:Int)+1)=(r.seq,(a.length:Int)+1+8,0):=by
    have:=numOf_put r.seq.toNat (by omega) (a++ [UInt8.ofNat r.client.toNat]) ((bytesP r.rep).take (j - 8))
    rw[Int.toNat_of_nonneg (by omega)] at this
    simpa using this
   have h3:getP (a++(UInt8.ofNat r.client.toNat::(be8 r.seq.toNat++(bytesP r.rep).take (j - 8)))) ((a.length:Int)+1+8)=(zeroP,0,2):=by
    have:=getP_cut r.rep hc (a++ [UInt8.ofNat r.client.toNat]++be8 r.seq.toNat) (j - 8) (by rw[bytesP_length];omega)
    have el:((a++ [UInt8.ofNat r.client.toNat]++be8 r.seq.toNat).length :Int)=(a.length:Int)+1+8:=by
     simp [be8_length]
     omega
    rw[el] at this
    simpa using this
   unfold getA
   rw[h1]
   dsimp only
   rw[if_neg (by simp),h2]
   dsimp only
   rw[if_neg (by simp),h3]
   rfl
end Cm
end Go.Proofs.YtlnbmblbeaodcaaGreat

/- Rows that a call owns: what stays, two that grow side by side; slices that read as cells. No program is named here. -/
set_option linter.unusedVariables false
set_option maxRecDepth 8000
set_option linter.unusedSimpArgs false
namespace Go.Proofs.YtlnbmblbeaodcaaGreat
open Lib (hid)
open Go.RowKit
namespace Rw

theorem own_keep {w w':World} {base:Nat} {e:TypeId} {size n:Nat} {v:Value} {xs:List Value} (h:w.ownsRow base e size v n xs) (hb: ∀g,v.ownBlock=some g->w'.heap[g]?=w.heap[g]?):w'.ownsRow base e size v n xs:=by
 refine⟨h.1,?_⟩
 rcases h.2 with ⟨rfl,hn⟩ | ⟨g,cap,cur,rfl,h1,h2,h3⟩
 ·exact .inl ⟨rfl,hn⟩
 ·exact .inr ⟨g,cap,cur,rfl,h1,by rw[hb g rfl];exact h2,h3⟩
theorem own_lt {w:World} {base:Nat} {e:TypeId} {size n:Nat} {v:Value} {xs:List Value} (h:w.ownsRow base e size v n xs) (g:Nat) (hg:v.ownBlock=some g):base<=g/\g<w.heap.size:=by
 rcases h.2 with ⟨rfl,hn⟩ | ⟨g',cap,cur,rfl,h1,h2,h3⟩
 ·cases hg
 ·have:g'=g:=by simpa [Value.ownBlock] using hg
  subst this
  refine⟨h1,?_⟩
  rcases Nat.lt_or_ge g' w.heap.size with q | q
  ·exact q
  ·rw[Array.getElem?_eq_none q] at h2;cases h2
theorem own_below {w w':World} {base:Nat} {e:TypeId} {size n:Nat} {v:Value} {xs:List Value} (h:w.ownsRow base e size v n xs) (hb:Below w.heap.size w w'):w'.ownsRow base e size v n xs:=
 own_keep h fun g hg=>hb.block g (own_lt h g hg).2
theorem own_alloc {w:World} {base:Nat} {e:TypeId} {size n:Nat} {v:Value} {xs:List Value} (h:w.ownsRow base e size v n xs) (o:Obj):(w.alloc o).ownsRow base e size v n xs:=
 own_below h (newAlloc w o)
def Apart (u v:Value):Prop:= ∀g,u.ownBlock=some g->v.ownBlock≠some g
theorem Apart.symm {u v:Value} (h:Apart u v):Apart v u:=fun g hv hu=>h g hu hv
theorem Apart.nil (v:Value):Apart (.slice none 0 0) v:=fun g h=>by cases h
theorem own_other {w w':World} {base:Nat} {e:TypeId} {size n:Nat} {u v:Value} {xs:List Value} (h:w.ownsRow base e size v n xs) (hg:w.grownBy w' u.ownBlock) (ha:Apart u v):w'.ownsRow base e size v n xs:=
 own_keep h fun g q=>hg.block g (own_lt h g q).2 (fun e=>ha g e.symm q)
theorem own_form {w:World} {base:Nat} {e:TypeId} {size n:Nat} {v:Value} {xs:List Value} (h:w.ownsRow base e size v n xs): ∃a c,v= .slice a n c:=by
 rcases h.2 with ⟨rfl,hn⟩ | ⟨g,cap,cur,rfl,_⟩
 ·subst hn;exact⟨none,0,rfl⟩
 ·exact⟨_,_,rfl⟩
theorem rd_other {w w':World} {u:Value} {g n cap:Nat} {bs:List UInt8} (h:Rd w (.slice (some ⟨g,0,none⟩) n cap) bs) (hl:g<w.heap.size) (hg:w.grownBy w' u.ownBlock) (hne:u.ownBlock≠some g):Rd w' (.slice (some ⟨g,0,none⟩) n cap) bs:=by
 have hb:=hg.block g hl (fun e=>hne e.symm)
 obtain⟨a,len,c,hv,hle,hc,hmx,hn,hx⟩:=h.ex
 cases hv
 refine⟨some ⟨g,0,none⟩,n,cap,rfl,hle,hc,hmx,(fun q=>by cases q),fun x hx' hp=>?_⟩
 cases hx'
 obtain⟨h1,h2⟩:=hx _ rfl hp
 refine⟨rfl,fun i hi=>?_⟩
 rw[World.cell?_of_block (w:=w) (a:=⟨g,0+i,none⟩) hb]
 exact h2 i hi
theorem own_ne {w:World} {base:Nat} {e:TypeId} {size n:Nat} {v:Value} {xs:List Value} (h:w.ownsRow base e size v n xs) {g:Nat} (hg:w.heap.size<=g):v.ownBlock≠some g:=fun q=>by
 have:=(own_lt h g q).2
 omega
section
variable {P : Program} {w : World}
end
end Rw
end Go.Proofs.YtlnbmblbeaodcaaGreat
