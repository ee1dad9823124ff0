/- Texts laid together by program. -/
import Derived.Test.YtlnbmblbeaodcaaGreatQS3
/- What is owned and written over; what was put and is read again. -/
set_option linter.unusedVariables false
set_option maxRecDepth 8000
set_option linter.unusedSimpArgs false
namespace Go.Proofs.YtlnbmblbeaodcaaGreat
open Lib (hid)
open Go.RowKit

theorem own_mono {w:World} {base base':Nat} {e:TypeId} {v:Value} {n:Nat} {xs:List Value} (h:w.ownsRow base e 1 v n xs) (hb:base'<=base):w.ownsRow base' e 1 v n xs:=by
 refine⟨h.1,?_⟩
 rcases h.2 with h' | ⟨g,cap,cur,h1,h2,r⟩
 ·exact .inl h'
 ·exact .inr ⟨g,cap,cur,h1,by omega,r⟩
def Owned (w:World) (base:Nat) (v:Value) (n:Nat):Prop:= ∃bs:List UInt8,bs.length=n/\w.ownsRow base 5 1 v n (cellsOf bs)
theorem Owned.cell {w:World} {base g n cap:Nat} (h:Owned w base (.slice (some ⟨g,0,none⟩) n cap) n) (k:Nat) (hk:k<n):
  ∃c:Nat,c<256/\w.cell? ⟨g,k,none⟩=some (.int .u8 (c:Int))/\w.frozen? ⟨g,k,none⟩=false/\base<=g:=by
 obtain⟨bs,hl,ho⟩:=h
 refine⟨(bs.getD k 0).toNat,UInt8.toNat_lt _,?_,ho.frozenAt k,(ho.lt g rfl).1⟩
 rw[ho.cellAt k (by omega)]
 simp [cellsOf,List.getElem?_eq_getElem (show k<bs.length by omega)]
theorem Owned.stored {w:World} {base g n cap:Nat} (h:Owned w base (.slice (some ⟨g,0,none⟩) n cap) n) (k c:Nat) (hc:c<256):
  Owned (w.setCell ⟨g,k,none⟩ (.int .u8 (c:Int))) base (.slice (some ⟨g,0,none⟩) n cap) n:=by
 obtain⟨bs,hl,ho⟩:=h
 refine⟨bs.set k (UInt8.ofNat c),by simp [hl],?_⟩
 have h1:=(ho.stored k (.int .u8 (c:Int))).1
 have e:(cellsOf bs).set k (.int .u8 (c:Int))=cellsOf (bs.set k (UInt8.ofNat c)):=by
  unfold cellsOf
  rw[List.map_set,toNat_byte c hc]
 rw[e] at h1
 exact h1
theorem Owned.below {w:World} {base n:Nat} {v:Value} (h:Owned w base v n) {a:Addr} (ha:a.block<base) (u:Value):Owned (w.setCell a u) base v n:=by
 obtain⟨bs,hl,ho⟩:=h
 exact⟨bs,hl,ownsRow_setCell_below ho ha u⟩
theorem Owned.later {w w':World} {base n:Nat} {v:Value} (h:Owned w base v n) (hb:Below w.heap.size w w'):Owned w' base v n:=by
 obtain⟨bs,hl,ho⟩:=h
 refine⟨bs,hl,ho.1,?_⟩
 rcases ho.2 with h' | ⟨g,cap,cur,h1,h2,h3,r⟩
 ·exact .inl h'
 ·refine .inr ⟨g,cap,cur,h1,h2,?_,r⟩
  rw[hb.block g (Array.getElem?_eq_some_iff.1 h3).1]
  exact h3
theorem sub_whole (a b:List UInt8) (n k:Nat) (h:a.length=k) (hn:b.length=n) (c:List UInt8):sub (a++b++c) k n=b:=by
 subst h;subst hn
 unfold sub
 rw[List.append_assoc,List.drop_left,List.take_left]
theorem numOf_put (n:Nat) (h:n<2 ^ 62) (a c:List UInt8):numOf (a++be8 n++c) a.length=((n:Int),(a.length:Int)+8,0):=by
 unfold numOf
 have hs:sub (a++be8 n++c) a.length 8=be8 n:=sub_whole a (be8 n) 8 a.length rfl rfl c
 rw[Int.toNat_natCast,hs,val_be8 n (by omega)]
 rw[if_neg (by simp [be8_length];omega),if_pos h]
def Row (n:Nat) (bs:List UInt8) (w:World) (e:Ending) (w':World):Prop:=
 ∃g cap,e= .returned (.tuple #[.slice (some ⟨g,0,none⟩) n cap,.int .i64 0])/\Owned w' w.heap.size (.slice (some ⟨g,0,none⟩) n cap) n/\Rd w' (.slice (some ⟨g,0,none⟩) n cap) bs/\Below w.heap.size w w'
theorem row_of {w w':World} {e:Ending} {n:Nat} {bs:List UInt8} (hl:bs.length=n) (hn:0<n) (h:Made (bs,0) w e w'):Row n bs w e w':=by
 obtain⟨v,he,ho,hb⟩:=h
 subst hl
 have hr:=Rd.own ho
 have hO:Owned w' w.heap.size v bs.length:=⟨bs,rfl,ho⟩
 rcases ho.2 with ⟨_,h'⟩ | ⟨g,cap,cur,rfl,_⟩
 ·exact absurd h' (by simp only;omega)
 ·exact⟨g,cap,he,hO,hr,hb⟩
theorem PutNum_row (n:Nat) (w:World) (h:n<2 ^ 62):Calls Tryz.prog 143 #[.int .i64 (n:Int)] w (Row 8 (be8 n) w):=
 (PutNum_any n w).mono fun e w' q=>row_of rfl (by omega) (by unfold putNumOf at q;rw[if_neg (by omega)] at q;simpa using q)
theorem PutText_row (s:ByteArray) (w:World) (h:s.size<=255):Calls Tryz.prog 206 #[.string s] w (Row (1+s.size) (UInt8.ofNat s.data.toList.length::s.data.toList) w):=by
 have e:s.data.toList.length=s.size:=by rw[Array.length_toList];rfl
 rw[e]
 exact(PutText_ok s w h).mono fun e w' q=>row_of (by rw[List.length_cons,Array.length_toList];show s.data.size+1=1+s.data.size;omega) (by omega) q
theorem own_empty (w:World) (base:Nat) (hb:base<=w.heap.size):(w.alloc (.cells #[] 5)).ownsRow base 5 1 (.slice (some ⟨w.heap.size,0,none⟩) 0 0) 0 []:=
 own_mono (World.ownsRow_lit (base:=w.heap.size) (e:=5) (size:=1) w #[] 0 (Nat.le_refl _) (by unfold maxLen;omega) rfl) hb
theorem Rd.pre {w:World} {g N cap m:Nat} {T:List UInt8} (h:Rd w (.slice (some ⟨g,0,none⟩) N cap) T) (hm:m<=N):Rd w (.slice (some ⟨g,0,none⟩) m cap) (T.take m):=by
 obtain⟨a,len,c,hv,hl,hc,hmx,hn,hx⟩:=h.ex
 cases hv
 refine⟨some ⟨g,0,none⟩,m,cap,rfl,by simp;omega,by omega,hmx,(fun q=>by cases q),fun x hx' hp=>?_⟩
 cases hx'
 refine⟨rfl,fun i hi=>?_⟩
 have:=(hx _ rfl (by omega)).2 i (by omega)
 rw[this]
 have e:(T.take m).getD i 0=T.getD i 0:=by simp [List.getD,List.getElem?_take,hi]
 rw[e]
theorem numOf_short (T:List UInt8) (k:Nat) (h:T.length<k+8):numOf T k=(0,0,2):=by
 unfold numOf
 rw[if_pos (by omega)]
end Go.Proofs.YtlnbmblbeaodcaaGreat

/- What package cmd answers, as plain functions over bytes: names, commands, requests; what is put is read as it was. No program is named here. -/
set_option linter.unusedVariables false
set_option maxRecDepth 8000
set_option linter.unusedSimpArgs false
namespace Go.Proofs.YtlnbmblbeaodcaaGreat
open Lib (hid)
open Go.RowKit

theorem byteOf_put (x:UInt8) (a c:List UInt8):byteOf (a++ [x]++c) a.length=((x.toNat:Int),(a.length:Int)+1,0):=by
 unfold byteOf
 rw[if_neg (by simp;omega),Int.toNat_natCast]
 simp [List.getD]
theorem textOf_put' (s:List UInt8) (h:s.length<=255) (a c:List UInt8) (m:Int) (hm:(s.length:Int)<=m):
  textOf (a++(UInt8.ofNat s.length::s)++c) a.length m=(s,(a.length:Int)+1+s.length,0):=by
 unfold textOf
 have h0:(a++(UInt8.ofNat s.length::s)++c).getD a.length 0=UInt8.ofNat s.length:=by
  simp [List.getD]
 have hn:(UInt8.ofNat s.length).toNat =s.length:=toNat_byte _ (by omega)
 have hs:sub (a++(UInt8.ofNat s.length::s)++c) (a.length+1) s.length=s:=by
  have:=sub_whole (a++ [UInt8.ofNat s.length]) s s.length (a.length+1) (by simp) rfl c
  simpa using this
 rw[Int.toNat_natCast,h0,hn]
 rw[if_neg (by simp;omega),if_neg (by omega),if_neg (by simp;omega)]
 rw[hs]
theorem textOf_short (T:List UInt8) (k:Nat) (m:Int) (s:List UInt8) (h:s.length<=255) (hm:(s.length:Int)<=m) (P:List UInt8) (j:Nat) (hj:j<1+s.length) (hk:k=P.length) (hT:T=P++(UInt8.ofNat s.length::s).take j):
  textOf T k m=([],0,2):=by
 subst hT
 subst hk
 unfold textOf
 have hlen:(P++(UInt8.ofNat s.length::s).take j).length =P.length+j:=by simp;omega
 rw[hlen]
 by_cases h0:j=0
 ·rw[if_pos (by omega)]
 ·rw[if_neg (by omega)]
  have hd:(P++(UInt8.ofNat s.length::s).take j).getD ((P.length:Int)).toNat 0=UInt8.ofNat s.length:=by
   rw[Int.toNat_natCast]
   match j,h0 with
   | j+1,_=>simp [List.getD]
  rw[hd,toNat_byte _ (by omega)]
  rw[if_neg (by omega),if_pos (by omega)]
theorem byteOf_short (T:List UInt8) (k:Nat) (h:T.length<=k):byteOf T k=(0,0,2):=by
 unfold byteOf
 rw[if_pos (by omega)]
namespace Cm

structure CmdV where
 kind:Int
 session:Int
 name:List UInt8
def zero:CmdV:=⟨0,0,[]⟩
def nameB (c:UInt8):Bool:=(decide (97<=c.toNat) && decide (c.toNat<=122)) || (decide (48<=c.toNat) && decide (c.toNat<=57)) || decide (c.toNat=45)
def nameF (s:List UInt8):Bool:=decide (1<=s.length) && decide (s.length<=12) && s.all nameB
def highF (v least:Int):Bool:=decide (least<=v) && decide (v<=2305843009213693952)
def mayF (c:CmdV):Bool:=
 if c.kind=1 then decide (c.session=0) && decide (c.name= [])
 else if c.kind=2\/c.kind=6 then highF c.session 1 && decide (c.name= [])
 else if c.kind=3\/c.kind=4\/c.kind=5 then highF c.session 1 && nameF c.name
 else false
end Cm
end Go.Proofs.YtlnbmblbeaodcaaGreat

/- What package reply answers, as plain functions over bytes: what is held, replies; what is put is read as it was. No program is named here. -/
set_option linter.unusedVariables false
set_option maxRecDepth 8000
set_option linter.unusedSimpArgs false
namespace Go.Proofs.YtlnbmblbeaodcaaGreat
open Lib (hid)
open Go.RowKit
namespace Cm

structure GrantV where
 name:List UInt8
 token:Int
structure ReplyV where
 code:Int
 session:Int
 ahead:Int
 held:List GrantV
def zeroP:ReplyV:=⟨0,0,0,[]⟩
def grantOk (p:Option (List UInt8)) (g:GrantV):Bool:=nameF g.name && highF g.token 1 && (match p with | none=>true | some q=>Op.bytesLess q g.name)
def heldOk:Option (List UInt8)->List GrantV->Bool
 | _,[]=>true
 | p,g::l=>grantOk p g && heldOk (some g.name) l
def mayP (r:ReplyV):Bool:=decide (0<=r.code) && decide (r.code<=12) && highF r.session 0 && decide (0<=r.ahead) && decide (r.ahead<=3) && decide (r.held.length<=4) && !(decide (r.session=0) && decide (0<r.held.length)) && heldOk none r.held
theorem name_len (s:List UInt8) (h:nameF s=true):s.length<=12:=by
 unfold nameF at h
 simp at h
 omega
theorem heldOk_mem (l:List GrantV): ∀p,heldOk p l=true-> ∀g∈l,g.name.length<=12/\1<=g.token/\g.token<=2305843009213693952:=by
 induction l with
 | nil=>intro p _ g hg;cases hg
 | cons x l ih=>
  intro p h g hg
  unfold heldOk at h
  simp only[Bool.and_eq_true] at h
  rcases List.mem_cons.1 hg with rfl | hg
  ·have h1:=h.1
   unfold grantOk highF at h1
   simp only[Bool.and_eq_true,decide_eq_true_eq] at h1
   exact⟨name_len _ h1.1.1,h1.1.2.1,h1.1.2.2⟩
  ·exact ih _ h.2 g hg
theorem mayP_bounds (r:ReplyV) (h:mayP r=true):(0<=r.code/\r.code<=12)/\(0<=r.session/\r.session<=2305843009213693952)/\(0<=r.ahead/\r.ahead<=3)/\r.held.length<=4/\(∀g∈r.held,g.name.length<=12/\1<=g.token/\g.token<=2305843009213693952):=by
 unfold mayP highF at h
 simp only[Bool.and_eq_true,decide_eq_true_eq] at h
 obtain⟨⟨⟨⟨⟨⟨⟨h1,h2⟩,h3,h4⟩,h5⟩,h6⟩,h7⟩,_⟩,h8⟩:=h
 exact⟨⟨h1,h2⟩,⟨h3,h4⟩,⟨h5,h6⟩,h7,heldOk_mem _ _ h8⟩
def bytesG (g:GrantV):List UInt8:=UInt8.ofNat g.name.length::(g.name++be8 g.token.toNat)
theorem bytesG_length (g:GrantV):(bytesG g).length =9+g.name.length:=by
 unfold bytesG
 simp [be8_length]
 omega
def bytesH (l:List GrantV):List UInt8:=l.flatMap bytesG
theorem bytesH_nil:bytesH []= []:=rfl
theorem bytesH_cons (g:GrantV) (l:List GrantV):bytesH (g::l)=bytesG g++bytesH l:=rfl
theorem bytesH_snoc (l:List GrantV) (g:GrantV):bytesH (l++ [g])=bytesH l++bytesG g:=by simp [bytesH]
def bytesP (r:ReplyV):List UInt8:=UInt8.ofNat r.code.toNat::(be8 r.session.toNat++(UInt8.ofNat r.ahead.toNat::UInt8.ofNat r.held.length::bytesH r.held))
theorem bytesP_length (r:ReplyV):(bytesP r).length =11+(bytesH r.held).length :=by
 unfold bytesP
 simp [be8_length]
 omega
def putP (r:ReplyV):List UInt8 × Int:=if mayP r then (bytesP r,0) else ([],1)
def getHeld (bs:List UInt8):Nat->Int->List GrantV × Int × Int
 | 0,t=>([],t,0)
 | n+1,t=>
  if (textOf bs t 12).2.2≠0 then ([],0,(textOf bs t 12).2.2) else
  if (numOf bs (textOf bs t 12).2.1).2.2≠0 then ([],0,(numOf bs (textOf bs t 12).2.1).2.2) else
  if (getHeld bs n (numOf bs (textOf bs t 12).2.1).2.1).2.2≠0 then ([],0,(getHeld bs n (numOf bs (textOf bs t 12).2.1).2.1).2.2) else
  (⟨(textOf bs t 12).1,(numOf bs (textOf bs t 12).2.1).1⟩::(getHeld bs n (numOf bs (textOf bs t 12).2.1).2.1).1,(getHeld bs n (numOf bs (textOf bs t 12).2.1).2.1).2.1,0)
theorem getHeld_succ (bs:List UInt8) (n:Nat) (t:Int):getHeld bs (n+1) t=
  (if (textOf bs t 12).2.2≠0 then ([],0,(textOf bs t 12).2.2) else
  if (numOf bs (textOf bs t 12).2.1).2.2≠0 then ([],0,(numOf bs (textOf bs t 12).2.1).2.2) else
  if (getHeld bs n (numOf bs (textOf bs t 12).2.1).2.1).2.2≠0 then ([],0,(getHeld bs n (numOf bs (textOf bs t 12).2.1).2.1).2.2) else
  (⟨(textOf bs t 12).1,(numOf bs (textOf bs t 12).2.1).1⟩::(getHeld bs n (numOf bs (textOf bs t 12).2.1).2.1).1,(getHeld bs n (numOf bs (textOf bs t 12).2.1).2.1).2.1,0)):=rfl
theorem getHeld_step (bs:List UInt8) (n:Nat) (t t1 t2 k:Int) (s:List UInt8) (h1:textOf bs t 12=(s,t1,0)) (h2:numOf bs t1=(k,t2,0)):
  getHeld bs (n+1) t=if (getHeld bs n t2).2.2≠0 then ([],0,(getHeld bs n t2).2.2) else (⟨s,k⟩::(getHeld bs n t2).1,(getHeld bs n t2).2.1,0):=by
 rw[getHeld_succ,h1]
 dsimp only
 rw[if_neg (by simp),h2]
 dsimp only
 rw[if_neg (by simp)]
theorem readG (g:GrantV) (hn:g.name.length<=12) (ht:1<=g.token/\g.token<=2305843009213693952) (a r:List UInt8):
  textOf (a++bytesG g++r) a.length 12=(g.name,(a.length:Int)+1+g.name.length,0)/\numOf (a++bytesG g++r) ((a.length:Int)+1+g.name.length)=(g.token,(a.length:Int)+1+g.name.length+8,0):=by
 have e1:a++bytesG g++r=a++(UInt8.ofNat g.name.length::g.name)++(be8 g.token.toNat++r):=by simp [bytesG]
 have e2:a++bytesG g++r=(a++(UInt8.ofNat g.name.length::g.name))++be8 g.token.toNat++r:=by simp [bytesG]
 constructor
 ·rw[e1]
  exact textOf_put' g.name (by omega) a _ 12 (by omega)
 ·have:=numOf_put g.token.toNat (by omega) (a++(UInt8.ofNat g.name.length::g.name)) r
  rw[<-e2,Int.toNat_of_nonneg (by omega)] at this
  have el:((a++(UInt8.ofNat g.name.length::g.name)).length :Int)=(a.length:Int)+1+g.name.length:=by
   simp
   omega
  rw[el] at this
  exact this
theorem getHeld_put (l:List GrantV): ∀(a r:List UInt8),(∀g∈l,g.name.length<=12/\1<=g.token/\g.token<=2305843009213693952)->getHeld (a++bytesH l++r) l.length a.length=(l,(a.length:Int)+(bytesH l).length,0):=by
 induction l with
 | nil=>
  intro a r _
  show(([]:List GrantV),(a.length:Int),(0:Int))= _
  rw[bytesH_nil]
  simp
 | cons g l ih=>
  intro a r h
  have hg:=h g List.mem_cons_self
  rw[bytesH_cons]
  have e:a++(bytesG g++bytesH l)++r=a++bytesG g++(bytesH l++r):=by simp
  have e':a++(bytesG g++bytesH l)++r=(a++bytesG g)++bytesH l++r:=by simp
  obtain⟨h1,h2⟩:=readG g hg.1 hg.2 a (bytesH l++r)
  rw[<-e] at h1 h2
  have hi:=ih (a++bytesG g) r (fun x hx=>h x (List.mem_cons_of_mem _ hx))
  rw[<-e'] at hi
  have el:((a++bytesG g).length :Int)=(a.length:Int)+1+g.name.length+8:=by
   rw[List.length_append,bytesG_length]
   omega
  rw[el] at hi
  rw[List.length_cons,getHeld_step _ _ _ _ _ _ _ h1 h2,hi]
  dsimp only
  rw[if_neg (by simp),List.length_append,bytesG_length]
  congr 2
  omega
theorem getHeld_cut (l:List GrantV): ∀(a:List UInt8) (j:Nat),(∀g∈l,g.name.length<=12/\1<=g.token/\g.token<=2305843009213693952)->j<(bytesH l).length ->getHeld (a++(bytesH l).take j) l.length a.length=([],0,2):=by
 induction l with
 | nil=>intro a j _ hj;rw[bytesH_nil] at hj;simp at hj
 | cons g l ih=>
  intro a j h hj
  have hg:=h g List.mem_cons_self
  rw[bytesH_cons,List.length_append,bytesG_length] at hj
  rw[bytesH_cons]
  by_cases hin:(bytesG g).length <=j
  ·have hb:(bytesG g++bytesH l).take j=bytesG g++(bytesH l).take (j - (bytesG g).length):=by
    rw[List.take_append,List.take_of_length_le hin]
   rw[hb]
   obtain⟨h1,h2⟩:=readG g hg.1 hg.2 a ((bytesH l).take (j - (bytesG g).length))
   have e:a++(bytesG g++(bytesH l).take (j - (bytesG g).length))=a++bytesG g++(bytesH l).take (j - (bytesG g).length):=by simp
   rw[<-e] at h1 h2
   have hi:=ih (a++bytesG g) (j - (bytesG g).length) (fun x hx=>h x (List.mem_cons_of_mem _ hx)) (by rw[bytesG_length] at hin ⊢;omega)
   rw[<-e] at hi
   have el:((a++bytesG g).length :Int)=(a.length:Int)+1+g.name.length+8:=by
    rw[List.length_append,bytesG_length]
    omega
   rw[el] at hi
   rw[List.length_cons,getHeld_step _ _ _ _ _ _ _ h1 h2,hi]
   rfl
  ·have hb:(bytesG g++bytesH l).take j=(bytesG g).take j:=by
    rw[List.take_append,show j - (bytesG g).length =0 by omega,List.take_zero,List.append_nil]
   rw[hb]
   rw[bytesG_length] at hin
   by_cases hs:j<1+g.name.length
   ·have ht:(bytesG g).take j=(UInt8.ofNat g.name.length::g.name).take j:=by
     have:bytesG g=(UInt8.ofNat g.name.length::g.name)++be8 g.token.toNat:=by simp [bytesG]
     rw[this,List.take_append,show j - (UInt8.ofNat g.name.length::g.name).length =0 by simp;omega,List.take_zero,List.append_nil]
    rw[ht]
    have h3:=textOf_short (a++(UInt8.ofNat g.name.length::g.name).take j) a.length 12 g.name (by omega) (by omega) a j hs rfl rfl
    rw[List.length_cons]
    rw[getHeld_succ,h3]
    rfl
   ·have ht:(bytesG g).take j=(UInt8.ofNat g.name.length::g.name)++(be8 g.token.toNat).take (j - (1+g.name.length)):=by
     have:bytesG g=(UInt8.ofNat g.name.length::g.name)++be8 g.token.toNat:=by simp [bytesG]
     rw[this,List.take_append,List.take_of_length_le (by simp;omega)]
     congr 2
     simp
     omega
    rw[ht]
    have h1:textOf (a++((UInt8.ofNat g.name.length::g.name)++(be8 g.token.toNat).take (j - (1+g.name.length)))) a.length 12=(g.name,(a.length:Int)+1+g.name.length,0):=by
     have:=textOf_put' g.name (by omega) a ((be8 g.token.toNat).take (j - (1+g.name.length))) 12 (by omega)
     rwa [List.append_assoc] at this
    have h2:numOf (a++((UInt8.ofNat g.name.length::g.name)++(be8 g.token.toNat).take (j - (1+g.name.length)))) ((a.length:Int)+1+g.name.length)=(0,0,2):=by
     have:=numOf_short (a++((UInt8.ofNat g.name.length::g.name)++(be8 g.token.toNat).take (j - (1+g.name.length)))) (a.length+1+g.name.length) (by simp [be8_length];omega)
     have e:((a.length+1+g.name.length:Nat):Int)=(a.length:Int)+1+g.name.length:=by omega
     rw[e] at this
     exact this
    rw[List.length_cons]
    rw[getHeld_succ,h1]
    dsimp only
    rw[if_neg (by simp),h2]
    rfl
end Cm
end Go.Proofs.YtlnbmblbeaodcaaGreat
