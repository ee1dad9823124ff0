/- Texts laid together by program. -/
import Derived.WalkKit
import Derived.ProofKit
import Derived.Laws.BytesArg
import Derived.WalkLawsBesides
import Derived.WalkSpells
import Derived.Lib.Hide
import Derived.Lib.AppendStr
import Derived.Laws.AppendOwnNone
import Derived.Laws.OwnMore
import Derived.Laws.BitsAllLaws
import Derived.Test.YtlnbmblbeaodcaaGreatProg
import Derived.Defers
import Derived.Recover
/- Byte lists in memory: what a slice of bytes reads as, and that it reads so later. No program is named here. -/
set_option linter.unusedVariables false
set_option maxRecDepth 8000
set_option linter.unusedSimpArgs false
namespace Go.Proofs.YtlnbmblbeaodcaaGreat
open Lib (hid)
open Go.RowKit

theorem step {a b c:World} (h:Below a.heap.size a b) (k:Below b.heap.size b c):Below a.heap.size a c:=h.trans (k.mono h.size)
theorem stepAlloc {a b:World} (h:Below a.heap.size a b) (o:Obj):Below a.heap.size a (b.alloc o):=h.alloc h.size o
theorem newAlloc (a:World) (o:Obj):Below a.heap.size a (a.alloc o):=(Below.refl _ _).alloc (Nat.le_refl _) o
structure Rd (w:World) (v:Value) (bs:List UInt8):Prop where
 ex: ∃a len cap,v= .slice a len cap/\bs.length=len/\len<=cap/\cap<=maxLen/\(a=none->len=0/\cap=0)/\
  ∀x,a=some x->0<len->x.spot=none/\ ∀i,i<len->w.cell? ⟨x.block,x.off+i,none⟩=some (.int .u8 (bs.getD i 0).toNat)
theorem lt_of_cell {w:World} {a:Addr} {v:Value} (h:w.cell? a=some v):a.block<w.heap.size:=by
 unfold World.cell? at h
 rcases Nat.lt_or_ge a.block w.heap.size with g | g
 ·exact g
 ·rw[Array.getElem?_eq_none g] at h;simp at h
theorem Rd.later {w w':World} {v:Value} {bs:List UInt8} (h:Rd w v bs) (hb:Below w.heap.size w w'):Rd w' v bs:=by
 obtain⟨a,len,cap,hv,hl,hc,hm,hn,hx⟩:=h.ex
 refine⟨a,len,cap,hv,hl,hc,hm,hn,fun x ha hp=>?_⟩
 obtain⟨hs,hi⟩:=hx x ha hp
 refine⟨hs,fun i h=>?_⟩
 rw[hb.cell (lt_of_cell (hi i h))]
 exact hi i h
def val (l:List UInt8):Nat:=l.foldl (fun a x=>a*256+x.toNat) 0
theorem val_snoc (l:List UInt8) (x:UInt8):val (l++ [x])=val l*256+x.toNat:=by simp [val,List.foldl_append]
theorem val_go (l:List UInt8) (a:Nat):l.foldl (fun a x=>a*256+x.toNat) a<(a+1)*256 ^ l.length:=by
 induction l generalizing a with
 | nil=>simp
 | cons x l ih=>
  have hx:=UInt8.toNat_lt x
  have h1:=ih (a*256+x.toNat)
  have h2:(a*256+x.toNat+1)*256 ^ l.length<=((a+1)*256)*256 ^ l.length:=Nat.mul_le_mul_right _ (by omega)
  rw[List.foldl_cons,List.length_cons,Nat.pow_succ,Nat.mul_comm (256 ^ l.length) 256,<-Nat.mul_assoc]
  exact Nat.lt_of_lt_of_le h1 h2
theorem val_lt (l:List UInt8):val l<256 ^ l.length:=by
 have:=val_go l 0
 simpa [val] using this
theorem or_nat (v c:Nat) (hc:c<256):v*256 ||| c=v*256+c:=by
 have h:=Nat.two_pow_add_eq_or_of_lt (i:=8) (b:=c) (by omega) v
 rw[show 2 ^ 8*v=v*256 by omega] at h
 exact h.symm
theorem or_u64 (v c:Nat) (hv:v<2 ^ 56) (hc:c<256):bits .or .u64 (IntKind.u64.wrap ((v:Int)*256)) (IntKind.u64.wrap (c:Int))=((v*256+c:Nat):Int):=by
 have h1:IntKind.u64.wrap ((v:Int)*256)=((v*256:Nat):Int):=by rw[IntKind.wrap_u64];omega
 have h2:IntKind.u64.wrap (c:Int)=((c:Nat):Int):=by rw[IntKind.wrap_u64];omega
 rw[h1,h2,u64_or_nat _ _ (by omega) (by omega),or_nat v c hc]
theorem or_u64' (v c:Nat) (hv:v<72057594037927936) (hc:c<256):bits .or .u64 ((v:Int)*256) (c:Int)=((v*256+c:Nat):Int):=by
 have:=or_u64 v c (by omega) hc
 rwa [show IntKind.u64.wrap ((v:Int)*256)=(v:Int)*256 by rw[IntKind.wrap_u64];omega,show IntKind.u64.wrap (c:Int)=(c:Int) by rw[IntKind.wrap_u64];omega] at this
theorem ofInt_i64 (a:Nat) (ha:a<2 ^ 64):(BitVec.ofInt 64 (a:Int)).toNat =a:=by
 rw[BitVec.ofInt_natCast,BitVec.toNat_ofNat];exact Nat.mod_eq_of_lt (by omega)
theorem or_i64 (v c:Nat) (hv:v<2 ^ 54) (hc:c<256):bits .or .i64 ((v:Int)*256) (c:Int)=((v*256+c:Nat):Int):=by
 rw[show((v:Int)*256)=((v*256:Nat):Int) by omega]
 show IntKind.i64.wrap ((BitVec.ofInt 64 ((v*256:Nat):Int) ||| BitVec.ofInt 64 (c:Int)).toNat :Int)= _
 rw[BitVec.toNat_or,ofInt_i64 _ (by omega),ofInt_i64 _ (by omega),or_nat v c hc]
 exact IntWalk.i64_in _ (by omega)
theorem val_le (l:List UInt8) (n:Nat) (h:l.length<=n):val l<256 ^ n:=
 Nat.lt_of_lt_of_le (val_lt l) (Nat.pow_le_pow_right (by omega) h)
theorem val_sub_succ (bs:List UInt8) (t n:Nat) (h:t+n<bs.length):val ((bs.drop t).take (n+1))=val ((bs.drop t).take n)*256+(bs.getD (t+n) 0).toNat :=by
 rw[List.take_succ_eq_append_getElem (by simp;omega),val_snoc]
 simp [List.getD,List.getElem?_eq_getElem h]
def sub (bs:List UInt8) (t n:Nat):List UInt8:=(bs.drop t).take n
theorem sub_length (bs:List UInt8) (t n:Nat) (h:t+n<=bs.length):(sub bs t n).length =n:=by
 unfold sub;simp;omega
def IsRow (k:IntKind) (w:World) (a:Option Addr) (len cap:Nat) (zs:List Int):Prop:=
 (a=none/\len=0/\cap=0/\zs= [])\/
 ∃x,a=some x/\len<=cap/\cap<=maxLen/\zs.length=cap/\(∀i,i<zs.length->w.cell? (x.add i)=some (.int k (zs.getD i 0)))/\ ∀n∈zs,(Lit.int k n).wf =true
def bytesOf (zs:List Int) (len:Nat):List UInt8:=(zs.take len).map fun n=>UInt8.ofNat n.toNat
theorem IsRow.rd {w:World} {a:Option Addr} {len cap:Nat} {zs:List Int} (h:IsRow .u8 w a len cap zs):Rd w (.slice a len cap) (bytesOf zs len)/\(bytesOf zs len).length =len:=by
 rcases h with ⟨rfl,rfl,rfl,rfl⟩ | ⟨x,rfl,hl,hm,hz,hcell,hwz⟩
 ·exact⟨⟨none,0,0,rfl,rfl,Nat.le_refl _,by unfold maxLen;omega,fun _=>⟨rfl,rfl⟩,fun x hx=>by cases hx⟩,rfl⟩
 ·have hlen:(bytesOf zs len).length =len:=by unfold bytesOf;simp;omega
  refine⟨⟨some x,len,cap,rfl,hlen,hl,hm,(fun q=>by cases q),fun y hy hp=>?_⟩,hlen⟩
  cases hy
  obtain⟨b,off,spot⟩:=x
  have hc:=hcell 0 (by omega)
  have hspot:spot=none:=by simpa [Addr.add] using World.cell?_spot hc
  subst hspot
  refine⟨rfl,fun i hi=>?_⟩
  have hadd:(⟨b,off,none⟩:Addr).add i=⟨b,off+i,none⟩:=by unfold Addr.add;split<;>simp_all
  have:=hcell i (by omega)
  rw[hadd] at this
  rw[this]
  have hiz:i<zs.length:=by omega
  have hw:=hwz zs[i] (List.getElem_mem hiz)
  have hb:0<=zs[i]/\zs[i]<=255:=by simpa [Lit.wf,IntKind.min,IntKind.max,IntKind.signed,IntKind.bits] using hw
  have e:(bytesOf zs len).getD i 0=UInt8.ofNat (zs[i]).toNat :=by
   unfold bytesOf
   simp [List.getD,List.getElem?_map,List.getElem?_take,hi,List.getElem?_eq_getElem hiz]
  rw[e]
  have e2:zs.getD i 0=zs[i]:=by simp [List.getD,List.getElem?_eq_getElem hiz]
  rw[e2]
  have e3:((UInt8.ofNat (zs[i]).toNat).toNat :Int)=zs[i]:=by
   simp;omega
  rw[e3]
def bstr (l:List UInt8):ByteArray:=⟨l.toArray⟩
theorem bstr_toList (l:List UInt8):(bstr l).data.toList =l:=rfl
theorem bstr_size (l:List UInt8):(bstr l).size =l.length:=rfl
def nums (l:List UInt8):List Int:=l.map fun u=>(u.toNat:Int)
theorem nums_length (l:List UInt8):(nums l).length =l.length:=by simp [nums]
theorem nums_getD (l:List UInt8) (i:Nat):(nums l).getD i 0=((l.getD i 0).toNat :Int):=by
 unfold nums
 simp only[List.getD,List.getElem?_map]
 cases l[i]?<;>simp
theorem strOfNums_nums (l:List UInt8):strOfNums (nums l)=bstr l:=by
 unfold strOfNums nums bstr
 rw[List.map_map]
 congr 2
 conv=>rhs;rw[<-List.map_id l]
 apply List.map_congr_left
 intro u _
 simp
theorem sub_getD (bs:List UInt8) (t n i:Nat) (h:i<n):(sub bs t n).getD i 0=bs.getD (t+i) 0:=by
 unfold sub
 simp [List.getD,List.getElem?_take,h]
section
variable {P : Program} (w : World)
theorem conv_sub {src e dst:TypeId} (hs:P.underlying src=some (.slice e)) (he:P.underlying e=some (.int .u8)) (hd:P.underlying dst=some .string) (b off k n cap:Nat) (bs:List UInt8)
  (hc: ∀i,i<bs.length->w.cell? ⟨b,off+i,none⟩=some (.int .u8 ((bs.getD i 0).toNat :Int))) (h:k+n<=bs.length):
  (convert src dst (.slice (some ⟨b,off+k,none⟩) n cap)).run P w= .ok (.string (bstr (sub bs k n))) w:=by
 rw[<-strOfNums_nums]
 refine run_convert_bytes_arg w src e hs he b (off+k) n cap (nums (sub bs k n)) (by rw[nums_length,sub_length _ _ _ h]) ?_ dst hd
 intro i hi
 rw[nums_getD,sub_getD _ _ _ _ hi,Nat.add_assoc]
 exact hc (k+i) (by omega)
theorem conv_zero {src e dst:TypeId} (hs:P.underlying src=some (.slice e)) (he:P.underlying e=some (.int .u8)) (hd:P.underlying dst=some .string) (a:Option Addr) (cap:Nat):
  (convert src dst (.slice a 0 cap)).run P w= .ok (.string (bstr [])) w:=by
 cases a with
 | none=>exact run_convert_bytes_nil w src e hs he 0 cap dst hd
 | some a=>
  rw[run_convert_bytes_string w src dst e _ 0 cap hs he hd,run_bytesToString w a 0 cap [] (by simpa using run_loadCells_list (P:=P) w a [] (fun j v hj=>by simp at hj))]
  rfl
theorem conv_rd {src e dst:TypeId} (hs:P.underlying src=some (.slice e)) (he:P.underlying e=some (.int .u8)) (hd:P.underlying dst=some .string) (v:Value) (bs:List UInt8) (h:Rd w v bs):
  (convert src dst v).run P w= .ok (.string (bstr bs)) w:=by
 obtain⟨a,len,cap,rfl,hl,hc,hm,hn,hx⟩:=h.ex
 by_cases h0:len=0
 ·subst h0
  obtain rfl:bs= []:=List.length_eq_zero_iff.1 hl
  exact conv_zero w hs he hd a cap
 ·match a,hn,hx with
  | none,hn,_=>exact absurd (hn rfl).1 h0
  | some x,_,hx=>
   obtain⟨hs',hi⟩:=hx x rfl (by omega)
   obtain⟨b,off,spot⟩:=x
   simp only at hs' hi
   subst hs'
   have:=conv_sub w hs he hd b off 0 len cap bs (fun i hb=>hi i (by omega)) (by omega)
   have e:sub bs 0 len=bs:=by unfold sub;simp [<-hl]
   rw[e] at this
   exact this
end

def cellsOf (bs:List UInt8):List Value:=bs.map fun u=>.int .u8 (u.toNat:Int)
theorem cellsOf_length (bs:List UInt8):(cellsOf bs).length =bs.length:=by simp [cellsOf]
theorem cellsOf_append (a b:List UInt8):cellsOf (a++b)=cellsOf a++cellsOf b:=by simp [cellsOf]
theorem cellsOf_one (bs:List UInt8): ∀u∈cellsOf bs,u.oneCell'=true:=by
 intro u hu
 obtain⟨_,_,rfl⟩:=List.mem_map.1 hu
 rfl
theorem cellsOf_get (bs:List UInt8) (j:Nat) (u:Value) (h:(cellsOf bs)[j]?=some u):j<bs.length/\u= .int .u8 ((bs.getD j 0).toNat :Int):=by
 have hj:j<bs.length:=by
  rcases Nat.lt_or_ge j bs.length with g | g
  ·exact g
  ·rw[List.getElem?_eq_none (by rw[cellsOf_length];exact g)] at h;simp at h
 refine⟨hj,?_⟩
 simp [cellsOf,List.getElem?_eq_getElem hj] at h
 simp [List.getD,List.getElem?_eq_getElem hj,h]
theorem Rd.own {w:World} {base:Nat} {e:TypeId} {v:Value} {bs:List UInt8} (h:w.ownsRow base e 1 v bs.length (cellsOf bs)):Rd w v bs:=by
 rcases h.2 with ⟨rfl,hn⟩ | ⟨g,cap,cur,rfl,hb,hg,hn,hc,hs,ht⟩
 ·have:bs= []:=List.length_eq_zero_iff.1 hn
  exact⟨none,0,0,rfl,hn,Nat.le_refl _,by unfold maxLen;omega,fun _=>⟨rfl,rfl⟩,fun x hx=>by cases hx⟩
 ·refine⟨some ⟨g,0,none⟩,bs.length,cap,rfl,rfl,hn,hc,(fun h=>by cases h),fun x hx hp=>?_⟩
  cases hx
  refine⟨rfl,fun i hi=>?_⟩
  rw[h.cellAt (0+i) (by omega)]
  simp [cellsOf,List.getElem?_eq_getElem hi]
section
variable {P : Program} {w : World}
theorem wpList_append_rd {ops:Array Oper} {rest:List Oper} {o:Oper} {a:Act} {Q:Exit->Act->World->Prop} (hgd:o.guard=none) (s x:Operand) (t:TypeId)
  (ho:o.op= .call { callee:=.builtin .append,args:=#[s,x],argTypes:=#[t,t] })
  (base:Nat) (e:TypeId) (i:TypeInfo) (ht:P.underlying t=some (.slice e)) (hi:P.info? e=some i) (hz:i.zero=some (.int .u8 0)) (hsize:i.size=1) (hby:i.bytes=1)
  (v:Value) (n:Nat) (xs:List Value) (hs:a.eval s=v) (hown:w.ownsRow base e 1 v n xs) (y:Value) (bs:List UInt8) (hx:a.eval x=y) (hr:Rd w y bs)
  (hlen:n+bs.length<=140737488355328) (hbase:base<=w.heap.size)
  (h: ∀v' w',w'.ownsRow base e 1 v' (n+bs.length) (xs++cellsOf bs)->w.grownBy w' v.ownBlock->wpList P ops Q rest (a.put o.dst v') w'):wpList P ops Q (o::rest) a w:=by
 obtain⟨ao,len,cap,rfl,hl,hc,hm,hn,hcells⟩:=hr.ex
 match ao,hn,hcells with
 | none,hn,_=>
  obtain⟨rfl,rfl⟩:=hn rfl
  obtain rfl:bs= []:=List.length_eq_zero_iff.1 hl
  refine wpList_append_own_none hgd s x t ho base e i 1 ht hi v n xs hs hown hx ?_
  exact h v w (by simpa [cellsOf] using hown) (World.grownBy.refl _ _)
 | some ad,_,hcells=>
  refine wpList_append_own w hgd s x t ho base e i (.int .u8 0) 1 1 ht hi hz hsize hby rfl (by decide) v n xs hs hown ad len cap (cellsOf bs) hx (by rw[cellsOf_length];omega) ?_ (cellsOf_one bs) (by unfold maxLen;omega) (by omega) hbase ?_
  ·intro j u hj
   obtain⟨hj',rfl⟩:=cellsOf_get bs j u hj
   obtain⟨hs',hi'⟩:=hcells ad rfl (by omega)
   obtain⟨b,off,spot⟩:=ad
   simp only at hs'
   subst hs'
   have hadd:(⟨b,off,none⟩:Addr).add j=⟨b,off+j,none⟩:=by unfold Addr.add;split<;>simp_all
   rw[hadd]
   exact hi' j (by omega)
  ·intro v' w' h1 h2 _
   rw[<-hl] at h1
   exact h v' w' h1 h2
end

end Go.Proofs.YtlnbmblbeaodcaaGreat

/- Contracts of package octet's small readers. -/
set_option linter.unusedVariables false
set_option maxRecDepth 8000
set_option linter.unusedSimpArgs false
namespace Go.Proofs.YtlnbmblbeaodcaaGreat
open Lib (hid)
open Go.RowKit

theorem need_ok (a:Option Addr) (len cap:Nat) (t s:Int) (w:World) (hm:len<=maxLen) (h0:0<=t) (h1:0<=s) (h2:t+s<=len):
  Calls Tryz.prog 230 #[.slice a len cap,.int .i64 t,.int .i64 s] w fun e w'=>e= .returned (.tuple #[])/\w=w':=by
 unfold maxLen at hm
 go_enter Tryz.func230,Tryz.ntmps230
 go_wp2
 go_end0
 exact⟨rfl,rfl⟩
theorem need_neg (a:Option Addr) (len cap:Nat) (t s:Int) (w:World) (h0:t<0):
  Calls Tryz.prog 230 #[.slice a len cap,.int .i64 t,.int .i64 s] w fun e w'=>e= .panicked [{ v:=.iface 237 (.agg #[.int .i64 2]),recovered:=false }]/\w=w':=by
 go_enter Tryz.func230,Tryz.ntmps230
 go_wp2
 exact⟨rfl,rfl,rfl⟩
theorem need_few (a:Option Addr) (len cap:Nat) (t s:Int) (w:World) (hm:len<=maxLen) (h0:0<=t) (ht:t<=9223372036854775807) (h1:(len:Int) - t<s):
  Calls Tryz.prog 230 #[.slice a len cap,.int .i64 t,.int .i64 s] w fun e w'=>e= .panicked [{ v:=.iface 237 (.agg #[.int .i64 2]),recovered:=false }]/\w=w':=by
 unfold maxLen at hm
 go_enter Tryz.func230,Tryz.ntmps230
 go_wp2
 exact⟨rfl,rfl,rfl⟩
end Go.Proofs.YtlnbmblbeaodcaaGreat

/- Contracts of package octet's readers: readByte, readText, readEnd. -/
set_option linter.unusedVariables false
set_option maxRecDepth 8000
set_option linter.unusedSimpArgs false
namespace Go.Proofs.YtlnbmblbeaodcaaGreat
open Lib (hid)
open Go.RowKit

def Fails (c:Int) (w:World) (e:Ending) (w':World):Prop:=
 e= .panicked [{ v:=.iface 237 (.agg #[.int .i64 c]),recovered:=false }]/\w=w'
theorem need_short (a:Option Addr) (len cap:Nat) (t s:Int) (w:World) (hm:len<=maxLen) (ht:t<=9223372036854775807) (hs:0<=s) (h1:t<0\/(len:Int)<t+s):
  Calls Tryz.prog 230 #[.slice a len cap,.int .i64 t,.int .i64 s] w (Fails 2 w):=by
 by_cases h0:t<0
 ·exact need_neg a len cap t s w h0
 ·exact need_few a len cap t s w hm (by omega) ht (by omega)
theorem readByte_ok (v:Value) (bs:List UInt8) (t:Int) (w:World) (h:Rd w v bs) (h0:0<=t) (h1:t<bs.length):
  Calls Tryz.prog 237 #[v,.int .i64 t] w fun e w'=>e= .returned (.tuple #[.int .i64 ((bs.getD t.toNat 0).toNat :Int),.int .i64 (t+1)])/\w=w':=by
 obtain⟨a,len,cap,rfl,hl,hc,hm,hn,hx⟩:=h.ex
 obtain⟨k,rfl⟩:=Int.eq_ofNat_of_zero_le h0
 match a,hx with
 | none,_=>have:=(hn rfl).1;omega
 | some x,hx=>
  obtain⟨hs,hi⟩:=hx x rfl (by omega)
  have hk:=hi k (by omega)
  obtain⟨b,off,spot⟩:=x
  simp only at hs hk
  subst hs
  clear hi hx hn h
  have hkl:k<len:=by omega
  unfold maxLen at hm
  have hb:(bs.getD k 0).toNat <256:=UInt8.toNat_lt _
  simp only[Int.toNat_natCast]
  generalize bs.getD k 0=c at hk hb ⊢
  subst hl
  go_enter Tryz.func237,Tryz.ntmps237
  go_wp2_with (go_at_call 230;refine(need_ok _ _ _ _ _ _ (by unfold maxLen;omega) (by omega) (by omega) (by omega)).mono ?_;rintro e w' ⟨rfl,rfl⟩)
  go_ret2
  exact⟨rfl,rfl⟩
theorem readByte_short (v:Value) (bs:List UInt8) (t:Int) (w:World) (h:Rd w v bs) (ht:t<=9223372036854775807) (h1:t<0\/(bs.length:Int)<=t):
  Calls Tryz.prog 237 #[v,.int .i64 t] w (Fails 2 w):=by
 obtain⟨a,len,cap,rfl,hl,hc,hm,hn,hx⟩:=h.ex
 clear hx hn h
 subst hl
 go_enter Tryz.func237,Tryz.ntmps237
 go_wp2_with (go_at_call 230;refine(need_short _ _ _ _ _ _ (by omega) (by omega) (by omega) (by omega)).mono ?_;rintro e w' ⟨rfl,rfl⟩)
 exact⟨rfl,rfl,rfl⟩
theorem readNum_short (v:Value) (bs:List UInt8) (t:Int) (w:World) (h:Rd w v bs) (ht:t<=9223372036854775807) (h1:t<0\/(bs.length:Int)<t+8):
  Calls Tryz.prog 214 #[v,.int .i64 t] w (Fails 2 w):=by
 obtain⟨a,len,cap,rfl,hl,hc,hm,hn,hx⟩:=h.ex
 clear hx hn h
 subst hl
 go_enter Tryz.func214,Tryz.ntmps214
 go_wp2_with (go_at_call 230;refine(need_short _ _ _ _ _ _ (by omega) (by omega) (by omega) (by omega)).mono ?_;rintro e w' ⟨rfl,rfl⟩)
 exact⟨rfl,rfl,rfl⟩
theorem readText_at (v:Value) (bs:List UInt8) (t m:Int) (w:World) (h:Rd w v bs) (ht:t<=9223372036854775807) (h1:t<0\/(bs.length:Int)<=t):
  Calls Tryz.prog 239 #[v,.int .i64 t,.int .i64 m] w (Fails 2 w):=by
 go_enter Tryz.func239,Tryz.ntmps239
 go_wp2_with (go_at_call 237;refine(readByte_short _ bs _ _ h (by omega) (by omega)).mono ?_;rintro e w' ⟨rfl,rfl⟩)
 exact⟨rfl,rfl,rfl⟩
theorem readText_long (v:Value) (bs:List UInt8) (t m:Int) (w:World) (h:Rd w v bs) (h0:0<=t) (h1:t<bs.length) (h2:m<((bs.getD t.toNat 0).toNat :Int)):
  Calls Tryz.prog 239 #[v,.int .i64 t,.int .i64 m] w (Fails 3 w):=by
 generalize hn:(bs.getD t.toNat 0).toNat =n at h2
 have HN:=hid hn
 clear hn
 go_enter Tryz.func239,Tryz.ntmps239
 go_wp2_with (go_at_call 237;refine(readByte_ok _ bs _ _ h (by omega) (by omega)).mono ?_;rw[HN.out];rintro e w' ⟨rfl,rfl⟩)
 exact⟨rfl,rfl,rfl⟩
theorem readText_few (v:Value) (bs:List UInt8) (t m:Int) (w:World) (h:Rd w v bs) (h0:0<=t) (h1:t<bs.length) (h2:((bs.getD t.toNat 0).toNat :Int)<=m) (h3:(bs.length:Int)<t+1+(bs.getD t.toNat 0).toNat):
  Calls Tryz.prog 239 #[v,.int .i64 t,.int .i64 m] w (Fails 2 w):=by
 have H:=h
 obtain⟨a,len,cap,rfl,hl,hc,hm,hn,hx⟩:=h.ex
 clear hx hn h
 subst hl
 have hlt:=UInt8.toNat_lt (bs.getD t.toNat 0)
 generalize hn:(bs.getD t.toNat 0).toNat =n at h2 h3 hlt
 have HN:=hid hn
 clear hn
 unfold maxLen at hm
 go_enter Tryz.func239,Tryz.ntmps239
 go_wp2_with (first | (go_at_call 237;refine(readByte_ok _ bs _ _ H (by omega) (by omega)).mono ?_;rw[HN.out];rintro e w' ⟨rfl,rfl⟩) | (go_at_call 230;refine(need_short _ _ _ _ _ _ (by unfold maxLen;omega) (by omega) (by omega) (by omega)).mono ?_;rintro e w' ⟨rfl,rfl⟩))
 exact⟨rfl,rfl,rfl⟩
def NumPost (n:Nat) (t:Int) (w:World) (e:Ending) (w':World):Prop:=
 (n<2 ^ 62/\e= .returned (.tuple #[.int .i64 (n:Int),.int .i64 (t+8)])/\w=w')\/(2 ^ 62<=n/\Fails 4 w e w')
theorem readNum_any (v:Value) (bs:List UInt8) (t:Int) (w:World) (h:Rd w v bs) (h0:0<=t) (h1:t+8<=bs.length):
  Calls Tryz.prog 214 #[v,.int .i64 t] w (NumPost (val (sub bs t.toNat 8)) t w):=by
 obtain⟨a,len,cap,rfl,hl,hc,hm,hn,hx⟩:=h.ex
 obtain⟨k,rfl⟩:=Int.eq_ofNat_of_zero_le h0
 simp only[Int.toNat_natCast]
 match a,hx with
 | none,_=>have:=(hn rfl).1;omega
 | some x,hx=>
  obtain⟨hs,hi⟩:=hx x rfl (by omega)
  obtain⟨b,off,spot⟩:=x
  simp only at hs hi
  subst hs
  clear hx hn h
  unfold maxLen at hm
  subst hl
  have HI:=hid hi
  clear hi
  go_enter Tryz.func214,Tryz.ntmps214
  go_wp2_with (go_at_call 230;refine(need_ok _ _ _ _ _ _ (by unfold maxLen;omega) (by omega) (by omega) (by omega)).mono ?_;rintro e w' ⟨rfl,rfl⟩)
  go_loop [7,20] (fun v i=> ∃j:Nat,j<=8/\i= .int .i64 j/\v= .int .u64 (val (sub bs k j):Int)) (fun _ i=>8 - (intOf i).toNat)
  case atStart=>exact⟨0,by omega,rfl,rfl⟩
  case round=>
   obtain⟨j,hj,rfl,rfl⟩:=hrel
   by_cases hlt:j<8
   ·have hcell:=HI.out (k+j) (by omega)
    rw[<-Nat.add_assoc] at hcell
    have hc:(bs.getD (k+j) 0).toNat <256:=UInt8.toNat_lt _
    have HS:=hid (val_sub_succ bs k j (by omega))
    have hv:val (sub bs k j)<72057594037927936:=val_le (sub bs k j) 7 (by unfold sub;simp;omega)
    generalize bs.getD (k+j) 0=c at hcell hc HS
    go_wp2
    go_round
    case rel=>exact⟨j+1,by omega,by go_num,by rw[or_u64' _ _ hv hc];exact congrArg (fun n:Nat=>Value.int .u64 (n:Int)) HS.out.symm⟩
    case measure=>simp [intOf];omega
   ·obtain rfl:j=8:=by omega
    by_cases hv:val (sub bs k 8)<4611686018427387904
    ·have hd:decide ((4611686018427387904:Int)<=(val (sub bs k 8):Int))=false:=by simp;omega
     go_wp2
     go_ret2
     exact .inl ⟨hv,rfl,rfl⟩
    ·have hd:decide ((4611686018427387904:Int)<=(val (sub bs k 8):Int))=true:=by simp;omega
     go_wp2
     exact⟨rfl,.inr ⟨by omega,rfl,rfl⟩⟩
theorem readNum_ok (v:Value) (bs:List UInt8) (t:Int) (w:World) (h:Rd w v bs) (h0:0<=t) (h1:t+8<=bs.length) (h2:val (sub bs t.toNat 8)<2 ^ 62):
  Calls Tryz.prog 214 #[v,.int .i64 t] w fun e w'=>e= .returned (.tuple #[.int .i64 (val (sub bs t.toNat 8):Int),.int .i64 (t+8)])/\w=w':=
 (readNum_any v bs t w h h0 h1).mono fun e w' q=>by
  rcases q with q | q
  ·exact q.2
  ·exact absurd q.1 (by omega)
theorem readNum_form (v:Value) (bs:List UInt8) (t:Int) (w:World) (h:Rd w v bs) (h0:0<=t) (h1:t+8<=bs.length) (h2:2 ^ 62<=val (sub bs t.toNat 8)):
  Calls Tryz.prog 214 #[v,.int .i64 t] w (Fails 4 w):=
 (readNum_any v bs t w h h0 h1).mono fun e w' q=>by
  rcases q with q | q
  ·exact absurd q.1 (by omega)
  ·exact q.2
theorem readText_ok (v:Value) (bs:List UInt8) (t m:Int) (w:World) (h:Rd w v bs) (h0:0<=t) (h1:t<bs.length) (h2:((bs.getD t.toNat 0).toNat :Int)<=m) (h3:t+1+(bs.getD t.toNat 0).toNat <=(bs.length:Int)):
  Calls Tryz.prog 239 #[v,.int .i64 t,.int .i64 m] w fun e w'=>
   e= .returned (.tuple #[.string (bstr (sub bs (t.toNat+1) (bs.getD t.toNat 0).toNat)),.int .i64 (t+1+(bs.getD t.toNat 0).toNat)])/\w=w':=by
 have H:=h
 obtain⟨a,len,cap,rfl,hl,hc,hm,hn,hx⟩:=h.ex
 obtain⟨k,rfl⟩:=Int.eq_ofNat_of_zero_le h0
 simp only[Int.toNat_natCast] at h2 h3 ⊢
 match a,hx with
 | none,_=>have:=(hn rfl).1;omega
 | some x,hx=>
  obtain⟨hs,hi⟩:=hx x rfl (by omega)
  obtain⟨b,off,spot⟩:=x
  simp only at hs hi
  subst hs
  clear hx hn h
  unfold maxLen at hm
  subst hl
  have hlt:=UInt8.toNat_lt (bs.getD k 0)
  generalize hn:(bs.getD k 0).toNat =n at h2 h3 hlt ⊢
  have HN:=hid hn
  clear hn
  by_cases hk:cap=k+1
  ·obtain rfl:n=0:=by omega
   have hcv:=fun a c=>conv_zero w (P:=Tryz.prog) Tryz.underlying47 Tryz.underlying5 Tryz.underlying9 a c
   have e0:sub bs (k+1) 0= []:=by simp [sub]
   rw[e0]
   clear e0
   subst hk
   clear hi
   go_enter Tryz.func239,Tryz.ntmps239
   go_wp2_with (first | (go_at_call 237;refine(readByte_ok _ bs _ _ H (by omega) (by omega)).mono ?_;rw[Int.toNat_natCast,HN.out];rintro e w' ⟨rfl,rfl⟩) | (go_at_call 230;refine(need_ok _ _ _ _ _ _ (by unfold maxLen;omega) (by omega) (by omega) (by omega)).mono ?_;rintro e w' ⟨rfl,rfl⟩))
   go_ret2
   exact⟨rfl,rfl⟩
  ·have hcv:=fun c=>conv_sub w (P:=Tryz.prog) Tryz.underlying47 Tryz.underlying5 Tryz.underlying9 b off (k+1) n c bs hi (by omega)
   clear hi
   generalize sub bs (k+1) n=r at hcv ⊢
   go_enter Tryz.func239,Tryz.ntmps239
   go_wp2_with (first | (go_at_call 237;refine(readByte_ok _ bs _ _ H (by omega) (by omega)).mono ?_;rw[Int.toNat_natCast,HN.out];rintro e w' ⟨rfl,rfl⟩) | (go_at_call 230;refine(need_ok _ _ _ _ _ _ (by unfold maxLen;omega) (by omega) (by omega) (by omega)).mono ?_;rintro e w' ⟨rfl,rfl⟩))
   go_ret2
   exact⟨rfl,rfl⟩
end Go.Proofs.YtlnbmblbeaodcaaGreat
