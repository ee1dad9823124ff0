/- Texts laid together by program. -/
import Derived.Test.YtlnbmblbeaodcaaGreatQS2
import Derived.Lib.AppendStr
/- Contracts of package octet's writers. -/
set_option linter.unusedVariables false
set_option maxRecDepth 8000
set_option linter.unusedSimpArgs false
namespace Go.Proofs.YtlnbmblbeaodcaaGreat
open Lib (hid)
open Go.RowKit

def beByte (n i:Nat):Nat:=n / 256 ^ (7 - i) % 256
def be8 (n:Nat):List UInt8:= [UInt8.ofNat (beByte n 0),UInt8.ofNat (beByte n 1),UInt8.ofNat (beByte n 2),UInt8.ofNat (beByte n 3),UInt8.ofNat (beByte n 4),UInt8.ofNat (beByte n 5),UInt8.ofNat (beByte n 6),UInt8.ofNat (beByte n 7)]
def beCell (n k i:Nat):Value:=.int .u8 (if 8 - k<=i then (beByte n i:Int) else 0)
def beArr (n k:Nat):Array Value:=#[beCell n k 0,beCell n k 1,beCell n k 2,beCell n k 3,beCell n k 4,beCell n k 5,beCell n k 6,beCell n k 7]
theorem beArr_zero (n:Nat):beArr n 0=#[.int .u8 0,.int .u8 0,.int .u8 0,.int .u8 0,.int .u8 0,.int .u8 0,.int .u8 0,.int .u8 0]:=rfl
theorem beCell_succ (n k i:Nat) (hk:k<8) (hi:i<8) (h:i≠7 - k):beCell n (k+1) i=beCell n k i:=by
 unfold beCell
 by_cases h1:8 - k<=i
 ·rw[if_pos h1,if_pos (by omega)]
 ·rw[if_neg h1,if_neg (by omega)]
theorem beArr_step (n k:Nat) (hk:k<8):(beArr n k).setIfInBounds (7 - k) (.int .u8 ((n / 256 ^ k % 256:Nat):Int))=beArr n (k+1):=by
 have hlast:beCell n (k+1) (7 - k)= .int .u8 ((n / 256 ^ k % 256:Nat):Int):=by
  unfold beCell beByte
  rw[if_pos (by omega),show 7 - (7 - k)=k by omega]
 rw[<-hlast]
 have e:=fun i (hi:i<8) (h:i≠7 - k)=>beCell_succ n k i hk hi h
 unfold beArr
 match k,hk with
 | 0,_=>simp [e 0 (by omega) (by omega),e 1 (by omega) (by omega),e 2 (by omega) (by omega),e 3 (by omega) (by omega),e 4 (by omega) (by omega),e 5 (by omega) (by omega),e 6 (by omega) (by omega)]
 | 1,_=>simp [e 0 (by omega) (by omega),e 1 (by omega) (by omega),e 2 (by omega) (by omega),e 3 (by omega) (by omega),e 4 (by omega) (by omega),e 5 (by omega) (by omega),e 7 (by omega) (by omega)]
 | 2,_=>simp [e 0 (by omega) (by omega),e 1 (by omega) (by omega),e 2 (by omega) (by omega),e 3 (by omega) (by omega),e 4 (by omega) (by omega),e 6 (by omega) (by omega),e 7 (by omega) (by omega)]
 | 3,_=>simp [e 0 (by omega) (by omega),e 1 (by omega) (by omega),e 2 (by omega) (by omega),e 3 (by omega) (by omega),e 5 (by omega) (by omega),e 6 (by omega) (by omega),e 7 (by omega) (by omega)]
 | 4,_=>simp [e 0 (by omega) (by omega),e 1 (by omega) (by omega),e 2 (by omega) (by omega),e 4 (by omega) (by omega),e 5 (by omega) (by omega),e 6 (by omega) (by omega),e 7 (by omega) (by omega)]
 | 5,_=>simp [e 0 (by omega) (by omega),e 1 (by omega) (by omega),e 3 (by omega) (by omega),e 4 (by omega) (by omega),e 5 (by omega) (by omega),e 6 (by omega) (by omega),e 7 (by omega) (by omega)]
 | 6,_=>simp [e 0 (by omega) (by omega),e 2 (by omega) (by omega),e 3 (by omega) (by omega),e 4 (by omega) (by omega),e 5 (by omega) (by omega),e 6 (by omega) (by omega),e 7 (by omega) (by omega)]
 | 7,_=>simp [e 1 (by omega) (by omega),e 2 (by omega) (by omega),e 3 (by omega) (by omega),e 4 (by omega) (by omega),e 5 (by omega) (by omega),e 6 (by omega) (by omega),e 7 (by omega) (by omega)]
def Made (r:List UInt8 × Int) (w:World) (e:Ending) (w':World):Prop:=
 ∃v,e= .returned (.tuple #[v,.int .i64 r.2])/\w'.ownsRow w.heap.size 5 1 v r.1.length (cellsOf r.1)/\Below w.heap.size w w'
theorem make8 (w:World):(Instr.makeSlice 47 (.int .i64 8) (.int .i64 8)).run Tryz.prog w= .ok (.slice (some ⟨w.heap.size,0,none⟩) 8 8) (w.alloc (.cells (beArr 0 0) 5)):=by
 rw[beArr_zero];kernel_rfl
theorem shr_step (n k:Nat):((n:Int) / 256 ^ k / 256)=((n / 256 ^ (k+1):Nat):Int):=by
 rw[Nat.pow_succ,<-Nat.div_div_eq_div_mul];simp
theorem low_byte (n k:Nat):((n:Int) / 256 ^ k % 256)=((n / 256 ^ k % 256:Nat):Int):=by simp
set_option maxRecDepth 100000 in
theorem PutNum_ok (n:Nat) (w:World) (h:n<2 ^ 62):
  Calls Tryz.prog 143 #[.int .i64 (n:Int)] w fun e w'=>e= .returned (.tuple #[.slice (some ⟨w.heap.size,0,none⟩) 8 8,.int .i64 0])/\w.alloc (.cells (beArr n 8) 5)=w':=by
 have hmk:=make8
 have hd:decide ((4611686018427387904:Int)<=(n:Int))=false:=by simp;omega
 have hn:decide ((n:Int)<0)=false:=by simp
 have HH:=hid h
 clear h
 go_enter Tryz.func143,Tryz.ntmps143
 go_wp2
 go_loopw [0,5] (fun v i wr=> ∃k:Nat,k<=8/\i= .int .i64 (7 - (k:Int))/\v= .int .i64 ((n / 256 ^ k:Nat):Int)/\wr=w.alloc (.cells (beArr n k) 5)) (fun _ i _=>(intOf i+1).toNat)
 case atStart=>exact⟨0,by omega,rfl,by simp,rfl⟩
 case round=>
  obtain⟨k,hk,rfl,rfl,rfl⟩:=hrel
  by_cases hlt:k<8
  ·have hcell:(w.alloc (.cells (beArr n k) 5)).cell? ⟨w.heap.size,7 - k,none⟩=some (beCell n k (7 - k)):=by
    match k,hlt with
    | 0,_ | 1,_ | 2,_ | 3,_ | 4,_ | 5,_ | 6,_ | 7,_=>simp [beArr,go_sem]
   go_wp2
   go_roundw
   case rel=>exact⟨k+1,by omega,by go_num,by rw[shr_step],by rw[low_byte,beArr_step n k hlt]⟩
   case measure=>simp [intOf];omega
  ·obtain rfl:k=8:=by omega
   go_wp2
   go_ret2
   exact⟨rfl,rfl⟩
theorem beByte_lt (n i:Nat):beByte n i<256:=Nat.mod_lt _ (by omega)
theorem toNat_byte (n:Nat) (h:n<256):(UInt8.ofNat n).toNat =n:=by simp;omega
theorem beArr_cells (n:Nat):(beArr n 8).toList =cellsOf (be8 n):=by
 have h:=fun i=>toNat_byte (beByte n i) (beByte_lt n i)
 simp only[beArr,beCell,cellsOf,be8,List.map_cons,List.map_nil,h]
 rfl
theorem be8_length (n:Nat):(be8 n).length =8:=rfl
theorem owns_lit (w:World) (cs:Array Value) (bs:List UInt8) (h:cs.toList=cellsOf bs) (hm:bs.length<=maxLen):
  (w.alloc (.cells cs 5)).ownsRow w.heap.size 5 1 (.slice (some ⟨w.heap.size,0,none⟩) bs.length bs.length) bs.length (cellsOf bs):=by
 have hl:cs.size=bs.length:=by rw[<-Array.length_toList,h];simp [cellsOf]
 have:=World.ownsRow_lit (base:=w.heap.size) (e:=5) (size:=1) w cs bs.length (Nat.le_refl _) hm (by omega)
 rw[h] at this
 exact this
def putNumOf (v:Int):List UInt8 × Int:=if v<0\/2 ^ 62<=v then ([],1) else (be8 v.toNat,0)
theorem made_none (c:Int) (w:World) (e:Ending) (w':World) (h:e= .returned (.tuple #[.slice none 0 0,.int .i64 c])/\w=w'):Made ([],c) w e w':=by
 obtain⟨rfl,rfl⟩:=h
 exact⟨_,rfl,World.ownsRow_nil _ _ _ _,Below.refl _ _⟩
theorem made_lit (cs:Array Value) (bs:List UInt8) (w:World) (e:Ending) (w':World) (hc:cs.toList=cellsOf bs) (hm:bs.length<=maxLen)
  (h:e= .returned (.tuple #[.slice (some ⟨w.heap.size,0,none⟩) bs.length bs.length,.int .i64 0])/\w.alloc (.cells cs 5)=w'):Made (bs,0) w e w':=by
 obtain⟨rfl,rfl⟩:=h
 exact⟨_,rfl,owns_lit w cs bs hc hm,(Below.refl _ _).alloc (Nat.le_refl _) _⟩
theorem PutNum_bad (v:Int) (w:World) (h:v<0\/2 ^ 62<=v):
  Calls Tryz.prog 143 #[.int .i64 v] w fun e w'=>e= .returned (.tuple #[.slice none 0 0,.int .i64 1])/\w=w':=by
 by_cases h0:v<0
 ·have hd:decide (v<0)=true:=by simp;omega
  clear h
  go_enter Tryz.func143,Tryz.ntmps143
  go_wp2
  go_ret2
  exact⟨rfl,rfl⟩
 ·have hd:decide (v<0)=false:=by simp;omega
  have he:decide ((4611686018427387904:Int)<=v)=true:=by simp;omega
  clear h h0
  go_enter Tryz.func143,Tryz.ntmps143
  go_wp2
  go_ret2
  exact⟨rfl,rfl⟩
theorem PutNum_any (v:Int) (w:World):Calls Tryz.prog 143 #[.int .i64 v] w (Made (putNumOf v) w):=by
 unfold putNumOf
 by_cases h:v<0\/2 ^ 62<=v
 ·rw[if_pos h]
  exact(PutNum_bad v w h).mono fun e w' q=>made_none 1 w e w' q
 ·rw[if_neg h]
  obtain⟨n,rfl⟩:=Int.eq_ofNat_of_zero_le (show 0<=v by omega)
  rw[Int.toNat_natCast]
  exact(PutNum_ok n w (by omega)).mono fun e w' q=>made_lit _ (be8 n) w e w' (beArr_cells n) (by rw[be8_length];unfold maxLen;omega) q
def putByteOf (v:Int):List UInt8 × Int:=if v<0\/255<v then ([],1) else ([UInt8.ofNat v.toNat],0)
theorem PutByte_bad (v:Int) (w:World) (h:v<0\/255<v):
  Calls Tryz.prog 178 #[.int .i64 v] w fun e w'=>e= .returned (.tuple #[.slice none 0 0,.int .i64 1])/\w=w':=by
 by_cases h0:v<0
 ·have hd:decide (v<0)=true:=by simp;omega
  clear h
  go_enter Tryz.func178,Tryz.ntmps178
  go_wp2
  go_ret2
  exact⟨rfl,rfl⟩
 ·have hd:decide (v<0)=false:=by simp;omega
  have he:decide ((255:Int)<v)=true:=by simp;omega
  clear h h0
  go_enter Tryz.func178,Tryz.ntmps178
  go_wp2
  go_ret2
  exact⟨rfl,rfl⟩
theorem PutByte_ok (n:Nat) (w:World) (h:n<256):
  Calls Tryz.prog 178 #[.int .i64 (n:Int)] w fun e w'=>e= .returned (.tuple #[.slice (some ⟨w.heap.size,0,none⟩) 1 1,.int .i64 0])/\w.alloc (.cells #[.int .u8 (n:Int)] 5)=w':=by
 have hd:decide ((n:Int)<0)=false:=by simp
 have he:decide ((255:Int)<(n:Int))=false:=by simp;omega
 go_enter Tryz.func178,Tryz.ntmps178
 go_wp2
 go_ret2
 exact⟨rfl,rfl⟩
theorem PutByte_any (v:Int) (w:World):Calls Tryz.prog 178 #[.int .i64 v] w (Made (putByteOf v) w):=by
 unfold putByteOf
 by_cases h:v<0\/255<v
 ·rw[if_pos h]
  exact(PutByte_bad v w h).mono fun e w' q=>made_none 1 w e w' q
 ·rw[if_neg h]
  obtain⟨n,rfl⟩:=Int.eq_ofNat_of_zero_le (show 0<=v by omega)
  rw[Int.toNat_natCast]
  exact(PutByte_ok n w (by omega)).mono fun e w' q=>made_lit _ [UInt8.ofNat n] w e w' (by simp [cellsOf];omega) (by simp [maxLen]) q
theorem info8:(Tryz.prog.info? 5).map (fun i=>(i.zero,i.size,i.bytes))=some (some (.int .u8 0),1,1):=by kernel_rfl
def putTextOf (s:ByteArray):List UInt8 × Int:=if 255<s.size then ([],3) else (UInt8.ofNat s.size::s.data.toList,0)
theorem PutText_bad (s:ByteArray) (w:World) (h:255<s.size):
  Calls Tryz.prog 206 #[.string s] w fun e w'=>e= .returned (.tuple #[.slice none 0 0,.int .i64 3])/\w=w':=by
 have hd:decide ((255:Int)<(s.size:Int))=true:=by simp;omega
 go_enter Tryz.func206,Tryz.ntmps206
 go_wp2
 go_ret2
 exact⟨rfl,rfl⟩
theorem PutText_ok (s:ByteArray) (w:World) (h:s.size<=255):
  Calls Tryz.prog 206 #[.string s] w (Made (UInt8.ofNat s.size::s.data.toList,0) w):=by
 obtain⟨i0,hi,hz0,hz1,hz2⟩:=info_parts info8
 have hd:decide ((255:Int)<(s.size:Int))=false:=by simp;omega
 have hrd: ∀w0:World,Rd (w0.alloc (.cells #[.int .u8 (s.size:Int)] 5)) (.slice (some ⟨w0.heap.size,0,none⟩) 1 1) [UInt8.ofNat s.size]:=fun w0=>
  Rd.own (owns_lit w0 #[.int .u8 (s.size:Int)] [UInt8.ofNat s.size] (by simp [cellsOf];omega) (by simp [maxLen]))
 go_enter Tryz.func206,Tryz.ntmps206
 go_wp2_with (first
  | (at_make;refine wpList_make_own _ rfl _ _ 47 rfl w.heap.size 5 i0 (.int .u8 0) 1 Tryz.underlying47 hi hz0 hz1 .i64 .i64 _ (1+s.size) rfl rfl (by omega) (by rw[hz2];omega) (by unfold maxLen;omega) (Nat.le_refl _) ?_;intro w0 hown0 hgrow0)
  | (at_builtin;refine wpList_append_rd rfl _ _ 47 rfl w.heap.size 5 i0 Tryz.underlying47 hi hz0 hz1 hz2 (.slice (some ⟨w.heap.size,0,none⟩) 0 (1+s.size)) 0 [] rfl (hown0.alloc _) _ [UInt8.ofNat s.size] rfl (hrd _) (by simp) (by have:=hgrow0.size;simp;omega) ?_;intro v1 w1 hown1 hgrow1)
  | (at_builtin;(refine Lib.wpList_append_own_string _ rfl _ _ 47 9 rfl w.heap.size 5 i0 Tryz.underlying47 Tryz.underlying9 hi hz0 hz1 hz2 v1 _ _ rfl hown1 s rfl (by unfold maxLen;simp;omega) (by simp;omega) (by have:=hgrow0.size;have:=hgrow1.size;simp at this;omega) ?_);intro v2 w2 hown2 hgrow2 _))
 go_ret2
 refine⟨v2,rfl,?_,?_⟩
 ·have e1:0+ [UInt8.ofNat s.size].length +s.size=(UInt8.ofNat s.size::s.data.toList).length :=by
   rw[List.length_cons,List.length_cons,List.length_nil,Array.length_toList];show 0+(0+1)+s.data.size=s.data.size+1;omega
  rw[e1] at hown2
  exact hown2
 ·have b0:Below w.heap.size w w0:=(Below.refl _ _).grown hgrow0 (Nat.le_refl _) (fun k hk=>by cases hk)
  have b1:Below w.heap.size w w1:=(b0.alloc hgrow0.size _).grown hgrow1 (by have:=hgrow0.size;simp;omega) (fun k hk=>by simp [Value.ownBlock] at hk;omega)
  exact b1.grown hgrow2 b1.size (fun k hk=>(hown1.lt k hk).1)
theorem PutText_any (s:ByteArray) (w:World):Calls Tryz.prog 206 #[.string s] w (Made (putTextOf s) w):=by
 unfold putTextOf
 by_cases h:255<s.size
 ·rw[if_pos h]
  exact(PutText_bad s w h).mono fun e w' q=>made_none 3 w e w' q
 ·rw[if_neg h]
  exact PutText_ok s w (by omega)
end Go.Proofs.YtlnbmblbeaodcaaGreat

/- Contracts of the document's answers for layer 1. -/
set_option linter.unusedVariables false
set_option maxRecDepth 8000
set_option linter.unusedSimpArgs false
namespace Go.Proofs.YtlnbmblbeaodcaaGreat
open Lib (hid)
open Go.RowKit
namespace Ref1

theorem room_yes (a:Option Addr) (len cap:Nat) (t s:Int) (w:World) (hm:len<=maxLen) (h0:0<=t) (h1:0<=s) (h2:t+s<=len):
  Calls Tryz.prog 190 #[.slice a len cap,.int .i64 t,.int .i64 s] w fun e w'=>e= .returned (.bool true)/\w=w':=by
 unfold maxLen at hm
 go_enter Tryz.func190,Tryz.ntmps190
 go_wp2
 go_ret
 exact⟨by simp<;>omega,rfl⟩
theorem room_no (a:Option Addr) (len cap:Nat) (t s:Int) (w:World) (hm:len<=maxLen) (h1:0<=s) (h2:t<0\/(len:Int)<t+s):
  Calls Tryz.prog 190 #[.slice a len cap,.int .i64 t,.int .i64 s] w fun e w'=>e= .returned (.bool false)/\w=w':=by
 unfold maxLen at hm
 by_cases h0:t<0
 ·clear h2
  go_enter Tryz.func190,Tryz.ntmps190
  go_wp2
  go_ret
  exact⟨by simp<;>omega,rfl⟩
 ·have h3:(len:Int)<t+s:=by omega
  clear h2
  by_cases h4:t<=len
  ·go_enter Tryz.func190,Tryz.ntmps190
   go_wp2
   go_ret
   exact⟨by simp<;>omega,rfl⟩
  ·go_enter Tryz.func190,Tryz.ntmps190
   go_wp2
   go_ret
   exact⟨by simp<;>omega,rfl⟩
theorem Byte_any (v:Value) (bs:List UInt8) (t:Int) (w:World) (h:Rd w v bs) (ht:t<=9223372036854775807):
  Calls Tryz.prog 185 #[v,.int .i64 t] w (Three (byteOf bs t) w):=by
 obtain⟨a,len,cap,rfl,hl,hc,hm,hn,hx⟩:=h.ex
 unfold byteOf
 by_cases h1:t<0\/(bs.length:Int)<=t
 ·rw[if_pos h1]
  clear hx hn h
  subst hl
  go_enter Tryz.func185,Tryz.ntmps185
  go_wp2_with (go_at_call 190;refine(room_no _ _ _ _ _ _ (by omega) (by omega) (by omega)).mono ?_;rintro e w' ⟨rfl,rfl⟩)
  go_ret3
  exact⟨rfl,Below.refl _ _⟩
 ·rw[if_neg h1]
  obtain⟨k,rfl⟩:=Int.eq_ofNat_of_zero_le (show 0<=t by omega)
  match a,hx with
  | none,_=>have:=(hn rfl).1;omega
  | some x,hx=>
   obtain⟨hs,hi⟩:=hx x rfl (by omega)
   have hk:=hi k (by omega)
   obtain⟨b,off,spot⟩:=x
   simp only at hs hk
   subst hs
   clear hi hx hn h
   have hkl:k<len:=by omega
   unfold maxLen at hm
   simp only[Int.toNat_natCast]
   have hb:(bs.getD k 0).toNat <256:=UInt8.toNat_lt _
   generalize bs.getD k 0=c at hk hb ⊢
   subst hl
   clear h1
   go_enter Tryz.func185,Tryz.ntmps185
   go_wp2_with (go_at_call 190;refine(room_yes _ _ _ _ _ _ (by unfold maxLen;omega) (by omega) (by omega) (by omega)).mono ?_;rintro e w' ⟨rfl,rfl⟩)
   go_ret3
   exact⟨rfl,Below.refl _ _⟩
theorem Text_any (v:Value) (bs:List UInt8) (t m:Int) (w:World) (h:Rd w v bs) (ht:t<=9223372036854775807):
  Calls Tryz.prog 186 #[v,.int .i64 t,.int .i64 m] w (TextTold (textOf bs t m) w):=by
 have H:=h
 obtain⟨a,len,cap,rfl,hl,hc,hm,hn,hx⟩:=h.ex
 unfold textOf
 by_cases h1:t<0\/(bs.length:Int)<=t
 ·rw[if_pos h1]
  have hb:byteOf bs t=(0,0,2):=by unfold byteOf;rw[if_pos h1]
  have HB:=hid hb
  clear hb hx hn h h1
  go_enter Tryz.func186,Tryz.ntmps186
  go_wp2_with (go_at_call 185;refine(Byte_any _ bs _ _ H ht).mono ?_;rw[HB.out];rintro e w' ⟨rfl,hbel⟩)
  go_ret3
  exact⟨rfl,hbel⟩
 ·rw[if_neg h1]
  obtain⟨k,rfl⟩:=Int.eq_ofNat_of_zero_le (show 0<=t by omega)
  simp only[Int.toNat_natCast]
  have hb:byteOf bs k=(((bs.getD k 0).toNat :Int),(k:Int)+1,0):=by unfold byteOf;rw[if_neg h1];rfl
  have hlt:=UInt8.toNat_lt (bs.getD k 0)
  generalize (bs.getD k 0).toNat =n at hb hlt ⊢
  have HB:=hid hb
  clear hb
  unfold maxLen at hm
  by_cases h2:m<(n:Int)
  ·rw[if_pos h2]
   clear hx hn h h1
   go_enter Tryz.func186,Tryz.ntmps186
   go_wp2_with (go_at_call 185;refine(Byte_any _ bs _ _ H ht).mono ?_;rw[HB.out];rintro e w' ⟨rfl,hbel⟩)
   go_ret3
   exact⟨rfl,hbel⟩
  ·rw[if_neg h2]
   by_cases h3:(bs.length:Int)<k+1+n
   ·rw[if_pos h3]
    clear hx hn h h1
    subst hl
    go_enter Tryz.func186,Tryz.ntmps186
    go_wp2_with (first | (go_at_call 185;refine(Byte_any _ bs _ _ H ht).mono ?_;rw[HB.out];rintro e w' ⟨rfl,hbel⟩) | (go_at_call 190;refine(room_no _ _ _ _ _ _ (by unfold maxLen;omega) (by omega) (by omega)).mono ?_;rintro e w' ⟨rfl,rfl⟩))
    go_ret3
    exact⟨rfl,hbel⟩
   ·rw[if_neg h3]
    match a,hx with
    | none,_=>have:=(hn rfl).1;omega
    | some x,hx=>
     obtain⟨hs,hi⟩:=hx x rfl (by omega)
     obtain⟨b,off,spot⟩:=x
     simp only at hs hi
     subst hs
     clear hx hn
     subst hl
     have hcell: ∀w',Below w.heap.size w w'-> ∀i,i<bs.length->w'.cell? ⟨b,off+i,none⟩=some (.int .u8 ((bs.getD i 0).toNat :Int)):=fun w' hb i hi'=>by
      rw[hb.cell (p:=⟨b,off+i,none⟩) (lt_of_cell (hi i hi'))];exact hi i hi'
     clear hi h
     by_cases hk:cap=k+1
     ·obtain rfl:n=0:=by omega
      have hcv:=fun w a c=>conv_zero w (P:=Tryz.prog) Tryz.underlying47 Tryz.underlying5 Tryz.underlying9 a c
      have e0:sub bs (k+1) 0= []:=by simp [sub]
      rw[e0]
      clear e0
      subst hk
      clear hcell
      go_enter Tryz.func186,Tryz.ntmps186
      go_wp2_with (first | (go_at_call 185;refine(Byte_any _ bs _ _ H ht).mono ?_;rw[HB.out];rintro e w' ⟨rfl,hbel⟩) | (go_at_call 190;refine(room_yes _ _ _ _ _ _ (by unfold maxLen;omega) (by omega) (by omega) (by omega)).mono ?_;rintro e w' ⟨rfl,rfl⟩))
      go_ret3
      exact⟨rfl,hbel⟩
     ·have hcv:=fun w' hb c=>conv_sub w' (P:=Tryz.prog) Tryz.underlying47 Tryz.underlying5 Tryz.underlying9 b off (k+1) n c bs (hcell w' hb) (by omega)
      clear hcell
      generalize sub bs (k+1) n=r at hcv ⊢
      go_enter Tryz.func186,Tryz.ntmps186
      go_wp2_with (first | (go_at_call 185;refine(Byte_any _ bs _ _ H ht).mono ?_;rw[HB.out];rintro e w' ⟨rfl,hbel⟩;have hcv':=hcv w' hbel) | (go_at_call 190;refine(room_yes _ _ _ _ _ _ (by unfold maxLen;omega) (by omega) (by omega) (by omega)).mono ?_;rintro e w' ⟨rfl,rfl⟩))
      go_ret3
      exact⟨rfl,hbel⟩
end Ref1
end Go.Proofs.YtlnbmblbeaodcaaGreat

/- Contracts of the document's answers for layer 1: numbers, and what is put. -/
set_option linter.unusedVariables false
set_option maxRecDepth 8000
set_option linter.unusedSimpArgs false
namespace Go.Proofs.YtlnbmblbeaodcaaGreat
open Lib (hid)
open Go.RowKit
namespace Ref1

theorem val_cons_lt (x:UInt8) (l:List UInt8) (h:x.toNat<64):val (x::l)<64*256 ^ l.length:=by
 have h1:=val_go l x.toNat
 have h2:(x.toNat+1)*256 ^ l.length<=64*256 ^ l.length:=Nat.mul_le_mul_right _ (by omega)
 have e:val (x::l)=l.foldl (fun a x=>a*256+x.toNat) x.toNat:=by simp [val]
 rw[e]
 exact Nat.lt_of_lt_of_le h1 h2
theorem val_cons_ge (l:List UInt8) (a:Nat):a*256 ^ l.length<=l.foldl (fun a x=>a*256+x.toNat) a:=by
 induction l generalizing a with
 | nil=>simp
 | cons x l ih=>
  have h1:=ih (a*256+x.toNat)
  have h2:a*256*256 ^ l.length<=(a*256+x.toNat)*256 ^ l.length:=Nat.mul_le_mul_right _ (by omega)
  rw[List.foldl_cons,List.length_cons,Nat.pow_succ,Nat.mul_comm (256 ^ l.length) 256,<-Nat.mul_assoc]
  exact Nat.le_trans h2 h1
theorem first_small (bs:List UInt8) (k:Nat) (h:k+8<=bs.length):val (sub bs k 8)<2 ^ 62 ↔ (bs.getD k 0).toNat <64:=by
 have hl:=sub_length bs k 8 h
 have h0:=sub_getD bs k 8 0 (by omega)
 match hs:sub bs k 8,hl with
 | x::l,hl=>
  rw[hs] at h0
  simp only[List.getD_cons_zero,Nat.add_zero] at h0
  simp only[List.length_cons] at hl
  have hl':l.length=7:=by omega
  rw[<-h0]
  constructor
  ·intro hv
   have:=val_cons_ge l x.toNat
   rw[hl'] at this
   have e:val (x::l)=l.foldl (fun a x=>a*256+x.toNat) x.toNat:=by simp [val]
   rw[e] at hv
   omega
  ·intro hx
   have:=val_cons_lt x l hx
   rw[hl'] at this
   omega
theorem part_small (bs:List UInt8) (k j:Nat) (h:k+8<=bs.length) (hj:j<8) (hx:(bs.getD k 0).toNat <64):val (sub bs k j)<18014398509481984:=by
 match j,hj with
 | 0,_=>simp [sub,val]
 | j+1,hj=>
  have hl:=sub_length bs k (j+1) (by omega)
  have h0:=sub_getD bs k (j+1) 0 (by omega)
  match hs:sub bs k (j+1),hl with
  | x::l,hl=>
   rw[hs] at h0
   simp only[List.getD_cons_zero,Nat.add_zero] at h0
   simp only[List.length_cons] at hl
   have:=val_cons_lt x l (by rw[h0];exact hx)
   have h2:64*256 ^ l.length<=64*256 ^ 6:=Nat.mul_le_mul_left _ (Nat.pow_le_pow_right (by omega) (by omega))
   omega
theorem Num_any (v:Value) (bs:List UInt8) (t:Int) (w:World) (h:Rd w v bs) (ht:t<=9223372036854775807):
  Calls Tryz.prog 145 #[v,.int .i64 t] w (Three (numOf bs t) w):=by
 obtain⟨a,len,cap,rfl,hl,hc,hm,hn,hx⟩:=h.ex
 unfold numOf
 by_cases h1:t<0\/(bs.length:Int)<t+8
 ·rw[if_pos h1]
  clear hx hn h
  subst hl
  go_enter Tryz.func145,Tryz.ntmps145
  go_wp2_with (go_at_call 190;refine(room_no _ _ _ _ _ _ (by omega) (by omega) (by omega)).mono ?_;rintro e w' ⟨rfl,rfl⟩)
  go_ret3
  exact⟨rfl,Below.refl _ _⟩
 ·rw[if_neg h1]
  obtain⟨k,rfl⟩:=Int.eq_ofNat_of_zero_le (show 0<=t by omega)
  simp only[Int.toNat_natCast]
  have hk8:k+8<=bs.length:=by omega
  have hfs:=first_small bs k hk8
  match a,hx with
  | none,_=>have:=(hn rfl).1;omega
  | some x,hx=>
   obtain⟨hs,hi⟩:=hx x rfl (by omega)
   obtain⟨b,off,spot⟩:=x
   simp only at hs hi
   subst hs
   clear hx hn h h1
   unfold maxLen at hm
   subst hl
   have hk:=hi k (by omega)
   have HI:=hid hi
   have hb:(bs.getD k 0).toNat <256:=UInt8.toNat_lt _
   clear hi
   have hkl:k<bs.length:=by omega
   by_cases h2:(bs.getD k 0).toNat <64
   ·rw[if_pos (hfs.2 h2)]
    clear hfs
    have HP:=hid (fun j hj=>part_small bs k j hk8 hj h2)
    have h2':decide ((64:Int)<=((bs.getD k 0).toNat :Int))=false:=decide_eq_false (by omega)
    have h2'':((bs.getD k 0).toNat :Int)<64:=by omega
    clear h2
    generalize bs.getD k 0=c0 at hk hb h2' h2''
    go_enter Tryz.func145,Tryz.ntmps145
    go_wp2_with (go_at_call 190;refine(room_yes _ _ _ _ _ _ (by unfold maxLen;omega) (by omega) (by omega) (by omega)).mono ?_;rintro e w' ⟨rfl,rfl⟩)
    go_loop [7,8] (fun v i=> ∃j:Nat,j<=8/\i= .int .i64 j/\v= .int .i64 (val (sub bs k j):Int)) (fun _ i=>8 - (intOf i).toNat)
    case atStart=>exact⟨0,by omega,rfl,rfl⟩
    case round=>
     obtain⟨j,hj,rfl,rfl⟩:=hrel
     by_cases hlt:j<8
     ·have hcell:=HI.out (k+j) (by omega)
      have hc:(bs.getD (k+j) 0).toNat <256:=UInt8.toNat_lt _
      have HS:=hid (val_sub_succ bs k j (by omega))
      have hv:val (sub bs k j)<18014398509481984:=HP.out j hlt
      generalize bs.getD (k+j) 0=c at hcell hc HS
      go_wp2
      go_round
      case rel=>exact⟨j+1,by omega,by go_num,by rw[or_i64 _ _ (by omega) hc];exact congrArg (fun n:Nat=>Value.int .i64 (n:Int)) HS.out.symm⟩
      case measure=>simp [intOf];omega
     ·obtain rfl:j=8:=by omega
      go_wp2
      go_ret3
      exact⟨rfl,Below.refl _ _⟩
   ·rw[if_neg (fun q=>h2 (hfs.1 q))]
    clear hfs HI
    have h2':decide ((64:Int)<=((bs.getD k 0).toNat :Int))=true:=decide_eq_true (by omega)
    generalize bs.getD k 0=c0 at hk hb h2'
    clear h2
    go_enter Tryz.func145,Tryz.ntmps145
    go_wp2_with (go_at_call 190;refine(room_yes _ _ _ _ _ _ (by unfold maxLen;omega) (by omega) (by omega) (by omega)).mono ?_;rintro e w' ⟨rfl,rfl⟩)
    go_ret3
    exact⟨rfl,Below.refl _ _⟩
end Ref1
end Go.Proofs.YtlnbmblbeaodcaaGreat

/- Contracts of the statements' own helpers of layer 1: Same, awake. -/
set_option linter.unusedVariables false
set_option maxRecDepth 8000
set_option linter.unusedSimpArgs false
namespace Go.Proofs.YtlnbmblbeaodcaaGreat
open Lib (hid)
open Go.RowKit



def MadeRd (r:List UInt8 × Int) (w:World) (e:Ending) (w':World):Prop:=
 ∃v,e= .returned (.tuple #[v,.int .i64 r.2])/\Rd w' v r.1/\Below w.heap.size w w'
theorem Made.rd {r:List UInt8 × Int} {w:World} {e:Ending} {w':World} (h:Made r w e w'):MadeRd r w e w':=by
 obtain⟨v,he,ho,hb⟩:=h
 exact⟨v,he,Rd.own ho,hb⟩
theorem rd_lit (w:World) (cs:Array Value) (bs:List UInt8) (h:cs.toList=cellsOf bs) (hm:bs.length<=maxLen):Rd (w.alloc (.cells cs 5)) (.slice (some ⟨w.heap.size,0,none⟩) bs.length bs.length) bs:=
 Rd.own (owns_lit w cs bs h hm)
end Go.Proofs.YtlnbmblbeaodcaaGreat

/- Plain facts on bytes of numbers. -/
set_option linter.unusedVariables false
set_option maxRecDepth 8000
set_option linter.unusedSimpArgs false
namespace Go.Proofs.YtlnbmblbeaodcaaGreat
open Lib (hid)
open Go.RowKit

theorem val_be8 (n:Nat) (h:n<2 ^ 64):val (be8 n)=n:=by
 have t:=fun i=>toNat_byte (beByte n i) (beByte_lt n i)
 simp only[val,be8,List.foldl_cons,List.foldl_nil,t]
 simp only[beByte]
 omega
end Go.Proofs.YtlnbmblbeaodcaaGreat
