/- Texts laid together by program. -/
import Derived.Test.YtlnbmblbeaodcaaGreatQS22
/- The developers' writer of package snap: a byte, a text, a session, a memo. -/
set_option linter.unusedVariables false
set_option maxRecDepth 8000
set_option linter.unusedSimpArgs false
namespace Go.Proofs.YtlnbmblbeaodcaaGreat
open Lib (hid)
open Go.RowKit
namespace Cm

theorem SnapPutByte (w0:World) (g:Nat) (bs:List UInt8) (w:World) (h:WB w0 g bs w) (v:Int) (h0:0<=v) (h1:v<256) (hl:bs.length<=1000000):
  Calls Tryz.prog 133 #[.pointer (some ⟨g,0,none⟩),.int .i64 v] w fun e w'=>e= .returned (.tuple #[])/\WB w0 g (bs++ [UInt8.ofNat v.toNat]) w'/\Kp w w':=by
 have C1:Hid (∀w,Calls Tryz.prog 178 #[.int .i64 v] w (Row 1 [UInt8.ofNat v.toNat] w)):=fun w=>(PutByte_any v w).mono fun e w' q=>row_of rfl (by omega) (by unfold putByteOf at q;rw[if_neg (by omega)] at q;exact q)
 obtain⟨X,hX⟩: ∃X,[UInt8.ofNat v.toNat]=X:=⟨_,rfl⟩
 have hXL:X.length<=1000:=by rw[<-hX];simp
 rw[hX] at C1 ⊢
 clear hX
 obtain⟨a,c,hbox,hown⟩:=WB.at (w2:=w) h
 have HW:=hid h
 have HX:=hid hbox
 have HO:=hid hown
 obtain⟨i0,hi,hz0,hz1,hz2⟩:=info_parts info8
 have HN:=hid (And.intro hl hXL)
 clear h hbox hown hl h0 h1 hXL
 go_enter Tryz.func133,Tryz.ntmps133
 go_upto_region 1 with (go_at_call 178;refine(C1.out _).mono ?_;rintro e w2 ⟨pg,pc,rfl,ho2,hr2,hb2⟩;have HB2:=hid (hb2);have HR2:=hid hr2;have hA:=(HB2.out.block g (get_ltW HX.out)).trans HX.out;have HX2:=hid hA;have HO2:=hid (Rw.own_below HO.out HB2.out);have k0:=cell_atW hA 0;have kf:=frozen_atW hA 0;simp only[List.getElem?_toArray,List.getElem?_cons_zero] at k0;clear hA ho2 hr2 hb2)
 go_wp2_with (at_builtin;refine wpList_append_rd rfl (.tmp 15) (.tmp 16) 47 rfl (g+1) 5 i0 Tryz.underlying47 hi hz0 hz1 hz2 (.slice a bs.length c) _ _ rfl HO2.out _ X rfl HR2.out (by have:=HN.out;omega) (by have:=get_ltW HX2.out;omega) ?_;intro v' w3 hown3 hgrow3;obtain⟨va,vc,rfl⟩:=Rw.own_form hown3;have HP:=hid (WB.put HW.out HB2.out HX2.out HO2.out hgrow3 hown3);have hA:=(hgrow3.block g (get_ltW HX2.out) (fun q=>by have:=(Rw.own_lt HO2.out g q.symm).1;omega)).trans HX2.out;have k0:=cell_atW hA 0;have kf:=frozen_atW hA 0;simp only[List.getElem?_toArray,List.getElem?_cons_zero] at k0;clear hA hown3 hgrow3)
 go_end0
 exact⟨rfl,HP.out⟩
theorem SnapPutText (w0:World) (g:Nat) (bs:List UInt8) (w:World) (h:WB w0 g bs w) (s:List UInt8) (h1:s.length<=12) (hl:bs.length<=1000000):
  Calls Tryz.prog 179 #[.pointer (some ⟨g,0,none⟩),.string (bstr s)] w fun e w'=>e= .returned (.tuple #[])/\WB w0 g (bs++(UInt8.ofNat s.length::s)) w'/\Kp w w':=by
 have C1:Hid (∀w,Calls Tryz.prog 206 #[.string (bstr s)] w (Row (1+s.length) (UInt8.ofNat s.length::s) w)):=fun w=>by
  have e:(bstr s).size =s.length:=bstr_size s
  have:=PutText_row (bstr s) w (by omega)
  rw[e,bstr_toList] at this
  exact this
 obtain⟨X,hX⟩: ∃X,(UInt8.ofNat s.length::s)=X:=⟨_,rfl⟩
 have hXL:X.length<=1000:=by rw[<-hX];simp;omega
 rw[hX] at C1 ⊢
 clear hX
 obtain⟨a,c,hbox,hown⟩:=WB.at (w2:=w) h
 have HW:=hid h
 have HX:=hid hbox
 have HO:=hid hown
 obtain⟨i0,hi,hz0,hz1,hz2⟩:=info_parts info8
 have HN:=hid (And.intro hl hXL)
 clear h hbox hown hl h1 hXL
 go_enter Tryz.func179,Tryz.ntmps179
 go_upto_region 1 with (go_at_call 206;refine(C1.out _).mono ?_;rintro e w2 ⟨pg,pc,rfl,ho2,hr2,hb2⟩;have HB2:=hid (hb2);have HR2:=hid hr2;have hA:=(HB2.out.block g (get_ltW HX.out)).trans HX.out;have HX2:=hid hA;have HO2:=hid (Rw.own_below HO.out HB2.out);have k0:=cell_atW hA 0;have kf:=frozen_atW hA 0;simp only[List.getElem?_toArray,List.getElem?_cons_zero] at k0;clear hA ho2 hr2 hb2)
 go_wp2_with (at_builtin;refine wpList_append_rd rfl (.tmp 15) (.tmp 16) 47 rfl (g+1) 5 i0 Tryz.underlying47 hi hz0 hz1 hz2 (.slice a bs.length c) _ _ rfl HO2.out _ X rfl HR2.out (by have:=HN.out;omega) (by have:=get_ltW HX2.out;omega) ?_;intro v' w3 hown3 hgrow3;obtain⟨va,vc,rfl⟩:=Rw.own_form hown3;have HP:=hid (WB.put HW.out HB2.out HX2.out HO2.out hgrow3 hown3);have hA:=(hgrow3.block g (get_ltW HX2.out) (fun q=>by have:=(Rw.own_lt HO2.out g q.symm).1;omega)).trans HX2.out;have k0:=cell_atW hA 0;have kf:=frozen_atW hA 0;simp only[List.getElem?_toArray,List.getElem?_cons_zero] at k0;clear hA hown3 hgrow3)
 go_end0
 exact⟨rfl,HP.out⟩
end Cm
end Go.Proofs.YtlnbmblbeaodcaaGreat

/- The developers' writer of package snap: a session, a memo. -/
set_option linter.unusedVariables false
set_option maxRecDepth 8000
set_option linter.unusedSimpArgs false
namespace Go.Proofs.YtlnbmblbeaodcaaGreat
open Lib (hid)
open Go.RowKit
namespace Cm

theorem SnapPutSes (w0:World) (g:Nat) (bs:List UInt8) (w:World) (h:WB w0 g bs w) (x:SesV) (hx:oneS x=true) (hl:bs.length<=990000):
  Calls Tryz.prog 134 #[.pointer (some ⟨g,0,none⟩),.agg #[.int .i64 x.client,.int .i64 x.num,.int .i64 x.ren]] w fun e w'=>e= .returned (.tuple #[])/\WB w0 g (bs++bytesSes x) w'/\Kp w w':=by
 obtain⟨h1,h2,h3⟩:=oneS_bounds hx
 obtain⟨c,n,r⟩:=x
 dsimp only at h1 h2 h3 ⊢
 have C1:Hid (∀W bs,WB w0 g bs W->bs.length<=1000000->Calls Tryz.prog 133 #[.pointer (some ⟨g,0,none⟩),.int .i64 c] W fun e w'=>e= .returned (.tuple #[])/\WB w0 g (bs++ [UInt8.ofNat c.toNat]) w'/\Kp W w'):=fun W bs h hl=>SnapPutByte w0 g bs W h c h1.1 (by omega) hl
 have C2:Hid (∀W bs,WB w0 g bs W->bs.length<=1000000->Calls Tryz.prog 76 #[.pointer (some ⟨g,0,none⟩),.int .i64 n] W fun e w'=>e= .returned (.tuple #[])/\WB w0 g (bs++be8 n.toNat) w'/\Kp W w'):=fun W bs h hl=>SnapPutNum w0 g bs W h n (by omega) (by omega) hl
 have C3:Hid (∀W bs,WB w0 g bs W->bs.length<=1000000->Calls Tryz.prog 76 #[.pointer (some ⟨g,0,none⟩),.int .i64 r] W fun e w'=>e= .returned (.tuple #[])/\WB w0 g (bs++be8 r.toNat) w'/\Kp W w'):=fun W bs h hl=>SnapPutNum w0 g bs W h r (by omega) (by omega) hl
 have HW:=hid h
 have HN:=hid hl
 have hE:bs++bytesSes ⟨c,n,r⟩=bs++ [UInt8.ofNat c.toNat]++be8 n.toNat++be8 r.toNat:=by simp [bytesSes]
 have HE:=hid hE
 clear h1 h2 h3 hx h hl hE
 go_enter Tryz.func134,Tryz.ntmps134
 go_upto_region 1 with fail
 have hst:=newAlloc w (.cells #[.int .i64 c,.int .i64 n,.int .i64 r] 73)
 have HX:Hid ((w.alloc (.cells #[.int .i64 c,.int .i64 n,.int .i64 r] 73)).heap[w.heap.size]?=some (Obj.cells #[.int .i64 c,.int .i64 n,.int .i64 r] 73)):=hid (by show(w.heap.push _)[w.heap.size]?= _;simp)
 have HW:=hid (HW.out.later hst)
 have HK:=hid (Kp.of hst)
 generalize hW:w.alloc _=W at HX HW HK ⊢
 generalize w.heap.size=b at HX ⊢
 clear hW hst
 have k0:=cell_atW HX.out 0
 have k1:=cell_atW HX.out 1
 have k2:=cell_atW HX.out 2
 simp only[List.getElem?_toArray,List.getElem?_cons_zero,List.getElem?_cons_succ] at k0 k1 k2
 go_wp2_with fail
 refine(C1.out _ _ HW.out (by have:=HN.out;omega)).mono ?_
 rintro e w2 ⟨rfl,hw2,hk2⟩
 have HX:=hid (hk2 b _ _ HX.out (by decide) (by decide))
 have HK:=hid (HK.out.step hk2)
 have HW:=hid hw2
 clear hw2 hk2 C1 k0 k1 k2
 have k1:=cell_atW HX.out 1
 have k2:=cell_atW HX.out 2
 simp only[List.getElem?_toArray,List.getElem?_cons_zero,List.getElem?_cons_succ] at k1 k2
 go_wp2_with fail
 refine(C2.out _ _ HW.out (by have:=HN.out;simp;omega)).mono ?_
 rintro e w3 ⟨rfl,hw2,hk2⟩
 have HX:=hid (hk2 b _ _ HX.out (by decide) (by decide))
 have HK:=hid (HK.out.step hk2)
 have HW:=hid hw2
 clear hw2 hk2 C2 k1 k2
 have k2:=cell_atW HX.out 2
 simp only[List.getElem?_toArray,List.getElem?_cons_zero,List.getElem?_cons_succ] at k2
 go_wp2_with fail
 refine(C3.out _ _ HW.out (by have:=HN.out;simp [be8_length];omega)).mono ?_
 rintro e w4 ⟨rfl,hw2,hk2⟩
 have HK:=hid (HK.out.step hk2)
 have HW:=hid hw2
 clear hw2 hk2 C3 k2
 go_wp2_with fail
 go_end0
 exact⟨rfl,by rw[HE.out];exact HW.out,HK.out⟩
theorem held_few (m:AnsV) (h:mayA m=true):(bytesH m.rep.held).length <=900:=by
 have hp:=mayP_bounds _ (mayA_bounds m h).2.2
 have key: ∀l:List GrantV,(∀g∈l,g.name.length<=12)->(bytesH l).length <=100*l.length:=by
  intro l
  induction l with
  | nil=>intro _;simp [bytesH]
  | cons x l ih=>
   intro h
   have h1:=ih fun g hg=>h g (List.mem_cons_of_mem _ hg)
   have h2:=h x List.mem_cons_self
   rw[bytesH_cons,List.length_append,bytesG_length,List.length_cons]
   omega
 have:=key m.rep.held fun g hg=>(hp.2.2.2.2 g hg).1
 omega
theorem SnapPutMemo (w0:World) (g:Nat) (bs:List UInt8) (w:World) (h:WB w0 g bs w) (m:AnsV) (hv:Value) (hm:mayA m=true) (hr:RdH w hv m.rep.held) (hl:bs.length<=1000000):
  Calls Tryz.prog 136 #[.pointer (some ⟨g,0,none⟩),ansVal m hv] w fun e w'=>e= .returned (.tuple #[])/\WB w0 g (bs++bytesA m) w'/\Kp w w':=by
 obtain⟨L,hL⟩: ∃L,(bytesA m).length =L:=⟨_,rfl⟩
 have hL1:=bytesA_length m
 have hL2:(bytesH m.rep.held).length <=900:=held_few m hm
 have C1: ∀W,RdH W hv m.rep.held->Calls Tryz.prog 180 #[ansVal m hv] W (Row L (bytesA m) W):=fun W hr=>(RepPutAnswer_any m hv W hr).mono fun e w' q=>by
  unfold putA at q
  rw[if_pos hm] at q
  exact row_of hL (by omega) q
 obtain⟨X,hX⟩: ∃X,bytesA m=X:=⟨_,rfl⟩
 rw[hX] at C1 hL ⊢
 have hXL:X.length<=1000:=by rw[<-hX];omega
 obtain⟨a,c,hbox,hown⟩:=WB.at (w2:=w) h
 obtain⟨ha,hc,hvv,_⟩:=hr.ex
 subst hvv
 obtain⟨mc,mq,⟨rk,rs,ra,mh⟩⟩:=m
 unfold ansVal at C1 ⊢
 dsimp only at C1 hr ⊢
 obtain⟨hn,hhn⟩: ∃hn,mh.length=hn:=⟨_,rfl⟩
 rw[hhn] at C1 hr ⊢
 have C1:=hid C1
 have HW:=hid h
 have HX:=hid hbox
 have HO:=hid hown
 have HRD:=hid hr
 obtain⟨i0,hi,hz0,hz1,hz2⟩:=info_parts info8
 have HN:=hid (And.intro hl hXL)
 clear h hbox hown hl hXL hX hL hL1 hL2 hm hr hhn
 go_enter Tryz.func136,Tryz.ntmps136
 go_upto_region 1 with fail
 have HST:=hid (newAlloc w (.cells #[.int .i64 mc,.int .i64 mq,.int .i64 rk,.int .i64 rs,.int .i64 ra,.slice ha hn hc] 76))
 have hq:(w.alloc (.cells #[.int .i64 mc,.int .i64 mq,.int .i64 rk,.int .i64 rs,.int .i64 ra,.slice ha hn hc] 76)).heap[w.heap.size]?=some (Obj.cells #[.int .i64 mc,.int .i64 mq,.int .i64 rk,.int .i64 rs,.int .i64 ra,.slice ha hn hc] 76):=by show(w.heap.push _)[w.heap.size]?= _;simp
 have k0:=cell_atW hq 0
 have k1:=cell_atW hq 1
 have k2:=cell_atW hq 2
 have k3:=cell_atW hq 3
 have k4:=cell_atW hq 4
 have k5:=cell_atW hq 5
 simp only[List.getElem?_toArray,List.getElem?_cons_zero,List.getElem?_cons_succ] at k0 k1 k2 k3 k4 k5
 have HRD:=hid (HRD.out.later HST.out)
 generalize w.heap.size=mb at k0 k1 k2 k3 k4 k5 ⊢
 clear hq
 go_upto_region 2 with (go_at_call 180;refine(C1.out _ HRD.out).mono ?_;rintro e w2 ⟨pg,pc,rfl,ho2,hr2,hb2⟩;have HB2:=hid (_root_.Go.Proofs.YtlnbmblbeaodcaaGreat.step HST.out hb2);have HR2:=hid hr2;have hA:=(HB2.out.block g (get_ltW HX.out)).trans HX.out;have HX2:=hid hA;have HO2:=hid (Rw.own_below HO.out HB2.out);have k0:=cell_atW hA 0;have kf:=frozen_atW hA 0;simp only[List.getElem?_toArray,List.getElem?_cons_zero] at k0;clear hA ho2 hr2 hb2)
 go_wp2_with (at_builtin;refine wpList_append_rd rfl (.tmp 15) (.tmp 16) 47 rfl (g+1) 5 i0 Tryz.underlying47 hi hz0 hz1 hz2 (.slice a bs.length c) _ _ rfl HO2.out _ X rfl HR2.out (by have:=HN.out;omega) (by have:=get_ltW HX2.out;omega) ?_;intro v' w3 hown3 hgrow3;obtain⟨va,vc,rfl⟩:=Rw.own_form hown3;have HP:=hid (WB.put HW.out HB2.out HX2.out HO2.out hgrow3 hown3);have hA:=(hgrow3.block g (get_ltW HX2.out) (fun q=>by have:=(Rw.own_lt HO2.out g q.symm).1;omega)).trans HX2.out;have k0:=cell_atW hA 0;have kf:=frozen_atW hA 0;simp only[List.getElem?_toArray,List.getElem?_cons_zero] at k0;clear hA hown3 hgrow3)
 go_end0
 exact⟨rfl,HP.out⟩
end Cm
end Go.Proofs.YtlnbmblbeaodcaaGreat

/- The developers' writer of package snap: a lock. -/
set_option linter.unusedVariables false
set_option maxRecDepth 8000
set_option linter.unusedSimpArgs false
namespace Go.Proofs.YtlnbmblbeaodcaaGreat
open Lib (hid)
open Go.RowKit
namespace Cm

theorem lineB_length: ∀l:List Int,(lineB l).length =l.length
 | []=>rfl
 | x::l=>by have:=lineB_length l;unfold lineB at this ⊢;rw[List.flatMap_cons,List.length_append,this];simp;omega
theorem lineB_take (l:List Int) (j:Nat) (h:j<l.length):lineB (l.take (j+1))=lineB (l.take j)++ [UInt8.ofNat l[j].toNat]:=by
 unfold lineB
 rw[List.take_succ_eq_append_getElem h,List.flatMap_append]
 simp
set_option maxHeartbeats 1000000 in
theorem SnapPutLock (w0:World) (g:Nat) (bs:List UInt8) (w:World) (h:WB w0 g bs w) (x:LockC) (hx:oneK x.val=true) (hr:RdI w0 (.slice x.la x.line.length x.lc) x.line) (hl:bs.length<=980000):
  Calls Tryz.prog 135 #[.pointer (some ⟨g,0,none⟩),.agg #[.string (bstr x.name),.int .i64 x.holder,.int .i64 x.token,.slice x.la x.line.length x.lc]] w fun e w'=>e= .returned (.tuple #[])/\WB w0 g (bs++bytesLock x.val) w'/\Kp w w':=by
 have hm:=hr.len
 obtain⟨nm,ho,tk,li,la,lc⟩:=x
 unfold LockC.val at hx ⊢
 dsimp only at hx hr hm ⊢
 unfold oneK at hx
 simp only[Bool.and_eq_true] at hx
 obtain⟨hn,hc,ht,hli,_⟩:=hx
 have hnl:nm.length<=12:=name_len _ hn
 unfold clientF at hc
 unfold highF at ht
 simp at hc ht
 obtain⟨h3,hrl⟩:=(rightL_iff li).1 hli
 have C1:Hid (∀W bs,WB w0 g bs W->bs.length<=1000000->Calls Tryz.prog 179 #[.pointer (some ⟨g,0,none⟩),.string (bstr nm)] W fun e w'=>e= .returned (.tuple #[])/\WB w0 g (bs++(UInt8.ofNat nm.length::nm)) w'/\Kp W w'):=fun W bs h hl=>SnapPutText w0 g bs W h nm hnl hl
 have C2:Hid (∀W bs,WB w0 g bs W->bs.length<=1000000->Calls Tryz.prog 133 #[.pointer (some ⟨g,0,none⟩),.int .i64 ho] W fun e w'=>e= .returned (.tuple #[])/\WB w0 g (bs++ [UInt8.ofNat ho.toNat]) w'/\Kp W w'):=fun W bs h hl=>SnapPutByte w0 g bs W h ho hc.1 (by omega) hl
 have C3:Hid (∀W bs,WB w0 g bs W->bs.length<=1000000->Calls Tryz.prog 76 #[.pointer (some ⟨g,0,none⟩),.int .i64 tk] W fun e w'=>e= .returned (.tuple #[])/\WB w0 g (bs++be8 tk.toNat) w'/\Kp W w'):=fun W bs h hl=>SnapPutNum w0 g bs W h tk (by omega) (by omega) hl
 have C4:Hid (∀W bs,WB w0 g bs W->bs.length<=1000000->Calls Tryz.prog 133 #[.pointer (some ⟨g,0,none⟩),.int .i64 (li.length:Int)] W fun e w'=>e= .returned (.tuple #[])/\WB w0 g (bs++ [UInt8.ofNat li.length]) w'/\Kp W w'):=fun W bs h hl=>by
  have:=SnapPutByte w0 g bs W h (li.length:Int) (by omega) (by omega) hl
  rwa [Int.toNat_natCast] at this
 have CJ:Hid (∀j (hj:j<li.length) W bs,WB w0 g bs W->bs.length<=1000000->Calls Tryz.prog 133 #[.pointer (some ⟨g,0,none⟩),.int .i64 li[j]] W fun e w'=>e= .returned (.tuple #[])/\WB w0 g (bs++ [UInt8.ofNat li[j].toNat]) w'/\Kp W w'):=fun j hj W bs h hl=>by
  have:=hrl.ok li[j] (List.getElem_mem hj)
  unfold clientF at this
  simp at this
  exact SnapPutByte w0 g bs W h li[j] this.1 (by omega) hl
 have HA:=hid (fun i hi=>rdi_at hr i hi)
 have HT:=hid (lineB_take li)
 have HTL:Hid (∀j,j<=li.length->(lineB (li.take j)).length <=3):=hid fun j hj=>by
  rw[lineB_length,List.length_take]
  omega
 have hAll:lineB (li.take li.length)=lineB li:=by rw[List.take_length]
 have HALL:=hid hAll
 have HW:=hid h
 have HN:=hid (And.intro hl hnl)
 have hE:bs++bytesLock ⟨nm,ho,tk,li⟩=bs++(UInt8.ofNat nm.length::nm)++ [UInt8.ofNat ho.toNat]++be8 tk.toNat++ [UInt8.ofNat li.length]++lineB li:=by simp [bytesLock]
 have HE:=hid hE
 clear hn hc ht hli hnl hrl h hl hE hr hAll
 obtain⟨L,hL⟩: ∃L,li.length=L:=⟨_,rfl⟩
 have HLL:=hid hL
 rw[hL] at h3 hm HTL HALL C4 HE ⊢
 clear hL
 go_enter Tryz.func135,Tryz.ntmps135
 go_upto_region 1 with fail
 have hst:=newAlloc w (.cells #[.string (bstr nm),.int .i64 ho,.int .i64 tk,.slice la L lc] 71)
 have HX:Hid ((w.alloc (.cells #[.string (bstr nm),.int .i64 ho,.int .i64 tk,.slice la L lc] 71)).heap[w.heap.size]?=some (Obj.cells #[.string (bstr nm),.int .i64 ho,.int .i64 tk,.slice la L lc] 71)):=hid (by show(w.heap.push _)[w.heap.size]?= _;simp)
 have HW:=hid (HW.out.later hst)
 have HK:=hid (Kp.of hst)
 generalize hW:w.alloc _=W at HX HW HK ⊢
 generalize w.heap.size=b at HX ⊢
 clear hW hst
 have k0:=cell_atW HX.out 0
 have k1:=cell_atW HX.out 1
 have k2:=cell_atW HX.out 2
 have k3:=cell_atW HX.out 3
 simp only[List.getElem?_toArray,List.getElem?_cons_zero,List.getElem?_cons_succ] at k0 k1 k2 k3
 go_wp2_with fail
 refine(C1.out _ _ HW.out (by have:=HN.out;simp [be8_length];omega)).mono ?_
 rintro e v0 ⟨rfl,hw2,hk2⟩
 have HX:=hid (hk2 b _ _ HX.out (by decide) (by decide))
 have HK:=hid (HK.out.step hk2)
 have HW:=hid hw2
 clear hw2 hk2 C1 k0 k1 k2 k3
 have k0:=cell_atW HX.out 0
 have k1:=cell_atW HX.out 1
 have k2:=cell_atW HX.out 2
 have k3:=cell_atW HX.out 3
 simp only[List.getElem?_toArray,List.getElem?_cons_zero,List.getElem?_cons_succ] at k0 k1 k2 k3
 go_wp2_with fail
 refine(C2.out _ _ HW.out (by have:=HN.out;simp [be8_length];omega)).mono ?_
 rintro e v1 ⟨rfl,hw2,hk2⟩
 have HX:=hid (hk2 b _ _ HX.out (by decide) (by decide))
 have HK:=hid (HK.out.step hk2)
 have HW:=hid hw2
 clear hw2 hk2 C2 k0 k1 k2 k3
 have k0:=cell_atW HX.out 0
 have k1:=cell_atW HX.out 1
 have k2:=cell_atW HX.out 2
 have k3:=cell_atW HX.out 3
 simp only[List.getElem?_toArray,List.getElem?_cons_zero,List.getElem?_cons_succ] at k0 k1 k2 k3
 go_wp2_with fail
 refine(C3.out _ _ HW.out (by have:=HN.out;simp [be8_length];omega)).mono ?_
 rintro e v2 ⟨rfl,hw2,hk2⟩
 have HX:=hid (hk2 b _ _ HX.out (by decide) (by decide))
 have HK:=hid (HK.out.step hk2)
 have HW:=hid hw2
 clear hw2 hk2 C3 k0 k1 k2 k3
 have k0:=cell_atW HX.out 0
 have k1:=cell_atW HX.out 1
 have k2:=cell_atW HX.out 2
 have k3:=cell_atW HX.out 3
 simp only[List.getElem?_toArray,List.getElem?_cons_zero,List.getElem?_cons_succ] at k0 k1 k2 k3
 go_wp2_with fail
 refine(C4.out _ _ HW.out (by have:=HN.out;simp [be8_length];omega)).mono ?_
 rintro e v3 ⟨rfl,hw2,hk2⟩
 have HX:=hid (hk2 b _ _ HX.out (by decide) (by decide))
 have HK:=hid (HK.out.step hk2)
 have HW:=hid hw2
 clear hw2 hk2 C4 k0 k1 k2 k3
 have k0:=cell_atW HX.out 0
 have k1:=cell_atW HX.out 1
 have k2:=cell_atW HX.out 2
 have k3:=cell_atW HX.out 3
 simp only[List.getElem?_toArray,List.getElem?_cons_zero,List.getElem?_cons_succ] at k0 k1 k2 k3
 obtain⟨B4,hB4⟩: ∃B4,bs++(UInt8.ofNat nm.length::nm)++ [UInt8.ofNat ho.toNat]++be8 tk.toNat++ [UInt8.ofNat L]=B4:=⟨_,rfl⟩
 have hB5:B4.length<=990000:=by have:=HN.out;rw[<-hB4];simp [be8_length];omega
 rw[hB4] at HW HE
 have HB5:=hid hB5
 clear hB4 hB5 HN
 go_wp2_with fail
 clear k0 k1 k2 k3
 go_loopw [26] (fun i wr=> ∃j:Nat,j<=L/\i= .int .i64 j/\Hid (WB w0 g (B4++lineB (li.take j)) wr)/\Hid (Kp w wr)) (fun i _=>L - (intOf i).toNat)
 case atStart=>exact⟨0,by omega,rfl,hid (by have:=HW.out;simpa [lineB] using this),HK⟩
 case round=>
  obtain⟨j,hj,rfl,HW,HK⟩:=hrel
  by_cases hlt:j<L
  ·obtain⟨b',o',rfl,hc⟩:=HA.out j (by rw[HLL.out];exact hlt)
   have q1:=hc _ HW.out.below
   have CX:=hid (CJ.out j (by rw[HLL.out];exact hlt))
   have HX1:=hid (HT.out j (by rw[HLL.out];exact hlt))
   clear hc CJ HT
   have hjl:j<li.length:=by rw[HLL.out];exact hlt
   generalize li[j]'hjl=y at q1 CX HX1
   clear hjl
   go_wp2_with fail
   refine(CX.out _ _ HW.out (by have:=HB5.out;have:=HTL.out j hj;rw[List.length_append];omega)).mono ?_
   rintro e v9 ⟨rfl,hw2,hk2⟩
   have HK:=hid (HK.out.step hk2)
   have HW:=hid hw2
   clear hw2 hk2 q1 CX
   go_wp2_with fail
   go_roundw
   case rel=>exact⟨j+1,by omega,by go_num,hid (by rw[HX1.out,<-List.append_assoc];exact HW.out),HK⟩
   case measure=>simp [intOf];omega
  ·obtain rfl:j=L:=by omega
   go_wp2_with fail
   go_end0
   exact⟨rfl,by rw[HE.out,<-HALL.out];exact HW.out,HK.out⟩
end Cm
end Go.Proofs.YtlnbmblbeaodcaaGreat
