/- Texts laid together by program. -/
import Derived.Test.YtlnbmblbeaodcaaGreatQS34
import Derived.Test.YtlnbmblbeaodcaaGreatQS36
import Derived.Deep.RegionHeld3
/- What is done to right states leaves them right; what package auto does, step by step, is what the document says. Pure. -/
set_option linter.unusedVariables false
set_option maxRecDepth 8000
set_option linter.unusedSimpArgs false
namespace Go.Proofs.YtlnbmblbeaodcaaGreat
open Lib (hid)
open Go.RowKit
namespace Cm

theorem find_map (c t:Int): ∀(l:List SesV) (d:Int),(findS (l.map (renewE c t)) d).2=(findS l d).2/\(findS (l.map (renewE c t)) d).1.num =(findS l d).1.num /\(findS (l.map (renewE c t)) d).1.client =(findS l d).1.client
 | [],d=>⟨rfl,rfl,rfl⟩
 | s::l,d=>by
  rw[List.map_cons,findS,findS,(renewE_keeps c t s).1]
  split
  ·exact⟨rfl,(renewE_keeps c t s).2,(renewE_keeps c t s).1⟩
  ·exact find_map c t l d
theorem Rst.high {s:StV} (h:Rst s):highF s.time 0=true:=by
 have:=h.time
 unfold highF
 simp;omega
theorem renewed_ses {s:StV} (h:Rst s) {c:Int} (hf:(findS s.ses c).2=true):(renewS s.ses c s.time).1=s.ses.map (renewE c s.time):=by
 unfold renewS
 rw[if_neg (by rw[h.high];simp),if_neg (by rw[hf];simp)]
theorem Rst.renewed {s:StV} (h:Rst s) {c:Int} (hf:(findS s.ses c).2=true):Rst (renewedA s c):=by
 have e:=renewed_ses h hf
 refine⟨h.time,h.num,h.token,?_,h.good,h.memos,?_,?_⟩
 ·refine renewS_right s.ses c s.time h.ses ?_
  unfold renewS
  rw[if_neg (by rw[h.high];simp),if_neg (by rw[hf];simp)]
 ·intro x hx
  have hx':x∈(renewS s.ses c s.time).1:=hx
  rw[e] at hx'
  obtain⟨y,hy,rfl⟩:=List.mem_map.1 hx'
  rw[(renewE_keeps c s.time y).2]
  exact h.nums y hy
 ·refine h.has.imp fun d hd=>?_
  show(findS (renewS s.ses c s.time).1 d).2=true
  rw[e,(find_map c s.time s.ses d).1]
  exact hd
theorem Rst.client {s:StV} (h:Rst s) {c:Int} (hf:(findS s.ses c).2=true):clientF c=true:=by
 obtain⟨x,hx,e⟩:=(findS_some s.ses c).1 hf
 have:=((rightS_iff s.ses).1 h.ses).2.one x hx
 unfold oneS at this
 simp only[Bool.and_eq_true] at this
 rw[<-e]
 exact this.1.1
theorem Rst.opened {s:StV} (h:Rst s) {c:Int} (hn:s.num<2305843009213693952) (ho:(openS s.ses c (s.num+1) s.time).2=0):Rst (openedA s c):=by
 have hr:=openS_right s.ses c (s.num+1) s.time h.ses ho
 have e:(openS s.ses c (s.num+1) s.time).1=putS ⟨c,s.num+1,s.time⟩ s.ses:=by
  unfold openS at ho ⊢
  split
  ·rename_i q;rw[if_pos q] at ho;cases ho
  ·rename_i q
   rw[if_neg q] at ho
   split
   ·rename_i q;rw[if_pos q] at ho;cases ho
   ·rename_i q
    rw[if_neg q] at ho
    split
    ·rename_i q;rw[if_pos q] at ho;cases ho
    ·rename_i q
     rw[if_neg q] at ho
     split
     ·rename_i q;rw[if_pos q] at ho;cases ho
     ·rfl
 have hnum:=h.num
 refine⟨h.time,⟨by show(0:Int)<=s.num+1;omega,by show s.num+1<=_;omega⟩,h.token,hr,h.good,h.memos,?_,?_⟩
 ·intro x hx
  have hx':x∈(openS s.ses c (s.num+1) s.time).1:=hx
  rw[e,putS_mem] at hx'
  show x.num<=s.num+1
  rcases hx' with q | q
  ·rw[q];exact Int.le_refl _
  ·have:=h.nums x q;omega
 ·refine h.has.imp fun d hd=>?_
  show(findS (openS s.ses c (s.num+1) s.time).1 d).2=true
  obtain⟨x,hx,e2⟩:=(findS_some _ _).1 hd
  rw[e]
  exact(findS_some _ _).2 ⟨x,(putS_mem _ _ _).2 (.inr hx),e2⟩
theorem Rst.taken {s:StV} (h:Rst s) {n:List UInt8} {c:Int} (wt:Bool) (hn:nameF n=true) (hc:hasA s c=true) (ht:s.token<2305843009213693900):Rst (takenA s n c wt)/\s.token<=(takenA s n c wt).token /\(takenA s n c wt).token <=s.token+1:=by
 obtain⟨g0,g10⟩:=good_take h.good n c wt hn (h.client hc) (by omega)
 have hi:=in_take h.has n c s.token wt hc
 unfold takenA
 by_cases e0:(takeK s.locks n c s.token wt).2.2=0
 ·rw[if_pos e0,if_pos (.inl e0)]
  refine⟨⟨h.time,h.num,by show s.token+1<=_;omega,h.ses,g0 e0,h.memos,h.nums,hi⟩,by show s.token<=s.token+1;omega,Int.le_refl _⟩
 ·rw[if_neg e0]
  by_cases e1:(takeK s.locks n c s.token wt).2.2=10
  ·rw[if_pos (.inr e1)]
   exact⟨⟨h.time,h.num,h.token,h.ses,g10 e1,h.memos,h.nums,hi⟩,Int.le_refl _,by show s.token<=s.token+1;omega⟩
  ·rw[if_neg (fun q=>q.elim e0 e1)]
   exact⟨⟨h.time,h.num,h.token,h.ses,h.good,h.memos,h.nums,h.has⟩,Int.le_refl _,by show s.token<=s.token+1;omega⟩
theorem free_le1 (l:List LockV) (n:List UInt8) (c t:Int):0<=(freeK l n c t).2.1/\(freeK l n c t).2.1<=1:=free_givenA l n c t
theorem Rst.freed {s:StV} (h:Rst s) (n:List UInt8) (c:Int) (ht:s.token<2305843009213693900):Rst (freedA s n c)/\s.token<=(freedA s n c).token /\(freedA s n c).token <=s.token+1:=by
 have g0:=good_free h.good n c (by omega)
 have hi:=in_free h.has n c s.token
 obtain⟨b0,b1⟩:=free_le1 s.locks n c s.token
 unfold freedA
 by_cases e0:(freeK s.locks n c s.token).2.2=0
 ·rw[if_pos e0,if_pos e0]
  refine⟨⟨h.time,h.num,by show s.token+_<=_;omega,h.ses,g0 e0,h.memos,h.nums,hi⟩,by show s.token<=s.token+_;omega,by show s.token+_<=s.token+1;omega⟩
 ·rw[if_neg e0,if_neg e0]
  exact⟨⟨h.time,h.num,h.token,h.ses,h.good,h.memos,h.nums,h.has⟩,Int.le_refl _,by show s.token<=s.token+1;omega⟩
structure Next (s t:StV):Prop where
 right:Rst t
 tok:s.token<=t.token/\t.token<=s.token+4
 num:s.num<=t.num/\t.num<=s.num+1
 time:t.time=s.time
theorem Next.refl {s:StV} (h:Rst s):Next s s:=⟨h,⟨by omega,by omega⟩,⟨by omega,by omega⟩,rfl⟩
theorem mayF_name {m:CmdV} (h:mayF m=true) (hk:m.kind=3\/m.kind=4\/m.kind=5):nameF m.name=true:=by
 unfold mayF at h
 rw[if_neg (by omega),if_neg (by omega),if_pos hk] at h
 simp only[Bool.and_eq_true] at h
 exact h.2
theorem has_renewed {s:StV} (h:Rst s) {c:Int} (hf:(findS s.ses c).2=true) (d:Int):hasA (renewedA s c) d=hasA s d:=by
 show(findS (renewS s.ses c s.time).1 d).2=(findS s.ses d).2
 rw[renewed_ses h hf,(find_map c s.time s.ses d).1]
theorem does_next {s:StV} (h:Rst s) {r:ReqV} (hm:mayF r.cmd=true) (hn:s.num<2305843009213693900) (ht:s.token<2305843009213693900):Next s (doesA s r).1:=by
 unfold doesA
 split
 ·unfold openA
  split
  ·exact Next.refl h
  ·split
   ·rename_i ho
    exact⟨h.opened (by omega) ho,⟨by show s.token<=s.token;omega,by show s.token<=_;omega⟩,⟨by show s.num<=s.num+1;omega,Int.le_refl _⟩,rfl⟩
   ·exact Next.refl h
 ·split
  ·exact Next.refl h
  ·rename_i hq
   have hf:(findS s.ses r.client).2=true:=by
    cases q:(findS s.ses r.client).2 with
    | true=>rfl
    | false=>exact absurd (.inl q) hq
   have h2:=h.renewed hf
   have ht2:(renewedA s r.client).token <2305843009213693900:=ht
   unfold cmdA
   split
   ·rename_i hk
    obtain⟨p1,p2,p3⟩:=h2.taken (decide (r.cmd.kind=3)) (mayF_name hm (by omega)) (c:=r.client) (by rw[has_renewed h hf];exact hf) ht2
    exact⟨p1,⟨p2,Int.le_trans p3 (by show s.token+1<=s.token+4;omega)⟩,⟨by show s.num<=s.num;omega,by show s.num<=_;omega⟩,rfl⟩
   ·split
    ·obtain⟨p1,p2,p3⟩:=h2.freed r.cmd.name r.client ht2
     exact⟨p1,⟨p2,Int.le_trans p3 (by show s.token+1<=s.token+4;omega)⟩,⟨by show s.num<=s.num;omega,by show s.num<=_;omega⟩,rfl⟩
    ·split
     ·obtain⟨p1,p2,p3⟩:=dropA_right h2 [r.client] ht2
      exact⟨p1,⟨p2,p3⟩,⟨by show s.num<=s.num;omega,by show s.num<=_;omega⟩,rfl⟩
     ·exact⟨h2,⟨by show s.token<=s.token;omega,by show s.token<=_;omega⟩,⟨by show s.num<=s.num;omega,by show s.num<=_;omega⟩,rfl⟩
theorem keptA_right {t:StV} (h:Rst t) (a:AnsV):Rst (keptA t a):=⟨h.time,h.num,h.token,h.ses,h.good,h.memos.keep a,h.nums,h.has⟩
theorem apply_next {s:StV} (h:Rst s) (r:ReqV) (hn:s.num<2305843009213693900) (ht:s.token<2305843009213693900):Next s (applyA s r).1:=by
 unfold applyA
 split
 ·exact Next.refl h
 ·split
  ·exact Next.refl h
  ·split
   ·exact Next.refl h
   ·rename_i hm _ _
    have hm:mayR r=true:=by simpa using hm
    have:=does_next h (mayR_bounds r hm).2.2 hn ht
    exact⟨keptA_right this.right _,this.tok,this.num,this.time⟩
/-! ### Package auto's way -/
end Cm
end Go.Proofs.YtlnbmblbeaodcaaGreat

/- Contract: package auto's execute (made by tools/gen_aucf.py). -/
set_option linter.unusedVariables false
set_option maxRecDepth 8000
set_option linter.unusedSimpArgs false
namespace Go.Proofs.YtlnbmblbeaodcaaGreat
open Lib (hid)
open Go.RowKit Go.Shelf
namespace Cm

theorem EmptyR.other6 {w:World} {b g:Nat} (h:EmptyR w b) (hg:g≠b) (v0 v1 v2 v3 v4 v5:Value):EmptyR ((((((w.setCell ⟨g,0,none⟩ v0).setCell ⟨g,1,none⟩ v1).setCell ⟨g,2,none⟩ v2).setCell ⟨g,3,none⟩ v3).setCell ⟨g,4,none⟩ v4).setCell ⟨g,5,none⟩ v5) b:=
 (((((h.other hg 0 v0).other hg 1 v1).other hg 2 v2).other hg 3 v3).other hg 4 v4).other hg 5 v5
structure CurZ (w:World) (HI nb:Nat) (x y:StC) (W:World):Prop where
 sz:HI<=W.heap.size
 Z:BoxS W (nb+2) zeroC10
 R:EmptyR W (nb+3)
 F:FromS HI W x y
 B:Below w.heap.size w W
theorem rdi_one (w:World) (c:Int):RdI (w.alloc (.cells #[.int .i64 c] 3)) (.slice (some ⟨w.heap.size,0,none⟩) 1 1) [c]:=by
 refine RdX.own cellsI_length (base:=w.heap.size) (e:=3) ⟨by simp [flatX,cellsI],.inr ⟨w.heap.size,1,#[.int .i64 c],rfl,Nat.le_refl _,?_,by simp,by unfold maxLen;omega,by simp,by simp [flatX,cellsI]⟩⟩
 show(w.heap.push _)[w.heap.size]?= _
 simp
end Cm
end Go.Proofs.YtlnbmblbeaodcaaGreat

/- Contracts: package auto's allHaveSessions, Right. -/
set_option linter.unusedVariables false
set_option maxRecDepth 8000
set_option linter.unusedSimpArgs false
namespace Go.Proofs.YtlnbmblbeaodcaaGreat
open Lib (hid)
open Go.RowKit Go.Shelf Go.Deep
namespace Cm

def haveA (s:StV):Bool:=s.locks.all fun k=>(k.holder::k.line).all (hasA s)
theorem all_two {α:Type} (p q r:α->Bool) (h: ∀x,r x=(p x && q x)): ∀l:List α,(l.all p && l.all q)=l.all r
 | []=>rfl
 | x::l=>by
  rw[List.all_cons,List.all_cons,List.all_cons,<-all_two p q r h l,h x]
  cases p x<;>cases q x<;>simp
theorem haveA_fit (s:StV):(givenA s && haveA s)=(s.ses.all (fun x=>decide (x.num<=s.num)) && s.locks.all (fitA s)):=by
 unfold givenA haveA
 rw[Bool.and_assoc]
 congr 1
 refine all_two _ _ _ (fun k=>?_) _
 unfold fitA
 rw[List.all_cons]
 cases hasA s k.holder<;>cases decide (k.token<=s.token)<;>simp
theorem box2s {w w':World} {x y:Value} {t:TypeId} (h:Below (w.alloc (.cells #[x,y] t)).heap.size (w.alloc (.cells #[x,y] t)) w'):w'.cell? ⟨w.heap.size,0,none⟩=some x/\w'.cell? ⟨w.heap.size,1,none⟩=some y:=by
 have hl:w.heap.size<(w.alloc (.cells #[x,y] t)).heap.size :=by simp
 refine⟨?_,?_⟩
 ·rw[h.cell (p:=⟨w.heap.size,0,none⟩) hl];simp [go_sem]
 ·rw[h.cell (p:=⟨w.heap.size,1,none⟩) hl];simp [go_sem]
set_option maxHeartbeats 8000000 in
theorem allHave_any (x:StC) (w:World) (h:RdSt w x) (h5:x.S.length<=1000) (h6:x.K.length<=9223372036854775807) (h7: ∀k∈x.K,k.line.length<=1000):Calls Tryz.prog 44 #[stVal x] w (SaysB (haveA x.v) w):=by
 obtain⟨W1,hW1⟩: ∃W1,W1=w.alloc (.cells #[.int .i64 x.time,.int .i64 x.num,.int .i64 x.token,x.sv,x.kv,x.mv] 26):=⟨_,rfl⟩
 have hb1:Below w.heap.size w W1:=by rw[hW1];exact newAlloc _ _
 have hB1:BoxS W1 w.heap.size x:=by rw[hW1];exact BoxS.new w x _
 have HX0:=hid hB1
 have HB0:=hid hb1
 have HAS:=hid (fun i hi=>rds_at h.s i hi)
 have HAK:=hid (fun i hi=>rdk_at h.k.row i hi)
 have HLI:=hid (fun i (hi:i<x.K.length) W (hb:Below w.heap.size w W)=>(h.k.line _ (List.getElem_mem hi)).later hb)
 have HLL:=hid (fun i (hi:i<x.K.length)=>h7 _ (List.getElem_mem hi))
 have HR:Hid (haveA x.v=x.K.all fun k=>(k.holder::k.line).all (hasA x.v)):=hid (by
  unfold haveA
  show(vals x.K).all _= _
  unfold vals
  rw[List.all_map]
  rfl)
 have HHA:Hid (∀c,hasA x.v c=(findS x.S c).2):=hid fun c=>rfl
 obtain⟨R,hR⟩: ∃R,haveA x.v=R:=⟨_,rfl⟩
 rw[hR] at HR ⊢
 clear hR
 obtain⟨nb,hnb⟩: ∃nb,w.heap.size=nb:=⟨_,rfl⟩
 have HNB:=hid hnb
 rw[hnb] at HX0
 clear hnb h h7 hb1 hB1
 generalize hasA x.v=A at HR HHA
 obtain⟨xt,xn,xk,xS,sa,sc,xK,ka,kc,xM,ma,mc⟩:=x
 unfold stVal
 simp only[StC.sv,StC.kv,StC.mv] at hW1 HAS HAK ⊢
 dsimp only at h5 h6 HR HHA HLI HLL ⊢
 obtain⟨NS,hNS⟩: ∃NS,xS.length=NS:=⟨_,rfl⟩
 obtain⟨NK,hNK⟩: ∃NK,xK.length=NK:=⟨_,rfl⟩
 have HNS:=hid hNS
 have HNK:=hid hNK
 obtain⟨c0,c1,c2,c3,c4,c5,cf⟩:=HX0.out
 simp only[StC.sv,StC.kv,StC.mv] at c0 c1 c2 c3 c4 c5
 rw[hNK] at c4 h6
 rw[hNS] at h5
 clear hNS hNK
 have hm2:NS<=9223372036854775807:=by omega
 go_enter Tryz.func44,Tryz.ntmps44
 go_upto_region 1 with fail
 rw[<-hW1]
 rw[HNB.out]
 clear hW1
 go_wp2
 go_loopg [12] NK (fun g i wx=> ∃(k:Nat),k+g=NK/\i= .int .i64 k/\Hid (((xK.take k).all fun z=>(z.holder::z.line).all A)=true)/\Hid (Below W1.heap.size W1 wx))
 case atStart=>exact⟨0,by omega,rfl,hid rfl,hid (Below.refl _ _)⟩
 case round=>
  obtain⟨k,hkg,rfl,HM,HB⟩:=hrel
  cases gk with
  | zero=>
   have hkz: ¬((k:Int)<(NK:Int)):=by omega
   have hk:k=NK:=by omega
   have hM:=HM.out
   rw[hk,<-HNK.out,List.take_length,<-HR.out] at hM
   have HMM:=hid hM
   clear hM HM hk
   go_wp2
   try rw[Exit.noGoto_ret]
   go_ret
   exact⟨by rw[HMM.out];rfl,step HB0.out HB.out⟩
  | succ g=>
   have hkz:(k:Int)<(NK:Int):=by omega
   have f1:(0:Int)<=(k:Int):=by omega
   have hkl:k<xK.length:=by rw[HNK.out];omega
   obtain⟨b,o,rfl,hc⟩:=HAK.out k hkl
   have HBW:=hid (step HB0.out HB.out)
   obtain⟨q0,q1,q2,q3⟩:=hc wr HBW.out
   have hta:((xK.take (k+1)).all fun z=>(z.holder::z.line).all A)=(((xK.take k).all fun z=>(z.holder::z.line).all A) && (xK[k].holder ::xK[k].line).all A):=by
    rw[List.take_succ_eq_append_getElem hkl,List.all_append]
    simp
   have hno:(xK[k].holder ::xK[k].line).all A=false->R=false:=fun q=>by
    rw[HR.out]
    exact List.all_eq_false.2 ⟨xK[k],List.getElem_mem hkl,by rw[q];simp⟩
   have hli:=HLI.out k hkl
   have hll:=HLL.out k hkl
   rw[HM.out,Bool.true_and] at hta
   clear hc HAK HLI HLL HM
   generalize xK[k]=z at q0 q1 q2 q3 hta hno hli hll
   obtain⟨zn,zh,zt,zl,za,zp⟩:=z
   unfold LockC.lv at q3 hli
   dsimp only at q0 q1 q2 q3 hta hno hli hll
   have HTA:=hid hta
   have HNO:=hid hno
   obtain⟨W3,hW3⟩: ∃W3,W3=wr.alloc (.cells #[.string (bstr zn),.int .i64 zh,.int .i64 zt,.slice za zl.length zp] 71):=⟨_,rfl⟩
   have hb3:Below wr.heap.size wr W3:=by rw[hW3];exact newAlloc _ _
   obtain⟨W4,hW4⟩: ∃W4,W4=W3.alloc (.cells #[.int .i64 zh] 3):=⟨_,rfl⟩
   have hb4:Below W3.heap.size W3 W4:=by rw[hW4];exact newAlloc _ _
   obtain⟨W5,hW5⟩: ∃W5,W5=W4.alloc (.cells #[.slice (some ⟨W3.heap.size,0,none⟩) 1 1,.slice za zl.length zp] 69):=⟨_,rfl⟩
   have hb5:Below W4.heap.size W4 W5:=by rw[hW5];exact newAlloc _ _
   have HB35:=hid (step hb3 (step hb4 hb5))
   have hu:RdI W5 (.slice (some ⟨W3.heap.size,0,none⟩) 1 1) [zh]:=RdX.later (by rw[hW4];exact rdi_one W3 zh) hb5
   obtain⟨e0,e1⟩:=box2s (Below.refl _ (W4.alloc (.cells #[.slice (some ⟨W3.heap.size,0,none⟩) 1 1,.slice za zl.length zp] 69)))
   rw[<-hW5] at e0 e1
   have KC:=hid (ConcatI_two W5 W4.heap.size _ _ [zh] zl hu (hli W5 (step HBW.out HB35.out)) e0 e1 (by simp;omega))
   obtain⟨y0,y1,y2,y3⟩:=box4 (Below.refl _ (wr.alloc (.cells #[.string (bstr zn),.int .i64 zh,.int .i64 zt,.slice za zl.length zp] 71)))
   rw[<-hW3] at y0 y1 y2 y3
   have x3:W4.cell? ⟨wr.heap.size,3,none⟩=some (.slice za zl.length zp):=(hb4.cell (lt_of_cell y3)).trans y3
   have hcl:([zh]++zl).length <=1001:=by simp;omega
   have HCL:Hid ([zh]++zl=zh::zl):=hid rfl
   generalize [zh]++zl=cl at KC hcl HCL
   have HW3:=hid hW3
   have HW4:=hid hW4
   have HW5:=hid hW5
   have HB5:=hid (step HB.out HB35.out)
   clear hb3 hb4 hb5 hu e0 e1 hta hno hli hW3 hW4 hW5
   obtain⟨ZN,hZN⟩: ∃ZN,zl.length=ZN:=⟨_,rfl⟩
   rw[hZN] at q3 y3 x3 HW3 HW5
   clear hZN
   have hs4:W4.heap.size=W3.heap.size+1:=by rw[HW4.out];simp
   rw[hs4] at KC
   rw[HW4.out] at x3
   go_upto_region 4 with fail
   rw[<-HW3.out]
   clear HW3 q0 q1 q2 q3 c0 c1 c2 c3 c4 c5 cf
   go_step3
   go_wp2
   go_step3
   go_upto_region 5 with (rw[<-HW4.out,<-HW5.out];go_at_call 97;refine KC.out.mono ?_;rintro e w6 ⟨v6,rfl,ho6,hb6⟩;obtain⟨a6,p6,rfl⟩:=Rw.own_form ho6;have HO6:=hid ho6;have HB6:=hid hb6;clear ho6 hb6)
   try rw[<-HW4.out]
   try rw[<-HW5.out]
   clear HW4 HW5 x3 y0 y1 y2 y3 hs4 KC
   have HBN6:=hid (step HB5.out HB6.out)
   have HBW6:=hid (step HB0.out HBN6.out)
   obtain⟨NC,hNC⟩: ∃NC,cl.length=NC:=⟨_,rfl⟩
   have HNC:=hid hNC
   have HAC:=hid (fun i hi=>rdi_at (RdX.own cellsI_length HO6.out) i hi)
   rw[hNC] at hcl ⊢
   clear hNC
   have hm3:NC<=9223372036854775807:=by omega
   obtain⟨wo,rfl⟩: ∃wo,wo=wr:=⟨_,rfl⟩
   go_wp2
   go_loopg [24] NC (fun g2 i wx=> ∃(j:Nat),j+g2=NC/\i= .int .i64 j/\Hid ((cl.take j).all A=true)/\Hid (Below w6.heap.size w6 wx))
   case atStart=>exact⟨0,by omega,rfl,hid rfl,hid (Below.refl _ _)⟩
   case round=>
    obtain⟨j,hjg,rfl,HJ,HB7⟩:=hrel
    have HB16:=hid (step HBN6.out HB7.out)
    cases gk with
    | zero=>
     have hjz: ¬((j:Int)<(NC:Int)):=by omega
     have hj:j=NC:=by omega
     have hJ:=HJ.out
     rw[hj,<-HNC.out,List.take_length,HCL.out] at hJ
     have HT:Hid (((xK.take (k+1)).all fun z=>(z.holder::z.line).all A)=true):=hid (by rw[HTA.out];exact hJ)
     clear hJ hj HJ
     go_wp2
     go_roundg g
     case measure=>omega
     case rel=>exact⟨k+1,by omega,by go_num,HT,HB16⟩
    | succ g2=>
     have hjz:(j:Int)<(NC:Int):=by omega
     have f3:(0:Int)<=(j:Int):=by omega
     have hjl:j<cl.length:=by rw[HNC.out];omega
     obtain⟨b2,o2,rfl,hc2⟩:=HAC.out j hjl
     have p0:=hc2 wr HB7.out
     have htj:(cl.take (j+1)).all A=((cl.take j).all A && A cl[j]):=by
      rw[List.take_succ_eq_append_getElem hjl,List.all_append]
      simp
     have hnj:A cl[j]=false->R=false:=fun q=>HNO.out (by rw[<-HCL.out];exact List.all_eq_false.2 ⟨cl[j],List.getElem_mem hjl,by rw[q];simp⟩)
     have hha:=HHA.out cl[j]
     rw[HJ.out,Bool.true_and] at htj
     clear hc2 HAC HJ
     generalize cl[j]=y at p0 htj hnj hha
     have HTJ:=hid htj
     have HNJ:=hid hnj
     have HHY:=hid hha
     clear htj hnj hha
     obtain⟨c0,c1,c2,c3,c4,c5,cf⟩:=HX0.out.later HB16.out
     simp only[StC.sv,StC.kv,StC.mv] at c0 c1 c2 c3 c4 c5
     rw[HNS.out] at c3
     obtain⟨wp,rfl⟩: ∃wp,wp=wr:=⟨_,rfl⟩
     go_wp2
     clear c0 c1 c2 c3 c4 c5 cf
     go_loopg [31] NS (fun g3 i wx=> ∃(m:Nat),m+g3=NS/\i= .int .i64 m/\Hid (∀s∈xS.take m,s.client≠y)/\Hid (Below wp.heap.size wp wx))
     case atStart=>exact⟨0,by omega,rfl,hid (fun s hs=>by simp at hs),hid (Below.refl _ _)⟩
     case round=>
      obtain⟨m,hmg,rfl,HN,HB8⟩:=hrel
      have HB18:=hid (step HB16.out HB8.out)
      cases gk with
      | zero=>
       have hz: ¬((m:Int)<(NS:Int)):=by omega
       have hmm:m=NS:=by omega
       have hN:=HN.out
       rw[hmm,<-HNS.out,List.take_length] at hN
       have HRF:Hid (R=false):=hid (HNJ.out (by rw[HHY.out];exact(findS_none xS y).2 hN))
       clear hN hmm HN
       go_wp2
       try rw[Exit.noGoto_ret]
       go_ret
       exact⟨by rw[HRF.out];rfl,step HB0.out HB18.out⟩
      | succ g3=>
       have hz:(m:Int)<(NS:Int):=by omega
       have f5:(0:Int)<=(m:Int):=by omega
       have hml:m<xS.length:=by rw[HNS.out];omega
       obtain⟨b3,o3,rfl,hc3⟩:=HAS.out m hml
       obtain⟨p1,p2,p3⟩:=hc3 wr (step HB0.out HB18.out)
       have htm: ∀s∈xS.take (m+1),s∈xS.take m\/s=xS[m]:=fun s hs=>by
        rw[List.take_succ_eq_append_getElem hml] at hs
        rcases List.mem_append.1 hs with q | q
        ·exact .inl q
        ·exact .inr (List.mem_singleton.1 q)
       have hfs:xS[m].client =y->(findS xS y).2=true:=fun q=>(findS_some xS y).2 ⟨xS[m],List.getElem_mem hml,q⟩
       clear hc3 HAS
       generalize xS[m]=s at p1 p2 p3 htm hfs
       obtain⟨sc',sn',sr'⟩:=s
       dsimp only at p1 p2 p3 hfs
       obtain⟨e0,e1,e2⟩:=box3s (Below.refl _ (wr.alloc (.cells #[.int .i64 sc',.int .i64 sn',.int .i64 sr'] 73)))
       have HB9:=hid (step HB8.out (newAlloc wr (.cells #[.int .i64 sc',.int .i64 sn',.int .i64 sr'] 73)))
       by_cases e:sc'=y
       ·have t1:(sc'==y)=true:=by simpa using e
        have HJ2:Hid ((cl.take (j+1)).all A=true):=hid (by rw[HTJ.out,HHY.out];exact hfs e)
        have HB79:=hid (step HB7.out HB9.out)
        clear hfs htm e HN
        go_wp2
        go_roundg g2
        case measure=>omega
        case rel=>exact⟨j+1,by omega,by go_num,HJ2,HB79⟩
       ·have t1:(sc'==y)=false:=by simpa using e
        have HN2:Hid (∀s∈xS.take (m+1),s.client≠y):=hid (fun s hs=>by
         rcases htm s hs with q | q
         ·exact HN.out s q
         ·rw[q];exact e)
        clear hfs htm e HN
        go_wp2
        go_roundg g3
        case measure=>omega
        case rel=>exact⟨m+1,by omega,by go_num,HN2,HB9⟩
end Cm
end Go.Proofs.YtlnbmblbeaodcaaGreat
