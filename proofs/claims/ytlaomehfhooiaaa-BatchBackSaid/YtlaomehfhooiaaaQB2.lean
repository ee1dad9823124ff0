/- Texts laid together by program. -/
import Derived.Test.YtlaomehfhooiaaaQB1
import Derived.Test.YtlaomehfhooiaaaQ18
/- What package batch answers, as plain functions over bytes; what is put is read as it was; what is read determines its bytes. No program is named here. -/
set_option linter.unusedVariables false
set_option maxRecDepth 8000
set_option linter.unusedSimpArgs false
namespace Go.Proofs.Ytlaomehfhooiaaa
open Lib (hid)
open Go.RowKit
namespace Cm

theorem readNs_put: ∀(l:List Int) (a c:List UInt8) (G:List Int),(∀v∈l,0<=v/\v<4611686018427387904)->readNs (a++bytesNs l++c) G a.length l.length=(G++l,((a.length+8*l.length:Nat):Int),0)
 | [],a,c,G,_=>by simp [readNs]
 | v::l,a,c,G,h=>by
  obtain⟨h0,h1⟩:=h v List.mem_cons_self
  have e1:a++bytesNs (v::l)++c=a++be8 v.toNat++(bytesNs l++c):=by rw[bytesNs_cons];simp
  have e2:a++bytesNs (v::l)++c=(a++be8 v.toNat)++bytesNs l++c:=by rw[bytesNs_cons];simp
  have hn:=numOf_put v.toNat (by omega) a (bytesNs l++c)
  rw[<-e1,Int.toNat_of_nonneg h0] at hn
  have ih:=readNs_put l (a++be8 v.toNat) c (G++ [v]) fun x hx=>h x (List.mem_cons_of_mem _ hx)
  rw[<-e2] at ih
  rw[List.length_cons,readNs_ok hn]
  have el:(a.length:Int)+8=((a++be8 v.toNat).length :Int):=by rw[List.length_append,be8_length];omega
  rw[el,ih]
  have e3:(a++be8 v.toNat).length +8*l.length=a.length+8*(l.length+1):=by rw[List.length_append,be8_length];omega
  rw[e3]
  simp
theorem readRs_put: ∀(l:List ReqV) (a c:List UInt8) (G:List ReqV),(∀r∈l,mayR r=true)->readRs (a++bytesRs l++c) G a.length l.length=(G++l,((a.length+(bytesRs l).length :Nat):Int),0)
 | [],a,c,G,_=>by simp [readRs,bytesRs]
 | r::l,a,c,G,h=>by
  have e1:a++bytesRs (r::l)++c=a++bytesR r++(bytesRs l++c):=by rw[bytesRs_cons];simp
  have e2:a++bytesRs (r::l)++c=(a++bytesR r)++bytesRs l++c:=by rw[bytesRs_cons];simp
  have hn:=getR_put r (h r List.mem_cons_self) a (bytesRs l++c)
  rw[<-e1] at hn
  have ih:=readRs_put l (a++bytesR r) c (G++ [r]) fun x hx=>h x (List.mem_cons_of_mem _ hx)
  rw[<-e2] at ih
  rw[List.length_cons,readRs_ok hn]
  have el:(a.length:Int)+(19+(r.cmd.name.length:Int))=((a++bytesR r).length :Int):=by rw[List.length_append,bytesR_length];omega
  rw[el,ih]
  have e3:(a++bytesR r).length +(bytesRs l).length =a.length+(bytesRs (r::l)).length :=by rw[bytesRs_cons,List.length_append,List.length_append];omega
  rw[e3]
  simp
theorem readNs_cut: ∀(l:List Int) (a:List UInt8) (G:List Int) (j:Nat),(∀v∈l,0<=v/\v<4611686018427387904)->j<8*l.length->readNs (a++(bytesNs l).take j) G a.length l.length=([],0,2)
 | [],a,G,j,_,hj=>by simp at hj
 | v::l,a,G,j,h,hj=>by
  obtain⟨h0,h1⟩:=h v List.mem_cons_self
  rw[List.length_cons] at hj ⊢
  by_cases g:j<8
  ·have hn:=numOf_short (a++(bytesNs (v::l)).take j) a.length (by rw[List.length_append,List.length_take];omega)
   exact readNs_bad hn (by decide)
  ·have e1:(bytesNs (v::l)).take j=be8 v.toNat++(bytesNs l).take (j - 8):=by
    rw[bytesNs_cons,List.take_append,List.take_of_length_le (by rw[be8_length];omega),be8_length]
   have hn:=numOf_put v.toNat (by omega) a ((bytesNs l).take (j - 8))
   rw[Int.toNat_of_nonneg h0] at hn
   have ih:=readNs_cut l (a++be8 v.toNat) (G++ [v]) (j - 8) (fun x hx=>h x (List.mem_cons_of_mem _ hx)) (by omega)
   rw[e1,<-List.append_assoc,readNs_ok hn]
   have el:(a.length:Int)+8=((a++be8 v.toNat).length :Int):=by rw[List.length_append,be8_length];omega
   rw[el,ih]
theorem readRs_cut: ∀(l:List ReqV) (a:List UInt8) (G:List ReqV) (j:Nat),(∀r∈l,mayR r=true)->j<(bytesRs l).length ->readRs (a++(bytesRs l).take j) G a.length l.length=([],0,2)
 | [],a,G,j,_,hj=>by simp [bytesRs] at hj
 | r::l,a,G,j,h,hj=>by
  have hr:=h r List.mem_cons_self
  rw[bytesRs_cons,List.length_append] at hj
  rw[List.length_cons]
  by_cases g:j<(bytesR r).length
  ·have hn:=getR_cut r hr a j g
   have e1:(bytesRs (r::l)).take j=(bytesR r).take j:=by
    rw[bytesRs_cons,List.take_append,show j - (bytesR r).length =0 by omega]
    simp
   rw[e1]
   exact readRs_bad hn (by decide)
  ·have e1:(bytesRs (r::l)).take j=bytesR r++(bytesRs l).take (j - (bytesR r).length):=by
    rw[bytesRs_cons,List.take_append,List.take_of_length_le (by omega)]
   have hn:=getR_put r hr a ((bytesRs l).take (j - (bytesR r).length))
   have ih:=readRs_cut l (a++bytesR r) (G++ [r]) (j - (bytesR r).length) (fun x hx=>h x (List.mem_cons_of_mem _ hx)) (by omega)
   rw[e1,<-List.append_assoc,readRs_ok hn]
   have el:(a.length:Int)+(19+(r.cmd.name.length:Int))=((a++bytesR r).length :Int):=by rw[List.length_append,bytesR_length];omega
   rw[el,ih]
theorem readNs_fit {bs:List UInt8} : ∀(k n:Nat) (G L:List Int) (t':Int),readNs bs G (n:Int) k=(L,t',0)->
  ∃M:List Int,L=G++M/\M.length=k/\t'=((n+8*k:Nat):Int)/\bs.take (n+8*k)=bs.take n++bytesNs M
 | 0,n,G,L,t',h=>by
  rw[readNs] at h
  refine⟨[],?_,rfl,?_,by simp [bytesNs]⟩
  ·rw[List.append_nil];exact(congrArg (fun x=>x.1) h).symm
  ·exact(congrArg (fun x=>x.2.1) h).symm
 | k+1,n,G,L,t',h=>by
  rcases hN:numOf bs (n:Int) with ⟨v,u,e⟩
  by_cases he:e≠0
  ·rw[readNs_bad hN he] at h
   exact absurd (congrArg (fun x=>x.2.2) h) he
  ·obtain rfl:e=0:=by omega
   rw[readNs_ok hN] at h
   obtain⟨g1,g2,g3,g4⟩:=num_fit hN
   subst g1
   obtain⟨M,m1,m2,m3,m4⟩:=readNs_fit k (n+8) (G++ [v]) L t' h
   refine⟨v::M,by rw[m1];simp,by rw[List.length_cons,m2],by rw[m3];omega,?_⟩
   rw[show n+8*(k+1)=n+8+8*k by omega,m4,g4,bytesNs_cons,List.append_assoc]
theorem readRs_fit {bs:List UInt8} : ∀(k n:Nat) (G L:List ReqV) (t':Int),readRs bs G (n:Int) k=(L,t',0)->
  ∃M:List ReqV,L=G++M/\M.length=k/\t'=((n+(bytesRs M).length :Nat):Int)/\bs.take (n+(bytesRs M).length)=bs.take n++bytesRs M
 | 0,n,G,L,t',h=>by
  rw[readRs] at h
  refine⟨[],?_,rfl,?_,by simp [bytesRs]⟩
  ·rw[List.append_nil];exact(congrArg (fun x=>x.1) h).symm
  ·exact(congrArg (fun x=>x.2.1) h).symm
 | k+1,n,G,L,t',h=>by
  rcases hN:getR bs (n:Int) with ⟨r,u,e⟩
  by_cases he:e≠0
  ·rw[readRs_bad hN he] at h
   exact absurd (congrArg (fun x=>x.2.2) h) he
  ·obtain rfl:e=0:=by omega
   rw[readRs_ok hN] at h
   obtain⟨g1,g2,g3,g4⟩:=req_fit hN
   subst g1
   obtain⟨M,m1,m2,m3,m4⟩:=readRs_fit k (n+(bytesR r).length) (G++ [r]) L t' h
   have el:n+(bytesRs (r::M)).length =n+(bytesR r).length +(bytesRs M).length :=by rw[bytesRs_cons,List.length_append];omega
   refine⟨r::M,by rw[m1];simp,by rw[List.length_cons,m2],by rw[m3,el],?_⟩
   rw[el,m4,g3,bytesRs_cons,List.append_assoc]
theorem headB_length (b:BatV):(headB b).length =33:=by unfold headB;rw[List.length_cons,bytesNs_length];rfl
theorem getB_fill (a c:List UInt8):getB (a++ [1]++c) a.length=(fillB,(a.length:Int)+1,0):=by
 have h:=byteOf_put 1 a c
 rcases hN:readNs (a++ [1]++c) [] ((a.length:Int)+1) 4 with ⟨l,t2,e2⟩
 rcases hC:byteOf (a++ [1]++c) t2 with ⟨n,t3,e3⟩
 rcases hR:readRs (a++ [1]++c) [] t3 n.toNat with ⟨q,t4,e4⟩
 rw[getB_told h hN hC hR,if_neg (by simp),if_neg (by decide),if_pos (by decide)]
theorem getB_put (b:BatV) (h:mayB b=true) (a c:List UInt8):getB (a++bytesB b++c) a.length=(b,((a.length+(bytesB b).length :Nat):Int),0):=by
 cases hf:b.fill
 ·obtain⟨h1,h2,h3,h4⟩:=mayB_plain h hf
  have eb:bytesB b=headB b++ [UInt8.ofNat b.reqs.length]++bytesRs b.reqs:=by unfold bytesB;rw[hf];rfl
  have hcl:(UInt8.ofNat b.reqs.length).toNat =b.reqs.length:=toNat_byte _ (by omega)
  generalize hX:a++bytesB b++c=X
  have e1:X=a++ [0]++(bytesNs [b.view,b.tv,b.ts,b.time]++ [UInt8.ofNat b.reqs.length]++bytesRs b.reqs++c):=by rw[<-hX,eb];simp [headB]
  have e2:X=(a++ [0])++bytesNs [b.view,b.tv,b.ts,b.time]++([UInt8.ofNat b.reqs.length]++bytesRs b.reqs++c):=by rw[e1];simp
  have e3:X=(a++headB b)++ [UInt8.ofNat b.reqs.length]++(bytesRs b.reqs++c):=by rw[e1];simp [headB]
  have e4:X=(a++headB b++ [UInt8.ofNat b.reqs.length])++bytesRs b.reqs++c:=by rw[e1];simp [headB]
  have q1:=byteOf_put 0 a (bytesNs [b.view,b.tv,b.ts,b.time]++ [UInt8.ofNat b.reqs.length]++bytesRs b.reqs++c)
  rw[<-e1] at q1
  have q2:=readNs_put [b.view,b.tv,b.ts,b.time] (a++ [0]) ([UInt8.ofNat b.reqs.length]++bytesRs b.reqs++c) [] h1
  rw[<-e2,show(((a++ [(0:UInt8)]).length :Nat):Int)=(a.length:Int)+1 by simp] at q2
  have q3:=byteOf_put (UInt8.ofNat b.reqs.length) (a++headB b) (bytesRs b.reqs++c)
  rw[<-e3,show(((a++headB b).length :Nat):Int)=(((a++ [(0:UInt8)]).length +8* [b.view,b.tv,b.ts,b.time].length :Nat):Int) by simp [headB_length];omega,hcl] at q3
  have q4:=readRs_put b.reqs (a++headB b++ [UInt8.ofNat b.reqs.length]) c [] h3
  rw[<-e4,show(((a++headB b++ [UInt8.ofNat b.reqs.length]).length :Nat):Int)=(((a++ [(0:UInt8)]).length +8* [b.view,b.tv,b.ts,b.time].length :Nat):Int)+1 by simp [headB_length];omega] at q4
  have q4':=Eq.trans (congrArg (readRs X [] _) (Int.toNat_natCast b.reqs.length)) q4
  rw[getB_told q1 q2 q3 q4',if_neg (by simp),if_neg (by decide),if_neg (by decide),if_neg (by simp),if_neg (by simp),if_neg (by omega),if_neg (by simp)]
  rw[List.nil_append,List.nil_append,h4,if_pos h]
  have el:(a++headB b++ [UInt8.ofNat b.reqs.length]).length +(bytesRs b.reqs).length =a.length+(bytesB b).length :=by rw[eb];simp;omega
  rw[el]
 ·obtain rfl:=mayB_fill h hf
  have:=getB_fill a c
  exact this
theorem getB_cut (b:BatV) (h:mayB b=true) (a:List UInt8) (j:Nat) (hj:j<(bytesB b).length):getB (a++(bytesB b).take j) a.length=(zeroB,0,2):=by
 generalize hX:a++(bytesB b).take j=X
 by_cases j0:j=0
 ·subst j0
  have h1:byteOf X (a.length:Int)=(0,0,2):=byteOf_short _ _ (by rw[<-hX];simp)
  rcases hN:readNs X [] 0 4 with ⟨l,t2,e2⟩
  rcases hC:byteOf X t2 with ⟨n,t3,e3⟩
  rcases hR:readRs X [] t3 n.toNat with ⟨q,t4,e4⟩
  rw[getB_told h1 hN hC hR,if_pos (by decide)]
 ·cases hf:b.fill
  ·obtain⟨h1,h2,h3,h4⟩:=mayB_plain h hf
   have eb:bytesB b=headB b++ [UInt8.ofNat b.reqs.length]++bytesRs b.reqs:=by unfold bytesB;rw[hf];rfl
   have hcl:(UInt8.ofNat b.reqs.length).toNat =b.reqs.length:=toNat_byte _ (by omega)
   rw[eb] at hj hX
   simp only[List.length_append,headB_length,List.length_singleton] at hj
   by_cases g1:j<33
   ·have e1:X=a++ [0]++(bytesNs [b.view,b.tv,b.ts,b.time]).take (j - 1):=by
     rw[<-hX,List.append_assoc (headB b),List.take_append,show j - (headB b).length =0 by rw[headB_length];omega,List.take_zero,List.append_nil]
     obtain⟨i,rfl⟩: ∃i,j=i+1:=⟨j - 1,by omega⟩
     simp [headB]
    have q1:=byteOf_put 0 a ((bytesNs [b.view,b.tv,b.ts,b.time]).take (j - 1))
    rw[<-e1] at q1
    have q2:=readNs_cut [b.view,b.tv,b.ts,b.time] (a++ [0]) [] (j - 1) h1 (by simp;omega)
    rw[<-e1,show(((a++ [(0:UInt8)]).length :Nat):Int)=(a.length:Int)+1 by simp] at q2
    rcases hC:byteOf X 0 with ⟨n,t3,e3⟩
    rcases hR:readRs X [] t3 n.toNat with ⟨q,t4,e4⟩
    rw[getB_told q1 q2 hC hR,if_neg (by simp),if_neg (by decide),if_neg (by decide),if_pos (by decide)]
   ·have e0:X=(a++headB b)++([UInt8.ofNat b.reqs.length]++bytesRs b.reqs).take (j - 33):=by
     rw[<-hX,List.append_assoc (headB b),List.take_append,List.take_of_length_le (by rw[headB_length];omega),headB_length,<-List.append_assoc]
    have e1:X=a++ [0]++(bytesNs [b.view,b.tv,b.ts,b.time]++([UInt8.ofNat b.reqs.length]++bytesRs b.reqs).take (j - 33)):=by rw[e0];simp [headB]
    have e2:X=(a++ [0])++bytesNs [b.view,b.tv,b.ts,b.time]++([UInt8.ofNat b.reqs.length]++bytesRs b.reqs).take (j - 33):=by rw[e1];simp
    have q1:=byteOf_put 0 a (bytesNs [b.view,b.tv,b.ts,b.time]++([UInt8.ofNat b.reqs.length]++bytesRs b.reqs).take (j - 33))
    rw[<-e1] at q1
    have q2:=readNs_put [b.view,b.tv,b.ts,b.time] (a++ [0]) (([UInt8.ofNat b.reqs.length]++bytesRs b.reqs).take (j - 33)) [] h1
    rw[<-e2,show(((a++ [(0:UInt8)]).length :Nat):Int)=(a.length:Int)+1 by simp] at q2
    have ep:((a++ [(0:UInt8)]).length +8* [b.view,b.tv,b.ts,b.time].length :Nat)=(a++headB b).length :=by simp [headB_length]
    rw[ep] at q2
    by_cases g2:j=33
    ·have hC:byteOf X (((a++headB b).length :Nat):Int)=(0,0,2):=byteOf_short _ _ (by rw[e0,g2];simp)
     rcases hR:readRs X [] 0 ((0:Int)).toNat with ⟨q,t4,e4⟩
     rw[getB_told q1 q2 hC hR,if_neg (by simp),if_neg (by decide),if_neg (by decide),if_neg (by simp),if_pos (by decide)]
    ·have ec:([UInt8.ofNat b.reqs.length]++bytesRs b.reqs).take (j - 33)= [UInt8.ofNat b.reqs.length]++(bytesRs b.reqs).take (j - 34):=by
      obtain⟨i,hi⟩: ∃i,j - 33=i+1:=⟨j - 34,by omega⟩
      rw[hi,show j - 34=i by omega]
      rfl
     rw[ec] at e0
     have e3:X=(a++headB b)++ [UInt8.ofNat b.reqs.length]++(bytesRs b.reqs).take (j - 34):=by rw[e0];simp
     have q3:=byteOf_put (UInt8.ofNat b.reqs.length) (a++headB b) ((bytesRs b.reqs).take (j - 34))
     rw[<-e3,hcl] at q3
     have q4:=readRs_cut b.reqs (a++headB b++ [UInt8.ofNat b.reqs.length]) [] (j - 34) h3 (by omega)
     rw[<-e3,show(((a++headB b++ [UInt8.ofNat b.reqs.length]).length :Nat):Int)=(((a++headB b).length :Nat):Int)+1 by simp;omega] at q4
     have q4':=Eq.trans (congrArg (readRs X [] _) (Int.toNat_natCast b.reqs.length)) q4
     rw[getB_told q1 q2 q3 q4',if_neg (by simp),if_neg (by decide),if_neg (by decide),if_neg (by simp),if_neg (by simp),if_neg (by omega),if_pos (by decide)]
  ·obtain rfl:=mayB_fill h hf
   have:(bytesB fillB).length =1:=rfl
   omega
theorem bat_fit {bs:List UInt8} {n:Nat} {b:BatV} {t':Int} (h:getB bs (n:Int)=(b,t',0)):
  t'=((n+(bytesB b).length :Nat):Int)/\bs.take (n+(bytesB b).length)=bs.take n++bytesB b:=by
 rcases hB:byteOf bs (n:Int) with ⟨k,t1,e1⟩
 rcases hN:readNs bs [] t1 4 with ⟨l,t2,e2⟩
 rcases hC:byteOf bs t2 with ⟨m,t3,e3⟩
 rcases hR:readRs bs [] t3 m.toNat with ⟨q,t4,e4⟩
 rw[getB_told hB hN hC hR] at h
 by_cases z1:e1≠0
 ·rw[if_pos z1] at h
  exact absurd (congrArg (fun x=>x.2.2) h) z1
 rw[if_neg z1] at h
 obtain rfl:e1=0:=by omega
 obtain⟨f1,f2,f3,f4⟩:=byte_fit hB
 subst f1
 by_cases y1:1<k
 ·rw[if_pos y1] at h
  exact absurd (congrArg (fun x=>x.2.2) h) (by simp)
 rw[if_neg y1] at h
 by_cases y2:k=1
 ·rw[if_pos y2] at h
  have q1:fillB=b:=congrArg (fun x=>x.1) h
  have q2:((n+1:Nat):Int)=t':=congrArg (fun x=>x.2.1) h
  subst q1
  subst y2
  exact⟨q2.symm,f4⟩
 rw[if_neg y2] at h
 obtain rfl:k=0:=by omega
 by_cases z2:e2≠0
 ·rw[if_pos z2] at h
  exact absurd (congrArg (fun x=>x.2.2) h) z2
 rw[if_neg z2] at h
 obtain rfl:e2=0:=by omega
 obtain⟨M,m1,m2,m3,m4⟩:=readNs_fit 4 (n+1) [] l t2 hN
 rw[List.nil_append] at m1
 subst m1
 subst m3
 by_cases z3:e3≠0
 ·rw[if_pos z3] at h
  exact absurd (congrArg (fun x=>x.2.2) h) z3
 rw[if_neg z3] at h
 obtain rfl:e3=0:=by omega
 obtain⟨g1,g2,g3,g4⟩:=byte_fit hC
 subst g1
 by_cases y3:3<m
 ·rw[if_pos y3] at h
  exact absurd (congrArg (fun x=>x.2.2) h) (by simp)
 rw[if_neg y3] at h
 by_cases z4:e4≠0
 ·rw[if_pos z4] at h
  exact absurd (congrArg (fun x=>x.2.2) h) z4
 rw[if_neg z4] at h
 obtain rfl:e4=0:=by omega
 obtain⟨R,r1,r2,r3,r4⟩:=readRs_fit _ _ [] q t4 hR
 rw[List.nil_append] at r1
 subst r1
 by_cases y4:mayB (batOf l q)=true
 ·rw[if_pos y4] at h
  have q1:batOf l q=b:=congrArg (fun x=>x.1) h
  have q2:t4=t':=congrArg (fun x=>x.2.1) h
  subst q1
  subst q2
  have hl: [l.getD 0 0,l.getD 1 0,l.getD 2 0,l.getD 3 0]=l:=by
   match l,m2 with
   | [a,b,c,d],_=>rfl
  have eb:bytesB (batOf l q)=0::bytesNs l++ [UInt8.ofNat m.toNat]++bytesRs q:=by
   show headB (batOf l q)++ [UInt8.ofNat q.length]++bytesRs q= _
   rw[r2]
   unfold headB
   show(0::bytesNs [l.getD 0 0,l.getD 1 0,l.getD 2 0,l.getD 3 0])++_++_= _
   rw[hl]
  have el:n+(bytesB (batOf l q)).length =n+1+8*4+1+(bytesRs q).length :=by
   rw[eb]
   simp [bytesNs_length,m2]
   omega
  rw[el]
  refine⟨r3,?_⟩
  rw[r4,g4,m4,f4,eb]
  simp
 ·rw[if_neg y4] at h
  exact absurd (congrArg (fun x=>x.2.2) h) (by simp)
theorem bat_turned (b:BatV) (c:List UInt8) (hl:c.length=(bytesB b).length) (h0:(getB c 0).2.2=0) (h1:(getB c 0).2.1=(c.length:Int)) (hs:sameB (getB c 0).1 b=true):c=bytesB b:=by
 have e:=(sameB_iff _ _).1 hs
 have hg:getB c ((0:Nat):Int)=(b,(c.length:Int),0):=by
  show getB c 0= _
  exact Prod.ext e (Prod.ext h1 h0)
 obtain⟨_,h2⟩:=bat_fit hg
 rw[Nat.zero_add,List.take_zero,List.nil_append,<-hl,List.take_length] at h2
 exact h2
end Cm
end Go.Proofs.Ytlaomehfhooiaaa

/- Plain facts for CmdBack: a byte of a kind turned; an append beyond what there is room for. -/
set_option linter.unusedVariables false
set_option maxRecDepth 8000
set_option linter.unusedSimpArgs false
namespace Go.Proofs.Ytlaomehfhooiaaa
open Lib (hid)
open Go.RowKit

theorem owns_news (w:World) (cs:Array Value) (n cap:Nat) (xs:List Value) (hx:xs.length=n) (hn:n<=cap) (hm:cap<=maxLen) (hc:cs.size=cap) (ht:cs.toList.take n=xs):
  (w.drew.alloc (.cells cs 5)).ownsRow w.heap.size 5 1 (.slice (some ⟨w.heap.size,0,none⟩) n cap) n xs:=by
 refine⟨by omega,.inr ⟨w.heap.size,cap,cs,rfl,Nat.le_refl _,?_,hn,hm,by omega,by rw[Nat.mul_one];exact ht⟩⟩
 show(w.heap.push (.cells cs 5))[w.heap.size]?= _
 simp
section
variable {P : Program} {w : World}
theorem wpList_append_full {ops:Array Oper} {rest:List Oper} {o:Oper} {a:Act} {Q:Exit->Act->World->Prop} (hgd:o.guard=none) (s x:Operand) (t:TypeId)
  (ho:o.op= .call { callee:=.builtin .append,args:=#[s,x],argTypes:=#[t,t] })
  (e:TypeId) (he:e=5) (i:TypeInfo) (ht:P.underlying t=some (.slice e)) (hi:P.info? e=some i) (hz:i.zero=some (.int .u8 0)) (hsize:i.size=1) (hby:i.bytes=1)
  (g N:Nat) (T:List UInt8) (hs:a.eval s= .slice (some ⟨g,0,none⟩) N N) (hr:Rd w (.slice (some ⟨g,0,none⟩) N N) T) (hN:0<N) (y:Value) (bs:List UInt8) (hx:a.eval x=y) (hry:Rd w y bs) (hne:0<bs.length)
  (hlen:N+bs.length<=1000000)
  (h: ∀cap w',Rd w' (.slice (some ⟨w.heap.size,0,none⟩) (N+bs.length) cap) (T++bs)->Below w.heap.size w w'->wpList P ops Q rest (a.put o.dst (.slice (some ⟨w.heap.size,0,none⟩) (N+bs.length) cap)) w'):wpList P ops Q (o::rest) a w:=by
 subst he
 obtain⟨a1,l1,c1,hv1,hl1,_,hm1,_,hx1⟩:=hr.ex
 cases hv1
 obtain⟨a2,l2,c2,rfl,hl2,hc2,hm2,hn2,hx2⟩:=hry.ex
 match a2,hn2,hx2 with
 | none,hn2,_=>have:=(hn2 rfl).1;omega
 | some ad,_,hx2=>
  obtain⟨b2,o2,s2⟩:=ad
  obtain⟨hsp,hc⟩:=hx2 _ rfl (by omega)
  simp only at hsp hc
  subst hsp
  have add: ∀(b o j:Nat),(⟨b,o,none⟩:Addr).add j=⟨b,o+j,none⟩:=fun b o j=>by unfold Addr.add;split<;>simp_all
  have hfit:=nextslicecap_le (need:=N+l2) (old:=N) (by omega)
  have hrun:=fun ty=>run_append_grow (P:=P) (w:=w) t ty 5 i (.int .u8 0) ht hi hz ⟨g,0,none⟩ N N (cellsOf T) (by rw[cellsOf_length,hsize];omega)
   (fun j v hj=>by
    obtain⟨hj',rfl⟩:=cellsOf_get T j v hj
    rw[add]
    exact(hx1 _ rfl (by omega)).2 j (by omega)) ⟨b2,o2,none⟩ l2 c2 (cellsOf bs) (by rw[cellsOf_length,hsize];omega)
   (fun j v hj=>by
    obtain⟨hj',rfl⟩:=cellsOf_get bs j v hj
    rw[add]
    exact hc j (by omega)) (by omega) (by omega) (by rw[hby];omega)
  have hge:=grownCap_ge w (N+l2) N 5
  have hle:=grownCap_le_maxLen w (N+l2) N 5 (by unfold maxLen;omega)
  generalize grownCap w (N+l2) N 5=cap at hrun hge hle
  refine Lib.wpList_append_run w hgd s x t t ho _ _ hs hx _ _ (hrun _) ?_
  rw[<-hl2]
  refine h cap _ ?_ (((Below.refl _ _).drew).alloc (Nat.le_refl _) _)
  have hTl:(T++bs).length =N+bs.length:=by rw[List.length_append,hl1]
  have:=owns_news w ((cellsOf T).toArray ++(cellsOf bs).toArray ++Builtin.zeroCells (Value.int .u8 0).cells (cap - (N+bs.length))) (N+bs.length) cap (cellsOf (T++bs)) (by rw[cellsOf_length,hTl]) (by omega) hle
   (by simp [cellsOf_length,Builtin.zeroCells,Value.cells];omega)
   (by
    simp only[Array.toList_append]
    rw[<-cellsOf_append,List.take_append_of_le_length (by rw[cellsOf_length,hTl];exact Nat.le_refl _),List.take_of_length_le (by rw[cellsOf_length,hTl];exact Nat.le_refl _)])
  rw[<-hTl] at this ⊢
  exact Rd.own this
end
namespace Cm
theorem set_getD (l:List UInt8) (i:Nat) (h:i<l.length):l.set i (l.getD i 0)=l:=by
 have:l.getD i 0=l[i]:=by simp [List.getD,List.getElem?_eq_getElem h]
 rw[this,List.set_getElem_self]
theorem xor_ne (a b:Nat) (hb:b≠0):a ^^^ b≠a:=fun h=>hb (by
 have h2:a ^^^ (a ^^^ b)=a ^^^ a:=by rw[h]
 rw[<-Nat.xor_assoc,Nat.xor_self,Nat.zero_xor] at h2
 exact h2)
end Cm

theorem back_shape2 {w:World} {base N:Nat} {v:Value} {A B:List UInt8} (h:(A++B).length =N/\0<N) (ho:w.ownsRow base 5 1 v (0+A.length+B.length) ([]++cellsOf A++cellsOf B)):
  ∃g cap,v= .slice (some ⟨g,0,none⟩) N cap/\N<=cap/\base<=g/\Rd w (.slice (some ⟨g,0,none⟩) N cap) (A++B):=by
 obtain⟨h1,h2⟩:=h
 have e1: []++cellsOf A++cellsOf B=cellsOf (A++B):=by rw[List.nil_append,cellsOf_append]
 have e2:0+A.length+B.length=(A++B).length :=by rw[List.length_append];omega
 rw[e1,e2] at ho
 have hr:=Rd.own ho
 rcases ho.2 with ⟨_,h'⟩ | ⟨g,cap,cur,rfl,hb,_,hc,_⟩
 ·omega
 ·subst h1
  exact⟨g,cap,rfl,hc,hb,hr⟩
theorem Rd.full {w:World} {g N cap:Nat} {T:List UInt8} (h:Rd w (.slice (some ⟨g,0,none⟩) N cap) T):Rd w (.slice (some ⟨g,0,none⟩) N N) T:=by
 obtain⟨a,len,c,hv,hl,hc,hmx,hn,hx⟩:=h.ex
 cases hv
 exact⟨some ⟨g,0,none⟩,N,N,rfl,hl,Nat.le_refl _,by omega,(fun q=>by cases q),hx⟩
theorem cell_of_rd {w:World} {g N cap:Nat} {T:List UInt8} (h:Rd w (.slice (some ⟨g,0,none⟩) N cap) T) (i:Nat) (hi:i<N):w.cell? ⟨g,i,none⟩=some (.int .u8 ((T.getD i 0).toNat :Int)):=by
 obtain⟨a,len,c,hv,hl,hc,hmx,hn,hx⟩:=h.ex
 cases hv
 have:=(hx _ rfl (by omega)).2 i hi
 rwa [Nat.zero_add] at this
theorem own_set {w:World} {base g n cap:Nat} {bs:List UInt8} (ho:w.ownsRow base 5 1 (.slice (some ⟨g,0,none⟩) n cap) n (cellsOf bs)) (k c:Nat) (hc:c<256):
  (w.setCell ⟨g,k,none⟩ (.int .u8 (c:Int))).ownsRow base 5 1 (.slice (some ⟨g,0,none⟩) n cap) n (cellsOf (bs.set k (UInt8.ofNat c))):=by
 have h1:=(ho.stored k (.int .u8 (c:Int))).1
 have e:(cellsOf bs).set k (.int .u8 (c:Int))=cellsOf (bs.set k (UInt8.ofNat c)):=by
  unfold cellsOf
  rw[List.map_set,toNat_byte c hc]
 rw[e] at h1
 exact h1
theorem back_shape1 {w:World} {base N:Nat} {v:Value} {B:List UInt8} (h:B.length=N/\0<N) (ho:w.ownsRow base 5 1 v (0+B.length) ([]++cellsOf B)):
  ∃g cap,v= .slice (some ⟨g,0,none⟩) N cap/\base<=g/\w.ownsRow base 5 1 (.slice (some ⟨g,0,none⟩) N cap) N (cellsOf B)/\Rd w (.slice (some ⟨g,0,none⟩) N cap) B:=by
 obtain⟨h1,h2⟩:=h
 rw[List.nil_append,Nat.zero_add] at ho
 have hr:=Rd.own ho
 rcases ho.2 with ⟨_,h'⟩ | ⟨g,cap,cur,rfl,hb,_,hc,_⟩
 ·omega
 ·subst h1
  exact⟨g,cap,rfl,hb,ho,hr⟩
end Go.Proofs.Ytlaomehfhooiaaa

/- What BatchBack asks besides, as plain facts: how long a batch's bytes are; one of them turned; what is put and got then. -/
set_option linter.unusedVariables false
set_option maxRecDepth 8000
set_option linter.unusedSimpArgs false
namespace Go.Proofs.Ytlaomehfhooiaaa
open Lib (hid)
open Go.RowKit
namespace Cm

theorem bytesB_bound (b:BatV) (h:mayB b=true):1<=(bytesB b).length /\(bytesB b).length <=127:=by
 cases hf:b.fill
 ·obtain⟨h1,h2,h3,h4⟩:=mayB_plain h hf
  have:=bytesRs_le b.reqs h3
  have hl:(bytesB b).length =34+(bytesRs b.reqs).length :=by
   unfold bytesB headB
   rw[hf]
   simp [bytesNs_length]
   omega
  omega
 ·unfold bytesB
  rw[hf]
  simp
theorem getB_self (b:BatV) (h:mayB b=true):getB (bytesB b) 0=(b,((bytesB b).length :Int),0):=by
 have:=getB_put b h [] []
 simpa using this
theorem turnB (b:BatV) (h:mayB b=true) (k y:Nat) (hk:k<(bytesB b).length) (hy:y<256) (L:Nat) (hL:(bytesB b).length =L) (z:BatV) (t9:Int) (g:Int)
  (hg:getB ((bytesB b).set k (UInt8.ofNat (((bytesB b).getD k 0).toNat ^^^ y))) 0=(z,t9,g)):
  (y=0->z=b/\t9=(L:Int)/\g=0)/\(y≠0->g=0->t9=(L:Int)->sameB z b=false):=by
 have hq:((bytesB b).getD k 0).toNat <256:=UInt8.toNat_lt _
 refine⟨fun h0=>?_,fun hne h0 h1=>?_⟩
 ·subst h0
  rw[Nat.xor_zero,UInt8.ofNat_toNat,set_getD _ _ hk,getB_self b h] at hg
  simp only[Prod.mk.injEq] at hg
  obtain⟨rfl,rfl,rfl⟩:=hg
  exact⟨rfl,by rw[hL],rfl⟩
 ·cases hs:sameB z b
  ·rfl
  have hx:((bytesB b).getD k 0).toNat ^^^ y<256:=by have:((bytesB b).getD k 0).toNat ^^^ y<2 ^ 8:=Nat.xor_lt_two_pow (by omega) (by omega);omega
  have e:=bat_turned b ((bytesB b).set k (UInt8.ofNat (((bytesB b).getD k 0).toNat ^^^ y))) (by rw[List.length_set]) (by rw[hg];exact h0) (by rw[hg,List.length_set,hL];exact h1) (by rw[hg];exact hs)
  have e2:(((bytesB b).set k (UInt8.ofNat (((bytesB b).getD k 0).toNat ^^^ y))).getD k 0).toNat =((bytesB b).getD k 0).toNat :=by rw[e]
  rw[show(((bytesB b).set k (UInt8.ofNat (((bytesB b).getD k 0).toNat ^^^ y))).getD k 0)=UInt8.ofNat (((bytesB b).getD k 0).toNat ^^^ y) by simp [List.getD,List.getElem?_set,hk]] at e2
  rw[toNat_byte _ hx] at e2
  exact absurd e2 (xor_ne _ y hne)
theorem PutB_row (b:BatV) (u:Value) (w:World) (h:RdR w u b.reqs) (hm:mayB b=true) (L:Nat) (hL:(bytesB b).length =L):Calls Try.prog 8 #[batVal b u] w (Row L (bytesB b) w):=
 (PutB_any b u w h).mono fun e w' q=>by
  unfold putB at q
  rw[if_pos hm] at q
  have:=(bytesB_bound b hm).1
  exact row_of hL (by omega) q
def GetsBX (r:BatV × Int × Int) (w:World) (e:Ending) (w':World):Prop:=
 ∃a c,e= .returned (.tuple #[batVal r.1 (.slice a r.1.reqs.length c),.int .i64 r.2.1,.int .i64 r.2.2])/\RdR w' (.slice a r.1.reqs.length c) r.1.reqs/\Below w.heap.size w w'
theorem GetsB.x {r:BatV × Int × Int} {w:World} {e:Ending} {w':World} (h:GetsB r w e w'):GetsBX r w e w':=by
 obtain⟨v,he,hr,hb⟩:=h
 obtain⟨a,c,rfl⟩:=hr.form
 exact⟨a,c,he,hr,hb⟩
end Cm
end Go.Proofs.Ytlaomehfhooiaaa
