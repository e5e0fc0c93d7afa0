/-
  ShownD, Dgr, Fval, Flv, Gnb
-/
import Derived.Test.YtmikbkggjlbbnaaBh39
import Derived.Test.YtmikbkggjlbbnaaBh38
import Derived.Test.YtmikbkggjlbbnaaBh25
import Derived.Test.YtmikbkggjlbbnaaBh3
namespace Go.Proofs.Ytmikbkggjlbbnaa
open Go.ChangeShapes Go.WideShapes Go.ChangeAt Go.RowKit
open Lib (hid)
set_option linter.unusedVariables false
set_option linter.unusedSimpArgs false
namespace Ne
set_option maxRecDepth 100000 in
set_option maxHeartbeats 1000000 in
theorem shown_any (w:World):Calls Try.prog 4 #[] w fun e w'=>e=.returned (.bool true)∧Below w.heap.size w w':=by
 have hA:=arow_two w rfl ⟨1,2,5⟩ ⟨2,3,3⟩ 29
 have HB:=hid ((Below.refl w.heap.size w).alloc (Nat.le_refl _) (.cells #[.int .i64 1,.int .i64 2,.int .i64 5,.int .i64 2,.int .i64 3,.int .i64 3] 29))
 have C:=hid (max_flow (n:=net12) (some ⟨w.heap.size,0,none⟩) 2 _ net12_ck hA net12_phs false)
 rw [show net12.l.length=2 from rfl] at C
 unfold net12 engC at C
 simp only [Bool.false_eq_true,if_false] at C
 clear hA
 go_enter Try.func4,Try.ntmps4
 go_wp2_with fail
 refine C.out.mono ?_
 rintro e w1 ⟨o,c,st,rfl,hi,hs,_,_,hb⟩
 obtain rfl:=hs (by trivial)
 have HB1:=hid (HB.out.trans (hb.mono (by simp)))
 have HX:=hid (runBox_at w1 rfl (.slice o 2 c) 1 1 0)
 have hi2:=hi.kept ((Below.refl w1.heap.size w1).alloc (Nat.le_refl _) (.cells #[.slice o 2 c,.int .i64 1,.int .i64 1,.int .i64 0] 32))
 have HB2:=hid (HB1.out.alloc HB1.out.size (.cells #[.slice o 2 c,.int .i64 1,.int .i64 1,.int .i64 0] 32))
 obtain ⟨b0,o0,rfl,_,d0⟩:=irow_cell hi2 (i:=0) (by simp)
 obtain ⟨b1,o1,he1,_,d1⟩:=irow_cell hi2 (i:=1) (by simp)
 simp only [Option.some.injEq,Addr.mk.injEq,and_true] at he1
 obtain ⟨rfl,rfl⟩:=he1
 simp [amt] at d0 d1
 obtain ⟨y0,y1,y2,y3⟩:=runBox_cells HX.out
 clear hb hi hi2
 go_wp2
 go_ret
 exact ⟨rfl,HB2.out⟩
end Ne
end Go.Proofs.Ytmikbkggjlbbnaa
namespace Go.Proofs.Ytmikbkggjlbbnaa
set_option linter.unusedVariables false
set_option linter.unusedSimpArgs false
namespace Dg
def cC (cs:List Int) (i:Nat):Int:=Ne.pickN (Ne.amt cs i) 30
def jC (cs:List Int) (m i:Nat):Int:=Ne.pickN (Ne.amt cs i) (m:Int)
def arcC (cs:List Int) (m q:Nat):Ne.Arc :=
 if q % 4=0 then ⟨2,2*((q / 4:Nat):Int)+3,100⟩
 else if q % 4=1 then ⟨2*((q / 4:Nat):Int)+3,2*((q / 4:Nat):Int)+4,cC cs (q / 4)⟩
 else if q % 4=2 then ⟨2*((q / 4:Nat):Int)+4,1,100⟩
 else ⟨2*((q / 4:Nat):Int)+4,2*jC cs m (q / 4)+3,100⟩
def arcsL (cs:List Int) (m k:Nat):List Ne.Arc:=(List.range k).map (arcC cs m)
def sumC (cs:List Int):Nat→Int
 | 0=>0
 | k+1=>sumC cs k+cC cs k
def flowL (cs:List Int) (m j:Nat):List Int:=(List.range (4*m)).map fun q=>if q / 4<j∧q % 4<3 then cC cs (q / 4) else 0
def walksL (cs:List Int):Nat→Nat→List (List Nat × Int)
 | _,0=>[]
 | j,n+1=>if 0<cC cs j then ([8*j,8*j+2,8*j+4],cC cs j) :: walksL cs (j+1) n else walksL cs (j+1) n
theorem walks_succ (cs:List Int) (j n:Nat):walksL cs j (n+1)=if 0<cC cs j then ([8*j,8*j+2,8*j+4],cC cs j) :: walksL cs (j+1) n else walksL cs (j+1) n:=rfl
theorem arcs_len (cs:List Int) (m k:Nat):(arcsL cs m k).length=k:=by simp [arcsL]
theorem arcs_at (cs:List Int) {m k q:Nat} (h:q<k):Ne.arcAt (arcsL cs m k) q=arcC cs m q:=by simp [arcsL,Ne.arcAt,h]
theorem arc0 (cs:List Int) (m i:Nat):arcC cs m (4*i)=⟨2,2*(i:Int)+3,100⟩:=by unfold arcC;rw [if_pos (by omega),show 4*i / 4=i by omega]
theorem arc1 (cs:List Int) (m i:Nat):arcC cs m (4*i+1)=⟨2*(i:Int)+3,2*(i:Int)+4,cC cs i⟩:=by unfold arcC;rw [if_neg (by omega),if_pos (by omega),show (4*i+1) / 4=i by omega]
theorem arc2 (cs:List Int) (m i:Nat):arcC cs m (4*i+2)=⟨2*(i:Int)+4,1,100⟩:=by unfold arcC;rw [if_neg (by omega),if_neg (by omega),if_pos (by omega),show (4*i+2) / 4=i by omega]
theorem arc3 (cs:List Int) (m i:Nat):arcC cs m (4*i+3)=⟨2*(i:Int)+4,2*jC cs m i+3,100⟩:=by unfold arcC;rw [if_neg (by omega),if_neg (by omega),if_neg (by omega),show (4*i+3) / 4=i by omega]
theorem arcs_next (cs:List Int) (m k:Nat):arcsL cs m (k+1)=arcsL cs m k ++ [arcC cs m k]:=by simp [arcsL,List.range_succ]
theorem flow_len (cs:List Int) (m j:Nat):(flowL cs m j).length=4*m:=by simp [flowL]
theorem flow_at {cs:List Int} {m j q:Nat} (h:q<4*m):Ne.amt (flowL cs m j) q=if q / 4<j∧q % 4<3 then cC cs (q / 4) else 0:=by simp [flowL,Ne.amt,h]
theorem flow_zero (cs:List Int) (m:Nat):flowL cs m 0=List.replicate (4*m) 0:=by simp [flowL,List.map_const']
theorem nul_at (m i:Nat):Ne.amt (List.replicate m 0) i=0:=by
 unfold Ne.amt
 by_cases h:i<m
 ·simp [h]
 ·simp [List.getElem?_eq_none,h]
theorem c_bd (cs:List Int) (i:Nat):0≤cC cs i∧cC cs i<30:=Ne.pickN_bd (by omega)
theorem j_bd (cs:List Int) {m i:Nat} (h:i<m):0≤jC cs m i∧jC cs m i<(m:Int):=Ne.pickN_bd (by omega)
theorem sum_bd (cs:List Int) (k:Nat):0≤sumC cs k∧sumC cs k≤30*(k:Int):=by
 induction k with
 | zero=>exact ⟨by unfold sumC;omega,by unfold sumC;omega⟩
 | succ k ih=>have:=c_bd cs k;unfold sumC;omega
theorem walks_sum (cs:List Int):∀ n j,sumC cs j+((walksL cs j n).map (·.2)).sum=sumC cs (j+n)
 | 0,j=>by simp [walksL]
 | n+1,j=>by
  have ih:=walks_sum cs n (j+1)
  have hb:=c_bd cs j
  rw [show j+(n+1)=j+1+n by omega,← ih,walks_succ,show sumC cs (j+1)=sumC cs j+cC cs j from rfl]
  by_cases c:0<cC cs j
  ·rw [if_pos c,List.map_cons,List.sum_cons];simp only;omega
  ·rw [if_neg c];omega
section
variable {cs:List Int} {m:Nat}
theorem check (hm2:m≤40):Ne.checkN ⟨2*(m:Int)+2,2,1,arcsL cs m (4*m)⟩=0:=by
 refine Ne.checkN_fine ⟨by simp only;omega,by simp only;omega,by simp only;omega,by simp only;omega,by simp only;omega,by simp only;omega,by simp only;omega,by simp only [arcs_len];omega⟩ fun a ha=>?_
 simp only at ha ⊢
 obtain ⟨q,hq,rfl⟩:=List.mem_map.1 ha
 rw [List.mem_range] at hq
 obtain ⟨i,k,hk,rfl⟩:∃ i k,k<4∧q=4*i+k:=⟨q / 4,q % 4,by omega,by omega⟩
 have h1:=c_bd cs i
 have h2:=j_bd cs (m:=m) (i:=i) (by omega)
 rcases (show k=0∨k=1∨k=2∨k=3 by omega) with rfl | rfl | rfl | rfl
 ·rw [Nat.add_zero,arc0];exact ⟨(Ne.isNode_iff _ _).2 (by simp only;omega),(Ne.isNode_iff _ _).2 (by simp only;omega),by simp only;omega,by simp only;omega⟩
 ·rw [arc1];exact ⟨(Ne.isNode_iff _ _).2 (by simp only;omega),(Ne.isNode_iff _ _).2 (by simp only;omega),by simp only;omega,by simp only;omega⟩
 ·rw [arc2];exact ⟨(Ne.isNode_iff _ _).2 (by simp only;omega),(Ne.isNode_iff _ _).2 (by simp only;omega),by simp only;omega,by simp only;omega⟩
 ·rw [arc3];exact ⟨(Ne.isNode_iff _ _).2 (by simp only;omega),(Ne.isNode_iff _ _).2 (by simp only;omega),by simp only;omega,by simp only;omega⟩
theorem t0 (g:List Int) {i:Nat} (h:i<m):Ne.trF (arcsL cs m (4*m)) (8*i)=2∧Ne.trT (arcsL cs m (4*m)) (8*i)=2*(i:Int)+3∧Ne.roomN (arcsL cs m (4*m)) g (8*i)=100-Ne.amt g (4*i):=by
 rw [show 8*i=2*(4*i) by omega,Ne.trF_even,Ne.trT_even,Ne.room_even,arcs_at cs (by omega),arc0]
 exact ⟨rfl,rfl,rfl⟩
theorem t1 (g:List Int) {i:Nat} (h:i<m):Ne.trF (arcsL cs m (4*m)) (8*i+2)=2*(i:Int)+3∧Ne.trT (arcsL cs m (4*m)) (8*i+2)=2*(i:Int)+4∧Ne.roomN (arcsL cs m (4*m)) g (8*i+2)=cC cs i-Ne.amt g (4*i+1):=by
 rw [show 8*i+2=2*(4*i+1) by omega,Ne.trF_even,Ne.trT_even,Ne.room_even,arcs_at cs (by omega),arc1]
 exact ⟨rfl,rfl,rfl⟩
theorem t2 (g:List Int) {i:Nat} (h:i<m):Ne.trF (arcsL cs m (4*m)) (8*i+4)=2*(i:Int)+4∧Ne.trT (arcsL cs m (4*m)) (8*i+4)=1∧Ne.roomN (arcsL cs m (4*m)) g (8*i+4)=100-Ne.amt g (4*i+2):=by
 rw [show 8*i+4=2*(4*i+2) by omega,Ne.trF_even,Ne.trT_even,Ne.room_even,arcs_at cs (by omega),arc2]
 exact ⟨rfl,rfl,rfl⟩
theorem t3 (g:List Int) {i:Nat} (h:i<m):Ne.trF (arcsL cs m (4*m)) (8*i+6)=2*(i:Int)+4∧Ne.trT (arcsL cs m (4*m)) (8*i+6)=2*jC cs m i+3∧Ne.roomN (arcsL cs m (4*m)) g (8*i+6)=100-Ne.amt g (4*i+3):=by
 rw [show 8*i+6=2*(4*i+3) by omega,Ne.trF_even,Ne.trT_even,Ne.room_even,arcs_at cs (by omega),arc3]
 exact ⟨rfl,rfl,rfl⟩
theorem o0 {i:Nat} (h:i<m):Ne.trF (arcsL cs m (4*m)) (8*i+1)=2*(i:Int)+3∧Ne.trT (arcsL cs m (4*m)) (8*i+1)=2:=by
 rw [show 8*i+1=2*(4*i)+1 by omega,Ne.trF_odd,Ne.trT_odd,arcs_at cs (by omega),arc0]
 exact ⟨rfl,rfl⟩
theorem o1 {i:Nat} (h:i<m):Ne.trF (arcsL cs m (4*m)) (8*i+3)=2*(i:Int)+4:=by
 rw [show 8*i+3=2*(4*i+1)+1 by omega,Ne.trF_odd,arcs_at cs (by omega),arc1]
theorem o2 {i:Nat} (h:i<m):Ne.trF (arcsL cs m (4*m)) (8*i+5)=1:=by
 rw [show 8*i+5=2*(4*i+2)+1 by omega,Ne.trF_odd,arcs_at cs (by omega),arc2]
theorem o3 (g:List Int) (i:Nat):Ne.roomN (arcsL cs m (4*m)) g (8*i+7)=Ne.amt g (4*i+3):=by
 rw [show 8*i+7=2*(4*i+3)+1 by omega,Ne.room_odd]
theorem split8 {r:Nat} (h:r<8*m):∃ i,i<m∧(r=8*i∨r=8*i+1∨r=8*i+2∨r=8*i+3∨r=8*i+4∨r=8*i+5∨r=8*i+6∨r=8*i+7):=⟨r / 8,by omega,by omega⟩
theorem track {r:Nat} (h:r<8*m) (hx:1≤Ne.roomN (arcsL cs m (4*m)) (List.replicate (4*m) 0) r):∃ i,i<m∧(r=8*i∨r=8*i+2∧1≤cC cs i∨r=8*i+4∨r=8*i+6):=by
 by_cases c:r % 2=1
 ·obtain ⟨i,rfl⟩:∃ i,r=2*i+1:=⟨r / 2,by omega⟩
  rw [Ne.room_odd,nul_at] at hx;omega
 ·obtain ⟨i,hi,h⟩:=split8 h
  refine ⟨i,hi,?_⟩
  rcases h with rfl | rfl | rfl | rfl | rfl | rfl | rfl | rfl
  ·exact .inl rfl
  ·omega
  ·rw [(t1 _ hi).2.2,nul_at] at hx
   exact .inr (.inl ⟨rfl,by omega⟩)
  ·omega
  ·exact .inr (.inr (.inl rfl))
  ·omega
  ·exact .inr (.inr (.inr rfl))
  ·omega
theorem hl8:2*(arcsL cs m (4*m)).length=8*m:=by rw [arcs_len];omega
theorem dst {k:Nat} {v:Int} (h:Ne.Dst ⟨2*(m:Int)+2,2,1,arcsL cs m (4*m)⟩ (List.replicate (4*m) 0) 1 k v):(v=2∧k=0)∨(v % 2=1∧3≤v∧1≤k)∨(v % 2=0∧4≤v∧2≤k)∨(v=1∧3≤k):=by
 induction h with
 | base=>exact .inl ⟨rfl,rfl⟩
 | @step k r hr hx _ ih =>
  simp only at ih hr hx ⊢
  rw [hl8] at hr
  obtain ⟨i,hi,h⟩:=track hr hx
  have hj:=j_bd cs hi
  rcases h with rfl | ⟨rfl,_⟩ | rfl | rfl
  ·rw [(t0 (cs:=cs) [] hi).1] at ih;rw [(t0 (cs:=cs) [] hi).2.1];omega
  ·rw [(t1 (cs:=cs) [] hi).1] at ih;rw [(t1 (cs:=cs) [] hi).2.1];omega
  ·rw [(t2 (cs:=cs) [] hi).1] at ih;rw [(t2 (cs:=cs) [] hi).2.1];omega
  ·rw [(t3 (cs:=cs) [] hi).1] at ih;rw [(t3 (cs:=cs) [] hi).2.1];omega
theorem dst1 {j:Nat} (hj:j<m):Ne.Dst ⟨2*(m:Int)+2,2,1,arcsL cs m (4*m)⟩ (List.replicate (4*m) 0) 1 1 (2*(j:Int)+3):=by
 obtain ⟨a1,a2,a3⟩:=t0 (cs:=cs) (List.replicate (4*m) 0) hj
 rw [nul_at] at a3
 have hl:=hl8 (cs:=cs) (m:=m)
 have:=Ne.Dst.step (n:=⟨2*(m:Int)+2,2,1,arcsL cs m (4*m)⟩) (f:=List.replicate (4*m) 0) (x:=1) (k:=0) (r:=8*j) (by simp only;omega) (by simp only;rw [a3];omega) (by simp only;rw [a1];exact .base)
 simp only at this
 rwa [a2] at this
theorem lead_fw {L:List Int} (hR:Ne.Right ⟨2*(m:Int)+2,2,1,arcsL cs m (4*m)⟩) (hL:Ne.IsLev ⟨2*(m:Int)+2,2,1,arcsL cs m (4*m)⟩ (List.replicate (4*m) 0) 1 L) {r:Nat} (h:r∈Ne.leadL (arcsL cs m (4*m)) (List.replicate (4*m) 0) 1 L (8*m)):∃ i,i<m∧(r=8*i∨r=8*i+2∨r=8*i+4):=by
 obtain ⟨h1,h2,h3,h4⟩:=Ne.leadL_mem.1 h
 obtain ⟨i,hi,h | h | h | h⟩:=track h1 h2
 ·exact ⟨i,hi,.inl h⟩
 ·exact ⟨i,hi,.inr (.inl h.1)⟩
 ·exact ⟨i,hi,.inr (.inr h)⟩
 ·exfalso
  subst h
  obtain ⟨a1,a2,_⟩:=t3 (cs:=cs) [] hi
  have hj:=j_bd cs hi
  rw [a1] at h3
  rw [a1,a2] at h4
  obtain ⟨j,hj2⟩:∃ j:Nat,jC cs m i=(j:Int):=⟨(jC cs m i).toNat,by omega⟩
  rw [hj2] at h4 hj
  have hlo:=hL.low 1 _ (dst1 (cs:=cs) (m:=m) (j:=j) (by omega))
  have e0:Ne.amt L (2*(i:Int)+4).toNat=0:=by omega
  have:=Ne.lev_only hR hL (i:=(2*(i:Int)+4).toNat) (by simp only;omega) e0
  simp only at this
  omega
theorem lead_at {L:List Int} (hR:Ne.Right ⟨2*(m:Int)+2,2,1,arcsL cs m (4*m)⟩) (hL:Ne.IsLev ⟨2*(m:Int)+2,2,1,arcsL cs m (4*m)⟩ (List.replicate (4*m) 0) 1 L) {j:Nat} (hj:j<m) (h0:0<cC cs j):8*j∈Ne.leadL (arcsL cs m (4*m)) (List.replicate (4*m) 0) 1 L (8*m)∧8*j+2∈Ne.leadL (arcsL cs m (4*m)) (List.replicate (4*m) 0) 1 L (8*m)∧8*j+4∈Ne.leadL (arcsL cs m (4*m)) (List.replicate (4*m) 0) 1 L (8*m):=by
 have hb:=c_bd cs j
 obtain ⟨a1,a2,a3⟩:=t0 (cs:=cs) (List.replicate (4*m) 0) hj
 obtain ⟨b1,b2,b3⟩:=t1 (cs:=cs) (List.replicate (4*m) 0) hj
 obtain ⟨c1,c2,c3⟩:=t2 (cs:=cs) (List.replicate (4*m) 0) hj
 rw [nul_at] at a3 b3 c3
 have hl:=hl8 (cs:=cs) (m:=m)
 have l1:=Ne.lev_src hR hL
 have d1:=dst1 (cs:=cs) hj
 have d2:Ne.Dst ⟨2*(m:Int)+2,2,1,arcsL cs m (4*m)⟩ (List.replicate (4*m) 0) 1 2 (2*(j:Int)+4):=by
  have:=Ne.Dst.step (n:=⟨2*(m:Int)+2,2,1,arcsL cs m (4*m)⟩) (f:=List.replicate (4*m) 0) (x:=1) (k:=1) (r:=8*j+2) (by simp only;omega) (by simp only;rw [b3];omega) (by simp only;rw [b1];exact d1)
  simp only at this
  rwa [b2] at this
 have d3:Ne.Dst ⟨2*(m:Int)+2,2,1,arcsL cs m (4*m)⟩ (List.replicate (4*m) 0) 1 3 1:=by
  have:=Ne.Dst.step (n:=⟨2*(m:Int)+2,2,1,arcsL cs m (4*m)⟩) (f:=List.replicate (4*m) 0) (x:=1) (k:=2) (r:=8*j+4) (by simp only;omega) (by simp only;rw [c3];omega) (by simp only;rw [c1];exact d2)
  simp only at this
  rwa [c2] at this
 have e1:=hL.low 1 _ d1
 have e2:=hL.low 2 _ d2
 have e3:=hL.low 3 _ d3
 have f1:Ne.amt L (2*(j:Int)+3).toNat=1:=by
  rcases hL.val (2*(j:Int)+3).toNat (by simp only;omega) with h | ⟨k,h,hd⟩
  ·omega
  ·have:=dst hd;omega
 have f2:Ne.amt L (2*(j:Int)+4).toNat=2:=by
  rcases hL.val (2*(j:Int)+4).toNat (by simp only;omega) with h | ⟨k,h,hd⟩
  ·omega
  ·have:=dst hd;omega
 have f3:Ne.amt L (1:Int).toNat=3:=by
  rcases hL.val (1:Int).toNat (by simp only;omega) with h | ⟨k,h,hd⟩
  ·omega
  ·have:=dst hd;omega
 simp only at l1
 rw [Ne.leadL_mem,Ne.leadL_mem,Ne.leadL_mem,a1,a2,a3,b1,b2,b3,c1,c2,c3,f1,f2,f3,l1]
 exact ⟨⟨by omega,by omega,by omega,by omega⟩,⟨by omega,by omega,by omega,by omega⟩,⟨by omega,by omega,by omega,by omega⟩⟩
theorem stuck {TL:List Nat} (hT:∀ r∈TL,∃ i,i<m∧(r=8*i∨r=8*i+2∨r=8*i+4)) {j i:Nat} (hi:i<m) (hij:i<j) (R:List Nat):¬ Ne.Wlk (arcsL cs m (4*m)) TL (flowL cs m j) 1 (2*(i:Int)+3) R 1:=fun hW=>by
 rcases Ne.wlk_inv hW with ⟨_,e⟩ | ⟨r,R',_,e,h1,h2,_⟩
 ·omega
 ·obtain ⟨k,hk,rfl | rfl | rfl⟩:=hT _ h1
  ·rw [(t0 (cs:=cs) [] hk).1] at e;omega
  ·rw [(t1 (cs:=cs) [] hk).1] at e
   obtain rfl:k=i:=by omega
   rw [(t1 _ hk).2.2,flow_at (by omega),show (4*k+1) / 4=k by omega,if_pos ⟨hij,by omega⟩] at h2
   omega
  ·rw [(t2 (cs:=cs) [] hk).1] at e;omega
theorem blk_from {TL:List Nat} (hT:∀ r∈TL,∃ i,i<m∧(r=8*i∨r=8*i+2∨r=8*i+4)) (hT2:∀ j,j<m→0<cC cs j→8*j∈TL∧8*j+2∈TL∧8*j+4∈TL):∀ (n j:Nat),j+n=m→Ne.BlkW (arcsL cs m (4*m)) TL 1 2 1 (flowL cs m j) (walksL cs j n) (flowL cs m m)
 | 0,j,h=>by
  obtain rfl:j=m:=by omega
  exact .nil _
 | n+1,j,h=>by
  have ih:=blk_from hT hT2 n (j+1) (by omega)
  have hj:j<m:=by omega
  have hb:=c_bd cs j
  rw [walks_succ]
  by_cases c:0<cC cs j
  ·rw [if_pos c]
   obtain ⟨a1,a2,a3⟩:=t0 (cs:=cs) (flowL cs m j) hj
   obtain ⟨b1,b2,b3⟩:=t1 (cs:=cs) (flowL cs m j) hj
   obtain ⟨d1,d2,d3⟩:=t2 (cs:=cs) (flowL cs m j) hj
   rw [flow_at (by omega),if_neg (by omega)] at a3 b3 d3
   obtain ⟨k1,k2,k3⟩:=hT2 j hj c
   refine Ne.BlkW.cons (g:=flowL cs m (j+1)) ?_ ⟨fun r hr=>?_,⟨8*j+2,by simp,by rw [b3];omega⟩⟩ ?_ ih
   ·have s3:=Ne.FirstW.step (l:=arcsL cs m (4*m)) (TL:=TL) (f:=flowL cs m j) (x:=1) (t:=1) (r:=8*j+4) (R:=[]) (by rw [d1];omega) k3 (by rw [d3];omega) (by rw [d2];exact .done) fun q hq hqf hxq hlt=>by
     obtain ⟨i,hi,rfl | rfl | rfl⟩:=hT _ hq
     ·rw [(t0 (cs:=cs) [] hi).1,d1] at hqf;omega
     ·rw [(t1 (cs:=cs) [] hi).1,d1] at hqf;omega
     ·rw [(t2 (cs:=cs) [] hi).1,d1] at hqf;omega
    rw [d1] at s3
    have s2:=Ne.FirstW.step (l:=arcsL cs m (4*m)) (TL:=TL) (f:=flowL cs m j) (x:=1) (t:=1) (r:=8*j+2) (R:=[8*j+4]) (by rw [b1];omega) k2 (by rw [b3];omega) (by rw [b2];exact s3) fun q hq hqf hxq hlt=>by
     obtain ⟨i,hi,rfl | rfl | rfl⟩:=hT _ hq
     ·rw [(t0 (cs:=cs) [] hi).1,b1] at hqf;omega
     ·rw [(t1 (cs:=cs) [] hi).1,b1] at hqf;omega
     ·rw [(t2 (cs:=cs) [] hi).1,b1] at hqf;omega
    rw [b1] at s2
    have s1:=Ne.FirstW.step (l:=arcsL cs m (4*m)) (TL:=TL) (f:=flowL cs m j) (x:=1) (t:=1) (r:=8*j) (R:=[8*j+2,8*j+4]) (by rw [a1];omega) k1 (by rw [a3];omega) (by rw [a2];exact s2) fun q hq hqf hxq hlt=>by
     obtain ⟨i,hi,rfl | rfl | rfl⟩:=hT _ hq
     ·rw [(t0 (cs:=cs) [] hi).2.1]
      exact fun R'=>stuck hT hi (by omega) R'
     ·rw [(t1 (cs:=cs) [] hi).1,a1] at hqf;omega
     ·rw [(t2 (cs:=cs) [] hi).1,a1] at hqf;omega
    rwa [a1] at s1
   ·simp only [List.mem_cons,List.not_mem_nil,or_false] at hr
    rcases hr with rfl | rfl | rfl
    ·rw [a3];omega
    ·rw [b3];omega
    ·rw [d3];omega
   ·have q1:8*j / 2=4*j:=by omega
    have q2:(8*j+2) / 2=4*j+1:=by omega
    have q3:(8*j+4) / 2=4*j+2:=by omega
    have p1:¬ 8*j % 2=1:=by omega
    have p2:¬ (8*j+2) % 2=1:=by omega
    have p3:¬ (8*j+4) % 2=1:=by omega
    have hr2:Ne.roomN (arcsL cs m (4*m)) (Ne.put1 (flowL cs m j) (cC cs j) (8*j)) (8*j+2)=cC cs j:=by
     rw [(t1 _ hj).2.2,Ne.put1_at (by rw [flow_len];omega),if_neg (by omega),flow_at (by omega),if_neg (by omega)];omega
    have hr3:Ne.roomN (arcsL cs m (4*m)) (Ne.put1 (Ne.put1 (flowL cs m j) (cC cs j) (8*j)) (cC cs j) (8*j+2)) (8*j+4)=100:=by
     rw [(t2 _ hj).2.2,Ne.put1_at (by rw [Ne.put1_len,flow_len];omega),if_neg (by omega),Ne.put1_at (by rw [flow_len];omega),if_neg (by omega),flow_at (by omega),if_neg (by omega)];omega
    rw [Ne.pushN_cons,a3,if_neg (by omega),Ne.pushN_cons,hr2,if_neg (by omega),Ne.pushN_cons,hr3,if_neg (by omega)]
    show some _=_
    congr 1
    refine List.ext_getElem? fun i=>?_
    generalize hz:Ne.put1 (Ne.put1 (Ne.put1 (flowL cs m j) (cC cs j) (8*j)) (cC cs j) (8*j+2)) (cC cs j) (8*j+4)=Z
    have hl1:Z.length=4*m:=by rw [← hz,Ne.put1_len,Ne.put1_len,Ne.put1_len,flow_len]
    by_cases hi:i<4*m
    ·have e4:=Ne.at_amt (f:=Z) (i:=i) (by rw [hl1];exact hi)
     have e5:=Ne.at_amt (f:=flowL cs m (j+1)) (i:=i) (by rw [flow_len];exact hi)
     rw [← hz,Ne.put1_at (by rw [Ne.put1_len,Ne.put1_len,flow_len];omega),Ne.put1_at (by rw [Ne.put1_len,flow_len];omega),Ne.put1_at (by rw [flow_len];omega),flow_at hi,hz] at e4
     rw [flow_at hi] at e5
     rw [e4,e5]
     congr 1
     rw [q1,q2,q3,if_neg p1,if_neg p2,if_neg p3]
     by_cases u3:i=4*j+2
     ·subst u3
      rw [if_pos rfl,if_neg (by omega),if_neg (by omega),if_neg (by omega),if_pos (by omega),show (4*j+2) / 4=j by omega];omega
     ·rw [if_neg u3]
      by_cases u2:i=4*j+1
      ·subst u2
       rw [if_pos rfl,if_neg (by omega),if_neg (by omega),if_pos (by omega),show (4*j+1) / 4=j by omega];omega
      ·rw [if_neg u2]
       by_cases u1:i=4*j
       ·subst u1
        rw [if_pos rfl,if_neg (by omega),if_pos (by omega),show 4*j / 4=j by omega];omega
       ·rw [if_neg u1]
        by_cases u0:i / 4<j∧i % 4<3
        ·rw [if_pos u0,if_pos (by omega)]
        ·rw [if_neg u0,if_neg (by omega)]
    ·rw [List.getElem?_eq_none (by omega),List.getElem?_eq_none (by rw [flow_len];omega)]
  ·rw [if_neg c]
   have e:flowL cs m j=flowL cs m (j+1):=by
    unfold flowL
    refine List.map_congr_left fun q hq=>?_
    by_cases h3:q % 4<3
    ·by_cases hqj:q / 4=j
     ·rw [hqj,if_neg (by omega),if_pos (by omega)];omega
     ·by_cases h2:q / 4<j
      ·rw [if_pos ⟨h2,h3⟩,if_pos (by omega)]
      ·rw [if_neg (by omega),if_neg (by omega)]
    ·rw [if_neg (by omega),if_neg (by omega)]
   rw [e]
   exact ih
theorem no_dst {k:Nat} {v:Int} (h:Ne.Dst ⟨2*(m:Int)+2,2,1,arcsL cs m (4*m)⟩ (flowL cs m m) 1 k v):v=2∨(v % 2=1∧3≤v):=by
 induction h with
 | base=>exact .inl rfl
 | @step k r hr hx _ ih =>
  simp only at ih hr hx ⊢
  rw [hl8] at hr
  obtain ⟨i,hi,h⟩:=split8 hr
  have hj:=j_bd cs hi
  rcases h with rfl | rfl | rfl | rfl | rfl | rfl | rfl | rfl
  ·rw [(t0 (cs:=cs) [] hi).2.1];omega
  ·rw [(o0 (cs:=cs) hi).2];omega
  ·rw [(t1 _ hi).2.2,flow_at (by omega),show (4*i+1) / 4=i by omega,if_pos (by omega)] at hx;omega
  ·rw [o1 (cs:=cs) hi] at ih;omega
  ·rw [(t2 (cs:=cs) [] hi).1] at ih;omega
  ·rw [o2 (cs:=cs) hi] at ih;omega
  ·rw [(t3 (cs:=cs) [] hi).1] at ih;omega
  ·rw [o3,flow_at (by omega),if_neg (by omega)] at hx;omega
theorem phs (hm2:m≤40):∃ h p k,Ne.Phs ⟨2*(m:Int)+2,2,1,arcsL cs m (4*m)⟩ 1 (List.replicate (4*m) 0) h p k∧p≤1∧Ne.Flow ⟨2*(m:Int)+2,2,1,arcsL cs m (4*m)⟩ h∧Ne.exc (arcsL cs m (4*m)) h 1=sumC cs m:=by
 have hR:=Ne.right_of (check (cs:=cs) hm2)
 have hl:=hl8 (cs:=cs) (m:=m)
 have hF0:Ne.Flow ⟨2*(m:Int)+2,2,1,arcsL cs m (4*m)⟩ (List.replicate (4*m) 0):=by
  have:=Ne.flow_nought hR
  simpa only [arcs_len] using this
 obtain ⟨L,hL⟩:=Ne.lev_exists hR (List.replicate (4*m) 0) 1
 have h:=blk_from (cs:=cs) (m:=m) (TL:=Ne.leadL (arcsL cs m (4*m)) (List.replicate (4*m) 0) 1 L (8*m)) (fun r hr=>lead_fw hR hL hr) (fun j hj h0=>lead_at hR hL hj h0) m 0 (by omega)
 rw [flow_zero] at h
 have hF:=Ne.blkW_flow hR (Ne.lds_of (arcsL cs m (4*m)) (List.replicate (4*m) 0) 1 L) (Int.le_refl 1) hF0 (by rw [hl];exact h)
 have hs:=walks_sum cs m 0
 have he:Ne.exc (arcsL cs m (4*m)) (List.replicate (4*m) 0) 1=0:=Ne.exc_zero (fun i=>nul_at _ i) 1
 have hv:Ne.exc (arcsL cs m (4*m)) (flowL cs m m) 1=sumC cs m:=by
  have:=hF.2
  simp only at this
  rw [he] at this
  rw [this]
  rw [Nat.zero_add] at hs
  rw [← hs];simp [sumC]
 have hB:Ne.IsBlk (arcsL cs m (4*m)) (Ne.leadL (arcsL cs m (4*m)) (List.replicate (4*m) 0) 1 L (8*m)) (List.replicate (4*m) 0) 1 2 1 (walksL cs 0 m) (flowL cs m m):=⟨h,fun R hW=>by
  rcases Ne.wlk_inv hW with ⟨_,e⟩ | ⟨r,R',_,e,h1,h2,h3⟩
  ·omega
  ·obtain ⟨i,hi,rfl | rfl | rfl⟩:=lead_fw hR hL h1
   ·rw [(t0 (cs:=cs) [] hi).2.1] at h3
    exact stuck (fun r hr=>lead_fw hR hL hr) hi hi R' h3
   ·rw [(t1 (cs:=cs) [] hi).1] at e;omega
   ·rw [(t2 (cs:=cs) [] hi).1] at e;omega⟩
 by_cases c:Ne.amt L (1:Int).toNat<0
 ·obtain ⟨_,e⟩:=Ne.blk_nought (n:=⟨2*(m:Int)+2,2,1,arcsL cs m (4*m)⟩) hR hL (by simp only;rw [hl];exact hB) c
  refine ⟨_,0,0,.done hL c,by omega,hF0,?_⟩
  rw [← e];exact hv
 ·obtain ⟨L2,hL2⟩:=Ne.lev_exists hR (flowL cs m m) 1
  have c2:Ne.amt L2 (1:Int).toNat<0:=by
   rcases hL2.val (1:Int).toNat (by simp only;omega) with e | ⟨k,_,hd⟩
   ·omega
   ·have:=no_dst hd
    have e1:(((1:Int).toNat:Nat):Int)=1:=rfl
    rw [e1] at this
    omega
  exact ⟨_,1,_,.step hL (by simp only;omega) (by simp only;rw [hl];exact hB) (.done hL2 c2),Nat.le_refl _,hF.1,hv⟩
end
end Dg
end Go.Proofs.Ytmikbkggjlbbnaa
namespace Go.Proofs.Ytmikbkggjlbbnaa
open Go.ChangeShapes Go.WideShapes Go.ChangeAt Go.RowKit
open Lib (hid)
set_option linter.unusedVariables false
set_option linter.unusedSimpArgs false
namespace Ne
section
variable (n:Net) (ao:Option Addr) (cap:Nat) (fo:Option Addr) (fc:Nat) (f:List Int) (w:World) (hr:ARow w ao n.l) (hf:IRow w fo f) (hl:n.l.length≤1000000) (hok:∀ a∈n.l,in64 a.cap)
include hr hf hl hok
set_option maxRecDepth 100000 in
set_option maxHeartbeats 400000 in
theorem fval_any:Calls Try.prog 7 #[encN n ao cap,.slice fo f.length fc] w fun e w'=>e=.returned (.tuple #[.int .i64 (vaV n f),.int .i64 (chkF n f)])∧Below w.heap.size w w':=by
 have AM:=hid (fun w' (h1:ARow w' ao n.l) (h2:IRow w' fo f)=>fchk_any n ao cap fo fc f w' h1 h2 hl hok)
 by_cases c0:chkF n f=0
 case neg =>
  have HV:=hid (show vaV n f=0 by unfold vaV;rw [if_pos c0])
  generalize vaV n f=R at *
  generalize chkF n f=c at *
  generalize f.length=fl at *
  obtain ⟨nn,ns,nt,l⟩:=n
  simp only at hr AM ⊢
  have HB0:=hid ((Below.refl w.heap.size w).alloc (Nat.le_refl _) (.cells #[.int .i64 nn,.int .i64 ns,.int .i64 nt,.slice ao l.length cap] 26))
  have c1':(c == 0)=false:=by simpa using c0
  have c1n:(c != 0)=true:=by simpa using c0
  have HR:=hid (hr.kept HB0.out)
  have HF:=hid (hf.kept HB0.out)
  clear hr hf hok c0
  go_enter Try.func7,Try.ntmps7
  go_wp2_with fail
  refine (AM.out _ HR.out HF.out).mono ?_
  rintro e w1 ⟨rfl,hb⟩
  have HB1:=hid (HB0.out.trans (hb.mono (by simp)))
  clear hb
  go_wp2
  go_ret2
  exact ⟨ret2' HV.out.symm rfl,HB1.out⟩
 have HV:=hid (show vaV n f=exc n.l f n.t by unfold vaV;rw [if_neg (by simpa using c0)])
 have c1:=(chkF_ok c0).1
 have XS:=hid (fun w' (h1:ARow w' ao n.l) (h2:IRow w' fo f)=>excs_s n ao cap fo fc f w' h1 h2 c1)
 rw [c0] at AM ⊢
 obtain ⟨-,RT,-,-⟩:=chkA_ok c1
 have hN0:=RT.n0
 have hN1:=RT.n1
 have ht0:=RT.t0
 have ht1:=RT.t1
 clear RT c0 c1
 generalize vaV n f=R at *
 generalize f.length=fl at *
 obtain ⟨nn,ns,nt,l⟩:=n
 simp only at hr AM XS HV hN0 hN1 ht0 ht1 ⊢
 obtain ⟨N,rfl⟩:∃ N:Nat,nn=(N:Int):=⟨nn.toNat,by omega⟩
 obtain ⟨k,rfl⟩:∃ k:Nat,nt=(k:Int):=⟨nt.toNat,by omega⟩
 simp only [Int.toNat_natCast] at XS
 have HB0:=hid ((Below.refl w.heap.size w).alloc (Nat.le_refl _) (.cells #[.int .i64 (N:Int),.int .i64 ns,.int .i64 (k:Int),.slice ao l.length cap] 26))
 have HN0:=hid (netBox_new w (N:Int) ns (k:Int) (.slice ao l.length cap))
 have HR:=hid (hr.kept HB0.out)
 have HF:=hid (hf.kept HB0.out)
 clear hr hf hok
 have hk:k<N+1:=by omega
 have hki:(k:Int)<(N:Int)+1:=by omega
 have hk0:(0:Int)≤(k:Int):=by omega
 go_enter Try.func7,Try.ntmps7
 go_wp2_with fail
 refine (AM.out _ HR.out HF.out).mono ?_
 rintro e w1 ⟨rfl,hb⟩
 have HB1:=hid (HB0.out.trans (hb.mono (by simp)))
 have HN1:=hid (netBox_below HN0.out hb (by simp))
 have HR1:=hid (HR.out.kept hb)
 have HF1:=hid (HF.out.kept hb)
 obtain ⟨n0,n1,n2,n3⟩:=netBox_cells HN1.out
 have hnl:=netBox_lt HN1.out
 clear hb
 go_wp2
 have hS0:=(show (fun w'=>w'.cell? ⟨w.heap.size,0,none⟩=some (.int .i64 (N:Int))∧w'.cell? ⟨w.heap.size,1,none⟩=some (.int .i64 ns)∧w'.cell? ⟨w.heap.size,2,none⟩=some (.int .i64 (k:Int))∧w'.cell? ⟨w.heap.size,3,none⟩=some (.slice ao l.length cap)) w1.drew from ⟨n0,n1,n2,n3⟩)
 refine Rh.start (S:=(fun w'=>w'.cell? ⟨w.heap.size,0,none⟩=some (.int .i64 (N:Int))∧w'.cell? ⟨w.heap.size,1,none⟩=some (.int .i64 ns)∧w'.cell? ⟨w.heap.size,2,none⟩=some (.int .i64 (k:Int))∧w'.cell? ⟨w.heap.size,3,none⟩=some (.slice ao l.length cap))) (by kernel_rfl) ?_
 refine Rh.tk (some 13) (i:=0) (v:=?_) rfl (Or.inl ⟨by rfl,?_⟩) hS0 ?_
 rotate_left
 ·intro w hSw
  go_simp
  try with_reducible rfl
 try simp only [Act.put,Rh.q1,Rh.q2,Rh.q3]
 refine Rh.tk (some 14) (i:=1) (v:=?_) rfl (Or.inl ⟨by rfl,?_⟩) hS0 ?_
 rotate_left
 ·intro w hSw
  go_simp
  try with_reducible rfl
 try simp only [Act.put,Rh.q1,Rh.q2,Rh.q3]
 refine Rh.tk (some 16) (i:=3) (v:=?_) rfl (Or.inl ⟨by rfl,?_⟩) hS0 ?_
 rotate_left
 ·intro w hSw
  go_simp
  try with_reducible rfl
 try simp only [Act.put,Rh.q1,Rh.q2,Rh.q3]
 refine Rh.tk (some 17) (i:=4) (v:=?_) rfl (Or.inl ⟨by rfl,?_⟩) hS0 ?_
 rotate_left
 ·intro w hSw
  go_simp
  try with_reducible rfl
 try simp only [Act.put,Rh.q1,Rh.q2,Rh.q3]
 refine Rh.step (i:=2) (by kernel_rfl) rfl fun K' hK'=>?_
 have HK:=hid hK'
 clear hK'
 go_simp
 refine (XS.out w1.drew HR1.out HF1.out).mono ?_
 rintro e w2 ⟨o,c,rfl,hx,hb⟩
 obtain ⟨b,off,rfl,d0⟩:=excL_cell hx hk
 have hS1:=(show (fun w'=>w'.cell? ⟨w.heap.size,0,none⟩=some (.int .i64 (N:Int))∧w'.cell? ⟨w.heap.size,1,none⟩=some (.int .i64 ns)∧w'.cell? ⟨w.heap.size,2,none⟩=some (.int .i64 (k:Int))∧w'.cell? ⟨w.heap.size,3,none⟩=some (.slice ao l.length cap)) w2 from ⟨(hb.cell (p:=⟨w.heap.size,0,none⟩) hnl).trans n0,(hb.cell (p:=⟨w.heap.size,1,none⟩) hnl).trans n1,(hb.cell (p:=⟨w.heap.size,2,none⟩) hnl).trans n2,(hb.cell (p:=⟨w.heap.size,3,none⟩) hnl).trans n3⟩)
 refine HK.out _ _ ⟨hS1,?_⟩
 clear HK K'
 try simp only [Act.put,Rh.q1,Rh.q2,Rh.q3]
 refine Rh.tk (some 18) (i:=5) (v:=?_) rfl (Or.inl ⟨by rfl,?_⟩) hS1 ?_
 rotate_left
 ·intro w hSw
  go_simp
  try with_reducible rfl
 try simp only [Act.put,Rh.q1,Rh.q2,Rh.q3]
 refine Rh.step (i:=6) (by kernel_rfl) rfl fun K' hK'=>?_
 have HK:=hid hK'
 clear hK'
 go_simp
 refine HK.out _ _ ⟨hS1,?_⟩
 clear HK K'
 try simp only [Act.put,Rh.q1,Rh.q2,Rh.q3]
 refine Rh.tk (some 4) (i:=7) (v:=?_) rfl (Or.inl ⟨by rfl,?_⟩) hS1 ?_
 rotate_left
 ·intro w hSw
  go_simp
  try with_reducible rfl
 try simp only [Act.put,Rh.q1,Rh.q2,Rh.q3]
 refine Rh.tk (some 5) (i:=8) (v:=?_) rfl (Or.inl ⟨by rfl,?_⟩) hS1 ?_
 rotate_left
 ·intro w hSw
  go_simp
  try with_reducible rfl
 try simp only [Act.put,Rh.q1,Rh.q2,Rh.q3]
 refine Rh.done (by kernel_rfl) ?_ _
 have HB2:=hid ((below_drew HB1.out).trans (hb.mono HB1.out.size))
 clear hb hx
 go_wp2
 go_ret2
 exact ⟨ret2' HV.out.symm rfl,HB2.out⟩
end
end Ne
namespace Ne
section
variable {n:Net} (ao:Option Addr) (cap:Nat) (fo:Option Addr) (fc:Nat) {f:List Int} (w:World) (ck:checkN n=0) (hr:ARow w ao n.l) (hf:IRow w fo f)
include ck hr hf
theorem val_ok (hl:f.length=n.l.length):Calls Try.prog 7 #[encN n ao cap,.slice fo n.l.length fc] w fun e w'=>e=.returned (.tuple #[.int .i64 (vaV n f),.int .i64 (chkF n f)])∧Below w.heap.size w w':=by
 have h:=fval_any n ao cap fo fc f w hr hf (by have:=(right_of ck).len;omega) (cap_64 (right_of ck))
 rw [hl] at h;exact h
theorem val_flow (hF:Flow n f):Calls Try.prog 7 #[encN n ao cap,.slice fo n.l.length fc] w fun e w'=>e=.returned (.tuple #[.int .i64 (exc n.l f n.t),.int .i64 0])∧Below w.heap.size w w':=by
 have h:=val_ok ao cap fo fc w ck hr hf hF.len
 rw [flow_vaV ck hF,flow_chkF ck hF] at h;exact h
end
end Ne
namespace Ne
theorem own_ne_box {w:World} {B b:Nat} {v u:Value} {l:List Arc} {n s t:Int} (h:OwnA w B v l) (hb:NetBox w b n s t u):v.ownBlock≠some b:=by
 obtain ⟨_,h2⟩:=h
 rcases h2 with ⟨hv,_⟩ | ⟨g,cap,cur,hv,_,hh,_⟩
 ·rw [hv];simp [Value.ownBlock]
 ·rw [hv]
  intro e
  simp [Value.ownBlock] at e
  subst e
  unfold NetBox at hb
  rw [hh] at hb
  simp at hb
theorem netBox_set0 {w:World} {b:Nat} {n s t n2:Int} {v:Value} (h:NetBox w b n s t v):NetBox (w.setCell ⟨b,0,none⟩ (.int .i64 n2)) b n2 s t v:=by
 unfold NetBox at *
 simp only [World.setCell,Array.getElem?_modify,h,if_true,Option.map_some]
 rfl
def ArcBox (w:World) (b:Nat) (a:Arc):Prop:=w.heap[b]? = some (.cells #[.int .i64 a.fr,.int .i64 a.to,.int .i64 a.cap] 29 (0,0))
theorem arcBox_cells {w:World} {b:Nat} {a:Arc} (h:ArcBox w b a):w.cell? ⟨b,0,none⟩=some (.int .i64 a.fr)∧w.cell? ⟨b,1,none⟩=some (.int .i64 a.to)∧w.cell? ⟨b,2,none⟩=some (.int .i64 a.cap):=by
 unfold ArcBox at h;refine ⟨?_,?_,?_⟩ <;> simp [World.cell?,h]
theorem arcBox_lt {w:World} {b:Nat} {a:Arc} (h:ArcBox w b a):b<w.heap.size:=Rw.lt_of_heap h
theorem arcBox_below {w w2:World} {b B:Nat} {a:Arc} (h:ArcBox w b a) (hb:Below B w w2) (hB:b<B):ArcBox w2 b a:=by
 unfold ArcBox at *;rw [hb.block b hB];exact h
theorem arcBox_at (w:World) {b:Nat} (hb:b=w.heap.size) (a:Arc):ArcBox (w.alloc (.cells #[.int .i64 a.fr,.int .i64 a.to,.int .i64 a.cap] 29)) b a:=by
 subst hb;unfold ArcBox;show (w.heap.push _)[w.heap.size]? = _;simp
theorem arcBox_grown {w w2:World} {b:Nat} {a:Arc} {row:Option Nat} (h:ArcBox w b a) (hg:w.grownBy w2 row) (hne:some b≠row):ArcBox w2 b a:=by
 unfold ArcBox at *;rw [hg.block b (Rw.lt_of_heap h) hne];exact h
theorem arcBox_other {w:World} {b b2:Nat} {a:Arc} {v2:Value} {o:Nat} (h:ArcBox w b a) (hne:b≠b2):ArcBox (w.setCell ⟨b2,o,none⟩ v2) b a:=by
 unfold ArcBox at *
 rw [Below.heap_setCell _ _ _ _ hne];exact h
end Ne
end Go.Proofs.Ytmikbkggjlbbnaa
