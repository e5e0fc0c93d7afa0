/-
  Fval, Flv, Chn, Gnb
-/
import Derived.Test.YtoadkckceladgaaGreatBb9
import Derived.Test.YtoadkckceladgaaGreatBb43
import Derived.Test.YtoadkckceladgaaGreatBb2
set_option linter.unusedVariables false
set_option linter.unusedSimpArgs false
set_option maxRecDepth 100000
set_option maxHeartbeats 4000000
namespace Go.Proofs.YtoadkckceladgaaGreat
open Go.ChangeShapes Go.WideShapes Go.ChangeAt Go.RowKit
open Lib (hid)
namespace Ne
section
variable (n:Net) (ao:Option Addr) (cap:Nat) (fo:Option Addr) (fc:Nat) (f:List Int) (w:World) (hr:ARow w ao n.l) (hf:IRow w fo f) (hl:n.l.length≤1000000) (hok:∀ a∈n.l,in64 a.cap)
include hr hf hl hok
theorem fval_any:Calls Tryz.prog 18 #[encN n ao cap,.slice fo f.length fc] w fun e w'=>e=.returned (.tuple #[.int .i64 (vaV n f),.int .i64 (chkF n f)])∧Below w.heap.size w w':=by
 have AM:=hid (fun w' (h1:ARow w' ao n.l) (h2:IRow w' fo f)=>fchk_any n ao cap fo fc f w' h1 h2 hl hok)
 by_cases c0:chkF n f=0
 case neg =>
  have HV:=hid (show vaV n f=0 by unfold vaV;rw [if_pos c0])
  generalize vaV n f=R at *
  generalize chkF n f=c at *
  generalize f.length=fl at *
  obtain ⟨nn,ns,nt,l⟩:=n
  simp only at hr AM ⊢
  have HB0:=hid ((Below.refl w.heap.size w).alloc (Nat.le_refl _) (.cells #[.int .i64 nn,.int .i64 ns,.int .i64 nt,.slice ao l.length cap] 24))
  have c1':(c == 0)=false:=by simpa using c0
  have c1n:(c != 0)=true:=by simpa using c0
  have HR:=hid (hr.kept HB0.out)
  have HF:=hid (hf.kept HB0.out)
  clear hr hf hok c0
  go_enter Tryz.func18,Tryz.ntmps18
  go_wp2_with fail
  refine (AM.out _ HR.out HF.out).mono ?_
  rintro e w1 ⟨rfl,hb⟩
  have HB1:=hid (HB0.out.trans (hb.mono (by simp)))
  clear hb
  go_wp2
  go_ret2
  exact ⟨ret2' HV.out.symm rfl,HB1.out⟩
 have HV:=hid (show vaV n f=exc n.l f n.t by unfold vaV;rw [if_neg (by simpa using c0)])
 have c1:=(chkF_ok c0).1
 have XS:=hid (fun w' (h1:ARow w' ao n.l) (h2:IRow w' fo f)=>excs_s n ao cap fo fc f w' h1 h2 c1)
 rw [c0] at AM ⊢
 obtain ⟨-,RT,-,-⟩:=chkA_ok c1
 have hN0:=RT.n0
 have hN1:=RT.n1
 have ht0:=RT.t0
 have ht1:=RT.t1
 clear RT c0 c1
 generalize vaV n f=R at *
 generalize f.length=fl at *
 obtain ⟨nn,ns,nt,l⟩:=n
 simp only at hr AM XS HV hN0 hN1 ht0 ht1 ⊢
 obtain ⟨N,rfl⟩:∃ N:Nat,nn=(N:Int):=⟨nn.toNat,by omega⟩
 obtain ⟨k,rfl⟩:∃ k:Nat,nt=(k:Int):=⟨nt.toNat,by omega⟩
 simp only [Int.toNat_natCast] at XS
 have HB0:=hid ((Below.refl w.heap.size w).alloc (Nat.le_refl _) (.cells #[.int .i64 (N:Int),.int .i64 ns,.int .i64 (k:Int),.slice ao l.length cap] 24))
 have HN0:=hid (netBox_new w (N:Int) ns (k:Int) (.slice ao l.length cap))
 have HR:=hid (hr.kept HB0.out)
 have HF:=hid (hf.kept HB0.out)
 clear hr hf hok
 have hk:k<N+1:=by omega
 have hki:(k:Int)<(N:Int)+1:=by omega
 have hk0:(0:Int)≤(k:Int):=by omega
 go_enter Tryz.func18,Tryz.ntmps18
 go_wp2_with fail
 refine (AM.out _ HR.out HF.out).mono ?_
 rintro e w1 ⟨rfl,hb⟩
 have HB1:=hid (HB0.out.trans (hb.mono (by simp)))
 have HN1:=hid (netBox_below HN0.out hb (by simp))
 have HR1:=hid (HR.out.kept hb)
 have HF1:=hid (HF.out.kept hb)
 obtain ⟨n0,n1,n2,n3⟩:=netBox_cells HN1.out
 have hnl:=netBox_lt HN1.out
 clear hb
 go_wp2
 have hS0:=(show (fun w'=>w'.cell? ⟨w.heap.size,0,none⟩=some (.int .i64 (N:Int))∧w'.cell? ⟨w.heap.size,1,none⟩=some (.int .i64 ns)∧w'.cell? ⟨w.heap.size,2,none⟩=some (.int .i64 (k:Int))∧w'.cell? ⟨w.heap.size,3,none⟩=some (.slice ao l.length cap)) w1.drew from ⟨n0,n1,n2,n3⟩)
 refine Rh.start (S:=(fun w'=>w'.cell? ⟨w.heap.size,0,none⟩=some (.int .i64 (N:Int))∧w'.cell? ⟨w.heap.size,1,none⟩=some (.int .i64 ns)∧w'.cell? ⟨w.heap.size,2,none⟩=some (.int .i64 (k:Int))∧w'.cell? ⟨w.heap.size,3,none⟩=some (.slice ao l.length cap))) (by kernel_rfl) ?_
 refine Rh.tp 13 0 hS0 ?_
 refine Rh.tp 14 1 hS0 ?_
 refine Rh.tp 16 3 hS0 ?_
 refine Rh.tp 17 4 hS0 ?_
 refine Rh.step (i:=2) (by kernel_rfl) rfl fun K' hK'=>?_
 have HK:=hid hK'
 clear hK'
 go_simp
 refine (XS.out w1.drew HR1.out HF1.out).mono ?_
 rintro e w2 ⟨o,c,rfl,hx,hb⟩
 obtain ⟨b,off,rfl,d0⟩:=excL_cell hx hk
 have hS1:=(show (fun w'=>w'.cell? ⟨w.heap.size,0,none⟩=some (.int .i64 (N:Int))∧w'.cell? ⟨w.heap.size,1,none⟩=some (.int .i64 ns)∧w'.cell? ⟨w.heap.size,2,none⟩=some (.int .i64 (k:Int))∧w'.cell? ⟨w.heap.size,3,none⟩=some (.slice ao l.length cap)) w2 from ⟨(hb.cell (p:=⟨w.heap.size,0,none⟩) hnl).trans n0,(hb.cell (p:=⟨w.heap.size,1,none⟩) hnl).trans n1,(hb.cell (p:=⟨w.heap.size,2,none⟩) hnl).trans n2,(hb.cell (p:=⟨w.heap.size,3,none⟩) hnl).trans n3⟩)
 refine HK.out _ _ ⟨hS1,?_⟩
 clear HK K'
 try simp only [Act.put,Rh.q1,Rh.q2,Rh.q3]
 refine Rh.tp 18 5 hS1 ?_
 refine Rh.step (i:=6) (by kernel_rfl) rfl fun K' hK'=>?_
 have HK:=hid hK'
 clear hK'
 go_simp
 refine HK.out _ _ ⟨hS1,?_⟩
 clear HK K'
 try simp only [Act.put,Rh.q1,Rh.q2,Rh.q3]
 refine Rh.tp 4 7 hS1 ?_
 refine Rh.tp 5 8 hS1 ?_
 refine Rh.done (by kernel_rfl) ?_ _
 have HB2:=hid ((below_drew HB1.out).trans (hb.mono HB1.out.size))
 clear hb hx
 go_wp2
 go_ret2
 exact ⟨ret2' HV.out.symm rfl,HB2.out⟩
end
end Ne
namespace Ne
section
variable {n:Net} (ao:Option Addr) (cap:Nat) (fo:Option Addr) (fc:Nat) {f:List Int} (w:World) (ck:checkN n=0) (hr:ARow w ao n.l) (hf:IRow w fo f)
include ck hr hf
theorem val_ok (hl:f.length=n.l.length):Calls Tryz.prog 18 #[encN n ao cap,.slice fo n.l.length fc] w fun e w'=>e=.returned (.tuple #[.int .i64 (vaV n f),.int .i64 (chkF n f)])∧Below w.heap.size w w':=by
 have h:=fval_any n ao cap fo fc f w hr hf (by have:=(right_of ck).len;omega) (cap_64 (right_of ck))
 rw [hl] at h;exact h
theorem val_flow (hF:Flow n f):Calls Tryz.prog 18 #[encN n ao cap,.slice fo n.l.length fc] w fun e w'=>e=.returned (.tuple #[.int .i64 (exc n.l f n.t),.int .i64 0])∧Below w.heap.size w w':=by
 have h:=val_ok ao cap fo fc w ck hr hf hF.len
 rw [flow_vaV ck hF,flow_chkF ck hF] at h;exact h
end
end Ne
namespace Ch
def arcsC (C:Nat→Int) (k:Nat):List Ne.Arc:=(List.range k).map fun i:Nat=>⟨(i:Int)+1,(i:Int)+2,C i⟩
def minC (C:Nat→Int):Nat→Int
 | 0=>1048576
 | k+1=>min (minC C k) (C k)
def partL (m:Nat) (v:Int) (j:Nat):List Int:=(List.range m).map fun i=>if i<j then v else 0
def walk (j n:Nat):List Nat:=(List.range' j n).map (2 * ·)
theorem arcs_len (C:Nat→Int) (k:Nat):(arcsC C k).length=k:=by simp [arcsC]
theorem arcs_succ (C:Nat→Int) (k:Nat):arcsC C (k+1)=arcsC C k ++ [⟨(k:Int)+1,(k:Int)+2,C k⟩]:=by simp [arcsC,List.range_succ]
theorem arcs_at (C:Nat→Int) {k i:Nat} (h:i<k):Ne.arcAt (arcsC C k) i=⟨(i:Int)+1,(i:Int)+2,C i⟩:=by simp [arcsC,Ne.arcAt,h]
theorem part_len (m:Nat) (v:Int) (j:Nat):(partL m v j).length=m:=by simp [partL]
theorem part_at {m:Nat} {v:Int} {j i:Nat} (h:i<m):Ne.amt (partL m v j) i=if i<j then v else 0:=by simp [partL,Ne.amt,h]
theorem part_zero (m:Nat) (v:Int):partL m v 0=List.replicate m 0:=by simp [partL,List.map_const']
theorem rep_at {m i:Nat} (v:Int) (h:i<m):Ne.amt (List.replicate m v) i=v:=by simp [Ne.amt,h]
theorem part_full (m:Nat) (v:Int):partL m v m=List.replicate m v:=by
 refine List.ext_getElem (by rw [part_len];simp) fun i h1 h2=>?_
 rw [part_len] at h1
 simp [partL,h1]
theorem nul_at (m i:Nat):Ne.amt (List.replicate m 0) i=0:=by
 unfold Ne.amt
 by_cases h:i<m
 ·simp [h]
 ·simp [List.getElem?_eq_none,h]
theorem min_le (C:Nat→Int):∀ k i,i<k→minC C k≤C i
 | 0,i,h=>absurd h (by omega)
 | k+1,i,h=>by
  unfold minC
  by_cases c:i=k
  ·subst c;omega
  ·have:=min_le C k i (by omega);omega
theorem min_is (C:Nat→Int) (hC:∀ i,0≤C i∧C i≤1000000):∀ k,1≤k→∃ i,i<k∧minC C k=C i
 | 0,h=>absurd h (by omega)
 | k+1,_=>by
  unfold minC
  by_cases c:k=0
  ·subst c
   refine ⟨0,by omega,?_⟩
   have:=hC 0
   show min (1048576:Int) _=_
   omega
  ·obtain ⟨i,hi,e⟩:=min_is C hC k (by omega)
   by_cases d:minC C k≤C k
   ·exact ⟨i,by omega,by omega⟩
   ·exact ⟨k,by omega,by omega⟩
theorem min_bd (C:Nat→Int) (hC:∀ i,0≤C i∧C i≤1000000) (k:Nat):0≤minC C k∧minC C k≤1048576:=by
 induction k with
 | zero=>exact ⟨by unfold minC;omega,by unfold minC;omega⟩
 | succ k ih=>have:=hC k;unfold minC;omega
section
variable {C:Nat→Int} {x:Int} {m:Nat}
theorem check (hC:∀ i,0≤C i∧C i≤1000000) (hm:1≤m) (hm2:m≤60):Ne.checkN ⟨(m:Int)+1,1,(m:Int)+1,arcsC C m⟩=0:=by
 refine Ne.checkN_fine ⟨by simp only;omega,by simp only;omega,by simp only;omega,by simp only;omega,by simp only;omega,by simp only;omega,by simp only;omega,by simp only [arcs_len];omega⟩ fun a ha=>?_
 simp only at ha ⊢
 obtain ⟨i,hi,rfl⟩:=List.mem_map.1 ha
 rw [List.mem_range] at hi
 have:=hC i
 exact ⟨(Ne.isNode_iff _ _).2 (by simp only;omega),(Ne.isNode_iff _ _).2 (by simp only;omega),by simp only;omega,by simp only;omega⟩
theorem even {g:List Int} {i:Nat} (h:i<m):Ne.trF (arcsC C m) (2*i)=(i:Int)+1∧Ne.trT (arcsC C m) (2*i)=(i:Int)+2∧Ne.roomN (arcsC C m) g (2*i)=C i-Ne.amt g i:=by
 rw [Ne.trF_even,Ne.trT_even,Ne.room_even,arcs_at C h]
 exact ⟨rfl,rfl,rfl⟩
theorem odd {g:List Int} {i:Nat} (h:i<m):Ne.trF (arcsC C m) (2*i+1)=(i:Int)+2∧Ne.trT (arcsC C m) (2*i+1)=(i:Int)+1:=by
 rw [Ne.trF_odd,Ne.trT_odd,arcs_at C h]
 exact ⟨rfl,rfl⟩
theorem cut {g:List Int} {i0 r:Nat} (hi:i0<m) (hr:r<2*m) (h0:Ne.roomN (arcsC C m) g (2*i0)<x) (hx:x≤Ne.roomN (arcsC C m) g r) (hf:Ne.trF (arcsC C m) r≤(i0:Int)+1):Ne.trT (arcsC C m) r≤(i0:Int)+1:=by
 by_cases c:r % 2=1
 ·obtain ⟨i,rfl⟩:∃ i,r=2*i+1:=⟨r / 2,by omega⟩
  obtain ⟨e1,e2⟩:=odd (C:=C) (g:=g) (show i<m by omega)
  rw [e1] at hf;rw [e2];omega
 ·obtain ⟨i,rfl⟩:∃ i,r=2*i:=⟨r / 2,by omega⟩
  obtain ⟨e1,e2,_⟩:=even (C:=C) (g:=g) (show i<m by omega)
  rw [e1] at hf;rw [e2]
  by_cases d:i=i0
  ·subst d;omega
  ·omega
theorem no_walk {TL:List Nat} (hT:∀ r∈TL,r<2*m) {g:List Int} {i0:Nat} (hi:i0<m) (h0:Ne.roomN (arcsC C m) g (2*i0)<x) {t:Int}:∀ (R:List Nat) (u:Int),Ne.Wlk (arcsC C m) TL g x u R t→u≤(i0:Int)+1→t≤(i0:Int)+1
 | [],u,h,hu=>by
  rcases Ne.wlk_inv h with ⟨_,rfl⟩ | ⟨_,_,e,_⟩
  ·exact hu
  ·cases e
 | r :: R,u,h,hu=>by
  rcases Ne.wlk_inv h with ⟨e,_⟩ | ⟨r',R',e,e2,h1,h2,h3⟩
  ·cases e
  ·cases e
   exact no_walk hT hi h0 R _ h3 (cut hi (hT _ h1) h0 h2 (by rw [← e2];exact hu))
theorem no_dst {g:List Int} {i0:Nat} (hi:i0<m) (h0:Ne.roomN (arcsC C m) g (2*i0)<x) {k:Nat} {v:Int} (h:Ne.Dst ⟨(m:Int)+1,1,(m:Int)+1,arcsC C m⟩ g x k v):v≤(i0:Int)+1:=by
 induction h with
 | base=>simp only;omega
 | @step k r hr hx _ ih=>exact cut hi (by simpa only [arcs_len] using hr) h0 hx ih
theorem lev_cut {g L:List Int} {i0:Nat} (hi:i0<m) (h0:Ne.roomN (arcsC C m) g (2*i0)<x) (hL:Ne.IsLev ⟨(m:Int)+1,1,(m:Int)+1,arcsC C m⟩ g x L):Ne.amt L (m+1)<0:=by
 rcases hL.val (m+1) (by simp only;omega) with h | ⟨k,_,hd⟩
 ·omega
 ·have:=no_dst hi h0 hd;omega
theorem track {r:Nat} (h:r<2*m) (h1:1≤x) (hx:x≤Ne.roomN (arcsC C m) (List.replicate m 0) r):∃ i,i<m∧r=2*i∧x≤C i:=by
 by_cases c:r % 2=1
 ·obtain ⟨i,rfl⟩:∃ i,r=2*i+1:=⟨r / 2,by omega⟩
  rw [Ne.room_odd,nul_at] at hx;omega
 ·obtain ⟨i,rfl⟩:∃ i,r=2*i:=⟨r / 2,by omega⟩
  have hi:i<m:=by omega
  rw [(even hi).2.2,nul_at] at hx
  exact ⟨i,hi,rfl,by omega⟩
theorem dst (h1:1≤x) {k:Nat} {v:Int} (h:Ne.Dst ⟨(m:Int)+1,1,(m:Int)+1,arcsC C m⟩ (List.replicate m 0) x k v):v=(k:Int)+1:=by
 induction h with
 | base=>rfl
 | @step k r hr hx _ ih =>
  obtain ⟨i,hi,rfl,_⟩:=track (by simpa only [arcs_len] using hr) h1 hx
  obtain ⟨e1,e2,_⟩:=even (C:=C) (g:=List.replicate m 0) hi
  simp only at ih ⊢
  rw [e1] at ih
  rw [e2];omega
theorem dst' (ha:∀ i,i<m→x≤C i):∀ k,k≤m→Ne.Dst ⟨(m:Int)+1,1,(m:Int)+1,arcsC C m⟩ (List.replicate m 0) x k ((k:Int)+1)
 | 0,_=>Ne.Dst.base (n:=⟨(m:Int)+1,1,(m:Int)+1,arcsC C m⟩)
 | k+1,h=>by
  have ih:=dst' ha k (by omega)
  obtain ⟨e1,e2,e3⟩:=even (C:=C) (g:=List.replicate m 0) (show k<m by omega)
  have hx:=ha k (by omega)
  rw [nul_at] at e3
  have:=Ne.Dst.step (n:=⟨(m:Int)+1,1,(m:Int)+1,arcsC C m⟩) (f:=List.replicate m 0) (x:=x) (k:=k) (r:=2*k) (by simp only [arcs_len];omega) (by simp only;rw [e3];omega) (by simp only;rw [e1];exact ih)
  simp only at this
  rw [e2] at this
  rwa [show ((k+1:Nat):Int)+1=(k:Int)+2 by omega]
theorem lev_at (h1:1≤x) (ha:∀ i,i<m→x≤C i) {L:List Int} (hL:Ne.IsLev ⟨(m:Int)+1,1,(m:Int)+1,arcsC C m⟩ (List.replicate m 0) x L) {j:Nat} (hj:j≤m):Ne.amt L (j+1)=(j:Int):=by
 have h0:=hL.low j _ (dst' ha j hj)
 rw [show ((j:Int)+1).toNat=j+1 by omega] at h0
 rcases hL.val (j+1) (by simp only;omega) with h | ⟨k,h,hd⟩
 ·omega
 ·have:=dst h1 hd;omega
theorem lead_at (h1:1≤x) (ha:∀ i,i<m→x≤C i) {L:List Int} (hL:Ne.IsLev ⟨(m:Int)+1,1,(m:Int)+1,arcsC C m⟩ (List.replicate m 0) x L) {j:Nat} (hj:j<m):2*j∈Ne.leadL (arcsC C m) (List.replicate m 0) x L (2*m):=by
 rw [Ne.leadL_mem]
 obtain ⟨e1,e2,e3⟩:=even (C:=C) (g:=List.replicate m 0) hj
 rw [nul_at] at e3
 have hx:=ha j hj
 have a1:=lev_at h1 ha hL (show j≤m by omega)
 have a2:=lev_at h1 ha hL (show j+1≤m by omega)
 rw [e1,e2,e3,show ((j:Int)+1).toNat=j+1 by omega,show ((j:Int)+2).toNat=j+1+1 by omega,a1,a2]
 exact ⟨by omega,by omega,by omega,by omega⟩
theorem walk_succ (j n:Nat):walk j (n+1)=2*j :: walk (j+1) n:=by simp [walk,List.range'_succ]
theorem walk_mem {j n r:Nat} (h:r∈walk j n):∃ i,j≤i∧i<j+n∧r=2*i:=by
 unfold walk at h
 obtain ⟨i,hi,rfl⟩:=List.mem_map.1 h
 have:=List.mem_range'_1.1 hi
 exact ⟨i,by omega,by omega,rfl⟩
theorem walk_has {j n i:Nat} (h1:j≤i) (h2:i<j+n):2*i∈walk j n:=by
 unfold walk
 exact List.mem_map.2 ⟨i,List.mem_range'_1.2 (by omega),rfl⟩
theorem first_from {TL:List Nat} (hT:∀ r∈TL,∃ i,i<m∧r=2*i) (hT2:∀ j,j<m→2*j∈TL) (ha:∀ i,i<m→x≤C i):∀ (n j:Nat),j+n=m→Ne.FirstW (arcsC C m) TL (List.replicate m 0) x ((m:Int)+1) ((j:Int)+1) (walk j n)
 | 0,j,h=>by
  obtain rfl:j=m:=by omega
  exact .done
 | n+1,j,h=>by
  have hj:j<m:=by omega
  obtain ⟨e1,e2,e3⟩:=even (C:=C) (g:=List.replicate m 0) hj
  rw [nul_at] at e3
  have ih:=first_from hT hT2 ha n (j+1) (by omega)
  rw [show ((j+1:Nat):Int)+1=(j:Int)+2 by omega] at ih
  have hx:=ha j hj
  rw [walk_succ]
  have hst:=Ne.FirstW.step (l:=arcsC C m) (TL:=TL) (f:=List.replicate m 0) (x:=x) (t:=(m:Int)+1) (r:=2*j) (R:=walk (j+1) n) (by rw [e1];omega) (hT2 j hj) (by rw [e3];omega) (by rw [e2];exact ih) fun q hq hqf hxq hlt=>by
   obtain ⟨i,hi,rfl⟩:=hT _ hq
   rw [(even (C:=C) (g:=List.replicate m 0) hi).1,e1] at hqf
   omega
  rwa [e1] at hst
theorem push_from {v:Int} (ha:∀ i,i<m→v≤C i):∀ (n j:Nat),j+n=m→Ne.pushN (arcsC C m) (partL m v j) v (Ne.encW (walk j n))=some (partL m v m)
 | 0,j,h=>by
  obtain rfl:j=m:=by omega
  rfl
 | n+1,j,h=>by
  have hj:j<m:=by omega
  obtain ⟨e1,e2,e3⟩:=even (C:=C) (g:=partL m v j) hj
  rw [part_at hj,if_neg (by omega)] at e3
  have hx:=ha j hj
  rw [walk_succ,Ne.pushN_cons,e3,if_neg (by omega)]
  have e:Ne.put1 (partL m v j) v (2*j)=partL m v (j+1):=by
   refine List.ext_getElem? fun i=>?_
   have hl1:(Ne.put1 (partL m v j) v (2*j)).length=m:=by rw [Ne.put1_len,part_len]
   by_cases hi:i<m
   ·have e4:=Ne.at_amt (f:=Ne.put1 (partL m v j) v (2*j)) (i:=i) (by rw [hl1];exact hi)
    have e5:=Ne.at_amt (f:=partL m v (j+1)) (i:=i) (by rw [part_len];exact hi)
    rw [Ne.put1_at (by rw [part_len];omega),part_at hi] at e4
    rw [part_at hi] at e5
    rw [e4,e5]
    congr 1
    by_cases hij:i=j
    ·subst hij
     rw [if_pos (by omega),if_neg (by omega),if_neg (by omega),if_pos (by omega)];omega
    ·rw [if_neg (by omega)]
     by_cases h2:i<j
     ·rw [if_pos h2,if_pos (by omega)]
     ·rw [if_neg h2,if_neg (by omega)]
   ·rw [List.getElem?_eq_none (by omega),List.getElem?_eq_none (by rw [part_len];omega)]
  rw [e]
  exact push_from ha n (j+1) (by omega)
theorem blk_one (hC:∀ i,0≤C i∧C i≤1000000) (hx:1≤x) (hm:1≤m) (hc:x≤minC C m) {L:List Int} (hL:Ne.IsLev ⟨(m:Int)+1,1,(m:Int)+1,arcsC C m⟩ (List.replicate m 0) x L) :
  Ne.IsBlk (arcsC C m) (Ne.leadL (arcsC C m) (List.replicate m 0) x L (2*m)) (List.replicate m 0) x 1 ((m:Int)+1) [(walk 0 m,minC C m)] (List.replicate m (minC C m)):=by
 have hmin:=min_le C m
 have ha:∀ i,i<m→x≤C i:=fun i hi=>by have:=hmin i hi;omega
 obtain ⟨i0,hi0,e0⟩:=min_is C hC m hm
 have hT0:∀ r∈Ne.leadL (arcsC C m) (List.replicate m 0) x L (2*m),r<2*m:=fun r hr=>(Ne.leadL_mem.1 hr).1
 refine ⟨.cons (g:=List.replicate m (minC C m)) ?_ ⟨fun r hr=>?_,⟨2*i0,walk_has (by omega) (by omega),?_⟩⟩ ?_ (.nil _),fun R hW=>?_⟩
 ·have:=first_from (C:=C) (x:=x) (m:=m) (TL:=Ne.leadL (arcsC C m) (List.replicate m 0) x L (2*m)) (fun r hr=>by
   obtain ⟨h1,h2,_⟩:=Ne.leadL_mem.1 hr
   obtain ⟨i,hi,e,_⟩:=track h1 hx h2
   exact ⟨i,hi,e⟩) (fun j hj=>lead_at hx ha hL hj) ha m 0 (by omega)
  simpa using this
 ·obtain ⟨i,_,hi,rfl⟩:=walk_mem hr
  rw [(even (show i<m by omega)).2.2,nul_at]
  have:=hmin i (by omega)
  omega
 ·rw [(even hi0).2.2,nul_at,e0];omega
 ·have:=push_from (C:=C) (v:=minC C m) hmin m 0 (by omega)
  rwa [part_zero,part_full] at this
 ·have:=no_walk hT0 hi0 (by rw [(even hi0).2.2,rep_at _ hi0,← e0];omega) R 1 hW (by omega)
  omega
theorem net_right (hC:∀ i,0≤C i∧C i≤1000000) (hm:1≤m) (hm2:m≤60):Ne.Right ⟨(m:Int)+1,1,(m:Int)+1,arcsC C m⟩:=Ne.right_of (check hC hm hm2)
theorem stop {g:List Int} (hC:∀ i,0≤C i∧C i≤1000000) (hm:1≤m) (hm2:m≤60) {i0:Nat} (hi:i0<m) (h0:Ne.roomN (arcsC C m) g (2*i0)<x):Ne.Phs ⟨(m:Int)+1,1,(m:Int)+1,arcsC C m⟩ x g g 0 0:=by
 obtain ⟨L,hL⟩:=Ne.lev_exists (net_right hC hm hm2) g x
 exact .done hL (by have:=lev_cut hi h0 hL;simp only;rwa [show ((m:Int)+1).toNat=m+1 by omega])
theorem phs_low (hC:∀ i,0≤C i∧C i≤1000000) (hm:1≤m) (hm2:m≤60) (hc:minC C m<x):Ne.Phs ⟨(m:Int)+1,1,(m:Int)+1,arcsC C m⟩ x (List.replicate m 0) (List.replicate m 0) 0 0:=by
 obtain ⟨i0,hi0,e0⟩:=min_is C hC m hm
 exact stop hC hm hm2 hi0 (by rw [(even hi0).2.2,nul_at];omega)
theorem phs_full (hC:∀ i,0≤C i∧C i≤1000000) (hm:1≤m) (hm2:m≤60) (hx:1≤x):Ne.Phs ⟨(m:Int)+1,1,(m:Int)+1,arcsC C m⟩ x (List.replicate m (minC C m)) (List.replicate m (minC C m)) 0 0:=by
 obtain ⟨i0,hi0,e0⟩:=min_is C hC m hm
 exact stop hC hm hm2 hi0 (by rw [(even hi0).2.2,rep_at _ hi0];omega)
theorem phs_led (hC:∀ i,0≤C i∧C i≤1000000) (hm:1≤m) (hm2:m≤60) (hx:1≤x) (hc:x≤minC C m):Ne.Phs ⟨(m:Int)+1,1,(m:Int)+1,arcsC C m⟩ x (List.replicate m 0) (List.replicate m (minC C m)) 1 1:=by
 have hR:=net_right hC hm hm2
 obtain ⟨L,hL⟩:=Ne.lev_exists hR (List.replicate m 0) x
 have hB:=blk_one hC hx hm hc hL
 have hB':Ne.IsBlk (arcsC C m) (Ne.leadL (arcsC C m) (List.replicate m 0) x L (2*(arcsC C m).length)) (List.replicate m 0) x 1 ((m:Int)+1) [(walk 0 m,minC C m)] (List.replicate m (minC C m)):=by rw [arcs_len];exact hB
 exact .step (n:=⟨(m:Int)+1,1,(m:Int)+1,arcsC C m⟩) (W:=[(walk 0 m,minC C m)]) hL ((Ne.blk_some hR hL hB').1 (by simp)) hB' (phs_full hC hm hm2 hx)
theorem flow_rep (hC:∀ i,0≤C i∧C i≤1000000) (hm:1≤m) (hm2:m≤60):Ne.Flow ⟨(m:Int)+1,1,(m:Int)+1,arcsC C m⟩ (List.replicate m 0)∧Ne.Flow ⟨(m:Int)+1,1,(m:Int)+1,arcsC C m⟩ (List.replicate m (minC C m))∧Ne.exc (arcsC C m) (List.replicate m (minC C m)) ((m:Int)+1)=minC C m∧Ne.exc (arcsC C m) (List.replicate m 0) ((m:Int)+1)=0:=by
 have hR:=net_right hC hm hm2
 have h0:Ne.Flow ⟨(m:Int)+1,1,(m:Int)+1,arcsC C m⟩ (List.replicate m 0):=by
  have:=Ne.flow_nought hR
  simpa only [arcs_len] using this
 have hz:Ne.exc (arcsC C m) (List.replicate m 0) ((m:Int)+1)=0:=Ne.exc_zero (fun i=>Ne.amt_nought _ i) _
 have hb:=min_bd C hC m
 refine ⟨h0,?_,?_,hz⟩
 ·by_cases c:1≤minC C m
  ·exact Ne.phs_flow hR (Int.le_refl 1) (phs_led hC hm hm2 (Int.le_refl 1) c) h0
  ·rwa [show minC C m=0 by omega]
 ·by_cases c:1≤minC C m
  ·obtain ⟨L,hL⟩:=Ne.lev_exists hR (List.replicate m 0) (minC C m)
   have hB:=blk_one hC c hm (Int.le_refl _) hL
   have:=(Ne.blkW_flow hR (Ne.lds_of (arcsC C m) (List.replicate m 0) (minC C m) L) c h0 (by rw [arcs_len];exact hB.1)).2
   simp only at this
   rw [this,hz];simp
  ·rw [show minC C m=0 by omega];exact hz
def chT (M:Int):Nat→Bool→List Ne.Tn
 | 0,_=>[]
 | k+1,true=>⟨Ne.fstR (k+1),0,0,M⟩ :: chT M k true
 | k+1,false=>if M<Ne.fstR (k+1) then ⟨Ne.fstR (k+1),0,0,0⟩ :: chT M k false else ⟨Ne.fstR (k+1),1,1,M⟩ :: chT M k true
theorem sqs_chn (hC:∀ i,0≤C i∧C i≤1000000) (hm:1≤m) (hm2:m≤60):∀ (K:Nat),
  Ne.Sqs ⟨(m:Int)+1,1,(m:Int)+1,arcsC C m⟩ (Ne.rms K) (List.replicate m (minC C m)) (List.replicate m (minC C m)) (chT (minC C m) K true) ∧
  (minC C m<Ne.fstR (K+1)→Ne.Sqs ⟨(m:Int)+1,1,(m:Int)+1,arcsC C m⟩ (Ne.rms K) (List.replicate m 0) (List.replicate m (minC C m)) (chT (minC C m) K false))
 | 0=>⟨.nil _,fun h=>by
  have:=min_bd C hC m
  have e:Ne.fstR (0+1)=1:=rfl
  rw [show minC C m=0 by omega];exact .nil _⟩
 | K+1=>by
  obtain ⟨ih1,ih2⟩:=sqs_chn hC hm hm2 K
  obtain ⟨_,_,e1,e0⟩:=flow_rep hC hm hm2
  have hx:=Ne.fst_pos K
  refine ⟨?_,fun h=>?_⟩
  ·have:=Ne.Sqs.cons (phs_full hC hm hm2 hx) ih1
   simp only [e1] at this
   exact this
  ·unfold chT
   by_cases c:minC C m<Ne.fstR (K+1)
   ·rw [if_pos c]
    have:=Ne.Sqs.cons (phs_low hC hm hm2 c) (ih2 c)
    simp only [e0] at this
    exact this
   ·rw [if_neg c]
    have:=Ne.Sqs.cons (phs_led hC hm hm2 hx (by omega)) ih1
    simp only [e1] at this
    exact this
theorem chT_led (M:Int):∀ {K i:Nat},i<K→Ne.tnAt (chT M K true) i=⟨Ne.fstR (K-i),0,0,M⟩
 | 0,i,h=>absurd h (by omega)
 | K+1,0,_=>rfl
 | K+1,i+1,h=>by
  rw [show K+1-(i+1)=K-i by omega]
  exact chT_led M (K:=K) (i:=i) (by omega)
theorem chT_at (M:Int):∀ {K i:Nat},i<K→M<Ne.fstR (K+1)→Ne.tnAt (chT M K false) i=⟨Ne.fstR (K-i),if Ne.fstR (K-i)≤M∧M<2*Ne.fstR (K-i) then 1 else 0,if Ne.fstR (K-i)≤M∧M<2*Ne.fstR (K-i) then 1 else 0,if Ne.fstR (K-i)≤M then M else 0⟩
 | 0,i,h,_=>absurd h (by omega)
 | K+1,i,h,hM=>by
  rw [Ne.fst_succ] at hM
  unfold chT
  by_cases c:M<Ne.fstR (K+1)
  ·rw [if_pos c]
   rcases i with _ | i
   ·show (⟨_,_,_,_⟩:Ne.Tn)=_
    rw [show K+1-0=K+1 by omega,if_neg (by omega),if_neg (by omega)]
   ·rw [show K+1-(i+1)=K-i by omega]
    exact chT_at M (K:=K) (i:=i) (by omega) c
  ·rw [if_neg c]
   rcases i with _ | i
   ·show (⟨_,_,_,_⟩:Ne.Tn)=_
    rw [show K+1-0=K+1 by omega,if_pos (by omega),if_pos (by omega)]
   ·rw [show K+1-(i+1)=K-i by omega]
    have h1:=Ne.fst_mono (j:=K-i+1) (k:=K+1) (by omega)
    have h2:=Ne.fst_succ (K-i-1)
    rw [show K-i-1+2=K-i+1 by omega,show K-i-1+1=K-i by omega] at h2
    have h3:=Ne.fst_pos (K-i-1)
    rw [show K-i-1+1=K-i by omega] at h3
    rw [if_neg (by omega),if_pos (by omega)]
    exact chT_led M (K:=K) (i:=i) (by omega)
end
end Ch
namespace Ne
end Ne
end Go.Proofs.YtoadkckceladgaaGreat
