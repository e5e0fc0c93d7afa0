/-
  Gre, Rlv
-/
import Derived.Test.YtmikbkggjlbbnaaGreatBz27
import Derived.Test.YtmikbkggjlbbnaaGreatBz41
import Derived.Test.YtmikbkggjlbbnaaGreatBz40
import Derived.Test.YtmikbkggjlbbnaaGreatBz25
import Derived.Test.YtmikbkggjlbbnaaGreatBz8
import Derived.Deep.LoopGhost
import Derived.Test.YtmikbkggjlbbnaaGreatBz4
namespace Go.Proofs.YtmikbkggjlbbnaaGreat
open Go.ChangeShapes Go.WideShapes Go.ChangeAt Go.RowKit
open Lib (hid)
set_option linter.unusedVariables false
set_option linter.unusedSimpArgs false
namespace Ne
set_option maxRecDepth 100000 in
set_option maxHeartbeats 4000000 in
theorem rreach_any (n:Net) (ao:Option Addr) (cap:Nat) (fo:Option Addr) (fc:Nat) (f:List Int) (x:Int) (w:World) (hr:ARow w ao n.l) (hf:IRow w fo f) (hl:n.l.length≤1000000) :
  Calls Tryz.prog 50 #[encN n ao cap,.slice fo f.length fc,.int .i64 x] w fun e w'=>∃ o c M,e=.returned (.tuple #[.slice o M.length c,.int .i64 (reE n f x)])∧ReachAns n f x w' o M∧Below w.heap.size w w':=by
 have RC:=hid (fun w' (h1:ARow w' ao n.l) (h2:IRow w' fo f)=>rroom_any n ao cap fo fc f w' h1 h2 hl)
 by_cases c0:chkF n f=0
 case neg =>
  have HE:=hid (show reE n f x=chkF n f by unfold reE;rw [if_pos c0])
  have HNZ:=hid (show reE n f x≠0 by rw [HE.out];exact c0)
  have HAN:=hid (show ∀ w',ReachAns n f x w' none [] from fun w'=>⟨fun _=>rfl,fun h=>absurd h HNZ.out⟩)
  generalize hRE:reE n f x=RE at *
  generalize hRA:ReachAns n f x=RA at *
  clear hRE hRA
  generalize roomV n f=RV at *
  generalize chkF n f=c at *
  generalize f.length=fl at *
  obtain ⟨nn,ns,nt,l⟩:=n
  simp only at hr RC ⊢
  have HB0:=hid ((Below.refl w.heap.size w).alloc (Nat.le_refl _) (.cells #[.int .i64 nn,.int .i64 ns,.int .i64 nt,.slice ao l.length cap] 24))
  have c1':(c == 0)=false:=by simpa using c0
  have c1n:(c != 0)=true:=by simpa using c0
  have HR:=hid (hr.kept HB0.out)
  have HF:=hid (hf.kept HB0.out)
  clear hr hf c0
  go_enter Tryz.func50,Tryz.ntmps50
  go_wp2_with fail
  refine (RC.out _ HR.out HF.out).mono ?_
  rintro e w1 ⟨v,rfl,_,hb⟩
  have HB1:=hid (HB0.out.trans (hb.mono (by simp)))
  clear hb
  go_wp2
  go_ret2
  exact ⟨none,0,[],ret2w HE.out.symm,HAN.out _,HB1.out⟩
 rw [c0] at RC
 have HRV:=hid (show roomV n f=roomL n.l f (2*n.l.length) by unfold roomV;rw [if_neg (by simpa using c0)])
 rw [HRV.out] at RC
 obtain ⟨-,hR,hfl,hwi⟩:=chkA_ok (chkF_ok c0).1
 have HLO:=hid (show x<1→reE n f x=3 from fun h=>by unfold reE;rw [if_neg (by simpa using c0),if_pos h])
 have HOK:=hid (show 1≤x→reE n f x=0 from fun h=>by unfold reE;rw [if_neg (by simpa using c0),if_neg (by omega)])
 have HAB:=hid (show ∀ w',reE n f x≠0→ReachAns n f x w' none [] from fun w' h=>⟨fun _=>rfl,fun h2=>absurd h2 h⟩)
 have HAG:=hid (show ∀ w' b M,reE n f x=0→IsReach n f x M→BBox w' b M→ReachAns n f x w' (some ⟨b,0,none⟩) M from fun w' b M h h1 h2=>⟨fun h3=>absurd h h3,fun _=>⟨h1,b,rfl,h2⟩⟩)
 have hLL:=hR.len
 have hN0:=hR.n0
 have hN1:=hR.n1
 have hS0:=hR.s0
 have hS1:=hR.s1
 have HEN:=hid (fun (j:Nat) (h:j<2*n.l.length) w' h1=>show Calls Tryz.prog 51 #[encN n ao cap,.int .i64 (j:Int)] w' fun e w2=>e=.returned (.tuple #[.int .i64 (((trF n.l j).toNat:Nat):Int),.int .i64 (((trT n.l j).toNat:Nat):Int)])∧Below w'.heap.size w' w2 by
  have:=rends_any n ao cap (j:Int) w' h1 hl (by unfold in64;omega)
  rw [enF_in h,enT_in h] at this
  have hb:=trT_bd hR h
  have hb2:=trF_bd hR h
  rwa [show (((trT n.l j).toNat:Nat):Int)=trT n.l j by omega,show (((trF n.l j).toNat:Nat):Int)=trF n.l j by omega])
 have HTB:=hid (fun (j:Nat) (h:j<2*n.l.length)=>show (trF n.l j).toNat<n.n.toNat+1∧(trT n.l j).toNat<n.n.toNat+1 by have:=trT_bd hR h;have:=trF_bd hR h;omega)
 have HRA:=hid (fun i (h:i<2*n.l.length)=>roomL_at n.l f h)
 have HRN:=hid (roomL_len n.l f (2*n.l.length))
 have HF0:=hid (fix_start hR f x)
 have HFS:=hid (fun M (h:Fix n f x M) r (hr:r<2*n.l.length) h1 h2 h3=>fix_step hR h hr h1 h2 h3)
 have HFE:=hid (fun M (h:Fix n f x M) hc=>fix_end h hc)
 have HFN:=hid (fun M (h:Fix n f x M)=>h.len)
 generalize hFX:Fix n f x=FX at *
 generalize hIR:IsReach n f x=IR at *
 generalize hRE:reE n f x=RE at *
 generalize hRW:ReachAns n f x=RW at *
 generalize roomL n.l f (2*n.l.length)=RL at *
 generalize roomN n.l f=RO at *
 generalize hTT:(fun j=>(trT n.l j).toNat)=TT at *
 generalize hTF:(fun j=>(trF n.l j).toNat)=TF at *
 have HTE:=hid (show ∀ j,(trT n.l j).toNat=TT j from fun j=>by rw [← hTT])
 have HTG:=hid (show ∀ j,(trF n.l j).toNat=TF j from fun j=>by rw [← hTF])
 clear hTT hTF hFX hIR hRE hRW
 simp only [HTE.out,HTG.out] at HEN HTB HFS HFE
 clear HTE HTG hR hfl hwi c0 HRV
 generalize f.length=fl at *
 obtain ⟨nn,ns,nt,l⟩:=n
 simp only at hr hl RC hLL hN0 hN1 hS0 hS1 HEN HTB HRA HRN HF0 HFS HFE HFN ⊢
 obtain ⟨N,rfl⟩:∃ N:Nat,nn=(N:Int):=⟨nn.toNat,by omega⟩
 obtain ⟨S,rfl⟩:∃ S:Nat,ns=(S:Int):=⟨ns.toNat,by omega⟩
 simp only [Int.toNat_natCast] at HTB HF0 HFN ⊢
 have hmk:=make_b (N+1) (by omega)
 simp only [Int.natCast_add,Int.natCast_one] at hmk
 have HB0:=hid ((Below.refl w.heap.size w).alloc (Nat.le_refl _) (.cells #[.int .i64 (N:Int),.int .i64 (S:Int),.int .i64 nt,.slice ao l.length cap] 24))
 have HN0:=hid (netBox_new w (N:Int) (S:Int) nt (.slice ao l.length cap))
 have HR:=hid (hr.kept HB0.out)
 have HF:=hid (hf.kept HB0.out)
 clear hr hf
 go_enter Tryz.func50,Tryz.ntmps50
 go_wp2_with fail
 refine (RC.out _ HR.out HF.out).mono ?_
 rintro e w1 ⟨v,rfl,ho,hb⟩
 have HB1:=hid (HB0.out.trans (hb.mono (by simp)))
 have HN1:=hid (netBox_below HN0.out hb (by simp))
 have HR1:=hid (HR.out.kept hb)
 obtain ⟨ro,rc,hv,_,_,_,hri,_,_⟩:=Rw.own_row encI_len ho
 rw [HRN.out] at hv
 subst hv
 have HRI:=hid hri
 clear hb ho hri HB0 HN0 HR HF RC
 obtain ⟨n0,n1,n2,n3⟩:=netBox_cells HN1.out
 by_cases hx:x<1
 ·have HE:=hid (HLO.out hx)
  have HA:=hid (fun w'=>HAB.out w' (by rw [HE.out];decide))
  have hx':decide (x<1)=true:=by simpa using hx
  clear hx hmk
  go_wp2
  go_ret2
  exact ⟨none,0,[],ret2w HE.out.symm,HA.out _,HB1.out⟩
 have hx':decide (x<1)=false:=by simpa using hx
 have HE:=hid (HOK.out (by omega))
 clear hx HLO HOK
 have hsi:(S:Int)<(N:Int)+1:=by omega
 have hs0:(0:Int)≤(S:Int):=by omega
 have HM1:=hid (bbox_made w1 (N+1) (b:=w1.heap.size) rfl)
 have hm1:=HM1.out.cell (i:=S) (by simp;omega)
 have hf1:=HM1.out.frozen S
 have HN2:=hid (netBox_alloc HN1.out (.cells (madeCells #[.bool false] (N+1)) 4))
 obtain ⟨m0,m1,m2,m3⟩:=netBox_cells HN2.out
 have HM2:=hid (HM1.out.set (i:=S) (by simp;omega) true)
 have HB2:=hid ((((Below.refl w1.heap.size w1).alloc (Nat.le_refl _) (.cells (madeCells #[.bool false] (N+1)) 4))).setCell (p:=⟨w1.heap.size,S,none⟩) (Nat.le_refl _) (.bool true))
 have HSN:=hid (set_new w1 (madeCells #[.bool false] (N+1)) 4 S (.bool true))
 rw [HSN.out] at HM2 HB2
 go_wp2
 clear hm1 hf1 m0 m1 m2 m3 n0 n1 n2 n3 hmk HM1 HN2 HSN
 obtain ⟨bm,hbm⟩:∃ b,b=w1.heap.size:=⟨_,rfl⟩
 rw [← hbm] at HM2 HB2 ⊢
 have HBM:=hid hbm
 clear hbm
 generalize (w1.alloc (.cells ((madeCells #[.bool false] (N+1)).setIfInBounds S (.bool true)) 4))=W2 at *
 go_loopg [11] (2*unmet ((List.replicate (N+1) false).set S true)+1) (fun g s wr=>∃ (M:List Bool) (mo:Bool),s=.bool mo∧g=2*unmet M+BOn mo∧Hid (FX M)∧Hid (BBox wr bm M)∧Hid (Below bm w1 wr)∧Hid (mo=false→∀ r,r<2*l.length→x≤RO r→M.getD (TF r) false=true→M.getD (TT r) false=true))
 case atStart=>exact ⟨_,true,rfl,rfl,HF0,HM2,HB2,hid (fun h=>by cases h)⟩
 case round =>
  obtain ⟨M,mo,rfl,hgk,HFX,HMW,HBW,HCL⟩:=hrel
  have HGK:=hid hgk
  clear hgk
  rcases mo with _ | _
  ·have HI:=hid (HFE.out M HFX.out (HCL.out rfl))
   have HLN:=hid (HFN.out M HFX.out)
   have HBE:=hid (HB1.out.trans (HBW.out.mono (by rw [HBM.out];exact HB1.out.size)))
   go_wp2
   go_ret2
   exact ⟨some ⟨bm,0,none⟩,N+1,M,by rw [HLN.out,HE.out];rfl,HAG.out _ bm M HE.out HI.out HMW.out,HBE.out⟩
  go_wp2
  go_loopg [11,12] (2*l.length) (fun g2 s i wy=>∃ (r:Nat) (M2:List Bool) (m2:Bool),s=.bool m2∧i=.int .i64 r∧r+g2=2*l.length∧Hid (FX M2)∧Hid (BBox wy bm M2)∧Hid (Below bm w1 wy)∧Hid (m2=false→∀ q,q<r→x≤RO q→M2.getD (TF q) false=true→M2.getD (TT q) false=true)∧Hid (2*unmet M2+BOn m2<2*unmet M+1))
  case atStart=>exact ⟨0,M,false,rfl,rfl,by omega,HFX,HMW,HBW,hid (fun _ q hq=>absurd hq (by omega)),hid (by simp [BOn])⟩
  case round =>
   obtain ⟨r,M2,m2,rfl,rfl,hrg,HFX2,HM2,HBY,HC2,HUN⟩:=hrel
   by_cases hlt:r<2*l.length
   ·have hri:(r:Int)<2*(l.length:Int):=by omega
    have hr0:(0:Int)≤(r:Int):=by omega
    have HN3:=hid (netBox_below HN1.out HBY.out (by rw [HBM.out];exact netBox_lt HN1.out))
    obtain ⟨n0,n1,n2,n3⟩:=netBox_cells HN3.out
    have EN:=hid (fun w'=>HEN.out r hlt w')
    obtain ⟨hta,htb⟩:=HTB.out r hlt
    have HRr:=hid (HRA.out r hlt)
    have HST:=hid (HFS.out M2 HFX2.out r hlt)
    have HC3:=hid (show (x≤RO r→M2.getD (TF r) false=true→M2.getD (TT r) false=true)→m2=false→∀ q,q<r+1→x≤RO q→M2.getD (TF q) false=true→M2.getD (TT q) false=true from fun h hm q hq=>by
     by_cases e:q=r
     ·subst e;exact h
     ·exact HC2.out hm q (by omega))
    have HLN:=hid (HFN.out M2 HFX2.out)
    generalize TF r=a at *
    generalize TT r=b at *
    have hai:(a:Int)<(N:Int)+1:=by omega
    have ha0:(0:Int)≤(a:Int):=by omega
    have hbi:(b:Int)<(N:Int)+1:=by omega
    have hb0:(0:Int)≤(b:Int):=by omega
    have hrl:r<RL.length:=by rw [HRN.out];exact hlt
    go_wp2_with fail
    refine (EN.out _ (HR1.out.kept (by have:=HBY.out;rwa [HBM.out] at this))).mono ?_
    rintro e w3 ⟨rfl,hb⟩
    have HB3:=hid (HBY.out.trans (hb.mono (by have:=HBY.out.size;have:=HM2.out.lt;omega)))
    have HM3:=hid (HM2.out.kept hb)
    have HI3:=hid (HRI.out.kept (by have:=HB3.out;rwa [HBM.out] at this))
    obtain ⟨b5,o5,rfl,_,d0⟩:=irow_cell HI3.out hrl
    rw [HRr.out] at d0
    generalize RO r=rr at *
    have ma:=HM3.out.cell (i:=a) (by rw [HLN.out];exact hta)
    have mb:=HM3.out.cell (i:=b) (by rw [HLN.out];exact htb)
    have mf:=HM3.out.frozen b
    clear hb n0 n1 n2 n3
    by_cases p1:x≤rr
    ·have p1':decide (x≤rr)=true:=by simpa using p1
     rcases hA:M2.getD a false with _ | _
     ·rw [hA] at ma
      have HC:=hid (HC3.out (fun _ h=>by rw [hA] at h;cases h))
      clear hA p1
      go_wp2
      go_roundg (2*l.length-(r+1))
      case measure=>omega
      case rel=>exact ⟨r+1,M2,m2,rfl,by go_num,by omega,HFX2,HM3,HB3,HC,HUN⟩
     ·rw [hA] at ma
      rcases hB:M2.getD b false with _ | _
      ·rw [hB] at mb
       obtain ⟨k1,k2⟩:=HST.out p1 hA hB
       have K1:=hid k1
       have K2:=hid k2
       have HM4:=hid (HM3.out.set (i:=b) (by rw [HLN.out];exact htb) true)
       have HB4:=hid (HB3.out.setCell (p:=⟨bm,b,none⟩) (Nat.le_refl _) (.bool true))
       have HU4:=hid (show 2*unmet (M2.set b true)+BOn true<2*unmet M+1 by have:=K2.out;have:=HUN.out;unfold BOn at *;simp only [if_true];split at this <;> omega)
       clear k1 k2 hA hB p1
       go_wp2
       go_roundg (2*l.length-(r+1))
       case measure=>omega
       case rel=>exact ⟨r+1,M2.set b true,true,rfl,by go_num,by omega,K1,HM4,HB4,hid (fun h=>by cases h),HU4⟩
      ·rw [hB] at mb
       have HC:=hid (HC3.out (fun _ _=>hB))
       clear hA hB p1
       go_wp2
       go_roundg (2*l.length-(r+1))
       case measure=>omega
       case rel=>exact ⟨r+1,M2,m2,rfl,by go_num,by omega,HFX2,HM3,HB3,HC,HUN⟩
    ·have p1':decide (x≤rr)=false:=by simpa using p1
     have HC:=hid (HC3.out (fun h=>absurd h p1))
     clear p1
     go_wp2
     go_roundg (2*l.length-(r+1))
     case measure=>omega
     case rel=>exact ⟨r+1,M2,m2,rfl,by go_num,by omega,HFX2,HM3,HB3,HC,HUN⟩
   ·have er:r=2*l.length:=by omega
    subst er
    have HBM2:=hid (HM2.out)
    have hlt2:¬ (2*(l.length:Int)<2*(l.length:Int)):=by omega
    go_wp2
    go_roundg (2*unmet M2+BOn m2)
    case measure=>have:=HGK.out;have:=HUN.out;simp only [BOn,if_true] at *;omega
    case rel=>exact ⟨M2,m2,rfl,rfl,HFX2,HM2,HBY,hid (fun h q hq=>HC2.out h q hq)⟩
end Ne
namespace Ne
structure LvDoc (N S T2:Nat) (x:Int) (RO:Nat→Int) (TF TT:Nat→Nat) (LK:Nat→List Int→Prop) (LR:Nat→Nat→List Int→Prop) (L0:List Int):Prop where
 start:LK 0 ((List.replicate (N+1) (-1)).set S 0)
 all:∀ L,LK N L→L=L0
 beg:∀ k L,LK k L→LR k 0 L
 put:∀ k r L,LR k r L→r<T2→x≤RO r→amt L (TF r)=(k:Int)→amt L (TT r)<0→LR k (r+1) (L.set (TT r) ((k:Int)+1))
 skip:∀ k r L,LR k r L→(x≤RO r→amt L (TF r)=(k:Int)→0≤amt L (TT r))→LR k (r+1) L
 nx:∀ k L,LR k T2 L→LK (k+1) L
 len:∀ k r L,LR k r L→L.length=N+1
 bd:∀ r,r<T2→TF r<N+1∧TT r<N+1
theorem lv_doc {n:Net} (hR:Right n) (f:List Int) (x:Int) {L0:List Int} (h0:IsLev n f x L0):LvDoc n.n.toNat n.s.toNat (2*n.l.length) x (roomN n.l f) (fun r=>(trF n.l r).toNat) (fun r=>(trT n.l r).toNat) (LevK n f x) (LevR n f x) L0 :=
 ⟨levK_start hR f x,fun L h=>lev_one hR (levK_all hR h) h0,fun k L h=>levR_start h,fun k r L h hr hx h1 h2=>levR_put hR h hr hx h1 h2,fun k r L h h1=>levR_skip h h1,fun k L h=>levR_end hR h,fun k r L h=>levR_len h,fun r hr=>by
  have hb:=trF_bd hR hr;have hb2:=trT_bd hR hr
  omega⟩
set_option maxRecDepth 100000 in
set_option maxHeartbeats 4000000 in
theorem rlevels_any (n:Net) (ao:Option Addr) (cap:Nat) (fo:Option Addr) (fc:Nat) (f:List Int) (x:Int) (L0:List Int) (w:World) (hr:ARow w ao n.l) (hf:IRow w fo f) (hl:n.l.length≤1000000) (hL:reE n f x=0→IsLev n f x L0) :
  Calls Tryz.prog 38 #[encN n ao cap,.slice fo f.length fc,.int .i64 x] w fun e w'=>∃ o c,e=.returned (.tuple #[.slice o (lvV n f x L0).length c,.int .i64 (reE n f x)])∧IRow w' o (lvV n f x L0)∧Below w.heap.size w w':=by
 have RE:=hid (fun w' (h1:ARow w' ao n.l) (h2:IRow w' fo f)=>rreach_any n ao cap fo fc f x w' h1 h2 hl)
 have RM:=hid (fun w' (h1:ARow w' ao n.l) (h2:IRow w' fo f)=>rroom_s n ao cap fo fc f w' h1 h2 hl)
 by_cases c0:reE n f x=0
 case neg =>
  rw [(lvV_bad (L:=L0) c0).1]
  generalize hRA:ReachAns n f x=RA at *
  generalize reE n f x=E at *
  clear hRA RM hL
  generalize f.length=fl at *
  obtain ⟨nn,ns,nt,l⟩:=n
  simp only at hr RE ⊢
  have HB0:=hid ((Below.refl w.heap.size w).alloc (Nat.le_refl _) (.cells #[.int .i64 nn,.int .i64 ns,.int .i64 nt,.slice ao l.length cap] 24))
  have HR:=hid (hr.kept HB0.out)
  have HF:=hid (hf.kept HB0.out)
  have c1':(E == 0)=false:=by simpa using c0
  have c1n:(E != 0)=true:=by simpa using c0
  clear hr hf c0
  go_enter Tryz.func38,Tryz.ntmps38
  go_wp2_with fail
  refine (RE.out _ HR.out HF.out).mono ?_
  rintro e w1 ⟨o,c,M,rfl,_,hb⟩
  have HB1:=hid (HB0.out.trans (hb.mono (by simp)))
  clear hb
  go_wp2
  go_ret2
  exact ⟨none,0,rfl,.inl rfl,HB1.out⟩
 obtain ⟨hc0,hx1⟩:=reE_ok c0
 have hR:=right_of (chkA_ok (chkF_ok hc0).1).1
 rw [(lvV_ok (L:=L0) c0).1,c0]
 rw [c0] at RE
 rw [show roomV n f=roomL n.l f (2*n.l.length) by unfold roomV;rw [if_neg (by simpa using hc0)],roomL_len,hc0] at RM
 have TL:=hid (lv_doc hR f x (hL c0))
 have HLL:=hid (hL c0).len
 have hLL:=hR.len
 have hN0:=hR.n0
 have hN1:=hR.n1
 have hS0:=hR.s0
 have hS1:=hR.s1
 have HEN:=hid (fun (j:Nat) (h:j<2*n.l.length) w' h1=>show Calls Tryz.prog 51 #[encN n ao cap,.int .i64 (j:Int)] w' fun e w2=>e=.returned (.tuple #[.int .i64 (((trF n.l j).toNat:Nat):Int),.int .i64 (((trT n.l j).toNat:Nat):Int)])∧Below w'.heap.size w' w2 by
  have:=rends_any n ao cap (j:Int) w' h1 hl (by unfold in64;omega)
  rw [enF_in h,enT_in h] at this
  have hb:=trT_bd hR h
  have hb2:=trF_bd hR h
  rwa [show (((trT n.l j).toNat:Nat):Int)=trT n.l j by omega,show (((trF n.l j).toNat:Nat):Int)=trF n.l j by omega])
 have HRA:=hid (fun i (h:i<2*n.l.length)=>roomL_at n.l f h)
 have HRN:=hid (roomL_len n.l f (2*n.l.length))
 generalize hRW:ReachAns n f x=RW at *
 generalize hLK:LevK n f x=LK at *
 generalize hLR:LevR n f x=LR at *
 clear hRW hLK hLR c0 hc0 hx1 hL hR
 generalize roomL n.l f (2*n.l.length)=RL at *
 generalize roomN n.l f=RO at *
 generalize f.length=fl at *
 generalize hTT:(fun j=>(trT n.l j).toNat)=TT at *
 generalize hTF:(fun j=>(trF n.l j).toNat)=TF at *
 have HTE:=hid (show ∀ j,(trT n.l j).toNat=TT j from fun j=>by rw [← hTT])
 have HTG:=hid (show ∀ j,(trF n.l j).toNat=TF j from fun j=>by rw [← hTF])
 clear hTT hTF
 simp only [HTE.out,HTG.out] at HEN
 clear HTE HTG
 obtain ⟨nn,ns,nt,l⟩:=n
 simp only at hr hl RE RM hLL hN0 hN1 hS0 hS1 HEN HRA HRN TL HLL ⊢
 obtain ⟨N,rfl⟩:∃ N:Nat,nn=(N:Int):=⟨nn.toNat,by omega⟩
 obtain ⟨S,rfl⟩:∃ S:Nat,ns=(S:Int):=⟨ns.toNat,by omega⟩
 simp only [Int.toNat_natCast] at TL HLL ⊢
 have hmk:=make_i (N+1) (by omega)
 simp only [Int.natCast_add,Int.natCast_one] at hmk
 have HB0:=hid ((Below.refl w.heap.size w).alloc (Nat.le_refl _) (.cells #[.int .i64 (N:Int),.int .i64 (S:Int),.int .i64 nt,.slice ao l.length cap] 24))
 have HN0:=hid (netBox_new w (N:Int) (S:Int) nt (.slice ao l.length cap))
 have HR:=hid (hr.kept HB0.out)
 have HF:=hid (hf.kept HB0.out)
 clear hr hf
 go_enter Tryz.func38,Tryz.ntmps38
 go_wp2_with fail
 refine (RE.out _ HR.out HF.out).mono ?_
 rintro e w1 ⟨o1,c1,M1,rfl,_,hb⟩
 have HB1:=hid (HB0.out.trans (hb.mono (by simp)))
 have HN1:=hid (netBox_below HN0.out hb (by simp))
 have HR1:=hid (HR.out.kept hb)
 have HF1:=hid (HF.out.kept hb)
 obtain ⟨n0,n1,n2,n3⟩:=netBox_cells HN1.out
 clear hb HB0 HN0 HR HF RE
 go_wp2_with fail
 refine (RM.out _ HR1.out HF1.out).mono ?_
 rintro e w2 ⟨o2,c2,rfl,hi,hb⟩
 have HB2:=hid (HB1.out.trans (hb.mono HB1.out.size))
 have HN2:=hid (netBox_below HN1.out hb (netBox_lt HN1.out))
 have HR2:=hid (HR1.out.kept hb)
 have HRI:=hid hi
 clear hb hi n0 n1 n2 n3 HB1 HN1 HR1 HF1 RM
 obtain ⟨n0,n1,n2,n3⟩:=netBox_cells HN2.out
 have HM0:=hid (ibox_made w2 (N+1) (b:=w2.heap.size) rfl)
 have HBM:=hid ((Below.refl w2.heap.size w2).alloc (Nat.le_refl _) (.cells (madeCells #[.int .i64 0] (N+1)) 3))
 go_wp2
 clear n0 n1 n2 n3 hmk
 generalize (w2.alloc (.cells (madeCells #[.int .i64 0] (N+1)) 3))=W3 at *
 obtain ⟨bm,hbm⟩:∃ b,b=w2.heap.size:=⟨_,rfl⟩
 rw [← hbm] at HM0 HBM ⊢
 have HBE:=hid hbm
 clear hbm
 go_loopw [13] (fun i wr=>∃ j:Nat,i=.int .i64 j∧j≤N+1∧Hid (IBox wr bm (repL (N+1) j (-1)))∧Hid (Below bm w2 wr)) (fun i _=>N+1-(intOf i).toNat)
 case atStart=>exact ⟨0,rfl,Nat.zero_le _,hid (by rw [repL_zero];exact HM0.out),HBM⟩
 case round =>
  obtain ⟨j,rfl,hj,HMW,HBW⟩:=hrel
  by_cases hlt:j<N+1
  ·have hji:(j:Int)<(N:Int)+1:=by omega
   have hj0:(0:Int)≤(j:Int):=by omega
   have hc:=HMW.out.cell (i:=j) (by rw [repL_len _ hj];exact hlt)
   have hfz:=HMW.out.frozen j
   have HM4:=hid (show IBox (wr.setCell ⟨bm,j,none⟩ (.int .i64 (-1))) bm (repL (N+1) (j+1) (-1)) by rw [← repL_set _ hlt];exact HMW.out.set (by rw [repL_len _ hj];exact hlt) (-1))
   have HB4:=hid (HBW.out.setCell (p:=⟨bm,j,none⟩) (Nat.le_refl _) (.int .i64 (-1)))
   go_wp2
   go_roundw
   case rel=>exact ⟨j+1,by go_num,by omega,HM4,HB4⟩
   case measure=>simp [intOf];omega
  ·have ej:j=N+1:=by omega
   subst ej
   clear hlt hj
   have HN5:=hid (netBox_below HN2.out HBW.out (by rw [HBE.out];exact netBox_lt HN2.out))
   obtain ⟨n0,n1,n2,n3⟩:=netBox_cells HN5.out
   have hsi:(S:Int)<(N:Int)+1:=by omega
   have hs0:(0:Int)≤(S:Int):=by omega
   have hxi:¬ (((N+1:Nat):Int)<(N:Int)+1):=by omega
   have HMA:=hid (show IBox wr bm (List.replicate (N+1) (-1)) by rw [← repL_all];exact HMW.out)
   have hc:=HMA.out.cell (i:=S) (by simp;omega)
   have hfz:=HMA.out.frozen S
   have HM6:=hid (HMA.out.set (i:=S) (by simp;omega) 0)
   have HB6:=hid (HBW.out.setCell (p:=⟨bm,S,none⟩) (Nat.le_refl _) (.int .i64 0))
   have HN6:=hid (netBox_other HN5.out (b2:=bm) (o:=S) (v2:=.int .i64 0) (by have:=netBox_lt HN2.out;have:=HBE.out;omega))
   clear HM0 HBM
   go_wp2
   clear n0 n1 n2 n3 hc hfz
   generalize (wr.setCell ⟨bm,S,none⟩ (.int .i64 0))=W6 at *
   go_loopg [14] N (fun gg i wx=>∃ (k:Nat) (L:List Int),i=.int .i64 k∧k+gg=N∧Hid (LK k L)∧Hid (L.length=N+1)∧Hid (IBox wx bm L)∧Hid (Below bm w2 wx))
   case atStart=>exact ⟨0,_,rfl,by omega,hid TL.out.start,hid (by simp),HM6,HB6⟩
   case round =>
    obtain ⟨k,L,rfl,hkg,HK,HLN,HMX,HBX⟩:=hrel
    have HN7:=hid (netBox_below HN2.out HBX.out (by rw [HBE.out];exact netBox_lt HN2.out))
    obtain ⟨n0,n1,n2,n3⟩:=netBox_cells HN7.out
    by_cases hlk:k<N
    ·have hki:(k:Int)<(N:Int):=by omega
     have hk0:(0:Int)≤(k:Int):=by omega
     go_wp2
     clear n0 n1 n2 n3
     go_loopg [15] (2*l.length) (fun g2 i wy=>∃ (r:Nat) (L2:List Int),i=.int .i64 r∧r+g2=2*l.length∧Hid (LR k r L2)∧Hid (IBox wy bm L2)∧Hid (Below bm w2 wy))
     case atStart=>exact ⟨0,L,rfl,by omega,hid (TL.out.beg k L HK.out),HMX,HBX⟩
     case round =>
      obtain ⟨r,L2,rfl,hrg,HLR,HMY,HBY⟩:=hrel
      by_cases hlr:r<2*l.length
      ·have hri:(r:Int)<2*(l.length:Int):=by omega
       have hr0:(0:Int)≤(r:Int):=by omega
       have HN8:=hid (netBox_below HN2.out HBY.out (by rw [HBE.out];exact netBox_lt HN2.out))
       obtain ⟨n0,n1,n2,n3⟩:=netBox_cells HN8.out
       have EN:=hid (fun w'=>HEN.out r hlr w')
       obtain ⟨hta,htb⟩:=TL.out.bd r hlr
       have HRr:=hid (HRA.out r hlr)
       have HPUT:=hid (TL.out.put k r L2 HLR.out hlr)
       have HSK:=hid (TL.out.skip k r L2 HLR.out)
       have HL2:=hid (TL.out.len k r L2 HLR.out)
       generalize TF r=a at *
       generalize TT r=b at *
       have hai:(a:Int)<(N:Int)+1:=by omega
       have ha0:(0:Int)≤(a:Int):=by omega
       have hbi:(b:Int)<(N:Int)+1:=by omega
       have hb0:(0:Int)≤(b:Int):=by omega
       have hrl:r<RL.length:=by rw [HRN.out];exact hlr
       go_wp2_with fail
       refine (EN.out _ (HR2.out.kept (by have:=HBY.out;rwa [HBE.out] at this))).mono ?_
       rintro e w3 ⟨rfl,hb⟩
       have HM3:=hid (HMY.out.kept hb)
       have HB3:=hid (HBY.out.trans (hb.mono (by have:=HBY.out.size;have:=HMY.out.lt;omega)))
       have HI3:=hid (HRI.out.kept (by have:=HB3.out;rwa [HBE.out] at this))
       obtain ⟨b5,o5,rfl,_,d0⟩:=irow_cell HI3.out hrl
       rw [HRr.out] at d0
       generalize RO r=rr at *
       have ma:=HM3.out.cell (i:=a) (by rw [HL2.out];exact hta)
       have mb:=HM3.out.cell (i:=b) (by rw [HL2.out];exact htb)
       have mf:=HM3.out.frozen b
       clear hb n0 n1 n2 n3
       have HM4:=hid (HM3.out.set (i:=b) (by rw [HL2.out];exact htb) ((k:Int)+1))
       have HB4:=hid (HB3.out.setCell (p:=⟨bm,b,none⟩) (Nat.le_refl _) (.int .i64 ((k:Int)+1)))
       have hkw:IntKind.i64.wrap ((k:Int)+1)=(k:Int)+1:=by rw [IntKind.wrap_i64];omega
       generalize hA:amt L2 a=A at *
       generalize hB:amt L2 b=B at *
       clear hA hB
       by_cases p1:x≤rr
       ·have p1':decide (x≤rr)=true:=by simpa using p1
        by_cases p2:A=(k:Int)
        ·have p2':(A == (k:Int))=true:=by simpa using p2
         by_cases p3:B<0
         ·have p3':decide (B<0)=true:=by simpa using p3
          have H1:=hid (HPUT.out p1 p2 p3)
          clear p1 p2 p3 HSK
          go_wp2
          go_roundg (2*l.length-(r+1))
          case measure=>omega
          case rel=>exact ⟨r+1,_,by go_num,by omega,H1,HM4,HB4⟩
         ·have p3':decide (B<0)=false:=by simpa using p3
          have H1:=hid (HSK.out (fun _ _=>by omega))
          clear p1 p2 p3 HPUT
          go_wp2
          go_roundg (2*l.length-(r+1))
          case measure=>omega
          case rel=>exact ⟨r+1,_,by go_num,by omega,H1,HM3,HB3⟩
        ·have p2':(A == (k:Int))=false:=by simpa using p2
         have H1:=hid (HSK.out (fun _ h=>absurd h p2))
         clear p1 p2 HPUT
         go_wp2
         go_roundg (2*l.length-(r+1))
         case measure=>omega
         case rel=>exact ⟨r+1,_,by go_num,by omega,H1,HM3,HB3⟩
       ·have p1':decide (x≤rr)=false:=by simpa using p1
        have H1:=hid (HSK.out (fun h=>absurd h p1))
        clear p1 HPUT
        go_wp2
        go_roundg (2*l.length-(r+1))
        case measure=>omega
        case rel=>exact ⟨r+1,_,by go_num,by omega,H1,HM3,HB3⟩
      ·have er:r=2*l.length:=by omega
       subst er
       have H1:=hid (TL.out.nx k L2 HLR.out)
       have H2:=hid (TL.out.len k _ L2 HLR.out)
       have hlt2:¬ (2*(l.length:Int)<2*(l.length:Int)):=by omega
       have hkw:IntKind.i64.wrap ((k:Int)+1)=(k:Int)+1:=by rw [IntKind.wrap_i64];omega
       go_wp2
       go_roundg (N-(k+1))
       case measure=>omega
       case rel=>exact ⟨k+1,L2,by go_num,by omega,H1,H2,HMY,HBY⟩
    ·have ek:k=N:=by omega
     subst ek
     have HLE:=hid (TL.out.all L HK.out)
     have HBF:=hid (HB2.out.trans (HBX.out.mono (by rw [HBE.out];exact HB2.out.size)))
     clear hlk
     go_wp2
     go_ret2
     exact ⟨some ⟨bm,0,none⟩,k+1,by rw [HLL.out];rfl,by rw [← HLE.out];exact HMX.out.irow,HBF.out⟩
end Ne
end Go.Proofs.YtmikbkggjlbbnaaGreat
