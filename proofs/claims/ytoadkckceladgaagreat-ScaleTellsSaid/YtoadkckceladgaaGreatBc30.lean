/-
  Rlv, Rld, Rb8, Rdp, Dnr
-/
import Derived.Test.YtoadkckceladgaaGreatBc29
import Derived.Test.YtoadkckceladgaaGreatBc28
import Derived.Test.YtoadkckceladgaaGreatBc3
import Derived.Test.YtoadkckceladgaaGreatBc6
import Derived.Test.YtoadkckceladgaaGreatBc4
import Derived.Deep.LoopGhost
import Derived.Deep.DeepCutAuto
import Derived.WalkMore
import Derived.Test.YtoadkckceladgaaGreatBc26
import Derived.Deep.CutBlock
import Derived.RegionTactic
import Derived.BigRegion
set_option linter.unusedVariables false
set_option linter.unusedSimpArgs false
set_option maxRecDepth 100000
set_option maxHeartbeats 4000000
namespace Go.Proofs.YtoadkckceladgaaGreat
open Go.ChangeShapes Go.WideShapes Go.ChangeAt Go.RowKit
open Lib (hid)
namespace Ne
structure LvDoc (N S T2:Nat) (x:Int) (RO:Nat→Int) (TF TT:Nat→Nat) (LK:Nat→List Int→Prop) (LR:Nat→Nat→List Int→Prop) (L0:List Int):Prop where
 start:LK 0 ((List.replicate (N+1) (-1)).set S 0)
 all:∀ L,LK N L→L=L0
 beg:∀ k L,LK k L→LR k 0 L
 put:∀ k r L,LR k r L→r<T2→x≤RO r→amt L (TF r)=(k:Int)→amt L (TT r)<0→LR k (r+1) (L.set (TT r) ((k:Int)+1))
 skip:∀ k r L,LR k r L→(x≤RO r→amt L (TF r)=(k:Int)→0≤amt L (TT r))→LR k (r+1) L
 nx:∀ k L,LR k T2 L→LK (k+1) L
 len:∀ k r L,LR k r L→L.length=N+1
 bd:∀ r,r<T2→TF r<N+1∧TT r<N+1
theorem lv_doc {n:Net} (hR:Right n) (f:List Int) (x:Int) {L0:List Int} (h0:IsLev n f x L0):LvDoc n.n.toNat n.s.toNat (2*n.l.length) x (roomN n.l f) (fun r=>(trF n.l r).toNat) (fun r=>(trT n.l r).toNat) (LevK n f x) (LevR n f x) L0 :=
 ⟨levK_start hR f x,fun L h=>lev_one hR (levK_all hR h) h0,fun k L h=>levR_start h,fun k r L h hr hx h1 h2=>levR_put hR h hr hx h1 h2,fun k r L h h1=>levR_skip h h1,fun k L h=>levR_end hR h,fun k r L h=>levR_len h,fun r hr=>by
  have hb:=tFb hR hr;have hb2:=tTb hR hr
  omega⟩
theorem rlevels_any (n:Net) (ao:Option Addr) (cap:Nat) (fo:Option Addr) (fc:Nat) (f:List Int) (x:Int) (L0:List Int) (w:World) (hr:ARow w ao n.l) (hf:IRow w fo f) (hl:n.l.length≤1000000) (hL:reE n f x=0→IsLev n f x L0) :
  Calls Tryz.prog 42 #[encN n ao cap,.slice fo f.length fc,.int .i64 x] w fun e w'=>∃ o c,e=.returned (.tuple #[.slice o (lvV n f x L0).length c,.int .i64 (reE n f x)])∧IRow w' o (lvV n f x L0)∧Below w.heap.size w w':=by
 have RE:=hid (fun w' (h1:ARow w' ao n.l) (h2:IRow w' fo f)=>rreach_any n ao cap fo fc f x w' h1 h2 hl)
 have RM:=hid (fun w' (h1:ARow w' ao n.l) (h2:IRow w' fo f)=>rroom_s n ao cap fo fc f w' h1 h2 hl)
 by_cases c0:reE n f x=0
 case neg =>
  rw [(lvV_bad (L:=L0) c0).1]
  generalize hRA:ReachAns n f x=RA at *
  generalize reE n f x=E at *
  clear hRA RM hL
  generalize f.length=fl at *
  obtain ⟨nn,ns,nt,l⟩:=n
  simp only at hr RE ⊢
  have HB0:=hid ((Below.refl w.heap.size w).alloc (Nat.le_refl _) (.cells #[.int .i64 nn,.int .i64 ns,.int .i64 nt,.slice ao l.length cap] 24))
  have HR:=hid (hr.kept HB0.out)
  have HF:=hid (hf.kept HB0.out)
  have c1':(E == 0)=false:=by simpa using c0
  have c1n:(E != 0)=true:=by simpa using c0
  clear hr hf c0
  go_enter Tryz.func42,Tryz.ntmps42
  go_wp2_with fail
  refine (RE.out _ HR.out HF.out).mono ?_
  rintro e w1 ⟨o,c,M,rfl,_,hb⟩
  have HB1:=hid (HB0.out.trans (hb.mono (by simp)))
  clear hb
  go_wp2
  go_ret2
  exact ⟨none,0,rfl,.inl rfl,HB1.out⟩
 obtain ⟨hc0,hx1⟩:=reE_ok c0
 have hR:=rgO (chkA_ok (chkF_ok hc0).1).1
 rw [(lvV_ok (L:=L0) c0).1,c0]
 rw [c0] at RE
 rw [show roomV n f=roomL n.l f (2*n.l.length) by unfold roomV;rw [if_neg (by simpa using hc0)],rLl,hc0] at RM
 have TL:=hid (lv_doc hR f x (hL c0))
 have HLL:=hid (hL c0).len
 have hLL:=hR.len
 have hN0:=hR.n0
 have hN1:=hR.n1
 have hS0:=hR.s0
 have hS1:=hR.s1
 have HEN:=hid (fun (j:Nat) (h:j<2*n.l.length) w' h1=>show Calls Tryz.prog 52 #[encN n ao cap,.int .i64 (j:Int)] w' fun e w2=>e=.returned (.tuple #[.int .i64 (((trF n.l j).toNat:Nat):Int),.int .i64 (((trT n.l j).toNat:Nat):Int)])∧Below w'.heap.size w' w2 by
  have:=rends_any n ao cap (j:Int) w' h1 hl (by unfold in64;omega)
  rw [enF_in h,enT_in h] at this
  have hb:=tTb hR h
  have hb2:=tFb hR h
  rwa [show (((trT n.l j).toNat:Nat):Int)=trT n.l j by omega,show (((trF n.l j).toNat:Nat):Int)=trF n.l j by omega])
 have HRA:=hid (fun i (h:i<2*n.l.length)=>roomL_at n.l f h)
 have HRN:=hid (rLl n.l f (2*n.l.length))
 generalize hRW:ReachAns n f x=RW at *
 generalize hLK:LevK n f x=LK at *
 generalize hLR:LevR n f x=LR at *
 clear hRW hLK hLR c0 hc0 hx1 hL hR
 generalize roomL n.l f (2*n.l.length)=RL at *
 generalize roomN n.l f=RO at *
 generalize f.length=fl at *
 generalize hTT:(fun j=>(trT n.l j).toNat)=TT at *
 generalize hTF:(fun j=>(trF n.l j).toNat)=TF at *
 have HTE:=hid (show ∀ j,(trT n.l j).toNat=TT j from fun j=>by rw [← hTT])
 have HTG:=hid (show ∀ j,(trF n.l j).toNat=TF j from fun j=>by rw [← hTF])
 clear hTT hTF
 simp only [HTE.out,HTG.out] at HEN
 clear HTE HTG
 obtain ⟨nn,ns,nt,l⟩:=n
 simp only at hr hl RE RM hLL hN0 hN1 hS0 hS1 HEN HRA HRN TL HLL ⊢
 obtain ⟨N,rfl⟩:∃ N:Nat,nn=(N:Int):=⟨nn.toNat,by omega⟩
 obtain ⟨S,rfl⟩:∃ S:Nat,ns=(S:Int):=⟨ns.toNat,by omega⟩
 simp only [Int.toNat_natCast] at TL HLL ⊢
 have hmk:=make_i (N+1) (by omega)
 simp only [Int.natCast_add,Int.natCast_one] at hmk
 have HB0:=hid ((Below.refl w.heap.size w).alloc (Nat.le_refl _) (.cells #[.int .i64 (N:Int),.int .i64 (S:Int),.int .i64 nt,.slice ao l.length cap] 24))
 have HN0:=hid (nbN w (N:Int) (S:Int) nt (.slice ao l.length cap))
 have HR:=hid (hr.kept HB0.out)
 have HF:=hid (hf.kept HB0.out)
 clear hr hf
 go_enter Tryz.func42,Tryz.ntmps42
 go_wp2_with fail
 refine (RE.out _ HR.out HF.out).mono ?_
 rintro e w1 ⟨o1,c1,M1,rfl,_,hb⟩
 have HB1:=hid (HB0.out.trans (hb.mono (by simp)))
 have HN1:=hid (nbB HN0.out hb (by simp))
 have HR1:=hid (HR.out.kept hb)
 have HF1:=hid (HF.out.kept hb)
 obtain ⟨n0,n1,n2,n3⟩:=nbC HN1.out
 clear hb HB0 HN0 HR HF RE
 go_wp2_with fail
 refine (RM.out _ HR1.out HF1.out).mono ?_
 rintro e w2 ⟨o2,c2,rfl,hi,hb⟩
 have HB2:=hid (HB1.out.trans (hb.mono HB1.out.size))
 have HN2:=hid (nbB HN1.out hb (netBox_lt HN1.out))
 have HR2:=hid (HR1.out.kept hb)
 have HRI:=hid hi
 clear hb hi n0 n1 n2 n3 HB1 HN1 HR1 HF1 RM
 obtain ⟨n0,n1,n2,n3⟩:=nbC HN2.out
 have HM0:=hid (ibox_made w2 (N+1) (b:=w2.heap.size) rfl)
 have HBM:=hid ((Below.refl w2.heap.size w2).alloc (Nat.le_refl _) (.cells (madeCells #[.int .i64 0] (N+1)) 3))
 go_wp2
 clear n0 n1 n2 n3 hmk
 generalize (w2.alloc (.cells (madeCells #[.int .i64 0] (N+1)) 3))=W3 at *
 obtain ⟨bm,hbm⟩:∃ b,b=w2.heap.size:=⟨_,rfl⟩
 rw [← hbm] at HM0 HBM ⊢
 have HBE:=hid hbm
 clear hbm
 go_loopw [13] (fun i wr=>∃ j:Nat,i=.int .i64 j∧j≤N+1∧Hid (IBox wr bm (repL (N+1) j (-1)))∧Hid (Below bm w2 wr)) (fun i _=>N+1-(intOf i).toNat)
 case atStart=>exact ⟨0,rfl,Nat.zero_le _,hid (by rw [repL_zero];exact HM0.out),HBM⟩
 case round =>
  obtain ⟨j,rfl,hj,HMW,HBW⟩:=hrel
  by_cases hlt:j<N+1
  ·have hji:(j:Int)<(N:Int)+1:=by omega
   have hj0:(0:Int)≤(j:Int):=by omega
   have hc:=HMW.out.cell (i:=j) (by rw [repL_len _ hj];exact hlt)
   have hfz:=HMW.out.frozen j
   have HM4:=hid (show IBox (wr.setCell ⟨bm,j,none⟩ (.int .i64 (-1))) bm (repL (N+1) (j+1) (-1)) by rw [← repL_set _ hlt];exact HMW.out.set (by rw [repL_len _ hj];exact hlt) (-1))
   have HB4:=hid (HBW.out.setCell (p:=⟨bm,j,none⟩) (Nat.le_refl _) (.int .i64 (-1)))
   go_wp2
   go_roundw
   case rel=>exact ⟨j+1,by go_num,by omega,HM4,HB4⟩
   case measure=>simp [intOf];omega
  ·have ej:j=N+1:=by omega
   subst ej
   clear hlt hj
   have HN5:=hid (nbB HN2.out HBW.out (by rw [HBE.out];exact netBox_lt HN2.out))
   obtain ⟨n0,n1,n2,n3⟩:=nbC HN5.out
   have hsi:(S:Int)<(N:Int)+1:=by omega
   have hs0:(0:Int)≤(S:Int):=by omega
   have hxi:¬ (((N+1:Nat):Int)<(N:Int)+1):=by omega
   have HMA:=hid (show IBox wr bm (List.replicate (N+1) (-1)) by rw [← repL_all];exact HMW.out)
   have hc:=HMA.out.cell (i:=S) (by simp;omega)
   have hfz:=HMA.out.frozen S
   have HM6:=hid (HMA.out.set (i:=S) (by simp;omega) 0)
   have HB6:=hid (HBW.out.setCell (p:=⟨bm,S,none⟩) (Nat.le_refl _) (.int .i64 0))
   have HN6:=hid (nbO HN5.out (b2:=bm) (o:=S) (v2:=.int .i64 0) (by have:=netBox_lt HN2.out;have:=HBE.out;omega))
   clear HM0 HBM
   go_wp2
   clear n0 n1 n2 n3 hc hfz
   generalize (wr.setCell ⟨bm,S,none⟩ (.int .i64 0))=W6 at *
   go_loopg [14] N (fun gg i wx=>∃ (k:Nat) (L:List Int),i=.int .i64 k∧k+gg=N∧Hid (LK k L)∧Hid (L.length=N+1)∧Hid (IBox wx bm L)∧Hid (Below bm w2 wx))
   case atStart=>exact ⟨0,_,rfl,by omega,hid TL.out.start,hid (by simp),HM6,HB6⟩
   case round =>
    obtain ⟨k,L,rfl,hkg,HK,HLN,HMX,HBX⟩:=hrel
    have HN7:=hid (nbB HN2.out HBX.out (by rw [HBE.out];exact netBox_lt HN2.out))
    obtain ⟨n0,n1,n2,n3⟩:=nbC HN7.out
    by_cases hlk:k<N
    ·have hki:(k:Int)<(N:Int):=by omega
     have hk0:(0:Int)≤(k:Int):=by omega
     go_wp2
     clear n0 n1 n2 n3
     go_loopg [15] (2*l.length) (fun g2 i wy=>∃ (r:Nat) (L2:List Int),i=.int .i64 r∧r+g2=2*l.length∧Hid (LR k r L2)∧Hid (IBox wy bm L2)∧Hid (Below bm w2 wy))
     case atStart=>exact ⟨0,L,rfl,by omega,hid (TL.out.beg k L HK.out),HMX,HBX⟩
     case round =>
      obtain ⟨r,L2,rfl,hrg,HLR,HMY,HBY⟩:=hrel
      by_cases hlr:r<2*l.length
      ·have hri:(r:Int)<2*(l.length:Int):=by omega
       have hr0:(0:Int)≤(r:Int):=by omega
       have HN8:=hid (nbB HN2.out HBY.out (by rw [HBE.out];exact netBox_lt HN2.out))
       obtain ⟨n0,n1,n2,n3⟩:=nbC HN8.out
       have EN:=hid (fun w'=>HEN.out r hlr w')
       obtain ⟨hta,htb⟩:=TL.out.bd r hlr
       have HRr:=hid (HRA.out r hlr)
       have HPUT:=hid (TL.out.put k r L2 HLR.out hlr)
       have HSK:=hid (TL.out.skip k r L2 HLR.out)
       have HL2:=hid (TL.out.len k r L2 HLR.out)
       generalize TF r=a at *
       generalize TT r=b at *
       have hai:(a:Int)<(N:Int)+1:=by omega
       have ha0:(0:Int)≤(a:Int):=by omega
       have hbi:(b:Int)<(N:Int)+1:=by omega
       have hb0:(0:Int)≤(b:Int):=by omega
       have hrl:r<RL.length:=by rw [HRN.out];exact hlr
       go_wp2_with fail
       refine (EN.out _ (HR2.out.kept (by have:=HBY.out;rwa [HBE.out] at this))).mono ?_
       rintro e w3 ⟨rfl,hb⟩
       have HM3:=hid (HMY.out.kept hb)
       have HB3:=hid (HBY.out.trans (hb.mono (by have:=HBY.out.size;have:=HMY.out.lt;omega)))
       have HI3:=hid (HRI.out.kept (by have:=HB3.out;rwa [HBE.out] at this))
       obtain ⟨b5,o5,rfl,_,d0⟩:=irC HI3.out hrl
       rw [HRr.out] at d0
       generalize RO r=rr at *
       have ma:=HM3.out.cell (i:=a) (by rw [HL2.out];exact hta)
       have mb:=HM3.out.cell (i:=b) (by rw [HL2.out];exact htb)
       have mf:=HM3.out.frozen b
       clear hb n0 n1 n2 n3
       have HM4:=hid (HM3.out.set (i:=b) (by rw [HL2.out];exact htb) ((k:Int)+1))
       have HB4:=hid (HB3.out.setCell (p:=⟨bm,b,none⟩) (Nat.le_refl _) (.int .i64 ((k:Int)+1)))
       have hkw:IntKind.i64.wrap ((k:Int)+1)=(k:Int)+1:=by rw [IntKind.wrap_i64];omega
       generalize hA:amt L2 a=A at *
       generalize hB:amt L2 b=B at *
       clear hA hB
       by_cases p1:x≤rr
       ·have p1':decide (x≤rr)=true:=by simpa using p1
        by_cases p2:A=(k:Int)
        ·have p2':(A == (k:Int))=true:=by simpa using p2
         by_cases p3:B<0
         ·have p3':decide (B<0)=true:=by simpa using p3
          have H1:=hid (HPUT.out p1 p2 p3)
          clear p1 p2 p3 HSK
          go_wp2
          go_roundg (2*l.length-(r+1))
          case measure=>omega
          case rel=>exact ⟨r+1,_,by go_num,by omega,H1,HM4,HB4⟩
         ·have p3':decide (B<0)=false:=by simpa using p3
          have H1:=hid (HSK.out (fun _ _=>by omega))
          clear p1 p2 p3 HPUT
          go_wp2
          go_roundg (2*l.length-(r+1))
          case measure=>omega
          case rel=>exact ⟨r+1,_,by go_num,by omega,H1,HM3,HB3⟩
        ·have p2':(A == (k:Int))=false:=by simpa using p2
         have H1:=hid (HSK.out (fun _ h=>absurd h p2))
         clear p1 p2 HPUT
         go_wp2
         go_roundg (2*l.length-(r+1))
         case measure=>omega
         case rel=>exact ⟨r+1,_,by go_num,by omega,H1,HM3,HB3⟩
       ·have p1':decide (x≤rr)=false:=by simpa using p1
        have H1:=hid (HSK.out (fun h=>absurd h p1))
        clear p1 HPUT
        go_wp2
        go_roundg (2*l.length-(r+1))
        case measure=>omega
        case rel=>exact ⟨r+1,_,by go_num,by omega,H1,HM3,HB3⟩
      ·have er:r=2*l.length:=by omega
       subst er
       have H1:=hid (TL.out.nx k L2 HLR.out)
       have H2:=hid (TL.out.len k _ L2 HLR.out)
       have hlt2:¬ (2*(l.length:Int)<2*(l.length:Int)):=by omega
       have hkw:IntKind.i64.wrap ((k:Int)+1)=(k:Int)+1:=by rw [IntKind.wrap_i64];omega
       go_wp2
       go_roundg (N-(k+1))
       case measure=>omega
       case rel=>exact ⟨k+1,L2,by go_num,by omega,H1,H2,HMY,HBY⟩
    ·have ek:k=N:=by omega
     subst ek
     have HLE:=hid (TL.out.all L HK.out)
     have HBF:=hid (HB2.out.trans (HBX.out.mono (by rw [HBE.out];exact HB2.out.size)))
     clear hlk
     go_wp2
     go_ret2
     exact ⟨some ⟨bm,0,none⟩,k+1,by rw [HLL.out];rfl,by rw [← HLE.out];exact HMX.out.irow,HBF.out⟩
end Ne
namespace Ne
section
variable (n:Net) (ao:Option Addr) (cap:Nat) (fo:Option Addr) (fc:Nat) (f:List Int) (x:Int) (L0:List Int) (w:World) (hr:ARow w ao n.l) (hf:IRow w fo f) (hl:n.l.length≤1000000) (hL:reE n f x=0→IsLev n f x L0)
include hr hf hl hL
theorem rleads_any:Calls Tryz.prog 43 #[encN n ao cap,.slice fo f.length fc,.int .i64 x] w fun e w'=>∃ o c,e=.returned (.tuple #[.slice o (ldV n f x L0).length c,.int .i64 (reE n f x)])∧IRow w' o (encW (ldV n f x L0))∧Below w.heap.size w w':=by
 have WD:=hid (fun w' (h1:ARow w' ao n.l) (h2:IRow w' fo f)=>rlevels_any n ao cap fo fc f x L0 w' h1 h2 hl hL)
 have RM:=hid (fun w' (h1:ARow w' ao n.l) (h2:IRow w' fo f)=>rroom_s n ao cap fo fc f w' h1 h2 hl)
 by_cases c0:reE n f x=0
 case neg =>
  rw [(lvV_bad (L:=L0) c0).2.1]
  generalize lvV n f x L0=WV at *
  generalize reE n f x=E at *
  clear hL RM
  generalize f.length=fl at *
  obtain ⟨nn,ns,nt,l⟩:=n
  simp only at hr WD ⊢
  have HB0:=hid ((Below.refl w.heap.size w).alloc (Nat.le_refl _) (.cells #[.int .i64 nn,.int .i64 ns,.int .i64 nt,.slice ao l.length cap] 24))
  have HR:=hid (hr.kept HB0.out)
  have HF:=hid (hf.kept HB0.out)
  have c1':(E == 0)=false:=by simpa using c0
  have c1n:(E != 0)=true:=by simpa using c0
  clear hr hf c0
  go_enter Tryz.func43,Tryz.ntmps43
  go_wp2_with fail
  refine (WD.out _ HR.out HF.out).mono ?_
  rintro e w1 ⟨o,c,rfl,_,hb⟩
  have HB1:=hid (HB0.out.trans (hb.mono (by simp)))
  clear hb
  go_wp2
  go_ret2
  exact ⟨none,0,rfl,.inl rfl,HB1.out⟩
 obtain ⟨hc0,hx1⟩:=reE_ok c0
 have hR:=rgO (chkA_ok (chkF_ok hc0).1).1
 rw [(lvV_ok (L:=L0) c0).2.1,c0]
 rw [c0,(lvV_ok (L:=L0) c0).1] at WD
 rw [show roomV n f=roomL n.l f (2*n.l.length) by unfold roomV;rw [if_neg (by simpa using hc0)],rLl,hc0] at RM
 have HLL:=hid (hL c0).len
 rw [HLL.out] at WD
 have hN0:=hR.n0
 have hN1:=hR.n1
 have HEN:=hid (fun (j:Nat) (h:j<2*n.l.length) w' h1=>show Calls Tryz.prog 52 #[encN n ao cap,.int .i64 (j:Int)] w' fun e w2=>e=.returned (.tuple #[.int .i64 (((trF n.l j).toNat:Nat):Int),.int .i64 (((trT n.l j).toNat:Nat):Int)])∧Below w'.heap.size w' w2 by
  have:=rends_any n ao cap (j:Int) w' h1 hl (by unfold in64;omega)
  rw [enF_in h,enT_in h] at this
  have hb:=tTb hR h
  have hb2:=tFb hR h
  rwa [show (((trT n.l j).toNat:Nat):Int)=trT n.l j by omega,show (((trF n.l j).toNat:Nat):Int)=trF n.l j by omega])
 have HTB:=hid (fun (r:Nat) (hr:r<2*n.l.length)=>show (trF n.l r).toNat<n.n.toNat+1∧(trT n.l r).toNat<n.n.toNat+1 by
  have hb:=tFb hR hr;have hb2:=tTb hR hr;omega)
 have HLV:=hid (fun i (h:i<n.n.toNat+1)=>show -1≤amt L0 i∧amt L0 i<500 by have:=lev_lt hR (hL c0) h;omega)
 have HRA:=hid (fun i (h:i<2*n.l.length)=>roomL_at n.l f h)
 have HRN:=hid (rLl n.l f (2*n.l.length))
 have HHIT:=hid (fun (k:Nat) (h1:x≤roomN n.l f k) (h2:0≤amt L0 (trF n.l k).toNat) (h3:amt L0 (trT n.l k).toNat=amt L0 (trF n.l k).toNat+1)=>show encW (leadL n.l f x L0 (k+1))=encW (leadL n.l f x L0 k) ++ [(k:Int)] by rw [leadL_hit (by unfold leadB;simp [h1,h2,h3]),encW_snoc])
 have HMISS:=hid (fun (k:Nat) (h:¬ (x≤roomN n.l f k∧0≤amt L0 (trF n.l k).toNat∧amt L0 (trT n.l k).toNat=amt L0 (trF n.l k).toNat+1))=>show encW (leadL n.l f x L0 (k+1))=encW (leadL n.l f x L0 k) by
  rw [leadL_miss (by rw [Bool.eq_false_iff];intro h2;unfold leadB at h2;simp at h2;exact h h2)])
 have HFL:=hid (fun (k:Nat)=>show (encW (leadL n.l f x L0 k)).length≤k by rw [eWl];exact leadL_len _ _ _ _ _)
 have HFE:=hid (eWl (leadL n.l f x L0 (2*n.l.length)))
 have HF0:=hid (show encW (leadL n.l f x L0 0)=[] from rfl)
 obtain ⟨FL,hFL⟩:∃ FL,FL=fun k=>encW (leadL n.l f x L0 k):=⟨_,rfl⟩
 have HFLE:=hid (show ∀ k,encW (leadL n.l f x L0 k)=FL k from fun k=>by rw [hFL])
 clear hFL
 rw [← HFE.out]
 simp only [HFLE.out] at HHIT HMISS HFL HF0 ⊢
 clear HFLE HFE hL c0 hc0 hx1 hR
 generalize roomL n.l f (2*n.l.length)=RL at *
 generalize roomN n.l f=RO at *
 generalize f.length=fl at *
 generalize hTT:(fun j=>(trT n.l j).toNat)=TT at *
 generalize hTF:(fun j=>(trF n.l j).toNat)=TF at *
 have HTE:=hid (show ∀ j,(trT n.l j).toNat=TT j from fun j=>by rw [← hTT])
 have HTG:=hid (show ∀ j,(trF n.l j).toNat=TF j from fun j=>by rw [← hTF])
 clear hTT hTF
 simp only [HTE.out,HTG.out] at HEN HTB HHIT HMISS
 clear HTE HTG
 obtain ⟨nn,ns,nt,l⟩:=n
 simp only at hr hl WD RM HLL hN0 hN1 HEN HTB HLV HRA HRN ⊢
 obtain ⟨N,rfl⟩:∃ N:Nat,nn=(N:Int):=⟨nn.toNat,by omega⟩
 simp only [Int.toNat_natCast] at HLL WD HTB HLV ⊢
 have HB0:=hid ((Below.refl w.heap.size w).alloc (Nat.le_refl _) (.cells #[.int .i64 (N:Int),.int .i64 ns,.int .i64 nt,.slice ao l.length cap] 24))
 have HN0:=hid (nbN w (N:Int) ns nt (.slice ao l.length cap))
 have HR:=hid (hr.kept HB0.out)
 have HF:=hid (hf.kept HB0.out)
 clear hr hf
 go_enter Tryz.func43,Tryz.ntmps43
 go_wp2_with fail
 refine (WD.out _ HR.out HF.out).mono ?_
 rintro e w1 ⟨lo,lc,rfl,hi,hb⟩
 have HB1:=hid (HB0.out.trans (hb.mono (by simp)))
 have HN1:=hid (nbB HN0.out hb (by simp))
 have HR1:=hid (HR.out.kept hb)
 have HF1:=hid (HF.out.kept hb)
 have HL1:=hid hi
 obtain ⟨n0,n1,n2,n3⟩:=nbC HN1.out
 clear hb hi HB0 HN0 HR HF WD
 go_wp2_with fail
 refine (RM.out _ HR1.out HF1.out).mono ?_
 rintro e WX ⟨o2,c2,rfl,hi,hb⟩
 have HBX:=hid (HB1.out.trans (hb.mono HB1.out.size))
 have HNX:=hid (nbB HN1.out hb (netBox_lt HN1.out))
 have HRX:=hid (HR1.out.kept hb)
 have HLX:=hid (HL1.out.kept hb)
 have HRI:=hid hi
 clear hb hi n0 n1 n2 n3 HB1 HN1 HR1 HF1 HL1 RM
 go_wp2
 go_loopw [12,13] (fun s i wr=>∃ (v:Value) (j:Nat),v=s∧i=.int .i64 j∧j≤2*l.length∧Hid (OwnI wr WX.heap.size v (FL j))∧Hid (Below WX.heap.size WX wr)) (fun _ i _=>2*l.length-(intOf i).toNat)
 case atStart=>exact ⟨_,0,rfl,rfl,Nat.zero_le _,hid (by rw [HF0.out];exact Rw.owN _ _),hid (Below.refl _ _)⟩
 case round =>
  obtain ⟨v,j,rfl,rfl,hj,HOW,HBW⟩:=hrel
  by_cases hlt:j<2*l.length
  ·have hji:(j:Int)<2*(l.length:Int):=by omega
   have hj0:(0:Int)≤(j:Int):=by omega
   have HN8:=hid (nbB HNX.out HBW.out (netBox_lt HNX.out))
   obtain ⟨n0,n1,n2,n3⟩:=nbC HN8.out
   have EN:=hid (fun w'=>HEN.out j hlt w')
   obtain ⟨hta,htb⟩:=HTB.out j hlt
   have HRr:=hid (HRA.out j hlt)
   have HH:=hid (HHIT.out j)
   have HMS:=hid (HMISS.out j)
   have HLN:=hid (show (FL j).length+([(j:Int)]:List Int).length≤1099511627776 by have:=HFL.out j;simp;omega)
   generalize TF j=a at *
   generalize TT j=b at *
   have hai:(a:Int)<(N:Int)+1:=by omega
   have ha0:(0:Int)≤(a:Int):=by omega
   have hbi:(b:Int)<(N:Int)+1:=by omega
   have hb0:(0:Int)≤(b:Int):=by omega
   go_wp2_with fail
   refine (EN.out _ (HRX.out.kept HBW.out)).mono ?_
   rintro e w3 ⟨rfl,hb⟩
   have HB3:=hid (HBW.out.trans (hb.mono HBW.out.size))
   have HO3:=hid (Rw.own_below HOW.out hb)
   obtain ⟨b5,o5,rfl,hbl5,d0⟩:=irC (HRI.out.kept HB3.out) (i:=j) (by rw [HRN.out];exact hlt)
   rw [HRr.out] at d0
   obtain ⟨b6,o6,rfl,hbl6,ma⟩:=irC (HLX.out.kept HB3.out) (i:=a) (by rw [HLL.out];exact hta)
   obtain ⟨b7,o7,he7,hbl7,mb⟩:=irC (HLX.out.kept HB3.out) (i:=b) (by rw [HLL.out];exact htb)
   simp only [Option.some.injEq,Addr.mk.injEq,and_true] at he7
   obtain ⟨rfl,rfl⟩:=he7
   obtain ⟨hA0,hA1⟩:=HLV.out a hta
   generalize RO j=rr at *
   generalize amt L0 a=A at *
   generalize amt L0 b=B at *
   have hwA:IntKind.i64.wrap (A+1)=A+1:=by rw [IntKind.wrap_i64];omega
   clear hb n0 n1 n2 n3 hbl7
   by_cases p1:x≤rr
   ·have p1':decide (x≤rr)=true:=by simpa using p1
    by_cases p2:0≤A
    ·have p2':decide (0≤A)=true:=by simpa using p2
     by_cases p3:B=A+1
     ·have p3':(B == A+1)=true:=by simpa using p3
      have HST:=hid (HH.out p1 p2 p3)
      have HO4:=hid (fun q=>show OwnI ((w3.drewN q).alloc (.cells #[.int .i64 (j:Int)] 3)) WX.heap.size v (FL j) from Rw.owA HO3.out _)
      have HR4:=hid (fun q=>irow_one' (w3.drewN q) rfl (j:Int) 3)
      have hvb:=Rw.owK HO3.out
      have HB4:=hid (fun q=>(bDn HB3.out q).alloc (by exact HB3.out.size) (.cells #[.int .i64 (j:Int)] 3))
      clear p1 p2 p3 HH HMS
      go_wp2
      go_quiet (fail)
      go_wp2_with (at_builtin;refine Rw.app elemI eIl eIo rfl (.tmp 69) (.tmp 71) rfl WX.heap.size _ (FL j) rfl (HO4.out _) (some ⟨w3.heap.size,0,none⟩) 1 [(j:Int)] rfl ?hnn (HR4.out _) HLN.out ?hB ?_;(case hnn=>(intro h;cases h));(case hB=>(exact (HB4.out _).size));intro v4 w4 hown4 hgr4;rw [← HST.out] at hown4;have HB5:=hid ((HB4.out _).grown hgr4 (HB4.out _).size hvb);have HO5:=hid hown4;clear hown4 hgr4)
      go_roundw
      case rel=>exact ⟨_,j+1,rfl,by go_num,by omega,HO5,HB5⟩
      case measure=>simp [intOf];omega
     ·have p3':(B == A+1)=false:=by simpa using p3
      have HST:=hid (HMS.out (fun h=>p3 h.2.2))
      have HO4:=hid (fun q=>show OwnI (w3.drewN q) WX.heap.size v (FL (j+1)) by rw [HST.out];exact HO3.out)
      clear p1 p2 p3 HH HMS
      go_wp2
      go_quiet (fail)
      go_wp2
      go_roundw
      case rel=>exact ⟨_,j+1,rfl,by go_num,by omega,hid (HO4.out _),hid (bDn HB3.out _)⟩
      case measure=>simp [intOf];omega
    ·have p2':decide (0≤A)=false:=by simpa using p2
     have HST:=hid (HMS.out (fun h=>p2 h.2.1))
     have HO4:=hid (fun q=>show OwnI (w3.drewN q) WX.heap.size v (FL (j+1)) by rw [HST.out];exact HO3.out)
     clear p1 p2 HH HMS
     go_wp2
     go_quiet (fail)
     go_wp2
     go_roundw
     case rel=>exact ⟨_,j+1,rfl,by go_num,by omega,hid (HO4.out _),hid (bDn HB3.out _)⟩
     case measure=>simp [intOf];omega
   ·have p1':decide (x≤rr)=false:=by simpa using p1
    have HST:=hid (HMS.out (fun h=>p1 h.1))
    have HO4:=hid (fun q=>show OwnI (w3.drewN q) WX.heap.size v (FL (j+1)) by rw [HST.out];exact HO3.out)
    clear p1 HH HMS
    go_wp2
    go_quiet (fail)
    go_wp2
    go_roundw
    case rel=>exact ⟨_,j+1,rfl,by go_num,by omega,hid (HO4.out _),hid (bDn HB3.out _)⟩
    case measure=>simp [intOf];omega
  ·have ej:j=2*l.length:=by omega
   subst ej
   have HBE:=hid (HBX.out.trans (HBW.out.mono HBX.out.size))
   obtain ⟨o9,c9,hv9,_,_,_,hi9,_,_⟩:=Rw.owR eIl HOW.out
   subst hv9
   have HI9:=hid hi9
   have hlt2:¬ (2*(l.length:Int)<2*(l.length:Int)):=by omega
   clear hlt hj hi9
   go_wp2
   go_ret2
   exact ⟨_,⟨_,rfl⟩,HI9.out,HBE.out⟩
end
end Ne
namespace Ne
theorem row_nat {w:World} {o:Option Addr} {R:List Nat} (h:IRow w o (encW R)) (hR:0<R.length):∃ b off,o=some ⟨b,off,none⟩∧b<w.heap.size∧∀ i,i<R.length→w.cell? ⟨b,off+i,none⟩=some (.int .i64 ((R.getD i 0:Nat):Int)):=by
 obtain ⟨b,off,rfl,hb,_⟩:=irC h (i:=0) (by rw [eWl];exact hR)
 refine ⟨b,off,rfl,hb,fun i hi=>?_⟩
 obtain ⟨b',off',e,_,hc⟩:=irC h (i:=i) (by rw [eWl];exact hi)
 cases e
 rw [encW_at hi] at hc
 exact hc
theorem row_int {w:World} {o:Option Addr} {R:List Int} (h:IRow w o R) (hR:0<R.length):∃ b off,o=some ⟨b,off,none⟩∧b<w.heap.size∧∀ i,i<R.length→w.cell? ⟨b,off+i,none⟩=some (.int .i64 (amt R i)):=by
 obtain ⟨b,off,rfl,hb,_⟩:=irC h (i:=0) hR
 refine ⟨b,off,rfl,hb,fun i hi=>?_⟩
 obtain ⟨b',off',e,_,hc⟩:=irC h (i:=i) hi
 cases e
 exact hc
set_option maxHeartbeats 8000000 in
theorem rblock_own (n:Net) (ao:Option Addr) (cap:Nat) (fo:Option Addr) (fc:Nat) (f:List Int) (x:Int) (L0:List Int) (W0:List (List Nat × Int)) (g0:List Int) (w:World) (hr:ARow w ao n.l) (hf:IRow w fo f) (hfn:fo=none→fc=0) (hl:n.l.length≤1000000) (hL:reE n f x=0→IsLev n f x L0)
  (hB:reE n f x=0→IsBlk n.l (leadL n.l f x L0 (2*n.l.length)) f x n.s n.t W0 g0) :
  Calls Tryz.prog 36 #[encN n ao cap,.slice fo f.length fc,.int .i64 x] w fun e w'=>∃ o c wv,e=.returned (.tuple #[.slice o (blG n f x g0).length c,wv,.int .i64 (reE n f x)])∧OwnL w' w.heap.size (.slice o (blG n f x g0).length c) (blG n f x g0)∧WkR 100 w' w.heap.size wv (blW n f x W0)∧Below w.heap.size w w':=by
 have HB0:=hid ((Below.refl w.heap.size w).alloc (Nat.le_refl _) (.cells #[.int .i64 n.n,.int .i64 n.s,.int .i64 n.t,.slice ao n.l.length cap] 24))
 have HN0:=hid (nbN w n.n n.s n.t (.slice ao n.l.length cap))
 obtain ⟨n0,n1,n2,n3⟩:=nbC HN0.out
 have LD:=hid (fun w' h1 h2=>rleads_any n ao cap fo fc f x L0 w' h1 h2 hl hL)
 have HR:=hid hr
 have HF:=hid hf
 by_cases c0:reE n f x=0
 case neg =>
  have e1:blG n f x g0=[]:=by unfold blG;rw [if_pos c0]
  have e2:blW n f x W0=[]:=by unfold blW;rw [if_pos c0]
  rw [e1,e2]
  have c0':(reE n f x != 0)=true:=by simpa using c0
  have HC0:=hid c0
  clear c0 hL hB hr hf hl e1 e2
  generalize ldV n f x L0=LV at *
  generalize reE n f x=re at *
  go_enter Tryz.func36,Tryz.ntmps36
  go_wp2_with fail
  refine (LD.out _ (HR.out.kept HB0.out) (HF.out.kept HB0.out)).mono ?_
  rintro e w2 ⟨o,c,rfl,_,hb⟩
  have HB2:=hid (HB0.out.trans (hb.mono HB0.out.size))
  clear hb n0 n1 n2 n3
  go_wp2
  go_ret3
  exact ⟨none,0,_,rfl,Rw.owN _ _,wkr_nil _ _ _,HB2.out⟩
 obtain ⟨hck,hx⟩:=reE_ok c0
 obtain ⟨ck,hF⟩:=okf_of hck
 have hR:=rgO ck
 have hlev:=hL c0
 have e1:blG n f x g0=g0:=by unfold blG;rw [if_neg (by simpa using c0)]
 have e2:blW n f x W0=W0:=by unfold blW;rw [if_neg (by simpa using c0)]
 have e3:=(lvV_ok (L:=L0) c0).2.1
 have hLd:=lds_of n.l f x L0
 have hK:∀ r∈leadL n.l f x L0 (2*n.l.length),amt L0 (trT n.l r).toNat≤n.n:=fun r hr=>by
  have hb:=tTb hR (hLd.lt r hr)
  have:=(lev_lt hR hlev (i:=(trT n.l r).toNat) (by omega)).2
  omega
 have hblk:=hB c0
 have hTL:=leadL_len n.l f x L0 (2*n.l.length)
 rw [e1,e2,c0]
 rw [e3,c0] at LD
 generalize leadL n.l f x L0 (2*n.l.length)=TL at *
 have hLL:=hR.len
 have hTL2:TL.length≤1000000:=by omega
 have hfl:=hF.len
 have NX:=hid (fun g lo lc lo' llc w' (h1:Okf n g) h2 h3 h4 o (h5:IsNext n.l TL g x n.s n.t o)=>rnext_any ao cap x lo' llc lo lc w' ck h2 h3 h1 hLd hTL2 hK h4 h5)
 have RO:=hid (fun g lo lc w' (h1:Okf n g) h2 h3=>show Calls Tryz.prog 45 #[encN n ao cap,.slice lo n.l.length lc] w' fun e w2=>∃ ro rc,e=.returned (.tuple #[.slice ro (2*n.l.length) rc,.int .i64 0])∧IRow w2 ro (roomL n.l g (2*n.l.length))∧Below w'.heap.size w' w2 by
  have h:=rroom_s n ao cap lo lc g w' h2 h3 hl
  have e:roomV n g=roomL n.l g (2*n.l.length):=by unfold roomV;rw [if_neg (by simpa using h1.chk ck)]
  rwa [e,h1.chk ck,h1.len,rLl] at h)
 have NE:=hid (fun g=>next_exists (TL:=TL) (g:=g) (x:=x) (s:=n.s) (t:=n.t) hLd)
 have ST:=hid (fun g (h1:Okf n g) R (h3:FirstW n.l TL g x n.t n.s R)=>blk_step ck hLd hx h1 (srch_start hR hLd g x) h3)
 have PU:=hid (fun g (hg:g.length=n.l.length) lo lc wo wc W a w' h1 h2 h3 h4 h5 h6=>show Calls Tryz.prog 46 #[encN n ao cap,.slice lo n.l.length lc,.slice wo W.length wc,.int .i64 a] w' fun e w2=>∃ v,e=.returned (.tuple #[v,.int .i64 (pushE n g W a)])∧OwnL w2 w'.heap.size v (pushV n g W a)∧Below w'.heap.size w' w2 by
  have h:=rpush_any n ao cap lo lc g wo wc W a w' h1 h2 h3 hl h4 h5 h6
  rwa [hg] at h)
 have HONE:=hid (fun W g (h1:BlkW n.l TL x n.s n.t f W g) (h2:IsNext n.l TL g x n.s n.t none)=>blk_one ⟨h1,h2⟩ hblk)
 have HSNO:=hid (fun W g R a g2 (h1:BlkW n.l TL x n.s n.t f W g) (h2:FirstW n.l TL g x n.t n.s R) (h3:Least n.l g R a) (h4:pushN n.l g a (encW R)=some g2)=>blkW_snoc h1 h2 h3 h4)
 have HWL:=hid (fun Ws gl (h:BlkW n.l TL x n.s n.t f Ws gl)=>show Ws.length≤1000000 by
  have h1:=(blkW_facts hLd hx hfl h).2
  have h2:=left_le n.l TL x f
  omega)
 have HOK:=hid hF
 have HG0:=hid (show g0.length=n.l.length from ((blkW_facts hLd hx hfl hblk.1).1).len)
 have HX:=hid hx
 have HLLN:=hid (show ([]:List Int).length+f.length≤1099511627776 by simp;omega)
 have HBK0:=hid (show BlkW n.l TL x n.s n.t f [] f from .nil f)
 have HFN:=hid hfn
 have HFLEN:=hid hfl
 have HR2:=hid (show ∀ g r,r<2*n.l.length→amt (roomL n.l g (2*n.l.length)) r=roomN n.l g r from fun g r h=>roomL_at _ _ h)
 clear hL hB hr hf hl e1 e2 e3 hblk hF hck c0 hLd hfn hK hlev
 rw [hfl]
 rw [hfl] at LD
 clear hTL hTL2 hx hfl
 go_enter Tryz.func36,Tryz.ntmps36
 go_wp2_with fail
 refine (LD.out _ (HR.out.kept HB0.out) (HF.out.kept HB0.out)).mono ?_
 rintro e w2 ⟨lo',lc,rfl,hli,hb⟩
 have HB2:=hid (HB0.out.trans (hb.mono HB0.out.size))
 have HN2:=hid (nbB HN0.out hb (netBox_lt HN0.out))
 have HLI:=hid hli
 clear hli hb n0 n1 n2 n3
 obtain ⟨B1,hB1⟩:∃ B1,B1=w2.heap.size:=⟨_,rfl⟩
 have HA3:=hid ((Below.refl w2.heap.size w2).alloc (Nat.le_refl _) (.cells #[] 2))
 have HOE:=hid (show OwnL (w2.alloc (.cells #[] 2)) B1 (.slice (some ⟨w2.heap.size,0,none⟩) 0 0) ([]:List Int) by rw [hB1];exact own_empty w2 _ (Nat.le_refl _))
 have HF3:=hid ((HF.out.kept HB2.out).kept HA3.out)
 have HZ3:=hid (show B1≤(w2.alloc (.cells #[] 2)).heap.size by rw [hB1];simp)
 have HWB:=hid (show w.heap.size<B1 by rw [hB1];exact netBox_lt HN2.out)
 have HB1:=hid hB1
 clear hB1
 go_wp2_with (at_builtin;refine Rw.app elemL eIl eIo rfl (.tmp 31) (.tmp 32) rfl B1 (.slice (some ⟨w2.heap.size,0,none⟩) 0 0) ([]:List Int) rfl HOE.out fo fc f (by rw [HFLEN.out];rfl) HFN.out HF3.out HLLN.out HZ3.out ?_;intro v4 w4 hown4 hgr4;rw [List.nil_append] at hown4;have HO4:=hid hown4;have HG4:=hid hgr4;clear hown4 hgr4)
 obtain ⟨l4,lc4,hv4,_,_,_,_,_,_⟩:=Rw.owR eIl HO4.out
 rw [HFLEN.out] at hv4
 subst hv4
 have HBT4:=hid ((show Below B1 w2 (w2.alloc (.cells #[] 2)) by rw [HB1.out];exact HA3.out).grown HG4.out HZ3.out (fun g hg=>by simp [Value.ownBlock] at hg;have:=HB1.out;omega))
 have HBS4:=hid (Nat.le_trans HZ3.out HG4.out.size)
 clear HG4 HOE
 go_loopg [11,12] (left n.l TL x f) (fun g s11 s12 wr=>∃ (gl:List Int) (Ws:List (List Nat × Int)) (lo4:Option Addr) (lc4:Nat) (wv:Value),s11=.slice lo4 n.l.length lc4∧wv=s12∧Hid (g=left n.l TL x gl)∧Hid (BlkW n.l TL x n.s n.t f Ws gl)∧Hid (Okf n gl)∧Hid (OwnL wr B1 (.slice lo4 n.l.length lc4) gl)∧Hid (WkR 100 wr B1 wv Ws)∧Hid (Below B1 w2 wr)∧Hid (B1≤wr.heap.size))
 case atStart=>exact ⟨f,[],l4,lc4,_,rfl,rfl,rfl,HBK0,HOK,HO4,hid (wkr_nil _ _ _),HBT4,HBS4⟩
 case round =>
  obtain ⟨gl,Ws,lo4,lc4,wv,rfl,rfl,HG,HBK,HOF,HLO,HWK,HBW,HBS⟩:=hrel
  obtain ⟨o,ho⟩:=NE.out gl
  have hB12:B1≤w2.heap.size:=by rw [HB1.out];exact Nat.le_refl _
  have HB2W:=hid (show Below w2.heap.size w2 wr by have:=HBW.out;rwa [HB1.out] at this)
  have HRW:=hid ((HR.out.kept HB2.out).kept HB2W.out)
  have HNW:=hid (nbB HN2.out HB2W.out (netBox_lt HN2.out))
  have NXC:=hid (NX.out gl lo4 lc4 lo' lc wr HOF.out HRW.out (owI HLO.out) (HLI.out.kept HB2W.out) o ho)
  obtain ⟨n0,n1,n2,n3⟩:=nbC HNW.out
  have HNXT:=hid ho
  have HBE:=hid (HB2.out.trans (HB2W.out.mono HB2.out.size))
  clear ho hB12
  go_wp2_with fail
  refine NXC.out.mono ?_
  rintro e w5 ⟨hnr,hb⟩
  obtain ⟨va,vb,rfl,hns⟩:=nx_slots hnr HBS.out
  have HNS:=hid hns
  have HB5:=hid (HB2W.out.trans (hb.mono HB2W.out.size))
  have HLO5:=hid (Rw.own_below HLO.out hb)
  have HWK5:=hid (HWK.out.kept hb)
  have HBS5:=hid (Nat.le_trans HBS.out hb.size)
  have HBE5:=hid (HBE.out.trans (hb.mono HBE.out.size))
  clear hb hnr hns n0 n1 n2 n3
  rcases o with _ | R
  ·obtain ⟨rfl,rfl⟩:=HONE.out Ws gl HBK.out HNXT.out
   obtain ⟨rfl,rfl⟩:=HNS.out
   obtain ⟨o9,c9,rfl,_,_,_⟩:=HWK5.out.val
   have HIR:=hid (owI HLO5.out)
   have HWE:=hid (HWK5.out.base (B':=w.heap.size) (by have:=HWB.out;omega))
   go_wp2
   go_ret3
   exact ⟨lo4,lc4,.slice o9 Ws.length c9,by rw [HG0.out];rfl,by rw [HG0.out];exact Rw.own_base HLO5.out (by have:=HWB.out;omega),HWE.out,HBE5.out⟩
  ·obtain ⟨rfl,hov⟩:=HNS.out
   obtain ⟨R0,R',g2,rfl,stp⟩:=ST.out gl HOF.out R HNXT.out
   have HSNO2:=hid (HSNO.out Ws gl (R0 :: R') _ g2 HBK.out HNXT.out stp.least stp.pN)
   have HMEQ:=hid (show ∀ m,m=minL (roomL n.l gl (2*n.l.length)) (amt (roomL n.l gl (2*n.l.length)) R0) (R0 :: R')→m=minL (roomL n.l gl (2*n.l.length)) (amt (roomL n.l gl (2*n.l.length)) R0) (R0 :: R') from fun m h=>h)
   obtain ⟨ot,ct,hot,_,_,_,_,_,_⟩:=Rw.owR eIl hov
   subst hot
   rw [eWl] at hov ⊢
   have HOV:=hid hov
   have hlt:=stp.lt
   have h64:=stp.b64
   have HRR:=hid (show ∀ k,k<(R0 :: R').length→(R0 :: R').getD k 0<2*n.l.length∧0≤amt (roomL n.l gl (2*n.l.length)) ((R0 :: R').getD k 0)∧amt (roomL n.l gl (2*n.l.length)) ((R0 :: R').getD k 0)≤4611686018427387904 from fun k hk=>⟨hlt _ (gDm hk),h64 _ (gDm hk)⟩)
   have HMN:=hid (show ∀ k,k<(R0 :: R').length→minL (roomL n.l gl (2*n.l.length)) (amt (roomL n.l gl (2*n.l.length)) R0) ((R0 :: R').take (k+1))=min (minL (roomL n.l gl (2*n.l.length)) (amt (roomL n.l gl (2*n.l.length)) R0) ((R0 :: R').take k)) (amt (roomL n.l gl (2*n.l.length)) ((R0 :: R').getD k 0)) from fun k hk=>by rw [take_getD hk,minL_snoc])
   have hR0:=hlt R0 (by simp)
   have HM0:=hid (show 0≤amt (roomL n.l gl (2*n.l.length)) R0∧amt (roomL n.l gl (2*n.l.length)) R0≤4611686018427387904 from h64 R0 (by simp))
   obtain ⟨R,hRd⟩:∃ R,R=R0 :: R':=⟨_,rfl⟩
   have hgl:=HOF.out.len
   have HPE:=hid stp.pE
   have HPV:=hid stp.pV
   have HLEN:=hid stp.len
   have H64:=hid stp.tr64
   have HA64:=hid (show in64 (minL (roomL n.l gl (2*n.l.length)) (amt (roomL n.l gl (2*n.l.length)) R0) (R0 :: R')) by have:=stp.a64;have:=HX.out;unfold in64;omega)
   have HOF2:=hid stp.flow
   have HLF:=hid stp.left
   have hK0:0<(R0 :: R').length:=by simp
   have HR00:=hid (show (R0 :: R').getD 0 0=R0 from rfl)
   rw [← hRd] at HOV HPE HPV HLEN H64 HSNO2 HRR HMN HA64 HMEQ hK0 HR00 ⊢
   obtain ⟨K,hK⟩:∃ K,K=R.length:=⟨_,rfl⟩
   rw [← hK] at HOV HLEN HRR HMN hK0 ⊢
   have HK:=hid hK
   have HGL:=hid hgl
   have HTA:=hid (show R.take K=R by rw [hK];exact List.take_length)
   have RC:=hid (RO.out gl lo4 lc4 w5 HOF.out ((HR.out.kept HB2.out).kept HB5.out) (owI HLO5.out))
   have HNW5:=hid (nbB HN2.out HB5.out (netBox_lt HN2.out))
   have HRLL:=hid (show (roomL n.l gl (2*n.l.length)).length=2*n.l.length from rLl _ _ _)
   have hR0l:=hR0
   clear stp hov hRd hK hgl hlt h64 HNS
   generalize roomL n.l gl (2*n.l.length)=RL at *
   generalize hm00:amt RL R0=m0 at *
   have HM00:=hid hm00
   clear hm00
   obtain ⟨n0,n1,n2,n3⟩:=nbC HNW5.out
   go_wp2_with fail
   refine RC.out.mono ?_
   rintro e w6 ⟨ro,rc,rfl,hir,hb⟩
   have HB6:=hid (HB5.out.trans (hb.mono HB5.out.size))
   have HLO6:=hid (Rw.own_below HLO5.out hb)
   have HWK6:=hid (HWK5.out.kept hb)
   have HOV6:=hid (Rw.own_below HOV.out hb)
   have HBS6:=hid (Nat.le_trans HBS5.out hb.size)
   obtain ⟨bt,offt,rfl,hbt,hct⟩:=row_nat (owI HOV6.out) (by rw [← HK.out];exact hK0)
   rw [← HK.out] at hct
   obtain ⟨br,offr,rfl,hbr,hcr⟩:=row_int hir (by rw [HRLL.out];omega)
   rw [HRLL.out] at hcr
   have HCT:=hid hct
   have HCR:=hid hcr
   have HBTL:=hid hbt
   have HBRL:=hid hbr
   have t0:=hct 0 hK0
   rw [HR00.out,Nat.add_zero] at t0
   have r0:=hcr R0 hR0l
   rw [HM00.out] at r0
   have hKi:(0:Int)<(K:Int):=by omega
   have hRi:(R0:Int)<2*(n.l.length:Int):=by omega
   have hRi2:(R0:Int)<((2*n.l.length:Nat):Int):=by omega
   have hR00:(0:Int)≤(R0:Int):=by omega
   clear hb hir hct hcr n0 n1 n2 n3
   go_wp2
   clear t0 r0
   go_loopw [17,18] (fun s17 i wy=>∃ (k:Nat) (m:Int),s17=.int .i64 m∧i=.int .i64 k∧k≤K∧Hid (m=minL RL m0 (R.take k))∧Hid (0≤m∧m≤4611686018427387904)∧Hid (Below w6.heap.size w6 wy)) (fun _ i _=>K-(intOf i).toNat)
   case atStart=>exact ⟨0,m0,rfl,rfl,Nat.zero_le _,rfl,HM0,hid (Below.refl _ _)⟩
   case round =>
    obtain ⟨k,m,rfl,rfl,hk,HM,HMB,HBY⟩:=hrel
    by_cases hlt:k<K
    ·have d0:=(HBY.out.cell (p:=⟨bt,offt+k,none⟩) HBTL.out).trans (HCT.out k hlt)
     obtain ⟨hr2,hb1,hb2⟩:=HRR.out k hlt
     have e0:=(HBY.out.cell (p:=⟨br,offr+R.getD k 0,none⟩) HBRL.out).trans (HCR.out _ hr2)
     have HS:=hid (HMN.out k hlt)
     generalize amt RL (R.getD k 0)=rm at *
     generalize R.getD k 0=r at *
     have hki:(k:Int)<(K:Int):=by omega
     have hk0:(0:Int)≤(k:Int):=by omega
     have hkw:IntKind.i64.wrap ((k:Int)+1)=(k:Int)+1:=by have:=HLEN.out;rw [IntKind.wrap_i64];omega
     have hri:(r:Int)<2*(n.l.length:Int):=by omega
     have hri2:(r:Int)<((2*n.l.length:Nat):Int):=by omega
     have hr0:(0:Int)≤(r:Int):=by omega
     have HMB2:=hid (show 0≤min m rm∧min m rm≤4611686018427387904 by have:=HMB.out;omega)
     have HM2:=hid (show min m rm=minL RL m0 (R.take (k+1)) by rw [HS.out,← HM.out])
     go_wp2
     refine ⟨?rel,?measure⟩
     case rel=>exact ⟨k+1,_,rfl,by go_num,by omega,HM2,HMB2,HBY⟩
     case measure=>simp [intOf];omega
    ·have ek:K=k:=by omega
     subst ek
     have HME:=hid (show m=minL RL m0 R by rw [HM.out,HTA.out])
     rw [← HME.out] at HPE HPV HSNO2 HA64
     clear hlt HMEQ
     have HB7:=hid (HB6.out.trans (HBY.out.mono HB6.out.size))
     have HLO7:=hid (Rw.own_below HLO6.out HBY.out)
     have HWK7:=hid (HWK6.out.kept HBY.out)
     have HOV7:=hid (Rw.own_below HOV6.out HBY.out)
     have HBS7:=hid (Nat.le_trans HBS6.out HBY.out.size)
     have HNW7:=hid (nbB HN2.out HB7.out (netBox_lt HN2.out))
     have PC:=hid (PU.out gl HGL.out lo4 lc4 (some ⟨bt,offt,none⟩) ct (encW R) m wr ((HR.out.kept HB2.out).kept HB7.out) (owI HLO7.out) (owI HOV7.out) (by rw [eWl,← HK.out];exact HLEN.out) H64.out HA64.out)
     rw [HPE.out,HPV.out,eWl,← HK.out] at PC
     obtain ⟨n0,n1,n2,n3⟩:=nbC HNW7.out
     go_wp2_with fail
     refine PC.out.mono ?_
     rintro e w8 ⟨v8,rfl,hown8,hb⟩
     obtain ⟨l8,lc8,hv8,_,_,_,_,_,_⟩:=Rw.owR eIl hown8
     subst hv8
     rw [HOF2.out.len] at hown8
     rw [HOF2.out.len]
     have HLO8:=hid (Rw.own_base hown8 (B':=B1) HBS7.out)
     have HB8:=hid (HB7.out.trans (hb.mono HB7.out.size))
     have HWK8:=hid (HWK7.out.kept hb)
     have HOV8:=hid (Rw.own_below HOV7.out hb)
     have HBS8:=hid (Nat.le_trans HBS7.out hb.size)
     clear n0 n1 n2 n3 hb hown8
     obtain ⟨Ks,k1,k2,k3⟩:=HWK8.out
     have HK2:=hid k2
     have HA9:=hid ((Below.refl w8.heap.size w8).alloc (Nat.le_refl _) (.cells #[.slice (some ⟨bt,offt,none⟩) K ct,.int .i64 m] 100))
     have HKA:=hid (Rw.own_below k1 HA9.out)
     have HK3:=hid (show ∀ (i:Nat) (k:WkC) (p:List Nat × Int),Ks[i]? = some k→Ws[i]? = some p→OwnI (w8.alloc (.cells #[.slice (some ⟨bt,offt,none⟩) K ct,.int .i64 m] 100)) B1 (.slice k.o k.len k.cap) (encW p.1)∧k.am=p.2 from fun i k p hi hp=>⟨Rw.own_below (k3 i k p hi hp).1 HA9.out,(k3 i k p hi hp).2⟩)
     have HKR:=hid (krow_one w8 rfl 100 ⟨some ⟨bt,offt,none⟩,K,ct,m⟩)
     have HLN:=hid (show Ks.length+([⟨some ⟨bt,offt,none⟩,K,ct,m⟩]:List WkC).length≤1099511627776 by have:=HWL.out Ws gl HBK.out;have:=HK2.out;simp;omega)
     have HBS9:=hid (Nat.le_trans HBS8.out HA9.out.size)
     have HLO9:=hid (Rw.own_below HLO8.out HA9.out)
     have HOV9:=hid (Rw.own_below HOV8.out HA9.out)
     have HB9:=hid (show Below B1 w2 _ from by have h:=HB8.out.trans (HA9.out.mono HB8.out.size);rwa [← HB1.out] at h)
     clear k1 k2 k3 HLO8 HOV8 HWK8 HLO7 HWK7 HOV7 HB7
     go_wp2_with (at_builtin;refine Rw.app elemKr encK_len encK_one rfl (.tmp 82) (.tmp 86) rfl B1 wv Ks rfl HKA.out (some ⟨w8.heap.size,0,none⟩) 1 [⟨some ⟨bt,offt,none⟩,K,ct,m⟩] rfl ?hnn HKR.out HLN.out ?hB ?_;(case hnn=>(intro h;cases h));(case hB=>(exact HBS9.out));intro v9 w9 hown9 hgr9;have HWK:=hid (wkr_snoc (by decide) HKA.out HK2.out HK3.out hgr9 hown9 HOV9.out rfl);have HG9:=hid hgr9;clear hown9 hgr9)
     have HRB:=hid (show ∀ g,wv.ownBlock=some g→B1≤g from fun g hg=>(Rw.owL HKA.out g hg).1)
     have HLO10:=hid (owM HLO9.out fun g hg=>HG9.out.block g (Rw.owL HLO9.out g hg).2 fun e=>own_types (by decide) HLO9.out HKA.out g hg e.symm)
     have HB10:=hid (HB9.out.grown HG9.out HBS9.out HRB.out)
     have HBS10:=hid (Nat.le_trans HBS9.out HG9.out.size)
     go_roundg (left n.l TL x g2)
     case measure=>have:=HG.out;have:=HLF.out;omega
     case rel=>exact ⟨g2,_,l8,lc8,_,rfl,rfl,rfl,HSNO2,HOF2,HLO10,HWK,HB10,HBS10⟩
end Ne
namespace Ne
section
variable (n:Net) (ao:Option Addr) (cap:Nat) (fo:Option Addr) (fc:Nat) (f:List Int) (x:Int) (L0:List Int) (w:World) (hr:ARow w ao n.l) (hf:IRow w fo f) (hl:n.l.length≤1000000) (hL:reE n f x=0→IsLev n f x L0)
include hr hf hl hL
theorem rdeep_any:Calls Tryz.prog 35 #[encN n ao cap,.slice fo f.length fc,.int .i64 x] w fun e w'=>e=.returned (.tuple #[.int .i64 (dpV n f x L0),.int .i64 (reE n f x)])∧Below w.heap.size w w':=by
 have WD:=hid (fun w' (h1:ARow w' ao n.l) (h2:IRow w' fo f)=>rlevels_any n ao cap fo fc f x L0 w' h1 h2 hl hL)
 by_cases c0:reE n f x=0
 case neg =>
  rw [(lvV_bad (L:=L0) c0).2.2]
  generalize lvV n f x L0=WV at *
  generalize reE n f x=E at *
  clear hL
  generalize f.length=fl at *
  obtain ⟨nn,ns,nt,l⟩:=n
  simp only at hr WD ⊢
  have HB0:=hid ((Below.refl w.heap.size w).alloc (Nat.le_refl _) (.cells #[.int .i64 nn,.int .i64 ns,.int .i64 nt,.slice ao l.length cap] 24))
  have HR:=hid (hr.kept HB0.out)
  have HF:=hid (hf.kept HB0.out)
  have c1':(E == 0)=false:=by simpa using c0
  have c1n:(E != 0)=true:=by simpa using c0
  clear hr hf c0
  go_enter Tryz.func35,Tryz.ntmps35
  go_wp2_with fail
  refine (WD.out _ HR.out HF.out).mono ?_
  rintro e w1 ⟨o,c,rfl,_,hb⟩
  have HB1:=hid (HB0.out.trans (hb.mono (by simp)))
  clear hb
  go_wp2
  go_ret2
  exact ⟨rfl,HB1.out⟩
 obtain ⟨hc0,hx1⟩:=reE_ok c0
 have hR:=rgO (chkA_ok (chkF_ok hc0).1).1
 rw [(lvV_ok (L:=L0) c0).2.2,c0]
 rw [c0,(lvV_ok (L:=L0) c0).1] at WD
 have HLL:=hid (hL c0).len
 rw [HLL.out] at WD
 have hN0:=hR.n0
 have hN1:=hR.n1
 have hT0:=hR.t0
 have hT1:=hR.t1
 clear hL c0 hc0 hx1 hR
 generalize f.length=fl at *
 obtain ⟨nn,ns,nt,l⟩:=n
 simp only at hr WD HLL hN0 hN1 hT0 hT1 ⊢
 obtain ⟨N,rfl⟩:∃ N:Nat,nn=(N:Int):=⟨nn.toNat,by omega⟩
 obtain ⟨T,rfl⟩:∃ T:Nat,nt=(T:Int):=⟨nt.toNat,by omega⟩
 simp only [Int.toNat_natCast] at HLL WD ⊢
 have HB0:=hid ((Below.refl w.heap.size w).alloc (Nat.le_refl _) (.cells #[.int .i64 (N:Int),.int .i64 ns,.int .i64 (T:Int),.slice ao l.length cap] 24))
 have HN0:=hid (nbN w (N:Int) ns (T:Int) (.slice ao l.length cap))
 have HR:=hid (hr.kept HB0.out)
 have HF:=hid (hf.kept HB0.out)
 clear hr hf
 go_enter Tryz.func35,Tryz.ntmps35
 go_wp2_with fail
 refine (WD.out _ HR.out HF.out).mono ?_
 rintro e w1 ⟨o,c,rfl,hi,hb⟩
 have HB1:=hid (HB0.out.trans (hb.mono (by simp)))
 have HN1:=hid (nbB HN0.out hb (by simp))
 obtain ⟨n0,n1,n2,n3⟩:=nbC HN1.out
 obtain ⟨b1,o1,rfl,_,d0⟩:=irC hi (i:=T) (by rw [HLL.out];omega)
 have hti:(T:Int)<(N:Int)+1:=by omega
 have ht0:(0:Int)≤(T:Int):=by omega
 generalize hA:amt L0 T=a at *
 have HA:=hid hA
 clear hA hb hi HB0 HN0 HR HF WD
 go_wp2
 go_ret2
 exact ⟨by rw [HA.out];rfl,HB1.out⟩
end
end Ne
namespace Ne
def RrBox (w:World) (b:Nat) (v:Value) (p k:Int):Prop:=w.heap[b]? = some (.cells #[v,.int .i64 p,.int .i64 k] 63 (0,0))
section
variable {w w2:World} {b B:Nat} {v v2:Value} {p k p2 k2:Int}
theorem rrBox_cells (h:RrBox w b v p k):w.cell? ⟨b,0,none⟩=some v∧w.cell? ⟨b,1,none⟩=some (.int .i64 p)∧w.cell? ⟨b,2,none⟩=some (.int .i64 k):=by
 unfold RrBox at h
 refine ⟨?_,?_,?_⟩ <;> simp [World.cell?,h]
theorem rrBox_frozen (h:RrBox w b v p k) (o:Nat):w.frozen? ⟨b,o,none⟩=false:=by
 unfold RrBox at h;simp [World.frozen?,h]
theorem rrBox_lt (h:RrBox w b v p k):b<w.heap.size:=Rw.lt_of_heap h
theorem rrBox_below (h:RrBox w b v p k) (hb:Below B w w2) (hB:b<B):RrBox w2 b v p k:=by
 unfold RrBox at *;rw [hb.block b hB];exact h
theorem rrBox_at (w:World) (hb:b=w.heap.size) (v:Value) (p k:Int):RrBox (w.alloc (.cells #[v,.int .i64 p,.int .i64 k] 63)) b v p k:=by
 subst hb;unfold RrBox;show (w.heap.push _)[w.heap.size]? = _;simp
theorem rrBox_all (h:RrBox w b v p k):RrBox (((w.setCell ⟨b,0,none⟩ v2).setCell ⟨b,1,none⟩ (.int .i64 p2)).setCell ⟨b,2,none⟩ (.int .i64 k2)) b v2 p2 k2:=by
 unfold RrBox at *
 simp only [World.setCell,Array.getElem?_modify,h,if_true,Option.map_some]
 rfl
theorem rrBox_own (h:RrBox w b v p k) {B:Nat} {o:Option Addr} {n c:Nat} {l:List Int} (ho:OwnL w B (.slice o n c) l) (hb:b<B) (v2:Value) (p2 k2:Int) :
  OwnL (((w.setCell ⟨b,0,none⟩ v2).setCell ⟨b,1,none⟩ (.int .i64 p2)).setCell ⟨b,2,none⟩ (.int .i64 k2)) B (.slice o n c) l:=by
 have hvb:=Rw.owK ho
 exact Rw.own_set (Rw.own_set (Rw.own_set ho (p:=⟨b,0,none⟩) (fun h=>by have h2:=hvb _ h;simp only at h2;omega) v2) (p:=⟨b,1,none⟩) (fun h=>by have h2:=hvb _ h;simp only at h2;omega) (.int .i64 p2)) (p:=⟨b,2,none⟩) (fun h=>by have h2:=hvb _ h;simp only at h2;omega) (.int .i64 k2)
theorem rrBelow_all {B b:Nat} (h:Below B w w2) (hb:B≤b) (v2:Value) (p2 k2:Int):Below B w (((w2.setCell ⟨b,0,none⟩ v2).setCell ⟨b,1,none⟩ (.int .i64 p2)).setCell ⟨b,2,none⟩ (.int .i64 k2)) :=
 ((h.setCell (p:=⟨b,0,none⟩) hb v2).setCell (p:=⟨b,1,none⟩) hb (.int .i64 p2)).setCell (p:=⟨b,2,none⟩) hb (.int .i64 k2)
end
section
variable {n:Net} (ao:Option Addr) (cap:Nat) (fo:Option Addr) (fc:Nat) {f h:List Int} (w:World) (ck:checkN n=0) (hr:ARow w ao n.l) (hf:IRow w fo f) (hfn:fo=none→fc=0) (hF:Okf n f) {x:Int} (hx:1≤x) {p k:Nat} (P:Phs n x f h p k)
include ck hr hf hfn hF hx P
theorem rfrom_flow (q:Bool):Calls Tryz.prog 24 #[encN n ao cap,.slice fo n.l.length fc,.int .i64 x,.int .u8 (engC q)] w fun e w'=>∃ o c,e=.returned (.tuple #[.agg #[.slice o n.l.length c,.int .i64 (p:Int),.int .i64 (k:Int)],.int .i64 0])∧OwnL w' w.heap.size (.slice o n.l.length c) h∧Below w.heap.size w w':=by
 have hR:=rgO ck
 have hml:=hR.len
 have hpk:=(phs_lt hR hx P hF).1
 have hkk:=phs_walks hR hx P hF
 have hN1:=hR.n1
 have hl6:n.l.length≤1000000:=by omega
 have hE:∀ fl,Okf n fl→reE n fl x=0:=fun fl h=>by unfold reE;rw [if_neg (by simpa using h.chk ck),if_neg (by omega)]
 obtain ⟨L0,hl0⟩:=lev_exists hR f x
 have HBN:=hid ((Below.refl w.heap.size w).alloc (Nat.le_refl _) (.cells #[.int .i64 n.n,.int .i64 n.s,.int .i64 n.t,.slice ao n.l.length cap] 24))
 have HB0:=hid (HBN.out.alloc (by simp) (.cells #[.slice none 0 0,.int .i64 0,.int .i64 0] 63))
 have HN0:=hid (nbA (nbN w n.n n.s n.t (.slice ao n.l.length cap)) (.cells #[.slice none 0 0,.int .i64 0,.int .i64 0] 63))
 have HX0:=hid (rrBox_at (w.alloc (.cells #[.int .i64 n.n,.int .i64 n.s,.int .i64 n.t,.slice ao n.l.length cap] 24)) (b:=w.heap.size+1) (by simp) (.slice none 0 0) 0 0)
 have hz0:w.heap.size+1<((w.alloc (.cells #[.int .i64 n.n,.int .i64 n.s,.int .i64 n.t,.slice ao n.l.length cap] 24)).alloc (.cells #[.slice none 0 0,.int .i64 0,.int .i64 0] 63)).heap.size:=by simp
 have HR:=hid hr
 have HF:=hid hf
 have DP:=hid fun fl fo fc w' L (h3:Okf n fl) (h4:IsLev n fl x L) h1 h2=>show Calls Tryz.prog 35 #[encN n ao cap,.slice fo n.l.length fc,.int .i64 x] w' fun e w2=>e=.returned (.tuple #[.int .i64 (amt L n.t.toNat),.int .i64 0])∧Below w'.heap.size w' w2 from by
  have h:=rdeep_any n ao cap fo fc fl x L w' h1 h2 hl6 (fun _=>h4)
  rw [h3.len,hE fl h3,(lvV_ok (hE fl h3)).2.2] at h
  exact h
 have BK:=hid fun fl fo fc w' L W g (h3:Okf n fl) (h4:IsLev n fl x L) (hB:IsBlk n.l (leadL n.l fl x L (2*n.l.length)) fl x n.s n.t W g) h1 h2 hfn=>show Calls Tryz.prog 36 #[encN n ao cap,.slice fo n.l.length fc,.int .i64 x] w' fun e w2=>∃ o c oo cc,e=.returned (.tuple #[.slice o n.l.length c,.slice oo W.length cc,.int .i64 0])∧OwnL w2 w'.heap.size (.slice o n.l.length c) g∧Below w'.heap.size w' w2 from by
  have h:=rblock_own n ao cap fo fc fl x L W g w' h1 h2 hfn hl6 (fun _=>h4) (fun _=>hB)
  have e1:blG n fl x g=g:=by unfold blG;rw [if_neg (by simpa using hE fl h3)]
  have e2:blW n fl x W=W:=by unfold blW;rw [if_neg (by simpa using hE fl h3)]
  rw [h3.len,e1,e2,(blk_len h3 hx hB).1,hE fl h3] at h
  refine h.mono ?_
  rintro e w2 ⟨o,c,wv,h5,h6,h7,h8⟩
  obtain ⟨oo,cc,e3,_,_,_⟩:=h7.val
  rw [e3] at h5
  exact ⟨o,c,oo,cc,h5,h6,h8⟩
 have NX:=hid fun fl L p k (h1:IsLev n fl x L) (h2:Okf n fl) (P:Phs n x fl h (p+1) k)=>phs_next hR hx h1 h2 P
 have SP:=hid fun fl L k (h1:IsLev n fl x L) (P:Phs n x fl h 0 k)=>phs_stop hR h1 P
 have HP:=hid P
 have HL0:=hid hl0
 have HOK:=hid hF
 have HPK:=hid (show p≤500∧k≤100000000 from ⟨by omega,by
  have:p*(2*n.l.length)≤500*(2*2000):=Nat.mul_le_mul (by omega) (by omega)
  omega⟩)
 have HLLN:=hid (show ([]:List Int).length+f.length≤1099511627776 by have:=hF.len;simp;omega)
 have HFN:=hid hfn
 have HFLEN:=hid hF.len
 clear hR hml hN1 hpk hkk hl0 hr hf hF P ck hx hE hfn
 obtain ⟨n0,n1,n2,n3⟩:=nbC HN0.out
 cases q
 all_goals
  simp only [engC,Bool.false_eq_true,if_false,if_true]
  go_enter Tryz.func24,Tryz.ntmps24
  go_wp2_with fail
  refine (DP.out f fo fc _ L0 HOK.out HL0.out (HR.out.kept HB0.out) (HF.out.kept HB0.out)).mono ?_
  rintro e w2 ⟨rfl,hb⟩
  have HB1:=hid (HB0.out.trans (hb.mono HB0.out.size))
  have HN1:=hid (nbB HN0.out hb (by omega))
  have HX1:=hid (rrBox_below HX0.out hb hz0)
  have hz1:w.heap.size+1<w2.heap.size:=rrBox_lt HX1.out
  have HA3:=hid ((Below.refl w2.heap.size w2).alloc (Nat.le_refl _) (.cells #[] 2))
  have HOE:=hid (own_empty (α:=Int) (k:=1) (enc:=encI) (e:=2) w2 w2.heap.size (Nat.le_refl _))
  have HF3:=hid ((HF.out.kept HB1.out).kept HA3.out)
  have HZ3:=hid HA3.out.size
  clear hb n0 n1 n2 n3
  go_wp2_with (at_builtin;refine Rw.app elemL eIl eIo rfl (.tmp 34) (.tmp 35) rfl w2.heap.size (.slice (some ⟨w2.heap.size,0,none⟩) 0 0) ([]:List Int) rfl HOE.out fo fc f (by rw [HFLEN.out];rfl) HFN.out HF3.out HLLN.out HZ3.out ?_;intro v4 w4 hown4 hgr4;rw [List.nil_append] at hown4;obtain ⟨o4,c4,hv4,_,_,hn4,_⟩:=Rw.owR eIl hown4;rw [HFLEN.out] at hv4;subst hv4;have HO4:=hid hown4;have HG4:=hid hgr4;have HNN4:=hid hn4;clear hown4 hgr4 hn4)
  have HBT4:=hid (HB1.out.trans ((HA3.out.grown HG4.out HZ3.out (fun g hg=>by simp [Value.ownBlock] at hg;omega)).mono HB1.out.size))
  have HNT4:=hid (nbB HN1.out (HA3.out.grown HG4.out HZ3.out (fun g hg=>by simp [Value.ownBlock] at hg;omega)) (by omega))
  have HXT4:=hid (rrBox_below HX1.out (HA3.out.grown HG4.out HZ3.out (fun g hg=>by simp [Value.ownBlock] at hg;omega)) hz1)
  obtain ⟨br,hbr⟩:∃ br,br=w4.heap.size:=⟨_,rfl⟩
  have hbr2:w2.heap.size≤br:=by have h1:=HG4.out.size;have h2:=HZ3.out;omega
  have HBR:=hid hbr2
  have HBA:=hid ((Below.refl w4.heap.size w4).alloc (Nat.le_refl _) (.cells #[.slice o4 n.l.length c4,.int .i64 0,.int .i64 0] 63))
  have HXR:=hid (rrBox_at w4 hbr (.slice o4 n.l.length c4) 0 0)
  have HOR:=hid (Rw.own_base (Rw.own_below HO4.out HBA.out) (B':=w.heap.size+2) (by omega))
  have HW4:=hid hbr
  rw [← hbr]
  clear HG4 HO4 hbr hbr2
  generalize (w4.alloc (.cells #[.slice o4 n.l.length c4,.int .i64 0,.int .i64 0] 63))=w5 at *
  go_loopg [10,13,14,15] p (fun gg s10 s13 s14 s15 wr=>((∃ z,s13=z)∧(∃ z,s14=z)∧∃ z,s15=z)∧∃ (fl L:List Int) (pi ki kr ci:Nat) (oi:Option Addr),s10=.int .i64 (amt L n.t.toNat)∧pi+gg=p∧Hid (ki+kr=k)∧Hid (oi=none→ci=0)∧Hid (Okf n fl)∧Hid (IsLev n fl x L)∧Hid (Phs n x fl h gg kr)∧Hid (RrBox wr br (.slice oi n.l.length ci) pi ki)∧Hid (OwnL wr (w.heap.size+2) (.slice oi n.l.length ci) fl)∧Hid (Below w4.heap.size w4 wr))
  case atStart=>exact ⟨⟨⟨_,rfl⟩,⟨_,rfl⟩,⟨_,rfl⟩⟩,f,L0,0,0,k,c4,o4,rfl,by omega,hid (by omega),HNN4,HOK,HL0,HP,HXR,HOR,HBA⟩
  case round =>
   obtain ⟨⟨⟨z13,rfl⟩,⟨z14,rfl⟩,⟨z15,rfl⟩⟩,fl,L,pi,ki,kr,ci,oi,rfl,hpg,HKK,HNI,HOF,HLV,HPR,HXI,HOI,HBW⟩:=hrel
   have HLT4:=hid (show w.heap.size+1<w4.heap.size by have:=rrBox_lt HXT4.out;omega)
   have HNW:=hid (nbB HNT4.out HBW.out (by have:=HLT4.out;omega))
   have HXW:=hid (rrBox_below HXT4.out HBW.out HLT4.out)
   have HRW:=hid (HR.out.kept (HBT4.out.trans (HBW.out.mono HBT4.out.size)))
   have HBE:=hid (HBT4.out.trans (HBW.out.mono HBT4.out.size))
   obtain ⟨n0,n1,n2,n3⟩:=nbC HNW.out
   obtain ⟨r0,r1,r2⟩:=rrBox_cells HXI.out
   by_cases hg0:gk=0
   ·obtain ⟨hneg,hh,hk0⟩:=SP.out fl L kr HLV.out (by have h:=HPR.out;rwa [hg0] at h)
    have hpp:pi=p:=by omega
    have hkk:ki=k:=by have:=HKK.out;omega
    have hd:decide (0≤amt L n.t.toNat)=false:=by simpa using hneg
    subst hh hpp hkk
    obtain ⟨y0,y1,y2⟩:=rrBox_cells HXW.out
    have f0:=rrBox_frozen HXW.out 0
    have f1:=rrBox_frozen HXW.out 1
    have f2:=rrBox_frozen HXW.out 2
    clear hneg hk0 hpg
    generalize amt L n.t.toNat=dv at *
    go_wp2
    refine bodyPost_ret_by (results_cell_one rfl _ _ (w.heap.size+1) 63 _ (0,0) _ rfl (rrBox_all (v2:=.slice oi n.l.length ci) (p2:=(pi:Int)) (k2:=(ki:Int)) HXW.out) Tryz.underlying63 rfl (by kernel_rfl)) rfl ?_
    exact ⟨oi,ci,rfl,Rw.own_base (rrBox_own HXW.out HOI.out (by omega) _ _ _) (by omega),rrBelow_all HBE.out (by omega) _ _ _⟩
   ·obtain ⟨pr,hpr⟩:∃ pr,gk=pr+1:=⟨gk-1,by omega⟩
    obtain ⟨hpos,W,g,L2,k2,hB,hk2,hG,hl2,hP2⟩:=NX.out fl L pr kr HLV.out HOF.out (by have h:=HPR.out;rwa [hpr] at h)
    have hd:decide (0≤amt L n.t.toNat)=true:=by simpa using hpos
    have BC:=hid (BK.out fl oi ci wr L W g HOF.out HLV.out hB HRW.out (owI HOI.out) HNI.out)
    have HG:=hid hG
    have HL2:=hid hl2
    have HP2:=hid hP2
    have HPP:=hid (show pi+1+pr=p∧pr<gk∧ki+W.length+k2=k from ⟨by omega,by omega,by have:=HKK.out;omega⟩)
    have hw1:IntKind.i64.wrap ((pi:Int)+1)=(pi:Int)+1:=by have:=HPK.out;rw [IntKind.wrap_i64];omega
    have hw2:IntKind.i64.wrap ((ki:Int)+(W.length:Int))=(ki:Int)+(W.length:Int):=by have:=HPK.out;have:=HPP.out;rw [IntKind.wrap_i64];omega
    clear hpos hB hk2 hG hl2 hP2 hpr hg0 hpg
    generalize amt L n.t.toNat=dv at *
    go_wp2_with fail
    refine BC.out.mono ?_
    rintro e w6 ⟨o6,c6,oo,cc,rfl,ho,hb⟩
    obtain ⟨_,_,e6,_,_,hn6,_⟩:=Rw.owR eIl ho
    have hn6':o6=none→c6=0:=by
     simp only [Value.slice.injEq] at e6
     obtain ⟨e7,_,e8⟩:=e6
     rw [e7,e8];exact hn6
    have HN6:=hid hn6'
    clear e6 hn6 hn6'
    have HB6:=hid (HBW.out.trans (hb.mono HBW.out.size))
    have hbr5:br<wr.heap.size:=rrBox_lt HXI.out
    have hbr3:w4.heap.size≤br:=by have:=HW4.out;omega
    have HX6:=hid (rrBox_below HXI.out hb hbr5)
    have HO6:=hid ho
    have HZ6:=hid hb.size
    have HZW:=hid (show w.heap.size+2≤wr.heap.size by have:=HLT4.out;have:=HBW.out.size;omega)
    obtain ⟨y0,y1,y2⟩:=rrBox_cells HX6.out
    have f0:=rrBox_frozen HX6.out 0
    have f1:=rrBox_frozen HX6.out 1
    have f2:=rrBox_frozen HX6.out 2
    have HXA:=hid (rrBox_all (v2:=.slice o6 n.l.length c6) (p2:=(pi:Int)+1) (k2:=(ki:Int)+(W.length:Int)) HX6.out)
    have HOA:=hid (rrBox_own HX6.out HO6.out hbr5 (.slice o6 n.l.length c6) ((pi:Int)+1) ((ki:Int)+(W.length:Int)))
    have HBX:=hid (rrBelow_all HB6.out hbr3 (.slice o6 n.l.length c6) ((pi:Int)+1) ((ki:Int)+(W.length:Int)))
    clear hb ho n0 n1 n2 n3 r0 r1 r2
    go_upto_region 12 with fail
    generalize (((w6.setCell ⟨br,0,none⟩ (.slice o6 n.l.length c6)).setCell ⟨br,1,none⟩ (.int .i64 ((pi:Int)+1))).setCell ⟨br,2,none⟩ (.int .i64 ((ki:Int)+(W.length:Int))))=w7 at *
    clear y0 y1 y2 f0 f1 f2
    have HN7:=hid (nbB HNT4.out HBX.out (by have:=HLT4.out;omega))
    have HR7:=hid (HR.out.kept (HBT4.out.trans (HBX.out.mono HBT4.out.size)))
    obtain ⟨n0,n1,n2,n3⟩:=nbC HN7.out
    obtain ⟨r0,r1,r2⟩:=rrBox_cells HXA.out
    have DC:=hid (DP.out g o6 c6 w7 L2 HG.out HL2.out HR7.out (owI HOA.out))
    go_wp2_with fail
    refine DC.out.mono ?_
    rintro e w8 ⟨rfl,hb⟩
    have HB8:=hid (HBX.out.trans (hb.mono HBX.out.size))
    have HX8:=hid (rrBox_below HXA.out hb (rrBox_lt HXA.out))
    have HO8:=hid (Rw.own_base (Rw.own_below HOA.out hb) (B':=w.heap.size+2) HZW.out)
    clear hb n0 n1 n2 n3 r0 r1 r2
    go_wp2
    go_roundg pr
    case measure=>have:=HPP.out;omega
    case rel=>exact ⟨⟨⟨_,rfl⟩,⟨_,rfl⟩,⟨_,rfl⟩⟩,g,L2,pi+1,ki+W.length,k2,c6,o6,rfl,HPP.out.1,hid HPP.out.2.2,HN6,HG,HL2,HP2,HX8,HO8,HB8⟩
end
end Ne
end Go.Proofs.YtoadkckceladgaaGreat
