/-
  Rld, Rb8, Rdp
-/
import Derived.Test.YtmikbkggjlbbnaaGreatBz41
import Derived.Test.YtmikbkggjlbbnaaGreatBz40
import Derived.Test.YtmikbkggjlbbnaaGreatBz43
import Derived.Test.YtmikbkggjlbbnaaGreatBz42
import Derived.Deep.LoopGhost
import Derived.Deep.DeepCutAuto
import Derived.WalkMore
namespace Go.Proofs.YtmikbkggjlbbnaaGreat
open Go.ChangeShapes Go.WideShapes Go.ChangeAt Go.RowKit
open Lib (hid)
set_option linter.unusedVariables false
set_option linter.unusedSimpArgs false
namespace Ne
section
variable (n:Net) (ao:Option Addr) (cap:Nat) (fo:Option Addr) (fc:Nat) (f:List Int) (x:Int) (L0:List Int) (w:World) (hr:ARow w ao n.l) (hf:IRow w fo f) (hl:n.l.length≤1000000) (hL:reE n f x=0→IsLev n f x L0)
include hr hf hl hL
set_option maxRecDepth 100000 in
set_option maxHeartbeats 4000000 in
theorem rleads_any:Calls Tryz.prog 39 #[encN n ao cap,.slice fo f.length fc,.int .i64 x] w fun e w'=>∃ o c,e=.returned (.tuple #[.slice o (ldV n f x L0).length c,.int .i64 (reE n f x)])∧IRow w' o (encW (ldV n f x L0))∧Below w.heap.size w w':=by
 have WD:=hid (fun w' (h1:ARow w' ao n.l) (h2:IRow w' fo f)=>rlevels_any n ao cap fo fc f x L0 w' h1 h2 hl hL)
 have RM:=hid (fun w' (h1:ARow w' ao n.l) (h2:IRow w' fo f)=>rroom_s n ao cap fo fc f w' h1 h2 hl)
 by_cases c0:reE n f x=0
 case neg =>
  rw [(lvV_bad (L:=L0) c0).2.1]
  generalize lvV n f x L0=WV at *
  generalize reE n f x=E at *
  clear hL RM
  generalize f.length=fl at *
  obtain ⟨nn,ns,nt,l⟩:=n
  simp only at hr WD ⊢
  have HB0:=hid ((Below.refl w.heap.size w).alloc (Nat.le_refl _) (.cells #[.int .i64 nn,.int .i64 ns,.int .i64 nt,.slice ao l.length cap] 24))
  have HR:=hid (hr.kept HB0.out)
  have HF:=hid (hf.kept HB0.out)
  have c1':(E == 0)=false:=by simpa using c0
  have c1n:(E != 0)=true:=by simpa using c0
  clear hr hf c0
  go_enter Tryz.func39,Tryz.ntmps39
  go_wp2_with fail
  refine (WD.out _ HR.out HF.out).mono ?_
  rintro e w1 ⟨o,c,rfl,_,hb⟩
  have HB1:=hid (HB0.out.trans (hb.mono (by simp)))
  clear hb
  go_wp2
  go_ret2
  exact ⟨none,0,rfl,.inl rfl,HB1.out⟩
 obtain ⟨hc0,hx1⟩:=reE_ok c0
 have hR:=right_of (chkA_ok (chkF_ok hc0).1).1
 rw [(lvV_ok (L:=L0) c0).2.1,c0]
 rw [c0,(lvV_ok (L:=L0) c0).1] at WD
 rw [show roomV n f=roomL n.l f (2*n.l.length) by unfold roomV;rw [if_neg (by simpa using hc0)],roomL_len,hc0] at RM
 have HLL:=hid (hL c0).len
 rw [HLL.out] at WD
 have hN0:=hR.n0
 have hN1:=hR.n1
 have HEN:=hid (fun (j:Nat) (h:j<2*n.l.length) w' h1=>show Calls Tryz.prog 51 #[encN n ao cap,.int .i64 (j:Int)] w' fun e w2=>e=.returned (.tuple #[.int .i64 (((trF n.l j).toNat:Nat):Int),.int .i64 (((trT n.l j).toNat:Nat):Int)])∧Below w'.heap.size w' w2 by
  have:=rends_any n ao cap (j:Int) w' h1 hl (by unfold in64;omega)
  rw [enF_in h,enT_in h] at this
  have hb:=trT_bd hR h
  have hb2:=trF_bd hR h
  rwa [show (((trT n.l j).toNat:Nat):Int)=trT n.l j by omega,show (((trF n.l j).toNat:Nat):Int)=trF n.l j by omega])
 have HTB:=hid (fun (r:Nat) (hr:r<2*n.l.length)=>show (trF n.l r).toNat<n.n.toNat+1∧(trT n.l r).toNat<n.n.toNat+1 by
  have hb:=trF_bd hR hr;have hb2:=trT_bd hR hr;omega)
 have HLV:=hid (fun i (h:i<n.n.toNat+1)=>show -1≤amt L0 i∧amt L0 i<500 by have:=lev_lt hR (hL c0) h;omega)
 have HRA:=hid (fun i (h:i<2*n.l.length)=>roomL_at n.l f h)
 have HRN:=hid (roomL_len n.l f (2*n.l.length))
 have HHIT:=hid (fun (k:Nat) (h1:x≤roomN n.l f k) (h2:0≤amt L0 (trF n.l k).toNat) (h3:amt L0 (trT n.l k).toNat=amt L0 (trF n.l k).toNat+1)=>show encW (leadL n.l f x L0 (k+1))=encW (leadL n.l f x L0 k) ++ [(k:Int)] by rw [leadL_hit (by unfold leadB;simp [h1,h2,h3]),encW_snoc])
 have HMISS:=hid (fun (k:Nat) (h:¬ (x≤roomN n.l f k∧0≤amt L0 (trF n.l k).toNat∧amt L0 (trT n.l k).toNat=amt L0 (trF n.l k).toNat+1))=>show encW (leadL n.l f x L0 (k+1))=encW (leadL n.l f x L0 k) by
  rw [leadL_miss (by rw [Bool.eq_false_iff];intro h2;unfold leadB at h2;simp at h2;exact h h2)])
 have HFL:=hid (fun (k:Nat)=>show (encW (leadL n.l f x L0 k)).length≤k by rw [encW_len];exact leadL_len _ _ _ _ _)
 have HFE:=hid (encW_len (leadL n.l f x L0 (2*n.l.length)))
 have HF0:=hid (show encW (leadL n.l f x L0 0)=[] from rfl)
 obtain ⟨FL,hFL⟩:∃ FL,FL=fun k=>encW (leadL n.l f x L0 k):=⟨_,rfl⟩
 have HFLE:=hid (show ∀ k,encW (leadL n.l f x L0 k)=FL k from fun k=>by rw [hFL])
 clear hFL
 rw [← HFE.out]
 simp only [HFLE.out] at HHIT HMISS HFL HF0 ⊢
 clear HFLE HFE hL c0 hc0 hx1 hR
 generalize roomL n.l f (2*n.l.length)=RL at *
 generalize roomN n.l f=RO at *
 generalize f.length=fl at *
 generalize hTT:(fun j=>(trT n.l j).toNat)=TT at *
 generalize hTF:(fun j=>(trF n.l j).toNat)=TF at *
 have HTE:=hid (show ∀ j,(trT n.l j).toNat=TT j from fun j=>by rw [← hTT])
 have HTG:=hid (show ∀ j,(trF n.l j).toNat=TF j from fun j=>by rw [← hTF])
 clear hTT hTF
 simp only [HTE.out,HTG.out] at HEN HTB HHIT HMISS
 clear HTE HTG
 obtain ⟨nn,ns,nt,l⟩:=n
 simp only at hr hl WD RM HLL hN0 hN1 HEN HTB HLV HRA HRN ⊢
 obtain ⟨N,rfl⟩:∃ N:Nat,nn=(N:Int):=⟨nn.toNat,by omega⟩
 simp only [Int.toNat_natCast] at HLL WD HTB HLV ⊢
 have HB0:=hid ((Below.refl w.heap.size w).alloc (Nat.le_refl _) (.cells #[.int .i64 (N:Int),.int .i64 ns,.int .i64 nt,.slice ao l.length cap] 24))
 have HN0:=hid (netBox_new w (N:Int) ns nt (.slice ao l.length cap))
 have HR:=hid (hr.kept HB0.out)
 have HF:=hid (hf.kept HB0.out)
 clear hr hf
 go_enter Tryz.func39,Tryz.ntmps39
 go_wp2_with fail
 refine (WD.out _ HR.out HF.out).mono ?_
 rintro e w1 ⟨lo,lc,rfl,hi,hb⟩
 have HB1:=hid (HB0.out.trans (hb.mono (by simp)))
 have HN1:=hid (netBox_below HN0.out hb (by simp))
 have HR1:=hid (HR.out.kept hb)
 have HF1:=hid (HF.out.kept hb)
 have HL1:=hid hi
 obtain ⟨n0,n1,n2,n3⟩:=netBox_cells HN1.out
 clear hb hi HB0 HN0 HR HF WD
 go_wp2_with fail
 refine (RM.out _ HR1.out HF1.out).mono ?_
 rintro e WX ⟨o2,c2,rfl,hi,hb⟩
 have HBX:=hid (HB1.out.trans (hb.mono HB1.out.size))
 have HNX:=hid (netBox_below HN1.out hb (netBox_lt HN1.out))
 have HRX:=hid (HR1.out.kept hb)
 have HLX:=hid (HL1.out.kept hb)
 have HRI:=hid hi
 clear hb hi n0 n1 n2 n3 HB1 HN1 HR1 HF1 HL1 RM
 go_wp2
 go_loopw [12,13] (fun s i wr=>∃ (v:Value) (j:Nat),v=s∧i=.int .i64 j∧j≤2*l.length∧Hid (OwnI wr WX.heap.size v (FL j))∧Hid (Below WX.heap.size WX wr)) (fun _ i _=>2*l.length-(intOf i).toNat)
 case atStart=>exact ⟨_,0,rfl,rfl,Nat.zero_le _,hid (by rw [HF0.out];exact Rw.own_nil _ _),hid (Below.refl _ _)⟩
 case round =>
  obtain ⟨v,j,rfl,rfl,hj,HOW,HBW⟩:=hrel
  by_cases hlt:j<2*l.length
  ·have hji:(j:Int)<2*(l.length:Int):=by omega
   have hj0:(0:Int)≤(j:Int):=by omega
   have HN8:=hid (netBox_below HNX.out HBW.out (netBox_lt HNX.out))
   obtain ⟨n0,n1,n2,n3⟩:=netBox_cells HN8.out
   have EN:=hid (fun w'=>HEN.out j hlt w')
   obtain ⟨hta,htb⟩:=HTB.out j hlt
   have HRr:=hid (HRA.out j hlt)
   have HH:=hid (HHIT.out j)
   have HMS:=hid (HMISS.out j)
   have HLN:=hid (show (FL j).length+([(j:Int)]:List Int).length≤1099511627776 by have:=HFL.out j;simp;omega)
   generalize TF j=a at *
   generalize TT j=b at *
   have hai:(a:Int)<(N:Int)+1:=by omega
   have ha0:(0:Int)≤(a:Int):=by omega
   have hbi:(b:Int)<(N:Int)+1:=by omega
   have hb0:(0:Int)≤(b:Int):=by omega
   go_wp2_with fail
   refine (EN.out _ (HRX.out.kept HBW.out)).mono ?_
   rintro e w3 ⟨rfl,hb⟩
   have HB3:=hid (HBW.out.trans (hb.mono HBW.out.size))
   have HO3:=hid (Rw.own_below HOW.out hb)
   obtain ⟨b5,o5,rfl,hbl5,d0⟩:=irow_cell (HRI.out.kept HB3.out) (i:=j) (by rw [HRN.out];exact hlt)
   rw [HRr.out] at d0
   obtain ⟨b6,o6,rfl,hbl6,ma⟩:=irow_cell (HLX.out.kept HB3.out) (i:=a) (by rw [HLL.out];exact hta)
   obtain ⟨b7,o7,he7,hbl7,mb⟩:=irow_cell (HLX.out.kept HB3.out) (i:=b) (by rw [HLL.out];exact htb)
   simp only [Option.some.injEq,Addr.mk.injEq,and_true] at he7
   obtain ⟨rfl,rfl⟩:=he7
   obtain ⟨hA0,hA1⟩:=HLV.out a hta
   generalize RO j=rr at *
   generalize amt L0 a=A at *
   generalize amt L0 b=B at *
   have hwA:IntKind.i64.wrap (A+1)=A+1:=by rw [IntKind.wrap_i64];omega
   clear hb n0 n1 n2 n3 hbl7
   by_cases p1:x≤rr
   ·have p1':decide (x≤rr)=true:=by simpa using p1
    by_cases p2:0≤A
    ·have p2':decide (0≤A)=true:=by simpa using p2
     by_cases p3:B=A+1
     ·have p3':(B == A+1)=true:=by simpa using p3
      have HST:=hid (HH.out p1 p2 p3)
      have HO4:=hid (fun q=>show OwnI ((w3.drewN q).alloc (.cells #[.int .i64 (j:Int)] 3)) WX.heap.size v (FL j) from Rw.own_alloc HO3.out _)
      have HR4:=hid (fun q=>irow_one' (w3.drewN q) rfl (j:Int) 3)
      have hvb:=Rw.own_block HO3.out
      have HB4:=hid (fun q=>(below_dn HB3.out q).alloc (by exact HB3.out.size) (.cells #[.int .i64 (j:Int)] 3))
      clear p1 p2 p3 HH HMS
      go_wp2
      go_quiet (fail)
      go_wp2_with (at_builtin;refine Rw.app elemI encI_len encI_one rfl (.tmp 69) (.tmp 71) rfl WX.heap.size _ (FL j) rfl (HO4.out _) (some ⟨w3.heap.size,0,none⟩) 1 [(j:Int)] rfl ?hnn (HR4.out _) HLN.out ?hB ?_;(case hnn=>(intro h;cases h));(case hB=>(exact (HB4.out _).size));intro v4 w4 hown4 hgr4;rw [← HST.out] at hown4;have HB5:=hid ((HB4.out _).grown hgr4 (HB4.out _).size hvb);have HO5:=hid hown4;clear hown4 hgr4)
      go_roundw
      case rel=>exact ⟨_,j+1,rfl,by go_num,by omega,HO5,HB5⟩
      case measure=>simp [intOf];omega
     ·have p3':(B == A+1)=false:=by simpa using p3
      have HST:=hid (HMS.out (fun h=>p3 h.2.2))
      have HO4:=hid (fun q=>show OwnI (w3.drewN q) WX.heap.size v (FL (j+1)) by rw [HST.out];exact HO3.out)
      clear p1 p2 p3 HH HMS
      go_wp2
      go_quiet (fail)
      go_wp2
      go_roundw
      case rel=>exact ⟨_,j+1,rfl,by go_num,by omega,hid (HO4.out _),hid (below_dn HB3.out _)⟩
      case measure=>simp [intOf];omega
    ·have p2':decide (0≤A)=false:=by simpa using p2
     have HST:=hid (HMS.out (fun h=>p2 h.2.1))
     have HO4:=hid (fun q=>show OwnI (w3.drewN q) WX.heap.size v (FL (j+1)) by rw [HST.out];exact HO3.out)
     clear p1 p2 HH HMS
     go_wp2
     go_quiet (fail)
     go_wp2
     go_roundw
     case rel=>exact ⟨_,j+1,rfl,by go_num,by omega,hid (HO4.out _),hid (below_dn HB3.out _)⟩
     case measure=>simp [intOf];omega
   ·have p1':decide (x≤rr)=false:=by simpa using p1
    have HST:=hid (HMS.out (fun h=>p1 h.1))
    have HO4:=hid (fun q=>show OwnI (w3.drewN q) WX.heap.size v (FL (j+1)) by rw [HST.out];exact HO3.out)
    clear p1 HH HMS
    go_wp2
    go_quiet (fail)
    go_wp2
    go_roundw
    case rel=>exact ⟨_,j+1,rfl,by go_num,by omega,hid (HO4.out _),hid (below_dn HB3.out _)⟩
    case measure=>simp [intOf];omega
  ·have ej:j=2*l.length:=by omega
   subst ej
   have HBE:=hid (HBX.out.trans (HBW.out.mono HBX.out.size))
   obtain ⟨o9,c9,hv9,_,_,_,hi9,_,_⟩:=Rw.own_row encI_len HOW.out
   subst hv9
   have HI9:=hid hi9
   have hlt2:¬ (2*(l.length:Int)<2*(l.length:Int)):=by omega
   clear hlt hj hi9
   go_wp2
   go_ret2
   exact ⟨_,⟨_,rfl⟩,HI9.out,HBE.out⟩
end
end Ne
namespace Ne
theorem row_nat {w:World} {o:Option Addr} {R:List Nat} (h:IRow w o (encW R)) (hR:0<R.length):∃ b off,o=some ⟨b,off,none⟩∧b<w.heap.size∧∀ i,i<R.length→w.cell? ⟨b,off+i,none⟩=some (.int .i64 ((R.getD i 0:Nat):Int)):=by
 obtain ⟨b,off,rfl,hb,_⟩:=irow_cell h (i:=0) (by rw [encW_len];exact hR)
 refine ⟨b,off,rfl,hb,fun i hi=>?_⟩
 obtain ⟨b',off',e,_,hc⟩:=irow_cell h (i:=i) (by rw [encW_len];exact hi)
 cases e
 rw [encW_at hi] at hc
 exact hc
theorem row_int {w:World} {o:Option Addr} {R:List Int} (h:IRow w o R) (hR:0<R.length):∃ b off,o=some ⟨b,off,none⟩∧b<w.heap.size∧∀ i,i<R.length→w.cell? ⟨b,off+i,none⟩=some (.int .i64 (amt R i)):=by
 obtain ⟨b,off,rfl,hb,_⟩:=irow_cell h (i:=0) hR
 refine ⟨b,off,rfl,hb,fun i hi=>?_⟩
 obtain ⟨b',off',e,_,hc⟩:=irow_cell h (i:=i) hi
 cases e
 exact hc
set_option maxRecDepth 100000 in
set_option maxHeartbeats 8000000 in
theorem rblock_own (n:Net) (ao:Option Addr) (cap:Nat) (fo:Option Addr) (fc:Nat) (f:List Int) (x:Int) (L0:List Int) (W0:List (List Nat × Int)) (g0:List Int) (w:World) (hr:ARow w ao n.l) (hf:IRow w fo f) (hfn:fo=none→fc=0) (hl:n.l.length≤1000000) (hL:reE n f x=0→IsLev n f x L0)
  (hB:reE n f x=0→IsBlk n.l (leadL n.l f x L0 (2*n.l.length)) f x n.s n.t W0 g0) :
  Calls Tryz.prog 30 #[encN n ao cap,.slice fo f.length fc,.int .i64 x] w fun e w'=>∃ o c wv,e=.returned (.tuple #[.slice o (blG n f x g0).length c,wv,.int .i64 (reE n f x)])∧OwnL w' w.heap.size (.slice o (blG n f x g0).length c) (blG n f x g0)∧WkR 93 w' w.heap.size wv (blW n f x W0)∧Below w.heap.size w w':=by
 have HB0:=hid ((Below.refl w.heap.size w).alloc (Nat.le_refl _) (.cells #[.int .i64 n.n,.int .i64 n.s,.int .i64 n.t,.slice ao n.l.length cap] 24))
 have HN0:=hid (netBox_new w n.n n.s n.t (.slice ao n.l.length cap))
 obtain ⟨n0,n1,n2,n3⟩:=netBox_cells HN0.out
 have LD:=hid (fun w' h1 h2=>rleads_any n ao cap fo fc f x L0 w' h1 h2 hl hL)
 have HR:=hid hr
 have HF:=hid hf
 by_cases c0:reE n f x=0
 case neg =>
  have e1:blG n f x g0=[]:=by unfold blG;rw [if_pos c0]
  have e2:blW n f x W0=[]:=by unfold blW;rw [if_pos c0]
  rw [e1,e2]
  have c0':(reE n f x != 0)=true:=by simpa using c0
  have HC0:=hid c0
  clear c0 hL hB hr hf hl e1 e2
  generalize ldV n f x L0=LV at *
  generalize reE n f x=re at *
  go_enter Tryz.func30,Tryz.ntmps30
  go_wp2_with fail
  refine (LD.out _ (HR.out.kept HB0.out) (HF.out.kept HB0.out)).mono ?_
  rintro e w2 ⟨o,c,rfl,_,hb⟩
  have HB2:=hid (HB0.out.trans (hb.mono HB0.out.size))
  clear hb n0 n1 n2 n3
  go_wp2
  go_ret3
  exact ⟨none,0,_,rfl,Rw.own_nil _ _,wkr_nil _ _ _,HB2.out⟩
 obtain ⟨hck,hx⟩:=reE_ok c0
 obtain ⟨ck,hF⟩:=okf_of hck
 have hR:=right_of ck
 have hlev:=hL c0
 have e1:blG n f x g0=g0:=by unfold blG;rw [if_neg (by simpa using c0)]
 have e2:blW n f x W0=W0:=by unfold blW;rw [if_neg (by simpa using c0)]
 have e3:=(lvV_ok (L:=L0) c0).2.1
 have hLd:=lds_of n.l f x L0
 have hK:∀ r∈leadL n.l f x L0 (2*n.l.length),amt L0 (trT n.l r).toNat≤n.n:=fun r hr=>by
  have hb:=trT_bd hR (hLd.lt r hr)
  have:=(lev_lt hR hlev (i:=(trT n.l r).toNat) (by omega)).2
  omega
 have hblk:=hB c0
 have hTL:=leadL_len n.l f x L0 (2*n.l.length)
 rw [e1,e2,c0]
 rw [e3,c0] at LD
 generalize leadL n.l f x L0 (2*n.l.length)=TL at *
 have hLL:=hR.len
 have hTL2:TL.length≤1000000:=by omega
 have hfl:=hF.len
 have NX:=hid (fun g lo lc lo' llc w' (h1:Okf n g) h2 h3 h4 o (h5:IsNext n.l TL g x n.s n.t o)=>rnext_any ao cap x lo' llc lo lc w' ck h2 h3 h1 hLd hTL2 hK h4 h5)
 have RO:=hid (fun g lo lc w' (h1:Okf n g) h2 h3=>show Calls Tryz.prog 41 #[encN n ao cap,.slice lo n.l.length lc] w' fun e w2=>∃ ro rc,e=.returned (.tuple #[.slice ro (2*n.l.length) rc,.int .i64 0])∧IRow w2 ro (roomL n.l g (2*n.l.length))∧Below w'.heap.size w' w2 by
  have h:=rroom_s n ao cap lo lc g w' h2 h3 hl
  have e:roomV n g=roomL n.l g (2*n.l.length):=by unfold roomV;rw [if_neg (by simpa using h1.chk ck)]
  rwa [e,h1.chk ck,h1.len,roomL_len] at h)
 have NE:=hid (fun g=>next_exists (TL:=TL) (g:=g) (x:=x) (s:=n.s) (t:=n.t) hLd)
 have ST:=hid (fun g (h1:Okf n g) R (h3:FirstW n.l TL g x n.t n.s R)=>blk_step ck hLd hx h1 (srch_start hR hLd g x) h3)
 have PU:=hid (fun g (hg:g.length=n.l.length) lo lc wo wc W a w' h1 h2 h3 h4 h5 h6=>show Calls Tryz.prog 42 #[encN n ao cap,.slice lo n.l.length lc,.slice wo W.length wc,.int .i64 a] w' fun e w2=>∃ v,e=.returned (.tuple #[v,.int .i64 (pushE n g W a)])∧OwnL w2 w'.heap.size v (pushV n g W a)∧Below w'.heap.size w' w2 by
  have h:=rpush_any n ao cap lo lc g wo wc W a w' h1 h2 h3 hl h4 h5 h6
  rwa [hg] at h)
 have HONE:=hid (fun W g (h1:BlkW n.l TL x n.s n.t f W g) (h2:IsNext n.l TL g x n.s n.t none)=>blk_one ⟨h1,h2⟩ hblk)
 have HSNO:=hid (fun W g R a g2 (h1:BlkW n.l TL x n.s n.t f W g) (h2:FirstW n.l TL g x n.t n.s R) (h3:Least n.l g R a) (h4:pushN n.l g a (encW R)=some g2)=>blkW_snoc h1 h2 h3 h4)
 have HWL:=hid (fun Ws gl (h:BlkW n.l TL x n.s n.t f Ws gl)=>show Ws.length≤1000000 by
  have h1:=(blkW_facts hLd hx hfl h).2
  have h2:=left_le n.l TL x f
  omega)
 have HOK:=hid hF
 have HG0:=hid (show g0.length=n.l.length from ((blkW_facts hLd hx hfl hblk.1).1).len)
 have HX:=hid hx
 have HLLN:=hid (show ([]:List Int).length+f.length≤1099511627776 by simp;omega)
 have HBK0:=hid (show BlkW n.l TL x n.s n.t f [] f from .nil f)
 have HFN:=hid hfn
 have HFLEN:=hid hfl
 have HR2:=hid (show ∀ g r,r<2*n.l.length→amt (roomL n.l g (2*n.l.length)) r=roomN n.l g r from fun g r h=>roomL_at _ _ h)
 clear hL hB hr hf hl e1 e2 e3 hblk hF hck c0 hLd hfn hK hlev
 rw [hfl]
 rw [hfl] at LD
 clear hTL hTL2 hx hfl
 go_enter Tryz.func30,Tryz.ntmps30
 go_wp2_with fail
 refine (LD.out _ (HR.out.kept HB0.out) (HF.out.kept HB0.out)).mono ?_
 rintro e w2 ⟨lo',lc,rfl,hli,hb⟩
 have HB2:=hid (HB0.out.trans (hb.mono HB0.out.size))
 have HN2:=hid (netBox_below HN0.out hb (netBox_lt HN0.out))
 have HLI:=hid hli
 clear hli hb n0 n1 n2 n3
 obtain ⟨B1,hB1⟩:∃ B1,B1=w2.heap.size:=⟨_,rfl⟩
 have HA3:=hid ((Below.refl w2.heap.size w2).alloc (Nat.le_refl _) (.cells #[] 2))
 have HOE:=hid (show OwnL (w2.alloc (.cells #[] 2)) B1 (.slice (some ⟨w2.heap.size,0,none⟩) 0 0) ([]:List Int) by rw [hB1];exact own_empty w2 _ (Nat.le_refl _))
 have HF3:=hid ((HF.out.kept HB2.out).kept HA3.out)
 have HZ3:=hid (show B1≤(w2.alloc (.cells #[] 2)).heap.size by rw [hB1];simp)
 have HWB:=hid (show w.heap.size<B1 by rw [hB1];exact netBox_lt HN2.out)
 have HB1:=hid hB1
 clear hB1
 go_wp2_with (at_builtin;refine Rw.app elemL encI_len encI_one rfl (.tmp 31) (.tmp 32) rfl B1 (.slice (some ⟨w2.heap.size,0,none⟩) 0 0) ([]:List Int) rfl HOE.out fo fc f (by rw [HFLEN.out];rfl) HFN.out HF3.out HLLN.out HZ3.out ?_;intro v4 w4 hown4 hgr4;rw [List.nil_append] at hown4;have HO4:=hid hown4;have HG4:=hid hgr4;clear hown4 hgr4)
 obtain ⟨l4,lc4,hv4,_,_,_,_,_,_⟩:=Rw.own_row encI_len HO4.out
 rw [HFLEN.out] at hv4
 subst hv4
 have HBT4:=hid ((show Below B1 w2 (w2.alloc (.cells #[] 2)) by rw [HB1.out];exact HA3.out).grown HG4.out HZ3.out (fun g hg=>by simp [Value.ownBlock] at hg;have:=HB1.out;omega))
 have HBS4:=hid (Nat.le_trans HZ3.out HG4.out.size)
 clear HG4 HOE
 go_loopg [11,12] (left n.l TL x f) (fun g s11 s12 wr=>∃ (gl:List Int) (Ws:List (List Nat × Int)) (lo4:Option Addr) (lc4:Nat) (wv:Value),s11=.slice lo4 n.l.length lc4∧wv=s12∧Hid (g=left n.l TL x gl)∧Hid (BlkW n.l TL x n.s n.t f Ws gl)∧Hid (Okf n gl)∧Hid (OwnL wr B1 (.slice lo4 n.l.length lc4) gl)∧Hid (WkR 93 wr B1 wv Ws)∧Hid (Below B1 w2 wr)∧Hid (B1≤wr.heap.size))
 case atStart=>exact ⟨f,[],l4,lc4,_,rfl,rfl,rfl,HBK0,HOK,HO4,hid (wkr_nil _ _ _),HBT4,HBS4⟩
 case round =>
  obtain ⟨gl,Ws,lo4,lc4,wv,rfl,rfl,HG,HBK,HOF,HLO,HWK,HBW,HBS⟩:=hrel
  obtain ⟨o,ho⟩:=NE.out gl
  have hB12:B1≤w2.heap.size:=by rw [HB1.out];exact Nat.le_refl _
  have HB2W:=hid (show Below w2.heap.size w2 wr by have:=HBW.out;rwa [HB1.out] at this)
  have HRW:=hid ((HR.out.kept HB2.out).kept HB2W.out)
  have HNW:=hid (netBox_below HN2.out HB2W.out (netBox_lt HN2.out))
  have NXC:=hid (NX.out gl lo4 lc4 lo' lc wr HOF.out HRW.out (own_irow HLO.out) (HLI.out.kept HB2W.out) o ho)
  obtain ⟨n0,n1,n2,n3⟩:=netBox_cells HNW.out
  have HNXT:=hid ho
  have HBE:=hid (HB2.out.trans (HB2W.out.mono HB2.out.size))
  clear ho hB12
  go_wp2_with fail
  refine NXC.out.mono ?_
  rintro e w5 ⟨hnr,hb⟩
  obtain ⟨va,vb,rfl,hns⟩:=nx_slots hnr HBS.out
  have HNS:=hid hns
  have HB5:=hid (HB2W.out.trans (hb.mono HB2W.out.size))
  have HLO5:=hid (Rw.own_below HLO.out hb)
  have HWK5:=hid (HWK.out.kept hb)
  have HBS5:=hid (Nat.le_trans HBS.out hb.size)
  have HBE5:=hid (HBE.out.trans (hb.mono HBE.out.size))
  clear hb hnr hns n0 n1 n2 n3
  rcases o with _ | R
  ·obtain ⟨rfl,rfl⟩:=HONE.out Ws gl HBK.out HNXT.out
   obtain ⟨rfl,rfl⟩:=HNS.out
   obtain ⟨o9,c9,rfl,_,_,_⟩:=HWK5.out.val
   have HIR:=hid (own_irow HLO5.out)
   have HWE:=hid (HWK5.out.base (B':=w.heap.size) (by have:=HWB.out;omega))
   go_wp2
   go_ret3
   exact ⟨lo4,lc4,.slice o9 Ws.length c9,by rw [HG0.out];rfl,by rw [HG0.out];exact Rw.own_base HLO5.out (by have:=HWB.out;omega),HWE.out,HBE5.out⟩
  ·obtain ⟨rfl,hov⟩:=HNS.out
   obtain ⟨R0,R',g2,rfl,stp⟩:=ST.out gl HOF.out R HNXT.out
   have HSNO2:=hid (HSNO.out Ws gl (R0 :: R') _ g2 HBK.out HNXT.out stp.least stp.pN)
   have HMEQ:=hid (show ∀ m,m=minL (roomL n.l gl (2*n.l.length)) (amt (roomL n.l gl (2*n.l.length)) R0) (R0 :: R')→m=minL (roomL n.l gl (2*n.l.length)) (amt (roomL n.l gl (2*n.l.length)) R0) (R0 :: R') from fun m h=>h)
   obtain ⟨ot,ct,hot,_,_,_,_,_,_⟩:=Rw.own_row encI_len hov
   subst hot
   rw [encW_len] at hov ⊢
   have HOV:=hid hov
   have hlt:=stp.lt
   have h64:=stp.b64
   have HRR:=hid (show ∀ k,k<(R0 :: R').length→(R0 :: R').getD k 0<2*n.l.length∧0≤amt (roomL n.l gl (2*n.l.length)) ((R0 :: R').getD k 0)∧amt (roomL n.l gl (2*n.l.length)) ((R0 :: R').getD k 0)≤4611686018427387904 from fun k hk=>⟨hlt _ (getD_mem hk),h64 _ (getD_mem hk)⟩)
   have HMN:=hid (show ∀ k,k<(R0 :: R').length→minL (roomL n.l gl (2*n.l.length)) (amt (roomL n.l gl (2*n.l.length)) R0) ((R0 :: R').take (k+1))=min (minL (roomL n.l gl (2*n.l.length)) (amt (roomL n.l gl (2*n.l.length)) R0) ((R0 :: R').take k)) (amt (roomL n.l gl (2*n.l.length)) ((R0 :: R').getD k 0)) from fun k hk=>by rw [take_getD hk,minL_snoc])
   have hR0:=hlt R0 (by simp)
   have HM0:=hid (show 0≤amt (roomL n.l gl (2*n.l.length)) R0∧amt (roomL n.l gl (2*n.l.length)) R0≤4611686018427387904 from h64 R0 (by simp))
   obtain ⟨R,hRd⟩:∃ R,R=R0 :: R':=⟨_,rfl⟩
   have hgl:=HOF.out.len
   have HPE:=hid stp.pE
   have HPV:=hid stp.pV
   have HLEN:=hid stp.len
   have H64:=hid stp.tr64
   have HA64:=hid (show in64 (minL (roomL n.l gl (2*n.l.length)) (amt (roomL n.l gl (2*n.l.length)) R0) (R0 :: R')) by have:=stp.a64;have:=HX.out;unfold in64;omega)
   have HOF2:=hid stp.flow
   have HLF:=hid stp.left
   have hK0:0<(R0 :: R').length:=by simp
   have HR00:=hid (show (R0 :: R').getD 0 0=R0 from rfl)
   rw [← hRd] at HOV HPE HPV HLEN H64 HSNO2 HRR HMN HA64 HMEQ hK0 HR00 ⊢
   obtain ⟨K,hK⟩:∃ K,K=R.length:=⟨_,rfl⟩
   rw [← hK] at HOV HLEN HRR HMN hK0 ⊢
   have HK:=hid hK
   have HGL:=hid hgl
   have HTA:=hid (show R.take K=R by rw [hK];exact List.take_length)
   have RC:=hid (RO.out gl lo4 lc4 w5 HOF.out ((HR.out.kept HB2.out).kept HB5.out) (own_irow HLO5.out))
   have HNW5:=hid (netBox_below HN2.out HB5.out (netBox_lt HN2.out))
   have HRLL:=hid (show (roomL n.l gl (2*n.l.length)).length=2*n.l.length from roomL_len _ _ _)
   have hR0l:=hR0
   clear stp hov hRd hK hgl hlt h64 HNS
   generalize roomL n.l gl (2*n.l.length)=RL at *
   generalize hm00:amt RL R0=m0 at *
   have HM00:=hid hm00
   clear hm00
   obtain ⟨n0,n1,n2,n3⟩:=netBox_cells HNW5.out
   go_wp2_with fail
   refine RC.out.mono ?_
   rintro e w6 ⟨ro,rc,rfl,hir,hb⟩
   have HB6:=hid (HB5.out.trans (hb.mono HB5.out.size))
   have HLO6:=hid (Rw.own_below HLO5.out hb)
   have HWK6:=hid (HWK5.out.kept hb)
   have HOV6:=hid (Rw.own_below HOV.out hb)
   have HBS6:=hid (Nat.le_trans HBS5.out hb.size)
   obtain ⟨bt,offt,rfl,hbt,hct⟩:=row_nat (own_irow HOV6.out) (by rw [← HK.out];exact hK0)
   rw [← HK.out] at hct
   obtain ⟨br,offr,rfl,hbr,hcr⟩:=row_int hir (by rw [HRLL.out];omega)
   rw [HRLL.out] at hcr
   have HCT:=hid hct
   have HCR:=hid hcr
   have HBTL:=hid hbt
   have HBRL:=hid hbr
   have t0:=hct 0 hK0
   rw [HR00.out,Nat.add_zero] at t0
   have r0:=hcr R0 hR0l
   rw [HM00.out] at r0
   have hKi:(0:Int)<(K:Int):=by omega
   have hRi:(R0:Int)<2*(n.l.length:Int):=by omega
   have hRi2:(R0:Int)<((2*n.l.length:Nat):Int):=by omega
   have hR00:(0:Int)≤(R0:Int):=by omega
   clear hb hir hct hcr n0 n1 n2 n3
   go_wp2
   clear t0 r0
   go_loopw [17,18] (fun s17 i wy=>∃ (k:Nat) (m:Int),s17=.int .i64 m∧i=.int .i64 k∧k≤K∧Hid (m=minL RL m0 (R.take k))∧Hid (0≤m∧m≤4611686018427387904)∧Hid (Below w6.heap.size w6 wy)) (fun _ i _=>K-(intOf i).toNat)
   case atStart=>exact ⟨0,m0,rfl,rfl,Nat.zero_le _,rfl,HM0,hid (Below.refl _ _)⟩
   case round =>
    obtain ⟨k,m,rfl,rfl,hk,HM,HMB,HBY⟩:=hrel
    by_cases hlt:k<K
    ·have d0:=(HBY.out.cell (p:=⟨bt,offt+k,none⟩) HBTL.out).trans (HCT.out k hlt)
     obtain ⟨hr2,hb1,hb2⟩:=HRR.out k hlt
     have e0:=(HBY.out.cell (p:=⟨br,offr+R.getD k 0,none⟩) HBRL.out).trans (HCR.out _ hr2)
     have HS:=hid (HMN.out k hlt)
     generalize amt RL (R.getD k 0)=rm at *
     generalize R.getD k 0=r at *
     have hki:(k:Int)<(K:Int):=by omega
     have hk0:(0:Int)≤(k:Int):=by omega
     have hkw:IntKind.i64.wrap ((k:Int)+1)=(k:Int)+1:=by have:=HLEN.out;rw [IntKind.wrap_i64];omega
     have hri:(r:Int)<2*(n.l.length:Int):=by omega
     have hri2:(r:Int)<((2*n.l.length:Nat):Int):=by omega
     have hr0:(0:Int)≤(r:Int):=by omega
     have HMB2:=hid (show 0≤min m rm∧min m rm≤4611686018427387904 by have:=HMB.out;omega)
     have HM2:=hid (show min m rm=minL RL m0 (R.take (k+1)) by rw [HS.out,← HM.out])
     go_wp2
     refine ⟨?rel,?measure⟩
     case rel=>exact ⟨k+1,_,rfl,by go_num,by omega,HM2,HMB2,HBY⟩
     case measure=>simp [intOf];omega
    ·have ek:K=k:=by omega
     subst ek
     have HME:=hid (show m=minL RL m0 R by rw [HM.out,HTA.out])
     rw [← HME.out] at HPE HPV HSNO2 HA64
     clear hlt HMEQ
     have HB7:=hid (HB6.out.trans (HBY.out.mono HB6.out.size))
     have HLO7:=hid (Rw.own_below HLO6.out HBY.out)
     have HWK7:=hid (HWK6.out.kept HBY.out)
     have HOV7:=hid (Rw.own_below HOV6.out HBY.out)
     have HBS7:=hid (Nat.le_trans HBS6.out HBY.out.size)
     have HNW7:=hid (netBox_below HN2.out HB7.out (netBox_lt HN2.out))
     have PC:=hid (PU.out gl HGL.out lo4 lc4 (some ⟨bt,offt,none⟩) ct (encW R) m wr ((HR.out.kept HB2.out).kept HB7.out) (own_irow HLO7.out) (own_irow HOV7.out) (by rw [encW_len,← HK.out];exact HLEN.out) H64.out HA64.out)
     rw [HPE.out,HPV.out,encW_len,← HK.out] at PC
     obtain ⟨n0,n1,n2,n3⟩:=netBox_cells HNW7.out
     go_wp2_with fail
     refine PC.out.mono ?_
     rintro e w8 ⟨v8,rfl,hown8,hb⟩
     obtain ⟨l8,lc8,hv8,_,_,_,_,_,_⟩:=Rw.own_row encI_len hown8
     subst hv8
     rw [HOF2.out.len] at hown8
     rw [HOF2.out.len]
     have HLO8:=hid (Rw.own_base hown8 (B':=B1) HBS7.out)
     have HB8:=hid (HB7.out.trans (hb.mono HB7.out.size))
     have HWK8:=hid (HWK7.out.kept hb)
     have HOV8:=hid (Rw.own_below HOV7.out hb)
     have HBS8:=hid (Nat.le_trans HBS7.out hb.size)
     clear n0 n1 n2 n3 hb hown8
     obtain ⟨Ks,k1,k2,k3⟩:=HWK8.out
     have HK2:=hid k2
     have HA9:=hid ((Below.refl w8.heap.size w8).alloc (Nat.le_refl _) (.cells #[.slice (some ⟨bt,offt,none⟩) K ct,.int .i64 m] 93))
     have HKA:=hid (Rw.own_below k1 HA9.out)
     have HK3:=hid (show ∀ (i:Nat) (k:WkC) (p:List Nat × Int),Ks[i]? = some k→Ws[i]? = some p→OwnI (w8.alloc (.cells #[.slice (some ⟨bt,offt,none⟩) K ct,.int .i64 m] 93)) B1 (.slice k.o k.len k.cap) (encW p.1)∧k.am=p.2 from fun i k p hi hp=>⟨Rw.own_below (k3 i k p hi hp).1 HA9.out,(k3 i k p hi hp).2⟩)
     have HKR:=hid (krow_one w8 rfl 93 ⟨some ⟨bt,offt,none⟩,K,ct,m⟩)
     have HLN:=hid (show Ks.length+([⟨some ⟨bt,offt,none⟩,K,ct,m⟩]:List WkC).length≤1099511627776 by have:=HWL.out Ws gl HBK.out;have:=HK2.out;simp;omega)
     have HBS9:=hid (Nat.le_trans HBS8.out HA9.out.size)
     have HLO9:=hid (Rw.own_below HLO8.out HA9.out)
     have HOV9:=hid (Rw.own_below HOV8.out HA9.out)
     have HB9:=hid (show Below B1 w2 _ from by have h:=HB8.out.trans (HA9.out.mono HB8.out.size);rwa [← HB1.out] at h)
     clear k1 k2 k3 HLO8 HOV8 HWK8 HLO7 HWK7 HOV7 HB7
     go_wp2_with (at_builtin;refine Rw.app elemKr encK_len encK_one rfl (.tmp 82) (.tmp 86) rfl B1 wv Ks rfl HKA.out (some ⟨w8.heap.size,0,none⟩) 1 [⟨some ⟨bt,offt,none⟩,K,ct,m⟩] rfl ?hnn HKR.out HLN.out ?hB ?_;(case hnn=>(intro h;cases h));(case hB=>(exact HBS9.out));intro v9 w9 hown9 hgr9;have HWK:=hid (wkr_snoc (by decide) HKA.out HK2.out HK3.out hgr9 hown9 HOV9.out rfl);have HG9:=hid hgr9;clear hown9 hgr9)
     have HRB:=hid (show ∀ g,wv.ownBlock=some g→B1≤g from fun g hg=>(Rw.own_lt HKA.out g hg).1)
     have HLO10:=hid (own_same HLO9.out fun g hg=>HG9.out.block g (Rw.own_lt HLO9.out g hg).2 fun e=>own_types (by decide) HLO9.out HKA.out g hg e.symm)
     have HB10:=hid (HB9.out.grown HG9.out HBS9.out HRB.out)
     have HBS10:=hid (Nat.le_trans HBS9.out HG9.out.size)
     go_roundg (left n.l TL x g2)
     case measure=>have:=HG.out;have:=HLF.out;omega
     case rel=>exact ⟨g2,_,l8,lc8,_,rfl,rfl,rfl,HSNO2,HOF2,HLO10,HWK,HB10,HBS10⟩
end Ne
namespace Ne
section
variable (n:Net) (ao:Option Addr) (cap:Nat) (fo:Option Addr) (fc:Nat) (f:List Int) (x:Int) (L0:List Int) (w:World) (hr:ARow w ao n.l) (hf:IRow w fo f) (hl:n.l.length≤1000000) (hL:reE n f x=0→IsLev n f x L0)
include hr hf hl hL
set_option maxRecDepth 100000 in
set_option maxHeartbeats 2000000 in
theorem rdeep_any:Calls Tryz.prog 29 #[encN n ao cap,.slice fo f.length fc,.int .i64 x] w fun e w'=>e=.returned (.tuple #[.int .i64 (dpV n f x L0),.int .i64 (reE n f x)])∧Below w.heap.size w w':=by
 have WD:=hid (fun w' (h1:ARow w' ao n.l) (h2:IRow w' fo f)=>rlevels_any n ao cap fo fc f x L0 w' h1 h2 hl hL)
 by_cases c0:reE n f x=0
 case neg =>
  rw [(lvV_bad (L:=L0) c0).2.2]
  generalize lvV n f x L0=WV at *
  generalize reE n f x=E at *
  clear hL
  generalize f.length=fl at *
  obtain ⟨nn,ns,nt,l⟩:=n
  simp only at hr WD ⊢
  have HB0:=hid ((Below.refl w.heap.size w).alloc (Nat.le_refl _) (.cells #[.int .i64 nn,.int .i64 ns,.int .i64 nt,.slice ao l.length cap] 24))
  have HR:=hid (hr.kept HB0.out)
  have HF:=hid (hf.kept HB0.out)
  have c1':(E == 0)=false:=by simpa using c0
  have c1n:(E != 0)=true:=by simpa using c0
  clear hr hf c0
  go_enter Tryz.func29,Tryz.ntmps29
  go_wp2_with fail
  refine (WD.out _ HR.out HF.out).mono ?_
  rintro e w1 ⟨o,c,rfl,_,hb⟩
  have HB1:=hid (HB0.out.trans (hb.mono (by simp)))
  clear hb
  go_wp2
  go_ret2
  exact ⟨rfl,HB1.out⟩
 obtain ⟨hc0,hx1⟩:=reE_ok c0
 have hR:=right_of (chkA_ok (chkF_ok hc0).1).1
 rw [(lvV_ok (L:=L0) c0).2.2,c0]
 rw [c0,(lvV_ok (L:=L0) c0).1] at WD
 have HLL:=hid (hL c0).len
 rw [HLL.out] at WD
 have hN0:=hR.n0
 have hN1:=hR.n1
 have hT0:=hR.t0
 have hT1:=hR.t1
 clear hL c0 hc0 hx1 hR
 generalize f.length=fl at *
 obtain ⟨nn,ns,nt,l⟩:=n
 simp only at hr WD HLL hN0 hN1 hT0 hT1 ⊢
 obtain ⟨N,rfl⟩:∃ N:Nat,nn=(N:Int):=⟨nn.toNat,by omega⟩
 obtain ⟨T,rfl⟩:∃ T:Nat,nt=(T:Int):=⟨nt.toNat,by omega⟩
 simp only [Int.toNat_natCast] at HLL WD ⊢
 have HB0:=hid ((Below.refl w.heap.size w).alloc (Nat.le_refl _) (.cells #[.int .i64 (N:Int),.int .i64 ns,.int .i64 (T:Int),.slice ao l.length cap] 24))
 have HN0:=hid (netBox_new w (N:Int) ns (T:Int) (.slice ao l.length cap))
 have HR:=hid (hr.kept HB0.out)
 have HF:=hid (hf.kept HB0.out)
 clear hr hf
 go_enter Tryz.func29,Tryz.ntmps29
 go_wp2_with fail
 refine (WD.out _ HR.out HF.out).mono ?_
 rintro e w1 ⟨o,c,rfl,hi,hb⟩
 have HB1:=hid (HB0.out.trans (hb.mono (by simp)))
 have HN1:=hid (netBox_below HN0.out hb (by simp))
 obtain ⟨n0,n1,n2,n3⟩:=netBox_cells HN1.out
 obtain ⟨b1,o1,rfl,_,d0⟩:=irow_cell hi (i:=T) (by rw [HLL.out];omega)
 have hti:(T:Int)<(N:Int)+1:=by omega
 have ht0:(0:Int)≤(T:Int):=by omega
 generalize hA:amt L0 T=a at *
 have HA:=hid hA
 clear hA hb hi HB0 HN0 HR HF WD
 go_wp2
 go_ret2
 exact ⟨by rw [HA.out];rfl,HB1.out⟩
end
end Ne
end Go.Proofs.YtmikbkggjlbbnaaGreat
