/-
  Wide, Lev, Dld, Rfl7
-/
import Derived.Test.YthhlfphnokdfaaaGreatBf5
import Derived.Test.YthhlfphnokdfaaaGreatBf13
import Derived.Test.YthhlfphnokdfaaaGreatBf37
set_option linter.unusedVariables false
set_option linter.unusedSimpArgs false
set_option maxRecDepth 100000
set_option maxHeartbeats 4000000
namespace Go.Proofs.YthhlfphnokdfaaaGreat
open Go.ChangeShapes Go.WideShapes Go.ChangeAt Go.RowKit
open Lib (hid)
namespace Ne
def wideV (n:Net) (f:List Int) (x:Int):List Nat:=if reE n f x≠0 then [] else wideL n.l f x (2*n.l.length)
theorem wide_any (n:Net) (ao:Option Addr) (cap:Nat) (fo:Option Addr) (fc:Nat) (f:List Int) (x:Int) (w:World) (hr:ARow w ao n.l) (hf:IRow w fo f) (hl:n.l.length≤1000000) (hok:∀ a∈n.l,in64 a.cap) :
  Calls Tryz.prog 51 #[encN n ao cap,.slice fo f.length fc,.int .i64 x] w fun e w'=>∃ v,e=.returned (.tuple #[v,.int .i64 (reE n f x)])∧OwnI w' w.heap.size v (encW (wideV n f x))∧Below w.heap.size w w':=by
 have RE:=hid (fun w' (h1:ARow w' ao n.l) (h2:IRow w' fo f)=>dreach_any n ao cap fo fc f x w' h1 h2 hl hok)
 have RM:=hid (fun w' (h1:ARow w' ao n.l) (h2:IRow w' fo f)=>droom_s n ao cap fo fc f w' h1 h2 hl hok)
 by_cases c0:reE n f x=0
 case neg =>
  have HV:=hid (show wideV n f x=[] by unfold wideV;rw [if_pos c0])
  rw [HV.out]
  generalize hRA:ReachAns n f x=RA at *
  generalize reE n f x=E at *
  clear hRA RM HV
  generalize f.length=fl at *
  obtain ⟨nn,ns,nt,l⟩:=n
  simp only at hr RE ⊢
  have HB0:=hid ((Below.refl w.heap.size w).alloc (Nat.le_refl _) (.cells #[.int .i64 nn,.int .i64 ns,.int .i64 nt,.slice ao l.length cap] 27))
  have HR:=hid (hr.kept HB0.out)
  have HF:=hid (hf.kept HB0.out)
  have c1':(E == 0)=false:=by simpa using c0
  have c1n:(E != 0)=true:=by simpa using c0
  clear hr hf c0
  go_enter Tryz.func51,Tryz.ntmps51
  go_wp2_with fail
  refine (RE.out _ HR.out HF.out).mono ?_
  rintro e w1 ⟨o,c,M,rfl,_,hb⟩
  have HB1:=hid (HB0.out.trans (hb.mono (by simp)))
  clear hb
  go_wp2
  go_ret2
  exact ⟨.slice none 0 0,rfl,Rw.own_nil _ _,HB1.out⟩
 obtain ⟨hc0,hx1⟩:=reE_ok c0
 have HV:=hid (show wideV n f x=wideL n.l f x (2*n.l.length) by unfold wideV;rw [if_neg (by simpa using c0)])
 rw [HV.out,c0]
 rw [c0] at RE
 rw [show roomV n f=roomL n.l f (2*n.l.length) by unfold roomV;rw [if_neg (by simpa using hc0)],roomL_len,hc0] at RM
 have HHIT:=hid (fun (k:Nat) (h:x≤roomN n.l f k)=>show encW (wideL n.l f x (k+1))=encW (wideL n.l f x k) ++ [(k:Int)] by rw [wideL_hit h,encW_snoc])
 have HMISS:=hid (fun (k:Nat) (h:¬ x≤roomN n.l f k)=>show encW (wideL n.l f x (k+1))=encW (wideL n.l f x k) by rw [wideL_miss h])
 have HFL:=hid (fun (k:Nat)=>show (encW (wideL n.l f x k)).length≤k by rw [encW_len];exact wideL_len _ _ _ _)
 have HF0:=hid (show encW (wideL n.l f x 0)=[] from rfl)
 have HRA:=hid (fun i (h:i<2*n.l.length)=>roomL_at n.l f h)
 have HRN:=hid (roomL_len n.l f (2*n.l.length))
 obtain ⟨FL,hFL⟩:∃ FL,FL=fun k=>encW (wideL n.l f x k):=⟨_,rfl⟩
 simp only [show ∀ k,encW (wideL n.l f x k)=FL k from fun k=>by rw [hFL]] at HHIT HMISS HFL HF0 ⊢
 clear hFL HV c0 hc0 hx1
 generalize hRW:ReachAns n f x=RW at *
 clear hRW
 generalize roomL n.l f (2*n.l.length)=RL at *
 generalize roomN n.l f=RO at *
 generalize f.length=fl at *
 obtain ⟨nn,ns,nt,l⟩:=n
 simp only at hr hl RE RM HRA HRN ⊢
 have HB0:=hid ((Below.refl w.heap.size w).alloc (Nat.le_refl _) (.cells #[.int .i64 nn,.int .i64 ns,.int .i64 nt,.slice ao l.length cap] 27))
 have HN0:=hid (netBox_new w nn ns nt (.slice ao l.length cap))
 have HR:=hid (hr.kept HB0.out)
 have HF:=hid (hf.kept HB0.out)
 clear hr hf
 go_enter Tryz.func51,Tryz.ntmps51
 go_wp2_with fail
 refine (RE.out _ HR.out HF.out).mono ?_
 rintro e w1 ⟨o1,c1,M1,rfl,_,hb⟩
 have HB1:=hid (HB0.out.trans (hb.mono (by simp)))
 have HN1:=hid (netBox_below HN0.out hb (by simp))
 have HR1:=hid (HR.out.kept hb)
 have HF1:=hid (HF.out.kept hb)
 obtain ⟨n0,n1,n2,n3⟩:=netBox_cells HN1.out
 clear hb HB0 HN0 HR HF RE
 go_wp2_with fail
 refine (RM.out _ HR1.out HF1.out).mono ?_
 rintro e WX ⟨o2,c2,rfl,hi,hb⟩
 have HBX:=hid (HB1.out.trans (hb.mono HB1.out.size))
 have HRI:=hid hi
 clear hb hi n0 n1 n2 n3 HB1 HN1 HR1 HF1 RM
 obtain ⟨m,hm⟩:∃ m,m=2*l.length:=⟨_,rfl⟩
 have hml:m≤2000000:=by omega
 rw [← hm] at HRA HRN ⊢
 have HM:=hid hm
 clear hm
 go_wp2
 go_loopw [12,33] (fun s i wr=>∃ (v:Value) (j:Nat),v=s∧i=.int .i64 j∧j≤m∧Hid (OwnI wr WX.heap.size v (FL j))∧Hid (Below WX.heap.size WX wr)) (fun _ i _=>m-(intOf i).toNat)
 case atStart=>exact ⟨_,0,rfl,rfl,Nat.zero_le _,hid (by rw [HF0.out];exact Rw.own_nil _ _),hid (Below.refl _ _)⟩
 case round =>
  obtain ⟨v,j,rfl,rfl,hj,HOW,HBW⟩:=hrel
  by_cases hlt:j<m
  ·have hji:(j:Int)<(m:Int):=by omega
   have hj0:(0:Int)≤(j:Int):=by omega
   obtain ⟨b2,off2,rfl,hbl2,d0⟩:=irow_cell (HRI.out.kept HBW.out) (i:=j) (by rw [HRN.out];exact hlt)
   rw [HRA.out j hlt] at d0
   have HH:=hid (HHIT.out j)
   have HMS:=hid (HMISS.out j)
   have HLN:=hid (show (FL j).length+([(j:Int)]:List Int).length≤1099511627776 by have:=HFL.out j;simp;omega)
   generalize RO j=ro at *
   by_cases c:x≤ro
   ·have HST:=hid (HH.out c)
    have c':decide (x≤ro)=true:=by simpa using c
    have HO3:=hid (Rw.own_alloc HOW.out (.cells #[.int .i64 (j:Int)] 3))
    have HR3:=hid (irow_one' wr rfl (j:Int) 3)
    have hvb:=Rw.own_block HOW.out
    have HB3:=hid (HBW.out.alloc HBW.out.size (.cells #[.int .i64 (j:Int)] 3))
    have HZ3:=hid HB3.out.size
    clear HH HMS c
    go_wp2_with (at_builtin;refine Rw.app elemI encI_len encI_one rfl (.tmp 41) (.tmp 43) rfl WX.heap.size _ (FL j) rfl HO3.out (some ⟨wr.heap.size,0,none⟩) 1 [(j:Int)] rfl ?hnn HR3.out HLN.out ?hB ?_;(case hnn=>(intro h;cases h));(case hB=>(exact HZ3.out));intro v4 w4 hown4 hgr4;rw [← HST.out] at hown4;have HB4:=hid (HB3.out.grown hgr4 HZ3.out hvb);have HO4:=hid hown4;clear hown4 hgr4)
    go_roundw
    case rel=>exact ⟨_,j+1,rfl,by go_num,by omega,HO4,HB4⟩
    case measure=>simp [intOf];omega
   ·have HST:=hid (HMS.out (by omega))
    have c':decide (x≤ro)=false:=by simpa using c
    have HO4:=hid (show OwnI wr WX.heap.size v (FL (j+1)) by rw [HST.out];exact HOW.out)
    clear HH HMS c
    go_wp2
    go_roundw
    case rel=>exact ⟨_,j+1,rfl,by go_num,by omega,HO4,HBW⟩
    case measure=>simp [intOf];omega
  ·have ej:j=m:=by omega
   subst ej
   have HBE:=hid (HBX.out.trans (HBW.out.mono HBX.out.size))
   have HOE:=hid (Rw.own_base HOW.out (B':=w.heap.size) HBX.out.size)
   clear hlt hj
   go_wp2
   go_ret2
   exact ⟨_,rfl,by rw [← HM.out];exact HOE.out,HBE.out⟩
end Ne
namespace Ne
section
variable (n:Net) (ao:Option Addr) (cap:Nat) (fo:Option Addr) (fc:Nat) (f:List Int) (x:Int) (L0:List Int) (w:World) (hr:ARow w ao n.l) (hf:IRow w fo f) (hl:n.l.length≤1000000) (hok:∀ a∈n.l,in64 a.cap) (hL:reE n f x=0→IsLev n f x L0)
include hr hf hl hok hL
end
end Ne
namespace Ne
theorem leadT_hit {l:List Arc} {L:List Int} {T:List Nat} {j:Nat} (hj:j<T.length) (h1:0≤amt L (trF l (T.getD j 0)).toNat) (h2:amt L (trT l (T.getD j 0)).toNat=amt L (trF l (T.getD j 0)).toNat+1) :
  encW (leadT l L (T.take (j+1)))=encW (leadT l L (T.take j)) ++ [((T.getD j 0:Nat):Int)]:=by
 rw [take_getD hj,leadT_snoc,if_pos (by rw [decide_eq_true h1,decide_eq_true h2];rfl),encW_snoc]
theorem leadT_miss {l:List Arc} {L:List Int} {T:List Nat} {j:Nat} (hj:j<T.length) (h:¬ (0≤amt L (trF l (T.getD j 0)).toNat∧amt L (trT l (T.getD j 0)).toNat=amt L (trF l (T.getD j 0)).toNat+1)) :
  encW (leadT l L (T.take (j+1)))=encW (leadT l L (T.take j)):=by
 rw [take_getD hj,leadT_snoc,if_neg (by simpa using h),List.append_nil]
theorem dleads_own (n:Net) (ao:Option Addr) (cap:Nat) (fo:Option Addr) (fc:Nat) (f:List Int) (x:Int) (L0:List Int) (w:World) (hr:ARow w ao n.l) (hf:IRow w fo f) (hl:n.l.length≤1000000) (hok:∀ a∈n.l,in64 a.cap) (hL:reE n f x=0→IsLev n f x L0) :
  Calls Tryz.prog 81 #[encN n ao cap,.slice fo f.length fc,.int .i64 x] w fun e w'=>∃ o c,e=.returned (.tuple #[.slice o (ldV n f x L0).length c,.int .i64 (reE n f x)])∧OwnI w' w.heap.size (.slice o (ldV n f x L0).length c) (encW (ldV n f x L0))∧Below w.heap.size w w':=by
 have WD:=hid (fun w' (h1:ARow w' ao n.l) (h2:IRow w' fo f)=>wide_any n ao cap fo fc f x w' h1 h2 hl hok)
 by_cases c0:reE n f x=0
 case neg =>
  rw [(lvV_bad (L:=L0) c0).2.1]
  generalize wideV n f x=WV at *
  generalize reE n f x=E at *
  clear hL
  generalize f.length=fl at *
  obtain ⟨nn,ns,nt,l⟩:=n
  simp only at hr WD ⊢
  have HB0:=hid ((Below.refl w.heap.size w).alloc (Nat.le_refl _) (.cells #[.int .i64 nn,.int .i64 ns,.int .i64 nt,.slice ao l.length cap] 27))
  have HR:=hid (hr.kept HB0.out)
  have HF:=hid (hf.kept HB0.out)
  have c1':(E == 0)=false:=by simpa using c0
  have c1n:(E != 0)=true:=by simpa using c0
  clear hr hf c0
  go_enter Tryz.func81,Tryz.ntmps81
  go_wp2_with fail
  refine (WD.out _ HR.out HF.out).mono ?_
  rintro e w1 ⟨v,rfl,_,hb⟩
  have HB1:=hid (HB0.out.trans (hb.mono (by simp)))
  clear hb
  go_wp2
  go_ret2
  exact ⟨none,0,rfl,Rw.own_nil _ _,HB1.out⟩
 obtain ⟨hc0,hx1⟩:=reE_ok c0
 have hR:=right_of (chkA_ok (chkF_ok hc0).1).1
 rw [(lvV_ok (L:=L0) c0).2.1,c0]
 rw [c0,show wideV n f x=wideL n.l f x (2*n.l.length) by unfold wideV;rw [if_neg (by simpa using c0)]] at WD
 have HLL:=hid (hL c0).len
 have HL0:=hid (fun L (h:IsLev n f x L)=>lev_one hR h (hL c0))
 have LV:=hid (fun tk tc w' h1 h2=>levels_any n ao cap tk tc f x w' h1 h2 hR)
 have hN0:=hR.n0
 have hN1:=hR.n1
 have hLL:=hR.len
 have HEN:=hid (fun (j:Nat) (h:j<2*n.l.length) w' h1=>show Calls Tryz.prog 49 #[encN n ao cap,.int .i64 (j:Int)] w' fun e w2=>e=.returned (.tuple #[.int .i64 (((trF n.l j).toNat:Nat):Int),.int .i64 (((trT n.l j).toNat:Nat):Int)])∧Below w'.heap.size w' w2 by
  have:=ends_any n ao cap (j:Int) w' h1 hl (by unfold in64;omega)
  rw [enF_in h,enT_in h] at this
  have hb:=trT_bd hR h
  have hb2:=trF_bd hR h
  rwa [show (((trT n.l j).toNat:Nat):Int)=trT n.l j by omega,show (((trF n.l j).toNat:Nat):Int)=trF n.l j by omega])
 have HTB:=hid (fun (r:Nat) (hr:r<2*n.l.length)=>show (trF n.l r).toNat<n.n.toNat+1∧(trT n.l r).toNat<n.n.toNat+1 by
  have hb:=trF_bd hR hr;have hb2:=trT_bd hR hr;omega)
 have HLV:=hid (fun i (h:i<n.n.toNat+1)=>show -1≤amt L0 i∧amt L0 i<500 by have:=lev_lt hR (hL c0) h;omega)
 rw [← leadT_all]
 have HTK:leadT n.l L0 (wideL n.l f x (2*n.l.length))=leadT n.l L0 ((wideL n.l f x (2*n.l.length)).take (wideL n.l f x (2*n.l.length)).length):=by rw [List.take_length]
 rw [HTK]
 have HTM:=hid (fun (j:Nat) (h:j<(wideL n.l f x (2*n.l.length)).length)=>(wideL_mem.1 (getD_mem h)).1)
 have hWL:=wideL_len n.l f x (2*n.l.length)
 obtain ⟨T,hT⟩:∃ T,wideL n.l f x (2*n.l.length)=T:=⟨_,rfl⟩
 rw [hT] at WD LV HTM hWL ⊢
 clear hT HTK
 have HTC:=hid (fun (j:Nat) (h:j<T.length)=>encW_at (l:=T) h)
 have HTL:=hid (encW_len T)
 have HHIT:=hid (fun (k:Nat) (h:k<T.length) h1 h2=>leadT_hit (l:=n.l) (L:=L0) (T:=T) (j:=k) h h1 h2)
 have HMISS:=hid (fun (k:Nat) (h:k<T.length) h1=>leadT_miss (l:=n.l) (L:=L0) (T:=T) (j:=k) h h1)
 have HFL:=hid (fun (k:Nat)=>show (encW (leadT n.l L0 (T.take k))).length≤1000000 by rw [encW_len];have:=leadT_len n.l L0 (T.take k);simp at this;omega)
 have HFE:=hid (encW_len (leadT n.l L0 (T.take T.length)))
 have HF0:=hid (show encW (leadT n.l L0 (T.take 0))=[] by simp [leadT,encW])
 obtain ⟨FL,hFL⟩:∃ FL,FL=fun k=>encW (leadT n.l L0 (T.take k)):=⟨_,rfl⟩
 have HFLE:=hid (show ∀ k,encW (leadT n.l L0 (T.take k))=FL k from fun k=>by rw [hFL])
 clear hFL
 rw [← HFE.out]
 simp only [HFLE.out] at HHIT HMISS HFL HF0 ⊢
 obtain ⟨TD,hTD⟩:∃ TD:Nat→Nat,TD=fun j=>T.getD j 0:=⟨_,rfl⟩
 have HTDE:=hid (show ∀ j,T.getD j 0=TD j from fun j=>by rw [hTD])
 clear hTD
 simp only [HTDE.out] at HHIT HMISS HTM HTC
 clear HTDE HFLE HFE hL c0 hc0 hx1 hR
 generalize hIL:IsLev n f x=IL at *
 clear hIL
 generalize encW T=TW at *
 generalize T.length=tl at *
 generalize f.length=fl at *
 generalize hTT:(fun j=>(trT n.l j).toNat)=TT at *
 generalize hTF:(fun j=>(trF n.l j).toNat)=TF at *
 have HTE:=hid (show ∀ j,(trT n.l j).toNat=TT j from fun j=>by rw [← hTT])
 have HTG:=hid (show ∀ j,(trF n.l j).toNat=TF j from fun j=>by rw [← hTF])
 clear hTT hTF
 simp only [HTE.out,HTG.out] at HEN HTB HHIT HMISS
 clear HTE HTG
 obtain ⟨nn,ns,nt,l⟩:=n
 simp only at hr hl WD LV HLL hN0 hN1 hLL hWL HEN HTB HLV HTM HHIT HMISS ⊢
 obtain ⟨N,rfl⟩:∃ N:Nat,nn=(N:Int):=⟨nn.toNat,by omega⟩
 simp only [Int.toNat_natCast] at HLL LV HTB HLV ⊢
 have HB0:=hid ((Below.refl w.heap.size w).alloc (Nat.le_refl _) (.cells #[.int .i64 (N:Int),.int .i64 ns,.int .i64 nt,.slice ao l.length cap] 27))
 have HN0:=hid (netBox_new w (N:Int) ns nt (.slice ao l.length cap))
 have HR:=hid (hr.kept HB0.out)
 have HF:=hid (hf.kept HB0.out)
 clear hr hf
 go_enter Tryz.func81,Tryz.ntmps81
 go_wp2_with fail
 refine (WD.out _ HR.out HF.out).mono ?_
 rintro e w1 ⟨v,rfl,ho,hb⟩
 have HB1:=hid (HB0.out.trans (hb.mono (by simp)))
 have HN1:=hid (netBox_below HN0.out hb (by simp))
 have HR1:=hid (HR.out.kept hb)
 obtain ⟨to1,tc1,hv,_,_,_,hri,_,_⟩:=Rw.own_row encI_len ho
 rw [HTL.out] at hv
 subst hv
 have HRI:=hid hri
 obtain ⟨n0,n1,n2,n3⟩:=netBox_cells HN1.out
 clear hb ho hri HB0 HN0 HR HF WD
 go_wp2_with fail
 refine (LV.out _ _ _ HR1.out HRI.out).mono ?_
 rintro e WX ⟨g,L,rfl,hl1,hm,hb⟩
 obtain rfl:=HL0.out L hl1
 have HBX:=hid (HB1.out.trans (hb.mono HB1.out.size))
 have HNX:=hid (netBox_below HN1.out hb (netBox_lt HN1.out))
 have HRX:=hid (HR1.out.kept hb)
 have HTX:=hid (HRI.out.kept hb)
 have HM:=hid hm
 clear hb hl1 hm n0 n1 n2 n3 HB1 HN1 HR1 HRI LV HL0
 go_wp2
 go_loopw [11,31] (fun s i wr=>∃ (v:Value) (j:Nat),v=s∧i=.int .i64 j∧j≤tl∧Hid (OwnI wr WX.heap.size v (FL j))∧Hid (Below WX.heap.size WX wr)) (fun _ i _=>tl-(intOf i).toNat)
 case atStart=>exact ⟨_,0,rfl,rfl,Nat.zero_le _,hid (by rw [HF0.out];exact Rw.own_nil _ _),hid (Below.refl _ _)⟩
 case round =>
  obtain ⟨v,j,rfl,rfl,hj,HOW,HBW⟩:=hrel
  by_cases hlt:j<tl
  ·have hji:(j:Int)<(tl:Int):=by omega
   have hj0:(0:Int)≤(j:Int):=by omega
   have HN8:=hid (netBox_below HNX.out HBW.out (netBox_lt HNX.out))
   obtain ⟨n0,n1,n2,n3⟩:=netBox_cells HN8.out
   obtain ⟨b5,o5,rfl,hbl5,d0⟩:=irow_cell (HTX.out.kept HBW.out) (i:=j) (by rw [HTL.out];exact hlt)
   rw [HTC.out j hlt] at d0
   have hrj:=HTM.out j hlt
   have HH:=hid (HHIT.out j hlt)
   have HMS:=hid (HMISS.out j hlt)
   generalize TD j=r at *
   have EN:=hid (fun w'=>HEN.out r hrj w')
   obtain ⟨hta,htb⟩:=HTB.out r hrj
   have HLN:=hid (show (FL j).length+([(r:Int)]:List Int).length≤1099511627776 by have:=HFL.out j;simp;omega)
   generalize TF r=a at *
   generalize TT r=b at *
   have hai:(a:Int)<(N:Int)+1:=by omega
   have ha0:(0:Int)≤(a:Int):=by omega
   have hbi:(b:Int)<(N:Int)+1:=by omega
   have hb0:(0:Int)≤(b:Int):=by omega
   go_wp2_with fail
   refine (EN.out _ (HRX.out.kept HBW.out)).mono ?_
   rintro e w3 ⟨rfl,hb⟩
   have HB3:=hid (HBW.out.trans (hb.mono HBW.out.size))
   have HO3:=hid (Rw.own_below HOW.out hb)
   have HM3:=hid (HM.out.kept HB3.out)
   have ma:=HM3.out.cell (i:=a) (by rw [HLL.out];exact hta)
   have mb:=HM3.out.cell (i:=b) (by rw [HLL.out];exact htb)
   obtain ⟨hA0,hA1⟩:=HLV.out a hta
   generalize amt L a=A at *
   generalize amt L b=B at *
   have hwA:IntKind.i64.wrap (A+1)=A+1:=by rw [IntKind.wrap_i64];omega
   clear hb n0 n1 n2 n3 d0
   by_cases p2:0≤A
   ·have p2':(A != -1)=true:=by simp;omega
    by_cases p3:B=A+1
    ·have p3':(B == A+1)=true:=by simpa using p3
     have HST:=hid (HH.out p2 p3)
     have HO4:=hid (fun q=>show OwnI ((w3.drewN q).alloc (.cells #[.int .i64 (r:Int)] 3)) WX.heap.size v (FL j) from Rw.own_alloc HO3.out _)
     have HR4:=hid (fun q=>irow_one' (w3.drewN q) rfl (r:Int) 3)
     have hvb:=Rw.own_block HO3.out
     have HB4:=hid (fun q=>(below_dn HB3.out q).alloc (by exact HB3.out.size) (.cells #[.int .i64 (r:Int)] 3))
     clear p2 p3 HH HMS
     go_wp2
     go_quiet (fail)
     go_wp2_with (at_builtin;refine Rw.app elemI encI_len encI_one rfl (.tmp 58) (.tmp 60) rfl WX.heap.size _ (FL j) rfl (HO4.out _) (some ⟨w3.heap.size,0,none⟩) 1 [(r:Int)] rfl ?hnn (HR4.out _) HLN.out ?hB ?_;(case hnn=>(intro h;cases h));(case hB=>(exact (HB4.out _).size));intro v4 w4 hown4 hgr4;rw [← HST.out] at hown4;have HB5:=hid ((HB4.out _).grown hgr4 (HB4.out _).size hvb);have HO5:=hid hown4;clear hown4 hgr4)
     go_roundw
     case rel=>exact ⟨_,j+1,rfl,by go_num,by omega,HO5,HB5⟩
     case measure=>simp [intOf];omega
    ·have p3':(B == A+1)=false:=by simpa using p3
     have HST:=hid (HMS.out (fun h=>p3 h.2))
     have HO4:=hid (fun q=>show OwnI (w3.drewN q) WX.heap.size v (FL (j+1)) by rw [HST.out];exact HO3.out)
     clear p2 p3 HH HMS
     go_wp2
     go_quiet (fail)
     go_wp2
     go_roundw
     case rel=>exact ⟨_,j+1,rfl,by go_num,by omega,hid (HO4.out _),hid (below_dn HB3.out _)⟩
     case measure=>simp [intOf];omega
   ·have p2':(A != -1)=false:=by simp;omega
    have HST:=hid (HMS.out (fun h=>p2 h.1))
    have HO4:=hid (fun q=>show OwnI (w3.drewN q) WX.heap.size v (FL (j+1)) by rw [HST.out];exact HO3.out)
    clear p2 HH HMS
    go_wp2
    go_quiet (fail)
    go_wp2
    go_roundw
    case rel=>exact ⟨_,j+1,rfl,by go_num,by omega,hid (HO4.out _),hid (below_dn HB3.out _)⟩
    case measure=>simp [intOf];omega
  ·have ej:j=tl:=by omega
   subst ej
   have HBE:=hid (HBX.out.trans (HBW.out.mono HBX.out.size))
   obtain ⟨o9,c9,hv9,_,_,_,hi9,_,_⟩:=Rw.own_row encI_len HOW.out
   subst hv9
   have HI9:=hid (Rw.own_base HOW.out (B':=w.heap.size) HBX.out.size)
   clear hlt hj hi9
   go_wp2
   go_ret2
   exact ⟨_,_,rfl,HI9.out,HBE.out⟩
theorem dleads_any (n:Net) (ao:Option Addr) (cap:Nat) (fo:Option Addr) (fc:Nat) (f:List Int) (x:Int) (L0:List Int) (w:World) (hr:ARow w ao n.l) (hf:IRow w fo f) (hl:n.l.length≤1000000) (hok:∀ a∈n.l,in64 a.cap) (hL:reE n f x=0→IsLev n f x L0) :
  Calls Tryz.prog 81 #[encN n ao cap,.slice fo f.length fc,.int .i64 x] w fun e w'=>∃ o c,e=.returned (.tuple #[.slice o (ldV n f x L0).length c,.int .i64 (reE n f x)])∧IRow w' o (encW (ldV n f x L0))∧Below w.heap.size w w':=by
 refine (dleads_own n ao cap fo fc f x L0 w hr hf hl hok hL).mono ?_
 rintro e w' ⟨o,c,h1,h2,h3⟩
 exact ⟨o,c,h1,own_irow h2,h3⟩
end Ne
namespace Ne
theorem reE_flow {n:Net} {f:List Int} {x:Int} (ck:checkN n=0) (hF:Flow n f) (hx:1≤x):reE n f x=0:=by
 unfold reE;rw [if_neg (by simpa using flow_chkF ck hF),if_neg (by omega)]
section
variable {n:Net} (ao:Option Addr) (cap:Nat) (fo:Option Addr) (fc:Nat) {f:List Int} (w:World) (ck:checkN n=0) (hr:ARow w ao n.l) (hf:IRow w fo f) (hF:Flow n f) (x:Int) (hx:1≤x) {L:List Int} (hL:IsLev n f x L)
include ck hr hf hF hx hL
end
end Ne
end Go.Proofs.YthhlfphnokdfaaaGreat
