/-
  Res7, Rfl6
-/
import Derived.Test.YtoadkckceladgaaGreatBb10
set_option linter.unusedVariables false
set_option linter.unusedSimpArgs false
set_option maxRecDepth 100000
set_option maxHeartbeats 4000000
namespace Go.Proofs.YtoadkckceladgaaGreat
open Go.ChangeShapes Go.WideShapes Go.ChangeAt Go.RowKit
open Lib (hid)
namespace Ne
theorem dreach_any (n:Net) (ao:Option Addr) (cap:Nat) (fo:Option Addr) (fc:Nat) (f:List Int) (x:Int) (w:World) (hr:ARow w ao n.l) (hf:IRow w fo f) (hl:n.l.length≤1000000) (hok:∀ a∈n.l,in64 a.cap) :
  Calls Tryz.prog 57 #[encN n ao cap,.slice fo f.length fc,.int .i64 x] w fun e w'=>∃ o c M,e=.returned (.tuple #[.slice o M.length c,.int .i64 (reE n f x)])∧ReachAns n f x w' o M∧Below w.heap.size w w':=by
 have CK:=hid (fun w' (h1:ARow w' ao n.l) (h2:IRow w' fo f)=>fchk_any n ao cap fo fc f w' h1 h2 hl hok)
 by_cases c0:chkF n f=0
 case neg =>
  have HE:=hid (show reE n f x=chkF n f by unfold reE;rw [if_pos c0])
  have HNZ:=hid (show reE n f x≠0 by rw [HE.out];exact c0)
  have HAN:=hid (show ∀ w',ReachAns n f x w' none [] from fun w'=>⟨fun _=>rfl,fun h=>absurd h HNZ.out⟩)
  generalize hRE:reE n f x=RE at *
  generalize hRA:ReachAns n f x=RA at *
  clear hRE hRA
  generalize chkF n f=c at *
  generalize f.length=fl at *
  obtain ⟨nn,ns,nt,l⟩:=n
  simp only at hr CK ⊢
  have HB0:=hid ((Below.refl w.heap.size w).alloc (Nat.le_refl _) (.cells #[.int .i64 nn,.int .i64 ns,.int .i64 nt,.slice ao l.length cap] 24))
  have c1':(c == 0)=false:=by simpa using c0
  have c1n:(c != 0)=true:=by simpa using c0
  have HR:=hid (hr.kept HB0.out)
  have HF:=hid (hf.kept HB0.out)
  clear hr hf c0
  go_enter Tryz.func57,Tryz.ntmps57
  go_wp2_with fail
  refine (CK.out _ HR.out HF.out).mono ?_
  rintro e w1 ⟨rfl,hb⟩
  have HB1:=hid (HB0.out.trans (hb.mono (by simp)))
  clear hb
  go_wp2
  go_ret2
  exact ⟨none,0,[],ret2w HE.out.symm,HAN.out _,HB1.out⟩
 obtain ⟨-,hR,hfl,hwi⟩:=chkA_ok (chkF_ok c0).1
 have HLO:=hid (show x<1→reE n f x=3 from fun h=>by unfold reE;rw [if_neg (by simpa using c0),if_pos h])
 have HOK:=hid (show 1≤x→reE n f x=0 from fun h=>by unfold reE;rw [if_neg (by simpa using c0),if_neg (by omega)])
 have HAB:=hid (show ∀ w',reE n f x≠0→ReachAns n f x w' none [] from fun w' h=>⟨fun _=>rfl,fun h2=>absurd h2 h⟩)
 have HAG:=hid (show ∀ w' b M,reE n f x=0→IsReach n f x M→BBox w' b M→ReachAns n f x w' (some ⟨b,0,none⟩) M from fun w' b M h h1 h2=>⟨fun h3=>absurd h h3,fun _=>⟨h1,b,rfl,h2⟩⟩)
 have HLN:=hid (show ∀ M,IsReach n f x M→M.length=n.n.toNat+1 from fun M h=>h.len)
 rw [c0] at CK
 rw [hfl] at CK ⊢
 have RE1:=hid (fun w' h1 h2=>reached_any n ao cap fo fc f x w' h1 h2 hR hfl hwi)
 generalize hIR:IsReach n f x=IR at *
 generalize hRE:reE n f x=RE at *
 generalize hRW:ReachAns n f x=RW at *
 clear hR hfl hwi c0 hIR hRE hRW
 obtain ⟨nn,ns,nt,l⟩:=n
 simp only at hr hl CK RE1 HLN ⊢
 have HB0:=hid ((Below.refl w.heap.size w).alloc (Nat.le_refl _) (.cells #[.int .i64 nn,.int .i64 ns,.int .i64 nt,.slice ao l.length cap] 24))
 have HN0:=hid (netBox_new w nn ns nt (.slice ao l.length cap))
 have HR:=hid (hr.kept HB0.out)
 have HF:=hid (hf.kept HB0.out)
 clear hr hf hok
 go_enter Tryz.func57,Tryz.ntmps57
 go_wp2_with fail
 refine (CK.out _ HR.out HF.out).mono ?_
 rintro e w1 ⟨rfl,hb⟩
 have HB1:=hid (HB0.out.trans (hb.mono (by simp)))
 have HN1:=hid (netBox_below HN0.out hb (by simp))
 have HR1:=hid (HR.out.kept hb)
 have HF1:=hid (HF.out.kept hb)
 obtain ⟨n0,n1,n2,n3⟩:=netBox_cells HN1.out
 clear hb HB0 HN0 HR HF CK
 by_cases hx:x<1
 ·have HE:=hid (HLO.out hx)
  have HA:=hid (fun w'=>HAB.out w' (by rw [HE.out];decide))
  have hx':decide (x<1)=true:=by simpa using hx
  clear hx
  go_wp2
  go_ret2
  exact ⟨none,0,[],ret2w HE.out.symm,HA.out _,HB1.out⟩
 have hx':decide (x<1)=false:=by simpa using hx
 have HE:=hid (HOK.out (by omega))
 clear hx HLO HOK
 go_wp2_with fail
 refine (RE1.out _ HR1.out HF1.out).mono ?_
 rintro e w2 ⟨b,M,rfl,hi,hm,hb⟩
 have HB2:=hid (HB1.out.trans (hb.mono HB1.out.size))
 have HI:=hid hi
 have HM:=hid hm
 have HL:=hid (HLN.out M hi)
 clear hb hi hm n0 n1 n2 n3
 go_wp2
 go_ret2
 exact ⟨some ⟨b,0,none⟩,nn.toNat+1,M,by rw [HL.out,HE.out];rfl,HAG.out _ b M HE.out HI.out HM.out,HB2.out⟩
end Ne
namespace Ne
theorem droom_s (n:Net) (ao:Option Addr) (cap:Nat) (fo:Option Addr) (fc:Nat) (f:List Int) (w:World) (hr:ARow w ao n.l) (hf:IRow w fo f) (hl:n.l.length≤1000000) (hok:∀ a∈n.l,in64 a.cap) :
  Calls Tryz.prog 58 #[encN n ao cap,.slice fo f.length fc] w fun e w'=>∃ o c,e=.returned (.tuple #[.slice o (roomV n f).length c,.int .i64 (chkF n f)])∧IRow w' o (roomV n f)∧Below w.heap.size w w' :=
 (droom_any n ao cap fo fc f w hr hf hl hok).mono fun e w' ⟨v,h1,h2,h3⟩=>by
  obtain ⟨o,c,hx,_,hi⟩:=irow_ofL h2
  exact ⟨o,c,by rw [h1,hx],hi,h3⟩
theorem ends_at (n:Net) (ao:Option Addr) (cap:Nat) (r:Nat) (w:World) (hr:ARow w ao n.l) (hl:n.l.length≤1000000) (h:r<2*n.l.length) :
  Calls Tryz.prog 68 #[encN n ao cap,.int .i64 (r:Int)] w fun e w'=>e=.returned (.tuple #[.int .i64 (trF n.l r),.int .i64 (trT n.l r)])∧Below w.heap.size w w':=by
 have:=ends_any n ao cap (r:Int) w hr hl (by unfold in64;omega)
 rwa [enF_in h,enT_in h] at this
section
variable {n:Net} (ao:Option Addr) (cap:Nat) (fo:Option Addr) (fc:Nat) {f:List Int} (w:World) (ck:checkN n=0) (hr:ARow w ao n.l) (hf:IRow w fo f) (hF:Flow n f)
include ck hr hf hF
end
end Ne
end Go.Proofs.YtoadkckceladgaaGreat
