/-
  Dnc, Dnd, Dne, Dlw, Opg, Open
-/
import Derived.Test.YthhlfphnokdfaaaGreatBf40
import Derived.Deep.LoopGhost
import Derived.Deep.CutBlock
import Derived.Deep.DeepCutAuto
import Derived.RegionTactic
import Derived.BigRegion
import Derived.Test.YthhlfphnokdfaaaGreatBf4
import Derived.Test.YthhlfphnokdfaaaGreatRows
import Derived.WalkKit
import Derived.ProofKit
import Derived.OpenShut
import Derived.Deep.Slices
import Derived.Deep.Fields
import Derived.ChangeSame
import Derived.Lib.SmallJoins
import Derived.Test.YthhlfphnokdfaaaGreatBf3
set_option linter.unusedVariables false
set_option linter.unusedSimpArgs false
set_option maxRecDepth 100000
set_option maxHeartbeats 4000000
namespace Go.Proofs.YthhlfphnokdfaaaGreat
open Go.ChangeShapes Go.WideShapes Go.ChangeAt Go.RowKit
open Lib (hid)
namespace Ne
def engC (q:Bool):Int:=if q then 116 else 112
theorem most_nn {n:Net} (hR:Right n):0≤mostV n:=by
 unfold mostV
 have:=hR.n0
 have:=hR.n1
 obtain ⟨lk,_,e,_⟩:=log_up n.n.toNat (by omega) (by omega)
 rw [show ((n.n.toNat:Nat):Int)=n.n by omega] at e
 rw [e]
 exact Int.mul_nonneg (Int.mul_nonneg (Int.mul_nonneg (by omega) (by omega)) (by omega)) (by omega)
theorem st_most {n:Net} (hR:Right n) (q:Bool):stM n q≤mostV n:=by
 have:=most_nn hR
 unfold stM
 split <;> omega
theorem named_any (q:Bool) (w:World):Calls Tryz.prog 36 #[.int .u8 (engC q)] w fun e w'=>e=.returned (.tuple #[engV q,.int .i64 0])∧w' = w:=by
 cases q
 all_goals
  unfold engC engV
  go_enter Tryz.func36,Tryz.ntmps36
  go_wp2
  (try simp only [Exit.inBlock,Exit.then])
  go_ret2
  exact ⟨rfl,rfl⟩
theorem named_bad (a:Int) (h1:a≠112) (h2:a≠116) (w:World):Calls Tryz.prog 36 #[.int .u8 a] w fun e w'=>e=.returned (.tuple #[.nilIface,.int .i64 1])∧w' = w:=by
 have e1:(a == 112)=false:=by simpa using h1
 have e2:(a == 116)=false:=by simpa using h2
 clear h1 h2
 go_enter Tryz.func36,Tryz.ntmps36
 go_wp2
 (try simp only [Exit.inBlock,Exit.then])
 go_ret2
 exact ⟨rfl,rfl⟩
theorem phs_next {n:Net} (hR:Right n) {x:Int} (hx:1≤x) {f h L:List Int} {p k:Nat} (hL:IsLev n f x L) (hF:Okf n f) (P:Phs n x f h (p+1) k):0≤amt L n.t.toNat∧∃ (W:List (List Nat × Int)) (g L2:List Int) (k2:Nat),IsBlk n.l (leadL n.l f x L (2*n.l.length)) f x n.s n.t W g∧k=W.length+k2∧Okf n g∧IsLev n g x L2∧Phs n x g h p k2:=by
 cases P with
 | @step f g h L3 W p k2 hL3 hd hB q =>
  have e:=lev_one hR hL hL3
  subst e
  obtain ⟨L2,hl2⟩:=lev_exists hR g x
  exact ⟨hd,W,g,L2,k2,hB,rfl,blkW_okf hR (lds_of n.l f x L) hx hF hB.1,hl2,q⟩
theorem phs_stop {n:Net} (hR:Right n) {x:Int} {f h L:List Int} {k:Nat} (hL:IsLev n f x L) (P:Phs n x f h 0 k):amt L n.t.toNat<0∧h=f∧k=0:=by
 cases P with
 | @done f L3 hL3 hd =>
  have e:=lev_one hR hL hL3
  subst e
  exact ⟨hd,rfl,rfl⟩
section
variable {n:Net} (ao:Option Addr) (cap:Nat) (fo:Option Addr) (fc:Nat) {f h:List Int} (w:World) (ck:checkN n=0) (hr:ARow w ao n.l) (hf:IRow w fo f) (hF:Okf n f) {x:Int} (hx:1≤x) {p k:Nat} (P:Phs n x f h p k)
include ck hr hf hF hx P
theorem from_flow (q:Bool):Calls Tryz.prog 22 #[encN n ao cap,.slice fo n.l.length fc,.int .i64 x,.int .u8 (engC q)] w fun e w'=>∃ o c st,e=.returned (.tuple #[.agg #[.slice o n.l.length c,.int .i64 (p:Int),.int .i64 (k:Int),.int .i64 st],.int .i64 0])∧OwnL w' w.heap.size (.slice o n.l.length c) h∧0≤st∧st≤(p:Int)*stM n q∧Below w.heap.size w w':=by
 have hR:=right_of ck
 have hml:=hR.len
 have hN1:=hR.n1
 have hpk:=(phs_lt hR hx P hF).1
 have hkk:=phs_walks hR hx P hF
 obtain ⟨L0,hl0⟩:=lev_exists hR f x
 have hst0:0≤stM n q∧stM n q≤10000000000:=by
  have h1:=most_le hR
  have h2:=most_nn hR
  unfold stM
  split <;> omega
 have HBN:=hid ((Below.refl w.heap.size w).alloc (Nat.le_refl _) (.cells #[.int .i64 n.n,.int .i64 n.s,.int .i64 n.t,.slice ao n.l.length cap] 27))
 have HB0:=hid (HBN.out.alloc (by simp) (.cells #[.slice none 0 0,.int .i64 0,.int .i64 0,.int .i64 0] 31))
 have HN0:=hid (netBox_alloc (netBox_new w n.n n.s n.t (.slice ao n.l.length cap)) (.cells #[.slice none 0 0,.int .i64 0,.int .i64 0,.int .i64 0] 31))
 have HX0:=hid (runBox_at (w.alloc (.cells #[.int .i64 n.n,.int .i64 n.s,.int .i64 n.t,.slice ao n.l.length cap] 27)) (b:=w.heap.size+1) (by simp) (.slice none 0 0) 0 0 0)
 have hz0:w.heap.size+1<((w.alloc (.cells #[.int .i64 n.n,.int .i64 n.s,.int .i64 n.t,.slice ao n.l.length cap] 27)).alloc (.cells #[.slice none 0 0,.int .i64 0,.int .i64 0,.int .i64 0] 31)).heap.size:=by simp
 have HR:=hid hr
 have HF:=hid hf
 have DP:=hid fun fl fo fc w' L (h3:Okf n fl) (h4:IsLev n fl x L) h1 h2=>deep_okf (n:=n) (f:=fl) ao cap fo fc w' ck h1 h2 h3 x hx h4
 have PH:=hid fun fl fo fc w' L W g (h3:Okf n fl) (h4:IsLev n fl x L) (hB:IsBlk n.l (leadL n.l fl x L (2*n.l.length)) fl x n.s n.t W g) h1 h2 pi ki si b1 b2 b3=>phase_any (n:=n) (f:=fl) ao cap fo fc w' ck h1 h2 h3 x hx h4 hB q pi ki si b1 b2 b3
 have CL:=hid (fun w' h1=>cloneL_any f fo n.l.length fc w' hF.len.symm h1 (by have:=hF.len;omega))
 have NX:=hid fun fl L p k (h1:IsLev n fl x L) (h2:Okf n fl) (P:Phs n x fl h (p+1) k)=>phs_next hR hx h1 h2 P
 have SP:=hid fun fl L k (h1:IsLev n fl x L) (P:Phs n x fl h 0 k)=>phs_stop hR h1 P
 have HP:=hid P
 have HL0:=hid hl0
 have HOK:=hid hF
 have HS0:=hid hst0
 have HPK:=hid (show p≤500∧k≤100000000 from ⟨by omega,by
  have:p*(2*n.l.length)≤500*(2*2000):=Nat.mul_le_mul (by omega) (by omega)
  omega⟩)
 have NM:=hid (fun w'=>named_any q w')
 clear hR hml hN1 hpk hkk hl0 hst0 hr hf hF P ck hx
 generalize stM n q=SM at *
 generalize engC q=qc at *
 generalize engV q=qv at *
 obtain ⟨n0,n1,n2,n3⟩:=netBox_cells HN0.out
 go_enter Tryz.func22,Tryz.ntmps22
 go_wp2_with fail
 refine (DP.out f fo fc _ L0 HOK.out HL0.out (HR.out.kept HB0.out) (HF.out.kept HB0.out)).mono ?_
 rintro e w1 ⟨rfl,hb⟩
 have HB1:=hid (HB0.out.trans (hb.mono HB0.out.size))
 have HN1:=hid (netBox_below HN0.out hb (by omega))
 have HX1:=hid (runBox_below HX0.out hb hz0)
 have hz1:w.heap.size+1<w1.heap.size:=runBox_lt HX1.out
 clear hb n0 n1 n2 n3 hz0 HX0 HN0
 obtain ⟨n0,n1,n2,n3⟩:=netBox_cells HN1.out
 go_wp2_with fail
 refine (NM.out _).mono ?_
 rintro e w2 ⟨rfl,rfl⟩
 go_wp2_with fail
 refine (CL.out _ (HF.out.kept HB1.out)).mono ?_
 rintro e w3 ⟨o3,c3,rfl,ho,hb⟩
 have HB3:=hid (HB1.out.trans (hb.mono HB1.out.size))
 have HN3:=hid (netBox_below HN1.out hb (by omega))
 have HX3:=hid (runBox_below HX1.out hb hz1)
 have HO3:=hid ho
 have hz3:w.heap.size+1<w3.heap.size:=runBox_lt HX3.out
 clear hb ho n0 n1 n2 n3 HX1 HN1
 obtain ⟨br,hbr⟩:∃ br,br=w3.heap.size:=⟨_,rfl⟩
 have HBA:=hid ((Below.refl w3.heap.size w3).alloc (Nat.le_refl _) (.cells #[.slice o3 n.l.length c3,.int .i64 0,.int .i64 0,.int .i64 0] 31))
 have HXR:=hid (runBox_at w3 hbr (.slice o3 n.l.length c3) 0 0 0)
 have HOR:=hid (Rw.own_base (Rw.own_below HO3.out HBA.out) (B':=w.heap.size+2) (by omega))
 have HBR:=hid hbr
 go_wp2
 rw [← hbr]
 clear hbr HO3
 generalize (w3.alloc (.cells #[.slice o3 n.l.length c3,.int .i64 0,.int .i64 0,.int .i64 0] 31))=w4 at *
 go_loopg [10,11] p (fun gg s10 s11 wr=>∃ (fl L:List Int) (pi ki kr ci:Nat) (oi:Option Addr) (si:Int),s10=.int .i64 (amt L n.t.toNat)∧s11=.int .i64 0∧pi+gg=p∧Hid (ki+kr=k)∧Hid (0≤si∧si≤(pi:Int)*SM)∧Hid (Okf n fl)∧Hid (IsLev n fl x L)∧Hid (Phs n x fl h gg kr)∧Hid (RunBox wr br (.slice oi n.l.length ci) pi ki si)∧Hid (OwnL wr (w.heap.size+2) (.slice oi n.l.length ci) fl)∧Hid (Below w3.heap.size w3 wr))
 case atStart=>exact ⟨f,L0,0,0,k,c3,o3,0,rfl,rfl,by omega,hid (by omega),hid (by omega),HOK,HL0,HP,HXR,HOR,HBA⟩
 case round =>
  obtain ⟨fl,L,pi,ki,kr,ci,oi,si,rfl,rfl,hpg,HKK,HSI,HOF,HLV,HPR,HXI,HOI,HBW⟩:=hrel
  have HNW:=hid (netBox_below HN3.out HBW.out (by omega))
  have HXW:=hid (runBox_below HX3.out HBW.out hz3)
  have HRW:=hid (HR.out.kept (HB3.out.trans (HBW.out.mono HB3.out.size)))
  obtain ⟨n0,n1,n2,n3⟩:=netBox_cells HNW.out
  obtain ⟨r0,r1,r2,r3⟩:=runBox_cells HXI.out
  by_cases hg0:gk=0
  ·obtain ⟨hneg,hh,hk0⟩:=SP.out fl L kr HLV.out (by have h:=HPR.out;rwa [hg0] at h)
   have hpp:pi=p:=by omega
   have hkk:ki=k:=by have:=HKK.out;omega
   have hd:decide (0≤amt L n.t.toNat)=false:=by simpa using hneg
   subst hh hpp hkk
   obtain ⟨y0,y1,y2,y3⟩:=runBox_cells HXW.out
   have f0:=runBox_frozen HXW.out 0
   have f1:=runBox_frozen HXW.out 1
   have f2:=runBox_frozen HXW.out 2
   have f3:=runBox_frozen HXW.out 3
   have HBE:=hid (HB3.out.trans (HBW.out.mono HB3.out.size))
   clear hneg hk0 hpg
   generalize amt L n.t.toNat=dv at *
   go_wp2
   refine bodyPost_ret_by (results_cell_one rfl _ _ (w.heap.size+1) 31 _ (0,0) _ rfl (runBox_all (v2:=.slice oi n.l.length ci) (p2:=(pi:Int)) (k2:=(ki:Int)) (s2:=si) HXW.out) Tryz.underlying31 rfl (by kernel_rfl)) rfl ?_
   exact ⟨oi,ci,si,rfl,Rw.own_base (runBox_own HXW.out HOI.out (by omega) _ _ _ _) (by omega),HSI.out.1,HSI.out.2,below_all HBE.out (by omega) _ _ _ _⟩
  ·obtain ⟨pr,hpr⟩:∃ pr,gk=pr+1:=⟨gk-1,by omega⟩
   obtain ⟨hpos,W,g,L2,k2,hB,hk2,hG,hl2,hP2⟩:=NX.out fl L pr kr HLV.out HOF.out (by have h:=HPR.out;rwa [hpr] at h)
   have hd:decide (0≤amt L n.t.toNat)=true:=by simpa using hpos
   have hpp:pi<p:=by omega
   have hsi:si≤10000000000000:=by
    have h1:=HSI.out.2
    have h2:(pi:Int)*SM≤500*10000000000:=Int.le_trans (Int.mul_le_mul_of_nonneg_right (by have:=HPK.out;omega) HS0.out.1) (Int.mul_le_mul_of_nonneg_left HS0.out.2 (by omega))
    omega
   have PC:=hid (PH.out fl oi ci wr L W g HOF.out HLV.out hB HRW.out (own_irow HOI.out) (pi:Int) (ki:Int) si ⟨by omega,by have:=HPK.out;omega⟩ ⟨by omega,by have:=HPK.out;have:=HKK.out;omega⟩ ⟨HSI.out.1,by omega⟩)
   have HG:=hid hG
   have HL2:=hid hl2
   have HP2:=hid hP2
   have HPP:=hid (show pi+1+pr=p∧pr<gk∧ki+W.length+k2=k from ⟨by omega,by omega,by have:=HKK.out;omega⟩)
   clear hpos hB hk2 hG hl2 hP2 hpr hg0 hpg hpp hsi
   generalize amt L n.t.toNat=dv at *
   go_wp2_with fail
   refine PC.out.mono ?_
   rintro e w5 ⟨o5,c5,st,rfl,ho,hst0,hst1,hb⟩
   have HB5:=hid (HBW.out.trans (hb.mono HBW.out.size))
   have hbr5:br<wr.heap.size:=runBox_lt HXI.out
   have hbr3:w3.heap.size≤br:=by have:=HBR.out;omega
   have HX5:=hid (runBox_below HXI.out hb hbr5)
   have HO5:=hid ho
   have HST:=hid (show 0≤st∧st≤SM from ⟨hst0,hst1⟩)
   have HZ5:=hid hb.size
   obtain ⟨y0,y1,y2,y3⟩:=runBox_cells HX5.out
   have f0:=runBox_frozen HX5.out 0
   have f1:=runBox_frozen HX5.out 1
   have f2:=runBox_frozen HX5.out 2
   have f3:=runBox_frozen HX5.out 3
   clear hb ho hst0 hst1 n0 n1 n2 n3 r0 r1 r2 r3
   have HXA:=hid (runBox_all (v2:=.slice o5 n.l.length c5) (p2:=(pi:Int)+1) (k2:=(ki:Int)+(W.length:Int)) (s2:=si+st) HX5.out)
   have HOA:=hid (runBox_own HX5.out HO5.out hbr5 (.slice o5 n.l.length c5) ((pi:Int)+1) ((ki:Int)+(W.length:Int)) (si+st))
   have HBX:=hid (below_all HB5.out hbr3 (.slice o5 n.l.length c5) ((pi:Int)+1) ((ki:Int)+(W.length:Int)) (si+st))
   go_upto_region 12 with fail
   generalize ((((w5.setCell ⟨br,0,none⟩ (.slice o5 n.l.length c5)).setCell ⟨br,1,none⟩ (.int .i64 ((pi:Int)+1))).setCell ⟨br,2,none⟩ (.int .i64 ((ki:Int)+(W.length:Int)))).setCell ⟨br,3,none⟩ (.int .i64 (si+st)))=w6 at *
   clear y0 y1 y2 y3 f0 f1 f2 f3
   have HN6:=hid (netBox_below HN3.out HBX.out (by omega))
   have HR6:=hid (HR.out.kept (HB3.out.trans (HBX.out.mono HB3.out.size)))
   obtain ⟨n0,n1,n2,n3⟩:=netBox_cells HN6.out
   obtain ⟨r0,r1,r2,r3⟩:=runBox_cells HXA.out
   have DC:=hid (DP.out g o5 c5 w6 L2 HG.out HL2.out HR6.out (own_irow HOA.out))
   go_wp2_with fail
   refine DC.out.mono ?_
   rintro e w7 ⟨rfl,hb⟩
   have HB7:=hid (HBX.out.trans (hb.mono HBX.out.size))
   have HX7:=hid (runBox_below HXA.out hb (runBox_lt HXA.out))
   have HO7:=hid (Rw.own_base (Rw.own_below HOA.out hb) (B':=w.heap.size+2) (by have:=HBW.out.size;omega))
   clear hb n0 n1 n2 n3 r0 r1 r2 r3
   go_wp2
   go_roundg pr
   case measure=>have:=HPP.out;omega
   case rel=>exact ⟨g,L2,pi+1,ki+W.length,k2,c5,o5,si+st,rfl,rfl,HPP.out.1,hid HPP.out.2.2,hid ⟨by have:=HSI.out;have:=HST.out;omega,by
    have h1:=HSI.out;have h2:=HST.out
    have e:((pi+1:Nat):Int)*SM=(pi:Int)*SM+SM:=by rw [Int.natCast_add,Int.add_mul];simp
    omega⟩,HG,HL2,HP2,HX7,HO7,HB7⟩
end
end Ne
namespace Ne
def rnE (n:Net) (f:List Int) (x a:Int):Int:=if reE n f x≠0 then reE n f x else if a=112∨a=116 then 0 else 1
def rnG (n:Net) (f:List Int) (x a:Int) (h:List Int):List Int:=if rnE n f x a≠0 then [] else h
def rnN (n:Net) (f:List Int) (x a:Int) (m:Nat):Int:=if rnE n f x a≠0 then 0 else (m:Int)
def StP (n:Net) (f:List Int) (x a:Int) (p:Nat) (st:Int):Prop:=(a≠116→st=0)∧0≤st∧(rnE n f x a=0→st≤(p:Int)*mostV n)
theorem stP_nought {n:Net} {f:List Int} {x a:Int} (p:Nat) (h:rnE n f x a≠0):StP n f x a p 0:=⟨fun _=>rfl,Int.le_refl _,fun e=>absurd e h⟩
theorem rn_bad {n:Net} {f h:List Int} {x a:Int} (e:rnE n f x a≠0) (m:Nat):rnG n f x a h=[]∧rnN n f x a m=0:=by
 unfold rnG rnN;rw [if_pos e,if_pos e];exact ⟨rfl,rfl⟩
theorem rn_ok {n:Net} {f h:List Int} {x a:Int} (e:rnE n f x a=0) (m:Nat):rnG n f x a h=h∧rnN n f x a m=(m:Int):=by
 unfold rnG rnN;rw [if_neg (by simpa using e),if_neg (by simpa using e)];exact ⟨rfl,rfl⟩
section
variable (n:Net) (ao:Option Addr) (cap:Nat) (fo:Option Addr) (fc:Nat) (f h:List Int) (x a:Int) (p k:Nat) (w:World) (hr:ARow w ao n.l) (hf:IRow w fo f) (hl:n.l.length≤1000000) (hok:∀ a∈n.l,in64 a.cap)
include hr hf hl hok
theorem from_bad (hE:reE n f x≠0):Calls Tryz.prog 22 #[encN n ao cap,.slice fo f.length fc,.int .i64 x,.int .u8 a] w fun e w'=>e=.returned (.tuple #[.agg #[.slice none 0 0,.int .i64 0,.int .i64 0,.int .i64 0],.int .i64 (reE n f x)])∧Below w.heap.size w w':=by
 have HB0:=hid (((Below.refl w.heap.size w).alloc (Nat.le_refl _) (.cells #[.int .i64 n.n,.int .i64 n.s,.int .i64 n.t,.slice ao n.l.length cap] 27)).alloc (by simp) (.cells #[.slice none 0 0,.int .i64 0,.int .i64 0,.int .i64 0] 31))
 have HN0:=hid (netBox_alloc (netBox_new w n.n n.s n.t (.slice ao n.l.length cap)) (.cells #[.slice none 0 0,.int .i64 0,.int .i64 0,.int .i64 0] 31))
 have HX0:=hid (runBox_at (w.alloc (.cells #[.int .i64 n.n,.int .i64 n.s,.int .i64 n.t,.slice ao n.l.length cap] 27)) (b:=w.heap.size+1) (by simp) (.slice none 0 0) 0 0 0)
 have HZ0:=hid (runBox_lt HX0.out)
 have HD:=hid (ddeep_any n ao cap fo fc f x [] _ (hr.kept HB0.out) (hf.kept HB0.out) hl hok (fun e=>absurd e hE))
 have hE':(reE n f x != 0)=true:=by simpa using hE
 clear hE hr hf hl hok
 generalize reE n f x=re at *
 generalize dpV n f x []=dv at *
 obtain ⟨n0,n1,n2,n3⟩:=netBox_cells HN0.out
 go_enter Tryz.func22,Tryz.ntmps22
 go_wp2_with fail
 refine HD.out.mono ?_
 rintro e w1 ⟨rfl,hb⟩
 have HB1:=hid (HB0.out.trans (hb.mono HB0.out.size))
 have HX1:=hid (runBox_below HX0.out hb HZ0.out)
 obtain ⟨y0,y1,y2,y3⟩:=runBox_cells HX1.out
 have f0:=runBox_frozen HX1.out 0
 have f1:=runBox_frozen HX1.out 1
 have f2:=runBox_frozen HX1.out 2
 have f3:=runBox_frozen HX1.out 3
 clear hb n0 n1 n2 n3
 go_wp2
 refine bodyPost_ret_by (results_cell_one rfl _ _ (w.heap.size+1) 31 _ (0,0) _ rfl (runBox_all (v2:=.slice none 0 0) (p2:=0) (k2:=0) (s2:=0) HX1.out) Tryz.underlying31 rfl (by kernel_rfl)) rfl ?_
 exact ⟨rfl,below_all HB1.out (by omega) _ _ _ _⟩
theorem from_arg (hE:reE n f x=0) (h1:a≠112) (h2:a≠116):Calls Tryz.prog 22 #[encN n ao cap,.slice fo f.length fc,.int .i64 x,.int .u8 a] w fun e w'=>e=.returned (.tuple #[.agg #[.slice none 0 0,.int .i64 0,.int .i64 0,.int .i64 0],.int .i64 1])∧Below w.heap.size w w':=by
 have HB0:=hid (((Below.refl w.heap.size w).alloc (Nat.le_refl _) (.cells #[.int .i64 n.n,.int .i64 n.s,.int .i64 n.t,.slice ao n.l.length cap] 27)).alloc (by simp) (.cells #[.slice none 0 0,.int .i64 0,.int .i64 0,.int .i64 0] 31))
 have HN0:=hid (netBox_alloc (netBox_new w n.n n.s n.t (.slice ao n.l.length cap)) (.cells #[.slice none 0 0,.int .i64 0,.int .i64 0,.int .i64 0] 31))
 have HX0:=hid (runBox_at (w.alloc (.cells #[.int .i64 n.n,.int .i64 n.s,.int .i64 n.t,.slice ao n.l.length cap] 27)) (b:=w.heap.size+1) (by simp) (.slice none 0 0) 0 0 0)
 have HZ0:=hid (runBox_lt HX0.out)
 have hR:=right_of (okf_of (reE_ok hE).1).1
 obtain ⟨L0,hl0⟩:=lev_exists hR f x
 have HD:=hid (ddeep_any n ao cap fo fc f x L0 _ (hr.kept HB0.out) (hf.kept HB0.out) hl hok (fun _=>hl0))
 have NM:=hid (fun w'=>named_bad a h1 h2 w')
 rw [hE] at HD
 clear hE hr hf hl hok hR hl0 h1 h2
 generalize dpV n f x L0=dv at *
 obtain ⟨n0,n1,n2,n3⟩:=netBox_cells HN0.out
 go_enter Tryz.func22,Tryz.ntmps22
 go_wp2_with fail
 refine HD.out.mono ?_
 rintro e w1 ⟨rfl,hb⟩
 have HB1:=hid (HB0.out.trans (hb.mono HB0.out.size))
 have HX1:=hid (runBox_below HX0.out hb HZ0.out)
 obtain ⟨y0,y1,y2,y3⟩:=runBox_cells HX1.out
 have f0:=runBox_frozen HX1.out 0
 have f1:=runBox_frozen HX1.out 1
 have f2:=runBox_frozen HX1.out 2
 have f3:=runBox_frozen HX1.out 3
 clear hb n0 n1 n2 n3
 go_wp2_with fail
 refine (NM.out _).mono ?_
 rintro e w2 ⟨rfl,rfl⟩
 go_wp2
 refine bodyPost_ret_by (results_cell_one rfl _ _ (w.heap.size+1) 31 _ (0,0) _ rfl (runBox_all (v2:=.slice none 0 0) (p2:=0) (k2:=0) (s2:=0) HX1.out) Tryz.underlying31 rfl (by kernel_rfl)) rfl ?_
 exact ⟨rfl,below_all HB1.out (by omega) _ _ _ _⟩
theorem from_any (hP:reE n f x=0→Phs n x f h p k):Calls Tryz.prog 22 #[encN n ao cap,.slice fo f.length fc,.int .i64 x,.int .u8 a] w fun e w'=>∃ o c st,e=.returned (.tuple #[.agg #[.slice o (rnG n f x a h).length c,.int .i64 (rnN n f x a p),.int .i64 (rnN n f x a k),.int .i64 st],.int .i64 (rnE n f x a)])∧OwnL w' w.heap.size (.slice o (rnG n f x a h).length c) (rnG n f x a h)∧StP n f x a p st∧Below w.heap.size w w':=by
 by_cases c0:reE n f x=0
 ·obtain ⟨hck,hx⟩:=reE_ok c0
  obtain ⟨ck,hF⟩:=okf_of hck
  by_cases c1:a=112∨a=116
  ·have e:rnE n f x a=0:=by unfold rnE;rw [if_neg (by simpa using c0),if_pos c1]
   obtain ⟨q,rfl⟩:∃ q,a=engC q:=by
    rcases c1 with c1 | c1
    ·exact ⟨false,c1⟩
    ·exact ⟨true,c1⟩
   rw [(rn_ok (h:=h) e p).1,(rn_ok (h:=h) e p).2,(rn_ok (h:=h) e k).2,e,(phs_okf (right_of ck) hx (hP c0) hF).1.len,hF.len]
   refine (from_flow ao cap fo fc w ck hr hf hF hx (hP c0) q).mono ?_
   rintro e w' ⟨o,c,st,h1,h2,h3,h4,h5⟩
   refine ⟨o,c,st,h1,h2,⟨fun hq=>?_,h3,fun _=>Int.le_trans h4 (Int.mul_le_mul_of_nonneg_left (st_most (right_of ck) q) (by omega))⟩,h5⟩
   cases q
   ·rw [show stM n false=0 from rfl,Int.mul_zero] at h4;omega
   ·exact absurd rfl hq
  ·have e:rnE n f x a=1:=by unfold rnE;rw [if_neg (by simpa using c0),if_neg c1]
   have e':rnE n f x a≠0:=by rw [e];decide
   rw [(rn_bad (h:=h) e' p).1,(rn_bad (h:=h) e' p).2,(rn_bad (h:=h) e' k).2,e]
   refine (from_arg n ao cap fo fc f x a w hr hf hl hok c0 (fun e=>c1 (.inl e)) (fun e=>c1 (.inr e))).mono ?_
   rintro e w' ⟨h1,h2⟩
   exact ⟨none,0,0,h1,Rw.own_nil _ _,stP_nought p e',h2⟩
 ·have e:rnE n f x a=reE n f x:=by unfold rnE;rw [if_pos c0]
  have e':rnE n f x a≠0:=by rw [e];exact c0
  rw [(rn_bad (h:=h) e' p).1,(rn_bad (h:=h) e' p).2,(rn_bad (h:=h) e' k).2,e]
  refine (from_bad n ao cap fo fc f x a w hr hf hl hok c0).mono ?_
  rintro e w' ⟨h1,h2⟩
  exact ⟨none,0,0,h1,Rw.own_nil _ _,stP_nought p e',h2⟩
end
end Ne
namespace Ne
section
variable (n:Net) (ao:Option Addr) (cap:Nat) (h:List Int) (a:Int) (p k:Nat) (w:World) (hr:ARow w ao n.l) (hl:n.l.length≤1000000) (hok:∀ a∈n.l,in64 a.cap)
include hr hl hok
theorem max_any (hP:reE n (List.replicate n.l.length 0) 1=0→Phs n 1 (List.replicate n.l.length 0) h p k):Calls Tryz.prog 8 #[encN n ao cap,.int .u8 a] w fun e w'=>∃ o c st,e=.returned (.tuple #[.agg #[.slice o (rnG n (List.replicate n.l.length 0) 1 a h).length c,.int .i64 (rnN n (List.replicate n.l.length 0) 1 a p),.int .i64 (rnN n (List.replicate n.l.length 0) 1 a k),.int .i64 st],.int .i64 (rnE n (List.replicate n.l.length 0) 1 a)])∧OwnL w' w.heap.size (.slice o (rnG n (List.replicate n.l.length 0) 1 a h).length c) (rnG n (List.replicate n.l.length 0) 1 a h)∧StP n (List.replicate n.l.length 0) 1 a p st∧Below w.heap.size w w':=by
 obtain ⟨f,hf⟩:∃ f,f=List.replicate n.l.length (0:Int):=⟨_,rfl⟩
 have hfl:f.length=n.l.length:=by rw [hf];simp
 have HB0:=hid (((Below.refl w.heap.size w).alloc (Nat.le_refl _) (.cells #[.int .i64 n.n,.int .i64 n.s,.int .i64 n.t,.slice ao n.l.length cap] 27)).alloc (by simp) (.cells #[.slice none 0 0,.int .i64 0,.int .i64 0,.int .i64 0] 31))
 have HN0:=hid (netBox_alloc (netBox_new w n.n n.s n.t (.slice ao n.l.length cap)) (.cells #[.slice none 0 0,.int .i64 0,.int .i64 0,.int .i64 0] 31))
 have HX0:=hid (runBox_at (w.alloc (.cells #[.int .i64 n.n,.int .i64 n.s,.int .i64 n.t,.slice ao n.l.length cap] 27)) (b:=w.heap.size+1) (by simp) (.slice none 0 0) 0 0 0)
 have HZ0:=hid (runBox_lt HX0.out)
 generalize hW:((w.alloc (.cells #[.int .i64 n.n,.int .i64 n.s,.int .i64 n.t,.slice ao n.l.length cap] 27)).alloc (.cells #[.slice none 0 0,.int .i64 0,.int .i64 0,.int .i64 0] 31))=W0 at *
 have hmk:=make_l n.l.length hl
 have hm:Below W0.heap.size W0 (W0.drew.alloc (.cells (madeCells #[.int .i64 0] n.l.length) 2)):=(below_drew (Below.refl _ _)).alloc (Nat.le_refl _) _
 have hrow:IRow (W0.drew.alloc (.cells (madeCells #[.int .i64 0] n.l.length) 2)) (some ⟨W0.heap.size,0,none⟩) f:=by rw [hf];exact (lbox_made W0.drew n.l.length rfl).irow
 have HMB:=hid hm
 have FC:=hid (from_any n ao cap (some ⟨W0.heap.size,0,none⟩) n.l.length f h 1 a p k _ (hr.kept (HB0.out.trans (hm.mono HB0.out.size))) hrow hl hok (by rw [hf];exact hP))
 rw [hfl] at FC
 rw [← hf]
 obtain ⟨m0,m1,m2,m3⟩:=netBox_cells (netBox_below HN0.out hm (netBox_lt HN0.out))
 obtain ⟨n0,n1,n2,n3⟩:=netBox_cells HN0.out
 have HW:=hid hW
 have HW0:=HB0
 clear hr hl hok hP hf hfl hm hrow hW
 generalize StP n f 1 a p=SP at *
 generalize rnG n f 1 a h=G at *
 generalize rnN n f 1 a p=PP at *
 generalize rnN n f 1 a k=KK at *
 generalize rnE n f 1 a=E at *
 go_enter Tryz.func8,Tryz.ntmps8
 go_wp2
 rw [HW.out]
 have hS0:=(show (fun w'=>w'.cell? ⟨w.heap.size,0,none⟩=some (.int .i64 n.n)∧w'.cell? ⟨w.heap.size,1,none⟩=some (.int .i64 n.s)∧w'.cell? ⟨w.heap.size,2,none⟩=some (.int .i64 n.t)∧w'.cell? ⟨w.heap.size,3,none⟩=some (.slice ao n.l.length cap)) W0.drew from netBox_cells HN0.out)
 have hS1:=(show (fun w'=>w'.cell? ⟨w.heap.size,0,none⟩=some (.int .i64 n.n)∧w'.cell? ⟨w.heap.size,1,none⟩=some (.int .i64 n.s)∧w'.cell? ⟨w.heap.size,2,none⟩=some (.int .i64 n.t)∧w'.cell? ⟨w.heap.size,3,none⟩=some (.slice ao n.l.length cap)) (W0.drew.alloc (.cells (madeCells #[.int .i64 0] n.l.length) 2)) from ⟨m0,m1,m2,m3⟩)
 refine Rh.start (S:=(fun w'=>w'.cell? ⟨w.heap.size,0,none⟩=some (.int .i64 n.n)∧w'.cell? ⟨w.heap.size,1,none⟩=some (.int .i64 n.s)∧w'.cell? ⟨w.heap.size,2,none⟩=some (.int .i64 n.t)∧w'.cell? ⟨w.heap.size,3,none⟩=some (.slice ao n.l.length cap))) (by kernel_rfl) ?_
 refine Rh.tp 6 0 hS0 ?_
 refine Rh.tp 7 1 hS0 ?_
 refine Rh.tp 8 2 hS0 ?_
 refine Rh.tp 9 3 hS0 ?_
 refine Rh.tp 11 5 hS0 ?_
 refine Rh.step (i:=4) (by kernel_rfl) rfl fun K' hK'=>?_
 have HK:=hid hK'
 clear hK'
 go_simp
 refine HK.out _ _ ⟨hS1,?_⟩
 clear HK K'
 try simp only [Act.put,Rh.q1,Rh.q2,Rh.q3]
 refine Rh.step (i:=6) (by kernel_rfl) rfl fun K' hK'=>?_
 have HK:=hid hK'
 clear hK'
 go_simp
 refine FC.out.mono ?_
 rintro e w2 ⟨o,c,st,rfl,ho,hst,hb⟩
 have HO2:=hid ho
 have HST:=hid hst
 have HB2:=hid (HMB.out.trans (hb.mono HMB.out.size))
 have X2:=runBox_below HX0.out HB2.out HZ0.out
 have HX2:=hid X2
 obtain ⟨y0,y1,y2,y3⟩:=runBox_cells X2
 have f0:=runBox_frozen X2 0
 have f1:=runBox_frozen X2 1
 have f2:=runBox_frozen X2 2
 have f3:=runBox_frozen X2 3
 have hS2:=(show (fun w'=>w'.cell? ⟨w.heap.size,0,none⟩=some (.int .i64 n.n)∧w'.cell? ⟨w.heap.size,1,none⟩=some (.int .i64 n.s)∧w'.cell? ⟨w.heap.size,2,none⟩=some (.int .i64 n.t)∧w'.cell? ⟨w.heap.size,3,none⟩=some (.slice ao n.l.length cap)) w2 from netBox_cells (netBox_below HN0.out HB2.out (netBox_lt HN0.out)))
 have hS3:=(show (fun w'=>w'.cell? ⟨w.heap.size,0,none⟩=some (.int .i64 n.n)∧w'.cell? ⟨w.heap.size,1,none⟩=some (.int .i64 n.s)∧w'.cell? ⟨w.heap.size,2,none⟩=some (.int .i64 n.t)∧w'.cell? ⟨w.heap.size,3,none⟩=some (.slice ao n.l.length cap)) ((((w2.setCell ⟨w.heap.size+1,0,none⟩ (.slice o G.length c)).setCell ⟨w.heap.size+1,1,none⟩ (.int .i64 PP)).setCell ⟨w.heap.size+1,2,none⟩ (.int .i64 KK)).setCell ⟨w.heap.size+1,3,none⟩ (.int .i64 st)) from netBox_cells (netBox_other (netBox_other (netBox_other (netBox_other (netBox_below HN0.out HB2.out (netBox_lt HN0.out)) (by omega)) (by omega)) (by omega)) (by omega)))
 clear hb ho X2 hst
 refine HK.out _ _ ⟨hS2,?_⟩
 clear HK K'
 try simp only [Act.put,Rh.q1,Rh.q2,Rh.q3]
 refine Rh.tp 13 7 hS2 ?_
 refine Rh.tp 14 8 hS2 ?_
 refine Rh.step (i:=9) (by kernel_rfl) rfl fun K' hK'=>?_
 have HK:=hid hK'
 clear hK'
 go_simp
 refine HK.out _ _ ⟨hS3,?_⟩
 clear HK K'
 try simp only [Act.put,Rh.q1,Rh.q2,Rh.q3]
 refine Rh.tp 5 10 hS3 ?_
 refine Rh.done (by kernel_rfl) ?_ _
 go_wp2
 refine bodyPost_ret_by (results_cell_one rfl _ _ (w.heap.size+1) 31 _ (0,0) _ rfl (runBox_all (v2:=.slice o G.length c) (p2:=PP) (k2:=KK) (s2:=st) HX2.out) Tryz.underlying31 rfl (by kernel_rfl)) rfl ?_
 have hz:=HW0.out.size
 exact ⟨o,c,st,rfl,Rw.own_base (runBox_own HX2.out HO2.out (by have:=HMB.out.size;have:=HZ0.out;omega) _ _ _ _) (by have:=HMB.out.size;have:=HZ0.out;omega),HST.out,below_all (HW0.out.trans (HB2.out.mono hz)) (by omega) _ _ _ _⟩
end
section
variable {n:Net} (ao:Option Addr) (cap:Nat) {h:List Int} {p k:Nat} (w:World) (ck:checkN n=0) (hr:ARow w ao n.l) (P:Phs n 1 (List.replicate n.l.length 0) h p k) (q:Bool)
include ck hr P
theorem max_flow:Calls Tryz.prog 8 #[encN n ao cap,.int .u8 (engC q)] w fun e w'=>∃ o c st,e=.returned (.tuple #[.agg #[.slice o n.l.length c,.int .i64 (p:Int),.int .i64 (k:Int),.int .i64 st],.int .i64 0])∧IRow w' o h∧(q=false→st=0)∧0≤st∧st≤(p:Int)*mostV n∧Below w.heap.size w w':=by
 have hR:=right_of ck
 have hF:=flow_nought hR
 have e0:=reE_flow ck hF (Int.le_refl 1)
 have e:rnE n (List.replicate n.l.length 0) 1 (engC q)=0:=by
  unfold rnE;rw [if_neg (by simpa using e0),if_pos (by cases q;exact .inl rfl;exact .inr rfl)]
 have hm:=max_any n ao cap h (engC q) p k w hr (by have:=hR.len;omega) (cap_64 hR) (fun _=>P)
 rw [(rn_ok (h:=h) e p).1,(rn_ok (h:=h) e p).2,(rn_ok (h:=h) e k).2,e,(phs_okf hR (Int.le_refl 1) P hF.okf).1.len] at hm
 refine hm.mono ?_
 rintro e w' ⟨o,c,st,h1,h2,⟨h3,h4,h5⟩,h6⟩
 exact ⟨o,c,st,h1,own_irow h2,fun hq=>h3 (by rw [hq];decide),h4,h5 (by assumption),h6⟩
end
end Ne
end Go.Proofs.YthhlfphnokdfaaaGreat
namespace Go.Proofs.YthhlfphnokdfaaaGreat
namespace Ne
theorem max_facts {n:Net} (hR:Right n):∃ (g L:List Int) (p k:Nat),Phs n 1 (List.replicate n.l.length 0) g p k∧Flow n g∧IsLev n g 1 L∧amt L n.t.toNat<0∧Top n (exc n.l g n.t)∧(p:Int)<n.n∧p≤k:=by
 have hF:=flow_nought hR
 obtain ⟨g,p,k,P⟩:=phs_exists hR (Int.le_refl 1) hF.okf
 obtain ⟨_,L,hL,hd⟩:=phs_okf hR (Int.le_refl 1) P hF.okf
 have h1:=phs_flow hR (Int.le_refl 1) P hF
 have h2:=phs_lt hR (Int.le_refl 1) P hF.okf
 exact ⟨g,L,p,k,P,h1,hL,hd,phs_top hR P hF,h2.1,h2.2⟩
theorem reach_top {n:Net} (hR:Right n) {g L:List Int} {M:List Bool} (hg:Flow n g) (hL:IsLev n g 1 L) (hd:amt L n.t.toNat<0) (hM:IsReach n g 1 M) :
  M.getD n.t.toNat false=false∧M.getD n.s.toNat false=true∧exc n.l g n.t=capP n.l (fun v:Int=>!(M.getD v.toNat false)):=by
 have ht:M.getD n.t.toNat false=false:=by
  have:=(sink_says hR hL hM).1
  rw [this];simpa using hd
 have hs:=hM.at_s
 refine ⟨ht,hs,?_⟩
 rw [flow_cut hR hg (P:=fun v:Int=>!(M.getD v.toNat false)) (by simp only [hs];rfl) (by simp only [ht];rfl),capP_eq]
 refine sumTo_congr fun i hi=>?_
 obtain ⟨w1,w2⟩:=hg.wi i hi
 have h1:=hM.closed (2*i) (by omega)
 have h2:=hM.closed (2*i+1) (by omega)
 rw [trF_even,trT_even,room_even] at h1
 rw [trF_odd,trT_odd,room_odd] at h2
 unfold cutA capT
 simp only
 rcases Bool.eq_false_or_eq_true (M.getD (arcAt n.l i).fr.toNat false) with c1 | c1 <;> rcases Bool.eq_false_or_eq_true (M.getD (arcAt n.l i).to.toNat false) with c2 | c2
 ·simp only [c1,c2];simp
 ·have:¬ 1≤(arcAt n.l i).cap-amt g i:=fun e=>by have:=h1 e c1;rw [c2] at this;cases this
  simp only [c1,c2]
  simp
  omega
 ·have:¬ 1≤amt g i:=fun e=>by have:=h2 e c2;rw [c1] at this;cases this
  have e0:amt g i=0:=by omega
  simp only [c1,c2]
  simp [e0]
 ·simp only [c1,c2];simp
end Ne
end Go.Proofs.YthhlfphnokdfaaaGreat
namespace Go.Proofs.YthhlfphnokdfaaaGreat
open Go.Joins Go.ChangeShapes Go.WideShapes Go.RowKit Go.Deep
namespace Ne
section
variable {H:Type} {enc:TypeId × Value→H} {P:Program} {w:World} {base:Nat} {spare:Nat→Bool} {held:Bool}
theorem open_slice_fields {t e:TypeId} {fs:Array Field} {fuel:Nat} {cs:List Value} {x:DataW H × List MemPlace} (ht:P.underlying t=some (.slice e)) (he:P.underlying e=some (.struct fs))
  (hone:oneCellFields P fs=true) (hC:P.cellsOf e=fs.size) (h:DataW.trod enc P w base spare held fuel t cs=some x) :
  cs=[.slice none 0 0] ∨
  ∃ (a:Addr) (len cap:Nat),cs=[.slice (some a) len cap]∧len≤cap∧cap≤maxLen ∧
   ∀ i,i<len→∀ (j:Nat) (f:Field),fs[j]? = some f→∃ (v:Value) (y:DataW H × List MemPlace) (n:Nat),w.cell? (a.add (i*fs.size+j))=some v∧DataW.trod enc P w base spare held n f.type [v]=some y:=by
 rcases open_slice ht h with h0 | ⟨a,len,cap,m,n,D,Pl,hcs,hb,hl,hm,hmm,hx,hi⟩
 ·exact .inl h0.1
 ·refine .inr ⟨a,len,cap,hcs,hl,hm,fun i him j f hj=>?_⟩
  obtain ⟨cs',hc,ht'⟩:=hi i (by rw [hmm];split <;> omega)
  rw [hC] at hc
  obtain ⟨ys,n',hn',hy,hlen,hyl,hf⟩:=DataW.trod_struct he ht'
  obtain ⟨_,hcl,hat⟩:=World.cells?_some hc
  obtain ⟨ho,hk⟩:=hone_of hone j f hj
  have hjl:j<fs.size:=(Array.getElem?_eq_some_iff.1 hj).1
  have hcell:=hat j hjl
  have hv:cs'[j]? = some (cs'[j]'(by omega)):=List.getElem?_eq_getElem (by omega)
  have h1:=hf j f hj
  rw [ho,hk] at h1
  have hone':(cs'.drop j).take 1=[cs'[j]'(by omega)]:=by
   rw [List.drop_eq_getElem_cons (by omega)]
   rfl
  rw [hone'] at h1
  have hys:ys[j]? = some (ys[j]'(by omega)):=List.getElem?_eq_getElem (by omega)
  refine ⟨_,_,n',?_,h1.trans hys⟩
  rw [← Go.Deep.add_add,hcell,hv]
end
end Ne
namespace Ne
section
variable {H:Type} {enc:TypeId × Value→H} {P:Program} {w:World} {base:Nat} {spare:Nat→Bool} {held:Bool}
theorem open_row3 {t e:TypeId} {f0 f1 f2:Field} {fuel:Nat} {cs:List Value} {x:DataW H × List MemPlace} (ht:P.underlying t=some (.slice e)) (he:P.underlying e=some (.struct #[f0,f1,f2]))
  (hone:oneCellFields P #[f0,f1,f2]=true) (hC:P.cellsOf e=3) (i0:P.underlying f0.type=some (.int .i64)) (i1:P.underlying f1.type=some (.int .i64)) (i2:P.underlying f2.type=some (.int .i64))
  (h:DataW.trod enc P w base spare held fuel t cs=some x) :
  ∃ (ao:Option Addr) (cap:Nat) (l:List Arc),cs=[.slice ao l.length cap]∧l.length≤cap∧cap≤maxLen∧(ao=none→cap=0)∧ARow w ao l∧∀ a∈l,a.ok:=by
 rcases open_slice_fields ht he hone hC h with h0 | ⟨a,len,cap,hcs,hl,hm,hf⟩
 ·exact ⟨none,0,[],h0,by simp,by simp,fun _=>rfl,.inl rfl,by simp⟩
 ·have hel:∀ i,i<len→∃ c:Arc,c.ok∧w.cell? (a.add (i*3))=some (.int .i64 c.fr)∧w.cell? (a.add (i*3+1))=some (.int .i64 c.to)∧w.cell? (a.add (i*3+2))=some (.int .i64 c.cap):=by
   intro i hi
   obtain ⟨v0,y0,n0,h0,t0⟩:=hf i hi 0 f0 rfl
   obtain ⟨v1,y1,n1,h1,t1⟩:=hf i hi 1 f1 rfl
   obtain ⟨v2,y2,n2,h2,t2⟩:=hf i hi 2 f2 rfl
   obtain ⟨z0,e0,_,w0⟩:=DataW.trod_int i0 t0
   obtain ⟨z1,e1,_,w1⟩:=DataW.trod_int i1 t1
   obtain ⟨z2,e2,_,w2⟩:=DataW.trod_int i2 t2
   simp only [List.cons.injEq,and_true] at e0 e1 e2
   subst e0 e1 e2
   refine ⟨⟨z0,z1,z2⟩,⟨bounds_i64 w0,bounds_i64 w1,bounds_i64 w2⟩,h0,h1,h2⟩
  obtain ⟨g,hg⟩:=choose_lt hel
  refine ⟨some a,cap,(List.range len).map g,by simpa using hcs,by simpa using hl,hm,fun h=>by (cases h),?_,?_⟩
  ·by_cases h0:len=0
   ·left;subst h0;rfl
   ·right
    have h1:=(hg 0 (by omega)).2.1
    obtain ⟨b,off,sp⟩:=a
    have hsp:=World.cell?_spot h1
    rw [Nat.zero_mul] at hsp
    simp only [Addr.add,if_true] at hsp
    subst hsp
    refine ⟨b,off,rfl,?_,?_⟩
    ·rw [Nat.zero_mul] at h1
     exact Rw.heap_lt_of_cell (o:=off) (by simpa [Addr.add] using h1)
    ·intro i c hc j v hv
     have hi:i<len:=by have:=(List.getElem?_eq_some_iff.1 hc).1;simpa using this
     have e:((List.range len).map g)[i]? = some (g i):=by simp [hi]
     obtain rfl:=Option.some.inj (e.symm.trans hc)
     obtain ⟨_,q0,q1,q2⟩:=hg i hi
     rw [Rw.add_at] at q0 q1 q2
     match j,hv with
     | 0,hv=>simp [encA] at hv;subst hv;exact q0
     | 1,hv=>simp [encA] at hv;subst hv;exact q1
     | 2,hv=>simp [encA] at hv;subst hv;exact q2
     | (j+3),hv=>simp [encA] at hv
  ·intro c hc
   obtain ⟨i,hi,rfl⟩:=List.mem_map.1 hc
   exact (hg i (by simpa using hi)).1
end
section
variable {H:Type} {enc:TypeId × Value→H} {w:World} {base b0:Nat} {r:Reach} {spare:Nat→Bool} {held:Bool}
end
end Ne
end Go.Proofs.YthhlfphnokdfaaaGreat
