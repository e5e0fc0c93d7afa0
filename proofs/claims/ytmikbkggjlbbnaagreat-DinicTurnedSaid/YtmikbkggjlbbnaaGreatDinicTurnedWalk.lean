/- DinicTurned: for every input the law returns true and its arguments read as they did. No condition. -/
import Derived.Test.YtmikbkggjlbbnaaGreatBg44
import Derived.Test.YtmikbkggjlbbnaaGreatBg4
import Derived.Test.YtmikbkggjlbbnaaGreatBg5
import Derived.Deep.LoopGhost
import Derived.Deep.DeepCutAuto
import Derived.RegionTactic
import Derived.BigRegion
import Derived.Test.YtmikbkggjlbbnaaGreatBg45
import Derived.Test.YtmikbkggjlbbnaaGreatRows
import Derived.WalkKit
import Derived.ProofKit
import Derived.OpenShut
import Derived.ShutString
import Derived.ChangeOld
import Derived.Below
import Derived.Deep.Strs
namespace Go.Proofs.YtmikbkggjlbbnaaGreat.dinicTurned
open Go.ChangeShapes Go.WideShapes Go.ChangeAt Go.RowKit
open Go.ChangeMaps (open_string shut_string)
set_option linter.unusedVariables false
set_option linter.unusedSimpArgs false

theorem own : ownKnob Tryz.prog.godebug = none := by kernel_rfl
theorem laidOut : laidOutB Tryz.prog = true := by kernel_rfl



set_option maxRecDepth 100000 in
set_option maxHeartbeats 4000000 in
theorem walk (a0 : Int) (a1 : Int) (a2 : List Ne.Arc) (o2 : Option Addr) (c2 : Nat) (a3 : Int) (a4 : Int) (w : World) (w0 : (Lit.int .i64 a0).wf = true) (w1 : (Lit.int .i64 a1).wf = true) (k2 : ∀ a ∈ a2, Ne.Arc.ok a) (z2 : a2.length ≤ c2) (y2 : c2 ≤ maxLen) (n2 : o2 = none → c2 = 0) (r2 : Ne.ARow w o2 a2) (w3 : (Lit.int .i64 a3).wf = true) (w4 : (Lit.int .i64 a4).wf = true) :
    Calls Tryz.prog 6 #[.int .i64 a0, .int .i64 a1, .slice o2 a2.length c2, .int .i64 a3, .int .i64 a4] w fun e w' => e = .returned (.bool true) ∧ Below w.heap.size w w' := by
  have HSH:=Lib.hid (Ne.shown_any w)
  obtain ⟨mn,hmn⟩:∃ x,x=(Ne.madeN a0 a1 a2).n:=⟨_,rfl⟩
  obtain ⟨ms,hms⟩:∃ x,x=(Ne.madeN a0 a1 a2).s:=⟨_,rfl⟩
  obtain ⟨mt,hmt⟩:∃ x,x=(Ne.madeN a0 a1 a2).t:=⟨_,rfl⟩
  obtain ⟨ml,hml⟩:∃ x,x=(Ne.madeN a0 a1 a2).l:=⟨_,rfl⟩
  have em:Ne.madeN a0 a1 a2=⟨mn,ms,mt,ml⟩:=by rw [hmn,hms,hmt,hml]
  obtain ⟨f1,f2,f3,f4,f5,f6,f7,f8,f9⟩:=Ne.madeN_fine (nodes:=a0) (ends:=a1) k2
  have ck:=Ne.made_check (nodes:=a0) (ends:=a1) k2
  have MD:=Lib.hid fun w' (h:Ne.ARow w' o2 a2)=>Ne.made_s a0 a1 a2 o2 c2 w' (bounds_i64 w0) (bounds_i64 w1) k2 h
  rw [em] at MD f1 f2 f3 f4 f5 f6 f7 f8 f9 ck
  simp only at f1 f2 f3 f4 f5 f6 f7 f8 f9
  clear hmn hms hmt hml em
  have f8':ml.length≤24:=by omega
  clear f8
  have CK:=Lib.hid ck
  have RT:=Lib.hid (Ne.right_of ck)
  have FI:=Lib.hid f9
  have CAP:=Lib.hid (show ∀ a∈ml,Ne.in64 a.cap from fun a ha=>by have:=(f9 a ha).2.2;unfold Ne.in64;omega)
  have hl6:ml.length≤1000000:=by omega
  have F7:=Lib.hid f7
  have RA:=Lib.hid r2
  clear r2 f7 f9 ck
  obtain ⟨N,rfl⟩:∃ N:Nat,mn=(N:Int):=⟨mn.toNat,by omega⟩
  obtain ⟨S,rfl⟩:∃ S:Nat,ms=(S:Int):=⟨ms.toNat,by omega⟩
  obtain ⟨D,rfl⟩:∃ D:Nat,mt=(D:Int):=⟨mt.toNat,by omega⟩
  obtain ⟨g,L,p,k,hph,hfg,hlg,hdg,htg,hpn,hpk⟩:=Ne.max_facts RT.out
  have MX:=Lib.hid fun (q:Bool) (ao:Option Addr) (cap:Nat) w' (h1:Ne.ARow w' ao (⟨(N:Int),(S:Int),(D:Int),ml⟩:Ne.Net).l)=>Ne.max_flow (n:=⟨(N:Int),(S:Int),(D:Int),ml⟩) ao cap w' CK.out h1 hph q
  have FG:=Lib.hid hfg
  have LG:=Lib.hid hlg
  have DG:=Lib.hid hdg
  have TG:=Lib.hid htg
  have PH:=Lib.hid hph
  have PK:=Lib.hid (And.intro hpn hpk)
  clear hph hfg hlg hdg htg hpn hpk
  have hN9:N≤9:=by omega
  have MF:=Lib.hid fun ao cap w' h1=>MX.out false ao cap w' h1
  simp only [Ne.engC,Bool.false_eq_true,if_false,if_true] at MF
  clear MX
  have b3:=bounds_i64 w3
  have b4:=bounds_i64 w4
  obtain ⟨TL,hTL⟩:∃ l,l=ml.map Ne.turnA:=⟨_,rfl⟩
  have HKT:=Lib.hid (show TL.length=ml.length by rw [hTL];simp)
  have HTN:=Lib.hid (show Ne.turnN ⟨(N:Int),(S:Int),(D:Int),ml⟩=⟨(N:Int),(D:Int),(S:Int),TL⟩ by rw [hTL];rfl)
  have CKT:=Lib.hid (show Ne.checkN ⟨(N:Int),(D:Int),(S:Int),TL⟩=0 by
   rw [← HTN.out]
   exact Ne.turn_check ⟨f1,by simp only;omega,f3,f4,f5,f6,F7.out,by simp only;omega⟩ FI.out)
  have RTT:=Lib.hid (Ne.right_of CKT.out)
  obtain ⟨gt,Lt,pt,qt,hphT,hfgT,hlgT,hdgT,htgT,hpnT,hpkT⟩:=Ne.max_facts RTT.out
  have MXT:=Lib.hid fun (q:Bool) (ao:Option Addr) (cap:Nat) w' (h1:Ne.ARow w' ao (⟨(N:Int),(D:Int),(S:Int),TL⟩:Ne.Net).l)=>Ne.max_flow (n:=⟨(N:Int),(D:Int),(S:Int),TL⟩) ao cap w' CKT.out h1 hphT q
  have FGT:=Lib.hid hfgT
  have LGT:=Lib.hid hlgT
  have DGT:=Lib.hid hdgT
  have TGT:=Lib.hid htgT
  have PHT:=Lib.hid hphT
  have PKT:=Lib.hid (And.intro hpnT hpkT)
  clear hphT hfgT hlgT hdgT htgT hpnT hpkT
  have MTT:=Lib.hid fun ao cap w' h1=>MXT.out true ao cap w' h1
  have VG:=Lib.hid fun om cm fo fc w' h1 h2=>Ne.val_flow (n:=⟨(N:Int),(S:Int),(D:Int),ml⟩) (f:=g) om cm fo fc w' CK.out h1 h2 FG.out
  have VGT:=Lib.hid fun (o3:Option Addr) (c3:Nat) fo fc w' h1 h2=>Ne.val_flow (n:=⟨(N:Int),(D:Int),(S:Int),TL⟩) (f:=gt) o3 c3 fo fc w' CKT.out h1 h2 FGT.out
  simp only [Ne.engC,Bool.false_eq_true,if_false,if_true,Ne.encN,HKT.out] at MTT VGT
  have HVW:=Lib.hid (show Ne.exc ml g (D:Int)=Ne.exc TL gt (S:Int) from Ne.top_turn RT.out (by rw [HTN.out];exact RTT.out) TG.out (by rw [HTN.out];exact TGT.out))
  have HV0:=Lib.hid (show ml.length=0→Ne.exc ml g (D:Int)=0 from fun h=>by rw [List.length_eq_zero_iff.1 h];rfl)
  clear MXT hTL
  have HTG:=TG
  generalize hvg:Ne.exc ml g (D:Int)=vg at *
  have HVG:=Lib.hid hvg
  generalize Ne.exc TL gt (S:Int)=wg at *
  clear hvg
  go_enter Tryz.func6,Tryz.ntmps6
  go_wp2_with fail
  refine HSH.out.mono ?_
  rintro e w1 ⟨rfl,hb⟩
  have HB1:=Lib.hid hb
  clear hb
  go_wp2_with fail
  refine (MD.out _ (RA.out.kept HB1.out)).mono ?_
  rintro e w2 ⟨om,cm,rfl,ho,hb⟩
  have HB2:=Lib.hid (HB1.out.trans (hb.mono HB1.out.size))
  have HV2:=Lib.hid (Rw.own_lt ho)
  have HO3:=Lib.hid (Rw.own_base (Rw.own_alloc ho (.cells #[.int .i64 (N:Int),.int .i64 (S:Int),.int .i64 (D:Int),.slice om ml.length cm] 24)) (B':=w.heap.size) HB1.out.size)
  have HN3:=Lib.hid (Ne.netBox_new w2 (N:Int) (S:Int) (D:Int) (.slice om ml.length cm))
  have hz2:w.heap.size≤w2.heap.size:=HB2.out.size
  have HB3:=Lib.hid (HB2.out.alloc hz2 (.cells #[.int .i64 (N:Int),.int .i64 (S:Int),.int .i64 (D:Int),.slice om ml.length cm] 24))
  clear ho hb MD RA HSH
  go_wp2_with fail
  obtain ⟨bn,hbn⟩:∃ b,b=w2.heap.size:=⟨_,rfl⟩
  have hbn3:bn<(w2.alloc (.cells #[.int .i64 (N:Int),.int .i64 (S:Int),.int .i64 (D:Int),.slice om ml.length cm] 24)).heap.size:=by rw [hbn];simp
  rw [← hbn] at HN3 HV2 hz2 ⊢
  clear hbn HB2 HB1
  generalize (w2.alloc (.cells #[.int .i64 (N:Int),.int .i64 (S:Int),.int .i64 (D:Int),.slice om ml.length cm] 24))=W3 at *
  have HR3:=Lib.hid (Ne.arow_ofA HO3.out)
  obtain ⟨_,_,ev3,_,_,hnn,_⟩:=Rw.own_row Ne.encA_len HO3.out
  have HNN:=Lib.hid (show om=none→cm=0 by
   simp only [Value.slice.injEq] at ev3
   obtain ⟨e1,_,e2⟩:=ev3
   rw [e1,e2];exact hnn)
  have CP:=Lib.hid fun w' h=>Ne.copy_any ⟨(N:Int),(S:Int),(D:Int),ml⟩ om cm w' HNN.out h hl6
  have TU:=Lib.hid fun w' h=>Ne.turn_any ⟨(N:Int),(S:Int),(D:Int),ml⟩ om cm w' HNN.out h hl6
  rw [HTN.out] at TU
  simp only [Ne.encN,HKT.out] at TU
  clear ev3 hnn
  obtain ⟨n0,n1,n2,n3⟩:=Ne.netBox_cells HN3.out
  go_wp2_with fail
  refine (MF.out om cm _ HR3.out).mono ?_
  rintro e v5 ⟨oa,ca,sa,rfl,hi,ha1,ha2,ha3,hb⟩
  clear ha1 ha2 ha3
  have hal:=(Below.refl v5.heap.size v5).alloc (Nat.le_refl _) (.cells #[.slice oa ml.length ca,.int .i64 (p:Int),.int .i64 (k:Int),.int .i64 sa] 28)
  have HXA5:=Lib.hid (Ne.runBox_at v5 rfl (.slice oa ml.length ca) (p:Int) (k:Int) sa)
  have HIA5:=Lib.hid (hi.kept hal)
  replace hb:=hb.trans (hal.mono hb.size)
  have HB5:=Lib.hid (HB3.out.trans (hb.mono HB3.out.size))
  have HN5:=Lib.hid (Ne.netBox_below HN3.out hb (Ne.netBox_lt HN3.out))
  have HR5:=Lib.hid (HR3.out.kept hb)
  clear hb hi hal n0 n1 n2 n3
  obtain ⟨n0,n1,n2,n3⟩:=Ne.netBox_cells HN5.out
  obtain ⟨x0,x1,x2,x3⟩:=Ne.runBox_cells HXA5.out
  go_wp2_with fail
  refine (VG.out om cm _ _ _ HR5.out HIA5.out).mono ?_
  rintro e v6 ⟨rfl,hb⟩
  have HB6:=Lib.hid (HB5.out.trans (hb.mono HB5.out.size))
  have HN6:=Lib.hid (Ne.netBox_below HN5.out hb (Ne.netBox_lt HN5.out))
  have HR6:=Lib.hid (HR5.out.kept hb)
  clear hb x0 x1 x2 x3 n0 n1 n2 n3
  obtain ⟨n0,n1,n2,n3⟩:=Ne.netBox_cells HN6.out
  go_wp2_with fail
  refine (TU.out _ HR6.out).mono ?_
  rintro e v7 ⟨ot,ct,rfl,ho,hb⟩
  have hal:=(Below.refl v7.heap.size v7).alloc (Nat.le_refl _) (.cells #[.int .i64 (N:Int),.int .i64 (D:Int),.int .i64 (S:Int),.slice ot ml.length ct] 24)
  have HT7:=Lib.hid (Ne.netBox_new v7 (N:Int) (D:Int) (S:Int) (.slice ot ml.length ct))
  have HRT7:=Lib.hid ((Ne.arow_ofA ho).kept hal)
  replace hb:=hb.trans (hal.mono hb.size)
  have HB7:=Lib.hid (HB6.out.trans (hb.mono HB6.out.size))
  have HN7:=Lib.hid (Ne.netBox_below HN6.out hb (Ne.netBox_lt HN6.out))
  have HR7:=Lib.hid (HR6.out.kept hb)
  clear hb ho hal n0 n1 n2 n3
  obtain ⟨n0,n1,n2,n3⟩:=Ne.netBox_cells HN7.out
  obtain ⟨m0,m1,m2,m3⟩:=Ne.netBox_cells HT7.out
  go_wp2_with fail
  refine (MTT.out ot ct _ HRT7.out).mono ?_
  rintro e v8 ⟨ob,cb,sb,rfl,hi,ha1,ha2,ha3,hb⟩
  clear ha1 ha2 ha3
  have hal:=(Below.refl v8.heap.size v8).alloc (Nat.le_refl _) (.cells #[.slice ob ml.length cb,.int .i64 (pt:Int),.int .i64 (qt:Int),.int .i64 sb] 28)
  have HXB8:=Lib.hid (Ne.runBox_at v8 rfl (.slice ob ml.length cb) (pt:Int) (qt:Int) sb)
  have HIB8:=Lib.hid (hi.kept hal)
  replace hb:=hb.trans (hal.mono hb.size)
  have HB8:=Lib.hid (HB7.out.trans (hb.mono HB7.out.size))
  have HN8:=Lib.hid (Ne.netBox_below HN7.out hb (Ne.netBox_lt HN7.out))
  have HR8:=Lib.hid (HR7.out.kept hb)
  have HT8:=Lib.hid (Ne.netBox_below HT7.out hb (Ne.netBox_lt HT7.out))
  have HRT8:=Lib.hid (HRT7.out.kept hb)
  clear hb hi hal n0 n1 n2 n3 m0 m1 m2 m3
  obtain ⟨n0,n1,n2,n3⟩:=Ne.netBox_cells HN8.out
  obtain ⟨m0,m1,m2,m3⟩:=Ne.netBox_cells HT8.out
  obtain ⟨x0,x1,x2,x3⟩:=Ne.runBox_cells HXB8.out
  go_wp2_with fail
  refine (VGT.out ot ct ob cb _ HRT8.out HIB8.out).mono ?_
  rintro e v9 ⟨rfl,hb⟩
  have HB9:=Lib.hid (HB8.out.trans (hb.mono HB8.out.size))
  have HN9:=Lib.hid (Ne.netBox_below HN8.out hb (Ne.netBox_lt HN8.out))
  have HR9:=Lib.hid (HR8.out.kept hb)
  clear hb x0 x1 x2 x3 n0 n1 n2 n3 m0 m1 m2 m3
  obtain ⟨n0,n1,n2,n3⟩:=Ne.netBox_cells HN9.out
  have hvv:(vg != wg)=false:=by rw [HVW.out];simp
  by_cases hm0:ml.length=0
  ·have hl0:((ml.length:Int) == 0)=true:=by rw [hm0];rfl
   have hv0:(vg == 0)=true:=by rw [HV0.out hm0];rfl
   clear hm0
   go_wp2
   go_ret
   exact ⟨rfl,HB9.out⟩
  have hl0:((ml.length:Int) == 0)=false:=by rw [beq_eq_false_iff_ne];omega
  have PK:=Lib.hid fun w'=>Ne.pick_any a3 (ml.length:Int) w' b3.1 b3.2 (by omega) (by omega)
  have bpk:=Ne.pickN_bd (c:=a3) (n:=(ml.length:Int)) (by omega)
  obtain ⟨kk,hkk⟩:∃ i:Nat,Ne.pickN a3 (ml.length:Int)=(i:Int):=⟨(Ne.pickN a3 (ml.length:Int)).toNat,by omega⟩
  rw [hkk] at PK bpk
  have PI:=Lib.hid fun w'=>Ne.pick_any a4 (ml.length:Int) w' b4.1 b4.2 (by omega) (by omega)
  have bpi:=Ne.pickN_bd (c:=a4) (n:=(ml.length:Int)) (by omega)
  obtain ⟨i,hi⟩:∃ i:Nat,Ne.pickN a4 (ml.length:Int)=(i:Int):=⟨(Ne.pickN a4 (ml.length:Int)).toNat,by omega⟩
  rw [hi] at PI bpi
  have HKI:=Lib.hid (show kk<ml.length∧i<ml.length from ⟨by omega,by omega⟩)
  obtain ⟨MR,hMR⟩:∃ l,l=Ne.rotL ml kk:=⟨_,rfl⟩
  obtain ⟨MS,hMS⟩:∃ l,l=MR.set i (Ne.restA (Ne.arcAt MR i)):=⟨_,rfl⟩
  obtain ⟨MP,hMP⟩:∃ l,l=MS ++ [Ne.halfA (Ne.arcAt MR i)]:=⟨_,rfl⟩
  have hPP:MP=Ne.partL (Ne.rotL ml kk) i:=by rw [hMP,hMS,hMR];rfl
  obtain ⟨k1,hk1⟩:∃ k,k=ml.length+1:=⟨_,rfl⟩
  have HMR:=Lib.hid (show MR=ml.drop kk ++ ml.take kk from hMR)
  have HMS:=Lib.hid hMS
  have HMP:=Lib.hid hMP
  have HKR:=Lib.hid (show MR.length=ml.length by rw [hMR,Ne.rotL_len (by have:=HKI.out.1;omega)])
  have HKS:=Lib.hid (show MS.length=ml.length by rw [hMS,List.length_set,HKR.out])
  have HKP:=Lib.hid (show MP.length=k1 by rw [hMP,hk1];simp [HKS.out])
  have HKK:=Lib.hid hk1
  have hSD:S≠D:=fun e=>F7.out (by rw [e])
  have CKP:=Lib.hid (show Ne.checkN ⟨(N:Int),(S:Int),(D:Int),MP⟩=0 by rw [hPP];exact Ne.part_check (by omega) hN9 (by omega) (by omega) (by omega) (by omega) hSD f8' FI.out (by omega) (by omega))
  have RTP:=Lib.hid (Ne.right_of CKP.out)
  have SAME:=Lib.hid (fun v w h k=>show v=w from Ne.part_same (l:=ml) (k:=kk) (i:=i) (by omega) hN9 (by omega) (by omega) (by omega) (by omega) hSD f8' FI.out (by omega) (by omega) CK.out (v:=v) (w:=w) h k)
  rw [← hPP] at SAME
  have FCAP:=Lib.hid (show 0≤(Ne.arcAt MR i).cap∧(Ne.arcAt MR i).cap≤1000000 from (FI.out _ (Ne.rotL_mem (k:=kk) (by rw [← hMR];exact Ne.at_mem (by rw [HKR.out];exact HKI.out.2)))).2.2)
  obtain ⟨gp,Lp,pp,qp,hphP,hfgP,hlgP,hdgP,htgP,hpnP,hpkP⟩:=Ne.max_facts RTP.out
  have MXP:=Lib.hid fun (q:Bool) (ao:Option Addr) (cap:Nat) w' (h1:Ne.ARow w' ao (⟨(N:Int),(S:Int),(D:Int),MP⟩:Ne.Net).l)=>Ne.max_flow (n:=⟨(N:Int),(S:Int),(D:Int),MP⟩) ao cap w' CKP.out h1 hphP q
  have FGP:=Lib.hid hfgP
  have LGP:=Lib.hid hlgP
  have DGP:=Lib.hid hdgP
  have TGP:=Lib.hid htgP
  have PHP:=Lib.hid hphP
  have PKP:=Lib.hid (And.intro hpnP hpkP)
  clear hphP hfgP hlgP hdgP htgP hpnP hpkP
  have MPP:=Lib.hid fun ao cap w' h1=>MXP.out false ao cap w' h1
  have VGP:=Lib.hid fun (o3:Option Addr) (c3:Nat) fo fc w' h1 h2=>Ne.val_flow (n:=⟨(N:Int),(S:Int),(D:Int),MP⟩) (f:=gp) o3 c3 fo fc w' CKP.out h1 h2 FGP.out
  simp only [Ne.engC,Bool.false_eq_true,if_false,if_true,Ne.encN,HKP.out] at MPP VGP
  have HVP:=Lib.hid (show vg=Ne.exc MP gp (D:Int) from SAME.out _ _ HTG.out TGP.out)
  generalize Ne.exc MP gp (D:Int)=ug at *
  clear MXP hPP hMR hMS hMP hk1 hkk hi bpk bpi SAME
  go_wp2_with fail
  refine (PK.out _).mono ?_
  rintro e w' ⟨rfl,rfl⟩
  go_wp2_with fail
  refine (CP.out _ HR9.out).mono ?_
  rintro e v10 ⟨oc,cc,rfl,ho,hb⟩
  have hal:=(Below.refl v10.heap.size v10).alloc (Nat.le_refl _) (.cells #[.int .i64 (N:Int),.int .i64 (S:Int),.int .i64 (D:Int),.slice oc ml.length cc] 24)
  have HBZ:=Lib.hid hb.size
  have HNM:=Lib.hid (Ne.netBox_new v10 (N:Int) (S:Int) (D:Int) (.slice oc ml.length cc))
  have HBM:=Lib.hid (hb.trans (hal.mono hb.size))
  have HN10:=Lib.hid (Ne.netBox_below HN9.out HBM.out (Ne.netBox_lt HN9.out))
  have HR10:=Lib.hid (HR9.out.kept HBM.out)
  clear ho hb hal n0 n1 n2 n3
  obtain ⟨n0,n1,n2,n3⟩:=Ne.netBox_cells HN10.out
  obtain ⟨m0,m1,m2,m3⟩:=Ne.netBox_cells HNM.out
  go_upto_region 16 with fail
  obtain ⟨bm,hbm⟩:∃ b,b=v10.heap.size:=⟨_,rfl⟩
  rw [← hbm] at HBZ HNM m0 m1 m2 m3 ⊢
  generalize (v10.alloc (.cells #[.int .i64 (N:Int),.int .i64 (S:Int),.int .i64 (D:Int),.slice oc ml.length cc] 24))=W10 at *
  clear hbm
  obtain ⟨ab,ao,eom,hab,_⟩:=Ne.arow_cell HR10.out (i:=0) (by have:=HKI.out.1;omega)
  subst eom
  have hkc:((kk:Int)≤(ml.length:Int))∧(0:Int)≤(kk:Int):=by have:=HKI.out.1;omega
  have HCM:=Lib.hid (show ml.length≤cm from by
   obtain ⟨_,_,ev4,hle,_⟩:=Rw.own_row Ne.encA_len HO3.out
   simp only [Value.slice.injEq] at ev4
   obtain ⟨_,_,e2⟩:=ev4
   rw [e2];exact hle)
  have hk1:kk≤cm:=by have:=HKI.out.1;have:=HCM.out;omega
  have hk2:kk≤ml.length:=by have:=HKI.out.1;omega
  have hk3:¬ cm=kk:=by have:=HKI.out.1;have:=HCM.out;omega
  have hS0:=(show (fun w':World=>w'.cell? ⟨bn,3,none⟩=some (.slice (some ⟨ab,ao,none⟩) ml.length cm)∧w'.cell? ⟨bm,3,none⟩=some (.slice oc ml.length cc)) W10.drew from ⟨n3,m3⟩)
  have hbn10:=Ne.netBox_lt HN10.out
  have hbm10:=Ne.netBox_lt HNM.out
  have hA:=(Below.refl W10.drew.heap.size W10.drew).alloc (Nat.le_refl _) (.cells #[] 50)
  have hS1:=(show (fun w':World=>w'.cell? ⟨bn,3,none⟩=some (.slice (some ⟨ab,ao,none⟩) ml.length cm)∧w'.cell? ⟨bm,3,none⟩=some (.slice oc ml.length cc)) (W10.drew.alloc (.cells #[] 50)) from ⟨(hA.cell (p:=⟨bn,3,none⟩) hbn10).trans hS0.1,(hA.cell (p:=⟨bm,3,none⟩) hbm10).trans hS0.2⟩)
  have HOE:=Lib.hid (Ne.own_empty (α:=Ne.Arc) (k:=3) (enc:=Ne.encA) (e:=50) W10.drew W10.heap.size (Nat.le_refl _))
  have HDR:=Lib.hid (Ne.arow_drop (HR10.out.kept (Ne.below_from hA)) kk)
  have HLN5:=Lib.hid (show ([]:List Ne.Arc).length+(ml.drop kk).length≤1099511627776 by rw [List.length_drop];simp;omega)
  have HLN6:=Lib.hid (show (ml.drop kk).length+(ml.take kk).length≤1099511627776 by rw [List.length_drop,List.length_take];omega)
  have HZ5:=Lib.hid hA.size
  clear n0 n1 n2 n3 m0 m1 m2 m3
  go_wp2
  refine Rg.start (S:=(fun w':World=>w'.cell? ⟨bn,3,none⟩=some (.slice (some ⟨ab,ao,none⟩) ml.length cm)∧w'.cell? ⟨bm,3,none⟩=some (.slice oc ml.length cc))) (last:=12) (by kernel_rfl) ?_
  refine Rg.tk (i:=1) (v:=?_) 40 rfl (Or.inl ⟨by rfl,?_⟩) hS0 ?_
  rotate_left
  ·intro w hSw
   go_simp
   try with_reducible rfl
  try simp only [Act.put,Rh.q1,Rh.q2,Rh.q3]
  refine Rg.tk (i:=2) (v:=?_) 40 rfl (Or.inl ⟨by rfl,?_⟩) hS0 ?_
  rotate_left
  ·intro w hSw
   go_simp
   try with_reducible rfl
  try simp only [Act.put,Rh.q1,Rh.q2,Rh.q3]
  refine Rg.tk (i:=3) (v:=?_) 40 rfl (Or.inl ⟨by rfl,?_⟩) hS0 ?_
  rotate_left
  ·intro w hSw
   go_simp
   try with_reducible rfl
  try simp only [Act.put,Rh.q1,Rh.q2,Rh.q3]
  refine Rg.tk (i:=4) (v:=?_) 40 rfl (Or.inl ⟨by rfl,?_⟩) hS0 ?_
  rotate_left
  ·intro w hSw
   go_simp
   try with_reducible rfl
  try simp only [Act.put,Rh.q1,Rh.q2,Rh.q3]
  refine Rg.tk (i:=6) (v:=?_) 40 rfl (Or.inl ⟨by rfl,?_⟩) hS0 ?_
  rotate_left
  ·intro w hSw
   go_simp
   try with_reducible rfl
  try simp only [Act.put,Rh.q1,Rh.q2,Rh.q3]
  refine Rg.tk (i:=7) (v:=?_) 40 rfl (Or.inl ⟨by rfl,?_⟩) hS0 ?_
  rotate_left
  ·intro w hSw
   go_simp
   try with_reducible rfl
  try simp only [Act.put,Rh.q1,Rh.q2,Rh.q3]
  refine Rg.tk (i:=8) (v:=?_) 40 rfl (Or.inl ⟨by rfl,?_⟩) hS0 ?_
  rotate_left
  ·intro w hSw
   go_simp
   try with_reducible rfl
  try simp only [Act.put,Rh.q1,Rh.q2,Rh.q3]
  refine Rg.tk (i:=9) (v:=?_) 40 rfl (Or.inl ⟨by rfl,?_⟩) hS0 ?_
  rotate_left
  ·intro w hSw
   go_simp
   try with_reducible rfl
  try simp only [Act.put,Rh.q1,Rh.q2,Rh.q3]
  refine Rg.step (i:=0) (by kernel_rfl) rfl fun K' hK'=>?_
  have HK:=Lib.hid hK'
  clear hK'
  go_simp
  refine HK.out _ _ ⟨fun _=>hS1,?_⟩
  clear HK K'
  try simp only [Act.put,Rh.q1,Rh.q2,Rh.q3]
  refine Rg.step (i:=5) (by kernel_rfl) rfl fun K' hK'=>?_
  refine Rw.stepAt Ne.elemA Ne.encA_len Ne.encA_one (by rfl) (.tmp 87) (.tmp 91) (by rfl) W10.heap.size (.slice (some ⟨W10.heap.size,0,none⟩) 0 0) ([]:List Ne.Arc) (by rfl) HOE.out ⟨ab,ao+kk*3,none⟩ (cm-kk) (ml.drop kk) (ml.length-kk) (by rw [List.length_drop]) (by rfl) HDR.out HLN5.out HZ5.out ?_
  intro v5a w5a hown hgr _
  rw [List.nil_append] at hown
  obtain ⟨o5,c5,hv5,_⟩:=Rw.own_row Ne.encA_len hown
  rw [List.length_drop] at hv5
  subst hv5
  have HO5:=Lib.hid hown
  have HB5a:=Lib.hid (hA.grown hgr HZ5.out (fun b hb=>by have e:W10.heap.size=b:=(by simpa [Value.ownBlock] using hb);show W10.heap.size≤b;omega))
  have HNM5:=Lib.hid (Ne.netBox_below HNM.out (Ne.below_from HB5a.out) hbm10)
  have HTK:=Lib.hid (Ne.arow_take (HR10.out.kept (Ne.below_from HB5a.out)) kk)
  have HZ6:=Lib.hid (show W10.heap.size≤w5a.heap.size from HB5a.out.size)
  have HOB:=Lib.hid (Rw.own_block HO5.out)
  have hS2:=(show (fun w':World=>w'.cell? ⟨bn,3,none⟩=some (.slice (some ⟨ab,ao,none⟩) ml.length cm)∧w'.cell? ⟨bm,3,none⟩=some (.slice oc ml.length cc)) w5a from ⟨(HB5a.out.cell (p:=⟨bn,3,none⟩) hbn10).trans hS0.1,(HB5a.out.cell (p:=⟨bm,3,none⟩) hbm10).trans hS0.2⟩)
  clear hown hgr
  refine hK' _ _ ⟨fun _=>hS2,?_⟩
  clear hK' K'
  try simp only [Act.put,Rh.q1,Rh.q2,Rh.q3]
  refine Rg.step (i:=10) (by kernel_rfl) rfl fun K' hK'=>?_
  refine Rw.stepAt Ne.elemA Ne.encA_len Ne.encA_one (by rfl) (.tmp 92) (.tmp 96) (by rfl) W10.heap.size (.slice o5 (ml.length-kk) c5) (ml.drop kk) (by rfl) HO5.out ⟨ab,ao,none⟩ cm (ml.take kk) kk (by rw [List.length_take];omega) (by rfl) HTK.out HLN6.out HZ6.out ?_
  intro v6a w6a hown hgr _
  rw [← HMR.out] at hown
  obtain ⟨oR,cR,hv6,_⟩:=Rw.own_row Ne.encA_len hown
  rw [HKR.out] at hv6
  subst hv6
  have HO6:=Lib.hid hown
  have HB6a:=Lib.hid (HB5a.out.grown hgr HZ6.out (fun b hb=>HOB.out b hb))
  have HNM6:=Lib.hid (Ne.netBox_below HNM.out (Ne.below_from HB6a.out) hbm10)
  have hS3:=(show (fun w':World=>w'.cell? ⟨bn,3,none⟩=some (.slice (some ⟨ab,ao,none⟩) ml.length cm)∧w'.cell? ⟨bm,3,none⟩=some (.slice oc ml.length cc)) w6a from ⟨(HB6a.out.cell (p:=⟨bn,3,none⟩) hbn10).trans hS0.1,(HB6a.out.cell (p:=⟨bm,3,none⟩) hbm10).trans hS0.2⟩)
  have mf:=Ne.netBox_frozen HNM6.out 3
  have m3:=(Ne.netBox_cells HNM6.out).2.2.2
  clear hown hgr
  refine hK' _ _ ⟨fun _=>hS3,?_⟩
  clear hK' K'
  try simp only [Act.put,Rh.q1,Rh.q2,Rh.q3]
  refine Rg.tk (i:=11) (v:=?_) 40 rfl (Or.inl ⟨by rfl,?_⟩) hS3 ?_
  rotate_left
  ·intro w hSw
   go_simp
   try with_reducible rfl
  try simp only [Act.put,Rh.q1,Rh.q2,Rh.q3]
  refine Rg.step (i:=12) (by kernel_rfl) rfl fun K' hK'=>?_
  have HK:=Lib.hid hK'
  clear hK'
  go_simp
  refine HK.out _ _ ⟨fun h=>absurd rfl h,?_⟩
  clear HK K'
  try simp only [Act.put,Rh.q1,Rh.q2,Rh.q3]
  refine Rg.finished (by kernel_rfl) ?_ _
  have HNR:=Lib.hid (Ne.netBox_set (v2:=.slice oR ml.length cR) HNM6.out)
  have HOR:=Lib.hid (Rw.own_set HO6.out (p:=⟨bm,3,none⟩) (fun h=>Ne.own_ne_box HO6.out HNM6.out h) (.slice oR ml.length cR))
  have HBR:=Lib.hid ((HBM.out.trans ((Ne.below_from HB6a.out).mono HBM.out.size)).setCell (p:=⟨bm,3,none⟩) HBZ.out (.slice oR ml.length cR))
  generalize (w6a.setCell ⟨bm,3,none⟩ (.slice oR ml.length cR))=WR at *
  have HBW:=Lib.hid (HB9.out.trans (HBR.out.mono HB9.out.size))
  have HLR:=Lib.hid (show MS.length≤1000 by have:=HKS.out;omega)
  have f8i:=HKI.out.2
  obtain ⟨gm,hgm,hgm0,hgm1,hgc,hgf⟩:=Ne.own_cells Ne.encA_len HOR.out (Ne.at_arc (l:=MR) (i:=i) (by rw [HKR.out];exact f8i))
  subst hgm
  have HAI:=Lib.hid (show MS=MR.set i (Ne.restA (Ne.arcAt MR i))∧MP=MS ++ [Ne.halfA (Ne.arcAt MR i)] from ⟨HMS.out,HMP.out⟩)
  have hx:=Ne.at_arc (l:=MR) (i:=i) (by rw [HKR.out];exact f8i)
  have d0:=hgc 0 _ rfl
  have d1:=hgc 1 _ rfl
  have d2:=hgc 2 _ rfl
  have hii:(i:Int)<(ml.length:Int):=by omega
  have hi0:(0:Int)≤(i:Int):=by omega
  have hfc:=FCAP.out
  have hhb:=Ne.half_bd hfc.1
  generalize hA9:Ne.arcAt MR i=AI at *
  obtain ⟨fr,tt,cq⟩:=AI
  simp only at hfc hhb d0 d1 d2
  rw [Nat.add_zero] at d0
  have hwq:IntKind.i64.wrap (cq.tdiv 2)=cq.tdiv 2:=by rw [IntKind.wrap_i64];omega
  have hws:IntKind.i64.wrap (cq-cq.tdiv 2)=cq-cq.tdiv 2:=by rw [IntKind.wrap_i64];omega
  have HXI:=Lib.hid hx
  have HGM:=Lib.hid (show v9.heap.size≤gm∧gm<WR.heap.size∧gm≠bm from ⟨by have:=Rw.own_block HOR.out gm rfl;have:=HBM.out.size;omega,hgm1,fun e=>Ne.own_ne_box HOR.out HNR.out (by rw [← e];rfl)⟩)
  have HGF:=Lib.hid hgf
  clear hgc hgf hgm0 hgm1 hx hA9 f8i hfc hhb mf m3
  obtain ⟨m0,m1,m2,m3⟩:=Ne.netBox_cells HNR.out
  go_wp2_with fail
  refine (PI.out _).mono ?_
  rintro e w' ⟨rfl,rfl⟩
  go_upto_region 20 with fail
  have HAW:=Lib.hid ((Below.refl WR.heap.size WR).alloc (Nat.le_refl _) (.cells #[.int .i64 fr,.int .i64 tt,.int .i64 (cq.tdiv 2)] 50))
  have HAB:=Lib.hid (Ne.arcBox_at WR rfl (⟨fr,tt,cq.tdiv 2⟩:Ne.Arc))
  have HNX:=Lib.hid (Ne.netBox_below HNR.out HAW.out (Ne.netBox_lt HNR.out))
  have HOX:=Lib.hid (Rw.own_base (Rw.own_below HOR.out HAW.out) (B':=v9.heap.size) HBM.out.size)
  have HMS2:=Lib.hid (show MS=MR.set i ⟨fr,tt,cq-cq.tdiv 2⟩ from HAI.out.1)
  have HMP2:=Lib.hid (show MP=MS ++ [(⟨fr,tt,cq.tdiv 2⟩:Ne.Arc)] from HAI.out.2)
  have HBX:=Lib.hid (HBR.out.trans (HAW.out.mono HBR.out.size))
  clear m0 m1 m2 m3 d0 d1
  obtain ⟨m0,m1,m2,m3⟩:=Ne.netBox_cells HNX.out
  obtain ⟨b0,b1,b2⟩:=Ne.arcBox_cells HAB.out
  simp only at b0 b1 b2
  replace d2:=(HAW.out.cell (p:=⟨gm,i*3+2,none⟩) HGM.out.2.1).trans d2
  have f2:=(HAW.out.frozen (p:=⟨gm,i*3+2,none⟩) HGM.out.2.1).trans (HGF.out (i*3+2))
  have hgb:gm≠WR.heap.size:=by have:=HGM.out.2.1;omega
  obtain ⟨bh,hbh⟩:∃ b,b=WR.heap.size:=⟨_,rfl⟩
  rw [← hbh] at HAB b0 b1 b2 hgb ⊢
  generalize (WR.alloc (.cells #[.int .i64 fr,.int .i64 tt,.int .i64 (cq.tdiv 2)] 50))=WX at *
  clear hbh
  go_wp2
  go_region
  have HOP:=Lib.hid (Ne.own_drew (Ne.own_put Ne.encA_len HOX.out HXI.out (y:=⟨fr,tt,cq-cq.tdiv 2⟩) (j:=2) (by omega) (u:=.int .i64 (cq-cq.tdiv 2)) rfl))
  rw [← HMS2.out] at HOP
  have HBP:=Lib.hid (Ne.below_drew (HBX.out.setCell (p:=⟨gm,i*3+2,none⟩) HGM.out.1 (.int .i64 (cq-cq.tdiv 2))))
  have HNP:=Lib.hid (show Ne.NetBox (WX.setCell ⟨gm,i*3+2,none⟩ (.int .i64 (cq-cq.tdiv 2))).drew bm (N:Int) (S:Int) (D:Int) (.slice (some ⟨gm,0,none⟩) ml.length cR) from Ne.netBox_other HNX.out (fun e=>HGM.out.2.2 e.symm))
  have HAP:=Lib.hid (show Ne.ArcBox (WX.setCell ⟨gm,i*3+2,none⟩ (.int .i64 (cq-cq.tdiv 2))).drew bh ⟨fr,tt,cq.tdiv 2⟩ from Ne.arcBox_other HAB.out (fun e=>hgb e.symm))
  generalize (WX.setCell ⟨gm,i*3+2,none⟩ (.int .i64 (cq-cq.tdiv 2))).drew=WP at *
  clear m0 m1 m2 m3 b0 b1 b2 d2 f2 HOX HNX HAB HBX HAW
  obtain ⟨m0,m1,m2,m3⟩:=Ne.netBox_cells HNP.out
  obtain ⟨b0,b1,b2⟩:=Ne.arcBox_cells HAP.out
  simp only at b0 b1 b2
  have HNAQ:=Lib.hid (Ne.netBox_alloc HNP.out (.cells #[.int .i64 fr,.int .i64 tt,.int .i64 (cq.tdiv 2)] 50))
  have HOAQ:=Lib.hid (Rw.own_alloc HOP.out (.cells #[.int .i64 fr,.int .i64 tt,.int .i64 (cq.tdiv 2)] 50))
  have HARQ:=Lib.hid (Ne.arow_at1 WP rfl (⟨fr,tt,(cq.tdiv 2)⟩:Ne.Arc))
  have HLNQ:=Lib.hid (show MS.length+([(⟨fr,tt,(cq.tdiv 2)⟩:Ne.Arc)]:List Ne.Arc).length≤1099511627776 by have:=HLR.out;simp;omega)
  have HNEQ:=Lib.hid (Ne.own_ne_box HOAQ.out HNAQ.out)
  have HVBQ:=Lib.hid (Rw.own_block HOP.out)
  have HBAQ:=Lib.hid (HBP.out.alloc HBP.out.size (.cells #[.int .i64 fr,.int .i64 tt,.int .i64 (cq.tdiv 2)] 50))
  have HZAQ:=Lib.hid (show v9.heap.size≤(WP.alloc (.cells #[.int .i64 fr,.int .i64 tt,.int .i64 (cq.tdiv 2)] 50)).heap.size by have:=HBP.out.size;simp;omega)
  go_upto_region 22 with (at_builtin;refine Rw.app Ne.elemA Ne.encA_len Ne.encA_one rfl (.tmp 128) (.tmp 130) rfl v9.heap.size _ MS rfl HOAQ.out (some ⟨WP.heap.size,0,none⟩) 1 [(⟨fr,tt,(cq.tdiv 2)⟩:Ne.Arc)] rfl ?hnn HARQ.out HLNQ.out ?hB ?_;(case hnn=>(intro h;cases h));(case hB=>(exact HZAQ.out));intro va wa hown hgr;rw [← HMP2.out] at hown;obtain ⟨oQ,cQ,hva,_⟩:=Rw.own_row Ne.encA_len hown;rw [HKP.out] at hva;subst hva;have HNGQ:=Lib.hid (Ne.netBox_grown HNAQ.out hgr (fun h=>HNEQ.out h.symm));have HOGQ:=Lib.hid hown;have HBGQ:=Lib.hid (HBAQ.out.grown hgr HBAQ.out.size (fun b hb=>HVBQ.out b hb));have m3:=(Ne.netBox_cells HNGQ.out).2.2.2;have mf:=Ne.netBox_frozen HNGQ.out 3;clear hown hgr)
  have HNQ:=Lib.hid (Ne.netBox_set (v2:=.slice oQ k1 cQ) HNGQ.out)
  have HOQ:=Lib.hid (Rw.own_set HOGQ.out (p:=⟨bm,3,none⟩) (fun h=>Ne.own_ne_box HOGQ.out HNGQ.out h) (.slice oQ k1 cQ))
  have HBQ:=Lib.hid (HBGQ.out.setCell (p:=⟨bm,3,none⟩) HBZ.out (.slice oQ k1 cQ))
  generalize (wa.setCell ⟨bm,3,none⟩ (.slice oQ k1 cQ))=WQ at *
  clear m3 mf HNGQ HOGQ HBGQ HNAQ HOAQ HARQ HLNQ HNEQ HVBQ HBAQ HZAQ m0 m1 m2 b0 b1 b2
  have HB27:=Lib.hid (HB9.out.trans (HBQ.out.mono HB9.out.size))
  have HNM27:=HNQ
  have HOM27:=HOQ
  obtain ⟨m0,m1,m2,m3⟩:=Ne.netBox_cells HNM27.out
  go_wp2_with fail
  refine (MPP.out oQ cQ _ (Ne.arow_ofA HOM27.out)).mono ?_
  rintro e v28 ⟨od,cd,sd,rfl,hi,ha1,ha2,ha3,hb⟩
  clear ha1 ha2 ha3
  have hal:=(Below.refl v28.heap.size v28).alloc (Nat.le_refl _) (.cells #[.slice od k1 cd,.int .i64 (pp:Int),.int .i64 (qp:Int),.int .i64 sd] 28)
  have HXD28:=Lib.hid (Ne.runBox_at v28 rfl (.slice od k1 cd) (pp:Int) (qp:Int) sd)
  have HID28:=Lib.hid (hi.kept hal)
  replace hb:=hb.trans (hal.mono hb.size)
  have HB28:=Lib.hid (HB27.out.trans (hb.mono HB27.out.size))
  have HNM28:=Lib.hid (Ne.netBox_below HNM27.out hb (Ne.netBox_lt HNM27.out))
  have HOM28:=Lib.hid (Rw.own_below HOM27.out hb)
  clear hb hi hal m0 m1 m2 m3
  obtain ⟨m0,m1,m2,m3⟩:=Ne.netBox_cells HNM28.out
  obtain ⟨x0,x1,x2,x3⟩:=Ne.runBox_cells HXD28.out
  go_wp2_with fail
  refine (VGP.out oQ cQ od cd _ (Ne.arow_ofA HOM28.out) HID28.out).mono ?_
  rintro e v29 ⟨rfl,hb⟩
  have HB29:=Lib.hid (HB28.out.trans (hb.mono HB28.out.size))
  clear hb x0 x1 x2 x3 m0 m1 m2 m3
  have hvp:(ug == vg)=true:=by rw [HVP.out];simp
  go_wp2
  go_ret
  exact ⟨rfl,HB29.out⟩

end Go.Proofs.YtmikbkggjlbbnaaGreat.dinicTurned
