/- DinicApart: for every input the law returns true and its arguments read as they did. No condition. -/
import Derived.Test.YtmikbkggjlbbnaaGreatBg44
import Derived.Test.YtmikbkggjlbbnaaGreatBg4
import Derived.Test.YtmikbkggjlbbnaaGreatBg5
import Derived.Deep.LoopGhost
import Derived.Deep.DeepCutAuto
import Derived.RegionTactic
import Derived.BigRegion
import Derived.Test.YtmikbkggjlbbnaaGreatBg46
import Derived.Test.YtmikbkggjlbbnaaGreatRows
import Derived.WalkKit
import Derived.ProofKit
import Derived.OpenShut
import Derived.ShutString
import Derived.ChangeOld
import Derived.Below
import Derived.Deep.Strs
namespace Go.Proofs.YtmikbkggjlbbnaaGreat.dinicApart
open Go.ChangeShapes Go.WideShapes Go.ChangeAt Go.RowKit
open Go.ChangeMaps (open_string shut_string)
set_option linter.unusedVariables false
set_option linter.unusedSimpArgs false

theorem own : ownKnob Tryz.prog.godebug = none := by kernel_rfl
theorem laidOut : laidOutB Tryz.prog = true := by kernel_rfl



set_option maxRecDepth 100000 in
set_option maxHeartbeats 4000000 in
theorem walk (a0 : Int) (a1 : Int) (a2 : List Ne.Arc) (o2 : Option Addr) (c2 : Nat) (a3 : List Ne.Arc) (o3 : Option Addr) (c3 : Nat) (w : World) (w0 : (Lit.int .i64 a0).wf = true) (w1 : (Lit.int .i64 a1).wf = true) (k2 : ∀ a ∈ a2, Ne.Arc.ok a) (z2 : a2.length ≤ c2) (y2 : c2 ≤ maxLen) (n2 : o2 = none → c2 = 0) (r2 : Ne.ARow w o2 a2) (k3 : ∀ a ∈ a3, Ne.Arc.ok a) (z3 : a3.length ≤ c3) (y3 : c3 ≤ maxLen) (n3 : o3 = none → c3 = 0) (r3 : Ne.ARow w o3 a3) :
    Calls Tryz.prog 8 #[.int .i64 a0, .int .i64 a1, .slice o2 a2.length c2, .slice o3 a3.length c3] w fun e w' => e = .returned (.bool true) ∧ Below w.heap.size w w' := by
  have HSH:=Lib.hid (Ne.shown_any w)
  obtain ⟨mn,hmn⟩:∃ x,x=(Ne.madeN a0 a1 a2).n:=⟨_,rfl⟩
  obtain ⟨ms,hms⟩:∃ x,x=(Ne.madeN a0 a1 a2).s:=⟨_,rfl⟩
  obtain ⟨mt,hmt⟩:∃ x,x=(Ne.madeN a0 a1 a2).t:=⟨_,rfl⟩
  obtain ⟨ml,hml⟩:∃ x,x=(Ne.madeN a0 a1 a2).l:=⟨_,rfl⟩
  have em:Ne.madeN a0 a1 a2=⟨mn,ms,mt,ml⟩:=by rw [hmn,hms,hmt,hml]
  obtain ⟨f1,f2,f3,f4,f5,f6,f7,f8,f9⟩:=Ne.madeN_fine (nodes:=a0) (ends:=a1) k2
  have ck:=Ne.made_check (nodes:=a0) (ends:=a1) k2
  have MD:=Lib.hid fun w' (h:Ne.ARow w' o2 a2)=>Ne.made_s a0 a1 a2 o2 c2 w' (bounds_i64 w0) (bounds_i64 w1) k2 h
  rw [em] at MD f1 f2 f3 f4 f5 f6 f7 f8 f9 ck
  simp only at f1 f2 f3 f4 f5 f6 f7 f8 f9
  clear hmn hms hmt hml em
  have f8':ml.length≤24:=by omega
  clear f8
  have CK:=Lib.hid ck
  have RT:=Lib.hid (Ne.right_of ck)
  have FI:=Lib.hid f9
  have CAP:=Lib.hid (show ∀ a∈ml,Ne.in64 a.cap from fun a ha=>by have:=(f9 a ha).2.2;unfold Ne.in64;omega)
  have hl6:ml.length≤1000000:=by omega
  have F7:=Lib.hid f7
  have RA:=Lib.hid r2
  clear r2 f7 f9 ck
  obtain ⟨N,rfl⟩:∃ N:Nat,mn=(N:Int):=⟨mn.toNat,by omega⟩
  obtain ⟨S,rfl⟩:∃ S:Nat,ms=(S:Int):=⟨ms.toNat,by omega⟩
  obtain ⟨D,rfl⟩:∃ D:Nat,mt=(D:Int):=⟨mt.toNat,by omega⟩
  have b0:=bounds_i64 w0
  have b1:=bounds_i64 w1
  have q0:=Ne.in64_tdiv (c:=a0) b0 (k:=3) (by omega)
  have q1:=Ne.in64_tdiv (c:=a1) b1 (k:=3) (by omega)
  have hq0:IntKind.i64.wrap (a0.tdiv 3)=a0.tdiv 3:=by rw [IntKind.wrap_i64];have:=q0.1;have:=q0.2;omega
  have hq1:IntKind.i64.wrap (a1.tdiv 3)=a1.tdiv 3:=by rw [IntKind.wrap_i64];have:=q1.1;have:=q1.2;omega
  obtain ⟨mn2,hmn⟩:∃ x,x=(Ne.madeN (a0.tdiv 3) (a1.tdiv 3) a3).n:=⟨_,rfl⟩
  obtain ⟨ms2,hms⟩:∃ x,x=(Ne.madeN (a0.tdiv 3) (a1.tdiv 3) a3).s:=⟨_,rfl⟩
  obtain ⟨mt2,hmt⟩:∃ x,x=(Ne.madeN (a0.tdiv 3) (a1.tdiv 3) a3).t:=⟨_,rfl⟩
  obtain ⟨kl,hkl⟩:∃ x,x=(Ne.madeN (a0.tdiv 3) (a1.tdiv 3) a3).l:=⟨_,rfl⟩
  have em:Ne.madeN (a0.tdiv 3) (a1.tdiv 3) a3=⟨mn2,ms2,mt2,kl⟩:=by rw [hmn,hms,hmt,hkl]
  obtain ⟨e1,e2,e3,e4,e5,e6,e7,e8,e9⟩:=Ne.madeN_fine (nodes:=a0.tdiv 3) (ends:=a1.tdiv 3) k3
  have ck:=Ne.made_check (nodes:=a0.tdiv 3) (ends:=a1.tdiv 3) k3
  have MD2:=Lib.hid fun w' (h:Ne.ARow w' o3 a3)=>Ne.made_s (a0.tdiv 3) (a1.tdiv 3) a3 o3 c3 w' q0 q1 k3 h
  rw [em] at MD2 e1 e2 e3 e4 e5 e6 e7 e8 e9 ck
  simp only at e1 e2 e3 e4 e5 e6 e7 e8 e9
  clear hmn hms hmt hkl em b0 b1 q0 q1
  have e8':kl.length≤24:=by omega
  clear e8
  have CK2:=Lib.hid ck
  have RT2:=Lib.hid (Ne.right_of ck)
  have FI2:=Lib.hid e9
  have E7:=Lib.hid e7
  have RA2:=Lib.hid r3
  clear r3 e7 e9 ck
  obtain ⟨N2,rfl⟩:∃ N:Nat,mn2=(N:Int):=⟨mn2.toNat,by omega⟩
  obtain ⟨S2,rfl⟩:∃ S:Nat,ms2=(S:Int):=⟨ms2.toNat,by omega⟩
  obtain ⟨D2,rfl⟩:∃ D:Nat,mt2=(D:Int):=⟨mt2.toNat,by omega⟩
  obtain ⟨g,L,p,k,hph,hfg,hlg,hdg,htg,hpn,hpk⟩:=Ne.max_facts RT.out
  have MX:=Lib.hid fun (q:Bool) (ao:Option Addr) (cap:Nat) w' (h1:Ne.ARow w' ao (⟨(N:Int),(S:Int),(D:Int),ml⟩:Ne.Net).l)=>Ne.max_flow (n:=⟨(N:Int),(S:Int),(D:Int),ml⟩) ao cap w' CK.out h1 hph q
  have FG:=Lib.hid hfg
  have LG:=Lib.hid hlg
  have DG:=Lib.hid hdg
  have TG:=Lib.hid htg
  have PH:=Lib.hid hph
  have PK:=Lib.hid (And.intro hpn hpk)
  clear hph hfg hlg hdg htg hpn hpk
  obtain ⟨g2,L2,p2,q2,hph2,hfg2,hlg2,hdg2,htg2,hpn2,hpk2⟩:=Ne.max_facts RT2.out
  have MX2:=Lib.hid fun (q:Bool) (ao:Option Addr) (cap:Nat) w' (h1:Ne.ARow w' ao (⟨(N2:Int),(S2:Int),(D2:Int),kl⟩:Ne.Net).l)=>Ne.max_flow (n:=⟨(N2:Int),(S2:Int),(D2:Int),kl⟩) ao cap w' CK2.out h1 hph2 q
  have FG2:=Lib.hid hfg2
  have LG2:=Lib.hid hlg2
  have DG2:=Lib.hid hdg2
  have TG2:=Lib.hid htg2
  have PH2:=Lib.hid hph2
  have PK2:=Lib.hid (And.intro hpn2 hpk2)
  clear hph2 hfg2 hlg2 hdg2 htg2 hpn2 hpk2
  have hN9:N≤9:=by omega
  have hM9:N2≤9:=by omega
  have MF:=Lib.hid fun ao cap w' h1=>MX.out false ao cap w' h1
  have MG:=Lib.hid fun ao cap w' h1=>MX2.out false ao cap w' h1
  have FN:=Lib.hid (show Ne.fineH ⟨(N:Int),(S:Int),(D:Int),ml⟩ from ⟨by simp only;omega,by simp only;omega,by simp only;omega,by simp only;omega,by simp only;omega,by simp only;omega,F7.out,by simp only;omega⟩)
  have FM:=Lib.hid (show Ne.fineH ⟨(N2:Int),(S2:Int),(D2:Int),kl⟩ from ⟨by simp only;omega,by simp only;omega,by simp only;omega,by simp only;omega,by simp only;omega,by simp only;omega,E7.out,by simp only;omega⟩)
  have CKB:=Lib.hid (Ne.both_check FN.out FM.out (by simp only;omega) (by simp only;omega) f8' e8' FI.out FI2.out)
  have RTB:=Lib.hid (Ne.right_of CKB.out)
  obtain ⟨AB,hAB⟩:∃ f,f=Ne.bothL ⟨(N:Int),(S:Int),(D:Int),ml⟩ ⟨(N2:Int),(S2:Int),(D2:Int),kl⟩:=⟨_,rfl⟩
  have HA0:=Lib.hid (show AB 0=ml by rw [hAB];exact Ne.bothL_zero _ _)
  have HAS:=Lib.hid (fun j (h:j<kl.length)=>show AB (j+1)=AB j ++ [⟨Ne.movedN ⟨(N:Int),(S:Int),(D:Int),ml⟩ ⟨(N2:Int),(S2:Int),(D2:Int),kl⟩ (Ne.arcAt kl j).fr,Ne.movedN ⟨(N:Int),(S:Int),(D:Int),ml⟩ ⟨(N2:Int),(S2:Int),(D2:Int),kl⟩ (Ne.arcAt kl j).to,(Ne.arcAt kl j).cap⟩] by rw [hAB];exact Ne.bothL_next _ _ h)
  have HAL:=Lib.hid (fun j (h:j≤kl.length)=>show (AB j).length=ml.length+j by rw [hAB];exact Ne.bothL_len _ _ h)
  have HBN:=Lib.hid (show Ne.bothN ⟨(N:Int),(S:Int),(D:Int),ml⟩ ⟨(N2:Int),(S2:Int),(D2:Int),kl⟩=⟨(N:Int)+(N2:Int),(S:Int),(D:Int),AB kl.length⟩ by rw [hAB];exact Ne.bothL_all _ _)
  have HKA:=Lib.hid (show (AB kl.length).length=ml.length+kl.length from HAL.out _ (Nat.le_refl _))
  rw [HBN.out] at CKB RTB
  obtain ⟨gb,Lb,pb,qb,hphB,hfgB,hlgB,hdgB,htgB,hpnB,hpkB⟩:=Ne.max_facts RTB.out
  have MXB:=Lib.hid fun (q:Bool) (ao:Option Addr) (cap:Nat) w' (h1:Ne.ARow w' ao (⟨(N:Int)+(N2:Int),(S:Int),(D:Int),AB kl.length⟩:Ne.Net).l)=>Ne.max_flow (n:=⟨(N:Int)+(N2:Int),(S:Int),(D:Int),AB kl.length⟩) ao cap w' CKB.out h1 hphB q
  have FGB:=Lib.hid hfgB
  have LGB:=Lib.hid hlgB
  have DGB:=Lib.hid hdgB
  have TGB:=Lib.hid htgB
  have PHB:=Lib.hid hphB
  have PKB:=Lib.hid (And.intro hpnB hpkB)
  clear hphB hfgB hlgB hdgB htgB hpnB hpkB
  have MB:=Lib.hid fun ao cap w' h1=>MXB.out true ao cap w' h1
  simp only [Ne.engC,Bool.false_eq_true,if_false,if_true,Ne.encN,HKA.out] at MF MG MB
  have VG:=Lib.hid fun (o3:Option Addr) (c3:Nat) fo fc w' h1 h2=>Ne.val_flow (n:=⟨(N:Int),(S:Int),(D:Int),ml⟩) (f:=g) o3 c3 fo fc w' CK.out h1 h2 FG.out
  have VG2:=Lib.hid fun (o3:Option Addr) (c3:Nat) fo fc w' h1 h2=>Ne.val_flow (n:=⟨(N2:Int),(S2:Int),(D2:Int),kl⟩) (f:=g2) o3 c3 fo fc w' CK2.out h1 h2 FG2.out
  have VGB:=Lib.hid fun (o3:Option Addr) (c3:Nat) fo fc w' h1 h2=>Ne.val_flow (n:=⟨(N:Int)+(N2:Int),(S:Int),(D:Int),AB kl.length⟩) (f:=gb) o3 c3 fo fc w' CKB.out h1 h2 FGB.out
  simp only [Ne.encN,HKA.out] at VG VG2 VGB
  have HSUM:=Lib.hid (show Ne.exc (AB kl.length) gb (D:Int)=Ne.exc ml g (D:Int)+Ne.exc kl g2 (D2:Int) from Ne.top_both RT.out RT2.out (by rw [HBN.out];exact RTB.out) TG.out TG2.out (by rw [HBN.out];exact TGB.out))
  have HVB:=Lib.hid (show 0≤Ne.exc ml g (D:Int)∧Ne.exc ml g (D:Int)≤4611686018427387903 from Ne.flow_bd RT.out FG.out)
  have HVB2:=Lib.hid (show 0≤Ne.exc kl g2 (D2:Int)∧Ne.exc kl g2 (D2:Int)≤4611686018427387903 from Ne.flow_bd RT2.out FG2.out)
  have MOV:=Lib.hid fun (oa ob:Option Addr) (ca cb:Nat) (v:Nat) (hv:v≤N2) w'=>Ne.moved_any ⟨(N:Int),(S:Int),(D:Int),ml⟩ ⟨(N2:Int),(S2:Int),(D2:Int),kl⟩ oa ob ca cb (v:Int) w' (by rw [IntKind.wrap_i64];simp only;omega)
  simp only [Ne.encN] at MOV
  have ARS:=Lib.hid (fun j (h:j<kl.length)=>Ne.arc_says FI2.out h)
  clear MX MX2 MXB hAB
  generalize Ne.exc ml g (D:Int)=vg at *
  generalize Ne.exc kl g2 (D2:Int)=wg at *
  generalize Ne.exc (AB kl.length) gb (D:Int)=ug at *
  generalize Ne.movedN ⟨(N:Int),(S:Int),(D:Int),ml⟩ ⟨(N2:Int),(S2:Int),(D2:Int),kl⟩=MV at *
  go_enter Tryz.func8,Tryz.ntmps8
  go_wp2_with fail
  refine HSH.out.mono ?_
  rintro e w1 ⟨rfl,hb⟩
  have HB1:=Lib.hid hb
  clear hb
  go_wp2_with fail
  refine (MD.out _ (RA.out.kept HB1.out)).mono ?_
  rintro e w2 ⟨om,cm,rfl,ho,hb⟩
  have hal:=(Below.refl w2.heap.size w2).alloc (Nat.le_refl _) (.cells #[.int .i64 (N:Int),.int .i64 (S:Int),.int .i64 (D:Int),.slice om ml.length cm] 24)
  have HN3:=Lib.hid (Ne.netBox_new w2 (N:Int) (S:Int) (D:Int) (.slice om ml.length cm))
  have HR3:=Lib.hid ((Ne.arow_ofA ho).kept hal)
  have HB3:=Lib.hid (HB1.out.trans ((hb.trans (hal.mono hb.size)).mono HB1.out.size))
  have HNN:=Lib.hid (show om=none→cm=0 by
   obtain ⟨_,_,ev3,_,_,hnn,_⟩:=Rw.own_row Ne.encA_len ho
   simp only [Value.slice.injEq] at ev3
   obtain ⟨e1,_,e2⟩:=ev3
   rw [e1,e2];exact hnn)
  clear ho hb hal HSH
  go_wp2_with fail
  refine (MD2.out _ (RA2.out.kept HB3.out)).mono ?_
  rintro e v4 ⟨ok,ck,rfl,ho,hb⟩
  have hal:=(Below.refl v4.heap.size v4).alloc (Nat.le_refl _) (.cells #[.int .i64 (N2:Int),.int .i64 (S2:Int),.int .i64 (D2:Int),.slice ok kl.length ck] 24)
  have HT4:=Lib.hid (Ne.netBox_new v4 (N2:Int) (S2:Int) (D2:Int) (.slice ok kl.length ck))
  have HRT4:=Lib.hid ((Ne.arow_ofA ho).kept hal)
  replace hb:=hb.trans (hal.mono hb.size)
  have HB4:=Lib.hid (HB3.out.trans (hb.mono HB3.out.size))
  have HN4:=Lib.hid (Ne.netBox_below HN3.out hb (Ne.netBox_lt HN3.out))
  have HR4:=Lib.hid (HR3.out.kept hb)
  clear hb ho hal MD MD2 RA RA2
  obtain ⟨bn,hbn⟩:∃ b,b=w2.heap.size:=⟨_,rfl⟩
  obtain ⟨bm,hbm⟩:∃ b,b=v4.heap.size:=⟨_,rfl⟩
  go_upto_region 6 with fail
  rw [← hbn] at HN3 HN4 ⊢
  rw [← hbm] at HT4 ⊢
  clear hbn hbm HN3 HR3 HB3
  generalize (v4.alloc (.cells #[.int .i64 (N2:Int),.int .i64 (S2:Int),.int .i64 (D2:Int),.slice ok kl.length ck] 24))=W4 at *
  obtain ⟨n0,n1,n2,n3⟩:=Ne.netBox_cells HN4.out
  obtain ⟨m0,m1,m2,m3⟩:=Ne.netBox_cells HT4.out
  go_wp2_with fail
  refine (MF.out om cm _ HR4.out).mono ?_
  rintro e v5 ⟨oa,ca,sa,rfl,hi,ha1,ha2,ha3,hb⟩
  clear ha1 ha2 ha3
  have hal:=(Below.refl v5.heap.size v5).alloc (Nat.le_refl _) (.cells #[.slice oa ml.length ca,.int .i64 (p:Int),.int .i64 (k:Int),.int .i64 sa] 28)
  have HXA5:=Lib.hid (Ne.runBox_at v5 rfl (.slice oa ml.length ca) (p:Int) (k:Int) sa)
  have HIA5:=Lib.hid (hi.kept hal)
  replace hb:=hb.trans (hal.mono hb.size)
  have HB5:=Lib.hid (HB4.out.trans (hb.mono HB4.out.size))
  have HN5:=Lib.hid (Ne.netBox_below HN4.out hb (Ne.netBox_lt HN4.out))
  have HR5:=Lib.hid (HR4.out.kept hb)
  have HT5:=Lib.hid (Ne.netBox_below HT4.out hb (Ne.netBox_lt HT4.out))
  have HRT5:=Lib.hid (HRT4.out.kept hb)
  clear hb hi hal n0 n1 n2 n3 m0 m1 m2 m3
  obtain ⟨n0,n1,n2,n3⟩:=Ne.netBox_cells HN5.out
  obtain ⟨m0,m1,m2,m3⟩:=Ne.netBox_cells HT5.out
  go_wp2_with fail
  refine (MG.out ok ck _ HRT5.out).mono ?_
  rintro e v6 ⟨ob,cb,sb,rfl,hi,ha1,ha2,ha3,hb⟩
  clear ha1 ha2 ha3
  have hal:=(Below.refl v6.heap.size v6).alloc (Nat.le_refl _) (.cells #[.slice ob kl.length cb,.int .i64 (p2:Int),.int .i64 (q2:Int),.int .i64 sb] 28)
  have HXB6:=Lib.hid (Ne.runBox_at v6 rfl (.slice ob kl.length cb) (p2:Int) (q2:Int) sb)
  have HIB6:=Lib.hid (hi.kept hal)
  replace hb:=hb.trans (hal.mono hb.size)
  have HB6:=Lib.hid (HB5.out.trans (hb.mono HB5.out.size))
  have HN6:=Lib.hid (Ne.netBox_below HN5.out hb (Ne.netBox_lt HN5.out))
  have HR6:=Lib.hid (HR5.out.kept hb)
  have HIA6:=Lib.hid (HIA5.out.kept hb)
  have HXA6:=Lib.hid (Ne.runBox_below HXA5.out hb (Ne.runBox_lt HXA5.out))
  have HT6:=Lib.hid (Ne.netBox_below HT5.out hb (Ne.netBox_lt HT5.out))
  have HRT6:=Lib.hid (HRT5.out.kept hb)
  clear hb hi hal n0 n1 n2 n3 m0 m1 m2 m3
  obtain ⟨n0,n1,n2,n3⟩:=Ne.netBox_cells HN6.out
  obtain ⟨m0,m1,m2,m3⟩:=Ne.netBox_cells HT6.out
  obtain ⟨x0,x1,x2,x3⟩:=Ne.runBox_cells HXA6.out
  obtain ⟨y0,y1,y2,y3⟩:=Ne.runBox_cells HXB6.out
  go_wp2_with fail
  refine (VG.out om cm oa ca _ HR6.out HIA6.out).mono ?_
  rintro e v7 ⟨rfl,hb⟩
  have HB7:=Lib.hid (HB6.out.trans (hb.mono HB6.out.size))
  have HN7:=Lib.hid (Ne.netBox_below HN6.out hb (Ne.netBox_lt HN6.out))
  have HR7:=Lib.hid (HR6.out.kept hb)
  have HIB7:=Lib.hid (HIB6.out.kept hb)
  have HXA7:=Lib.hid (Ne.runBox_below HXA6.out hb (Ne.runBox_lt HXA6.out))
  have HXB7:=Lib.hid (Ne.runBox_below HXB6.out hb (Ne.runBox_lt HXB6.out))
  have HT7:=Lib.hid (Ne.netBox_below HT6.out hb (Ne.netBox_lt HT6.out))
  have HRT7:=Lib.hid (HRT6.out.kept hb)
  clear hb n0 n1 n2 n3 m0 m1 m2 m3 x0 x1 x2 x3 y0 y1 y2 y3
  obtain ⟨n0,n1,n2,n3⟩:=Ne.netBox_cells HN7.out
  obtain ⟨m0,m1,m2,m3⟩:=Ne.netBox_cells HT7.out
  obtain ⟨x0,x1,x2,x3⟩:=Ne.runBox_cells HXA7.out
  obtain ⟨y0,y1,y2,y3⟩:=Ne.runBox_cells HXB7.out
  go_wp2_with fail
  refine (VG2.out ok ck ob cb _ HRT7.out HIB7.out).mono ?_
  rintro e v8 ⟨rfl,hb⟩
  have HB8:=Lib.hid (HB7.out.trans (hb.mono HB7.out.size))
  have HN8:=Lib.hid (Ne.netBox_below HN7.out hb (Ne.netBox_lt HN7.out))
  have HR8:=Lib.hid (HR7.out.kept hb)
  have HT8:=Lib.hid (Ne.netBox_below HT7.out hb (Ne.netBox_lt HT7.out))
  have HRT8:=Lib.hid (HRT7.out.kept hb)
  clear hb n0 n1 n2 n3 m0 m1 m2 m3 x0 x1 x2 x3 y0 y1 y2 y3
  obtain ⟨n0,n1,n2,n3⟩:=Ne.netBox_cells HN8.out
  obtain ⟨m0,m1,m2,m3⟩:=Ne.netBox_cells HT8.out
  go_upto_region 10 with fail
  have hwn:IntKind.i64.wrap ((N:Int)+(N2:Int))=(N:Int)+(N2:Int):=by rw [IntKind.wrap_i64];omega
  have hbn8:=Ne.netBox_lt HN8.out
  have hbm8:=Ne.netBox_lt HT8.out
  have hS0:=(show (fun w':World=>w'.cell? ⟨bn,0,none⟩=some (.int .i64 (N:Int))∧w'.cell? ⟨bn,1,none⟩=some (.int .i64 (S:Int))∧w'.cell? ⟨bn,2,none⟩=some (.int .i64 (D:Int))∧w'.cell? ⟨bn,3,none⟩=some (.slice om ml.length cm)∧w'.cell? ⟨bm,0,none⟩=some (.int .i64 (N2:Int))) v8.drew from ⟨n0,n1,n2,n3,m0⟩)
  have hb0:Below v8.heap.size v8 v8.drew:=Ne.below_drew (Below.refl _ _)
  have HLNA:=Lib.hid (show ([]:List Ne.Arc).length+ml.length≤1099511627776 by simp;omega)
  clear n0 n1 n2 n3 m0 m1 m2 m3
  go_cut [20] (fun s20 wc=>∃ (bb:Nat) (o:Option Addr) (c:Nat),s20=.pointer (some ⟨bb,0,none⟩)∧Hid (v8.heap.size≤bb)∧Hid (Ne.NetBox wc bb ((N:Int)+(N2:Int)) (S:Int) (D:Int) (.slice o ml.length c))∧Hid (Ne.OwnA wc v8.heap.size (.slice o ml.length c) ml)∧Hid (Below v8.heap.size v8 wc))
  case first =>
   refine Rh.start (S:=(fun w':World=>w'.cell? ⟨bn,0,none⟩=some (.int .i64 (N:Int))∧w'.cell? ⟨bn,1,none⟩=some (.int .i64 (S:Int))∧w'.cell? ⟨bn,2,none⟩=some (.int .i64 (D:Int))∧w'.cell? ⟨bn,3,none⟩=some (.slice om ml.length cm)∧w'.cell? ⟨bm,0,none⟩=some (.int .i64 (N2:Int)))) (by kernel_rfl) ?_
   refine Rh.tk (some 64) (i:=0) (v:=?_) rfl (Or.inl ⟨by rfl,?_⟩) hS0 ?_
   rotate_left
   ·intro w hSw
    go_simp
    try with_reducible rfl
   try simp only [Act.put,Rh.q1,Rh.q2,Rh.q3]
   refine Rh.tk (some 65) (i:=1) (v:=?_) rfl (Or.inl ⟨by rfl,?_⟩) hS0 ?_
   rotate_left
   ·intro w hSw
    go_simp
    try with_reducible rfl
   try simp only [Act.put,Rh.q1,Rh.q2,Rh.q3]
   refine Rh.tk (some 66) (i:=2) (v:=?_) rfl (Or.inl ⟨by rfl,?_⟩) hS0 ?_
   rotate_left
   ·intro w hSw
    go_simp
    try with_reducible rfl
   try simp only [Act.put,Rh.q1,Rh.q2,Rh.q3]
   refine Rh.tk (some 67) (i:=3) (v:=?_) rfl (Or.inl ⟨by rfl,?_⟩) hS0 ?_
   rotate_left
   ·intro w hSw
    go_simp
    try with_reducible rfl
   try simp only [Act.put,Rh.q1,Rh.q2,Rh.q3]
   refine Rh.tk (some 68) (i:=4) (v:=?_) rfl (Or.inl ⟨by rfl,?_⟩) hS0 ?_
   rotate_left
   ·intro w hSw
    go_simp
    try with_reducible rfl
   try simp only [Act.put,Rh.q1,Rh.q2,Rh.q3]
   refine Rh.tk (some 69) (i:=5) (v:=?_) rfl (Or.inl ⟨by rfl,?_⟩) hS0 ?_
   rotate_left
   ·intro w hSw
    go_simp
    try with_reducible rfl
   try simp only [Act.put,Rh.q1,Rh.q2,Rh.q3]
   refine Rh.tk (some 70) (i:=6) (v:=?_) rfl (Or.inl ⟨by rfl,?_⟩) hS0 ?_
   rotate_left
   ·intro w hSw
    go_simp
    try with_reducible rfl
   try simp only [Act.put,Rh.q1,Rh.q2,Rh.q3]
   refine Rh.tk (some 71) (i:=7) (v:=?_) rfl (Or.inl ⟨by rfl,?_⟩) hS0 ?_
   rotate_left
   ·intro w hSw
    go_simp
    try with_reducible rfl
   try simp only [Act.put,Rh.q1,Rh.q2,Rh.q3]
   refine Rh.tk (some 72) (i:=8) (v:=?_) rfl (Or.inl ⟨by rfl,?_⟩) hS0 ?_
   rotate_left
   ·intro w hSw
    go_simp
    try with_reducible rfl
   try simp only [Act.put,Rh.q1,Rh.q2,Rh.q3]
   refine Rh.tk (some 74) (i:=10) (v:=?_) rfl (Or.inl ⟨by rfl,?_⟩) hS0 ?_
   rotate_left
   ·intro w hSw
    go_simp
    try with_reducible rfl
   try simp only [Act.put,Rh.q1,Rh.q2,Rh.q3]
   refine Rh.tk (some 75) (i:=11) (v:=?_) rfl (Or.inl ⟨by rfl,?_⟩) hS0 ?_
   rotate_left
   ·intro w hSw
    go_simp
    try with_reducible rfl
   try simp only [Act.put,Rh.q1,Rh.q2,Rh.q3]
   refine Rh.two (i:=9) (j:=14) (by kernel_rfl) rfl rfl (fun K' hK'=>?_) (fun K' hK'=>?_)
   ·have HK:=Lib.hid hK'
    clear hK'
    go_simp
    have hb9:=hb0.alloc hb0.size (.cells #[] 50)
    have hS9:=(show (fun w':World=>w'.cell? ⟨bn,0,none⟩=some (.int .i64 (N:Int))∧w'.cell? ⟨bn,1,none⟩=some (.int .i64 (S:Int))∧w'.cell? ⟨bn,2,none⟩=some (.int .i64 (D:Int))∧w'.cell? ⟨bn,3,none⟩=some (.slice om ml.length cm)∧w'.cell? ⟨bm,0,none⟩=some (.int .i64 (N2:Int))) (v8.drew.alloc (.cells #[] 50)) from ⟨(hb9.cell (p:=⟨bn,0,none⟩) hbn8).trans hS0.1,(hb9.cell (p:=⟨bn,1,none⟩) hbn8).trans hS0.2.1,(hb9.cell (p:=⟨bn,2,none⟩) hbn8).trans hS0.2.2.1,(hb9.cell (p:=⟨bn,3,none⟩) hbn8).trans hS0.2.2.2.1,(hb9.cell (p:=⟨bm,0,none⟩) hbm8).trans hS0.2.2.2.2⟩)
    have ho9:=Ne.own_empty (α:=Ne.Arc) (k:=3) (enc:=Ne.encA) (e:=50) v8.drew v8.heap.size hb0.size

    refine HK.out _ _ ⟨hS9,?_⟩
    clear HK K'
    try simp only [Act.put,Rh.q1,Rh.q2,Rh.q3]
    refine Rh.two (i:=12) (j:=14) (by kernel_rfl) rfl rfl (fun K' hK'=>?_) (fun K' hK'=>?_)
    ·refine Rw.stepAny Ne.elemA Ne.encA_len Ne.encA_one (by rfl) (.tmp 73) (.tmp 75) (by rfl) v8.heap.size _ ([]:List Ne.Arc) (by rfl) ho9 om cm ml ml.length rfl (by rfl) HNN.out (HR8.out.kept hb9) HLNA.out hb9.size ?_
     intro va w12 hown hgr
     rw [List.nil_append] at hown
     obtain ⟨o12,c12,hva,_⟩:=Rw.own_row Ne.encA_len hown
     subst hva
     have ho12:=hown
     have hb12:=hb9.grown hgr hb9.size (fun b hb=>Rw.own_block ho9 b hb)
     have hS12:=(show (fun w':World=>w'.cell? ⟨bn,0,none⟩=some (.int .i64 (N:Int))∧w'.cell? ⟨bn,1,none⟩=some (.int .i64 (S:Int))∧w'.cell? ⟨bn,2,none⟩=some (.int .i64 (D:Int))∧w'.cell? ⟨bn,3,none⟩=some (.slice om ml.length cm)∧w'.cell? ⟨bm,0,none⟩=some (.int .i64 (N2:Int))) w12 from ⟨(hb12.cell (p:=⟨bn,0,none⟩) hbn8).trans hS0.1,(hb12.cell (p:=⟨bn,1,none⟩) hbn8).trans hS0.2.1,(hb12.cell (p:=⟨bn,2,none⟩) hbn8).trans hS0.2.2.1,(hb12.cell (p:=⟨bn,3,none⟩) hbn8).trans hS0.2.2.2.1,(hb12.cell (p:=⟨bm,0,none⟩) hbm8).trans hS0.2.2.2.2⟩)
     clear hgr hown
     refine hK' _ _ ⟨hS12,?_⟩
     clear hK' K'
     try simp only [Act.put,Rh.q1,Rh.q2,Rh.q3]
     refine Rh.tk (some 77) (i:=13) (v:=?_) rfl (Or.inl ⟨by rfl,?_⟩) hS12 ?_
     rotate_left
     ·intro w hSw
      go_simp
      try with_reducible rfl
     try simp only [Act.put,Rh.q1,Rh.q2,Rh.q3]
     refine Rh.step (i:=14) (by kernel_rfl) rfl fun K' hK'=>?_
     have HK:=Lib.hid hK'
     clear hK'
     go_simp
     have hb14:=hb12.alloc hb12.size (.cells #[.int .i64 0,.int .i64 0,.int .i64 0,.slice none 0 0] 24)
     have hS14:=(show (fun w':World=>w'.cell? ⟨bn,0,none⟩=some (.int .i64 (N:Int))∧w'.cell? ⟨bn,1,none⟩=some (.int .i64 (S:Int))∧w'.cell? ⟨bn,2,none⟩=some (.int .i64 (D:Int))∧w'.cell? ⟨bn,3,none⟩=some (.slice om ml.length cm)∧w'.cell? ⟨bm,0,none⟩=some (.int .i64 (N2:Int))) (w12.alloc (.cells #[.int .i64 0,.int .i64 0,.int .i64 0,.slice none 0 0] 24)) from ⟨(hb14.cell (p:=⟨bn,0,none⟩) hbn8).trans hS0.1,(hb14.cell (p:=⟨bn,1,none⟩) hbn8).trans hS0.2.1,(hb14.cell (p:=⟨bn,2,none⟩) hbn8).trans hS0.2.2.1,(hb14.cell (p:=⟨bn,3,none⟩) hbn8).trans hS0.2.2.2.1,(hb14.cell (p:=⟨bm,0,none⟩) hbm8).trans hS0.2.2.2.2⟩)
     have hx14:=Ne.netBox_at w12 (b:=w12.heap.size) rfl 0 0 0 (.slice none 0 0)
     have ho14:=Rw.own_alloc ho12 (.cells #[.int .i64 0,.int .i64 0,.int .i64 0,.slice none 0 0] 24)

     refine HK.out _ _ ⟨hS14,?_⟩
     clear HK K'
     try simp only [Act.put,Rh.q1,Rh.q2,Rh.q3]
     refine Rh.step (i:=15) (by kernel_rfl) rfl fun K' hK'=>?_
     have HK:=Lib.hid hK'
     clear hK'
     go_simp
     have hb15:=hb12.alloc hb12.size (.cells #[.int .i64 ((N:Int)+(N2:Int)),.int .i64 (S:Int),.int .i64 (D:Int),.slice o12 ml.length c12] 24)
     have hx15:=Ne.netBox_at w12 (b:=w12.heap.size) rfl ((N:Int)+(N2:Int)) (S:Int) (D:Int) (.slice o12 ml.length c12)
     have ho15:=Rw.own_alloc ho12 (.cells #[.int .i64 ((N:Int)+(N2:Int)),.int .i64 (S:Int),.int .i64 (D:Int),.slice o12 ml.length c12] 24)
     have hS15:=(show (fun w':World=>w'.cell? ⟨bn,0,none⟩=some (.int .i64 (N:Int))∧w'.cell? ⟨bn,1,none⟩=some (.int .i64 (S:Int))∧w'.cell? ⟨bn,2,none⟩=some (.int .i64 (D:Int))∧w'.cell? ⟨bn,3,none⟩=some (.slice om ml.length cm)∧w'.cell? ⟨bm,0,none⟩=some (.int .i64 (N2:Int))) (w12.alloc (.cells #[.int .i64 ((N:Int)+(N2:Int)),.int .i64 (S:Int),.int .i64 (D:Int),.slice o12 ml.length c12] 24)) from ⟨(hb15.cell (p:=⟨bn,0,none⟩) hbn8).trans hS0.1,(hb15.cell (p:=⟨bn,1,none⟩) hbn8).trans hS0.2.1,(hb15.cell (p:=⟨bn,2,none⟩) hbn8).trans hS0.2.2.1,(hb15.cell (p:=⟨bn,3,none⟩) hbn8).trans hS0.2.2.2.1,(hb15.cell (p:=⟨bm,0,none⟩) hbm8).trans hS0.2.2.2.2⟩)

     refine HK.out _ _ ⟨hS15,?_⟩
     clear HK K'
     try simp only [Act.put,Rh.q1,Rh.q2,Rh.q3]
     refine Rh.done (by kernel_rfl) ?_ _
     go_wp2_with fail
     go_meet
     case rel=>exact ⟨_,o12,c12,rfl,Lib.hid (by first | omega | exact hb12.size),Lib.hid hx15,Lib.hid ho15,Lib.hid hb15⟩
    ·have HK:=Lib.hid hK'
     clear hK'
     go_simp
     have hb14:=hb9.alloc hb9.size (.cells #[.int .i64 0,.int .i64 0,.int .i64 0,.slice none 0 0] 24)
     have hS14:=(show (fun w':World=>w'.cell? ⟨bn,0,none⟩=some (.int .i64 (N:Int))∧w'.cell? ⟨bn,1,none⟩=some (.int .i64 (S:Int))∧w'.cell? ⟨bn,2,none⟩=some (.int .i64 (D:Int))∧w'.cell? ⟨bn,3,none⟩=some (.slice om ml.length cm)∧w'.cell? ⟨bm,0,none⟩=some (.int .i64 (N2:Int))) ((v8.drew.alloc (.cells #[] 50)).alloc (.cells #[.int .i64 0,.int .i64 0,.int .i64 0,.slice none 0 0] 24)) from ⟨(hb14.cell (p:=⟨bn,0,none⟩) hbn8).trans hS0.1,(hb14.cell (p:=⟨bn,1,none⟩) hbn8).trans hS0.2.1,(hb14.cell (p:=⟨bn,2,none⟩) hbn8).trans hS0.2.2.1,(hb14.cell (p:=⟨bn,3,none⟩) hbn8).trans hS0.2.2.2.1,(hb14.cell (p:=⟨bm,0,none⟩) hbm8).trans hS0.2.2.2.2⟩)
     have hx14:=Ne.netBox_at (v8.drew.alloc (.cells #[] 50)) (b:=v8.heap.size+1) (by show _=(v8.heap.push _).size;simp) 0 0 0 (.slice none 0 0)
     have ho14:=Rw.own_alloc ho9 (.cells #[.int .i64 0,.int .i64 0,.int .i64 0,.slice none 0 0] 24)

     refine HK.out _ _ ⟨hS14,?_⟩
     clear HK K'
     try simp only [Act.put,Rh.q1,Rh.q2,Rh.q3]
     refine Rh.step (i:=12) (by kernel_rfl) rfl fun K' hK'=>?_
     refine Rw.stepAny Ne.elemA Ne.encA_len Ne.encA_one (by rfl) (.tmp 73) (.tmp 75) (by rfl) v8.heap.size _ ([]:List Ne.Arc) (by rfl) ho14 om cm ml ml.length rfl (by rfl) HNN.out (HR8.out.kept hb14) HLNA.out hb14.size ?_
     intro va w12 hown hgr
     rw [List.nil_append] at hown
     obtain ⟨o12,c12,hva,_⟩:=Rw.own_row Ne.encA_len hown
     subst hva
     have ho12:=hown
     have hb12:=hb14.grown hgr hb14.size (fun b hb=>Rw.own_block ho14 b hb)
     have hx12:=Ne.netBox_grown hx14 hgr (fun h=>Ne.own_ne_box ho14 hx14 h.symm)
     have f0:=Ne.netBox_frozen hx12 0
     have f1:=Ne.netBox_frozen hx12 1
     have f2:=Ne.netBox_frozen hx12 2
     have f3:=Ne.netBox_frozen hx12 3
     obtain ⟨z0,z1,z2,z3⟩:=Ne.netBox_cells hx12
     have hS12:=(show (fun w':World=>w'.cell? ⟨bn,0,none⟩=some (.int .i64 (N:Int))∧w'.cell? ⟨bn,1,none⟩=some (.int .i64 (S:Int))∧w'.cell? ⟨bn,2,none⟩=some (.int .i64 (D:Int))∧w'.cell? ⟨bn,3,none⟩=some (.slice om ml.length cm)∧w'.cell? ⟨bm,0,none⟩=some (.int .i64 (N2:Int))) w12 from ⟨(hb12.cell (p:=⟨bn,0,none⟩) hbn8).trans hS0.1,(hb12.cell (p:=⟨bn,1,none⟩) hbn8).trans hS0.2.1,(hb12.cell (p:=⟨bn,2,none⟩) hbn8).trans hS0.2.2.1,(hb12.cell (p:=⟨bn,3,none⟩) hbn8).trans hS0.2.2.2.1,(hb12.cell (p:=⟨bm,0,none⟩) hbm8).trans hS0.2.2.2.2⟩)
     clear hgr hown
     refine hK' _ _ ⟨hS12,?_⟩
     clear hK' K'
     try simp only [Act.put,Rh.q1,Rh.q2,Rh.q3]
     refine Rh.tk (some 77) (i:=13) (v:=?_) rfl (Or.inl ⟨by rfl,?_⟩) hS12 ?_
     rotate_left
     ·intro w hSw
      go_simp
      try with_reducible rfl
     try simp only [Act.put,Rh.q1,Rh.q2,Rh.q3]
     refine Rh.step (i:=15) (by kernel_rfl) rfl fun K' hK'=>?_
     have HK:=Lib.hid hK'
     clear hK'
     go_simp
     have hb15:=Ne.netBelow_all hb12 (b:=v8.heap.size+1) (by omega) ((N:Int)+(N2:Int)) (S:Int) (D:Int) (.slice o12 ml.length c12)
     have hx15:=Ne.netBox_all (n2:=(N:Int)+(N2:Int)) (s2:=(S:Int)) (t2:=(D:Int)) (v2:=.slice o12 ml.length c12) hx12
     have ho15:=Ne.netBox_own hx12 ho12 ((N:Int)+(N2:Int)) (S:Int) (D:Int) (.slice o12 ml.length c12)
     have hS15:=(show (fun w':World=>w'.cell? ⟨bn,0,none⟩=some (.int .i64 (N:Int))∧w'.cell? ⟨bn,1,none⟩=some (.int .i64 (S:Int))∧w'.cell? ⟨bn,2,none⟩=some (.int .i64 (D:Int))∧w'.cell? ⟨bn,3,none⟩=some (.slice om ml.length cm)∧w'.cell? ⟨bm,0,none⟩=some (.int .i64 (N2:Int))) ((((w12.setCell ⟨v8.heap.size+1,0,none⟩ (.int .i64 ((N:Int)+(N2:Int)))).setCell ⟨v8.heap.size+1,1,none⟩ (.int .i64 (S:Int))).setCell ⟨v8.heap.size+1,2,none⟩ (.int .i64 (D:Int))).setCell ⟨v8.heap.size+1,3,none⟩ (.slice o12 ml.length c12)) from ⟨(hb15.cell (p:=⟨bn,0,none⟩) hbn8).trans hS0.1,(hb15.cell (p:=⟨bn,1,none⟩) hbn8).trans hS0.2.1,(hb15.cell (p:=⟨bn,2,none⟩) hbn8).trans hS0.2.2.1,(hb15.cell (p:=⟨bn,3,none⟩) hbn8).trans hS0.2.2.2.1,(hb15.cell (p:=⟨bm,0,none⟩) hbm8).trans hS0.2.2.2.2⟩)

     refine HK.out _ _ ⟨hS15,?_⟩
     clear HK K'
     try simp only [Act.put,Rh.q1,Rh.q2,Rh.q3]
     refine Rh.done (by kernel_rfl) ?_ _
     go_wp2_with fail
     go_meet
     case rel=>exact ⟨_,o12,c12,rfl,Lib.hid (by first | omega | exact hb12.size),Lib.hid hx15,Lib.hid ho15,Lib.hid hb15⟩
   ·have HK:=Lib.hid hK'
    clear hK'
    go_simp
    have hb14:=hb0.alloc hb0.size (.cells #[.int .i64 0,.int .i64 0,.int .i64 0,.slice none 0 0] 24)
    have hS14:=(show (fun w':World=>w'.cell? ⟨bn,0,none⟩=some (.int .i64 (N:Int))∧w'.cell? ⟨bn,1,none⟩=some (.int .i64 (S:Int))∧w'.cell? ⟨bn,2,none⟩=some (.int .i64 (D:Int))∧w'.cell? ⟨bn,3,none⟩=some (.slice om ml.length cm)∧w'.cell? ⟨bm,0,none⟩=some (.int .i64 (N2:Int))) (v8.drew.alloc (.cells #[.int .i64 0,.int .i64 0,.int .i64 0,.slice none 0 0] 24)) from ⟨(hb14.cell (p:=⟨bn,0,none⟩) hbn8).trans hS0.1,(hb14.cell (p:=⟨bn,1,none⟩) hbn8).trans hS0.2.1,(hb14.cell (p:=⟨bn,2,none⟩) hbn8).trans hS0.2.2.1,(hb14.cell (p:=⟨bn,3,none⟩) hbn8).trans hS0.2.2.2.1,(hb14.cell (p:=⟨bm,0,none⟩) hbm8).trans hS0.2.2.2.2⟩)
    have hx14:=Ne.netBox_at v8.drew (b:=v8.heap.size) rfl 0 0 0 (.slice none 0 0)

    refine HK.out _ _ ⟨hS14,?_⟩
    clear HK K'
    try simp only [Act.put,Rh.q1,Rh.q2,Rh.q3]
    refine Rh.step (i:=9) (by kernel_rfl) rfl fun K' hK'=>?_
    have HK:=Lib.hid hK'
    clear hK'
    go_simp
    have hb9:=hb14.alloc hb14.size (.cells #[] 50)
    have hS9:=(show (fun w':World=>w'.cell? ⟨bn,0,none⟩=some (.int .i64 (N:Int))∧w'.cell? ⟨bn,1,none⟩=some (.int .i64 (S:Int))∧w'.cell? ⟨bn,2,none⟩=some (.int .i64 (D:Int))∧w'.cell? ⟨bn,3,none⟩=some (.slice om ml.length cm)∧w'.cell? ⟨bm,0,none⟩=some (.int .i64 (N2:Int))) ((v8.drew.alloc (.cells #[.int .i64 0,.int .i64 0,.int .i64 0,.slice none 0 0] 24)).alloc (.cells #[] 50)) from ⟨(hb9.cell (p:=⟨bn,0,none⟩) hbn8).trans hS0.1,(hb9.cell (p:=⟨bn,1,none⟩) hbn8).trans hS0.2.1,(hb9.cell (p:=⟨bn,2,none⟩) hbn8).trans hS0.2.2.1,(hb9.cell (p:=⟨bn,3,none⟩) hbn8).trans hS0.2.2.2.1,(hb9.cell (p:=⟨bm,0,none⟩) hbm8).trans hS0.2.2.2.2⟩)
    have ho9:=Ne.own_empty (α:=Ne.Arc) (k:=3) (enc:=Ne.encA) (e:=50) (v8.drew.alloc (.cells #[.int .i64 0,.int .i64 0,.int .i64 0,.slice none 0 0] 24)) v8.heap.size hb14.size
    have hx9:=Ne.netBox_alloc hx14 (.cells #[] 50)
    have ee:((v8.drew.alloc (.cells #[.int .i64 0,.int .i64 0,.int .i64 0,.slice none 0 0] 24))).heap.size=v8.heap.size+1:=by show (v8.heap.push _).size=_;simp
    rw [ee] at ho9
    clear ee

    refine HK.out _ _ ⟨hS9,?_⟩
    clear HK K'
    try simp only [Act.put,Rh.q1,Rh.q2,Rh.q3]
    refine Rh.step (i:=12) (by kernel_rfl) rfl fun K' hK'=>?_
    refine Rw.stepAny Ne.elemA Ne.encA_len Ne.encA_one (by rfl) (.tmp 73) (.tmp 75) (by rfl) v8.heap.size _ ([]:List Ne.Arc) (by rfl) ho9 om cm ml ml.length rfl (by rfl) HNN.out (HR8.out.kept hb9) HLNA.out hb9.size ?_
    intro va w12 hown hgr
    rw [List.nil_append] at hown
    obtain ⟨o12,c12,hva,_⟩:=Rw.own_row Ne.encA_len hown
    subst hva
    have ho12:=hown
    have hb12:=hb9.grown hgr hb9.size (fun b hb=>Rw.own_block ho9 b hb)
    have hx12:=Ne.netBox_grown hx9 hgr (fun h=>Ne.own_ne_box ho9 hx9 h.symm)
    have f0:=Ne.netBox_frozen hx12 0
    have f1:=Ne.netBox_frozen hx12 1
    have f2:=Ne.netBox_frozen hx12 2
    have f3:=Ne.netBox_frozen hx12 3
    obtain ⟨z0,z1,z2,z3⟩:=Ne.netBox_cells hx12
    have hS12:=(show (fun w':World=>w'.cell? ⟨bn,0,none⟩=some (.int .i64 (N:Int))∧w'.cell? ⟨bn,1,none⟩=some (.int .i64 (S:Int))∧w'.cell? ⟨bn,2,none⟩=some (.int .i64 (D:Int))∧w'.cell? ⟨bn,3,none⟩=some (.slice om ml.length cm)∧w'.cell? ⟨bm,0,none⟩=some (.int .i64 (N2:Int))) w12 from ⟨(hb12.cell (p:=⟨bn,0,none⟩) hbn8).trans hS0.1,(hb12.cell (p:=⟨bn,1,none⟩) hbn8).trans hS0.2.1,(hb12.cell (p:=⟨bn,2,none⟩) hbn8).trans hS0.2.2.1,(hb12.cell (p:=⟨bn,3,none⟩) hbn8).trans hS0.2.2.2.1,(hb12.cell (p:=⟨bm,0,none⟩) hbm8).trans hS0.2.2.2.2⟩)
    clear hgr hown
    refine hK' _ _ ⟨hS12,?_⟩
    clear hK' K'
    try simp only [Act.put,Rh.q1,Rh.q2,Rh.q3]
    refine Rh.tk (some 77) (i:=13) (v:=?_) rfl (Or.inl ⟨by rfl,?_⟩) hS12 ?_
    rotate_left
    ·intro w hSw
     go_simp
     try with_reducible rfl
    try simp only [Act.put,Rh.q1,Rh.q2,Rh.q3]
    refine Rh.step (i:=15) (by kernel_rfl) rfl fun K' hK'=>?_
    have HK:=Lib.hid hK'
    clear hK'
    go_simp
    have hb15:=Ne.netBelow_all hb12 (b:=v8.heap.size) (by omega) ((N:Int)+(N2:Int)) (S:Int) (D:Int) (.slice o12 ml.length c12)
    have hx15:=Ne.netBox_all (n2:=(N:Int)+(N2:Int)) (s2:=(S:Int)) (t2:=(D:Int)) (v2:=.slice o12 ml.length c12) hx12
    have ho15:=Ne.netBox_own hx12 ho12 ((N:Int)+(N2:Int)) (S:Int) (D:Int) (.slice o12 ml.length c12)
    have hS15:=(show (fun w':World=>w'.cell? ⟨bn,0,none⟩=some (.int .i64 (N:Int))∧w'.cell? ⟨bn,1,none⟩=some (.int .i64 (S:Int))∧w'.cell? ⟨bn,2,none⟩=some (.int .i64 (D:Int))∧w'.cell? ⟨bn,3,none⟩=some (.slice om ml.length cm)∧w'.cell? ⟨bm,0,none⟩=some (.int .i64 (N2:Int))) ((((w12.setCell ⟨v8.heap.size,0,none⟩ (.int .i64 ((N:Int)+(N2:Int)))).setCell ⟨v8.heap.size,1,none⟩ (.int .i64 (S:Int))).setCell ⟨v8.heap.size,2,none⟩ (.int .i64 (D:Int))).setCell ⟨v8.heap.size,3,none⟩ (.slice o12 ml.length c12)) from ⟨(hb15.cell (p:=⟨bn,0,none⟩) hbn8).trans hS0.1,(hb15.cell (p:=⟨bn,1,none⟩) hbn8).trans hS0.2.1,(hb15.cell (p:=⟨bn,2,none⟩) hbn8).trans hS0.2.2.1,(hb15.cell (p:=⟨bn,3,none⟩) hbn8).trans hS0.2.2.2.1,(hb15.cell (p:=⟨bm,0,none⟩) hbm8).trans hS0.2.2.2.2⟩)

    refine HK.out _ _ ⟨hS15,?_⟩
    clear HK K'
    try simp only [Act.put,Rh.q1,Rh.q2,Rh.q3]
    refine Rh.done (by kernel_rfl) ?_ _
    go_wp2_with fail
    go_meet
    case rel=>exact ⟨_,o12,c12,rfl,Lib.hid (by first | omega | exact hb12.size),Lib.hid hx15,Lib.hid ho15,Lib.hid hb15⟩
  case rest =>
   obtain ⟨bb,oB,cB,rfl,HBB,HNB,HOB,HBC⟩:=hcut
   go_wp2
   go_loopg [21,22] kl.length (fun gg s21 s22 wr=>(∃ z,s22=z)∧∃ (j:Nat) (o:Option Addr) (c:Nat),s21=.int .i64 (j:Int)∧j+gg=kl.length∧Hid (Ne.NetBox wr bb ((N:Int)+(N2:Int)) (S:Int) (D:Int) (.slice o (ml.length+j) c))∧Hid (Ne.OwnA wr v8.heap.size (.slice o (ml.length+j) c) (AB j))∧Hid (Below v8.heap.size v8 wr))
   case atStart=>exact ⟨⟨_,rfl⟩,0,oB,cB,rfl,by omega,HNB,Lib.hid (by rw [HA0.out];exact HOB.out),HBC⟩
   case round =>
    obtain ⟨⟨z22,rfl⟩,j,oj,cj,rfl,hjg,HNJ,HOJ,HBW⟩:=hrel
    have HNW:=Lib.hid (Ne.netBox_below HN8.out HBW.out hbn8)
    have HTW:=Lib.hid (Ne.netBox_below HT8.out HBW.out hbm8)
    have HRTW:=Lib.hid (HRT8.out.kept HBW.out)
    obtain ⟨n0,n1,n2,n3⟩:=Ne.netBox_cells HNW.out
    obtain ⟨m0,m1,m2,m3⟩:=Ne.netBox_cells HTW.out
    by_cases hlt:j<kl.length
    ·have hji:(j:Int)<(kl.length:Int):=by omega
     have hj0:(0:Int)≤(j:Int):=by omega
     have hw1:IntKind.i64.wrap ((j:Int)+1)=((j+1:Nat):Int):=by rw [IntKind.wrap_i64];omega
     obtain ⟨u,v,ca,ea,hu,hv,hca0,hca1⟩:=ARS.out j hlt
     obtain ⟨kb,ko,e9,hkb,d0,d1,d2⟩:=Ne.arow_cell HRTW.out hlt
     have HAJ:=Lib.hid (HAS.out j hlt)
     rw [ea] at d0 d1 d2 HAJ
     simp only at d0 d1 d2 HAJ
     have HLJ:=Lib.hid (HAL.out (j+1) (by omega))
     have HLJ0:=Lib.hid (show (AB j).length+1≤1099511627776 by rw [HAL.out j (by omega)];omega)
     have MOU:=Lib.hid (MOV.out om ok cm ck u hu)
     have MOVV:=Lib.hid (MOV.out om ok cm ck v hv)
     subst e9
     generalize MV (u:Int)=r1 at *
     generalize MV (v:Int)=r2 at *
     have HAW:=Lib.hid ((Below.refl wr.heap.size wr).alloc (Nat.le_refl _) (.cells #[.int .i64 (u:Int),.int .i64 (v:Int),.int .i64 ca] 50))
     have HNX:=Lib.hid (Ne.netBox_below HNW.out HAW.out (Ne.netBox_lt HNW.out))
     have HTX:=Lib.hid (Ne.netBox_below HTW.out HAW.out (Ne.netBox_lt HTW.out))
     have HJX:=Lib.hid (Ne.netBox_below HNJ.out HAW.out (Ne.netBox_lt HNJ.out))
     have HOX:=Lib.hid (Rw.own_alloc HOJ.out (.cells #[.int .i64 (u:Int),.int .i64 (v:Int),.int .i64 ca] 50))
     have HAX:=Lib.hid (Ne.arcBox_at wr rfl (⟨(u:Int),(v:Int),ca⟩:Ne.Arc))
     have HBX:=Lib.hid (HBW.out.alloc HBW.out.size (.cells #[.int .i64 (u:Int),.int .i64 (v:Int),.int .i64 ca] 50))
     go_upto_region 15 with fail
     obtain ⟨ba,hba⟩:∃ b,b=wr.heap.size:=⟨_,rfl⟩
     have HBAN:=Lib.hid (show (Value.slice oj (ml.length+j) cj).ownBlock≠some ba from fun h=>by have:=(Rw.own_lt HOJ.out ba h).2;omega)
     rw [← hba] at HAX ⊢
     generalize (wr.alloc (.cells #[.int .i64 (u:Int),.int .i64 (v:Int),.int .i64 ca] 50))=WX at *
     clear hba n0 n1 n2 n3 m0 m1 m2 m3 d0 d1 d2 ea hu hv hca0 hca1 HAW hkb
     have lbn:=Ne.netBox_lt HNX.out
     have lbm:=Ne.netBox_lt HTX.out
     have lbb:=Ne.netBox_lt HJX.out
     have lba:=Ne.arcBox_lt HAX.out
     obtain ⟨n0,n1,n2,n3⟩:=Ne.netBox_cells HNX.out
     obtain ⟨m0,m1,m2,m3⟩:=Ne.netBox_cells HTX.out
     have j3:=(Ne.netBox_cells HJX.out).2.2.2
     obtain ⟨b0,b1,b2⟩:=Ne.arcBox_cells HAX.out
     have hS0:=(show (fun w':World=>w'.cell? ⟨bn,0,none⟩=some (.int .i64 (N:Int))∧w'.cell? ⟨bn,1,none⟩=some (.int .i64 (S:Int))∧w'.cell? ⟨bn,2,none⟩=some (.int .i64 (D:Int))∧w'.cell? ⟨bn,3,none⟩=some (.slice om ml.length cm)∧w'.cell? ⟨bm,0,none⟩=some (.int .i64 (N2:Int))∧w'.cell? ⟨bm,1,none⟩=some (.int .i64 (S2:Int))∧w'.cell? ⟨bm,2,none⟩=some (.int .i64 (D2:Int))∧w'.cell? ⟨bm,3,none⟩=some (.slice (some ⟨kb,ko,none⟩) kl.length ck)∧w'.cell? ⟨bb,3,none⟩=some (.slice oj (ml.length+j) cj)∧w'.cell? ⟨ba,0,none⟩=some (.int .i64 (u:Int))∧w'.cell? ⟨ba,1,none⟩=some (.int .i64 (v:Int))∧w'.cell? ⟨ba,2,none⟩=some (.int .i64 ca)) WX.drew from ⟨n0,n1,n2,n3,m0,m1,m2,m3,j3,b0,b1,b2⟩)
     have HWD:=Lib.hid (show Below WX.heap.size WX WX.drew from Ne.below_drew (Below.refl _ _))
     clear n0 n1 n2 n3 m0 m1 m2 m3 j3 b0 b1 b2
     go_wp2
     refine Rg.start (S:=(fun w':World=>w'.cell? ⟨bn,0,none⟩=some (.int .i64 (N:Int))∧w'.cell? ⟨bn,1,none⟩=some (.int .i64 (S:Int))∧w'.cell? ⟨bn,2,none⟩=some (.int .i64 (D:Int))∧w'.cell? ⟨bn,3,none⟩=some (.slice om ml.length cm)∧w'.cell? ⟨bm,0,none⟩=some (.int .i64 (N2:Int))∧w'.cell? ⟨bm,1,none⟩=some (.int .i64 (S2:Int))∧w'.cell? ⟨bm,2,none⟩=some (.int .i64 (D2:Int))∧w'.cell? ⟨bm,3,none⟩=some (.slice (some ⟨kb,ko,none⟩) kl.length ck)∧w'.cell? ⟨bb,3,none⟩=some (.slice oj (ml.length+j) cj)∧w'.cell? ⟨ba,0,none⟩=some (.int .i64 (u:Int))∧w'.cell? ⟨ba,1,none⟩=some (.int .i64 (v:Int))∧w'.cell? ⟨ba,2,none⟩=some (.int .i64 ca))) (last:=18) (by kernel_rfl) ?_
     refine Rg.tk (i:=0) (v:=?_) 60 rfl (Or.inl ⟨by rfl,?_⟩) hS0 ?_
     rotate_left
     ·intro w hSw
      go_simp
      try with_reducible rfl
     try simp only [Act.put,Rh.q1,Rh.q2,Rh.q3]
     refine Rg.tk (i:=1) (v:=?_) 60 rfl (Or.inl ⟨by rfl,?_⟩) hS0 ?_
     rotate_left
     ·intro w hSw
      go_simp
      try with_reducible rfl
     try simp only [Act.put,Rh.q1,Rh.q2,Rh.q3]
     refine Rg.tk (i:=2) (v:=?_) 60 rfl (Or.inl ⟨by rfl,?_⟩) hS0 ?_
     rotate_left
     ·intro w hSw
      go_simp
      try with_reducible rfl
     try simp only [Act.put,Rh.q1,Rh.q2,Rh.q3]
     refine Rg.tk (i:=3) (v:=?_) 60 rfl (Or.inl ⟨by rfl,?_⟩) hS0 ?_
     rotate_left
     ·intro w hSw
      go_simp
      try with_reducible rfl
     try simp only [Act.put,Rh.q1,Rh.q2,Rh.q3]
     refine Rg.tk (i:=4) (v:=?_) 60 rfl (Or.inl ⟨by rfl,?_⟩) hS0 ?_
     rotate_left
     ·intro w hSw
      go_simp
      try with_reducible rfl
     try simp only [Act.put,Rh.q1,Rh.q2,Rh.q3]
     refine Rg.tk (i:=5) (v:=?_) 60 rfl (Or.inl ⟨by rfl,?_⟩) hS0 ?_
     rotate_left
     ·intro w hSw
      go_simp
      try with_reducible rfl
     try simp only [Act.put,Rh.q1,Rh.q2,Rh.q3]
     refine Rg.tk (i:=7) (v:=?_) 60 rfl (Or.inl ⟨by rfl,?_⟩) hS0 ?_
     rotate_left
     ·intro w hSw
      go_simp
      try with_reducible rfl
     try simp only [Act.put,Rh.q1,Rh.q2,Rh.q3]
     refine Rg.tk (i:=8) (v:=?_) 60 rfl (Or.inl ⟨by rfl,?_⟩) hS0 ?_
     rotate_left
     ·intro w hSw
      go_simp
      try with_reducible rfl
     try simp only [Act.put,Rh.q1,Rh.q2,Rh.q3]
     refine Rg.tk (i:=9) (v:=?_) 60 rfl (Or.inl ⟨by rfl,?_⟩) hS0 ?_
     rotate_left
     ·intro w hSw
      go_simp
      try with_reducible rfl
     try simp only [Act.put,Rh.q1,Rh.q2,Rh.q3]
     refine Rg.tk (i:=10) (v:=?_) 60 rfl (Or.inl ⟨by rfl,?_⟩) hS0 ?_
     rotate_left
     ·intro w hSw
      go_simp
      try with_reducible rfl
     try simp only [Act.put,Rh.q1,Rh.q2,Rh.q3]
     refine Rg.tk (i:=12) (v:=?_) 60 rfl (Or.inl ⟨by rfl,?_⟩) hS0 ?_
     rotate_left
     ·intro w hSw
      go_simp
      try with_reducible rfl
     try simp only [Act.put,Rh.q1,Rh.q2,Rh.q3]
     refine Rg.tk (i:=13) (v:=?_) 60 rfl (Or.inl ⟨by rfl,?_⟩) hS0 ?_
     rotate_left
     ·intro w hSw
      go_simp
      try with_reducible rfl
     try simp only [Act.put,Rh.q1,Rh.q2,Rh.q3]
     refine Rg.step (i:=6) (by kernel_rfl) rfl fun K' hK'=>?_
     have HK:=Lib.hid hK'
     clear hK'
     go_simp
     refine (MOU.out _).mono ?_
     rintro e w15a ⟨rfl,hb⟩
     have HBA:=Lib.hid (HWD.out.trans (hb.mono HWD.out.size))
     have hS6:=(show (fun w':World=>w'.cell? ⟨bn,0,none⟩=some (.int .i64 (N:Int))∧w'.cell? ⟨bn,1,none⟩=some (.int .i64 (S:Int))∧w'.cell? ⟨bn,2,none⟩=some (.int .i64 (D:Int))∧w'.cell? ⟨bn,3,none⟩=some (.slice om ml.length cm)∧w'.cell? ⟨bm,0,none⟩=some (.int .i64 (N2:Int))∧w'.cell? ⟨bm,1,none⟩=some (.int .i64 (S2:Int))∧w'.cell? ⟨bm,2,none⟩=some (.int .i64 (D2:Int))∧w'.cell? ⟨bm,3,none⟩=some (.slice (some ⟨kb,ko,none⟩) kl.length ck)∧w'.cell? ⟨bb,3,none⟩=some (.slice oj (ml.length+j) cj)∧w'.cell? ⟨ba,0,none⟩=some (.int .i64 (u:Int))∧w'.cell? ⟨ba,1,none⟩=some (.int .i64 (v:Int))∧w'.cell? ⟨ba,2,none⟩=some (.int .i64 ca)) w15a from ⟨(HBA.out.cell (p:=⟨bn,0,none⟩) lbn).trans hS0.1,(HBA.out.cell (p:=⟨bn,1,none⟩) lbn).trans hS0.2.1,(HBA.out.cell (p:=⟨bn,2,none⟩) lbn).trans hS0.2.2.1,(HBA.out.cell (p:=⟨bn,3,none⟩) lbn).trans hS0.2.2.2.1,(HBA.out.cell (p:=⟨bm,0,none⟩) lbm).trans hS0.2.2.2.2.1,(HBA.out.cell (p:=⟨bm,1,none⟩) lbm).trans hS0.2.2.2.2.2.1,(HBA.out.cell (p:=⟨bm,2,none⟩) lbm).trans hS0.2.2.2.2.2.2.1,(HBA.out.cell (p:=⟨bm,3,none⟩) lbm).trans hS0.2.2.2.2.2.2.2.1,(HBA.out.cell (p:=⟨bb,3,none⟩) lbb).trans hS0.2.2.2.2.2.2.2.2.1,(HBA.out.cell (p:=⟨ba,0,none⟩) lba).trans hS0.2.2.2.2.2.2.2.2.2.1,(HBA.out.cell (p:=⟨ba,1,none⟩) lba).trans hS0.2.2.2.2.2.2.2.2.2.2.1,(HBA.out.cell (p:=⟨ba,2,none⟩) lba).trans hS0.2.2.2.2.2.2.2.2.2.2.2⟩)
     clear hb
     refine HK.out _ _ ⟨fun _=>hS6,?_⟩
     clear HK K'
     try simp only [Act.put,Rh.q1,Rh.q2,Rh.q3]
     refine Rg.step (i:=11) (by kernel_rfl) rfl fun K' hK'=>?_
     have HK:=Lib.hid hK'
     clear hK'
     go_simp
     refine (MOVV.out _).mono ?_
     rintro e w15b ⟨rfl,hb⟩
     have HBB2:=Lib.hid (HBA.out.trans (hb.mono HBA.out.size))
     have hS11:=(show (fun w':World=>w'.cell? ⟨bn,0,none⟩=some (.int .i64 (N:Int))∧w'.cell? ⟨bn,1,none⟩=some (.int .i64 (S:Int))∧w'.cell? ⟨bn,2,none⟩=some (.int .i64 (D:Int))∧w'.cell? ⟨bn,3,none⟩=some (.slice om ml.length cm)∧w'.cell? ⟨bm,0,none⟩=some (.int .i64 (N2:Int))∧w'.cell? ⟨bm,1,none⟩=some (.int .i64 (S2:Int))∧w'.cell? ⟨bm,2,none⟩=some (.int .i64 (D2:Int))∧w'.cell? ⟨bm,3,none⟩=some (.slice (some ⟨kb,ko,none⟩) kl.length ck)∧w'.cell? ⟨bb,3,none⟩=some (.slice oj (ml.length+j) cj)∧w'.cell? ⟨ba,0,none⟩=some (.int .i64 (u:Int))∧w'.cell? ⟨ba,1,none⟩=some (.int .i64 (v:Int))∧w'.cell? ⟨ba,2,none⟩=some (.int .i64 ca)) w15b from ⟨(HBB2.out.cell (p:=⟨bn,0,none⟩) lbn).trans hS0.1,(HBB2.out.cell (p:=⟨bn,1,none⟩) lbn).trans hS0.2.1,(HBB2.out.cell (p:=⟨bn,2,none⟩) lbn).trans hS0.2.2.1,(HBB2.out.cell (p:=⟨bn,3,none⟩) lbn).trans hS0.2.2.2.1,(HBB2.out.cell (p:=⟨bm,0,none⟩) lbm).trans hS0.2.2.2.2.1,(HBB2.out.cell (p:=⟨bm,1,none⟩) lbm).trans hS0.2.2.2.2.2.1,(HBB2.out.cell (p:=⟨bm,2,none⟩) lbm).trans hS0.2.2.2.2.2.2.1,(HBB2.out.cell (p:=⟨bm,3,none⟩) lbm).trans hS0.2.2.2.2.2.2.2.1,(HBB2.out.cell (p:=⟨bb,3,none⟩) lbb).trans hS0.2.2.2.2.2.2.2.2.1,(HBB2.out.cell (p:=⟨ba,0,none⟩) lba).trans hS0.2.2.2.2.2.2.2.2.2.1,(HBB2.out.cell (p:=⟨ba,1,none⟩) lba).trans hS0.2.2.2.2.2.2.2.2.2.2.1,(HBB2.out.cell (p:=⟨ba,2,none⟩) lba).trans hS0.2.2.2.2.2.2.2.2.2.2.2⟩)
     clear hb
     refine HK.out _ _ ⟨fun _=>hS11,?_⟩
     clear HK K'
     try simp only [Act.put,Rh.q1,Rh.q2,Rh.q3]
     refine Rg.tk (i:=14) (v:=?_) 60 rfl (Or.inl ⟨by rfl,?_⟩) hS11 ?_
     rotate_left
     ·intro w hSw
      go_simp
      try with_reducible rfl
     try simp only [Act.put,Rh.q1,Rh.q2,Rh.q3]
     refine Rg.step (i:=15) (by kernel_rfl) rfl fun K' hK'=>?_
     have HK:=Lib.hid hK'
     clear hK'
     go_simp
     have HBA3:=Lib.hid (HBB2.out.alloc HBB2.out.size (.cells #[.int .i64 r1,.int .i64 r2,.int .i64 ca] 50))
     have HAR3:=Lib.hid (Ne.arow_at1 w15b rfl (⟨r1,r2,ca⟩:Ne.Arc))
     have hS15:=(show (fun w':World=>w'.cell? ⟨bn,0,none⟩=some (.int .i64 (N:Int))∧w'.cell? ⟨bn,1,none⟩=some (.int .i64 (S:Int))∧w'.cell? ⟨bn,2,none⟩=some (.int .i64 (D:Int))∧w'.cell? ⟨bn,3,none⟩=some (.slice om ml.length cm)∧w'.cell? ⟨bm,0,none⟩=some (.int .i64 (N2:Int))∧w'.cell? ⟨bm,1,none⟩=some (.int .i64 (S2:Int))∧w'.cell? ⟨bm,2,none⟩=some (.int .i64 (D2:Int))∧w'.cell? ⟨bm,3,none⟩=some (.slice (some ⟨kb,ko,none⟩) kl.length ck)∧w'.cell? ⟨bb,3,none⟩=some (.slice oj (ml.length+j) cj)∧w'.cell? ⟨ba,0,none⟩=some (.int .i64 (u:Int))∧w'.cell? ⟨ba,1,none⟩=some (.int .i64 (v:Int))∧w'.cell? ⟨ba,2,none⟩=some (.int .i64 ca)) (w15b.alloc (.cells #[.int .i64 r1,.int .i64 r2,.int .i64 ca] 50)) from ⟨(HBA3.out.cell (p:=⟨bn,0,none⟩) lbn).trans hS0.1,(HBA3.out.cell (p:=⟨bn,1,none⟩) lbn).trans hS0.2.1,(HBA3.out.cell (p:=⟨bn,2,none⟩) lbn).trans hS0.2.2.1,(HBA3.out.cell (p:=⟨bn,3,none⟩) lbn).trans hS0.2.2.2.1,(HBA3.out.cell (p:=⟨bm,0,none⟩) lbm).trans hS0.2.2.2.2.1,(HBA3.out.cell (p:=⟨bm,1,none⟩) lbm).trans hS0.2.2.2.2.2.1,(HBA3.out.cell (p:=⟨bm,2,none⟩) lbm).trans hS0.2.2.2.2.2.2.1,(HBA3.out.cell (p:=⟨bm,3,none⟩) lbm).trans hS0.2.2.2.2.2.2.2.1,(HBA3.out.cell (p:=⟨bb,3,none⟩) lbb).trans hS0.2.2.2.2.2.2.2.2.1,(HBA3.out.cell (p:=⟨ba,0,none⟩) lba).trans hS0.2.2.2.2.2.2.2.2.2.1,(HBA3.out.cell (p:=⟨ba,1,none⟩) lba).trans hS0.2.2.2.2.2.2.2.2.2.2.1,(HBA3.out.cell (p:=⟨ba,2,none⟩) lba).trans hS0.2.2.2.2.2.2.2.2.2.2.2⟩)
     refine HK.out _ _ ⟨fun _=>hS15,?_⟩
     clear HK K'
     try simp only [Act.put,Rh.q1,Rh.q2,Rh.q3]
     refine Rg.step (i:=16) (by kernel_rfl) rfl fun K' hK'=>?_
     refine Rw.stepAny Ne.elemA Ne.encA_len Ne.encA_one (by rfl) (.tmp 91) (.tmp 105) (by rfl) v8.heap.size _ (AB j) (by rfl) (Rw.own_below HOX.out HBA3.out) (some ⟨w15b.heap.size,0,none⟩) 1 [(⟨r1,r2,ca⟩:Ne.Arc)] 1 rfl (by rfl) (fun h=>by cases h) HAR3.out HLJ0.out (Nat.le_trans HBX.out.size HBA3.out.size) ?_
     intro va w18 hown hgr
     rw [← HAJ.out] at hown
     obtain ⟨o18,c18,hva,_⟩:=Rw.own_row Ne.encA_len hown
     rw [HLJ.out] at hva
     subst hva
     have HO18:=Lib.hid hown
     have HJ3:=Lib.hid (Ne.netBox_below HJX.out HBA3.out lbb)
     have HJ18:=Lib.hid (Ne.netBox_grown HJ3.out hgr (fun h=>Ne.own_ne_box (Rw.own_below HOX.out HBA3.out) HJ3.out h.symm))
     have HB18:=Lib.hid ((HBX.out.trans (HBA3.out.mono HBX.out.size)).grown hgr (Nat.le_trans HBX.out.size HBA3.out.size) (fun b hb=>Rw.own_block HOX.out b hb))
     have mf:=Ne.netBox_frozen HJ18.out 3
     have j3:=(Ne.netBox_cells HJ18.out).2.2.2
     have ab3:=Ne.arcBox_cells (Ne.arcBox_grown (Ne.arcBox_below HAX.out HBA3.out lba) hgr (fun h=>HBAN.out h.symm))
     have nb3:=Ne.netBox_cells (Ne.netBox_below HN8.out HB18.out hbn8)
     have mb3:=Ne.netBox_cells (Ne.netBox_below HT8.out HB18.out hbm8)
     have hS16:=(show (fun w':World=>w'.cell? ⟨bn,0,none⟩=some (.int .i64 (N:Int))∧w'.cell? ⟨bn,1,none⟩=some (.int .i64 (S:Int))∧w'.cell? ⟨bn,2,none⟩=some (.int .i64 (D:Int))∧w'.cell? ⟨bn,3,none⟩=some (.slice om ml.length cm)∧w'.cell? ⟨bm,0,none⟩=some (.int .i64 (N2:Int))∧w'.cell? ⟨bm,1,none⟩=some (.int .i64 (S2:Int))∧w'.cell? ⟨bm,2,none⟩=some (.int .i64 (D2:Int))∧w'.cell? ⟨bm,3,none⟩=some (.slice (some ⟨kb,ko,none⟩) kl.length ck)∧w'.cell? ⟨bb,3,none⟩=some (.slice oj (ml.length+j) cj)∧w'.cell? ⟨ba,0,none⟩=some (.int .i64 (u:Int))∧w'.cell? ⟨ba,1,none⟩=some (.int .i64 (v:Int))∧w'.cell? ⟨ba,2,none⟩=some (.int .i64 ca)) w18 from ⟨nb3.1,nb3.2.1,nb3.2.2.1,nb3.2.2.2,mb3.1,mb3.2.1,mb3.2.2.1,mb3.2.2.2,j3,ab3.1,ab3.2.1,ab3.2.2⟩)
     clear hown hgr ab3 nb3 mb3
     refine hK' _ _ ⟨fun _=>hS16,?_⟩
     clear hK' K'
     try simp only [Act.put,Rh.q1,Rh.q2,Rh.q3]
     refine Rg.tk (i:=17) (v:=?_) 60 rfl (Or.inl ⟨by rfl,?_⟩) hS16 ?_
     rotate_left
     ·intro w hSw
      go_simp
      try with_reducible rfl
     try simp only [Act.put,Rh.q1,Rh.q2,Rh.q3]
     refine Rg.step (i:=18) (by kernel_rfl) rfl fun K' hK'=>?_
     have HK:=Lib.hid hK'
     clear hK'
     go_simp
     refine HK.out _ _ ⟨fun h=>absurd rfl h,?_⟩
     clear HK K'
     try simp only [Act.put,Rh.q1,Rh.q2,Rh.q3]
     refine Rg.finished (by kernel_rfl) ?_ _
     have HN19:=Lib.hid (Ne.netBox_set (v2:=.slice o18 (ml.length+(j+1)) c18) HJ18.out)
     have HO19:=Lib.hid (Rw.own_set HO18.out (p:=⟨bb,3,none⟩) (fun h=>Ne.own_ne_box HO18.out HJ18.out h) (.slice o18 (ml.length+(j+1)) c18))
     have HB19:=Lib.hid (HB18.out.setCell (p:=⟨bb,3,none⟩) HBB.out (.slice o18 (ml.length+(j+1)) c18))
     go_wp2
     go_roundg (kl.length-(j+1))
     case measure=>omega
     case rel=>exact ⟨⟨_,rfl⟩,j+1,o18,c18,rfl,by omega,HN19,HO19,HB19⟩
    ·obtain rfl:j=kl.length:=by omega
     have HB20:=Lib.hid (HB8.out.trans (HBW.out.mono HB8.out.size))
     have HNM20:=HNJ
     have HOM20:=HOJ
     obtain ⟨j0,j1,j2,j3⟩:=Ne.netBox_cells HNM20.out
     go_wp2_with fail
     refine (MB.out oj cj _ (Ne.arow_ofA HOM20.out)).mono ?_
     rintro e v21 ⟨od,cd,sd,rfl,hi,ha1,ha2,ha3,hb⟩
     clear ha1 ha2 ha3
     have hal:=(Below.refl v21.heap.size v21).alloc (Nat.le_refl _) (.cells #[.slice od (ml.length+kl.length) cd,.int .i64 (pb:Int),.int .i64 (qb:Int),.int .i64 sd] 28)
     have HXD21:=Lib.hid (Ne.runBox_at v21 rfl (.slice od (ml.length+kl.length) cd) (pb:Int) (qb:Int) sd)
     have HID21:=Lib.hid (hi.kept hal)
     replace hb:=hb.trans (hal.mono hb.size)
     have HB21:=Lib.hid (HB20.out.trans (hb.mono HB20.out.size))
     have HNM21:=Lib.hid (Ne.netBox_below HNM20.out hb (Ne.netBox_lt HNM20.out))
     have HOM21:=Lib.hid (Rw.own_below HOM20.out hb)
     clear hb hi hal j0 j1 j2 j3 n0 n1 n2 n3 m0 m1 m2 m3
     obtain ⟨j0,j1,j2,j3⟩:=Ne.netBox_cells HNM21.out
     obtain ⟨x0,x1,x2,x3⟩:=Ne.runBox_cells HXD21.out
     go_wp2_with fail
     refine (VGB.out oj cj od cd _ (Ne.arow_ofA HOM21.out) HID21.out).mono ?_
     rintro e v22 ⟨rfl,hb⟩
     have HB22:=Lib.hid (HB21.out.trans (hb.mono HB21.out.size))
     clear hb x0 x1 x2 x3 j0 j1 j2 j3
     have hvb:=HVB.out
     have hvb2:=HVB2.out
     have hws:IntKind.i64.wrap (vg+wg)=vg+wg:=by rw [IntKind.wrap_i64];omega
     have huu:(ug == vg+wg)=true:=by rw [HSUM.out];simp
     clear hvb hvb2
     go_wp2
     go_ret
     exact ⟨rfl,HB22.out⟩

end Go.Proofs.YtmikbkggjlbbnaaGreat.dinicApart
