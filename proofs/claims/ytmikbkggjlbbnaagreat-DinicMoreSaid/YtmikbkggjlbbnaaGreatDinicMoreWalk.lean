/- DinicMore: for every input the law returns true and its arguments read as they did. No condition. -/
import Derived.Test.YtmikbkggjlbbnaaGreatBg44
import Derived.Test.YtmikbkggjlbbnaaGreatBg4
import Derived.Test.YtmikbkggjlbbnaaGreatBg5
import Derived.Deep.LoopGhost
import Derived.Deep.DeepCutAuto
import Derived.RegionTactic
import Derived.BigRegion
import Derived.Test.YtmikbkggjlbbnaaGreatBg45
import Derived.Test.YtmikbkggjlbbnaaGreatRows
import Derived.WalkKit
import Derived.ProofKit
import Derived.OpenShut
import Derived.ShutString
import Derived.ChangeOld
import Derived.Below
import Derived.Deep.Strs
namespace Go.Proofs.YtmikbkggjlbbnaaGreat.dinicMore
open Go.ChangeShapes Go.WideShapes Go.ChangeAt Go.RowKit
open Go.ChangeMaps (open_string shut_string)
set_option linter.unusedVariables false
set_option linter.unusedSimpArgs false

theorem own : ownKnob Tryz.prog.godebug = none := by kernel_rfl
theorem laidOut : laidOutB Tryz.prog = true := by kernel_rfl



set_option maxRecDepth 100000 in
set_option maxHeartbeats 4000000 in
theorem walk (a0 : Int) (a1 : Int) (a2 : List Ne.Arc) (o2 : Option Addr) (c2 : Nat) (a3 : Int) (a4 : Int) (w : World) (w0 : (Lit.int .i64 a0).wf = true) (w1 : (Lit.int .i64 a1).wf = true) (k2 : ∀ a ∈ a2, Ne.Arc.ok a) (z2 : a2.length ≤ c2) (y2 : c2 ≤ maxLen) (n2 : o2 = none → c2 = 0) (r2 : Ne.ARow w o2 a2) (w3 : (Lit.int .i64 a3).wf = true) (w4 : (Lit.int .i64 a4).wf = true) :
    Calls Tryz.prog 7 #[.int .i64 a0, .int .i64 a1, .slice o2 a2.length c2, .int .i64 a3, .int .i64 a4] w fun e w' => e = .returned (.bool true) ∧ Below w.heap.size w w' := by
  have HSH:=Lib.hid (Ne.shown_any w)
  obtain ⟨mn,hmn⟩:∃ x,x=(Ne.madeN a0 a1 a2).n:=⟨_,rfl⟩
  obtain ⟨ms,hms⟩:∃ x,x=(Ne.madeN a0 a1 a2).s:=⟨_,rfl⟩
  obtain ⟨mt,hmt⟩:∃ x,x=(Ne.madeN a0 a1 a2).t:=⟨_,rfl⟩
  obtain ⟨ml,hml⟩:∃ x,x=(Ne.madeN a0 a1 a2).l:=⟨_,rfl⟩
  have em:Ne.madeN a0 a1 a2=⟨mn,ms,mt,ml⟩:=by rw [hmn,hms,hmt,hml]
  obtain ⟨f1,f2,f3,f4,f5,f6,f7,f8,f9⟩:=Ne.madeN_fine (nodes:=a0) (ends:=a1) k2
  have ck:=Ne.made_check (nodes:=a0) (ends:=a1) k2
  have MD:=Lib.hid fun w' (h:Ne.ARow w' o2 a2)=>Ne.made_s a0 a1 a2 o2 c2 w' (bounds_i64 w0) (bounds_i64 w1) k2 h
  rw [em] at MD f1 f2 f3 f4 f5 f6 f7 f8 f9 ck
  simp only at f1 f2 f3 f4 f5 f6 f7 f8 f9
  clear hmn hms hmt hml em
  have f8':ml.length≤24:=by omega
  clear f8
  have CK:=Lib.hid ck
  have RT:=Lib.hid (Ne.right_of ck)
  have FI:=Lib.hid f9
  have CAP:=Lib.hid (show ∀ a∈ml,Ne.in64 a.cap from fun a ha=>by have:=(f9 a ha).2.2;unfold Ne.in64;omega)
  have hl6:ml.length≤1000000:=by omega
  have F7:=Lib.hid f7
  have RA:=Lib.hid r2
  clear r2 f7 f9 ck
  obtain ⟨N,rfl⟩:∃ N:Nat,mn=(N:Int):=⟨mn.toNat,by omega⟩
  obtain ⟨S,rfl⟩:∃ S:Nat,ms=(S:Int):=⟨ms.toNat,by omega⟩
  obtain ⟨D,rfl⟩:∃ D:Nat,mt=(D:Int):=⟨mt.toNat,by omega⟩
  obtain ⟨g,L,p,k,hph,hfg,hlg,hdg,htg,hpn,hpk⟩:=Ne.max_facts RT.out
  have MX:=Lib.hid fun (q:Bool) (ao:Option Addr) (cap:Nat) w' (h1:Ne.ARow w' ao (⟨(N:Int),(S:Int),(D:Int),ml⟩:Ne.Net).l)=>Ne.max_flow (n:=⟨(N:Int),(S:Int),(D:Int),ml⟩) ao cap w' CK.out h1 hph q
  have FG:=Lib.hid hfg
  have LG:=Lib.hid hlg
  have DG:=Lib.hid hdg
  have TG:=Lib.hid htg
  have PH:=Lib.hid hph
  have PK:=Lib.hid (And.intro hpn hpk)
  clear hph hfg hlg hdg htg hpn hpk
  have hN9:N≤9:=by omega
  have MF:=Lib.hid fun ao cap w' h1=>MX.out false ao cap w' h1
  simp only [Ne.engC,Bool.false_eq_true,if_false,if_true] at MF
  clear MX
  have b3:=bounds_i64 w3
  have b4:=bounds_i64 w4
  have bpx:=Ne.pickN_bd (c:=a4) (n:=9) (by omega)
  have PK9:=Lib.hid fun w'=>Ne.pick_any a4 9 w' b4.1 b4.2 (by omega) (by omega)
  generalize Ne.pickN a4 9=px at *
  obtain ⟨x,hx⟩:∃ x,1+px=x:=⟨_,rfl⟩
  have hwx:IntKind.i64.wrap (1+px)=x:=by rw [IntKind.wrap_i64];omega
  have hx0:1≤x:=by omega
  have hx9:x≤9:=by omega
  obtain ⟨M1,hM1⟩:∃ l,l=ml ++ [(⟨1,1,x⟩:Ne.Arc)]:=⟨_,rfl⟩
  obtain ⟨M2,hM2⟩:∃ l,l=M1 ++ [(⟨(N:Int),(S:Int),x⟩:Ne.Arc)]:=⟨_,rfl⟩
  obtain ⟨M3,hM3⟩:∃ l,l=M2 ++ [(⟨(D:Int),1,x⟩:Ne.Arc)]:=⟨_,rfl⟩
  have hml3:Ne.moreL N S D x ml=M3:=by rw [hM3,hM2,hM1];rfl
  obtain ⟨k1,hk1⟩:∃ k,k=ml.length+1:=⟨_,rfl⟩
  obtain ⟨k2,hk2⟩:∃ k,k=ml.length+2:=⟨_,rfl⟩
  obtain ⟨k3,hk3⟩:∃ k,k=ml.length+3:=⟨_,rfl⟩
  have HM1:=Lib.hid hM1
  have HM2:=Lib.hid hM2
  have HM3:=Lib.hid hM3
  have HK1:=Lib.hid (show M1.length=k1 by rw [hM1,hk1];simp)
  have HK2:=Lib.hid (show M2.length=k2 by rw [hM2,hk2];simp [HK1.out,hk1])
  have HK3:=Lib.hid (show M3.length=k3 by rw [hM3,hk3];simp [HK2.out,hk2])
  have hSN:S≤N:=by omega
  have hDN:D≤N:=by omega
  have F7':=F7.out
  have hSD:S≠D:=fun e=>F7' (by rw [e])
  have hN2:2≤N:=by omega
  have hS1:1≤S:=by omega
  have hD1:1≤D:=by omega
  have CK1:=Lib.hid (show Ne.checkN ⟨(N:Int),(S:Int),(D:Int),M3⟩=0 by rw [← hml3];exact Ne.more_check hN2 hN9 hS1 hSN hD1 hDN hSD hx0 hx9 f8' FI.out)
  have RT1:=Lib.hid (Ne.right_of CK1.out)
  have SAME:=Lib.hid (fun v w h k=>show v=w from Ne.more_same (x:=x) hN2 hN9 hS1 hSN hD1 hDN hSD hx0 hx9 f8' FI.out CK.out (v:=v) (w:=w) h k)
  have CK2:=Lib.hid (fun i (hi:i<k3)=>show Ne.checkN ⟨(N:Int),(S:Int),(D:Int),Ne.upL M3 i x⟩=0 by rw [← hml3];exact Ne.up_check hN2 hN9 hS1 hSN hD1 hDN hSD hx0 hx9 f8' FI.out (by omega))
  have MORE:=Lib.hid (fun i (hi:i<k3) v w h k=>show v≤w∧w≤v+x from Ne.up_more (x:=x) (l:=ml) (i:=i) hN2 hN9 hS1 hSN hD1 hDN hSD hx0 hx9 f8' FI.out (by omega) (v:=v) (w:=w) h k)
  have FCAP:=Lib.hid (fun i (hi:i<k3)=>show 0≤(Ne.arcAt M3 i).cap∧(Ne.arcAt M3 i).cap≤1000000 by
   have h:=Ne.more_fine (x:=x) hN2 hN9 hS1 hSN hD1 hDN hx0 hx9 FI.out _ (Ne.at_mem (l:=Ne.moreL N S D x ml) (j:=i) (by rw [Ne.moreL_len];omega))
   rw [hml3] at h
   exact h.2.2)
  rw [hml3] at SAME MORE
  obtain ⟨g1,L1,p1,q1,hph1,hfg1,hlg1,hdg1,htg1,hpn1,hpk1⟩:=Ne.max_facts RT1.out
  have MX1:=Lib.hid fun (q:Bool) (ao:Option Addr) (cap:Nat) w' (h1:Ne.ARow w' ao (⟨(N:Int),(S:Int),(D:Int),M3⟩:Ne.Net).l)=>Ne.max_flow (n:=⟨(N:Int),(S:Int),(D:Int),M3⟩) ao cap w' CK1.out h1 hph1 q
  have FG1:=Lib.hid hfg1
  have LG1:=Lib.hid hlg1
  have DG1:=Lib.hid hdg1
  have TG1:=Lib.hid htg1
  have PH1:=Lib.hid hph1
  have PK1:=Lib.hid (And.intro hpn1 hpk1)
  clear hph1 hfg1 hlg1 hdg1 htg1 hpn1 hpk1
  have MG:=Lib.hid fun ao cap w' h1=>MX1.out false ao cap w' h1
  simp only [Ne.engC,Bool.false_eq_true,if_false,if_true,Ne.encN,HK3.out] at MG
  clear MX1
  have VG:=Lib.hid fun om cm fo fc w' h1 h2=>Ne.val_flow (n:=⟨(N:Int),(S:Int),(D:Int),ml⟩) (f:=g) om cm fo fc w' CK.out h1 h2 FG.out
  have VG1:=Lib.hid fun (o3:Option Addr) (c3:Nat) fo fc w' h1 h2=>Ne.val_flow (n:=⟨(N:Int),(S:Int),(D:Int),M3⟩) (f:=g1) o3 c3 fo fc w' CK1.out h1 h2 FG1.out
  simp only [Ne.encN,HK3.out] at VG1
  have HVW:=Lib.hid (SAME.out _ _ TG.out TG1.out)
  simp only at HVW
  have HVB:=Lib.hid (show 0≤Ne.exc ml g (D:Int)∧Ne.exc ml g (D:Int)≤4611686018427387903 from Ne.flow_bd RT.out FG.out)
  have PA:=Lib.hid fun w'=>Ne.pick_any a3 (k3:Int) w' b3.1 b3.2 (by omega) (by omega)
  have bpa:=Ne.pickN_bd (c:=a3) (n:=(k3:Int)) (by omega)
  obtain ⟨i,hi⟩:∃ i:Nat,Ne.pickN a3 (k3:Int)=(i:Int):=⟨(Ne.pickN a3 (k3:Int)).toNat,by omega⟩
  rw [hi] at PA bpa
  have HIK:=Lib.hid (show i<k3 by omega)
  obtain ⟨M4,hM4⟩:∃ l,l=Ne.upL M3 i x:=⟨_,rfl⟩
  have HM4:=Lib.hid (show M4=M3.set i ⟨(Ne.arcAt M3 i).fr,(Ne.arcAt M3 i).to,(Ne.arcAt M3 i).cap+x⟩ from hM4)
  have CK4:=Lib.hid (CK2.out i HIK.out)
  rw [← hM4] at CK4
  have RT4:=Lib.hid (Ne.right_of CK4.out)
  have HK4:=Lib.hid (show M4.length=k3 by rw [hM4,Ne.upL_len,HK3.out])
  obtain ⟨g4,L4,p4,q4,hph4,hfg4,hlg4,hdg4,htg4,hpn4,hpk4⟩:=Ne.max_facts RT4.out
  have MX4:=Lib.hid fun (q:Bool) (ao:Option Addr) (cap:Nat) w' (h1:Ne.ARow w' ao (⟨(N:Int),(S:Int),(D:Int),M4⟩:Ne.Net).l)=>Ne.max_flow (n:=⟨(N:Int),(S:Int),(D:Int),M4⟩) ao cap w' CK4.out h1 hph4 q
  have FG4:=Lib.hid hfg4
  have LG4:=Lib.hid hlg4
  have DG4:=Lib.hid hdg4
  have TG4:=Lib.hid htg4
  have PH4:=Lib.hid hph4
  have PK4:=Lib.hid (And.intro hpn4 hpk4)
  clear hph4 hfg4 hlg4 hdg4 htg4 hpn4 hpk4
  have ML:=Lib.hid fun ao cap w' h1=>MX4.out true ao cap w' h1
  have VG4:=Lib.hid fun (o3:Option Addr) (c3:Nat) fo fc w' h1 h2=>Ne.val_flow (n:=⟨(N:Int),(S:Int),(D:Int),M4⟩) (f:=g4) o3 c3 fo fc w' CK4.out h1 h2 FG4.out
  simp only [Ne.engC,Bool.false_eq_true,if_false,if_true,Ne.encN,HK4.out] at ML VG4
  have HUB:=Lib.hid (MORE.out i HIK.out _ (Ne.exc M4 g4 (D:Int)) TG1.out (by rw [← hM4];exact TG4.out))
  simp only at HUB
  clear MX4 hi bpa b3 b4 hml3 hM1 hM2 hM3 hM4 SAME MORE F7' w3 w4
  have HKK:=Lib.hid (And.intro hk1 (And.intro hk2 hk3))
  clear hk1 hk2 hk3 hx bpx
  generalize Ne.exc ml g (D:Int)=vg at *
  generalize Ne.exc M3 g1 (D:Int)=wg at *
  generalize Ne.exc M4 g4 (D:Int)=ug at *
  go_enter Tryz.func7,Tryz.ntmps7
  go_wp2_with fail
  refine HSH.out.mono ?_
  rintro e w1 ⟨rfl,hb⟩
  have HB1:=Lib.hid hb
  clear hb
  go_wp2_with fail
  refine (MD.out _ (RA.out.kept HB1.out)).mono ?_
  rintro e w2 ⟨om,cm,rfl,ho,hb⟩
  have HB2:=Lib.hid (HB1.out.trans (hb.mono HB1.out.size))
  have HV2:=Lib.hid (Rw.own_lt ho)
  have HO3:=Lib.hid (Rw.own_base (Rw.own_alloc ho (.cells #[.int .i64 (N:Int),.int .i64 (S:Int),.int .i64 (D:Int),.slice om ml.length cm] 24)) (B':=w.heap.size) HB1.out.size)
  have HN3:=Lib.hid (Ne.netBox_new w2 (N:Int) (S:Int) (D:Int) (.slice om ml.length cm))
  have hz2:w.heap.size≤w2.heap.size:=HB2.out.size
  have HB3:=Lib.hid (HB2.out.alloc hz2 (.cells #[.int .i64 (N:Int),.int .i64 (S:Int),.int .i64 (D:Int),.slice om ml.length cm] 24))
  clear ho hb MD RA HSH
  go_wp2_with fail
  obtain ⟨bn,hbn⟩:∃ b,b=w2.heap.size:=⟨_,rfl⟩
  have hbn3:bn<(w2.alloc (.cells #[.int .i64 (N:Int),.int .i64 (S:Int),.int .i64 (D:Int),.slice om ml.length cm] 24)).heap.size:=by rw [hbn];simp
  rw [← hbn] at HN3 HV2 hz2 ⊢
  clear hbn HB2 HB1
  generalize (w2.alloc (.cells #[.int .i64 (N:Int),.int .i64 (S:Int),.int .i64 (D:Int),.slice om ml.length cm] 24))=W3 at *
  have HR3:=Lib.hid (Ne.arow_ofA HO3.out)
  obtain ⟨_,_,ev3,_,_,hnn,_⟩:=Rw.own_row Ne.encA_len HO3.out
  have HNN:=Lib.hid (show om=none→cm=0 by
   simp only [Value.slice.injEq] at ev3
   obtain ⟨e1,_,e2⟩:=ev3
   rw [e1,e2];exact hnn)
  have CP:=Lib.hid fun w' h=>Ne.copy_any ⟨(N:Int),(S:Int),(D:Int),ml⟩ om cm w' HNN.out h hl6
  clear ev3 hnn
  obtain ⟨n0,n1,n2,n3⟩:=Ne.netBox_cells HN3.out
  go_wp2_with fail
  refine (MF.out om cm _ HR3.out).mono ?_
  rintro e v5 ⟨oa,ca,sa,rfl,hi,ha1,ha2,ha3,hb⟩
  clear ha1 ha2 ha3
  have hal:=(Below.refl v5.heap.size v5).alloc (Nat.le_refl _) (.cells #[.slice oa ml.length ca,.int .i64 (p:Int),.int .i64 (k:Int),.int .i64 sa] 28)
  have HXA5:=Lib.hid (Ne.runBox_at v5 rfl (.slice oa ml.length ca) (p:Int) (k:Int) sa)
  have HIA5:=Lib.hid (hi.kept hal)
  replace hb:=hb.trans (hal.mono hb.size)
  have HB5:=Lib.hid (HB3.out.trans (hb.mono HB3.out.size))
  have HN5:=Lib.hid (Ne.netBox_below HN3.out hb (Ne.netBox_lt HN3.out))
  have HR5:=Lib.hid (HR3.out.kept hb)
  clear hb hi hal n0 n1 n2 n3
  obtain ⟨n0,n1,n2,n3⟩:=Ne.netBox_cells HN5.out
  obtain ⟨x0,x1,x2,x3⟩:=Ne.runBox_cells HXA5.out
  go_wp2_with fail
  refine (VG.out om cm _ _ _ HR5.out HIA5.out).mono ?_
  rintro e v6 ⟨rfl,hb⟩
  have HB6:=Lib.hid (HB5.out.trans (hb.mono HB5.out.size))
  have HN6:=Lib.hid (Ne.netBox_below HN5.out hb (Ne.netBox_lt HN5.out))
  have HR6:=Lib.hid (HR5.out.kept hb)
  clear hb x0 x1 x2 x3 n0 n1 n2 n3
  obtain ⟨n0,n1,n2,n3⟩:=Ne.netBox_cells HN6.out
  go_wp2_with fail
  refine (PK9.out _).mono ?_
  rintro e w' ⟨rfl,rfl⟩
  go_wp2_with fail
  refine (CP.out _ HR6.out).mono ?_
  rintro e v7 ⟨oc,cc,rfl,ho,hb⟩
  have hal:=(Below.refl v7.heap.size v7).alloc (Nat.le_refl _) (.cells #[.int .i64 (N:Int),.int .i64 (S:Int),.int .i64 (D:Int),.slice oc ml.length cc] 24)
  have HBZ:=Lib.hid hb.size
  have HNM:=Lib.hid (Ne.netBox_new v7 (N:Int) (S:Int) (D:Int) (.slice oc ml.length cc))
  have HOM:=Lib.hid (Rw.own_alloc ho (.cells #[.int .i64 (N:Int),.int .i64 (S:Int),.int .i64 (D:Int),.slice oc ml.length cc] 24))
  have HBM:=Lib.hid (hb.trans (hal.mono hb.size))
  have HN7:=Lib.hid (Ne.netBox_below HN6.out HBM.out (Ne.netBox_lt HN6.out))
  clear ho hb hal n0 n1 n2 n3
  obtain ⟨n0,n1,n2,n3⟩:=Ne.netBox_cells HN7.out
  obtain ⟨m0,m1,m2,m3⟩:=Ne.netBox_cells HNM.out
  go_upto_region 9 with fail
  obtain ⟨bm,hbm⟩:∃ b,b=v7.heap.size:=⟨_,rfl⟩
  rw [← hbm] at HBZ HNM m0 m1 m2 m3 ⊢
  generalize (v7.alloc (.cells #[.int .i64 (N:Int),.int .i64 (S:Int),.int .i64 (D:Int),.slice oc ml.length cc] 24))=W7 at *
  clear hbm m0 m1 m2 m3
  obtain ⟨m0,m1,m2,m3⟩:=Ne.netBox_cells HNM.out
  have HL0:=Lib.hid f8'
  have HL1:=Lib.hid (show M1.length≤1000 by have:=HK1.out;have:=HKK.out.1;omega)
  have HL2:=Lib.hid (show M2.length≤1000 by have:=HK2.out;have:=HKK.out.2.1;omega)
  have HNAA:=Lib.hid (Ne.netBox_alloc HNM.out (.cells #[.int .i64 1,.int .i64 1,.int .i64 x] 50))
  have HOAA:=Lib.hid (Rw.own_alloc HOM.out (.cells #[.int .i64 1,.int .i64 1,.int .i64 x] 50))
  have HARA:=Lib.hid (Ne.arow_at1 W7 rfl (⟨1,1,x⟩:Ne.Arc))
  have HLNA:=Lib.hid (show ml.length+([(⟨1,1,x⟩:Ne.Arc)]:List Ne.Arc).length≤1099511627776 by have:=HL0.out;simp;omega)
  have HNEA:=Lib.hid (Ne.own_ne_box HOAA.out HNAA.out)
  have HVBA:=Lib.hid (Rw.own_block HOM.out)
  have HBAA:=Lib.hid (HBM.out.alloc HBM.out.size (.cells #[.int .i64 1,.int .i64 1,.int .i64 x] 50))
  have HZAA:=Lib.hid (show v6.heap.size≤(W7.alloc (.cells #[.int .i64 1,.int .i64 1,.int .i64 x] 50)).heap.size by have:=HBM.out.size;simp;omega)
  go_upto_region 10 with (at_builtin;refine Rw.app Ne.elemA Ne.encA_len Ne.encA_one rfl (.tmp 53) (.tmp 56) rfl v6.heap.size _ ml rfl HOAA.out (some ⟨W7.heap.size,0,none⟩) 1 [(⟨1,1,x⟩:Ne.Arc)] rfl ?hnn HARA.out HLNA.out ?hB ?_;(case hnn=>(intro h;cases h));(case hB=>(exact HZAA.out));intro va wa hown hgr;rw [← HM1.out] at hown;obtain ⟨oA,cA,hva,_⟩:=Rw.own_row Ne.encA_len hown;rw [HK1.out] at hva;subst hva;have HNGA:=Lib.hid (Ne.netBox_grown HNAA.out hgr (fun h=>HNEA.out h.symm));have HOGA:=Lib.hid hown;have HBGA:=Lib.hid (HBAA.out.grown hgr HBAA.out.size (fun b hb=>HVBA.out b hb));have m3:=(Ne.netBox_cells HNGA.out).2.2.2;have mf:=Ne.netBox_frozen HNGA.out 3;clear hown hgr)
  have HNA:=Lib.hid (Ne.netBox_set (v2:=.slice oA k1 cA) HNGA.out)
  have HOA:=Lib.hid (Rw.own_set HOGA.out (p:=⟨bm,3,none⟩) (fun h=>Ne.own_ne_box HOGA.out HNGA.out h) (.slice oA k1 cA))
  have HBA:=Lib.hid (HBGA.out.setCell (p:=⟨bm,3,none⟩) HBZ.out (.slice oA k1 cA))
  generalize (wa.setCell ⟨bm,3,none⟩ (.slice oA k1 cA))=WA at *
  clear m3 mf HNGA HOGA HBGA HNAA HOAA HARA HLNA HNEA HVBA HBAA HZAA n0 n1 n2 n3 m0 m1 m2
  have HNA7:=Lib.hid (Ne.netBox_below HN6.out HBA.out (Ne.netBox_lt HN6.out))
  obtain ⟨n0,n1,n2,n3⟩:=Ne.netBox_cells HNA7.out
  obtain ⟨m0,m1,m2,m3⟩:=Ne.netBox_cells HNA.out
  have HNAB:=Lib.hid (Ne.netBox_alloc HNA.out (.cells #[.int .i64 (N:Int),.int .i64 (S:Int),.int .i64 x] 50))
  have HOAB:=Lib.hid (Rw.own_alloc HOA.out (.cells #[.int .i64 (N:Int),.int .i64 (S:Int),.int .i64 x] 50))
  have HARB:=Lib.hid (Ne.arow_at1 WA rfl (⟨(N:Int),(S:Int),x⟩:Ne.Arc))
  have HLNB:=Lib.hid (show M1.length+([(⟨(N:Int),(S:Int),x⟩:Ne.Arc)]:List Ne.Arc).length≤1099511627776 by have:=HL1.out;simp;omega)
  have HNEB:=Lib.hid (Ne.own_ne_box HOAB.out HNAB.out)
  have HVBB:=Lib.hid (Rw.own_block HOA.out)
  have HBAB:=Lib.hid (HBA.out.alloc HBA.out.size (.cells #[.int .i64 (N:Int),.int .i64 (S:Int),.int .i64 x] 50))
  have HZAB:=Lib.hid (show v6.heap.size≤(WA.alloc (.cells #[.int .i64 (N:Int),.int .i64 (S:Int),.int .i64 x] 50)).heap.size by have:=HBA.out.size;simp;omega)
  go_upto_region 11 with (at_builtin;refine Rw.app Ne.elemA Ne.encA_len Ne.encA_one rfl (.tmp 60) (.tmp 67) rfl v6.heap.size _ M1 rfl HOAB.out (some ⟨WA.heap.size,0,none⟩) 1 [(⟨(N:Int),(S:Int),x⟩:Ne.Arc)] rfl ?hnn HARB.out HLNB.out ?hB ?_;(case hnn=>(intro h;cases h));(case hB=>(exact HZAB.out));intro va wa hown hgr;rw [← HM2.out] at hown;obtain ⟨oB,cB,hva,_⟩:=Rw.own_row Ne.encA_len hown;rw [HK2.out] at hva;subst hva;have HNGB:=Lib.hid (Ne.netBox_grown HNAB.out hgr (fun h=>HNEB.out h.symm));have HOGB:=Lib.hid hown;have HBGB:=Lib.hid (HBAB.out.grown hgr HBAB.out.size (fun b hb=>HVBB.out b hb));have m3:=(Ne.netBox_cells HNGB.out).2.2.2;have mf:=Ne.netBox_frozen HNGB.out 3;clear hown hgr)
  have HNB:=Lib.hid (Ne.netBox_set (v2:=.slice oB k2 cB) HNGB.out)
  have HOB:=Lib.hid (Rw.own_set HOGB.out (p:=⟨bm,3,none⟩) (fun h=>Ne.own_ne_box HOGB.out HNGB.out h) (.slice oB k2 cB))
  have HBB:=Lib.hid (HBGB.out.setCell (p:=⟨bm,3,none⟩) HBZ.out (.slice oB k2 cB))
  generalize (wa.setCell ⟨bm,3,none⟩ (.slice oB k2 cB))=WB at *
  clear m3 mf HNGB HOGB HBGB HNAB HOAB HARB HLNB HNEB HVBB HBAB HZAB n0 n1 n2 n3 m0 m1 m2
  have HNB7:=Lib.hid (Ne.netBox_below HN6.out HBB.out (Ne.netBox_lt HN6.out))
  obtain ⟨n0,n1,n2,n3⟩:=Ne.netBox_cells HNB7.out
  obtain ⟨m0,m1,m2,m3⟩:=Ne.netBox_cells HNB.out
  have HNAC:=Lib.hid (Ne.netBox_alloc HNB.out (.cells #[.int .i64 (D:Int),.int .i64 1,.int .i64 x] 50))
  have HOAC:=Lib.hid (Rw.own_alloc HOB.out (.cells #[.int .i64 (D:Int),.int .i64 1,.int .i64 x] 50))
  have HARC:=Lib.hid (Ne.arow_at1 WB rfl (⟨(D:Int),1,x⟩:Ne.Arc))
  have HLNC:=Lib.hid (show M2.length+([(⟨(D:Int),1,x⟩:Ne.Arc)]:List Ne.Arc).length≤1099511627776 by have:=HL2.out;simp;omega)
  have HNEC:=Lib.hid (Ne.own_ne_box HOAC.out HNAC.out)
  have HVBC:=Lib.hid (Rw.own_block HOB.out)
  have HBAC:=Lib.hid (HBB.out.alloc HBB.out.size (.cells #[.int .i64 (D:Int),.int .i64 1,.int .i64 x] 50))
  have HZAC:=Lib.hid (show v6.heap.size≤(WB.alloc (.cells #[.int .i64 (D:Int),.int .i64 1,.int .i64 x] 50)).heap.size by have:=HBB.out.size;simp;omega)
  go_upto_region 12 with (at_builtin;refine Rw.app Ne.elemA Ne.encA_len Ne.encA_one rfl (.tmp 71) (.tmp 76) rfl v6.heap.size _ M2 rfl HOAC.out (some ⟨WB.heap.size,0,none⟩) 1 [(⟨(D:Int),1,x⟩:Ne.Arc)] rfl ?hnn HARC.out HLNC.out ?hB ?_;(case hnn=>(intro h;cases h));(case hB=>(exact HZAC.out));intro va wa hown hgr;rw [← HM3.out] at hown;obtain ⟨oC,cC,hva,_⟩:=Rw.own_row Ne.encA_len hown;rw [HK3.out] at hva;subst hva;have HNGC:=Lib.hid (Ne.netBox_grown HNAC.out hgr (fun h=>HNEC.out h.symm));have HOGC:=Lib.hid hown;have HBGC:=Lib.hid (HBAC.out.grown hgr HBAC.out.size (fun b hb=>HVBC.out b hb));have m3:=(Ne.netBox_cells HNGC.out).2.2.2;have mf:=Ne.netBox_frozen HNGC.out 3;clear hown hgr)
  have HNC:=Lib.hid (Ne.netBox_set (v2:=.slice oC k3 cC) HNGC.out)
  have HOC:=Lib.hid (Rw.own_set HOGC.out (p:=⟨bm,3,none⟩) (fun h=>Ne.own_ne_box HOGC.out HNGC.out h) (.slice oC k3 cC))
  have HBC:=Lib.hid (HBGC.out.setCell (p:=⟨bm,3,none⟩) HBZ.out (.slice oC k3 cC))
  generalize (wa.setCell ⟨bm,3,none⟩ (.slice oC k3 cC))=WC at *
  clear m3 mf HNGC HOGC HBGC HNAC HOAC HARC HLNC HNEC HVBC HBAC HZAC n0 n1 n2 n3 m0 m1 m2
  have HNC7:=Lib.hid (Ne.netBox_below HN6.out HBC.out (Ne.netBox_lt HN6.out))
  obtain ⟨n0,n1,n2,n3⟩:=Ne.netBox_cells HNC7.out
  obtain ⟨m0,m1,m2,m3⟩:=Ne.netBox_cells HNC.out
  have HB17:=Lib.hid (HB6.out.trans (HBC.out.mono HB6.out.size))
  have HNM17:=HNC
  have HOM17:=HOC
  clear n0 n1 n2 n3 HBA HBB HNA HNB HOA HOB HNN CP HBM HNM HOM
  go_wp2_with fail
  refine (MG.out oC cC _ (Ne.arow_ofA HOM17.out)).mono ?_
  rintro e v18 ⟨ob,cb,sb,rfl,hi,ha1,ha2,ha3,hb⟩
  clear ha1 ha2 ha3
  have hal:=(Below.refl v18.heap.size v18).alloc (Nat.le_refl _) (.cells #[.slice ob k3 cb,.int .i64 (p1:Int),.int .i64 (q1:Int),.int .i64 sb] 28)
  have HXB18:=Lib.hid (Ne.runBox_at v18 rfl (.slice ob k3 cb) (p1:Int) (q1:Int) sb)
  have HIB18:=Lib.hid (hi.kept hal)
  replace hb:=hb.trans (hal.mono hb.size)
  have HB18:=Lib.hid (HB17.out.trans (hb.mono HB17.out.size))
  have HNM18:=Lib.hid (Ne.netBox_below HNM17.out hb (Ne.netBox_lt HNM17.out))
  have HOM18:=Lib.hid (Rw.own_below HOM17.out hb)
  clear hb hi hal m0 m1 m2 m3
  obtain ⟨m0,m1,m2,m3⟩:=Ne.netBox_cells HNM18.out
  obtain ⟨x0,x1,x2,x3⟩:=Ne.runBox_cells HXB18.out
  go_wp2_with fail
  refine (VG1.out oC cC ob cb _ (Ne.arow_ofA HOM18.out) HIB18.out).mono ?_
  rintro e v19 ⟨rfl,hb⟩
  have HB19:=Lib.hid (HB18.out.trans (hb.mono HB18.out.size))
  have HNM19:=Lib.hid (Ne.netBox_below HNM18.out hb (Ne.netBox_lt HNM18.out))
  have HOM19:=Lib.hid (Rw.own_below HOM18.out hb)
  clear hb x0 x1 x2 x3 m0 m1 m2 m3
  obtain ⟨m0,m1,m2,m3⟩:=Ne.netBox_cells HNM19.out
  have hvv:(vg != wg)=false:=by rw [HVW.out];simp
  go_wp2_with fail
  refine (PA.out _).mono ?_
  rintro e w' ⟨rfl,rfl⟩
  obtain ⟨gm,hgm,hgm0,hgm1,hgc,hgf⟩:=Ne.own_cells Ne.encA_len HOM19.out (Ne.at_arc (l:=M3) (i:=i) (by rw [HK3.out];exact HIK.out))
  subst hgm
  have d2:=hgc 2 _ rfl
  have f2:=hgf (i*3+2)
  have hii:(i:Int)<(k3:Int):=by have:=HIK.out;omega
  have hi0:(0:Int)≤(i:Int):=by omega
  have hfc:=FCAP.out i HIK.out
  have hwc:IntKind.i64.wrap ((Ne.arcAt M3 i).cap+x)=(Ne.arcAt M3 i).cap+x:=by rw [IntKind.wrap_i64];omega
  have HOP:=Lib.hid (Ne.own_put Ne.encA_len HOM19.out (Ne.at_arc (l:=M3) (i:=i) (by rw [HK3.out];exact HIK.out)) (y:=⟨(Ne.arcAt M3 i).fr,(Ne.arcAt M3 i).to,(Ne.arcAt M3 i).cap+x⟩) (j:=2) (by omega) (u:=.int .i64 ((Ne.arcAt M3 i).cap+x)) rfl)
  rw [← HM4.out] at HOP
  have HGM:=Lib.hid (show v6.heap.size≤gm∧gm≠bm from ⟨hgm0,fun e=>Ne.own_ne_box HOM19.out HNM19.out (by rw [← e];rfl)⟩)
  generalize (Ne.arcAt M3 i).cap=ci at *
  clear hgc hgf hgm0 hgm1 hfc
  go_wp2
  go_region
  have HB20:=Lib.hid (Ne.below_drew (HB19.out.setCell (p:=⟨gm,i*3+2,none⟩) (show w.heap.size≤gm by have:=HGM.out.1;have:=HB6.out.size;omega) (.int .i64 (ci+x))))
  have HNM20:=Lib.hid (show Ne.NetBox (v19.setCell ⟨gm,i*3+2,none⟩ (.int .i64 (ci+x))).drew bm (N:Int) (S:Int) (D:Int) (.slice (some ⟨gm,0,none⟩) k3 cC) from Ne.netBox_other HNM19.out (fun e=>HGM.out.2 e.symm))
  have HOM20:=Lib.hid (show Ne.OwnA (v19.setCell ⟨gm,i*3+2,none⟩ (.int .i64 (ci+x))).drew v6.heap.size (.slice (some ⟨gm,0,none⟩) k3 cC) M4 from HOP.out)
  generalize (v19.setCell ⟨gm,i*3+2,none⟩ (.int .i64 (ci+x))).drew=WD at *
  clear m0 m1 m2 m3 d2 f2 HOP
  obtain ⟨m0,m1,m2,m3⟩:=Ne.netBox_cells HNM20.out
  go_wp2_with fail
  refine (ML.out (some ⟨gm,0,none⟩) cC _ (Ne.arow_ofA HOM20.out)).mono ?_
  rintro e v21 ⟨od,cd,sd,rfl,hi,ha1,ha2,ha3,hb⟩
  clear ha1 ha2 ha3
  have hal:=(Below.refl v21.heap.size v21).alloc (Nat.le_refl _) (.cells #[.slice od k3 cd,.int .i64 (p4:Int),.int .i64 (q4:Int),.int .i64 sd] 28)
  have HXD21:=Lib.hid (Ne.runBox_at v21 rfl (.slice od k3 cd) (p4:Int) (q4:Int) sd)
  have HID21:=Lib.hid (hi.kept hal)
  replace hb:=hb.trans (hal.mono hb.size)
  have HB21:=Lib.hid (HB20.out.trans (hb.mono HB20.out.size))
  have HNM21:=Lib.hid (Ne.netBox_below HNM20.out hb (Ne.netBox_lt HNM20.out))
  have HOM21:=Lib.hid (Rw.own_below HOM20.out hb)
  clear hb hi hal m0 m1 m2 m3
  obtain ⟨m0,m1,m2,m3⟩:=Ne.netBox_cells HNM21.out
  obtain ⟨x0,x1,x2,x3⟩:=Ne.runBox_cells HXD21.out
  go_wp2_with fail
  refine (VG4.out (some ⟨gm,0,none⟩) cC od cd _ (Ne.arow_ofA HOM21.out) HID21.out).mono ?_
  rintro e v22 ⟨rfl,hb⟩
  have HB22:=Lib.hid (HB21.out.trans (hb.mono HB21.out.size))
  clear hb x0 x1 x2 x3 m0 m1 m2 m3
  have hub:=HUB.out
  have hvb:=HVB.out
  have hvw:=HVW.out
  have hws:IntKind.i64.wrap (vg+x)=vg+x:=by rw [IntKind.wrap_i64];omega
  have h1:decide (vg≤ug)=true:=decide_eq_true (by omega)
  have h2:decide (ug≤vg+x)=true:=decide_eq_true (by omega)
  clear hub hvb hvw
  go_wp2
  go_ret
  exact ⟨rfl,HB22.out⟩

end Go.Proofs.YtmikbkggjlbbnaaGreat.dinicMore
