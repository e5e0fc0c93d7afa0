/- DinicMost: for every input the law returns true and its arguments read as they did. No condition. -/
import Derived.Test.YtmikbkggjlbbnaaGreatBg44
import Derived.Test.YtmikbkggjlbbnaaGreatBg4
import Derived.Test.YtmikbkggjlbbnaaGreatBg5
import Derived.Deep.LoopGhost
import Derived.Deep.DeepCutAuto
import Derived.RegionTactic
import Derived.BigRegion
import Derived.Test.YtmikbkggjlbbnaaGreatBg30
import Derived.Test.YtmikbkggjlbbnaaGreatRows
import Derived.WalkKit
import Derived.ProofKit
import Derived.OpenShut
import Derived.ShutString
import Derived.ChangeOld
import Derived.Below
import Derived.Deep.Strs
namespace Go.Proofs.YtmikbkggjlbbnaaGreat.dinicMost
open Go.ChangeShapes Go.WideShapes Go.ChangeAt Go.RowKit
open Go.ChangeMaps (open_string shut_string)
set_option linter.unusedVariables false
set_option linter.unusedSimpArgs false

theorem own : ownKnob Tryz.prog.godebug = none := by kernel_rfl
theorem laidOut : laidOutB Tryz.prog = true := by kernel_rfl

def IntsIn (k : IntKind) (w : World) (a : Option Addr) (len cap : Nat) (zs : List Int) : Prop :=
  (a = none ∧ len = 0 ∧ cap = 0 ∧ zs = []) ∨
  ∃ x, a = some x ∧ len ≤ cap ∧ cap ≤ maxLen ∧ zs.length = cap ∧ (∀ i, i < zs.length → w.cell? (x.add i) = some (.int k (zs.getD i 0))) ∧ ∀ n ∈ zs, (Lit.int k n).wf = true



set_option maxRecDepth 100000 in
set_option maxHeartbeats 4000000 in
theorem walk (a0 : Int) (a1 : Int) (a2 : List Ne.Arc) (o2 : Option Addr) (c2 : Nat) (a3 : Option Addr) (len3 cap3 : Nat) (l3 : List Int) (a4 : Bool) (w : World) (w0 : (Lit.int .i64 a0).wf = true) (w1 : (Lit.int .i64 a1).wf = true) (k2 : ∀ a ∈ a2, Ne.Arc.ok a) (z2 : a2.length ≤ c2) (y2 : c2 ≤ maxLen) (n2 : o2 = none → c2 = 0) (r2 : Ne.ARow w o2 a2) (w3 : IntsIn .i64 w a3 len3 cap3 l3) :
    Calls Tryz.prog 4 #[.int .i64 a0, .int .i64 a1, .slice o2 a2.length c2, .slice a3 len3 cap3, .bool a4] w fun e w' => e = .returned (.bool true) ∧ Below w.heap.size w w' := by
  have HSH:=Lib.hid (Ne.shown_any w)
  obtain ⟨mn,hmn⟩:∃ x,x=(Ne.madeN a0 a1 a2).n:=⟨_,rfl⟩
  obtain ⟨ms,hms⟩:∃ x,x=(Ne.madeN a0 a1 a2).s:=⟨_,rfl⟩
  obtain ⟨mt,hmt⟩:∃ x,x=(Ne.madeN a0 a1 a2).t:=⟨_,rfl⟩
  obtain ⟨ml,hml⟩:∃ x,x=(Ne.madeN a0 a1 a2).l:=⟨_,rfl⟩
  have em:Ne.madeN a0 a1 a2=⟨mn,ms,mt,ml⟩:=by rw [hmn,hms,hmt,hml]
  obtain ⟨f1,f2,f3,f4,f5,f6,f7,f8,f9⟩:=Ne.madeN_fine (nodes:=a0) (ends:=a1) k2
  have ck:=Ne.made_check (nodes:=a0) (ends:=a1) k2
  have MD:=Lib.hid fun w' (h:Ne.ARow w' o2 a2)=>Ne.made_s a0 a1 a2 o2 c2 w' (bounds_i64 w0) (bounds_i64 w1) k2 h
  rw [em] at MD f1 f2 f3 f4 f5 f6 f7 f8 f9 ck
  simp only at f1 f2 f3 f4 f5 f6 f7 f8 f9
  clear hmn hms hmt hml em
  have f8':ml.length≤24:=by omega
  clear f8
  have CK:=Lib.hid ck
  have RT:=Lib.hid (Ne.right_of ck)
  have FI:=Lib.hid f9
  have CAP:=Lib.hid (show ∀ a∈ml,Ne.in64 a.cap from fun a ha=>by have:=(f9 a ha).2.2;unfold Ne.in64;omega)
  have hl6:ml.length≤1000000:=by omega
  have F7:=Lib.hid f7
  have RA:=Lib.hid r2
  clear r2 f7 f9 ck
  obtain ⟨N,rfl⟩:∃ N:Nat,mn=(N:Int):=⟨mn.toNat,by omega⟩
  obtain ⟨S,rfl⟩:∃ S:Nat,ms=(S:Int):=⟨ms.toNat,by omega⟩
  obtain ⟨D,rfl⟩:∃ D:Nat,mt=(D:Int):=⟨mt.toNat,by omega⟩
  obtain ⟨ks,hk3,hq3,bq3,_,_,_⟩:=Ne.ints_row w3
  subst hk3
  clear w3
  have BK3:=Lib.hid bq3
  have KR3:=Lib.hid hq3
  clear bq3 hq3
  obtain ⟨g,L,p,k,hph,hfg,hlg,hdg,htg,hpn,hpk⟩:=Ne.max_facts RT.out
  have MX:=Lib.hid fun (q:Bool) (ao:Option Addr) (cap:Nat) w' (h1:Ne.ARow w' ao (⟨(N:Int),(S:Int),(D:Int),ml⟩:Ne.Net).l)=>Ne.max_flow (n:=⟨(N:Int),(S:Int),(D:Int),ml⟩) ao cap w' CK.out h1 hph q
  have FG:=Lib.hid hfg
  have LG:=Lib.hid hlg
  have DG:=Lib.hid hdg
  have TG:=Lib.hid htg
  have PH:=Lib.hid hph
  have PK:=Lib.hid (And.intro hpn hpk)
  clear hph hfg hlg hdg htg hpn hpk
  have PKK:=Lib.hid (show p<N∧p≤k from ⟨by have:=PK.out.1;simp only at this;omega,PK.out.2⟩)
  have HN9:N≤9:=by omega
  cases a4
  case' false=>have MQ:=Lib.hid fun ao cap w' h1=>MX.out false ao cap w' h1
  case' true=>have MQ:=Lib.hid fun ao cap w' h1=>MX.out true ao cap w' h1
  all_goals
   simp only [Ne.engC,Bool.false_eq_true,if_false,if_true] at MQ
   clear MX
   go_enter Tryz.func4,Tryz.ntmps4
   go_wp2_with fail
   refine HSH.out.mono ?_
   rintro e w1 ⟨rfl,hb⟩
   have HB1:=Lib.hid hb
   clear hb
   go_wp2_with fail
   refine (MD.out _ (RA.out.kept HB1.out)).mono ?_
   rintro e w2 ⟨om,cm,rfl,ho,hb⟩
   have HB2:=Lib.hid (HB1.out.trans (hb.mono HB1.out.size))
   have HV2:=Lib.hid (Rw.own_lt ho)
   have HO3:=Lib.hid (Rw.own_base (Rw.own_alloc ho (.cells #[.int .i64 (N:Int),.int .i64 (S:Int),.int .i64 (D:Int),.slice om ml.length cm] 24)) (B':=w.heap.size) HB1.out.size)
   have HN3:=Lib.hid (Ne.netBox_new w2 (N:Int) (S:Int) (D:Int) (.slice om ml.length cm))
   have hz2:w.heap.size≤w2.heap.size:=HB2.out.size
   have HB3:=Lib.hid (HB2.out.alloc hz2 (.cells #[.int .i64 (N:Int),.int .i64 (S:Int),.int .i64 (D:Int),.slice om ml.length cm] 24))
   clear ho hb MD RA HSH
   go_wp2_with fail
   obtain ⟨bn,hbn⟩:∃ b,b=w2.heap.size:=⟨_,rfl⟩
   have hbn3:bn<(w2.alloc (.cells #[.int .i64 (N:Int),.int .i64 (S:Int),.int .i64 (D:Int),.slice om ml.length cm] 24)).heap.size:=by rw [hbn];simp
   rw [← hbn] at HN3 HV2 hz2 ⊢
   clear hbn HB2 HB1
   generalize (w2.alloc (.cells #[.int .i64 (N:Int),.int .i64 (S:Int),.int .i64 (D:Int),.slice om ml.length cm] 24))=W3 at *
   have HR3:=Lib.hid (Ne.arow_ofA HO3.out)
   obtain ⟨f,hf⟩:∃ x,x=Ne.routeN ⟨(N:Int),(S:Int),(D:Int),ml⟩ ks:=⟨_,rfl⟩
   have FL:=Lib.hid (show Ne.Flow ⟨(N:Int),(S:Int),(D:Int),ml⟩ f by rw [hf];exact Ne.route_flow RT.out _)
   have RD:=Lib.hid fun w' h1 h2=>Ne.routed_any ⟨(N:Int),(S:Int),(D:Int),ml⟩ om cm a3 cap3 ks w' h1 h2 CK.out BK3.out
   rw [← hf] at RD
   have VG:=Lib.hid fun fo fc w' h1 h2=>Ne.val_flow (n:=⟨(N:Int),(S:Int),(D:Int),ml⟩) (f:=g) om cm fo fc w' CK.out h1 h2 FG.out
   have VF:=Lib.hid fun fo fc w' h1 h2=>Ne.val_flow (n:=⟨(N:Int),(S:Int),(D:Int),ml⟩) (f:=f) om cm fo fc w' CK.out h1 h2 FL.out
   have RE:=Lib.hid fun fo fc w' h1 h2=>Ne.reach_flow (n:=⟨(N:Int),(S:Int),(D:Int),ml⟩) (f:=g) om cm fo fc w' CK.out h1 h2 FG.out 1 (by omega)
   have HWV:=Lib.hid (show Ne.exc ml f (D:Int)≤Ne.exc ml g (D:Int) from TG.out.ge RT.out FL.out)
   have RTP:=Lib.hid fun M (h:Ne.IsReach ⟨(N:Int),(S:Int),(D:Int),ml⟩ g 1 M)=>Ne.reach_top RT.out FG.out LG.out DG.out h
   have HRL:=Lib.hid fun M (h:Ne.IsReach ⟨(N:Int),(S:Int),(D:Int),ml⟩ g 1 M)=>h.len
   simp only [Int.toNat_natCast] at RE RTP HRL
   generalize Ne.exc ml g (D:Int)=vg at *
   generalize Ne.exc ml f (D:Int)=vf at *
   obtain ⟨n0,n1,n2,n3⟩:=Ne.netBox_cells HN3.out
   refine (MQ.out om cm _ HR3.out).mono ?_
   rintro e w4 ⟨o4,c4,st,rfl,hi,hq1,hq2,hq3,hb⟩
   clear hq1 hq2 hq3
   have HB4:=Lib.hid (HB3.out.trans (hb.mono HB3.out.size))
   have HN4:=Lib.hid (Ne.netBox_below HN3.out hb (Ne.netBox_lt HN3.out))
   have hal:=(Below.refl w4.heap.size w4).alloc (Nat.le_refl _) (.cells #[.slice o4 ml.length c4,.int .i64 (p:Int),.int .i64 (k:Int),.int .i64 st] 28)
   have HX5:=Lib.hid (Ne.runBox_at w4 rfl (.slice o4 ml.length c4) (p:Int) (k:Int) st)
   have HB5:=Lib.hid (HB4.out.trans (hal.mono HB4.out.size))
   have HN5:=Lib.hid (Ne.netBox_below HN4.out hal (Ne.netBox_lt HN4.out))
   have HR5:=Lib.hid (HR3.out.kept (hb.trans (hal.mono hb.size)))
   have HI5:=Lib.hid (hi.kept hal)
   have VC:=Lib.hid (VG.out o4 c4 _ HR5.out HI5.out)
   clear hb hi n0 n1 n2 n3 hal
   obtain ⟨n0,n1,n2,n3⟩:=Ne.netBox_cells HN5.out
   obtain ⟨x0,x1,x2,x3⟩:=Ne.runBox_cells HX5.out
   go_wp2_with fail
   refine VC.out.mono ?_
   rintro e w6 ⟨rfl,hb⟩
   have HB6:=Lib.hid (HB5.out.trans (hb.mono HB5.out.size))
   have HN6:=Lib.hid (Ne.netBox_below HN5.out hb (Ne.netBox_lt HN5.out))
   have HR6:=Lib.hid (HR5.out.kept hb)
   have HI6:=Lib.hid (HI5.out.kept hb)
   have HX6:=Lib.hid (Ne.runBox_below HX5.out hb (Ne.runBox_lt HX5.out))
   have HR6D:=Lib.hid (show Ne.ARow w6.drew om ml from HR6.out.kept (Ne.below_drew (Below.refl _ _)))
   have HB6D:=Lib.hid (Ne.below_drew HB6.out)
   clear hb n0 n1 n2 n3 x0 x1 x2 x3
   obtain ⟨n0,n1,n2,n3⟩:=Ne.netBox_cells HN6.out
   go_upto_region 10 with fail
   go_cut [18,19] (fun s18 s19 wc=>s18=.int .i64 vf∧s19=.int .i64 0∧Hid (Below w6.heap.size w6 wc))
   case first =>
    go_region_with (first
     | (go_at_call 17;refine (RD.out _ HR6D.out (KR3.out.kept HB6D.out)).mono ?_;rintro e w7 ⟨fb,rfl,hfb,hl,hb⟩;have HB7:=Lib.hid ((Ne.below_drew (Below.refl w6.heap.size w6)).trans (hb.mono (Nat.le_refl _)));have HL7:=Lib.hid hl.irow;obtain ⟨q0,q1,q2,q3⟩:=Ne.netBox_cells (Ne.netBox_below HN6.out HB7.out (Ne.netBox_lt HN6.out));clear hb hl)
     | (go_at_call 16;refine (VF.out (some ⟨fb,0,none⟩) ml.length w7 (HR6.out.kept HB7.out) HL7.out).mono ?_;rintro e w8 ⟨rfl,hb⟩;have HB8:=Lib.hid (HB7.out.trans (hb.mono HB7.out.size));clear hb))
    all_goals
     go_wp2_with fail
     go_meet
     case rel=>exact ⟨rfl,rfl,HB8⟩
   case rest =>
    obtain ⟨rfl,rfl,HBC⟩:=hcut
    have HNC:=Lib.hid (Ne.netBox_below HN6.out HBC.out (Ne.netBox_lt HN6.out))
    have HXC:=Lib.hid (Ne.runBox_below HX6.out HBC.out (Ne.runBox_lt HX6.out))
    have RC:=Lib.hid (RE.out o4 c4 wc (HR6.out.kept HBC.out) (HI6.out.kept HBC.out))
    have HBE:=Lib.hid (HB6.out.trans (HBC.out.mono HB6.out.size))
    clear n0 n1 n2 n3
    obtain ⟨n0,n1,n2,n3⟩:=Ne.netBox_cells HNC.out
    obtain ⟨x0,x1,x2,x3⟩:=Ne.runBox_cells HXC.out
    go_wp2_with fail
    refine RC.out.mono ?_
    rintro e w8 ⟨bm,cM,M,rfl,hM,hbx,hb⟩
    have HN8:=Lib.hid (Ne.netBox_below HNC.out hb (Ne.netBox_lt HNC.out))
    have HX8:=Lib.hid (Ne.runBox_below HXC.out hb (Ne.runBox_lt HXC.out))
    have HR8:=Lib.hid ((HR6.out.kept HBC.out).kept hb)
    have HB8:=Lib.hid (HBE.out.trans (hb.mono HBE.out.size))
    have HM8:=Lib.hid hbx
    have HML:=Lib.hid (HRL.out M hM)
    obtain ⟨ht,hs,hv⟩:=RTP.out M hM
    have HV:=Lib.hid hv
    have hDM:D<M.length:=by have:=HML.out;omega
    have hSM:S<M.length:=by have:=HML.out;omega
    have mD:=HM8.out.cell hDM
    have mS:=HM8.out.cell hSM
    rw [ht] at mD
    rw [hs] at mS
    have hDi:(D:Int)<(N:Int)+1:=by omega
    have hSi:(S:Int)<(N:Int)+1:=by omega
    have hD0:(0:Int)≤(D:Int):=by omega
    have hS0:(0:Int)≤(S:Int):=by omega
    have CPB:=Lib.hid (Ne.capP_bd (K:=1000000) (fun a ha=>(FI.out a ha).2.2) (by omega) (fun v:Int=>!(M.getD v.toNat false)))
    have CPT:=Lib.hid (fun j (h:j<ml.length)=>Ne.capP_take ml (fun v:Int=>!(M.getD v.toNat false)) h)
    have CP0:=Lib.hid (show Ne.capP (ml.take 0) (fun v:Int=>!(M.getD v.toNat false))=0 from rfl)
    have CPE:=Lib.hid (show Ne.capP (ml.take ml.length) (fun v:Int=>!(M.getD v.toNat false))=vg by rw [List.take_length];exact hv.symm)
    have CTM:=Lib.hid (Ne.capT_met M)
    have ARS:=Lib.hid (fun j (h:j<ml.length)=>Ne.arc_says FI.out h)
    clear hb hM hbx ht hs hv n0 n1 n2 n3 x0 x1 x2 x3 HV
    obtain ⟨n0,n1,n2,n3⟩:=Ne.netBox_cells HN8.out
    generalize (fun v:Int=>!(M.getD v.toNat false))=PF at *
    go_wp2
    go_loopg [22,23,24] ml.length (fun gg s22 s23 s24 wr=>(∃ z,s24=z)∧∃ j:Nat,s22=.int .i64 (Ne.capP (ml.take j) PF)∧s23=.int .i64 (j:Int)∧j+gg=ml.length∧Hid (Below w8.heap.size w8 wr))
    case atStart=>exact ⟨⟨_,rfl⟩,0,by rw [CP0.out],rfl,by omega,Lib.hid (Below.refl _ _)⟩
    case round =>
     obtain ⟨⟨z24,rfl⟩,j,rfl,rfl,hjg,HBW⟩:=hrel
     have HNW:=Lib.hid (Ne.netBox_below HN8.out HBW.out (Ne.netBox_lt HN8.out))
     have HXW:=Lib.hid (Ne.runBox_below HX8.out HBW.out (Ne.runBox_lt HX8.out))
     have HRW:=Lib.hid (HR8.out.kept HBW.out)
     have HMW:=Lib.hid (HM8.out.kept HBW.out)
     clear n0 n1 n2 n3 mD mS
     obtain ⟨n0,n1,n2,n3⟩:=Ne.netBox_cells HNW.out
     have hcb:=CPB.out j
     by_cases hlt:j<ml.length
     ·have hji:(j:Int)<(ml.length:Int):=by omega
      have hj0:(0:Int)≤(j:Int):=by omega
      have hw1:IntKind.i64.wrap ((j:Int)+1)=((j+1:Nat):Int):=by rw [IntKind.wrap_i64];omega
      obtain ⟨u,v,ca,ea,hu,hv,hca0,hca1⟩:=ARS.out j hlt
      obtain ⟨ab,ao,e9,hab,d0,d1,d2⟩:=Ne.arow_cell HRW.out hlt
      subst e9
      rw [ea] at d0 d1 d2
      simp only at d0 d1 d2
      have hu1:u<M.length:=by have:=HML.out;omega
      have hv1:v<M.length:=by have:=HML.out;omega
      have mu:=HMW.out.cell hu1
      have mv:=HMW.out.cell hv1
      have hui:(u:Int)<(N:Int)+1:=by omega
      have hvi:(v:Int)<(N:Int)+1:=by omega
      have hu0:(0:Int)≤(u:Int):=by omega
      have hv0:(0:Int)≤(v:Int):=by omega
      have HCT:=Lib.hid (show Ne.capP (ml.take (j+1)) PF=Ne.capP (ml.take j) PF+if M.getD u false=true∧M.getD v false=false then ca else 0 by rw [CPT.out j hlt,ea,CTM.out])
      have hws:IntKind.i64.wrap (Ne.capP (ml.take j) PF+ca)=Ne.capP (ml.take j) PF+ca:=by rw [IntKind.wrap_i64];omega
      have HAL:=Lib.hid ((Below.refl wr.heap.size wr).alloc (Nat.le_refl _) (.cells #[.int .i64 (u:Int),.int .i64 (v:Int),.int .i64 ca] 50))
      have HBN:=Lib.hid (HBW.out.trans (HAL.out.mono HBW.out.size))
      replace mu:=(HAL.out.cell (p:=⟨bm,u,none⟩) HMW.out.lt).trans mu
      replace mv:=(HAL.out.cell (p:=⟨bm,v,none⟩) HMW.out.lt).trans mv
      have HJJ:=Lib.hid hjg
      clear ea hu hv hca0 hca1 hab hu1 hv1 hjg hcb
      generalize M.getD u false=bu at *
      generalize M.getD v false=bv at *
      generalize hcj:Ne.capP (ml.take j) PF=cj at *
      clear hcj
      cases bu
      ·have HC2:=Lib.hid (show cj=Ne.capP (ml.take (j+1)) PF by rw [HCT.out];simp)
       clear HCT hws
       go_wp2
       go_roundg (ml.length-(j+1))
       case measure=>have:=HJJ.out;omega
       case rel=>exact ⟨⟨_,rfl⟩,j+1,by rw [HC2.out],rfl,by omega,HBN⟩
      ·cases bv
       ·have HC2:=Lib.hid (show cj+ca=Ne.capP (ml.take (j+1)) PF by rw [HCT.out];simp)
        clear HCT
        go_wp2
        go_roundg (ml.length-(j+1))
        case measure=>have:=HJJ.out;omega
        case rel=>exact ⟨⟨_,rfl⟩,j+1,by rw [HC2.out],rfl,by omega,HBN⟩
       ·have HC2:=Lib.hid (show cj=Ne.capP (ml.take (j+1)) PF by rw [HCT.out];simp)
        clear HCT hws
        go_wp2
        go_roundg (ml.length-(j+1))
        case measure=>have:=HJJ.out;omega
        case rel=>exact ⟨⟨_,rfl⟩,j+1,by rw [HC2.out],rfl,by omega,HBN⟩
     ·obtain rfl:j=ml.length:=by omega
      rw [CPE.out]
      obtain ⟨x0,x1,x2,x3⟩:=Ne.runBox_cells HXW.out
      have HWW:=Lib.hid (HB8.out.trans (HBW.out.mono HB8.out.size))
      have hvv:(vg == vg)=true:=by simp
      have hle:decide (vf≤vg)=true:=by simpa using HWV.out
      have hpn:decide ((p:Int)<(N:Int))=true:=by simpa using PKK.out.1
      have hpn':decide (p<N)=true:=by simpa using PKK.out.1
      have hpk:decide ((p:Int)≤(k:Int))=true:=by simpa using PKK.out.2
      have hpk':decide (p≤k)=true:=by simpa using PKK.out.2
      clear hcb hjg
      go_wp2
      go_ret
      exact ⟨rfl,HWW.out⟩

end Go.Proofs.YtmikbkggjlbbnaaGreat.dinicMost
