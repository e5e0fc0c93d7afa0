/- DinicTells: for every input the law returns true and its arguments read as they did. No condition. -/
import Derived.Test.YtmikbkggjlbbnaaGreatBz40
import Derived.Test.YtmikbkggjlbbnaaGreatBz45
import Derived.Test.YtmikbkggjlbbnaaGreatBz46
import Derived.RegionTactic
import Derived.BigRegion
import Derived.Test.YtmikbkggjlbbnaaGreatRows
import Derived.WalkKit
import Derived.ProofKit
import Derived.OpenShut
import Derived.ShutString
import Derived.ChangeOld
import Derived.Below
import Derived.Deep.Strs
namespace Go.Proofs.YtmikbkggjlbbnaaGreat.dinicTells
open Go.ChangeShapes Go.WideShapes Go.ChangeAt Go.RowKit
open Go.ChangeMaps (open_string shut_string)
set_option linter.unusedVariables false
set_option linter.unusedSimpArgs false

theorem own : ownKnob Tryz.prog.godebug = none := by kernel_rfl
theorem laidOut : laidOutB Tryz.prog = true := by kernel_rfl

def IntsIn (k : IntKind) (w : World) (a : Option Addr) (len cap : Nat) (zs : List Int) : Prop :=
  (a = none ∧ len = 0 ∧ cap = 0 ∧ zs = []) ∨
  ∃ x, a = some x ∧ len ≤ cap ∧ cap ≤ maxLen ∧ zs.length = cap ∧ (∀ i, i < zs.length → w.cell? (x.add i) = some (.int k (zs.getD i 0))) ∧ ∀ n ∈ zs, (Lit.int k n).wf = true

/-- all that a network and amounts answer: phases -/
theorem tells_exist (n : Ne.Net) (f : List Int) (x a : Int) (hl : n.l.length ≤ 1000) : ∃ (h : List Int) (p k : Nat), (Ne.reE n f x = 0 → Ne.Phs n x f h p k) ∧ (Ne.rnG n f x a h).length ≤ 1000 := by
  by_cases c : Ne.reE n f x = 0
  · obtain ⟨hck, hx⟩ := Ne.reE_ok c
    obtain ⟨ck, hF⟩ := Ne.okf_of hck
    have hR := Ne.right_of ck
    obtain ⟨h, p, k, P⟩ := Ne.phs_exists hR hx hF
    refine ⟨h, p, k, fun _ => P, ?_⟩
    unfold Ne.rnG
    split
    · simp
    · rw [(Ne.phs_okf hR hx P hF).1.len]; exact hl
  · refine ⟨[], 0, 0, fun h => absurd h c, ?_⟩
    unfold Ne.rnG; split <;> simp

set_option maxRecDepth 100000 in
set_option maxHeartbeats 4000000 in
theorem walk (a0 : Ne.Net) (o0 : Option Addr) (c0 : Nat) (a1 : Option Addr) (len1 cap1 : Nat) (l1 : List Int) (a2 : Int) (a3 : Int) (w : World) (k0 : a0.ok) (z0 : a0.l.length ≤ c0) (y0 : c0 ≤ maxLen) (n0 : o0 = none → c0 = 0) (r0 : Ne.ARow w o0 a0.l) (w1 : IntsIn .i64 w a1 len1 cap1 l1) (w2 : (Lit.int .i64 a2).wf = true) (w3 : (Lit.int .u8 a3).wf = true) :
    Calls Tryz.prog 3 #[Ne.encN a0 o0 c0, .slice a1 len1 cap1, .int .i64 a2, .int .u8 a3] w fun e w' => e = .returned (.bool true) ∧ Below w.heap.size w w' := by
  obtain ⟨an,as_,at_,al⟩:=a0
  simp only [Ne.Net.ok] at k0 z0 r0
  obtain ⟨_,_,_,ka⟩:=k0
  obtain ⟨f,hfl,hf,_,hfc,hfm,hfn⟩:=Ne.ints_row w1
  subst hfl
  clear w1
  have HSH:=Lib.hid (Ne.shown_any (w.alloc (.cells #[.int .i64 an,.int .i64 as_,.int .i64 at_,.slice o0 al.length c0] 24)))
  have HB0:=Lib.hid (show Below w.heap.size w (w.alloc (.cells #[.int .i64 an,.int .i64 as_,.int .i64 at_,.slice o0 al.length c0] 24)) from (Below.refl _ _).alloc (Nat.le_refl _) _)
  have HN0:=Lib.hid (Ne.netBox_new w an as_ at_ (.slice o0 al.length c0))
  have HR0:=Lib.hid (r0.kept HB0.out)
  have HF0:=Lib.hid (hf.kept HB0.out)
  clear r0 hf
  by_cases g1:60<al.length
  ·have g1':(60:Int)<(al.length:Int):=by omega
   go_enter Tryz.func3,Tryz.ntmps3
   go_wp2_with fail
   refine HSH.out.mono ?_
   rintro e w1 ⟨rfl,hb⟩
   obtain ⟨n0,n1,n2,n3⟩:=Ne.netBox_cells (Ne.netBox_below HN0.out hb (by simp))
   have HB1:=Lib.hid (HB0.out.trans (hb.mono (by simp)))
   clear hb
   go_wp2
   go_ret
   exact ⟨rfl,HB1.out⟩
  have g1':¬ (60:Int)<(al.length:Int):=by omega
  by_cases g2:30<an
  ·skip
   go_enter Tryz.func3,Tryz.ntmps3
   go_wp2_with fail
   refine HSH.out.mono ?_
   rintro e w1 ⟨rfl,hb⟩
   obtain ⟨n0,n1,n2,n3⟩:=Ne.netBox_cells (Ne.netBox_below HN0.out hb (by simp))
   have HB1:=Lib.hid (HB0.out.trans (hb.mono (by simp)))
   clear hb
   go_wp2
   go_ret
   exact ⟨rfl,HB1.out⟩
  have la:al.length≤1000000:=by omega
  have kc:∀ a∈al,Ne.in64 a.cap:=fun a ha=>(ka a ha).2.2
  obtain ⟨h,p,k,hP,hG⟩:=tells_exist ⟨an,as_,at_,al⟩ f a2 a3 (by simp only;omega)
  obtain ⟨h2,p2,k2,hP2,hG2⟩:=tells_exist ⟨an,as_,at_,al⟩ (List.replicate al.length 0) 1 a3 (by simp only;omega)
  have DF:=Lib.hid fun w' h1 h2=>Ne.from_any ⟨an,as_,at_,al⟩ o0 c0 a1 cap1 f h a2 a3 p k w' h1 h2 la kc hP
  have RF:=Lib.hid fun w' h1 h2=>Ne.rfrom_any ⟨an,as_,at_,al⟩ o0 c0 a1 cap1 f h a2 a3 p k w' h1 h2 hfn la hP
  have DM:=Lib.hid fun w' h1=>Ne.max_any ⟨an,as_,at_,al⟩ o0 c0 h2 a3 p2 k2 w' h1 la kc hP2
  have RM:=Lib.hid fun w' h1=>Ne.rmax_any ⟨an,as_,at_,al⟩ o0 c0 h2 a3 p2 k2 w' h1 la hP2
  have HST:=Lib.hid fun st (h:Ne.StP ⟨an,as_,at_,al⟩ f a2 a3 p st)=>h.1
  have HST2:=Lib.hid fun st (h:Ne.StP ⟨an,as_,at_,al⟩ (List.replicate al.length 0) 1 a3 p2 st)=>h.1
  have HG:=Lib.hid (And.intro hG hG2)
  simp only at DM RM
  clear hP hP2 ka kc hfc hfm hfn hG hG2
  generalize Ne.StP ⟨an,as_,at_,al⟩ f a2 a3 p=SP at *
  generalize Ne.StP ⟨an,as_,at_,al⟩ (List.replicate al.length 0) 1 a3 p2=SQ at *
  generalize Ne.rnG ⟨an,as_,at_,al⟩ f a2 a3 h=GF at *
  generalize Ne.rnN ⟨an,as_,at_,al⟩ f a2 a3 p=PF at *
  generalize Ne.rnN ⟨an,as_,at_,al⟩ f a2 a3 k=KF at *
  generalize Ne.rnE ⟨an,as_,at_,al⟩ f a2 a3=EF at *
  generalize Ne.rnG ⟨an,as_,at_,al⟩ (List.replicate al.length 0) 1 a3 h2=GM at *
  generalize Ne.rnN ⟨an,as_,at_,al⟩ (List.replicate al.length 0) 1 a3 p2=PM at *
  generalize Ne.rnN ⟨an,as_,at_,al⟩ (List.replicate al.length 0) 1 a3 k2=KM at *
  generalize Ne.rnE ⟨an,as_,at_,al⟩ (List.replicate al.length 0) 1 a3=EM at *
  have SMF:=Lib.hid fun o1 o2 c1 c2 st w' h1 h2=>Ne.same_run GF o1 o2 c1 c2 PF KF st w' h1 h2 (by have:=HG.out;omega)
  have SMM:=Lib.hid fun o1 o2 c1 c2 st w' h1 h2=>Ne.same_run GM o1 o2 c1 c2 PM KM st w' h1 h2 (by have:=HG.out;omega)
  obtain ⟨fl,hfl⟩:∃ x,x=f.length:=⟨_,rfl⟩
  rw [← hfl]
  simp only [← hfl] at DF RF
  clear hfl
  go_enter Tryz.func3,Tryz.ntmps3
  go_wp2_with fail
  refine HSH.out.mono ?_
  rintro e w1 ⟨rfl,hb⟩
  generalize (w.alloc (.cells #[.int .i64 an,.int .i64 as_,.int .i64 at_,.slice o0 al.length c0] 24))=WB at *
  have hw0:=Ne.netBox_lt HN0.out
  have HB1:=Lib.hid hb
  clear hb
  obtain ⟨n0,n1,n2,n3⟩:=Ne.netBox_cells (Ne.netBox_below HN0.out HB1.out hw0)
  go_wp2_with fail
  refine (DF.out _ (HR0.out.kept HB1.out) (HF0.out.kept HB1.out)).mono ?_
  rintro e v2 ⟨oa,ca,sa,rfl,hi,hst,hb⟩
  have HSA:=Lib.hid (HST.out _ hst)
  clear hst
  have hal:=(Below.refl v2.heap.size v2).alloc (Nat.le_refl _) (.cells #[.slice oa GF.length ca,.int .i64 PF,.int .i64 KF,.int .i64 sa] 28)
  have HXA2:=Lib.hid (Ne.runBox_at v2 rfl (.slice oa GF.length ca) PF KF sa)
  have HIA2:=Lib.hid ((Ne.own_irow hi).kept hal)
  replace hb:=hb.trans (hal.mono hb.size)
  have HB2:=Lib.hid (HB1.out.trans (hb.mono HB1.out.size))
  clear hb hi hal n0 n1 n2 n3
  obtain ⟨n0,n1,n2,n3⟩:=Ne.netBox_cells (Ne.netBox_below HN0.out HB2.out hw0)
  go_wp2_with fail
  refine (RF.out _ (HR0.out.kept HB2.out) (HF0.out.kept HB2.out)).mono ?_
  rintro e v3 ⟨ob,cb,rfl,hi,hb⟩
  have hal:=(Below.refl v3.heap.size v3).alloc (Nat.le_refl _) (.cells #[.slice ob GF.length cb,.int .i64 PF,.int .i64 KF] 33)
  have HXB3:=Lib.hid (Ne.rrBox_at v3 rfl (.slice ob GF.length cb) PF KF)
  have HIB3:=Lib.hid ((Ne.own_irow hi).kept hal)
  replace hb:=hb.trans (hal.mono hb.size)
  have HB3:=Lib.hid (HB2.out.trans (hb.mono HB2.out.size))
  have HIA3:=Lib.hid (HIA2.out.kept hb)
  have HXA3:=Lib.hid (Ne.runBox_below HXA2.out hb (Ne.runBox_lt HXA2.out))
  clear hb hi hal n0 n1 n2 n3
  obtain ⟨n0,n1,n2,n3⟩:=Ne.netBox_cells (Ne.netBox_below HN0.out HB3.out hw0)
  go_wp2_with fail
  refine (DM.out _ (HR0.out.kept HB3.out)).mono ?_
  rintro e v4 ⟨oc,cc,sc,rfl,hi,hst,hb⟩
  have HSC:=Lib.hid (HST2.out _ hst)
  clear hst
  have hal:=(Below.refl v4.heap.size v4).alloc (Nat.le_refl _) (.cells #[.slice oc GM.length cc,.int .i64 PM,.int .i64 KM,.int .i64 sc] 28)
  have HXC4:=Lib.hid (Ne.runBox_at v4 rfl (.slice oc GM.length cc) PM KM sc)
  have HIC4:=Lib.hid ((Ne.own_irow hi).kept hal)
  replace hb:=hb.trans (hal.mono hb.size)
  have HB4:=Lib.hid (HB3.out.trans (hb.mono HB3.out.size))
  have HIA4:=Lib.hid (HIA3.out.kept hb)
  have HIB4:=Lib.hid (HIB3.out.kept hb)
  have HXA4:=Lib.hid (Ne.runBox_below HXA3.out hb (Ne.runBox_lt HXA3.out))
  have HXB4:=Lib.hid (Ne.rrBox_below HXB3.out hb (Ne.rrBox_lt HXB3.out))
  clear hb hi hal n0 n1 n2 n3
  obtain ⟨n0,n1,n2,n3⟩:=Ne.netBox_cells (Ne.netBox_below HN0.out HB4.out hw0)
  go_wp2_with fail
  refine (RM.out _ (HR0.out.kept HB4.out)).mono ?_
  rintro e v5 ⟨od,cd,rfl,hi,hb⟩
  have hal:=(Below.refl v5.heap.size v5).alloc (Nat.le_refl _) (.cells #[.slice od GM.length cd,.int .i64 PM,.int .i64 KM] 33)
  have HXD5:=Lib.hid (Ne.rrBox_at v5 rfl (.slice od GM.length cd) PM KM)
  have HID5:=Lib.hid ((Ne.own_irow hi).kept hal)
  replace hb:=hb.trans (hal.mono hb.size)
  have HB5:=Lib.hid (HB4.out.trans (hb.mono HB4.out.size))
  have HIA5:=Lib.hid (HIA4.out.kept hb)
  have HIB5:=Lib.hid (HIB4.out.kept hb)
  have HIC5:=Lib.hid (HIC4.out.kept hb)
  have HXA5:=Lib.hid (Ne.runBox_below HXA4.out hb (Ne.runBox_lt HXA4.out))
  have HXC5:=Lib.hid (Ne.runBox_below HXC4.out hb (Ne.runBox_lt HXC4.out))
  have HXB5:=Lib.hid (Ne.rrBox_below HXB4.out hb (Ne.rrBox_lt HXB4.out))
  clear hb hi hal n0 n1 n2 n3
  obtain ⟨n0,n1,n2,n3⟩:=Ne.netBox_cells (Ne.netBox_below HN0.out HB5.out hw0)
  obtain ⟨xa0,xa1,xa2,xa3⟩:=Ne.runBox_cells HXA5.out
  obtain ⟨xc0,xc1,xc2,xc3⟩:=Ne.runBox_cells HXC5.out
  obtain ⟨xb0,xb1,xb2⟩:=Ne.rrBox_cells HXB5.out
  obtain ⟨xd0,xd1,xd2⟩:=Ne.rrBox_cells HXD5.out
  go_wp2_with fail
  refine (SMF.out oa ob ca cb sa _ HIA5.out HIB5.out).mono ?_
  rintro e v6 ⟨rfl,hb⟩
  have HB6:=Lib.hid (HB5.out.trans (hb.mono HB5.out.size))
  have HIC6:=Lib.hid (HIC5.out.kept hb)
  have HID6:=Lib.hid (HID5.out.kept hb)
  have HXA6:=Lib.hid (Ne.runBox_below HXA5.out hb (Ne.runBox_lt HXA5.out))
  have HXC6:=Lib.hid (Ne.runBox_below HXC5.out hb (Ne.runBox_lt HXC5.out))
  have HXB6:=Lib.hid (Ne.rrBox_below HXB5.out hb (Ne.rrBox_lt HXB5.out))
  have HXD6:=Lib.hid (Ne.rrBox_below HXD5.out hb (Ne.rrBox_lt HXD5.out))
  clear hb n0 n1 n2 n3 xa0 xa1 xa2 xa3 xb0 xb1 xb2 xc0 xc1 xc2 xc3 xd0 xd1 xd2
  obtain ⟨n0,n1,n2,n3⟩:=Ne.netBox_cells (Ne.netBox_below HN0.out HB6.out hw0)
  obtain ⟨xa0,xa1,xa2,xa3⟩:=Ne.runBox_cells HXA6.out
  obtain ⟨xc0,xc1,xc2,xc3⟩:=Ne.runBox_cells HXC6.out
  obtain ⟨xb0,xb1,xb2⟩:=Ne.rrBox_cells HXB6.out
  obtain ⟨xd0,xd1,xd2⟩:=Ne.rrBox_cells HXD6.out
  have hee:(EF == EF)=true:=by simp
  have hem:(EM == EM)=true:=by simp
  go_wp2_with fail
  refine (SMM.out oc od cc cd sc _ HIC6.out HID6.out).mono ?_
  rintro e v7 ⟨rfl,hb⟩
  have HB7:=Lib.hid (HB6.out.trans (hb.mono HB6.out.size))
  have HXA7:=Lib.hid (Ne.runBox_below HXA6.out hb (Ne.runBox_lt HXA6.out))
  have HXC7:=Lib.hid (Ne.runBox_below HXC6.out hb (Ne.runBox_lt HXC6.out))
  have HXB7:=Lib.hid (Ne.rrBox_below HXB6.out hb (Ne.rrBox_lt HXB6.out))
  have HXD7:=Lib.hid (Ne.rrBox_below HXD6.out hb (Ne.rrBox_lt HXD6.out))
  clear hb n0 n1 n2 n3 xa0 xa1 xa2 xa3 xb0 xb1 xb2 xc0 xc1 xc2 xc3 xd0 xd1 xd2
  obtain ⟨xa0,xa1,xa2,xa3⟩:=Ne.runBox_cells HXA7.out
  obtain ⟨xc0,xc1,xc2,xc3⟩:=Ne.runBox_cells HXC7.out
  obtain ⟨xb0,xb1,xb2⟩:=Ne.rrBox_cells HXB7.out
  obtain ⟨xd0,xd1,xd2⟩:=Ne.rrBox_cells HXD7.out
  by_cases c9:a3=116
  ·have c9':(a3 == 116)=true:=by simpa using c9
   clear c9
   go_wp2
   go_ret
   exact ⟨rfl,HB0.out.trans (HB7.out.mono HB0.out.size)⟩
  ·have c9':(a3 == 116)=false:=by simpa using c9
   have hz1:=HSA.out c9
   have hz2:=HSC.out c9
   have hz3:(sa == 0)=true:=by simpa using hz1
   have hz4:(sc == 0)=true:=by simpa using hz2
   clear c9 hz1 hz2
   go_wp2
   go_ret
   exact ⟨rfl,HB0.out.trans (HB7.out.mono HB0.out.size)⟩

end Go.Proofs.YtmikbkggjlbbnaaGreat.dinicTells
