/- ScaleTells: for every input the law returns true and its arguments read as they did. No condition. -/
import Derived.Test.YtoadkckceladgaaGreatBc28
import Derived.Test.YtoadkckceladgaaGreatBc2
import Derived.Deep.LoopGhost
import Derived.Deep.DeepCutAuto
import Derived.RegionTactic
import Derived.BigRegion
import Derived.Test.YtoadkckceladgaaGreatBc31
import Derived.Test.YtoadkckceladgaaGreatBc8
import Derived.Test.YtoadkckceladgaaGreatRows
import Derived.WalkKit
import Derived.ProofKit
import Derived.OpenShut
import Derived.ShutString
import Derived.ChangeOld
import Derived.Below
import Derived.Deep.Strs
namespace Go.Proofs.YtoadkckceladgaaGreat.scaleTells
open Go.ChangeShapes Go.WideShapes Go.ChangeAt Go.RowKit
open Go.ChangeMaps (open_string shut_string)
set_option linter.unusedVariables false
set_option linter.unusedSimpArgs false

theorem own : ownKnob Tryz.prog.godebug = none := by kernel_rfl
theorem laidOut : laidOutB Tryz.prog = true := by kernel_rfl

/-- all that a network and an engine answer: turns -/
theorem tells_exist (n : Ne.Net) (a : Int) (hl : n.l.length ≤ 1000) (hok : ∀ a ∈ n.l, Ne.in64 a.cap) : ∃ (h : List Int) (ts : List Ne.Tn) (K : Nat), (Ne.checkN n = 0 → Ne.Sqs n (Ne.rms K) (List.replicate n.l.length 0) h ts) ∧ Ne.staN n.l = Ne.fstR K ∧ K ≤ 63 ∧ (Ne.scG n a h).length ≤ 1000 ∧ (Ne.scT n a ts).length ≤ 63 := by
  obtain ⟨K, hK, hK63, _⟩ := Ne.sta_is (l := n.l) (Ne.mxC_in _ (by omega) fun i hi => by
    have e : Ne.arcAt n.l i = n.l[i]'(by omega) := by simp [Ne.arcAt, List.getElem?_eq_getElem (show i < n.l.length by omega)]
    rw [e]
    exact (hok _ (List.getElem_mem _)).2)
  by_cases c : Ne.checkN n = 0
  · have hR := Ne.rgO c
    obtain ⟨h, ts, hS⟩ := Ne.sqs_exists hR (Ne.rms K) _ (fun x hx => Ne.rms_pos x hx) (Ne.flow_nought hR)
    have h1 := (Ne.sqs_flow hR (fun x hx => Ne.rms_pos x hx) hS (Ne.flow_nought hR)).len
    have h2 := Ne.sqs_len hS
    rw [Ne.rms_len] at h2
    refine ⟨h, ts, K, fun _ => hS, hK, hK63, ?_, ?_⟩
    · unfold Ne.scG; split
      · simp
      · omega
    · unfold Ne.scT; split
      · simp
      · omega
  · refine ⟨[], [], K, fun h => absurd h c, hK, hK63, ?_, ?_⟩
    · unfold Ne.scG; split <;> simp
    · unfold Ne.scT; split <;> simp

set_option maxRecDepth 100000 in
set_option maxHeartbeats 4000000 in
theorem walk (a0 : Ne.Net) (o0 : Option Addr) (c0 : Nat) (a1 : Int) (w : World) (k0 : a0.ok) (z0 : a0.l.length ≤ c0) (y0 : c0 ≤ maxLen) (n0 : o0 = none → c0 = 0) (r0 : Ne.ARow w o0 a0.l) (w1 : (Lit.int .u8 a1).wf = true) :
    Calls Tryz.prog 3 #[Ne.encN a0 o0 c0, .int .u8 a1] w fun e w' => e = .returned (.bool true) ∧ Below w.heap.size w w' := by
  obtain ⟨an,as_,at_,al⟩:=a0
  simp only [Ne.Net.ok] at k0 z0 r0
  obtain ⟨_,_,_,ka⟩:=k0
  have HSH:=Lib.hid (Ne.shown_any (w.alloc (.cells #[.int .i64 an,.int .i64 as_,.int .i64 at_,.slice o0 al.length c0] 24)))
  have HB0:=Lib.hid (show Below w.heap.size w (w.alloc (.cells #[.int .i64 an,.int .i64 as_,.int .i64 at_,.slice o0 al.length c0] 24)) from (Below.refl _ _).alloc (Nat.le_refl _) _)
  have HN0:=Lib.hid (Ne.nbN w an as_ at_ (.slice o0 al.length c0))
  have HR0:=Lib.hid (r0.kept HB0.out)
  clear r0
  by_cases g1:50<al.length
  ·have g1':(50:Int)<(al.length:Int):=by omega
   go_enter Tryz.func3,Tryz.ntmps3
   go_wp2_with fail
   refine HSH.out.mono ?_
   rintro e w1 ⟨rfl,hb⟩
   obtain ⟨n0,n1,n2,n3⟩:=Ne.nbC (Ne.nbB HN0.out hb (by simp))
   have HB1:=Lib.hid (HB0.out.trans (hb.mono (by simp)))
   clear hb
   go_wp2
   go_ret
   exact ⟨rfl,HB1.out⟩
  have g1':¬ (50:Int)<(al.length:Int):=by omega
  by_cases g2:25<an
  ·skip
   go_enter Tryz.func3,Tryz.ntmps3
   go_wp2_with fail
   refine HSH.out.mono ?_
   rintro e w1 ⟨rfl,hb⟩
   obtain ⟨n0,n1,n2,n3⟩:=Ne.nbC (Ne.nbB HN0.out hb (by simp))
   have HB1:=Lib.hid (HB0.out.trans (hb.mono (by simp)))
   clear hb
   go_wp2
   go_ret
   exact ⟨rfl,HB1.out⟩
  have la:al.length≤1000000:=by omega
  have kc:∀ a∈al,Ne.in64 a.cap:=fun a ha=>(ka a ha).2.2
  obtain ⟨h,ts,K,hS,hK,hK63,hG1,hG2⟩:=tells_exist ⟨an,as_,at_,al⟩ a1 (by simp only;omega) kc
  have DM:=Lib.hid fun w' h1=>Ne.smax_any ⟨an,as_,at_,al⟩ o0 c0 a1 w' h1 la kc h ts K hS hK hK63
  have RM:=Lib.hid fun w' h1=>Ne.rsmax_any ⟨an,as_,at_,al⟩ o0 c0 a1 w' h1 la kc h ts K hS hK hK63
  have DST:=Lib.hid fun w' h1=>Ne.dstarts_any ⟨an,as_,at_,al⟩ o0 c0 w' h1 la kc
  have RST:=Lib.hid fun w' h1=>Ne.rstarts_any ⟨an,as_,at_,al⟩ o0 c0 w' h1 la kc
  simp only at DM RM DST RST hK
  rw [hK] at DST RST
  clear hS hK hK63 ka kc
  generalize Ne.scG ⟨an,as_,at_,al⟩ a1 h=G at *
  generalize Ne.scT ⟨an,as_,at_,al⟩ a1 ts=TT at *
  generalize Ne.scE ⟨an,as_,at_,al⟩ a1=E at *
  have SMF:=Lib.hid fun x1 x2 y1 y2 w' h1 h2=>show Calls Tryz.prog 12 #[.slice x1 G.length y1,.slice x2 G.length y2] w' fun e w2=>e=.returned (.bool true)∧Below w'.heap.size w' w2 from by
   have:=Ne.rsame_l x1 x2 y1 y2 G G w' h1 h2 (by omega) (by omega)
   rwa [show decide (G=G)=true by simp] at this
  have SMT:=Lib.hid fun x1 x2 y1 y2 w' h1 h2=>Ne.same_turns x1 x2 y1 y2 TT TT.length rfl hG2 w' h1 h2
  clear hG1 hG2
  go_enter Tryz.func3,Tryz.ntmps3
  go_wp2_with fail
  refine HSH.out.mono ?_
  rintro e w1 ⟨rfl,hb⟩
  generalize (w.alloc (.cells #[.int .i64 an,.int .i64 as_,.int .i64 at_,.slice o0 al.length c0] 24))=WB at *
  have hw0:=Ne.netBox_lt HN0.out
  have HB1:=Lib.hid hb
  clear hb
  obtain ⟨n0,n1,n2,n3⟩:=Ne.nbC (Ne.nbB HN0.out HB1.out hw0)
  go_wp2_with fail
  refine (DM.out _ (HR0.out.kept HB1.out)).mono ?_
  rintro e v4 ⟨oa,ca,ota,cta,rfl,hi,ht,hb⟩
  have HIA4:=Lib.hid (Ne.owI hi)
  have HTA4:=Lib.hid (Ne.ownt_row ht)
  have HB4:=Lib.hid (HB1.out.trans (hb.mono HB1.out.size))
  clear hb hi ht n0 n1 n2 n3
  obtain ⟨n0,n1,n2,n3⟩:=Ne.nbC (Ne.nbB HN0.out HB4.out hw0)
  go_wp2_with fail
  refine (RM.out _ (HR0.out.kept HB4.out)).mono ?_
  rintro e v5 ⟨ob,cb,otb,ctb,rfl,hi,ht,hb⟩
  have HIB5:=Lib.hid hi
  have HTB5:=Lib.hid (Ne.ownt_row ht)
  have HIA5:=Lib.hid (HIA4.out.kept hb)
  have HTA5:=Lib.hid (HTA4.out.kept hb)
  have HB5:=Lib.hid (HB4.out.trans (hb.mono HB4.out.size))
  clear hb hi ht n0 n1 n2 n3
  have hee:(E == E)=true:=by simp
  have hsk:(Ne.fstR K == Ne.fstR K)=true:=by simp
  go_upto_region 6 with fail
  obtain ⟨bn,hbn⟩:∃ b,b=w.heap.size:=⟨_,rfl⟩
  rw [← hbn]
  have HNB:=Lib.hid (show Ne.NetBox WB bn an as_ at_ (.slice o0 al.length c0) by rw [hbn];exact HN0.out)
  have SKB:=Lib.hid (show ∀ W,Below v5.heap.size v5 W→(fun w':World=>w'.cell? ⟨bn,0,none⟩=some (.int .i64 an)∧w'.cell? ⟨bn,1,none⟩=some (.int .i64 as_)∧w'.cell? ⟨bn,2,none⟩=some (.int .i64 at_)∧w'.cell? ⟨bn,3,none⟩=some (.slice o0 al.length c0)) W from fun W hb=>Ne.nbC (Ne.nbB HNB.out (HB5.out.trans (hb.mono HB5.out.size)) (by rw [hbn];exact hw0)))
  clear hbn
  refine Rh.start (S:=(fun w':World=>w'.cell? ⟨bn,0,none⟩=some (.int .i64 an)∧w'.cell? ⟨bn,1,none⟩=some (.int .i64 as_)∧w'.cell? ⟨bn,2,none⟩=some (.int .i64 at_)∧w'.cell? ⟨bn,3,none⟩=some (.slice o0 al.length c0))) (by kernel_rfl) ?_
  have HD0:=Lib.hid (Ne.bDr (Below.refl v5.heap.size v5))
  generalize v5.drew=u0 at *
  by_cases z:E=0
  ·have z1:(E != 0)=false:=by simpa using z
   clear z
   refine Rh.tk (some 41) (i:=0) (v:=?_) rfl (Or.inl ⟨by rfl,?_⟩) (SKB.out _ HD0.out) ?_
   rotate_left
   ·intro w hSw
    go_simp
    try with_reducible rfl
   try simp only [Act.put,Rh.q1,Rh.q2,Rh.q3]
   refine Rh.tk (some 42) (i:=1) (v:=?_) rfl (Or.inl ⟨by rfl,?_⟩) (SKB.out _ HD0.out) ?_
   rotate_left
   ·intro w hSw
    go_simp
    try with_reducible rfl
   try simp only [Act.put,Rh.q1,Rh.q2,Rh.q3]
   refine Rh.step (i:=2) (by kernel_rfl) rfl fun K' hK'=>?_
   have HK:=Lib.hid hK'
   clear hK'
   go_simp
   refine (SMF.out oa ob ca cb _ (HIA5.out.kept HD0.out) (HIB5.out.kept HD0.out)).mono ?_
   rintro e u1 ⟨rfl,hb⟩
   have HD1:=Lib.hid (HD0.out.trans (hb.mono HD0.out.size))
   clear hb
   refine HK.out _ _ ⟨(SKB.out _ HD1.out),?_⟩
   clear HK K'
   try simp only [Act.put,Rh.q1,Rh.q2,Rh.q3]
   refine Rh.tk (some 44) (i:=3) (v:=?_) rfl (Or.inl ⟨by rfl,?_⟩) (SKB.out _ HD1.out) ?_
   rotate_left
   ·intro w hSw
    go_simp
    try with_reducible rfl
   try simp only [Act.put,Rh.q1,Rh.q2,Rh.q3]
   refine Rh.tk (some 45) (i:=4) (v:=?_) rfl (Or.inl ⟨by rfl,?_⟩) (SKB.out _ HD1.out) ?_
   rotate_left
   ·intro w hSw
    go_simp
    try with_reducible rfl
   try simp only [Act.put,Rh.q1,Rh.q2,Rh.q3]
   refine Rh.tk (some 46) (i:=5) (v:=?_) rfl (Or.inl ⟨by rfl,?_⟩) (SKB.out _ HD1.out) ?_
   rotate_left
   ·intro w hSw
    go_simp
    try with_reducible rfl
   try simp only [Act.put,Rh.q1,Rh.q2,Rh.q3]
   refine Rh.step (i:=6) (by kernel_rfl) rfl fun K' hK'=>?_
   have HK:=Lib.hid hK'
   clear hK'
   go_simp
   refine (SMT.out ota otb cta ctb _ (HTA5.out.kept HD1.out) (HTB5.out.kept HD1.out)).mono ?_
   rintro e u2 ⟨rfl,hb⟩
   have HD2:=Lib.hid (HD1.out.trans (hb.mono HD1.out.size))
   clear hb
   refine HK.out _ _ ⟨(SKB.out _ HD2.out),?_⟩
   clear HK K'
   try simp only [Act.put,Rh.q1,Rh.q2,Rh.q3]
   refine Rh.tk (some 48) (i:=7) (v:=?_) rfl (Or.inl ⟨by rfl,?_⟩) (SKB.out _ HD2.out) ?_
   rotate_left
   ·intro w hSw
    go_simp
    try with_reducible rfl
   try simp only [Act.put,Rh.q1,Rh.q2,Rh.q3]
   refine Rh.tk (some 49) (i:=8) (v:=?_) rfl (Or.inl ⟨by rfl,?_⟩) (SKB.out _ HD2.out) ?_
   rotate_left
   ·intro w hSw
    go_simp
    try with_reducible rfl
   try simp only [Act.put,Rh.q1,Rh.q2,Rh.q3]
   refine Rh.tk (some 50) (i:=9) (v:=?_) rfl (Or.inl ⟨by rfl,?_⟩) (SKB.out _ HD2.out) ?_
   rotate_left
   ·intro w hSw
    go_simp
    try with_reducible rfl
   try simp only [Act.put,Rh.q1,Rh.q2,Rh.q3]
   refine Rh.tk (some 51) (i:=10) (v:=?_) rfl (Or.inl ⟨by rfl,?_⟩) (SKB.out _ HD2.out) ?_
   rotate_left
   ·intro w hSw
    go_simp
    try with_reducible rfl
   try simp only [Act.put,Rh.q1,Rh.q2,Rh.q3]
   refine Rh.tk (some 52) (i:=11) (v:=?_) rfl (Or.inl ⟨by rfl,?_⟩) (SKB.out _ HD2.out) ?_
   rotate_left
   ·intro w hSw
    go_simp
    try with_reducible rfl
   try simp only [Act.put,Rh.q1,Rh.q2,Rh.q3]
   refine Rh.tk (some 53) (i:=12) (v:=?_) rfl (Or.inl ⟨by rfl,?_⟩) (SKB.out _ HD2.out) ?_
   rotate_left
   ·intro w hSw
    go_simp
    try with_reducible rfl
   try simp only [Act.put,Rh.q1,Rh.q2,Rh.q3]
   refine Rh.tk (some 54) (i:=13) (v:=?_) rfl (Or.inl ⟨by rfl,?_⟩) (SKB.out _ HD2.out) ?_
   rotate_left
   ·intro w hSw
    go_simp
    try with_reducible rfl
   try simp only [Act.put,Rh.q1,Rh.q2,Rh.q3]
   refine Rh.tk (some 55) (i:=14) (v:=?_) rfl (Or.inl ⟨by rfl,?_⟩) (SKB.out _ HD2.out) ?_
   rotate_left
   ·intro w hSw
    go_simp
    try with_reducible rfl
   try simp only [Act.put,Rh.q1,Rh.q2,Rh.q3]
   refine Rh.tk (some 56) (i:=15) (v:=?_) rfl (Or.inl ⟨by rfl,?_⟩) (SKB.out _ HD2.out) ?_
   rotate_left
   ·intro w hSw
    go_simp
    try with_reducible rfl
   try simp only [Act.put,Rh.q1,Rh.q2,Rh.q3]
   refine Rh.tk (some 57) (i:=16) (v:=?_) rfl (Or.inl ⟨by rfl,?_⟩) (SKB.out _ HD2.out) ?_
   rotate_left
   ·intro w hSw
    go_simp
    try with_reducible rfl
   try simp only [Act.put,Rh.q1,Rh.q2,Rh.q3]
   refine Rh.tk (some 58) (i:=17) (v:=?_) rfl (Or.inl ⟨by rfl,?_⟩) (SKB.out _ HD2.out) ?_
   rotate_left
   ·intro w hSw
    go_simp
    try with_reducible rfl
   try simp only [Act.put,Rh.q1,Rh.q2,Rh.q3]
   refine Rh.tk (some 60) (i:=19) (v:=?_) rfl (Or.inl ⟨by rfl,?_⟩) (SKB.out _ HD2.out) ?_
   rotate_left
   ·intro w hSw
    go_simp
    try with_reducible rfl
   try simp only [Act.put,Rh.q1,Rh.q2,Rh.q3]
   refine Rh.step (i:=18) (by kernel_rfl) rfl fun K' hK'=>?_
   have HK:=Lib.hid hK'
   clear hK'
   go_simp
   refine (DST.out _ (HR0.out.kept (HB5.out.trans (HD2.out.mono HB5.out.size)))).mono ?_
   rintro e u3 ⟨rfl,hb⟩
   have HD3:=Lib.hid (HD2.out.trans (hb.mono HD2.out.size))
   clear hb
   refine HK.out _ _ ⟨(SKB.out _ HD3.out),?_⟩
   clear HK K'
   try simp only [Act.put,Rh.q1,Rh.q2,Rh.q3]
   refine Rh.step (i:=20) (by kernel_rfl) rfl fun K' hK'=>?_
   have HK:=Lib.hid hK'
   clear hK'
   go_simp
   refine (RST.out _ (HR0.out.kept (HB5.out.trans (HD3.out.mono HB5.out.size)))).mono ?_
   rintro e u4 ⟨rfl,hb⟩
   have HD4:=Lib.hid (HD3.out.trans (hb.mono HD3.out.size))
   clear hb
   refine HK.out _ _ ⟨(SKB.out _ HD4.out),?_⟩
   clear HK K'
   try simp only [Act.put,Rh.q1,Rh.q2,Rh.q3]
   refine Rh.tk (some 62) (i:=21) (v:=?_) rfl (Or.inl ⟨by rfl,?_⟩) (SKB.out _ HD4.out) ?_
   rotate_left
   ·intro w hSw
    go_simp
    try with_reducible rfl
   try simp only [Act.put,Rh.q1,Rh.q2,Rh.q3]
   refine Rh.tk (some 63) (i:=22) (v:=?_) rfl (Or.inl ⟨by rfl,?_⟩) (SKB.out _ HD4.out) ?_
   rotate_left
   ·intro w hSw
    go_simp
    try with_reducible rfl
   try simp only [Act.put,Rh.q1,Rh.q2,Rh.q3]
   refine Rh.tk (some 64) (i:=23) (v:=?_) rfl (Or.inl ⟨by rfl,?_⟩) (SKB.out _ HD4.out) ?_
   rotate_left
   ·intro w hSw
    go_simp
    try with_reducible rfl
   try simp only [Act.put,Rh.q1,Rh.q2,Rh.q3]
   refine Rh.tk (some 4) (i:=24) (v:=?_) rfl (Or.inl ⟨by rfl,?_⟩) (SKB.out _ HD4.out) ?_
   rotate_left
   ·intro w hSw
    go_simp
    try with_reducible rfl
   try simp only [Act.put,Rh.q1,Rh.q2,Rh.q3]
   refine Rh.done (by kernel_rfl) ?_ _
   go_wp2
   go_ret
   exact ⟨rfl,HB0.out.trans ((HB5.out.trans (HD4.out.mono HB5.out.size)).mono HB0.out.size)⟩
  ·have z1:(E != 0)=true:=by simpa using z
   clear z
   refine Rh.tk (some 41) (i:=0) (v:=?_) rfl (Or.inl ⟨by rfl,?_⟩) (SKB.out _ HD0.out) ?_
   rotate_left
   ·intro w hSw
    go_simp
    try with_reducible rfl
   try simp only [Act.put,Rh.q1,Rh.q2,Rh.q3]
   refine Rh.tk (some 42) (i:=1) (v:=?_) rfl (Or.inl ⟨by rfl,?_⟩) (SKB.out _ HD0.out) ?_
   rotate_left
   ·intro w hSw
    go_simp
    try with_reducible rfl
   try simp only [Act.put,Rh.q1,Rh.q2,Rh.q3]
   refine Rh.step (i:=2) (by kernel_rfl) rfl fun K' hK'=>?_
   have HK:=Lib.hid hK'
   clear hK'
   go_simp
   refine (SMF.out oa ob ca cb _ (HIA5.out.kept HD0.out) (HIB5.out.kept HD0.out)).mono ?_
   rintro e u1 ⟨rfl,hb⟩
   have HD1:=Lib.hid (HD0.out.trans (hb.mono HD0.out.size))
   clear hb
   refine HK.out _ _ ⟨(SKB.out _ HD1.out),?_⟩
   clear HK K'
   try simp only [Act.put,Rh.q1,Rh.q2,Rh.q3]
   refine Rh.tk (some 44) (i:=3) (v:=?_) rfl (Or.inl ⟨by rfl,?_⟩) (SKB.out _ HD1.out) ?_
   rotate_left
   ·intro w hSw
    go_simp
    try with_reducible rfl
   try simp only [Act.put,Rh.q1,Rh.q2,Rh.q3]
   refine Rh.tk (some 45) (i:=4) (v:=?_) rfl (Or.inl ⟨by rfl,?_⟩) (SKB.out _ HD1.out) ?_
   rotate_left
   ·intro w hSw
    go_simp
    try with_reducible rfl
   try simp only [Act.put,Rh.q1,Rh.q2,Rh.q3]
   refine Rh.tk (some 46) (i:=5) (v:=?_) rfl (Or.inl ⟨by rfl,?_⟩) (SKB.out _ HD1.out) ?_
   rotate_left
   ·intro w hSw
    go_simp
    try with_reducible rfl
   try simp only [Act.put,Rh.q1,Rh.q2,Rh.q3]
   refine Rh.step (i:=6) (by kernel_rfl) rfl fun K' hK'=>?_
   have HK:=Lib.hid hK'
   clear hK'
   go_simp
   refine (SMT.out ota otb cta ctb _ (HTA5.out.kept HD1.out) (HTB5.out.kept HD1.out)).mono ?_
   rintro e u2 ⟨rfl,hb⟩
   have HD2:=Lib.hid (HD1.out.trans (hb.mono HD1.out.size))
   clear hb
   refine HK.out _ _ ⟨(SKB.out _ HD2.out),?_⟩
   clear HK K'
   try simp only [Act.put,Rh.q1,Rh.q2,Rh.q3]
   refine Rh.tk (some 48) (i:=7) (v:=?_) rfl (Or.inl ⟨by rfl,?_⟩) (SKB.out _ HD2.out) ?_
   rotate_left
   ·intro w hSw
    go_simp
    try with_reducible rfl
   try simp only [Act.put,Rh.q1,Rh.q2,Rh.q3]
   refine Rh.tk (some 49) (i:=8) (v:=?_) rfl (Or.inl ⟨by rfl,?_⟩) (SKB.out _ HD2.out) ?_
   rotate_left
   ·intro w hSw
    go_simp
    try with_reducible rfl
   try simp only [Act.put,Rh.q1,Rh.q2,Rh.q3]
   refine Rh.tk (some 50) (i:=9) (v:=?_) rfl (Or.inl ⟨by rfl,?_⟩) (SKB.out _ HD2.out) ?_
   rotate_left
   ·intro w hSw
    go_simp
    try with_reducible rfl
   try simp only [Act.put,Rh.q1,Rh.q2,Rh.q3]
   refine Rh.tk (some 51) (i:=10) (v:=?_) rfl (Or.inl ⟨by rfl,?_⟩) (SKB.out _ HD2.out) ?_
   rotate_left
   ·intro w hSw
    go_simp
    try with_reducible rfl
   try simp only [Act.put,Rh.q1,Rh.q2,Rh.q3]
   refine Rh.tk (some 52) (i:=11) (v:=?_) rfl (Or.inl ⟨by rfl,?_⟩) (SKB.out _ HD2.out) ?_
   rotate_left
   ·intro w hSw
    go_simp
    try with_reducible rfl
   try simp only [Act.put,Rh.q1,Rh.q2,Rh.q3]
   refine Rh.tk (some 53) (i:=12) (v:=?_) rfl (Or.inl ⟨by rfl,?_⟩) (SKB.out _ HD2.out) ?_
   rotate_left
   ·intro w hSw
    go_simp
    try with_reducible rfl
   try simp only [Act.put,Rh.q1,Rh.q2,Rh.q3]
   refine Rh.tk (some 54) (i:=13) (v:=?_) rfl (Or.inl ⟨by rfl,?_⟩) (SKB.out _ HD2.out) ?_
   rotate_left
   ·intro w hSw
    go_simp
    try with_reducible rfl
   try simp only [Act.put,Rh.q1,Rh.q2,Rh.q3]
   refine Rh.tk (some 55) (i:=14) (v:=?_) rfl (Or.inl ⟨by rfl,?_⟩) (SKB.out _ HD2.out) ?_
   rotate_left
   ·intro w hSw
    go_simp
    try with_reducible rfl
   try simp only [Act.put,Rh.q1,Rh.q2,Rh.q3]
   refine Rh.tk (some 56) (i:=15) (v:=?_) rfl (Or.inl ⟨by rfl,?_⟩) (SKB.out _ HD2.out) ?_
   rotate_left
   ·intro w hSw
    go_simp
    try with_reducible rfl
   try simp only [Act.put,Rh.q1,Rh.q2,Rh.q3]
   refine Rh.tk (some 57) (i:=16) (v:=?_) rfl (Or.inl ⟨by rfl,?_⟩) (SKB.out _ HD2.out) ?_
   rotate_left
   ·intro w hSw
    go_simp
    try with_reducible rfl
   try simp only [Act.put,Rh.q1,Rh.q2,Rh.q3]
   refine Rh.tk (some 58) (i:=17) (v:=undef) rfl (Or.inr ⟨by rfl,rfl⟩) (SKB.out _ HD2.out) ?_
   try simp only [Act.put,Rh.q1,Rh.q2,Rh.q3]
   refine Rh.tk (some 59) (i:=18) (v:=undef) rfl (Or.inr ⟨by rfl,rfl⟩) (SKB.out _ HD2.out) ?_
   try simp only [Act.put,Rh.q1,Rh.q2,Rh.q3]
   refine Rh.tk (some 60) (i:=19) (v:=undef) rfl (Or.inr ⟨by rfl,rfl⟩) (SKB.out _ HD2.out) ?_
   try simp only [Act.put,Rh.q1,Rh.q2,Rh.q3]
   refine Rh.tk (some 61) (i:=20) (v:=undef) rfl (Or.inr ⟨by rfl,rfl⟩) (SKB.out _ HD2.out) ?_
   try simp only [Act.put,Rh.q1,Rh.q2,Rh.q3]
   refine Rh.tk (some 62) (i:=21) (v:=undef) rfl (Or.inr ⟨by rfl,rfl⟩) (SKB.out _ HD2.out) ?_
   try simp only [Act.put,Rh.q1,Rh.q2,Rh.q3]
   refine Rh.tk (some 63) (i:=22) (v:=?_) rfl (Or.inl ⟨by rfl,?_⟩) (SKB.out _ HD2.out) ?_
   rotate_left
   ·intro w hSw
    go_simp
    try with_reducible rfl
   try simp only [Act.put,Rh.q1,Rh.q2,Rh.q3]
   refine Rh.tk (some 64) (i:=23) (v:=?_) rfl (Or.inl ⟨by rfl,?_⟩) (SKB.out _ HD2.out) ?_
   rotate_left
   ·intro w hSw
    go_simp
    try with_reducible rfl
   try simp only [Act.put,Rh.q1,Rh.q2,Rh.q3]
   refine Rh.tk (some 4) (i:=24) (v:=?_) rfl (Or.inl ⟨by rfl,?_⟩) (SKB.out _ HD2.out) ?_
   rotate_left
   ·intro w hSw
    go_simp
    try with_reducible rfl
   try simp only [Act.put,Rh.q1,Rh.q2,Rh.q3]
   refine Rh.done (by kernel_rfl) ?_ _
   go_wp2
   go_ret
   exact ⟨rfl,HB0.out.trans ((HB5.out.trans (HD2.out.mono HB5.out.size)).mono HB0.out.size)⟩

end Go.Proofs.YtoadkckceladgaaGreat.scaleTells
