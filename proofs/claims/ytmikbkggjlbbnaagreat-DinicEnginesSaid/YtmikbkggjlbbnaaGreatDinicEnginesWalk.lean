/- DinicEngines: for every input the law returns true and its arguments read as they did. No condition. -/
import Derived.Test.YtmikbkggjlbbnaaGreatBg44
import Derived.Test.YtmikbkggjlbbnaaGreatBg4
import Derived.Test.YtmikbkggjlbbnaaGreatBg5
import Derived.Deep.LoopGhost
import Derived.Deep.DeepCutAuto
import Derived.RegionTactic
import Derived.BigRegion
import Derived.Test.YtmikbkggjlbbnaaGreatBg30
import Derived.Test.YtmikbkggjlbbnaaGreatBg33
import Derived.Test.YtmikbkggjlbbnaaGreatRows
import Derived.WalkKit
import Derived.ProofKit
import Derived.OpenShut
import Derived.ShutString
import Derived.ChangeOld
import Derived.Below
import Derived.Deep.Strs
namespace Go.Proofs.YtmikbkggjlbbnaaGreat.dinicEngines
open Go.ChangeShapes Go.WideShapes Go.ChangeAt Go.RowKit
open Go.ChangeMaps (open_string shut_string)
set_option linter.unusedVariables false
set_option linter.unusedSimpArgs false

theorem own : ownKnob Tryz.prog.godebug = none := by kernel_rfl
theorem laidOut : laidOutB Tryz.prog = true := by kernel_rfl

def IntsIn (k : IntKind) (w : World) (a : Option Addr) (len cap : Nat) (zs : List Int) : Prop :=
  (a = none ∧ len = 0 ∧ cap = 0 ∧ zs = []) ∨
  ∃ x, a = some x ∧ len ≤ cap ∧ cap ≤ maxLen ∧ zs.length = cap ∧ (∀ i, i < zs.length → w.cell? (x.add i) = some (.int k (zs.getD i 0))) ∧ ∀ n ∈ zs, (Lit.int k n).wf = true



set_option maxRecDepth 100000 in
set_option maxHeartbeats 4000000 in
theorem walk (a0 : Int) (a1 : Int) (a2 : List Ne.Arc) (o2 : Option Addr) (c2 : Nat) (a3 : Option Addr) (len3 cap3 : Nat) (l3 : List Int) (w : World) (w0 : (Lit.int .i64 a0).wf = true) (w1 : (Lit.int .i64 a1).wf = true) (k2 : ∀ a ∈ a2, Ne.Arc.ok a) (z2 : a2.length ≤ c2) (y2 : c2 ≤ maxLen) (n2 : o2 = none → c2 = 0) (r2 : Ne.ARow w o2 a2) (w3 : IntsIn .i64 w a3 len3 cap3 l3) :
    Calls Tryz.prog 5 #[.int .i64 a0, .int .i64 a1, .slice o2 a2.length c2, .slice a3 len3 cap3] w fun e w' => e = .returned (.bool true) ∧ Below w.heap.size w w' := by
  have HSH:=Lib.hid (Ne.shown_any w)
  obtain ⟨mn,hmn⟩:∃ x,x=(Ne.madeN a0 a1 a2).n:=⟨_,rfl⟩
  obtain ⟨ms,hms⟩:∃ x,x=(Ne.madeN a0 a1 a2).s:=⟨_,rfl⟩
  obtain ⟨mt,hmt⟩:∃ x,x=(Ne.madeN a0 a1 a2).t:=⟨_,rfl⟩
  obtain ⟨ml,hml⟩:∃ x,x=(Ne.madeN a0 a1 a2).l:=⟨_,rfl⟩
  have em:Ne.madeN a0 a1 a2=⟨mn,ms,mt,ml⟩:=by rw [hmn,hms,hmt,hml]
  obtain ⟨f1,f2,f3,f4,f5,f6,f7,f8,f9⟩:=Ne.madeN_fine (nodes:=a0) (ends:=a1) k2
  have ck:=Ne.made_check (nodes:=a0) (ends:=a1) k2
  have MD:=Lib.hid fun w' (h:Ne.ARow w' o2 a2)=>Ne.made_s a0 a1 a2 o2 c2 w' (bounds_i64 w0) (bounds_i64 w1) k2 h
  rw [em] at MD f1 f2 f3 f4 f5 f6 f7 f8 f9 ck
  simp only at f1 f2 f3 f4 f5 f6 f7 f8 f9
  clear hmn hms hmt hml em
  have f8':ml.length≤24:=by omega
  clear f8
  have CK:=Lib.hid ck
  have RT:=Lib.hid (Ne.right_of ck)
  have FI:=Lib.hid f9
  have CAP:=Lib.hid (show ∀ a∈ml,Ne.in64 a.cap from fun a ha=>by have:=(f9 a ha).2.2;unfold Ne.in64;omega)
  have hl6:ml.length≤1000000:=by omega
  have F7:=Lib.hid f7
  have RA:=Lib.hid r2
  clear r2 f7 f9 ck
  obtain ⟨N,rfl⟩:∃ N:Nat,mn=(N:Int):=⟨mn.toNat,by omega⟩
  obtain ⟨S,rfl⟩:∃ S:Nat,ms=(S:Int):=⟨ms.toNat,by omega⟩
  obtain ⟨D,rfl⟩:∃ D:Nat,mt=(D:Int):=⟨mt.toNat,by omega⟩
  obtain ⟨g,L,p,k,hph,hfg,hlg,hdg,htg,hpn,hpk⟩:=Ne.max_facts RT.out
  have MX:=Lib.hid fun (q:Bool) (ao:Option Addr) (cap:Nat) w' (h1:Ne.ARow w' ao (⟨(N:Int),(S:Int),(D:Int),ml⟩:Ne.Net).l)=>Ne.max_flow (n:=⟨(N:Int),(S:Int),(D:Int),ml⟩) ao cap w' CK.out h1 hph q
  have FG:=Lib.hid hfg
  have LG:=Lib.hid hlg
  have DG:=Lib.hid hdg
  have TG:=Lib.hid htg
  have PH:=Lib.hid hph
  have PK:=Lib.hid (And.intro hpn hpk)
  clear hph hfg hlg hdg htg hpn hpk
  have HN9:N≤9:=by omega
  have MF:=Lib.hid fun ao cap w' h1=>MX.out false ao cap w' h1
  have MT:=Lib.hid fun ao cap w' h1=>MX.out true ao cap w' h1
  simp only [Ne.engC,Bool.false_eq_true,if_false,if_true] at MT MF
  clear MX
  obtain ⟨ks,hk3,hq3,bq3,_,_,_⟩:=Ne.ints_row w3
  subst hk3
  clear w3
  have BK3:=Lib.hid bq3
  have KR3:=Lib.hid hq3
  clear bq3 hq3
  go_enter Tryz.func5,Tryz.ntmps5
  go_wp2_with fail
  refine HSH.out.mono ?_
  rintro e w1 ⟨rfl,hb⟩
  have HB1:=Lib.hid hb
  clear hb
  go_wp2_with fail
  refine (MD.out _ (RA.out.kept HB1.out)).mono ?_
  rintro e w2 ⟨om,cm,rfl,ho,hb⟩
  have HB2:=Lib.hid (HB1.out.trans (hb.mono HB1.out.size))
  have HV2:=Lib.hid (Rw.own_lt ho)
  have HO3:=Lib.hid (Rw.own_base (Rw.own_alloc ho (.cells #[.int .i64 (N:Int),.int .i64 (S:Int),.int .i64 (D:Int),.slice om ml.length cm] 24)) (B':=w.heap.size) HB1.out.size)
  have HN3:=Lib.hid (Ne.netBox_new w2 (N:Int) (S:Int) (D:Int) (.slice om ml.length cm))
  have hz2:w.heap.size≤w2.heap.size:=HB2.out.size
  have HB3:=Lib.hid (HB2.out.alloc hz2 (.cells #[.int .i64 (N:Int),.int .i64 (S:Int),.int .i64 (D:Int),.slice om ml.length cm] 24))
  clear ho hb MD RA HSH
  go_wp2_with fail
  obtain ⟨bn,hbn⟩:∃ b,b=w2.heap.size:=⟨_,rfl⟩
  have hbn3:bn<(w2.alloc (.cells #[.int .i64 (N:Int),.int .i64 (S:Int),.int .i64 (D:Int),.slice om ml.length cm] 24)).heap.size:=by rw [hbn];simp
  rw [← hbn] at HN3 HV2 hz2 ⊢
  clear hbn HB2 HB1
  generalize (w2.alloc (.cells #[.int .i64 (N:Int),.int .i64 (S:Int),.int .i64 (D:Int),.slice om ml.length cm] 24))=W3 at *
  have HR3:=Lib.hid (Ne.arow_ofA HO3.out)
  obtain ⟨f,hf⟩:∃ x,x=Ne.routeN ⟨(N:Int),(S:Int),(D:Int),ml⟩ ks:=⟨_,rfl⟩
  have FL:=Lib.hid (show Ne.Flow ⟨(N:Int),(S:Int),(D:Int),ml⟩ f by rw [hf];exact Ne.route_flow RT.out _)
  have RD:=Lib.hid fun w' h1 h2=>Ne.routed_any ⟨(N:Int),(S:Int),(D:Int),ml⟩ om cm a3 cap3 ks w' h1 h2 CK.out BK3.out
  rw [← hf] at RD
  refine (RD.out _ HR3.out (KR3.out.kept HB3.out)).mono ?_
  rintro e w4 ⟨fb,rfl,hfb,hl,hb⟩
  have HB4:=Lib.hid (HB3.out.trans (hb.mono HB3.out.size))
  have HN4:=Lib.hid (Ne.netBox_below HN3.out hb (Ne.netBox_lt HN3.out))
  have HO4:=Lib.hid (Rw.own_below HO3.out hb)
  have HR4:=Lib.hid (HR3.out.kept hb)
  have HFB4:=Lib.hid hl
  have hfb2:=hl.lt
  clear hl hb
  have HFR4:=Lib.hid HFB4.out.irow
  obtain ⟨h,p2,k2,hph2⟩:=Ne.phs_exists RT.out (Int.le_refl 1) FL.out.okf
  have hfh:=Ne.phs_flow RT.out (Int.le_refl 1) hph2 FL.out
  have HVV:=Lib.hid (show Ne.exc ml g (D:Int)=Ne.exc ml h (D:Int) from TG.out.one RT.out (Ne.phs_top RT.out hph2 FL.out))
  have hph3:Ne.Phs ⟨(N:Int),(S:Int),(D:Int),ml⟩ 1 h h 0 0:=by
   obtain ⟨h3,p3,k3,q3⟩:=Ne.phs_exists RT.out (Int.le_refl 1) hfh.okf
   obtain ⟨rfl,rfl,rfl⟩:=Ne.phs_again RT.out (Int.le_refl 1) hph2 FL.out.okf q3
   exact q3
  have FX:=Lib.hid fun (q:Bool) fo fc w' h1 h2=>Ne.from_flow (n:=⟨(N:Int),(S:Int),(D:Int),ml⟩) om cm fo fc w' CK.out h1 h2 FL.out.okf (Int.le_refl 1) hph2 q
  have FF:=Lib.hid fun fo fc w' h1 h2=>FX.out false fo fc w' h1 h2
  have FT:=Lib.hid fun fo fc w' h1 h2=>FX.out true fo fc w' h1 h2
  have FA:=Lib.hid fun fo fc w' h1 h2=>show Calls Tryz.prog 10 #[Ne.encN ⟨(N:Int),(S:Int),(D:Int),ml⟩ om cm,.slice fo ml.length fc,.int .i64 1,.int .u8 116] w' fun e w2=>∃ o c,e=.returned (.tuple #[.agg #[.slice o ml.length c,.int .i64 0,.int .i64 0,.int .i64 0],.int .i64 0])∧Ne.IRow w2 o h∧Below w'.heap.size w' w2 from by
   refine (Ne.from_flow (n:=⟨(N:Int),(S:Int),(D:Int),ml⟩) om cm fo fc w' CK.out h1 h2 hfh.okf (Int.le_refl 1) hph3 true).mono ?_
   rintro e w2 ⟨o,c,st,e1,e2,e3,e4,e5⟩
   obtain rfl:st=0:=by rw [show ((0:Nat):Int)=0 from rfl,Int.zero_mul] at e4;omega
   exact ⟨o,c,e1,Ne.own_irow e2,e5⟩
  simp only [Ne.engC,Bool.false_eq_true,if_false,if_true] at FF FT
  have VG:=Lib.hid fun fo fc w' h1 h2=>Ne.val_flow (n:=⟨(N:Int),(S:Int),(D:Int),ml⟩) (f:=g) om cm fo fc w' CK.out h1 h2 FG.out
  have VH:=Lib.hid fun fo fc w' h1 h2=>Ne.val_flow (n:=⟨(N:Int),(S:Int),(D:Int),ml⟩) (f:=h) om cm fo fc w' CK.out h1 h2 hfh
  have SM:=Lib.hid fun (l:List Int) (hl:Ne.Flow ⟨(N:Int),(S:Int),(D:Int),ml⟩ l) x1 x2 y1 y2 w' h1 h2=>show Calls Tryz.prog 19 #[.slice x1 ml.length y1,.slice x2 ml.length y2] w' fun e w2=>e=.returned (.bool true)∧Below w'.heap.size w' w2 from by
   have hfl:l.length=ml.length:=hl.len
   have:=Ne.rsame_l x1 x2 y1 y2 l l w' h1 h2 (by omega) (by omega)
   rwa [hfl,show decide (l=l)=true by simp] at this
  have SMG:=Lib.hid (SM.out g FG.out)
  have SMH:=Lib.hid (SM.out h hfh)
  have MO:=Lib.hid fun w'=>Ne.tmost_any ⟨(N:Int),(S:Int),(D:Int),ml⟩ om cm w' RT.out
  have HMV:=Lib.hid (show 0≤Ne.mostV ⟨(N:Int),(S:Int),(D:Int),ml⟩∧Ne.mostV ⟨(N:Int),(S:Int),(D:Int),ml⟩≤10000000000 from ⟨Ne.most_nn RT.out,Ne.most_le RT.out⟩)
  have HPP:=Lib.hid (show p<N from by have h:=PK.out.1;first | omega | (simp only at h;omega))
  clear SM FX hph2 hph3 hfh
  generalize Ne.exc ml g (D:Int)=vg at *
  generalize Ne.exc ml h (D:Int)=vh at *
  generalize Ne.mostV ⟨(N:Int),(S:Int),(D:Int),ml⟩=mv at *
  obtain ⟨n0,n1,n2,n3⟩:=Ne.netBox_cells HN4.out
  go_wp2_with fail
  refine (MF.out om cm _ HR4.out).mono ?_
  rintro e v5 ⟨oa,ca,sa,rfl,hi,ha1,ha2,ha3,hb⟩
  clear ha1 ha2 ha3
  have hal:=(Below.refl v5.heap.size v5).alloc (Nat.le_refl _) (.cells #[.slice oa ml.length ca,.int .i64 (p:Int),.int .i64 (k:Int),.int .i64 sa] 28)
  have HXA5:=Lib.hid (Ne.runBox_at v5 rfl (.slice oa ml.length ca) (p:Int) (k:Int) sa)
  have HIA5:=Lib.hid (hi.kept hal)
  replace hb:=hb.trans (hal.mono hb.size)
  have HB5:=Lib.hid (HB4.out.trans (hb.mono HB4.out.size))
  have HN5:=Lib.hid (Ne.netBox_below HN4.out hb (Ne.netBox_lt HN4.out))
  have HR5:=Lib.hid (HR4.out.kept hb)
  have HFR5:=Lib.hid (HFR4.out.kept hb)
  clear hb hi hal n0 n1 n2 n3
  obtain ⟨n0,n1,n2,n3⟩:=Ne.netBox_cells HN5.out
  go_wp2_with fail
  refine (MT.out om cm _ HR5.out).mono ?_
  rintro e v6 ⟨ob,cb,sb,rfl,hi,hb1,hb2,hb3,hb⟩
  have HSB:=Lib.hid hb3
  clear hb1 hb2 hb3
  have hal:=(Below.refl v6.heap.size v6).alloc (Nat.le_refl _) (.cells #[.slice ob ml.length cb,.int .i64 (p:Int),.int .i64 (k:Int),.int .i64 sb] 28)
  have HXB6:=Lib.hid (Ne.runBox_at v6 rfl (.slice ob ml.length cb) (p:Int) (k:Int) sb)
  have HIB6:=Lib.hid (hi.kept hal)
  replace hb:=hb.trans (hal.mono hb.size)
  have HB6:=Lib.hid (HB5.out.trans (hb.mono HB5.out.size))
  have HN6:=Lib.hid (Ne.netBox_below HN5.out hb (Ne.netBox_lt HN5.out))
  have HR6:=Lib.hid (HR5.out.kept hb)
  have HFR6:=Lib.hid (HFR5.out.kept hb)
  have HIA6:=Lib.hid (HIA5.out.kept hb)
  have HXA6:=Lib.hid (Ne.runBox_below HXA5.out hb (Ne.runBox_lt HXA5.out))
  clear hb hi hal n0 n1 n2 n3
  obtain ⟨n0,n1,n2,n3⟩:=Ne.netBox_cells HN6.out
  go_wp2_with fail
  refine (FF.out _ _ _ HR6.out HFR6.out).mono ?_
  rintro e v7 ⟨oc,cc,sc,rfl,hi,hc1,hc2,hb⟩
  replace hi:=Ne.own_irow hi
  clear hc1 hc2
  have hal:=(Below.refl v7.heap.size v7).alloc (Nat.le_refl _) (.cells #[.slice oc ml.length cc,.int .i64 (p2:Int),.int .i64 (k2:Int),.int .i64 sc] 28)
  have HXC7:=Lib.hid (Ne.runBox_at v7 rfl (.slice oc ml.length cc) (p2:Int) (k2:Int) sc)
  have HIC7:=Lib.hid (hi.kept hal)
  replace hb:=hb.trans (hal.mono hb.size)
  have HB7:=Lib.hid (HB6.out.trans (hb.mono HB6.out.size))
  have HN7:=Lib.hid (Ne.netBox_below HN6.out hb (Ne.netBox_lt HN6.out))
  have HR7:=Lib.hid (HR6.out.kept hb)
  have HFR7:=Lib.hid (HFR6.out.kept hb)
  have HIA7:=Lib.hid (HIA6.out.kept hb)
  have HIB7:=Lib.hid (HIB6.out.kept hb)
  have HXA7:=Lib.hid (Ne.runBox_below HXA6.out hb (Ne.runBox_lt HXA6.out))
  have HXB7:=Lib.hid (Ne.runBox_below HXB6.out hb (Ne.runBox_lt HXB6.out))
  clear hb hi hal n0 n1 n2 n3
  obtain ⟨n0,n1,n2,n3⟩:=Ne.netBox_cells HN7.out
  go_wp2_with fail
  refine (FT.out _ _ _ HR7.out HFR7.out).mono ?_
  rintro e v8 ⟨od,cd,sd,rfl,hi,hd1,hd2,hb⟩
  replace hi:=Ne.own_irow hi
  clear hd1 hd2
  have hal:=(Below.refl v8.heap.size v8).alloc (Nat.le_refl _) (.cells #[.slice od ml.length cd,.int .i64 (p2:Int),.int .i64 (k2:Int),.int .i64 sd] 28)
  have HXD8:=Lib.hid (Ne.runBox_at v8 rfl (.slice od ml.length cd) (p2:Int) (k2:Int) sd)
  have HID8:=Lib.hid (hi.kept hal)
  replace hb:=hb.trans (hal.mono hb.size)
  have HB8:=Lib.hid (HB7.out.trans (hb.mono HB7.out.size))
  have HN8:=Lib.hid (Ne.netBox_below HN7.out hb (Ne.netBox_lt HN7.out))
  have HR8:=Lib.hid (HR7.out.kept hb)
  have HIA8:=Lib.hid (HIA7.out.kept hb)
  have HIB8:=Lib.hid (HIB7.out.kept hb)
  have HIC8:=Lib.hid (HIC7.out.kept hb)
  have HXA8:=Lib.hid (Ne.runBox_below HXA7.out hb (Ne.runBox_lt HXA7.out))
  have HXB8:=Lib.hid (Ne.runBox_below HXB7.out hb (Ne.runBox_lt HXB7.out))
  have HXC8:=Lib.hid (Ne.runBox_below HXC7.out hb (Ne.runBox_lt HXC7.out))
  clear hb hi hal n0 n1 n2 n3
  obtain ⟨n0,n1,n2,n3⟩:=Ne.netBox_cells HN8.out
  obtain ⟨ya0,ya1,ya2,ya3⟩:=Ne.runBox_cells HXA8.out
  obtain ⟨yb0,yb1,yb2,yb3⟩:=Ne.runBox_cells HXB8.out
  obtain ⟨yc0,yc1,yc2,yc3⟩:=Ne.runBox_cells HXC8.out
  obtain ⟨yd0,yd1,yd2,yd3⟩:=Ne.runBox_cells HXD8.out
  have hpp:((p:Int) != (p:Int))=false:=by simp
  have hkk:((k:Int) != (k:Int))=false:=by simp
  have hp2:((p2:Int) != (p2:Int))=false:=by simp
  go_wp2_with fail
  refine (SMG.out oa ob ca cb _ HIA8.out HIB8.out).mono ?_
  rintro e v9 ⟨rfl,hb⟩
  have HB9:=Lib.hid (HB8.out.trans (hb.mono HB8.out.size))
  have HN9:=Lib.hid (Ne.netBox_below HN8.out hb (Ne.netBox_lt HN8.out))
  have HR9:=Lib.hid (HR8.out.kept hb)
  have HIA9:=Lib.hid (HIA8.out.kept hb)
  have HIC9:=Lib.hid (HIC8.out.kept hb)
  have HID9:=Lib.hid (HID8.out.kept hb)
  have HXA9:=Lib.hid (Ne.runBox_below HXA8.out hb (Ne.runBox_lt HXA8.out))
  have HXB9:=Lib.hid (Ne.runBox_below HXB8.out hb (Ne.runBox_lt HXB8.out))
  have HXC9:=Lib.hid (Ne.runBox_below HXC8.out hb (Ne.runBox_lt HXC8.out))
  have HXD9:=Lib.hid (Ne.runBox_below HXD8.out hb (Ne.runBox_lt HXD8.out))
  clear hb n0 n1 n2 n3 ya0 ya1 ya2 ya3 yb0 yb1 yb2 yb3 yc0 yc1 yc2 yc3 yd0 yd1 yd2 yd3
  obtain ⟨n0,n1,n2,n3⟩:=Ne.netBox_cells HN9.out
  obtain ⟨ya0,ya1,ya2,ya3⟩:=Ne.runBox_cells HXA9.out
  obtain ⟨yb0,yb1,yb2,yb3⟩:=Ne.runBox_cells HXB9.out
  obtain ⟨yc0,yc1,yc2,yc3⟩:=Ne.runBox_cells HXC9.out
  obtain ⟨yd0,yd1,yd2,yd3⟩:=Ne.runBox_cells HXD9.out
  go_wp2_with fail
  refine (SMH.out oc od cc cd _ HIC9.out HID9.out).mono ?_
  rintro e v10 ⟨rfl,hb⟩
  have HB10:=Lib.hid (HB9.out.trans (hb.mono HB9.out.size))
  have HN10:=Lib.hid (Ne.netBox_below HN9.out hb (Ne.netBox_lt HN9.out))
  have HR10:=Lib.hid (HR9.out.kept hb)
  have HIA10:=Lib.hid (HIA9.out.kept hb)
  have HIC10:=Lib.hid (HIC9.out.kept hb)
  have HXA10:=Lib.hid (Ne.runBox_below HXA9.out hb (Ne.runBox_lt HXA9.out))
  have HXB10:=Lib.hid (Ne.runBox_below HXB9.out hb (Ne.runBox_lt HXB9.out))
  have HXC10:=Lib.hid (Ne.runBox_below HXC9.out hb (Ne.runBox_lt HXC9.out))
  have HXD10:=Lib.hid (Ne.runBox_below HXD9.out hb (Ne.runBox_lt HXD9.out))
  clear hb n0 n1 n2 n3 ya0 ya1 ya2 ya3 yb0 yb1 yb2 yb3 yc0 yc1 yc2 yc3 yd0 yd1 yd2 yd3
  obtain ⟨n0,n1,n2,n3⟩:=Ne.netBox_cells HN10.out
  obtain ⟨ya0,ya1,ya2,ya3⟩:=Ne.runBox_cells HXA10.out
  obtain ⟨yb0,yb1,yb2,yb3⟩:=Ne.runBox_cells HXB10.out
  obtain ⟨yc0,yc1,yc2,yc3⟩:=Ne.runBox_cells HXC10.out
  obtain ⟨yd0,yd1,yd2,yd3⟩:=Ne.runBox_cells HXD10.out
  go_wp2_with fail
  refine (VG.out oa ca _ HR10.out HIA10.out).mono ?_
  rintro e v11 ⟨rfl,hb⟩
  have HB11:=Lib.hid (HB10.out.trans (hb.mono HB10.out.size))
  have HN11:=Lib.hid (Ne.netBox_below HN10.out hb (Ne.netBox_lt HN10.out))
  have HR11:=Lib.hid (HR10.out.kept hb)
  have HIC11:=Lib.hid (HIC10.out.kept hb)
  have HXA11:=Lib.hid (Ne.runBox_below HXA10.out hb (Ne.runBox_lt HXA10.out))
  have HXB11:=Lib.hid (Ne.runBox_below HXB10.out hb (Ne.runBox_lt HXB10.out))
  have HXC11:=Lib.hid (Ne.runBox_below HXC10.out hb (Ne.runBox_lt HXC10.out))
  have HXD11:=Lib.hid (Ne.runBox_below HXD10.out hb (Ne.runBox_lt HXD10.out))
  clear hb n0 n1 n2 n3 ya0 ya1 ya2 ya3 yb0 yb1 yb2 yb3 yc0 yc1 yc2 yc3 yd0 yd1 yd2 yd3
  obtain ⟨n0,n1,n2,n3⟩:=Ne.netBox_cells HN11.out
  obtain ⟨ya0,ya1,ya2,ya3⟩:=Ne.runBox_cells HXA11.out
  obtain ⟨yb0,yb1,yb2,yb3⟩:=Ne.runBox_cells HXB11.out
  obtain ⟨yc0,yc1,yc2,yc3⟩:=Ne.runBox_cells HXC11.out
  obtain ⟨yd0,yd1,yd2,yd3⟩:=Ne.runBox_cells HXD11.out
  go_wp2_with fail
  refine (VH.out oc cc _ HR11.out HIC11.out).mono ?_
  rintro e v12 ⟨rfl,hb⟩
  have HB12:=Lib.hid (HB11.out.trans (hb.mono HB11.out.size))
  have HN12:=Lib.hid (Ne.netBox_below HN11.out hb (Ne.netBox_lt HN11.out))
  have HR12:=Lib.hid (HR11.out.kept hb)
  have HIC12:=Lib.hid (HIC11.out.kept hb)
  have HXA12:=Lib.hid (Ne.runBox_below HXA11.out hb (Ne.runBox_lt HXA11.out))
  have HXB12:=Lib.hid (Ne.runBox_below HXB11.out hb (Ne.runBox_lt HXB11.out))
  have HXC12:=Lib.hid (Ne.runBox_below HXC11.out hb (Ne.runBox_lt HXC11.out))
  have HXD12:=Lib.hid (Ne.runBox_below HXD11.out hb (Ne.runBox_lt HXD11.out))
  clear hb n0 n1 n2 n3 ya0 ya1 ya2 ya3 yb0 yb1 yb2 yb3 yc0 yc1 yc2 yc3 yd0 yd1 yd2 yd3
  obtain ⟨n0,n1,n2,n3⟩:=Ne.netBox_cells HN12.out
  obtain ⟨ya0,ya1,ya2,ya3⟩:=Ne.runBox_cells HXA12.out
  obtain ⟨yb0,yb1,yb2,yb3⟩:=Ne.runBox_cells HXB12.out
  obtain ⟨yc0,yc1,yc2,yc3⟩:=Ne.runBox_cells HXC12.out
  obtain ⟨yd0,yd1,yd2,yd3⟩:=Ne.runBox_cells HXD12.out
  go_wp2_with fail
  refine (FA.out _ _ _ HR12.out HIC12.out).mono ?_
  rintro e v13 ⟨oe,ce,rfl,hi,hb⟩
  have hal:=(Below.refl v13.heap.size v13).alloc (Nat.le_refl _) (.cells #[.slice oe ml.length ce,.int .i64 (0:Int),.int .i64 (0:Int),.int .i64 0] 28)
  have HXE13:=Lib.hid (Ne.runBox_at v13 rfl (.slice oe ml.length ce) (0:Int) (0:Int) 0)
  have HIE13:=Lib.hid (hi.kept hal)
  replace hb:=hb.trans (hal.mono hb.size)
  have HB13:=Lib.hid (HB12.out.trans (hb.mono HB12.out.size))
  have HN13:=Lib.hid (Ne.netBox_below HN12.out hb (Ne.netBox_lt HN12.out))
  have HR13:=Lib.hid (HR12.out.kept hb)
  have HIC13:=Lib.hid (HIC12.out.kept hb)
  have HXA13:=Lib.hid (Ne.runBox_below HXA12.out hb (Ne.runBox_lt HXA12.out))
  have HXB13:=Lib.hid (Ne.runBox_below HXB12.out hb (Ne.runBox_lt HXB12.out))
  have HXC13:=Lib.hid (Ne.runBox_below HXC12.out hb (Ne.runBox_lt HXC12.out))
  have HXD13:=Lib.hid (Ne.runBox_below HXD12.out hb (Ne.runBox_lt HXD12.out))
  clear hb hi hal n0 n1 n2 n3 ya0 ya1 ya2 ya3 yb0 yb1 yb2 yb3 yc0 yc1 yc2 yc3 yd0 yd1 yd2 yd3
  obtain ⟨n0,n1,n2,n3⟩:=Ne.netBox_cells HN13.out
  obtain ⟨ya0,ya1,ya2,ya3⟩:=Ne.runBox_cells HXA13.out
  obtain ⟨yb0,yb1,yb2,yb3⟩:=Ne.runBox_cells HXB13.out
  obtain ⟨yc0,yc1,yc2,yc3⟩:=Ne.runBox_cells HXC13.out
  obtain ⟨yd0,yd1,yd2,yd3⟩:=Ne.runBox_cells HXD13.out
  obtain ⟨e0,e1,e2,e3⟩:=Ne.runBox_cells HXE13.out
  have hv:(vg == vh)=true:=by rw [HVV.out];simp
  have hpz:((0:Int) == 0)=true:=by simp
  have hmv:=HMV.out
  have hml1:IntKind.i64.wrap ((p:Int)*mv)=(p:Int)*mv:=by
   have h1:0≤(p:Int)*mv:=Int.mul_nonneg (by omega) hmv.1
   have h2:(p:Int)*mv≤500*10000000000:=Int.le_trans (Int.mul_le_mul_of_nonneg_right (by have:=HPP.out;omega) hmv.1) (Int.mul_le_mul_of_nonneg_left hmv.2 (by omega))
   rw [IntKind.wrap_i64];omega
  have hsb:decide (sb≤(p:Int)*mv)=true:=by simpa using HSB.out
  have HB13D:=Lib.hid (Ne.below_drew HB13.out)
  have HIED:=Lib.hid (HIE13.out.kept (Ne.below_drew (Below.refl _ _)))
  have HICD:=Lib.hid (HIC13.out.kept (Ne.below_drew (Below.refl _ _)))
  clear hmv
  have lbn:=Ne.netBox_lt HN13.out
  have lb6:=Ne.runBox_lt HXB13.out
  have lb7:=Ne.runBox_lt HXC13.out
  have lb13:=Ne.runBox_lt HXE13.out
  have hS0:=(show (fun w':World=>w'.cell? ⟨bn,0,none⟩=some (.int .i64 (N:Int))∧w'.cell? ⟨bn,1,none⟩=some (.int .i64 (S:Int))∧w'.cell? ⟨bn,2,none⟩=some (.int .i64 (D:Int))∧w'.cell? ⟨bn,3,none⟩=some (.slice om ml.length cm)∧w'.cell? ⟨v6.heap.size,1,none⟩=some (.int .i64 (p:Int))∧w'.cell? ⟨v6.heap.size,3,none⟩=some (.int .i64 sb)∧w'.cell? ⟨v7.heap.size,0,none⟩=some (.slice oc ml.length cc)∧w'.cell? ⟨v13.heap.size,0,none⟩=some (.slice oe ml.length ce)∧w'.cell? ⟨v13.heap.size,1,none⟩=some (.int .i64 0)∧w'.cell? ⟨v13.heap.size,3,none⟩=some (.int .i64 0)) (v13.alloc (.cells #[.slice oe ml.length ce,.int .i64 0,.int .i64 0,.int .i64 0] 28)).drew from ⟨n0,n1,n2,n3,yb1,yb3,yc0,e0,e1,e3⟩)
  clear n0 n1 n2 n3 ya0 ya1 ya2 ya3 yb0 yb1 yb2 yb3 yc0 yc1 yc2 yc3 yd0 yd1 yd2 yd3 e0 e1 e2 e3
  go_wp2
  refine Rh.start (S:=(fun w':World=>w'.cell? ⟨bn,0,none⟩=some (.int .i64 (N:Int))∧w'.cell? ⟨bn,1,none⟩=some (.int .i64 (S:Int))∧w'.cell? ⟨bn,2,none⟩=some (.int .i64 (D:Int))∧w'.cell? ⟨bn,3,none⟩=some (.slice om ml.length cm)∧w'.cell? ⟨v6.heap.size,1,none⟩=some (.int .i64 (p:Int))∧w'.cell? ⟨v6.heap.size,3,none⟩=some (.int .i64 sb)∧w'.cell? ⟨v7.heap.size,0,none⟩=some (.slice oc ml.length cc)∧w'.cell? ⟨v13.heap.size,0,none⟩=some (.slice oe ml.length ce)∧w'.cell? ⟨v13.heap.size,1,none⟩=some (.int .i64 0)∧w'.cell? ⟨v13.heap.size,3,none⟩=some (.int .i64 0))) (by kernel_rfl) ?_
  refine Rh.tk (some 130) (i:=0) (v:=?_) rfl (Or.inl ⟨by rfl,?_⟩) hS0 ?_
  rotate_left
  ·intro w hSw
   go_simp
   try with_reducible rfl
  try simp only [Act.put,Rh.q1,Rh.q2,Rh.q3]
  refine Rh.tk (some 131) (i:=1) (v:=?_) rfl (Or.inl ⟨by rfl,?_⟩) hS0 ?_
  rotate_left
  ·intro w hSw
   go_simp
   try with_reducible rfl
  try simp only [Act.put,Rh.q1,Rh.q2,Rh.q3]
  refine Rh.tk (some 132) (i:=2) (v:=?_) rfl (Or.inl ⟨by rfl,?_⟩) hS0 ?_
  rotate_left
  ·intro w hSw
   go_simp
   try with_reducible rfl
  try simp only [Act.put,Rh.q1,Rh.q2,Rh.q3]
  refine Rh.tk (some 133) (i:=3) (v:=?_) rfl (Or.inl ⟨by rfl,?_⟩) hS0 ?_
  rotate_left
  ·intro w hSw
   go_simp
   try with_reducible rfl
  try simp only [Act.put,Rh.q1,Rh.q2,Rh.q3]
  refine Rh.tk (some 134) (i:=4) (v:=?_) rfl (Or.inl ⟨by rfl,?_⟩) hS0 ?_
  rotate_left
  ·intro w hSw
   go_simp
   try with_reducible rfl
  try simp only [Act.put,Rh.q1,Rh.q2,Rh.q3]
  refine Rh.tk (some 135) (i:=5) (v:=?_) rfl (Or.inl ⟨by rfl,?_⟩) hS0 ?_
  rotate_left
  ·intro w hSw
   go_simp
   try with_reducible rfl
  try simp only [Act.put,Rh.q1,Rh.q2,Rh.q3]
  refine Rh.tk (some 136) (i:=6) (v:=?_) rfl (Or.inl ⟨by rfl,?_⟩) hS0 ?_
  rotate_left
  ·intro w hSw
   go_simp
   try with_reducible rfl
  try simp only [Act.put,Rh.q1,Rh.q2,Rh.q3]
  refine Rh.tk (some 137) (i:=7) (v:=?_) rfl (Or.inl ⟨by rfl,?_⟩) hS0 ?_
  rotate_left
  ·intro w hSw
   go_simp
   try with_reducible rfl
  try simp only [Act.put,Rh.q1,Rh.q2,Rh.q3]
  refine Rh.tk (some 138) (i:=8) (v:=?_) rfl (Or.inl ⟨by rfl,?_⟩) hS0 ?_
  rotate_left
  ·intro w hSw
   go_simp
   try with_reducible rfl
  try simp only [Act.put,Rh.q1,Rh.q2,Rh.q3]
  refine Rh.step (i:=9) (by kernel_rfl) rfl fun K' hK'=>?_
  have HK:=Lib.hid hK'
  clear hK'
  go_simp
  refine (MO.out _).mono ?_
  rintro e v14 ⟨rfl,hb⟩
  have HB14:=Lib.hid (HB13D.out.trans (hb.mono HB13D.out.size))
  have HM14:=Lib.hid hb
  have hS1:=(show (fun w':World=>w'.cell? ⟨bn,0,none⟩=some (.int .i64 (N:Int))∧w'.cell? ⟨bn,1,none⟩=some (.int .i64 (S:Int))∧w'.cell? ⟨bn,2,none⟩=some (.int .i64 (D:Int))∧w'.cell? ⟨bn,3,none⟩=some (.slice om ml.length cm)∧w'.cell? ⟨v6.heap.size,1,none⟩=some (.int .i64 (p:Int))∧w'.cell? ⟨v6.heap.size,3,none⟩=some (.int .i64 sb)∧w'.cell? ⟨v7.heap.size,0,none⟩=some (.slice oc ml.length cc)∧w'.cell? ⟨v13.heap.size,0,none⟩=some (.slice oe ml.length ce)∧w'.cell? ⟨v13.heap.size,1,none⟩=some (.int .i64 0)∧w'.cell? ⟨v13.heap.size,3,none⟩=some (.int .i64 0)) v14 from ⟨(HM14.out.cell (p:=⟨bn,0,none⟩) lbn).trans hS0.1,(HM14.out.cell (p:=⟨bn,1,none⟩) lbn).trans hS0.2.1,(HM14.out.cell (p:=⟨bn,2,none⟩) lbn).trans hS0.2.2.1,(HM14.out.cell (p:=⟨bn,3,none⟩) lbn).trans hS0.2.2.2.1,(HM14.out.cell (p:=⟨v6.heap.size,1,none⟩) lb6).trans hS0.2.2.2.2.1,(HM14.out.cell (p:=⟨v6.heap.size,3,none⟩) lb6).trans hS0.2.2.2.2.2.1,(HM14.out.cell (p:=⟨v7.heap.size,0,none⟩) lb7).trans hS0.2.2.2.2.2.2.1,(HM14.out.cell (p:=⟨v13.heap.size,0,none⟩) lb13).trans hS0.2.2.2.2.2.2.2.1,(HM14.out.cell (p:=⟨v13.heap.size,1,none⟩) lb13).trans hS0.2.2.2.2.2.2.2.2.1,(HM14.out.cell (p:=⟨v13.heap.size,3,none⟩) lb13).trans hS0.2.2.2.2.2.2.2.2.2⟩)
  clear hb
  refine HK.out _ _ ⟨hS1,?_⟩
  clear HK K'
  try simp only [Act.put,Rh.q1,Rh.q2,Rh.q3]
  refine Rh.tk (some 140) (i:=10) (v:=?_) rfl (Or.inl ⟨by rfl,?_⟩) hS1 ?_
  rotate_left
  ·intro w hSw
   go_simp
   try with_reducible rfl
  try simp only [Act.put,Rh.q1,Rh.q2,Rh.q3]
  refine Rh.tk (some 141) (i:=11) (v:=?_) rfl (Or.inl ⟨by rfl,?_⟩) hS1 ?_
  rotate_left
  ·intro w hSw
   go_simp
   try with_reducible rfl
  try simp only [Act.put,Rh.q1,Rh.q2,Rh.q3]
  refine Rh.tk (some 142) (i:=12) (v:=?_) rfl (Or.inl ⟨by rfl,?_⟩) hS1 ?_
  rotate_left
  ·intro w hSw
   go_simp
   try with_reducible rfl
  try simp only [Act.put,Rh.q1,Rh.q2,Rh.q3]
  refine Rh.tk (some 143) (i:=13) (v:=?_) rfl (Or.inl ⟨by rfl,?_⟩) hS1 ?_
  rotate_left
  ·intro w hSw
   go_simp
   try with_reducible rfl
  try simp only [Act.put,Rh.q1,Rh.q2,Rh.q3]
  refine Rh.tk (some 144) (i:=14) (v:=?_) rfl (Or.inl ⟨by rfl,?_⟩) hS1 ?_
  rotate_left
  ·intro w hSw
   go_simp
   try with_reducible rfl
  try simp only [Act.put,Rh.q1,Rh.q2,Rh.q3]
  refine Rh.tk (some 145) (i:=15) (v:=?_) rfl (Or.inl ⟨by rfl,?_⟩) hS1 ?_
  rotate_left
  ·intro w hSw
   go_simp
   try with_reducible rfl
  try simp only [Act.put,Rh.q1,Rh.q2,Rh.q3]
  refine Rh.tk (some 146) (i:=16) (v:=?_) rfl (Or.inl ⟨by rfl,?_⟩) hS1 ?_
  rotate_left
  ·intro w hSw
   go_simp
   try with_reducible rfl
  try simp only [Act.put,Rh.q1,Rh.q2,Rh.q3]
  refine Rh.tk (some 147) (i:=17) (v:=?_) rfl (Or.inl ⟨by rfl,?_⟩) hS1 ?_
  rotate_left
  ·intro w hSw
   go_simp
   try with_reducible rfl
  try simp only [Act.put,Rh.q1,Rh.q2,Rh.q3]
  refine Rh.tk (some 148) (i:=18) (v:=?_) rfl (Or.inl ⟨by rfl,?_⟩) hS1 ?_
  rotate_left
  ·intro w hSw
   go_simp
   try with_reducible rfl
  try simp only [Act.put,Rh.q1,Rh.q2,Rh.q3]
  refine Rh.tk (some 149) (i:=19) (v:=?_) rfl (Or.inl ⟨by rfl,?_⟩) hS1 ?_
  rotate_left
  ·intro w hSw
   go_simp
   try with_reducible rfl
  try simp only [Act.put,Rh.q1,Rh.q2,Rh.q3]
  refine Rh.tk (some 150) (i:=20) (v:=?_) rfl (Or.inl ⟨by rfl,?_⟩) hS1 ?_
  rotate_left
  ·intro w hSw
   go_simp
   try with_reducible rfl
  try simp only [Act.put,Rh.q1,Rh.q2,Rh.q3]
  refine Rh.tk (some 151) (i:=21) (v:=?_) rfl (Or.inl ⟨by rfl,?_⟩) hS1 ?_
  rotate_left
  ·intro w hSw
   go_simp
   try with_reducible rfl
  try simp only [Act.put,Rh.q1,Rh.q2,Rh.q3]
  refine Rh.tk (some 152) (i:=22) (v:=?_) rfl (Or.inl ⟨by rfl,?_⟩) hS1 ?_
  rotate_left
  ·intro w hSw
   go_simp
   try with_reducible rfl
  try simp only [Act.put,Rh.q1,Rh.q2,Rh.q3]
  refine Rh.tk (some 153) (i:=23) (v:=?_) rfl (Or.inl ⟨by rfl,?_⟩) hS1 ?_
  rotate_left
  ·intro w hSw
   go_simp
   try with_reducible rfl
  try simp only [Act.put,Rh.q1,Rh.q2,Rh.q3]
  refine Rh.tk (some 154) (i:=24) (v:=?_) rfl (Or.inl ⟨by rfl,?_⟩) hS1 ?_
  rotate_left
  ·intro w hSw
   go_simp
   try with_reducible rfl
  try simp only [Act.put,Rh.q1,Rh.q2,Rh.q3]
  refine Rh.tk (some 155) (i:=25) (v:=?_) rfl (Or.inl ⟨by rfl,?_⟩) hS1 ?_
  rotate_left
  ·intro w hSw
   go_simp
   try with_reducible rfl
  try simp only [Act.put,Rh.q1,Rh.q2,Rh.q3]
  refine Rh.tk (some 156) (i:=26) (v:=?_) rfl (Or.inl ⟨by rfl,?_⟩) hS1 ?_
  rotate_left
  ·intro w hSw
   go_simp
   try with_reducible rfl
  try simp only [Act.put,Rh.q1,Rh.q2,Rh.q3]
  refine Rh.step (i:=27) (by kernel_rfl) rfl fun K' hK'=>?_
  have HK:=Lib.hid hK'
  clear hK'
  go_simp
  refine (SMH.out oe oc ce cc _ (HIED.out.kept HM14.out) (HICD.out.kept HM14.out)).mono ?_
  rintro e v15 ⟨rfl,hb⟩
  have HB15:=Lib.hid (HB14.out.trans (hb.mono HB14.out.size))
  have HM15:=Lib.hid (HM14.out.trans (hb.mono HM14.out.size))
  have hS2:=(show (fun w':World=>w'.cell? ⟨bn,0,none⟩=some (.int .i64 (N:Int))∧w'.cell? ⟨bn,1,none⟩=some (.int .i64 (S:Int))∧w'.cell? ⟨bn,2,none⟩=some (.int .i64 (D:Int))∧w'.cell? ⟨bn,3,none⟩=some (.slice om ml.length cm)∧w'.cell? ⟨v6.heap.size,1,none⟩=some (.int .i64 (p:Int))∧w'.cell? ⟨v6.heap.size,3,none⟩=some (.int .i64 sb)∧w'.cell? ⟨v7.heap.size,0,none⟩=some (.slice oc ml.length cc)∧w'.cell? ⟨v13.heap.size,0,none⟩=some (.slice oe ml.length ce)∧w'.cell? ⟨v13.heap.size,1,none⟩=some (.int .i64 0)∧w'.cell? ⟨v13.heap.size,3,none⟩=some (.int .i64 0)) v15 from ⟨(HM15.out.cell (p:=⟨bn,0,none⟩) lbn).trans hS0.1,(HM15.out.cell (p:=⟨bn,1,none⟩) lbn).trans hS0.2.1,(HM15.out.cell (p:=⟨bn,2,none⟩) lbn).trans hS0.2.2.1,(HM15.out.cell (p:=⟨bn,3,none⟩) lbn).trans hS0.2.2.2.1,(HM15.out.cell (p:=⟨v6.heap.size,1,none⟩) lb6).trans hS0.2.2.2.2.1,(HM15.out.cell (p:=⟨v6.heap.size,3,none⟩) lb6).trans hS0.2.2.2.2.2.1,(HM15.out.cell (p:=⟨v7.heap.size,0,none⟩) lb7).trans hS0.2.2.2.2.2.2.1,(HM15.out.cell (p:=⟨v13.heap.size,0,none⟩) lb13).trans hS0.2.2.2.2.2.2.2.1,(HM15.out.cell (p:=⟨v13.heap.size,1,none⟩) lb13).trans hS0.2.2.2.2.2.2.2.2.1,(HM15.out.cell (p:=⟨v13.heap.size,3,none⟩) lb13).trans hS0.2.2.2.2.2.2.2.2.2⟩)
  clear hb
  refine HK.out _ _ ⟨hS2,?_⟩
  clear HK K'
  try simp only [Act.put,Rh.q1,Rh.q2,Rh.q3]
  refine Rh.tk (some 158) (i:=28) (v:=?_) rfl (Or.inl ⟨by rfl,?_⟩) hS2 ?_
  rotate_left
  ·intro w hSw
   go_simp
   try with_reducible rfl
  try simp only [Act.put,Rh.q1,Rh.q2,Rh.q3]
  refine Rh.tk (some 159) (i:=29) (v:=?_) rfl (Or.inl ⟨by rfl,?_⟩) hS2 ?_
  rotate_left
  ·intro w hSw
   go_simp
   try with_reducible rfl
  try simp only [Act.put,Rh.q1,Rh.q2,Rh.q3]
  refine Rh.tk (some 160) (i:=30) (v:=?_) rfl (Or.inl ⟨by rfl,?_⟩) hS2 ?_
  rotate_left
  ·intro w hSw
   go_simp
   try with_reducible rfl
  try simp only [Act.put,Rh.q1,Rh.q2,Rh.q3]
  refine Rh.tk (some 161) (i:=31) (v:=?_) rfl (Or.inl ⟨by rfl,?_⟩) hS2 ?_
  rotate_left
  ·intro w hSw
   go_simp
   try with_reducible rfl
  try simp only [Act.put,Rh.q1,Rh.q2,Rh.q3]
  refine Rh.tk (some 162) (i:=32) (v:=?_) rfl (Or.inl ⟨by rfl,?_⟩) hS2 ?_
  rotate_left
  ·intro w hSw
   go_simp
   try with_reducible rfl
  try simp only [Act.put,Rh.q1,Rh.q2,Rh.q3]
  refine Rh.tk (some 163) (i:=33) (v:=?_) rfl (Or.inl ⟨by rfl,?_⟩) hS2 ?_
  rotate_left
  ·intro w hSw
   go_simp
   try with_reducible rfl
  try simp only [Act.put,Rh.q1,Rh.q2,Rh.q3]
  refine Rh.tk (some 8) (i:=34) (v:=?_) rfl (Or.inl ⟨by rfl,?_⟩) hS2 ?_
  rotate_left
  ·intro w hSw
   go_simp
   try with_reducible rfl
  try simp only [Act.put,Rh.q1,Rh.q2,Rh.q3]
  refine Rh.done (by kernel_rfl) ?_ _
  go_wp2
  go_ret
  exact ⟨rfl,HB15.out⟩

end Go.Proofs.YtmikbkggjlbbnaaGreat.dinicEngines
