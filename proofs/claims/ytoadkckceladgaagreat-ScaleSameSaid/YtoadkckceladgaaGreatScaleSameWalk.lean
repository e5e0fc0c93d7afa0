/- ScaleSame: for every input the law returns true and its arguments read as they did. No condition. -/
import Derived.Test.YtoadkckceladgaaGreatBb43
import Derived.Test.YtoadkckceladgaaGreatBb4
import Derived.Deep.LoopGhost
import Derived.Deep.DeepCutAuto
import Derived.RegionTactic
import Derived.BigRegion
import Derived.Test.YtoadkckceladgaaGreatBb14
import Derived.Test.YtoadkckceladgaaGreatRows
import Derived.WalkKit
import Derived.ProofKit
import Derived.OpenShut
import Derived.ShutString
import Derived.ChangeOld
import Derived.Below
import Derived.Deep.Strs
namespace Go.Proofs.YtoadkckceladgaaGreat.scaleSame
open Go.ChangeShapes Go.WideShapes Go.ChangeAt Go.RowKit
open Go.ChangeMaps (open_string shut_string)
set_option linter.unusedVariables false
set_option linter.unusedSimpArgs false

theorem own : ownKnob Tryz.prog.godebug = none := by kernel_rfl
theorem laidOut : laidOutB Tryz.prog = true := by kernel_rfl



set_option maxRecDepth 100000 in
set_option maxHeartbeats 4000000 in
theorem walk (a0 : Int) (a1 : Int) (a2 : List Ne.Arc) (o2 : Option Addr) (c2 : Nat) (w : World) (w0 : (Lit.int .i64 a0).wf = true) (w1 : (Lit.int .i64 a1).wf = true) (k2 : ∀ a ∈ a2, Ne.Arc.ok a) (z2 : a2.length ≤ c2) (y2 : c2 ≤ maxLen) (n2 : o2 = none → c2 = 0) (r2 : Ne.ARow w o2 a2) :
    Calls Tryz.prog 7 #[.int .i64 a0, .int .i64 a1, .slice o2 a2.length c2] w fun e w' => e = .returned (.bool true) ∧ Below w.heap.size w w' := by
  have HSH:=Lib.hid (Ne.shown_any w)
  obtain ⟨mn,hmn⟩:∃ x,x=(Ne.madeN a0 a1 a2).n:=⟨_,rfl⟩
  obtain ⟨ms,hms⟩:∃ x,x=(Ne.madeN a0 a1 a2).s:=⟨_,rfl⟩
  obtain ⟨mt,hmt⟩:∃ x,x=(Ne.madeN a0 a1 a2).t:=⟨_,rfl⟩
  obtain ⟨ml,hml⟩:∃ x,x=(Ne.madeN a0 a1 a2).l:=⟨_,rfl⟩
  have em:Ne.madeN a0 a1 a2=⟨mn,ms,mt,ml⟩:=by rw [hmn,hms,hmt,hml]
  obtain ⟨f1,f2,f3,f4,f5,f6,f7,f8,f9⟩:=Ne.madeN_fine (nodes:=a0) (ends:=a1) k2
  have ck:=Ne.made_check (nodes:=a0) (ends:=a1) k2
  have MD:=Lib.hid fun w' (h:Ne.ARow w' o2 a2)=>Ne.made_s a0 a1 a2 o2 c2 w' (bounds_i64 w0) (bounds_i64 w1) k2 h
  rw [em] at MD f1 f2 f3 f4 f5 f6 f7 f8 f9 ck
  simp only at f1 f2 f3 f4 f5 f6 f7 f8 f9
  clear hmn hms hmt hml em
  have f8':ml.length≤24:=by omega
  clear f8
  have CK:=Lib.hid ck
  have RT:=Lib.hid (Ne.right_of ck)
  have FI:=Lib.hid f9
  have CAP:=Lib.hid (show ∀ a∈ml,Ne.in64 a.cap from fun a ha=>by have:=(f9 a ha).2.2;unfold Ne.in64;omega)
  have hl6:ml.length≤1000000:=by omega
  have F7:=Lib.hid f7
  have RA:=Lib.hid r2
  clear r2 f7 f9 ck
  obtain ⟨N,rfl⟩:∃ N:Nat,mn=(N:Int):=⟨mn.toNat,by omega⟩
  obtain ⟨S,rfl⟩:∃ S:Nat,ms=(S:Int):=⟨ms.toNat,by omega⟩
  obtain ⟨D,rfl⟩:∃ D:Nat,mt=(D:Int):=⟨mt.toNat,by omega⟩
  obtain ⟨K,hsk,hk63,hk0,hkhi,hklo⟩:=Ne.sta_is (l:=(⟨(N:Int),(S:Int),(D:Int),ml⟩:Ne.Net).l) (by have:=Ne.mxC_right (n:=⟨(N:Int),(S:Int),(D:Int),ml⟩) RT.out;simp only at this ⊢;omega)
  obtain ⟨h,ts,hsq⟩:=Ne.sqs_exists (n:=⟨(N:Int),(S:Int),(D:Int),ml⟩) RT.out (Ne.rms K) (List.replicate (⟨(N:Int),(S:Int),(D:Int),ml⟩:Ne.Net).l.length 0) (fun x hx=>Ne.rms_pos x hx) (Ne.flow_nought RT.out)
  have MX:=Lib.hid fun (q:Bool) (ao:Option Addr) (cap:Nat) w' (h1:Ne.ARow w' ao (⟨(N:Int),(S:Int),(D:Int),ml⟩:Ne.Net).l)=>Ne.smax_flow ⟨(N:Int),(S:Int),(D:Int),ml⟩ ao cap w' CK.out h1 hsq hsk hk63 q
  have TF:=Lib.hid fun i (hi:i<K)=>Ne.turn_facts (n:=⟨(N:Int),(S:Int),(D:Int),ml⟩) RT.out hsq hi
  have TE:=Lib.hid (Ne.turn_end (n:=⟨(N:Int),(S:Int),(D:Int),ml⟩) RT.out hsq)
  have TD:=Lib.hid (Ne.turn_done (n:=⟨(N:Int),(S:Int),(D:Int),ml⟩) RT.out hsq hsk)
  have TL:=Lib.hid (show ts.length=K by have:=Ne.sqs_len hsq;rwa [Ne.rms_len] at this)
  have SQ:=Lib.hid hsq
  have SK:=Lib.hid (And.intro hsk hk63)
  have KX:=Lib.hid (And.intro hk0 (And.intro hkhi hklo))
  clear hsk hk63 hk0 hkhi hklo hsq
  have MF:=Lib.hid fun ao cap w' h1=>MX.out false ao cap w' h1
  have MT:=Lib.hid fun ao cap w' h1=>MX.out true ao cap w' h1
  have MA:=Lib.hid fun ao cap w' h1=>Ne.smax_arg ⟨(N:Int),(S:Int),(D:Int),ml⟩ ao cap 115 w' CK.out h1 (by decide) (by decide)
  simp only [Ne.engC,Bool.false_eq_true,if_false,if_true] at MT MF
  clear MX
  have HFH:=Lib.hid TD.out.1
  have FA:=Lib.hid fun ao cap fo fc w' (h1:Ne.ARow w' ao ml) h2=>show Calls Tryz.prog 20 #[Ne.encN ⟨(N:Int),(S:Int),(D:Int),ml⟩ ao cap,.slice fo ml.length fc,.int .i64 1,.int .u8 116] w' fun e w2=>∃ o c,e=.returned (.tuple #[.agg #[.slice o ml.length c,.int .i64 0,.int .i64 0,.int .i64 0],.int .i64 0])∧Ne.IRow w2 o h∧Below w'.heap.size w' w2 from by
   refine (Ne.from_flow (n:=⟨(N:Int),(S:Int),(D:Int),ml⟩) ao cap fo fc w' CK.out h1 h2 HFH.out.okf (Int.le_refl 1) TD.out.2.1 true).mono ?_
   rintro e w2 ⟨o,c,st,e1,e2,e3,e4,e5⟩
   obtain rfl:st=0:=by rw [show ((0:Nat):Int)=0 from rfl,Int.zero_mul] at e4;omega
   exact ⟨o,c,e1,Ne.own_irow e2,e5⟩
  have SM:=Lib.hid fun x1 x2 y1 y2 w' h1 h2=>show Calls Tryz.prog 12 #[.slice x1 ml.length y1,.slice x2 ml.length y2] w' fun e w2=>e=.returned (.bool true)∧Below w'.heap.size w' w2 from by
   have hfl:h.length=ml.length:=HFH.out.len
   have:=Ne.rsame_l x1 x2 y1 y2 h h w' h1 h2 (by omega) (by omega)
   rwa [hfl,show decide (h=h)=true by simp] at this
  have HKL:=Lib.hid SK.out.2
  go_enter Tryz.func7,Tryz.ntmps7
  go_wp2_with fail
  refine HSH.out.mono ?_
  rintro e w1 ⟨rfl,hb⟩
  have HB1:=Lib.hid hb
  clear hb
  go_wp2_with fail
  refine (MD.out _ (RA.out.kept HB1.out)).mono ?_
  rintro e w2 ⟨om,cm,rfl,ho,hb⟩
  have HB2:=Lib.hid (HB1.out.trans (hb.mono HB1.out.size))
  have HV2:=Lib.hid (Rw.own_lt ho)
  have HO3:=Lib.hid (Rw.own_base (Rw.own_alloc ho (.cells #[.int .i64 (N:Int),.int .i64 (S:Int),.int .i64 (D:Int),.slice om ml.length cm] 24)) (B':=w.heap.size) HB1.out.size)
  have HN3:=Lib.hid (Ne.netBox_new w2 (N:Int) (S:Int) (D:Int) (.slice om ml.length cm))
  have hz2:w.heap.size≤w2.heap.size:=HB2.out.size
  have HB3:=Lib.hid (HB2.out.alloc hz2 (.cells #[.int .i64 (N:Int),.int .i64 (S:Int),.int .i64 (D:Int),.slice om ml.length cm] 24))
  clear ho hb MD RA HSH
  go_wp2_with fail
  obtain ⟨bn,hbn⟩:∃ b,b=w2.heap.size:=⟨_,rfl⟩
  have hbn3:bn<(w2.alloc (.cells #[.int .i64 (N:Int),.int .i64 (S:Int),.int .i64 (D:Int),.slice om ml.length cm] 24)).heap.size:=by rw [hbn];simp
  rw [← hbn] at HN3 HV2 hz2 ⊢
  clear hbn HB2 HB1
  generalize (w2.alloc (.cells #[.int .i64 (N:Int),.int .i64 (S:Int),.int .i64 (D:Int),.slice om ml.length cm] 24))=W3 at *
  have HR3:=Lib.hid (Ne.arow_ofA HO3.out)
  obtain ⟨n0,n1,n2,n3⟩:=Ne.netBox_cells HN3.out
  refine (MF.out om cm _ HR3.out).mono ?_
  rintro e w4 ⟨oa,ca,ot,ct,rfl,hi,ht,hb⟩
  have HB4:=Lib.hid (HB3.out.trans (hb.mono HB3.out.size))
  have HN4:=Lib.hid (Ne.netBox_below HN3.out hb (Ne.netBox_lt HN3.out))
  have HR4:=Lib.hid (HR3.out.kept hb)
  have HT4:=Lib.hid ht
  have HI4:=Lib.hid hi
  clear hb hi ht n0 n1 n2 n3
  obtain ⟨n0,n1,n2,n3⟩:=Ne.netBox_cells HN4.out
  go_wp2_with fail
  refine (MT.out om cm _ HR4.out).mono ?_
  rintro e w5 ⟨ob,cb,ou,cu,rfl,hi,ht,hb⟩
  have HB5:=Lib.hid (HB4.out.trans (hb.mono HB4.out.size))
  have HN5:=Lib.hid (Ne.netBox_below HN4.out hb (Ne.netBox_lt HN4.out))
  have HR5:=Lib.hid (HR4.out.kept hb)
  have HT5:=Lib.hid (HT4.out.kept hb)
  have HI5:=Lib.hid (HI4.out.kept hb)
  have HU5:=Lib.hid ht
  have HJ5:=Lib.hid hi
  clear hb hi ht n0 n1 n2 n3
  have hll:((K:Int) != (K:Int))=false:=by simp
  go_wp2_with fail
  refine (SM.out oa ob ca cb _ HI5.out HJ5.out).mono ?_
  rintro e w6 ⟨rfl,hb⟩
  have HB6:=Lib.hid (HB5.out.trans (hb.mono HB5.out.size))
  have HN6:=Lib.hid (Ne.netBox_below HN5.out hb (Ne.netBox_lt HN5.out))
  have HR6:=Lib.hid (HR5.out.kept hb)
  have HT6:=Lib.hid (HT5.out.kept hb)
  have HU6:=Lib.hid (HU5.out.kept hb)
  have HI6:=Lib.hid (HI5.out.kept hb)
  clear hb
  go_wp2
  go_loopg [15] K (fun gg s15 wr=>∃ j:Nat,s15=.int .i64 (j:Int)∧j+gg=K∧Hid (Below w6.heap.size w6 wr))
  case atStart=>exact ⟨0,rfl,by omega,Lib.hid (Below.refl _ _)⟩
  case round =>
   obtain ⟨j,rfl,hjg,HBW⟩:=hrel
   have hk63:=HKL.out
   by_cases hlt:j<K
   ·have hji:(j:Int)<(K:Int):=by omega
    have hj0:(0:Int)≤(j:Int):=by omega
    have hw1:IntKind.i64.wrap ((j:Int)+1)=((j+1:Nat):Int):=by rw [IntKind.wrap_i64];omega
    have hbd:=Ne.below_drew (Below.refl wr.heap.size wr)
    obtain ⟨tb,toff,e9,htb,d0,d1,d2,d3⟩:=Ne.trow_cell ((HT6.out.kept HBW.out).kept hbd) (i:=j) (by rw [TL.out];exact hlt)
    subst e9
    obtain ⟨ub,uoff,e9,hub,u0,u1,u2,u3⟩:=Ne.trow_cell ((HU6.out.kept HBW.out).kept hbd) (i:=j) (by rw [TL.out];exact hlt)
    subst e9
    rcases htn:Ne.tnAt ts j with ⟨tx,tp,tk,tv⟩
    rw [htn] at d0 d1 d2 d3 u0 u1 u2 u3
    simp only at d0 d1 d2 d3 u0 u1 u2 u3
    have HB2:=Lib.hid (HBW.out.trans (hbd.mono HBW.out.size))
    have HGG:=Lib.hid (show j+1+(gk-1)=K∧gk-1<gk by omega)
    have hS0:=(show (fun w':World=>w'.cell? ⟨tb,toff+j*4,none⟩=some (.int .i64 tx)∧w'.cell? ⟨tb,toff+j*4+1,none⟩=some (.int .i64 (tp:Int))∧w'.cell? ⟨tb,toff+j*4+2,none⟩=some (.int .i64 (tk:Int))∧w'.cell? ⟨tb,toff+j*4+3,none⟩=some (.int .i64 tv)∧w'.cell? ⟨ub,uoff+j*4,none⟩=some (.int .i64 tx)∧w'.cell? ⟨ub,uoff+j*4+1,none⟩=some (.int .i64 (tp:Int))∧w'.cell? ⟨ub,uoff+j*4+2,none⟩=some (.int .i64 (tk:Int))∧w'.cell? ⟨ub,uoff+j*4+3,none⟩=some (.int .i64 tv)) wr.drew from ⟨d0,d1,d2,d3,u0,u1,u2,u3⟩)
    clear hbd htn d0 d1 d2 d3 u0 u1 u2 u3
    go_wp2
    refine Rh.start (S:=(fun w':World=>w'.cell? ⟨tb,toff+j*4,none⟩=some (.int .i64 tx)∧w'.cell? ⟨tb,toff+j*4+1,none⟩=some (.int .i64 (tp:Int))∧w'.cell? ⟨tb,toff+j*4+2,none⟩=some (.int .i64 (tk:Int))∧w'.cell? ⟨tb,toff+j*4+3,none⟩=some (.int .i64 tv)∧w'.cell? ⟨ub,uoff+j*4,none⟩=some (.int .i64 tx)∧w'.cell? ⟨ub,uoff+j*4+1,none⟩=some (.int .i64 (tp:Int))∧w'.cell? ⟨ub,uoff+j*4+2,none⟩=some (.int .i64 (tk:Int))∧w'.cell? ⟨ub,uoff+j*4+3,none⟩=some (.int .i64 tv))) (by kernel_rfl) ?_
    refine Rh.tp 65 0 hS0 ?_
    refine Rh.tp 66 1 hS0 ?_
    refine Rh.tp 67 2 hS0 ?_
    refine Rh.tp 68 3 hS0 ?_
    refine Rh.tp 69 4 hS0 ?_
    refine Rh.tp 70 5 hS0 ?_
    refine Rh.tp 71 6 hS0 ?_
    refine Rh.tp 72 7 hS0 ?_
    refine Rh.tp 73 8 hS0 ?_
    refine Rh.done (by kernel_rfl) ?_ _
    go_wp2
    go_roundg (gk-1)
    case measure=>exact HGG.out.2
    case rel=>exact ⟨j+1,rfl,HGG.out.1,HB2⟩
   ·have ek:j=K:=by omega
    subst ek
    have hji:decide ((j:Int)<(j:Int))=false:=by simp
    have HNW:=Lib.hid (Ne.netBox_below HN6.out HBW.out (Ne.netBox_lt HN6.out))
    have HRW:=Lib.hid (HR6.out.kept HBW.out)
    have HIW:=Lib.hid (HI6.out.kept HBW.out)
    obtain ⟨n0,n1,n2,n3⟩:=Ne.netBox_cells HNW.out
    go_wp2_with fail
    refine (FA.out om cm oa ca _ HRW.out HIW.out).mono ?_
    rintro e w7 ⟨oc,cc,rfl,hi,hb⟩
    have hal:=(Below.refl w7.heap.size w7).alloc (Nat.le_refl _) (.cells #[.slice oc ml.length cc,.int .i64 0,.int .i64 0,.int .i64 0] 41)
    have HX7:=Lib.hid (Ne.runBox_at w7 rfl (.slice oc ml.length cc) 0 0 0)
    have HC7:=Lib.hid (hi.kept hal)
    replace hb:=hb.trans (hal.mono hb.size)
    have HB7:=Lib.hid (HBW.out.trans (hb.mono HBW.out.size))
    have HN7:=Lib.hid (Ne.netBox_below HNW.out hb (Ne.netBox_lt HNW.out))
    have HR7:=Lib.hid (HRW.out.kept hb)
    have HI7:=Lib.hid (HIW.out.kept hb)
    clear hb hal hi n0 n1 n2 n3
    obtain ⟨n0,n1,n2,n3⟩:=Ne.netBox_cells HN7.out
    go_wp2_with fail
    refine (MA.out om cm _ HR7.out).mono ?_
    rintro e w8 ⟨od,cd,ov,cv,rfl,hb⟩
    have HX8:=Lib.hid (Ne.runBox_below HX7.out hb (Ne.runBox_lt HX7.out))
    have HC8:=Lib.hid (HC7.out.kept hb)
    have HI8:=Lib.hid (HI7.out.kept hb)
    have HB8:=Lib.hid (HB7.out.trans (hb.mono HB7.out.size))
    clear hb n0 n1 n2 n3
    obtain ⟨x0,x1,x2,x3⟩:=Ne.runBox_cells HX8.out
    go_wp2_with fail
    refine (SM.out oc oa cc ca _ HC8.out HI8.out).mono ?_
    rintro e w9 ⟨rfl,hb⟩
    have HB9:=Lib.hid (HB8.out.trans (hb.mono HB8.out.size))
    clear hb x0 x1 x2 x3
    go_wp2
    go_ret
    exact ⟨rfl,HB6.out.trans (HB9.out.mono HB6.out.size)⟩

end Go.Proofs.YtoadkckceladgaaGreat.scaleSame
