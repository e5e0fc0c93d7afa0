/- ScaleRise: for every input the law returns true and its arguments read as they did. No condition. -/
import Derived.Test.YtoadkckceladgaaGreatBb43
import Derived.Test.YtoadkckceladgaaGreatBb4
import Derived.Deep.LoopGhost
import Derived.Deep.DeepCutAuto
import Derived.RegionTactic
import Derived.BigRegion
import Derived.Test.YtoadkckceladgaaGreatRows
import Derived.WalkKit
import Derived.ProofKit
import Derived.OpenShut
import Derived.ShutString
import Derived.ChangeOld
import Derived.Below
import Derived.Deep.Strs
namespace Go.Proofs.YtoadkckceladgaaGreat.scaleRise
open Go.ChangeShapes Go.WideShapes Go.ChangeAt Go.RowKit
open Go.ChangeMaps (open_string shut_string)
set_option linter.unusedVariables false
set_option linter.unusedSimpArgs false

theorem own : ownKnob Tryz.prog.godebug = none := by kernel_rfl
theorem laidOut : laidOutB Tryz.prog = true := by kernel_rfl



set_option maxRecDepth 100000 in
set_option maxHeartbeats 4000000 in
theorem walk (a0 : Int) (a1 : Int) (a2 : List Ne.Arc) (o2 : Option Addr) (c2 : Nat) (a3 : Bool) (w : World) (w0 : (Lit.int .i64 a0).wf = true) (w1 : (Lit.int .i64 a1).wf = true) (k2 : ∀ a ∈ a2, Ne.Arc.ok a) (z2 : a2.length ≤ c2) (y2 : c2 ≤ maxLen) (n2 : o2 = none → c2 = 0) (r2 : Ne.ARow w o2 a2) :
    Calls Tryz.prog 8 #[.int .i64 a0, .int .i64 a1, .slice o2 a2.length c2, .bool a3] w fun e w' => e = .returned (.bool true) ∧ Below w.heap.size w w' := by
  have HSH:=Lib.hid (Ne.shown_any w)
  obtain ⟨mn,hmn⟩:∃ x,x=(Ne.madeN a0 a1 a2).n:=⟨_,rfl⟩
  obtain ⟨ms,hms⟩:∃ x,x=(Ne.madeN a0 a1 a2).s:=⟨_,rfl⟩
  obtain ⟨mt,hmt⟩:∃ x,x=(Ne.madeN a0 a1 a2).t:=⟨_,rfl⟩
  obtain ⟨ml,hml⟩:∃ x,x=(Ne.madeN a0 a1 a2).l:=⟨_,rfl⟩
  have em:Ne.madeN a0 a1 a2=⟨mn,ms,mt,ml⟩:=by rw [hmn,hms,hmt,hml]
  obtain ⟨f1,f2,f3,f4,f5,f6,f7,f8,f9⟩:=Ne.madeN_fine (nodes:=a0) (ends:=a1) k2
  have ck:=Ne.made_check (nodes:=a0) (ends:=a1) k2
  have MD:=Lib.hid fun w' (h:Ne.ARow w' o2 a2)=>Ne.made_s a0 a1 a2 o2 c2 w' (bounds_i64 w0) (bounds_i64 w1) k2 h
  rw [em] at MD f1 f2 f3 f4 f5 f6 f7 f8 f9 ck
  simp only at f1 f2 f3 f4 f5 f6 f7 f8 f9
  clear hmn hms hmt hml em
  have f8':ml.length≤24:=by omega
  clear f8
  have CK:=Lib.hid ck
  have RT:=Lib.hid (Ne.right_of ck)
  have FI:=Lib.hid f9
  have CAP:=Lib.hid (show ∀ a∈ml,Ne.in64 a.cap from fun a ha=>by have:=(f9 a ha).2.2;unfold Ne.in64;omega)
  have hl6:ml.length≤1000000:=by omega
  have F7:=Lib.hid f7
  have RA:=Lib.hid r2
  clear r2 f7 f9 ck
  obtain ⟨N,rfl⟩:∃ N:Nat,mn=(N:Int):=⟨mn.toNat,by omega⟩
  obtain ⟨S,rfl⟩:∃ S:Nat,ms=(S:Int):=⟨ms.toNat,by omega⟩
  obtain ⟨D,rfl⟩:∃ D:Nat,mt=(D:Int):=⟨mt.toNat,by omega⟩
  obtain ⟨K,hsk,hk63,hk0,hkhi,hklo⟩:=Ne.sta_is (l:=(⟨(N:Int),(S:Int),(D:Int),ml⟩:Ne.Net).l) (by have:=Ne.mxC_right (n:=⟨(N:Int),(S:Int),(D:Int),ml⟩) RT.out;simp only at this ⊢;omega)
  obtain ⟨h,ts,hsq⟩:=Ne.sqs_exists (n:=⟨(N:Int),(S:Int),(D:Int),ml⟩) RT.out (Ne.rms K) (List.replicate (⟨(N:Int),(S:Int),(D:Int),ml⟩:Ne.Net).l.length 0) (fun x hx=>Ne.rms_pos x hx) (Ne.flow_nought RT.out)
  have MX:=Lib.hid fun (q:Bool) (ao:Option Addr) (cap:Nat) w' (h1:Ne.ARow w' ao (⟨(N:Int),(S:Int),(D:Int),ml⟩:Ne.Net).l)=>Ne.smax_flow ⟨(N:Int),(S:Int),(D:Int),ml⟩ ao cap w' CK.out h1 hsq hsk hk63 q
  have TF:=Lib.hid fun i (hi:i<K)=>Ne.turn_facts (n:=⟨(N:Int),(S:Int),(D:Int),ml⟩) RT.out hsq hi
  have TE:=Lib.hid (Ne.turn_end (n:=⟨(N:Int),(S:Int),(D:Int),ml⟩) RT.out hsq)
  have TD:=Lib.hid (Ne.turn_done (n:=⟨(N:Int),(S:Int),(D:Int),ml⟩) RT.out hsq hsk)
  have TL:=Lib.hid (show ts.length=K by have:=Ne.sqs_len hsq;rwa [Ne.rms_len] at this)
  have SQ:=Lib.hid hsq
  have SK:=Lib.hid (And.intro hsk hk63)
  have KX:=Lib.hid (And.intro hk0 (And.intro hkhi hklo))
  clear hsk hk63 hk0 hkhi hklo hsq
  have KB:=Lib.hid fun i (hi:i<K)=>Ne.first_small FI.out SK.out.1 hi
  have HN9:N≤9:=by omega
  cases a3
  case' false=>have MQ:=Lib.hid fun ao cap w' h1=>MX.out false ao cap w' h1
  case' true=>have MQ:=Lib.hid fun ao cap w' h1=>MX.out true ao cap w' h1
  all_goals
   simp only [Ne.engC,Bool.false_eq_true,if_false,if_true] at MQ
   clear MX
   go_enter Tryz.func8,Tryz.ntmps8
   go_wp2_with fail
   refine HSH.out.mono ?_
   rintro e w1 ⟨rfl,hb⟩
   have HB1:=Lib.hid hb
   clear hb
   go_wp2_with fail
   refine (MD.out _ (RA.out.kept HB1.out)).mono ?_
   rintro e w2 ⟨om,cm,rfl,ho,hb⟩
   have HB2:=Lib.hid (HB1.out.trans (hb.mono HB1.out.size))
   have HV2:=Lib.hid (Rw.own_lt ho)
   have HO3:=Lib.hid (Rw.own_base (Rw.own_alloc ho (.cells #[.int .i64 (N:Int),.int .i64 (S:Int),.int .i64 (D:Int),.slice om ml.length cm] 24)) (B':=w.heap.size) HB1.out.size)
   have HN3:=Lib.hid (Ne.netBox_new w2 (N:Int) (S:Int) (D:Int) (.slice om ml.length cm))
   have hz2:w.heap.size≤w2.heap.size:=HB2.out.size
   have HB3:=Lib.hid (HB2.out.alloc hz2 (.cells #[.int .i64 (N:Int),.int .i64 (S:Int),.int .i64 (D:Int),.slice om ml.length cm] 24))
   clear ho hb MD RA HSH
   go_wp2_with fail
   obtain ⟨bn,hbn⟩:∃ b,b=w2.heap.size:=⟨_,rfl⟩
   have hbn3:bn<(w2.alloc (.cells #[.int .i64 (N:Int),.int .i64 (S:Int),.int .i64 (D:Int),.slice om ml.length cm] 24)).heap.size:=by rw [hbn];simp
   rw [← hbn] at HN3 HV2 hz2 ⊢
   clear hbn HB2 HB1
   generalize (w2.alloc (.cells #[.int .i64 (N:Int),.int .i64 (S:Int),.int .i64 (D:Int),.slice om ml.length cm] 24))=W3 at *
   have HR3:=Lib.hid (Ne.arow_ofA HO3.out)
   obtain ⟨n0,n1,n2,n3⟩:=Ne.netBox_cells HN3.out
   refine (MQ.out om cm _ HR3.out).mono ?_
   rintro e w4 ⟨oa,ca,ot,ct,rfl,hi,ht,hb⟩
   have HB4:=Lib.hid (HB3.out.trans (hb.mono HB3.out.size))
   have HN4:=Lib.hid (Ne.netBox_below HN3.out hb (Ne.netBox_lt HN3.out))
   have HT4:=Lib.hid ht
   clear hb hi ht n0 n1 n2 n3
   have HKL:=Lib.hid SK.out.2
   have HM1:=Lib.hid (fun j (h:j<K)=>Ne.arcs_some (SK.out.1) h)
   go_wp2
   go_loopg [15,16,17] K (fun gg s15 s16 s17 wr=>(∃ z,s17=z)∧∃ j:Nat,s15=.int .i64 (Ne.wasV ts j)∧s16=.int .i64 (j:Int)∧j+gg=K∧Hid (Below w4.heap.size w4 wr))
   case atStart=>exact ⟨⟨_,rfl⟩,0,rfl,rfl,by omega,Lib.hid (Below.refl _ _)⟩
   case round =>
    obtain ⟨⟨z17,rfl⟩,j,rfl,rfl,hjg,HBW⟩:=hrel
    have HNW:=Lib.hid (Ne.netBox_below HN4.out HBW.out (Ne.netBox_lt HN4.out))
    obtain ⟨n0,n1,n2,n3⟩:=Ne.netBox_cells HNW.out
    have hk63:=HKL.out
    by_cases hlt:j<K
    ·have hji:(j:Int)<(K:Int):=by omega
     have hj0:(0:Int)≤(j:Int):=by omega
     have hw1:IntKind.i64.wrap ((j:Int)+1)=((j+1:Nat):Int):=by rw [IntKind.wrap_i64];omega
     obtain ⟨tb,toff,e9,htb,d0,d1,d2,d3⟩:=Ne.trow_cell (HT4.out.kept HBW.out) (i:=j) (by rw [TL.out];exact hlt)
     subst e9
     obtain ⟨q1,q2,q3,q4,q5,_,q7,q8,q9,q10⟩:=TF.out j hlt
     have HWS:=Lib.hid (Ne.was_succ ts j)
     have hkb:=KB.out j hlt
     rw [← q1] at hkb
     rcases htn:Ne.tnAt ts j with ⟨tx,tp,tk,tv⟩
     rw [htn] at d0 d1 d2 d3 q1 q2 q3 q4 q5 q7 q9 q10 hkb HWS
     simp only at d0 d1 d2 d3 q1 q2 q3 q4 q5 q7 q9 q10 hkb HWS
     obtain ⟨wv,hwv⟩:∃ z,z=Ne.wasV ts j:=⟨_,rfl⟩
     rw [← hwv] at q2 q3 q7 q8 q9 ⊢
     clear hwv q1 htn
     have hm1:0≤tx*(tk:Int):=Int.mul_nonneg (by omega) (by omega)
     have hv1:IntKind.i64.wrap (tv-wv)=tv-wv:=by rw [IntKind.wrap_i64];omega
     have hv2:IntKind.i64.wrap (tx*(tk:Int))=tx*(tk:Int):=by rw [IntKind.wrap_i64];omega
     have hv3:decide (tv-wv<tx*(tk:Int))=false:=by simp;omega
     have hv4:decide ((tk:Int)<(tp:Int))=false:=by simp;omega
     have hv4':decide (tk<tp)=false:=by simp;omega
     have hv5:IntKind.i64.wrap (2*tx)=2*tx:=by rw [IntKind.wrap_i64];omega
     have hv6:IntKind.i64.wrap (2*(ml.length:Int))=2*(ml.length:Int):=by rw [IntKind.wrap_i64];omega
     have hp1:0≤2*tx*(2*(ml.length:Int)):=Int.mul_nonneg (by omega) (by omega)
     have hp2:2*tx*(2*(ml.length:Int))≤2000000*48:=Int.le_trans (Int.mul_le_mul_of_nonneg_right (by omega) (by omega)) (Int.mul_le_mul_of_nonneg_left (by omega) (by omega))
     have hv7:IntKind.i64.wrap (2*tx*(2*(ml.length:Int)))=2*tx*(2*(ml.length:Int)):=by rw [IntKind.wrap_i64];omega
     have hv8:0<j→decide (2*tx*(2*(ml.length:Int))≤tv-wv)=false:=fun h0=>by
      have h1:=q7 h0
      have h2:(2*tx-1)*(ml.length:Int)=2*tx*(ml.length:Int)-(ml.length:Int):=by rw [Int.sub_mul];omega
      have h3:2*tx*(2*(ml.length:Int))=2*(2*tx*(ml.length:Int)):=by rw [Int.mul_left_comm]
      have h4:0≤2*tx*(ml.length:Int):=Int.mul_nonneg (by omega) (by omega)
      have h5:0<j→1≤ml.length:=fun _=>HM1.out j hlt
      have h6:1≤ml.length:=h5 h0
      have h7:2*tx*1≤2*tx*(ml.length:Int):=Int.mul_le_mul_of_nonneg_left (by omega) (by omega)
      simp;omega
     have HV8:=Lib.hid hv8
     have hal:=(Below.refl wr.heap.size wr).alloc (Nat.le_refl _) (.cells #[.int .i64 tx,.int .i64 (tp:Int),.int .i64 (tk:Int),.int .i64 tv] 47)
     have HB2:=Lib.hid (HBW.out.trans (hal.mono HBW.out.size))
     obtain ⟨g0,g1,g2,g3⟩:=Ne.turn_new wr rfl tx (tp:Int) (tk:Int) tv
     obtain ⟨m0,m1,m2,m3⟩:=Ne.netBox_cells (Ne.netBox_below HNW.out hal (Ne.netBox_lt HNW.out))
     have HGG:=Lib.hid (show j+1+(gk-1)=K∧gk-1<gk by omega)
     have HQ3:=Lib.hid q3
     clear hal hv8 hp1 hp2 hm1 q2 q3 q4 q5 q7 q8 q9 q10 hkb
     by_cases z:tk=0
     ·have z1:((tk:Int) == 0)=true:=by simpa using z
      have z2:(tv == wv)=true:=by simpa using HQ3.out.1 z
      clear z
      by_cases y:j=0
      ·have y1:decide ((0:Int)<(j:Int))=false:=by simp;omega
       have y2:decide (0<j)=false:=by simp;omega
       clear y
       go_wp2
       go_roundg (gk-1)
       case measure=>exact HGG.out.2
       case rel=>exact ⟨⟨_,rfl⟩,j+1,by rw [HWS.out],rfl,HGG.out.1,HB2⟩
      ·have y1:decide ((0:Int)<(j:Int))=true:=by simp;omega
       have y2:decide (0<j)=true:=by simp;omega
       have y3:=HV8.out (by omega)
       clear y
       go_wp2
       go_roundg (gk-1)
       case measure=>exact HGG.out.2
       case rel=>exact ⟨⟨_,rfl⟩,j+1,by rw [HWS.out],rfl,HGG.out.1,HB2⟩
     ·have z1:((tk:Int) == 0)=false:=by simpa using z
      have z2:(tv == wv)=false:=by simpa using fun e=>z (HQ3.out.2 e)
      clear z
      by_cases y:j=0
      ·have y1:decide ((0:Int)<(j:Int))=false:=by simp;omega
       have y2:decide (0<j)=false:=by simp;omega
       clear y
       go_wp2
       go_roundg (gk-1)
       case measure=>exact HGG.out.2
       case rel=>exact ⟨⟨_,rfl⟩,j+1,by rw [HWS.out],rfl,HGG.out.1,HB2⟩
      ·have y1:decide ((0:Int)<(j:Int))=true:=by simp;omega
       have y2:decide (0<j)=true:=by simp;omega
       have y3:=HV8.out (by omega)
       clear y
       go_wp2
       go_roundg (gk-1)
       case measure=>exact HGG.out.2
       case rel=>exact ⟨⟨_,rfl⟩,j+1,by rw [HWS.out],rfl,HGG.out.1,HB2⟩
    ·have ek:j=K:=by omega
     subst ek
     have hji:decide ((j:Int)<(j:Int))=false:=by simp
     go_wp2
     go_ret
     exact ⟨rfl,HB4.out.trans (HBW.out.mono HB4.out.size)⟩

end Go.Proofs.YtoadkckceladgaaGreat.scaleRise
