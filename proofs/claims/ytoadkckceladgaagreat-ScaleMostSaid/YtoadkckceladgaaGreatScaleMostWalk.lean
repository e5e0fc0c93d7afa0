/- ScaleMost: for every input the law returns true and its arguments read as they did. No condition. -/
import Derived.Test.YtoadkckceladgaaGreatBb43
import Derived.Test.YtoadkckceladgaaGreatBb4
import Derived.Deep.LoopGhost
import Derived.Deep.DeepCutAuto
import Derived.RegionTactic
import Derived.BigRegion
import Derived.Test.YtoadkckceladgaaGreatBb44
import Derived.Test.YtoadkckceladgaaGreatRows
import Derived.WalkKit
import Derived.ProofKit
import Derived.OpenShut
import Derived.ShutString
import Derived.ChangeOld
import Derived.Below
import Derived.Deep.Strs
namespace Go.Proofs.YtoadkckceladgaaGreat.scaleMost
open Go.ChangeShapes Go.WideShapes Go.ChangeAt Go.RowKit
open Go.ChangeMaps (open_string shut_string)
set_option linter.unusedVariables false
set_option linter.unusedSimpArgs false

theorem own : ownKnob Tryz.prog.godebug = none := by kernel_rfl
theorem laidOut : laidOutB Tryz.prog = true := by kernel_rfl



set_option maxRecDepth 100000 in
set_option maxHeartbeats 4000000 in
theorem walk (a0 : Int) (a1 : Int) (a2 : List Ne.Arc) (o2 : Option Addr) (c2 : Nat) (a3 : Bool) (w : World) (w0 : (Lit.int .i64 a0).wf = true) (w1 : (Lit.int .i64 a1).wf = true) (k2 : ∀ a ∈ a2, Ne.Arc.ok a) (z2 : a2.length ≤ c2) (y2 : c2 ≤ maxLen) (n2 : o2 = none → c2 = 0) (r2 : Ne.ARow w o2 a2) :
    Calls Tryz.prog 4 #[.int .i64 a0, .int .i64 a1, .slice o2 a2.length c2, .bool a3] w fun e w' => e = .returned (.bool true) ∧ Below w.heap.size w w' := by
  have HSH:=Lib.hid (Ne.shown_any w)
  obtain ⟨mn,hmn⟩:∃ x,x=(Ne.madeN a0 a1 a2).n:=⟨_,rfl⟩
  obtain ⟨ms,hms⟩:∃ x,x=(Ne.madeN a0 a1 a2).s:=⟨_,rfl⟩
  obtain ⟨mt,hmt⟩:∃ x,x=(Ne.madeN a0 a1 a2).t:=⟨_,rfl⟩
  obtain ⟨ml,hml⟩:∃ x,x=(Ne.madeN a0 a1 a2).l:=⟨_,rfl⟩
  have em:Ne.madeN a0 a1 a2=⟨mn,ms,mt,ml⟩:=by rw [hmn,hms,hmt,hml]
  obtain ⟨f1,f2,f3,f4,f5,f6,f7,f8,f9⟩:=Ne.madeN_fine (nodes:=a0) (ends:=a1) k2
  have ck:=Ne.made_check (nodes:=a0) (ends:=a1) k2
  have MD:=Lib.hid fun w' (h:Ne.ARow w' o2 a2)=>Ne.made_s a0 a1 a2 o2 c2 w' (bounds_i64 w0) (bounds_i64 w1) k2 h
  rw [em] at MD f1 f2 f3 f4 f5 f6 f7 f8 f9 ck
  simp only at f1 f2 f3 f4 f5 f6 f7 f8 f9
  clear hmn hms hmt hml em
  have f8':ml.length≤24:=by omega
  clear f8
  have CK:=Lib.hid ck
  have RT:=Lib.hid (Ne.right_of ck)
  have FI:=Lib.hid f9
  have CAP:=Lib.hid (show ∀ a∈ml,Ne.in64 a.cap from fun a ha=>by have:=(f9 a ha).2.2;unfold Ne.in64;omega)
  have hl6:ml.length≤1000000:=by omega
  have F7:=Lib.hid f7
  have RA:=Lib.hid r2
  clear r2 f7 f9 ck
  obtain ⟨N,rfl⟩:∃ N:Nat,mn=(N:Int):=⟨mn.toNat,by omega⟩
  obtain ⟨S,rfl⟩:∃ S:Nat,ms=(S:Int):=⟨ms.toNat,by omega⟩
  obtain ⟨D,rfl⟩:∃ D:Nat,mt=(D:Int):=⟨mt.toNat,by omega⟩
  obtain ⟨K,hsk,hk63,hk0,hkhi,hklo⟩:=Ne.sta_is (l:=(⟨(N:Int),(S:Int),(D:Int),ml⟩:Ne.Net).l) (by have:=Ne.mxC_right (n:=⟨(N:Int),(S:Int),(D:Int),ml⟩) RT.out;simp only at this ⊢;omega)
  obtain ⟨h,ts,hsq⟩:=Ne.sqs_exists (n:=⟨(N:Int),(S:Int),(D:Int),ml⟩) RT.out (Ne.rms K) (List.replicate (⟨(N:Int),(S:Int),(D:Int),ml⟩:Ne.Net).l.length 0) (fun x hx=>Ne.rms_pos x hx) (Ne.flow_nought RT.out)
  have MX:=Lib.hid fun (q:Bool) (ao:Option Addr) (cap:Nat) w' (h1:Ne.ARow w' ao (⟨(N:Int),(S:Int),(D:Int),ml⟩:Ne.Net).l)=>Ne.smax_flow ⟨(N:Int),(S:Int),(D:Int),ml⟩ ao cap w' CK.out h1 hsq hsk hk63 q
  have TF:=Lib.hid fun i (hi:i<K)=>Ne.turn_facts (n:=⟨(N:Int),(S:Int),(D:Int),ml⟩) RT.out hsq hi
  have TE:=Lib.hid (Ne.turn_end (n:=⟨(N:Int),(S:Int),(D:Int),ml⟩) RT.out hsq)
  have TD:=Lib.hid (Ne.turn_done (n:=⟨(N:Int),(S:Int),(D:Int),ml⟩) RT.out hsq hsk)
  have TL:=Lib.hid (show ts.length=K by have:=Ne.sqs_len hsq;rwa [Ne.rms_len] at this)
  have SQ:=Lib.hid hsq
  have SK:=Lib.hid (And.intro hsk hk63)
  have KX:=Lib.hid (And.intro hk0 (And.intro hkhi hklo))
  clear hsk hk63 hk0 hkhi hklo hsq
  obtain ⟨g,L,p,k,hph,hfg,hlg,hdg,htg,hpn,hpk⟩:=Ne.max_facts (n:=⟨(N:Int),(S:Int),(D:Int),ml⟩) RT.out
  have DX:=Lib.hid fun (q:Bool) (ao:Option Addr) (cap:Nat) w' (h1:Ne.ARow w' ao (⟨(N:Int),(S:Int),(D:Int),ml⟩:Ne.Net).l)=>Ne.max_flow (n:=⟨(N:Int),(S:Int),(D:Int),ml⟩) ao cap w' CK.out h1 hph q
  have FG:=Lib.hid hfg
  have HVE:=Lib.hid (show Ne.exc ml h (D:Int)=Ne.exc ml g (D:Int) from TD.out.2.2.one RT.out htg)
  clear hph hfg hlg hdg htg hpn hpk
  have KB:=Lib.hid fun i (hi:i<K)=>Ne.first_small FI.out SK.out.1 hi
  have HM1:=Lib.hid (fun j (h:j<K)=>Ne.arcs_some (SK.out.1) h)
  have HN9:N≤9:=by omega
  have HFH:=Lib.hid TD.out.1
  have VHH:=Lib.hid fun om cm fo fc w' h1 h2=>Ne.val_flow (n:=⟨(N:Int),(S:Int),(D:Int),ml⟩) (f:=h) om cm fo fc w' CK.out h1 h2 HFH.out
  have VGG:=Lib.hid fun om cm fo fc w' h1 h2=>Ne.val_flow (n:=⟨(N:Int),(S:Int),(D:Int),ml⟩) (f:=g) om cm fo fc w' CK.out h1 h2 FG.out
  have STT:=Lib.hid fun om cm w' h1=>Ne.dstarts_any ⟨(N:Int),(S:Int),(D:Int),ml⟩ om cm w' h1 (by simp only;omega) CAP.out
  have HSK:=Lib.hid (show Ne.staN ml=Ne.fstR K from SK.out.1)
  simp only at STT
  rw [HSK.out] at STT
  have HVB:=Lib.hid (Ne.flow_low RT.out HFH.out)
  have TW:=Lib.hid fun i (hi:i<K)=>(TF.out i hi).2.2.2.2.2.1 h HFH.out
  simp only at HVB TW
  cases a3
  case' false=>(have MQ:=Lib.hid fun ao cap w' h1=>MX.out false ao cap w' h1);(have DQ:=Lib.hid fun ao cap w' h1=>DX.out false ao cap w' h1)
  case' true=>(have MQ:=Lib.hid fun ao cap w' h1=>MX.out true ao cap w' h1);(have DQ:=Lib.hid fun ao cap w' h1=>DX.out true ao cap w' h1)
  all_goals
   simp only [Ne.engC,Bool.false_eq_true,if_false,if_true] at MQ DQ
   clear MX DX
   go_enter Tryz.func4,Tryz.ntmps4
   go_wp2_with fail
   refine HSH.out.mono ?_
   rintro e w1 ⟨rfl,hb⟩
   have HB1:=Lib.hid hb
   clear hb
   go_wp2_with fail
   refine (MD.out _ (RA.out.kept HB1.out)).mono ?_
   rintro e w2 ⟨om,cm,rfl,ho,hb⟩
   have HB2:=Lib.hid (HB1.out.trans (hb.mono HB1.out.size))
   have HV2:=Lib.hid (Rw.own_lt ho)
   have HO3:=Lib.hid (Rw.own_base (Rw.own_alloc ho (.cells #[.int .i64 (N:Int),.int .i64 (S:Int),.int .i64 (D:Int),.slice om ml.length cm] 24)) (B':=w.heap.size) HB1.out.size)
   have HN3:=Lib.hid (Ne.netBox_new w2 (N:Int) (S:Int) (D:Int) (.slice om ml.length cm))
   have hz2:w.heap.size≤w2.heap.size:=HB2.out.size
   have HB3:=Lib.hid (HB2.out.alloc hz2 (.cells #[.int .i64 (N:Int),.int .i64 (S:Int),.int .i64 (D:Int),.slice om ml.length cm] 24))
   clear ho hb MD RA HSH
   go_wp2_with fail
   obtain ⟨bn,hbn⟩:∃ b,b=w2.heap.size:=⟨_,rfl⟩
   have hbn3:bn<(w2.alloc (.cells #[.int .i64 (N:Int),.int .i64 (S:Int),.int .i64 (D:Int),.slice om ml.length cm] 24)).heap.size:=by rw [hbn];simp
   rw [← hbn] at HN3 HV2 hz2 ⊢
   clear hbn HB2 HB1
   generalize (w2.alloc (.cells #[.int .i64 (N:Int),.int .i64 (S:Int),.int .i64 (D:Int),.slice om ml.length cm] 24))=W3 at *
   have HR3:=Lib.hid (Ne.arow_ofA HO3.out)

   rw [HVE.out] at HVB TW VHH TE
   generalize Ne.exc ml g (D:Int)=vg at *
   obtain ⟨n0,n1,n2,n3⟩:=Ne.netBox_cells HN3.out
   refine (MQ.out om cm _ HR3.out).mono ?_
   rintro e w4 ⟨oa,ca,ot,ct,rfl,hi,ht,hb⟩
   have HB4:=Lib.hid (HB3.out.trans (hb.mono HB3.out.size))
   have HN4:=Lib.hid (Ne.netBox_below HN3.out hb (Ne.netBox_lt HN3.out))
   have HR4:=Lib.hid (HR3.out.kept hb)
   have HT4:=Lib.hid ht
   have HI4:=Lib.hid hi
   clear hb hi ht n0 n1 n2 n3
   obtain ⟨n0,n1,n2,n3⟩:=Ne.netBox_cells HN4.out
   go_wp2_with fail
   refine (DQ.out om cm _ HR4.out).mono ?_
   rintro e w5 ⟨ob,cb,st,rfl,hi,hq1,hq2,hq3,hb⟩
   have hal:=(Below.refl w5.heap.size w5).alloc (Nat.le_refl _) (.cells #[.slice ob ml.length cb,.int .i64 (p:Int),.int .i64 (k:Int),.int .i64 st] 41)
   have HX5:=Lib.hid (Ne.runBox_at w5 rfl (.slice ob ml.length cb) (p:Int) (k:Int) st)
   have HJ5:=Lib.hid (hi.kept hal)
   replace hb:=hb.trans (hal.mono hb.size)
   have HB5:=Lib.hid (HB4.out.trans (hb.mono HB4.out.size))
   have HN5:=Lib.hid (Ne.netBox_below HN4.out hb (Ne.netBox_lt HN4.out))
   have HR5:=Lib.hid (HR4.out.kept hb)
   have HT5:=Lib.hid (HT4.out.kept hb)
   have HI5:=Lib.hid (HI4.out.kept hb)
   clear hb hi hal hq1 hq2 hq3 n0 n1 n2 n3
   obtain ⟨n0,n1,n2,n3⟩:=Ne.netBox_cells HN5.out
   go_wp2_with fail
   refine (VHH.out om cm oa ca _ HR5.out HI5.out).mono ?_
   rintro e w6 ⟨rfl,hb⟩
   have HB6:=Lib.hid (HB5.out.trans (hb.mono HB5.out.size))
   have HN6:=Lib.hid (Ne.netBox_below HN5.out hb (Ne.netBox_lt HN5.out))
   have HX6:=Lib.hid (Ne.runBox_below HX5.out hb (Ne.runBox_lt HX5.out))
   have HR6:=Lib.hid (HR5.out.kept hb)
   have HT6:=Lib.hid (HT5.out.kept hb)
   have HJ6:=Lib.hid (HJ5.out.kept hb)
   clear hb n0 n1 n2 n3
   obtain ⟨n0,n1,n2,n3⟩:=Ne.netBox_cells HN6.out
   obtain ⟨x0,x1,x2,x3⟩:=Ne.runBox_cells HX6.out
   go_wp2_with fail
   refine (VGG.out om cm ob cb _ HR6.out HJ6.out).mono ?_
   rintro e w7 ⟨rfl,hb⟩
   have HB7:=Lib.hid (HB6.out.trans (hb.mono HB6.out.size))
   have HN7:=Lib.hid (Ne.netBox_below HN6.out hb (Ne.netBox_lt HN6.out))
   have HR7:=Lib.hid (HR6.out.kept hb)
   have HT7:=Lib.hid (HT6.out.kept hb)
   clear hb n0 n1 n2 n3 x0 x1 x2 x3
   obtain ⟨n0,n1,n2,n3⟩:=Ne.netBox_cells HN7.out
   have hvv:(vg != vg)=false:=by simp
   go_wp2_with fail
   refine (STT.out om cm _ HR7.out).mono ?_
   rintro e w8 ⟨rfl,hb⟩
   have HB8:=Lib.hid (HB7.out.trans (hb.mono HB7.out.size))
   have HN8:=Lib.hid (Ne.netBox_below HN7.out hb (Ne.netBox_lt HN7.out))
   have HT8:=Lib.hid (HT7.out.kept hb)
   clear hb n0 n1 n2 n3
   have HKL:=Lib.hid SK.out.2
   go_wp2
   go_loopg [21,22,23] K (fun gg s21 s22 s23 wr=>∃ j:Nat,s21=.int .i64 (Ne.fstR (K-j))∧s22=.int .i64 (Ne.wasV ts j)∧s23=.int .i64 (j:Int)∧j+gg=K∧Hid (Below w8.heap.size w8 wr))
   case atStart=>exact ⟨0,rfl,rfl,rfl,by omega,Lib.hid (Below.refl _ _)⟩
   case round =>
    obtain ⟨j,rfl,rfl,rfl,hjg,HBW⟩:=hrel
    have hk63:=HKL.out
    by_cases hlt:j<K
    ·have hji:(j:Int)<(K:Int):=by omega
     have hj0:(0:Int)≤(j:Int):=by omega
     have hw1:IntKind.i64.wrap ((j:Int)+1)=((j+1:Nat):Int):=by rw [IntKind.wrap_i64];omega
     have hbd:=Ne.below_drew (Below.refl wr.heap.size wr)
     have HB2:=Lib.hid (HBW.out.trans (hbd.mono HBW.out.size))
     obtain ⟨tb,toff,e9,htb,d0,d1,d2,d3⟩:=Ne.trow_cell ((HT8.out.kept HBW.out).kept hbd) (i:=j) (by rw [TL.out];exact hlt)
     subst e9
     obtain ⟨n0,n1,n2,n3⟩:=Ne.netBox_cells (Ne.netBox_below HN8.out HB2.out (Ne.netBox_lt HN8.out))
     obtain ⟨q1,_,_,_,q5,_,_,q8,q9,q10⟩:=TF.out j hlt
     have q6:=TW.out j hlt
     have HWS:=Lib.hid (Ne.was_succ ts j)
     have hkb:=KB.out j hlt
     have hm1:=HM1.out j hlt
     have HHF:=Lib.hid (show Ne.fstR (K-j) / 2=Ne.fstR (K-(j+1)) by
      rw [show K-j=(K-(j+1))+1 by omega];exact Ne.fst_half _)
     rw [← q1] at hkb HHF ⊢
     rcases htn:Ne.tnAt ts j with ⟨tx,tp,tk,tv⟩
     rw [htn] at d0 d1 d2 d3 q1 q5 q6 q9 q10 hkb HWS HHF
     simp only at d0 d1 d2 d3 q1 q5 q6 q9 q10 hkb HWS HHF
     obtain ⟨wv,hwv⟩:∃ z,z=Ne.wasV ts j:=⟨_,rfl⟩
     rw [← hwv] at q8 q9 ⊢
     have hvb:=HVB.out
     clear hwv q1
     have hv3:(tx != tx)=false:=by simp
     have hv4:decide (tv<wv)=false:=by simp;omega
     have hv5:IntKind.i64.wrap (vg-tv)=vg-tv:=by rw [IntKind.wrap_i64];omega
     have hv6:IntKind.i64.wrap (2*(ml.length:Int))=2*(ml.length:Int):=by rw [IntKind.wrap_i64];omega
     have hp1:0≤tx*(2*(ml.length:Int)):=Int.mul_nonneg (by omega) (by omega)
     have hp2:tx*(2*(ml.length:Int))≤1000000*48:=Int.le_trans (Int.mul_le_mul_of_nonneg_right (by omega) (by omega)) (Int.mul_le_mul_of_nonneg_left (by omega) (by omega))
     have hv7:IntKind.i64.wrap (tx*(2*(ml.length:Int)))=tx*(2*(ml.length:Int)):=by rw [IntKind.wrap_i64];omega
     have hv8:decide (tx*(2*(ml.length:Int))≤vg-tv)=false:=by
      have h2:(tx-1)*(ml.length:Int)=tx*(ml.length:Int)-(ml.length:Int):=by rw [Int.sub_mul];omega
      have h3:tx*(2*(ml.length:Int))=2*(tx*(ml.length:Int)):=by rw [Int.mul_left_comm]
      have h4:0≤tx*(ml.length:Int):=Int.mul_nonneg (by omega) (by omega)
      simp;omega
     have hv9:decide ((N:Int)≤(tp:Int))=false:=by simp;omega
     have hv9':decide (N≤tp)=false:=by simp;omega
     have HGG:=Lib.hid (show j+1+(gk-1)=K∧gk-1<gk by omega)
     have hhd:IntKind.i64.wrap (tx.tdiv 2)=tx / 2:=by rw [Int.tdiv_eq_ediv_of_nonneg (by omega),IntKind.wrap_i64];omega
     have hS0:=(show (fun w':World=>w'.cell? ⟨tb,toff+j*4,none⟩=some (.int .i64 tx)∧w'.cell? ⟨tb,toff+j*4+1,none⟩=some (.int .i64 (tp:Int))∧w'.cell? ⟨tb,toff+j*4+3,none⟩=some (.int .i64 tv)∧w'.cell? ⟨bn,0,none⟩=some (.int .i64 (N:Int))∧w'.cell? ⟨bn,3,none⟩=some (.slice om ml.length cm)) wr.drew from ⟨d0,d1,d3,n0,n3⟩)
     clear hbd htn d0 d1 d2 n0 n1 n2 n3 hp1 hp2 q5 q6 q8 q9 q10 hkb hvb hm1
     go_wp2
     refine Rh.start (S:=(fun w':World=>w'.cell? ⟨tb,toff+j*4,none⟩=some (.int .i64 tx)∧w'.cell? ⟨tb,toff+j*4+1,none⟩=some (.int .i64 (tp:Int))∧w'.cell? ⟨tb,toff+j*4+3,none⟩=some (.int .i64 tv)∧w'.cell? ⟨bn,0,none⟩=some (.int .i64 (N:Int))∧w'.cell? ⟨bn,3,none⟩=some (.slice om ml.length cm))) (by kernel_rfl) ?_
     refine Rh.tp 81 0 hS0 ?_
     refine Rh.tp 82 1 hS0 ?_
     refine Rh.tp 83 2 hS0 ?_
     refine Rh.tp 84 3 hS0 ?_
     refine Rh.tp 85 4 hS0 ?_
     refine Rh.tp 86 5 hS0 ?_
     refine Rh.tp 87 6 hS0 ?_
     refine Rh.tp 88 7 hS0 ?_
     refine Rh.tp 89 8 hS0 ?_
     refine Rh.tp 90 9 hS0 ?_
     refine Rh.tp 91 10 hS0 ?_
     refine Rh.tp 92 11 hS0 ?_
     refine Rh.tp 93 12 hS0 ?_
     refine Rh.tp 94 13 hS0 ?_
     refine Rh.tp 95 14 hS0 ?_
     refine Rh.tp 96 15 hS0 ?_
     refine Rh.tp 97 16 hS0 ?_
     refine Rh.tp 98 17 hS0 ?_
     refine Rh.tp 99 18 hS0 ?_
     refine Rh.tp 100 19 hS0 ?_
     refine Rh.tp 101 20 hS0 ?_
     refine Rh.tp 102 21 hS0 ?_
     refine Rh.tp 103 22 hS0 ?_
     refine Rh.tp 104 23 hS0 ?_
     refine Rh.tp 105 24 hS0 ?_
     refine Rh.tp 106 25 hS0 ?_
     refine Rh.tp 107 26 hS0 ?_
     refine Rh.tp 108 27 hS0 ?_
     refine Rh.tp 109 28 hS0 ?_
     refine Rh.tp 110 29 hS0 ?_
     refine Rh.tp 111 30 hS0 ?_
     refine Rh.tp 112 31 hS0 ?_
     refine Rh.tp 113 32 hS0 ?_
     refine Rh.tp 114 33 hS0 ?_
     refine Rh.tp 115 34 hS0 ?_
     refine Rh.tp 116 35 hS0 ?_
     refine Rh.tp 117 36 hS0 ?_
     refine Rh.tp 118 37 hS0 ?_
     refine Rh.tp 119 38 hS0 ?_
     refine Rh.tp 120 39 hS0 ?_
     refine Rh.tp 121 40 hS0 ?_
     refine Rh.tp 122 41 hS0 ?_
     refine Rh.done (by kernel_rfl) ?_ _
     go_wp2
     go_roundg (gk-1)
     case measure=>exact HGG.out.2
     case rel=>exact ⟨j+1,by rw [HHF.out],by rw [HWS.out],rfl,HGG.out.1,HB2⟩
    ·have ek:j=K:=by omega
     subst ek
     have hji:decide ((j:Int)<(j:Int))=false:=by simp
     have HZ:=Lib.hid (show Ne.wasV ts j=vg from TE.out)
     have HK0:=Lib.hid (show j=0→vg=0 from fun e=>by rw [← HZ.out,e];rfl)
     rw [Nat.sub_self,show Ne.fstR 0=0 from rfl,HZ.out]
     have hveq:(vg == vg)=true:=by simp
     by_cases z:j=0
     ·have z1:decide ((0:Int)<(j:Int))=false:=by simp;omega
      have z2:decide (0<j)=false:=by simp;omega
      have z3:(vg == 0)=true:=by simpa using HK0.out z
      clear z
      go_wp2
      go_ret
      exact ⟨rfl,HB8.out.trans (HBW.out.mono HB8.out.size)⟩
     ·have z1:decide ((0:Int)<(j:Int))=true:=by simp;omega
      have z2:decide (0<j)=true:=by simp;omega
      clear z
      go_wp2
      go_ret
      exact ⟨rfl,HB8.out.trans (HBW.out.mono HB8.out.size)⟩

end Go.Proofs.YtoadkckceladgaaGreat.scaleMost
