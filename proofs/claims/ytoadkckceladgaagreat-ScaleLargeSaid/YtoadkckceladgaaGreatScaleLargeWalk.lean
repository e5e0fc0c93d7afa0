/- ScaleLarge: for every input the law returns true and its arguments read as they did. No condition. -/
import Derived.Test.YtoadkckceladgaaGreatBb43
import Derived.Test.YtoadkckceladgaaGreatBb4
import Derived.Deep.LoopGhost
import Derived.Deep.DeepCutAuto
import Derived.RegionTactic
import Derived.BigRegion
import Derived.Test.YtoadkckceladgaaGreatBb45
import Derived.Test.YtoadkckceladgaaGreatBb44
import Derived.Test.YtoadkckceladgaaGreatRows
import Derived.WalkKit
import Derived.ProofKit
import Derived.OpenShut
import Derived.ShutString
import Derived.ChangeOld
import Derived.Below
import Derived.Deep.Strs
namespace Go.Proofs.YtoadkckceladgaaGreat.scaleLarge
open Go.ChangeShapes Go.WideShapes Go.ChangeAt Go.RowKit
open Go.ChangeMaps (open_string shut_string)
set_option linter.unusedVariables false
set_option linter.unusedSimpArgs false

theorem own : ownKnob Tryz.prog.godebug = none := by kernel_rfl
theorem laidOut : laidOutB Tryz.prog = true := by kernel_rfl



set_option maxRecDepth 100000 in
set_option maxHeartbeats 4000000 in
theorem walk (a0 : Int) (a1 : Int) (a2 : List Ne.Arc) (o2 : Option Addr) (c2 : Nat) (a3 : Int) (w : World) (w0 : (Lit.int .i64 a0).wf = true) (w1 : (Lit.int .i64 a1).wf = true) (k2 : ∀ a ∈ a2, Ne.Arc.ok a) (z2 : a2.length ≤ c2) (y2 : c2 ≤ maxLen) (n2 : o2 = none → c2 = 0) (r2 : Ne.ARow w o2 a2) (w3 : (Lit.int .i64 a3).wf = true) :
    Calls Tryz.prog 5 #[.int .i64 a0, .int .i64 a1, .slice o2 a2.length c2, .int .i64 a3] w fun e w' => e = .returned (.bool true) ∧ Below w.heap.size w w' := by
  have HSH:=Lib.hid (Ne.shown_any w)
  obtain ⟨mn,hmn⟩:∃ x,x=(Ne.madeN a0 a1 a2).n:=⟨_,rfl⟩
  obtain ⟨ms,hms⟩:∃ x,x=(Ne.madeN a0 a1 a2).s:=⟨_,rfl⟩
  obtain ⟨mt,hmt⟩:∃ x,x=(Ne.madeN a0 a1 a2).t:=⟨_,rfl⟩
  obtain ⟨ml,hml⟩:∃ x,x=(Ne.madeN a0 a1 a2).l:=⟨_,rfl⟩
  have em:Ne.madeN a0 a1 a2=⟨mn,ms,mt,ml⟩:=by rw [hmn,hms,hmt,hml]
  obtain ⟨f1,f2,f3,f4,f5,f6,f7,f8,f9⟩:=Ne.madeN_fine (nodes:=a0) (ends:=a1) k2
  have ck:=Ne.made_check (nodes:=a0) (ends:=a1) k2
  have MD:=Lib.hid fun w' (h:Ne.ARow w' o2 a2)=>Ne.made_s a0 a1 a2 o2 c2 w' (bounds_i64 w0) (bounds_i64 w1) k2 h
  rw [em] at MD f1 f2 f3 f4 f5 f6 f7 f8 f9 ck
  simp only at f1 f2 f3 f4 f5 f6 f7 f8 f9
  clear hmn hms hmt hml em
  have f8':ml.length≤24:=by omega
  clear f8
  have CK:=Lib.hid ck
  have RT:=Lib.hid (Ne.right_of ck)
  have FI:=Lib.hid f9
  have CAP:=Lib.hid (show ∀ a∈ml,Ne.in64 a.cap from fun a ha=>by have:=(f9 a ha).2.2;unfold Ne.in64;omega)
  have hl6:ml.length≤1000000:=by omega
  have F7:=Lib.hid f7
  have RA:=Lib.hid r2
  clear r2 f7 f9 ck
  obtain ⟨N,rfl⟩:∃ N:Nat,mn=(N:Int):=⟨mn.toNat,by omega⟩
  obtain ⟨S,rfl⟩:∃ S:Nat,ms=(S:Int):=⟨ms.toNat,by omega⟩
  obtain ⟨D,rfl⟩:∃ D:Nat,mt=(D:Int):=⟨mt.toNat,by omega⟩
  obtain ⟨K,hsk,hk63,hk0,hkhi,hklo⟩:=Ne.sta_is (l:=(⟨(N:Int),(S:Int),(D:Int),ml⟩:Ne.Net).l) (by have:=Ne.mxC_right (n:=⟨(N:Int),(S:Int),(D:Int),ml⟩) RT.out;simp only at this ⊢;omega)
  obtain ⟨h,ts,hsq⟩:=Ne.sqs_exists (n:=⟨(N:Int),(S:Int),(D:Int),ml⟩) RT.out (Ne.rms K) (List.replicate (⟨(N:Int),(S:Int),(D:Int),ml⟩:Ne.Net).l.length 0) (fun x hx=>Ne.rms_pos x hx) (Ne.flow_nought RT.out)
  have MX:=Lib.hid fun (q:Bool) (ao:Option Addr) (cap:Nat) w' (h1:Ne.ARow w' ao (⟨(N:Int),(S:Int),(D:Int),ml⟩:Ne.Net).l)=>Ne.smax_flow ⟨(N:Int),(S:Int),(D:Int),ml⟩ ao cap w' CK.out h1 hsq hsk hk63 q
  have TF:=Lib.hid fun i (hi:i<K)=>Ne.turn_facts (n:=⟨(N:Int),(S:Int),(D:Int),ml⟩) RT.out hsq hi
  have TE:=Lib.hid (Ne.turn_end (n:=⟨(N:Int),(S:Int),(D:Int),ml⟩) RT.out hsq)
  have TD:=Lib.hid (Ne.turn_done (n:=⟨(N:Int),(S:Int),(D:Int),ml⟩) RT.out hsq hsk)
  have TL:=Lib.hid (show ts.length=K by have:=Ne.sqs_len hsq;rwa [Ne.rms_len] at this)
  have SQ:=Lib.hid hsq
  have SK:=Lib.hid (And.intro hsk hk63)
  have KX:=Lib.hid (And.intro hk0 (And.intro hkhi hklo))
  clear hsk hk63 hk0 hkhi hklo hsq
  have bpk:=Ne.pickN_bd (c:=a3) (n:=30) (by omega)
  have PK:=Lib.hid fun w'=>Ne.pick_any a3 30 w' (bounds_i64 w3).1 (bounds_i64 w3).2 (by omega) (by omega)
  generalize Ne.pickN a3 30=kz at *
  obtain ⟨kn,rfl⟩:∃ kn:Nat,kz=(kn:Int):=⟨kz.toNat,by omega⟩
  have hkn:kn≤29:=by omega
  have HN9:N≤9:=by omega
  have HC:=Lib.hid (show (1:Int)≤2 ^ kn∧(2:Int) ^ kn≤536870912 from ⟨(Num.pow_le62 kn (by omega)).1,Num.pow_mono (a:=kn) (b:=29) hkn⟩)
  have CKU:=Lib.hid (Ne.up_check HC.out.1 HC.out.2 (n:=⟨(N:Int),(S:Int),(D:Int),ml⟩) ⟨by simp only;omega,by simp only;omega,by simp only;omega,by simp only;omega,by simp only;omega,by simp only;omega,F7.out,by simp only;omega⟩ FI.out f8')
  obtain ⟨K2,us,hus,hsk2,hk2,hul,hk0,hk1,hu1,hu2⟩:=Ne.up_turns (n:=⟨(N:Int),(S:Int),(D:Int),ml⟩) RT.out SQ.out SK.out.1 (Ne.mxC_in _ (by omega) fun i hi=>by
   have e:Ne.arcAt ml i=ml[i]'hi:=by simp [Ne.arcAt,List.getElem?_eq_getElem hi]
   have:=(FI.out _ (List.getElem_mem hi)).2.2.2
   simp only;rw [e];exact this) hkn
  have hll:((Ne.upN (2 ^ kn) ⟨(N:Int),(S:Int),(D:Int),ml⟩:Ne.Net):Ne.Net).l.length=ml.length:=Ne.upL_len _ _
  have MU:=Lib.hid fun (ao:Option Addr) (cap:Nat) w' h1=>Ne.smax_flow (Ne.upN (2 ^ kn) ⟨(N:Int),(S:Int),(D:Int),ml⟩:Ne.Net) ao cap w' CKU.out h1 (by rw [hll];exact hus) hsk2 hk2 false
  have MF:=Lib.hid fun ao cap w' h1=>MX.out false ao cap w' h1
  simp only [Ne.engC,Ne.encN,hll,Bool.false_eq_true,if_false] at MF MU
  have HUL:=Lib.hid hul
  have HU1:=Lib.hid hu1
  have HU2:=Lib.hid hu2
  have HK01:=Lib.hid (And.intro hk0 hk1)
  have HK63:=Lib.hid (And.intro hk2 SK.out.2)
  obtain ⟨UL,hUL⟩:∃ f:Nat→List Ne.Arc,f=fun j=>(ml.take j).map (Ne.upA (2 ^ kn)):=⟨_,rfl⟩
  have HA0:=Lib.hid (show UL 0=[] by rw [hUL];rfl)
  have HAS:=Lib.hid (fun j (h:j<ml.length)=>show UL (j+1)=UL j ++ [Ne.upA (2 ^ kn) (Ne.arcAt ml j)] by
   rw [hUL]
   have e:ml[j]? = some (Ne.arcAt ml j):=by simp [Ne.arcAt,List.getElem?_eq_getElem h]
   show (ml.take (j+1)).map _=(ml.take j).map _ ++ _
   rw [List.take_add_one,e];simp)
  have HAL:=Lib.hid (fun j (h:j≤ml.length)=>show (UL j).length=j by rw [hUL];simp;omega)
  have HAE:=Lib.hid (show UL ml.length=((Ne.upN (2 ^ kn) ⟨(N:Int),(S:Int),(D:Int),ml⟩:Ne.Net):Ne.Net).l by rw [hUL];show (ml.take ml.length).map _=ml.map _;rw [List.take_length])
  have ARS:=Lib.hid (fun j (h:j<ml.length)=>Ne.arc_says FI.out h)
  have HFH:=Lib.hid TD.out.1
  have HFB:=Lib.hid (fun i (hi:i<ml.length)=>show 0≤Ne.amt h i∧Ne.amt h i≤1000000 from by
   have h1:=HFH.out.wi i hi
   obtain ⟨u,v,ca,ea,_,_,h4,h5⟩:=ARS.out i hi
   rw [ea] at h1;simp only at h1;omega)
  have HVB:=Lib.hid (fun i (hi:i<K)=>show 0≤(Ne.tnAt ts i).x∧(Ne.tnAt ts i).x≤1000000∧0≤(Ne.tnAt ts i).v∧(Ne.tnAt ts i).v≤9000000000 from by
   obtain ⟨q1,_,_,_,_,q6,_,q8,q9,_⟩:=TF.out i hi
   have h1:=Ne.first_small FI.out SK.out.1 hi
   have h2:=Ne.turn_small RT.out SQ.out FI.out f8' hi
   rw [q1];omega)
  clear MX hus hsk2 hk2 hul hk0 hk1 hu1 hu2 hll hUL bpk
  go_enter Tryz.func5,Tryz.ntmps5
  go_wp2_with fail
  refine HSH.out.mono ?_
  rintro e w1 ⟨rfl,hb⟩
  have HB1:=Lib.hid hb
  clear hb
  go_wp2_with fail
  refine (MD.out _ (RA.out.kept HB1.out)).mono ?_
  rintro e w2 ⟨om,cm,rfl,ho,hb⟩
  have HB2:=Lib.hid (HB1.out.trans (hb.mono HB1.out.size))
  have HV2:=Lib.hid (Rw.own_lt ho)
  have HO3:=Lib.hid (Rw.own_base (Rw.own_alloc ho (.cells #[.int .i64 (N:Int),.int .i64 (S:Int),.int .i64 (D:Int),.slice om ml.length cm] 24)) (B':=w.heap.size) HB1.out.size)
  have HN3:=Lib.hid (Ne.netBox_new w2 (N:Int) (S:Int) (D:Int) (.slice om ml.length cm))
  have hz2:w.heap.size≤w2.heap.size:=HB2.out.size
  have HB3:=Lib.hid (HB2.out.alloc hz2 (.cells #[.int .i64 (N:Int),.int .i64 (S:Int),.int .i64 (D:Int),.slice om ml.length cm] 24))
  clear ho hb MD RA HSH
  go_wp2_with fail
  obtain ⟨bn,hbn⟩:∃ b,b=w2.heap.size:=⟨_,rfl⟩
  have hbn3:bn<(w2.alloc (.cells #[.int .i64 (N:Int),.int .i64 (S:Int),.int .i64 (D:Int),.slice om ml.length cm] 24)).heap.size:=by rw [hbn];simp
  rw [← hbn] at HN3 HV2 hz2 ⊢
  clear hbn HB2 HB1
  generalize (w2.alloc (.cells #[.int .i64 (N:Int),.int .i64 (S:Int),.int .i64 (D:Int),.slice om ml.length cm] 24))=W3 at *
  have HR3:=Lib.hid (Ne.arow_ofA HO3.out)
  refine (PK.out _).mono ?_
  rintro e w' ⟨rfl,rfl⟩
  obtain ⟨n0,n1,n2,n3⟩:=Ne.netBox_cells HN3.out
  have HM4:=Lib.hid (Ne.netBox_new W3 (N:Int) (S:Int) (D:Int) (.slice none 0 0))
  have hal:=(Below.refl W3.heap.size W3).alloc (Nat.le_refl _) (.cells #[.int .i64 (N:Int),.int .i64 (S:Int),.int .i64 (D:Int),.slice none 0 0] 24)
  have HAL4:=Lib.hid hal
  go_upto_region 7 with fail
  obtain ⟨bm,hbm⟩:∃ b,b=W3.heap.size:=⟨_,rfl⟩
  have HBE:=Lib.hid (show W3.heap.size≤bm by omega)
  rw [← hbm] at HM4 ⊢
  clear hbm hal n0 n1 n2 n3
  generalize (W3.alloc (.cells #[.int .i64 (N:Int),.int .i64 (S:Int),.int .i64 (D:Int),.slice none 0 0] 24))=W4 at *
  go_wp2
  go_loopg [13,14] ml.length (fun gk s13 s14 wr=>(∃ z,s14=z)∧∃ (j:Nat) (v:Value),s13=.int .i64 (j:Int)∧j+gk=ml.length∧Hid (Ne.NetBox wr bm (N:Int) (S:Int) (D:Int) v)∧Hid (Ne.OwnA wr (bm+1) v (UL j))∧Hid (Below W3.heap.size W3 wr))
  case atStart=>exact ⟨⟨_,rfl⟩,0,_,rfl,by omega,HM4,Lib.hid (by rw [HA0.out];exact Rw.own_nil _ _),HAL4⟩
  case round =>
   obtain ⟨⟨z14,rfl⟩,j,v,rfl,hjg,HMW,HOW,HBW⟩:=hrel
   have HNW:=Lib.hid (Ne.netBox_below HN3.out HBW.out (Ne.netBox_lt HN3.out))
   have HRW:=Lib.hid (HR3.out.kept HBW.out)
   obtain ⟨o9,c9,hv9,_,_,hn9,hr9,hb9,_⟩:=Rw.own_row Ne.encA_len HOW.out
   rw [HAL.out j (by omega)] at hv9
   subst hv9
   obtain ⟨n0,n1,n2,n3⟩:=Ne.netBox_cells HNW.out
   by_cases hlt:j<ml.length
   ·have hji:(j:Int)<(ml.length:Int):=by omega
    have hj0:(0:Int)≤(j:Int):=by omega
    have hw1:IntKind.i64.wrap ((j:Int)+1)=((j+1:Nat):Int):=by rw [IntKind.wrap_i64];omega
    obtain ⟨u,v,ca,ea,hu,hv,hca0,hca1⟩:=ARS.out j hlt
    obtain ⟨ab,ao,e9,hab,d0,d1,d2⟩:=Ne.arow_cell HRW.out hlt
    subst e9
    rw [ea] at d0 d1 d2
    have hc:=HC.out
    have hm1:0≤ca*(2:Int) ^ kn:=Int.mul_nonneg hca0 (by omega)
    have hm2:ca*(2:Int) ^ kn≤1000000*536870912:=Int.le_trans (Int.mul_le_mul_of_nonneg_right hca1 (by omega)) (Int.mul_le_mul_of_nonneg_left hc.2 (by omega))
    have hsh:IntKind.i64.wrap (ca*(2:Int) ^ kn)=ca*(2:Int) ^ kn:=by rw [IntKind.wrap_i64];omega
    have hk64:(kn:Int)≤64:=by omega
    have hk0:(0:Int)≤(kn:Int):=by omega
    rw [Int.mul_comm] at hsh
    have HAK:=Lib.hid (show UL (j+1)=UL j ++ [⟨(u:Int),(v:Int),ca*2 ^ kn⟩] by rw [HAS.out j hlt,ea];unfold Ne.upA;simp only;rw [Int.mul_comm])
    rw [Int.mul_comm] at hsh
    generalize hcc:ca*(2:Int) ^ kn=cx at *
    have HNA:=Lib.hid (Ne.netBox_alloc (Ne.netBox_alloc HMW.out (.cells #[.int .i64 (u:Int),.int .i64 (v:Int),.int .i64 cx] 51)) (.cells #[.int .i64 (u:Int),.int .i64 (v:Int),.int .i64 cx] 51))
    have HOA:=Lib.hid (Rw.own_alloc (Rw.own_alloc HOW.out (.cells #[.int .i64 (u:Int),.int .i64 (v:Int),.int .i64 cx] 51)) (.cells #[.int .i64 (u:Int),.int .i64 (v:Int),.int .i64 cx] 51))
    have HAR:=Lib.hid (Ne.arow_at1 (wr.alloc (.cells #[.int .i64 (u:Int),.int .i64 (v:Int),.int .i64 cx] 51)) (b:=wr.heap.size+1) (by simp) ⟨(u:Int),(v:Int),cx⟩)
    have hul:=HAL.out j (by omega)
    have HUJ:=Lib.hid (HAL.out (j+1) (by omega))
    have HLN:=Lib.hid (show (UL j).length+([⟨(u:Int),(v:Int),cx⟩]:List Ne.Arc).length≤1099511627776 by rw [hul];simp;omega)
    have HBA:=Lib.hid ((HBW.out.alloc HBW.out.size (.cells #[.int .i64 (u:Int),.int .i64 (v:Int),.int .i64 cx] 51)).alloc (by have:=HBW.out.size;simp;omega) (.cells #[.int .i64 (u:Int),.int .i64 (v:Int),.int .i64 cx] 51))
    have HZA:=Lib.hid (show bm+1≤((wr.alloc (.cells #[.int .i64 (u:Int),.int .i64 (v:Int),.int .i64 cx] 51)).alloc (.cells #[.int .i64 (u:Int),.int .i64 (v:Int),.int .i64 cx] 51)).heap.size by have:=Ne.netBox_lt HMW.out;simp;omega)
    have HVB:=Lib.hid (Rw.own_block HOW.out)
    have HGG:=Lib.hid (show j+1+(gk-1)=ml.length∧gk-1<gk by omega)
    clear hul hm1 hm2 hc
    obtain ⟨mm0,mm1,mm2,mm3⟩:=Ne.netBox_cells (Ne.netBox_alloc HMW.out (.cells #[.int .i64 (u:Int),.int .i64 (v:Int),.int .i64 cx] 51))
    go_wp2_with (at_builtin;refine Rw.app Ne.elemA Ne.encA_len Ne.encA_one rfl (.tmp 58) (.tmp 60) rfl (bm+1) _ (UL j) rfl HOA.out (some ⟨wr.heap.size+1,0,none⟩) 1 [⟨(u:Int),(v:Int),cx⟩] rfl ?hnn HAR.out HLN.out ?hB ?_;(case hnn=>(intro h;cases h));(case hB=>(exact HZA.out));intro v8 w8 hown8 hgr8;rw [← HAK.out] at hown8;obtain ⟨o8,c8,hv8,_⟩:=Rw.own_row Ne.encA_len hown8;rw [HUJ.out] at hv8;subst hv8;have HN8:=Lib.hid (Ne.netBox_grown HNA.out hgr8 (fun h=>by have:=HVB.out _ h.symm;omega));have HO8:=Lib.hid hown8;have HB8:=Lib.hid (HBA.out.grown hgr8 HBA.out.size (fun b hb=>by have:=HVB.out b hb;have:=HBE.out;omega));have m3:=(Ne.netBox_cells HN8.out).2.2.2;have mf:=Ne.netBox_frozen HN8.out 3;clear hown8 hgr8)
    have HN9:=Lib.hid (Ne.netBox_set (v2:=.slice o8 (j+1) c8) HN8.out)
    have HO9:=Lib.hid (Rw.own_set HO8.out (p:=⟨bm,3,none⟩) (fun h=>by have:=Rw.own_block HO8.out _ h;simp only at this;omega) (.slice o8 (j+1) c8))
    have HB9:=Lib.hid (HB8.out.setCell (p:=⟨bm,3,none⟩) HBE.out (.slice o8 (j+1) c8))
    go_roundg (gk-1)
    case measure=>exact HGG.out.2
    case rel=>exact ⟨⟨_,rfl⟩,j+1,_,rfl,HGG.out.1,HN9,HO9,HB9⟩
   ·have ej:j=ml.length:=by omega
    subst ej
    have hji:decide ((ml.length:Int)<(ml.length:Int))=false:=by simp
    have HRM:=Lib.hid (show Ne.ARow wr o9 ((Ne.upN (2 ^ kn) ⟨(N:Int),(S:Int),(D:Int),ml⟩:Ne.Net)).l by rw [← HAE.out];exact Ne.arow_ofA HOW.out)
    clear hn9 hr9 hb9 hjg
    go_wp2_with fail
    refine (MF.out om cm _ HRW.out).mono ?_
    rintro e w4 ⟨oa,ca,ot,ct,rfl,hi,ht,hb⟩
    have HB4:=Lib.hid (HBW.out.trans (hb.mono HBW.out.size))
    have HM5:=Lib.hid (Ne.netBox_below HMW.out hb (Ne.netBox_lt HMW.out))
    have HX5:=Lib.hid (HRM.out.kept hb)
    have HT4:=Lib.hid ht
    have HI4:=Lib.hid hi
    clear hb hi ht n0 n1 n2 n3
    obtain ⟨n0,n1,n2,n3⟩:=Ne.netBox_cells HM5.out
    go_wp2_with fail
    refine (MU.out o9 c9 _ HX5.out).mono ?_
    rintro e w5 ⟨ob,cb,ou,cu,rfl,hi,ht,hb⟩
    have HB5:=Lib.hid (HB4.out.trans (hb.mono HB4.out.size))
    have HT5:=Lib.hid (HT4.out.kept hb)
    have HI5:=Lib.hid (HI4.out.kept hb)
    have HU5:=Lib.hid ht
    have HJ5:=Lib.hid hi
    clear hb hi ht n0 n1 n2 n3
    have hll2:((ml.length:Int) != (ml.length:Int))=false:=by simp
    have h00:((0:Int) != 0)=false:=by decide
    have hk63:=HK63.out
    have hk01:=HK01.out
    go_upto_region 15 with fail
    go_cut [111] (fun s wc=>s=.bool false∧w5=wc)
    case first =>
     by_cases z:K=0
     ·have y1:=hk01.1 z
      have z1:decide ((0:Int)<(K:Int))=false:=by simp;omega
      have z2:decide (0<K)=false:=by simp;omega
      have z3:((K:Int) == 0)=true:=by simp;omega
      have z3':(K == 0)=true:=by simp;omega
      have z4:((K2:Int) != 0)=false:=by simp;omega
      have z4':(K2 != 0)=false:=by simp;omega
      clear z y1 hk01 hk63
      go_wp2
      go_meet
      case rel=>exact ⟨rfl,rfl⟩
     ·have y1:=hk01.2 (by omega)
      have z1:decide ((0:Int)<(K:Int))=true:=by simp;omega
      have z2:decide (0<K)=true:=by simp;omega
      have z3:((K:Int) == 0)=false:=by simp;omega
      have z3':(K == 0)=false:=by simp;omega
      have z5:IntKind.i64.wrap ((K:Int)+(kn:Int))=(K2:Int):=by rw [IntKind.wrap_i64];omega
      have z6:((K2:Int) != (K2:Int))=false:=by simp
      clear z y1 hk01 hk63
      go_wp2
      go_meet
      case rel=>exact ⟨rfl,rfl⟩
    case rest =>
     obtain ⟨rfl,rfl⟩:=hcut
     clear h00 hll2
     go_wp2
     go_loopg [21] ml.length (fun gk s21 wr=>∃ j:Nat,s21=.int .i64 (j:Int)∧j+gk=ml.length∧Hid (Below w5.heap.size w5 wr))
     case atStart=>exact ⟨0,rfl,by omega,Lib.hid (Below.refl _ _)⟩
     case round =>
      obtain ⟨j,rfl,hjg,HBW⟩:=hrel
      by_cases hlt:j<ml.length
      ·have hji:(j:Int)<(ml.length:Int):=by omega
       have hj0:(0:Int)≤(j:Int):=by omega
       have hw1:IntKind.i64.wrap ((j:Int)+1)=((j+1:Nat):Int):=by rw [IntKind.wrap_i64];omega
       have hbd:=Ne.below_drew (Below.refl wr.heap.size wr)
       obtain ⟨fb,fo,e9,hfb,d0⟩:=Ne.irow_cell ((HI5.out.kept HBW.out).kept hbd) (i:=j) (by rw [HFH.out.len];exact hlt)
       subst e9
       obtain ⟨gb,go,e9,hgb,u0⟩:=Ne.irow_cell ((HJ5.out.kept HBW.out).kept hbd) (i:=j) (by rw [Ne.upF_len,HFH.out.len];exact hlt)
       subst e9
       rw [Ne.upF_at] at u0
       have hq:=HFB.out j hlt
       generalize Ne.amt h j=fx at *
       have hc:=HC.out
       have hm1:0≤fx*(2:Int) ^ kn:=Int.mul_nonneg hq.1 (by omega)
       have hm2:fx*(2:Int) ^ kn≤1000000*536870912:=Int.le_trans (Int.mul_le_mul_of_nonneg_right hq.2 (by omega)) (Int.mul_le_mul_of_nonneg_left hc.2 (by omega))
       have hsh:IntKind.i64.wrap (fx*(2:Int) ^ kn)=fx*(2:Int) ^ kn:=by rw [IntKind.wrap_i64];omega
       have hk64:(kn:Int)≤64:=by omega
       have hk0:(0:Int)≤(kn:Int):=by omega
       rw [Int.mul_comm] at u0
       generalize hgx:fx*(2:Int) ^ kn=gx at *
       have hgg:(gx != gx)=false:=by simp
       have HB2:=Lib.hid (HBW.out.trans (hbd.mono HBW.out.size))
       have HGG:=Lib.hid (show j+1+(gk-1)=ml.length∧gk-1<gk by omega)
       have hS0:=(show (fun w':World=>w'.cell? ⟨gb,go+j,none⟩=some (.int .i64 gx)∧w'.cell? ⟨fb,fo+j,none⟩=some (.int .i64 fx)) wr.drew from ⟨u0,d0⟩)
       clear hbd u0 d0 hq hc hm1 hm2
       go_wp2
       refine Rh.start (S:=(fun w':World=>w'.cell? ⟨gb,go+j,none⟩=some (.int .i64 gx)∧w'.cell? ⟨fb,fo+j,none⟩=some (.int .i64 fx))) (by kernel_rfl) ?_
       refine Rh.tp 118 0 hS0 ?_
       refine Rh.tp 119 1 hS0 ?_
       refine Rh.tp 120 2 hS0 ?_
       refine Rh.tp 121 3 hS0 ?_
       refine Rh.tp 122 4 hS0 ?_
       refine Rh.tp 123 5 hS0 ?_
       refine Rh.tp 124 6 hS0 ?_
       refine Rh.tp 125 7 hS0 ?_
       refine Rh.tp 126 8 hS0 ?_
       refine Rh.tp 127 9 hS0 ?_
       refine Rh.tp 128 10 hS0 ?_
       refine Rh.done (by kernel_rfl) ?_ _
       go_wp2
       go_roundg (gk-1)
       case measure=>exact HGG.out.2
       case rel=>exact ⟨j+1,rfl,HGG.out.1,HB2⟩
      ·have ej:j=ml.length:=by omega
       subst ej
       have hji:decide ((ml.length:Int)<(ml.length:Int))=false:=by simp
       have hk63:=HK63.out
       have hk01:=HK01.out
       have HKK:=Lib.hid (show K≤K2 by omega)
       clear hjg hk01
       go_wp2
       go_loopg [22] K (fun gk s22 wr=>∃ j:Nat,s22=.int .i64 (j:Int)∧j+gk=K∧Hid (Below w5.heap.size w5 wr))
       case atStart=>exact ⟨0,rfl,by omega,HBW⟩
       case round =>
        obtain ⟨j,rfl,hjg,HBW⟩:=hrel
        by_cases hlt:j<K
        ·have hji:(j:Int)<(K:Int):=by omega
         have hjk:j<K2:=by have:=HKK.out;omega
         have hji2:(j:Int)<(K2:Int):=by omega
         have hj0:(0:Int)≤(j:Int):=by omega
         have hw1:IntKind.i64.wrap ((j:Int)+1)=((j+1:Nat):Int):=by rw [IntKind.wrap_i64];omega
         have hbd:=Ne.below_drew (Below.refl wr.heap.size wr)
         obtain ⟨tb,toff,e9,htb,d0,d1,d2,d3⟩:=Ne.trow_cell ((HT5.out.kept HBW.out).kept hbd) (i:=j) (by rw [TL.out];exact hlt)
         subst e9
         obtain ⟨ub,uoff,e9,hub,u0,u1,u2,u3⟩:=Ne.trow_cell ((HU5.out.kept HBW.out).kept hbd) (i:=j) (by rw [HUL.out];exact hjk)
         subst e9
         rw [HU1.out j hlt] at u0 u1 u2 u3
         have hq:=HVB.out j hlt
         rcases htn:Ne.tnAt ts j with ⟨tx,tp,tk,tv⟩
         rw [htn] at d0 d1 d2 d3 u0 u1 u2 u3 hq
         unfold Ne.upT at u0 u1 u2 u3
         simp only at d0 d1 d2 d3 u0 u1 u2 u3 hq
         have hc:=HC.out
         have hm1:0≤tx*(2:Int) ^ kn:=Int.mul_nonneg hq.1 (by omega)
         have hm2:tx*(2:Int) ^ kn≤1000000*536870912:=Int.le_trans (Int.mul_le_mul_of_nonneg_right hq.2.1 (by omega)) (Int.mul_le_mul_of_nonneg_left hc.2 (by omega))
         have hm3:0≤tv*(2:Int) ^ kn:=Int.mul_nonneg hq.2.2.1 (by omega)
         have hm4:tv*(2:Int) ^ kn≤9000000000*536870912:=Int.le_trans (Int.mul_le_mul_of_nonneg_right hq.2.2.2 (by omega)) (Int.mul_le_mul_of_nonneg_left hc.2 (by omega))
         have hsh:IntKind.i64.wrap (tx*(2:Int) ^ kn)=tx*(2:Int) ^ kn:=by rw [IntKind.wrap_i64];omega
         have hsh2:IntKind.i64.wrap (tv*(2:Int) ^ kn)=tv*(2:Int) ^ kn:=by rw [IntKind.wrap_i64];omega
         have hk64:(kn:Int)≤64:=by omega
         have hk0:(0:Int)≤(kn:Int):=by omega
         rw [Int.mul_comm] at u0 u3
         generalize hgx:tx*(2:Int) ^ kn=gx at *
         generalize hgv:tv*(2:Int) ^ kn=gv at *
         have hgg:(gx != gx)=false:=by simp
         have hg2:(gv != gv)=false:=by simp
         have hg3:((tp:Int) != (tp:Int))=false:=by simp
         have hg4:((tk:Int) != (tk:Int))=false:=by simp
         have HB2:=Lib.hid (HBW.out.trans (hbd.mono HBW.out.size))
         have HGG:=Lib.hid (show j+1+(gk-1)=K∧gk-1<gk by omega)
         have hS0:=(show (fun w':World=>w'.cell? ⟨ub,uoff+j*4,none⟩=some (.int .i64 gx)∧w'.cell? ⟨ub,uoff+j*4+1,none⟩=some (.int .i64 (tp:Int))∧w'.cell? ⟨ub,uoff+j*4+2,none⟩=some (.int .i64 (tk:Int))∧w'.cell? ⟨ub,uoff+j*4+3,none⟩=some (.int .i64 gv)∧w'.cell? ⟨tb,toff+j*4,none⟩=some (.int .i64 tx)∧w'.cell? ⟨tb,toff+j*4+1,none⟩=some (.int .i64 (tp:Int))∧w'.cell? ⟨tb,toff+j*4+2,none⟩=some (.int .i64 (tk:Int))∧w'.cell? ⟨tb,toff+j*4+3,none⟩=some (.int .i64 tv)) wr.drew from ⟨u0,u1,u2,u3,d0,d1,d2,d3⟩)
         clear hbd u0 u1 u2 u3 d0 d1 d2 d3 hq hc hm1 hm2 hm3 hm4 htn
         go_wp2
         refine Rh.start (S:=(fun w':World=>w'.cell? ⟨ub,uoff+j*4,none⟩=some (.int .i64 gx)∧w'.cell? ⟨ub,uoff+j*4+1,none⟩=some (.int .i64 (tp:Int))∧w'.cell? ⟨ub,uoff+j*4+2,none⟩=some (.int .i64 (tk:Int))∧w'.cell? ⟨ub,uoff+j*4+3,none⟩=some (.int .i64 gv)∧w'.cell? ⟨tb,toff+j*4,none⟩=some (.int .i64 tx)∧w'.cell? ⟨tb,toff+j*4+1,none⟩=some (.int .i64 (tp:Int))∧w'.cell? ⟨tb,toff+j*4+2,none⟩=some (.int .i64 (tk:Int))∧w'.cell? ⟨tb,toff+j*4+3,none⟩=some (.int .i64 tv))) (by kernel_rfl) ?_
         refine Rh.tp 135 0 hS0 ?_
         refine Rh.tp 136 1 hS0 ?_
         refine Rh.tp 137 2 hS0 ?_
         refine Rh.tp 138 3 hS0 ?_
         refine Rh.tp 139 4 hS0 ?_
         refine Rh.tp 140 5 hS0 ?_
         refine Rh.tp 141 6 hS0 ?_
         refine Rh.tp 142 7 hS0 ?_
         refine Rh.tp 143 8 hS0 ?_
         refine Rh.tp 144 9 hS0 ?_
         refine Rh.tp 145 10 hS0 ?_
         refine Rh.tp 146 11 hS0 ?_
         refine Rh.tp 147 12 hS0 ?_
         refine Rh.tp 148 13 hS0 ?_
         refine Rh.tp 149 14 hS0 ?_
         refine Rh.tp 150 15 hS0 ?_
         refine Rh.tp 151 16 hS0 ?_
         refine Rh.tp 152 17 hS0 ?_
         refine Rh.tp 153 18 hS0 ?_
         refine Rh.tp 154 19 hS0 ?_
         refine Rh.tp 155 20 hS0 ?_
         refine Rh.tp 156 21 hS0 ?_
         refine Rh.tp 157 22 hS0 ?_
         refine Rh.tp 158 23 hS0 ?_
         refine Rh.tp 159 24 hS0 ?_
         refine Rh.tp 160 25 hS0 ?_
         refine Rh.tp 161 26 hS0 ?_
         refine Rh.tp 162 27 hS0 ?_
         refine Rh.tp 163 28 hS0 ?_
         refine Rh.tp 164 29 hS0 ?_
         refine Rh.tp 165 30 hS0 ?_
         refine Rh.tp 166 31 hS0 ?_
         refine Rh.tp 167 32 hS0 ?_
         refine Rh.tp 168 33 hS0 ?_
         refine Rh.tp 169 34 hS0 ?_
         refine Rh.tp 170 35 hS0 ?_
         refine Rh.tp 171 36 hS0 ?_
         refine Rh.tp 172 37 hS0 ?_
         refine Rh.tp 173 38 hS0 ?_
         refine Rh.tp 174 39 hS0 ?_
         refine Rh.tp 175 40 hS0 ?_
         refine Rh.tp 176 41 hS0 ?_
         refine Rh.tp 177 42 hS0 ?_
         refine Rh.tp 178 43 hS0 ?_
         refine Rh.tp 179 44 hS0 ?_
         refine Rh.tp 180 45 hS0 ?_
         refine Rh.tp 181 46 hS0 ?_
         refine Rh.tp 182 47 hS0 ?_
         refine Rh.tp 183 48 hS0 ?_
         refine Rh.tp 184 49 hS0 ?_
         refine Rh.tp 185 50 hS0 ?_
         refine Rh.tp 186 51 hS0 ?_
         refine Rh.tp 187 52 hS0 ?_
         refine Rh.tp 188 53 hS0 ?_
         refine Rh.done (by kernel_rfl) ?_ _
         go_wp2
         go_roundg (gk-1)
         case measure=>exact HGG.out.2
         case rel=>exact ⟨j+1,rfl,HGG.out.1,HB2⟩
        ·have ej:j=K:=by omega
         subst ej
         have hji:decide ((j:Int)<(j:Int))=false:=by simp
         clear hjg
         go_wp2
         go_loopg [23] K2 (fun gk s23 wr=>∃ m:Nat,s23=.int .i64 (m:Int)∧m+gk=j+K2∧Hid (j≤m∧m≤K2)∧Hid (Below w5.heap.size w5 wr))
         case atStart=>exact ⟨j,rfl,by omega,Lib.hid ⟨Nat.le_refl _,HKK.out⟩,HBW⟩
         case round =>
          obtain ⟨m,rfl,hjg,HJM,HBW⟩:=hrel
          have hjm:=HJM.out
          by_cases hlt:m<K2
          ·have hji:(m:Int)<(K2:Int):=by omega
           have hj0:(0:Int)≤(m:Int):=by omega
           have hw1:IntKind.i64.wrap ((m:Int)+1)=((m+1:Nat):Int):=by rw [IntKind.wrap_i64];omega
           have hbd:=Ne.below_drew (Below.refl wr.heap.size wr)
           have hk01:=HK01.out
           obtain ⟨k1,hk1⟩:∃ k1,k1+1=j:=⟨j-1,by omega⟩
           obtain ⟨q1,q2⟩:=HU2.out m hjm.1 hlt
           rw [show j-1=k1 by omega] at q2
           have hR:=(HU5.out.kept HBW.out).kept hbd
           obtain ⟨ub,uoff,e9,hub,u0,u1,u2,u3⟩:=Ne.trow_cell hR (i:=m) (by rw [HUL.out];exact hlt)
           obtain ⟨ub2,uoff2,e10,hub2,x0,x1,x2,x3⟩:=Ne.trow_cell hR (i:=k1) (by rw [HUL.out];omega)
           rw [e9] at e10
           simp only [Option.some.injEq,Addr.mk.injEq] at e10
           obtain ⟨rfl,rfl,_⟩:=e10
           clear hR
           subst e9
           rw [q1] at u1
           rw [q2] at u3
           generalize (Ne.tnAt us k1).v=vv at *
           have hw2:IntKind.i64.wrap ((j:Int)-1)=(k1:Int):=by rw [IntKind.wrap_i64];omega
           have hk1i:(k1:Int)<(K2:Int):=by omega
           have hk1z:(0:Int)≤(k1:Int):=by omega
           have hgg:(vv != vv)=false:=by simp
           have h00:((0:Int) != 0)=false:=by decide
           have HB2:=Lib.hid (HBW.out.trans (hbd.mono HBW.out.size))
           have HGG:=Lib.hid (show m+1+(gk-1)=j+K2∧gk-1<gk by omega)
           have HJN:=Lib.hid (show j≤m+1∧m+1≤K2 by omega)
           have hS0:=(show (fun w':World=>w'.cell? ⟨ub,uoff+m*4+1,none⟩=some (.int .i64 0)∧w'.cell? ⟨ub,uoff+m*4+3,none⟩=some (.int .i64 vv)∧w'.cell? ⟨ub,uoff+k1*4+3,none⟩=some (.int .i64 vv)) wr.drew from ⟨u1,u3,x3⟩)
           clear hbd u0 u1 u2 u3 x0 x1 x2 x3 q1 q2 hk01 hjm hk1
           go_wp2
           refine Rh.start (S:=(fun w':World=>w'.cell? ⟨ub,uoff+m*4+1,none⟩=some (.int .i64 0)∧w'.cell? ⟨ub,uoff+m*4+3,none⟩=some (.int .i64 vv)∧w'.cell? ⟨ub,uoff+k1*4+3,none⟩=some (.int .i64 vv))) (by kernel_rfl) ?_
           refine Rh.tp 197 0 hS0 ?_
           refine Rh.tp 198 1 hS0 ?_
           refine Rh.tp 199 2 hS0 ?_
           refine Rh.tp 200 3 hS0 ?_
           refine Rh.tp 201 4 hS0 ?_
           refine Rh.tp 202 5 hS0 ?_
           refine Rh.tp 203 6 hS0 ?_
           refine Rh.tp 204 7 hS0 ?_
           refine Rh.tp 205 8 hS0 ?_
           refine Rh.tp 206 9 hS0 ?_
           refine Rh.tp 207 10 hS0 ?_
           refine Rh.tp 208 11 hS0 ?_
           refine Rh.tp 209 12 hS0 ?_
           refine Rh.tp 210 13 hS0 ?_
           refine Rh.tp 211 14 hS0 ?_
           refine Rh.tp 212 15 hS0 ?_
           refine Rh.tp 213 16 hS0 ?_
           refine Rh.tp 214 17 hS0 ?_
           refine Rh.tp 215 18 hS0 ?_
           refine Rh.tp 216 19 hS0 ?_
           refine Rh.tp 217 20 hS0 ?_
           refine Rh.done (by kernel_rfl) ?_ _
           go_wp2
           go_roundg (gk-1)
           case measure=>exact HGG.out.2
           case rel=>exact ⟨m+1,rfl,HGG.out.1,HJN,HB2⟩
          ·have em:m=K2:=by omega
           subst em
           have hji:decide ((m:Int)<(m:Int))=false:=by simp
           clear hjg hjm
           go_wp2
           go_ret
           exact ⟨rfl,HB3.out.trans ((HB5.out.trans (HBW.out.mono HB5.out.size)).mono HB3.out.size)⟩

end Go.Proofs.YtoadkckceladgaaGreat.scaleLarge
