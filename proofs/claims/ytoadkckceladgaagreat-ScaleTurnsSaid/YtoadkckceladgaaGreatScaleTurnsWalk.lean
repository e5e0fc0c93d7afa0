/- ScaleTurns: for every input the law returns true and its arguments read as they did. No condition. -/
import Derived.Test.YtoadkckceladgaaGreatBb44
import Derived.Test.YtoadkckceladgaaGreatBb43
import Derived.Deep.LoopGhost
import Derived.Deep.DeepCutAuto
import Derived.RegionTactic
import Derived.BigRegion
import Derived.Test.YtoadkckceladgaaGreatRows
import Derived.WalkKit
import Derived.ProofKit
import Derived.OpenShut
import Derived.ShutString
import Derived.ChangeOld
import Derived.Below
import Derived.Deep.Strs
namespace Go.Proofs.YtoadkckceladgaaGreat.scaleTurns
open Go.ChangeShapes Go.WideShapes Go.ChangeAt Go.RowKit
open Go.ChangeMaps (open_string shut_string)
set_option linter.unusedVariables false
set_option linter.unusedSimpArgs false

theorem own : ownKnob Tryz.prog.godebug = none := by kernel_rfl
theorem laidOut : laidOutB Tryz.prog = true := by kernel_rfl

def IntsIn (k : IntKind) (w : World) (a : Option Addr) (len cap : Nat) (zs : List Int) : Prop :=
  (a = none ∧ len = 0 ∧ cap = 0 ∧ zs = []) ∨
  ∃ x, a = some x ∧ len ≤ cap ∧ cap ≤ maxLen ∧ zs.length = cap ∧ (∀ i, i < zs.length → w.cell? (x.add i) = some (.int k (zs.getD i 0))) ∧ ∀ n ∈ zs, (Lit.int k n).wf = true

/-- the capacities along the path -/
def capQ (cs : List Int) (i : Nat) : Int := if i < cs.length then Ne.pickN (Ne.amt cs i) 5000 else 8192
theorem capQ_bd (cs : List Int) (i : Nat) : 0 ≤ capQ cs i ∧ capQ cs i ≤ 8192 := by
  unfold capQ
  have := Ne.pickN_bd (c := Ne.amt cs i) (n := 5000) (by omega)
  split <;> omega
theorem capQ_min (cs : List Int) (h : cs.length ≠ 0) : Ch.minC (capQ cs) (cs.length + 1) = Ch.minC (capQ cs) cs.length := by
  have h1 := Ch.min_le (capQ cs) cs.length 0 (by omega)
  have h2 : capQ cs 0 < 5000 := by
    unfold capQ; rw [if_pos (by omega)]
    exact (Ne.pickN_bd (c := Ne.amt cs 0) (n := 5000) (by omega)).2
  have h3 : capQ cs cs.length = 8192 := by unfold capQ; rw [if_neg (by omega)]
  show min _ (capQ cs cs.length) = _
  omega
theorem capQ_sta (cs : List Int) : Ne.staN (Ch.arcsC (capQ cs) (cs.length + 1)) = Ne.fstR 14 := by
  have hl : (Ch.arcsC (capQ cs) (cs.length + 1)).length = cs.length + 1 := Ch.arcs_len _ _
  have h1 : Ne.mxC (Ch.arcsC (capQ cs) (cs.length + 1)) (Ch.arcsC (capQ cs) (cs.length + 1)).length ≤ 8192 := Ne.mxC_in _ (by omega) fun i hi => by
    rw [hl] at hi
    rw [Ch.arcs_at _ hi]
    exact (capQ_bd cs i).2
  have h2 := Ne.mxC_le (l := Ch.arcsC (capQ cs) (cs.length + 1)) (k := (Ch.arcsC (capQ cs) (cs.length + 1)).length) (i := cs.length) (by omega)
  rw [Ch.arcs_at _ (by omega)] at h2
  have h3 : capQ cs cs.length = 8192 := by unfold capQ; rw [if_neg (by omega)]
  simp only [h3] at h2
  have e1 : Ne.fstR 14 = 8192 := rfl
  have e2 : Ne.fstR 15 = 16384 := rfl
  exact Ne.sta_one (by omega) (by omega) (by show _ < Ne.fstR 15; omega) (by omega)

set_option maxRecDepth 100000 in
set_option maxHeartbeats 4000000 in
theorem walk (a0 : Option Addr) (len0 cap0 : Nat) (l0 : List Int) (a1 : Bool) (w : World) (w0 : IntsIn .i64 w a0 len0 cap0 l0) :
    Calls Tryz.prog 6 #[.slice a0 len0 cap0, .bool a1] w fun e w' => e = .returned (.bool true) ∧ Below w.heap.size w w' := by
  have HSH:=Lib.hid (Ne.shown_any w)
  obtain ⟨cs,hk0,hq0,bq0,hcc,hcm,_⟩:=Ne.ints_row w0
  subst hk0
  clear w0
  have BK0:=Lib.hid bq0
  have KR0:=Lib.hid hq0
  clear bq0 hq0
  obtain ⟨q,hm⟩:∃ m,m=cs.length:=⟨_,rfl⟩
  rw [← hm]
  have HMM:=Lib.hid hm
  have hm63:q≤9223372036854775807:=by unfold maxLen at hcm;omega
  clear hcc hcm
  by_cases g1:40<q
  ·have g1':(40:Int)<(q:Int):=by omega
   go_enter Tryz.func6,Tryz.ntmps6
   go_wp2_with fail
   refine HSH.out.mono ?_
   rintro e w1 ⟨rfl,hb⟩
   have HB1:=Lib.hid hb
   clear hb
   go_wp2
   go_ret
   exact ⟨rfl,HB1.out⟩
  have g1':¬ (40:Int)<(q:Int):=by omega
  have hq40:q≤40:=by omega
  have hCB:∀ i,0≤capQ cs i∧capQ cs i≤1000000:=fun i=>by have:=capQ_bd cs i;omega
  have ck:=Ch.check hCB (m:=q+1) (by omega) (by omega)
  obtain ⟨Z,hZ⟩:∃ Z:Int,Z=((q+1:Nat):Int)+1:=⟨_,rfl⟩
  obtain ⟨M,hM⟩:∃ M,M=Ch.minC (capQ cs) (q+1):=⟨_,rfl⟩
  have hMb:0≤M∧M≤8192:=by
   have h1:=Ch.min_bd (capQ cs) hCB (q+1)
   have h2:=Ch.min_le (capQ cs) (q+1) q (by omega)
   have h3:=capQ_bd cs q
   rw [← hM] at h1 h2;omega
  have hsq:=(Ch.sqs_chn hCB (m:=q+1) (by omega) (by omega) 14).2 (by
   have e2:Ne.fstR 15=16384:=rfl
   show _<Ne.fstR 15
   rw [← hM];omega)
  obtain ⟨hf0,hf1,hf2,_⟩:=Ch.flow_rep hCB (m:=q+1) (by omega) (by omega)
  have hsk:Ne.staN (Ch.arcsC (capQ cs) (q+1))=Ne.fstR 14:=by rw [hm];exact capQ_sta cs
  have HCK:=Lib.hid (fun k (h:k<q)=>show capQ cs k=Ne.pickN (Ne.amt cs k) 5000 by unfold capQ;rw [if_pos (by omega)])
  have HCQ:=Lib.hid (show capQ cs q=8192 by unfold capQ;rw [if_neg (by omega)])
  have HMZ:=Lib.hid (show q=0→M=8192 from fun e=>by
   rw [hM,e]
   show min (1048576:Int) (capQ cs 0)=_
   have:=HCQ.out;rw [e] at this;omega)
  have HMN:=Lib.hid (show q≠0→M=Ch.minC (capQ cs) q from fun e=>by rw [hM];have:=capQ_min cs (by omega);rwa [← hm] at this)
  have HAN:=Lib.hid (fun k=>Ch.arcs_len (capQ cs) k)
  rw [← hZ] at ck hsq hf1 hf2
  rw [← hM] at hsq hf1 hf2
  have CK:=Lib.hid ck
  have MX:=Lib.hid fun (e:Bool) (ao:Option Addr) (cap:Nat) w' h1=>Ne.smax_flow ⟨Z,1,Z,Ch.arcsC (capQ cs) (q+1)⟩ ao cap w' CK.out h1 (by simp only [HAN.out];exact hsq) hsk (by omega) e
  have VV:=Lib.hid fun (ao:Option Addr) (cap:Nat) fo fc w' h1 h2=>Ne.val_flow (n:=⟨Z,1,Z,Ch.arcsC (capQ cs) (q+1)⟩) (f:=List.replicate (q+1) M) ao cap fo fc w' CK.out h1 h2 hf1
  have STT:=Lib.hid fun (ao:Option Addr) (cap:Nat) w' h1=>Ne.dstarts_any ⟨Z,1,Z,Ch.arcsC (capQ cs) (q+1)⟩ ao cap w' h1 (by simp only [HAN.out];omega) (Ne.cap_64 (Ne.right_of CK.out))
  simp only [Ne.encN,HAN.out,hf2,hsk,show Ne.fstR 14=8192 from rfl] at MX VV STT
  have HTL:=Lib.hid (show (Ch.chT M 14 false).length=14 by have:=Ne.sqs_len hsq;rwa [Ne.rms_len] at this)
  have HTA:=Lib.hid (fun j (h:j<14)=>Ch.chT_at M (K:=14) (i:=j) h (by
   have e2:Ne.fstR 15=16384:=rfl
   show _<Ne.fstR 15
   omega))
  have HAS:=Lib.hid (fun k=>Ch.arcs_succ (capQ cs) k)
  have HA0:=Lib.hid (show Ch.arcsC (capQ cs) 0=[] from rfl)
  have HMS:=Lib.hid (fun k=>show Ch.minC (capQ cs) (k+1)=min (Ch.minC (capQ cs) k) (capQ cs k) from rfl)
  have HM0:=Lib.hid (show Ch.minC (capQ cs) 0=1048576 from rfl)
  have HMBB:=Lib.hid (Ch.min_bd (capQ cs) hCB)
  have HMB:=Lib.hid hMb
  have hwz:IntKind.i64.wrap (2+(q:Int))=Z:=by rw [IntKind.wrap_i64];omega
  clear hM hMb hsq hf0 hf1 hf2 hsk ck hCB hm hZ
  generalize Ch.chT M 14 false=ts at *
  generalize Ch.minC (capQ cs)=MC at *
  generalize Ch.arcsC (capQ cs)=AC at *
  generalize capQ cs=CQ at *
  cases a1
  case' false=>have MQ:=Lib.hid fun ao cap w' h1=>MX.out false ao cap w' h1
  case' true=>have MQ:=Lib.hid fun ao cap w' h1=>MX.out true ao cap w' h1
  all_goals
   simp only [Ne.engC,Bool.false_eq_true,if_false,if_true] at MQ
   clear MX
   go_enter Tryz.func6,Tryz.ntmps6
   go_wp2_with fail
   refine HSH.out.mono ?_
   rintro e w1 ⟨rfl,hb⟩
   have HB1:=Lib.hid hb
   clear hb HSH
   have HN2:=Lib.hid (Ne.netBox_new w1 Z 1 Z (.slice none 0 0))
   have HB2:=Lib.hid (HB1.out.alloc HB1.out.size (.cells #[.int .i64 Z,.int .i64 1,.int .i64 Z,.slice none 0 0] 24))
   go_upto_region 5 with fail
   obtain ⟨bn,hbn⟩:∃ b,b=w1.heap.size:=⟨_,rfl⟩
   have HBN:=Lib.hid (show w.heap.size≤bn by have:=HB1.out.size;omega)
   rw [← hbn] at HN2 ⊢
   clear hbn
   generalize (w1.alloc (.cells #[.int .i64 Z,.int .i64 1,.int .i64 Z,.slice none 0 0] 24))=W2 at *
   go_wp2
   go_loopg [7,8,9] q (fun g sf i ic wr=>(∃ z,ic=z)∧∃ (k:Nat) (mm:Int) (v:Value),sf=.int .i64 mm∧i=.int .i64 k∧k+g=q∧0≤mm∧mm≤1048576∧Hid (mm=MC k)∧Hid (Ne.NetBox wr bn Z 1 Z v)∧Hid (Ne.OwnA wr (bn+1) v (AC k))∧Hid (Below w.heap.size w wr))
   case atStart=>exact ⟨⟨_,rfl⟩,0,_,_,rfl,rfl,by omega,by omega,by omega,Lib.hid HM0.out.symm,HN2,Lib.hid (by rw [HA0.out];exact Rw.own_nil _ _),HB2⟩
   case round =>
    obtain ⟨⟨z9,rfl⟩,k,mm,v,rfl,rfl,hkg,hm0,hmx,HMM7,HNW,HOW,HBW⟩:=hrel
    obtain ⟨o9,c9,hv9,_,_,hn9,hr9,hb9,_⟩:=Rw.own_row Ne.encA_len HOW.out
    rw [HAN.out] at hv9
    subst hv9
    have hbl:=Ne.netBox_lt HNW.out
    have HVB:=Lib.hid (Rw.own_block HOW.out)
    have HBNN:=HBN.out
    obtain ⟨n0,n1,n2,n3⟩:=Ne.netBox_cells HNW.out
    by_cases hlt:k<q
    ·have hki:(k:Int)<(q:Int):=by omega
     have hk0:(0:Int)≤(k:Int):=by omega
     obtain ⟨b0,o0,e0,hb0,d0⟩:=Ne.irow_cell (KR0.out.kept HBW.out) (i:=k) (by rw [← HMM.out];exact hlt)
     subst e0
     have hraw:=BK0.out (Ne.amt cs k) (by have:=Ne.at_amt (f:=cs) (i:=k) (by rw [← HMM.out];exact hlt);exact List.mem_of_getElem? this)
     have hasq:=HAS.out k
     have hmsk:=HMS.out k
     rw [HCK.out k hlt] at hasq hmsk
     have HAK:=Lib.hid hasq
     have HMK:=Lib.hid hmsk
     have hmb1:=HMBB.out (k+1)
     clear hasq hmsk
     generalize Ne.amt cs k=raw at *
     have PK:=Lib.hid fun w'=>Ne.pick_any raw 5000 w' hraw.1 hraw.2 (by omega) (by omega)
     have bpk:=Ne.pickN_bd (c:=raw) (n:=5000) (by omega)
     generalize Ne.pickN raw 5000=pk at *
     have HNA:=Lib.hid (Ne.netBox_alloc HNW.out (.cells #[.int .i64 ((k:Int)+1),.int .i64 ((k:Int)+2),.int .i64 pk] 51))
     have HOA:=Lib.hid (Rw.own_alloc HOW.out (.cells #[.int .i64 ((k:Int)+1),.int .i64 ((k:Int)+2),.int .i64 pk] 51))
     have HAR:=Lib.hid (Ne.arow_at1 wr rfl ⟨(k:Int)+1,(k:Int)+2,pk⟩)
     have HLN:=Lib.hid (show (AC k).length+([⟨(k:Int)+1,(k:Int)+2,pk⟩]:List Ne.Arc).length≤1099511627776 by rw [HAN.out];simp;omega)
     have HBA:=Lib.hid (HBW.out.alloc HBW.out.size (.cells #[.int .i64 ((k:Int)+1),.int .i64 ((k:Int)+2),.int .i64 pk] 51))
     have HZA:=Lib.hid (show bn+1≤(wr.alloc (.cells #[.int .i64 ((k:Int)+1),.int .i64 ((k:Int)+2),.int .i64 pk] 51)).heap.size by simp;omega)
     obtain ⟨mn,hmn⟩:∃ mn,min mm pk=mn:=⟨_,rfl⟩
     have HFN:=Lib.hid (show mn=MC (k+1) by rw [HMK.out,← HMM7.out,hmn])
     have hmn0:0≤mn:=by rw [HFN.out];exact hmb1.1
     have hmn1:mn≤1048576:=by rw [HFN.out];exact hmb1.2
     clear hmb1 HMK
     go_wp2_with fail
     refine (PK.out _).mono ?_
     rintro e w' ⟨rfl,rfl⟩
     clear hr9 hb9 d0
     go_wp2_with (at_builtin;refine Rw.app Ne.elemA Ne.encA_len Ne.encA_one rfl (.tmp 50) (.tmp 57) rfl (bn+1) _ (AC k) rfl HOA.out (some ⟨wr.heap.size,0,none⟩) 1 [⟨(k:Int)+1,(k:Int)+2,pk⟩] rfl ?hnn HAR.out HLN.out ?hB ?_;(case hnn=>(intro h;cases h));(case hB=>(exact HZA.out));intro v8 w8 hown8 hgr8;rw [← HAK.out] at hown8;obtain ⟨o8,c8,hv8,_⟩:=Rw.own_row Ne.encA_len hown8;rw [HAN.out] at hv8;subst hv8;have HN8:=Lib.hid (Ne.netBox_grown HNA.out hgr8 (fun h=>by have:=HVB.out _ h.symm;omega));have HO8:=Lib.hid hown8;have HB8:=Lib.hid (HBA.out.grown hgr8 HBA.out.size (fun b hb=>by have:=HVB.out b hb;omega));have m3:=(Ne.netBox_cells HN8.out).2.2.2;have mf:=Ne.netBox_frozen HN8.out 3;clear hown8 hgr8)
     have HN9:=Lib.hid (Ne.netBox_set (v2:=.slice o8 (k+1) c8) HN8.out)
     have HO9:=Lib.hid (Rw.own_set HO8.out (p:=⟨bn,3,none⟩) (fun h=>by have:=Rw.own_block HO8.out _ h;simp only at this;omega) (.slice o8 (k+1) c8))
     have HB9:=Lib.hid (HB8.out.setCell (p:=⟨bn,3,none⟩) HBNN (.slice o8 (k+1) c8))
     go_roundg (q-(k+1))
     case measure=>omega
     case rel=>exact ⟨⟨_,rfl⟩,k+1,mn,_,rfl,by go_num,by omega,hmn0,hmn1,HFN,HN9,HO9,HB9⟩
    ·have ek:k=q:=by omega
     subst ek
     have hji:decide ((k:Int)<(k:Int))=false:=by simp
     have haq:=HAS.out k
     rw [HCQ.out] at haq
     have HAK:=Lib.hid haq
     have hmv:=HMM7.out
     have HNA:=Lib.hid (Ne.netBox_alloc HNW.out (.cells #[.int .i64 ((k:Int)+1),.int .i64 ((k:Int)+2),.int .i64 8192] 51))
     have HOA:=Lib.hid (Rw.own_alloc HOW.out (.cells #[.int .i64 ((k:Int)+1),.int .i64 ((k:Int)+2),.int .i64 8192] 51))
     have HAR:=Lib.hid (Ne.arow_at1 wr rfl ⟨(k:Int)+1,(k:Int)+2,8192⟩)
     have HLN:=Lib.hid (show (AC k).length+([⟨(k:Int)+1,(k:Int)+2,8192⟩]:List Ne.Arc).length≤1099511627776 by rw [HAN.out];simp;omega)
     have HBA:=Lib.hid (HBW.out.alloc HBW.out.size (.cells #[.int .i64 ((k:Int)+1),.int .i64 ((k:Int)+2),.int .i64 8192] 51))
     have HZA:=Lib.hid (show bn+1≤(wr.alloc (.cells #[.int .i64 ((k:Int)+1),.int .i64 ((k:Int)+2),.int .i64 8192] 51)).heap.size by simp;omega)
     have HMMV:=Lib.hid hmv
     clear hr9 hb9 haq hmv hkg hlt
     go_upto_region 13 with (at_builtin;refine Rw.app Ne.elemA Ne.encA_len Ne.encA_one rfl (.tmp 61) (.tmp 69) rfl (bn+1) _ (AC k) rfl HOA.out (some ⟨wr.heap.size,0,none⟩) 1 [⟨(k:Int)+1,(k:Int)+2,8192⟩] rfl ?hnn HAR.out HLN.out ?hB ?_;(case hnn=>(intro h;cases h));(case hB=>(exact HZA.out));intro v8 w8 hown8 hgr8;rw [← HAK.out] at hown8;obtain ⟨o8,c8,hv8,_⟩:=Rw.own_row Ne.encA_len hown8;rw [HAN.out] at hv8;subst hv8;have HN8:=Lib.hid (Ne.netBox_grown HNA.out hgr8 (fun h=>by have:=HVB.out _ h.symm;omega));have HO8:=Lib.hid hown8;have HB8:=Lib.hid (HBA.out.grown hgr8 HBA.out.size (fun b hb=>by have:=HVB.out b hb;omega));have m3:=(Ne.netBox_cells HN8.out).2.2.2;have mf:=Ne.netBox_frozen HN8.out 3;clear hown8 hgr8)
     have HNA9:=Lib.hid (Ne.netBox_set (v2:=.slice o8 (k+1) c8) HN8.out)
     have HOA9:=Lib.hid (Rw.own_set HO8.out (p:=⟨bn,3,none⟩) (fun h=>by have:=Rw.own_block HO8.out _ h;simp only at this;omega) (.slice o8 (k+1) c8))
     have HBA9:=Lib.hid (HB8.out.setCell (p:=⟨bn,3,none⟩) HBNN (.slice o8 (k+1) c8))
     generalize (w8.setCell ⟨bn,3,none⟩ (.slice o8 (k+1) c8))=W9 at *
     clear n0 n1 n2 n3 m3 mf HN8 HO8 HB8
     have HR3:=Lib.hid (Ne.arow_ofA HOA9.out)
     obtain ⟨n0,n1,n2,n3⟩:=Ne.netBox_cells HNA9.out
     go_wp2_with fail
     refine (MQ.out o8 c8 _ HR3.out).mono ?_
     rintro e w6 ⟨oa,ca,ot,ct,rfl,hi,ht,hb⟩
     have HB6:=Lib.hid (HBA9.out.trans (hb.mono HBA9.out.size))
     have HN6:=Lib.hid (Ne.netBox_below HNA9.out hb (Ne.netBox_lt HNA9.out))
     have HR6:=Lib.hid (HR3.out.kept hb)
     have HT6:=Lib.hid ht
     have HI6:=Lib.hid hi
     clear hb hi ht n0 n1 n2 n3
     obtain ⟨n0,n1,n2,n3⟩:=Ne.netBox_cells HN6.out
     go_wp2_with fail
     refine (VV.out o8 c8 oa ca _ HR6.out HI6.out).mono ?_
     rintro e w7 ⟨rfl,hb⟩
     have HB7:=Lib.hid (HB6.out.trans (hb.mono HB6.out.size))
     have HN7:=Lib.hid (Ne.netBox_below HN6.out hb (Ne.netBox_lt HN6.out))
     have HR7:=Lib.hid (HR6.out.kept hb)
     have HT7:=Lib.hid (HT6.out.kept hb)
     have hMB:=HMB.out
     clear hb
     by_cases z:k=0
     ·have z1:((k:Int) == 0)=true:=by simp;omega
      have z2:(k == 0)=true:=by simpa using z
      have hme:=HMZ.out z
      have hmz:(M != 8192)=false:=by rw [hme];decide
      clear z
      subst hme
      clear n0 n1 n2 n3
      obtain ⟨n0,n1,n2,n3⟩:=Ne.netBox_cells HN7.out
      have hsx:(8192 != (8192:Int))=false:=by decide
      have hmm:((8192:Int) != 8192)=false:=by simp
      have h14:((14:Int) != 14)=false:=by decide
      go_wp2_with fail
      refine (STT.out o8 c8 _ HR7.out).mono ?_
      rintro e w8 ⟨rfl,hb⟩
      have HB8:=Lib.hid (HB7.out.trans (hb.mono HB7.out.size))
      have HT8:=Lib.hid (HT7.out.kept hb)
      clear hb n0 n1 n2 n3
      go_wp2
      have hM8:∃ z:Int,z=8192:=⟨_,rfl⟩
      obtain ⟨M8,hM8⟩:=hM8
      rw [← hM8] at hMB HTA ⊢
      have HM8:=Lib.hid hM8
      clear hM8
      go_loopg [16,17,18] 14 (fun gg s16 s17 s18 wr=>(∃ z,s17=z)∧(∃ z,s18=z)∧∃ j:Nat,s16=.int .i64 (j:Int)∧j+gg=14∧wr=w8)
      case atStart=>exact ⟨⟨_,rfl⟩,⟨_,rfl⟩,0,rfl,by omega,rfl⟩
      case round =>
       obtain ⟨⟨z17,rfl⟩,⟨z18,rfl⟩,j,rfl,hjg,rfl⟩:=hrel
       by_cases hlt:j<14
       ·have hji:(j:Int)<14:=by omega
        have hj0:(0:Int)≤(j:Int):=by omega
        have hw1:IntKind.i64.wrap ((j:Int)+1)=((j+1:Nat):Int):=by rw [IntKind.wrap_i64];omega
        obtain ⟨tb,toff,e9,htb,d0,d1,d2,d3⟩:=Ne.trow_cell HT8.out (i:=j) (by rw [HTL.out];exact hlt)
        subst e9
        rw [HTA.out j hlt] at d0 d1 d2 d3
        obtain ⟨ee,hee⟩:∃ ee:Nat,ee+j=13:=⟨13-j,by omega⟩
        obtain ⟨X,hX⟩:∃ X,X=Ne.fstR (14-j):=⟨_,rfl⟩
        have hX1:1≤X:=by rw [hX,show 14-j=(13-j)+1 by omega];exact Ne.fst_pos _
        have hX2:X≤8192:=by
         have:=Ne.fst_mono (j:=14-j) (k:=14) (by omega)
         have e:Ne.fstR 14=8192:=rfl
         omega
        have hp:(2:Int) ^ ee=X:=by rw [hX,show 14-j=ee+1 by omega];rfl
        have hws:IntKind.i64.wrap (13-(j:Int))=(ee:Int):=by rw [IntKind.wrap_i64];omega
        have hsh:IntKind.i64.wrap ((2:Int) ^ ee)=X:=by rw [hp,IntKind.wrap_i64];omega
        have hsh1:IntKind.i64.wrap (1*(2:Int) ^ ee)=X:=by rw [Int.one_mul];exact hsh
        have he63:ee≤64:=by omega
        have hei:(ee:Int)≤64:=by omega
        have hei0:(0:Int)≤(ee:Int):=by omega
        have hw2:IntKind.i64.wrap (2*X)=2*X:=by rw [IntKind.wrap_i64];omega
        have hxx:(X != X)=false:=by simp
        rw [← hX] at d0 d1 d2 d3
        simp only at d0 d1 d2 d3
        have HGG:=Lib.hid (show j+1+(gk-1)=14∧gk-1<gk by omega)
        have HMB9:=Lib.hid hMB
        clear hp hX hee
        by_cases c:X≤M8
        ·have c1:decide (X≤M8)=true:=by simpa using c
         have c5:decide (0<M8)=true:=by simp <;> omega
         by_cases d:M8<2*X
         ·have c2:decide (M8<2*X)=true:=decide_eq_true d
          have c3:M8=8192→decide (4096<X)=true:=fun e=>by simp;omega
          clear c3
          rw [if_pos ⟨c,d⟩] at d1 d2
          rw [if_pos c] at d3
          simp only [Int.ofNat_one,Int.natCast_one] at d1 d2
          clear c d
          go_wp2
          go_roundg (gk-1)
          case measure=>exact HGG.out.2
          case rel=>exact ⟨⟨_,rfl⟩,⟨_,rfl⟩,j+1,rfl,HGG.out.1,rfl⟩
         ·have c2:decide (M8<2*X)=false:=decide_eq_false d
          have c3:M8=8192→decide (4096<X)=false:=fun e=>by simp;omega
          clear c3
          rw [if_neg (fun e=>d e.2)] at d1 d2
          rw [if_pos c] at d3
          simp only [Int.ofNat_zero,Int.natCast_zero] at d1 d2
          clear c d
          go_wp2
          go_roundg (gk-1)
          case measure=>exact HGG.out.2
          case rel=>exact ⟨⟨_,rfl⟩,⟨_,rfl⟩,j+1,rfl,HGG.out.1,rfl⟩
        ·have c1:decide (X≤M8)=false:=by simpa using c
         rw [if_neg (fun e=>c e.1)] at d1 d2
         rw [if_neg c] at d3
         simp only [Int.ofNat_zero,Int.natCast_zero] at d1 d2
         clear c
         go_wp2
         go_roundg (gk-1)
         case measure=>exact HGG.out.2
         case rel=>exact ⟨⟨_,rfl⟩,⟨_,rfl⟩,j+1,rfl,HGG.out.1,rfl⟩
       ·have ej:j=14:=by omega
        subst ej
        go_wp2
        go_ret
        exact ⟨rfl,HB8.out⟩
     ·have z1:((k:Int) == 0)=false:=by simp;omega
      have z2:(k == 0)=false:=by simpa using z
      have hme:=HMN.out z
      have hmm8:mm=M:=by rw [hme];exact HMMV.out
      subst hmm8
      clear z hme
      clear n0 n1 n2 n3
      obtain ⟨n0,n1,n2,n3⟩:=Ne.netBox_cells HN7.out
      have hsx:(8192 != (8192:Int))=false:=by decide
      have hmm:(mm != mm)=false:=by simp
      have h14:((14:Int) != 14)=false:=by decide
      go_wp2_with fail
      refine (STT.out o8 c8 _ HR7.out).mono ?_
      rintro e w8 ⟨rfl,hb⟩
      have HB8:=Lib.hid (HB7.out.trans (hb.mono HB7.out.size))
      have HT8:=Lib.hid (HT7.out.kept hb)
      clear hb n0 n1 n2 n3
      go_wp2
      go_loopg [16,17,18] 14 (fun gg s16 s17 s18 wr=>(∃ z,s17=z)∧(∃ z,s18=z)∧∃ j:Nat,s16=.int .i64 (j:Int)∧j+gg=14∧wr=w8)
      case atStart=>exact ⟨⟨_,rfl⟩,⟨_,rfl⟩,0,rfl,by omega,rfl⟩
      case round =>
       obtain ⟨⟨z17,rfl⟩,⟨z18,rfl⟩,j,rfl,hjg,rfl⟩:=hrel
       by_cases hlt:j<14
       ·have hji:(j:Int)<14:=by omega
        have hj0:(0:Int)≤(j:Int):=by omega
        have hw1:IntKind.i64.wrap ((j:Int)+1)=((j+1:Nat):Int):=by rw [IntKind.wrap_i64];omega
        obtain ⟨tb,toff,e9,htb,d0,d1,d2,d3⟩:=Ne.trow_cell HT8.out (i:=j) (by rw [HTL.out];exact hlt)
        subst e9
        rw [HTA.out j hlt] at d0 d1 d2 d3
        obtain ⟨ee,hee⟩:∃ ee:Nat,ee+j=13:=⟨13-j,by omega⟩
        obtain ⟨X,hX⟩:∃ X,X=Ne.fstR (14-j):=⟨_,rfl⟩
        have hX1:1≤X:=by rw [hX,show 14-j=(13-j)+1 by omega];exact Ne.fst_pos _
        have hX2:X≤8192:=by
         have:=Ne.fst_mono (j:=14-j) (k:=14) (by omega)
         have e:Ne.fstR 14=8192:=rfl
         omega
        have hp:(2:Int) ^ ee=X:=by rw [hX,show 14-j=ee+1 by omega];rfl
        have hws:IntKind.i64.wrap (13-(j:Int))=(ee:Int):=by rw [IntKind.wrap_i64];omega
        have hsh:IntKind.i64.wrap ((2:Int) ^ ee)=X:=by rw [hp,IntKind.wrap_i64];omega
        have hsh1:IntKind.i64.wrap (1*(2:Int) ^ ee)=X:=by rw [Int.one_mul];exact hsh
        have he63:ee≤64:=by omega
        have hei:(ee:Int)≤64:=by omega
        have hei0:(0:Int)≤(ee:Int):=by omega
        have hw2:IntKind.i64.wrap (2*X)=2*X:=by rw [IntKind.wrap_i64];omega
        have hxx:(X != X)=false:=by simp
        rw [← hX] at d0 d1 d2 d3
        simp only at d0 d1 d2 d3
        have HGG:=Lib.hid (show j+1+(gk-1)=14∧gk-1<gk by omega)
        have HMB9:=Lib.hid hMB
        clear hp hX hee
        by_cases c:X≤mm
        ·have c1:decide (X≤mm)=true:=by simpa using c
         have c5:decide (0<mm)=true:=by simp <;> omega
         by_cases d:mm<2*X
         ·have c2:decide (mm<2*X)=true:=decide_eq_true d
          have c3:mm=8192→decide (4096<X)=true:=fun e=>by simp;omega
          clear c3
          rw [if_pos ⟨c,d⟩] at d1 d2
          rw [if_pos c] at d3
          simp only [Int.ofNat_one,Int.natCast_one] at d1 d2
          clear c d
          go_wp2
          go_roundg (gk-1)
          case measure=>exact HGG.out.2
          case rel=>exact ⟨⟨_,rfl⟩,⟨_,rfl⟩,j+1,rfl,HGG.out.1,rfl⟩
         ·have c2:decide (mm<2*X)=false:=decide_eq_false d
          have c3:mm=8192→decide (4096<X)=false:=fun e=>by simp;omega
          clear c3
          rw [if_neg (fun e=>d e.2)] at d1 d2
          rw [if_pos c] at d3
          simp only [Int.ofNat_zero,Int.natCast_zero] at d1 d2
          clear c d
          go_wp2
          go_roundg (gk-1)
          case measure=>exact HGG.out.2
          case rel=>exact ⟨⟨_,rfl⟩,⟨_,rfl⟩,j+1,rfl,HGG.out.1,rfl⟩
        ·have c1:decide (X≤mm)=false:=by simpa using c
         rw [if_neg (fun e=>c e.1)] at d1 d2
         rw [if_neg c] at d3
         simp only [Int.ofNat_zero,Int.natCast_zero] at d1 d2
         clear c
         go_wp2
         go_roundg (gk-1)
         case measure=>exact HGG.out.2
         case rel=>exact ⟨⟨_,rfl⟩,⟨_,rfl⟩,j+1,rfl,HGG.out.1,rfl⟩
       ·have ej:j=14:=by omega
        subst ej
        go_wp2
        go_ret
        exact ⟨rfl,HB8.out⟩

end Go.Proofs.YtoadkckceladgaaGreat.scaleTurns
