/- DinicGrid: for every input the law returns true and its arguments read as they did. No condition. -/
import Derived.Test.YtmikbkggjlbbnaaBh40
import Derived.Test.YtmikbkggjlbbnaaBh1
import Derived.Deep.LoopGhost
import Derived.Deep.DeepCutAuto
import Derived.RegionTactic
import Derived.BigRegion
import Derived.Test.YtmikbkggjlbbnaaRows
import Derived.WalkKit
import Derived.ProofKit
import Derived.OpenShut
import Derived.ShutString
import Derived.ChangeOld
import Derived.Below
import Derived.Deep.Strs
namespace Go.Proofs.Ytmikbkggjlbbnaa.dinicGrid
open Go.ChangeShapes Go.WideShapes Go.ChangeAt Go.RowKit
open Go.ChangeMaps (open_string shut_string)
set_option linter.unusedVariables false
set_option linter.unusedSimpArgs false

theorem own : ownKnob Try.prog.godebug = none := by kernel_rfl
theorem laidOut : laidOutB Try.prog = true := by kernel_rfl

def IntsIn (k : IntKind) (w : World) (a : Option Addr) (len cap : Nat) (zs : List Int) : Prop :=
  (a = none ∧ len = 0 ∧ cap = 0 ∧ zs = []) ∨
  ∃ x, a = some x ∧ len ≤ cap ∧ cap ≤ maxLen ∧ zs.length = cap ∧ (∀ i, i < zs.length → w.cell? (x.add i) = some (.int k (zs.getD i 0))) ∧ ∀ n ∈ zs, (Lit.int k n).wf = true



set_option maxRecDepth 100000 in
set_option maxHeartbeats 4000000 in
theorem walk (a0 : Option Addr) (len0 cap0 : Nat) (l0 : List Int) (a1 : Bool) (w : World) (w0 : IntsIn .i64 w a0 len0 cap0 l0) :
    Calls Try.prog 3 #[.slice a0 len0 cap0, .bool a1] w fun e w' => e = .returned (.bool true) ∧ Below w.heap.size w w' := by
  have HSH:=Lib.hid (Ne.shown_any w)
  obtain ⟨cs,hk0,hq0,bq0,hcc,hcm,_⟩:=Ne.ints_row w0
  subst hk0
  clear w0
  have BK0:=Lib.hid bq0
  have KR0:=Lib.hid hq0
  clear bq0 hq0
  obtain ⟨m,hm⟩:∃ m,m=cs.length:=⟨_,rfl⟩
  rw [← hm]
  have HMM:=Lib.hid hm
  have hm63:m≤9223372036854775807:=by unfold maxLen at hcm;omega
  clear hm hcc hcm
  by_cases g1:40<m
  ·have g1':(40:Int)<(m:Int):=by omega
   go_enter Try.func3,Try.ntmps3
   go_wp2_with fail
   refine HSH.out.mono ?_
   rintro e w1 ⟨rfl,hb⟩
   have HB1:=Lib.hid hb
   clear hb
   go_wp2
   go_ret
   exact ⟨rfl,HB1.out⟩
  have g1':¬ (40:Int)<(m:Int):=by omega
  have hm2:m≤40:=by omega
  obtain ⟨M,hM⟩:∃ M,4*m=M:=⟨_,rfl⟩
  have hM2:M≤160:=by omega
  clear g1
  have CK:=Lib.hid (Dg.check (cs:=cs) hm2)
  obtain ⟨h,p,kk,P,hp1,hF,hex⟩:=Dg.phs (cs:=cs) hm2
  have MX:=Lib.hid fun (q:Bool) (o9:Option Addr) (c9:Nat) w' h1=>show Calls Try.prog 6 #[.agg #[.int .i64 (2*(m:Int)+2),.int .i64 2,.int .i64 1,.slice o9 M c9],.int .u8 (Ne.engC q)] w' fun e w2=>∃ o c st,e=.returned (.tuple #[.agg #[.slice o M c,.int .i64 (p:Int),.int .i64 (kk:Int),.int .i64 st],.int .i64 0])∧Ne.IRow w2 o h∧Below w'.heap.size w' w2 from by
   have hm:=Ne.max_flow (n:=(⟨2*(m:Int)+2,2,1,Dg.arcsL cs m (4*m)⟩:Ne.Net)) (h:=h) (p:=p) (k:=kk) o9 c9 w' CK.out h1 (by simpa only [Dg.arcs_len] using P) q
   simp only [Ne.encN,Dg.arcs_len,hM] at hm
   refine hm.mono ?_
   rintro e w2 ⟨o,c,st,h3,h4,_,_,_,h5⟩
   exact ⟨o,c,st,h3,h4,h5⟩
  have VA:=Lib.hid fun (o9:Option Addr) (c9:Nat) (o5:Option Addr) (c5:Nat) w' h1 h2=>show Calls Try.prog 7 #[.agg #[.int .i64 (2*(m:Int)+2),.int .i64 2,.int .i64 1,.slice o9 M c9],.slice o5 M c5] w' fun e w2=>e=.returned (.tuple #[.int .i64 (Dg.sumC cs m),.int .i64 0])∧Below w'.heap.size w' w2 from by
   have h:=Ne.val_flow (n:=(⟨2*(m:Int)+2,2,1,Dg.arcsL cs m (4*m)⟩:Ne.Net)) o9 c9 o5 c5 w' CK.out h1 h2 hF
   simp only [Ne.encN,Dg.arcs_len] at h
   rw [hex,hM] at h
   exact h
  have MF:=Lib.hid (MX.out false)
  have MT:=Lib.hid (MX.out true)
  simp only [Ne.engC,Bool.false_eq_true,if_false,if_true] at MF MT
  have HSB:=Lib.hid (Dg.sum_bd cs)
  have HAS1:=Lib.hid (fun k:Nat=>show Dg.arcsL cs m (4*k+1)=Dg.arcsL cs m (4*k) ++ [⟨2,3+2*(k:Int),100⟩] from by rw [Dg.arcs_next,Dg.arc0,Int.add_comm 3])
  have HAS2:=Lib.hid (fun k:Nat=>show Dg.arcsL cs m (4*k+2)=Dg.arcsL cs m (4*k+1) ++ [⟨3+2*(k:Int),4+2*(k:Int),Ne.pickN (Ne.amt cs k) 30⟩] from by rw [Dg.arcs_next,Dg.arc1,Int.add_comm 3,Int.add_comm 4];rfl)
  have HAS3:=Lib.hid (fun k:Nat=>show Dg.arcsL cs m (4*k+3)=Dg.arcsL cs m (4*k+2) ++ [⟨4+2*(k:Int),1,100⟩] from by rw [Dg.arcs_next,Dg.arc2,Int.add_comm 4])
  have HAS4:=Lib.hid (fun k:Nat=>show Dg.arcsL cs m (4*(k+1))=Dg.arcsL cs m (4*k+3) ++ [⟨4+2*(k:Int),3+2*Ne.pickN (Ne.amt cs k) (m:Int),100⟩] from by rw [show 4*(k+1)=4*k+3+1 by omega,Dg.arcs_next,Dg.arc3,Int.add_comm 4,Int.add_comm 3];rfl)
  have HA0:=Lib.hid (show Dg.arcsL cs m (4*0)=[] from rfl)
  have HAN:=Lib.hid (fun k=>Dg.arcs_len cs m k)
  have HSS:=Lib.hid (fun k=>show Dg.sumC cs (k+1)=Dg.sumC cs k+Ne.pickN (Ne.amt cs k) 30 from rfl)
  have HS0:=Lib.hid (show Dg.sumC cs 0=0 from rfl)
  have HPP:=Lib.hid hp1
  clear hF hex P MX hp1
  generalize Dg.sumC cs=SC at *
  generalize Dg.arcsL cs m=CA at *
  go_enter Try.func3,Try.ntmps3
  go_wp2_with fail
  refine HSH.out.mono ?_
  rintro e w1 ⟨rfl,hb⟩
  have HB1:=Lib.hid hb
  clear hb HSH
  have hw2m:IntKind.i64.wrap (2*(m:Int))=2*(m:Int):=by rw [IntKind.wrap_i64];omega
  have hw2n:IntKind.i64.wrap (2+2*(m:Int))=2+2*(m:Int):=by rw [IntKind.wrap_i64];omega
  have HN2:=Lib.hid (Ne.netBox_new w1 (2+2*(m:Int)) 2 1 (.slice none 0 0))
  have HB2:=Lib.hid (HB1.out.alloc HB1.out.size (.cells #[.int .i64 (2+2*(m:Int)),.int .i64 2,.int .i64 1,.slice none 0 0] 26))
  go_upto_region 5 with fail
  obtain ⟨bn,hbn⟩:∃ b,b=w1.heap.size:=⟨_,rfl⟩
  have HBN:=Lib.hid (show w.heap.size≤bn by have:=HB1.out.size;omega)
  rw [← hbn] at HN2 ⊢
  clear hbn hw2m hw2n
  generalize (w1.alloc (.cells #[.int .i64 (2+2*(m:Int)),.int .i64 2,.int .i64 1,.slice none 0 0] 26))=W2 at *
  rw [Int.add_comm 2 (2*(m:Int))] at HN2
  go_wp2
  go_loopg [7,8,9] m (fun g s7 s8 s9 wr=>(∃ z,s9=z)∧∃ (k:Nat) (ss:Int) (v:Value),s7=.int .i64 ss∧s8=.int .i64 (k:Int)∧k+g=m∧0≤ss∧ss≤30*(k:Int)∧Hid (ss=SC k)∧Hid (Ne.NetBox wr bn (2*(m:Int)+2) 2 1 v)∧Hid (Ne.OwnA wr w.heap.size v (CA (4*k)))∧Hid (Below w.heap.size w wr))
  case atStart=>exact ⟨⟨_,rfl⟩,0,_,_,rfl,rfl,by omega,by omega,by omega,Lib.hid HS0.out.symm,HN2,Lib.hid (by rw [HA0.out];exact Rw.own_nil _ _),HB2⟩
  case round =>
   obtain ⟨⟨z9,rfl⟩,k,ss,v,rfl,rfl,hkg,hs0,hs1,HSK,HNW,HOW,HBW⟩:=hrel
   obtain ⟨o9,c9,hv9,_,_,hn9,hr9,hb9,_⟩:=Rw.own_row Ne.encA_len HOW.out
   rw [HAN.out] at hv9
   subst hv9
   by_cases hlt:k<m
   ·have hki:(k:Int)<(m:Int):=by omega
    have hk0:(0:Int)≤(k:Int):=by omega
    have HKM:=Lib.hid (show k<cs.length by rw [← HMM.out];exact hlt)
    have HKM':=HKM
    obtain ⟨b0,o0,e0,hb0,d0⟩:=Ne.irow_cell (KR0.out.kept HBW.out) (i:=k) HKM.out
    subst e0
    have hraw:=BK0.out (Ne.amt cs k) (by have:=Ne.at_amt (f:=cs) (i:=k) HKM.out;exact List.mem_of_getElem? this)
    have HAK1:=Lib.hid (HAS1.out k)
    have HAK2:=Lib.hid (HAS2.out k)
    have HAK3:=Lib.hid (HAS3.out k)
    have HAK4:=Lib.hid (HAS4.out k)
    have HSK1:=Lib.hid (HSS.out k)
    obtain ⟨raw,hrw⟩:∃ x,Ne.amt cs k=x:=⟨_,rfl⟩
    have HRAW:=Lib.hid hrw
    rw [hrw] at d0 hraw HAK2 HAK4 HSK1
    have PK:=Lib.hid fun w'=>Ne.pick_any raw 30 w' hraw.1 hraw.2 (by omega) (by omega)
    have PQ:=Lib.hid fun w'=>Ne.pick_any raw (m:Int) w' hraw.1 hraw.2 (by omega) (by omega)
    have bpa:=Ne.pickN_bd (c:=raw) (n:=30) (by omega)
    have bpb:=Ne.pickN_bd (c:=raw) (n:=(m:Int)) (by omega)
    generalize Ne.pickN raw (m:Int)=pq at *
    generalize Ne.pickN raw 30=pa at *
    have hws:IntKind.i64.wrap (ss+pa)=ss+pa:=by rw [IntKind.wrap_i64];omega
    have hwk:IntKind.i64.wrap (2*(k:Int))=2*(k:Int):=by rw [IntKind.wrap_i64];omega
    have hwk3:IntKind.i64.wrap (3+2*(k:Int))=3+2*(k:Int):=by rw [IntKind.wrap_i64];omega
    have hwk4:IntKind.i64.wrap (4+2*(k:Int))=4+2*(k:Int):=by rw [IntKind.wrap_i64];omega
    have hwq:IntKind.i64.wrap (2*pq)=2*pq:=by rw [IntKind.wrap_i64];omega
    have hwq3:IntKind.i64.wrap (3+2*pq)=3+2*pq:=by rw [IntKind.wrap_i64];omega
    have hwi:IntKind.i64.wrap ((k:Int)+1)=((k+1:Nat):Int):=by rw [IntKind.wrap_i64];omega
    have HSN:=Lib.hid (show ss+pa=SC (k+1) by rw [HSK1.out,← HSK.out])
    have HAN0:=Lib.hid (HAN.out (4*k))
    have HAN1:=Lib.hid (HAN.out (4*k+1))
    have HAN2:=Lib.hid (HAN.out (4*k+2))
    have HAN3:=Lib.hid (HAN.out (4*k+3))
    have HL0:=Lib.hid (show (CA (4*k)).length≤1000 by rw [HAN.out];omega)
    have HL1:=Lib.hid (show (CA (4*k+1)).length≤1000 by rw [HAN.out];omega)
    have HL2:=Lib.hid (show (CA (4*k+2)).length≤1000 by rw [HAN.out];omega)
    have HLN4:=Lib.hid (show (CA (4*k+3)).length+([(⟨4+2*(k:Int),3+2*pq,100⟩:Ne.Arc)]:List Ne.Arc).length≤1099511627776 by rw [HAN.out];simp;omega)
    have hpa0:0≤pa∧pa<30:=bpa
    have HBNN:=HBN.out
    clear HSK1 hr9 hb9 hn9 hrw bpb
    obtain ⟨n0,n1,n2,n3⟩:=Ne.netBox_cells HNW.out
    go_wp2_with fail
    refine (PK.out _).mono ?_
    rintro e w' ⟨rfl,rfl⟩
    go_upto_region 11 with fail
    clear d0
    have HNAA:=Lib.hid (Ne.netBox_alloc HNW.out (.cells #[.int .i64 2,.int .i64 (3+2*(k:Int)),.int .i64 100] 29))
    have HOAA:=Lib.hid (Rw.own_alloc HOW.out (.cells #[.int .i64 2,.int .i64 (3+2*(k:Int)),.int .i64 100] 29))
    have HARA:=Lib.hid (Ne.arow_at1 wr rfl (⟨2,(3+2*(k:Int)),100⟩:Ne.Arc))
    have HLNA:=Lib.hid (show (CA (4*k)).length+([(⟨2,(3+2*(k:Int)),100⟩:Ne.Arc)]:List Ne.Arc).length≤1099511627776 by have:=HL0.out;simp;omega)
    have HNEA:=Lib.hid (Ne.own_ne_box HOAA.out HNAA.out)
    have HVBA:=Lib.hid (Rw.own_block HOW.out)
    have HBAA:=Lib.hid (HBW.out.alloc HBW.out.size (.cells #[.int .i64 2,.int .i64 (3+2*(k:Int)),.int .i64 100] 29))
    have HZAA:=Lib.hid (show w.heap.size≤(wr.alloc (.cells #[.int .i64 2,.int .i64 (3+2*(k:Int)),.int .i64 100] 29)).heap.size by have:=HBW.out.size;simp;omega)
    go_upto_region 12 with (at_builtin;refine Rw.app Ne.elemA Ne.encA_len Ne.encA_one rfl (.tmp 44) (.tmp 49) rfl w.heap.size _ (CA (4*k)) rfl HOAA.out (some ⟨wr.heap.size,0,none⟩) 1 [(⟨2,(3+2*(k:Int)),100⟩:Ne.Arc)] rfl ?hnn HARA.out HLNA.out ?hB ?_;(case hnn=>(intro h;cases h));(case hB=>(exact HZAA.out));intro va wa hown hgr;rw [← HAK1.out] at hown;obtain ⟨oA,cA,hva,_⟩:=Rw.own_row Ne.encA_len hown;rw [HAN1.out] at hva;subst hva;have HNGA:=Lib.hid (Ne.netBox_grown HNAA.out hgr (fun h=>HNEA.out h.symm));have HOGA:=Lib.hid hown;have HBGA:=Lib.hid (HBAA.out.grown hgr HBAA.out.size (fun b hb=>HVBA.out b hb));have m3:=(Ne.netBox_cells HNGA.out).2.2.2;have mf:=Ne.netBox_frozen HNGA.out 3;clear hown hgr)
    have HNA:=Lib.hid (Ne.netBox_set (v2:=.slice oA (4*k+1) cA) HNGA.out)
    have HOA:=Lib.hid (Rw.own_set HOGA.out (p:=⟨bn,3,none⟩) (fun h=>Ne.own_ne_box HOGA.out HNGA.out h) (.slice oA (4*k+1) cA))
    have HBA:=Lib.hid (HBGA.out.setCell (p:=⟨bn,3,none⟩) HBN.out (.slice oA (4*k+1) cA))
    generalize (wa.setCell ⟨bn,3,none⟩ (.slice oA (4*k+1) cA))=WA at *
    clear m3 mf HNGA HOGA HBGA HNAA HOAA HARA HLNA HNEA HVBA HBAA HZAA n0 n1 n2 n3
    obtain ⟨n0,n1,n2,n3⟩:=Ne.netBox_cells HNA.out
    have HNAB:=Lib.hid (Ne.netBox_alloc HNA.out (.cells #[.int .i64 (3+2*(k:Int)),.int .i64 (4+2*(k:Int)),.int .i64 pa] 29))
    have HOAB:=Lib.hid (Rw.own_alloc HOA.out (.cells #[.int .i64 (3+2*(k:Int)),.int .i64 (4+2*(k:Int)),.int .i64 pa] 29))
    have HARB:=Lib.hid (Ne.arow_at1 WA rfl (⟨(3+2*(k:Int)),(4+2*(k:Int)),pa⟩:Ne.Arc))
    have HLNB:=Lib.hid (show (CA (4*k+1)).length+([(⟨(3+2*(k:Int)),(4+2*(k:Int)),pa⟩:Ne.Arc)]:List Ne.Arc).length≤1099511627776 by have:=HL1.out;simp;omega)
    have HNEB:=Lib.hid (Ne.own_ne_box HOAB.out HNAB.out)
    have HVBB:=Lib.hid (Rw.own_block HOA.out)
    have HBAB:=Lib.hid (HBA.out.alloc HBA.out.size (.cells #[.int .i64 (3+2*(k:Int)),.int .i64 (4+2*(k:Int)),.int .i64 pa] 29))
    have HZAB:=Lib.hid (show w.heap.size≤(WA.alloc (.cells #[.int .i64 (3+2*(k:Int)),.int .i64 (4+2*(k:Int)),.int .i64 pa] 29)).heap.size by have:=HBA.out.size;simp;omega)
    go_upto_region 13 with (at_builtin;refine Rw.app Ne.elemA Ne.encA_len Ne.encA_one rfl (.tmp 53) (.tmp 62) rfl w.heap.size _ (CA (4*k+1)) rfl HOAB.out (some ⟨WA.heap.size,0,none⟩) 1 [(⟨(3+2*(k:Int)),(4+2*(k:Int)),pa⟩:Ne.Arc)] rfl ?hnn HARB.out HLNB.out ?hB ?_;(case hnn=>(intro h;cases h));(case hB=>(exact HZAB.out));intro va wa hown hgr;rw [← HAK2.out] at hown;obtain ⟨oB,cB,hva,_⟩:=Rw.own_row Ne.encA_len hown;rw [HAN2.out] at hva;subst hva;have HNGB:=Lib.hid (Ne.netBox_grown HNAB.out hgr (fun h=>HNEB.out h.symm));have HOGB:=Lib.hid hown;have HBGB:=Lib.hid (HBAB.out.grown hgr HBAB.out.size (fun b hb=>HVBB.out b hb));have m3:=(Ne.netBox_cells HNGB.out).2.2.2;have mf:=Ne.netBox_frozen HNGB.out 3;clear hown hgr)
    have HNB:=Lib.hid (Ne.netBox_set (v2:=.slice oB (4*k+2) cB) HNGB.out)
    have HOB:=Lib.hid (Rw.own_set HOGB.out (p:=⟨bn,3,none⟩) (fun h=>Ne.own_ne_box HOGB.out HNGB.out h) (.slice oB (4*k+2) cB))
    have HBB:=Lib.hid (HBGB.out.setCell (p:=⟨bn,3,none⟩) HBN.out (.slice oB (4*k+2) cB))
    generalize (wa.setCell ⟨bn,3,none⟩ (.slice oB (4*k+2) cB))=WB at *
    clear m3 mf HNGB HOGB HBGB HNAB HOAB HARB HLNB HNEB HVBB HBAB HZAB n0 n1 n2 n3
    obtain ⟨n0,n1,n2,n3⟩:=Ne.netBox_cells HNB.out
    have HNAC:=Lib.hid (Ne.netBox_alloc HNB.out (.cells #[.int .i64 (4+2*(k:Int)),.int .i64 1,.int .i64 100] 29))
    have HOAC:=Lib.hid (Rw.own_alloc HOB.out (.cells #[.int .i64 (4+2*(k:Int)),.int .i64 1,.int .i64 100] 29))
    have HARC:=Lib.hid (Ne.arow_at1 WB rfl (⟨(4+2*(k:Int)),1,100⟩:Ne.Arc))
    have HLNC:=Lib.hid (show (CA (4*k+2)).length+([(⟨(4+2*(k:Int)),1,100⟩:Ne.Arc)]:List Ne.Arc).length≤1099511627776 by have:=HL2.out;simp;omega)
    have HNEC:=Lib.hid (Ne.own_ne_box HOAC.out HNAC.out)
    have HVBC:=Lib.hid (Rw.own_block HOB.out)
    have HBAC:=Lib.hid (HBB.out.alloc HBB.out.size (.cells #[.int .i64 (4+2*(k:Int)),.int .i64 1,.int .i64 100] 29))
    have HZAC:=Lib.hid (show w.heap.size≤(WB.alloc (.cells #[.int .i64 (4+2*(k:Int)),.int .i64 1,.int .i64 100] 29)).heap.size by have:=HBB.out.size;simp;omega)
    go_upto_region 14 with (at_builtin;refine Rw.app Ne.elemA Ne.encA_len Ne.encA_one rfl (.tmp 66) (.tmp 71) rfl w.heap.size _ (CA (4*k+2)) rfl HOAC.out (some ⟨WB.heap.size,0,none⟩) 1 [(⟨(4+2*(k:Int)),1,100⟩:Ne.Arc)] rfl ?hnn HARC.out HLNC.out ?hB ?_;(case hnn=>(intro h;cases h));(case hB=>(exact HZAC.out));intro va wa hown hgr;rw [← HAK3.out] at hown;obtain ⟨oC,cC,hva,_⟩:=Rw.own_row Ne.encA_len hown;rw [HAN3.out] at hva;subst hva;have HNGC:=Lib.hid (Ne.netBox_grown HNAC.out hgr (fun h=>HNEC.out h.symm));have HOGC:=Lib.hid hown;have HBGC:=Lib.hid (HBAC.out.grown hgr HBAC.out.size (fun b hb=>HVBC.out b hb));have m3:=(Ne.netBox_cells HNGC.out).2.2.2;have mf:=Ne.netBox_frozen HNGC.out 3;clear hown hgr)
    have HNC:=Lib.hid (Ne.netBox_set (v2:=.slice oC (4*k+3) cC) HNGC.out)
    have HOC:=Lib.hid (Rw.own_set HOGC.out (p:=⟨bn,3,none⟩) (fun h=>Ne.own_ne_box HOGC.out HNGC.out h) (.slice oC (4*k+3) cC))
    have HBC:=Lib.hid (HBGC.out.setCell (p:=⟨bn,3,none⟩) HBN.out (.slice oC (4*k+3) cC))
    generalize (wa.setCell ⟨bn,3,none⟩ (.slice oC (4*k+3) cC))=WC at *
    clear m3 mf HNGC HOGC HBGC HNAC HOAC HARC HLNC HNEC HVBC HBAC HZAC n0 n1 n2 n3
    obtain ⟨n0,n1,n2,n3⟩:=Ne.netBox_cells HNC.out
    obtain ⟨b9,o9x,e9,lb0,d0⟩:=Ne.irow_cell (KR0.out.kept HBC.out) (i:=k) HKM.out
    simp only [Option.some.injEq,Addr.mk.injEq,and_true] at e9
    obtain ⟨rfl,rfl⟩:=e9
    rw [HRAW.out] at d0
    have lbn:=Ne.netBox_lt HNC.out
    have HWD:=Lib.hid (show Below WC.heap.size WC WC.drew from Ne.below_drew (Below.refl _ _))
    have hS0:=(show (fun w':World=>w'.cell? ⟨bn,3,none⟩=some (.slice oC (4*k+3) cC)∧w'.cell? ⟨b0,o0+k,none⟩=some (.int .i64 raw)) WC.drew from ⟨n3,d0⟩)
    clear n0 n1 n2 n3 d0
    go_wp2
    refine Rg.start (S:=(fun w':World=>w'.cell? ⟨bn,3,none⟩=some (.slice oC (4*k+3) cC)∧w'.cell? ⟨b0,o0+k,none⟩=some (.int .i64 raw))) (last:=18) (by kernel_rfl) ?_
    refine Rg.tk (i:=0) (v:=?_) 60 rfl (Or.inl ⟨by rfl,?_⟩) hS0 ?_
    rotate_left
    ·intro w hSw
     go_simp
     try with_reducible rfl
    try simp only [Act.put,Rh.q1,Rh.q2,Rh.q3]
    refine Rg.tk (i:=1) (v:=?_) 60 rfl (Or.inl ⟨by rfl,?_⟩) hS0 ?_
    rotate_left
    ·intro w hSw
     go_simp
     try with_reducible rfl
    try simp only [Act.put,Rh.q1,Rh.q2,Rh.q3]
    refine Rg.tk (i:=2) (v:=?_) 60 rfl (Or.inl ⟨by rfl,?_⟩) hS0 ?_
    rotate_left
    ·intro w hSw
     go_simp
     try with_reducible rfl
    try simp only [Act.put,Rh.q1,Rh.q2,Rh.q3]
    refine Rg.tk (i:=3) (v:=?_) 60 rfl (Or.inl ⟨by rfl,?_⟩) hS0 ?_
    rotate_left
    ·intro w hSw
     go_simp
     try with_reducible rfl
    try simp only [Act.put,Rh.q1,Rh.q2,Rh.q3]
    refine Rg.tk (i:=4) (v:=?_) 60 rfl (Or.inl ⟨by rfl,?_⟩) hS0 ?_
    rotate_left
    ·intro w hSw
     go_simp
     try with_reducible rfl
    try simp only [Act.put,Rh.q1,Rh.q2,Rh.q3]
    refine Rg.tk (i:=5) (v:=?_) 60 rfl (Or.inl ⟨by rfl,?_⟩) hS0 ?_
    rotate_left
    ·intro w hSw
     go_simp
     try with_reducible rfl
    try simp only [Act.put,Rh.q1,Rh.q2,Rh.q3]
    refine Rg.tk (i:=6) (v:=?_) 60 rfl (Or.inl ⟨by rfl,?_⟩) hS0 ?_
    rotate_left
    ·intro w hSw
     go_simp
     try with_reducible rfl
    try simp only [Act.put,Rh.q1,Rh.q2,Rh.q3]
    refine Rg.tk (i:=7) (v:=?_) 60 rfl (Or.inl ⟨by rfl,?_⟩) hS0 ?_
    rotate_left
    ·intro w hSw
     go_simp
     try with_reducible rfl
    try simp only [Act.put,Rh.q1,Rh.q2,Rh.q3]
    refine Rg.tk (i:=8) (v:=?_) 60 rfl (Or.inl ⟨by rfl,?_⟩) hS0 ?_
    rotate_left
    ·intro w hSw
     go_simp
     try with_reducible rfl
    try simp only [Act.put,Rh.q1,Rh.q2,Rh.q3]
    refine Rg.tk (i:=9) (v:=?_) 60 rfl (Or.inl ⟨by rfl,?_⟩) hS0 ?_
    rotate_left
    ·intro w hSw
     go_simp
     try with_reducible rfl
    try simp only [Act.put,Rh.q1,Rh.q2,Rh.q3]
    refine Rg.tk (i:=10) (v:=?_) 60 rfl (Or.inl ⟨by rfl,?_⟩) hS0 ?_
    rotate_left
    ·intro w hSw
     go_simp
     try with_reducible rfl
    try simp only [Act.put,Rh.q1,Rh.q2,Rh.q3]
    refine Rg.step (i:=11) (by kernel_rfl) rfl fun K' hK'=>?_
    have HK:=Lib.hid hK'
    clear hK'
    go_simp
    refine (PQ.out _).mono ?_
    rintro e w' ⟨rfl,rfl⟩
    refine HK.out _ _ ⟨fun _=>hS0,?_⟩
    clear HK K'
    try simp only [Act.put,Rh.q1,Rh.q2,Rh.q3]
    refine Rg.tk (i:=12) (v:=?_) 60 rfl (Or.inl ⟨by rfl,?_⟩) hS0 ?_
    rotate_left
    ·intro w hSw
     go_simp
     try with_reducible rfl
    try simp only [Act.put,Rh.q1,Rh.q2,Rh.q3]
    refine Rg.tk (i:=13) (v:=?_) 60 rfl (Or.inl ⟨by rfl,?_⟩) hS0 ?_
    rotate_left
    ·intro w hSw
     go_simp
     try with_reducible rfl
    try simp only [Act.put,Rh.q1,Rh.q2,Rh.q3]
    refine Rg.tk (i:=14) (v:=?_) 60 rfl (Or.inl ⟨by rfl,?_⟩) hS0 ?_
    rotate_left
    ·intro w hSw
     go_simp
     try with_reducible rfl
    try simp only [Act.put,Rh.q1,Rh.q2,Rh.q3]
    refine Rg.step (i:=15) (by kernel_rfl) rfl fun K' hK'=>?_
    have HK:=Lib.hid hK'
    clear hK'
    go_simp
    have HAD:=Lib.hid (HWD.out.alloc HWD.out.size (.cells #[.int .i64 (4+2*(k:Int)),.int .i64 (3+2*pq),.int .i64 100] 29))
    have HAR4:=Lib.hid (Ne.arow_at1 WC.drew rfl (⟨4+2*(k:Int),3+2*pq,100⟩:Ne.Arc))
    have hS15:=(show (fun w':World=>w'.cell? ⟨bn,3,none⟩=some (.slice oC (4*k+3) cC)∧w'.cell? ⟨b0,o0+k,none⟩=some (.int .i64 raw)) (WC.drew.alloc (.cells #[.int .i64 (4+2*(k:Int)),.int .i64 (3+2*pq),.int .i64 100] 29)) from ⟨(HAD.out.cell (p:=⟨bn,3,none⟩) lbn).trans hS0.1,(HAD.out.cell (p:=⟨b0,o0+k,none⟩) lb0).trans hS0.2⟩)
    refine HK.out _ _ ⟨fun _=>hS15,?_⟩
    clear HK K'
    try simp only [Act.put,Rh.q1,Rh.q2,Rh.q3]
    refine Rg.step (i:=16) (by kernel_rfl) rfl fun K' hK'=>?_
    refine Rw.stepAt Ne.elemA Ne.encA_len Ne.encA_one (by rfl) (.tmp 75) (.tmp 89) (by rfl) w.heap.size _ (CA (4*k+3)) (by rfl) (Rw.own_below HOC.out HAD.out) ⟨WC.heap.size,0,none⟩ 1 [(⟨4+2*(k:Int),3+2*pq,100⟩:Ne.Arc)] 1 rfl (by rfl) HAR4.out HLN4.out (Nat.le_trans HBC.out.size HAD.out.size) ?_
    intro va w18 hown hgr _
    rw [← HAK4.out] at hown
    obtain ⟨oE,cE,hva,_⟩:=Rw.own_row Ne.encA_len hown
    rw [HAN.out] at hva
    subst hva
    have HOE:=Lib.hid hown
    have HJ3:=Lib.hid (Ne.netBox_below HNC.out HAD.out lbn)
    have HJE:=Lib.hid (Ne.netBox_grown HJ3.out hgr (fun h=>Ne.own_ne_box (Rw.own_below HOC.out HAD.out) HJ3.out h.symm))
    have HBE:=Lib.hid ((HBC.out.trans (HAD.out.mono HBC.out.size)).grown hgr (Nat.le_trans HBC.out.size HAD.out.size) (fun b hb=>Rw.own_block HOC.out b hb))
    have mf:=Ne.netBox_frozen HJE.out 3
    have j3:=(Ne.netBox_cells HJE.out).2.2.2
    obtain ⟨b9,o9,e9,_,d9⟩:=Ne.irow_cell (KR0.out.kept HBE.out) (i:=k) HKM.out
    simp only [Option.some.injEq,Addr.mk.injEq,and_true] at e9
    obtain ⟨e9,e8⟩:=e9
    rw [← e9,← e8,HRAW.out] at d9
    have hS16:=(show (fun w':World=>w'.cell? ⟨bn,3,none⟩=some (.slice oC (4*k+3) cC)∧w'.cell? ⟨b0,o0+k,none⟩=some (.int .i64 raw)) w18 from ⟨j3,d9⟩)
    clear hown hgr d9 e9 e8
    refine hK' _ _ ⟨fun _=>hS16,?_⟩
    clear hK' K'
    try simp only [Act.put,Rh.q1,Rh.q2,Rh.q3]
    refine Rg.tk (i:=17) (v:=?_) 60 rfl (Or.inl ⟨by rfl,?_⟩) hS16 ?_
    rotate_left
    ·intro w hSw
     go_simp
     try with_reducible rfl
    try simp only [Act.put,Rh.q1,Rh.q2,Rh.q3]
    refine Rg.step (i:=18) (by kernel_rfl) rfl fun K' hK'=>?_
    have HK:=Lib.hid hK'
    clear hK'
    go_simp
    refine HK.out _ _ ⟨fun h=>absurd rfl h,?_⟩
    clear HK K'
    try simp only [Act.put,Rh.q1,Rh.q2,Rh.q3]
    refine Rg.finished (by kernel_rfl) ?_ _
    have HN19:=Lib.hid (Ne.netBox_set (v2:=.slice oE (4*(k+1)) cE) HJE.out)
    have HO19:=Lib.hid (Rw.own_set HOE.out (p:=⟨bn,3,none⟩) (fun h=>Ne.own_ne_box HOE.out HJE.out h) (.slice oE (4*(k+1)) cE))
    have HB19:=Lib.hid (HBE.out.setCell (p:=⟨bn,3,none⟩) HBNN (.slice oE (4*(k+1)) cE))
    go_wp2
    go_roundg (m-(k+1))
    case measure=>omega
    case rel=>exact ⟨⟨_,rfl⟩,k+1,ss+pa,_,rfl,by go_num,by omega,by omega,by omega,HSN,HN19,HO19,HB19⟩
   ·have ek:k=m:=by omega
    subst k
    rw [hM] at hr9 HNW
    rw [← HSK.out] at VA
    have HR9:=Lib.hid (show Ne.ARow wr o9 (CA M) from hr9)
    obtain ⟨n0,n1,n2,n3⟩:=Ne.netBox_cells HNW.out
    rw [hM] at MF MT VA
    clear hlt hr9 hb9 hkg HSK HSS HS0 HAS1 HAS2 HAS3 HAS4 HA0
    cases a1
    case' false=>have MQ:=MF
    case' true=>have MQ:=MT
    all_goals
     clear MF MT
     go_wp2_with fail
     refine (MQ.out o9 c9 _ HR9.out).mono ?_
     rintro e w5 ⟨o5,c5,st5,rfl,hi5,hb⟩
     have hal:=(Below.refl w5.heap.size w5).alloc (Nat.le_refl _) (.cells #[.slice o5 M c5,.int .i64 (p:Int),.int .i64 (kk:Int),.int .i64 st5] 32)
     have HX5:=Lib.hid (Ne.runBox_at w5 rfl (.slice o5 M c5) (p:Int) (kk:Int) st5)
     have HI5:=Lib.hid (hi5.kept hal)
     replace hb:=hb.trans (hal.mono hb.size)
     have HB5:=Lib.hid (HBW.out.trans (hb.mono HBW.out.size))
     have HN5:=Lib.hid (Ne.netBox_below HNW.out hb (Ne.netBox_lt HNW.out))
     have HR5:=Lib.hid (HR9.out.kept hb)
     clear hb hal hi5 n0 n1 n2 n3
     obtain ⟨n0,n1,n2,n3⟩:=Ne.netBox_cells HN5.out
     obtain ⟨x0,x1,x2,x3⟩:=Ne.runBox_cells HX5.out
     go_wp2_with fail
     refine (VA.out o9 c9 o5 c5 _ HR5.out HI5.out).mono ?_
     rintro e w6 ⟨rfl,hb⟩
     have HB6:=Lib.hid (HB5.out.trans (hb.mono HB5.out.size))
     obtain ⟨y0,y1,y2,y3⟩:=Ne.runBox_cells (Ne.runBox_below HX5.out hb (Ne.runBox_lt HX5.out))
     clear hb n0 n1 n2 n3 x0 x1 x2 x3
     have hss:(ss == ss)=true:=by simp
     have hp1:decide ((p:Int)≤1)=true:=by have:=HPP.out;simp;omega
     have hp2:decide (p≤1)=true:=by simpa using HPP.out
     go_wp2
     go_ret
     exact ⟨rfl,HB6.out⟩

end Go.Proofs.Ytmikbkggjlbbnaa.dinicGrid
