/- CutFull: for every input the law returns true and its arguments read as they did. No condition. -/
import Derived.Test.YthhlfphnokdfaaaGreatBf13
import Derived.Test.YthhlfphnokdfaaaGreatBf14
import Derived.Test.YthhlfphnokdfaaaGreatBf41
import Derived.Test.YthhlfphnokdfaaaGreatBf42
import Derived.Test.YthhlfphnokdfaaaGreatBf4
import Derived.Deep.LoopGhost
import Derived.Deep.DeepCutAuto
import Derived.RegionTactic
import Derived.BigRegion
import Derived.Test.YthhlfphnokdfaaaGreatRows
import Derived.WalkKit
import Derived.ProofKit
import Derived.OpenShut
import Derived.ShutString
import Derived.ChangeOld
import Derived.Below
import Derived.Deep.Strs
namespace Go.Proofs.YthhlfphnokdfaaaGreat.cutFull
open Go.ChangeShapes Go.WideShapes Go.ChangeAt Go.RowKit
open Go.ChangeMaps (open_string shut_string)
set_option linter.unusedVariables false
set_option linter.unusedSimpArgs false

theorem own : ownKnob Tryz.prog.godebug = none := by kernel_rfl
theorem laidOut : laidOutB Tryz.prog = true := by kernel_rfl



set_option maxRecDepth 100000 in
set_option maxHeartbeats 4000000 in
theorem walk (a0 : Int) (a1 : Int) (a2 : List Ne.Arc) (o2 : Option Addr) (c2 : Nat) (w : World) (w0 : (Lit.int .i64 a0).wf = true) (w1 : (Lit.int .i64 a1).wf = true) (k2 : ∀ a ∈ a2, Ne.Arc.ok a) (z2 : a2.length ≤ c2) (y2 : c2 ≤ maxLen) (n2 : o2 = none → c2 = 0) (r2 : Ne.ARow w o2 a2) :
    Calls Tryz.prog 5 #[.int .i64 a0, .int .i64 a1, .slice o2 a2.length c2] w fun e w' => e = .returned (.bool true) ∧ Below w.heap.size w w' := by
  have HSH:=Lib.hid (Ne.shown_any w)
  obtain ⟨mn,hmn⟩:∃ x,x=(Ne.madeN a0 a1 a2).n:=⟨_,rfl⟩
  obtain ⟨ms,hms⟩:∃ x,x=(Ne.madeN a0 a1 a2).s:=⟨_,rfl⟩
  obtain ⟨mt,hmt⟩:∃ x,x=(Ne.madeN a0 a1 a2).t:=⟨_,rfl⟩
  obtain ⟨ml,hml⟩:∃ x,x=(Ne.madeN a0 a1 a2).l:=⟨_,rfl⟩
  have em:Ne.madeN a0 a1 a2=⟨mn,ms,mt,ml⟩:=by rw [hmn,hms,hmt,hml]
  obtain ⟨f1,f2,f3,f4,f5,f6,f7,f8,f9⟩:=Ne.madeN_fine (nodes:=a0) (ends:=a1) k2
  have ck:=Ne.made_check (nodes:=a0) (ends:=a1) k2
  have MD:=Lib.hid fun w' (h:Ne.ARow w' o2 a2)=>Ne.made_s a0 a1 a2 o2 c2 w' (bounds_i64 w0) (bounds_i64 w1) k2 h
  rw [em] at MD f1 f2 f3 f4 f5 f6 f7 f8 f9 ck
  simp only at f1 f2 f3 f4 f5 f6 f7 f8 f9
  clear hmn hms hmt hml em
  have f8':ml.length≤24:=by omega
  clear f8
  have CK:=Lib.hid ck
  have RT:=Lib.hid (Ne.right_of ck)
  have FI:=Lib.hid f9
  have CAP:=Lib.hid (show ∀ a∈ml,Ne.in64 a.cap from fun a ha=>by have:=(f9 a ha).2.2;unfold Ne.in64;omega)
  have hl6:ml.length≤1000000:=by omega
  have F7:=Lib.hid f7
  have RA:=Lib.hid r2
  clear r2 f7 f9 ck
  obtain ⟨N,rfl⟩:∃ N:Nat,mn=(N:Int):=⟨mn.toNat,by omega⟩
  obtain ⟨S,rfl⟩:∃ S:Nat,ms=(S:Int):=⟨ms.toNat,by omega⟩
  obtain ⟨D,rfl⟩:∃ D:Nat,mt=(D:Int):=⟨mt.toNat,by omega⟩
  obtain ⟨g,gL,gp,gk,hph,hfg,hlg,hdg,-,-,-⟩:=Ne.max_facts RT.out
  have MX:=Lib.hid fun (ao:Option Addr) (cap:Nat) w' (h1:Ne.ARow w' ao (⟨(N:Int),(S:Int),(D:Int),ml⟩:Ne.Net).l)=>Ne.max_flow (n:=⟨(N:Int),(S:Int),(D:Int),ml⟩) ao cap w' CK.out h1 hph true
  simp only [Ne.engC,Bool.false_eq_true,if_false,if_true] at MX
  obtain ⟨bM,hM⟩:=Ne.reach_exists RT.out g 1
  obtain ⟨bB,hB⟩:=Ne.reach_exists (Ne.right_back RT.out) g 1
  have BE:=Lib.hid (Ne.best_of RT.out hfg hM hB (Ne.reach_top RT.out hfg hlg hdg hM).1)
  have hgl:g.length=ml.length:=hfg.len
  have FG:=Lib.hid hfg
  have HGL:=Lib.hid hgl
  obtain ⟨pm,hpm⟩:∃ pm:Nat→Bool,pm=fun v=>bM.getD v false:=⟨_,rfl⟩
  obtain ⟨pl,hpl⟩:∃ pl:Nat→Bool,pl=fun v=>!(bB.getD v false):=⟨_,rfl⟩
  have PM:=Lib.hid (show ∀ v,pm v=bM.getD v false from fun v=>by rw [hpm])
  have PL:=Lib.hid (show ∀ v,pl v = !(bB.getD v false) from fun v=>by rw [hpl])
  have F1:=Lib.hid fun ao cap fo fc w' (h1:Ne.ARow w' ao ml) h2=>show Calls Tryz.prog 10 #[Ne.encN ⟨(N:Int),(S:Int),(D:Int),ml⟩ ao cap,.slice fo ml.length fc] w' fun e w2=>∃ o c,e=.returned (.tuple #[.slice o (Ne.nodesTo pm N).length c,.int .i64 0])∧Ne.OwnI w2 w'.heap.size (.slice o (Ne.nodesTo pm N).length c) (Ne.nodesTo pm N)∧Below w'.heap.size w' w2 from by
   have:=Ne.first_any ⟨(N:Int),(S:Int),(D:Int),ml⟩ ao cap fo fc g w' h1 h2 hl6 CAP.out bM (fun _=>hM)
   rw [BE.out.firV CK.out,BE.out.firE CK.out,hgl,← hpm] at this
   exact this
  have L1:=Lib.hid fun ao cap fo fc w' (h1:Ne.ARow w' ao ml) h2=>show Calls Tryz.prog 11 #[Ne.encN ⟨(N:Int),(S:Int),(D:Int),ml⟩ ao cap,.slice fo ml.length fc] w' fun e w2=>∃ o c,e=.returned (.tuple #[.slice o (Ne.nodesTo pl N).length c,.int .i64 0])∧Ne.OwnI w2 w'.heap.size (.slice o (Ne.nodesTo pl N).length c) (Ne.nodesTo pl N)∧Below w'.heap.size w' w2 from by
   have:=Ne.last_any ⟨(N:Int),(S:Int),(D:Int),ml⟩ ao cap fo fc g w' h1 h2 hl6 CAP.out bB (fun _=>hB)
   rw [BE.out.lasV CK.out,BE.out.lasE CK.out,hgl,← hpl] at this
   exact this
  have LM:=Lib.hid (Ne.nodes_len pm N)
  have LL:=Lib.hid (Ne.nodes_len pl N)
  have HPE:=Lib.hid (fun (p:Nat→Bool) j (h1:1≤j) (h2:j≤N)=>show Ne.hasL (Ne.nodesTo p N) (j:Int)=p j by rw [Ne.nodes_has (by omega) (by omega),Int.toNat_natCast])
  clear hph hfg hlg hdg hgl
  have FB:=Lib.hid (show ∀ j,j<ml.length→(1≤(Ne.arcAt ml j).fr∧(Ne.arcAt ml j).fr≤(N:Int))∧(1≤(Ne.arcAt ml j).to∧(Ne.arcAt ml j).to≤(N:Int)) from fun j hj=>by
   obtain ⟨g1,g2,g3,g4⟩:=FI.out _ (List.mem_of_getElem? (Ne.at_arc hj))
   exact ⟨(Ne.isNode_iff _ _).1 g1,(Ne.isNode_iff _ _).1 g2⟩)
  have hms:pm S=true:=by rw [hpm];have:=BE.out.cut.ms;simpa using this
  have hmd:pm D=false:=by rw [hpm];have:=BE.out.cut.mt;simpa using this
  have HMS:=Lib.hid (And.intro hms hmd)
  have HFU:=Lib.hid (show ∀ j,j<ml.length→∀ u v:Nat,(Ne.arcAt ml j).fr=(u:Int)→(Ne.arcAt ml j).to=(v:Int)→((pm u=true∧pm v=false)∨(pl u=true∧pl v=false)→Ne.amt g j=(Ne.arcAt ml j).cap)∧((pm v=true∧pm u=false)∨(pl v=true∧pl u=false)→Ne.amt g j=0) from fun j hj u v e1 e2=>by
   have:=BE.out.full CK.out (i:=j) hj e1 e2
   rw [hpm,hpl]
   simpa using this)
  have HSUB:=Lib.hid (show ∀ v,pm v=true→pl v=true from fun v h=>by
   rw [hpm] at h
   rw [hpl]
   have:=BE.out.cut.apart v h
   show (!_)=true
   rw [this];rfl)
  have E0:=Lib.hid (Ne.nodes_cut (n:=⟨(N:Int),(S:Int),(D:Int),ml⟩) CK.out (p:=pm) hms hmd)
  simp only [Int.toNat_natCast] at E0
  have AC:=Lib.hid fun ao cap so sc w' (h1:Ne.ARow w' ao ml) h2=>show Calls Tryz.prog 20 #[Ne.encN ⟨(N:Int),(S:Int),(D:Int),ml⟩ ao cap,.slice so (Ne.nodesTo pm N).length sc] w' fun e w2=>∃ o c,e=.returned (.tuple #[.slice o (Ne.arcsV ⟨(N:Int),(S:Int),(D:Int),ml⟩ (Ne.nodesTo pm N)).length c,.int .i64 0])∧Below w'.heap.size w' w2 from by
   refine (Ne.arcs_any ⟨(N:Int),(S:Int),(D:Int),ml⟩ ao cap so sc (Ne.nodesTo pm N) w' h1 h2 hl6 CAP.out).mono ?_
   rintro e w2 ⟨o,c,h1,h2,h3⟩
   rw [E0.out] at h1
   exact ⟨o,c,h1,h3⟩
  obtain ⟨V,hV⟩:∃ V,V=Ne.arcsV ⟨(N:Int),(S:Int),(D:Int),ml⟩ (Ne.nodesTo pm N):=⟨_,rfl⟩
  have HNO:=Lib.hid (show V=[]→Ne.proE ⟨(N:Int),(S:Int),(D:Int),ml⟩ (List.replicate ml.length 0) (Ne.nodesTo pm N)=0 from fun h=>by
   have:=Ne.none_over (n:=⟨(N:Int),(S:Int),(D:Int),ml⟩) CK.out (p:=pm) hms hmd (by rw [← h,hV];rfl)
   simpa using this)
  have HVL:=Lib.hid (show V.length≤1000000 by rw [hV];have:=Ne.arcsV_len ⟨(N:Int),(S:Int),(D:Int),ml⟩ (Ne.nodesTo pm N);simp only at this;omega)
  rw [← hV] at AC
  have PV:=Lib.hid fun ao cap (b:Nat) so sc w' (h1:Ne.ARow w' ao ml) (h2:Ne.LBox w' b (List.replicate ml.length 0)) h3=>show Calls Tryz.prog 12 #[Ne.encN ⟨(N:Int),(S:Int),(D:Int),ml⟩ ao cap,.slice (some ⟨b,0,none⟩) ml.length ml.length,.slice so (Ne.nodesTo pm N).length sc] w' fun e w2=>e=.returned (.int .i64 (Ne.proE ⟨(N:Int),(S:Int),(D:Int),ml⟩ (List.replicate ml.length 0) (Ne.nodesTo pm N)))∧Below w'.heap.size w' w2 from by
   have:=Ne.prove_any ⟨(N:Int),(S:Int),(D:Int),ml⟩ ao cap (some ⟨b,0,none⟩) ml.length so sc (List.replicate ml.length 0) (Ne.nodesTo pm N) w' h1 h2.irow h3 hl6 CAP.out
   rw [List.length_replicate] at this
   exact this
  have hmk:=Ne.make_l ml.length hl6
  clear hpm hpl hV hms hmd hM hB
  go_enter Tryz.func5,Tryz.ntmps5
  go_wp2_with fail
  refine HSH.out.mono ?_
  rintro e w1 ⟨rfl,hb⟩
  have HB1:=Lib.hid hb
  clear hb
  go_wp2_with fail
  refine (MD.out _ (RA.out.kept HB1.out)).mono ?_
  rintro e w2 ⟨om,cm,rfl,ho,hb⟩
  have HB2:=Lib.hid (HB1.out.trans (hb.mono HB1.out.size))
  have HV2:=Lib.hid (Rw.own_lt ho)
  have HO3:=Lib.hid (Rw.own_base (Rw.own_alloc ho (.cells #[.int .i64 (N:Int),.int .i64 (S:Int),.int .i64 (D:Int),.slice om ml.length cm] 27)) (B':=w.heap.size) HB1.out.size)
  have HN3:=Lib.hid (Ne.netBox_new w2 (N:Int) (S:Int) (D:Int) (.slice om ml.length cm))
  have hz2:w.heap.size≤w2.heap.size:=HB2.out.size
  have HB3:=Lib.hid (HB2.out.alloc hz2 (.cells #[.int .i64 (N:Int),.int .i64 (S:Int),.int .i64 (D:Int),.slice om ml.length cm] 27))
  clear ho hb MD RA HSH
  go_wp2_with fail
  obtain ⟨bn,hbn⟩:∃ b,b=w2.heap.size:=⟨_,rfl⟩
  have hbn3:bn<(w2.alloc (.cells #[.int .i64 (N:Int),.int .i64 (S:Int),.int .i64 (D:Int),.slice om ml.length cm] 27)).heap.size:=by rw [hbn];simp
  rw [← hbn] at HN3 HV2 hz2 ⊢
  clear hbn HB2 HB1
  generalize (w2.alloc (.cells #[.int .i64 (N:Int),.int .i64 (S:Int),.int .i64 (D:Int),.slice om ml.length cm] 27))=W3 at *
  have HR3:=Lib.hid (Ne.arow_ofA HO3.out)
  obtain ⟨n0,n1,n2,n3⟩:=Ne.netBox_cells HN3.out
  go_wp2_with fail
  refine (MX.out om cm _ HR3.out).mono ?_
  rintro e v4 ⟨og,cg,sg,rfl,hi,ha1,ha2,ha3,hb⟩
  clear ha1 ha2 ha3
  have hal:=(Below.refl v4.heap.size v4).alloc (Nat.le_refl _) (.cells #[.slice og ml.length cg,.int .i64 (gp:Int),.int .i64 (gk:Int),.int .i64 sg] 31)
  have HX4:=Lib.hid (Ne.runBox_at v4 rfl (.slice og ml.length cg) (gp:Int) (gk:Int) sg)
  have HG4:=Lib.hid (hi.kept hal)
  replace hb:=hb.trans (hal.mono hb.size)
  have HB4:=Lib.hid (HB3.out.trans (hb.mono HB3.out.size))
  have HN4:=Lib.hid (Ne.netBox_below HN3.out hb (Ne.netBox_lt HN3.out))
  have HR4:=Lib.hid (HR3.out.kept hb)
  clear hb hi hal n0 n1 n2 n3
  obtain ⟨n0,n1,n2,n3⟩:=Ne.netBox_cells HN4.out
  obtain ⟨x0,x1,x2,x3⟩:=Ne.runBox_cells HX4.out
  go_wp2_with fail
  refine (F1.out om cm _ _ _ HR4.out HG4.out).mono ?_
  rintro e v5 ⟨oa,ca',rfl,ho,hb⟩
  have HB5:=Lib.hid (HB4.out.trans (hb.mono HB4.out.size))
  have HN5:=Lib.hid (Ne.netBox_below HN4.out hb (Ne.netBox_lt HN4.out))
  have HR5:=Lib.hid (HR4.out.kept hb)
  have HG5:=Lib.hid (HG4.out.kept hb)
  have HX5:=Lib.hid (Ne.runBox_below HX4.out hb (Ne.runBox_lt HX4.out))
  have HA5:=Lib.hid (Ne.own_irow ho)
  clear ho
  clear hb n0 n1 n2 n3 x0 x1 x2 x3
  obtain ⟨n0,n1,n2,n3⟩:=Ne.netBox_cells HN5.out
  obtain ⟨x0,x1,x2,x3⟩:=Ne.runBox_cells HX5.out
  go_wp2_with fail
  refine (L1.out om cm _ _ _ HR5.out HG5.out).mono ?_
  rintro e v6 ⟨ob,cb,rfl,ho,hb⟩
  have HB6:=Lib.hid (HB5.out.trans (hb.mono HB5.out.size))
  have HN6:=Lib.hid (Ne.netBox_below HN5.out hb (Ne.netBox_lt HN5.out))
  have HR6:=Lib.hid (HR5.out.kept hb)
  have HG6:=Lib.hid (HG5.out.kept hb)
  have HA6:=Lib.hid (HA5.out.kept hb)
  have HX6:=Lib.hid (Ne.runBox_below HX5.out hb (Ne.runBox_lt HX5.out))
  have HL6:=Lib.hid (Ne.own_irow ho)
  clear ho
  clear hb n0 n1 n2 n3 x0 x1 x2 x3
  obtain ⟨n0,n1,n2,n3⟩:=Ne.netBox_cells HN6.out
  obtain ⟨x0,x1,x2,x3⟩:=Ne.runBox_cells HX6.out
  have HHM:=Lib.hid fun (x:Int) w' h1=>Ne.rhas_any oa ca' (Ne.nodesTo pm N) x w' h1 (by have:=LM.out;omega)
  have HHL:=Lib.hid fun (x:Int) w' h1=>Ne.rhas_any ob cb (Ne.nodesTo pl N) x w' h1 (by have:=LL.out;omega)
  have HXX:=Lib.hid (Ne.runBox_lt HX6.out)
  go_wp2
  clear n0 n1 n2 n3 x0 x1 x2 x3 F1 L1 MX
  go_loopw [15] (fun i wr=>∃ j:Nat,i=.int .i64 j∧j≤ml.length∧Hid (Below v6.heap.size v6 wr)) (fun i _=>ml.length-(intOf i).toNat)
  case atStart=>exact ⟨0,rfl,Nat.zero_le _,Lib.hid (Below.refl _ _)⟩
  case round =>
   obtain ⟨j,rfl,hj,HBV⟩:=hrel
   obtain ⟨n0,n1,n2,n3⟩:=Ne.netBox_cells (Ne.netBox_below HN6.out HBV.out (Ne.netBox_lt HN6.out))
   by_cases hlt:j<ml.length
   ·obtain ⟨b9,off,rfl,hb9,d0,d1,d2⟩:=Ne.arow_cell (HR6.out.kept HBV.out) hlt
    have HXW:=Lib.hid (Ne.runBox_below HX6.out HBV.out (Ne.runBox_lt HX6.out))
    obtain ⟨gb,goff,rfl,hgb,g0⟩:=Ne.irow_cell (HG6.out.kept HBV.out) (i:=j) (by rw [HGL.out];exact hlt)
    obtain ⟨⟨g1,g2⟩,g3,g4⟩:=FB.out j hlt
    have HFJ:=Lib.hid (HFU.out j hlt)
    rcases hda:Ne.arcAt ml j with ⟨fr,tu,ca⟩
    rw [hda] at d0 d1 d2 g1 g2 g3 g4 HFJ
    simp only at d0 d1 d2 g1 g2 g3 g4 HFJ
    obtain ⟨fa,rfl⟩:∃ fa:Nat,fr=(fa:Int):=⟨fr.toNat,by omega⟩
    obtain ⟨tb,rfl⟩:∃ tb:Nat,tu=(tb:Int):=⟨tu.toNat,by omega⟩
    have HFF:=Lib.hid (HFJ.out fa tb rfl rfl)
    clear hda HFJ
    generalize Ne.amt g j=fl at *
    have hji:(j:Int)<(ml.length:Int):=by omega
    have hj0:(0:Int)≤(j:Int):=by omega
    have hw3:IntKind.i64.wrap ((j:Int)+1)=((j+1:Nat):Int):=by rw [IntKind.wrap_i64];omega
    have HJJ:=Lib.hid (show j+1≤ml.length by omega)
    have HMM:=Lib.hid (show ml.length-(j+1)<ml.length-j by omega)
    have HV8:=Lib.hid (HBV.out.alloc HBV.out.size (.cells #[.int .i64 (fa:Int),.int .i64 (tb:Int),.int .i64 ca] 51))
    have HA8:=Lib.hid (HA6.out.kept HV8.out)
    have HL8:=Lib.hid (HL6.out.kept HV8.out)
    have HVD:=Lib.hid (Ne.below_drew HV8.out)
    have HC1:=Lib.hid (HHM.out (fa:Int) _ HA8.out)
    have HC2:=Lib.hid (HHM.out (tb:Int) _ HA8.out)
    have HC3:=Lib.hid (HHL.out (fa:Int) _ HL8.out)
    have HC4:=Lib.hid (HHL.out (tb:Int) _ HL8.out)
    rw [HPE.out pm fa (by omega) (by omega)] at HC1
    rw [HPE.out pm tb (by omega) (by omega)] at HC2
    rw [HPE.out pl fa (by omega) (by omega)] at HC3
    rw [HPE.out pl tb (by omega) (by omega)] at HC4
    have q0:=(Ne.runBox_cells HXW.out).1
    have q8:=((Below.refl wr.heap.size wr).alloc (Nat.le_refl _) (.cells #[.int .i64 (fa:Int),.int .i64 (tb:Int),.int .i64 ca] 51))
    have a8:=Ne.arcbox_cells (w2:=wr.alloc (.cells #[.int .i64 (fa:Int),.int .i64 (tb:Int),.int .i64 ca] 51)) (Ne.arcbox_new wr (fa:Int) (tb:Int) ca) (Below.refl _ _)
    have hS0:=(show (fun w':World=>(w'.cell? ⟨v4.heap.size,0,none⟩=some (.slice (some ⟨gb,goff,none⟩) ml.length cg))∧w'.cell? ⟨gb,goff+j,none⟩=some (.int .i64 fl)∧w'.cell? ⟨wr.heap.size,2,none⟩=some (.int .i64 ca)) (wr.alloc (.cells #[.int .i64 (fa:Int),.int .i64 (tb:Int),.int .i64 ca] 51)).drew from ⟨(q8.cell (p:=⟨v4.heap.size,0,none⟩) (by have:=Ne.runBox_lt HXW.out;exact this)).trans q0,(q8.cell (p:=⟨gb,goff+j,none⟩) hgb).trans g0,a8.2.2⟩)
    clear q0 q8 a8 g0 HXW HFU FB hj hlt g1 g2 g3 g4
    have hs1:=HSUB.out fa
    have hs2:=HSUB.out tb
    cases ha:pm fa <;> cases hb:pm tb <;> cases hc:pl fa <;> cases hd:pl tb
    ·rw [ha] at HC1
     rw [hb] at HC2
     rw [hc] at HC3
     rw [hd] at HC4
     clear ha hb hc hd hs1 hs2 HFF HSUB
     go_wp2_with fail
     refine HC1.out.mono ?_
     rintro e w9 ⟨rfl,rfl⟩
     go_wp2_with fail
     refine HC2.out.mono ?_
     rintro e w9 ⟨rfl,rfl⟩
     go_wp2_with fail
     refine HC3.out.mono ?_
     rintro e w9 ⟨rfl,rfl⟩
     go_wp2_with fail
     refine HC4.out.mono ?_
     rintro e w9 ⟨rfl,rfl⟩
     go_wp2
     refine Rh.start (S:=(fun w':World=>(w'.cell? ⟨v4.heap.size,0,none⟩=some (.slice (some ⟨gb,goff,none⟩) ml.length cg))∧w'.cell? ⟨gb,goff+j,none⟩=some (.int .i64 fl)∧w'.cell? ⟨wr.heap.size,2,none⟩=some (.int .i64 ca))) (by kernel_rfl) ?_
     refine Rh.tp 83 0 hS0 ?_
     refine Rh.tp 84 1 hS0 ?_
     refine Rh.tu 85 2 hS0 ?_
     refine Rh.tu 86 3 hS0 ?_
     refine Rh.tp 87 4 hS0 ?_
     refine Rh.tp 88 5 hS0 ?_
     refine Rh.tp 89 6 hS0 ?_
     refine Rh.tp 90 7 hS0 ?_
     refine Rh.tu 91 8 hS0 ?_
     refine Rh.tu 92 9 hS0 ?_
     refine Rh.tp 93 10 hS0 ?_
     refine Rh.tp 94 11 hS0 ?_
     refine Rh.tp 95 12 hS0 ?_
     refine Rh.tu 96 13 hS0 ?_
     refine Rh.tu 97 14 hS0 ?_
     refine Rh.tu 98 15 hS0 ?_
     refine Rh.tu 99 16 hS0 ?_
     refine Rh.tu 100 17 hS0 ?_
     refine Rh.tu 101 18 hS0 ?_
     refine Rh.tu 102 19 hS0 ?_
     refine Rh.tu 103 20 hS0 ?_
     refine Rh.tp 104 21 hS0 ?_
     refine Rh.tp 105 22 hS0 ?_
     refine Rh.tp 106 23 hS0 ?_
     refine Rh.tp 107 24 hS0 ?_
     refine Rh.tu 108 25 hS0 ?_
     refine Rh.tu 109 26 hS0 ?_
     refine Rh.tp 110 27 hS0 ?_
     refine Rh.tp 111 28 hS0 ?_
     refine Rh.tp 112 29 hS0 ?_
     refine Rh.tp 113 30 hS0 ?_
     refine Rh.tu 114 31 hS0 ?_
     refine Rh.tu 115 32 hS0 ?_
     refine Rh.tp 116 33 hS0 ?_
     refine Rh.tp 117 34 hS0 ?_
     refine Rh.tp 118 35 hS0 ?_
     refine Rh.tu 119 36 hS0 ?_
     refine Rh.tu 120 37 hS0 ?_
     refine Rh.tu 121 38 hS0 ?_
     refine Rh.tu 122 39 hS0 ?_
     refine Rh.tu 123 40 hS0 ?_
     refine Rh.tu 124 41 hS0 ?_
     refine Rh.tp 125 42 hS0 ?_
     refine Rh.tp 126 43 hS0 ?_
     refine Rh.done (by kernel_rfl) ?_ _
     go_wp2
     go_roundw
     case rel=>exact ⟨j+1,rfl,HJJ.out,HVD⟩
     case measure=>first | exact HMM.out | (simp [intOf];exact HMM.out)
    ·have hfz:(fl != 0)=false:=by rw [HFF.out.2 (by rw [ha,hb,hc,hd];simp)];simp
     rw [ha] at HC1
     rw [hb] at HC2
     rw [hc] at HC3
     rw [hd] at HC4
     clear ha hb hc hd hs1 hs2 HFF HSUB
     go_wp2_with fail
     refine HC1.out.mono ?_
     rintro e w9 ⟨rfl,rfl⟩
     go_wp2_with fail
     refine HC2.out.mono ?_
     rintro e w9 ⟨rfl,rfl⟩
     go_wp2_with fail
     refine HC3.out.mono ?_
     rintro e w9 ⟨rfl,rfl⟩
     go_wp2_with fail
     refine HC4.out.mono ?_
     rintro e w9 ⟨rfl,rfl⟩
     go_wp2
     refine Rh.start (S:=(fun w':World=>(w'.cell? ⟨v4.heap.size,0,none⟩=some (.slice (some ⟨gb,goff,none⟩) ml.length cg))∧w'.cell? ⟨gb,goff+j,none⟩=some (.int .i64 fl)∧w'.cell? ⟨wr.heap.size,2,none⟩=some (.int .i64 ca))) (by kernel_rfl) ?_
     refine Rh.tp 83 0 hS0 ?_
     refine Rh.tp 84 1 hS0 ?_
     refine Rh.tu 85 2 hS0 ?_
     refine Rh.tu 86 3 hS0 ?_
     refine Rh.tp 87 4 hS0 ?_
     refine Rh.tp 88 5 hS0 ?_
     refine Rh.tp 89 6 hS0 ?_
     refine Rh.tp 90 7 hS0 ?_
     refine Rh.tu 91 8 hS0 ?_
     refine Rh.tu 92 9 hS0 ?_
     refine Rh.tp 93 10 hS0 ?_
     refine Rh.tp 94 11 hS0 ?_
     refine Rh.tp 95 12 hS0 ?_
     refine Rh.tu 96 13 hS0 ?_
     refine Rh.tu 97 14 hS0 ?_
     refine Rh.tu 98 15 hS0 ?_
     refine Rh.tu 99 16 hS0 ?_
     refine Rh.tu 100 17 hS0 ?_
     refine Rh.tu 101 18 hS0 ?_
     refine Rh.tu 102 19 hS0 ?_
     refine Rh.tu 103 20 hS0 ?_
     refine Rh.tp 104 21 hS0 ?_
     refine Rh.tp 105 22 hS0 ?_
     refine Rh.tp 106 23 hS0 ?_
     refine Rh.tp 107 24 hS0 ?_
     refine Rh.tu 108 25 hS0 ?_
     refine Rh.tu 109 26 hS0 ?_
     refine Rh.tp 110 27 hS0 ?_
     refine Rh.tp 111 28 hS0 ?_
     refine Rh.tp 112 29 hS0 ?_
     refine Rh.tp 113 30 hS0 ?_
     refine Rh.tp 114 31 hS0 ?_
     refine Rh.tp 115 32 hS0 ?_
     refine Rh.tp 116 33 hS0 ?_
     refine Rh.tp 117 34 hS0 ?_
     refine Rh.tp 118 35 hS0 ?_
     refine Rh.tp 119 36 hS0 ?_
     refine Rh.tp 120 37 hS0 ?_
     refine Rh.tp 121 38 hS0 ?_
     refine Rh.tp 122 39 hS0 ?_
     refine Rh.tp 123 40 hS0 ?_
     refine Rh.tp 124 41 hS0 ?_
     refine Rh.tp 125 42 hS0 ?_
     refine Rh.tp 126 43 hS0 ?_
     refine Rh.done (by kernel_rfl) ?_ _
     go_wp2
     go_roundw
     case rel=>exact ⟨j+1,rfl,HJJ.out,HVD⟩
     case measure=>first | exact HMM.out | (simp [intOf];exact HMM.out)
    ·have hfc:(fl != ca)=false:=by rw [HFF.out.1 (by rw [ha,hb,hc,hd];simp)];simp
     rw [ha] at HC1
     rw [hb] at HC2
     rw [hc] at HC3
     rw [hd] at HC4
     clear ha hb hc hd hs1 hs2 HFF HSUB
     go_wp2_with fail
     refine HC1.out.mono ?_
     rintro e w9 ⟨rfl,rfl⟩
     go_wp2_with fail
     refine HC2.out.mono ?_
     rintro e w9 ⟨rfl,rfl⟩
     go_wp2_with fail
     refine HC3.out.mono ?_
     rintro e w9 ⟨rfl,rfl⟩
     go_wp2_with fail
     refine HC4.out.mono ?_
     rintro e w9 ⟨rfl,rfl⟩
     go_wp2
     refine Rh.start (S:=(fun w':World=>(w'.cell? ⟨v4.heap.size,0,none⟩=some (.slice (some ⟨gb,goff,none⟩) ml.length cg))∧w'.cell? ⟨gb,goff+j,none⟩=some (.int .i64 fl)∧w'.cell? ⟨wr.heap.size,2,none⟩=some (.int .i64 ca))) (by kernel_rfl) ?_
     refine Rh.tp 83 0 hS0 ?_
     refine Rh.tp 84 1 hS0 ?_
     refine Rh.tu 85 2 hS0 ?_
     refine Rh.tu 86 3 hS0 ?_
     refine Rh.tp 87 4 hS0 ?_
     refine Rh.tp 88 5 hS0 ?_
     refine Rh.tp 89 6 hS0 ?_
     refine Rh.tp 90 7 hS0 ?_
     refine Rh.tp 91 8 hS0 ?_
     refine Rh.tp 92 9 hS0 ?_
     refine Rh.tp 93 10 hS0 ?_
     refine Rh.tp 94 11 hS0 ?_
     refine Rh.tp 95 12 hS0 ?_
     refine Rh.tp 96 13 hS0 ?_
     refine Rh.tp 97 14 hS0 ?_
     refine Rh.tp 98 15 hS0 ?_
     refine Rh.tp 99 16 hS0 ?_
     refine Rh.tp 100 17 hS0 ?_
     refine Rh.tp 101 18 hS0 ?_
     refine Rh.tp 102 19 hS0 ?_
     refine Rh.tp 103 20 hS0 ?_
     refine Rh.tp 104 21 hS0 ?_
     refine Rh.tp 105 22 hS0 ?_
     refine Rh.tp 106 23 hS0 ?_
     refine Rh.tp 107 24 hS0 ?_
     refine Rh.tu 108 25 hS0 ?_
     refine Rh.tu 109 26 hS0 ?_
     refine Rh.tp 110 27 hS0 ?_
     refine Rh.tp 111 28 hS0 ?_
     refine Rh.tp 112 29 hS0 ?_
     refine Rh.tp 113 30 hS0 ?_
     refine Rh.tu 114 31 hS0 ?_
     refine Rh.tu 115 32 hS0 ?_
     refine Rh.tp 116 33 hS0 ?_
     refine Rh.tp 117 34 hS0 ?_
     refine Rh.tp 118 35 hS0 ?_
     refine Rh.tu 119 36 hS0 ?_
     refine Rh.tu 120 37 hS0 ?_
     refine Rh.tu 121 38 hS0 ?_
     refine Rh.tu 122 39 hS0 ?_
     refine Rh.tu 123 40 hS0 ?_
     refine Rh.tu 124 41 hS0 ?_
     refine Rh.tp 125 42 hS0 ?_
     refine Rh.tp 126 43 hS0 ?_
     refine Rh.done (by kernel_rfl) ?_ _
     go_wp2
     go_roundw
     case rel=>exact ⟨j+1,rfl,HJJ.out,HVD⟩
     case measure=>first | exact HMM.out | (simp [intOf];exact HMM.out)
    ·rw [ha] at HC1
     rw [hb] at HC2
     rw [hc] at HC3
     rw [hd] at HC4
     clear ha hb hc hd hs1 hs2 HFF HSUB
     go_wp2_with fail
     refine HC1.out.mono ?_
     rintro e w9 ⟨rfl,rfl⟩
     go_wp2_with fail
     refine HC2.out.mono ?_
     rintro e w9 ⟨rfl,rfl⟩
     go_wp2_with fail
     refine HC3.out.mono ?_
     rintro e w9 ⟨rfl,rfl⟩
     go_wp2_with fail
     refine HC4.out.mono ?_
     rintro e w9 ⟨rfl,rfl⟩
     go_wp2
     refine Rh.start (S:=(fun w':World=>(w'.cell? ⟨v4.heap.size,0,none⟩=some (.slice (some ⟨gb,goff,none⟩) ml.length cg))∧w'.cell? ⟨gb,goff+j,none⟩=some (.int .i64 fl)∧w'.cell? ⟨wr.heap.size,2,none⟩=some (.int .i64 ca))) (by kernel_rfl) ?_
     refine Rh.tp 83 0 hS0 ?_
     refine Rh.tp 84 1 hS0 ?_
     refine Rh.tu 85 2 hS0 ?_
     refine Rh.tu 86 3 hS0 ?_
     refine Rh.tp 87 4 hS0 ?_
     refine Rh.tp 88 5 hS0 ?_
     refine Rh.tp 89 6 hS0 ?_
     refine Rh.tp 90 7 hS0 ?_
     refine Rh.tp 91 8 hS0 ?_
     refine Rh.tp 92 9 hS0 ?_
     refine Rh.tp 93 10 hS0 ?_
     refine Rh.tp 94 11 hS0 ?_
     refine Rh.tp 95 12 hS0 ?_
     refine Rh.tu 96 13 hS0 ?_
     refine Rh.tu 97 14 hS0 ?_
     refine Rh.tu 98 15 hS0 ?_
     refine Rh.tu 99 16 hS0 ?_
     refine Rh.tu 100 17 hS0 ?_
     refine Rh.tu 101 18 hS0 ?_
     refine Rh.tu 102 19 hS0 ?_
     refine Rh.tu 103 20 hS0 ?_
     refine Rh.tp 104 21 hS0 ?_
     refine Rh.tp 105 22 hS0 ?_
     refine Rh.tp 106 23 hS0 ?_
     refine Rh.tp 107 24 hS0 ?_
     refine Rh.tu 108 25 hS0 ?_
     refine Rh.tu 109 26 hS0 ?_
     refine Rh.tp 110 27 hS0 ?_
     refine Rh.tp 111 28 hS0 ?_
     refine Rh.tp 112 29 hS0 ?_
     refine Rh.tp 113 30 hS0 ?_
     refine Rh.tp 114 31 hS0 ?_
     refine Rh.tp 115 32 hS0 ?_
     refine Rh.tp 116 33 hS0 ?_
     refine Rh.tp 117 34 hS0 ?_
     refine Rh.tp 118 35 hS0 ?_
     refine Rh.tu 119 36 hS0 ?_
     refine Rh.tu 120 37 hS0 ?_
     refine Rh.tu 121 38 hS0 ?_
     refine Rh.tu 122 39 hS0 ?_
     refine Rh.tu 123 40 hS0 ?_
     refine Rh.tu 124 41 hS0 ?_
     refine Rh.tp 125 42 hS0 ?_
     refine Rh.tp 126 43 hS0 ?_
     refine Rh.done (by kernel_rfl) ?_ _
     go_wp2
     go_roundw
     case rel=>exact ⟨j+1,rfl,HJJ.out,HVD⟩
     case measure=>first | exact HMM.out | (simp [intOf];exact HMM.out)
    ·exact absurd (hs2 hb) (by rw [hd];decide)
    ·have hfz:(fl != 0)=false:=by rw [HFF.out.2 (by rw [ha,hb,hc,hd];simp)];simp
     rw [ha] at HC1
     rw [hb] at HC2
     rw [hc] at HC3
     rw [hd] at HC4
     clear ha hb hc hd hs1 hs2 HFF HSUB
     go_wp2_with fail
     refine HC1.out.mono ?_
     rintro e w9 ⟨rfl,rfl⟩
     go_wp2_with fail
     refine HC2.out.mono ?_
     rintro e w9 ⟨rfl,rfl⟩
     go_wp2_with fail
     refine HC3.out.mono ?_
     rintro e w9 ⟨rfl,rfl⟩
     go_wp2_with fail
     refine HC4.out.mono ?_
     rintro e w9 ⟨rfl,rfl⟩
     go_wp2
     refine Rh.start (S:=(fun w':World=>(w'.cell? ⟨v4.heap.size,0,none⟩=some (.slice (some ⟨gb,goff,none⟩) ml.length cg))∧w'.cell? ⟨gb,goff+j,none⟩=some (.int .i64 fl)∧w'.cell? ⟨wr.heap.size,2,none⟩=some (.int .i64 ca))) (by kernel_rfl) ?_
     refine Rh.tp 83 0 hS0 ?_
     refine Rh.tp 84 1 hS0 ?_
     refine Rh.tu 85 2 hS0 ?_
     refine Rh.tu 86 3 hS0 ?_
     refine Rh.tp 87 4 hS0 ?_
     refine Rh.tp 88 5 hS0 ?_
     refine Rh.tp 89 6 hS0 ?_
     refine Rh.tp 90 7 hS0 ?_
     refine Rh.tu 91 8 hS0 ?_
     refine Rh.tu 92 9 hS0 ?_
     refine Rh.tp 93 10 hS0 ?_
     refine Rh.tp 94 11 hS0 ?_
     refine Rh.tp 95 12 hS0 ?_
     refine Rh.tu 96 13 hS0 ?_
     refine Rh.tu 97 14 hS0 ?_
     refine Rh.tu 98 15 hS0 ?_
     refine Rh.tu 99 16 hS0 ?_
     refine Rh.tu 100 17 hS0 ?_
     refine Rh.tu 101 18 hS0 ?_
     refine Rh.tu 102 19 hS0 ?_
     refine Rh.tu 103 20 hS0 ?_
     refine Rh.tp 104 21 hS0 ?_
     refine Rh.tp 105 22 hS0 ?_
     refine Rh.tp 106 23 hS0 ?_
     refine Rh.tp 107 24 hS0 ?_
     refine Rh.tp 108 25 hS0 ?_
     refine Rh.tp 109 26 hS0 ?_
     refine Rh.tp 110 27 hS0 ?_
     refine Rh.tp 111 28 hS0 ?_
     refine Rh.tu 112 29 hS0 ?_
     refine Rh.tu 113 30 hS0 ?_
     refine Rh.tu 114 31 hS0 ?_
     refine Rh.tu 115 32 hS0 ?_
     refine Rh.tu 116 33 hS0 ?_
     refine Rh.tp 117 34 hS0 ?_
     refine Rh.tp 118 35 hS0 ?_
     refine Rh.tp 119 36 hS0 ?_
     refine Rh.tp 120 37 hS0 ?_
     refine Rh.tp 121 38 hS0 ?_
     refine Rh.tp 122 39 hS0 ?_
     refine Rh.tp 123 40 hS0 ?_
     refine Rh.tp 124 41 hS0 ?_
     refine Rh.tp 125 42 hS0 ?_
     refine Rh.tp 126 43 hS0 ?_
     refine Rh.done (by kernel_rfl) ?_ _
     go_wp2
     go_roundw
     case rel=>exact ⟨j+1,rfl,HJJ.out,HVD⟩
     case measure=>first | exact HMM.out | (simp [intOf];exact HMM.out)
    ·exact absurd (hs2 hb) (by rw [hd];decide)
    ·have hfz:(fl != 0)=false:=by rw [HFF.out.2 (by rw [ha,hb,hc,hd];simp)];simp
     rw [ha] at HC1
     rw [hb] at HC2
     rw [hc] at HC3
     rw [hd] at HC4
     clear ha hb hc hd hs1 hs2 HFF HSUB
     go_wp2_with fail
     refine HC1.out.mono ?_
     rintro e w9 ⟨rfl,rfl⟩
     go_wp2_with fail
     refine HC2.out.mono ?_
     rintro e w9 ⟨rfl,rfl⟩
     go_wp2_with fail
     refine HC3.out.mono ?_
     rintro e w9 ⟨rfl,rfl⟩
     go_wp2_with fail
     refine HC4.out.mono ?_
     rintro e w9 ⟨rfl,rfl⟩
     go_wp2
     refine Rh.start (S:=(fun w':World=>(w'.cell? ⟨v4.heap.size,0,none⟩=some (.slice (some ⟨gb,goff,none⟩) ml.length cg))∧w'.cell? ⟨gb,goff+j,none⟩=some (.int .i64 fl)∧w'.cell? ⟨wr.heap.size,2,none⟩=some (.int .i64 ca))) (by kernel_rfl) ?_
     refine Rh.tp 83 0 hS0 ?_
     refine Rh.tp 84 1 hS0 ?_
     refine Rh.tu 85 2 hS0 ?_
     refine Rh.tu 86 3 hS0 ?_
     refine Rh.tp 87 4 hS0 ?_
     refine Rh.tp 88 5 hS0 ?_
     refine Rh.tp 89 6 hS0 ?_
     refine Rh.tp 90 7 hS0 ?_
     refine Rh.tp 91 8 hS0 ?_
     refine Rh.tp 92 9 hS0 ?_
     refine Rh.tp 93 10 hS0 ?_
     refine Rh.tp 94 11 hS0 ?_
     refine Rh.tp 95 12 hS0 ?_
     refine Rh.tu 96 13 hS0 ?_
     refine Rh.tu 97 14 hS0 ?_
     refine Rh.tu 98 15 hS0 ?_
     refine Rh.tu 99 16 hS0 ?_
     refine Rh.tu 100 17 hS0 ?_
     refine Rh.tu 101 18 hS0 ?_
     refine Rh.tu 102 19 hS0 ?_
     refine Rh.tu 103 20 hS0 ?_
     refine Rh.tp 104 21 hS0 ?_
     refine Rh.tp 105 22 hS0 ?_
     refine Rh.tp 106 23 hS0 ?_
     refine Rh.tp 107 24 hS0 ?_
     refine Rh.tp 108 25 hS0 ?_
     refine Rh.tp 109 26 hS0 ?_
     refine Rh.tp 110 27 hS0 ?_
     refine Rh.tp 111 28 hS0 ?_
     refine Rh.tu 112 29 hS0 ?_
     refine Rh.tu 113 30 hS0 ?_
     refine Rh.tu 114 31 hS0 ?_
     refine Rh.tu 115 32 hS0 ?_
     refine Rh.tu 116 33 hS0 ?_
     refine Rh.tp 117 34 hS0 ?_
     refine Rh.tp 118 35 hS0 ?_
     refine Rh.tp 119 36 hS0 ?_
     refine Rh.tp 120 37 hS0 ?_
     refine Rh.tp 121 38 hS0 ?_
     refine Rh.tp 122 39 hS0 ?_
     refine Rh.tp 123 40 hS0 ?_
     refine Rh.tp 124 41 hS0 ?_
     refine Rh.tp 125 42 hS0 ?_
     refine Rh.tp 126 43 hS0 ?_
     refine Rh.done (by kernel_rfl) ?_ _
     go_wp2
     go_roundw
     case rel=>exact ⟨j+1,rfl,HJJ.out,HVD⟩
     case measure=>first | exact HMM.out | (simp [intOf];exact HMM.out)
    ·exact absurd (hs1 ha) (by rw [hc];decide)
    ·exact absurd (hs1 ha) (by rw [hc];decide)
    ·have hfc:(fl != ca)=false:=by rw [HFF.out.1 (by rw [ha,hb,hc,hd];simp)];simp
     rw [ha] at HC1
     rw [hb] at HC2
     rw [hc] at HC3
     rw [hd] at HC4
     clear ha hb hc hd hs1 hs2 HFF HSUB
     go_wp2_with fail
     refine HC1.out.mono ?_
     rintro e w9 ⟨rfl,rfl⟩
     go_wp2_with fail
     refine HC2.out.mono ?_
     rintro e w9 ⟨rfl,rfl⟩
     go_wp2_with fail
     refine HC3.out.mono ?_
     rintro e w9 ⟨rfl,rfl⟩
     go_wp2_with fail
     refine HC4.out.mono ?_
     rintro e w9 ⟨rfl,rfl⟩
     go_wp2
     refine Rh.start (S:=(fun w':World=>(w'.cell? ⟨v4.heap.size,0,none⟩=some (.slice (some ⟨gb,goff,none⟩) ml.length cg))∧w'.cell? ⟨gb,goff+j,none⟩=some (.int .i64 fl)∧w'.cell? ⟨wr.heap.size,2,none⟩=some (.int .i64 ca))) (by kernel_rfl) ?_
     refine Rh.tp 83 0 hS0 ?_
     refine Rh.tp 84 1 hS0 ?_
     refine Rh.tp 85 2 hS0 ?_
     refine Rh.tp 86 3 hS0 ?_
     refine Rh.tp 87 4 hS0 ?_
     refine Rh.tp 88 5 hS0 ?_
     refine Rh.tu 89 6 hS0 ?_
     refine Rh.tu 90 7 hS0 ?_
     refine Rh.tu 91 8 hS0 ?_
     refine Rh.tu 92 9 hS0 ?_
     refine Rh.tu 93 10 hS0 ?_
     refine Rh.tp 94 11 hS0 ?_
     refine Rh.tp 95 12 hS0 ?_
     refine Rh.tp 96 13 hS0 ?_
     refine Rh.tp 97 14 hS0 ?_
     refine Rh.tp 98 15 hS0 ?_
     refine Rh.tp 99 16 hS0 ?_
     refine Rh.tp 100 17 hS0 ?_
     refine Rh.tp 101 18 hS0 ?_
     refine Rh.tp 102 19 hS0 ?_
     refine Rh.tp 103 20 hS0 ?_
     refine Rh.tp 104 21 hS0 ?_
     refine Rh.tp 105 22 hS0 ?_
     refine Rh.tp 106 23 hS0 ?_
     refine Rh.tp 107 24 hS0 ?_
     refine Rh.tu 108 25 hS0 ?_
     refine Rh.tu 109 26 hS0 ?_
     refine Rh.tp 110 27 hS0 ?_
     refine Rh.tp 111 28 hS0 ?_
     refine Rh.tp 112 29 hS0 ?_
     refine Rh.tp 113 30 hS0 ?_
     refine Rh.tu 114 31 hS0 ?_
     refine Rh.tu 115 32 hS0 ?_
     refine Rh.tp 116 33 hS0 ?_
     refine Rh.tp 117 34 hS0 ?_
     refine Rh.tp 118 35 hS0 ?_
     refine Rh.tu 119 36 hS0 ?_
     refine Rh.tu 120 37 hS0 ?_
     refine Rh.tu 121 38 hS0 ?_
     refine Rh.tu 122 39 hS0 ?_
     refine Rh.tu 123 40 hS0 ?_
     refine Rh.tu 124 41 hS0 ?_
     refine Rh.tp 125 42 hS0 ?_
     refine Rh.tp 126 43 hS0 ?_
     refine Rh.done (by kernel_rfl) ?_ _
     go_wp2
     go_roundw
     case rel=>exact ⟨j+1,rfl,HJJ.out,HVD⟩
     case measure=>first | exact HMM.out | (simp [intOf];exact HMM.out)
    ·have hfc:(fl != ca)=false:=by rw [HFF.out.1 (by rw [ha,hb,hc,hd];simp)];simp
     rw [ha] at HC1
     rw [hb] at HC2
     rw [hc] at HC3
     rw [hd] at HC4
     clear ha hb hc hd hs1 hs2 HFF HSUB
     go_wp2_with fail
     refine HC1.out.mono ?_
     rintro e w9 ⟨rfl,rfl⟩
     go_wp2_with fail
     refine HC2.out.mono ?_
     rintro e w9 ⟨rfl,rfl⟩
     go_wp2_with fail
     refine HC3.out.mono ?_
     rintro e w9 ⟨rfl,rfl⟩
     go_wp2_with fail
     refine HC4.out.mono ?_
     rintro e w9 ⟨rfl,rfl⟩
     go_wp2
     refine Rh.start (S:=(fun w':World=>(w'.cell? ⟨v4.heap.size,0,none⟩=some (.slice (some ⟨gb,goff,none⟩) ml.length cg))∧w'.cell? ⟨gb,goff+j,none⟩=some (.int .i64 fl)∧w'.cell? ⟨wr.heap.size,2,none⟩=some (.int .i64 ca))) (by kernel_rfl) ?_
     refine Rh.tp 83 0 hS0 ?_
     refine Rh.tp 84 1 hS0 ?_
     refine Rh.tp 85 2 hS0 ?_
     refine Rh.tp 86 3 hS0 ?_
     refine Rh.tp 87 4 hS0 ?_
     refine Rh.tp 88 5 hS0 ?_
     refine Rh.tu 89 6 hS0 ?_
     refine Rh.tu 90 7 hS0 ?_
     refine Rh.tu 91 8 hS0 ?_
     refine Rh.tu 92 9 hS0 ?_
     refine Rh.tu 93 10 hS0 ?_
     refine Rh.tp 94 11 hS0 ?_
     refine Rh.tp 95 12 hS0 ?_
     refine Rh.tp 96 13 hS0 ?_
     refine Rh.tp 97 14 hS0 ?_
     refine Rh.tp 98 15 hS0 ?_
     refine Rh.tp 99 16 hS0 ?_
     refine Rh.tp 100 17 hS0 ?_
     refine Rh.tp 101 18 hS0 ?_
     refine Rh.tp 102 19 hS0 ?_
     refine Rh.tp 103 20 hS0 ?_
     refine Rh.tp 104 21 hS0 ?_
     refine Rh.tp 105 22 hS0 ?_
     refine Rh.tp 106 23 hS0 ?_
     refine Rh.tp 107 24 hS0 ?_
     refine Rh.tu 108 25 hS0 ?_
     refine Rh.tu 109 26 hS0 ?_
     refine Rh.tp 110 27 hS0 ?_
     refine Rh.tp 111 28 hS0 ?_
     refine Rh.tp 112 29 hS0 ?_
     refine Rh.tp 113 30 hS0 ?_
     refine Rh.tp 114 31 hS0 ?_
     refine Rh.tp 115 32 hS0 ?_
     refine Rh.tp 116 33 hS0 ?_
     refine Rh.tp 117 34 hS0 ?_
     refine Rh.tp 118 35 hS0 ?_
     refine Rh.tu 119 36 hS0 ?_
     refine Rh.tu 120 37 hS0 ?_
     refine Rh.tu 121 38 hS0 ?_
     refine Rh.tu 122 39 hS0 ?_
     refine Rh.tu 123 40 hS0 ?_
     refine Rh.tu 124 41 hS0 ?_
     refine Rh.tp 125 42 hS0 ?_
     refine Rh.tp 126 43 hS0 ?_
     refine Rh.done (by kernel_rfl) ?_ _
     go_wp2
     go_roundw
     case rel=>exact ⟨j+1,rfl,HJJ.out,HVD⟩
     case measure=>first | exact HMM.out | (simp [intOf];exact HMM.out)
    ·exact absurd (hs1 ha) (by rw [hc];decide)
    ·exact absurd (hs1 ha) (by rw [hc];decide)
    ·exact absurd (hs2 hb) (by rw [hd];decide)
    ·rw [ha] at HC1
     rw [hb] at HC2
     rw [hc] at HC3
     rw [hd] at HC4
     clear ha hb hc hd hs1 hs2 HFF HSUB
     go_wp2_with fail
     refine HC1.out.mono ?_
     rintro e w9 ⟨rfl,rfl⟩
     go_wp2_with fail
     refine HC2.out.mono ?_
     rintro e w9 ⟨rfl,rfl⟩
     go_wp2_with fail
     refine HC3.out.mono ?_
     rintro e w9 ⟨rfl,rfl⟩
     go_wp2_with fail
     refine HC4.out.mono ?_
     rintro e w9 ⟨rfl,rfl⟩
     go_wp2
     refine Rh.start (S:=(fun w':World=>(w'.cell? ⟨v4.heap.size,0,none⟩=some (.slice (some ⟨gb,goff,none⟩) ml.length cg))∧w'.cell? ⟨gb,goff+j,none⟩=some (.int .i64 fl)∧w'.cell? ⟨wr.heap.size,2,none⟩=some (.int .i64 ca))) (by kernel_rfl) ?_
     refine Rh.tp 83 0 hS0 ?_
     refine Rh.tp 84 1 hS0 ?_
     refine Rh.tp 85 2 hS0 ?_
     refine Rh.tp 86 3 hS0 ?_
     refine Rh.tp 87 4 hS0 ?_
     refine Rh.tp 88 5 hS0 ?_
     refine Rh.tp 89 6 hS0 ?_
     refine Rh.tp 90 7 hS0 ?_
     refine Rh.tp 91 8 hS0 ?_
     refine Rh.tp 92 9 hS0 ?_
     refine Rh.tp 93 10 hS0 ?_
     refine Rh.tp 94 11 hS0 ?_
     refine Rh.tp 95 12 hS0 ?_
     refine Rh.tu 96 13 hS0 ?_
     refine Rh.tu 97 14 hS0 ?_
     refine Rh.tu 98 15 hS0 ?_
     refine Rh.tu 99 16 hS0 ?_
     refine Rh.tu 100 17 hS0 ?_
     refine Rh.tu 101 18 hS0 ?_
     refine Rh.tu 102 19 hS0 ?_
     refine Rh.tu 103 20 hS0 ?_
     refine Rh.tp 104 21 hS0 ?_
     refine Rh.tp 105 22 hS0 ?_
     refine Rh.tp 106 23 hS0 ?_
     refine Rh.tp 107 24 hS0 ?_
     refine Rh.tp 108 25 hS0 ?_
     refine Rh.tp 109 26 hS0 ?_
     refine Rh.tp 110 27 hS0 ?_
     refine Rh.tp 111 28 hS0 ?_
     refine Rh.tp 112 29 hS0 ?_
     refine Rh.tp 113 30 hS0 ?_
     refine Rh.tp 114 31 hS0 ?_
     refine Rh.tp 115 32 hS0 ?_
     refine Rh.tp 116 33 hS0 ?_
     refine Rh.tp 117 34 hS0 ?_
     refine Rh.tp 118 35 hS0 ?_
     refine Rh.tu 119 36 hS0 ?_
     refine Rh.tu 120 37 hS0 ?_
     refine Rh.tu 121 38 hS0 ?_
     refine Rh.tu 122 39 hS0 ?_
     refine Rh.tu 123 40 hS0 ?_
     refine Rh.tu 124 41 hS0 ?_
     refine Rh.tp 125 42 hS0 ?_
     refine Rh.tp 126 43 hS0 ?_
     refine Rh.done (by kernel_rfl) ?_ _
     go_wp2
     go_roundw
     case rel=>exact ⟨j+1,rfl,HJJ.out,HVD⟩
     case measure=>first | exact HMM.out | (simp [intOf];exact HMM.out)
   ·have ej:j=ml.length:=by omega
    subst ej
    clear hj hlt HFU FB HHM HHL HPE HSUB HXX
    have HB7:=Lib.hid (HB6.out.trans (HBV.out.mono HB6.out.size))
    have HN7:=Lib.hid (Ne.netBox_below HN6.out HBV.out (Ne.netBox_lt HN6.out))
    have HR7:=Lib.hid (HR6.out.kept HBV.out)
    have HA7:=Lib.hid (HA6.out.kept HBV.out)
    go_wp2_with fail
    refine (AC.out om cm oa ca' _ HR7.out HA7.out).mono ?_
    rintro e v8 ⟨ov,cv,rfl,hb⟩
    have HB8:=Lib.hid (HB7.out.trans (hb.mono HB7.out.size))
    have HN8:=Lib.hid (Ne.netBox_below HN7.out hb (Ne.netBox_lt HN7.out))
    have HR8:=Lib.hid (HR7.out.kept hb)
    have HA8:=Lib.hid (HA7.out.kept hb)
    clear hb n0 n1 n2 n3 HBV AC
    obtain ⟨n0,n1,n2,n3⟩:=Ne.netBox_cells HN8.out
    have hS0:=(show (fun w':World=>w'.cell? ⟨bn,0,none⟩=some (.int .i64 (N:Int))∧w'.cell? ⟨bn,1,none⟩=some (.int .i64 (S:Int))∧w'.cell? ⟨bn,2,none⟩=some (.int .i64 (D:Int))∧w'.cell? ⟨bn,3,none⟩=some (.slice om ml.length cm)) v8.drew from ⟨n0,n1,n2,n3⟩)
    by_cases hv:V=[]
    ·have hz:V.length=0:=by rw [hv];rfl
     have z1:decide (0<V.length)=false:=by rw [hz];rfl
     have z2:decide ((0:Int)<(V.length:Int))=false:=by rw [hz];rfl
     have HP0:=Lib.hid (HNO.out hv)
     rw [HP0.out] at PV
     have HLB:=Lib.hid (show Ne.LBox (v8.alloc (.cells (madeCells #[.int .i64 0] ml.length) 2)).drew v8.heap.size (List.replicate ml.length 0) from Ne.lbox_made v8 ml.length rfl)
     have hS1:=(show (fun w':World=>w'.cell? ⟨bn,0,none⟩=some (.int .i64 (N:Int))∧w'.cell? ⟨bn,1,none⟩=some (.int .i64 (S:Int))∧w'.cell? ⟨bn,2,none⟩=some (.int .i64 (D:Int))∧w'.cell? ⟨bn,3,none⟩=some (.slice om ml.length cm)) (v8.alloc (.cells (madeCells #[.int .i64 0] ml.length) 2)).drew from ⟨Ne.held_new n0,Ne.held_new n1,Ne.held_new n2,Ne.held_new n3⟩)
     have HQ9:=Lib.hid (show Below v8.heap.size v8 (v8.alloc (.cells (madeCells #[.int .i64 0] ml.length) 2)).drew from Ne.below_drew ((Below.refl v8.heap.size v8).alloc (Nat.le_refl _) _))
     clear n0 n1 n2 n3 HNO HP0 hv hz
     go_wp2
     refine Rh.start (S:=(fun w':World=>w'.cell? ⟨bn,0,none⟩=some (.int .i64 (N:Int))∧w'.cell? ⟨bn,1,none⟩=some (.int .i64 (S:Int))∧w'.cell? ⟨bn,2,none⟩=some (.int .i64 (D:Int))∧w'.cell? ⟨bn,3,none⟩=some (.slice om ml.length cm))) (by kernel_rfl) ?_
     refine Rh.tp 133 0 hS0 ?_
     refine Rh.tp 134 1 hS0 ?_
     refine Rh.tp 135 2 hS0 ?_
     refine Rh.tp 136 3 hS0 ?_
     refine Rh.tp 137 4 hS0 ?_
     refine Rh.tp 138 5 hS0 ?_
     refine Rh.tp 139 6 hS0 ?_
     refine Rh.tp 140 7 hS0 ?_
     refine Rh.tp 141 8 hS0 ?_
     refine Rh.tp 142 9 hS0 ?_
     refine Rh.tp 143 10 hS0 ?_
     refine Rh.tp 145 12 hS0 ?_
     refine Rh.step (i:=11) (by kernel_rfl) rfl fun K' hK'=>?_
     have HK:=Lib.hid hK'
     clear hK'
     go_simp
     refine HK.out _ _ ⟨hS1,?_⟩
     clear HK K'
     try simp only [Act.put,Rh.q1,Rh.q2,Rh.q3]
     refine Rh.step (i:=13) (by kernel_rfl) rfl fun K' hK'=>?_
     have HK:=Lib.hid hK'
     clear hK'
     go_simp
     refine (PV.out om cm v8.heap.size oa ca' _ (HR8.out.kept HQ9.out) HLB.out (HA8.out.kept HQ9.out)).mono ?_
     rintro e v9 ⟨rfl,hb⟩
     have HQ10:=Lib.hid (HQ9.out.trans (hb.mono HQ9.out.size))
     have HB9:=Lib.hid (HB8.out.trans (HQ10.out.mono HB8.out.size))
     have HN9:=Lib.hid (Ne.netBox_below HN8.out HQ10.out (Ne.netBox_lt HN8.out))
     have hS2:=(show (fun w':World=>w'.cell? ⟨bn,0,none⟩=some (.int .i64 (N:Int))∧w'.cell? ⟨bn,1,none⟩=some (.int .i64 (S:Int))∧w'.cell? ⟨bn,2,none⟩=some (.int .i64 (D:Int))∧w'.cell? ⟨bn,3,none⟩=some (.slice om ml.length cm)) v9 from Ne.netBox_cells HN9.out)
     clear hb
     refine HK.out _ _ ⟨hS2,?_⟩
     clear HK K'
     try simp only [Act.put,Rh.q1,Rh.q2,Rh.q3]
     refine Rh.tp 147 14 hS2 ?_
     refine Rh.tp 148 15 hS2 ?_
     refine Rh.tp 149 16 hS2 ?_
     refine Rh.tp 6 17 hS2 ?_
     refine Rh.done (by kernel_rfl) ?_ _
     go_wp2
     go_ret
     exact ⟨rfl,HB9.out⟩
    ·have hz:0<V.length:=List.length_pos_iff.2 hv
     have z1:decide (0<V.length)=true:=by simpa using hz
     have z2:decide ((0:Int)<(V.length:Int))=true:=by simp;omega
     have HBD:=Lib.hid (Ne.below_drew HB8.out)
     clear n0 n1 n2 n3 HNO hv hz PV
     go_wp2
     refine Rh.start (S:=(fun w':World=>w'.cell? ⟨bn,0,none⟩=some (.int .i64 (N:Int))∧w'.cell? ⟨bn,1,none⟩=some (.int .i64 (S:Int))∧w'.cell? ⟨bn,2,none⟩=some (.int .i64 (D:Int))∧w'.cell? ⟨bn,3,none⟩=some (.slice om ml.length cm))) (by kernel_rfl) ?_
     refine Rh.tp 133 0 hS0 ?_
     refine Rh.tp 134 1 hS0 ?_
     refine Rh.tp 135 2 hS0 ?_
     refine Rh.tp 136 3 hS0 ?_
     refine Rh.tp 137 4 hS0 ?_
     refine Rh.tp 138 5 hS0 ?_
     refine Rh.tp 139 6 hS0 ?_
     refine Rh.tu 140 7 hS0 ?_
     refine Rh.tu 141 8 hS0 ?_
     refine Rh.tu 142 9 hS0 ?_
     refine Rh.tu 143 10 hS0 ?_
     refine Rh.tu 144 11 hS0 ?_
     refine Rh.tu 145 12 hS0 ?_
     refine Rh.tu 146 13 hS0 ?_
     refine Rh.tu 147 14 hS0 ?_
     refine Rh.tp 148 15 hS0 ?_
     refine Rh.tp 149 16 hS0 ?_
     refine Rh.tp 6 17 hS0 ?_
     refine Rh.done (by kernel_rfl) ?_ _
     go_wp2
     go_ret
     exact ⟨rfl,HBD.out⟩

end Go.Proofs.YthhlfphnokdfaaaGreat.cutFull
