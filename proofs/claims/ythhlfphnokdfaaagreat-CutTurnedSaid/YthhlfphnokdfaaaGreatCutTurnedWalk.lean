/- CutTurned: for every input the law returns true and its arguments read as they did. No condition. -/
import Derived.Test.YthhlfphnokdfaaaGreatBc14
import Derived.Test.YthhlfphnokdfaaaGreatBc15
import Derived.Test.YthhlfphnokdfaaaGreatBc42
import Derived.Test.YthhlfphnokdfaaaGreatBc43
import Derived.Test.YthhlfphnokdfaaaGreatBc4
import Derived.Deep.LoopGhost
import Derived.Deep.DeepCutAuto
import Derived.RegionTactic
import Derived.BigRegion
import Derived.Test.YthhlfphnokdfaaaGreatRows
import Derived.WalkKit
import Derived.ProofKit
import Derived.OpenShut
import Derived.ShutString
import Derived.ChangeOld
import Derived.Below
import Derived.Deep.Strs
namespace Go.Proofs.YthhlfphnokdfaaaGreat.cutTurned
open Go.ChangeShapes Go.WideShapes Go.ChangeAt Go.RowKit
open Go.ChangeMaps (open_string shut_string)
set_option linter.unusedVariables false
set_option linter.unusedSimpArgs false

theorem own : ownKnob Tryz.prog.godebug = none := by kernel_rfl
theorem laidOut : laidOutB Tryz.prog = true := by kernel_rfl



set_option maxRecDepth 100000 in
set_option maxHeartbeats 4000000 in
theorem walk (a0 : Int) (a1 : Int) (a2 : List Ne.Arc) (o2 : Option Addr) (c2 : Nat) (a3 : Int) (w : World) (w0 : (Lit.int .i64 a0).wf = true) (w1 : (Lit.int .i64 a1).wf = true) (k2 : ∀ a ∈ a2, Ne.Arc.ok a) (z2 : a2.length ≤ c2) (y2 : c2 ≤ maxLen) (n2 : o2 = none → c2 = 0) (r2 : Ne.ARow w o2 a2) (w3 : (Lit.int .i64 a3).wf = true) :
    Calls Tryz.prog 4 #[.int .i64 a0, .int .i64 a1, .slice o2 a2.length c2, .int .i64 a3] w fun e w' => e = .returned (.bool true) ∧ Below w.heap.size w w' := by
  have HSH:=Lib.hid (Ne.shown_any w)
  obtain ⟨mn,hmn⟩:∃ x,x=(Ne.madeN a0 a1 a2).n:=⟨_,rfl⟩
  obtain ⟨ms,hms⟩:∃ x,x=(Ne.madeN a0 a1 a2).s:=⟨_,rfl⟩
  obtain ⟨mt,hmt⟩:∃ x,x=(Ne.madeN a0 a1 a2).t:=⟨_,rfl⟩
  obtain ⟨ml,hml⟩:∃ x,x=(Ne.madeN a0 a1 a2).l:=⟨_,rfl⟩
  have em:Ne.madeN a0 a1 a2=⟨mn,ms,mt,ml⟩:=by rw [hmn,hms,hmt,hml]
  obtain ⟨f1,f2,f3,f4,f5,f6,f7,f8,f9⟩:=Ne.madeN_fine (nodes:=a0) (ends:=a1) k2
  have ck:=Ne.made_check (nodes:=a0) (ends:=a1) k2
  have MD:=Lib.hid fun w' (h:Ne.ARow w' o2 a2)=>Ne.made_s a0 a1 a2 o2 c2 w' (bounds_i64 w0) (bounds_i64 w1) k2 h
  rw [em] at MD f1 f2 f3 f4 f5 f6 f7 f8 f9 ck
  simp only at f1 f2 f3 f4 f5 f6 f7 f8 f9
  clear hmn hms hmt hml em
  have f8':ml.length≤24:=by omega
  clear f8
  have CK:=Lib.hid ck
  have RT:=Lib.hid (Ne.right_of ck)
  have FI:=Lib.hid f9
  have CAP:=Lib.hid (show ∀ a∈ml,Ne.in64 a.cap from fun a ha=>by have:=(f9 a ha).2.2;unfold Ne.in64;omega)
  have hl6:ml.length≤1000000:=by omega
  have F7:=Lib.hid f7
  have RA:=Lib.hid r2
  clear r2 f7 f9 ck
  obtain ⟨N,rfl⟩:∃ N:Nat,mn=(N:Int):=⟨mn.toNat,by omega⟩
  obtain ⟨S,rfl⟩:∃ S:Nat,ms=(S:Int):=⟨ms.toNat,by omega⟩
  obtain ⟨D,rfl⟩:∃ D:Nat,mt=(D:Int):=⟨mt.toNat,by omega⟩
  have A3:=Lib.hid (show Ne.in64 a3 from bounds_i64 w3)
  clear w3
  have SM:=Lib.hid fun ao cap x w' h=>Ne.some_any ⟨(N:Int),(S:Int),(D:Int),ml⟩ ao cap x w' RT.out h
  simp only [Int.toNat_natCast] at SM
  obtain ⟨g,gL,gp,gk,hph,hfg,hlg,hdg,-,-,-⟩:=Ne.max_facts RT.out
  have MX:=Lib.hid fun (ao:Option Addr) (cap:Nat) w' (h1:Ne.ARow w' ao (⟨(N:Int),(S:Int),(D:Int),ml⟩:Ne.Net).l)=>Ne.max_flow (n:=⟨(N:Int),(S:Int),(D:Int),ml⟩) ao cap w' CK.out h1 hph false
  simp only [Ne.engC,Bool.false_eq_true,if_false,if_true] at MX
  obtain ⟨bM,hM⟩:=Ne.reach_exists RT.out g 1
  obtain ⟨bB,hB⟩:=Ne.reach_exists (Ne.right_back RT.out) g 1
  have BE:=Lib.hid (Ne.best_of RT.out hfg hM hB (Ne.reach_top RT.out hfg hlg hdg hM).1)
  have hgl:g.length=ml.length:=hfg.len
  have FG:=Lib.hid hfg
  have HGL:=Lib.hid hgl
  obtain ⟨pm,hpm⟩:∃ pm:Nat→Bool,pm=fun v=>bM.getD v false:=⟨_,rfl⟩
  obtain ⟨pl,hpl⟩:∃ pl:Nat→Bool,pl=fun v=>!(bB.getD v false):=⟨_,rfl⟩
  have PM:=Lib.hid (show ∀ v,pm v=bM.getD v false from fun v=>by rw [hpm])
  have PL:=Lib.hid (show ∀ v,pl v = !(bB.getD v false) from fun v=>by rw [hpl])
  have F1:=Lib.hid fun ao cap fo fc w' (h1:Ne.ARow w' ao ml) h2=>show Calls Tryz.prog 10 #[Ne.encN ⟨(N:Int),(S:Int),(D:Int),ml⟩ ao cap,.slice fo ml.length fc] w' fun e w2=>∃ o c,e=.returned (.tuple #[.slice o (Ne.nodesTo pm N).length c,.int .i64 0])∧Ne.OwnI w2 w'.heap.size (.slice o (Ne.nodesTo pm N).length c) (Ne.nodesTo pm N)∧Below w'.heap.size w' w2 from by
   have:=Ne.first_any ⟨(N:Int),(S:Int),(D:Int),ml⟩ ao cap fo fc g w' h1 h2 hl6 CAP.out bM (fun _=>hM)
   rw [BE.out.firV CK.out,BE.out.firE CK.out,hgl,← hpm] at this
   exact this
  have L1:=Lib.hid fun ao cap fo fc w' (h1:Ne.ARow w' ao ml) h2=>show Calls Tryz.prog 11 #[Ne.encN ⟨(N:Int),(S:Int),(D:Int),ml⟩ ao cap,.slice fo ml.length fc] w' fun e w2=>∃ o c,e=.returned (.tuple #[.slice o (Ne.nodesTo pl N).length c,.int .i64 0])∧Ne.OwnI w2 w'.heap.size (.slice o (Ne.nodesTo pl N).length c) (Ne.nodesTo pl N)∧Below w'.heap.size w' w2 from by
   have:=Ne.last_any ⟨(N:Int),(S:Int),(D:Int),ml⟩ ao cap fo fc g w' h1 h2 hl6 CAP.out bB (fun _=>hB)
   rw [BE.out.lasV CK.out,BE.out.lasE CK.out,hgl,← hpl] at this
   exact this
  have LM:=Lib.hid (Ne.nodes_len pm N)
  have LL:=Lib.hid (Ne.nodes_len pl N)
  have HPE:=Lib.hid (fun (p:Nat→Bool) j (h1:1≤j) (h2:j≤N)=>show Ne.hasL (Ne.nodesTo p N) (j:Int)=p j by rw [Ne.nodes_has (by omega) (by omega),Int.toNat_natCast])
  clear hph hfg hlg hdg hgl
  have hgl:g.length=ml.length:=HGL.out
  obtain ⟨TL,hTL⟩:∃ l,l=ml.map Ne.turnA:=⟨_,rfl⟩
  have HKT:=Lib.hid (show TL.length=ml.length by rw [hTL];simp)
  have HTN:=Lib.hid (show Ne.turnN ⟨(N:Int),(S:Int),(D:Int),ml⟩=⟨(N:Int),(D:Int),(S:Int),TL⟩ by rw [hTL];rfl)
  have CKT:=Lib.hid (show Ne.checkN ⟨(N:Int),(D:Int),(S:Int),TL⟩=0 by
   rw [← HTN.out]
   exact Ne.turn_check ⟨f1,by simp only;omega,f3,f4,f5,f6,F7.out,by simp only;omega⟩ FI.out)
  have RTT:=Lib.hid (Ne.right_of CKT.out)
  have tl6:TL.length≤1000000:=by rw [HKT.out];exact hl6
  have TCAP:=Lib.hid (show ∀ a∈TL,Ne.in64 a.cap from fun a ha=>by
   rw [hTL] at ha
   obtain ⟨b,hb,rfl⟩:=List.mem_map.1 ha
   exact CAP.out b hb)
  obtain ⟨bt1,bt2,bt3,bt4,bt5,bt6⟩:=BE.out.turned CK.out (by rw [HTN.out];exact CKT.out)
  rw [HTN.out] at bt1 bt2 bt3 bt4 bt5 bt6
  have OO:=Lib.hid fun (p:Nat→Bool)=>Ne.others_of p ⟨(N:Int),(S:Int),(D:Int),ml⟩
  simp only [Int.toNat_natCast] at OO bt5 bt6
  have HO1:=Lib.hid (show Ne.nodesTo (fun v=>bB.getD v false) N=(Ne.nodesTo (fun v:Nat=>!(Ne.hasL (Ne.nodesTo pl N) (v:Int))) N) by rw [OO.out pl];exact Ne.nodes_congr fun v _ _=>by rw [PL.out v,Bool.not_not])
  have HO2:=Lib.hid (show Ne.nodesTo (fun v=>!(bM.getD v false)) N=(Ne.nodesTo (fun v:Nat=>!(Ne.hasL (Ne.nodesTo pm N) (v:Int))) N) by rw [OO.out pm];exact Ne.nodes_congr fun v _ _=>by rw [PM.out v])
  have F1T:=Lib.hid fun ao cap fo fc w' (h1:Ne.ARow w' ao TL) h2=>show Calls Tryz.prog 10 #[.agg #[.int .i64 (N:Int),.int .i64 (D:Int),.int .i64 (S:Int),.slice ao ml.length cap],.slice fo ml.length fc] w' fun e w2=>∃ o c,e=.returned (.tuple #[.slice o (Ne.nodesTo (fun v:Nat=>!(Ne.hasL (Ne.nodesTo pl N) (v:Int))) N).length c,.int .i64 0])∧Ne.OwnI w2 w'.heap.size (.slice o (Ne.nodesTo (fun v:Nat=>!(Ne.hasL (Ne.nodesTo pl N) (v:Int))) N).length c) (Ne.nodesTo (fun v:Nat=>!(Ne.hasL (Ne.nodesTo pl N) (v:Int))) N)∧Below w'.heap.size w' w2 from by
   have:=Ne.first_any ⟨(N:Int),(D:Int),(S:Int),TL⟩ ao cap fo fc g w' h1 h2 tl6 TCAP.out bB (fun _=>bt1)
   rw [bt3,bt5,HO1.out,hgl] at this
   simp only [Ne.encN,HKT.out] at this
   exact this
  have L1T:=Lib.hid fun ao cap fo fc w' (h1:Ne.ARow w' ao TL) h2=>show Calls Tryz.prog 11 #[.agg #[.int .i64 (N:Int),.int .i64 (D:Int),.int .i64 (S:Int),.slice ao ml.length cap],.slice fo ml.length fc] w' fun e w2=>∃ o c,e=.returned (.tuple #[.slice o (Ne.nodesTo (fun v:Nat=>!(Ne.hasL (Ne.nodesTo pm N) (v:Int))) N).length c,.int .i64 0])∧Ne.OwnI w2 w'.heap.size (.slice o (Ne.nodesTo (fun v:Nat=>!(Ne.hasL (Ne.nodesTo pm N) (v:Int))) N).length c) (Ne.nodesTo (fun v:Nat=>!(Ne.hasL (Ne.nodesTo pm N) (v:Int))) N)∧Below w'.heap.size w' w2 from by
   have:=Ne.last_any ⟨(N:Int),(D:Int),(S:Int),TL⟩ ao cap fo fc g w' h1 h2 tl6 TCAP.out bM (fun _=>bt2)
   rw [bt4,bt6,HO2.out,hgl] at this
   simp only [Ne.encN,HKT.out] at this
   exact this
  have OT:=Lib.hid fun (ao:Option Addr) (cap:Nat) (lo:Option Addr) (lc:Nat) (p:Nat→Bool) w' h=>show Calls Tryz.prog 19 #[Ne.encN ⟨(N:Int),(S:Int),(D:Int),ml⟩ ao cap,.slice lo (Ne.nodesTo p N).length lc] w' fun e w2=>∃ o c,e=.returned (.slice o (Ne.nodesTo (fun v:Nat=>!(Ne.hasL (Ne.nodesTo p N) (v:Int))) N).length c)∧Ne.OwnI w2 w'.heap.size (.slice o (Ne.nodesTo (fun v:Nat=>!(Ne.hasL (Ne.nodesTo p N) (v:Int))) N).length c) (Ne.nodesTo (fun v:Nat=>!(Ne.hasL (Ne.nodesTo p N) (v:Int))) N)∧Below w'.heap.size w' w2 from by
   have:=Ne.others_any ⟨(N:Int),(S:Int),(D:Int),ml⟩ ao cap lo lc (Ne.nodesTo p N) w' (by simp only;omega) (by simp only;omega) h (by have:=Ne.nodes_len p N;omega)
   simp only [Int.toNat_natCast] at this
   exact this
  have SAME:=Lib.hid fun (q:Nat→Bool) x1 x2 y1 y2 w' (h1:Ne.IRow w' x1 (Ne.nodesTo q N)) (h2:Ne.IRow w' x2 (Ne.nodesTo q N))=>show Calls Tryz.prog 17 #[.slice x1 (Ne.nodesTo q N).length y1,.slice x2 (Ne.nodesTo q N).length y2] w' fun e w2=>e=.returned (.bool true)∧Below w'.heap.size w' w2 from by
   have hv:(Ne.nodesTo q N).length≤1099511627776:=by have:=Ne.nodes_len q N;omega
   have:=Ne.same_any x1 x2 y1 y2 (Ne.nodesTo q N) (Ne.nodesTo q N) w' h1 h2 hv hv
   rwa [show decide (Ne.nodesTo q N=Ne.nodesTo q N)=true by simp] at this
  have NC:=Lib.hid fun p (hs:p S=true) (ht:p D=false)=>Ne.nodes_cut (n:=⟨(N:Int),(S:Int),(D:Int),ml⟩) CK.out (p:=p) hs ht
  have TC:=Lib.hid (show ∀ p:Nat→Bool,p S=true→p D=false→Ne.cutE ⟨(N:Int),(D:Int),(S:Int),TL⟩ (Ne.nodesTo (fun v:Nat=>!(Ne.hasL (Ne.nodesTo p N) (v:Int))) N)=0∧Ne.arcsV ⟨(N:Int),(D:Int),(S:Int),TL⟩ (Ne.nodesTo (fun v:Nat=>!(Ne.hasL (Ne.nodesTo p N) (v:Int))) N)=Ne.arcsV ⟨(N:Int),(S:Int),(D:Int),ml⟩ (Ne.nodesTo p N)∧Ne.capV ⟨(N:Int),(D:Int),(S:Int),TL⟩ (Ne.nodesTo (fun v:Nat=>!(Ne.hasL (Ne.nodesTo p N) (v:Int))) N)=Ne.capV ⟨(N:Int),(S:Int),(D:Int),ml⟩ (Ne.nodesTo p N) from fun p h1 h2=>by
   have:=Ne.turn_cut (n:=⟨(N:Int),(S:Int),(D:Int),ml⟩) CK.out (by rw [HTN.out];exact CKT.out) (p:=p) h1 h2
   rw [HTN.out] at this
   rw [OO.out p]
   exact this)
  simp only [Int.toNat_natCast] at NC
  have CP:=Lib.hid fun ao cap so sc Q w' (h1:Ne.ARow w' ao ml) h2=>Ne.capacity_any ⟨(N:Int),(S:Int),(D:Int),ml⟩ ao cap so sc Q w' h1 h2 hl6 CAP.out
  have AC:=Lib.hid fun ao cap so sc Q w' (h1:Ne.ARow w' ao ml) h2=>Ne.arcs_any ⟨(N:Int),(S:Int),(D:Int),ml⟩ ao cap so sc Q w' h1 h2 hl6 CAP.out
  have CPT:=Lib.hid fun ao cap so sc Q w' (h1:Ne.ARow w' ao TL) h2=>Ne.capacity_any ⟨(N:Int),(D:Int),(S:Int),TL⟩ ao cap so sc Q w' h1 h2 tl6 TCAP.out
  have ACT:=Lib.hid fun ao cap so sc Q w' (h1:Ne.ARow w' ao TL) h2=>Ne.arcs_any ⟨(N:Int),(D:Int),(S:Int),TL⟩ ao cap so sc Q w' h1 h2 tl6 TCAP.out
  simp only [Ne.encN,HKT.out] at CPT ACT
  clear hTL hpm hpl hM hB hgl bt1 bt2 bt3 bt4 bt5 bt6 OO HO1 HO2
  go_enter Tryz.func4,Tryz.ntmps4
  go_wp2_with fail
  refine HSH.out.mono ?_
  rintro e w1 ⟨rfl,hb⟩
  have HB1:=Lib.hid hb
  clear hb
  go_wp2_with fail
  refine (MD.out _ (RA.out.kept HB1.out)).mono ?_
  rintro e w2 ⟨om,cm,rfl,ho,hb⟩
  have HB2:=Lib.hid (HB1.out.trans (hb.mono HB1.out.size))
  have HV2:=Lib.hid (Rw.own_lt ho)
  have HO3:=Lib.hid (Rw.own_base (Rw.own_alloc ho (.cells #[.int .i64 (N:Int),.int .i64 (S:Int),.int .i64 (D:Int),.slice om ml.length cm] 27)) (B':=w.heap.size) HB1.out.size)
  have HN3:=Lib.hid (Ne.netBox_new w2 (N:Int) (S:Int) (D:Int) (.slice om ml.length cm))
  have hz2:w.heap.size≤w2.heap.size:=HB2.out.size
  have HB3:=Lib.hid (HB2.out.alloc hz2 (.cells #[.int .i64 (N:Int),.int .i64 (S:Int),.int .i64 (D:Int),.slice om ml.length cm] 27))
  clear ho hb MD RA HSH
  go_wp2_with fail
  obtain ⟨bn,hbn⟩:∃ b,b=w2.heap.size:=⟨_,rfl⟩
  have hbn3:bn<(w2.alloc (.cells #[.int .i64 (N:Int),.int .i64 (S:Int),.int .i64 (D:Int),.slice om ml.length cm] 27)).heap.size:=by rw [hbn];simp
  rw [← hbn] at HN3 HV2 hz2 ⊢
  clear hbn HB2 HB1
  generalize (w2.alloc (.cells #[.int .i64 (N:Int),.int .i64 (S:Int),.int .i64 (D:Int),.slice om ml.length cm] 27))=W3 at *
  have HR3:=Lib.hid (Ne.arow_ofA HO3.out)
  obtain ⟨_,_,ev3,_,_,hnn,_⟩:=Rw.own_row Ne.encA_len HO3.out
  have HNN:=Lib.hid (show om=none→cm=0 by
   simp only [Value.slice.injEq] at ev3
   obtain ⟨e1,_,e2⟩:=ev3
   rw [e1,e2];exact hnn)
  have TU:=Lib.hid fun w' h=>Ne.turn_any ⟨(N:Int),(S:Int),(D:Int),ml⟩ om cm w' HNN.out h hl6
  rw [HTN.out] at TU
  simp only [Ne.encN,HKT.out] at TU
  clear ev3 hnn
  obtain ⟨n0,n1,n2,n3⟩:=Ne.netBox_cells HN3.out
  refine (TU.out _ HR3.out).mono ?_
  rintro e v4 ⟨ot,ct,rfl,ho,hb⟩
  have hal:=(Below.refl v4.heap.size v4).alloc (Nat.le_refl _) (.cells #[.int .i64 (N:Int),.int .i64 (D:Int),.int .i64 (S:Int),.slice ot ml.length ct] 27)
  have HT4:=Lib.hid (Ne.netBox_new v4 (N:Int) (D:Int) (S:Int) (.slice ot ml.length ct))
  have HRT4:=Lib.hid ((Ne.arow_ofA ho).kept hal)
  replace hb:=hb.trans (hal.mono hb.size)
  have HB4:=Lib.hid (HB3.out.trans (hb.mono HB3.out.size))
  have HN4:=Lib.hid (Ne.netBox_below HN3.out hb (Ne.netBox_lt HN3.out))
  have HR4:=Lib.hid (HR3.out.kept hb)
  clear hb ho hal n0 n1 n2 n3
  obtain ⟨n0,n1,n2,n3⟩:=Ne.netBox_cells HN4.out
  obtain ⟨bt,hbt⟩:∃ b,b=v4.heap.size:=⟨_,rfl⟩
  rw [← hbt] at HT4
  have HBT:=Lib.hid hbt
  obtain ⟨m0,m1,m2,m3⟩:=Ne.netBox_cells HT4.out
  go_wp2_with fail
  rw [← hbt]
  clear hbt
  generalize (v4.alloc (.cells #[.int .i64 (N:Int),.int .i64 (D:Int),.int .i64 (S:Int),.slice ot ml.length ct] 27))=W4 at *
  refine (MX.out om cm _ HR4.out).mono ?_
  rintro e v5 ⟨og,cg,sg,rfl,hi,ha1,ha2,ha3,hb⟩
  clear ha1 ha2 ha3
  have hal:=(Below.refl v5.heap.size v5).alloc (Nat.le_refl _) (.cells #[.slice og ml.length cg,.int .i64 (gp:Int),.int .i64 (gk:Int),.int .i64 sg] 31)
  have HX5:=Lib.hid (Ne.runBox_at v5 rfl (.slice og ml.length cg) (gp:Int) (gk:Int) sg)
  have HG5:=Lib.hid (hi.kept hal)
  replace hb:=hb.trans (hal.mono hb.size)
  have HB5:=Lib.hid (HB4.out.trans (hb.mono HB4.out.size))
  have HN5:=Lib.hid (Ne.netBox_below HN4.out hb (Ne.netBox_lt HN4.out))
  have HR5:=Lib.hid (HR4.out.kept hb)
  have HT5:=Lib.hid (Ne.netBox_below HT4.out hb (Ne.netBox_lt HT4.out))
  have HRT5:=Lib.hid (HRT4.out.kept hb)
  clear hb hi hal n0 n1 n2 n3 m0 m1 m2 m3
  obtain ⟨n0,n1,n2,n3⟩:=Ne.netBox_cells HN5.out
  obtain ⟨x0,x1,x2,x3⟩:=Ne.runBox_cells HX5.out
  obtain ⟨m0,m1,m2,m3⟩:=Ne.netBox_cells HT5.out
  go_wp2_with fail
  refine (F1.out om cm _ _ _ HR5.out HG5.out).mono ?_
  rintro e v6 ⟨oA,cA,rfl,ho,hb⟩
  have HB6:=Lib.hid (HB5.out.trans (hb.mono HB5.out.size))
  have HN6:=Lib.hid (Ne.netBox_below HN5.out hb (Ne.netBox_lt HN5.out))
  have HR6:=Lib.hid (HR5.out.kept hb)
  have HG6:=Lib.hid (HG5.out.kept hb)
  have HT6:=Lib.hid (Ne.netBox_below HT5.out hb (Ne.netBox_lt HT5.out))
  have HRT6:=Lib.hid (HRT5.out.kept hb)
  have HX6:=Lib.hid (Ne.runBox_below HX5.out hb (Ne.runBox_lt HX5.out))
  have HA6:=Lib.hid (Ne.own_irow ho)
  clear ho
  clear hb n0 n1 n2 n3 m0 m1 m2 m3 x0 x1 x2 x3
  obtain ⟨n0,n1,n2,n3⟩:=Ne.netBox_cells HN6.out
  obtain ⟨m0,m1,m2,m3⟩:=Ne.netBox_cells HT6.out
  obtain ⟨x0,x1,x2,x3⟩:=Ne.runBox_cells HX6.out
  go_wp2_with fail
  refine (L1.out om cm _ _ _ HR6.out HG6.out).mono ?_
  rintro e v7 ⟨oK,cK,rfl,ho,hb⟩
  have HB7:=Lib.hid (HB6.out.trans (hb.mono HB6.out.size))
  have HN7:=Lib.hid (Ne.netBox_below HN6.out hb (Ne.netBox_lt HN6.out))
  have HR7:=Lib.hid (HR6.out.kept hb)
  have HG7:=Lib.hid (HG6.out.kept hb)
  have HA7:=Lib.hid (HA6.out.kept hb)
  have HT7:=Lib.hid (Ne.netBox_below HT6.out hb (Ne.netBox_lt HT6.out))
  have HRT7:=Lib.hid (HRT6.out.kept hb)
  have HX7:=Lib.hid (Ne.runBox_below HX6.out hb (Ne.runBox_lt HX6.out))
  have HK7:=Lib.hid (Ne.own_irow ho)
  clear ho
  clear hb n0 n1 n2 n3 m0 m1 m2 m3 x0 x1 x2 x3
  obtain ⟨n0,n1,n2,n3⟩:=Ne.netBox_cells HN7.out
  obtain ⟨m0,m1,m2,m3⟩:=Ne.netBox_cells HT7.out
  obtain ⟨x0,x1,x2,x3⟩:=Ne.runBox_cells HX7.out
  go_wp2_with fail
  refine (F1T.out ot ct _ _ _ HRT7.out HG7.out).mono ?_
  rintro e v8 ⟨oC,cC,rfl,ho,hb⟩
  have HB8:=Lib.hid (HB7.out.trans (hb.mono HB7.out.size))
  have HN8:=Lib.hid (Ne.netBox_below HN7.out hb (Ne.netBox_lt HN7.out))
  have HR8:=Lib.hid (HR7.out.kept hb)
  have HG8:=Lib.hid (HG7.out.kept hb)
  have HA8:=Lib.hid (HA7.out.kept hb)
  have HK8:=Lib.hid (HK7.out.kept hb)
  have HT8:=Lib.hid (Ne.netBox_below HT7.out hb (Ne.netBox_lt HT7.out))
  have HRT8:=Lib.hid (HRT7.out.kept hb)
  have HX8:=Lib.hid (Ne.runBox_below HX7.out hb (Ne.runBox_lt HX7.out))
  have HC8:=Lib.hid (Ne.own_irow ho)
  clear ho
  clear hb n0 n1 n2 n3 m0 m1 m2 m3 x0 x1 x2 x3
  obtain ⟨n0,n1,n2,n3⟩:=Ne.netBox_cells HN8.out
  obtain ⟨m0,m1,m2,m3⟩:=Ne.netBox_cells HT8.out
  obtain ⟨x0,x1,x2,x3⟩:=Ne.runBox_cells HX8.out
  go_wp2_with fail
  refine (L1T.out ot ct _ _ _ HRT8.out HG8.out).mono ?_
  rintro e v9 ⟨oE,cE,rfl,ho,hb⟩
  have HB9:=Lib.hid (HB8.out.trans (hb.mono HB8.out.size))
  have HN9:=Lib.hid (Ne.netBox_below HN8.out hb (Ne.netBox_lt HN8.out))
  have HR9:=Lib.hid (HR8.out.kept hb)
  have HG9:=Lib.hid (HG8.out.kept hb)
  have HA9:=Lib.hid (HA8.out.kept hb)
  have HK9:=Lib.hid (HK8.out.kept hb)
  have HC9:=Lib.hid (HC8.out.kept hb)
  have HT9:=Lib.hid (Ne.netBox_below HT8.out hb (Ne.netBox_lt HT8.out))
  have HRT9:=Lib.hid (HRT8.out.kept hb)
  have HX9:=Lib.hid (Ne.runBox_below HX8.out hb (Ne.runBox_lt HX8.out))
  have HE9:=Lib.hid (Ne.own_irow ho)
  clear ho
  clear hb n0 n1 n2 n3 m0 m1 m2 m3 x0 x1 x2 x3
  obtain ⟨n0,n1,n2,n3⟩:=Ne.netBox_cells HN9.out
  obtain ⟨m0,m1,m2,m3⟩:=Ne.netBox_cells HT9.out
  obtain ⟨x0,x1,x2,x3⟩:=Ne.runBox_cells HX9.out
  go_wp2_with fail
  refine (OT.out om cm _ _ pl _ HK9.out).mono ?_
  rintro e v10 ⟨oP,cP,rfl,ho,hb⟩
  have HB10:=Lib.hid (HB9.out.trans (hb.mono HB9.out.size))
  have HN10:=Lib.hid (Ne.netBox_below HN9.out hb (Ne.netBox_lt HN9.out))
  have HR10:=Lib.hid (HR9.out.kept hb)
  have HA10:=Lib.hid (HA9.out.kept hb)
  have HC10:=Lib.hid (HC9.out.kept hb)
  have HE10:=Lib.hid (HE9.out.kept hb)
  have HT10:=Lib.hid (Ne.netBox_below HT9.out hb (Ne.netBox_lt HT9.out))
  have HRT10:=Lib.hid (HRT9.out.kept hb)
  have HX10:=Lib.hid (Ne.runBox_below HX9.out hb (Ne.runBox_lt HX9.out))
  have HP10:=Lib.hid (Ne.own_irow ho)
  clear ho
  clear hb n0 n1 n2 n3 m0 m1 m2 m3 x0 x1 x2 x3
  obtain ⟨n0,n1,n2,n3⟩:=Ne.netBox_cells HN10.out
  obtain ⟨m0,m1,m2,m3⟩:=Ne.netBox_cells HT10.out
  obtain ⟨x0,x1,x2,x3⟩:=Ne.runBox_cells HX10.out
  go_wp2_with fail
  refine (SAME.out _ _ _ _ _ _ HC10.out HP10.out).mono ?_
  rintro e v11 ⟨rfl,hb⟩
  have HB11:=Lib.hid (HB10.out.trans (hb.mono HB10.out.size))
  have HN11:=Lib.hid (Ne.netBox_below HN10.out hb (Ne.netBox_lt HN10.out))
  have HR11:=Lib.hid (HR10.out.kept hb)
  have HA11:=Lib.hid (HA10.out.kept hb)
  have HE11:=Lib.hid (HE10.out.kept hb)
  have HT11:=Lib.hid (Ne.netBox_below HT10.out hb (Ne.netBox_lt HT10.out))
  have HRT11:=Lib.hid (HRT10.out.kept hb)
  have HX11:=Lib.hid (Ne.runBox_below HX10.out hb (Ne.runBox_lt HX10.out))
  clear hb n0 n1 n2 n3 m0 m1 m2 m3 x0 x1 x2 x3
  obtain ⟨n0,n1,n2,n3⟩:=Ne.netBox_cells HN11.out
  obtain ⟨m0,m1,m2,m3⟩:=Ne.netBox_cells HT11.out
  obtain ⟨x0,x1,x2,x3⟩:=Ne.runBox_cells HX11.out
  go_wp2_with fail
  refine (OT.out om cm _ _ pm _ HA11.out).mono ?_
  rintro e v12 ⟨oQ,cQ,rfl,ho,hb⟩
  have HB12:=Lib.hid (HB11.out.trans (hb.mono HB11.out.size))
  have HN12:=Lib.hid (Ne.netBox_below HN11.out hb (Ne.netBox_lt HN11.out))
  have HR12:=Lib.hid (HR11.out.kept hb)
  have HE12:=Lib.hid (HE11.out.kept hb)
  have HT12:=Lib.hid (Ne.netBox_below HT11.out hb (Ne.netBox_lt HT11.out))
  have HRT12:=Lib.hid (HRT11.out.kept hb)
  have HX12:=Lib.hid (Ne.runBox_below HX11.out hb (Ne.runBox_lt HX11.out))
  have HQ12:=Lib.hid (Ne.own_irow ho)
  clear ho
  clear hb n0 n1 n2 n3 m0 m1 m2 m3 x0 x1 x2 x3
  obtain ⟨n0,n1,n2,n3⟩:=Ne.netBox_cells HN12.out
  obtain ⟨m0,m1,m2,m3⟩:=Ne.netBox_cells HT12.out
  obtain ⟨x0,x1,x2,x3⟩:=Ne.runBox_cells HX12.out
  go_wp2_with fail
  refine (SAME.out _ _ _ _ _ _ HE12.out HQ12.out).mono ?_
  rintro e v13 ⟨rfl,hb⟩
  have HB13:=Lib.hid (HB12.out.trans (hb.mono HB12.out.size))
  have HN13:=Lib.hid (Ne.netBox_below HN12.out hb (Ne.netBox_lt HN12.out))
  have HR13:=Lib.hid (HR12.out.kept hb)
  have HT13:=Lib.hid (Ne.netBox_below HT12.out hb (Ne.netBox_lt HT12.out))
  have HRT13:=Lib.hid (HRT12.out.kept hb)
  have HX13:=Lib.hid (Ne.runBox_below HX12.out hb (Ne.runBox_lt HX12.out))
  clear hb n0 n1 n2 n3 m0 m1 m2 m3 x0 x1 x2 x3
  obtain ⟨n0,n1,n2,n3⟩:=Ne.netBox_cells HN13.out
  obtain ⟨m0,m1,m2,m3⟩:=Ne.netBox_cells HT13.out
  obtain ⟨x0,x1,x2,x3⟩:=Ne.runBox_cells HX13.out
  go_wp2_with fail
  refine (SM.out om cm a3 _ A3.out).mono ?_
  rintro e v14 ⟨so,sc,p,rfl,hps,hpt,ho,hb⟩
  have HB14:=Lib.hid (HB13.out.trans (hb.mono HB13.out.size))
  have HN14:=Lib.hid (Ne.netBox_below HN13.out hb (Ne.netBox_lt HN13.out))
  have HR14:=Lib.hid (HR13.out.kept hb)
  have HT14:=Lib.hid (Ne.netBox_below HT13.out hb (Ne.netBox_lt HT13.out))
  have HRT14:=Lib.hid (HRT13.out.kept hb)
  have HX14:=Lib.hid (Ne.runBox_below HX13.out hb (Ne.runBox_lt HX13.out))
  have HS14:=Lib.hid (Ne.own_irow ho)
  have Pp:=Lib.hid (And.intro hps hpt)
  clear ho hps hpt
  clear hb n0 n1 n2 n3 m0 m1 m2 m3 x0 x1 x2 x3
  obtain ⟨n0,n1,n2,n3⟩:=Ne.netBox_cells HN14.out
  obtain ⟨m0,m1,m2,m3⟩:=Ne.netBox_cells HT14.out
  obtain ⟨x0,x1,x2,x3⟩:=Ne.runBox_cells HX14.out
  have E0:=Lib.hid (NC.out p Pp.out.1 Pp.out.2)
  obtain ⟨tc1,tc2,tc3⟩:=TC.out p Pp.out.1 Pp.out.2
  have CPp:=Lib.hid (fun w' h1 h2=>CP.out om cm so sc (Ne.nodesTo p N) w' h1 h2)
  have ACp:=Lib.hid (fun w' h1 h2=>AC.out om cm so sc (Ne.nodesTo p N) w' h1 h2)
  rw [E0.out] at CPp ACp
  have CPq:=Lib.hid (fun x y w' h1 h2=>CPT.out ot ct x y (Ne.nodesTo (fun v:Nat=>!(Ne.hasL (Ne.nodesTo p N) (v:Int))) N) w' h1 h2)
  have ACq:=Lib.hid (fun x y w' h1 h2=>ACT.out ot ct x y (Ne.nodesTo (fun v:Nat=>!(Ne.hasL (Ne.nodesTo p N) (v:Int))) N) w' h1 h2)
  rw [tc1,tc3] at CPq
  rw [tc1,tc2] at ACq
  have hVl:(Ne.arcsV ⟨(N:Int),(S:Int),(D:Int),ml⟩ (Ne.nodesTo p N)).length≤1099511627776:=by have:=Ne.arcsV_len ⟨(N:Int),(S:Int),(D:Int),ml⟩ (Ne.nodesTo p N);simp only at this;omega
  have SMV:=Lib.hid fun x1 x2 y1 y2 w' (h1:Ne.IRow w' x1 (Ne.arcsV ⟨(N:Int),(S:Int),(D:Int),ml⟩ (Ne.nodesTo p N))) (h2:Ne.IRow w' x2 (Ne.arcsV ⟨(N:Int),(S:Int),(D:Int),ml⟩ (Ne.nodesTo p N)))=>show Calls Tryz.prog 17 #[.slice x1 (Ne.arcsV ⟨(N:Int),(S:Int),(D:Int),ml⟩ (Ne.nodesTo p N)).length y1,.slice x2 (Ne.arcsV ⟨(N:Int),(S:Int),(D:Int),ml⟩ (Ne.nodesTo p N)).length y2] w' fun e w2=>e=.returned (.bool true)∧Below w'.heap.size w' w2 from by
   have:=Ne.same_any x1 x2 y1 y2 (Ne.arcsV ⟨(N:Int),(S:Int),(D:Int),ml⟩ (Ne.nodesTo p N)) (Ne.arcsV ⟨(N:Int),(S:Int),(D:Int),ml⟩ (Ne.nodesTo p N)) w' h1 h2 hVl hVl
   rwa [show decide (Ne.arcsV ⟨(N:Int),(S:Int),(D:Int),ml⟩ (Ne.nodesTo p N)=Ne.arcsV ⟨(N:Int),(S:Int),(D:Int),ml⟩ (Ne.nodesTo p N))=true by simp] at this
  have OTp:=Lib.hid (fun w' h=>OT.out om cm so sc p w' h)
  generalize Ne.capV ⟨(N:Int),(S:Int),(D:Int),ml⟩ (Ne.nodesTo p N)=cv at *
  generalize Ne.arcsV ⟨(N:Int),(S:Int),(D:Int),ml⟩ (Ne.nodesTo p N)=V at *
  generalize hOP:(Ne.nodesTo (fun v:Nat=>!(Ne.hasL (Ne.nodesTo p N) (v:Int))) N)=O at *
  clear tc1 tc2 tc3 hVl hOP TC CP AC CPT ACT SAME OT F1 L1 F1T L1T MX TU NC SM
  go_wp2_with fail
  refine (CPp.out _ HR14.out HS14.out).mono ?_
  rintro e v15 ⟨rfl,hb⟩
  have HB15:=Lib.hid (HB14.out.trans (hb.mono HB14.out.size))
  have HN15:=Lib.hid (Ne.netBox_below HN14.out hb (Ne.netBox_lt HN14.out))
  have HR15:=Lib.hid (HR14.out.kept hb)
  have HS15:=Lib.hid (HS14.out.kept hb)
  have HT15:=Lib.hid (Ne.netBox_below HT14.out hb (Ne.netBox_lt HT14.out))
  have HRT15:=Lib.hid (HRT14.out.kept hb)
  have HX15:=Lib.hid (Ne.runBox_below HX14.out hb (Ne.runBox_lt HX14.out))
  clear hb n0 n1 n2 n3 m0 m1 m2 m3 x0 x1 x2 x3
  obtain ⟨n0,n1,n2,n3⟩:=Ne.netBox_cells HN15.out
  obtain ⟨m0,m1,m2,m3⟩:=Ne.netBox_cells HT15.out
  obtain ⟨x0,x1,x2,x3⟩:=Ne.runBox_cells HX15.out
  have hS0:=(show (fun w':World=>(w'.cell? ⟨bn,0,none⟩=some (.int .i64 (N:Int))∧w'.cell? ⟨bn,1,none⟩=some (.int .i64 (S:Int))∧w'.cell? ⟨bn,2,none⟩=some (.int .i64 (D:Int))∧w'.cell? ⟨bn,3,none⟩=some (.slice om ml.length cm))∧w'.cell? ⟨bt,0,none⟩=some (.int .i64 (N:Int))∧w'.cell? ⟨bt,1,none⟩=some (.int .i64 (D:Int))∧w'.cell? ⟨bt,2,none⟩=some (.int .i64 (S:Int))∧w'.cell? ⟨bt,3,none⟩=some (.slice ot ml.length ct)) v15.drew from ⟨⟨n0,n1,n2,n3⟩,m0,m1,m2,m3⟩)
  have HBD:=Lib.hid (Ne.below_drew (Below.refl v15.heap.size v15))
  clear n0 n1 n2 n3 m0 m1 m2 m3 x0 x1 x2 x3
  go_wp2
  refine Rh.start (S:=(fun w':World=>(w'.cell? ⟨bn,0,none⟩=some (.int .i64 (N:Int))∧w'.cell? ⟨bn,1,none⟩=some (.int .i64 (S:Int))∧w'.cell? ⟨bn,2,none⟩=some (.int .i64 (D:Int))∧w'.cell? ⟨bn,3,none⟩=some (.slice om ml.length cm))∧w'.cell? ⟨bt,0,none⟩=some (.int .i64 (N:Int))∧w'.cell? ⟨bt,1,none⟩=some (.int .i64 (D:Int))∧w'.cell? ⟨bt,2,none⟩=some (.int .i64 (S:Int))∧w'.cell? ⟨bt,3,none⟩=some (.slice ot ml.length ct))) (by kernel_rfl) ?_
  refine Rh.tp 113 0 hS0 ?_
  refine Rh.tp 114 1 hS0 ?_
  refine Rh.tp 115 2 hS0 ?_
  refine Rh.step (i:=3) (by kernel_rfl) rfl fun K' hK'=>?_
  have HK:=Lib.hid hK'
  clear hK'
  go_simp
  refine (OTp.out _ (HS15.out.kept HBD.out)).mono ?_
  rintro e v16 ⟨oq,cq,rfl,ho,hb⟩
  have HQ16:=Lib.hid (HBD.out.trans (hb.mono HBD.out.size))
  have HO16:=Lib.hid (Ne.own_irow ho)
  have hS1:=(show (fun w':World=>(w'.cell? ⟨bn,0,none⟩=some (.int .i64 (N:Int))∧w'.cell? ⟨bn,1,none⟩=some (.int .i64 (S:Int))∧w'.cell? ⟨bn,2,none⟩=some (.int .i64 (D:Int))∧w'.cell? ⟨bn,3,none⟩=some (.slice om ml.length cm))∧w'.cell? ⟨bt,0,none⟩=some (.int .i64 (N:Int))∧w'.cell? ⟨bt,1,none⟩=some (.int .i64 (D:Int))∧w'.cell? ⟨bt,2,none⟩=some (.int .i64 (S:Int))∧w'.cell? ⟨bt,3,none⟩=some (.slice ot ml.length ct)) v16 from ⟨Ne.netBox_cells (Ne.netBox_below HN15.out HQ16.out (Ne.netBox_lt HN15.out)),Ne.netBox_cells (Ne.netBox_below HT15.out HQ16.out (Ne.netBox_lt HT15.out))⟩)
  clear hb ho
  refine HK.out _ _ ⟨hS1,?_⟩
  clear HK K'
  try simp only [Act.put,Rh.q1,Rh.q2,Rh.q3]
  refine Rh.step (i:=4) (by kernel_rfl) rfl fun K' hK'=>?_
  have HK:=Lib.hid hK'
  clear hK'
  go_simp
  refine (CPq.out _ _ _ (HRT15.out.kept HQ16.out) HO16.out).mono ?_
  rintro e v17 ⟨rfl,hb⟩
  have HQ17:=Lib.hid (HQ16.out.trans (hb.mono HQ16.out.size))
  have hS2:=(show (fun w':World=>(w'.cell? ⟨bn,0,none⟩=some (.int .i64 (N:Int))∧w'.cell? ⟨bn,1,none⟩=some (.int .i64 (S:Int))∧w'.cell? ⟨bn,2,none⟩=some (.int .i64 (D:Int))∧w'.cell? ⟨bn,3,none⟩=some (.slice om ml.length cm))∧w'.cell? ⟨bt,0,none⟩=some (.int .i64 (N:Int))∧w'.cell? ⟨bt,1,none⟩=some (.int .i64 (D:Int))∧w'.cell? ⟨bt,2,none⟩=some (.int .i64 (S:Int))∧w'.cell? ⟨bt,3,none⟩=some (.slice ot ml.length ct)) v17 from ⟨Ne.netBox_cells (Ne.netBox_below HN15.out HQ17.out (Ne.netBox_lt HN15.out)),Ne.netBox_cells (Ne.netBox_below HT15.out HQ17.out (Ne.netBox_lt HT15.out))⟩)
  clear hb
  refine HK.out _ _ ⟨hS2,?_⟩
  clear HK K'
  try simp only [Act.put,Rh.q1,Rh.q2,Rh.q3]
  refine Rh.tp 112 5 hS2 ?_
  refine Rh.tp 118 6 hS2 ?_
  refine Rh.tp 119 7 hS2 ?_
  refine Rh.tp 25 8 hS2 ?_
  refine Rh.tp 26 9 hS2 ?_
  refine Rh.done (by kernel_rfl) ?_ _
  have HB17:=Lib.hid (HB15.out.trans (HQ17.out.mono HB15.out.size))
  have HN17:=Lib.hid (Ne.netBox_below HN15.out HQ17.out (Ne.netBox_lt HN15.out))
  have HR17:=Lib.hid (HR15.out.kept HQ17.out)
  have HT17:=Lib.hid (Ne.netBox_below HT15.out HQ17.out (Ne.netBox_lt HT15.out))
  have HRT17:=Lib.hid (HRT15.out.kept HQ17.out)
  have HS17:=Lib.hid (HS15.out.kept HQ17.out)
  clear hS0 hS1 hS2 HBD HQ16 HQ17
  obtain ⟨n0,n1,n2,n3⟩:=Ne.netBox_cells HN17.out
  obtain ⟨m0,m1,m2,m3⟩:=Ne.netBox_cells HT17.out
  go_wp2_with fail
  refine (ACp.out _ HR17.out HS17.out).mono ?_
  rintro e v18 ⟨ov,cv',rfl,ho,hb⟩
  have HB18:=Lib.hid (HB17.out.trans (hb.mono HB17.out.size))
  have HN18:=Lib.hid (Ne.netBox_below HN17.out hb (Ne.netBox_lt HN17.out))
  have HR18:=Lib.hid (HR17.out.kept hb)
  have HS18:=Lib.hid (HS17.out.kept hb)
  have HT18:=Lib.hid (Ne.netBox_below HT17.out hb (Ne.netBox_lt HT17.out))
  have HRT18:=Lib.hid (HRT17.out.kept hb)
  have HV18:=Lib.hid (Ne.own_irow ho)
  clear ho
  clear hb n0 n1 n2 n3 m0 m1 m2 m3
  obtain ⟨n0,n1,n2,n3⟩:=Ne.netBox_cells HN18.out
  obtain ⟨m0,m1,m2,m3⟩:=Ne.netBox_cells HT18.out
  have hS0:=(show (fun w':World=>(w'.cell? ⟨bn,0,none⟩=some (.int .i64 (N:Int))∧w'.cell? ⟨bn,1,none⟩=some (.int .i64 (S:Int))∧w'.cell? ⟨bn,2,none⟩=some (.int .i64 (D:Int))∧w'.cell? ⟨bn,3,none⟩=some (.slice om ml.length cm))∧w'.cell? ⟨bt,0,none⟩=some (.int .i64 (N:Int))∧w'.cell? ⟨bt,1,none⟩=some (.int .i64 (D:Int))∧w'.cell? ⟨bt,2,none⟩=some (.int .i64 (S:Int))∧w'.cell? ⟨bt,3,none⟩=some (.slice ot ml.length ct)) v18.drew from ⟨⟨n0,n1,n2,n3⟩,m0,m1,m2,m3⟩)
  have HBD:=Lib.hid (Ne.below_drew (Below.refl v18.heap.size v18))
  clear n0 n1 n2 n3 m0 m1 m2 m3
  go_wp2
  refine Rh.start (S:=(fun w':World=>(w'.cell? ⟨bn,0,none⟩=some (.int .i64 (N:Int))∧w'.cell? ⟨bn,1,none⟩=some (.int .i64 (S:Int))∧w'.cell? ⟨bn,2,none⟩=some (.int .i64 (D:Int))∧w'.cell? ⟨bn,3,none⟩=some (.slice om ml.length cm))∧w'.cell? ⟨bt,0,none⟩=some (.int .i64 (N:Int))∧w'.cell? ⟨bt,1,none⟩=some (.int .i64 (D:Int))∧w'.cell? ⟨bt,2,none⟩=some (.int .i64 (S:Int))∧w'.cell? ⟨bt,3,none⟩=some (.slice ot ml.length ct))) (by kernel_rfl) ?_
  refine Rh.tp 127 0 hS0 ?_
  refine Rh.tp 128 1 hS0 ?_
  refine Rh.tp 129 2 hS0 ?_
  refine Rh.step (i:=3) (by kernel_rfl) rfl fun K' hK'=>?_
  have HK:=Lib.hid hK'
  clear hK'
  go_simp
  refine (OTp.out _ (HS18.out.kept HBD.out)).mono ?_
  rintro e v19 ⟨oq,cq,rfl,ho,hb⟩
  have HQ19:=Lib.hid (HBD.out.trans (hb.mono HBD.out.size))
  have HO19:=Lib.hid (Ne.own_irow ho)
  have hS1:=(show (fun w':World=>(w'.cell? ⟨bn,0,none⟩=some (.int .i64 (N:Int))∧w'.cell? ⟨bn,1,none⟩=some (.int .i64 (S:Int))∧w'.cell? ⟨bn,2,none⟩=some (.int .i64 (D:Int))∧w'.cell? ⟨bn,3,none⟩=some (.slice om ml.length cm))∧w'.cell? ⟨bt,0,none⟩=some (.int .i64 (N:Int))∧w'.cell? ⟨bt,1,none⟩=some (.int .i64 (D:Int))∧w'.cell? ⟨bt,2,none⟩=some (.int .i64 (S:Int))∧w'.cell? ⟨bt,3,none⟩=some (.slice ot ml.length ct)) v19 from ⟨Ne.netBox_cells (Ne.netBox_below HN18.out HQ19.out (Ne.netBox_lt HN18.out)),Ne.netBox_cells (Ne.netBox_below HT18.out HQ19.out (Ne.netBox_lt HT18.out))⟩)
  clear hb ho
  refine HK.out _ _ ⟨hS1,?_⟩
  clear HK K'
  try simp only [Act.put,Rh.q1,Rh.q2,Rh.q3]
  refine Rh.step (i:=4) (by kernel_rfl) rfl fun K' hK'=>?_
  have HK:=Lib.hid hK'
  clear hK'
  go_simp
  refine (ACq.out _ _ _ (HRT18.out.kept HQ19.out) HO19.out).mono ?_
  rintro e v20 ⟨ou,cu,rfl,ho,hb⟩
  have HQ20:=Lib.hid (HQ19.out.trans (hb.mono HQ19.out.size))
  have HU20:=Lib.hid (Ne.own_irow ho)
  have hS2:=(show (fun w':World=>(w'.cell? ⟨bn,0,none⟩=some (.int .i64 (N:Int))∧w'.cell? ⟨bn,1,none⟩=some (.int .i64 (S:Int))∧w'.cell? ⟨bn,2,none⟩=some (.int .i64 (D:Int))∧w'.cell? ⟨bn,3,none⟩=some (.slice om ml.length cm))∧w'.cell? ⟨bt,0,none⟩=some (.int .i64 (N:Int))∧w'.cell? ⟨bt,1,none⟩=some (.int .i64 (D:Int))∧w'.cell? ⟨bt,2,none⟩=some (.int .i64 (S:Int))∧w'.cell? ⟨bt,3,none⟩=some (.slice ot ml.length ct)) v20 from ⟨Ne.netBox_cells (Ne.netBox_below HN18.out HQ20.out (Ne.netBox_lt HN18.out)),Ne.netBox_cells (Ne.netBox_below HT18.out HQ20.out (Ne.netBox_lt HT18.out))⟩)
  clear hb ho
  refine HK.out _ _ ⟨hS2,?_⟩
  clear HK K'
  try simp only [Act.put,Rh.q1,Rh.q2,Rh.q3]
  refine Rh.tp 126 5 hS2 ?_
  refine Rh.tp 132 6 hS2 ?_
  refine Rh.tp 133 7 hS2 ?_
  refine Rh.tp 29 8 hS2 ?_
  refine Rh.tp 30 9 hS2 ?_
  refine Rh.done (by kernel_rfl) ?_ _
  have HB20:=Lib.hid (HB18.out.trans (HQ20.out.mono HB18.out.size))
  have HV20:=Lib.hid (HV18.out.kept HQ20.out)
  clear hS0 hS1 hS2 HBD
  go_wp2_with fail
  refine (SMV.out _ _ _ _ _ HV20.out HU20.out).mono ?_
  rintro e v21 ⟨rfl,hb⟩
  have HB21:=Lib.hid (HB20.out.trans (hb.mono HB20.out.size))
  clear hb
  go_wp2
  go_ret
  exact ⟨rfl,HB21.out⟩

end Go.Proofs.YthhlfphnokdfaaaGreat.cutTurned
