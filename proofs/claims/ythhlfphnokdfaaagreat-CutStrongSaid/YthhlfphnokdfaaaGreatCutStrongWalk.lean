/- CutStrong: for every input the law returns true and its arguments read as they did. No condition. -/
import Derived.Test.YthhlfphnokdfaaaGreatBc14
import Derived.Test.YthhlfphnokdfaaaGreatBc15
import Derived.Test.YthhlfphnokdfaaaGreatBc42
import Derived.Test.YthhlfphnokdfaaaGreatBc43
import Derived.Test.YthhlfphnokdfaaaGreatBc4
import Derived.Deep.LoopGhost
import Derived.Deep.DeepCutAuto
import Derived.RegionTactic
import Derived.BigRegion
import Derived.Test.YthhlfphnokdfaaaGreatBc44
import Derived.Test.YthhlfphnokdfaaaGreatRows
import Derived.WalkKit
import Derived.ProofKit
import Derived.OpenShut
import Derived.ShutString
import Derived.ChangeOld
import Derived.Below
import Derived.Deep.Strs
namespace Go.Proofs.YthhlfphnokdfaaaGreat.cutStrong
open Go.ChangeShapes Go.WideShapes Go.ChangeAt Go.RowKit
open Go.ChangeMaps (open_string shut_string)
set_option linter.unusedVariables false
set_option linter.unusedSimpArgs false

theorem own : ownKnob Tryz.prog.godebug = none := by kernel_rfl
theorem laidOut : laidOutB Tryz.prog = true := by kernel_rfl

def IntsIn (k : IntKind) (w : World) (a : Option Addr) (len cap : Nat) (zs : List Int) : Prop :=
  (a = none ∧ len = 0 ∧ cap = 0 ∧ zs = []) ∨
  ∃ x, a = some x ∧ len ≤ cap ∧ cap ≤ maxLen ∧ zs.length = cap ∧ (∀ i, i < zs.length → w.cell? (x.add i) = some (.int k (zs.getD i 0))) ∧ ∀ n ∈ zs, (Lit.int k n).wf = true



set_option maxRecDepth 100000 in
set_option maxHeartbeats 4000000 in
theorem walk (a0 : Int) (a1 : Int) (a2 : List Ne.Arc) (o2 : Option Addr) (c2 : Nat) (a3 : Option Addr) (len3 cap3 : Nat) (l3 : List Int) (a4 : Int) (w : World) (w0 : (Lit.int .i64 a0).wf = true) (w1 : (Lit.int .i64 a1).wf = true) (k2 : ∀ a ∈ a2, Ne.Arc.ok a) (z2 : a2.length ≤ c2) (y2 : c2 ≤ maxLen) (n2 : o2 = none → c2 = 0) (r2 : Ne.ARow w o2 a2) (w3 : IntsIn .i64 w a3 len3 cap3 l3) (w4 : (Lit.int .i64 a4).wf = true) :
    Calls Tryz.prog 3 #[.int .i64 a0, .int .i64 a1, .slice o2 a2.length c2, .slice a3 len3 cap3, .int .i64 a4] w fun e w' => e = .returned (.bool true) ∧ Below w.heap.size w w' := by
  have HSH:=Lib.hid (Ne.shown_any w)
  obtain ⟨mn,hmn⟩:∃ x,x=(Ne.madeN a0 a1 a2).n:=⟨_,rfl⟩
  obtain ⟨ms,hms⟩:∃ x,x=(Ne.madeN a0 a1 a2).s:=⟨_,rfl⟩
  obtain ⟨mt,hmt⟩:∃ x,x=(Ne.madeN a0 a1 a2).t:=⟨_,rfl⟩
  obtain ⟨ml,hml⟩:∃ x,x=(Ne.madeN a0 a1 a2).l:=⟨_,rfl⟩
  have em:Ne.madeN a0 a1 a2=⟨mn,ms,mt,ml⟩:=by rw [hmn,hms,hmt,hml]
  obtain ⟨f1,f2,f3,f4,f5,f6,f7,f8,f9⟩:=Ne.madeN_fine (nodes:=a0) (ends:=a1) k2
  have ck:=Ne.made_check (nodes:=a0) (ends:=a1) k2
  have MD:=Lib.hid fun w' (h:Ne.ARow w' o2 a2)=>Ne.made_s a0 a1 a2 o2 c2 w' (bounds_i64 w0) (bounds_i64 w1) k2 h
  rw [em] at MD f1 f2 f3 f4 f5 f6 f7 f8 f9 ck
  simp only at f1 f2 f3 f4 f5 f6 f7 f8 f9
  clear hmn hms hmt hml em
  have f8':ml.length≤24:=by omega
  clear f8
  have CK:=Lib.hid ck
  have RT:=Lib.hid (Ne.right_of ck)
  have FI:=Lib.hid f9
  have CAP:=Lib.hid (show ∀ a∈ml,Ne.in64 a.cap from fun a ha=>by have:=(f9 a ha).2.2;unfold Ne.in64;omega)
  have hl6:ml.length≤1000000:=by omega
  have F7:=Lib.hid f7
  have RA:=Lib.hid r2
  clear r2 f7 f9 ck
  obtain ⟨N,rfl⟩:∃ N:Nat,mn=(N:Int):=⟨mn.toNat,by omega⟩
  obtain ⟨S,rfl⟩:∃ S:Nat,ms=(S:Int):=⟨ms.toNat,by omega⟩
  obtain ⟨D,rfl⟩:∃ D:Nat,mt=(D:Int):=⟨mt.toNat,by omega⟩
  obtain ⟨ks,hk3,hq3,bq3,_,_,_⟩:=Ne.ints_row w3
  subst hk3
  clear w3
  have BK3:=Lib.hid bq3
  have KR3:=Lib.hid hq3
  clear bq3 hq3
  have A4:=Lib.hid (show Ne.in64 a4 from bounds_i64 w4)
  clear w4
  have SM:=Lib.hid fun ao cap x w' h=>Ne.some_any ⟨(N:Int),(S:Int),(D:Int),ml⟩ ao cap x w' RT.out h
  simp only [Int.toNat_natCast] at SM
  obtain ⟨g,gL,gp,gk,hph,hfg,hlg,hdg,-,-,-⟩:=Ne.max_facts RT.out
  have MX:=Lib.hid fun (ao:Option Addr) (cap:Nat) w' (h1:Ne.ARow w' ao (⟨(N:Int),(S:Int),(D:Int),ml⟩:Ne.Net).l)=>Ne.max_flow (n:=⟨(N:Int),(S:Int),(D:Int),ml⟩) ao cap w' CK.out h1 hph false
  simp only [Ne.engC,Bool.false_eq_true,if_false,if_true] at MX
  obtain ⟨bM,hM⟩:=Ne.reach_exists RT.out g 1
  obtain ⟨bB,hB⟩:=Ne.reach_exists (Ne.right_back RT.out) g 1
  have BE:=Lib.hid (Ne.best_of RT.out hfg hM hB (Ne.reach_top RT.out hfg hlg hdg hM).1)
  have hgl:g.length=ml.length:=hfg.len
  have FG:=Lib.hid hfg
  have HGL:=Lib.hid hgl
  obtain ⟨pm,hpm⟩:∃ pm:Nat→Bool,pm=fun v=>bM.getD v false:=⟨_,rfl⟩
  obtain ⟨pl,hpl⟩:∃ pl:Nat→Bool,pl=fun v=>!(bB.getD v false):=⟨_,rfl⟩
  have PM:=Lib.hid (show ∀ v,pm v=bM.getD v false from fun v=>by rw [hpm])
  have PL:=Lib.hid (show ∀ v,pl v = !(bB.getD v false) from fun v=>by rw [hpl])
  have F1:=Lib.hid fun ao cap fo fc w' (h1:Ne.ARow w' ao ml) h2=>show Calls Tryz.prog 10 #[Ne.encN ⟨(N:Int),(S:Int),(D:Int),ml⟩ ao cap,.slice fo ml.length fc] w' fun e w2=>∃ o c,e=.returned (.tuple #[.slice o (Ne.nodesTo pm N).length c,.int .i64 0])∧Ne.OwnI w2 w'.heap.size (.slice o (Ne.nodesTo pm N).length c) (Ne.nodesTo pm N)∧Below w'.heap.size w' w2 from by
   have:=Ne.first_any ⟨(N:Int),(S:Int),(D:Int),ml⟩ ao cap fo fc g w' h1 h2 hl6 CAP.out bM (fun _=>hM)
   rw [BE.out.firV CK.out,BE.out.firE CK.out,hgl,← hpm] at this
   exact this
  have L1:=Lib.hid fun ao cap fo fc w' (h1:Ne.ARow w' ao ml) h2=>show Calls Tryz.prog 11 #[Ne.encN ⟨(N:Int),(S:Int),(D:Int),ml⟩ ao cap,.slice fo ml.length fc] w' fun e w2=>∃ o c,e=.returned (.tuple #[.slice o (Ne.nodesTo pl N).length c,.int .i64 0])∧Ne.OwnI w2 w'.heap.size (.slice o (Ne.nodesTo pl N).length c) (Ne.nodesTo pl N)∧Below w'.heap.size w' w2 from by
   have:=Ne.last_any ⟨(N:Int),(S:Int),(D:Int),ml⟩ ao cap fo fc g w' h1 h2 hl6 CAP.out bB (fun _=>hB)
   rw [BE.out.lasV CK.out,BE.out.lasE CK.out,hgl,← hpl] at this
   exact this
  have LM:=Lib.hid (Ne.nodes_len pm N)
  have LL:=Lib.hid (Ne.nodes_len pl N)
  have HPE:=Lib.hid (fun (p:Nat→Bool) j (h1:1≤j) (h2:j≤N)=>show Ne.hasL (Ne.nodesTo p N) (j:Int)=p j by rw [Ne.nodes_has (by omega) (by omega),Int.toNat_natCast])
  clear hph hfg hlg hdg hgl
  obtain ⟨f,hf⟩:∃ x,x=Ne.routeN ⟨(N:Int),(S:Int),(D:Int),ml⟩ ks:=⟨_,rfl⟩
  have FL:=Lib.hid (show Ne.Flow ⟨(N:Int),(S:Int),(D:Int),ml⟩ f by rw [hf];exact Ne.route_flow RT.out _)
  have RD:=Lib.hid fun om' cm' w' h1 h2=>Ne.routed_any ⟨(N:Int),(S:Int),(D:Int),ml⟩ om' cm' a3 cap3 ks w' h1 h2 CK.out BK3.out
  rw [← hf] at RD
  obtain ⟨fM,hMf⟩:=Ne.reach_exists RT.out f 1
  obtain ⟨fB,hBf⟩:=Ne.reach_exists (Ne.right_back RT.out) f 1
  have OT:=Lib.hid (BE.out.other CK.out FL.out hMf hBf)
  have CUT:=Lib.hid BE.out.cut
  have hfl:f.length=ml.length:=FL.out.len
  have hgl:g.length=ml.length:=HGL.out
  have F2:=Lib.hid fun ao cap fo fc w' (h1:Ne.ARow w' ao ml) h2=>Ne.first_any ⟨(N:Int),(S:Int),(D:Int),ml⟩ ao cap fo fc f w' h1 h2 hl6 CAP.out fM (fun _=>hMf)
  have L2:=Lib.hid fun ao cap fo fc w' (h1:Ne.ARow w' ao ml) h2=>Ne.last_any ⟨(N:Int),(S:Int),(D:Int),ml⟩ ao cap fo fc f w' h1 h2 hl6 CAP.out fB (fun _=>hBf)
  have HF0:=Lib.hid (Ne.flow_chkF CK.out FL.out)
  have HEQ:=Lib.hid (show Ne.exc ml f (D:Int)=Ne.exc ml g (D:Int)→Ne.firE ⟨(N:Int),(S:Int),(D:Int),ml⟩ f fM=0∧Ne.lasE ⟨(N:Int),(S:Int),(D:Int),ml⟩ f fB=0∧Ne.firV ⟨(N:Int),(S:Int),(D:Int),ml⟩ f fM=Ne.nodesTo pm N∧Ne.lasV ⟨(N:Int),(S:Int),(D:Int),ml⟩ f fB=Ne.nodesTo pl N from fun h=>by
   obtain ⟨rfl,rfl⟩:=OT.out.1 h
   have e1:=Ne.firE_ok (n:=⟨(N:Int),(S:Int),(D:Int),ml⟩) HF0.out CUT.out.mt
   have e2:=Ne.lasE_ok (n:=⟨(N:Int),(S:Int),(D:Int),ml⟩) HF0.out CUT.out.bs
   exact ⟨e1,e2,by rw [Ne.firV_ok e1,hpm];rfl,by rw [Ne.lasV_ok e2,hpl];rfl⟩)
  have HNQ:=Lib.hid (show Ne.exc ml f (D:Int)≠Ne.exc ml g (D:Int)→Ne.firE ⟨(N:Int),(S:Int),(D:Int),ml⟩ f fM=8∧Ne.lasE ⟨(N:Int),(S:Int),(D:Int),ml⟩ f fB=8∧Ne.firV ⟨(N:Int),(S:Int),(D:Int),ml⟩ f fM=[]∧Ne.lasV ⟨(N:Int),(S:Int),(D:Int),ml⟩ f fB=[] from fun h=>by
   obtain ⟨m1,m2⟩:=OT.out.2 h
   have e1:=Ne.firE_none (n:=⟨(N:Int),(S:Int),(D:Int),ml⟩) HF0.out m1
   have e2:=Ne.lasE_none (n:=⟨(N:Int),(S:Int),(D:Int),ml⟩) HF0.out m2
   exact ⟨e1,e2,Ne.firV_bad (by rw [e1];decide),Ne.lasV_bad (by rw [e2];decide)⟩)
  rw [hfl] at F2 L2
  have VG:=Lib.hid (fun ao cap fo fc w' h1 h2=>Ne.val_flow (n:=⟨(N:Int),(S:Int),(D:Int),ml⟩) (f:=g) ao cap fo fc w' CK.out h1 h2 FG.out)
  have VF:=Lib.hid (fun ao cap fo fc w' h1 h2=>Ne.val_flow (n:=⟨(N:Int),(S:Int),(D:Int),ml⟩) (f:=f) ao cap fo fc w' CK.out h1 h2 FL.out)
  have P1:=Lib.hid fun ao cap fo fc so sc w' (h1:Ne.ARow w' ao ml) h2 h3=>show Calls Tryz.prog 12 #[Ne.encN ⟨(N:Int),(S:Int),(D:Int),ml⟩ ao cap,.slice fo ml.length fc,.slice so (Ne.nodesTo pm N).length sc] w' fun e w2=>e=.returned (.int .i64 0)∧Below w'.heap.size w' w2 from by
   have:=Ne.prove_any ⟨(N:Int),(S:Int),(D:Int),ml⟩ ao cap fo fc so sc g (Ne.nodesTo pm N) w' h1 h2 h3 hl6 CAP.out
   rw [show Ne.proE ⟨(N:Int),(S:Int),(D:Int),ml⟩ g (Ne.nodesTo pm N)=0 from by have:=(BE.out.cuts CK.out).1;rw [hpm];exact this,hgl] at this
   exact this
  have P2:=Lib.hid fun ao cap fo fc so sc w' (h1:Ne.ARow w' ao ml) h2 h3=>show Calls Tryz.prog 12 #[Ne.encN ⟨(N:Int),(S:Int),(D:Int),ml⟩ ao cap,.slice fo ml.length fc,.slice so (Ne.nodesTo pl N).length sc] w' fun e w2=>e=.returned (.int .i64 0)∧Below w'.heap.size w' w2 from by
   have:=Ne.prove_any ⟨(N:Int),(S:Int),(D:Int),ml⟩ ao cap fo fc so sc g (Ne.nodesTo pl N) w' h1 h2 h3 hl6 CAP.out
   rw [show Ne.proE ⟨(N:Int),(S:Int),(D:Int),ml⟩ g (Ne.nodesTo pl N)=0 from by have:=(BE.out.cuts CK.out).2;rw [hpl];exact this,hgl] at this
   exact this
  have BT:=Lib.hid (show ∀ p:Nat→Bool,p S=true→p D=false→Ne.exc ml g (D:Int)≤Ne.capV ⟨(N:Int),(S:Int),(D:Int),ml⟩ (Ne.nodesTo p N)∧∀ v:Nat,(pm v=true→pl v=true)∧(Ne.capV ⟨(N:Int),(S:Int),(D:Int),ml⟩ (Ne.nodesTo p N)=Ne.exc ml g (D:Int)→(pm v=true→p v=true)∧(p v=true→pl v=true)) from fun p h1 h2=>by
   have:=BE.out.between CK.out (p:=p) h1 h2
   rw [hpm,hpl]
   simpa using this)
  have NC:=Lib.hid fun p (hs:p S=true) (ht:p D=false)=>Ne.nodes_cut (n:=⟨(N:Int),(S:Int),(D:Int),ml⟩) CK.out (p:=p) hs ht
  simp only [Int.toNat_natCast] at NC
  have CP:=Lib.hid fun ao cap so sc Q w' (h1:Ne.ARow w' ao ml) h2=>Ne.capacity_any ⟨(N:Int),(S:Int),(D:Int),ml⟩ ao cap so sc Q w' h1 h2 hl6 CAP.out
  have S1:=Lib.hid fun (p:Nat→Bool) x1 x2 y1 y2 w' (h1:Ne.IRow w' x1 (Ne.nodesTo p N)) (h2:Ne.IRow w' x2 (Ne.nodesTo p N))=>show Calls Tryz.prog 17 #[.slice x1 (Ne.nodesTo p N).length y1,.slice x2 (Ne.nodesTo p N).length y2] w' fun e w2=>e=.returned (.bool true)∧Below w'.heap.size w' w2 from by
   have hv:(Ne.nodesTo p N).length≤1099511627776:=by have:=Ne.nodes_len p N;omega
   have:=Ne.same_any x1 x2 y1 y2 (Ne.nodesTo p N) (Ne.nodesTo p N) w' h1 h2 hv hv
   rwa [show decide (Ne.nodesTo p N=Ne.nodesTo p N)=true by simp] at this
  generalize Ne.exc ml g (D:Int)=ev at *
  generalize Ne.exc ml f (D:Int)=fv at *
  generalize Ne.firE ⟨(N:Int),(S:Int),(D:Int),ml⟩ f fM=e1 at *
  generalize Ne.lasE ⟨(N:Int),(S:Int),(D:Int),ml⟩ f fB=e2 at *
  generalize Ne.firV ⟨(N:Int),(S:Int),(D:Int),ml⟩ f fM=V1 at *
  generalize Ne.lasV ⟨(N:Int),(S:Int),(D:Int),ml⟩ f fB=V2 at *
  clear hpm hpl hfl hgl hM hB hMf hBf OT CUT HF0
  go_enter Tryz.func3,Tryz.ntmps3
  go_wp2_with fail
  refine HSH.out.mono ?_
  rintro e w1 ⟨rfl,hb⟩
  have HB1:=Lib.hid hb
  clear hb
  go_wp2_with fail
  refine (MD.out _ (RA.out.kept HB1.out)).mono ?_
  rintro e w2 ⟨om,cm,rfl,ho,hb⟩
  have HB2:=Lib.hid (HB1.out.trans (hb.mono HB1.out.size))
  have HV2:=Lib.hid (Rw.own_lt ho)
  have HO3:=Lib.hid (Rw.own_base (Rw.own_alloc ho (.cells #[.int .i64 (N:Int),.int .i64 (S:Int),.int .i64 (D:Int),.slice om ml.length cm] 27)) (B':=w.heap.size) HB1.out.size)
  have HN3:=Lib.hid (Ne.netBox_new w2 (N:Int) (S:Int) (D:Int) (.slice om ml.length cm))
  have hz2:w.heap.size≤w2.heap.size:=HB2.out.size
  have HB3:=Lib.hid (HB2.out.alloc hz2 (.cells #[.int .i64 (N:Int),.int .i64 (S:Int),.int .i64 (D:Int),.slice om ml.length cm] 27))
  clear ho hb MD RA HSH
  go_wp2_with fail
  obtain ⟨bn,hbn⟩:∃ b,b=w2.heap.size:=⟨_,rfl⟩
  have hbn3:bn<(w2.alloc (.cells #[.int .i64 (N:Int),.int .i64 (S:Int),.int .i64 (D:Int),.slice om ml.length cm] 27)).heap.size:=by rw [hbn];simp
  rw [← hbn] at HN3 HV2 hz2 ⊢
  clear hbn HB2 HB1
  generalize (w2.alloc (.cells #[.int .i64 (N:Int),.int .i64 (S:Int),.int .i64 (D:Int),.slice om ml.length cm] 27))=W3 at *
  have HR3:=Lib.hid (Ne.arow_ofA HO3.out)
  obtain ⟨n0,n1,n2,n3⟩:=Ne.netBox_cells HN3.out
  go_wp2_with fail
  refine (MX.out om cm _ HR3.out).mono ?_
  rintro e v4 ⟨og,cg,sg,rfl,hi,ha1,ha2,ha3,hb⟩
  clear ha1 ha2 ha3
  have hal:=(Below.refl v4.heap.size v4).alloc (Nat.le_refl _) (.cells #[.slice og ml.length cg,.int .i64 (gp:Int),.int .i64 (gk:Int),.int .i64 sg] 31)
  have HX4:=Lib.hid (Ne.runBox_at v4 rfl (.slice og ml.length cg) (gp:Int) (gk:Int) sg)
  have HG4:=Lib.hid (hi.kept hal)
  replace hb:=hb.trans (hal.mono hb.size)
  have HB4:=Lib.hid (HB3.out.trans (hb.mono HB3.out.size))
  have HN4:=Lib.hid (Ne.netBox_below HN3.out hb (Ne.netBox_lt HN3.out))
  have HR4:=Lib.hid (HR3.out.kept hb)
  clear hb hi hal n0 n1 n2 n3
  obtain ⟨n0,n1,n2,n3⟩:=Ne.netBox_cells HN4.out
  obtain ⟨x0,x1,x2,x3⟩:=Ne.runBox_cells HX4.out
  go_wp2_with fail
  refine (VG.out om cm _ _ _ HR4.out HG4.out).mono ?_
  rintro e v5 ⟨rfl,hb⟩
  have HB5:=Lib.hid (HB4.out.trans (hb.mono HB4.out.size))
  have HN5:=Lib.hid (Ne.netBox_below HN4.out hb (Ne.netBox_lt HN4.out))
  have HR5:=Lib.hid (HR4.out.kept hb)
  have HG5:=Lib.hid (HG4.out.kept hb)
  have HX5:=Lib.hid (Ne.runBox_below HX4.out hb (Ne.runBox_lt HX4.out))
  clear hb n0 n1 n2 n3 x0 x1 x2 x3
  obtain ⟨n0,n1,n2,n3⟩:=Ne.netBox_cells HN5.out
  obtain ⟨x0,x1,x2,x3⟩:=Ne.runBox_cells HX5.out
  go_wp2_with fail
  refine (F1.out om cm _ _ _ HR5.out HG5.out).mono ?_
  rintro e v6 ⟨oa,ca',rfl,ho,hb⟩
  have HB6:=Lib.hid (HB5.out.trans (hb.mono HB5.out.size))
  have HN6:=Lib.hid (Ne.netBox_below HN5.out hb (Ne.netBox_lt HN5.out))
  have HR6:=Lib.hid (HR5.out.kept hb)
  have HG6:=Lib.hid (HG5.out.kept hb)
  have HX6:=Lib.hid (Ne.runBox_below HX5.out hb (Ne.runBox_lt HX5.out))
  have HA6:=Lib.hid (Ne.own_irow ho)
  clear ho
  clear hb n0 n1 n2 n3 x0 x1 x2 x3
  obtain ⟨n0,n1,n2,n3⟩:=Ne.netBox_cells HN6.out
  obtain ⟨x0,x1,x2,x3⟩:=Ne.runBox_cells HX6.out
  go_wp2_with fail
  refine (L1.out om cm _ _ _ HR6.out HG6.out).mono ?_
  rintro e v7 ⟨ob,cb,rfl,ho,hb⟩
  have HB7:=Lib.hid (HB6.out.trans (hb.mono HB6.out.size))
  have HN7:=Lib.hid (Ne.netBox_below HN6.out hb (Ne.netBox_lt HN6.out))
  have HR7:=Lib.hid (HR6.out.kept hb)
  have HG7:=Lib.hid (HG6.out.kept hb)
  have HA7:=Lib.hid (HA6.out.kept hb)
  have HX7:=Lib.hid (Ne.runBox_below HX6.out hb (Ne.runBox_lt HX6.out))
  have HL7:=Lib.hid (Ne.own_irow ho)
  clear ho
  clear hb n0 n1 n2 n3 x0 x1 x2 x3
  obtain ⟨n0,n1,n2,n3⟩:=Ne.netBox_cells HN7.out
  obtain ⟨x0,x1,x2,x3⟩:=Ne.runBox_cells HX7.out
  go_wp2_with fail
  refine (P1.out om cm _ _ _ _ _ HR7.out HG7.out HA7.out).mono ?_
  rintro e v8 ⟨rfl,hb⟩
  have HB8:=Lib.hid (HB7.out.trans (hb.mono HB7.out.size))
  have HN8:=Lib.hid (Ne.netBox_below HN7.out hb (Ne.netBox_lt HN7.out))
  have HR8:=Lib.hid (HR7.out.kept hb)
  have HG8:=Lib.hid (HG7.out.kept hb)
  have HA8:=Lib.hid (HA7.out.kept hb)
  have HL8:=Lib.hid (HL7.out.kept hb)
  have HX8:=Lib.hid (Ne.runBox_below HX7.out hb (Ne.runBox_lt HX7.out))
  clear hb n0 n1 n2 n3 x0 x1 x2 x3
  obtain ⟨n0,n1,n2,n3⟩:=Ne.netBox_cells HN8.out
  obtain ⟨x0,x1,x2,x3⟩:=Ne.runBox_cells HX8.out
  go_wp2_with fail
  refine (P2.out om cm _ _ _ _ _ HR8.out HG8.out HL8.out).mono ?_
  rintro e v9 ⟨rfl,hb⟩
  have HB9:=Lib.hid (HB8.out.trans (hb.mono HB8.out.size))
  have HN9:=Lib.hid (Ne.netBox_below HN8.out hb (Ne.netBox_lt HN8.out))
  have HR9:=Lib.hid (HR8.out.kept hb)
  have HA9:=Lib.hid (HA8.out.kept hb)
  have HL9:=Lib.hid (HL8.out.kept hb)
  have HX9:=Lib.hid (Ne.runBox_below HX8.out hb (Ne.runBox_lt HX8.out))
  clear hb n0 n1 n2 n3 x0 x1 x2 x3
  obtain ⟨n0,n1,n2,n3⟩:=Ne.netBox_cells HN9.out
  obtain ⟨x0,x1,x2,x3⟩:=Ne.runBox_cells HX9.out
  go_wp2_with fail
  refine (SM.out om cm a4 v9 A4.out).mono ?_
  rintro e v10 ⟨so,sc,p,rfl,hps,hpt,ho,hb⟩
  have HB10:=Lib.hid (HB9.out.trans (hb.mono HB9.out.size))
  have HN10:=Lib.hid (Ne.netBox_below HN9.out hb (Ne.netBox_lt HN9.out))
  have HR10:=Lib.hid (HR9.out.kept hb)
  have HA10:=Lib.hid (HA9.out.kept hb)
  have HL10:=Lib.hid (HL9.out.kept hb)
  have HX10:=Lib.hid (Ne.runBox_below HX9.out hb (Ne.runBox_lt HX9.out))
  have HS10:=Lib.hid (Ne.own_irow ho)
  have Pp:=Lib.hid (And.intro hps hpt)
  have LNp:=Lib.hid (Ne.nodes_len p N)
  clear ho hps hpt
  clear hb n0 n1 n2 n3 x0 x1 x2 x3
  obtain ⟨n0,n1,n2,n3⟩:=Ne.netBox_cells HN10.out
  obtain ⟨x0,x1,x2,x3⟩:=Ne.runBox_cells HX10.out
  have BTp:=Lib.hid (BT.out p Pp.out.1 Pp.out.2)
  have E0:=Lib.hid (NC.out p Pp.out.1 Pp.out.2)
  have CPp:=Lib.hid (fun w' h1 h2=>CP.out om cm so sc (Ne.nodesTo p N) w' h1 h2)
  rw [E0.out] at CPp
  generalize Ne.capV ⟨(N:Int),(S:Int),(D:Int),ml⟩ (Ne.nodesTo p N)=cv at *
  go_wp2_with fail
  refine (CPp.out _ HR10.out HS10.out).mono ?_
  rintro e v11 ⟨rfl,hb⟩
  have HB11:=Lib.hid (HB10.out.trans (hb.mono HB10.out.size))
  have HN11:=Lib.hid (Ne.netBox_below HN10.out hb (Ne.netBox_lt HN10.out))
  have HR11:=Lib.hid (HR10.out.kept hb)
  have HA11:=Lib.hid (HA10.out.kept hb)
  have HL11:=Lib.hid (HL10.out.kept hb)
  have HS11:=Lib.hid (HS10.out.kept hb)
  have HX11:=Lib.hid (Ne.runBox_below HX10.out hb (Ne.runBox_lt HX10.out))
  clear hb n0 n1 n2 n3 x0 x1 x2 x3
  obtain ⟨n0,n1,n2,n3⟩:=Ne.netBox_cells HN11.out
  obtain ⟨x0,x1,x2,x3⟩:=Ne.runBox_cells HX11.out
  have HHM:=Lib.hid fun (x:Int) w' h1=>Ne.rhas_any oa ca' (Ne.nodesTo pm N) x w' h1 (by have:=LM.out;omega)
  have HHL:=Lib.hid fun (x:Int) w' h1=>Ne.rhas_any ob cb (Ne.nodesTo pl N) x w' h1 (by have:=LL.out;omega)
  have HHS:=Lib.hid fun (x:Int) w' h1=>Ne.rhas_any so sc (Ne.nodesTo p N) x w' h1 (by have:=LNp.out;omega)
  go_wp2
  clear n0 n1 n2 n3 x0 x1 x2 x3 F1 L1 MX VG P1 P2 SM BT NC CP CPp
  go_loopw [24] (fun i wr=>∃ k:Nat,i=.int .i64 ((k+1:Nat):Int)∧k≤N∧Hid (Below v11.heap.size v11 wr)) (fun i _=>N+1-(intOf i).toNat)
  case atStart=>exact ⟨0,rfl,Nat.zero_le _,Lib.hid (Below.refl _ _)⟩
  case round =>
   obtain ⟨k,rfl,hk,HBV⟩:=hrel
   obtain ⟨n0,n1,n2,n3⟩:=Ne.netBox_cells (Ne.netBox_below HN11.out HBV.out (Ne.netBox_lt HN11.out))
   by_cases hlt:k<N
   ·obtain ⟨J,hJ⟩:∃ J,J=k+1:=⟨_,rfl⟩
    rw [← hJ]
    have HJ:=Lib.hid hJ
    have hJN:J≤N:=by omega
    have hJ1:1≤J:=by omega
    have hJi:(J:Int)≤(N:Int):=by omega
    have HC1:=Lib.hid (HHM.out (J:Int) _ (HA11.out.kept HBV.out))
    have HC2:=Lib.hid (HHL.out (J:Int) _ (HL11.out.kept HBV.out))
    have HC3:=Lib.hid (HHS.out (J:Int) _ (HS11.out.kept HBV.out))
    rw [HPE.out pm J hJ1 hJN] at HC1
    rw [HPE.out pl J hJ1 hJN] at HC2
    rw [HPE.out p J hJ1 hJN] at HC3
    obtain ⟨t1,t2⟩:=BTp.out.2 J
    clear hJ
    cases hec:(cv == ev) <;> cases ha:pm J <;> cases hb:pl J <;> cases hc:p J
    ·rw [ha] at HC1
     rw [hb] at HC2
     rw [hc] at HC3
     clear ha hb hc t1 t2
     go_wp2_with fail
     refine HC1.out.mono ?_
     rintro e w9 ⟨rfl,rfl⟩
     go_wp2_with fail
     refine HC2.out.mono ?_
     rintro e w9 ⟨rfl,rfl⟩
     go_wp2_with fail
     refine HC3.out.mono ?_
     rintro e w9 ⟨rfl,rfl⟩
     go_wp2
     go_roundw
     case rel=>exact ⟨J,by go_num,hJN,HBV⟩
     case measure=>have:=HJ.out;simp [intOf];omega
    ·rw [ha] at HC1
     rw [hb] at HC2
     rw [hc] at HC3
     clear ha hb hc t1 t2
     go_wp2_with fail
     refine HC1.out.mono ?_
     rintro e w9 ⟨rfl,rfl⟩
     go_wp2_with fail
     refine HC2.out.mono ?_
     rintro e w9 ⟨rfl,rfl⟩
     go_wp2_with fail
     refine HC3.out.mono ?_
     rintro e w9 ⟨rfl,rfl⟩
     go_wp2
     go_roundw
     case rel=>exact ⟨J,by go_num,hJN,HBV⟩
     case measure=>have:=HJ.out;simp [intOf];omega
    ·rw [ha] at HC1
     rw [hb] at HC2
     rw [hc] at HC3
     clear ha hb hc t1 t2
     go_wp2_with fail
     refine HC1.out.mono ?_
     rintro e w9 ⟨rfl,rfl⟩
     go_wp2_with fail
     refine HC2.out.mono ?_
     rintro e w9 ⟨rfl,rfl⟩
     go_wp2_with fail
     refine HC3.out.mono ?_
     rintro e w9 ⟨rfl,rfl⟩
     go_wp2
     go_roundw
     case rel=>exact ⟨J,by go_num,hJN,HBV⟩
     case measure=>have:=HJ.out;simp [intOf];omega
    ·rw [ha] at HC1
     rw [hb] at HC2
     rw [hc] at HC3
     clear ha hb hc t1 t2
     go_wp2_with fail
     refine HC1.out.mono ?_
     rintro e w9 ⟨rfl,rfl⟩
     go_wp2_with fail
     refine HC2.out.mono ?_
     rintro e w9 ⟨rfl,rfl⟩
     go_wp2_with fail
     refine HC3.out.mono ?_
     rintro e w9 ⟨rfl,rfl⟩
     go_wp2
     go_roundw
     case rel=>exact ⟨J,by go_num,hJN,HBV⟩
     case measure=>have:=HJ.out;simp [intOf];omega
    ·exact absurd (t1 ha) (by rw [hb];decide)
    ·exact absurd (t1 ha) (by rw [hb];decide)
    ·rw [ha] at HC1
     rw [hb] at HC2
     rw [hc] at HC3
     clear ha hb hc t1 t2
     go_wp2_with fail
     refine HC1.out.mono ?_
     rintro e w9 ⟨rfl,rfl⟩
     go_wp2_with fail
     refine HC2.out.mono ?_
     rintro e w9 ⟨rfl,rfl⟩
     go_wp2_with fail
     refine HC3.out.mono ?_
     rintro e w9 ⟨rfl,rfl⟩
     go_wp2
     go_roundw
     case rel=>exact ⟨J,by go_num,hJN,HBV⟩
     case measure=>have:=HJ.out;simp [intOf];omega
    ·rw [ha] at HC1
     rw [hb] at HC2
     rw [hc] at HC3
     clear ha hb hc t1 t2
     go_wp2_with fail
     refine HC1.out.mono ?_
     rintro e w9 ⟨rfl,rfl⟩
     go_wp2_with fail
     refine HC2.out.mono ?_
     rintro e w9 ⟨rfl,rfl⟩
     go_wp2_with fail
     refine HC3.out.mono ?_
     rintro e w9 ⟨rfl,rfl⟩
     go_wp2
     go_roundw
     case rel=>exact ⟨J,by go_num,hJN,HBV⟩
     case measure=>have:=HJ.out;simp [intOf];omega
    ·rw [ha] at HC1
     rw [hb] at HC2
     rw [hc] at HC3
     clear ha hb hc t1 t2
     go_wp2_with fail
     refine HC1.out.mono ?_
     rintro e w9 ⟨rfl,rfl⟩
     go_wp2_with fail
     refine HC2.out.mono ?_
     rintro e w9 ⟨rfl,rfl⟩
     go_wp2_with fail
     refine HC3.out.mono ?_
     rintro e w9 ⟨rfl,rfl⟩
     go_wp2
     go_roundw
     case rel=>exact ⟨J,by go_num,hJN,HBV⟩
     case measure=>have:=HJ.out;simp [intOf];omega
    ·exact absurd ((t2 (by simpa using hec)).2 hc) (by rw [hb];decide)
    ·rw [ha] at HC1
     rw [hb] at HC2
     rw [hc] at HC3
     clear ha hb hc t1 t2
     go_wp2_with fail
     refine HC1.out.mono ?_
     rintro e w9 ⟨rfl,rfl⟩
     go_wp2_with fail
     refine HC2.out.mono ?_
     rintro e w9 ⟨rfl,rfl⟩
     go_wp2_with fail
     refine HC3.out.mono ?_
     rintro e w9 ⟨rfl,rfl⟩
     go_wp2
     go_roundw
     case rel=>exact ⟨J,by go_num,hJN,HBV⟩
     case measure=>have:=HJ.out;simp [intOf];omega
    ·rw [ha] at HC1
     rw [hb] at HC2
     rw [hc] at HC3
     clear ha hb hc t1 t2
     go_wp2_with fail
     refine HC1.out.mono ?_
     rintro e w9 ⟨rfl,rfl⟩
     go_wp2_with fail
     refine HC2.out.mono ?_
     rintro e w9 ⟨rfl,rfl⟩
     go_wp2_with fail
     refine HC3.out.mono ?_
     rintro e w9 ⟨rfl,rfl⟩
     go_wp2
     go_roundw
     case rel=>exact ⟨J,by go_num,hJN,HBV⟩
     case measure=>have:=HJ.out;simp [intOf];omega
    ·exact absurd (t1 ha) (by rw [hb];decide)
    ·exact absurd (t1 ha) (by rw [hb];decide)
    ·exact absurd ((t2 (by simpa using hec)).1 ha) (by rw [hc];decide)
    ·rw [ha] at HC1
     rw [hb] at HC2
     rw [hc] at HC3
     clear ha hb hc t1 t2
     go_wp2_with fail
     refine HC1.out.mono ?_
     rintro e w9 ⟨rfl,rfl⟩
     go_wp2_with fail
     refine HC2.out.mono ?_
     rintro e w9 ⟨rfl,rfl⟩
     go_wp2_with fail
     refine HC3.out.mono ?_
     rintro e w9 ⟨rfl,rfl⟩
     go_wp2
     go_roundw
     case rel=>exact ⟨J,by go_num,hJN,HBV⟩
     case measure=>have:=HJ.out;simp [intOf];omega
   ·have ek:N=k:=by omega
    subst ek
    have HB12:=Lib.hid (HB11.out.trans (HBV.out.mono HB11.out.size))
    have HN12:=Lib.hid (Ne.netBox_below HN11.out HBV.out (Ne.netBox_lt HN11.out))
    have HR12:=Lib.hid (HR11.out.kept HBV.out)
    have HA12:=Lib.hid (HA11.out.kept HBV.out)
    have HL12:=Lib.hid (HL11.out.kept HBV.out)
    have hcv:decide (cv ≥ ev)=true:=by have:=BTp.out.1;simp only [decide_eq_true_eq];omega
    have hcv2:decide (ev≤cv)=true:=hcv
    clear hlt hk HHM HHL HHS HPE BTp
    go_wp2_with fail
    refine (RD.out om cm _ HR12.out (KR3.out.kept HB12.out)).mono ?_
    rintro e v13 ⟨fb,rfl,hfb,hl,hb⟩
    have HB13:=Lib.hid (HB12.out.trans (hb.mono HB12.out.size))
    have HN13:=Lib.hid (Ne.netBox_below HN12.out hb (Ne.netBox_lt HN12.out))
    have HR13:=Lib.hid (HR12.out.kept hb)
    have HA13:=Lib.hid (HA12.out.kept hb)
    have HL13:=Lib.hid (HL12.out.kept hb)
    have HF13:=Lib.hid hl.irow
    clear hl hb hfb n0 n1 n2 n3
    obtain ⟨n0,n1,n2,n3⟩:=Ne.netBox_cells HN13.out
    go_wp2_with fail
    refine (VF.out om cm _ _ _ HR13.out HF13.out).mono ?_
    rintro e v14 ⟨rfl,hb⟩
    have HB14:=Lib.hid (HB13.out.trans (hb.mono HB13.out.size))
    have HN14:=Lib.hid (Ne.netBox_below HN13.out hb (Ne.netBox_lt HN13.out))
    have HR14:=Lib.hid (HR13.out.kept hb)
    have HA14:=Lib.hid (HA13.out.kept hb)
    have HL14:=Lib.hid (HL13.out.kept hb)
    have HF14:=Lib.hid (HF13.out.kept hb)
    clear hb n0 n1 n2 n3
    obtain ⟨n0,n1,n2,n3⟩:=Ne.netBox_cells HN14.out
    go_wp2_with fail
    refine (F2.out om cm _ _ _ HR14.out HF14.out).mono ?_
    rintro e v15 ⟨oc,cc,rfl,ho,hb⟩
    have HB15:=Lib.hid (HB14.out.trans (hb.mono HB14.out.size))
    have HN15:=Lib.hid (Ne.netBox_below HN14.out hb (Ne.netBox_lt HN14.out))
    have HR15:=Lib.hid (HR14.out.kept hb)
    have HA15:=Lib.hid (HA14.out.kept hb)
    have HL15:=Lib.hid (HL14.out.kept hb)
    have HF15:=Lib.hid (HF14.out.kept hb)
    have HC15:=Lib.hid (Ne.own_irow ho)
    clear ho
    clear hb n0 n1 n2 n3
    obtain ⟨n0,n1,n2,n3⟩:=Ne.netBox_cells HN15.out
    go_wp2_with fail
    refine (L2.out om cm _ _ _ HR15.out HF15.out).mono ?_
    rintro e v16 ⟨od,cd,rfl,ho,hb⟩
    have HB16:=Lib.hid (HB15.out.trans (hb.mono HB15.out.size))
    have HN16:=Lib.hid (Ne.netBox_below HN15.out hb (Ne.netBox_lt HN15.out))
    have HR16:=Lib.hid (HR15.out.kept hb)
    have HA16:=Lib.hid (HA15.out.kept hb)
    have HL16:=Lib.hid (HL15.out.kept hb)
    have HC16:=Lib.hid (HC15.out.kept hb)
    have HD16:=Lib.hid (Ne.own_irow ho)
    clear ho hb n0 n1 n2 n3
    by_cases ec:fv=ev
    ·obtain ⟨q1,q2,q3,q4⟩:=HEQ.out ec
     subst q1
     subst q2
     rw [q3] at HC16 ⊢
     rw [q4] at HD16 ⊢
     have ec1:(fv == ev)=true:=by simp [ec]
     clear ec q3 q4 HEQ HNQ
     go_wp2_with fail
     refine (S1.out pm _ _ _ _ _ HC16.out HA16.out).mono ?_
     rintro e v17 ⟨rfl,hb⟩
     have HB17:=Lib.hid (HB16.out.trans (hb.mono HB16.out.size))
     have HL17:=Lib.hid (HL16.out.kept hb)
     have HD17:=Lib.hid (HD16.out.kept hb)
     clear hb
     go_wp2_with fail
     refine (S1.out pl _ _ _ _ _ HD17.out HL17.out).mono ?_
     rintro e v18 ⟨rfl,hb⟩
     have HB18:=Lib.hid (HB17.out.trans (hb.mono HB17.out.size))
     clear hb
     go_wp2
     go_ret
     exact ⟨rfl,HB18.out⟩
    ·obtain ⟨q1,q2,q3,q4⟩:=HNQ.out ec
     subst q1
     subst q2
     subst q3
     subst q4
     have ec1:(fv == ev)=false:=by simp [ec]
     clear ec HEQ HNQ
     go_wp2
     go_ret
     exact ⟨rfl,HB16.out⟩

end Go.Proofs.YthhlfphnokdfaaaGreat.cutStrong
