/-
  Rfl6, Fval, Cfl, Samei, ShownC, Has, Som, Ctm
-/
import Derived.Test.YthhlfphnokdfaaaGreatBf12
import Derived.Test.YthhlfphnokdfaaaGreatBf8
import Derived.Test.YthhlfphnokdfaaaGreatBf10
import Derived.Test.YthhlfphnokdfaaaGreatBf2
import Derived.Deep.QuietTactic
import Derived.BigQuiet
import Derived.LoopTactic
import Derived.Below
import Derived.Test.YthhlfphnokdfaaaGreatBf6
import Derived.Test.YthhlfphnokdfaaaGreatBf9
set_option linter.unusedVariables false
set_option linter.unusedSimpArgs false
set_option maxRecDepth 100000
set_option maxHeartbeats 4000000
namespace Go.Proofs.YthhlfphnokdfaaaGreat
open Go.ChangeShapes Go.WideShapes Go.ChangeAt Go.RowKit
open Lib (hid)
namespace Ne
theorem droom_s (n:Net) (ao:Option Addr) (cap:Nat) (fo:Option Addr) (fc:Nat) (f:List Int) (w:World) (hr:ARow w ao n.l) (hf:IRow w fo f) (hl:n.l.length≤1000000) (hok:∀ a∈n.l,in64 a.cap) :
  Calls Tryz.prog 28 #[encN n ao cap,.slice fo f.length fc] w fun e w'=>∃ o c,e=.returned (.tuple #[.slice o (roomV n f).length c,.int .i64 (chkF n f)])∧IRow w' o (roomV n f)∧Below w.heap.size w w' :=
 (droom_any n ao cap fo fc f w hr hf hl hok).mono fun e w' ⟨v,h1,h2,h3⟩=>by
  obtain ⟨o,c,hx,_,hi⟩:=irow_ofL h2
  exact ⟨o,c,by rw [h1,hx],hi,h3⟩
theorem ends_at (n:Net) (ao:Option Addr) (cap:Nat) (r:Nat) (w:World) (hr:ARow w ao n.l) (hl:n.l.length≤1000000) (h:r<2*n.l.length) :
  Calls Tryz.prog 49 #[encN n ao cap,.int .i64 (r:Int)] w fun e w'=>e=.returned (.tuple #[.int .i64 (trF n.l r),.int .i64 (trT n.l r)])∧Below w.heap.size w w':=by
 have:=ends_any n ao cap (r:Int) w hr hl (by unfold in64;omega)
 rwa [enF_in h,enT_in h] at this
section
variable {n:Net} (ao:Option Addr) (cap:Nat) (fo:Option Addr) (fc:Nat) {f:List Int} (w:World) (ck:checkN n=0) (hr:ARow w ao n.l) (hf:IRow w fo f) (hF:Flow n f)
include ck hr hf hF
end
end Ne
namespace Ne
section
variable (n:Net) (ao:Option Addr) (cap:Nat) (fo:Option Addr) (fc:Nat) (f:List Int) (w:World) (hr:ARow w ao n.l) (hf:IRow w fo f) (hl:n.l.length≤1000000) (hok:∀ a∈n.l,in64 a.cap)
include hr hf hl hok
theorem fval_any:Calls Tryz.prog 9 #[encN n ao cap,.slice fo f.length fc] w fun e w'=>e=.returned (.tuple #[.int .i64 (vaV n f),.int .i64 (chkF n f)])∧Below w.heap.size w w':=by
 have AM:=hid (fun w' (h1:ARow w' ao n.l) (h2:IRow w' fo f)=>fchk_any n ao cap fo fc f w' h1 h2 hl hok)
 by_cases c0:chkF n f=0
 case neg =>
  have HV:=hid (show vaV n f=0 by unfold vaV;rw [if_pos c0])
  generalize vaV n f=R at *
  generalize chkF n f=c at *
  generalize f.length=fl at *
  obtain ⟨nn,ns,nt,l⟩:=n
  simp only at hr AM ⊢
  have HB0:=hid ((Below.refl w.heap.size w).alloc (Nat.le_refl _) (.cells #[.int .i64 nn,.int .i64 ns,.int .i64 nt,.slice ao l.length cap] 27))
  have c1':(c == 0)=false:=by simpa using c0
  have c1n:(c != 0)=true:=by simpa using c0
  have HR:=hid (hr.kept HB0.out)
  have HF:=hid (hf.kept HB0.out)
  clear hr hf hok c0
  go_enter Tryz.func9,Tryz.ntmps9
  go_wp2_with fail
  refine (AM.out _ HR.out HF.out).mono ?_
  rintro e w1 ⟨rfl,hb⟩
  have HB1:=hid (HB0.out.trans (hb.mono (by simp)))
  clear hb
  go_wp2
  go_ret2
  exact ⟨ret2' HV.out.symm rfl,HB1.out⟩
 have HV:=hid (show vaV n f=exc n.l f n.t by unfold vaV;rw [if_neg (by simpa using c0)])
 have c1:=(chkF_ok c0).1
 have XS:=hid (fun w' (h1:ARow w' ao n.l) (h2:IRow w' fo f)=>excs_s n ao cap fo fc f w' h1 h2 c1)
 rw [c0] at AM ⊢
 obtain ⟨-,RT,-,-⟩:=chkA_ok c1
 have hN0:=RT.n0
 have hN1:=RT.n1
 have ht0:=RT.t0
 have ht1:=RT.t1
 clear RT c0 c1
 generalize vaV n f=R at *
 generalize f.length=fl at *
 obtain ⟨nn,ns,nt,l⟩:=n
 simp only at hr AM XS HV hN0 hN1 ht0 ht1 ⊢
 obtain ⟨N,rfl⟩:∃ N:Nat,nn=(N:Int):=⟨nn.toNat,by omega⟩
 obtain ⟨k,rfl⟩:∃ k:Nat,nt=(k:Int):=⟨nt.toNat,by omega⟩
 simp only [Int.toNat_natCast] at XS
 have HB0:=hid ((Below.refl w.heap.size w).alloc (Nat.le_refl _) (.cells #[.int .i64 (N:Int),.int .i64 ns,.int .i64 (k:Int),.slice ao l.length cap] 27))
 have HN0:=hid (netBox_new w (N:Int) ns (k:Int) (.slice ao l.length cap))
 have HR:=hid (hr.kept HB0.out)
 have HF:=hid (hf.kept HB0.out)
 clear hr hf hok
 have hk:k<N+1:=by omega
 have hki:(k:Int)<(N:Int)+1:=by omega
 have hk0:(0:Int)≤(k:Int):=by omega
 go_enter Tryz.func9,Tryz.ntmps9
 go_wp2_with fail
 refine (AM.out _ HR.out HF.out).mono ?_
 rintro e w1 ⟨rfl,hb⟩
 have HB1:=hid (HB0.out.trans (hb.mono (by simp)))
 have HN1:=hid (netBox_below HN0.out hb (by simp))
 have HR1:=hid (HR.out.kept hb)
 have HF1:=hid (HF.out.kept hb)
 obtain ⟨n0,n1,n2,n3⟩:=netBox_cells HN1.out
 have hnl:=netBox_lt HN1.out
 clear hb
 go_wp2
 have hS0:=(show (fun w'=>w'.cell? ⟨w.heap.size,0,none⟩=some (.int .i64 (N:Int))∧w'.cell? ⟨w.heap.size,1,none⟩=some (.int .i64 ns)∧w'.cell? ⟨w.heap.size,2,none⟩=some (.int .i64 (k:Int))∧w'.cell? ⟨w.heap.size,3,none⟩=some (.slice ao l.length cap)) w1.drew from ⟨n0,n1,n2,n3⟩)
 refine Rh.start (S:=(fun w'=>w'.cell? ⟨w.heap.size,0,none⟩=some (.int .i64 (N:Int))∧w'.cell? ⟨w.heap.size,1,none⟩=some (.int .i64 ns)∧w'.cell? ⟨w.heap.size,2,none⟩=some (.int .i64 (k:Int))∧w'.cell? ⟨w.heap.size,3,none⟩=some (.slice ao l.length cap))) (by kernel_rfl) ?_
 refine Rh.tp 13 0 hS0 ?_
 refine Rh.tp 14 1 hS0 ?_
 refine Rh.tp 16 3 hS0 ?_
 refine Rh.tp 17 4 hS0 ?_
 refine Rh.step (i:=2) (by kernel_rfl) rfl fun K' hK'=>?_
 have HK:=hid hK'
 clear hK'
 go_simp
 refine (XS.out w1.drew HR1.out HF1.out).mono ?_
 rintro e w2 ⟨o,c,rfl,hx,hb⟩
 obtain ⟨b,off,rfl,d0⟩:=excL_cell hx hk
 have hS1:=(show (fun w'=>w'.cell? ⟨w.heap.size,0,none⟩=some (.int .i64 (N:Int))∧w'.cell? ⟨w.heap.size,1,none⟩=some (.int .i64 ns)∧w'.cell? ⟨w.heap.size,2,none⟩=some (.int .i64 (k:Int))∧w'.cell? ⟨w.heap.size,3,none⟩=some (.slice ao l.length cap)) w2 from ⟨(hb.cell (p:=⟨w.heap.size,0,none⟩) hnl).trans n0,(hb.cell (p:=⟨w.heap.size,1,none⟩) hnl).trans n1,(hb.cell (p:=⟨w.heap.size,2,none⟩) hnl).trans n2,(hb.cell (p:=⟨w.heap.size,3,none⟩) hnl).trans n3⟩)
 refine HK.out _ _ ⟨hS1,?_⟩
 clear HK K'
 try simp only [Act.put,Rh.q1,Rh.q2,Rh.q3]
 refine Rh.tp 18 5 hS1 ?_
 refine Rh.step (i:=6) (by kernel_rfl) rfl fun K' hK'=>?_
 have HK:=hid hK'
 clear hK'
 go_simp
 refine HK.out _ _ ⟨hS1,?_⟩
 clear HK K'
 try simp only [Act.put,Rh.q1,Rh.q2,Rh.q3]
 refine Rh.tp 4 7 hS1 ?_
 refine Rh.tp 5 8 hS1 ?_
 refine Rh.done (by kernel_rfl) ?_ _
 have HB2:=hid ((below_drew HB1.out).trans (hb.mono HB1.out.size))
 clear hb hx
 go_wp2
 go_ret2
 exact ⟨ret2' HV.out.symm rfl,HB2.out⟩
end
end Ne
namespace Ne
theorem varcell (w:World) (v:Value) (t:TypeId):(w.alloc (.cells #[v] t)).cell? ⟨w.heap.size,0,none⟩=some v:=by
 have h:(w.alloc (.cells #[v] t)).heap[w.heap.size]? = some (.cells #[v] t (0,0)):=by show (w.heap.push _)[w.heap.size]? = _;simp
 unfold World.cell?;rw [h];rfl
theorem varbox {w w2:World} {v:Value} {t:TypeId} (hb:Below (w.alloc (.cells #[v] t)).heap.size (w.alloc (.cells #[v] t)) w2):w2.cell? ⟨w.heap.size,0,none⟩=some v:=by
 rw [hb.cell (p:=⟨w.heap.size,0,none⟩) (by simp)]
 exact varcell w v t
theorem first_any (n:Net) (ao:Option Addr) (cap:Nat) (fo:Option Addr) (fc:Nat) (f:List Int) (w:World) (hr:ARow w ao n.l) (hf:IRow w fo f) (hl:n.l.length≤1000000) (hok:∀ a∈n.l,in64 a.cap)
  (M:List Bool) (hM:chkF n f=0→IsReach n f 1 M) :
  Calls Tryz.prog 10 #[encN n ao cap,.slice fo f.length fc] w fun e w'=>∃ o c,e=.returned (.tuple #[.slice o (firV n f M).length c,.int .i64 (firE n f M)])∧OwnI w' w.heap.size (.slice o (firV n f M).length c) (firV n f M)∧Below w.heap.size w w':=by
 have RC:=hid (fun w' h1 h2=>show Calls Tryz.prog 25 #[encN n ao cap,.slice fo f.length fc,.int .i64 1] w' fun e w2=>∃ o c K,e=.returned (.tuple #[.slice o K c,.int .i64 (chkF n f)])∧(Hid (chkF n f=0)→K=n.n.toNat+1∧∃ b,o=some ⟨b,0,none⟩∧BBox w2 b M)∧Below w'.heap.size w' w2 from by
  have he:reE n f 1=chkF n f:=by unfold reE;split <;> simp_all
  refine (dreach_any n ao cap fo fc f 1 w' h1 h2 hl hok).mono ?_
  rintro e w2 ⟨o,c,M2,h1,h2,h3⟩
  rw [he] at h1
  refine ⟨o,c,M2.length,h1,fun h=>?_,h3⟩
  have h:=h.out
  obtain ⟨hi,b,hb1,hb2⟩:=h2.good (by rw [he];exact h)
  have hR:=right_of (chkA_ok (chkF_ok h).1).1
  have:=reach_one hR hi (hM h)
  subst this
  exact ⟨hi.len,b,hb1,hb2⟩)
 by_cases c0:chkF n f=0
 case neg =>
  have HE:=hid (firE_bad M c0)
  have HV:=hid (firV_bad (M:=M) (by rw [HE.out];exact c0))
  generalize firV n f M=V at *
  generalize firE n f M=E at *
  clear hM
  generalize chkF n f=c at *
  generalize f.length=fl at *
  obtain ⟨nn,ns,nt,l⟩:=n
  simp only at hr RC ⊢
  have HB0:=hid ((Below.refl w.heap.size w).alloc (Nat.le_refl _) (.cells #[.int .i64 nn,.int .i64 ns,.int .i64 nt,.slice ao l.length cap] 27))
  have c1':(c == 0)=false:=by simpa using c0
  have c1n:(c != 0)=true:=by simpa using c0
  have HR:=hid (hr.kept HB0.out)
  have HF:=hid (hf.kept HB0.out)
  clear hr hf c0 hok
  go_enter Tryz.func10,Tryz.ntmps10
  go_wp2_with fail
  refine (RC.out _ HR.out HF.out).mono ?_
  rintro e w1 ⟨o,c,K,rfl,-,hb⟩
  have HB1:=hid ((HB0.out.trans (hb.mono (by simp))).alloc (Nat.le_trans (by simp) hb.size) (.cells #[.slice o K c] 59))
  clear hb
  go_wp2
  go_ret2
  exact ⟨none,0,by rw [HV.out,HE.out];rfl,by rw [HV.out];exact Rw.own_nil _ _,HB1.out⟩
 have hI:=hM c0
 have hR:=right_of (chkA_ok (chkF_ok c0).1).1
 have hN0:=hR.n0
 have hN1:=hR.n1
 have hT0:=hR.t0
 have hT1:=hR.t1
 have HLM:=hid hI.len
 have H8:=hid (show M.getD n.t.toNat false=true→firE n f M=8 from fun h=>firE_none c0 h)
 have H0:=hid (show M.getD n.t.toNat false=false→firE n f M=0 from fun h=>firE_ok c0 h)
 have HV8:=hid (show firE n f M≠0→firV n f M=[] from fun h=>firV_bad h)
 have HV0:=hid (show firE n f M=0→firV n f M=nodesTo (fun v=>M.getD v false) n.n.toNat from fun h=>firV_ok h)
 generalize firV n f M=V at *
 generalize firE n f M=E at *
 rw [c0] at RC
 clear hM hI hR c0 hok
 generalize f.length=fl at *
 obtain ⟨nn,ns,nt,l⟩:=n
 simp only at hr RC hN0 hN1 hT0 hT1 HLM H8 H0 HV0 ⊢
 obtain ⟨N,rfl⟩:∃ N:Nat,nn=(N:Int):=⟨nn.toNat,by omega⟩
 obtain ⟨t,rfl⟩:∃ t:Nat,nt=(t:Int):=⟨nt.toNat,by omega⟩
 simp only [Int.toNat_natCast] at RC HLM H8 H0 HV0
 have HB0:=hid ((Below.refl w.heap.size w).alloc (Nat.le_refl _) (.cells #[.int .i64 (N:Int),.int .i64 ns,.int .i64 (t:Int),.slice ao l.length cap] 27))
 have HN0:=hid (netBox_new w (N:Int) ns (t:Int) (.slice ao l.length cap))
 have HR:=hid (hr.kept HB0.out)
 have HF:=hid (hf.kept HB0.out)
 clear hr hf
 have hmf:∀ (fn:Fn) (first cap:Array Value) (w:World),(Instr.makeFunc fn first cap).run Tryz.prog w=.ok (.func fn first cap) w:=fun _ _ _ _=>rfl
 go_enter Tryz.func10,Tryz.ntmps10
 go_wp2_with fail
 refine (RC.out _ HR.out HF.out).mono ?_
 rintro e w1 ⟨o,c,K,rfl,hg,hb⟩
 obtain ⟨rfl,b,rfl,hm⟩:=hg (hid trivial)
 have HB1:=hid ((HB0.out.trans (hb.mono (by simp))).alloc (Nat.le_trans (by simp) hb.size) (.cells #[.slice (some ⟨b,0,none⟩) (N+1) c] 59))
 have HN1:=hid (netBox_alloc (netBox_below HN0.out hb (by simp)) (.cells #[.slice (some ⟨b,0,none⟩) (N+1) c] 59))
 have HM1:=hid (hm.alloc (.cells #[.slice (some ⟨b,0,none⟩) (N+1) c] 59))
 have HC1:=hid (varcell w1 (.slice (some ⟨b,0,none⟩) (N+1) c) 59)
 clear hb hm HB0 HN0 HR HF RC
 obtain ⟨n0,n1,n2,n3⟩:=netBox_cells HN1.out
 have hti:(t:Int)<(N:Int)+1:=by omega
 have ht0:(0:Int)≤(t:Int):=by omega
 have m0:=HM1.out.cell (i:=t) (by rw [HLM.out];omega)
 cases ht:M.getD t false
 ·rw [ht] at m0
  have HE:=hid (H0.out ht)
  have HVE:=hid (HV0.out HE.out)
  have ND:=hid (nodes_any ⟨(N:Int),ns,(t:Int),l⟩ ao cap 27 (.pointer (some ⟨w1.heap.size,0,none⟩)) (fun v=>M.getD v false) (w1.alloc (.cells #[.slice (some ⟨b,0,none⟩) (N+1) c] 59)) (by simp) (by simp;omega) (fun _ _=>by kernel_rfl) (fun v w' h1 h2 hb=>by
   refine firstfn_any w' w1.heap.size b c M v ?_ (HM1.out.kept hb) (by rw [HLM.out];simp at h2;omega)
   rw [HLM.out];exact varbox hb))
  clear ht H8 H0 HV8 HV0
  go_wp2_with fail
  refine ND.out.mono ?_
  rintro e w2 ⟨y,rfl,ho,hb⟩
  have HB2:=hid (HB1.out.trans (hb.mono HB1.out.size))
  have HO2:=hid (Rw.own_base ho (B':=w.heap.size) HB1.out.size)
  clear hb ho n0 n1 n2 n3 m0
  simp only [Int.toNat_natCast] at HO2
  rw [← HVE.out] at HO2
  obtain ⟨o,c,hy,-⟩:=Rw.own_row encI_len HO2.out
  subst hy
  go_wp2
  go_ret2
  exact ⟨o,c,ret2w HE.out.symm,HO2.out,HB2.out⟩
 ·rw [ht] at m0
  have HE:=hid (H8.out ht)
  have HVE:=hid (HV8.out (by rw [HE.out];decide))
  clear ht H8 H0 HV8 HV0
  go_wp2
  go_ret2
  exact ⟨none,0,by rw [HVE.out,HE.out];rfl,by rw [HVE.out];exact Rw.own_nil _ _,HB1.out⟩
theorem last_any (n:Net) (ao:Option Addr) (cap:Nat) (fo:Option Addr) (fc:Nat) (f:List Int) (w:World) (hr:ARow w ao n.l) (hf:IRow w fo f) (hl:n.l.length≤1000000) (hok:∀ a∈n.l,in64 a.cap)
  (M:List Bool) (hM:chkF n f=0→IsReach (turnN n) f 1 M) :
  Calls Tryz.prog 11 #[encN n ao cap,.slice fo f.length fc] w fun e w'=>∃ o c,e=.returned (.tuple #[.slice o (lasV n f M).length c,.int .i64 (lasE n f M)])∧OwnI w' w.heap.size (.slice o (lasV n f M).length c) (lasV n f M)∧Below w.heap.size w w':=by
 have RC:=hid (fun w' h1 h2=>droom_s n ao cap fo fc f w' h1 h2 hl hok)
 by_cases c0:chkF n f=0
 case neg =>
  have HE:=hid (lasE_bad M c0)
  have HV:=hid (lasV_bad (M:=M) (by rw [HE.out];exact c0))
  generalize lasV n f M=V at *
  generalize lasE n f M=E at *
  clear hM
  generalize chkF n f=c at *
  generalize roomV n f=RV at *
  generalize f.length=fl at *
  obtain ⟨nn,ns,nt,l⟩:=n
  simp only at hr RC ⊢
  have HB0:=hid ((Below.refl w.heap.size w).alloc (Nat.le_refl _) (.cells #[.int .i64 nn,.int .i64 ns,.int .i64 nt,.slice ao l.length cap] 27))
  have c1':(c == 0)=false:=by simpa using c0
  have c1n:(c != 0)=true:=by simpa using c0
  have HR:=hid (hr.kept HB0.out)
  have HF:=hid (hf.kept HB0.out)
  clear hr hf c0 hok
  go_enter Tryz.func11,Tryz.ntmps11
  go_wp2_with fail
  refine (RC.out _ HR.out HF.out).mono ?_
  rintro e w1 ⟨o,c,rfl,-,hb⟩
  have HB1:=hid (HB0.out.trans (hb.mono (by simp)))
  clear hb
  go_wp2
  go_ret2
  exact ⟨none,0,by rw [HV.out,HE.out];rfl,by rw [HV.out];exact Rw.own_nil _ _,HB1.out⟩
 have hI:=hM c0
 have hR:=right_of (chkA_ok (chkF_ok c0).1).1
 have hN0:=hR.n0
 have hN1:=hR.n1
 have hS0:=hR.s0
 have hS1:=hR.s1
 have hrv:roomV n f=roomL n.l f (2*n.l.length):=by unfold roomV;rw [if_neg (by simpa using c0)]
 rw [hrv,roomL_len,c0] at RC
 have TS:=hid (fun w' ro rc h1 h2=>show Calls Tryz.prog 29 #[encN n ao cap,.slice ro (2*n.l.length) rc] w' fun e w2=>∃ b k,e=.returned (.map (some b))∧MkBox w2 b k (fun v=>M.getD v false)∧w'.heap.size≤b∧Below w'.heap.size w' w2 from by
  refine (tosink_any n ao cap ro rc f w' h1 h2 hR).mono ?_
  rintro e w2 ⟨b,k,B,h1,h2,h3,h4,h5⟩
  have:=reach_one (right_back hR) h2 hI
  subst this
  exact ⟨b,k,h1,h3,h4,h5⟩)
 have H8:=hid (show M.getD n.s.toNat false=true→lasE n f M=8 from fun h=>lasE_none c0 h)
 have H0:=hid (show M.getD n.s.toNat false=false→lasE n f M=0 from fun h=>lasE_ok c0 h)
 have HV8:=hid (show lasE n f M≠0→lasV n f M=[] from fun h=>lasV_bad h)
 have HV0:=hid (show lasE n f M=0→lasV n f M=nodesTo (fun v=>!(M.getD v false)) n.n.toNat from fun h=>lasV_ok h)
 generalize lasV n f M=V at *
 generalize lasE n f M=E at *
 clear hM hI hR c0 hok hrv
 generalize f.length=fl at *
 generalize roomL n.l f (2*n.l.length)=RL at *
 obtain ⟨nn,ns,nt,l⟩:=n
 simp only at hr RC TS hN0 hN1 hS0 hS1 H8 H0 HV0 ⊢
 obtain ⟨N,rfl⟩:∃ N:Nat,nn=(N:Int):=⟨nn.toNat,by omega⟩
 obtain ⟨s,rfl⟩:∃ s:Nat,ns=(s:Int):=⟨ns.toNat,by omega⟩
 simp only [Int.toNat_natCast] at H8 H0 HV0
 have HB0:=hid ((Below.refl w.heap.size w).alloc (Nat.le_refl _) (.cells #[.int .i64 (N:Int),.int .i64 (s:Int),.int .i64 nt,.slice ao l.length cap] 27))
 have HN0:=hid (netBox_new w (N:Int) (s:Int) nt (.slice ao l.length cap))
 have HR:=hid (hr.kept HB0.out)
 have HF:=hid (hf.kept HB0.out)
 clear hr hf
 have hmf:∀ (fn:Fn) (first cap:Array Value) (w:World),(Instr.makeFunc fn first cap).run Tryz.prog w=.ok (.func fn first cap) w:=fun _ _ _ _=>rfl
 go_enter Tryz.func11,Tryz.ntmps11
 go_wp2_with fail
 refine (RC.out _ HR.out HF.out).mono ?_
 rintro e w1 ⟨ro,rc,rfl,hrl,hb⟩
 have HB1:=hid (HB0.out.trans (hb.mono (by simp)))
 have HN1:=hid (netBox_below HN0.out hb (by simp))
 have HR1:=hid (HR.out.kept hb)
 have HRL:=hid hrl
 obtain ⟨n0,n1,n2,n3⟩:=netBox_cells HN1.out
 clear hb hrl HB0 HN0 HR HF RC
 go_wp2_with fail
 refine (TS.out _ _ _ HR1.out HRL.out).mono ?_
 rintro e w2 ⟨b,k,rfl,hm,hbb,hb⟩
 have HB2:=hid ((HB1.out.trans (hb.mono HB1.out.size)).alloc (Nat.le_trans HB1.out.size hb.size) (.cells #[.map (some b)] 67))
 have HN2:=hid (netBox_alloc (netBox_below HN1.out hb (netBox_lt HN1.out)) (.cells #[.map (some b)] 67))
 have HM2:=hid (hm.alloc (.cells #[.map (some b)] 67))
 have HC2:=hid (varcell w2 (.map (some b)) 67)
 clear hb hm n0 n1 n2 n3 HB1 HN1 HR1 HRL TS
 obtain ⟨n0,n1,n2,n3⟩:=netBox_cells HN2.out
 have HH:=hid (has_any _ b k (fun v=>M.getD v false) s HM2.out (by omega))
 cases hs:M.getD s false
 ·rw [hs] at HH
  have HE:=hid (H0.out hs)
  have HVE:=hid (HV0.out HE.out)
  clear hs H8 H0 HV8 HV0
  go_wp2_with fail
  refine HH.out.mono ?_
  rintro e w3 ⟨rfl,hb⟩
  have HB3:=hid (HB2.out.trans (hb.mono HB2.out.size))
  have HN3:=hid (netBox_below HN2.out hb (netBox_lt HN2.out))
  have HM3:=hid (HM2.out.below hb)
  have HC3:=hid (varbox hb)
  clear hb n0 n1 n2 n3 HH
  obtain ⟨n0,n1,n2,n3⟩:=netBox_cells HN3.out
  have ND:=hid (nodes_any ⟨(N:Int),(s:Int),nt,l⟩ ao cap 31 (.pointer (some ⟨w2.heap.size,0,none⟩)) (fun v=>!(M.getD v false)) w3 (by simp) (by simp;omega) (fun _ _=>by kernel_rfl) (fun v w' h1 h2 hb=>by
   refine lastfn_any w' w2.heap.size b k (fun v=>M.getD v false) v ?_ (HM3.out.below hb) (by simp at h2;omega)
   rw [hb.cell (p:=⟨w2.heap.size,0,none⟩) (Rw.heap_lt_of_cell HC3.out)];exact HC3.out))
  go_wp2_with fail
  refine ND.out.mono ?_
  rintro e w4 ⟨y,rfl,ho,hb⟩
  have HB4:=hid (HB3.out.trans (hb.mono HB3.out.size))
  have HO4:=hid (Rw.own_base ho (B':=w.heap.size) HB3.out.size)
  clear hb ho n0 n1 n2 n3
  simp only [Int.toNat_natCast] at HO4
  rw [← HVE.out] at HO4
  obtain ⟨o,c,hy,-⟩:=Rw.own_row encI_len HO4.out
  subst hy
  go_wp2
  go_ret2
  exact ⟨o,c,ret2w HE.out.symm,HO4.out,HB4.out⟩
 ·rw [hs] at HH
  have HE:=hid (H8.out hs)
  have HVE:=hid (HV8.out (by rw [HE.out];decide))
  clear hs H8 H0 HV8 HV0
  go_wp2_with fail
  refine HH.out.mono ?_
  rintro e w3 ⟨rfl,hb⟩
  have HB3:=hid (HB2.out.trans (hb.mono HB2.out.size))
  clear hb
  go_wp2
  go_ret2
  exact ⟨none,0,by rw [HVE.out,HE.out];rfl,by rw [HVE.out];exact Rw.own_nil _ _,HB3.out⟩
theorem prove_any (n:Net) (ao:Option Addr) (cap:Nat) (fo:Option Addr) (fc:Nat) (so:Option Addr) (sc:Nat) (f S:List Int) (w:World) (hr:ARow w ao n.l) (hf:IRow w fo f) (hs:IRow w so S) (hl:n.l.length≤1000000) (hok:∀ a∈n.l,in64 a.cap) :
  Calls Tryz.prog 12 #[encN n ao cap,.slice fo f.length fc,.slice so S.length sc] w fun e w'=>e=.returned (.int .i64 (proE n f S))∧Below w.heap.size w w':=by
 have VC:=hid (fun w' h1 h2=>fval_any n ao cap fo fc f w' h1 h2 hl hok)
 have CC:=hid (fun w' h1 h2=>capacity_any n ao cap so sc S w' h1 h2 hl hok)
 have H1:=hid (show chkF n f≠0→proE n f S=chkF n f from fun h=>proE_flow S h)
 have H2:=hid (show chkF n f=0→cutE n S≠0→proE n f S=cutE n S from fun h h2=>proE_cut h h2)
 have H3:=hid (show chkF n f=0→cutE n S=0→vaV n f≠capV n S→proE n f S=8 from fun h h2 h3=>proE_none h h2 h3)
 have H4:=hid (show chkF n f=0→cutE n S=0→vaV n f=capV n S→proE n f S=0 from fun h h2 h3=>proE_ok h h2 h3)
 generalize proE n f S=E at *
 generalize chkF n f=c at *
 generalize cutE n S=d at *
 generalize vaV n f=x at *
 generalize capV n S=y at *
 generalize f.length=fl at *
 generalize S.length=sl at *
 obtain ⟨nn,ns,nt,l⟩:=n
 simp only at hr VC CC ⊢
 have HB0:=hid ((Below.refl w.heap.size w).alloc (Nat.le_refl _) (.cells #[.int .i64 nn,.int .i64 ns,.int .i64 nt,.slice ao l.length cap] 27))
 have HN0:=hid (netBox_new w nn ns nt (.slice ao l.length cap))
 have HR:=hid (hr.kept HB0.out)
 have HF:=hid (hf.kept HB0.out)
 have HS:=hid (hs.kept HB0.out)
 clear hr hf hs hok
 go_enter Tryz.func12,Tryz.ntmps12
 go_wp2_with fail
 refine (VC.out _ HR.out HF.out).mono ?_
 rintro e w1 ⟨rfl,hb⟩
 have HB1:=hid (HB0.out.trans (hb.mono (by simp)))
 have HN1:=hid (netBox_below HN0.out hb (by simp))
 have HR1:=hid (HR.out.kept hb)
 have HS1:=hid (HS.out.kept hb)
 obtain ⟨n0,n1,n2,n3⟩:=netBox_cells HN1.out
 clear hb HB0 HN0 HR HF HS VC
 by_cases c0:c=0
 case neg =>
  have HE:=hid (H1.out c0)
  have c1':(c == 0)=false:=by simpa using c0
  have c1n:(c != 0)=true:=by simpa using c0
  clear c0 H1 H2 H3 H4
  go_wp2
  go_ret
  exact ⟨retI HE.out.symm,HB1.out⟩
 subst c0
 go_wp2_with fail
 refine (CC.out _ HR1.out HS1.out).mono ?_
 rintro e w2 ⟨rfl,hb⟩
 have HB2:=hid (HB1.out.trans (hb.mono HB1.out.size))
 clear hb n0 n1 n2 n3 CC
 by_cases d0:d=0
 case neg =>
  have HE:=hid (H2.out trivial d0)
  have c1':(d == 0)=false:=by simpa using d0
  have c1n:(d != 0)=true:=by simpa using d0
  clear d0 H1 H2 H3 H4
  go_wp2
  go_ret
  exact ⟨retI HE.out.symm,HB2.out⟩
 subst d0
 by_cases e0:x=y
 ·have HE:=hid (H4.out trivial rfl e0)
  have e1:(x != y)=false:=by simpa using e0
  clear e0 H1 H2 H3 H4
  go_wp2
  go_ret
  exact ⟨retI HE.out.symm,HB2.out⟩
 ·have HE:=hid (H3.out trivial rfl e0)
  have e1:(x != y)=true:=by simpa using e0
  clear e0 H1 H2 H3 H4
  go_wp2
  go_ret
  exact ⟨retI HE.out.symm,HB2.out⟩
end Ne
namespace Ne

theorem same_any (a1 a2:Option Addr) (c1 c2:Nat) (l1 l2:List Int) (w:World) (r1:IRow w a1 l1) (r2:IRow w a2 l2) (h1:l1.length≤1099511627776) (h2:l2.length≤1099511627776) :
  Calls Tryz.prog 17 #[.slice a1 l1.length c1,.slice a2 l2.length c2] w fun e w'=>e=.returned (.bool (decide (l1=l2)))∧Below w.heap.size w w':=by
 by_cases hl:l1.length=l2.length
 ·have hne:((l1.length:Int) == (l2.length:Int))=true:=by simp;omega
  have HL:=hid hl
  rw [← hl] at hne ⊢
  clear hne hl
  have R1:=hid r1
  have R2:=hid r2
  clear r1 r2
  go_enter Tryz.func17,Tryz.ntmps17
  go_wp2
  go_loopw [5] (fun i wr=>∃ (k q:Nat),k≤l1.length∧i=.int .i64 k∧wr=w.drewN q∧l1.take k=l2.take k) (fun i _=>l1.length-(intOf i).toNat)
  case atStart=>exact ⟨0,0,Nat.zero_le _,rfl,rfl,by simp⟩
  case round =>
   obtain ⟨k,q,hk,rfl,rfl,he⟩:=hrel
   by_cases hlt:k<l1.length
   ·obtain ⟨x,g1⟩:∃ x,l1[k]? = some x:=⟨_,List.getElem?_eq_getElem hlt⟩
    obtain ⟨y,g2⟩:∃ y,l2[k]? = some y:=⟨_,List.getElem?_eq_getElem (by have:=HL.out;omega)⟩
    rcases R1.out with h | ⟨b1,o1,rfl,_,k1⟩
    ·rw [h] at hlt;simp at hlt
    rcases R2.out with h | ⟨b2,o2,rfl,_,k2⟩
    ·exfalso;have:=HL.out;rw [h] at this;rw [this] at hlt;simp at hlt
    have hc1:=irow_at k1 g1
    have hc2:=irow_at k2 g2
    clear k1 k2
    by_cases hxy:x=y
    ·have HN:=hid (take_succ_eq he g1 g2 hxy)
     subst hxy
     clear he g1 g2
     go_wp2
     go_quiet (fail)
     go_wp2
     go_roundw
     case rel=>exact ⟨k+1,q+nq,by omega,by go_num,rfl,HN.out⟩
     case measure=>simp [intOf];omega
    ·have HN:=hid (ne_at g1 g2 hxy)
     have hxy':(x == y)=false:=by simpa using hxy
     clear he g1 g2 hxy
     go_wp2
     go_quiet (fail)
     go_wp2
     go_ret
     exact ⟨retB (decide_eq_false HN.out).symm,(below_drewN w q).trans ⟨rfl,rfl,rfl,Nat.le_refl _,fun _ _=>rfl⟩⟩
   ·have ek:k=l1.length:=by omega
    subst ek
    have t2:l2.take l1.length=l2:=by rw [HL.out];exact List.take_length
    rw [List.take_length,t2] at he
    have HN:=hid he
    clear t2
    clear he hlt
    go_wp2
    go_ret
    exact ⟨retB (decide_eq_true HN.out).symm,below_drewN _ _⟩
 ·have hne:((l1.length:Int) == (l2.length:Int))=false:=by simp;omega
  have HN:=hid (show l1≠l2 from fun h=>hl (by rw [h]))
  clear hl r1 r2
  go_enter Tryz.func17,Tryz.ntmps17
  go_wp2
  go_ret
  exact ⟨retB (decide_eq_false HN.out).symm,Below.refl _ _⟩

end Ne
namespace Ne
def net14:Net:=⟨3,1,3,[⟨1,2,5⟩,⟨2,3,3⟩]⟩
theorem net14_reach:IsReach net14 [3,3] 1 [false,true,true,false]:=by
 refine ⟨rfl,rfl,fun i hi=>?_,fun r hr hx hm=>?_⟩
 ·match i,hi with
  | 0,hi=>cases hi
  | 1,_=>exact .base (n:=net14)
  | 2,_=>exact Rch.step (n:=net14) (r:=0) (by decide) (by decide) .base
  | 3,hi=>cases hi
  | (i+4),hi=>simp at hi
 ·have hr2:r<4:=hr
  match r,hr2 with
  | 0,_=>rfl
  | 1,_=>rfl
  | 2,_=>exact absurd hx (by decide)
  | 3,_=>rfl
theorem arow_pair (w:World) {b:Nat} (hb:b=w.heap.size) (a c:Arc) (t:TypeId):ARow (w.alloc (.cells #[.int .i64 a.fr,.int .i64 a.to,.int .i64 a.cap,.int .i64 c.fr,.int .i64 c.to,.int .i64 c.cap] t)) (some ⟨b,0,none⟩) [a,c]:=by
 subst hb
 refine .inr ⟨w.heap.size,0,rfl,by simp,?_⟩
 intro i z hi j v hv
 have h:=fun k=>World.cell?_alloc_new w #[.int .i64 a.fr,.int .i64 a.to,.int .i64 a.cap,.int .i64 c.fr,.int .i64 c.to,.int .i64 c.cap] t k
 match i,hi with
 | 0,hi =>
  simp at hi;subst hi
  match j,hv with
  | 0,hv=>simp [encA] at hv;subst hv;exact h 0
  | 1,hv=>simp [encA] at hv;subst hv;exact h 1
  | 2,hv=>simp [encA] at hv;subst hv;exact h 2
  | (j+3),hv=>simp [encA] at hv
 | 1,hi =>
  simp at hi;subst hi
  match j,hv with
  | 0,hv=>simp [encA] at hv;subst hv;exact h 3
  | 1,hv=>simp [encA] at hv;subst hv;exact h 4
  | 2,hv=>simp [encA] at hv;subst hv;exact h 5
  | (j+3),hv=>simp [encA] at hv
 | (i+2),hi=>simp at hi
theorem irow_two (w:World) {b:Nat} (hb:b=w.heap.size) (x y:Int) (t:TypeId):IRow (w.alloc (.cells #[.int .i64 x,.int .i64 y] t)) (some ⟨b,0,none⟩) [x,y]:=by
 subst hb
 refine .inr ⟨w.heap.size,0,rfl,by simp,fun i z hz j v hv=>?_⟩
 have h:(w.alloc (.cells #[.int .i64 x,.int .i64 y] t)).heap[w.heap.size]? = some (.cells #[.int .i64 x,.int .i64 y] t (0,0)):=by show (w.heap.push _)[w.heap.size]? = _;simp
 match j,hv with
 | 0,hv =>
  simp [encI] at hv;subst hv
  unfold World.cell?
  match i,hz with
  | 0,hz=>simp at hz;subst hz;rw [show 0+(0*1+0)=0 from rfl];simp only [h];rfl
  | 1,hz=>simp at hz;subst hz;rw [show 0+(1*1+0)=1 from rfl];simp only [h];rfl
  | (i+2),hz=>simp at hz
 | (j+1),hv=>simp [encI] at hv
theorem shown_any (w:World):Calls Tryz.prog 6 #[] w fun e w'=>e=.returned (.bool true)∧Below w.heap.size w w':=by
 have hA:=arow_pair w rfl ⟨1,2,5⟩ ⟨2,3,3⟩ 51
 have HB1:=hid ((Below.refl w.heap.size w).alloc (Nat.le_refl _) (.cells #[.int .i64 1,.int .i64 2,.int .i64 5,.int .i64 2,.int .i64 3,.int .i64 3] 51))
 have HB2:=hid (HB1.out.alloc HB1.out.size (.cells #[.int .i64 3,.int .i64 3] 2))
 have hA2:=hA.kept ((Below.refl _ _).alloc (Nat.le_refl _) (.cells #[.int .i64 3,.int .i64 3] 2))
 have hI:=irow_two (w.alloc (.cells #[.int .i64 1,.int .i64 2,.int .i64 5,.int .i64 2,.int .i64 3,.int .i64 3] 51)) (b:=w.heap.size+1) (by simp) 3 3 2
 have C:=hid (first_any net14 (some ⟨w.heap.size,0,none⟩) 2 (some ⟨w.heap.size+1,0,none⟩) 2 [3,3] _ hA2 hI (by decide) (by simp [net14,in64]) [false,true,true,false] (fun _=>net14_reach))
 rw [show firV net14 [3,3] [false,true,true,false]=[1,2] by decide,show firE net14 [3,3] [false,true,true,false]=0 by decide] at C
 unfold net14 at C
 clear hA hA2 hI
 go_enter Tryz.func6,Tryz.ntmps6
 go_wp2_with fail
 refine C.out.mono ?_
 rintro e w1 ⟨o,c,rfl,ho,hb⟩
 have HB3:=hid (HB2.out.trans (hb.mono HB2.out.size))
 have HI:=hid (own_irow ho)
 have HB4:=hid (HB3.out.alloc HB3.out.size (.cells #[.int .i64 1,.int .i64 2] 3))
 have HI2:=hid (HI.out.kept ((Below.refl w1.heap.size w1).alloc (Nat.le_refl _) (.cells #[.int .i64 1,.int .i64 2] 3)))
 have HS:=hid (same_any o (some ⟨w1.heap.size,0,none⟩) c 2 [1,2] [1,2] _ HI2.out (irow_two w1 rfl 1 2 3) (by decide) (by decide))
 rw [show decide ([(1:Int),2]=[1,2])=true by decide] at HS
 clear hb ho
 go_wp2_with fail
 refine HS.out.mono ?_
 rintro e w2 ⟨rfl,hb⟩
 have HB5:=hid (HB4.out.trans (hb.mono HB4.out.size))
 clear hb
 go_wp2
 go_ret
 exact ⟨rfl,HB5.out⟩
end Ne
namespace Ne
theorem has_at {S:List Int} {v:Int} {j:Nat} (hj:j<S.length) (h:amt S j=v):hasL S v=true:=by
 unfold hasL;rw [decide_eq_true_eq,← h]
 rw [show amt S j=S[j] by simp [amt,hj]];exact List.getElem_mem hj
theorem has_no {S:List Int} {v:Int} (h:∀ i,i<S.length→amt S i≠v):hasL S v=false:=by
 unfold hasL
 refine decide_eq_false fun hm=>?_
 obtain ⟨i,hi,e⟩:=List.getElem_of_mem hm
 exact h i hi (by simp [amt,hi,e])
theorem rhas_any (so:Option Addr) (sc:Nat) (S:List Int) (v:Int) (w:World) (hs:IRow w so S) (hl:S.length≤1000000) :
  Calls Tryz.prog 15 #[.slice so S.length sc,.int .i64 v] w fun e w'=>e=.returned (.bool (hasL S v))∧w=w':=by
 have HS:=hid hs
 have HY:=hid (fun (j:Nat) h=>has_at (S:=S) (v:=v) (j:=j) h)
 have HN:=hid (has_no (S:=S) (v:=v))
 clear hs
 generalize hasL S v=b at *
 go_enter Tryz.func15,Tryz.ntmps15
 go_wp2
 go_loop [5] (fun i=>∃ j:Nat,i=.int .i64 j∧j≤S.length∧Hid (∀ i,i<j→amt S i≠v)) (fun i=>S.length-(intOf i).toNat)
 case atStart=>exact ⟨0,rfl,Nat.zero_le _,hid (fun i hi=>absurd hi (by omega))⟩
 case round =>
  obtain ⟨j,rfl,hj,HP⟩:=hrel
  by_cases hlt:j<S.length
  ·obtain ⟨b9,off,rfl,hb9,d0⟩:=irow_cell HS.out hlt
   have HYJ:=hid (HY.out j hlt)
   have HPJ:=hid (show amt S j≠v→∀ i,i<j+1→amt S i≠v from fun h i hi=>by
    by_cases e:i=j
    ·rw [e];exact h
    ·exact HP.out i (by omega))
   generalize amt S j=x at *
   have hji:(j:Int)<(S.length:Int):=by omega
   have hj0:(0:Int)≤(j:Int):=by omega
   by_cases e:x=v
   ·have e':(x == v)=true:=by simp [e]
    have HB:=hid (HYJ.out e)
    clear HYJ HPJ e HY HN
    go_wp2
    go_ret
    rw [HB.out]
    exact ⟨rfl,rfl⟩
   ·have e':(x == v)=false:=by simp [e]
    have HP2:=hid (HPJ.out e)
    clear HYJ HPJ e HY HN
    go_wp2
    go_round
    case rel=>exact ⟨j+1,by go_num,by omega,HP2⟩
    case measure=>simp [intOf];omega
  ·have ej:j=S.length:=by omega
   subst ej
   have HB:=hid (HN.out HP.out)
   clear hlt hj HY HN
   go_wp2
   go_ret
   rw [HB.out]
   exact ⟨rfl,rfl⟩
end Ne
namespace Ne
end Ne
end Go.Proofs.YthhlfphnokdfaaaGreat
namespace Go.Proofs.YthhlfphnokdfaaaGreat
namespace Ne
theorem nodes_at (p:Nat→Bool) {n v:Int} (h:1≤v) (h2:v≤n):hasL (nodesTo p n.toNat) v=p v.toNat:=nodes_has h (by omega)
theorem nodes_cut {n:Net} (ck:checkN n=0) {p:Nat→Bool} (hs:p n.s.toNat=true) (ht:p n.t.toNat=false):cutE n (nodesTo p n.n.toNat)=0:=by
 have hR:=right_of ck
 have hr:=nodes_rise p n.n.toNat
 rw [show ((n.n.toNat:Nat):Int)=n.n by have:=hR.n0;omega] at hr
 exact cutE_fine ck hr (by rw [nodes_at p hR.s0 hR.s1];exact hs) (by rw [nodes_at p hR.t0 hR.t1];exact ht)
end Ne
end Go.Proofs.YthhlfphnokdfaaaGreat
