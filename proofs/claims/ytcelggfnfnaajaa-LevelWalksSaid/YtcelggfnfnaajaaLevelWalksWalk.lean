/- LevelWalks: for every input the law returns true and its arguments read as they did. No condition. -/
import Derived.Deep.CutBlock
import Derived.Test.YtcelggfnfnaajaaRfl7
import Derived.Test.YtcelggfnfnaajaaOpenc
import Derived.Deep.LoopGhost
import Derived.Deep.DeepCutAuto
import Derived.Test.YtcelggfnfnaajaaRows
import Derived.WalkKit
import Derived.ProofKit
import Derived.OpenShut
import Derived.ShutString
import Derived.ChangeOld
import Derived.Below
import Derived.Deep.Strs
namespace Go.Proofs.Ytcelggfnfnaajaa.levelWalks
open Go.ChangeShapes Go.WideShapes Go.ChangeAt Go.RowKit
open Go.ChangeMaps (open_string shut_string)
set_option linter.unusedVariables false
set_option linter.unusedSimpArgs false

theorem own : ownKnob Try.prog.godebug = none := by kernel_rfl
theorem laidOut : laidOutB Try.prog = true := by kernel_rfl

def IntsIn (k : IntKind) (w : World) (a : Option Addr) (len cap : Nat) (zs : List Int) : Prop :=
  (a = none ∧ len = 0 ∧ cap = 0 ∧ zs = []) ∨
  ∃ x, a = some x ∧ len ≤ cap ∧ cap ≤ maxLen ∧ zs.length = cap ∧ (∀ i, i < zs.length → w.cell? (x.add i) = some (.int k (zs.getD i 0))) ∧ ∀ n ∈ zs, (Lit.int k n).wf = true

/-- what stands behind q tracks that are gone by: the node ahead of v -/
def Back (TF TT : Nat → Nat) (TL : List Nat) (v q nx : Nat) : Prop := (nx = 0 ∧ ∀ i, i < q → TT (TL.getD i 0) ≠ v) ∨ ∃ i, i < q ∧ TT (TL.getD i 0) = v ∧ nx = TF (TL.getD i 0)
theorem back_hit {TF TT : Nat → Nat} {TL : List Nat} {v q nx r : Nat} (h : Back TF TT TL v q nx) (hr : TL.getD q 0 = r) (e : TT r = v) : Back TF TT TL v (q + 1) (TF r) := .inr ⟨q, by omega, by rw [hr, e], by rw [hr]⟩
theorem back_miss {TF TT : Nat → Nat} {TL : List Nat} {v q nx r : Nat} (h : Back TF TT TL v q nx) (hr : TL.getD q 0 = r) (e : TT r ≠ v) : Back TF TT TL v (q + 1) nx := by
  rcases h with ⟨h1, h2⟩ | ⟨i, h1, h2, h3⟩
  · refine .inl ⟨h1, fun i hi => ?_⟩
    by_cases c : i = q
    · rw [c, hr]; exact e
    · exact h2 i (by omega)
  · exact .inr ⟨i, by omega, h2, h3⟩
theorem back_end {n : Ne.Net} {f : List Int} {x : Int} {L : List Int} (hR : Ne.Right n) (h : Ne.IsLev n f x L) {v nx k : Nat} (hv : v < n.n.toNat + 1) (e : Ne.amt L v = ((k + 1 : Nat) : Int))
    (hB : Back (fun r => (Ne.trF n.l r).toNat) (fun r => (Ne.trT n.l r).toNat) (Ne.leadL n.l f x L (2 * n.l.length)) v (Ne.leadL n.l f x L (2 * n.l.length)).length nx) : 1 ≤ nx ∧ nx < n.n.toNat + 1 ∧ Ne.amt L nx = (k : Int) := by
  rcases hB with ⟨_, h2⟩ | ⟨i, h1, h2, h3⟩
  · obtain ⟨r, hr, ht, _⟩ := Ne.lead_to hR h hv e
    obtain ⟨i, hi, rfl⟩ := List.mem_iff_getElem.1 hr
    exact absurd ht (by have := h2 i hi; simpa [List.getD_eq_getElem?_getD, hi] using this)
  · obtain ⟨_, _, g3, _, g5, _, g7, g8, _⟩ := Ne.lead_says hR h (Ne.getD_mem h1)
    simp only at h2
    rw [h2] at g8
    simp only at h3
    rw [h3]
    exact ⟨g5, g3, by omega⟩

set_option maxRecDepth 100000 in
set_option maxHeartbeats 4000000 in
theorem walk (a0 : Int) (a1 : Int) (a2 : List Ne.Arc) (o2 : Option Addr) (c2 : Nat) (a3 : Option Addr) (len3 cap3 : Nat) (l3 : List Int) (a4 : Option Addr) (len4 cap4 : Nat) (l4 : List Int) (w : World) (w0 : (Lit.int .i64 a0).wf = true) (w1 : (Lit.int .i64 a1).wf = true) (k2 : ∀ a ∈ a2, Ne.Arc.ok a) (z2 : a2.length ≤ c2) (y2 : c2 ≤ maxLen) (n2 : o2 = none → c2 = 0) (r2 : Ne.ARow w o2 a2) (w3 : IntsIn .i64 w a3 len3 cap3 l3) (w4 : IntsIn .i64 w a4 len4 cap4 l4) :
    Calls Try.prog 5 #[.int .i64 a0, .int .i64 a1, .slice o2 a2.length c2, .slice a3 len3 cap3, .slice a4 len4 cap4] w fun e w' => e = .returned (.bool true) ∧ Below w.heap.size w w' := by
  have HSH := Lib.hid (Ne.shown_any w)
  obtain ⟨mn, hmn⟩ : ∃ x, x = (Ne.madeN a0 a1 a2).n := ⟨_, rfl⟩
  obtain ⟨ms, hms⟩ : ∃ x, x = (Ne.madeN a0 a1 a2).s := ⟨_, rfl⟩
  obtain ⟨mt, hmt⟩ : ∃ x, x = (Ne.madeN a0 a1 a2).t := ⟨_, rfl⟩
  obtain ⟨ml, hml⟩ : ∃ x, x = (Ne.madeN a0 a1 a2).l := ⟨_, rfl⟩
  have em : Ne.madeN a0 a1 a2 = ⟨mn, ms, mt, ml⟩ := by rw [hmn, hms, hmt, hml]
  obtain ⟨f1, f2, f3, f4, f5, f6, f7, f8, f9⟩ := Ne.madeN_fine (nodes := a0) (ends := a1) k2
  have ck := Ne.made_check (nodes := a0) (ends := a1) k2
  have MD := Lib.hid fun w' (h : Ne.ARow w' o2 a2) => Ne.made_s a0 a1 a2 o2 c2 w' (bounds_i64 w0) (bounds_i64 w1) k2 h
  rw [em] at MD f1 f2 f3 f4 f5 f6 f7 f8 f9 ck
  simp only at f1 f2 f3 f4 f5 f6 f7 f8 f9
  clear hmn hms hmt hml em
  have f8' : ml.length ≤ 24 := by omega
  clear f8
  have CK := Lib.hid ck
  have RT := Lib.hid (Ne.right_of ck)
  have FI := Lib.hid f9
  have CAP := Lib.hid (show ∀ a ∈ ml, Ne.in64 a.cap from fun a ha => by have := (f9 a ha).2.2; unfold Ne.in64; omega)
  have hl6 : ml.length ≤ 1000000 := by omega
  have F7 := Lib.hid f7
  have RA := Lib.hid r2
  clear r2 f7 f9 ck
  obtain ⟨N, rfl⟩ : ∃ N : Nat, mn = (N : Int) := ⟨mn.toNat, by omega⟩
  obtain ⟨S, rfl⟩ : ∃ S : Nat, ms = (S : Int) := ⟨ms.toNat, by omega⟩
  obtain ⟨D, rfl⟩ : ∃ D : Nat, mt = (D : Int) := ⟨mt.toNat, by omega⟩
  obtain ⟨ks, hk3, hq3, bq3, _, _, _⟩ := Ne.ints_row w3
  subst hk3
  clear w3
  have BK3 := Lib.hid bq3
  have KR3 := Lib.hid hq3
  clear bq3 hq3
  obtain ⟨st, hk4, hq4, bq4, _, _, _⟩ := Ne.ints_row w4
  subst hk4
  clear w4
  have BK4 := Lib.hid bq4
  have KR4 := Lib.hid hq4
  clear bq4 hq4
  by_cases g1 : 60 < st.length
  · have g1' : (60 : Int) < (st.length : Int) := by omega
    go_enter Try.func5, Try.ntmps5
    go_wp2_with fail
    refine HSH.out.mono ?_
    rintro e w1 ⟨rfl, hb⟩
    have HB1 := Lib.hid hb
    clear hb
    go_wp2
    go_ret
    exact ⟨rfl, HB1.out⟩
  have g1' : ¬ (60 : Int) < (st.length : Int) := by omega
  have lst : st.length ≤ 60 := by omega
  go_enter Try.func5, Try.ntmps5
  go_wp2_with fail
  refine HSH.out.mono ?_
  rintro e w1 ⟨rfl, hb⟩
  have HB1 := Lib.hid hb
  clear hb
  go_wp2_with fail
  refine (MD.out _ (RA.out.kept HB1.out)).mono ?_
  rintro e w2 ⟨om, cm, rfl, ho, hb⟩
  have HB2 := Lib.hid (HB1.out.trans (hb.mono HB1.out.size))
  have HV2 := Lib.hid (Rw.own_lt ho)
  have HO3 := Lib.hid (Rw.own_base (Rw.own_alloc ho (.cells #[.int .i64 (N : Int), .int .i64 (S : Int), .int .i64 (D : Int), .slice om ml.length cm] 24)) (B' := w.heap.size) HB1.out.size)
  have HN3 := Lib.hid (Ne.netBox_new w2 (N : Int) (S : Int) (D : Int) (.slice om ml.length cm))
  have hz2 : w.heap.size ≤ w2.heap.size := HB2.out.size
  have HB3 := Lib.hid (HB2.out.alloc hz2 (.cells #[.int .i64 (N : Int), .int .i64 (S : Int), .int .i64 (D : Int), .slice om ml.length cm] 24))
  clear ho hb MD RA HSH
  go_wp2_with fail
  obtain ⟨bn, hbn⟩ : ∃ b, b = w2.heap.size := ⟨_, rfl⟩
  have hbn3 : bn < (w2.alloc (.cells #[.int .i64 (N : Int), .int .i64 (S : Int), .int .i64 (D : Int), .slice om ml.length cm] 24)).heap.size := by rw [hbn]; simp
  rw [← hbn] at HN3 HV2 hz2 ⊢
  clear hbn HB2 HB1
  generalize (w2.alloc (.cells #[.int .i64 (N : Int), .int .i64 (S : Int), .int .i64 (D : Int), .slice om ml.length cm] 24)) = W3 at *
  have HR3 := Lib.hid (Ne.arow_ofA HO3.out)
  obtain ⟨f, hf⟩ : ∃ x, x = Ne.routeN ⟨(N : Int), (S : Int), (D : Int), ml⟩ ks := ⟨_, rfl⟩
  have FL := Lib.hid (show Ne.Flow ⟨(N : Int), (S : Int), (D : Int), ml⟩ f by rw [hf]; exact Ne.route_flow RT.out _)
  have RD := Lib.hid fun w' h1 h2 => Ne.routed_any ⟨(N : Int), (S : Int), (D : Int), ml⟩ om cm a3 cap3 ks w' h1 h2 CK.out BK3.out
  rw [← hf] at RD
  refine (RD.out _ HR3.out (KR3.out.kept HB3.out)).mono ?_
  rintro e w4 ⟨fb, rfl, hfb, hl, hb⟩
  have HB4 := Lib.hid (HB3.out.trans (hb.mono HB3.out.size))
  have HN4 := Lib.hid (Ne.netBox_below HN3.out hb (Ne.netBox_lt HN3.out))
  have HO4 := Lib.hid (Rw.own_below HO3.out hb)
  have HR4 := Lib.hid (HR3.out.kept hb)
  have HFB4 := Lib.hid hl
  have hfb2 := hl.lt
  clear hl hb
  have HL4 := Lib.hid HFB4.out
  have HFB := Lib.hid hfb
  have HST := Lib.hid (KR4.out.kept HB4.out)
  obtain ⟨L1, hl1⟩ := Ne.lev_exists RT.out f 1
  have RM := Lib.hid fun w' h1 h2 => Ne.room_flow (n := ⟨(N : Int), (S : Int), (D : Int), ml⟩) (f := f) om cm (some ⟨fb, 0, none⟩) ml.length w' CK.out h1 h2 FL.out
  have DP := Lib.hid fun w' h1 h2 => Ne.deep_flow (n := ⟨(N : Int), (S : Int), (D : Int), ml⟩) (f := f) om cm (some ⟨fb, 0, none⟩) ml.length w' CK.out h1 h2 FL.out 1 (by omega) hl1
  have LX := Lib.hid fun w' h1 h2 => Ne.levels_flow (n := ⟨(N : Int), (S : Int), (D : Int), ml⟩) (f := f) om cm (some ⟨fb, 0, none⟩) ml.length w' CK.out h1 h2 FL.out 1 (by omega) hl1
  have LD := Lib.hid fun w' h1 h2 => Ne.leads_flow (n := ⟨(N : Int), (S : Int), (D : Int), ml⟩) (f := f) om cm (some ⟨fb, 0, none⟩) ml.length w' CK.out h1 h2 FL.out 1 (by omega) hl1
  have FR := Lib.hid fun (v : Int) w' h1 => Ne.dfrom_s ⟨(N : Int), (S : Int), (D : Int), ml⟩ om cm v w' h1 hl6
  have HEN := Lib.hid fun (r : Nat) (h : r < 2 * ml.length) w' h1 => show Calls Try.prog 23 #[Ne.encN ⟨(N : Int), (S : Int), (D : Int), ml⟩ om cm, .int .i64 (r : Int)] w' fun e w2 => e = .returned (.tuple #[.int .i64 (((Ne.trF ml r).toNat : Nat) : Int), .int .i64 (((Ne.trT ml r).toNat : Nat) : Int)]) ∧ Below w'.heap.size w' w2 by
    have := Ne.ends_at ⟨(N : Int), (S : Int), (D : Int), ml⟩ om cm r w' h1 hl6 h
    have hb := Ne.trT_bd RT.out (r := r) h
    have hb2 := Ne.trF_bd RT.out (r := r) h
    simp only at hb hb2
    rwa [show (((Ne.trT ml r).toNat : Nat) : Int) = Ne.trT ml r by omega, show (((Ne.trF ml r).toNat : Nat) : Int) = Ne.trF ml r by omega]
  have HMEM := Lib.hid (fun (v : Nat) r (h : r ∈ Ne.fromL ml (v : Int) (2 * ml.length)) => show r < 2 * ml.length ∧ Ne.trF ml r = (v : Int) from Ne.fromL_mem.1 h)
  have HTB := Lib.hid (fun r (h : r < 2 * ml.length) => show 1 ≤ (Ne.trT ml r).toNat ∧ (Ne.trT ml r).toNat < N + 1 by have := Ne.trT_bd RT.out (r := r) h; simp only at this; omega)
  have HFL2 := Lib.hid (fun (v : Int) => Ne.fromL_len ml v (2 * ml.length))
  have HRO := Lib.hid (fun r (h : r < 2 * ml.length) => Ne.roomL_at ml f h)
  have HRLN := Lib.hid (Ne.roomL_len ml f (2 * ml.length))
  have HD0 := Lib.hid (show Ne.Dst ⟨(N : Int), (S : Int), (D : Int), ml⟩ f 1 0 (S : Int) from .base)
  have HDS := Lib.hid (fun (k r u : Nat) (h : Ne.Dst ⟨(N : Int), (S : Int), (D : Int), ml⟩ f 1 k (u : Int)) (hr : r < 2 * ml.length) (hf : Ne.trF ml r = (u : Int)) (hx : 0 < Ne.roomN ml f r) => show Ne.Dst ⟨(N : Int), (S : Int), (D : Int), ml⟩ f 1 (k + 1) (((Ne.trT ml r).toNat : Nat) : Int) by
    have hb := Ne.trT_bd RT.out (r := r) hr
    simp only at hb
    rw [show (((Ne.trT ml r).toNat : Nat) : Int) = Ne.trT ml r by omega]
    exact Ne.Dst.step (n := ⟨(N : Int), (S : Int), (D : Int), ml⟩) (f := f) (x := 1) hr (by show 1 ≤ Ne.roomN ml f r; omega) (by rw [← hf] at h; exact h))
  have HLW := Lib.hid (fun (m u : Nat) (h : Ne.Dst ⟨(N : Int), (S : Int), (D : Int), ml⟩ f 1 m (u : Int)) => show 0 ≤ Ne.amt L1 u ∧ Ne.amt L1 u ≤ (m : Int) by have := hl1.low m _ h; simpa using this)
  have HBE := Lib.hid (fun (v nx k : Nat) (hv : v < N + 1) e hB => back_end (v := v) (nx := nx) (k := k) RT.out hl1 (by simpa using hv) e hB)
  have HON := Lib.hid (fun (v : Nat) (hv : v < N + 1) e => Ne.lev_only RT.out hl1 (i := v) (by simpa using hv) e)
  have HLSA := Lib.hid (fun r (h : r ∈ Ne.leadL ml f 1 L1 (2 * ml.length)) => (Ne.leadL_mem.1 h).1)
  have HL1 := Lib.hid (show L1.length = N + 1 by have := hl1.len; simpa using this)
  have HLV := Lib.hid (fun (i : Nat) (h : i < N + 1) => show -1 ≤ Ne.amt L1 i ∧ Ne.amt L1 i < (N : Int) from Ne.lev_lt RT.out hl1 (i := i) (by simpa using h))
  simp only [Int.toNat_natCast] at DP LX LD HBE
  clear hl1
  generalize hDS : Ne.Dst ⟨(N : Int), (S : Int), (D : Int), ml⟩ f 1 = DS at *
  clear hDS
  have hTLB := Ne.leadL_len ml f 1 L1 (2 * ml.length)
  obtain ⟨TL, hTL⟩ : ∃ T, Ne.leadL ml f 1 L1 (2 * ml.length) = T := ⟨_, rfl⟩
  rw [hTL] at hTLB LD HLSA HBE
  clear hTL
  have HTC := Lib.hid (fun (j : Nat) (h : j < TL.length) => Ne.encW_at (l := TL) h)
  have HTL := Lib.hid (Ne.encW_len TL)
  have HTM := Lib.hid (fun (j : Nat) (h : j < TL.length) => HLSA.out _ (Ne.getD_mem h))
  generalize Ne.roomL ml f (2 * ml.length) = RL at *
  generalize Ne.roomN ml f = RO at *
  generalize hTT : (fun r => (Ne.trT ml r).toNat) = TT at *
  have HTE := Lib.hid (show ∀ r, (Ne.trT ml r).toNat = TT r from fun r => by rw [← hTT])
  clear hTT
  generalize hTF : (fun r => (Ne.trF ml r).toNat) = TF at *
  have HTE2 := Lib.hid (show ∀ r, (Ne.trF ml r).toNat = TF r from fun r => by rw [← hTF])
  clear hTF
  simp only [HTE.out, HTE2.out] at HEN HTB HDS
  clear HTE HTE2 HLSA
  generalize Ne.trF ml = TFI at *
  have HFLN := Lib.hid FL.out.len
  have hdi : (D : Int) < (N : Int) + 1 := by omega
  have hdi2 : (D : Int) ≤ (N : Int) := by omega
  have hd0 : (0 : Int) ≤ (D : Int) := by omega
  obtain ⟨n0, n1, n2, n3⟩ := Ne.netBox_cells HN4.out
  go_wp2_with fail
  refine (RM.out w4 HR4.out HL4.out.irow).mono ?_
  rintro e w5 ⟨o5, c5, rfl, hi, hb⟩
  have HB5 := Lib.hid (HB4.out.trans (hb.mono HB4.out.size))
  have HN5 := Lib.hid (Ne.netBox_below HN4.out hb (Ne.netBox_lt HN4.out))
  have HR5 := Lib.hid (HR4.out.kept hb)
  have HL5 := Lib.hid (HL4.out.kept hb)
  have HM5 := Lib.hid hi
  clear hi
  clear hb n0 n1 n2 n3
  obtain ⟨n0, n1, n2, n3⟩ := Ne.netBox_cells HN5.out
  go_wp2_with fail
  refine (DP.out w5 HR5.out HL5.out.irow).mono ?_
  rintro e w6 ⟨rfl, hb⟩
  have HB6 := Lib.hid (HB5.out.trans (hb.mono HB5.out.size))
  have HN6 := Lib.hid (Ne.netBox_below HN5.out hb (Ne.netBox_lt HN5.out))
  have HR6 := Lib.hid (HR5.out.kept hb)
  have HL6 := Lib.hid (HL5.out.kept hb)
  have HM6 := Lib.hid (HM5.out.kept hb)
  clear HM5
  clear hb n0 n1 n2 n3
  obtain ⟨n0, n1, n2, n3⟩ := Ne.netBox_cells HN6.out
  go_wp2_with fail
  refine (LX.out w6 HR6.out HL6.out.irow).mono ?_
  rintro e w7 ⟨o7, c7, rfl, hi, hb⟩
  have HB7 := Lib.hid (HB6.out.trans (hb.mono HB6.out.size))
  have HN7 := Lib.hid (Ne.netBox_below HN6.out hb (Ne.netBox_lt HN6.out))
  have HR7 := Lib.hid (HR6.out.kept hb)
  have HL7 := Lib.hid (HL6.out.kept hb)
  have HM7 := Lib.hid (HM6.out.kept hb)
  have HX7 := Lib.hid hi
  clear HM6 hi
  clear hb n0 n1 n2 n3
  obtain ⟨n0, n1, n2, n3⟩ := Ne.netBox_cells HN7.out
  clear RM DP LX
  have HST7 := Lib.hid (KR4.out.kept HB7.out)
  obtain ⟨b0, o0, rfl, hb0, p0⟩ := Ne.irow_cell HX7.out (i := D) (by rw [HL1.out]; omega)
  have HX70 := HX7
  obtain ⟨hdl0, hdl1⟩ := HLV.out D (by omega)
  obtain ⟨d, hd⟩ : ∃ d, Ne.amt L1 D = d := ⟨_, rfl⟩
  rw [hd] at p0 hdl0 hdl1 ⊢
  have HDE := Lib.hid hd
  clear hd
  have hdd : (d != d) = false := by simp
  have hddn : (d == d) = true := by simp
  go_upto_block 0 with fail
  clear n0 n1 n2 n3 p0
  go_cut [20, 21] (fun s20 s21 wc => ∃ (u m : Nat), s20 = .int .i64 (u : Int) ∧ s21 = .int .i64 (m : Int) ∧ m ≤ 60 ∧ Hid (DS m (u : Int)) ∧ Hid (Below w7.heap.size w7 wc))
  case first =>
    go_wp2_with fail
    go_loopg [20, 21, 22] st.length (fun g s20 s21 i wr => ∃ (u m j : Nat), s20 = .int .i64 (u : Int) ∧ s21 = .int .i64 (m : Int) ∧ i = .int .i64 j ∧ j + g = st.length ∧ m ≤ j ∧ Hid (DS m (u : Int)) ∧ Hid (Below w7.heap.size w7 wr))
    case atStart => exact ⟨S, 0, 0, rfl, rfl, rfl, by omega, Nat.le_refl _, HD0, Lib.hid (Below.refl _ _)⟩
    case round =>
      obtain ⟨u, m, j, rfl, rfl, rfl, hjg, hmj, HDM, HQ⟩ := hrel
      have HN8 := Lib.hid (Ne.netBox_below HN7.out HQ.out (Ne.netBox_lt HN7.out))
      obtain ⟨n0, n1, n2, n3⟩ := Ne.netBox_cells HN8.out
      by_cases hj : j < st.length
      case neg =>
        have h1 : ¬ (j : Int) < (st.length : Int) := by omega
        have h1d : decide (j < st.length) = false := decide_eq_false hj
        go_wp2
        go_meet
        case rel => exact ⟨u, m, rfl, rfl, by omega, HDM, HQ⟩
      have hji : (j : Int) < (st.length : Int) := by omega
      have hj0 : (0 : Int) ≤ (j : Int) := by omega
      by_cases hud : u = D
      · have h1n : ((u : Int) != (D : Int)) = false := by simp; omega
        have h1 : ((u : Int) == (D : Int)) = true := by simp; omega
        have h2n : (u != D) = false := by simp; omega
        subst hud
        go_wp2
        go_meet
        case rel => exact ⟨u, m, rfl, rfl, by omega, HDM, HQ⟩
      have h1n : ((u : Int) != (D : Int)) = true := by simp; omega
      have h1 : ((u : Int) == (D : Int)) = false := by simp; omega
      have h2n : (u != D) = true := by simp; omega
      go_wp2_with fail
      refine (FR.out (u : Int) wr (HR7.out.kept HQ.out)).mono ?_
      rintro e w8 ⟨bt0, ct, rfl, hft, hb⟩
      have HFT := Lib.hid hft
      have HQ8 := Lib.hid (HQ.out.trans (hb.mono HQ.out.size))
      have HTLN := Lib.hid (HFL2.out (u : Int))
      have HTM2 := Lib.hid (HMEM.out u)
      clear hb hft n0 n1 n2 n3 HN8
      generalize Ne.fromL ml (u : Int) (2 * ml.length) = FT at *
      obtain ⟨tl, htl0⟩ : ∃ tl, tl = FT.length := ⟨_, rfl⟩
      rw [← htl0]
      have HTLE := Lib.hid htl0
      have htle := HTLN.out
      rw [← htl0] at htle
      clear htl0
      by_cases htl : tl = 0
      · subst htl
        go_wp2
        go_meet
        case rel => exact ⟨u, m, rfl, rfl, by omega, HDM, HQ8⟩
      have htl1 : 0 < tl := by omega
      have hne : ((tl : Int) == 0) = false := by rw [beq_eq_false_iff_ne]; omega
      have hne2 : (tl == 0) = false := by simpa using htl
      obtain ⟨b4, o4, e4, hb4, d0⟩ := Ne.irow_cell (HST7.out.kept HQ8.out) hj
      subst e4
      have hraw := BK4.out (Ne.amt st j) (by have := Ne.at_amt hj; exact List.mem_of_getElem? this)
      generalize Ne.amt st j = raw at *
      have PK := Lib.hid fun w' => Ne.pick_any raw (tl : Int) w' hraw.1 hraw.2 (by omega) (by omega)
      have bpk := Ne.pickN_bd (c := raw) (n := (tl : Int)) (by omega)
      generalize Ne.pickN raw (tl : Int) = pk at *
      obtain ⟨q, rfl⟩ : ∃ q : Nat, pk = (q : Int) := ⟨pk.toNat, by omega⟩
      have hqt : q < tl := by omega
      have hql : q < FT.length := by rw [← HTLE.out]; exact hqt
      obtain ⟨bt, ot, rfl, hbt, t0⟩ := Ne.irow_cell HFT.out (i := q) (by rw [Ne.encW_len]; exact hql)
      rw [Ne.encW_at hql] at t0
      have hrT := Ne.getD_mem hql
      obtain ⟨r, hr⟩ : ∃ r, FT.getD q 0 = r := ⟨_, rfl⟩
      rw [hr] at t0 hrT
      clear hr
      obtain ⟨hr2, hrf⟩ := HTM2.out r hrT
      have EN := Lib.hid (HEN.out r hr2)
      obtain ⟨htn1, htn⟩ := HTB.out r hr2
      have HDN := Lib.hid (HDS.out m r u HDM.out hr2 hrf)
      obtain ⟨br, orr, rfl, hbr, e1⟩ := Ne.irow_cell (HM7.out.kept HQ8.out) (i := r) (by rw [HRLN.out]; exact hr2)
      rw [HRO.out r hr2] at e1
      generalize RO r = ro at *
      generalize TT r = tn at *
      generalize TF r = y at *
      have hri : (r : Int) < 2 * (ml.length : Int) := by omega
      have hr0 : (0 : Int) ≤ (r : Int) := by omega
      have hqi : (q : Int) < (tl : Int) := by omega
      have hq0 : (0 : Int) ≤ (q : Int) := by omega
      clear hrf hrT hql htn htn1
      obtain ⟨n0, n1, n2, n3⟩ := Ne.netBox_cells (Ne.netBox_below HN7.out HQ8.out (Ne.netBox_lt HN7.out))
      go_wp2_with fail
      refine (PK.out _).mono ?_
      rintro e w' ⟨rfl, rfl⟩
      by_cases hro : 0 < ro
      · have hro' : decide (0 < ro) = true := by simpa using hro
        have HDN2 := Lib.hid (HDN.out hro)
        clear hro
        go_wp2_with fail
        refine (EN.out _ (HR7.out.kept HQ8.out)).mono ?_
        rintro e w9 ⟨rfl, hb⟩
        have HQ9 := Lib.hid (HQ8.out.trans (hb.mono HQ8.out.size))
        clear hb n0 n1 n2 n3 t0 d0 e1
        go_wp2
        go_roundg (st.length - (j + 1))
        case measure => omega
        case rel => exact ⟨tn, m + 1, j + 1, rfl, by go_num, by go_num, by omega, by omega, HDN2, HQ9⟩
      · have hro' : decide (0 < ro) = false := by simpa using hro
        clear hro
        go_wp2
        go_roundg (st.length - (j + 1))
        case measure => omega
        case rel => exact ⟨u, m, j + 1, rfl, rfl, by go_num, by omega, by omega, HDM, HQ8⟩
  case rest =>
  obtain ⟨u, m, rfl, rfl, hm60, HDM, HQ⟩ := hcut
  have HB8 := Lib.hid (HB7.out.trans (HQ.out.mono HB7.out.size))
  have HN8 := Lib.hid (Ne.netBox_below HN7.out HQ.out (Ne.netBox_lt HN7.out))
  have HR8 := Lib.hid (HR7.out.kept HQ.out)
  have HL8 := Lib.hid (HL7.out.kept HQ.out)
  obtain ⟨n0, n1, n2, n3⟩ := Ne.netBox_cells HN8.out
  obtain ⟨b20, hb20⟩ : ∃ b, ((u : Int) == (D : Int)) = b := ⟨_, rfl⟩
  have HTS := Lib.hid (show b20 = true → decide (d < 0) = false ∧ decide ((m : Int) < d) = false from fun h => by
    rw [h] at hb20
    have e : u = D := by
      have h2 := hb20
      simp at h2
      omega
    have := HLW.out m u HDM.out
    rw [e, HDE.out] at this
    exact ⟨by simpa using this.1, by simpa using this.2⟩)
  go_upto_region 23 with fail
  go_cut [139] (fun s w' => s = .bool false ∧ wc = w')
  case first =>
    rcases b20 with _ | _
    · go_wp2_with fail
      go_meet
      case rel => exact ⟨rfl, rfl⟩
    · obtain ⟨t1, t2⟩ := HTS.out rfl
      go_wp2_with fail
      go_meet
      case rel => exact ⟨rfl, rfl⟩
  case rest =>
  obtain ⟨rfl, rfl⟩ := hcut
  clear hb20 HTS
  go_wp2_with fail
  refine (LD.out _ HR8.out HL8.out.irow).mono ?_
  rintro e w9 ⟨o9, c9, rfl, hi, hb⟩
  have HB9 := Lib.hid (HB8.out.trans (hb.mono HB8.out.size))
  have HN9 := Lib.hid (Ne.netBox_below HN8.out hb (Ne.netBox_lt HN8.out))
  have HR9 := Lib.hid (HR8.out.kept hb)
  have HL9 := Lib.hid (HL8.out.kept hb)
  have HT9 := Lib.hid hi
  clear hi
  clear hb n0 n1 n2 n3
  obtain ⟨n0, n1, n2, n3⟩ := Ne.netBox_cells HN9.out
  clear LD
  have HRW := Lib.hid (show ∀ w', Below w9.heap.size w9 w' → Ne.ARow w' om ml from fun w' h => HR9.out.kept h)
  go_wp2
  clear n0 n1 n2 n3
  go_loopg [20, 29] d.toNat (fun g s20 i wr => ∃ (v j : Nat), s20 = .int .i64 (v : Int) ∧ i = .int .i64 j ∧ j + g = d.toNat ∧ v < N + 1 ∧ Hid (0 ≤ d → Ne.amt L1 v = d - (j : Int)) ∧ Hid (Below w9.heap.size w9 wr))
  case atStart => exact ⟨D, 0, rfl, rfl, by omega, by omega, Lib.hid (fun _ => by rw [HDE.out]; simp), Lib.hid (Below.refl _ _)⟩
  case round =>
    obtain ⟨v, j, rfl, rfl, hjg, hvN, HLE, HQ9⟩ := hrel
    obtain ⟨n0, n1, n2, n3⟩ := Ne.netBox_cells (Ne.netBox_below HN9.out HQ9.out (Ne.netBox_lt HN9.out))
    by_cases hjd : (j : Int) < d
    · have HV := Lib.hid (show Ne.amt L1 v = ((((d - (j : Int)).toNat - 1) + 1 : Nat) : Int) by rw [HLE.out (by omega)]; omega)
      have hj0 : (0 : Int) ≤ (j : Int) := by omega
      go_wp2
      clear n0 n1 n2 n3
      go_loopg [30, 31] TL.length (fun g2 sn i wy => ∃ (nx q : Nat), sn = .int .i64 (nx : Int) ∧ i = .int .i64 q ∧ q + g2 = TL.length ∧ Hid (Back TF TT TL v q nx) ∧ Hid (Below w9.heap.size w9 wy))
      case atStart => exact ⟨0, 0, rfl, rfl, by omega, Lib.hid (.inl ⟨rfl, fun i hi => absurd hi (by omega)⟩), HQ9⟩
      case round =>
        obtain ⟨nx, q, rfl, rfl, hqg, HBK, HQ⟩ := hrel
        have hbl := Ne.netBox_lt (Ne.netBox_below HN9.out HQ.out (Ne.netBox_lt HN9.out))
        obtain ⟨n0, n1, n2, n3⟩ := Ne.netBox_cells (Ne.netBox_below HN9.out HQ.out (Ne.netBox_lt HN9.out))
        by_cases hq : q < TL.length
        · obtain ⟨bt, ot, rfl, hbt, d0⟩ := Ne.irow_cell (HT9.out.kept HQ.out) (i := q) (by rw [HTL.out]; exact hq)
          rw [HTC.out q hq] at d0
          have hr2 := HTM.out q hq
          have HH := Lib.hid (fun r hr e => back_hit (r := r) HBK.out hr e)
          have HMS := Lib.hid (fun r hr e => back_miss (r := r) HBK.out hr e)
          obtain ⟨r, hr⟩ : ∃ r, TL.getD q 0 = r := ⟨_, rfl⟩
          rw [hr] at d0 hr2
          have HR1 := Lib.hid (HH.out r hr)
          have HR2 := Lib.hid (HMS.out r hr)
          have EN := Lib.hid (HEN.out r hr2)
          have hbtl := World.block_lt_of_cell? _ _ d0
          clear hr HH HMS
          generalize TF r = a at *
          generalize TT r = b at *
          have hqi : (q : Int) < (TL.length : Int) := by omega
          have hq0 : (0 : Int) ≤ (q : Int) := by omega
          go_wp2
          have hS0 := (show (fun w' : World => (w'.cell? ⟨bn, 0, none⟩ = some (.int .i64 (N : Int)) ∧ w'.cell? ⟨bn, 1, none⟩ = some (.int .i64 (S : Int)) ∧ w'.cell? ⟨bn, 2, none⟩ = some (.int .i64 (D : Int)) ∧ w'.cell? ⟨bn, 3, none⟩ = some (.slice om ml.length cm)) ∧ w'.cell? ⟨bt, ot + q, none⟩ = some (.int .i64 (r : Int))) wr.drew from ⟨⟨n0, n1, n2, n3⟩, d0⟩)
          refine Rh.start (S := (fun w' : World => (w'.cell? ⟨bn, 0, none⟩ = some (.int .i64 (N : Int)) ∧ w'.cell? ⟨bn, 1, none⟩ = some (.int .i64 (S : Int)) ∧ w'.cell? ⟨bn, 2, none⟩ = some (.int .i64 (D : Int)) ∧ w'.cell? ⟨bn, 3, none⟩ = some (.slice om ml.length cm)) ∧ w'.cell? ⟨bt, ot + q, none⟩ = some (.int .i64 (r : Int)))) (by kernel_rfl) ?_
          refine Rh.take (some 160) (i := 0) (v := ?_) rfl (by kernel_rfl) (by kernel_rfl) (by kernel_rfl) (by kernel_rfl) (fun _ _ _ h => h) (Or.inl ⟨by rfl, ?_⟩) hS0 ?_
          rotate_left
          · intro w hSw
            go_simp
            try with_reducible rfl
          try simp only [Act.put, List.setIfInBounds_toArray, List.set_cons_zero, List.set_cons_succ]
          refine Rh.take (some 161) (i := 1) (v := ?_) rfl (by kernel_rfl) (by kernel_rfl) (by kernel_rfl) (by kernel_rfl) (fun _ _ _ h => h) (Or.inl ⟨by rfl, ?_⟩) hS0 ?_
          rotate_left
          · intro w hSw
            go_simp
            try with_reducible rfl
          try simp only [Act.put, List.setIfInBounds_toArray, List.set_cons_zero, List.set_cons_succ]
          refine Rh.take (some 162) (i := 2) (v := ?_) rfl (by kernel_rfl) (by kernel_rfl) (by kernel_rfl) (by kernel_rfl) (fun _ _ _ h => h) (Or.inl ⟨by rfl, ?_⟩) hS0 ?_
          rotate_left
          · intro w hSw
            go_simp
            try with_reducible rfl
          try simp only [Act.put, List.setIfInBounds_toArray, List.set_cons_zero, List.set_cons_succ]
          refine Rh.take (some 163) (i := 3) (v := ?_) rfl (by kernel_rfl) (by kernel_rfl) (by kernel_rfl) (by kernel_rfl) (fun _ _ _ h => h) (Or.inl ⟨by rfl, ?_⟩) hS0 ?_
          rotate_left
          · intro w hSw
            go_simp
            try with_reducible rfl
          try simp only [Act.put, List.setIfInBounds_toArray, List.set_cons_zero, List.set_cons_succ]
          refine Rh.take (some 164) (i := 4) (v := ?_) rfl (by kernel_rfl) (by kernel_rfl) (by kernel_rfl) (by kernel_rfl) (fun _ _ _ h => h) (Or.inl ⟨by rfl, ?_⟩) hS0 ?_
          rotate_left
          · intro w hSw
            go_simp
            try with_reducible rfl
          try simp only [Act.put, List.setIfInBounds_toArray, List.set_cons_zero, List.set_cons_succ]
          refine Rh.step (i := 5) (by kernel_rfl) rfl fun K' hK' => ?_
          have HK := Lib.hid hK'
          clear hK'
          go_simp
          refine (EN.out wr.drew (HRW.out _ (Ne.below_drew HQ.out))).mono ?_
          rintro e w12 ⟨rfl, hb⟩
          have HQ2 := Lib.hid ((Ne.below_drew HQ.out).trans (hb.mono HQ.out.size))
          have hS1 := (show (fun w' : World => (w'.cell? ⟨bn, 0, none⟩ = some (.int .i64 (N : Int)) ∧ w'.cell? ⟨bn, 1, none⟩ = some (.int .i64 (S : Int)) ∧ w'.cell? ⟨bn, 2, none⟩ = some (.int .i64 (D : Int)) ∧ w'.cell? ⟨bn, 3, none⟩ = some (.slice om ml.length cm)) ∧ w'.cell? ⟨bt, ot + q, none⟩ = some (.int .i64 (r : Int))) w12 from ⟨⟨(hb.cell (p := ⟨bn, 0, none⟩) hbl).trans n0, (hb.cell (p := ⟨bn, 1, none⟩) hbl).trans n1, (hb.cell (p := ⟨bn, 2, none⟩) hbl).trans n2, (hb.cell (p := ⟨bn, 3, none⟩) hbl).trans n3⟩, (hb.cell (p := ⟨bt, ot + q, none⟩) hbtl).trans d0⟩)
          clear hb
          refine HK.out _ _ ⟨hS1, ?_⟩
          clear HK K'
          try simp only [Act.put, List.setIfInBounds_toArray, List.set_cons_zero, List.set_cons_succ]
          refine Rh.take (some 159) (i := 6) (v := ?_) rfl (by kernel_rfl) (by kernel_rfl) (by kernel_rfl) (by kernel_rfl) (fun _ _ _ h => h) (Or.inl ⟨by rfl, ?_⟩) hS1 ?_
          rotate_left
          · intro w hSw
            go_simp
            try with_reducible rfl
          try simp only [Act.put, List.setIfInBounds_toArray, List.set_cons_zero, List.set_cons_succ]
          refine Rh.take (some 166) (i := 7) (v := ?_) rfl (by kernel_rfl) (by kernel_rfl) (by kernel_rfl) (by kernel_rfl) (fun _ _ _ h => h) (Or.inl ⟨by rfl, ?_⟩) hS1 ?_
          rotate_left
          · intro w hSw
            go_simp
            try with_reducible rfl
          try simp only [Act.put, List.setIfInBounds_toArray, List.set_cons_zero, List.set_cons_succ]
          refine Rh.take (some 167) (i := 8) (v := ?_) rfl (by kernel_rfl) (by kernel_rfl) (by kernel_rfl) (by kernel_rfl) (fun _ _ _ h => h) (Or.inl ⟨by rfl, ?_⟩) hS1 ?_
          rotate_left
          · intro w hSw
            go_simp
            try with_reducible rfl
          try simp only [Act.put, List.setIfInBounds_toArray, List.set_cons_zero, List.set_cons_succ]
          refine Rh.take (some 32) (i := 9) (v := ?_) rfl (by kernel_rfl) (by kernel_rfl) (by kernel_rfl) (by kernel_rfl) (fun _ _ _ h => h) (Or.inl ⟨by rfl, ?_⟩) hS1 ?_
          rotate_left
          · intro w hSw
            go_simp
            try with_reducible rfl
          try simp only [Act.put, List.setIfInBounds_toArray, List.set_cons_zero, List.set_cons_succ]
          refine Rh.take (some 33) (i := 10) (v := ?_) rfl (by kernel_rfl) (by kernel_rfl) (by kernel_rfl) (by kernel_rfl) (fun _ _ _ h => h) (Or.inl ⟨by rfl, ?_⟩) hS1 ?_
          rotate_left
          · intro w hSw
            go_simp
            try with_reducible rfl
          try simp only [Act.put, List.setIfInBounds_toArray, List.set_cons_zero, List.set_cons_succ]
          refine Rh.done (by kernel_rfl) ?_ _
          clear hS0 n0 n1 n2 n3 d0
          by_cases c : b = v
          · have HBN := Lib.hid (HR1.out c)
            have c' : ((b : Int) == (v : Int)) = true := by simp; omega
            have c2 : (b == v) = true := by simp; omega
            subst c
            go_wp2
            go_roundg (TL.length - (q + 1))
            case measure => omega
            case rel => exact ⟨a, q + 1, rfl, by go_num, by omega, HBN, HQ2⟩
          · have HBN := Lib.hid (HR2.out c)
            have c' : ((b : Int) == (v : Int)) = false := by simp; omega
            have c2 : (b == v) = false := by simp; omega
            go_wp2
            go_roundg (TL.length - (q + 1))
            case measure => omega
            case rel => exact ⟨nx, q + 1, rfl, by go_num, by omega, HBN, HQ2⟩
        · have eq : q = TL.length := by omega
          rw [eq] at HBK
          obtain ⟨x1, x2, x3⟩ := HBE.out v nx _ hvN HV.out HBK.out
          have HLE2 := Lib.hid (show 0 ≤ d → Ne.amt L1 nx = d - ((j + 1 : Nat) : Int) from fun h => by rw [x3]; omega)
          subst eq
          have hjw : (j : Int) < 500 := by omega
          clear hq x3
          go_wp2
          go_roundg (d.toNat - (j + 1))
          case measure => omega
          case rel => exact ⟨nx, j + 1, rfl, by go_num, by omega, x2, HLE2, HQ⟩
    · have hjd' : decide ((j : Int) < d) = false := by simpa using hjd
      by_cases hd : 0 ≤ d
      · have hvS : (v : Int) = (S : Int) := HON.out v hvN (by rw [HLE.out hd]; omega)
        obtain rfl : v = S := by omega
        have e1 : decide (d < 0) = false := by simpa using hd
        have HE := Lib.hid (HB9.out.trans (HQ9.out.mono HB9.out.size))
        clear hvS hd
        go_wp2
        go_ret
        exact ⟨rfl, HE.out⟩
      · have e1 : decide (d < 0) = true := by simp; omega
        have HE := Lib.hid (HB9.out.trans (HQ9.out.mono HB9.out.size))
        clear hd
        go_wp2
        go_ret
        exact ⟨rfl, HE.out⟩

end Go.Proofs.Ytcelggfnfnaajaa.levelWalks
