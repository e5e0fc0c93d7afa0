/- ResidualSteps: for every input the law returns true and its arguments read as they did. No condition. -/
import Derived.Deep.CutBlock
import Derived.Test.YthgknkjdidbkdaaRrm6
import Derived.Test.YthgknkjdidbkdaaOpenc
import Derived.Test.YthgknkjdidbkdaaRen6
import Derived.Test.YthgknkjdidbkdaaRows
import Derived.WalkKit
import Derived.ProofKit
import Derived.OpenShut
import Derived.ShutString
import Derived.ChangeOld
import Derived.Below
import Derived.Deep.Strs
namespace Go.Proofs.Ythgknkjdidbkdaa.residualSteps
open Go.ChangeShapes Go.WideShapes Go.ChangeAt Go.RowKit
open Go.ChangeMaps (open_string shut_string)
set_option linter.unusedVariables false
set_option linter.unusedSimpArgs false

theorem own : ownKnob Try.prog.godebug = none := by kernel_rfl
theorem laidOut : laidOutB Try.prog = true := by kernel_rfl

def IntsIn (k : IntKind) (w : World) (a : Option Addr) (len cap : Nat) (zs : List Int) : Prop :=
  (a = none ∧ len = 0 ∧ cap = 0 ∧ zs = []) ∨
  ∃ x, a = some x ∧ len ≤ cap ∧ cap ≤ maxLen ∧ zs.length = cap ∧ (∀ i, i < zs.length → w.cell? (x.add i) = some (.int k (zs.getD i 0))) ∧ ∀ n ∈ zs, (Lit.int k n).wf = true



set_option maxRecDepth 100000 in
set_option maxHeartbeats 4000000 in
theorem walk (a0 : Int) (a1 : Int) (a2 : List Ne.Arc) (o2 : Option Addr) (c2 : Nat) (a3 : Option Addr) (len3 cap3 : Nat) (l3 : List Int) (a4 : Option Addr) (len4 cap4 : Nat) (l4 : List Int) (a5 : Int) (w : World) (w0 : (Lit.int .i64 a0).wf = true) (w1 : (Lit.int .i64 a1).wf = true) (k2 : ∀ a ∈ a2, Ne.Arc.ok a) (z2 : a2.length ≤ c2) (y2 : c2 ≤ maxLen) (n2 : o2 = none → c2 = 0) (r2 : Ne.ARow w o2 a2) (w3 : IntsIn .i64 w a3 len3 cap3 l3) (w4 : IntsIn .i64 w a4 len4 cap4 l4) (w5 : (Lit.int .i64 a5).wf = true) :
    Calls Try.prog 8 #[.int .i64 a0, .int .i64 a1, .slice o2 a2.length c2, .slice a3 len3 cap3, .slice a4 len4 cap4, .int .i64 a5] w fun e w' => e = .returned (.bool true) ∧ Below w.heap.size w w' := by
  have HSH := Lib.hid (Ne.shown_any w)
  obtain ⟨mn, hmn⟩ : ∃ x, x = (Ne.madeN a0 a1 a2).n := ⟨_, rfl⟩
  obtain ⟨ms, hms⟩ : ∃ x, x = (Ne.madeN a0 a1 a2).s := ⟨_, rfl⟩
  obtain ⟨mt, hmt⟩ : ∃ x, x = (Ne.madeN a0 a1 a2).t := ⟨_, rfl⟩
  obtain ⟨ml, hml⟩ : ∃ x, x = (Ne.madeN a0 a1 a2).l := ⟨_, rfl⟩
  have em : Ne.madeN a0 a1 a2 = ⟨mn, ms, mt, ml⟩ := by rw [hmn, hms, hmt, hml]
  obtain ⟨f1, f2, f3, f4, f5, f6, f7, f8, f9⟩ := Ne.madeN_fine (nodes := a0) (ends := a1) k2
  have ck := Ne.made_check (nodes := a0) (ends := a1) k2
  have MD := Lib.hid fun w' (h : Ne.ARow w' o2 a2) => Ne.made_s a0 a1 a2 o2 c2 w' (bounds_i64 w0) (bounds_i64 w1) k2 h
  rw [em] at MD f1 f2 f3 f4 f5 f6 f7 f8 f9 ck
  simp only at f1 f2 f3 f4 f5 f6 f7 f8 f9
  clear hmn hms hmt hml em
  have f8' : ml.length ≤ 24 := by omega
  clear f8
  have CK := Lib.hid ck
  have RT := Lib.hid (Ne.right_of ck)
  have FI := Lib.hid f9
  have CAP := Lib.hid (show ∀ a ∈ ml, Ne.in64 a.cap from fun a ha => by have := (f9 a ha).2.2; unfold Ne.in64; omega)
  have hl6 : ml.length ≤ 1000000 := by omega
  have F7 := Lib.hid f7
  have RA := Lib.hid r2
  clear r2 f7 f9 ck
  obtain ⟨N, rfl⟩ : ∃ N : Nat, mn = (N : Int) := ⟨mn.toNat, by omega⟩
  obtain ⟨S, rfl⟩ : ∃ S : Nat, ms = (S : Int) := ⟨ms.toNat, by omega⟩
  obtain ⟨D, rfl⟩ : ∃ D : Nat, mt = (D : Int) := ⟨mt.toNat, by omega⟩
  obtain ⟨ks, hk3, hq3, bq3, _, _, _⟩ := Ne.ints_row w3
  subst hk3
  clear w3
  have BK3 := Lib.hid bq3
  have KR3 := Lib.hid hq3
  clear bq3 hq3
  obtain ⟨st, hk4, hq4, bq4, _, _, _⟩ := Ne.ints_row w4
  subst hk4
  clear w4
  have BK4 := Lib.hid bq4
  have KR4 := Lib.hid hq4
  clear bq4 hq4
  have b5 := bounds_i64 w5
  have bpa := Ne.pickN_bd (c := a5) (n := 12) (by omega)
  have PA := Lib.hid fun w' => Ne.pick_any a5 12 w' b5.1 b5.2 (by omega) (by omega)
  generalize Ne.pickN a5 12 = pa at *
  clear b5
  by_cases g1 : 60 < st.length
  · have g1' : (60 : Int) < (st.length : Int) := by omega
    go_enter Try.func8, Try.ntmps8
    go_wp2_with fail
    refine HSH.out.mono ?_
    rintro e w1 ⟨rfl, hb⟩
    have HB1 := Lib.hid hb
    clear hb
    go_wp2
    go_ret
    exact ⟨rfl, HB1.out⟩
  have g1' : ¬ (60 : Int) < (st.length : Int) := by omega
  have lst : st.length ≤ 60 := by omega
  go_enter Try.func8, Try.ntmps8
  go_wp2_with fail
  refine HSH.out.mono ?_
  rintro e w1 ⟨rfl, hb⟩
  have HB1 := Lib.hid hb
  clear hb
  go_wp2_with fail
  refine (MD.out _ (RA.out.kept HB1.out)).mono ?_
  rintro e w2 ⟨om, cm, rfl, ho, hb⟩
  have HB2 := Lib.hid (HB1.out.trans (hb.mono HB1.out.size))
  have HV2 := Lib.hid (Rw.own_lt ho)
  have HO3 := Lib.hid (Rw.own_base (Rw.own_alloc ho (.cells #[.int .i64 (N : Int), .int .i64 (S : Int), .int .i64 (D : Int), .slice om ml.length cm] 24)) (B' := w.heap.size) HB1.out.size)
  have HN3 := Lib.hid (Ne.netBox_new w2 (N : Int) (S : Int) (D : Int) (.slice om ml.length cm))
  have hz2 : w.heap.size ≤ w2.heap.size := HB2.out.size
  have HB3 := Lib.hid (HB2.out.alloc hz2 (.cells #[.int .i64 (N : Int), .int .i64 (S : Int), .int .i64 (D : Int), .slice om ml.length cm] 24))
  clear ho hb MD RA HSH
  go_wp2_with fail
  obtain ⟨bn, hbn⟩ : ∃ b, b = w2.heap.size := ⟨_, rfl⟩
  have hbn3 : bn < (w2.alloc (.cells #[.int .i64 (N : Int), .int .i64 (S : Int), .int .i64 (D : Int), .slice om ml.length cm] 24)).heap.size := by rw [hbn]; simp
  rw [← hbn] at HN3 HV2 hz2 ⊢
  clear hbn HB2 HB1
  generalize (w2.alloc (.cells #[.int .i64 (N : Int), .int .i64 (S : Int), .int .i64 (D : Int), .slice om ml.length cm] 24)) = W3 at *
  have HR3 := Lib.hid (Ne.arow_ofA HO3.out)
  obtain ⟨f, hf⟩ : ∃ x, x = Ne.routeN ⟨(N : Int), (S : Int), (D : Int), ml⟩ ks := ⟨_, rfl⟩
  have FL := Lib.hid (show Ne.Flow ⟨(N : Int), (S : Int), (D : Int), ml⟩ f by rw [hf]; exact Ne.route_flow RT.out _)
  have RD := Lib.hid fun w' h1 h2 => Ne.routed_any ⟨(N : Int), (S : Int), (D : Int), ml⟩ om cm a3 cap3 ks w' h1 h2 CK.out BK3.out
  rw [← hf] at RD
  refine (RD.out _ HR3.out (KR3.out.kept HB3.out)).mono ?_
  rintro e w4 ⟨fb, rfl, hfb, hl, hb⟩
  have HB4 := Lib.hid (HB3.out.trans (hb.mono HB3.out.size))
  have HN4 := Lib.hid (Ne.netBox_below HN3.out hb (Ne.netBox_lt HN3.out))
  have HO4 := Lib.hid (Rw.own_below HO3.out hb)
  have HR4 := Lib.hid (HR3.out.kept hb)
  have HFB4 := Lib.hid hl
  have hfb2 := hl.lt
  clear hl hb
  have HL4 := Lib.hid HFB4.out
  have HFB := Lib.hid hfb
  have HST := Lib.hid (KR4.out.kept HB4.out)
  have FR := Lib.hid fun (v : Int) w' h1 => Ne.dfrom_s ⟨(N : Int), (S : Int), (D : Int), ml⟩ om cm v w' h1 hl6
  have HEN := Lib.hid fun (r : Nat) (h : r < 2 * ml.length) w' h1 => show Calls Try.prog 19 #[Ne.encN ⟨(N : Int), (S : Int), (D : Int), ml⟩ om cm, .int .i64 (r : Int)] w' fun e w2 => e = .returned (.tuple #[.int .i64 (Ne.trF ml r), .int .i64 (((Ne.trT ml r).toNat : Nat) : Int)]) ∧ Below w'.heap.size w' w2 by
    have := Ne.ends_at ⟨(N : Int), (S : Int), (D : Int), ml⟩ om cm r w' h1 hl6 h
    have hb := Ne.trT_bd RT.out (r := r) h
    simp only at hb
    rwa [show (((Ne.trT ml r).toNat : Nat) : Int) = Ne.trT ml r by omega]
  have HMEM := Lib.hid (fun (v : Int) r (h : r ∈ Ne.fromL ml v (2 * ml.length)) => (Ne.fromL_mem.1 h))
  have HTB := Lib.hid (fun r (h : r < 2 * ml.length) => show (Ne.trT ml r).toNat < N + 1 ∧ (((Ne.trT ml r).toNat : Nat) : Int) = Ne.trT ml r by have := Ne.trT_bd RT.out (r := r) h; simp only at this; omega)
  have HFL2 := Lib.hid (fun (v : Int) => Ne.fromL_len ml v (2 * ml.length))
  have HS0 := Lib.hid (Ne.simple_start (n := ⟨(N : Int), (S : Int), (D : Int), ml⟩) (List.replicate (N + 1) false) (by simp))
  have HSM := Lib.hid (fun M (u : Nat) Rk (h : Ne.Simple ⟨(N : Int), (S : Int), (D : Int), ml⟩ M (u : Int) Rk) (hu : u < N + 1) => Ne.simple_mark h (by simpa using hu))
  have HSS := Lib.hid (fun M (u : Nat) Rk (h : Ne.Simple ⟨(N : Int), (S : Int), (D : Int), ml⟩ M (u : Int) Rk) h1 h2 r hr hf ht => Ne.simple_step h h1 h2 (r := r) hr hf ht)
  have HSL := Lib.hid (fun M (u : Int) Rk (h : Ne.Simple ⟨(N : Int), (S : Int), (D : Int), ml⟩ M u Rk) => show M.length = N + 1 ∧ Rk.length ≤ ml.length from ⟨by have := h.len; simpa using this, Ne.simple_few h⟩)
  have hmk := Ne.make_b (N + 1) (by omega)
  simp only [Int.natCast_add, Int.natCast_one] at hmk
  have HFLN := Lib.hid FL.out.len
  have hdi : (D : Int) ≤ (N : Int) := by omega
  obtain ⟨n0, n1, n2, n3⟩ := Ne.netBox_cells HN4.out
  have HM0 := Lib.hid (Ne.bbox_made w4 (N + 1) (b := w4.heap.size) rfl)
  have HQ0 := Lib.hid ((Below.refl w4.heap.size w4).alloc (Nat.le_refl _) (.cells (madeCells #[.bool false] (N + 1)) 4))
  obtain ⟨bm, hbm⟩ : ∃ b, b = w4.heap.size := ⟨_, rfl⟩
  have HNQ := Lib.hid (Ne.netBox_alloc HN4.out (.cells (madeCells #[.bool false] (N + 1)) 4))
  have m1 := (Ne.netBox_cells HNQ.out).2.1
  go_upto_block 0 with fail
  rw [← hbm] at HM0 HQ0 ⊢
  have HBM := Lib.hid hbm
  have HBM1 : Hid (bm < (w4.alloc (.cells (madeCells #[.bool false] (N + 1)) 4)).heap.size) := Lib.hid (by rw [hbm]; simp)
  clear hbm n0 n1 n2 n3 hmk m1
  generalize (w4.alloc (.cells (madeCells #[.bool false] (N + 1)) 4)) = W5 at *

  go_cut [17, 18] (fun s17 s18 wc => ∃ (u : Nat) (v : Value) (Rk : List Nat) (M : List Bool), s17 = .int .i64 u ∧ s18 = v ∧ Hid (Ne.Simple ⟨(N : Int), (S : Int), (D : Int), ml⟩ M (u : Int) Rk) ∧ Hid (Ne.OwnI wc (bm + 1) v (Ne.encW Rk)) ∧ Hid (Below bm w4 wc))
  case first =>
    go_wp2_with fail
    go_loopg [17, 18, 19] st.length (fun g s17 s18 i wr => ∃ (u : Nat) (v : Value) (Rk : List Nat) (M : List Bool) (j : Nat), s17 = .int .i64 u ∧ v = s18 ∧ i = .int .i64 j ∧ j + g = st.length ∧ u < N + 1 ∧ Hid (Ne.Simple ⟨(N : Int), (S : Int), (D : Int), ml⟩ M (u : Int) Rk) ∧ Hid (Ne.OwnI wr (bm + 1) v (Ne.encW Rk)) ∧ Hid (Ne.BBox wr bm M) ∧ Hid (Below bm w4 wr))
    case atStart => exact ⟨S, _, [], _, 0, rfl, rfl, rfl, by omega, by omega, HS0, Lib.hid (Rw.own_nil _ _), HM0, HQ0⟩
    case round =>
      obtain ⟨u, v, Rk, M, j, rfl, rfl, rfl, hjg, hun, HSI, HOW, HMB, HQ⟩ := hrel
      have HN5 := Lib.hid (Ne.netBox_below HN4.out HQ.out (by rw [HBM.out]; exact Ne.netBox_lt HN4.out))
      obtain ⟨n0, n1, n2, n3⟩ := Ne.netBox_cells HN5.out
      have hbm4 := HBM.out
      by_cases hj : j < st.length
      case neg =>
        have h1 : ¬ (j : Int) < (st.length : Int) := by omega
        have h1d : decide (j < st.length) = false := decide_eq_false hj
        clear hbm4
        go_wp2
        go_meet
        case rel => exact ⟨u, _, Rk, M, rfl, rfl, HSI, HOW, HQ⟩
      have hji : (j : Int) < (st.length : Int) := by omega
      have hj0 : (0 : Int) ≤ (j : Int) := by omega
      by_cases hud : u = D
      · have h1 : ((u : Int) == (D : Int)) = true := by simp; omega
        have h1n : ((u : Int) != (D : Int)) = false := by simp; omega
        have h2 : (u == D) = true := by simp; omega
        have h2n : (u != D) = false := by simp; omega
        have h3 : (u : Int) = (D : Int) := by omega
        clear hbm4
        subst hud
        go_wp2
        go_meet
        case rel => exact ⟨u, _, Rk, M, rfl, rfl, HSI, HOW, HQ⟩
      have h1 : ((u : Int) == (D : Int)) = false := by simp; omega
      have h1n : ((u : Int) != (D : Int)) = true := by simp; omega
      have h2 : (u == D) = false := by simp; omega
      have h2n : (u != D) = true := by simp; omega
      have hui : (u : Int) < (N : Int) + 1 := by omega
      have hu0 : (0 : Int) ≤ (u : Int) := by omega
      obtain ⟨hml, hrl⟩ := HSL.out _ _ _ HSI.out
      have mu := HMB.out.cell (i := u) (by rw [hml]; exact hun)
      have mf := HMB.out.frozen u
      have HMS := Lib.hid (HMB.out.set (i := u) (by rw [hml]; exact hun) true)
      have HNS := Lib.hid (Ne.netBox_other HN5.out (b2 := bm) (o := u) (v2 := .bool true) (by have := Ne.netBox_lt HN4.out; omega))
      have HQS := Lib.hid (HQ.out.setCell (p := ⟨bm, u, none⟩) (Nat.le_refl _) (.bool true))
      have HOS := Lib.hid (Rw.own_set HOW.out (p := ⟨bm, u, none⟩) (fun e => by have := Rw.own_block HOW.out _ e; simp only at this; omega) (.bool true))
      obtain ⟨k1, k2, k3⟩ := HSM.out M u Rk HSI.out hun
      have HSI2 := Lib.hid k1
      have K2 := Lib.hid k2
      have K3 := Lib.hid k3
      have HRL := Lib.hid hrl
      clear k1 k2 k3 hml hrl hbm4 HOW HMB HSI
      obtain ⟨e0, e1, e2, e3⟩ := Ne.netBox_cells HNS.out
      go_wp2_with fail
      clear n0 n1 n2 n3 mu mf e0 e1 e2 e3 HQ HN5
      generalize (wr.setCell ⟨bm, u, none⟩ (.bool true)) = W6 at *
      have HB46 := Lib.hid (show Below w4.heap.size w4 W6 by have := HQS.out; rwa [HBM.out] at this)
      refine (FR.out (u : Int) W6 (HR4.out.kept HB46.out)).mono ?_
      rintro e w7 ⟨bt0, ct, rfl, hft, hb⟩
      have HFT := Lib.hid hft
      have HN7 := Lib.hid (Ne.netBox_below HNS.out hb (Ne.netBox_lt HNS.out))
      have HM7 := Lib.hid (HMS.out.kept hb)
      have HO7 := Lib.hid (Rw.own_below HOS.out hb)
      have HQ7 := Lib.hid (HQS.out.trans (hb.mono (by have := HMS.out.lt; omega)))
      have HB47 := Lib.hid (HB46.out.trans (hb.mono HB46.out.size))
      have HS7 := Lib.hid (HST.out.kept HB47.out)
      have hbz := HMS.out.lt
      have HZ7 := Lib.hid (show bm < w7.heap.size from Nat.lt_of_lt_of_le hbz hb.size)
      have HTL := Lib.hid (HFL2.out (u : Int))
      have HTM := Lib.hid (HMEM.out (u : Int))
      clear hb hft hbz HMS HOS HQS HNS HB46
      generalize Ne.fromL ml (u : Int) (2 * ml.length) = TL at *
      obtain ⟨tl, htl0⟩ : ∃ tl, tl = TL.length := ⟨_, rfl⟩
      rw [← htl0]
      have HTLE := Lib.hid htl0
      have htle := HTL.out
      rw [← htl0] at htle
      clear htl0
      by_cases htl : tl = 0
      · subst htl
        go_wp2
        go_meet
        case rel => exact ⟨u, _, Rk, _, rfl, rfl, HSI2, HO7, HQ7⟩
      have htl1 : 0 < tl := by omega
      have hne : ((tl : Int) == 0) = false := by rw [beq_eq_false_iff_ne]; omega
      have hne2 : (tl == 0) = false := by simpa using htl
      obtain ⟨b4, o4, e4, hb4, d0⟩ := Ne.irow_cell HS7.out hj
      subst e4
      have hraw := BK4.out (Ne.amt st j) (by have := Ne.at_amt hj; exact List.mem_of_getElem? this)
      generalize Ne.amt st j = raw at *
      have PK := Lib.hid fun w' => Ne.pick_any raw (tl : Int) w' hraw.1 hraw.2 (by omega) (by omega)
      have bpk := Ne.pickN_bd (c := raw) (n := (tl : Int)) (by omega)
      generalize Ne.pickN raw (tl : Int) = pk at *
      obtain ⟨q, rfl⟩ : ∃ q : Nat, pk = (q : Int) := ⟨pk.toNat, by omega⟩
      have hqt : q < tl := by omega
      have hql : q < TL.length := by rw [← HTLE.out]; exact hqt
      obtain ⟨bt, ot, rfl, hbt, t0⟩ := Ne.irow_cell HFT.out (i := q) (by rw [Ne.encW_len]; exact hql)
      rw [Ne.encW_at hql] at t0
      have hrT := Ne.getD_mem hql
      obtain ⟨r, hr⟩ : ∃ r, TL.getD q 0 = r := ⟨_, rfl⟩
      rw [hr] at t0 hrT
      clear hr
      obtain ⟨hr2, hrf⟩ := HTM.out r hrT
      have EN := Lib.hid (HEN.out r hr2)
      obtain ⟨htn, hte⟩ := HTB.out r hr2
      have HSTP := Lib.hid (fun ht => HSS.out _ u Rk HSI2.out K2.out K3.out r hr2 hrf ht)
      rw [← hte] at HSTP
      clear hrf hte hrT
      simp only [Int.toNat_natCast] at HSTP
      generalize (Ne.trT ml r).toNat = tn at *
      generalize Ne.trF ml r = y at *
      have hqi : (q : Int) < (tl : Int) := by omega
      clear hql
      have hq0 : (0 : Int) ≤ (q : Int) := by omega
      have hti : (tn : Int) < (N : Int) + 1 := by omega
      have ht0 : (0 : Int) ≤ (tn : Int) := by omega
      obtain ⟨n0, n1, n2, n3⟩ := Ne.netBox_cells HN7.out
      go_wp2_with fail
      refine (PK.out _).mono ?_
      rintro e w' ⟨rfl, rfl⟩
      go_wp2_with fail
      refine (EN.out _ (HR4.out.kept HB47.out)).mono ?_
      rintro e w8 ⟨rfl, hb⟩
      have HN8 := Lib.hid (Ne.netBox_below HN7.out hb (Ne.netBox_lt HN7.out))
      have HM8 := Lib.hid (HM7.out.kept hb)
      have HO8 := Lib.hid (Rw.own_below HO7.out hb)
      have HQ8 := Lib.hid (HQ7.out.trans (hb.mono (Nat.le_of_lt HZ7.out)))
      have HZ8 := Lib.hid (Nat.lt_of_lt_of_le HZ7.out hb.size)
      have HLM := Lib.hid (HSL.out _ _ _ HSI2.out)
      have mt := HM8.out.cell (i := tn) (by rw [HLM.out.1]; exact htn)
      clear hb n0 n1 n2 n3 t0 d0 HM7 HO7 HQ7 HN7 HB47 HZ7 HFT HS7
      rcases ht : (M.set u true).getD tn false with _ | _
      · rw [ht] at mt
        have HSI4 := Lib.hid (HSTP.out ht)
        have HO9 := Lib.hid (Rw.own_alloc HO8.out (.cells #[.int .i64 (r : Int)] 3))
        have HR9 := Lib.hid (Ne.irow_one' w8 rfl (r : Int) 3)
        have HM9 := Lib.hid (HM8.out.alloc (.cells #[.int .i64 (r : Int)] 3))
        have HQ9 := Lib.hid (HQ8.out.alloc (Nat.le_of_lt HZ8.out) (.cells #[.int .i64 (r : Int)] 3))
        have HLN := Lib.hid (show (Ne.encW Rk).length + ([(r : Int)] : List Int).length ≤ 1099511627776 by rw [Ne.encW_len]; have := HRL.out; simp; omega)
        have hvb := Rw.own_block HO8.out
        have HZ9 := Lib.hid (show bm + 1 ≤ (w8.alloc (.cells #[.int .i64 (r : Int)] 3)).heap.size by have := HZ8.out; simp; omega)
        clear ht
        go_wp2_with (at_builtin; refine Rw.app Ne.elemI Ne.encI_len Ne.encI_one rfl (.tmp 96) (.tmp 98) rfl (bm + 1) _ (Ne.encW Rk) rfl HO9.out (some ⟨w8.heap.size, 0, none⟩) 1 [(r : Int)] rfl ?hnn HR9.out HLN.out ?hB ?_; (case hnn => (intro h; cases h)); (case hB => (exact HZ9.out)); intro v9 w9 hown9 hgr9; rw [← Ne.encW_snoc] at hown9; have HB9 := Lib.hid (HQ9.out.grown hgr9 (Nat.le_of_succ_le HZ9.out) (fun b hb => by have := hvb _ hb; omega)); have HM10 := Lib.hid (HM9.out.grown hgr9 (fun h => by have := hvb _ h.symm; omega)); have HO10 := Lib.hid hown9; clear hown9 hgr9)
        go_roundg (st.length - (j + 1))
        case measure => omega
        case rel => exact ⟨tn, _, Rk ++ [r], _, j + 1, rfl, rfl, by go_num, by omega, htn, HSI4, HO10, HM10, HB9⟩
      · rw [ht] at mt
        clear ht
        go_wp2
        go_roundg (st.length - (j + 1))
        case measure => omega
        case rel => exact ⟨u, _, Rk, _, j + 1, rfl, rfl, by go_num, by omega, hun, HSI2, HO8, HM8, HQ8⟩
  case rest =>
  obtain ⟨u, v, R, M, rfl, rfl, HSI, HOW, HQ⟩ := hcut
  have HB4c := Lib.hid (show Below w4.heap.size w4 wc by have := HQ.out; rwa [HBM.out] at this)
  have HB5 := Lib.hid (HB4.out.trans (HB4c.out.mono HB4.out.size))
  have HN5 := Lib.hid (Ne.netBox_below HN4.out HB4c.out (Ne.netBox_lt HN4.out))
  have HR5 := Lib.hid (HR4.out.kept HB4c.out)
  have HL5 := Lib.hid (HL4.out.kept HB4c.out)
  obtain ⟨ot, ct, hv, _, hrt⟩ := Ne.irow_ofI2 HOW.out
  rw [Ne.encW_len] at hv
  subst hv
  have HRT5 := Lib.hid hrt
  clear hrt HOW HQ HB4c FR HEN HMEM HTB HFL2 HS0 HSM HSS HSL HM0 HQ0
  have HWK := Lib.hid (show Ne.isWalk ⟨(N : Int), (S : Int), (D : Int), ml⟩ (Ne.encW R) = decide (u = D) by
    rw [Ne.simple_walk HSI.out]
    by_cases c : u = D
    · subst c; simp
    · simp [c]; omega)
  have HNO := Lib.hid HSI.out.nodup
  have HIN := Lib.hid HSI.out.inn
  have HRB := Lib.hid (Ne.simple_few HSI.out)
  simp only at HIN HRB
  have HTB := Lib.hid (show ∀ x ∈ Ne.encW R, Ne.in64 x from Ne.encW_64 (b := 2 * ml.length) (fun r hr => Nat.le_of_lt (HIN.out r hr)) (by omega))
  have HTL := Lib.hid (show R.length ≤ 1000000 by have := HRB.out; omega)
  have PX := Lib.hid fun (g : List Int) (hg : Ne.Flow ⟨(N : Int), (S : Int), (D : Int), ml⟩ g) og cg x (hx : Ne.in64 x) w' h1 h2 h3 => show Calls Try.prog 13 #[Ne.encN ⟨(N : Int), (S : Int), (D : Int), ml⟩ om cm, .slice og g.length cg, .slice ot R.length ct, .int .i64 x] w' fun e w2 => ∃ o c, e = .returned (.tuple #[.slice o (Ne.pushV ⟨(N : Int), (S : Int), (D : Int), ml⟩ g (Ne.encW R) x).length c, .int .i64 (Ne.pushE ⟨(N : Int), (S : Int), (D : Int), ml⟩ g (Ne.encW R) x)]) ∧ Ne.IRow w2 o (Ne.pushV ⟨(N : Int), (S : Int), (D : Int), ml⟩ g (Ne.encW R) x) ∧ Below w'.heap.size w' w2 by
    have := Ne.dpush_s ⟨(N : Int), (S : Int), (D : Int), ml⟩ om cm og cg g ot ct (Ne.encW R) x w' h1 h2 h3 hl6 CAP.out (by rw [Ne.encW_len]; exact HTL.out) HTB.out hx
    rwa [Ne.encW_len] at this
  obtain ⟨m, hm⟩ : ∃ m : Nat, 1 + pa = (m : Int) := ⟨(1 + pa).toNat, by omega⟩
  have hm1 : 1 ≤ m := by omega
  have hm12 : m ≤ 12 := by omega
  have PX1 := Lib.hid (PX.out f FL.out (some ⟨fb, 0, none⟩) ml.length (m : Int) (by unfold Ne.in64; omega))
  rw [HFLN.out] at PX1
  have HOFF := Lib.hid (fun (h : u ≠ D) g (hg : Ne.Flow ⟨(N : Int), (S : Int), (D : Int), ml⟩ g) x => Ne.pushE_off CK.out hg (W := Ne.encW R) (by rw [HWK.out]; simpa using h) x)
  have HUS := Lib.hid (fun (h : u = D) j g (hU : Ne.Units ⟨(N : Int), (S : Int), (D : Int), ml⟩ f R j g) => Ne.units_step CK.out FL.out hU HNO.out HIN.out (by rw [HWK.out]; simpa using h))
  have HUE := Lib.hid (fun (h : u = D) g (hU : Ne.Units ⟨(N : Int), (S : Int), (D : Int), ml⟩ f R m g) => Ne.units_end CK.out FL.out hU hm1 HNO.out HIN.out (by rw [HWK.out]; simpa using h))
  have HUF := Lib.hid (fun (h : u = D) j (hj : j < m) hx => Ne.units_fail CK.out FL.out hj hx HNO.out HIN.out (by rw [HWK.out]; simpa using h))
  have HU0 := Lib.hid (Ne.units_start FL.out HIN.out)
  have HUF2 := Lib.hid (fun j g (hU : Ne.Units ⟨(N : Int), (S : Int), (D : Int), ml⟩ f R j g) => hU.flow)
  have HFL := Lib.hid (fun g (hg : Ne.Flow ⟨(N : Int), (S : Int), (D : Int), ml⟩ g) => show g.length = ml.length from hg.len)
  have HFE := Lib.hid (fun (h : u ≠ D) => (HOFF.out h f FL.out (m : Int)).1)
  generalize hUN : Ne.Units ⟨(N : Int), (S : Int), (D : Int), ml⟩ f R = UN at *
  clear hUN
  generalize Ne.pushV ⟨(N : Int), (S : Int), (D : Int), ml⟩ f (Ne.encW R) (m : Int) = PV at *
  generalize Ne.pushE ⟨(N : Int), (S : Int), (D : Int), ml⟩ f (Ne.encW R) (m : Int) = PE at *
  obtain ⟨n0, n1, n2, n3⟩ := Ne.netBox_cells HN5.out
  go_wp2_with fail
  refine (PA.out _).mono ?_
  rintro e w' ⟨rfl, rfl⟩
  go_wp2_with fail
  refine (PX1.out wc HR5.out HL5.out.irow HRT5.out).mono ?_
  rintro e w6 ⟨o6, c6, rfl, hpv, hb⟩
  have HB6 := Lib.hid (HB5.out.trans (hb.mono HB5.out.size))
  have HN6 := Lib.hid (Ne.netBox_below HN5.out hb (Ne.netBox_lt HN5.out))
  have HR6 := Lib.hid (HR5.out.kept hb)
  have HL6 := Lib.hid (HL5.out.kept hb)
  have HM := Lib.hid hm
  clear hm
  have HPV6 := Lib.hid hpv
  have HRT6 := Lib.hid (HRT5.out.kept hb)
  clear hpv HRT5
  clear hb n0 n1 n2 n3
  obtain ⟨n0, n1, n2, n3⟩ := Ne.netBox_cells HN6.out
  clear PX1 PA
  go_wp2
  clear n0 n1 n2 n3
  go_loopg [27, 28, 29] m (fun g s27 s28 i wr => ∃ (j : Nat) (last : Int) (h : List Int) (og : Option Addr) (cg : Nat), s27 = .slice og h.length cg ∧ s28 = .int .i64 last ∧ i = .int .i64 j ∧ j + g = m ∧ Hid ((last = 0 ∧ UN j h ∧ (0 < j → u = D)) ∨ (last ≠ 0 ∧ last = PE)) ∧ Hid (Ne.IRow wr og h) ∧ Hid (Below w6.heap.size w6 wr))
  case atStart => exact ⟨0, 0, f, some ⟨fb, 0, none⟩, ml.length, by rw [HFLN.out], rfl, rfl, by omega, Lib.hid (.inl ⟨rfl, HU0.out, fun h => absurd h (by omega)⟩), Lib.hid HL6.out.irow, Lib.hid (Below.refl _ _)⟩
  case round =>
    obtain ⟨j, last, h, og, cg, rfl, rfl, rfl, hjg, HCS, HIH, HQ⟩ := hrel
    have HN7 := Lib.hid (Ne.netBox_below HN6.out HQ.out (Ne.netBox_lt HN6.out))
    obtain ⟨n0, n1, n2, n3⟩ := Ne.netBox_cells HN7.out
    have HBE := Lib.hid (HB6.out.trans (HQ.out.mono HB6.out.size))
    rcases HCS.out with ⟨h1, h2, h3⟩ | ⟨h1, h2⟩
    · subst h1
      have HUJ := Lib.hid h2
      have HJD := Lib.hid h3
      clear h2 h3
      by_cases hj : j < m
      · have hji : (j : Int) < (m : Int) := by omega
        have hj0 : (0 : Int) ≤ (j : Int) := by omega
        have PXJ := Lib.hid (PX.out h (HUF2.out j h HUJ.out) og cg 1 (by unfold Ne.in64; omega))
        have HC := Lib.hid (show (Ne.pushE ⟨(N : Int), (S : Int), (D : Int), ml⟩ h (Ne.encW R) 1 = 0 ∧ UN (j + 1) (Ne.pushV ⟨(N : Int), (S : Int), (D : Int), ml⟩ h (Ne.encW R) 1) ∧ u = D) ∨ (Ne.pushE ⟨(N : Int), (S : Int), (D : Int), ml⟩ h (Ne.encW R) 1 ≠ 0 ∧ Ne.pushE ⟨(N : Int), (S : Int), (D : Int), ml⟩ h (Ne.encW R) 1 = PE) from by
          by_cases c : u = D
          · rcases HUS.out c j h HUJ.out with ⟨k1, k2⟩ | ⟨k1, _, k3⟩
            · exact .inl ⟨k1, k2, c⟩
            · exact .inr ⟨by rw [k1]; decide, by rw [k1, HUF.out c j hj k3]⟩
          · have k1 := (HOFF.out c h (HUF2.out j h HUJ.out) 1).1
            exact .inr ⟨by rw [k1]; decide, by rw [k1, HFE.out c]⟩)
        generalize Ne.pushV ⟨(N : Int), (S : Int), (D : Int), ml⟩ h (Ne.encW R) 1 = P1 at *
        generalize Ne.pushE ⟨(N : Int), (S : Int), (D : Int), ml⟩ h (Ne.encW R) 1 = E1 at *
        go_wp2_with fail
        refine (PXJ.out _ (HR6.out.kept HQ.out) HIH.out (HRT6.out.kept HQ.out)).mono ?_
        rintro e w8 ⟨o8, c8, rfl, hp8, hb⟩
        have HP8 := Lib.hid hp8
        have HQ8 := Lib.hid (HQ.out.trans (hb.mono HQ.out.size))
        have HIH8 := Lib.hid (HIH.out.kept hb)
        clear hb hp8 n0 n1 n2 n3
        rcases HC.out with ⟨k1, k2, k3⟩ | ⟨k1, k2⟩
        · have HK := Lib.hid (show (E1 = 0 ∧ UN (j + 1) P1 ∧ (0 < j + 1 → u = D)) ∨ (E1 ≠ 0 ∧ E1 = PE) from .inl ⟨k1, k2, fun _ => k3⟩)
          have k1' : (E1 == 0) = true := by simpa using k1
          clear k1 k2 k3
          go_wp2
          go_roundg (m - (j + 1))
          case measure => omega
          case rel => exact ⟨j + 1, E1, P1, o8, c8, rfl, rfl, by go_num, by omega, HK, HP8, HQ8⟩
        · have HK := Lib.hid (show (E1 = 0 ∧ UN (j + 1) h ∧ (0 < j + 1 → u = D)) ∨ (E1 ≠ 0 ∧ E1 = PE) from .inr ⟨k1, k2⟩)
          have k1' : (E1 == 0) = false := by simpa using k1
          clear k1 k2
          go_wp2
          go_roundg (m - (j + 1))
          case measure => omega
          case rel => exact ⟨j + 1, E1, h, og, cg, rfl, rfl, by go_num, by omega, HK, HIH8, HQ8⟩
      · have ej : j = m := by omega
        subst ej
        obtain ⟨k1, k2⟩ := HUE.out (HJD.out (by omega)) h HUJ.out
        subst k1
        have SM := Lib.hid fun x1 x2 y1 y2 w' h1 h2 => Ne.rsame_l x1 x2 y1 y2 h h w' h1 h2 (by have := HFL.out h (HUF2.out j h HUJ.out); omega) (by have := HFL.out h (HUF2.out j h HUJ.out); omega)
        rw [show decide (h = h) = true by simp] at SM
        subst k2
        go_wp2_with fail
        refine (SM.out _ _ _ _ _ HIH.out (HPV6.out.kept HQ.out)).mono ?_
        rintro e w8 ⟨rfl, hb⟩
        have HB8 := Lib.hid (HBE.out.trans (hb.mono HBE.out.size))
        clear hb
        go_wp2
        go_ret
        exact ⟨rfl, HB8.out⟩
    · subst h2
      have k1 : (last == 0) = false := by simpa using h1
      have k1n : (last != 0) = true := by simpa using h1
      by_cases hj : j < m
      · have hjd : decide (j < m) = true := decide_eq_true hj
        clear h1
        go_wp2
        go_ret
        exact ⟨rfl, HBE.out⟩
      · have hjd : decide (j < m) = false := decide_eq_false hj
        clear h1
        go_wp2
        go_ret
        exact ⟨rfl, HBE.out⟩

end Go.Proofs.Ythgknkjdidbkdaa.residualSteps
