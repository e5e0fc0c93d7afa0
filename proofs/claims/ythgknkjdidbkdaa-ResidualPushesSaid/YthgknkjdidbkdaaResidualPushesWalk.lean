/- ResidualPushes: for every input the law returns true and its arguments read as they did. No condition. -/
import Derived.Deep.CutBlock
import Derived.Test.YthgknkjdidbkdaaRrm6
import Derived.Test.YthgknkjdidbkdaaOpenc
import Derived.Test.YthgknkjdidbkdaaRps6
import Derived.Test.YthgknkjdidbkdaaRows
import Derived.WalkKit
import Derived.ProofKit
import Derived.OpenShut
import Derived.ShutString
import Derived.ChangeOld
import Derived.Below
import Derived.Deep.Strs
namespace Go.Proofs.Ythgknkjdidbkdaa.residualPushes
open Go.ChangeShapes Go.WideShapes Go.ChangeAt Go.RowKit
open Go.ChangeMaps (open_string shut_string)
set_option linter.unusedVariables false
set_option linter.unusedSimpArgs false

theorem own : ownKnob Try.prog.godebug = none := by kernel_rfl
theorem laidOut : laidOutB Try.prog = true := by kernel_rfl

def IntsIn (k : IntKind) (w : World) (a : Option Addr) (len cap : Nat) (zs : List Int) : Prop :=
  (a = none ∧ len = 0 ∧ cap = 0 ∧ zs = []) ∨
  ∃ x, a = some x ∧ len ≤ cap ∧ cap ≤ maxLen ∧ zs.length = cap ∧ (∀ i, i < zs.length → w.cell? (x.add i) = some (.int k (zs.getD i 0))) ∧ ∀ n ∈ zs, (Lit.int k n).wf = true



set_option maxRecDepth 100000 in
set_option maxHeartbeats 4000000 in
theorem walk (a0 : Int) (a1 : Int) (a2 : List Ne.Arc) (o2 : Option Addr) (c2 : Nat) (a3 : Option Addr) (len3 cap3 : Nat) (l3 : List Int) (a4 : Option Addr) (len4 cap4 : Nat) (l4 : List Int) (w : World) (w0 : (Lit.int .i64 a0).wf = true) (w1 : (Lit.int .i64 a1).wf = true) (k2 : ∀ a ∈ a2, Ne.Arc.ok a) (z2 : a2.length ≤ c2) (y2 : c2 ≤ maxLen) (n2 : o2 = none → c2 = 0) (r2 : Ne.ARow w o2 a2) (w3 : IntsIn .i64 w a3 len3 cap3 l3) (w4 : IntsIn .i64 w a4 len4 cap4 l4) :
    Calls Try.prog 4 #[.int .i64 a0, .int .i64 a1, .slice o2 a2.length c2, .slice a3 len3 cap3, .slice a4 len4 cap4] w fun e w' => e = .returned (.bool true) ∧ Below w.heap.size w w' := by
  have HSH := Lib.hid (Ne.shown_any w)
  obtain ⟨mn, hmn⟩ : ∃ x, x = (Ne.madeN a0 a1 a2).n := ⟨_, rfl⟩
  obtain ⟨ms, hms⟩ : ∃ x, x = (Ne.madeN a0 a1 a2).s := ⟨_, rfl⟩
  obtain ⟨mt, hmt⟩ : ∃ x, x = (Ne.madeN a0 a1 a2).t := ⟨_, rfl⟩
  obtain ⟨ml, hml⟩ : ∃ x, x = (Ne.madeN a0 a1 a2).l := ⟨_, rfl⟩
  have em : Ne.madeN a0 a1 a2 = ⟨mn, ms, mt, ml⟩ := by rw [hmn, hms, hmt, hml]
  obtain ⟨f1, f2, f3, f4, f5, f6, f7, f8, f9⟩ := Ne.madeN_fine (nodes := a0) (ends := a1) k2
  have ck := Ne.made_check (nodes := a0) (ends := a1) k2
  have MD := Lib.hid fun w' (h : Ne.ARow w' o2 a2) => Ne.made_s a0 a1 a2 o2 c2 w' (bounds_i64 w0) (bounds_i64 w1) k2 h
  rw [em] at MD f1 f2 f3 f4 f5 f6 f7 f8 f9 ck
  simp only at f1 f2 f3 f4 f5 f6 f7 f8 f9
  clear hmn hms hmt hml em
  have f8' : ml.length ≤ 24 := by omega
  clear f8
  have CK := Lib.hid ck
  have RT := Lib.hid (Ne.right_of ck)
  have FI := Lib.hid f9
  have CAP := Lib.hid (show ∀ a ∈ ml, Ne.in64 a.cap from fun a ha => by have := (f9 a ha).2.2; unfold Ne.in64; omega)
  have hl6 : ml.length ≤ 1000000 := by omega
  have F7 := Lib.hid f7
  have RA := Lib.hid r2
  clear r2 f7 f9 ck
  obtain ⟨N, rfl⟩ : ∃ N : Nat, mn = (N : Int) := ⟨mn.toNat, by omega⟩
  obtain ⟨S, rfl⟩ : ∃ S : Nat, ms = (S : Int) := ⟨ms.toNat, by omega⟩
  obtain ⟨D, rfl⟩ : ∃ D : Nat, mt = (D : Int) := ⟨mt.toNat, by omega⟩
  obtain ⟨ks, hk3, hq3, bq3, _, _, _⟩ := Ne.ints_row w3
  subst hk3
  clear w3
  have BK3 := Lib.hid bq3
  have KR3 := Lib.hid hq3
  clear bq3 hq3
  obtain ⟨st, hk4, hq4, bq4, _, _, _⟩ := Ne.ints_row w4
  subst hk4
  clear w4
  have BK4 := Lib.hid bq4
  have KR4 := Lib.hid hq4
  clear bq4 hq4
  by_cases g1 : 60 < st.length
  · have g1' : (60 : Int) < (st.length : Int) := by omega
    go_enter Try.func4, Try.ntmps4
    go_wp2_with fail
    refine HSH.out.mono ?_
    rintro e w1 ⟨rfl, hb⟩
    have HB1 := Lib.hid hb
    clear hb
    go_wp2
    go_ret
    exact ⟨rfl, HB1.out⟩
  have g1' : ¬ (60 : Int) < (st.length : Int) := by omega
  have lst : st.length ≤ 60 := by omega
  go_enter Try.func4, Try.ntmps4
  go_wp2_with fail
  refine HSH.out.mono ?_
  rintro e w1 ⟨rfl, hb⟩
  have HB1 := Lib.hid hb
  clear hb
  go_wp2_with fail
  refine (MD.out _ (RA.out.kept HB1.out)).mono ?_
  rintro e w2 ⟨om, cm, rfl, ho, hb⟩
  have HB2 := Lib.hid (HB1.out.trans (hb.mono HB1.out.size))
  have HV2 := Lib.hid (Rw.own_lt ho)
  have HO3 := Lib.hid (Rw.own_base (Rw.own_alloc ho (.cells #[.int .i64 (N : Int), .int .i64 (S : Int), .int .i64 (D : Int), .slice om ml.length cm] 24)) (B' := w.heap.size) HB1.out.size)
  have HN3 := Lib.hid (Ne.netBox_new w2 (N : Int) (S : Int) (D : Int) (.slice om ml.length cm))
  have hz2 : w.heap.size ≤ w2.heap.size := HB2.out.size
  have HB3 := Lib.hid (HB2.out.alloc hz2 (.cells #[.int .i64 (N : Int), .int .i64 (S : Int), .int .i64 (D : Int), .slice om ml.length cm] 24))
  clear ho hb MD RA HSH
  go_wp2_with fail
  obtain ⟨bn, hbn⟩ : ∃ b, b = w2.heap.size := ⟨_, rfl⟩
  have hbn3 : bn < (w2.alloc (.cells #[.int .i64 (N : Int), .int .i64 (S : Int), .int .i64 (D : Int), .slice om ml.length cm] 24)).heap.size := by rw [hbn]; simp
  rw [← hbn] at HN3 HV2 hz2 ⊢
  clear hbn HB2 HB1
  generalize (w2.alloc (.cells #[.int .i64 (N : Int), .int .i64 (S : Int), .int .i64 (D : Int), .slice om ml.length cm] 24)) = W3 at *
  have HR3 := Lib.hid (Ne.arow_ofA HO3.out)
  obtain ⟨f, hf⟩ : ∃ x, x = Ne.routeN ⟨(N : Int), (S : Int), (D : Int), ml⟩ ks := ⟨_, rfl⟩
  have FL := Lib.hid (show Ne.Flow ⟨(N : Int), (S : Int), (D : Int), ml⟩ f by rw [hf]; exact Ne.route_flow RT.out _)
  have RD := Lib.hid fun w' h1 h2 => Ne.routed_any ⟨(N : Int), (S : Int), (D : Int), ml⟩ om cm a3 cap3 ks w' h1 h2 CK.out BK3.out
  rw [← hf] at RD
  refine (RD.out _ HR3.out (KR3.out.kept HB3.out)).mono ?_
  rintro e w4 ⟨fb, rfl, hfb, hl, hb⟩
  have HB4 := Lib.hid (HB3.out.trans (hb.mono HB3.out.size))
  have HN4 := Lib.hid (Ne.netBox_below HN3.out hb (Ne.netBox_lt HN3.out))
  have HO4 := Lib.hid (Rw.own_below HO3.out hb)
  have HR4 := Lib.hid (HR3.out.kept hb)
  have HFB4 := Lib.hid hl
  have hfb2 := hl.lt
  clear hl hb
  have HL4 := Lib.hid HFB4.out
  have HFB := Lib.hid hfb
  have HST := Lib.hid (KR4.out.kept HB4.out)
  have FR := Lib.hid fun (v : Int) w' h1 => Ne.dfrom_s ⟨(N : Int), (S : Int), (D : Int), ml⟩ om cm v w' h1 hl6
  have HEN := Lib.hid fun (r : Nat) (h : r < 2 * ml.length) w' h1 => show Calls Try.prog 19 #[Ne.encN ⟨(N : Int), (S : Int), (D : Int), ml⟩ om cm, .int .i64 (r : Int)] w' fun e w2 => e = .returned (.tuple #[.int .i64 (Ne.trF ml r), .int .i64 (((Ne.trT ml r).toNat : Nat) : Int)]) ∧ Below w'.heap.size w' w2 by
    have := Ne.ends_at ⟨(N : Int), (S : Int), (D : Int), ml⟩ om cm r w' h1 hl6 h
    have hb := Ne.trT_bd RT.out (r := r) h
    simp only at hb
    rwa [show (((Ne.trT ml r).toNat : Nat) : Int) = Ne.trT ml r by omega]
  have HMEM := Lib.hid (fun (v : Int) r (h : r ∈ Ne.fromL ml v (2 * ml.length)) => (Ne.fromL_mem.1 h))
  have HTB := Lib.hid (fun r (h : r < 2 * ml.length) => show (Ne.trT ml r).toNat < N + 1 ∧ (((Ne.trT ml r).toNat : Nat) : Int) = Ne.trT ml r by have := Ne.trT_bd RT.out (r := r) h; simp only at this; omega)
  have HFL2 := Lib.hid (fun (v : Int) => Ne.fromL_len ml v (2 * ml.length))
  have HS0 := Lib.hid (Ne.simple_start (n := ⟨(N : Int), (S : Int), (D : Int), ml⟩) (List.replicate (N + 1) false) (by simp))
  have HSM := Lib.hid (fun M (u : Nat) Rk (h : Ne.Simple ⟨(N : Int), (S : Int), (D : Int), ml⟩ M (u : Int) Rk) (hu : u < N + 1) => Ne.simple_mark h (by simpa using hu))
  have HSS := Lib.hid (fun M (u : Nat) Rk (h : Ne.Simple ⟨(N : Int), (S : Int), (D : Int), ml⟩ M (u : Int) Rk) h1 h2 r hr hf ht => Ne.simple_step h h1 h2 (r := r) hr hf ht)
  have HSL := Lib.hid (fun M (u : Int) Rk (h : Ne.Simple ⟨(N : Int), (S : Int), (D : Int), ml⟩ M u Rk) => show M.length = N + 1 ∧ Rk.length ≤ ml.length from ⟨by have := h.len; simpa using this, Ne.simple_few h⟩)
  have hmk := Ne.make_b (N + 1) (by omega)
  simp only [Int.natCast_add, Int.natCast_one] at hmk
  have HFLN := Lib.hid FL.out.len
  have hdi : (D : Int) ≤ (N : Int) := by omega
  obtain ⟨n0, n1, n2, n3⟩ := Ne.netBox_cells HN4.out
  have HST5 := Lib.hid HST.out
  have RM := Lib.hid fun w' h1 h2 => Ne.room_flow (n := ⟨(N : Int), (S : Int), (D : Int), ml⟩) (f := f) om cm (some ⟨fb, 0, none⟩) ml.length w' CK.out h1 h2 FL.out
  go_wp2_with fail
  refine (RM.out w4 HR4.out HL4.out.irow).mono ?_
  rintro e w5 ⟨o5, c5, rfl, hrm, hb⟩
  have HB5 := Lib.hid (HB4.out.trans (hb.mono HB4.out.size))
  have HN5 := Lib.hid (Ne.netBox_below HN4.out hb (Ne.netBox_lt HN4.out))
  have HR5 := Lib.hid (HR4.out.kept hb)
  have HL5 := Lib.hid (HL4.out.kept hb)
  have HRM5 := Lib.hid hrm
  clear hrm HST5
  replace HST := Lib.hid (HST.out.kept hb)
  clear hb n0 n1 n2 n3
  obtain ⟨n0, n1, n2, n3⟩ := Ne.netBox_cells HN5.out
  have HRO := Lib.hid (fun r (h : r < 2 * ml.length) => Ne.roomL_at ml f h)
  have HRLN := Lib.hid (Ne.roomL_len ml f (2 * ml.length))
  have HRBD := Lib.hid (fun r (h : r < 2 * ml.length) => show 0 ≤ Ne.roomN ml f r ∧ Ne.roomN ml f r ≤ 1000000 from by
    have h1 := Ne.room_nn FL.out.wi (r := r) h
    have hq : r / 2 < ml.length := by omega
    have h2 := (FI.out _ (List.getElem_mem hq)).2.2.2
    have h3 : (Ne.arcAt ml (r / 2)).cap = (ml[r / 2]).cap := by rw [Ne.arcAt_of (List.getElem?_eq_getElem hq)]
    simp only at h1
    omega)
  have HM00 := Lib.hid (Ne.most_start ml f)
  have HMST := Lib.hid (fun Rk m m2 r (h : Ne.Most ml f Rk m) h1 h2 e => Ne.most_step (r := r) (m2 := m2) h h1 h2 e)
  have HMOP0 := Lib.hid (fun Rk m (h : Ne.Most ml f Rk m) => show 1 ≤ m ∧ m ≤ 1099511627776 from ⟨h.pos, h.top⟩)
  generalize hMO : Ne.Most ml f = MO at *
  have HMOE := Lib.hid hMO
  clear hMO
  have HMOP := Lib.hid HMOP0.out
  generalize Ne.roomL ml f (2 * ml.length) = RL at *
  generalize Ne.roomN ml f = RO at *
  clear RM
  have HM0 := Lib.hid (Ne.bbox_made w5 (N + 1) (b := w5.heap.size) rfl)
  have HQ0 := Lib.hid ((Below.refl w5.heap.size w5).alloc (Nat.le_refl _) (.cells (madeCells #[.bool false] (N + 1)) 4))
  obtain ⟨bm, hbm⟩ : ∃ b, b = w5.heap.size := ⟨_, rfl⟩
  have HNQ := Lib.hid (Ne.netBox_alloc HN5.out (.cells (madeCells #[.bool false] (N + 1)) 4))
  have m1 := (Ne.netBox_cells HNQ.out).2.1
  have HBNL := Lib.hid (Ne.netBox_lt HN5.out)
  go_upto_block 0 with fail
  rw [← hbm] at HM0 HQ0 ⊢
  have HBM := Lib.hid hbm
  have HBM1 : Hid (bm < (w5.alloc (.cells (madeCells #[.bool false] (N + 1)) 4)).heap.size) := Lib.hid (by rw [hbm]; simp)
  clear hbm n0 n1 n2 n3 hmk m1
  generalize (w5.alloc (.cells (madeCells #[.bool false] (N + 1)) 4)) = WM at *

  go_cut [17, 18, 19] (fun s17 s18 s19 wc => ∃ (u : Nat) (v : Value) (Rk : List Nat) (M : List Bool) (mo : Int), s17 = .int .i64 u ∧ s18 = .int .i64 mo ∧ s19 = v ∧ Hid (MO Rk mo) ∧ Hid (Ne.Simple ⟨(N : Int), (S : Int), (D : Int), ml⟩ M (u : Int) Rk) ∧ Hid (Ne.OwnI wc (bm + 1) v (Ne.encW Rk)) ∧ Hid (Below bm w5 wc))
  case first =>
    go_wp2_with fail
    go_loopg [17, 18, 19, 20] st.length (fun g s17 s18 s19 i wr => ∃ (u : Nat) (v : Value) (Rk : List Nat) (M : List Bool) (mo : Int) (j : Nat), s17 = .int .i64 u ∧ s18 = .int .i64 mo ∧ v = s19 ∧ Hid (MO Rk mo) ∧ i = .int .i64 j ∧ j + g = st.length ∧ u < N + 1 ∧ Hid (Ne.Simple ⟨(N : Int), (S : Int), (D : Int), ml⟩ M (u : Int) Rk) ∧ Hid (Ne.OwnI wr (bm + 1) v (Ne.encW Rk)) ∧ Hid (Ne.BBox wr bm M) ∧ Hid (Below bm w5 wr))
    case atStart => exact ⟨S, _, [], _, 1099511627776, 0, rfl, rfl, rfl, HM00, rfl, by omega, by omega, HS0, Lib.hid (Rw.own_nil _ _), HM0, HQ0⟩
    case round =>
      obtain ⟨u, v, Rk, M, mo, j, rfl, rfl, rfl, HMO, rfl, hjg, hun, HSI, HOW, HMB, HQ⟩ := hrel
      have HN5 := Lib.hid (Ne.netBox_below HN5.out HQ.out (by rw [HBM.out]; exact Ne.netBox_lt HN5.out))
      obtain ⟨n0, n1, n2, n3⟩ := Ne.netBox_cells HN5.out
      have hbm4 := HBM.out
      by_cases hj : j < st.length
      case neg =>
        have h1 : ¬ (j : Int) < (st.length : Int) := by omega
        have h1d : decide (j < st.length) = false := decide_eq_false hj
        clear hbm4
        go_wp2
        go_meet
        case rel => exact ⟨u, _, Rk, M, mo, rfl, rfl, rfl, HMO, HSI, HOW, HQ⟩
      have hji : (j : Int) < (st.length : Int) := by omega
      have hj0 : (0 : Int) ≤ (j : Int) := by omega
      by_cases hud : u = D
      · have h1 : ((u : Int) == (D : Int)) = true := by simp; omega
        have h1n : ((u : Int) != (D : Int)) = false := by simp; omega
        have h2 : (u == D) = true := by simp; omega
        have h2n : (u != D) = false := by simp; omega
        have h3 : (u : Int) = (D : Int) := by omega
        clear hbm4
        subst hud
        go_wp2
        go_meet
        case rel => exact ⟨u, _, Rk, M, mo, rfl, rfl, rfl, HMO, HSI, HOW, HQ⟩
      have h1 : ((u : Int) == (D : Int)) = false := by simp; omega
      have h1n : ((u : Int) != (D : Int)) = true := by simp; omega
      have h2 : (u == D) = false := by simp; omega
      have h2n : (u != D) = true := by simp; omega
      have hui : (u : Int) < (N : Int) + 1 := by omega
      have hu0 : (0 : Int) ≤ (u : Int) := by omega
      obtain ⟨hml, hrl⟩ := HSL.out _ _ _ HSI.out
      have mu := HMB.out.cell (i := u) (by rw [hml]; exact hun)
      have mf := HMB.out.frozen u
      have HMS := Lib.hid (HMB.out.set (i := u) (by rw [hml]; exact hun) true)
      have HNS := Lib.hid (Ne.netBox_other HN5.out (b2 := bm) (o := u) (v2 := .bool true) (by have := HBNL.out; omega))
      have HQS := Lib.hid (HQ.out.setCell (p := ⟨bm, u, none⟩) (Nat.le_refl _) (.bool true))
      have HOS := Lib.hid (Rw.own_set HOW.out (p := ⟨bm, u, none⟩) (fun e => by have := Rw.own_block HOW.out _ e; simp only at this; omega) (.bool true))
      obtain ⟨k1, k2, k3⟩ := HSM.out M u Rk HSI.out hun
      have HSI2 := Lib.hid k1
      have K2 := Lib.hid k2
      have K3 := Lib.hid k3
      have HRL := Lib.hid hrl
      clear k1 k2 k3 hml hrl hbm4 HOW HMB HSI
      obtain ⟨e0, e1, e2, e3⟩ := Ne.netBox_cells HNS.out
      go_wp2_with fail
      clear n0 n1 n2 n3 mu mf e0 e1 e2 e3 HQ HN5
      generalize (wr.setCell ⟨bm, u, none⟩ (.bool true)) = W6 at *
      have HB46 := Lib.hid (show Below w5.heap.size w5 W6 by have := HQS.out; rwa [HBM.out] at this)
      refine (FR.out (u : Int) W6 (HR5.out.kept HB46.out)).mono ?_
      rintro e w7 ⟨bt0, ct, rfl, hft, hb⟩
      have HFT := Lib.hid hft
      have HN7 := Lib.hid (Ne.netBox_below HNS.out hb (Ne.netBox_lt HNS.out))
      have HM7 := Lib.hid (HMS.out.kept hb)
      have HO7 := Lib.hid (Rw.own_below HOS.out hb)
      have HQ7 := Lib.hid (HQS.out.trans (hb.mono (by have := HMS.out.lt; omega)))
      have HB47 := Lib.hid (HB46.out.trans (hb.mono HB46.out.size))
      have HS7 := Lib.hid (HST.out.kept HB47.out)
      have hbz := HMS.out.lt
      have HZ7 := Lib.hid (show bm < w7.heap.size from Nat.lt_of_lt_of_le hbz hb.size)
      have HTL := Lib.hid (HFL2.out (u : Int))
      have HTM := Lib.hid (HMEM.out (u : Int))
      clear hb hft hbz HMS HOS HQS HNS HB46
      generalize Ne.fromL ml (u : Int) (2 * ml.length) = TL at *
      obtain ⟨tl, htl0⟩ : ∃ tl, tl = TL.length := ⟨_, rfl⟩
      rw [← htl0]
      have HTLE := Lib.hid htl0
      have htle := HTL.out
      rw [← htl0] at htle
      clear htl0
      by_cases htl : tl = 0
      · subst htl
        go_wp2
        go_meet
        case rel => exact ⟨u, _, Rk, _, mo, rfl, rfl, rfl, HMO, HSI2, HO7, HQ7⟩
      have htl1 : 0 < tl := by omega
      have hne : ((tl : Int) == 0) = false := by rw [beq_eq_false_iff_ne]; omega
      have hne2 : (tl == 0) = false := by simpa using htl
      obtain ⟨b4, o4, e4, hb4, d0⟩ := Ne.irow_cell HS7.out hj
      subst e4
      have hraw := BK4.out (Ne.amt st j) (by have := Ne.at_amt hj; exact List.mem_of_getElem? this)
      generalize Ne.amt st j = raw at *
      have PK := Lib.hid fun w' => Ne.pick_any raw (tl : Int) w' hraw.1 hraw.2 (by omega) (by omega)
      have bpk := Ne.pickN_bd (c := raw) (n := (tl : Int)) (by omega)
      generalize Ne.pickN raw (tl : Int) = pk at *
      obtain ⟨q, rfl⟩ : ∃ q : Nat, pk = (q : Int) := ⟨pk.toNat, by omega⟩
      have hqt : q < tl := by omega
      have hql : q < TL.length := by rw [← HTLE.out]; exact hqt
      obtain ⟨bt, ot, rfl, hbt, t0⟩ := Ne.irow_cell HFT.out (i := q) (by rw [Ne.encW_len]; exact hql)
      rw [Ne.encW_at hql] at t0
      have hrT := Ne.getD_mem hql
      obtain ⟨r, hr⟩ : ∃ r, TL.getD q 0 = r := ⟨_, rfl⟩
      rw [hr] at t0 hrT
      clear hr
      obtain ⟨hr2, hrf⟩ := HTM.out r hrT
      have EN := Lib.hid (HEN.out r hr2)
      obtain ⟨htn, hte⟩ := HTB.out r hr2
      have HSTP := Lib.hid (fun ht => HSS.out _ u Rk HSI2.out K2.out K3.out r hr2 hrf ht)
      rw [← hte] at HSTP
      clear hrf hte hrT
      simp only [Int.toNat_natCast] at HSTP
      generalize (Ne.trT ml r).toNat = tn at *
      generalize Ne.trF ml r = y at *
      have hqi : (q : Int) < (tl : Int) := by omega
      clear hql
      have hq0 : (0 : Int) ≤ (q : Int) := by omega
      have hti : (tn : Int) < (N : Int) + 1 := by omega
      have ht0 : (0 : Int) ≤ (tn : Int) := by omega
      obtain ⟨n0, n1, n2, n3⟩ := Ne.netBox_cells HN7.out
      go_wp2_with fail
      refine (PK.out _).mono ?_
      rintro e w' ⟨rfl, rfl⟩
      go_wp2_with fail
      refine (EN.out _ (HR5.out.kept HB47.out)).mono ?_
      rintro e w8 ⟨rfl, hb⟩
      have HN8 := Lib.hid (Ne.netBox_below HN7.out hb (Ne.netBox_lt HN7.out))
      have HM8 := Lib.hid (HM7.out.kept hb)
      have HO8 := Lib.hid (Rw.own_below HO7.out hb)
      have HQ8 := Lib.hid (HQ7.out.trans (hb.mono (Nat.le_of_lt HZ7.out)))
      have HZ8 := Lib.hid (Nat.lt_of_lt_of_le HZ7.out hb.size)
      have HLM := Lib.hid (HSL.out _ _ _ HSI2.out)
      have mt := HM8.out.cell (i := tn) (by rw [HLM.out.1]; exact htn)
      clear hb n0 n1 n2 n3 t0 d0 HM7 HO7 HQ7 HN7 HB47 HZ7 HFT HS7
      rcases ht : (M.set u true).getD tn false with _ | _
      · rw [ht] at mt
        obtain ⟨br, orr, rfl, _, e1⟩ := Ne.irow_cell (HRM5.out.kept (show Below w5.heap.size w5 w8 by have := HQ8.out; rwa [HBM.out] at this)) (i := r) (by rw [HRLN.out]; exact hr2)
        rw [HRO.out r hr2] at e1
        obtain ⟨hro0, hro1⟩ := HRBD.out r hr2
        have HMS2 := Lib.hid (fun m2 h1 e => HMST.out Rk mo m2 r HMO.out h1 hro1 e)
        have HRX0 := HRO.out r hr2
        generalize RO r = ro at *
        have HRX := Lib.hid HRX0
        clear HRX0
        have hri : (r : Int) < 2 * (ml.length : Int) := by omega
        have hr0 : (0 : Int) ≤ (r : Int) := by omega
        by_cases hz : ro = 0
        · have hz1 : (ro == 0) = true := by simpa using hz
          have HSI2' := Lib.hid HSI2.out
          clear ht
          subst hz
          go_wp2
          go_roundg (st.length - (j + 1))
          case measure => omega
          case rel => exact ⟨u, _, Rk, _, mo, j + 1, rfl, rfl, rfl, HMO, by go_num, by omega, hun, HSI2, HO8, HM8, HQ8⟩
        have hz1 : (ro == 0) = false := by simpa using hz
        obtain ⟨mo2, hmin⟩ : ∃ z, min mo ro = z := ⟨_, rfl⟩
        have HMO2 := Lib.hid (HMS2.out mo2 (by omega) hmin)
        clear hz
        have HSI4 := Lib.hid (HSTP.out ht)
        have HO9 := Lib.hid (Rw.own_alloc HO8.out (.cells #[.int .i64 (r : Int)] 3))
        have HR9 := Lib.hid (Ne.irow_one' w8 rfl (r : Int) 3)
        have HM9 := Lib.hid (HM8.out.alloc (.cells #[.int .i64 (r : Int)] 3))
        have HQ9 := Lib.hid (HQ8.out.alloc (Nat.le_of_lt HZ8.out) (.cells #[.int .i64 (r : Int)] 3))
        have HLN := Lib.hid (show (Ne.encW Rk).length + ([(r : Int)] : List Int).length ≤ 1099511627776 by rw [Ne.encW_len]; have := HRL.out; simp; omega)
        have hvb := Rw.own_block HO8.out
        have HZ9 := Lib.hid (show bm + 1 ≤ (w8.alloc (.cells #[.int .i64 (r : Int)] 3)).heap.size by have := HZ8.out; simp; omega)
        clear ht
        go_wp2_with (at_builtin; refine Rw.app Ne.elemI Ne.encI_len Ne.encI_one rfl (.tmp 127) (.tmp 129) rfl (bm + 1) _ (Ne.encW Rk) rfl HO9.out (some ⟨w8.heap.size, 0, none⟩) 1 [(r : Int)] rfl ?hnn HR9.out HLN.out ?hB ?_; (case hnn => (intro h; cases h)); (case hB => (exact HZ9.out)); intro v9 w9 hown9 hgr9; rw [← Ne.encW_snoc] at hown9; have HB9 := Lib.hid (HQ9.out.grown hgr9 (Nat.le_of_succ_le HZ9.out) (fun b hb => by have := hvb _ hb; omega)); have HM10 := Lib.hid (HM9.out.grown hgr9 (fun h => by have := hvb _ h.symm; omega)); have HO10 := Lib.hid hown9; obtain ⟨_, _, ee, _, e2⟩ := Ne.irow_cell (HRM5.out.kept (show Below w5.heap.size w5 w9 by have := HB9.out; rwa [HBM.out] at this)) (i := r) (by rw [HRLN.out]; exact hr2); cases ee; rw [HRX.out] at e2; clear hown9 hgr9)
        go_roundg (st.length - (j + 1))
        case measure => omega
        case rel => exact ⟨tn, _, Rk ++ [r], _, mo2, j + 1, rfl, rfl, rfl, HMO2, by go_num, by omega, htn, HSI4, HO10, HM10, HB9⟩
      · rw [ht] at mt
        clear ht
        go_wp2
        go_roundg (st.length - (j + 1))
        case measure => omega
        case rel => exact ⟨u, _, Rk, _, mo, j + 1, rfl, rfl, rfl, HMO, by go_num, by omega, hun, HSI2, HO8, HM8, HQ8⟩
  case rest =>
  obtain ⟨u, v, R, M, mo, rfl, rfl, rfl, HMO, HSI, HOW, HQ⟩ := hcut
  have HB4c := Lib.hid (show Below w5.heap.size w5 wc by have := HQ.out; rwa [HBM.out] at this)
  have HB6 := Lib.hid (HB5.out.trans (HB4c.out.mono HB5.out.size))
  have HN6 := Lib.hid (Ne.netBox_below HN5.out HB4c.out (Ne.netBox_lt HN5.out))
  have HR6 := Lib.hid (HR5.out.kept HB4c.out)
  have HL6 := Lib.hid (HL5.out.kept HB4c.out)
  obtain ⟨ot, ct, hv, _, hrt⟩ := Ne.irow_ofI2 HOW.out
  rw [Ne.encW_len] at hv
  subst hv
  have HRT6 := Lib.hid hrt
  clear hrt HOW HQ HB4c FR HEN HMEM HTB HFL2 HS0 HSM HSS HSL HM0 HQ0 HM00 HMST HRO HRLN HRBD HRM5
  have HWK := Lib.hid (show Ne.isWalk ⟨(N : Int), (S : Int), (D : Int), ml⟩ (Ne.encW R) = decide (u = D) by
    rw [Ne.simple_walk HSI.out]
    by_cases c : u = D
    · subst c; simp
    · simp [c]; omega)
  have HNO := Lib.hid HSI.out.nodup
  have HIN := Lib.hid HSI.out.inn
  have HRB := Lib.hid (Ne.simple_few HSI.out)
  simp only at HIN HRB
  have HTB := Lib.hid (show ∀ x ∈ Ne.encW R, Ne.in64 x from Ne.encW_64 (b := 2 * ml.length) (fun r hr => Nat.le_of_lt (HIN.out r hr)) (by omega))
  have HTL := Lib.hid (show R.length ≤ 1000000 by have := HRB.out; omega)
  have PX := Lib.hid fun x (hx : Ne.in64 x) w' h1 h2 h3 => show Calls Try.prog 13 #[Ne.encN ⟨(N : Int), (S : Int), (D : Int), ml⟩ om cm, .slice (some ⟨fb, 0, none⟩) ml.length ml.length, .slice ot R.length ct, .int .i64 x] w' fun e w2 => ∃ o c, e = .returned (.tuple #[.slice o (Ne.pushV ⟨(N : Int), (S : Int), (D : Int), ml⟩ f (Ne.encW R) x).length c, .int .i64 (Ne.pushE ⟨(N : Int), (S : Int), (D : Int), ml⟩ f (Ne.encW R) x)]) ∧ Ne.IRow w2 o (Ne.pushV ⟨(N : Int), (S : Int), (D : Int), ml⟩ f (Ne.encW R) x) ∧ Below w'.heap.size w' w2 by
    have := Ne.push_flowC (n := ⟨(N : Int), (S : Int), (D : Int), ml⟩) (f := f) om cm (some ⟨fb, 0, none⟩) ml.length w' CK.out h1 h2 FL.out ot ct (Ne.encW R) x h3 (by rw [Ne.encW_len]; exact HTL.out) HTB.out hx
    rwa [Ne.encW_len] at this
  obtain ⟨n0, n1, n2, n3⟩ := Ne.netBox_cells HN6.out
  by_cases hud : u = D
  case neg =>
    have P1 := Lib.hid (PX.out 1 (by unfold Ne.in64; omega))
    obtain ⟨q1, q2⟩ := Ne.pushE_off CK.out FL.out (W := Ne.encW R) (by rw [HWK.out]; simpa using hud) 1
    rw [q1, q2] at P1
    have h1 : ((u : Int) == (D : Int)) = false := by rw [beq_eq_false_iff_ne]; omega
    have h1n : ((u : Int) != (D : Int)) = true := by simp; omega
    have h2 : (u == D) = false := by simpa using hud
    have h2n : (u != D) = true := by simpa using hud
    clear q1 q2
    go_wp2_with fail
    refine (P1.out wc HR6.out HL6.out.irow HRT6.out).mono ?_
    rintro e w7 ⟨o7, c7, rfl, _, hb⟩
    have HB7 := Lib.hid (HB6.out.trans (hb.mono HB6.out.size))
    clear hb
    go_wp2
    go_ret
    exact ⟨rfl, HB7.out⟩
  obtain ⟨q1, q2, q3, q4, q5⟩ := Ne.push_most CK.out FL.out (show Ne.Most ml f R mo by rw [HMOE.out]; exact HMO.out) HNO.out HIN.out (by rw [HWK.out]; simpa using hud)
  obtain ⟨t1, t2⟩ := Ne.push_turned CK.out FL.out q3 (HMOP.out _ _ HMO.out).1 HIN.out (by rw [HWK.out]; simpa using hud) q2
  obtain ⟨hmo1, hmo2⟩ := HMOP.out _ _ HMO.out
  have P1 := Lib.hid (PX.out mo (by unfold Ne.in64; omega))
  have P2 := Lib.hid (PX.out (mo + 1) (by unfold Ne.in64; omega))
  rw [q1] at P1
  rw [q5] at P2
  have HTB2 := Lib.hid (show ∀ x ∈ Ne.encW (Ne.backR R), Ne.in64 x from Ne.encW_64 (b := 2 * ml.length + 1) (Ne.backR_bd fun r hr => Nat.le_of_lt (HIN.out r hr)) (by omega))
  have PT := Lib.hid fun o c wo' wc' w' h1 h2 h3 => show Calls Try.prog 13 #[Ne.encN ⟨(N : Int), (D : Int), (S : Int), ml⟩ om cm, .slice o (Ne.pushV ⟨(N : Int), (S : Int), (D : Int), ml⟩ f (Ne.encW R) mo).length c, .slice wo' R.length wc', .int .i64 mo] w' fun e w2 => ∃ o c, e = .returned (.tuple #[.slice o ml.length c, .int .i64 0]) ∧ Ne.IRow w2 o f ∧ Below w'.heap.size w' w2 by
    have := Ne.dpush_s ⟨(N : Int), (D : Int), (S : Int), ml⟩ om cm o c (Ne.pushV ⟨(N : Int), (S : Int), (D : Int), ml⟩ f (Ne.encW R) mo) wo' wc' (Ne.encW (Ne.backR R)) mo w' h1 h2 h3 hl6 CAP.out (by rw [Ne.encW_len, Ne.backR_len]; exact HTL.out) HTB2.out (by unfold Ne.in64; omega)
    rwa [t1, t2, Ne.encW_len, Ne.backR_len, HFLN.out] at this
  have VF := Lib.hid fun w' h1 h2 => Ne.val_flow (n := ⟨(N : Int), (S : Int), (D : Int), ml⟩) (f := f) om cm (some ⟨fb, 0, none⟩) ml.length w' CK.out h1 h2 FL.out
  have VG := Lib.hid fun o c w' h1 h2 => Ne.fval_any ⟨(N : Int), (S : Int), (D : Int), ml⟩ om cm o c (Ne.pushV ⟨(N : Int), (S : Int), (D : Int), ml⟩ f (Ne.encW R) mo) w' h1 h2 hl6 CAP.out
  rw [Ne.flow_vaV CK.out q3, Ne.flow_chkF CK.out q3, q4] at VG
  have SM := Lib.hid fun x1 x2 y1 y2 w' h1 h2 => Ne.rsame_l x1 x2 y1 y2 f f w' h1 h2 (by rw [HFLN.out]; omega) (by rw [HFLN.out]; omega)
  rw [show decide (f = f) = true by simp, HFLN.out] at SM
  have hvb := Ne.exc_bd RT.out FL.out.wi (D : Int)
  simp only at VF VG hvb
  clear q1 q2 q3 q4 q5 t1 t2
  generalize Ne.exc ml f (D : Int) = V at *
  generalize Ne.pushV ⟨(N : Int), (S : Int), (D : Int), ml⟩ f (Ne.encW R) mo = PV at *
  generalize Ne.pushV ⟨(N : Int), (S : Int), (D : Int), ml⟩ f (Ne.encW R) (mo + 1) = P9 at *
  clear PX HWK HNO HTB
  have hsum : IntKind.i64.wrap (V + mo) = V + mo := by rw [IntKind.wrap_i64]; omega
  have hdu : D = u := hud.symm
  clear hud
  subst hdu
  go_wp2_with fail
  refine (P1.out wc HR6.out HL6.out.irow HRT6.out).mono ?_
  rintro e w7 ⟨o7, c7, rfl, hpv, hb⟩
  have HB7 := Lib.hid (HB6.out.trans (hb.mono HB6.out.size))
  have HN7 := Lib.hid (Ne.netBox_below HN6.out hb (Ne.netBox_lt HN6.out))
  have HR7 := Lib.hid (HR6.out.kept hb)
  have HL7 := Lib.hid (HL6.out.kept hb)
  have HPV7 := Lib.hid hpv
  have HRT7 := Lib.hid (HRT6.out.kept hb)
  clear hpv HRT6
  clear hb n0 n1 n2 n3
  obtain ⟨n0, n1, n2, n3⟩ := Ne.netBox_cells HN7.out
  go_wp2_with fail
  refine (VF.out w7 HR7.out HL7.out.irow).mono ?_
  rintro e w8 ⟨rfl, hb⟩
  have HB8 := Lib.hid (HB7.out.trans (hb.mono HB7.out.size))
  have HN8 := Lib.hid (Ne.netBox_below HN7.out hb (Ne.netBox_lt HN7.out))
  have HR8 := Lib.hid (HR7.out.kept hb)
  have HL8 := Lib.hid (HL7.out.kept hb)
  have HPV8 := Lib.hid (HPV7.out.kept hb)
  have HRT8 := Lib.hid (HRT7.out.kept hb)
  clear HPV7 HRT7
  clear hb n0 n1 n2 n3
  obtain ⟨n0, n1, n2, n3⟩ := Ne.netBox_cells HN8.out
  go_wp2_with fail
  refine (VG.out o7 c7 w8 HR8.out HPV8.out).mono ?_
  rintro e w9 ⟨rfl, hb⟩
  have HB9 := Lib.hid (HB8.out.trans (hb.mono HB8.out.size))
  have HN9 := Lib.hid (Ne.netBox_below HN8.out hb (Ne.netBox_lt HN8.out))
  have HR9 := Lib.hid (HR8.out.kept hb)
  have HL9 := Lib.hid (HL8.out.kept hb)
  have HPV9 := Lib.hid (HPV8.out.kept hb)
  have HRT9 := Lib.hid (HRT8.out.kept hb)
  clear HPV8 HRT8
  clear hb n0 n1 n2 n3
  obtain ⟨n0, n1, n2, n3⟩ := Ne.netBox_cells HN9.out
  go_wp2_with fail
  refine (P2.out w9 HR9.out HL9.out.irow HRT9.out).mono ?_
  rintro e w10 ⟨o10, c10, rfl, _, hb⟩
  have HB10 := Lib.hid (HB9.out.trans (hb.mono HB9.out.size))
  have HN10 := Lib.hid (Ne.netBox_below HN9.out hb (Ne.netBox_lt HN9.out))
  have HR10 := Lib.hid (HR9.out.kept hb)
  have HL10 := Lib.hid (HL9.out.kept hb)
  have HPV10 := Lib.hid (HPV9.out.kept hb)
  have HRT10 := Lib.hid (HRT9.out.kept hb)
  clear HPV9 HRT9
  clear hb n0 n1 n2 n3
  obtain ⟨n0, n1, n2, n3⟩ := Ne.netBox_cells HN10.out
  clear P1 P2 VF VG
  have HT11 := Lib.hid (Ne.netBox_new w10 (N : Int) (D : Int) (S : Int) (.slice om ml.length cm))
  have HB11 := Lib.hid (HB10.out.alloc HB10.out.size (.cells #[.int .i64 (N : Int), .int .i64 (D : Int), .int .i64 (S : Int), .slice om ml.length cm] 24))
  have HQ11 := Lib.hid (show Below w10.heap.size w10 (w10.alloc (.cells #[.int .i64 (N : Int), .int .i64 (D : Int), .int .i64 (S : Int), .slice om ml.length cm] 24)) from (Below.refl _ _).alloc (Nat.le_refl _) _)
  go_wp2
  clear n0 n1 n2 n3
  obtain ⟨bq, hbq⟩ : ∃ b, b = w10.heap.size := ⟨_, rfl⟩
  rw [← hbq] at HT11 ⊢
  have HBQ := Lib.hid hbq
  clear hbq
  generalize (w10.alloc (.cells #[.int .i64 (N : Int), .int .i64 (D : Int), .int .i64 (S : Int), .slice om ml.length cm] 24)) = W11 at *
  have HRB2 : R.length ≤ 1000000 := HTL.out
  go_loopg [36, 37] R.length (fun g s i wr => ∃ (v : Value) (k : Nat) (z : Int), v = s ∧ i = .int .i64 z ∧ k ≤ g ∧ k ≤ R.length ∧ Hid (z = (k : Int) - 1) ∧ Hid (Ne.OwnI wr (bq + 1) v (Ne.encW (Ne.backR (R.drop k)))) ∧ Hid (Ne.NetBox wr bq (N : Int) (D : Int) (S : Int) (.slice om ml.length cm)) ∧ Hid (Below w10.heap.size w10 wr))
  case atStart => exact ⟨_, R.length, (R.length : Int) - 1, rfl, (by first | rfl | exact congrArg (Value.int IntKind.i64) (by unfold wrap64; omega) | exact congrArg (Value.int IntKind.i64) (by rw [← Ne.wrap64_eq, IntKind.wrap_i64]; omega)), Nat.le_refl _, Nat.le_refl _, Lib.hid rfl, Lib.hid (by rw [List.drop_length]; exact Rw.own_nil _ _), HT11, HQ11⟩
  case round =>
    obtain ⟨v, k, z, rfl, rfl, hkg, hkl, HZ, HOW, HTB4, HQ⟩ := hrel
    obtain ⟨n0, n1, n2, n3⟩ := Ne.netBox_cells HTB4.out
    rcases k with _ | k
    · have hz : z = -1 := by have := HZ.out; omega
      subst hz
      obtain ⟨obk, cbk, hv, _, hrb⟩ := Ne.irow_ofI2 HOW.out
      rw [Ne.encW_len, Ne.backR_len, List.drop_zero] at hv
      rw [List.drop_zero] at hrb
      subst hv
      have HRBK := Lib.hid hrb
      have PTK := Lib.hid (PT.out o7 c7 obk cbk)
      have HBE := Lib.hid (HB10.out.trans (HQ.out.mono HB10.out.size))
      clear hrb HOW
      go_wp2_with fail
      refine (PTK.out _ (HR10.out.kept HQ.out) (HPV10.out.kept HQ.out) HRBK.out).mono ?_
      rintro e w12 ⟨o12, c12, rfl, hf12, hb⟩
      have HF12 := Lib.hid hf12
      have HL12 := Lib.hid ((HL10.out.kept HQ.out).kept hb)
      have HB12 := Lib.hid (HBE.out.trans (hb.mono HBE.out.size))
      clear hb hf12 n0 n1 n2 n3
      go_wp2_with fail
      refine (SM.out _ _ _ _ w12 HF12.out HL12.out.irow).mono ?_
      rintro e w13 ⟨rfl, hb⟩
      have HB13 := Lib.hid (HB12.out.trans (hb.mono HB12.out.size))
      clear hb
      go_wp2
      go_ret
      exact ⟨rfl, HB13.out⟩
    · have hz : z = (k : Int) := by have := HZ.out; omega
      subst hz
      have hkl2 : k < R.length := by omega
      obtain ⟨bw, ow, rfl, _, d0⟩ := Ne.irow_cell (HRT10.out.kept HQ.out) (i := k) (by rw [Ne.encW_len]; exact hkl2)
      rw [Ne.encW_at hkl2] at d0
      have HBD := Lib.hid (Ne.backR_drop hkl2)
      have hr2 := HIN.out _ (Ne.getD_mem hkl2)
      generalize R.getD k 0 = r at *
      have hxo := Ne.xor_opp r (by omega)
      generalize Ne.opp r = op at *
      have hki : (k : Int) < (R.length : Int) := by omega
      have hk0 : (0 : Int) ≤ (k : Int) := by omega
      have HO3 := Lib.hid (Rw.own_alloc HOW.out (.cells #[.int .i64 (op : Int)] 3))
      have HR3 := Lib.hid (Ne.irow_one' wr rfl (op : Int) 3)
      have hvb := Rw.own_block HOW.out
      have hbqw := HBQ.out
      have hszq := HQ.out.size
      have htlt := Ne.netBox_lt HTB4.out
      have HB3 := Lib.hid (HQ.out.alloc hszq (.cells #[.int .i64 (op : Int)] 3))
      have HT3 := Lib.hid (Ne.netBox_alloc HTB4.out (.cells #[.int .i64 (op : Int)] 3))
      have HZ3 := Lib.hid (show bq + 1 ≤ (wr.alloc (.cells #[.int .i64 (op : Int)] 3)).heap.size by simp; omega)
      have HLN := Lib.hid (show (Ne.encW (Ne.backR (R.drop (k + 1)))).length + ([(op : Int)] : List Int).length ≤ 1099511627776 by rw [Ne.encW_len, Ne.backR_len, List.length_drop]; simp; omega)
      have HWE := Lib.hid (show Ne.encW (Ne.backR (R.drop k)) = Ne.encW (Ne.backR (R.drop (k + 1))) ++ [(op : Int)] by rw [HBD.out, Ne.encW_snoc])
      have HQR := Lib.hid (show w10.heap.size ≤ (wr.alloc (.cells #[.int .i64 (op : Int)] 3)).heap.size by simp; omega)
      clear n0 n1 n2 n3 hbqw
      go_wp2_with (at_builtin; refine Rw.app Ne.elemI Ne.encI_len Ne.encI_one rfl (.tmp 213) (.tmp 219) rfl (bq + 1) _ (Ne.encW (Ne.backR (R.drop (k + 1)))) rfl HO3.out (some ⟨wr.heap.size, 0, none⟩) 1 [(op : Int)] rfl ?hnn HR3.out HLN.out ?hB ?_; (case hnn => (intro h; cases h)); (case hB => (exact HZ3.out)); intro v4 w4' hown4 hgr4; rw [← HWE.out] at hown4; have HB4' := Lib.hid (HB3.out.grown hgr4 HQR.out (fun b hb => by have := hvb _ hb; have := HBQ.out; omega)); have HT4 := Lib.hid (Ne.netBox_grown HT3.out hgr4 (fun h => by have := hvb _ h.symm; omega)); have HO4' := Lib.hid hown4; clear hown4 hgr4)
      go_roundg (gk - 1)
      case measure => omega
      case rel => exact ⟨_, k, (k : Int) - 1, rfl, by first | rfl | go_num, by omega, by omega, Lib.hid rfl, HO4', HT4, HB4'⟩

end Go.Proofs.Ythgknkjdidbkdaa.residualPushes
