/- ResidualReach: for every input the law returns true and its arguments read as they did. No condition. -/
import Derived.Test.YthgknkjdidbkdaaRlw6
import Derived.Test.YthgknkjdidbkdaaOpenc
import Derived.Test.YthgknkjdidbkdaaRows
import Derived.WalkKit
import Derived.ProofKit
import Derived.OpenShut
import Derived.ShutString
import Derived.ChangeOld
import Derived.Below
import Derived.Deep.Strs
namespace Go.Proofs.Ythgknkjdidbkdaa.residualReach
open Go.ChangeShapes Go.WideShapes Go.ChangeAt Go.RowKit
open Go.ChangeMaps (open_string shut_string)
set_option linter.unusedVariables false
set_option linter.unusedSimpArgs false

theorem own : ownKnob Try.prog.godebug = none := by kernel_rfl
theorem laidOut : laidOutB Try.prog = true := by kernel_rfl

def IntsIn (k : IntKind) (w : World) (a : Option Addr) (len cap : Nat) (zs : List Int) : Prop :=
  (a = none ∧ len = 0 ∧ cap = 0 ∧ zs = []) ∨
  ∃ x, a = some x ∧ len ≤ cap ∧ cap ≤ maxLen ∧ zs.length = cap ∧ (∀ i, i < zs.length → w.cell? (x.add i) = some (.int k (zs.getD i 0))) ∧ ∀ n ∈ zs, (Lit.int k n).wf = true



set_option maxRecDepth 100000 in
set_option maxHeartbeats 4000000 in
theorem walk (a0 : Int) (a1 : Int) (a2 : List Ne.Arc) (o2 : Option Addr) (c2 : Nat) (a3 : Option Addr) (len3 cap3 : Nat) (l3 : List Int) (a4 : Int) (a5 : Int) (w : World) (w0 : (Lit.int .i64 a0).wf = true) (w1 : (Lit.int .i64 a1).wf = true) (k2 : ∀ a ∈ a2, Ne.Arc.ok a) (z2 : a2.length ≤ c2) (y2 : c2 ≤ maxLen) (n2 : o2 = none → c2 = 0) (r2 : Ne.ARow w o2 a2) (w3 : IntsIn .i64 w a3 len3 cap3 l3) (w4 : (Lit.int .i64 a4).wf = true) (w5 : (Lit.int .i64 a5).wf = true) :
    Calls Try.prog 5 #[.int .i64 a0, .int .i64 a1, .slice o2 a2.length c2, .slice a3 len3 cap3, .int .i64 a4, .int .i64 a5] w fun e w' => e = .returned (.bool true) ∧ Below w.heap.size w w' := by
  have HSH := Lib.hid (Ne.shown_any w)
  obtain ⟨mn, hmn⟩ : ∃ x, x = (Ne.madeN a0 a1 a2).n := ⟨_, rfl⟩
  obtain ⟨ms, hms⟩ : ∃ x, x = (Ne.madeN a0 a1 a2).s := ⟨_, rfl⟩
  obtain ⟨mt, hmt⟩ : ∃ x, x = (Ne.madeN a0 a1 a2).t := ⟨_, rfl⟩
  obtain ⟨ml, hml⟩ : ∃ x, x = (Ne.madeN a0 a1 a2).l := ⟨_, rfl⟩
  have em : Ne.madeN a0 a1 a2 = ⟨mn, ms, mt, ml⟩ := by rw [hmn, hms, hmt, hml]
  obtain ⟨f1, f2, f3, f4, f5, f6, f7, f8, f9⟩ := Ne.madeN_fine (nodes := a0) (ends := a1) k2
  have ck := Ne.made_check (nodes := a0) (ends := a1) k2
  have MD := Lib.hid fun w' (h : Ne.ARow w' o2 a2) => Ne.made_s a0 a1 a2 o2 c2 w' (bounds_i64 w0) (bounds_i64 w1) k2 h
  rw [em] at MD f1 f2 f3 f4 f5 f6 f7 f8 f9 ck
  simp only at f1 f2 f3 f4 f5 f6 f7 f8 f9
  clear hmn hms hmt hml em
  have f8' : ml.length ≤ 24 := by omega
  clear f8
  have CK := Lib.hid ck
  have RT := Lib.hid (Ne.right_of ck)
  have FI := Lib.hid f9
  have CAP := Lib.hid (show ∀ a ∈ ml, Ne.in64 a.cap from fun a ha => by have := (f9 a ha).2.2; unfold Ne.in64; omega)
  have hl6 : ml.length ≤ 1000000 := by omega
  have F7 := Lib.hid f7
  have RA := Lib.hid r2
  clear r2 f7 f9 ck
  obtain ⟨N, rfl⟩ : ∃ N : Nat, mn = (N : Int) := ⟨mn.toNat, by omega⟩
  obtain ⟨S, rfl⟩ : ∃ S : Nat, ms = (S : Int) := ⟨ms.toNat, by omega⟩
  obtain ⟨D, rfl⟩ : ∃ D : Nat, mt = (D : Int) := ⟨mt.toNat, by omega⟩
  obtain ⟨ks, hk3, hq3, bq3, _, _, _⟩ := Ne.ints_row w3
  subst hk3
  clear w3
  have BK3 := Lib.hid bq3
  have KR3 := Lib.hid hq3
  clear bq3 hq3
  have b4 := bounds_i64 w4
  have b5 := bounds_i64 w5
  have bpa := Ne.pickN_bd (c := a4) (n := 30) (by omega)
  have bpb := Ne.pickN_bd (c := a5) (n := 30) (by omega)
  have PA := Lib.hid fun w' => Ne.pick_any a4 30 w' b4.1 b4.2 (by omega) (by omega)
  have PB := Lib.hid fun w' => Ne.pick_any a5 30 w' b5.1 b5.2 (by omega) (by omega)
  generalize Ne.pickN a4 30 = pa at *
  generalize Ne.pickN a5 30 = pb at *
  obtain ⟨z, u, hmin, hmax, hz0, hzu, hu30⟩ := Ne.min_max_pick pa pb bpa bpb
  clear bpa bpb b4 b5
  go_enter Try.func5, Try.ntmps5
  go_wp2_with fail
  refine HSH.out.mono ?_
  rintro e w1 ⟨rfl, hb⟩
  have HB1 := Lib.hid hb
  clear hb
  go_wp2_with fail
  refine (MD.out _ (RA.out.kept HB1.out)).mono ?_
  rintro e w2 ⟨om, cm, rfl, ho, hb⟩
  have HB2 := Lib.hid (HB1.out.trans (hb.mono HB1.out.size))
  have HV2 := Lib.hid (Rw.own_lt ho)
  have HO3 := Lib.hid (Rw.own_base (Rw.own_alloc ho (.cells #[.int .i64 (N : Int), .int .i64 (S : Int), .int .i64 (D : Int), .slice om ml.length cm] 24)) (B' := w.heap.size) HB1.out.size)
  have HN3 := Lib.hid (Ne.netBox_new w2 (N : Int) (S : Int) (D : Int) (.slice om ml.length cm))
  have hz2 : w.heap.size ≤ w2.heap.size := HB2.out.size
  have HB3 := Lib.hid (HB2.out.alloc hz2 (.cells #[.int .i64 (N : Int), .int .i64 (S : Int), .int .i64 (D : Int), .slice om ml.length cm] 24))
  clear ho hb MD RA HSH
  go_wp2_with fail
  obtain ⟨bn, hbn⟩ : ∃ b, b = w2.heap.size := ⟨_, rfl⟩
  have hbn3 : bn < (w2.alloc (.cells #[.int .i64 (N : Int), .int .i64 (S : Int), .int .i64 (D : Int), .slice om ml.length cm] 24)).heap.size := by rw [hbn]; simp
  rw [← hbn] at HN3 HV2 hz2 ⊢
  clear hbn HB2 HB1
  generalize (w2.alloc (.cells #[.int .i64 (N : Int), .int .i64 (S : Int), .int .i64 (D : Int), .slice om ml.length cm] 24)) = W3 at *
  have HR3 := Lib.hid (Ne.arow_ofA HO3.out)
  obtain ⟨f, hf⟩ : ∃ x, x = Ne.routeN ⟨(N : Int), (S : Int), (D : Int), ml⟩ ks := ⟨_, rfl⟩
  have FL := Lib.hid (show Ne.Flow ⟨(N : Int), (S : Int), (D : Int), ml⟩ f by rw [hf]; exact Ne.route_flow RT.out _)
  have RD := Lib.hid fun w' h1 h2 => Ne.routed_any ⟨(N : Int), (S : Int), (D : Int), ml⟩ om cm a3 cap3 ks w' h1 h2 CK.out BK3.out
  rw [← hf] at RD
  refine (RD.out _ HR3.out (KR3.out.kept HB3.out)).mono ?_
  rintro e w4 ⟨fb, rfl, hfb, hl, hb⟩
  have HB4 := Lib.hid (HB3.out.trans (hb.mono HB3.out.size))
  have HN4 := Lib.hid (Ne.netBox_below HN3.out hb (Ne.netBox_lt HN3.out))
  have HO4 := Lib.hid (Rw.own_below HO3.out hb)
  have HR4 := Lib.hid (HR3.out.kept hb)
  have HFB4 := Lib.hid hl
  have hfb2 := hl.lt
  clear hl hb
  have HL4 := Lib.hid HFB4.out
  have HFB := Lib.hid hfb
  have RM := Lib.hid fun w' h1 h2 => Ne.room_flow (n := ⟨(N : Int), (S : Int), (D : Int), ml⟩) (f := f) om cm (some ⟨fb, 0, none⟩) ml.length w' CK.out h1 h2 FL.out
  have RX := Lib.hid fun w' h1 h2 => Ne.reach_flow (n := ⟨(N : Int), (S : Int), (D : Int), ml⟩) (f := f) om cm (some ⟨fb, 0, none⟩) ml.length w' CK.out h1 h2 FL.out (1 + z) (by omega)
  have RY := Lib.hid fun w' h1 h2 => Ne.reach_flow (n := ⟨(N : Int), (S : Int), (D : Int), ml⟩) (f := f) om cm (some ⟨fb, 0, none⟩) ml.length w' CK.out h1 h2 FL.out (1 + u) (by omega)
  have FR := Lib.hid fun (v : Int) w' h1 => Ne.dfrom_s ⟨(N : Int), (S : Int), (D : Int), ml⟩ om cm v w' h1 hl6
  have HEN := Lib.hid fun (r : Nat) (h : r < 2 * ml.length) w' h1 => show Calls Try.prog 19 #[Ne.encN ⟨(N : Int), (S : Int), (D : Int), ml⟩ om cm, .int .i64 (r : Int)] w' fun e w2 => e = .returned (.tuple #[.int .i64 (Ne.trF ml r), .int .i64 (((Ne.trT ml r).toNat : Nat) : Int)]) ∧ Below w'.heap.size w' w2 by
    have := Ne.ends_at ⟨(N : Int), (S : Int), (D : Int), ml⟩ om cm r w' h1 hl6 h
    have hb := Ne.trT_bd RT.out (r := r) h
    simp only at hb
    rwa [show (((Ne.trT ml r).toNat : Nat) : Int) = Ne.trT ml r by omega]
  simp only [Int.toNat_natCast] at RX RY
  obtain ⟨n0, n1, n2, n3⟩ := Ne.netBox_cells HN4.out
  go_wp2_with fail
  refine (PA.out _).mono ?_
  rintro e w' ⟨rfl, rfl⟩
  go_wp2_with fail
  refine (PB.out _).mono ?_
  rintro e w' ⟨rfl, rfl⟩
  go_wp2_with fail
  refine (PA.out _).mono ?_
  rintro e w' ⟨rfl, rfl⟩
  go_wp2_with fail
  refine (PB.out _).mono ?_
  rintro e w' ⟨rfl, rfl⟩
  go_wp2_with fail
  refine (RM.out w4 HR4.out HL4.out.irow).mono ?_
  rintro e w5 ⟨o5, c5, rfl, hrm, hb⟩
  have HB5 := Lib.hid (HB4.out.trans (hb.mono HB4.out.size))
  have HN5 := Lib.hid (Ne.netBox_below HN4.out hb (Ne.netBox_lt HN4.out))
  have HR5 := Lib.hid (HR4.out.kept hb)
  have HL5 := Lib.hid (HL4.out.kept hb)
  have HRM5 := Lib.hid hrm
  clear hrm
  clear hb n0 n1 n2 n3
  obtain ⟨n0, n1, n2, n3⟩ := Ne.netBox_cells HN5.out
  go_wp2_with fail
  refine (RX.out w5 HR5.out HL5.out.irow).mono ?_
  rintro e w6 ⟨b6, c6, M1, rfl, hi1, hm1, hb⟩
  have HB6 := Lib.hid (HB5.out.trans (hb.mono HB5.out.size))
  have HN6 := Lib.hid (Ne.netBox_below HN5.out hb (Ne.netBox_lt HN5.out))
  have HR6 := Lib.hid (HR5.out.kept hb)
  have HL6 := Lib.hid (HL5.out.kept hb)
  have HRM6 := Lib.hid (HRM5.out.kept hb)
  have HM6 := Lib.hid hm1
  have HI1 := Lib.hid hi1
  clear hm1 hi1 HRM5
  clear hb n0 n1 n2 n3
  obtain ⟨n0, n1, n2, n3⟩ := Ne.netBox_cells HN6.out
  go_wp2_with fail
  refine (RY.out w6 HR6.out HL6.out.irow).mono ?_
  rintro e w8 ⟨b8, c8, M2, rfl, hi2, hm2, hb⟩
  have HB8 := Lib.hid (HB6.out.trans (hb.mono HB6.out.size))
  have HN8 := Lib.hid (Ne.netBox_below HN6.out hb (Ne.netBox_lt HN6.out))
  have HR8 := Lib.hid (HR6.out.kept hb)
  have HL8 := Lib.hid (HL6.out.kept hb)
  have HRM8 := Lib.hid (HRM6.out.kept hb)
  have HM8 := Lib.hid (HM6.out.kept hb)
  have HY8 := Lib.hid hm2
  have HI2 := Lib.hid hi2
  clear hm2 hi2 HRM6 HM6
  clear hb n0 n1 n2 n3
  obtain ⟨n0, n1, n2, n3⟩ := Ne.netBox_cells HN8.out
  clear RM RX RY PA PB hmin hmax
  have HZ0 := Lib.hid (Ne.reach_zero RT.out HI1.out)
  have HSS := Lib.hid (show M1.getD S false = true by have := HI1.out.at_s; simpa using this)
  have HL1 := Lib.hid (show M1.length = N + 1 by have := HI1.out.len; simpa using this)
  have HL2 := Lib.hid (show M2.length = N + 1 by have := HI2.out.len; simpa using this)
  have HFW := Lib.hid (fun v (h : M2.getD v false = true) => Ne.reach_fewer RT.out HI1.out HI2.out (by omega) h)
  have HNX := Lib.hid (fun v r (h1 : M1.getD v false = true) (h2 : r ∈ Ne.fromL ml (v : Int) (2 * ml.length)) (h3 : 1 + z ≤ Ne.roomN ml f r) => Ne.reach_next HI1.out h1 h2 h3)
  have HBYS := Lib.hid (fun (v : Nat) (h1 : M1.getD v false = true) (h2 : (v : Int) ≠ (S : Int)) => Ne.reach_by RT.out HI1.out h1 h2)
  have HMEM := Lib.hid (fun (v : Int) r (h : r ∈ Ne.fromL ml v (2 * ml.length)) => (Ne.fromL_mem.1 h).1)
  have HTB := Lib.hid (fun r (h : r < 2 * ml.length) => show (Ne.trT ml r).toNat < N + 1 by have := Ne.trT_bd RT.out (r := r) h; simp only at this; omega)
  have HRO := Lib.hid (fun r (h : r < 2 * ml.length) => Ne.roomL_at ml f h)
  have HRL := Lib.hid (Ne.roomL_len ml f (2 * ml.length))
  have HFLN := Lib.hid (fun (v : Int) => Ne.fromL_len ml v (2 * ml.length))
  have HBT := Lib.hid (fun T i (h : i < T.length) => Ne.byN_take (l := ml) (f := f) (x := 1 + z) (M := M1) (T := T) h)
  have HB0N := Lib.hid (fun (T : List Nat) => show Ne.byN ml f (1 + z) M1 (T.take 0) = false by simp [Ne.byN])
  simp only at HNX HBYS
  generalize Ne.byN ml f (1 + z) M1 = BY at *
  generalize Ne.roomL ml f (2 * ml.length) = RL at *
  generalize hTT : (fun r => (Ne.trT ml r).toNat) = TT at *
  have HTE := Lib.hid (show ∀ r, (Ne.trT ml r).toNat = TT r from fun r => by rw [← hTT])
  clear hTT
  simp only [HTE.out] at HEN HTB HNX HBT
  clear HTE HI1 HI2
  generalize Ne.roomN ml f = RO at *
  generalize Ne.trF ml = TF at *
  generalize Ne.fromL ml = FRL at *
  have m0 := HM8.out.cell (i := 0) (by rw [HL1.out]; omega)
  rw [HZ0.out] at m0
  have m1 := HM8.out.cell (i := S) (by rw [HL1.out]; omega)
  rw [HSS.out] at m1
  have hsi : (S : Int) < (N : Int) + 1 := by omega
  have hs0 : (0 : Int) ≤ (S : Int) := by omega
  have hn1 : 0 < N + 1 := by omega
  have hx64 : 1 + z ≤ 100 := by omega
  obtain ⟨X, hX⟩ : ∃ X, 1 + z = X := ⟨_, rfl⟩
  rw [hX] at HNX HBT hx64 ⊢
  have hX1 : 1 ≤ X := by omega
  clear hX
  go_wp2
  clear m0 m1 n0 n1 n2 n3
  go_loopg [24] N (fun g i wr => ∃ k : Nat, i = .int .i64 k ∧ 1 ≤ k ∧ k + g = N + 1 ∧ Hid (Below w8.heap.size w8 wr))
  case atStart => exact ⟨1, rfl, Nat.le_refl _, by omega, Lib.hid (Below.refl _ _)⟩
  case round =>
    obtain ⟨k, rfl, hk1, hk, HBW⟩ := hrel
    obtain ⟨n0, n1, n2, n3⟩ := Ne.netBox_cells (Ne.netBox_below HN8.out HBW.out (Ne.netBox_lt HN8.out))
    by_cases hlt : k < N + 1
    · have hki : (k : Int) < (N : Int) + 1 := by omega
      have hki2 : (k : Int) ≤ (N : Int) := by omega
      have hk0 : (0 : Int) ≤ (k : Int) := by omega
      have hkN : k ≤ N := by omega
      have p0 := (HM8.out.kept HBW.out).cell (i := k) (by rw [HL1.out]; exact hlt)
      have q0 := (HY8.out.kept HBW.out).cell (i := k) (by rw [HL2.out]; exact hlt)
      have HFK := Lib.hid (HFW.out k)
      have HNK := Lib.hid (HNX.out k)
      have HBK := Lib.hid (HBYS.out k)
      have FRK := Lib.hid (FR.out (k : Int))
      have HMK := Lib.hid (HMEM.out (k : Int))
      have hTL := HFLN.out (k : Int)
      have HB9 := Lib.hid (HB8.out.trans (HBW.out.mono HB8.out.size))
      generalize FRL (k : Int) (2 * ml.length) = TL at *
      obtain ⟨a, ha⟩ : ∃ a, M1.getD k false = a := ⟨_, rfl⟩
      obtain ⟨b, hb⟩ : ∃ b, M2.getD k false = b := ⟨_, rfl⟩
      rw [ha] at p0 HFK HNK HBK
      rw [hb] at q0 HFK
      have HA := Lib.hid ha
      clear ha hb
      have hab : b = true → a = true := HFK.out
      go_upto_region 16 with fail
      go_cut [127] (fun s wc => s = .bool false ∧ wr = wc)
      case first =>
        rcases a with _ | _
        · rcases b with _ | _
          · go_wp2
            go_meet
            case rel => exact ⟨rfl, rfl⟩
          · exact absurd (hab rfl) (by decide)
        · rcases b with _ | _
          · go_wp2
            go_meet
            case rel => exact ⟨rfl, rfl⟩
          · go_wp2
            go_meet
            case rel => exact ⟨rfl, rfl⟩
      case rest =>
      obtain ⟨rfl, rfl⟩ := hcut
      clear hab HFK q0
      go_wp2_with fail
      refine (FRK.out _ (HR8.out.kept HBW.out)).mono ?_
      rintro e w10 ⟨bt0, ct, rfl, hft, hb⟩
      have HFT := Lib.hid hft
      have HQ10 := Lib.hid (HBW.out.trans (hb.mono HBW.out.size))
      clear hb hft n0 n1 n2 n3 p0
      obtain ⟨b25, hb25⟩ : ∃ b, decide ((k : Int) = (S : Int)) = b := ⟨_, rfl⟩
      have hb25' : ((k : Int) == (S : Int)) = b25 := by rw [← hb25]; by_cases c : (k : Int) = (S : Int) <;> simp [c]
      have HSD := Lib.hid (show b25 = false → (k : Int) ≠ (S : Int) from fun h e => by rw [← hb25] at h; simp [e] at h)
      clear hb25
      go_wp2
      obtain ⟨B0, hB0⟩ : ∃ B, B = b25 := ⟨_, rfl⟩
      have HQB := Lib.hid hB0
      clear hB0
      go_loopg [25, 27] TL.length (fun g s i wy => ∃ (j : Nat) (b : Bool), s = .bool b ∧ i = .int .i64 j ∧ j + g = TL.length ∧ Hid (b = (b25 || BY (TL.take j))) ∧ Hid (Below w8.heap.size w8 wy) ∧ Hid (Below w10.heap.size w10 wy))
      case atStart => exact ⟨0, b25, rfl, rfl, by omega, Lib.hid (by rw [HB0N.out]; simp), HQ10, Lib.hid (Below.refl _ _)⟩
      case round =>
        obtain ⟨i, b, rfl, rfl, hig, HBB, HQ, HQT⟩ := hrel
        have hbl := Ne.netBox_lt (Ne.netBox_below HN8.out HQ.out (Ne.netBox_lt HN8.out))
        obtain ⟨n0, n1, n2, n3⟩ := Ne.netBox_cells (Ne.netBox_below HN8.out HQ.out (Ne.netBox_lt HN8.out))
        by_cases hil : i < TL.length
        · obtain ⟨bt, ot, rfl, hbt, d0⟩ := Ne.irow_cell HFT.out (i := i) (by rw [Ne.encW_len]; exact hil)
          rw [Ne.encW_at hil] at d0
          replace d0 := (HQT.out.cell (p := ⟨bt, ot + i, none⟩) hbt).trans d0
          have hbtl := (World.block_lt_of_cell? _ _ d0)
          have hrT := Ne.getD_mem hil
          have HBI := Lib.hid (HBT.out TL i hil)
          obtain ⟨r, hr⟩ : ∃ r, TL.getD i 0 = r := ⟨_, rfl⟩
          rw [hr] at d0 hrT HBI
          clear hr
          have hr2 := HMK.out r hrT
          have EN := Lib.hid (HEN.out r hr2)
          have htn := HTB.out r hr2
          have HNR := Lib.hid (fun h1 h3 => HNK.out r h1 hrT h3)
          have hxo := Ne.xor_opp r (by omega)
          have hro1 := HRO.out r hr2
          have hro2 := HRO.out (Ne.opp r) (Ne.opp_lt hr2)
          have hop := Ne.opp_lt hr2
          generalize TT r = tn at *
          generalize TF r = y at *
          have hii : (i : Int) < (TL.length : Int) := by omega
          have hi0 : (0 : Int) ≤ (i : Int) := by omega
          go_wp2
          have hS0 := (show (fun w' => (w'.cell? ⟨bn, 0, none⟩ = some (.int .i64 (N : Int)) ∧ w'.cell? ⟨bn, 1, none⟩ = some (.int .i64 (S : Int)) ∧ w'.cell? ⟨bn, 2, none⟩ = some (.int .i64 (D : Int)) ∧ w'.cell? ⟨bn, 3, none⟩ = some (.slice om ml.length cm)) ∧ w'.cell? ⟨bt, ot + i, none⟩ = some (.int .i64 (r : Int))) wr.drew from ⟨⟨n0, n1, n2, n3⟩, d0⟩)
          refine Rh.start (S := (fun w' => (w'.cell? ⟨bn, 0, none⟩ = some (.int .i64 (N : Int)) ∧ w'.cell? ⟨bn, 1, none⟩ = some (.int .i64 (S : Int)) ∧ w'.cell? ⟨bn, 2, none⟩ = some (.int .i64 (D : Int)) ∧ w'.cell? ⟨bn, 3, none⟩ = some (.slice om ml.length cm)) ∧ w'.cell? ⟨bt, ot + i, none⟩ = some (.int .i64 (r : Int)))) (by kernel_rfl) ?_
          refine Rh.take (some 142) (i := 0) (v := ?_) rfl (by kernel_rfl) (by kernel_rfl) (by kernel_rfl) (by kernel_rfl) (fun _ _ _ h => h) (Or.inl ⟨by rfl, ?_⟩) hS0 ?_
          rotate_left
          · intro w hSw
            go_simp
            try with_reducible rfl
          try simp only [Act.put, List.setIfInBounds_toArray, List.set_cons_zero, List.set_cons_succ]
          refine Rh.take (some 143) (i := 1) (v := ?_) rfl (by kernel_rfl) (by kernel_rfl) (by kernel_rfl) (by kernel_rfl) (fun _ _ _ h => h) (Or.inl ⟨by rfl, ?_⟩) hS0 ?_
          rotate_left
          · intro w hSw
            go_simp
            try with_reducible rfl
          try simp only [Act.put, List.setIfInBounds_toArray, List.set_cons_zero, List.set_cons_succ]
          refine Rh.take (some 144) (i := 2) (v := ?_) rfl (by kernel_rfl) (by kernel_rfl) (by kernel_rfl) (by kernel_rfl) (fun _ _ _ h => h) (Or.inl ⟨by rfl, ?_⟩) hS0 ?_
          rotate_left
          · intro w hSw
            go_simp
            try with_reducible rfl
          try simp only [Act.put, List.setIfInBounds_toArray, List.set_cons_zero, List.set_cons_succ]
          refine Rh.take (some 145) (i := 3) (v := ?_) rfl (by kernel_rfl) (by kernel_rfl) (by kernel_rfl) (by kernel_rfl) (fun _ _ _ h => h) (Or.inl ⟨by rfl, ?_⟩) hS0 ?_
          rotate_left
          · intro w hSw
            go_simp
            try with_reducible rfl
          try simp only [Act.put, List.setIfInBounds_toArray, List.set_cons_zero, List.set_cons_succ]
          refine Rh.take (some 146) (i := 4) (v := ?_) rfl (by kernel_rfl) (by kernel_rfl) (by kernel_rfl) (by kernel_rfl) (fun _ _ _ h => h) (Or.inl ⟨by rfl, ?_⟩) hS0 ?_
          rotate_left
          · intro w hSw
            go_simp
            try with_reducible rfl
          try simp only [Act.put, List.setIfInBounds_toArray, List.set_cons_zero, List.set_cons_succ]
          refine Rh.step (i := 5) (by kernel_rfl) rfl fun K' hK' => ?_
          have HK := Lib.hid hK'
          clear hK'
          go_simp
          refine (EN.out wr.drew (HR8.out.kept (Ne.below_drew HQ.out))).mono ?_
          rintro e w12 ⟨rfl, hb⟩
          have HQ2 := Lib.hid ((Ne.below_drew HQ.out).trans (hb.mono HQ.out.size))
          have hS1 := (show (fun w' => (w'.cell? ⟨bn, 0, none⟩ = some (.int .i64 (N : Int)) ∧ w'.cell? ⟨bn, 1, none⟩ = some (.int .i64 (S : Int)) ∧ w'.cell? ⟨bn, 2, none⟩ = some (.int .i64 (D : Int)) ∧ w'.cell? ⟨bn, 3, none⟩ = some (.slice om ml.length cm)) ∧ w'.cell? ⟨bt, ot + i, none⟩ = some (.int .i64 (r : Int))) w12 from ⟨⟨(hb.cell (p := ⟨bn, 0, none⟩) hbl).trans n0, (hb.cell (p := ⟨bn, 1, none⟩) hbl).trans n1, (hb.cell (p := ⟨bn, 2, none⟩) hbl).trans n2, (hb.cell (p := ⟨bn, 3, none⟩) hbl).trans n3⟩, (hb.cell (p := ⟨bt, ot + i, none⟩) hbtl).trans d0⟩)
          have HQT2X := (Ne.below_drew HQT.out).trans (hb.mono HQT.out.size)
          clear hb
          refine HK.out _ _ ⟨hS1, ?_⟩
          clear HK K'
          try simp only [Act.put, List.setIfInBounds_toArray, List.set_cons_zero, List.set_cons_succ]
          refine Rh.take (some 141) (i := 6) (v := ?_) rfl (by kernel_rfl) (by kernel_rfl) (by kernel_rfl) (by kernel_rfl) (fun _ _ _ h => h) (Or.inl ⟨by rfl, ?_⟩) hS1 ?_
          rotate_left
          · intro w hSw
            go_simp
            try with_reducible rfl
          try simp only [Act.put, List.setIfInBounds_toArray, List.set_cons_zero, List.set_cons_succ]
          refine Rh.take (some 148) (i := 7) (v := ?_) rfl (by kernel_rfl) (by kernel_rfl) (by kernel_rfl) (by kernel_rfl) (fun _ _ _ h => h) (Or.inl ⟨by rfl, ?_⟩) hS1 ?_
          rotate_left
          · intro w hSw
            go_simp
            try with_reducible rfl
          try simp only [Act.put, List.setIfInBounds_toArray, List.set_cons_zero, List.set_cons_succ]
          refine Rh.take (some 149) (i := 8) (v := ?_) rfl (by kernel_rfl) (by kernel_rfl) (by kernel_rfl) (by kernel_rfl) (fun _ _ _ h => h) (Or.inl ⟨by rfl, ?_⟩) hS1 ?_
          rotate_left
          · intro w hSw
            go_simp
            try with_reducible rfl
          try simp only [Act.put, List.setIfInBounds_toArray, List.set_cons_zero, List.set_cons_succ]
          refine Rh.take (some 28) (i := 9) (v := ?_) rfl (by kernel_rfl) (by kernel_rfl) (by kernel_rfl) (by kernel_rfl) (fun _ _ _ h => h) (Or.inl ⟨by rfl, ?_⟩) hS1 ?_
          rotate_left
          · intro w hSw
            go_simp
            try with_reducible rfl
          try simp only [Act.put, List.setIfInBounds_toArray, List.set_cons_zero, List.set_cons_succ]
          refine Rh.take (some 29) (i := 10) (v := ?_) rfl (by kernel_rfl) (by kernel_rfl) (by kernel_rfl) (by kernel_rfl) (fun _ _ _ h => h) (Or.inl ⟨by rfl, ?_⟩) hS1 ?_
          rotate_left
          · intro w hSw
            go_simp
            try with_reducible rfl
          try simp only [Act.put, List.setIfInBounds_toArray, List.set_cons_zero, List.set_cons_succ]
          refine Rh.done (by kernel_rfl) ?_ _
          obtain ⟨-, d1⟩ := hS1
          clear hS0 n0 n1 n2 n3 d0
          have p0 := (HM8.out.kept HQ2.out).cell (i := k) (by rw [HL1.out]; exact hlt)
          have pt := (HM8.out.kept HQ2.out).cell (i := tn) (by rw [HL1.out]; exact htn)
          rw [HA.out] at p0
          obtain ⟨br, orr, rfl, hbr, e1⟩ := Ne.irow_cell (HRM8.out.kept HQ2.out) (i := r) (by rw [HRL.out]; exact hr2)
          obtain ⟨_, _, e, _, e2⟩ := Ne.irow_cell (HRM8.out.kept HQ2.out) (i := Ne.opp r) (by rw [HRL.out]; exact hop)
          cases e
          rw [hro1] at e1
          rw [hro2] at e2
          obtain ⟨ro, hro⟩ : ∃ z, RO r = z := ⟨_, rfl⟩
          obtain ⟨rb, hrb⟩ : ∃ z, RO (Ne.opp r) = z := ⟨_, rfl⟩
          rw [hro] at e1 HNR
          rw [hrb] at e2 HBI
          clear hro hrb hro1 hro2
          obtain ⟨t, ht⟩ : ∃ t, M1.getD tn false = t := ⟨_, rfl⟩
          rw [ht] at pt HNR HBI
          clear ht
          have HQT2 := Lib.hid (show Below w10.heap.size w10 w12 from HQT2X)
          have hri : (r : Int) < 2 * (ml.length : Int) := by omega
          have hr0 : (0 : Int) ≤ (r : Int) := by omega
          have hti : (tn : Int) < (N : Int) + 1 := by omega
          have ht0 : (0 : Int) ≤ (tn : Int) := by omega
          obtain ⟨op, hop1⟩ : ∃ op, Ne.opp r = op := ⟨_, rfl⟩
          rw [hop1] at e2 hxo hop
          have hopi : (op : Int) < 2 * (ml.length : Int) := by omega
          have hop0 : (0 : Int) ≤ (op : Int) := by omega
          clear hop1
          go_upto_region 24 with fail
          go_cut [171] (fun s wc => s = .bool false ∧ w12 = wc)
          case first =>
            rcases a with _ | _
            · go_wp2
              go_meet
              case rel => exact ⟨rfl, rfl⟩
            · by_cases c : X ≤ ro
              · have c' : decide (X ≤ ro) = true := by simpa using c
                obtain rfl := HNR.out rfl c
                clear c
                go_wp2
                go_meet
                case rel => exact ⟨rfl, rfl⟩
              · have c' : decide (X ≤ ro) = false := by simpa using c
                clear c
                go_wp2
                go_meet
                case rel => exact ⟨rfl, rfl⟩
          case rest =>
          obtain ⟨rfl, rfl⟩ := hcut
          have HBJ := Lib.hid (show (b || (t && decide (X ≤ rb))) = (b25 || BY (TL.take (i + 1))) by rw [HBI.out, HBB.out, Bool.or_assoc])
          rcases b with _ | _
          · rcases t with _ | _
            · go_wp2
              go_roundg (TL.length - (i + 1))
              case measure => omega
              case rel => exact ⟨i + 1, false, rfl, by go_num, by omega, Lib.hid (by rw [← HBJ.out]; rfl), HQ2, HQT2⟩
            · by_cases c : X ≤ rb
              · have c' : decide (X ≤ rb) = true := by simpa using c
                have HBK2 := Lib.hid (show true = (b25 || BY (TL.take (i + 1))) by rw [← HBJ.out, c']; rfl)
                clear c
                go_wp2
                go_roundg (TL.length - (i + 1))
                case measure => omega
                case rel => exact ⟨i + 1, true, rfl, by go_num, by omega, HBK2, HQ2, HQT2⟩
              · have c' : decide (X ≤ rb) = false := by simpa using c
                have HBK2 := Lib.hid (show false = (b25 || BY (TL.take (i + 1))) by rw [← HBJ.out, c']; rfl)
                clear c
                go_wp2
                go_roundg (TL.length - (i + 1))
                case measure => omega
                case rel => exact ⟨i + 1, false, rfl, by go_num, by omega, HBK2, HQ2, HQT2⟩
          · have HBK2 := Lib.hid (show true = (b25 || BY (TL.take (i + 1))) by rw [← HBJ.out]; rfl)
            go_wp2
            go_roundg (TL.length - (i + 1))
            case measure => omega
            case rel => exact ⟨i + 1, true, rfl, by go_num, by omega, HBK2, HQ2, HQT2⟩
        · have ei : i = TL.length := by omega
          subst ei
          have p0 := (HM8.out.kept HQ.out).cell (i := k) (by rw [HL1.out]; exact hlt)
          rw [HA.out] at p0
          have HFB := Lib.hid (show b = (b25 || BY TL) by have := HBB.out; rwa [List.take_length] at this)
          rcases a with _ | _
          · go_wp2
            go_roundg (N + 1 - (k + 1))
            case measure => omega
            case rel => exact ⟨k + 1, by go_num, by omega, by omega, HQ⟩
          · have HT := Lib.hid (show b = true by
              rw [HFB.out]
              rcases hq : b25 with _ | _
              · rw [HBK.out rfl (HSD.out hq)]; rfl
              · rfl)
            obtain rfl := HT.out
            go_wp2
            go_roundg (N + 1 - (k + 1))
            case measure => omega
            case rel => exact ⟨k + 1, by go_num, by omega, by omega, HQ⟩
    · have ek : k = N + 1 := by omega
      subst ek
      have hlast : ¬ ((N : Int) + 1 ≤ (N : Int)) := by omega
      go_wp2
      go_ret
      exact ⟨rfl, (HB8.out.trans (HBW.out.mono HB8.out.size))⟩

end Go.Proofs.Ythgknkjdidbkdaa.residualReach
