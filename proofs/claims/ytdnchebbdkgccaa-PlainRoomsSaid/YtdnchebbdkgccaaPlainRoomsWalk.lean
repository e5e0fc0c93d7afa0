/- PlainRooms: for every input the law returns true and its arguments read as they did. No condition. -/
import Derived.Test.YtdnchebbdkgccaaLw8
import Derived.Test.YtdnchebbdkgccaaShown8
import Derived.Test.YtdnchebbdkgccaaOpenc
import Derived.Test.YtdnchebbdkgccaaFrsm
import Derived.Deep.LoopGhost
import Derived.Deep.DeepCutAuto
import Derived.Test.YtdnchebbdkgccaaRows
import Derived.WalkKit
import Derived.ProofKit
import Derived.OpenShut
import Derived.ShutString
import Derived.ChangeOld
import Derived.Below
import Derived.Deep.Strs
namespace Go.Proofs.Ytdnchebbdkgccaa.plainRooms
open Go.ChangeShapes Go.WideShapes Go.ChangeAt Go.RowKit
open Go.ChangeMaps (open_string shut_string)
set_option linter.unusedVariables false
set_option linter.unusedSimpArgs false

theorem own : ownKnob Try.prog.godebug = none := by kernel_rfl
theorem laidOut : laidOutB Try.prog = true := by kernel_rfl

theorem min_max_two (a b : Int) (ha : 0 ≤ a ∧ a < 20) (hb : 0 ≤ b ∧ b < 20) : ∃ z u : Int, min a b = z ∧ max a b = u ∧ 0 ≤ z ∧ z ≤ u ∧ u < 20 := ⟨_, _, rfl, rfl, by omega, by omega, by omega⟩

set_option maxRecDepth 100000 in
set_option maxHeartbeats 4000000 in
theorem walk (a0 : Int) (a1 : Int) (a2 : List Ne.Arc) (o2 : Option Addr) (c2 : Nat) (a3 : Int) (a4 : Int) (w : World) (w0 : (Lit.int .i64 a0).wf = true) (w1 : (Lit.int .i64 a1).wf = true) (k2 : ∀ a ∈ a2, Ne.Arc.ok a) (z2 : a2.length ≤ c2) (y2 : c2 ≤ maxLen) (n2 : o2 = none → c2 = 0) (r2 : Ne.ARow w o2 a2) (w3 : (Lit.int .i64 a3).wf = true) (w4 : (Lit.int .i64 a4).wf = true) :
    Calls Try.prog 9 #[.int .i64 a0, .int .i64 a1, .slice o2 a2.length c2, .int .i64 a3, .int .i64 a4] w fun e w' => e = .returned (.bool true) ∧ Below w.heap.size w w' := by
  have HSH := Lib.hid (Ne.shown_any w)
  obtain ⟨mn, hmn⟩ : ∃ x, x = (Ne.madeN a0 a1 a2).n := ⟨_, rfl⟩
  obtain ⟨ms, hms⟩ : ∃ x, x = (Ne.madeN a0 a1 a2).s := ⟨_, rfl⟩
  obtain ⟨mt, hmt⟩ : ∃ x, x = (Ne.madeN a0 a1 a2).t := ⟨_, rfl⟩
  obtain ⟨ml, hml⟩ : ∃ x, x = (Ne.madeN a0 a1 a2).l := ⟨_, rfl⟩
  have em : Ne.madeN a0 a1 a2 = ⟨mn, ms, mt, ml⟩ := by rw [hmn, hms, hmt, hml]
  obtain ⟨f1, f2, f3, f4, f5, f6, f7, f8, f9⟩ := Ne.madeN_fine (nodes := a0) (ends := a1) k2
  have ck := Ne.made_check (nodes := a0) (ends := a1) k2
  have MD := Lib.hid fun w' (h : Ne.ARow w' o2 a2) => Ne.made_s a0 a1 a2 o2 c2 w' (bounds_i64 w0) (bounds_i64 w1) k2 h
  rw [em] at MD f1 f2 f3 f4 f5 f6 f7 f8 f9 ck
  simp only at f1 f2 f3 f4 f5 f6 f7 f8 f9
  clear hmn hms hmt hml em
  have f8' : ml.length ≤ 24 := by omega
  clear f8
  have CK := Lib.hid ck
  have RT := Lib.hid (Ne.right_of ck)
  have FI := Lib.hid f9
  have CAP := Lib.hid (show ∀ a ∈ ml, Ne.in64 a.cap from fun a ha => by have := (f9 a ha).2.2; unfold Ne.in64; omega)
  have hl6 : ml.length ≤ 1000000 := by omega
  have F7 := Lib.hid f7
  have RA := Lib.hid r2
  clear r2 f7 f9 ck
  obtain ⟨N, rfl⟩ : ∃ N : Nat, mn = (N : Int) := ⟨mn.toNat, by omega⟩
  obtain ⟨S, rfl⟩ : ∃ S : Nat, ms = (S : Int) := ⟨ms.toNat, by omega⟩
  obtain ⟨D, rfl⟩ : ∃ D : Nat, mt = (D : Int) := ⟨mt.toNat, by omega⟩
  have b3 := bounds_i64 w3
  have b4 := bounds_i64 w4
  have bpa := Ne.pickN_bd (c := a3) (n := 20) (by omega)
  have bpb := Ne.pickN_bd (c := a4) (n := 20) (by omega)
  have PA := Lib.hid fun w' => Ne.pick_any a3 20 w' b3.1 b3.2 (by omega) (by omega)
  have PB := Lib.hid fun w' => Ne.pick_any a4 20 w' b4.1 b4.2 (by omega) (by omega)
  generalize Ne.pickN a3 20 = pa at *
  generalize Ne.pickN a4 20 = pb at *
  obtain ⟨z, u, hmin, hmax, hz0, hzu, hu30⟩ := min_max_two pa pb bpa bpb
  clear bpa bpb b3 b4 w3 w4
  go_enter Try.func9, Try.ntmps9
  go_wp2_with fail
  refine HSH.out.mono ?_
  rintro e w1 ⟨rfl, hb⟩
  have HB1 := Lib.hid hb
  clear hb
  go_wp2_with fail
  refine (MD.out _ (RA.out.kept HB1.out)).mono ?_
  rintro e w2 ⟨om, cm, rfl, ho, hb⟩
  have HB2 := Lib.hid (HB1.out.trans (hb.mono HB1.out.size))
  have HV2 := Lib.hid (Rw.own_lt ho)
  have HO3 := Lib.hid (Rw.own_base (Rw.own_alloc ho (.cells #[.int .i64 (N : Int), .int .i64 (S : Int), .int .i64 (D : Int), .slice om ml.length cm] 24)) (B' := w.heap.size) HB1.out.size)
  have HN3 := Lib.hid (Ne.netBox_new w2 (N : Int) (S : Int) (D : Int) (.slice om ml.length cm))
  have hz2 : w.heap.size ≤ w2.heap.size := HB2.out.size
  have HB3 := Lib.hid (HB2.out.alloc hz2 (.cells #[.int .i64 (N : Int), .int .i64 (S : Int), .int .i64 (D : Int), .slice om ml.length cm] 24))
  clear ho hb MD RA HSH
  have hmk := Ne.make_l ml.length hl6
  go_wp2_with fail
  obtain ⟨bn, hbn⟩ : ∃ b, b = w2.heap.size := ⟨_, rfl⟩
  have hbn3 : bn < (w2.alloc (.cells #[.int .i64 (N : Int), .int .i64 (S : Int), .int .i64 (D : Int), .slice om ml.length cm] 24)).heap.size := by rw [hbn]; simp
  have hsz3 : bn + 1 = (w2.alloc (.cells #[.int .i64 (N : Int), .int .i64 (S : Int), .int .i64 (D : Int), .slice om ml.length cm] 24)).heap.size := by rw [hbn]; simp
  rw [← hbn] at HN3 HV2 hz2 ⊢
  clear hbn HB2 HB1 hmk
  generalize (w2.alloc (.cells #[.int .i64 (N : Int), .int .i64 (S : Int), .int .i64 (D : Int), .slice om ml.length cm] 24)) = W3 at *
  have HR3 := Lib.hid (Ne.arow_ofA HO3.out)
  have HZ4 := Lib.hid (Ne.lbox_made W3 ml.length hsz3)
  have hb := (Below.refl W3.heap.size W3).alloc (Nat.le_refl _) (.cells (madeCells #[.int .i64 0] ml.length) 2)
  have HB4 := Lib.hid (HB3.out.trans (hb.mono HB3.out.size))
  have HN4 := Lib.hid (Ne.netBox_below HN3.out hb (Ne.netBox_lt HN3.out))
  have HR4 := Lib.hid (HR3.out.kept hb)
  clear hb
  generalize (W3.alloc (.cells (madeCells #[.int .i64 0] ml.length) 2)) = w4 at *
  obtain ⟨fb, hfb⟩ : ∃ b, b = bn + 1 := ⟨_, rfl⟩
  rw [← hfb] at HZ4 ⊢
  clear hfb hsz3
  have FLZ := Lib.hid (show Ne.Flow ⟨(N : Int), (S : Int), (D : Int), ml⟩ (List.replicate ml.length 0) from Ne.flow_nought RT.out)
  obtain ⟨f, hf⟩ : ∃ f : List Int, f = List.replicate ml.length 0 := ⟨_, rfl⟩
  rw [← hf] at HZ4 FLZ
  have HL4 := Lib.hid HZ4.out
  have FL := Lib.hid FLZ.out
  clear hf FLZ HZ4
  have hN1 := RT.out.n1
  have hd0 := RT.out.t0
  have hd1 := RT.out.t1
  simp only at hN1 hd0 hd1
  obtain ⟨x, hx⟩ : ∃ x, x = 1 + z := ⟨_, rfl⟩
  obtain ⟨y, hy⟩ : ∃ y, y = 1 + u := ⟨_, rfl⟩
  have hx1 : 1 ≤ x := by omega
  have hxy : x ≤ y := by omega
  obtain ⟨L1, hl1⟩ := Ne.lev_exists RT.out f x
  obtain ⟨L2, hl2⟩ := Ne.lev_exists RT.out f y
  obtain ⟨L3, hl3⟩ := Ne.lev_exists RT.out f 4611686018427387904
  have hrf := Ne.room_far RT.out FL.out.wi
  obtain ⟨W1, g1, hB1⟩ := Ne.blk_of RT.out FL.out.okf hx1 L1
  have hF1 := (Ne.blkW_flow RT.out (Ne.lds_of ml f x L1) hx1 FL.out hB1.1).1
  obtain ⟨L4, hl4⟩ := Ne.lev_exists RT.out g1 y
  obtain ⟨L5, hl5⟩ := Ne.lev_exists RT.out g1 x
  obtain ⟨W2, g2, hB2⟩ := Ne.blk_of RT.out hF1.okf (show 1 ≤ y by omega) L4
  obtain ⟨W3', g3, hB3⟩ := Ne.blk_of RT.out FL.out.okf (show (1 : Int) ≤ 4611686018427387904 by omega) L3
  have DX := Lib.hid fun w' h1 h2 => Ne.deep_flow (n := (⟨(N : Int), (S : Int), (D : Int), ml⟩ : Ne.Net)) (f := f) om cm (some ⟨fb, 0, none⟩) ml.length w' CK.out h1 h2 FL.out x hx1 hl1
  have DY := Lib.hid fun w' h1 h2 => Ne.deep_flow (n := (⟨(N : Int), (S : Int), (D : Int), ml⟩ : Ne.Net)) (f := f) om cm (some ⟨fb, 0, none⟩) ml.length w' CK.out h1 h2 FL.out y (by omega) hl2
  have BX := Lib.hid fun w' h1 h2 => Ne.block_flow (n := (⟨(N : Int), (S : Int), (D : Int), ml⟩ : Ne.Net)) (f := f) om cm (some ⟨fb, 0, none⟩) ml.length w' CK.out h1 h2 FL.out.okf x hx1 hl1 hB1
  have BY := Lib.hid fun w' fo fc h1 h2 => Ne.block_flow (n := (⟨(N : Int), (S : Int), (D : Int), ml⟩ : Ne.Net)) (f := g1) om cm fo fc w' CK.out h1 h2 hF1.okf y (by omega) hl4 hB2
  have BZ := Lib.hid fun w' h1 h2 => Ne.block_flow (n := (⟨(N : Int), (S : Int), (D : Int), ml⟩ : Ne.Net)) (f := f) om cm (some ⟨fb, 0, none⟩) ml.length w' CK.out h1 h2 FL.out.okf 4611686018427387904 (by omega) hl3 hB3
  have hne := RT.out.ne
  simp only at hne
  have hfar : Ne.amt L3 D < 0 := by
    have h := Ne.lev_far RT.out hl3 hrf (i := D) (by simp only [Int.toNat_natCast]; omega)
    simp only at h
    rw [h, if_neg (fun e => hne e.symm)]; omega
  obtain ⟨hw3, hg3⟩ := Ne.blk_nought RT.out hl3 hB3 (by simpa using hfar)
  subst hw3
  subst hg3
  have hsome := Ne.blk_some RT.out hl1 hB1
  have hroom : 0 ≤ Ne.amt L2 D → 0 ≤ Ne.amt L1 D ∧ Ne.amt L1 D ≤ Ne.amt L2 D := fun h => by
    have := Ne.lev_rooms RT.out hl1 hl2 hxy (i := D) (by simp only [Int.toNat_natCast]; omega) h
    exact this
  have hlong : ∀ i, i < W2.length → Ne.amt L1 D < ((W2.getD i ([], 0)).1.length : Int) := fun i hi => by
    have hm : W2.getD i ([], 0) ∈ W2 := by rw [List.getD_eq_getElem?_getD, List.getElem?_eq_getElem hi]; exact List.getElem_mem hi
    have h1 := Ne.blk_long RT.out hl4 hB2 _ hm
    simp only [Int.toNat_natCast] at h1
    have h2 : 0 ≤ Ne.amt L4 D := by omega
    have h3 := Ne.lev_rooms RT.out hl5 hl4 hxy (i := D) (by simp only [Int.toNat_natCast]; omega) h2
    have h4 := Ne.blk_far RT.out FL.out.okf hx1 hl1 hB1 hl5 (by simpa using h3.1)
    simp only [Int.toNat_natCast] at h4
    omega
  have hW2l : W2.length ≤ 1000000 := by
    have h1 := (Ne.blk_len hF1.okf (show 1 ≤ y by omega) hB2).2
    have h2 := Ne.leadL_len ml g1 y L4 (2 * ml.length)
    simp only at h1
    omega
  have HLONG := Lib.hid hlong
  have HW2L := Lib.hid hW2l
  have SMR := Lib.hid fun x1 x2 y1 y2 w' h1 h2 => show Calls Try.prog 13 #[.slice x1 ml.length y1, .slice x2 ml.length y2] w' fun e w2 => e = .returned (.bool true) ∧ Below w'.heap.size w' w2 from by
    have hfl : g3.length = ml.length := FL.out.len
    have := Ne.rsame_l x1 x2 y1 y2 g3 g3 w' h1 h2 (by omega) (by omega)
    rwa [hfl, show decide (g3 = g3) = true by simp] at this
  simp only [Int.toNat_natCast] at DX DY hsome
  have hmany : (W1.length : Int) > 0 ↔ 0 ≤ Ne.amt L1 D := by
    rw [← hsome]
    constructor
    · intro h e; rw [e] at h; simp at h
    · intro h; have : W1.length ≠ 0 := fun e => h (List.eq_nil_of_length_eq_zero e); omega
  generalize Ne.amt L1 D = d at *
  generalize Ne.amt L2 D = e2 at *
  have hdx : decide (0 < (W1.length : Int)) = decide (0 ≤ d) := by
    have := hmany
    by_cases c : 0 ≤ d
    · rw [decide_eq_true c, decide_eq_true (this.2 c)]
    · rw [decide_eq_false c, decide_eq_false (fun h => c (this.1 h))]
  have HDX := Lib.hid hdx
  have HRM := Lib.hid hroom
  clear hl1 hl2 hl3 hl4 hl5 hB1 hB2 hB3 hF1 hrf hfar hsome hroom hlong hmany hdx hne hW2l
  subst hx
  subst hy
  obtain ⟨n0, n1, n2, n3⟩ := Ne.netBox_cells HN4.out
  go_wp2_with fail
  refine (PA.out _).mono ?_
  rintro e w' ⟨rfl, rfl⟩
  go_wp2_with fail
  refine (PB.out _).mono ?_
  rintro e w' ⟨rfl, rfl⟩
  go_wp2_with fail
  refine (PA.out _).mono ?_
  rintro e w' ⟨rfl, rfl⟩
  go_wp2_with fail
  refine (PB.out _).mono ?_
  rintro e w' ⟨rfl, rfl⟩
  go_wp2_with fail
  refine (DX.out w4 HR4.out HL4.out.irow).mono ?_
  rintro e w5 ⟨rfl, hb⟩
  have HB5 := Lib.hid (HB4.out.trans (hb.mono HB4.out.size))
  have HN5 := Lib.hid (Ne.netBox_below HN4.out hb (Ne.netBox_lt HN4.out))
  have HR5 := Lib.hid (HR4.out.kept hb)
  have HL5 := Lib.hid (HL4.out.kept hb)
  clear hb n0 n1 n2 n3
  obtain ⟨n0, n1, n2, n3⟩ := Ne.netBox_cells HN5.out
  go_wp2_with fail
  refine (DY.out w5 HR5.out HL5.out.irow).mono ?_
  rintro e w6 ⟨rfl, hb⟩
  have HB6 := Lib.hid (HB5.out.trans (hb.mono HB5.out.size))
  have HN6 := Lib.hid (Ne.netBox_below HN5.out hb (Ne.netBox_lt HN5.out))
  have HR6 := Lib.hid (HR5.out.kept hb)
  have HL6 := Lib.hid (HL5.out.kept hb)
  clear hb n0 n1 n2 n3
  obtain ⟨n0, n1, n2, n3⟩ := Ne.netBox_cells HN6.out
  go_wp2_with fail
  refine (BX.out w6 HR6.out HL6.out.irow).mono ?_
  rintro e w7 ⟨o7, c7, v7, rfl, hi, hv, hb⟩
  have HB7 := Lib.hid (HB6.out.trans (hb.mono HB6.out.size))
  have HN7 := Lib.hid (Ne.netBox_below HN6.out hb (Ne.netBox_lt HN6.out))
  have HR7 := Lib.hid (HR6.out.kept hb)
  have HL7 := Lib.hid (HL6.out.kept hb)
  have HI7 := Lib.hid hi
  obtain ⟨p7, q7, rfl, _, _, _⟩ := hv.val
  clear hi hv
  clear hb n0 n1 n2 n3
  obtain ⟨n0, n1, n2, n3⟩ := Ne.netBox_cells HN7.out
  go_wp2_with fail
  refine (BY.out w7 o7 c7 HR7.out HI7.out).mono ?_
  rintro e w8 ⟨o8, c8, v8, rfl, _, hv, hb⟩
  have HB8 := Lib.hid (HB7.out.trans (hb.mono HB7.out.size))
  have HN8 := Lib.hid (Ne.netBox_below HN7.out hb (Ne.netBox_lt HN7.out))
  have HR8 := Lib.hid (HR7.out.kept hb)
  have HL8 := Lib.hid (HL7.out.kept hb)
  obtain ⟨p8, q8, rfl, _, _, _⟩ := hv.val
  have HV8 := Lib.hid hv
  clear hv HI7
  clear hb n0 n1 n2 n3
  obtain ⟨n0, n1, n2, n3⟩ := Ne.netBox_cells HN8.out
  go_wp2_with fail
  refine (BZ.out w8 HR8.out HL8.out.irow).mono ?_
  rintro e w9 ⟨o9, c9, v9, rfl, hi, hv, hb⟩
  have HB9 := Lib.hid (HB8.out.trans (hb.mono HB8.out.size))
  have HN9 := Lib.hid (Ne.netBox_below HN8.out hb (Ne.netBox_lt HN8.out))
  have HR9 := Lib.hid (HR8.out.kept hb)
  have HL9 := Lib.hid (HL8.out.kept hb)
  obtain ⟨p9, q9, rfl, _, _, _⟩ := hv.val
  have HV9 := Lib.hid (HV8.out.kept hb)
  have HI9 := Lib.hid hi
  clear hi hv HV8
  clear hb n0 n1 n2 n3
  obtain ⟨n0, n1, n2, n3⟩ := Ne.netBox_cells HN9.out
  go_wp2_with fail
  refine (SMR.out _ _ _ _ w9 HI9.out HL9.out.irow).mono ?_
  rintro e w10 ⟨rfl, hb⟩
  have HB10 := Lib.hid (HB9.out.trans (hb.mono HB9.out.size))
  have HN10 := Lib.hid (Ne.netBox_below HN9.out hb (Ne.netBox_lt HN9.out))
  have HR10 := Lib.hid (HR9.out.kept hb)
  have HL10 := Lib.hid (HL9.out.kept hb)
  have HV10 := Lib.hid (HV9.out.kept hb)
  clear HV9 HI9
  clear hb n0 n1 n2 n3
  obtain ⟨n0, n1, n2, n3⟩ := Ne.netBox_cells HN10.out
  obtain ⟨K, hK⟩ : ∃ K, K = W2.length := ⟨_, rfl⟩
  rw [← hK] at HLONG HW2L ⊢
  have HKD := Lib.hid hK
  clear hK DX DY BX BY BZ SMR PA PB hmin hmax n0 n1 n2 n3
  go_wp2
  go_loopw [29] (fun i wr => ∃ k : Nat, i = .int .i64 k ∧ k ≤ K ∧ Hid (Below w10.heap.size w10 wr)) (fun i _ => K - (intOf i).toNat)
  case atStart => exact ⟨0, rfl, Nat.zero_le _, Lib.hid (Below.refl _ _)⟩
  case round =>
    obtain ⟨k, rfl, hk, HBW⟩ := hrel
    by_cases hlt : k < K
    · obtain ⟨g', cc, t', m', a', e1, _, _, d0, _, _, _⟩ := (HV10.out.kept HBW.out).at (i := k) (by rw [← HKD.out]; exact hlt)
      simp only [Value.slice.injEq] at e1
      obtain ⟨rfl, _, rfl⟩ := e1
      have hl := HLONG.out k hlt
      generalize (W2.getD k ([], 0)).1.length = tl at *
      have hki : (k : Int) < (K : Int) := by omega
      have hk0 : (0 : Int) ≤ (k : Int) := by omega
      have hkw : IntKind.i64.wrap ((k : Int) + 1) = (k : Int) + 1 := by have := HW2L.out; rw [IntKind.wrap_i64]; omega
      have hl' : decide ((tl : Int) ≤ d) = false := by simp; omega
      have hl2 : ¬ (tl : Int) ≤ d := by omega
      go_wp2
      refine ⟨?rel, ?measure⟩
      case rel => exact ⟨k + 1, by go_num, by omega, HBW⟩
      case measure => simp [intOf]; omega
    · have ek : K = k := by omega
      subst ek
      clear hlt
      have hrm := HRM.out
      have hdx := HDX.out
      have hdxn : decide (0 < W1.length) = decide (0 ≤ d) := by rw [← hdx]; simp
      by_cases he : e2 < 0
      · have he' : decide (e2 < 0) = true := by simpa using he
        by_cases hd : 0 ≤ d
        · have hd' : decide (0 ≤ d) = true := by simpa using hd
          rw [hd'] at hdx hdxn
          go_wp2
          go_ret
          exact ⟨rfl, HB10.out.trans (HBW.out.mono HB10.out.size)⟩
        · have hd' : decide (0 ≤ d) = false := by simpa using hd
          rw [hd'] at hdx hdxn
          go_wp2
          go_ret
          exact ⟨rfl, HB10.out.trans (HBW.out.mono HB10.out.size)⟩
      · have he' : decide (e2 < 0) = false := by simpa using he
        obtain ⟨hd, hde⟩ := hrm (by omega)
        have hd' : decide (0 ≤ d) = true := by simpa using hd
        rw [hd'] at hdx hdxn
        go_wp2
        go_ret
        exact ⟨rfl, HB10.out.trans (HBW.out.mono HB10.out.size)⟩

end Go.Proofs.Ytdnchebbdkgccaa.plainRooms
