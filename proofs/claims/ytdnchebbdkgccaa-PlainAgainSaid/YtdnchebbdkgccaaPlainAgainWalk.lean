/- PlainAgain: for every input the law returns true and its arguments read as they did. No condition. -/
import Derived.Test.YtdnchebbdkgccaaLw8
import Derived.Test.YtdnchebbdkgccaaShown8
import Derived.Test.YtdnchebbdkgccaaRouted
import Derived.Test.YtdnchebbdkgccaaOpenc
import Derived.Test.YtdnchebbdkgccaaFrsm
import Derived.Deep.LoopGhost
import Derived.Deep.DeepCutAuto
import Derived.Test.YtdnchebbdkgccaaRows
import Derived.WalkKit
import Derived.ProofKit
import Derived.OpenShut
import Derived.ShutString
import Derived.ChangeOld
import Derived.Below
import Derived.Deep.Strs
namespace Go.Proofs.Ytdnchebbdkgccaa.plainAgain
open Go.ChangeShapes Go.WideShapes Go.ChangeAt Go.RowKit
open Go.ChangeMaps (open_string shut_string)
set_option linter.unusedVariables false
set_option linter.unusedSimpArgs false

theorem own : ownKnob Try.prog.godebug = none := by kernel_rfl
theorem laidOut : laidOutB Try.prog = true := by kernel_rfl

def IntsIn (k : IntKind) (w : World) (a : Option Addr) (len cap : Nat) (zs : List Int) : Prop :=
  (a = none ∧ len = 0 ∧ cap = 0 ∧ zs = []) ∨
  ∃ x, a = some x ∧ len ≤ cap ∧ cap ≤ maxLen ∧ zs.length = cap ∧ (∀ i, i < zs.length → w.cell? (x.add i) = some (.int k (zs.getD i 0))) ∧ ∀ n ∈ zs, (Lit.int k n).wf = true



set_option maxRecDepth 100000 in
set_option maxHeartbeats 4000000 in
theorem walk (a0 : Int) (a1 : Int) (a2 : List Ne.Arc) (o2 : Option Addr) (c2 : Nat) (a3 : Option Addr) (len3 cap3 : Nat) (l3 : List Int) (w : World) (w0 : (Lit.int .i64 a0).wf = true) (w1 : (Lit.int .i64 a1).wf = true) (k2 : ∀ a ∈ a2, Ne.Arc.ok a) (z2 : a2.length ≤ c2) (y2 : c2 ≤ maxLen) (n2 : o2 = none → c2 = 0) (r2 : Ne.ARow w o2 a2) (w3 : IntsIn .i64 w a3 len3 cap3 l3) :
    Calls Try.prog 5 #[.int .i64 a0, .int .i64 a1, .slice o2 a2.length c2, .slice a3 len3 cap3] w fun e w' => e = .returned (.bool true) ∧ Below w.heap.size w w' := by
  have HSH := Lib.hid (Ne.shown_any w)
  obtain ⟨mn, hmn⟩ : ∃ x, x = (Ne.madeN a0 a1 a2).n := ⟨_, rfl⟩
  obtain ⟨ms, hms⟩ : ∃ x, x = (Ne.madeN a0 a1 a2).s := ⟨_, rfl⟩
  obtain ⟨mt, hmt⟩ : ∃ x, x = (Ne.madeN a0 a1 a2).t := ⟨_, rfl⟩
  obtain ⟨ml, hml⟩ : ∃ x, x = (Ne.madeN a0 a1 a2).l := ⟨_, rfl⟩
  have em : Ne.madeN a0 a1 a2 = ⟨mn, ms, mt, ml⟩ := by rw [hmn, hms, hmt, hml]
  obtain ⟨f1, f2, f3, f4, f5, f6, f7, f8, f9⟩ := Ne.madeN_fine (nodes := a0) (ends := a1) k2
  have ck := Ne.made_check (nodes := a0) (ends := a1) k2
  have MD := Lib.hid fun w' (h : Ne.ARow w' o2 a2) => Ne.made_s a0 a1 a2 o2 c2 w' (bounds_i64 w0) (bounds_i64 w1) k2 h
  rw [em] at MD f1 f2 f3 f4 f5 f6 f7 f8 f9 ck
  simp only at f1 f2 f3 f4 f5 f6 f7 f8 f9
  clear hmn hms hmt hml em
  have f8' : ml.length ≤ 24 := by omega
  clear f8
  have CK := Lib.hid ck
  have RT := Lib.hid (Ne.right_of ck)
  have FI := Lib.hid f9
  have CAP := Lib.hid (show ∀ a ∈ ml, Ne.in64 a.cap from fun a ha => by have := (f9 a ha).2.2; unfold Ne.in64; omega)
  have hl6 : ml.length ≤ 1000000 := by omega
  have F7 := Lib.hid f7
  have RA := Lib.hid r2
  clear r2 f7 f9 ck
  obtain ⟨N, rfl⟩ : ∃ N : Nat, mn = (N : Int) := ⟨mn.toNat, by omega⟩
  obtain ⟨S, rfl⟩ : ∃ S : Nat, ms = (S : Int) := ⟨ms.toNat, by omega⟩
  obtain ⟨D, rfl⟩ : ∃ D : Nat, mt = (D : Int) := ⟨mt.toNat, by omega⟩
  obtain ⟨ks, hk3, hq3, bq3, _, _, _⟩ := Ne.ints_row w3
  subst hk3
  clear w3
  have BK3 := Lib.hid bq3
  have KR3 := Lib.hid hq3
  clear bq3 hq3
  go_enter Try.func5, Try.ntmps5
  go_wp2_with fail
  refine HSH.out.mono ?_
  rintro e w1 ⟨rfl, hb⟩
  have HB1 := Lib.hid hb
  clear hb
  go_wp2_with fail
  refine (MD.out _ (RA.out.kept HB1.out)).mono ?_
  rintro e w2 ⟨om, cm, rfl, ho, hb⟩
  have HB2 := Lib.hid (HB1.out.trans (hb.mono HB1.out.size))
  have HV2 := Lib.hid (Rw.own_lt ho)
  have HO3 := Lib.hid (Rw.own_base (Rw.own_alloc ho (.cells #[.int .i64 (N : Int), .int .i64 (S : Int), .int .i64 (D : Int), .slice om ml.length cm] 24)) (B' := w.heap.size) HB1.out.size)
  have HN3 := Lib.hid (Ne.netBox_new w2 (N : Int) (S : Int) (D : Int) (.slice om ml.length cm))
  have hz2 : w.heap.size ≤ w2.heap.size := HB2.out.size
  have HB3 := Lib.hid (HB2.out.alloc hz2 (.cells #[.int .i64 (N : Int), .int .i64 (S : Int), .int .i64 (D : Int), .slice om ml.length cm] 24))
  clear ho hb MD RA HSH
  go_wp2_with fail
  obtain ⟨bn, hbn⟩ : ∃ b, b = w2.heap.size := ⟨_, rfl⟩
  have hbn3 : bn < (w2.alloc (.cells #[.int .i64 (N : Int), .int .i64 (S : Int), .int .i64 (D : Int), .slice om ml.length cm] 24)).heap.size := by rw [hbn]; simp
  rw [← hbn] at HN3 HV2 hz2 ⊢
  clear hbn HB2 HB1
  generalize (w2.alloc (.cells #[.int .i64 (N : Int), .int .i64 (S : Int), .int .i64 (D : Int), .slice om ml.length cm] 24)) = W3 at *
  have HR3 := Lib.hid (Ne.arow_ofA HO3.out)
  obtain ⟨f, hf⟩ : ∃ x, x = Ne.routeN ⟨(N : Int), (S : Int), (D : Int), ml⟩ ks := ⟨_, rfl⟩
  have FL := Lib.hid (show Ne.Flow ⟨(N : Int), (S : Int), (D : Int), ml⟩ f by rw [hf]; exact Ne.route_flow RT.out _)
  have RD := Lib.hid fun w' h1 h2 => Ne.routed_any ⟨(N : Int), (S : Int), (D : Int), ml⟩ om cm a3 cap3 ks w' h1 h2 CK.out BK3.out
  rw [← hf] at RD
  refine (RD.out _ HR3.out (KR3.out.kept HB3.out)).mono ?_
  rintro e w4 ⟨fb, rfl, hfb, hl, hb⟩
  have HB4 := Lib.hid (HB3.out.trans (hb.mono HB3.out.size))
  have HN4 := Lib.hid (Ne.netBox_below HN3.out hb (Ne.netBox_lt HN3.out))
  have HO4 := Lib.hid (Rw.own_below HO3.out hb)
  have HR4 := Lib.hid (HR3.out.kept hb)
  have HFB4 := Lib.hid hl
  have hfb2 := hl.lt
  clear hl hb
  have HL4 := Lib.hid HFB4.out
  have HFB := Lib.hid hfb
  have hN0 := RT.out.n0
  have hN1 := RT.out.n1
  have hne := RT.out.ne
  have hd1 := RT.out.t1
  simp only at hN0 hN1 hne hd1
  obtain ⟨L1, hl1⟩ := Ne.lev_exists RT.out f 1
  have DEEP := Lib.hid fun w' fl fo fc L (h0 : Ne.Flow (⟨(N : Int), (S : Int), (D : Int), ml⟩ : Ne.Net) fl) (h3 : Ne.IsLev (⟨(N : Int), (S : Int), (D : Int), ml⟩ : Ne.Net) fl 1 L) h1 h2 => Ne.deep_flow (n := (⟨(N : Int), (S : Int), (D : Int), ml⟩ : Ne.Net)) (f := fl) om cm fo fc w' CK.out h1 h2 h0 1 (by omega) h3
  have BLK := Lib.hid fun w' fl fo fc L W g (h0 : Ne.Flow (⟨(N : Int), (S : Int), (D : Int), ml⟩ : Ne.Net) fl) (h3 : Ne.IsLev (⟨(N : Int), (S : Int), (D : Int), ml⟩ : Ne.Net) fl 1 L) (h4 : Ne.IsBlk ml (Ne.leadL ml fl 1 L (2 * ml.length)) fl 1 (S : Int) (D : Int) W g) h1 h2 => Ne.block_flow (n := (⟨(N : Int), (S : Int), (D : Int), ml⟩ : Ne.Net)) (f := fl) om cm fo fc w' CK.out h1 h2 h0.okf 1 (by omega) h3 h4
  have RCH := Lib.hid fun w' fl fo fc (h0 : Ne.Flow (⟨(N : Int), (S : Int), (D : Int), ml⟩ : Ne.Net) fl) h1 h2 => Ne.reach_flow (n := (⟨(N : Int), (S : Int), (D : Int), ml⟩ : Ne.Net)) (f := fl) om cm fo fc w' CK.out h1 h2 h0 1 (by omega)
  have HST := Lib.hid (fun fl L (h0 : Ne.Flow (⟨(N : Int), (S : Int), (D : Int), ml⟩ : Ne.Net) fl) (h3 : Ne.IsLev (⟨(N : Int), (S : Int), (D : Int), ml⟩ : Ne.Net) fl 1 L) => show ∃ W g, Ne.IsBlk ml (Ne.leadL ml fl 1 L (2 * ml.length)) fl 1 (S : Int) (D : Int) W g ∧ g.length = ml.length ∧ W.length ≤ 1000000 ∧ Ne.Flow (⟨(N : Int), (S : Int), (D : Int), ml⟩ : Ne.Net) g ∧ (0 ≤ Ne.amt L D → W ≠ []) ∧ (Ne.amt L D < 0 → W = [] ∧ g = fl) ∧ ∃ L2, Ne.IsLev (⟨(N : Int), (S : Int), (D : Int), ml⟩ : Ne.Net) g 1 L2 ∧ (Ne.amt L2 D < 0 ∨ Ne.amt L D < Ne.amt L2 D) from by
    obtain ⟨W, g, hB⟩ := Ne.blk_of RT.out h0.okf (by omega) L (x := 1)
    obtain ⟨L2, hl2⟩ := Ne.lev_exists RT.out g 1
    have hlen := Ne.blk_len h0.okf (by omega) hB
    have hle := Ne.leadL_len ml fl 1 L (2 * ml.length)
    refine ⟨W, g, hB, hlen.1, by have := hlen.2; simp only at this; omega, (Ne.blkW_flow RT.out (Ne.lds_of ml fl 1 L) (by omega) h0 hB.1).1, fun h => ?_, fun h => ?_, L2, hl2, ?_⟩
    · exact (Ne.blk_some RT.out h3 hB).2 (by simpa using h)
    · exact Ne.blk_nought RT.out h3 hB (by simpa using h)
    · by_cases c : 0 ≤ Ne.amt L2 D
      · right
        have := (Ne.blk_far RT.out h0.okf (by omega) h3 hB hl2 (by simpa using c)).2
        simpa using this
      · left; omega)
  have HLV := Lib.hid (fun fl L (h3 : Ne.IsLev (⟨(N : Int), (S : Int), (D : Int), ml⟩ : Ne.Net) fl 1 L) => show Ne.amt L D < (N : Int) ∧ Ne.amt L D ≠ 0 from by
    obtain ⟨M, hM⟩ : ∃ M, M = L := ⟨_, rfl⟩
    have h1 := (Ne.lev_lt RT.out h3 (i := D) (by simp only [Int.toNat_natCast]; omega)).2
    simp only at h1
    refine ⟨h1, fun e => ?_⟩
    have := Ne.lev_only RT.out h3 (i := D) (by simp only [Int.toNat_natCast]; omega) e
    simp only at this
    omega)
  have HSK := Lib.hid (fun fl L M (h3 : Ne.IsLev (⟨(N : Int), (S : Int), (D : Int), ml⟩ : Ne.Net) fl 1 L) (hM : Ne.IsReach (⟨(N : Int), (S : Int), (D : Int), ml⟩ : Ne.Net) fl 1 M) => show M.getD D false = decide (0 ≤ Ne.amt L D) from by
    have := (Ne.sink_says RT.out h3 hM).1
    simpa using this)
  have SMR := Lib.hid fun (fl : List Int) x1 x2 y1 y2 w' h1 h2 (h3 : fl.length = ml.length) => show Calls Try.prog 13 #[.slice x1 ml.length y1, .slice x2 ml.length y2] w' fun e w2 => e = .returned (.bool true) ∧ Below w'.heap.size w' w2 from by
    have := Ne.rsame_l x1 x2 y1 y2 fl fl w' h1 h2 (by omega) (by omega)
    rwa [h3, show decide (fl = fl) = true by simp] at this
  have HLEN := Lib.hid FL.out.len
  have HLV1 := Lib.hid hl1
  have HFL := Lib.hid FL.out
  have HT0 := Lib.hid (show Ne.amt L1 D < 0 ∨ ((0 : Nat) : Int) < Ne.amt L1 D from by
    have := (HLV.out f L1 hl1).2
    omega)
  simp only [Int.toNat_natCast] at DEEP RCH
  clear hl1 hne
  go_wp2
  go_loopg [11, 12] N (fun g s11 s12 wr => ∃ (fl : List Int) (fo : Option Addr) (fc : Nat) (k : Nat) (L : List Int), s11 = .slice fo ml.length fc ∧ s12 = .int .i64 (k : Int) ∧ k + g = N ∧ k < N ∧ Hid (Ne.Flow (⟨(N : Int), (S : Int), (D : Int), ml⟩ : Ne.Net) fl) ∧ Hid (Ne.IsLev (⟨(N : Int), (S : Int), (D : Int), ml⟩ : Ne.Net) fl 1 L) ∧ Hid (Ne.amt L D < 0 ∨ (k : Int) < Ne.amt L D) ∧ Hid (Ne.IRow wr fo fl) ∧ Hid (Below w4.heap.size w4 wr))
  case atStart => exact ⟨f, _, _, 0, L1, rfl, rfl, by omega, by omega, HFL, HLV1, HT0, Lib.hid HL4.out.irow, Lib.hid (Below.refl _ _)⟩
  case round =>
    obtain ⟨fl, fo, fc, k, L, rfl, rfl, hg, hkN, HFW, HLW, HKW, HIW, HBW⟩ := hrel
    have HRW := Lib.hid (HR4.out.kept HBW.out)
    have HNW := Lib.hid (Ne.netBox_below HN4.out HBW.out (Ne.netBox_lt HN4.out))
    obtain ⟨n0, n1, n2, n3⟩ := Ne.netBox_cells HNW.out
    obtain ⟨W, g2, hB, hgl, hWl, hF2, hW1, hW0, L2, hl2, hfar⟩ := HST.out fl L HFW.out HLW.out
    have DC := Lib.hid (DEEP.out wr fl fo fc L HFW.out HLW.out HRW.out HIW.out)
    have hlv := HLV.out fl L HLW.out
    have hkw := HKW.out
    obtain ⟨d, hd⟩ : ∃ d, d = Ne.amt L D := ⟨_, rfl⟩
    rw [← hd] at DC hlv hW1 hW0 hfar hkw
    have HD := Lib.hid hd
    clear hd
    go_wp2_with fail
    refine DC.out.mono ?_
    rintro e w5 ⟨rfl, hb⟩
    have HB5 := Lib.hid (HBW.out.trans (hb.mono HBW.out.size))
    have HI5 := Lib.hid (HIW.out.kept hb)
    have HR5 := Lib.hid (HR4.out.kept HB5.out)
    have HN5 := Lib.hid (Ne.netBox_below HN4.out HB5.out (Ne.netBox_lt HN4.out))
    clear hb n0 n1 n2 n3
    obtain ⟨n0, n1, n2, n3⟩ := Ne.netBox_cells HN5.out
    have BC := Lib.hid (fun w' h1 h2 => BLK.out w' fl fo fc L W g2 HFW.out HLW.out hB h1 h2)
    by_cases hdn : d < 0
    · obtain ⟨rfl, rfl⟩ := hW0 hdn
      have hdn' : decide (d < 0) = true := by simpa using hdn
      have RC := Lib.hid (fun w' h1 h2 => RCH.out w' g2 fo fc HFW.out h1 h2)
      have HSKM := Lib.hid (fun M (h : Ne.IsReach (⟨(N : Int), (S : Int), (D : Int), ml⟩ : Ne.Net) g2 1 M) => show M.getD D false = false from by
        rw [HSK.out g2 L M HLW.out h, ← HD.out]; simpa using hdn)
      have SC := Lib.hid (fun x1 x2 y1 y2 w' h1 h2 => SMR.out g2 x1 x2 y1 y2 w' h1 h2 hgl)
      clear hW1 hfar hkw hdn hlv
      go_wp2_with fail
      refine (BC.out w5 HR5.out HI5.out).mono ?_
      rintro e w6 ⟨o6, c6, v6, rfl, hi6, hv6, hb⟩
      have HB6 := Lib.hid (HB5.out.trans (hb.mono HB5.out.size))
      have HI6 := Lib.hid hi6
      have HJ6 := Lib.hid (HI5.out.kept hb)
      have HR6 := Lib.hid (HR4.out.kept HB6.out)
      have HN6 := Lib.hid (Ne.netBox_below HN4.out HB6.out (Ne.netBox_lt HN4.out))
      obtain ⟨o9, c9, rfl, _, _, _⟩ := hv6.val
      clear hb n0 n1 n2 n3 hi6 hv6
      obtain ⟨n0, n1, n2, n3⟩ := Ne.netBox_cells HN6.out
      go_wp2_with fail
      refine (RC.out w6 HR6.out HJ6.out).mono ?_
      rintro e w7 ⟨b7, c7, M, rfl, hM, hbx, hb⟩
      have HB7 := Lib.hid (HB6.out.trans (hb.mono HB6.out.size))
      have HI7 := Lib.hid (HI6.out.kept hb)
      have HJ7 := Lib.hid (HJ6.out.kept hb)
      have HN7 := Lib.hid (Ne.netBox_below HN4.out HB7.out (Ne.netBox_lt HN4.out))
      have HMD := Lib.hid (HSKM.out M hM)
      have HMB := Lib.hid hbx
      have HML := Lib.hid (show M.length = N + 1 by have := hM.len; simpa using this)
      clear hb n0 n1 n2 n3 hM hbx
      go_wp2_with fail
      refine (SC.out _ _ _ _ w7 HJ7.out HI7.out).mono ?_
      rintro e w8 ⟨rfl, hb⟩
      have HB8 := Lib.hid (HB7.out.trans (hb.mono HB7.out.size))
      have HN8 := Lib.hid (Ne.netBox_below HN4.out HB8.out (Ne.netBox_lt HN4.out))
      have m0 := (HMB.out.kept hb).cell (i := D) (by rw [HML.out]; omega)
      rw [HMD.out] at m0
      have hDi : (D : Int) < (N : Int) + 1 := by omega
      have hD0 : (0 : Int) ≤ (D : Int) := by omega
      have hkNi : (k : Int) < (N : Int) := by omega
      have hwN : IntKind.i64.wrap ((N : Int) + 1) = (N : Int) + 1 := by rw [IntKind.wrap_i64]; omega
      clear hb
      obtain ⟨n0, n1, n2, n3⟩ := Ne.netBox_cells HN8.out
      go_wp2
      go_ret
      exact ⟨rfl, HB4.out.trans (HB8.out.mono HB4.out.size)⟩
    · have hdn' : decide (d < 0) = false := by simpa using hdn
      have hWne := hW1 (by omega)
      have HWN := Lib.hid (show W.length ≠ 0 from fun h => hWne (List.eq_nil_of_length_eq_zero h))
      have hkd : (k : Int) < d := by rcases hkw with h | h <;> omega
      have hkNi : ¬ (N : Int) ≤ (k : Int) := by omega
      have hkw1 : IntKind.i64.wrap ((k : Int) + 1) = (k : Int) + 1 := by rw [IntKind.wrap_i64]; omega
      have HK2 := Lib.hid (show k + 1 < N by have := hlv.1; omega)
      have HF2 := Lib.hid hF2
      have HL2 := Lib.hid hl2
      have HFA := Lib.hid (show Ne.amt L2 D < 0 ∨ ((k + 1 : Nat) : Int) < Ne.amt L2 D from by rcases hfar with h | h <;> omega)
      have hw0 : ((W.length : Int) == 0) = false := by have := HWN.out; simp; omega
      obtain ⟨wl, hwl⟩ : ∃ wl, wl = W.length := ⟨_, rfl⟩
      have HWE := Lib.hid hwl
      rw [← hwl] at hw0
      clear hW1 hW0 hfar hkw hdn hlv hWne hF2 hl2 hwl
      go_wp2_with fail
      refine (BC.out w5 HR5.out HI5.out).mono ?_
      rintro e w6 ⟨o6, c6, v6, rfl, hi6, hv6, hb⟩
      have HB6 := Lib.hid (HB5.out.trans (hb.mono HB5.out.size))
      have HI6 := Lib.hid hi6
      have HN6 := Lib.hid (Ne.netBox_below HN4.out HB6.out (Ne.netBox_lt HN4.out))
      obtain ⟨o9, c9, rfl, _, _, _⟩ := hv6.val
      rw [← HWE.out]
      clear hb n0 n1 n2 n3 hi6 hv6
      obtain ⟨n0, n1, n2, n3⟩ := Ne.netBox_cells HN6.out
      go_wp2
      go_roundg (N - (k + 1))
      case measure => omega
      case rel => exact ⟨g2, o6, c6, k + 1, L2, rfl, by go_num, by have := HK2.out; omega, HK2.out, HF2, HL2, HFA, HI6, HB6⟩

end Go.Proofs.Ytdnchebbdkgccaa.plainAgain
