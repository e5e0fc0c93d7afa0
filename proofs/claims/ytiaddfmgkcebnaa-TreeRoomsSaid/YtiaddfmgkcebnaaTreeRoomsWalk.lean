/- TreeRooms: for every input the law returns true and its arguments read as they did. No condition. -/
import Derived.Test.YtiaddfmgkcebnaaBunA16
import Derived.Test.YtiaddfmgkcebnaaBunA39
import Derived.Test.YtiaddfmgkcebnaaBunA40
import Derived.RegionTactic
import Derived.BigRegion
import Derived.Test.YtiaddfmgkcebnaaRows
import Derived.WalkKit
import Derived.ProofKit
import Derived.OpenShut
import Derived.ShutString
import Derived.ChangeOld
import Derived.Below
import Derived.Deep.Strs
namespace Go.Proofs.Ytiaddfmgkcebnaa.treeRooms
open Go.ChangeShapes Go.WideShapes Go.ChangeAt Go.RowKit
open Go.ChangeMaps (open_string shut_string)
set_option linter.unusedVariables false
set_option linter.unusedSimpArgs false

theorem own : ownKnob Try.prog.godebug = none := by kernel_rfl
theorem laidOut : laidOutB Try.prog = true := by kernel_rfl

def IntsIn (k : IntKind) (w : World) (a : Option Addr) (len cap : Nat) (zs : List Int) : Prop :=
  (a = none ∧ len = 0 ∧ cap = 0 ∧ zs = []) ∨
  ∃ x, a = some x ∧ len ≤ cap ∧ cap ≤ maxLen ∧ zs.length = cap ∧ (∀ i, i < zs.length → w.cell? (x.add i) = some (.int k (zs.getD i 0))) ∧ ∀ n ∈ zs, (Lit.int k n).wf = true

theorem min_max_two (a b : Int) (ha : 0 ≤ a ∧ a < 12) (hb : 0 ≤ b ∧ b < 12) : ∃ z u : Int, min a b = z ∧ max a b = u ∧ 0 ≤ z ∧ z ≤ u ∧ u < 12 := ⟨_, _, rfl, rfl, by omega, by omega, by omega⟩

set_option maxRecDepth 100000 in
set_option maxHeartbeats 4000000 in
theorem walk (a0 : Int) (a1 : Int) (a2 : List Ne.Arc) (o2 : Option Addr) (c2 : Nat) (a3 : Option Addr) (len3 cap3 : Nat) (l3 : List Int) (a4 : Int) (a5 : Int) (w : World) (w0 : (Lit.int .i64 a0).wf = true) (w1 : (Lit.int .i64 a1).wf = true) (k2 : ∀ a ∈ a2, Ne.Arc.ok a) (z2 : a2.length ≤ c2) (y2 : c2 ≤ maxLen) (n2 : o2 = none → c2 = 0) (r2 : Ne.ARow w o2 a2) (w3 : IntsIn .i64 w a3 len3 cap3 l3) (w4 : (Lit.int .i64 a4).wf = true) (w5 : (Lit.int .i64 a5).wf = true) :
    Calls Try.prog 7 #[.int .i64 a0, .int .i64 a1, .slice o2 a2.length c2, .slice a3 len3 cap3, .int .i64 a4, .int .i64 a5] w fun e w' => e = .returned (.bool true) ∧ Below w.heap.size w w' := by
  have HSH := Lib.hid (Ne.shown_any w)
  obtain ⟨mn, hmn⟩ : ∃ x, x = (Ne.madeN a0 a1 a2).n := ⟨_, rfl⟩
  obtain ⟨ms, hms⟩ : ∃ x, x = (Ne.madeN a0 a1 a2).s := ⟨_, rfl⟩
  obtain ⟨mt, hmt⟩ : ∃ x, x = (Ne.madeN a0 a1 a2).t := ⟨_, rfl⟩
  obtain ⟨ml, hml⟩ : ∃ x, x = (Ne.madeN a0 a1 a2).l := ⟨_, rfl⟩
  have em : Ne.madeN a0 a1 a2 = ⟨mn, ms, mt, ml⟩ := by rw [hmn, hms, hmt, hml]
  obtain ⟨f1, f2, f3, f4, f5, f6, f7, f8, f9⟩ := Ne.madeN_fine (nodes := a0) (ends := a1) k2
  have ck := Ne.made_check (nodes := a0) (ends := a1) k2
  have MD := Lib.hid fun w' (h : Ne.ARow w' o2 a2) => Ne.made_s a0 a1 a2 o2 c2 w' (bounds_i64 w0) (bounds_i64 w1) k2 h
  rw [em] at MD f1 f2 f3 f4 f5 f6 f7 f8 f9 ck
  simp only at f1 f2 f3 f4 f5 f6 f7 f8 f9
  clear hmn hms hmt hml em
  have f8' : ml.length ≤ 24 := by omega
  clear f8
  have CK := Lib.hid ck
  have RT := Lib.hid (Ne.right_of ck)
  have FI := Lib.hid f9
  have CAP := Lib.hid (show ∀ a ∈ ml, Ne.in64 a.cap from fun a ha => by have := (f9 a ha).2.2; unfold Ne.in64; omega)
  have hl6 : ml.length ≤ 1000000 := by omega
  have F7 := Lib.hid f7
  have RA := Lib.hid r2
  clear r2 f7 f9 ck
  obtain ⟨N, rfl⟩ : ∃ N : Nat, mn = (N : Int) := ⟨mn.toNat, by omega⟩
  obtain ⟨S, rfl⟩ : ∃ S : Nat, ms = (S : Int) := ⟨ms.toNat, by omega⟩
  obtain ⟨D, rfl⟩ : ∃ D : Nat, mt = (D : Int) := ⟨mt.toNat, by omega⟩
  obtain ⟨ks, hk3, hq3, bq3, _, _, _⟩ := Ne.ints_row w3
  subst hk3
  clear w3
  have BK3 := Lib.hid bq3
  have KR3 := Lib.hid hq3
  clear bq3 hq3
  have b4 := bounds_i64 w4
  have b5 := bounds_i64 w5
  have bpa := Ne.pickN_bd (c := a4) (n := 12) (by omega)
  have bpb := Ne.pickN_bd (c := a5) (n := 12) (by omega)
  have PA := Lib.hid fun w' => Ne.pick_any a4 12 w' b4.1 b4.2 (by omega) (by omega)
  have PB := Lib.hid fun w' => Ne.pick_any a5 12 w' b5.1 b5.2 (by omega) (by omega)
  generalize Ne.pickN a4 12 = pa at *
  generalize Ne.pickN a5 12 = pb at *
  obtain ⟨z, u, hmin, hmax, hz0, hzu, hu12⟩ := min_max_two pa pb bpa bpb
  clear bpa bpb b4 b5 w4 w5
  go_enter Try.func7, Try.ntmps7
  go_wp2_with fail
  refine HSH.out.mono ?_
  rintro e w1 ⟨rfl, hb⟩
  have HB1 := Lib.hid hb
  clear hb
  go_wp2_with fail
  refine (MD.out _ (RA.out.kept HB1.out)).mono ?_
  rintro e w2 ⟨om, cm, rfl, ho, hb⟩
  have HB2 := Lib.hid (HB1.out.trans (hb.mono HB1.out.size))
  have HV2 := Lib.hid (Rw.own_lt ho)
  have HO3 := Lib.hid (Rw.own_base (Rw.own_alloc ho (.cells #[.int .i64 (N : Int), .int .i64 (S : Int), .int .i64 (D : Int), .slice om ml.length cm] 24)) (B' := w.heap.size) HB1.out.size)
  have HN3 := Lib.hid (Ne.netBox_new w2 (N : Int) (S : Int) (D : Int) (.slice om ml.length cm))
  have hz2 : w.heap.size ≤ w2.heap.size := HB2.out.size
  have HB3 := Lib.hid (HB2.out.alloc hz2 (.cells #[.int .i64 (N : Int), .int .i64 (S : Int), .int .i64 (D : Int), .slice om ml.length cm] 24))
  clear ho hb MD RA HSH
  go_wp2_with fail
  obtain ⟨bn, hbn⟩ : ∃ b, b = w2.heap.size := ⟨_, rfl⟩
  have hbn3 : bn < (w2.alloc (.cells #[.int .i64 (N : Int), .int .i64 (S : Int), .int .i64 (D : Int), .slice om ml.length cm] 24)).heap.size := by rw [hbn]; simp
  rw [← hbn] at HN3 HV2 hz2 ⊢
  clear hbn HB2 HB1
  generalize (w2.alloc (.cells #[.int .i64 (N : Int), .int .i64 (S : Int), .int .i64 (D : Int), .slice om ml.length cm] 24)) = W3 at *
  have HR3 := Lib.hid (Ne.arow_ofA HO3.out)
  obtain ⟨f, hf⟩ : ∃ x, x = Ne.routeN ⟨(N : Int), (S : Int), (D : Int), ml⟩ ks := ⟨_, rfl⟩
  have FL := Lib.hid (show Ne.Flow ⟨(N : Int), (S : Int), (D : Int), ml⟩ f by rw [hf]; exact Ne.route_flow RT.out _)
  have RD := Lib.hid fun w' h1 h2 => Ne.routed_any ⟨(N : Int), (S : Int), (D : Int), ml⟩ om cm a3 cap3 ks w' h1 h2 CK.out BK3.out
  rw [← hf] at RD
  refine (RD.out _ HR3.out (KR3.out.kept HB3.out)).mono ?_
  rintro e w4 ⟨fb, rfl, hfb, hl, hb⟩
  have HB4 := Lib.hid (HB3.out.trans (hb.mono HB3.out.size))
  have HN4 := Lib.hid (Ne.netBox_below HN3.out hb (Ne.netBox_lt HN3.out))
  have HO4 := Lib.hid (Rw.own_below HO3.out hb)
  have HR4 := Lib.hid (HR3.out.kept hb)
  have HFB4 := Lib.hid hl
  have hfb2 := hl.lt
  clear hl hb
  have HL4 := Lib.hid HFB4.out
  have HFB := Lib.hid hfb
  have hN1 := RT.out.n1
  simp only at hN1
  obtain ⟨x, hx⟩ : ∃ x, 1 + u = x := ⟨_, rfl⟩
  obtain ⟨y, hy⟩ : ∃ y, 1 + z = y := ⟨_, rfl⟩
  have hx1 : 1 ≤ x := by omega
  have hy1 : 1 ≤ y := by omega
  have hx12 : x ≤ 12 := by omega
  have hy12 : y ≤ 12 := by omega
  obtain ⟨L1, hl1⟩ := Ne.lev_exists RT.out f x
  obtain ⟨W, g, hB⟩ := Ne.blk_of RT.out FL.out.okf hx1 L1
  obtain ⟨hF1, hv1⟩ := Ne.blkW_flow RT.out (Ne.lds_of ml f x L1) hx1 FL.out hB.1
  obtain ⟨L2, hl2⟩ := Ne.lev_exists RT.out g y
  obtain ⟨V, h, hB2⟩ := Ne.blk_of RT.out hF1.okf hy1 L2
  obtain ⟨hF2, hv2⟩ := Ne.blkW_flow RT.out (Ne.lds_of ml g y L2) hy1 hF1 hB2.1
  obtain ⟨hs1, he1⟩ := Ne.blk_sum hx1 hB.1
  obtain ⟨hs2, he2⟩ := Ne.blk_sum hy1 hB2.1
  have hn1 := Ne.leadL_len ml f x L1 (2 * ml.length)
  have hn2 := (Ne.blk_len FL.out.okf hx1 hB).2
  have hm1 := Ne.leadL_len ml g y L2 (2 * ml.length)
  have hm2 := (Ne.blk_len hF1.okf hy1 hB2).2
  simp only at hn2 hm2 hv1 hv2
  have bf := Ne.exc_bd RT.out FL.out.wi (D : Int)
  have bg := Ne.exc_bd RT.out hF1.wi (D : Int)
  have bh := Ne.exc_bd RT.out hF2.wi (D : Int)
  simp only at bf bg bh
  have TB := Lib.hid fun w' h1 h2 => Ne.tblock_flow (n := ⟨(N : Int), (S : Int), (D : Int), ml⟩) (f := f) om cm (some ⟨fb, 0, none⟩) ml.length w' CK.out h1 h2 FL.out.okf hx1 hl1 hB
  have TC := Lib.hid fun fo fc w' h1 h2 => Ne.tblock_flow (n := ⟨(N : Int), (S : Int), (D : Int), ml⟩) (f := g) om cm fo fc w' CK.out h1 h2 hF1.okf hy1 hl2 hB2
  have VF := Lib.hid fun w' h1 h2 => Ne.val_flow (n := ⟨(N : Int), (S : Int), (D : Int), ml⟩) (f := f) om cm (some ⟨fb, 0, none⟩) ml.length w' CK.out h1 h2 FL.out
  have VG := Lib.hid fun fo fc w' h1 h2 => Ne.val_flow (n := ⟨(N : Int), (S : Int), (D : Int), ml⟩) (f := g) om cm fo fc w' CK.out h1 h2 hF1
  have VH := Lib.hid fun fo fc w' h1 h2 => Ne.val_flow (n := ⟨(N : Int), (S : Int), (D : Int), ml⟩) (f := h) om cm fo fc w' CK.out h1 h2 hF2
  simp only at VF VG VH
  obtain ⟨wl, hwl⟩ : ∃ wl, W.length = wl := ⟨_, rfl⟩
  obtain ⟨vl, hvl⟩ : ∃ vl, V.length = vl := ⟨_, rfl⟩
  have hW0 : W = [] ↔ wl = 0 := by rw [← hwl]; exact List.length_eq_zero_iff.symm
  have hV0 : V = [] ↔ vl = 0 := by rw [← hvl]; exact List.length_eq_zero_iff.symm
  rw [hwl] at TB hs1 hn2
  rw [hvl] at TC hs2 hm2
  rw [hW0] at he1
  rw [hV0] at he2
  generalize (W.map (·.2)).sum = sw at *
  generalize (V.map (·.2)).sum = sv at *
  generalize Ne.exc ml f (D : Int) = ef at *
  generalize Ne.exc ml g (D : Int) = eg at *
  generalize Ne.exc ml h (D : Int) = eh at *
  have hxw : x * (wl : Int) ≤ 12 * (wl : Int) := Int.mul_le_mul_of_nonneg_right hx12 (by omega)
  have hxw0 : 0 ≤ x * (wl : Int) := Int.mul_nonneg (by omega) (by omega)
  have hyv : y * (vl : Int) ≤ 12 * (vl : Int) := Int.mul_le_mul_of_nonneg_right hy12 (by omega)
  have hyv0 : 0 ≤ y * (vl : Int) := Int.mul_nonneg (by omega) (by omega)
  have q1 : IntKind.i64.wrap (1 + u) = x := by rw [IntKind.wrap_i64]; omega
  have q2 : IntKind.i64.wrap (1 + z) = y := by rw [IntKind.wrap_i64]; omega
  have q3 : IntKind.i64.wrap (eg - ef) = eg - ef := by rw [IntKind.wrap_i64]; omega
  have q4 : IntKind.i64.wrap (eh - eg) = eh - eg := by rw [IntKind.wrap_i64]; omega
  have q5 : IntKind.i64.wrap (x * (wl : Int)) = x * (wl : Int) := by rw [IntKind.wrap_i64]; omega
  have q6 : IntKind.i64.wrap (y * (vl : Int)) = y * (vl : Int) := by rw [IntKind.wrap_i64]; omega
  have q7 : IntKind.i64.wrap (2 * (ml.length : Int)) = 2 * (ml.length : Int) := by rw [IntKind.wrap_i64]; omega
  have q8 : IntKind.i64.wrap (wl : Int) = (wl : Int) := by rw [IntKind.wrap_i64]; omega
  have q9 : IntKind.i64.wrap (vl : Int) = (vl : Int) := by rw [IntKind.wrap_i64]; omega
  have t1 : decide (x * (wl : Int) ≤ eg - ef) = true := by simp; omega
  have t2 : decide (y * (vl : Int) ≤ eh - eg) = true := by simp; omega
  have t3 : (((wl : Int) == 0) == (eg == ef)) = true := by
    by_cases c : wl = 0
    · have := he1.1 c
      have e1 : ((wl : Int) == 0) = true := by simp; omega
      have e2 : (eg == ef) = true := by simp; omega
      rw [e1, e2]; rfl
    · have := fun h => c (he1.2 h)
      have e1 : ((wl : Int) == 0) = false := by simp; omega
      have e2 : (eg == ef) = false := by simp; omega
      rw [e1, e2]; rfl
  have t4 : (((vl : Int) == 0) == (eh == eg)) = true := by
    by_cases c : vl = 0
    · have := he2.1 c
      have e1 : ((vl : Int) == 0) = true := by simp; omega
      have e2 : (eh == eg) = true := by simp; omega
      rw [e1, e2]; rfl
    · have := fun h => c (he2.2 h)
      have e1 : ((vl : Int) == 0) = false := by simp; omega
      have e2 : (eh == eg) = false := by simp; omega
      rw [e1, e2]; rfl
  have t5 : decide ((wl : Int) ≤ 2 * (ml.length : Int)) = true := by simp; omega
  have HT := Lib.hid (And.intro t1 (And.intro t2 (And.intro t3 (And.intro t4 t5))))
  clear hl1 hl2 hB hB2 hF1 hF2 hv1 hv2 hs1 hs2 he1 he2 hn1 hn2 hm1 hm2 bf bg bh hwl hvl hW0 hV0 hxw hxw0 hyv hyv0 t1 t2 t3 t4 t5 hx hy
  obtain ⟨n0, n1, n2, n3⟩ := Ne.netBox_cells HN4.out
  go_wp2_with fail
  refine (PA.out _).mono ?_
  rintro e w5 ⟨rfl, rfl⟩
  go_wp2_with fail
  refine (PB.out _).mono ?_
  rintro e w5 ⟨rfl, rfl⟩
  go_wp2_with fail
  refine (PA.out _).mono ?_
  rintro e w5 ⟨rfl, rfl⟩
  go_wp2_with fail
  refine (PB.out _).mono ?_
  rintro e w5 ⟨rfl, rfl⟩
  go_wp2_with fail
  refine (TB.out _ HR4.out HL4.out.irow).mono ?_
  rintro e w5 ⟨o5, c5, st5, rfl, hi5, _, hb⟩
  have HB5 := Lib.hid (HB4.out.trans (hb.mono HB4.out.size))
  have HN5 := Lib.hid (Ne.netBox_below HN4.out hb (Ne.netBox_lt HN4.out))
  have HR5 := Lib.hid (HR4.out.kept hb)
  have HF5 := Lib.hid (HL4.out.irow.kept hb)
  have HG5 := Lib.hid hi5
  clear hb n0 n1 n2 n3 hi5
  obtain ⟨n0, n1, n2, n3⟩ := Ne.netBox_cells HN5.out
  go_wp2_with fail
  refine (TC.out o5 c5 _ HR5.out HG5.out).mono ?_
  rintro e w6 ⟨o6, c6, st6, rfl, hi6, _, hb⟩
  have HB6 := Lib.hid (HB5.out.trans (hb.mono HB5.out.size))
  have HN6 := Lib.hid (Ne.netBox_below HN5.out hb (Ne.netBox_lt HN5.out))
  have HR6 := Lib.hid (HR5.out.kept hb)
  have HF6 := Lib.hid (HF5.out.kept hb)
  have HG6 := Lib.hid (HG5.out.kept hb)
  have HH6 := Lib.hid hi6
  clear hb n0 n1 n2 n3 hi6
  obtain ⟨n0, n1, n2, n3⟩ := Ne.netBox_cells HN6.out
  go_wp2_with fail
  refine (VF.out _ HR6.out HF6.out).mono ?_
  rintro e w7 ⟨rfl, hb⟩
  have HB7 := Lib.hid (HB6.out.trans (hb.mono HB6.out.size))
  have HN7 := Lib.hid (Ne.netBox_below HN6.out hb (Ne.netBox_lt HN6.out))
  have HR7 := Lib.hid (HR6.out.kept hb)
  have HG7 := Lib.hid (HG6.out.kept hb)
  have HH7 := Lib.hid (HH6.out.kept hb)
  clear hb n0 n1 n2 n3
  obtain ⟨n0, n1, n2, n3⟩ := Ne.netBox_cells HN7.out
  go_wp2_with fail
  refine (VG.out o5 c5 _ HR7.out HG7.out).mono ?_
  rintro e w8 ⟨rfl, hb⟩
  have HB8 := Lib.hid (HB7.out.trans (hb.mono HB7.out.size))
  have HN8 := Lib.hid (Ne.netBox_below HN7.out hb (Ne.netBox_lt HN7.out))
  have HR8 := Lib.hid (HR7.out.kept hb)
  have HH8 := Lib.hid (HH7.out.kept hb)
  clear hb n0 n1 n2 n3
  obtain ⟨n0, n1, n2, n3⟩ := Ne.netBox_cells HN8.out
  go_wp2_with fail
  refine (VH.out o6 c6 _ HR8.out HH8.out).mono ?_
  rintro e w9 ⟨rfl, hb⟩
  have HB9 := Lib.hid (HB8.out.trans (hb.mono HB8.out.size))
  have HN9 := Lib.hid (Ne.netBox_below HN8.out hb (Ne.netBox_lt HN8.out))
  clear hb n0 n1 n2 n3
  obtain ⟨n0, n1, n2, n3⟩ := Ne.netBox_cells HN9.out
  obtain ⟨t1, t2, t3, t4, t5⟩ := HT.out
  go_wp2
  go_ret
  exact ⟨rfl, HB9.out⟩

end Go.Proofs.Ytiaddfmgkcebnaa.treeRooms
