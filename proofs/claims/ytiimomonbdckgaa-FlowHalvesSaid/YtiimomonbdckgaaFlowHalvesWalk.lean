/- FlowHalves: for every input the law returns true and its arguments read as they did. No condition. -/
import Derived.Test.YtiimomonbdckgaaFlh
import Derived.Test.YtiimomonbdckgaaRouted
import Derived.Test.YtiimomonbdckgaaOpenc
import Derived.Test.YtiimomonbdckgaaRows
import Derived.WalkKit
import Derived.ProofKit
import Derived.OpenShut
import Derived.ShutString
import Derived.ChangeOld
import Derived.Below
import Derived.Deep.Strs
namespace Go.Proofs.Ytiimomonbdckgaa.flowHalves
open Go.ChangeShapes Go.WideShapes Go.ChangeAt Go.RowKit
open Go.ChangeMaps (open_string shut_string)
set_option linter.unusedVariables false
set_option linter.unusedSimpArgs false

theorem own : ownKnob Try.prog.godebug = none := by kernel_rfl
theorem laidOut : laidOutB Try.prog = true := by kernel_rfl

def IntsIn (k : IntKind) (w : World) (a : Option Addr) (len cap : Nat) (zs : List Int) : Prop :=
  (a = none ∧ len = 0 ∧ cap = 0 ∧ zs = []) ∨
  ∃ x, a = some x ∧ len ≤ cap ∧ cap ≤ maxLen ∧ zs.length = cap ∧ (∀ i, i < zs.length → w.cell? (x.add i) = some (.int k (zs.getD i 0))) ∧ ∀ n ∈ zs, (Lit.int k n).wf = true



set_option maxRecDepth 100000 in
set_option maxHeartbeats 4000000 in
theorem walk (a0 : Int) (a1 : Int) (a2 : List Ne.Arc) (o2 : Option Addr) (c2 : Nat) (a3 : Option Addr) (len3 cap3 : Nat) (l3 : List Int) (a4 : Int) (w : World) (w0 : (Lit.int .i64 a0).wf = true) (w1 : (Lit.int .i64 a1).wf = true) (k2 : ∀ a ∈ a2, Ne.Arc.ok a) (z2 : a2.length ≤ c2) (y2 : c2 ≤ maxLen) (n2 : o2 = none → c2 = 0) (r2 : Ne.ARow w o2 a2) (w3 : IntsIn .i64 w a3 len3 cap3 l3) (w4 : (Lit.int .i64 a4).wf = true) :
    Calls Try.prog 8 #[.int .i64 a0, .int .i64 a1, .slice o2 a2.length c2, .slice a3 len3 cap3, .int .i64 a4] w fun e w' => e = .returned (.bool true) ∧ Below w.heap.size w w' := by
  have HSH := Lib.hid (Ne.shown_any w)
  obtain ⟨mn, hmn⟩ : ∃ x, x = (Ne.madeN a0 a1 a2).n := ⟨_, rfl⟩
  obtain ⟨ms, hms⟩ : ∃ x, x = (Ne.madeN a0 a1 a2).s := ⟨_, rfl⟩
  obtain ⟨mt, hmt⟩ : ∃ x, x = (Ne.madeN a0 a1 a2).t := ⟨_, rfl⟩
  obtain ⟨ml, hml⟩ : ∃ x, x = (Ne.madeN a0 a1 a2).l := ⟨_, rfl⟩
  have em : Ne.madeN a0 a1 a2 = ⟨mn, ms, mt, ml⟩ := by rw [hmn, hms, hmt, hml]
  obtain ⟨f1, f2, f3, f4, f5, f6, f7, f8, f9⟩ := Ne.madeN_fine (nodes := a0) (ends := a1) k2
  have ck := Ne.made_check (nodes := a0) (ends := a1) k2
  have MD := Lib.hid fun w' (h : Ne.ARow w' o2 a2) => Ne.made_s a0 a1 a2 o2 c2 w' (bounds_i64 w0) (bounds_i64 w1) k2 h
  rw [em] at MD f1 f2 f3 f4 f5 f6 f7 f8 f9 ck
  simp only at f1 f2 f3 f4 f5 f6 f7 f8 f9
  clear hmn hms hmt hml em
  have f8' : ml.length ≤ 24 := by omega
  clear f8
  have CK := Lib.hid ck
  have RT := Lib.hid (Ne.right_of ck)
  have FI := Lib.hid f9
  have CAP := Lib.hid (show ∀ a ∈ ml, Ne.in64 a.cap from fun a ha => by have := (f9 a ha).2.2; unfold Ne.in64; omega)
  have hl6 : ml.length ≤ 1000000 := by omega
  have F7 := Lib.hid f7
  have RA := Lib.hid r2
  clear r2 f7 f9 ck
  obtain ⟨ks, hk3, hq3, bq3, _, _, _⟩ := Ne.ints_row w3
  subst hk3
  clear w3
  have BK3 := Lib.hid bq3
  have KR3 := Lib.hid hq3
  clear bq3 hq3
  have b4 := bounds_i64 w4
  obtain ⟨pp, hpp⟩ : ∃ x, x = Ne.pickN a4 5 := ⟨_, rfl⟩
  have bpp := Ne.pickN_bd (c := a4) (n := 5) (by omega)
  rw [← hpp] at bpp
  have P1 := Lib.hid fun w' => Ne.pick_any a4 5 w' b4.1 b4.2 (by omega) (by omega)
  rw [← hpp] at P1
  obtain ⟨mm, hmm⟩ : ∃ m : Nat, min (ks.length : Int) pp = (m : Int) := ⟨(min (ks.length : Int) pp).toNat, by rw [Int.min_def]; split <;> omega⟩
  have hmk : mm ≤ ks.length := by rw [Int.min_def] at hmm; split at hmm <;> omega
  have hmc : ks.length ≤ cap3 := by assumption
  have hmc2 : mm ≤ cap3 := Nat.le_trans hmk hmc
  clear hpp
  go_enter Try.func8, Try.ntmps8
  go_wp2_with fail
  refine HSH.out.mono ?_
  rintro e w1 ⟨rfl, hb⟩
  have HB1 := Lib.hid hb
  clear hb
  go_wp2_with fail
  refine (MD.out _ (RA.out.kept HB1.out)).mono ?_
  rintro e w2 ⟨om, cm, rfl, ho, hb⟩
  have HB2 := Lib.hid (HB1.out.trans (hb.mono HB1.out.size))
  have HV2 := Lib.hid (Rw.own_lt ho)
  have HO3 := Lib.hid (Rw.own_base (Rw.own_alloc ho (.cells #[.int .i64 mn, .int .i64 ms, .int .i64 mt, .slice om ml.length cm] 24)) (B' := w.heap.size) HB1.out.size)
  have HN3 := Lib.hid (Ne.netBox_new w2 mn ms mt (.slice om ml.length cm))
  have hz2 : w.heap.size ≤ w2.heap.size := HB2.out.size
  have HB3 := Lib.hid (HB2.out.alloc hz2 (.cells #[.int .i64 mn, .int .i64 ms, .int .i64 mt, .slice om ml.length cm] 24))
  clear ho hb MD RA HSH
  go_wp2_with fail
  obtain ⟨bn, hbn⟩ : ∃ b, b = w2.heap.size := ⟨_, rfl⟩
  have hbn3 : bn < (w2.alloc (.cells #[.int .i64 mn, .int .i64 ms, .int .i64 mt, .slice om ml.length cm] 24)).heap.size := by rw [hbn]; simp
  rw [← hbn] at HN3 HV2 hz2 ⊢
  clear hbn HB2 HB1
  generalize (w2.alloc (.cells #[.int .i64 mn, .int .i64 ms, .int .i64 mt, .slice om ml.length cm] 24)) = W3 at *
  have HR3 := Lib.hid (Ne.arow_ofA HO3.out)
  obtain ⟨f, hf⟩ : ∃ x, x = Ne.routeN ⟨mn, ms, mt, ml⟩ ks := ⟨_, rfl⟩
  have FL := Lib.hid (show Ne.Flow ⟨mn, ms, mt, ml⟩ f by rw [hf]; exact Ne.route_flow RT.out _)
  have RD := Lib.hid fun w' h1 h2 => Ne.routed_any ⟨mn, ms, mt, ml⟩ om cm a3 cap3 ks w' h1 h2 CK.out BK3.out
  rw [← hf] at RD
  refine (RD.out _ HR3.out (KR3.out.kept HB3.out)).mono ?_
  rintro e w4 ⟨fb, rfl, hfb, hl, hb⟩
  have HB4 := Lib.hid (HB3.out.trans (hb.mono HB3.out.size))
  have HN4 := Lib.hid (Ne.netBox_below HN3.out hb (Ne.netBox_lt HN3.out))
  have HO4 := Lib.hid (Rw.own_below HO3.out hb)
  have HR4 := Lib.hid (HR3.out.kept hb)
  have HFB4 := Lib.hid hl
  have hfb2 := hl.lt
  clear hl hb
  obtain ⟨g, hg⟩ : ∃ x, x = Ne.routeN ⟨mn, ms, mt, ml⟩ (ks.take mm) := ⟨_, rfl⟩
  have GL := Lib.hid (show Ne.Flow ⟨mn, ms, mt, ml⟩ g by rw [hg]; exact Ne.route_flow RT.out _)
  have GLE := Lib.hid (show ∀ i, Ne.amt g i ≤ Ne.amt f i by rw [hg, hf]; exact Ne.route_pre RT.out ks mm)
  have RG := Lib.hid fun w' h1 h2 => Ne.routed_any ⟨mn, ms, mt, ml⟩ om cm a3 cap3 (ks.take mm) w' h1 h2 CK.out (fun x hx => BK3.out x (List.mem_of_mem_take hx))
  rw [← hg, show (ks.take mm).length = mm by rw [List.length_take]; omega] at RG
  clear hg hf
  have HKD := Lib.hid (Ne.irow_take (KR3.out.kept HB4.out) mm)
  obtain ⟨n0, n1, n2, n3⟩ := Ne.netBox_cells HN4.out
  go_wp2
  have hbn4 : bn < w4.drew.heap.size := Ne.netBox_lt HN4.out
  have hS0 := (show (fun w' => w'.cell? ⟨bn, 0, none⟩ = some (.int .i64 mn) ∧ w'.cell? ⟨bn, 1, none⟩ = some (.int .i64 ms) ∧ w'.cell? ⟨bn, 2, none⟩ = some (.int .i64 mt) ∧ w'.cell? ⟨bn, 3, none⟩ = some (.slice om ml.length cm)) w4.drew from ⟨n0, n1, n2, n3⟩)
  refine Rh.start (S := (fun w' => w'.cell? ⟨bn, 0, none⟩ = some (.int .i64 mn) ∧ w'.cell? ⟨bn, 1, none⟩ = some (.int .i64 ms) ∧ w'.cell? ⟨bn, 2, none⟩ = some (.int .i64 mt) ∧ w'.cell? ⟨bn, 3, none⟩ = some (.slice om ml.length cm))) (by kernel_rfl) ?_
  refine Rh.take (some 35) (i := 0) (v := ?_) rfl (by kernel_rfl) (by kernel_rfl) (by kernel_rfl) (by kernel_rfl) (fun _ _ _ h => h) (Or.inl ⟨by rfl, ?_⟩) hS0 ?_
  rotate_left
  · intro w hSw
    go_simp
    try with_reducible rfl
  try simp only [Act.put, List.setIfInBounds_toArray, List.set_cons_zero, List.set_cons_succ]
  refine Rh.take (some 36) (i := 1) (v := ?_) rfl (by kernel_rfl) (by kernel_rfl) (by kernel_rfl) (by kernel_rfl) (fun _ _ _ h => h) (Or.inl ⟨by rfl, ?_⟩) hS0 ?_
  rotate_left
  · intro w hSw
    go_simp
    try with_reducible rfl
  try simp only [Act.put, List.setIfInBounds_toArray, List.set_cons_zero, List.set_cons_succ]
  refine Rh.take (some 37) (i := 2) (v := ?_) rfl (by kernel_rfl) (by kernel_rfl) (by kernel_rfl) (by kernel_rfl) (fun _ _ _ h => h) (Or.inl ⟨by rfl, ?_⟩) hS0 ?_
  rotate_left
  · intro w hSw
    go_simp
    try with_reducible rfl
  try simp only [Act.put, List.setIfInBounds_toArray, List.set_cons_zero, List.set_cons_succ]
  refine Rh.take (some 38) (i := 3) (v := ?_) rfl (by kernel_rfl) (by kernel_rfl) (by kernel_rfl) (by kernel_rfl) (fun _ _ _ h => h) (Or.inl ⟨by rfl, ?_⟩) hS0 ?_
  rotate_left
  · intro w hSw
    go_simp
    try with_reducible rfl
  try simp only [Act.put, List.setIfInBounds_toArray, List.set_cons_zero, List.set_cons_succ]
  refine Rh.take (some 39) (i := 4) (v := ?_) rfl (by kernel_rfl) (by kernel_rfl) (by kernel_rfl) (by kernel_rfl) (fun _ _ _ h => h) (Or.inl ⟨by rfl, ?_⟩) hS0 ?_
  rotate_left
  · intro w hSw
    go_simp
    try with_reducible rfl
  try simp only [Act.put, List.setIfInBounds_toArray, List.set_cons_zero, List.set_cons_succ]
  refine Rh.step (i := 5) (by kernel_rfl) rfl fun K' hK' => ?_
  have HK := Lib.hid hK'
  clear hK'
  go_simp
  refine (P1.out _).mono ?_
  rintro e w' ⟨rfl, rfl⟩
  refine HK.out _ _ ⟨hS0, ?_⟩
  clear HK K'
  try simp only [Act.put, List.setIfInBounds_toArray, List.set_cons_zero, List.set_cons_succ]
  refine Rh.step (i := 6) (by kernel_rfl) rfl fun K' hK' => ?_
  have HK := Lib.hid hK'
  clear hK'
  go_simp
  refine HK.out _ _ ⟨hS0, ?_⟩
  clear HK K'
  try simp only [Act.put, List.setIfInBounds_toArray, List.set_cons_zero, List.set_cons_succ]
  refine Rh.step (i := 7) (by kernel_rfl) rfl fun K' hK' => ?_
  have HK := Lib.hid hK'
  clear hK'
  go_simp
  refine HK.out _ _ ⟨hS0, ?_⟩
  clear HK K'
  try simp only [Act.put, List.setIfInBounds_toArray, List.set_cons_zero, List.set_cons_succ]
  refine Rh.step (i := 8) (by kernel_rfl) rfl fun K' hK' => ?_
  have HK := Lib.hid hK'
  clear hK'
  go_simp
  refine (RG.out w4.drew (show Ne.ARow w4.drew om ml from HR4.out) (show Ne.IRow w4.drew a3 (ks.take mm) from HKD.out)).mono ?_
  rintro e w5 ⟨gb, rfl, hgb, hl, hb⟩
  have hS1 := (show (fun w' => w'.cell? ⟨bn, 0, none⟩ = some (.int .i64 mn) ∧ w'.cell? ⟨bn, 1, none⟩ = some (.int .i64 ms) ∧ w'.cell? ⟨bn, 2, none⟩ = some (.int .i64 mt) ∧ w'.cell? ⟨bn, 3, none⟩ = some (.slice om ml.length cm)) w5 from ⟨(hb.cell (p := ⟨bn, 0, none⟩) hbn4).trans n0, (hb.cell (p := ⟨bn, 1, none⟩) hbn4).trans n1, (hb.cell (p := ⟨bn, 2, none⟩) hbn4).trans n2, (hb.cell (p := ⟨bn, 3, none⟩) hbn4).trans n3⟩)
  refine HK.out _ _ ⟨hS1, ?_⟩
  clear HK K'
  try simp only [Act.put, List.setIfInBounds_toArray, List.set_cons_zero, List.set_cons_succ]
  refine Rh.take (some 14) (i := 9) (v := ?_) rfl (by kernel_rfl) (by kernel_rfl) (by kernel_rfl) (by kernel_rfl) (fun _ _ _ h => h) (Or.inl ⟨by rfl, ?_⟩) hS1 ?_
  rotate_left
  · intro w hSw
    go_simp
    try with_reducible rfl
  try simp only [Act.put, List.setIfInBounds_toArray, List.set_cons_zero, List.set_cons_succ]
  refine Rh.done (by kernel_rfl) ?_ _
  have HB5 := Lib.hid ((Ne.below_drew HB4.out).trans (hb.mono HB4.out.size))
  have HN5 := Lib.hid (Ne.netBox_below (w := w4.drew) HN4.out hb hbn4)
  have HR5 := Lib.hid (Rw.Row.kept (w := w4.drew) HR4.out hb)
  have HF5 := Lib.hid (Ne.LBox.kept (w := w4.drew) HFB4.out hb)
  have HG5 := Lib.hid hl
  have hgb2 := hl.lt
  clear hS0 hS1 hb hl n0 n1 n2 n3 hgb RG RD P1 hmm hmc hmc2
  have hmkL := Ne.make_l ml.length hl6
  have HL6 := Lib.hid (Ne.lbox_made w5 ml.length rfl)
  rw [← Ne.subL_zero f g] at HL6
  have HB6 := Lib.hid (show Below w5.heap.size w5 (w5.alloc (.cells (madeCells #[.int .i64 0] ml.length) 2)) from (Below.refl _ _).alloc (Nat.le_refl _) _)
  go_wp2
  generalize (w5.alloc (.cells (madeCells #[.int .i64 0] ml.length) 2)) = W6 at *
  clear hmkL
  have HFL := Lib.hid FL.out.len
  have HGL := Lib.hid GL.out.len
  obtain ⟨hb, hhb⟩ : ∃ b, b = w5.heap.size := ⟨_, rfl⟩
  have HBL : Hid (Below w5.heap.size w5 W6) := HB6
  rw [← hhb] at HL6 ⊢
  have hb5 : w5.heap.size ≤ hb := by omega
  clear hhb HB6
  go_loopw [16] (fun si wr => ∃ j : Nat, si = .int .i64 j ∧ j ≤ ml.length ∧ Hid (Ne.LBox wr hb (Ne.subL f g ml.length j)) ∧ Hid (Below w5.heap.size w5 wr)) (fun si _ => ml.length - (intOf si).toNat)
  case atStart => exact ⟨0, rfl, Nat.zero_le _, HL6, HBL⟩
  case round =>
    obtain ⟨j, rfl, hj, HL, HB⟩ := hrel
    clear HL6 HBL
    by_cases hlt : j < ml.length
    · have f0 := (HF5.out.kept HB.out).cell (i := j) (by have := HFL.out; simp only at this; omega)
      have g0 := (HG5.out.kept HB.out).cell (i := j) (by have := HGL.out; simp only at this; omega)
      have h0 := HL.out.cell (i := j) (by rw [Ne.subL_len]; exact hlt)
      have z0 := HL.out.frozen j
      have bf := Ne.amt_bd RT.out FL.out.wi hlt
      have bg := Ne.amt_bd RT.out GL.out.wi hlt
      have ble := GLE.out j
      have HL2 := Lib.hid (HL.out.set (i := j) (by rw [Ne.subL_len]; exact hlt) (Ne.amt f j - Ne.amt g j))
      rw [Ne.subL_succ hlt] at HL2
      have h2 := HL2.out.cell (i := j) (by rw [Ne.subL_len]; exact hlt)
      rw [Ne.subL_at hlt, if_pos (by omega)] at h2
      have HB2 := Lib.hid (Ne.below_drew (HB.out.setCell (p := ⟨hb, j, none⟩) hb5 (.int .i64 (Ne.amt f j - Ne.amt g j))))
      generalize Ne.amt f j = x at *
      generalize Ne.amt g j = y at *
      have hji : (j : Int) < (ml.length : Int) := by omega
      have hj0 : (0 : Int) ≤ (j : Int) := by omega
      have hw : IntKind.i64.wrap (x - y) = x - y := by rw [IntKind.wrap_i64]; omega
      have hn : ¬ x - y < 0 := by omega
      have hnd : decide (x - y < 0) = false := by simp; omega
      clear HL HB
      go_wp2
      go_region
      have h3 : (wr.setCell ⟨hb, j, none⟩ (.int .i64 (x - y))).drew.cell? ⟨hb, j, none⟩ = some (.int .i64 (x - y)) := h2
      clear f0 g0 h0 z0 h2
      go_wp2
      go_roundw
      case rel => exact ⟨j + 1, by go_num, by omega, HL2, HB2⟩
      case measure => simp [intOf]; omega
    · have ej : j = ml.length := by omega
      have hjn : ¬ (j : Int) < (ml.length : Int) := by omega
      rw [ej] at HL
      clear ej hlt hj
      obtain ⟨hc, he⟩ := Ne.half_calm FL.out GL.out GLE.out
      obtain ⟨ha, hal⟩ := Ne.half_add CK.out FL.out GL.out GLE.out
      simp only at hc he ha hal
      have HC := Lib.hid hc
      obtain ⟨H, hH⟩ : ∃ H, H = Ne.subL f g ml.length ml.length := ⟨_, rfl⟩
      rw [← hH] at HL HC he ha hal
      clear hH hc
      have HN7 := Lib.hid (Ne.netBox_below HN5.out HB.out (Ne.netBox_lt HN5.out))
      have HR7 := Lib.hid (HR5.out.kept HB.out)
      have HF7 := Lib.hid (HF5.out.kept HB.out)
      have HG7 := Lib.hid (HG5.out.kept HB.out)
      have HB7 := Lib.hid (HB5.out.trans (HB.out.mono HB5.out.size))
      have HH7 : Hid (Ne.LBox wr hb H) := HL
      obtain ⟨n0, n1, n2, n3⟩ := Ne.netBox_cells HN7.out
      have bvf := Ne.exc_bd RT.out FL.out.wi mt
      have bvg := Ne.exc_bd RT.out GL.out.wi mt
      simp only at bvf bvg
      have HVE := Lib.hid he
      have HLN := Lib.hid (show f.length = ml.length from FL.out.len)
      have AD := Lib.hid fun w' h1 h2 h3 => Ne.add_ok (n := ⟨mn, ms, mt, ml⟩) (f := g) (g := H) om cm (some ⟨gb, 0, none⟩) ml.length w' CK.out h1 h2 (some ⟨hb, 0, none⟩) ml.length h3 GL.out.len HC.out.len
      rw [ha, hal] at AD
      simp only [HLN.out] at AD
      have VG := Lib.hid fun w' h1 h2 => Ne.val_flow (n := ⟨mn, ms, mt, ml⟩) (f := g) om cm (some ⟨gb, 0, none⟩) ml.length w' CK.out h1 h2 GL.out
      have VF := Lib.hid fun w' h1 h2 => Ne.val_flow (n := ⟨mn, ms, mt, ml⟩) (f := f) om cm (some ⟨fb, 0, none⟩) ml.length w' CK.out h1 h2 FL.out
      have VH := Lib.hid fun w' h1 h2 => Ne.val_calm (n := ⟨mn, ms, mt, ml⟩) (f := H) om cm (some ⟨hb, 0, none⟩) ml.length w' CK.out h1 h2 HC.out
      have SM := Lib.hid fun x1 x2 y1 y2 w' h1 h2 => Ne.rsame_l x1 x2 y1 y2 f f w' h1 h2 (by have := HLN.out; omega) (by have := HLN.out; omega)
      rw [show decide (f = f) = true by simp] at SM
      simp only [HLN.out] at SM
      rw [he] at VH
      simp only at VG VF VH
      generalize Ne.exc ml f mt = vf at *
      generalize Ne.exc ml g mt = vg at *
      clear he ha hal HL HB HN5 HR5 HF5 HG5
      go_wp2_with fail
      refine (AD.out wr HR7.out HG7.out.irow HH7.out.irow).mono ?_
      rintro e w8 ⟨so, sc, rfl, hs, hq⟩
      have HB8 := Lib.hid (HB7.out.trans (hq.mono HB7.out.size))
      have HW8 := Lib.hid hq
      have HS8 := Lib.hid hs
      obtain ⟨n0, n1, n2, n3⟩ := Ne.netBox_cells (Ne.netBox_below HN7.out HW8.out (Ne.netBox_lt HN7.out))
      clear hs hq
      go_wp2_with fail
      refine (VG.out w8 (HR7.out.kept HW8.out) (HG7.out.kept HW8.out).irow).mono ?_
      rintro e w9 ⟨rfl, hq⟩
      have HB9 := Lib.hid (HB8.out.trans (hq.mono HB8.out.size))
      have HW9 := Lib.hid (HW8.out.trans (hq.mono HW8.out.size))
      have HS9 := Lib.hid (HS8.out.kept hq)
      obtain ⟨n0, n1, n2, n3⟩ := Ne.netBox_cells (Ne.netBox_below HN7.out HW9.out (Ne.netBox_lt HN7.out))
      clear hq
      go_wp2_with fail
      refine (VH.out w9 (HR7.out.kept HW9.out) (HH7.out.kept HW9.out).irow).mono ?_
      rintro e w10 ⟨rfl, hq⟩
      have HB10 := Lib.hid (HB9.out.trans (hq.mono HB9.out.size))
      have HW10 := Lib.hid (HW9.out.trans (hq.mono HW9.out.size))
      have HS10 := Lib.hid (HS9.out.kept hq)
      obtain ⟨n0, n1, n2, n3⟩ := Ne.netBox_cells (Ne.netBox_below HN7.out HW10.out (Ne.netBox_lt HN7.out))
      clear hq
      go_wp2_with fail
      refine (VF.out w10 (HR7.out.kept HW10.out) (HF7.out.kept HW10.out).irow).mono ?_
      rintro e w11 ⟨rfl, hq⟩
      have HB11 := Lib.hid (HB10.out.trans (hq.mono HB10.out.size))
      have HW11 := Lib.hid (HW10.out.trans (hq.mono HW10.out.size))
      have HS11 := Lib.hid (HS10.out.kept hq)
      clear hq
      have hw1 : IntKind.i64.wrap (vg + (vf - vg)) = vf := by rw [IntKind.wrap_i64]; omega
      go_wp2_with fail
      refine (SM.out _ _ _ _ w11 HS11.out (HF7.out.kept HW11.out).irow).mono ?_
      rintro e w12 ⟨rfl, hq⟩
      have HB12 := Lib.hid (HB11.out.trans (hq.mono HB11.out.size))
      clear hq
      go_wp2
      go_ret
      exact ⟨rfl, HB12.out⟩

end Go.Proofs.Ytiimomonbdckgaa.flowHalves
