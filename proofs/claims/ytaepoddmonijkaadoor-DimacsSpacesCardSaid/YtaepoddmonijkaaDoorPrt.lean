/-
  Contract of the developers' dimacs.Print. Condition: at most a million arcs, numbers of 64 bits. (Written by wip/tools/gen-Print4.py.)
-/
import Derived.Test.YtaepoddmonijkaaDoorPut
import Derived.Test.YtaepoddmonijkaaDoorChk
import Derived.Test.YtaepoddmonijkaaDoorLine
namespace Go.Proofs.YtaepoddmonijkaaDoor
open Go.ChangeShapes Go.WideShapes Go.ChangeAt Go.RowKit
set_option linter.unusedVariables false
set_option linter.unusedSimpArgs false
namespace Dm

theorem prt_no {n : Ne.Net} (h : Ne.checkN n ≠ 0) : Ending.returned (.tuple #[.string ⟨#[]⟩, .int .i64 1]) = .returned (.tuple #[.string ⟨(prtS n).toArray⟩, .int .i64 (prtE n)]) := by
  unfold prtS prtE; rw [if_neg h, if_neg h]
theorem prt_yes {n : Ne.Net} (h : Ne.checkN n = 0) {s : List UInt8} (e : s = printT n) : Ending.returned (.tuple #[.string ⟨s.toArray⟩, .int .i64 0]) = .returned (.tuple #[.string ⟨(prtS n).toArray⟩, .int .i64 (prtE n)]) := by
  unfold prtS prtE; rw [if_pos h, if_pos h, e]

set_option maxRecDepth 100000 in
set_option maxHeartbeats 8000000 in
theorem print_any (n : Ne.Net) (ao : Option Addr) (cap : Nat) (w : World) (hr : Ne.ARow w ao n.l) (hl : n.l.length ≤ 1000000) (hok : n.ok) (hv : Txt.Vars w) :
    Calls Tryd.prog 15 #[Ne.encN n ao cap] w fun e w' => e = .returned (.tuple #[.string ⟨(prtS n).toArray⟩, .int .i64 (prtE n)]) ∧ Below w.heap.size w w' := by
  have HBA := Lib.hid (show Below w.heap.size w (w.alloc (.cells #[.int .i64 n.n, .int .i64 n.s, .int .i64 n.t, .slice ao n.l.length cap] 25)) from (Below.refl _ _).alloc (Nat.le_refl _) _)
  have HNA := Lib.hid (Ne.netBox_new w n.n n.s n.t (.slice ao n.l.length cap))
  have HCK := Lib.hid (Ne.check_any n ao cap (w.alloc (.cells #[.int .i64 n.n, .int .i64 n.s, .int .i64 n.t, .slice ao n.l.length cap] 25)) (hr.kept HBA.out) hl (fun a ha => (hok.2.2.2 a ha).2.2))
  have HR := Lib.hid hr
  have HV := Lib.hid hv
  have HOK := Lib.hid hok
  have HLN := Lib.hid hl
  have HLP := Lib.hid (show (Lib.join (wP n) [32]).length ≤ 1000000 from Nat.le_trans (wP_len hok hl).1 (by decide))
  have HLS := Lib.hid (show (Lib.join (wS n) [32]).length ≤ 1000000 from Nat.le_trans (wS_len hok).1 (by decide))
  have HLT := Lib.hid (show (Lib.join (wT n) [32]).length ≤ 1000000 from Nat.le_trans (wT_len hok).1 (by decide))
  have HHL := Lib.hid (headT_len hok hl)
  have HNN := Lib.hid (show -9223372036854775808 ≤ n.n ∧ n.n ≤ 9223372036854775807 from hok.1)
  have HNS := Lib.hid (show -9223372036854775808 ≤ n.s ∧ n.s ≤ 9223372036854775807 from hok.2.1)
  have HNT := Lib.hid (show -9223372036854775808 ≤ n.t ∧ n.t ≤ 9223372036854775807 from hok.2.2.1)
  have HNL := Lib.hid (show (-9223372036854775808 : Int) ≤ (n.l.length : Int) ∧ (n.l.length : Int) ≤ 9223372036854775807 by omega)
  clear hr hv hok
  by_cases hc : Ne.checkN n = 0
  case neg =>
    have hc' : (Ne.checkN n != 0) = true := by simpa using hc
    have HC := Lib.hid hc
    clear hc
    go_enter Tryd.func15, Tryd.ntmps15
    go_wp2_with fail
    refine HCK.out.mono ?_
    rintro e w1 ⟨rfl, hb⟩
    have HB1 := Lib.hid (HBA.out.trans (hb.mono HBA.out.size))
    clear hb
    go_wp2
    go_ret2
    exact ⟨prt_no HC.out, HB1.out⟩
  have HC := Lib.hid hc
  rw [hc] at HCK
  clear hc
  go_enter Tryd.func15, Tryd.ntmps15
  go_wp2_with fail
  refine HCK.out.mono ?_
  rintro e w1 ⟨rfl, hb⟩
  have HB1 := Lib.hid (HBA.out.trans (hb.mono HBA.out.size))
  have HN1 := Lib.hid (Ne.netBox_below HNA.out hb (Ne.netBox_lt HNA.out))
  clear hb
  go_wp2
  obtain ⟨bb, hbb⟩ : ∃ bb, bb = w1.heap.size := ⟨_, rfl⟩
  generalize hw2 : w1.alloc (.cells #[.pointer none, .slice none 0 0] 61) = w2
  have HB2 := Lib.hid (show Below bb w1 w2 by rw [← hw2, hbb]; exact (Below.refl _ _).alloc (Nat.le_refl _) _)
  have HBL := Lib.hid (show Lib.IsBuilder TB TU bb bb (Lib.byteCells []) w2 by rw [← hw2, hbb]; exact Lib.fresh_isBuilder TB TU w1)
  have HBB := Lib.hid (show bb ≤ w2.heap.size by rw [← hw2, hbb]; simp)
  have HNB := Lib.hid (show w.heap.size < bb by rw [hbb]; exact Ne.netBox_lt HN1.out)
  have HN2 := Lib.hid (Ne.netBox_below HN1.out HB2.out HNB.out)
  have HBW := Lib.hid (show Below w.heap.size w w2 from HB1.out.trans (HB2.out.mono (Nat.le_of_lt HNB.out)))
  rw [← hbb]
  clear hw2 hbb HCK HBA HNA HB1 HN1 HB2
  obtain ⟨n0, n1, n2, n3⟩ := Ne.netBox_cells HN2.out
  have hSx := (show (fun w' => w'.cell? ⟨w.heap.size, 0, none⟩ = some (.int .i64 n.n) ∧ w'.cell? ⟨w.heap.size, 3, none⟩ = some (.slice ao n.l.length cap)) w2.drew from ⟨n0, n3⟩)
  have HVx := Lib.hid (show Txt.Vars w2.drew from HV.out.below (HBW.out.drew))
  have HBx := Lib.hid (show Lib.IsBuilder TB TU bb bb (Lib.byteCells []) w2.drew from HBL.out)
  have HDx := Lib.hid (show Below bb w2 w2.drew from (Below.refl _ _).drew)
  refine Rg.start (S := (fun w' => w'.cell? ⟨w.heap.size, 0, none⟩ = some (.int .i64 n.n) ∧ w'.cell? ⟨w.heap.size, 3, none⟩ = some (.slice ao n.l.length cap))) (last := 8) (by kernel_rfl) ?_
  refine Rg.take (i := 0) (v := ?_) 30 rfl (by kernel_rfl) (by kernel_rfl) (by kernel_rfl) (by kernel_rfl) (fun _ _ _ h => h) (Or.inl ⟨by rfl, ?_⟩) hSx ?_
  rotate_left
  · intro w hSw
    go_simp
    try with_reducible rfl
  try simp only [Act.put, List.setIfInBounds_toArray, List.set_cons_zero, List.set_cons_succ]
  refine Rg.take (i := 1) (v := ?_) 30 rfl (by kernel_rfl) (by kernel_rfl) (by kernel_rfl) (by kernel_rfl) (fun _ _ _ h => h) (Or.inl ⟨by rfl, ?_⟩) hSx ?_
  rotate_left
  · intro w hSw
    go_simp
    try with_reducible rfl
  try simp only [Act.put, List.setIfInBounds_toArray, List.set_cons_zero, List.set_cons_succ]
  refine Rg.take (i := 3) (v := ?_) 30 rfl (by kernel_rfl) (by kernel_rfl) (by kernel_rfl) (by kernel_rfl) (fun _ _ _ h => h) (Or.inl ⟨by rfl, ?_⟩) hSx ?_
  rotate_left
  · intro w hSw
    go_simp
    try with_reducible rfl
  try simp only [Act.put, List.setIfInBounds_toArray, List.set_cons_zero, List.set_cons_succ]
  refine Rg.take (i := 4) (v := ?_) 30 rfl (by kernel_rfl) (by kernel_rfl) (by kernel_rfl) (by kernel_rfl) (fun _ _ _ h => h) (Or.inl ⟨by rfl, ?_⟩) hSx ?_
  rotate_left
  · intro w hSw
    go_simp
    try with_reducible rfl
  try simp only [Act.put, List.setIfInBounds_toArray, List.set_cons_zero, List.set_cons_succ]
  refine Rg.take (i := 5) (v := ?_) 30 rfl (by kernel_rfl) (by kernel_rfl) (by kernel_rfl) (by kernel_rfl) (fun _ _ _ h => h) (Or.inl ⟨by rfl, ?_⟩) hSx ?_
  rotate_left
  · intro w hSw
    go_simp
    try with_reducible rfl
  try simp only [Act.put, List.setIfInBounds_toArray, List.set_cons_zero, List.set_cons_succ]
  refine Rg.step (i := 2) (by kernel_rfl) rfl fun K' hK' => ?_
  have HK := Lib.hid hK'
  clear hK'
  go_simp
  refine (dwrite_any n.n _ HNN.out.1 HNN.out.2 HVx.out).mono ?_
  rintro e y ⟨rfl, hb⟩
  replace HVx := Lib.hid (HVx.out.below hb)
  replace HBx := Lib.hid (bld_kept HBx.out hb)
  replace HDx := Lib.hid (HDx.out.trans (hb.mono (Nat.le_trans HBB.out HDx.out.size)))
  replace hSx := (show (fun w' => w'.cell? ⟨w.heap.size, 0, none⟩ = some (.int .i64 n.n) ∧ w'.cell? ⟨w.heap.size, 3, none⟩ = some (.slice ao n.l.length cap)) y from ⟨(hb.cell (World.block_lt_of_cell? _ _ hSx.1)).trans hSx.1, (hb.cell (World.block_lt_of_cell? _ _ hSx.2)).trans hSx.2⟩)
  clear hb
  refine HK.out _ _ ⟨fun _ => hSx, ?_⟩
  clear HK K'
  try simp only [Act.put, List.setIfInBounds_toArray, List.set_cons_zero, List.set_cons_succ]
  refine Rg.step (i := 6) (by kernel_rfl) rfl fun K' hK' => ?_
  have HK := Lib.hid hK'
  clear hK'
  go_simp
  refine (dwrite_any (n.l.length : Int) _ HNL.out.1 HNL.out.2 HVx.out).mono ?_
  rintro e y ⟨rfl, hb⟩
  replace HVx := Lib.hid (HVx.out.below hb)
  replace HBx := Lib.hid (bld_kept HBx.out hb)
  replace HDx := Lib.hid (HDx.out.trans (hb.mono (Nat.le_trans HBB.out HDx.out.size)))
  replace hSx := (show (fun w' => w'.cell? ⟨w.heap.size, 0, none⟩ = some (.int .i64 n.n) ∧ w'.cell? ⟨w.heap.size, 3, none⟩ = some (.slice ao n.l.length cap)) y from ⟨(hb.cell (World.block_lt_of_cell? _ _ hSx.1)).trans hSx.1, (hb.cell (World.block_lt_of_cell? _ _ hSx.2)).trans hSx.2⟩)
  clear hb
  refine HK.out _ _ ⟨fun _ => hSx, ?_⟩
  clear HK K'
  try simp only [Act.put, List.setIfInBounds_toArray, List.set_cons_zero, List.set_cons_succ]
  refine Rg.step (i := 7) (by kernel_rfl) rfl fun K' hK' => ?_
  have HK := Lib.hid hK'
  clear hK'
  go_simp
  have hb : Below y.heap.size y (y.alloc (.cells #[.string ⟨#[112]⟩, .string ⟨#[109, 97, 120]⟩, .string ⟨(Lib.itoa n.n).toArray⟩, .string ⟨(Lib.itoa n.l.length).toArray⟩] 9)) := (Below.refl _ _).alloc (Nat.le_refl _) _
  have HRx := Lib.hid (srow_at y (b := y.heap.size) rfl [.string ⟨#[112]⟩, .string ⟨#[109, 97, 120]⟩, .string ⟨(Lib.itoa n.n).toArray⟩, .string ⟨(Lib.itoa n.l.length).toArray⟩] (wP n) rfl)
  replace HBx := Lib.hid (bld_kept HBx.out hb)
  replace HDx := Lib.hid (HDx.out.trans (hb.mono (Nat.le_trans HBB.out HDx.out.size)))
  replace hSx := (show (fun w' => w'.cell? ⟨w.heap.size, 0, none⟩ = some (.int .i64 n.n) ∧ w'.cell? ⟨w.heap.size, 3, none⟩ = some (.slice ao n.l.length cap)) (y.alloc (.cells #[.string ⟨#[112]⟩, .string ⟨#[109, 97, 120]⟩, .string ⟨(Lib.itoa n.n).toArray⟩, .string ⟨(Lib.itoa n.l.length).toArray⟩] 9)) from ⟨(hb.cell (World.block_lt_of_cell? _ _ hSx.1)).trans hSx.1, (hb.cell (World.block_lt_of_cell? _ _ hSx.2)).trans hSx.2⟩)
  clear hb
  refine HK.out _ _ ⟨fun _ => hSx, ?_⟩
  clear HK K'
  try simp only [Act.put, List.setIfInBounds_toArray, List.set_cons_zero, List.set_cons_succ]
  refine Rg.step (i := 8) (by kernel_rfl) rfl fun K' hK' => ?_
  have HK := Lib.hid hK'
  clear hK'
  go_simp
  refine (put_any bb bb ([]) (some ⟨y.heap.size, 0, none⟩) 4 (wP n) (y.alloc (.cells #[.string ⟨#[112]⟩, .string ⟨#[109, 97, 120]⟩, .string ⟨(Lib.itoa n.n).toArray⟩, .string ⟨(Lib.itoa n.l.length).toArray⟩] 9)) HBx.out (Nat.le_trans HBB.out HDx.out.size) HRx.out (Nat.le_refl _) (by show 4 ≤ 1000000; decide) HLP.out (by simp)).mono ?_
  rintro e z ⟨rfl, hat, hb⟩
  have HIz := Lib.hid (And.intro hat (HDx.out.trans hb))
  clear hb hat
  refine HK.out _ _ ⟨fun h => absurd rfl h, ?_⟩
  clear HK K'
  try simp only [Act.put, List.setIfInBounds_toArray, List.set_cons_zero, List.set_cons_succ]
  refine Rg.finished (by kernel_rfl) ?_ _
  obtain ⟨w3, hw3⟩ : ∃ w3, w3 = z := ⟨_, rfl⟩
  rw [← hw3] at HIz ⊢
  have HT3 := Lib.hid (HIz.out.1)
  have HD3 := Lib.hid (HIz.out.2)
  clear hSx HVx HBx HDx n0 n1 n2 n3 HIz HRx hw3
  have HV3 := Lib.hid (HV.out.below (HBW.out.trans (HD3.out.mono (Nat.le_of_lt HNB.out))))
  have HN3 := Lib.hid (Ne.netBox_below HN2.out HD3.out HNB.out)
  obtain ⟨n0, n1, n2, n3⟩ := Ne.netBox_cells HN3.out
  go_wp2_with fail
  refine (dwrite_any n.s _ HNS.out.1 HNS.out.2 HV3.out).mono ?_
  rintro e y3 ⟨rfl, hb⟩
  have HVy := Lib.hid (HV3.out.below hb)
  have HTy := Lib.hid (bldAt_kept HT3.out hb)
  have HDy := Lib.hid (HD3.out.trans (hb.mono (Nat.le_trans HBB.out HD3.out.size)))
  have hbz : Below y3.heap.size y3 (y3.alloc (.cells #[.string ⟨#[110]⟩, .string ⟨(Lib.itoa n.s).toArray⟩, .string ⟨#[115]⟩] 9)) := (Below.refl _ _).alloc (Nat.le_refl _) _
  have HRz := Lib.hid (srow_at y3 (b := y3.heap.size) rfl [.string ⟨#[110]⟩, .string ⟨(Lib.itoa n.s).toArray⟩, .string ⟨#[115]⟩] (wS n) rfl)
  have HTz := Lib.hid (bldAt_kept HTy.out hbz)
  have HDz := Lib.hid (HDy.out.trans (hbz.mono (Nat.le_trans HBB.out HDy.out.size)))
  clear hb hbz
  go_wp2_with fail
  refine (put_any bb bb ([] ++ lineT (wP n)) (some ⟨y3.heap.size, 0, none⟩) 3 (wS n) (y3.alloc (.cells #[.string ⟨#[110]⟩, .string ⟨(Lib.itoa n.s).toArray⟩, .string ⟨#[115]⟩] 9)) (.inr HTz.out) (Nat.le_trans HBB.out HDz.out.size) HRz.out (Nat.le_refl _) (by show 3 ≤ 1000000; decide) HLS.out (by have h1 := HHL.out; unfold headT at h1; simp at h1 ⊢; omega)).mono ?_
  rintro e w5 ⟨rfl, hat, hb⟩
  have HT5 := Lib.hid hat
  have HD5 := Lib.hid (HDz.out.trans hb)
  have HV5 := Lib.hid (HV.out.below (HBW.out.trans (HD5.out.mono (Nat.le_of_lt HNB.out)) |>.mono (Nat.le_refl _)))
  have HN5 := Lib.hid (Ne.netBox_below HN2.out HD5.out HNB.out)
  obtain ⟨n0, n1, n2, n3⟩ := Ne.netBox_cells HN5.out
  clear hat hb HVy HTy HDy HTz HDz HRz
  clear HT3 HD3 HV3 HN3
  go_wp2_with fail
  refine (dwrite_any n.t _ HNT.out.1 HNT.out.2 HV5.out).mono ?_
  rintro e y5 ⟨rfl, hb⟩
  have HVy := Lib.hid (HV5.out.below hb)
  have HTy := Lib.hid (bldAt_kept HT5.out hb)
  have HDy := Lib.hid (HD5.out.trans (hb.mono (Nat.le_trans HBB.out HD5.out.size)))
  have hbz : Below y5.heap.size y5 (y5.alloc (.cells #[.string ⟨#[110]⟩, .string ⟨(Lib.itoa n.t).toArray⟩, .string ⟨#[116]⟩] 9)) := (Below.refl _ _).alloc (Nat.le_refl _) _
  have HRz := Lib.hid (srow_at y5 (b := y5.heap.size) rfl [.string ⟨#[110]⟩, .string ⟨(Lib.itoa n.t).toArray⟩, .string ⟨#[116]⟩] (wT n) rfl)
  have HTz := Lib.hid (bldAt_kept HTy.out hbz)
  have HDz := Lib.hid (HDy.out.trans (hbz.mono (Nat.le_trans HBB.out HDy.out.size)))
  clear hb hbz
  go_wp2_with fail
  refine (put_any bb bb ([] ++ lineT (wP n) ++ lineT (wS n)) (some ⟨y5.heap.size, 0, none⟩) 3 (wT n) (y5.alloc (.cells #[.string ⟨#[110]⟩, .string ⟨(Lib.itoa n.t).toArray⟩, .string ⟨#[116]⟩] 9)) (.inr HTz.out) (Nat.le_trans HBB.out HDz.out.size) HRz.out (Nat.le_refl _) (by show 3 ≤ 1000000; decide) HLT.out (by have h1 := HHL.out; unfold headT at h1; simp at h1 ⊢; omega)).mono ?_
  rintro e w6 ⟨rfl, hat, hb⟩
  have HT6 := Lib.hid hat
  have HD6 := Lib.hid (HDz.out.trans hb)
  have HV6 := Lib.hid (HV.out.below (HBW.out.trans (HD6.out.mono (Nat.le_of_lt HNB.out)) |>.mono (Nat.le_refl _)))
  have HN6 := Lib.hid (Ne.netBox_below HN2.out HD6.out HNB.out)
  obtain ⟨n0, n1, n2, n3⟩ := Ne.netBox_cells HN6.out
  clear hat hb HVy HTy HDy HTz HDz HRz
  clear HT5 HD5 HV5 HN5
  have HT6' := Lib.hid (show Lib.BuilderAt TB TU bb bb (.pointer (some ⟨bb, 0, none⟩)) (Lib.byteCells (headT n ++ arcsT (n.l.take 0))) w6 by have h := HT6.out; simpa [headT, arcsT] using h)
  go_wp2
  go_loopw [32] (fun i wr => ∃ k : Nat, k ≤ n.l.length ∧ i = .int .i64 k ∧ Lib.BuilderAt TB TU bb bb (.pointer (some ⟨bb, 0, none⟩)) (Lib.byteCells (headT n ++ arcsT (n.l.take k))) wr ∧ Below bb w2 wr) (fun i _ => n.l.length - (intOf i).toNat)
  case atStart => exact ⟨0, Nat.zero_le _, rfl, HT6'.out, HD6.out⟩
  case round =>
    obtain ⟨k, hk, rfl, hat, hbe⟩ := hrel
    have hLl := HLN.out
    have HTr := Lib.hid hat
    have HDr := Lib.hid hbe
    have HBr := Lib.hid (HBW.out.trans (HDr.out.mono (Nat.le_of_lt HNB.out)))
    have HVr := Lib.hid (HV.out.below HBr.out)
    have HRr := Lib.hid (HR.out.kept HBr.out)
    clear hat hbe
    by_cases hlt : k < n.l.length
    · obtain ⟨a, g1⟩ : ∃ a, n.l[k]? = some a := ⟨_, List.getElem?_eq_getElem hlt⟩
      have HAO := Lib.hid (HOK.out.2.2.2 a (List.mem_of_getElem? g1))
      have HSN := Lib.hid (arcsT_snoc g1)
      obtain ⟨fr, tw, ca⟩ := a
      have HA64 : Hid ((-9223372036854775808 ≤ fr ∧ fr ≤ 9223372036854775807) ∧ (-9223372036854775808 ≤ tw ∧ tw ≤ 9223372036854775807) ∧ (-9223372036854775808 ≤ ca ∧ ca ≤ 9223372036854775807)) := HAO.out
      have HLA := Lib.hid (show (Lib.join (wA ⟨fr, tw, ca⟩) [32]).length ≤ 1000000 from Nat.le_trans (wA_len HAO.out).1 (by decide))
      obtain ⟨bs, hbs⟩ : ∃ bs, bs = headT n ++ arcsT (n.l.take k) := ⟨_, rfl⟩
      have HBSL := Lib.hid (show bs.length ≤ 1000000000 by
        have h1 := HHL.out
        have h2 := arcsT_len (l := n.l.take k) (fun x hx => HOK.out.2.2.2 x (List.mem_of_mem_take hx))
        have h3 : (n.l.take k).length ≤ k := by rw [List.length_take]; exact Nat.min_le_left _ _
        rw [hbs, List.length_append]; omega)
      have HBSN := Lib.hid (show headT n ++ arcsT (n.l.take (k + 1)) = bs ++ lineT (wA ⟨fr, tw, ca⟩) by rw [HSN.out, hbs]; simp)
      rw [← hbs] at HTr
      rcases HRr.out with h | ⟨g, off, rfl, hg, hc⟩
      · rw [h] at hlt; simp at hlt
      obtain ⟨c0, c1, c2⟩ := Ne.arow_at hc g1
      have hki : (k : Int) < (n.l.length : Int) := by omega
      have HAL := Lib.hid (show Below wr.heap.size wr (wr.alloc (.cells #[.int .i64 fr, .int .i64 tw, .int .i64 ca] 49)) from (Below.refl _ _).alloc (Nat.le_refl _) _)
      obtain ⟨b0, b1, b2⟩ := box3 (w := wr) rfl (.int .i64 fr) (.int .i64 tw) (.int .i64 ca) 49
      have hSx := (show (fun w' => w'.cell? ⟨wr.heap.size, 0, none⟩ = some (.int .i64 fr) ∧ w'.cell? ⟨wr.heap.size, 1, none⟩ = some (.int .i64 tw) ∧ w'.cell? ⟨wr.heap.size, 2, none⟩ = some (.int .i64 ca)) (wr.alloc (.cells #[.int .i64 fr, .int .i64 tw, .int .i64 ca] 49)).drew from ⟨b0, b1, b2⟩)
      have HVx := Lib.hid (show Txt.Vars (wr.alloc (.cells #[.int .i64 fr, .int .i64 tw, .int .i64 ca] 49)).drew from HVr.out.below HAL.out.drew)
      have HBx := Lib.hid (show Lib.IsBuilder TB TU bb bb (Lib.byteCells bs) (wr.alloc (.cells #[.int .i64 fr, .int .i64 tw, .int .i64 ca] 49)).drew from .inr (bldAt_kept HTr.out HAL.out.drew))
      have HDx := Lib.hid (show Below bb w2 (wr.alloc (.cells #[.int .i64 fr, .int .i64 tw, .int .i64 ca] 49)).drew from HDr.out.trans (HAL.out.drew.mono (Nat.le_trans HBB.out HDr.out.size)))
      clear hc g1 b0 b1 b2 hbs
      go_wp2_with fail
      refine Rg.start (S := (fun w' => w'.cell? ⟨wr.heap.size, 0, none⟩ = some (.int .i64 fr) ∧ w'.cell? ⟨wr.heap.size, 1, none⟩ = some (.int .i64 tw) ∧ w'.cell? ⟨wr.heap.size, 2, none⟩ = some (.int .i64 ca))) (last := 10) (by kernel_rfl) ?_
      refine Rg.take (i := 0) (v := ?_) 30 rfl (by kernel_rfl) (by kernel_rfl) (by kernel_rfl) (by kernel_rfl) (fun _ _ _ h => h) (Or.inl ⟨by rfl, ?_⟩) hSx ?_
      rotate_left
      · intro w hSw
        go_simp
        try with_reducible rfl
      try simp only [Act.put, List.setIfInBounds_toArray, List.set_cons_zero, List.set_cons_succ]
      refine Rg.take (i := 1) (v := ?_) 30 rfl (by kernel_rfl) (by kernel_rfl) (by kernel_rfl) (by kernel_rfl) (fun _ _ _ h => h) (Or.inl ⟨by rfl, ?_⟩) hSx ?_
      rotate_left
      · intro w hSw
        go_simp
        try with_reducible rfl
      try simp only [Act.put, List.setIfInBounds_toArray, List.set_cons_zero, List.set_cons_succ]
      refine Rg.take (i := 3) (v := ?_) 30 rfl (by kernel_rfl) (by kernel_rfl) (by kernel_rfl) (by kernel_rfl) (fun _ _ _ h => h) (Or.inl ⟨by rfl, ?_⟩) hSx ?_
      rotate_left
      · intro w hSw
        go_simp
        try with_reducible rfl
      try simp only [Act.put, List.setIfInBounds_toArray, List.set_cons_zero, List.set_cons_succ]
      refine Rg.take (i := 4) (v := ?_) 30 rfl (by kernel_rfl) (by kernel_rfl) (by kernel_rfl) (by kernel_rfl) (fun _ _ _ h => h) (Or.inl ⟨by rfl, ?_⟩) hSx ?_
      rotate_left
      · intro w hSw
        go_simp
        try with_reducible rfl
      try simp only [Act.put, List.setIfInBounds_toArray, List.set_cons_zero, List.set_cons_succ]
      refine Rg.take (i := 6) (v := ?_) 30 rfl (by kernel_rfl) (by kernel_rfl) (by kernel_rfl) (by kernel_rfl) (fun _ _ _ h => h) (Or.inl ⟨by rfl, ?_⟩) hSx ?_
      rotate_left
      · intro w hSw
        go_simp
        try with_reducible rfl
      try simp only [Act.put, List.setIfInBounds_toArray, List.set_cons_zero, List.set_cons_succ]
      refine Rg.take (i := 7) (v := ?_) 30 rfl (by kernel_rfl) (by kernel_rfl) (by kernel_rfl) (by kernel_rfl) (fun _ _ _ h => h) (Or.inl ⟨by rfl, ?_⟩) hSx ?_
      rotate_left
      · intro w hSw
        go_simp
        try with_reducible rfl
      try simp only [Act.put, List.setIfInBounds_toArray, List.set_cons_zero, List.set_cons_succ]
      refine Rg.step (i := 2) (by kernel_rfl) rfl fun K' hK' => ?_
      have HK := Lib.hid hK'
      clear hK'
      go_simp
      refine (dwrite_any fr _ HA64.out.1.1 HA64.out.1.2 HVx.out).mono ?_
      rintro e y ⟨rfl, hb⟩
      replace HVx := Lib.hid (HVx.out.below hb)
      replace HBx := Lib.hid (bld_kept HBx.out hb)
      replace HDx := Lib.hid (HDx.out.trans (hb.mono (Nat.le_trans HBB.out HDx.out.size)))
      replace hSx := (show (fun w' => w'.cell? ⟨wr.heap.size, 0, none⟩ = some (.int .i64 fr) ∧ w'.cell? ⟨wr.heap.size, 1, none⟩ = some (.int .i64 tw) ∧ w'.cell? ⟨wr.heap.size, 2, none⟩ = some (.int .i64 ca)) y from ⟨(hb.cell (World.block_lt_of_cell? _ _ hSx.1)).trans hSx.1, (hb.cell (World.block_lt_of_cell? _ _ hSx.2.1)).trans hSx.2.1, (hb.cell (World.block_lt_of_cell? _ _ hSx.2.2)).trans hSx.2.2⟩)
      clear hb
      refine HK.out _ _ ⟨fun _ => hSx, ?_⟩
      clear HK K'
      try simp only [Act.put, List.setIfInBounds_toArray, List.set_cons_zero, List.set_cons_succ]
      refine Rg.step (i := 5) (by kernel_rfl) rfl fun K' hK' => ?_
      have HK := Lib.hid hK'
      clear hK'
      go_simp
      refine (dwrite_any tw _ HA64.out.2.1.1 HA64.out.2.1.2 HVx.out).mono ?_
      rintro e y ⟨rfl, hb⟩
      replace HVx := Lib.hid (HVx.out.below hb)
      replace HBx := Lib.hid (bld_kept HBx.out hb)
      replace HDx := Lib.hid (HDx.out.trans (hb.mono (Nat.le_trans HBB.out HDx.out.size)))
      replace hSx := (show (fun w' => w'.cell? ⟨wr.heap.size, 0, none⟩ = some (.int .i64 fr) ∧ w'.cell? ⟨wr.heap.size, 1, none⟩ = some (.int .i64 tw) ∧ w'.cell? ⟨wr.heap.size, 2, none⟩ = some (.int .i64 ca)) y from ⟨(hb.cell (World.block_lt_of_cell? _ _ hSx.1)).trans hSx.1, (hb.cell (World.block_lt_of_cell? _ _ hSx.2.1)).trans hSx.2.1, (hb.cell (World.block_lt_of_cell? _ _ hSx.2.2)).trans hSx.2.2⟩)
      clear hb
      refine HK.out _ _ ⟨fun _ => hSx, ?_⟩
      clear HK K'
      try simp only [Act.put, List.setIfInBounds_toArray, List.set_cons_zero, List.set_cons_succ]
      refine Rg.step (i := 8) (by kernel_rfl) rfl fun K' hK' => ?_
      have HK := Lib.hid hK'
      clear hK'
      go_simp
      refine (Txt.write_any ca _ HA64.out.2.2.1 HA64.out.2.2.2 HVx.out).mono ?_
      rintro e y ⟨rfl, hb⟩
      replace HVx := Lib.hid (HVx.out.below hb)
      replace HBx := Lib.hid (bld_kept HBx.out hb)
      replace HDx := Lib.hid (HDx.out.trans (hb.mono (Nat.le_trans HBB.out HDx.out.size)))
      replace hSx := (show (fun w' => w'.cell? ⟨wr.heap.size, 0, none⟩ = some (.int .i64 fr) ∧ w'.cell? ⟨wr.heap.size, 1, none⟩ = some (.int .i64 tw) ∧ w'.cell? ⟨wr.heap.size, 2, none⟩ = some (.int .i64 ca)) y from ⟨(hb.cell (World.block_lt_of_cell? _ _ hSx.1)).trans hSx.1, (hb.cell (World.block_lt_of_cell? _ _ hSx.2.1)).trans hSx.2.1, (hb.cell (World.block_lt_of_cell? _ _ hSx.2.2)).trans hSx.2.2⟩)
      clear hb
      refine HK.out _ _ ⟨fun _ => hSx, ?_⟩
      clear HK K'
      try simp only [Act.put, List.setIfInBounds_toArray, List.set_cons_zero, List.set_cons_succ]
      refine Rg.step (i := 9) (by kernel_rfl) rfl fun K' hK' => ?_
      have HK := Lib.hid hK'
      clear hK'
      go_simp
      have hb : Below y.heap.size y (y.alloc (.cells #[.string ⟨#[97]⟩, .string ⟨(Lib.itoa fr).toArray⟩, .string ⟨(Lib.itoa tw).toArray⟩, .string ⟨(Lib.itoa ca).toArray⟩] 9)) := (Below.refl _ _).alloc (Nat.le_refl _) _
      have HRx := Lib.hid (srow_at y (b := y.heap.size) rfl [.string ⟨#[97]⟩, .string ⟨(Lib.itoa fr).toArray⟩, .string ⟨(Lib.itoa tw).toArray⟩, .string ⟨(Lib.itoa ca).toArray⟩] (wA ⟨fr, tw, ca⟩) rfl)
      replace HBx := Lib.hid (bld_kept HBx.out hb)
      replace HDx := Lib.hid (HDx.out.trans (hb.mono (Nat.le_trans HBB.out HDx.out.size)))
      replace hSx := (show (fun w' => w'.cell? ⟨wr.heap.size, 0, none⟩ = some (.int .i64 fr) ∧ w'.cell? ⟨wr.heap.size, 1, none⟩ = some (.int .i64 tw) ∧ w'.cell? ⟨wr.heap.size, 2, none⟩ = some (.int .i64 ca)) (y.alloc (.cells #[.string ⟨#[97]⟩, .string ⟨(Lib.itoa fr).toArray⟩, .string ⟨(Lib.itoa tw).toArray⟩, .string ⟨(Lib.itoa ca).toArray⟩] 9)) from ⟨(hb.cell (World.block_lt_of_cell? _ _ hSx.1)).trans hSx.1, (hb.cell (World.block_lt_of_cell? _ _ hSx.2.1)).trans hSx.2.1, (hb.cell (World.block_lt_of_cell? _ _ hSx.2.2)).trans hSx.2.2⟩)
      clear hb
      refine HK.out _ _ ⟨fun _ => hSx, ?_⟩
      clear HK K'
      try simp only [Act.put, List.setIfInBounds_toArray, List.set_cons_zero, List.set_cons_succ]
      refine Rg.step (i := 10) (by kernel_rfl) rfl fun K' hK' => ?_
      have HK := Lib.hid hK'
      clear hK'
      go_simp
      refine (put_any bb bb (bs) (some ⟨y.heap.size, 0, none⟩) 4 (wA ⟨fr, tw, ca⟩) (y.alloc (.cells #[.string ⟨#[97]⟩, .string ⟨(Lib.itoa fr).toArray⟩, .string ⟨(Lib.itoa tw).toArray⟩, .string ⟨(Lib.itoa ca).toArray⟩] 9)) HBx.out (Nat.le_trans HBB.out HDx.out.size) HRx.out (Nat.le_refl _) (by show 4 ≤ 1000000; decide) HLA.out HBSL.out).mono ?_
      rintro e z ⟨rfl, hat, hb⟩
      have HIz := Lib.hid (And.intro hat (HDx.out.trans hb))
      clear hb hat
      refine HK.out _ _ ⟨fun h => absurd rfl h, ?_⟩
      clear HK K'
      try simp only [Act.put, List.setIfInBounds_toArray, List.set_cons_zero, List.set_cons_succ]
      refine Rg.finished (by kernel_rfl) ?_ _
      have hin := HIz.out
      have HT2 := Lib.hid (show Lib.BuilderAt TB TU bb bb (.pointer (some ⟨bb, 0, none⟩)) (Lib.byteCells (headT n ++ arcsT (n.l.take (k + 1)))) z by rw [HBSN.out]; exact hin.1)
      have HD2 := Lib.hid hin.2
      clear hin hSx
      go_wp2
      go_roundw
      case rel => exact ⟨k + 1, by omega, by go_num, HT2.out, HD2.out⟩
      case measure => simp [intOf]; omega
    · have ek : k = n.l.length := by omega
      subst ek
      rw [List.take_length] at HTr
      have HST := Lib.hid (Tryd.Builder_String bb bb (printT n) wr (.inr HTr.out) (by unfold printT headT lineT; simp))
      go_wp2_with fail
      refine HST.out.mono ?_
      rintro e w7 ⟨rfl, hb⟩
      have HB7 := Lib.hid (HBr.out.trans (hb.mono (Nat.le_of_lt HNB.out)))
      clear hb
      go_wp2
      go_ret2
      exact ⟨prt_yes HC.out rfl, HB7.out⟩
end Dm
end Go.Proofs.YtaepoddmonijkaaDoor
