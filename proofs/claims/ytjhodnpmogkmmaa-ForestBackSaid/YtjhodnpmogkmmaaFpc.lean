/-
  Stage 10: the developers' forest of trees in memory: two blocks beside the rows' own; what stays of it where the rows change; has, beside. No condition. (Written by wip/tools/gen-Fpc.py.)
-/
import Derived.Test.YtjhodnpmogkmmaaFpb
import Derived.Test.YtjhodnpmogkmmaaSwi
import Derived.Test.YtjhodnpmogkmmaaEnd
import Derived.Deep.DeepCutAuto
import Derived.WalkMore
namespace Go.Proofs.Ytjhodnpmogkmmaa
open Go.ChangeShapes Go.WideShapes Go.ChangeAt Go.RowKit
set_option linter.unusedVariables false
set_option linter.unusedSimpArgs false
namespace Sp
open Sv
section
variable {w w2 w3 : World} {B p lo hi : Nat} {F G : Nat → Prop} {s : St}
theorem SpO.mono (h : SpO w B F p s lo hi) (hG : ∀ g, F g → G g) (hf : ∀ g, G g → B ≤ g ∧ g < w.heap.size) : SpO w B G p s lo hi := by
  obtain ⟨g, c, M, I, P, D, h1, h2, h3, h4, h5, h6, h7⟩ := h
  exact ⟨g, c, M, I, P, D, h1, h2, h3, fun k hk => hG k (h4 k hk), hf, h6, h7⟩
theorem SpO.low {lo2 : Nat} (h : SpO w B F p s lo hi) (hl : lo2 ≤ lo) : SpO w B F p s lo2 hi := by
  obtain ⟨g, c, M, I, P, D, h1, h2, h3, h4, h5, h6, h7⟩ := h
  exact ⟨g, c, M, I, P, D, h1, h2, h3, h4, h5, Nat.le_trans hl h6, h7⟩
theorem SpO.kept (h : SpO w B F p s lo hi) (hb : Below w.heap.size w w2) : SpO w2 B F p s lo hi := h.off (G := fun _ => False) (.of_below hb) fun _ _ c => c
theorem placeZ_le {s : St} (h : Good s) (x : Int) : -1 ≤ placeZ s x ∧ placeZ s x ≤ 3000 := by
  unfold placeZ
  split
  · omega
  · have h1 := rowZ_len h x
    have h2 := h.small
    have h3 : (rowZ s x).idxOf x.toNat ≤ (rowZ s x).length := List.idxOf_le_length
    omega
/-- behind two calls of the rows' -/
theorem SpO.after (h : SpO w3 B (Ext (Ext F w w2) w2 w3) p s lo hi) (hf : ∀ g, F g → B ≤ g ∧ g < w.heap.size) (hB : B ≤ w.heap.size) (o1 : Off F w w2) (o2 : Off (Ext F w w2) w2 w3) : SpO w3 B (Ext F w w3) p s lo hi ∧ Off F w w3 :=
  ⟨h.mono (fun g hg => ext_two hg o1.size o2.size) (ext_in hf hB (off_two o1 o2).size), off_two o1 o2⟩
theorem ext_first {w1 : World} (hb : Below w.heap.size w w1) (h : SpO w2 B (Ext F w1 w2) p s lo hi) (hf : ∀ g, F g → B ≤ g ∧ g < w.heap.size) (hB : B ≤ w.heap.size) (o : Off F w1 w2) : SpO w2 B (Ext F w w2) p s lo hi ∧ Off F w w2 :=
  ⟨h.mono (fun g hg => by
    rcases hg with hg | hg
    · exact .inl hg
    · exact .inr ⟨by have := hb.size; omega, hg.2⟩) (ext_in hf hB (Off.first hb o).size), Off.first hb o⟩
set_option maxRecDepth 100000 in
set_option maxHeartbeats 4000000 in
theorem beside_any {q : Nat} (h : SpO w B F q s lo hi) (hBw : B ≤ w.heap.size) (x d : Int) (hd : -10 ≤ d ∧ d ≤ 10) :
    Calls Try.prog 42 #[.agg #[.pointer (some ⟨q, 0, none⟩)], .int .i64 x, .int .i64 d] w fun e w' => e = .returned (.int .i64 (atZ s x (placeZ s x + d))) ∧ SpO w' B (Ext F w w') q s lo (hi + 3 * ac s.v.length) ∧ Off F w w' := by
  have hfin := h.fin
  obtain ⟨w1, hw1⟩ : ∃ w1, w1 = w.alloc (.cells #[.pointer (some ⟨q, 0, none⟩)] 57) := ⟨_, rfl⟩
  have hb1 : Below w.heap.size w w1 := by rw [hw1]; exact (Below.refl _ w).alloc (Nat.le_refl _) _
  have hbc : w1.drew.cell? ⟨w.heap.size, 0, none⟩ = some (.pointer (some ⟨q, 0, none⟩)) := by rw [hw1]; exact World.cell?_alloc_new w _ _ 0
  have hb2 : Below w.heap.size w w1.drew := Ne.below_drew hb1
  have h1 := h.kept hb2
  have hB1 : B ≤ w1.drew.heap.size := Nat.le_trans hBw hb2.size
  have hbx : w.heap.size < w1.drew.heap.size := World.block_lt_of_cell? _ _ hbc
  have HPL := Lib.hid (dplace_c h1 hB1 x)
  have hpb := placeZ_le h.good x
  have hwr : IntKind.i64.wrap (placeZ s x + d) = placeZ s x + d := by rw [IntKind.wrap_i64]; omega
  have HAT := Lib.hid (show ∀ w2 : World, SpO w2 B (Ext F w1.drew w2) q s (lo + it s x) (hi + ac s.v.length) → Off F w1.drew w2 → Calls Try.prog 59 #[.pointer (some ⟨q, 0, none⟩), .int .i64 x, .int .i64 (placeZ s x + d)] w2 fun e w' => e = .returned (.int .i64 (atZ s x (placeZ s x + d))) ∧ SpO w' B (Ext (Ext F w1.drew w2) w2 w') q s (lo + it s x + it s x) (hi + ac s.v.length + 2 * ac s.v.length) ∧ Off (Ext F w1.drew w2) w2 w' from fun w2 h2 o2 => dat_c h2 (Nat.le_trans hB1 o2.size) x _)
  have HEND := Lib.hid (show ∀ w2 w3 : World, SpO w3 B (Ext (Ext F w1.drew w2) w2 w3) q s (lo + it s x + it s x) (hi + ac s.v.length + 2 * ac s.v.length) → Off F w1.drew w2 → Off (Ext F w1.drew w2) w2 w3 → SpO w3 B (Ext F w w3) q s lo (hi + 3 * ac s.v.length) ∧ Off F w w3 from fun w2 w3 h3 o2 o3 => by
    obtain ⟨g1, g2⟩ := h3.after (fun g hg => ⟨(hfin g hg).1, Nat.lt_of_lt_of_le (hfin g hg).2 hb2.size⟩) hB1 o2 o3
    obtain ⟨g3, g4⟩ := ext_first hb2 g1 hfin hBw g2
    exact ⟨(g3.low (by omega)).grow (by omega), g4⟩)
  have hnF : ¬ F w.heap.size := fun c => by have := hfin _ c; omega
  generalize hbq : w.heap.size = bq at hbc hbx hnF
  have HBQ := Lib.hid hbq
  have HKC := Lib.hid (show ∀ (wa wb : World), wa.cell? ⟨bq, 0, none⟩ = some (.pointer (some ⟨q, 0, none⟩)) → Off F wa wb → wb.cell? ⟨bq, 0, none⟩ = some (.pointer (some ⟨q, 0, none⟩)) from fun wa wb hc ho => (World.cell?_of_block (w := wa) (ho.block bq (World.block_lt_of_cell? _ _ hc) hnF)).trans hc)
  have HKC2 := Lib.hid (show ∀ (wa wb : World), wa.cell? ⟨bq, 0, none⟩ = some (.pointer (some ⟨q, 0, none⟩)) → Off (Ext F w1.drew wa) wa wb → wb.cell? ⟨bq, 0, none⟩ = some (.pointer (some ⟨q, 0, none⟩)) from fun wa wb hc ho => (World.cell?_of_block (w := wa) (ho.block bq (World.block_lt_of_cell? _ _ hc) (fun c => by
    rcases c with c | c
    · exact hnF c
    · omega))).trans hc)
  have HW1 := Lib.hid hw1
  generalize placeZ s x = PL at *
  generalize atZ s x (PL + d) = AT at *
  clear h h1 hb1 hb2 hB1 hfin hnF hbx hpb hBw hd hw1
  go_enter Try.func42, Try.ntmps42
  go_upto_region 1 with fail
  rw [← HW1.out]

  clear hbq
  have hS0 := (show (fun w' : World => w'.cell? ⟨bq, 0, none⟩ = some (.pointer (some ⟨q, 0, none⟩))) w1.drew from hbc)
  refine Rh.start (S := (fun w' : World => w'.cell? ⟨bq, 0, none⟩ = some (.pointer (some ⟨q, 0, none⟩)))) (by kernel_rfl) ?_
  refine Rh.take (some 7) (i := 0) (v := ?_) rfl (by kernel_rfl) (by kernel_rfl) (by kernel_rfl) (by kernel_rfl) (fun _ _ _ h => h) (Or.inl ⟨by rfl, ?_⟩) hS0 ?_
  rotate_left
  · intro w hSw
    go_simp
    try with_reducible rfl
  try simp only [Act.put, List.setIfInBounds_toArray, List.set_cons_zero, List.set_cons_succ]
  refine Rh.take (some 8) (i := 1) (v := ?_) rfl (by kernel_rfl) (by kernel_rfl) (by kernel_rfl) (by kernel_rfl) (fun _ _ _ h => h) (Or.inl ⟨by rfl, ?_⟩) hS0 ?_
  rotate_left
  · intro w hSw
    go_simp
    try with_reducible rfl
  try simp only [Act.put, List.setIfInBounds_toArray, List.set_cons_zero, List.set_cons_succ]
  refine Rh.take (some 9) (i := 2) (v := ?_) rfl (by kernel_rfl) (by kernel_rfl) (by kernel_rfl) (by kernel_rfl) (fun _ _ _ h => h) (Or.inl ⟨by rfl, ?_⟩) hS0 ?_
  rotate_left
  · intro w hSw
    go_simp
    try with_reducible rfl
  try simp only [Act.put, List.setIfInBounds_toArray, List.set_cons_zero, List.set_cons_succ]
  refine Rh.take (some 10) (i := 3) (v := ?_) rfl (by kernel_rfl) (by kernel_rfl) (by kernel_rfl) (by kernel_rfl) (fun _ _ _ h => h) (Or.inl ⟨by rfl, ?_⟩) hS0 ?_
  rotate_left
  · intro w hSw
    go_simp
    try with_reducible rfl
  try simp only [Act.put, List.setIfInBounds_toArray, List.set_cons_zero, List.set_cons_succ]
  refine Rh.take (some 11) (i := 4) (v := ?_) rfl (by kernel_rfl) (by kernel_rfl) (by kernel_rfl) (by kernel_rfl) (fun _ _ _ h => h) (Or.inl ⟨by rfl, ?_⟩) hS0 ?_
  rotate_left
  · intro w hSw
    go_simp
    try with_reducible rfl
  try simp only [Act.put, List.setIfInBounds_toArray, List.set_cons_zero, List.set_cons_succ]
  refine Rh.take (some 12) (i := 5) (v := ?_) rfl (by kernel_rfl) (by kernel_rfl) (by kernel_rfl) (by kernel_rfl) (fun _ _ _ h => h) (Or.inl ⟨by rfl, ?_⟩) hS0 ?_
  rotate_left
  · intro w hSw
    go_simp
    try with_reducible rfl
  try simp only [Act.put, List.setIfInBounds_toArray, List.set_cons_zero, List.set_cons_succ]
  refine Rh.take (some 14) (i := 7) (v := ?_) rfl (by kernel_rfl) (by kernel_rfl) (by kernel_rfl) (by kernel_rfl) (fun _ _ _ h => h) (Or.inl ⟨by rfl, ?_⟩) hS0 ?_
  rotate_left
  · intro w hSw
    go_simp
    try with_reducible rfl
  try simp only [Act.put, List.setIfInBounds_toArray, List.set_cons_zero, List.set_cons_succ]
  refine Rh.step (i := 6) (by kernel_rfl) rfl fun K' hK' => ?_
  have HK := Lib.hid hK'
  clear hK'
  go_simp
  refine HPL.out.mono ?_
  rintro e w2 ⟨rfl, h2, o2⟩
  have H2 := Lib.hid h2
  have O2 := Lib.hid o2
  have hS1 := (show (fun w' : World => w'.cell? ⟨bq, 0, none⟩ = some (.pointer (some ⟨q, 0, none⟩))) w2 from HKC.out _ _ hS0 o2)
  clear h2 o2
  refine HK.out _ _ ⟨hS1, ?_⟩
  clear HK K'
  try simp only [Act.put, List.setIfInBounds_toArray, List.set_cons_zero, List.set_cons_succ]
  refine Rh.take (some 15) (i := 8) (v := ?_) rfl (by kernel_rfl) (by kernel_rfl) (by kernel_rfl) (by kernel_rfl) (fun _ _ _ h => h) (Or.inl ⟨by rfl, ?_⟩) hS1 ?_
  rotate_left
  · intro w hSw
    go_simp
    try with_reducible rfl
  try simp only [Act.put, List.setIfInBounds_toArray, List.set_cons_zero, List.set_cons_succ]
  refine Rh.step (i := 9) (by kernel_rfl) rfl fun K' hK' => ?_
  have HK := Lib.hid hK'
  clear hK'
  go_simp
  refine (HAT.out _ H2.out O2.out).mono ?_
  rintro e w3 ⟨rfl, h3, o3⟩
  have H3 := Lib.hid h3
  have O3 := Lib.hid o3
  have hS2 := (show (fun w' : World => w'.cell? ⟨bq, 0, none⟩ = some (.pointer (some ⟨q, 0, none⟩))) w3 from HKC2.out _ _ hS1 o3)
  clear h3 o3
  refine HK.out _ _ ⟨hS2, ?_⟩
  clear HK K'
  try simp only [Act.put, List.setIfInBounds_toArray, List.set_cons_zero, List.set_cons_succ]
  refine Rh.take (some 6) (i := 10) (v := ?_) rfl (by kernel_rfl) (by kernel_rfl) (by kernel_rfl) (by kernel_rfl) (fun _ _ _ h => h) (Or.inl ⟨by rfl, ?_⟩) hS2 ?_
  rotate_left
  · intro w hSw
    go_simp
    try with_reducible rfl
  try simp only [Act.put, List.setIfInBounds_toArray, List.set_cons_zero, List.set_cons_succ]
  refine Rh.done (by kernel_rfl) ?_ _
  go_wp2
  go_ret
  exact ⟨rfl, HEND.out _ _ H3.out O2.out O3.out⟩
end
end Sp
end Go.Proofs.Ytjhodnpmogkmmaa
