/-
  Stage 10: contract of the developers' show: a node's path laid into one row, and what that costs. No condition.
-/
import Derived.Test.YtjhodnpmogkmmaaFpd
import Derived.Deep.LoopGhost
namespace Go.Proofs.Ytjhodnpmogkmmaa
open Go.ChangeShapes Go.WideShapes Go.ChangeAt Go.RowKit
set_option linter.unusedVariables false
set_option linter.unusedSimpArgs false
namespace Fo
open Sp (Off Ext SpO ac jc it)
/-- what one turn of a way costs -/
def tc (n : Nat) : Nat := 6 * ac n + jc n
/-- behind show -/
def Shn (F : Nat → Prop) (w0 w' : World) (B p q go : Nat) (f : Ft) (s : Sp.St) (lo hi v r : Nat) : Prop :=
  ∃ s' ov' h', FoA F w0 w' B p q go s' ov' (lo + 1) h' ∧ Rp f s' ov' ∧ s'.r v = path f v ∧ root f v = some r ∧ f.up r = none ∧
    h' + tc f.v.length * idle f (pf s') ≤ hi + tc f.v.length * (idle f (pf s) + 2 * lights f (path f v) + 1) + 6 * ac f.v.length
/-- on the way there -/
def Md (F : Nat → Prop) (w0 wr : World) (B p q go : Nat) (f : Ft) (s0 : Sp.St) (lo H v a gg : Nat) : Prop :=
  ∃ s ov X h, FoA F w0 wr B p q go s ov (lo + 1) h ∧ Lp f s0 s ov v X a ∧ X.length = gg ∧ h + tc f.v.length * cnt f s0 (X ++ [a]) ≤ H
section
variable {F F1 G : Nat → Prop} {w w0 w2 : World} {B p q go lo hi : Nat} {s : Sp.St} {ov : Nat → Option Nat} {f : Ft}
theorem first_hd {s : Sp.St} {v a : Nat} (h : (s.r v).head? = some a) : Sp.firstZ s (v : Int) = (a : Int) := by
  unfold Sp.firstZ
  rw [Sp.rowZ_nat]
  cases e : s.r v with
  | nil => rw [e] at h; cases h
  | cons b l => rw [e] at h; cases h; rfl
theorem it_one {s : Sp.St} (h : Sp.Good s) {x : Nat} (hx : x < s.v.length) : it s (x : Int) = 1 := by
  unfold it
  rw [Sp.rowZ_nat, if_neg (h.ne_nil hx)]
theorem mul_grow (t a b c d : Nat) (h1 : a + b + 1 ≤ c) : t * b + t + t * a ≤ t * c := by
  have := Nat.mul_le_mul_left t h1
  rw [Nat.mul_add, Nat.mul_add, Nat.mul_one] at this
  omega
/-- one round: what is written, parted, joined -/
theorem md_step (hB : B ≤ w0.heap.size) {v a gg H : Nat} {wr : World} {X : List Nat} {s0 : Sp.St} {h u : Nat} (hv : v < f.v.length) (hA : FoA F w0 wr B p q go s ov (lo + 1) h) (hL : Lp f s0 s ov v X a) (hu : ov a = some u) (hg : X.length = gg) (hH : h + tc f.v.length * cnt f s0 (X ++ [a]) ≤ H) :
    FoA F w0 (wr.setCell ⟨go, a, none⟩ (.int .i64 (-1))) B p q go s (fun z => if z = a then none else ov z) (lo + 1) h ∧
    (∀ w2 : World, ∀ lo2 hi2, FoA F w0 w2 B p q go s (fun z => if z = a then none else ov z) lo2 hi2 → Calls Try.prog 53 #[.pointer (some ⟨p, 0, none⟩), .int .i64 (u : Int)] w2 fun e w' => e = .returned (.tuple #[]) ∧ FoA F w0 w' B p q go (partS s u) (partO s (fun z => if z = a then none else ov z) u) lo2 (hi2 + 4 * ac s.v.length)) ∧
    (∀ w2 : World, ∀ lo2 hi2, FoA F w0 w2 B p q go (partS s u) (partO s (fun z => if z = a then none else ov z) u) lo2 hi2 → w2.cell? ⟨p, 0, none⟩ = some (.pointer (some ⟨q, 0, none⟩)) ∧ Calls Try.prog 55 #[.pointer (some ⟨q, 0, none⟩), .int .i64 (u : Int), .int .i64 (v : Int)] w2 fun e w' => e = .returned (.int .i64 0) ∧ ∃ lo3, lo2 ≤ lo3 ∧ FoA F w0 w' B p q go (Sp.joinS (partS s u) (u : Int) (v : Int)) (partO s (fun z => if z = a then none else ov z) u) lo3 (hi2 + jc s.v.length)) ∧
    (∃ a' gg', gg' + 1 ≤ gg ∧ a' < f.v.length ∧ ∀ w2 : World, ∀ lo2 hi2, lo + 1 ≤ lo2 → hi2 ≤ h + 4 * ac s.v.length + jc s.v.length → FoA F w0 w2 B p q go (Sp.joinS (partS s u) (u : Int) (v : Int)) (partO s (fun z => if z = a then none else ov z) u) lo2 hi2 → w2.cell? ⟨p, 0, none⟩ = some (.pointer (some ⟨q, 0, none⟩)) ∧ Calls Try.prog 54 #[.pointer (some ⟨q, 0, none⟩), .int .i64 (v : Int)] w2 fun e w' => e = .returned (.int .i64 (a' : Int)) ∧ Md F w0 w' B p q go f s0 lo H v a' gg') := by
  obtain ⟨hun, han, X', a', hL', hc, hx⟩ := lp_step hL hu
  have hr := hL.rp
  have hsl := hr.len
  have hgd := hr.sg
  have hj : Sp.joinE (partS s u) (u : Int) (v : Int) = 0 ∧ (Sp.joinS (partS s u) (u : Int) (v : Int)).v = s.v := by
    have h1 := hL'.rp.val
    refine ⟨?_, by rw [h1]; exact hr.val.symm⟩
    apply Classical.byContradiction
    intro c
    have h2 : (Sp.joinS (partS s u) (u : Int) (v : Int)) = partS s u := by unfold Sp.joinS; rw [if_neg c]
    have h3 := hL'.rp.fst v
    -- the row of v would begin as it was
    have h4 := hL'.row
    have h5 := hL.row
    obtain ⟨A, D, e⟩ := hr.split hun
    have hav : a ∈ s.r v := List.mem_of_head? hL.hd
    rw [h2] at h4
    have hvs : v ∈ s.r v := hr.mem hv
    have hlen := congrArg List.length h4
    have hlen2 := congrArg List.length h5
    simp only [List.length_append] at hlen hlen2
    have hle : ((partS s u).r v).length ≤ (s.r v).length := by
      rw [part_r hgd e]
      split
      · rename_i g
        have : s.r v = s.r u := hgd.same u v (by rw [e, show A ++ u :: D = (A ++ [u]) ++ D by simp]; exact List.mem_append_left _ g)
        rw [this, e]; simp
      · split
        · rename_i g
          have : s.r v = s.r u := hgd.same u v (by rw [e, show A ++ u :: D = (A ++ [u]) ++ D by simp]; exact List.mem_append_right _ g)
          rw [this, e]; simp; omega
        · exact Nat.le_refl _
    omega
  refine ⟨hA.put hB (i := a) (by rw [hsl]; exact han) none, fun w2 lo2 hi2 h2 => part_any h2 hB (by rw [hsl]; exact hun), fun w2 lo2 hi2 h2 => ⟨h2.1.cells.1, ?_⟩, a', X'.length, by omega, ?_, fun w2 lo2 hi2 g1 g2 h2 => ⟨h2.1.cells.1, ?_⟩⟩
  · have hcl := h2.call hB (fn := 55) (args := #[.pointer (some ⟨q, 0, none⟩), .int .i64 (u : Int), .int .i64 (v : Int)]) (fun F1 h1 hb1 => Sp.djoin_c h1 hb1 (u : Int) (v : Int)) (by rw [hj.2, partS_v])
    rw [hj.1] at hcl
    refine hcl.mono ?_
    rintro e w' ⟨h3, h4⟩
    refine ⟨h3, _, ?_, by rw [partS_v] at h4; exact h4⟩
    omega
  · exact hL'.rp.lt (List.mem_of_head? hL'.hd)
  · have hcl := h2.call hB (fn := 54) (args := #[.pointer (some ⟨q, 0, none⟩), .int .i64 (v : Int)]) (fun F1 h1 hb1 => Sp.dfirst_c h1 hb1 (v : Int)) rfl
    rw [first_hd hL'.hd] at hcl
    refine hcl.mono ?_
    rintro e w' ⟨h3, h4⟩
    refine ⟨h3, _, _, X', _, h4.low (by omega), hL', rfl, ?_⟩
    rw [hj.2]
    have h5 := Nat.mul_le_mul_left (tc f.v.length) hc
    rw [Nat.mul_add, Nat.mul_one] at h5
    have h6 : tc f.v.length = 6 * ac s.v.length + jc s.v.length := by unfold tc; rw [hsl]
    omega
theorem md_end {v a H : Nat} {wr : World} {X : List Nat} {s0 : Sp.St} {h : Nat} (hv : v < f.v.length) (hA : FoA F w0 wr B p q go s ov (lo + 1) h) (hL : Lp f s0 s ov v X a) (hu : ov a = none) (hH : h + tc f.v.length * cnt f s0 (X ++ [a]) ≤ H)
    (hHH : H ≤ hi + tc f.v.length * turns f (pf s0) v + 6 * ac f.v.length) : Shn F w0 wr B p q go f s0 lo hi v a := by
  obtain ⟨rfl, h1, h2, h3⟩ := lp_end hL hu
  have hc := lp_cost hL hv h1
  refine ⟨s, ov, h, hA, hL.rp, h1, h2, h3, ?_⟩
  have h5 := Nat.mul_le_mul_left (tc f.v.length) hc
  rw [Nat.mul_add, ] at h5
  omega
set_option maxRecDepth 100000 in
set_option maxHeartbeats 4000000 in
theorem show_any (h : FoA F w0 w B p q go s ov lo hi) (hB : B ≤ w0.heap.size) (hr : Rp f s ov) {v : Nat} (hv : v < f.v.length) :
    Calls Try.prog 38 #[.pointer (some ⟨p, 0, none⟩), .int .i64 (v : Int)] w fun e w' => ∃ r : Nat, e = .returned (.int .i64 (r : Int)) ∧ Shn F w0 w' B p q go f s lo hi v r := by
  obtain ⟨n0, n1⟩ := h.1.cells
  have hsl := hr.len
  have HHS := Lib.hid (fhas_any h.1 (v : Int))
  rw [show decide (0 ≤ (v : Int) ∧ (v : Int) < (s.v.length : Int)) = true by simp; omega] at HHS
  have HPT := Lib.hid (part_any h hB (v := v) (by rw [hsl]; exact hv))
  obtain ⟨X, a, hL, hc, hX⟩ := lp_start hr hv
  have HFS := Lib.hid (show ∀ (w2 : World), FoA F w0 w2 B p q go (partS s v) (partO s ov v) lo (hi + 4 * ac s.v.length) → w2.cell? ⟨p, 0, none⟩ = some (.pointer (some ⟨q, 0, none⟩)) ∧ Calls Try.prog 54 #[.pointer (some ⟨q, 0, none⟩), .int .i64 (v : Int)] w2 fun e w' => e = .returned (.int .i64 (a : Int)) ∧ Md F w0 w' B p q go f s lo (hi + tc f.v.length * turns f (pf s) v + 6 * ac f.v.length) v a X.length from fun w2 h2 => by
    refine ⟨h2.1.cells.1, ?_⟩
    have hcl := h2.call hB (fn := 54) (args := #[.pointer (some ⟨q, 0, none⟩), .int .i64 (v : Int)]) (fun F1 h1 hb1 => Sp.dfirst_c h1 hb1 (v : Int)) rfl
    rw [first_hd hL.hd, it_one (good_part s hr.sg v) (by rw [partS_v, hsl]; exact hv), partS_v] at hcl
    refine hcl.mono ?_
    rintro e w' ⟨h3, h4⟩
    refine ⟨h3, _, _, X, _, h4, hL, rfl, ?_⟩
    have h5 := Nat.mul_le_mul_left (tc f.v.length) hc
    rw [hsl]
    omega)
  have ha : a < f.v.length := hL.rp.lt (List.mem_of_head? hL.hd)
  have HAL := Lib.hid ha
  have HVL := Lib.hid hv
  generalize hmm : X.length = m at *
  have HM := Lib.hid hmm
  clear hmm
  have HMD := Lib.hid (show ∀ (wr : World) (a gg : Nat), Md F w0 wr B p q go f s lo (hi + tc f.v.length * turns f (pf s) v + 6 * ac f.v.length) v a gg → a < f.v.length ∧ wr.cell? ⟨p, 1, none⟩ = some (.slice (some ⟨go, 0, none⟩) f.v.length f.v.length) ∧ ((wr.cell? ⟨go, a, none⟩ = some (.int .i64 (-1)) ∧ Shn F w0 wr B p q go f s lo hi v a) ∨
      (∃ u : Nat, wr.frozen? ⟨go, a, none⟩ = false ∧ wr.cell? ⟨go, a, none⟩ = some (.int .i64 (u : Int)) ∧ ∃ s1 ov1 X1 h1, FoA F w0 wr B p q go s1 ov1 (lo + 1) h1 ∧ Lp f s s1 ov1 v X1 a ∧ ov1 a = some u ∧ X1.length = gg ∧ h1 + tc f.v.length * cnt f s (X1 ++ [a]) ≤ hi + tc f.v.length * turns f (pf s) v + 6 * ac f.v.length)) from fun wr a gg hm => by
    obtain ⟨s1, ov1, X1, h1, g1, g2, g3, g4⟩ := hm
    have hl := g2.rp.len
    have han : a < f.v.length := g2.rp.lt (List.mem_of_head? g2.hd)
    obtain ⟨o1, o2⟩ := g1.1.over (i := a) (by rw [hl]; exact han)
    refine ⟨han, by rw [← hl]; exact g1.1.cells.2, ?_⟩
    cases e : ov1 a with
    | none =>
      rw [e] at o1
      exact .inl ⟨o1, md_end HVL.out g1 g2 e g4 (Nat.le_refl _)⟩
    | some u =>
      rw [e] at o1
      exact .inr ⟨u, o2, o1, s1, ov1, X1, h1, g1, g2, e, g3, g4⟩)
  have HST := Lib.hid (fun (s1 : Sp.St) (ov1 : Nat → Option Nat) (wr : World) (a gg : Nat) (X1 : List Nat) (h1 u : Nat) (g1 : FoA F w0 wr B p q go s1 ov1 (lo + 1) h1) (g2 : Lp f s s1 ov1 v X1 a) (g3 : ov1 a = some u) (g4 : X1.length = gg) g5 => md_step (lo := lo) (H := hi + tc f.v.length * turns f (pf s) v + 6 * ac f.v.length) hB HVL.out g1 g2 g3 g4 g5)
  have HCP := Lib.hid (show ∀ (w' : World) s ov lo hi, FoA F w0 w' B p q go s ov lo hi → w'.cell? ⟨p, 0, none⟩ = some (.pointer (some ⟨q, 0, none⟩)) from fun w' s ov lo hi hh => hh.1.cells.1)
  clear h hr hL hc hX ha hsl n0 n1
  generalize hi + tc f.v.length * turns f (pf s) v + 6 * ac f.v.length = HH at *
  go_enter Try.func38, Try.ntmps38
  go_wp2_with fail
  refine HHS.out.mono ?_
  rintro e w1 ⟨rfl, rfl⟩
  go_wp2_with fail
  refine HPT.out.mono ?_
  rintro e w1 ⟨rfl, h1⟩
  obtain ⟨m0, HFC⟩ := HFS.out _ h1
  have HFC := Lib.hid HFC
  clear h1
  go_wp2_with fail
  refine HFC.out.mono ?_
  rintro e w2 ⟨rfl, hmd⟩
  have HMD0 := Lib.hid hmd
  clear hmd m0 HFC
  go_wp2
  go_loopg [5, 6] m (fun gg s5 s6 wr => (∃ z, s6 = z) ∧ ∃ aa : Nat, s5 = .int .i64 (aa : Int) ∧ Hid (Md F w0 wr B p q go f s lo HH v aa gg))
  case atStart => exact ⟨⟨_, rfl⟩, a, rfl, HMD0⟩
  case round =>
    obtain ⟨⟨z6, rfl⟩, aa, rfl, HMR⟩ := hrel
    obtain ⟨haa, c1, hcase⟩ := HMD.out _ _ _ HMR.out
    have hai : (aa : Int) < (f.v.length : Int) := by omega
    have ha0 : (0 : Int) ≤ (aa : Int) := by omega
    rcases hcase with ⟨ca, hsh⟩ | ⟨u, fr, ca, s1, ov1, X1, h1, g1, g2, g3, g4, g5⟩
    · have HSH := Lib.hid hsh
      clear hsh
      go_wp2
      go_ret
      exact ⟨aa, rfl, HSH.out⟩
    · obtain ⟨t1, t2, t3, a', gg', t4, t5, t6⟩ := HST.out _ _ _ _ _ _ _ _ g1 g2 g3 g4 g5
      have T1 := Lib.hid t1
      have T2 := Lib.hid t2
      have T3 := Lib.hid t3
      have T6 := Lib.hid t6
      have T4 := Lib.hid t4
      have hne : (((u : Int) != -1) = true) := by simp <;> omega
      clear t1 t2 t3 t6 t4 g1 g2 g3 g4 g5 t5
      go_wp2_with fail
      refine (T2.out _ _ _ T1.out).mono ?_
      rintro e w3 ⟨rfl, h3⟩
      obtain ⟨m0, HJ⟩ := T3.out _ _ _ h3
      have HJ := Lib.hid HJ
      clear h3
      go_wp2_with fail
      refine HJ.out.mono ?_
      rintro e w4 ⟨rfl, lo3, hl3, h4⟩
      obtain ⟨m1, HF⟩ := T6.out _ _ _ hl3 (Nat.le_refl _) h4
      have HF := Lib.hid HF
      clear h4 m0 HJ hl3
      go_wp2_with fail
      refine HF.out.mono ?_
      rintro e w5 ⟨rfl, h5⟩
      have H5 := Lib.hid h5
      clear h5 m1 HF
      go_wp2
      go_roundg gg'
      case measure => have := T4.out; omega
      case rel => exact ⟨⟨_, rfl⟩, a', rfl, H5⟩
end
end Fo
end Go.Proofs.Ytjhodnpmogkmmaa
