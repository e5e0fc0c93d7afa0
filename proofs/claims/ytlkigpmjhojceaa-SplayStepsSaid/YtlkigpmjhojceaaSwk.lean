/-
  Stage 9: contract of the developers' forest: Row. No condition.
-/
import Derived.Test.YtlkigpmjhojceaaSwj
namespace Go.Proofs.Ytlkigpmjhojceaa
open Go.ChangeShapes Go.WideShapes Go.ChangeAt Go.RowKit Go.Shelf
set_option linter.unusedVariables false
set_option linter.unusedSimpArgs false
attribute [local go_sem] Oper.semAt_some
namespace Sp
open Sv
section
variable {w : World} {B p lo hi g c : Nat} {F : Nat → Prop} {s : St} {M : Nat → Nd} {I : Nat → List Nat} {P : Nat → Bool} {D : Nat → Int}
abbrev encX (x : Nat) : Value := .int .i64 (x : Int)
theorem own_of_row {w : World} {Bn : Nat} {v : Value} {l : List Nat} (h : w.ownsRow Bn 3 1 v l.length (l.map encX)) : Ne.OwnI w Bn v (Ne.encW l) := by
  have e : (Ne.encW l).flatMap Ne.encI = l.map encX := by
    unfold Ne.encW
    clear h
    induction l with
    | nil => rfl
    | cons a l ih =>
      rw [List.map_cons, List.flatMap_cons, ih]
      rfl
  show w.ownsRow Bn 3 1 v (Ne.encW l).length ((Ne.encW l).flatMap Ne.encI)
  rw [e, Ne.encW_len]
  exact h
/-- what Row leaves -/
def RowQ (w : World) (B : Nat) (F : Nat → Prop) (p : Nat) (s : St) (lo hi : Nat) (x : Int) (e : Ending) (w' : World) : Prop :=
  ∃ o c F', e = .returned (.slice o (rowZ s x).length c) ∧ Ne.OwnI w' w.heap.size (.slice o (rowZ s x).length c) (Ne.encW (rowZ s x)) ∧
      SpO w' B F' p s lo hi ∧ (∀ g, F' g → Ext F w w' g) ∧ (∀ g, (Value.slice o (rowZ s x).length c).ownBlock = some g → ¬ F' g) ∧ Off F w w'
theorem rowQ_of {w' : World} (h : SpO w B F p s lo hi) {x : Int} (hb : Below w.heap.size w w') {v : Value} (hr : w'.ownsRow w.heap.size 3 1 v (rowZ s x).length ((rowZ s x).map encX)) : RowQ w B F p s lo hi x (.returned v) w' := by
  have ho := own_of_row hr
  obtain ⟨o, c, hv, _⟩ := Rw.own_row Ne.encI_len ho
  rw [Ne.encW_len] at hv
  subst hv
  refine ⟨o, c, F, rfl, ho, h.off (G := fun _ => False) (Off.of_below hb) (fun _ _ => id), fun g hg => .inl hg, fun g hg c => ?_, Off.of_below hb⟩
  have h1 := Rw.own_lt ho g hg
  have h2 := h.fin g c
  omega
set_option maxRecDepth 100000 in
set_option maxHeartbeats 4000000 in
theorem drow_any (h : SpO w B F p s lo hi) (hBw : B ≤ w.heap.size) (x : Int) :
    Calls Try.prog 16 #[.pointer (some ⟨p, 0, none⟩), .int .i64 x] w fun e w' => ∃ o c F', e = .returned (.slice o (rowZ s x).length c) ∧ Ne.OwnI w' w.heap.size (.slice o (rowZ s x).length c) (Ne.encW (rowZ s x)) ∧
      SpO w' B F' p s lo hi ∧ (∀ g, F' g → Ext F w w' g) ∧ (∀ g, (Value.slice o (rowZ s x).length c).ownBlock = some g → ¬ F' g) ∧ Off F w w' := by
  show Calls Try.prog 16 #[.pointer (some ⟨p, 0, none⟩), .int .i64 x] w fun e w' => RowQ w B F p s lo hi x e w'
  have HQ := Lib.hid (fun (w' : World) (v : Value) hb hr => rowQ_of (w' := w') (v := v) h (x := x) hb hr)
  obtain ⟨g, c, M, I, P, D, h⟩ := h.hd
  have HH := Lib.hid (has_any h.mem x)
  by_cases hx : 0 ≤ x ∧ x < (s.v.length : Int)
  case neg =>
    rw [show decide (0 ≤ x ∧ x < (s.v.length : Int)) = false by simpa using hx] at HH
    have hr := h.row.2 hx
    have HE := Lib.hid (HQ.out w (.slice none 0 0) (Below.refl _ _) (by rw [hr]; exact World.ownsRow_nil _ _ _ _))
    clear h hx hr HQ
    go_enter Try.func16, Try.ntmps16
    go_wp2_with fail
    refine HH.out.mono ?_
    rintro e w1 ⟨rfl, rfl⟩
    go_wp2
    go_ret
    exact HE.out
  rw [show decide (0 ≤ x ∧ x < (s.v.length : Int)) = true by simpa using hx] at HH
  obtain ⟨y, rfl⟩ : ∃ y : Nat, x = (y : Int) := ⟨x.toNat, by omega⟩
  have hy : y < s.v.length := by omega
  rw [rowZ_nat] at HQ
  have hin := h.mem.in
  have hsm := h.mem.small
  have bO := Boxed.new w 38 (.slice none 0 0)
  have hs1 : (w.alloc (.cells #[.slice none 0 0] 38)).heap.size = w.heap.size + 1 := by show (w.heap.push _).size = _; simp
  have HRW := Lib.hid (row_any (h.mem.kept ((Below.refl _ w).alloc (Nat.le_refl _) (.cells #[.slice none 0 0] 38))) h.inv hy)
  rw [hs1] at HRW
  have hB1 : Below w.heap.size w (w.alloc (.cells #[.slice none 0 0] 38)) := (Below.refl _ w).alloc (Nat.le_refl _) _
  obtain ⟨i0, hi, hz0, hz1, hz2⟩ := info_parts Ne.infoI
  have hgood := h.good.len y
  refine (callsIn_wide (n := 3)).1 ?_
  refine callsIn_of_wp_marks Try.func16 rfl trivial ?_ rfl
  simp only [Try.ntmps16, List.size_toArray, List.length_cons, List.length_nil, Nat.reduceAdd, Nat.reduceSub, Array.replicate_succ, Array.replicate_zero, List.push_toArray, List.append_toArray, List.nil_append, List.cons_append]
  gi_wp2_with (first
    | ((try refine ⟨trivial, ?_⟩); gi_at_call 43; refine (callsIn_wide.2 HH.out).mono ?_; rintro e w1 ⟨rfl, rfl⟩)
    | ((try refine ⟨trivial, ?_⟩); gi_at_call 44; refine (callsIn_wide.2 HRW.out).mono ?_; rintro e w2 ⟨rfl, hB2, hs2, z, hz, hzu, hIz, hd0, hd1⟩))
  have hB : Below w.heap.size w w2 := hB1.trans (hB2.mono (by omega))
  have hM2 := h.mem.bel hB hin.1.2 hin.2.2
  have bO2 : Boxed w2 w.heap.size 38 (.slice none 0 0) := (hB2.block w.heap.size (by omega)).trans bO
  refine wpIn_rangeFunc_ownG rfl (by decide) (gf := 60) (lb := #[.pointer (some ⟨w.heap.size + 1, 0, none⟩), .pointer (some ⟨w.heap.size + 1 + 1, 0, none⟩)]) rfl trivial (enters_of Try.func60 (by kernel_rfl) rfl)
    (row_stops h.inv hz hzu (3 - 1) w.heap.size (w.heap.size + 1) (w.heap.size + 1 + 1) hin.1.2 hin.2.2 w2 (by omega) (by omega) (by omega) hd0 hd1 hM2) belowK_t (belowK_b (by omega)) (Below.refl _ _) (fun _ => rfl)
    (fun pre W => (∃ v, Boxed W w.heap.size 38 v ∧ W.ownsRow w.heap.size 3 1 v pre.length (pre.map encX) ∧ True) ∧ Below w.heap.size w W)
    (fun _ _ _ => False)
    (OwnFrom.and (Own.from (holdsRow_own w.heap.size w.heap.size 38 3 1 (fun pre : List Nat => pre.length) (fun pre => pre.map encX) (fun _ _ => True)) _) (ownFrom_below (Nat.le_refl _) (by omega)))
    (fun _ _ _ _ _ hs _ _ => hs)
    ⟨⟨_, bO2, World.ownsRow_nil _ _ _ _, trivial⟩, hB⟩
    (fun x => { tmps := #[.pointer (some ⟨p, 0, none⟩), .int .i64 (y : Int), undef, undef, .slice none 0 0, .pointer (some ⟨w.heap.size, 0, none⟩), .int .i64 (x : Int), .pointer (some ⟨p, 0, none⟩), .int .i64 (y : Int), .bool true, .bool false, .pointer (some ⟨p, 0, none⟩), .int .i64 (y : Int), .func (.func 60) #[] #[.pointer (some ⟨w.heap.size + 1, 0, none⟩), .pointer (some ⟨w.heap.size + 1 + 1, 0, none⟩)], .int .i64 (x : Int), undef, undef, undef, undef, undef], defers := [] }) ?assign ?body ?done ?stop
  case assign =>
    intro l x W K hK
    gi_wp2
    exact hK
  case body =>
    rintro l pre x W ⟨⟨v, hv, hrow, _⟩, hBW⟩ hlt
    have hc := hv.cell
    have hpl : pre.length < 3000 := by rw [hIz] at hlt; omega
    gi_wp2_with (gi_at_builtin; refine wpListIn_append_own _ rfl _ _ 38 rfl w.heap.size 3 i0 (.int .i64 0) 1 8 Try.underlying38 hi hz0 hz1 hz2 rfl (by decide) _ _ _ rfl (hrow.alloc _) ⟨W.heap.size, 0, none⟩ 1 1 [.int .i64 (x : Int)] rfl rfl (cell_one_new _ _ _) (by simp [Value.oneCell']) (by unfold maxLen; omega) (by omega) (by have := hBW.size; simp; omega) ?_; intro v' w1 hown' hgrow _; obtain ⟨g', cap', rfl⟩ := ownsRow_succ hown'; obtain ⟨hv1, hv2, hr2, hk2, hb2⟩ := hv.appended (by decide) hrow hBW.size (Nat.le_refl _) hown' hgrow; have hc1 := hv1.cell; have hf1 := hv1.frozen)
    exact ⟨hk2.from _, hb2, ⟨_, hv2, by simpa using hr2, trivial⟩, hBW.trans hb2⟩
  case done =>
    rintro D ys W hD rfl ⟨⟨v, hv, hrow, _⟩, hBW⟩ hK
    have hc := hv.cell
    rw [hIz] at hrow
    gi_wp2
    refine ⟨by simp, .inl ⟨_, _, rfl, run_takeDeferred hK, ?_⟩⟩
    refine ⟨_, results_tmp rfl _ _ _, ?_⟩
    exact HQ.out _ v (hBW.trans (belowK_b (w := w2) (by omega) W D _ _ (by omega) hK rfl rfl)) (ownsRow_putObj hrow _ hK rfl)
  case stop =>
    rintro D c' pre W _ _ h' _
    exact h'.elim
end
end Sp
end Go.Proofs.Ytlkigpmjhojceaa
