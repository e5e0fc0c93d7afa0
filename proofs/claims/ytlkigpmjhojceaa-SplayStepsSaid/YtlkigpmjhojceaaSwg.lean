/-
  Stage 9: contract of the developers' forest: New. No condition.
-/
import Derived.Test.YtlkigpmjhojceaaSwf
namespace Go.Proofs.Ytlkigpmjhojceaa
open Go.ChangeShapes Go.WideShapes Go.ChangeAt Go.RowKit
set_option linter.unusedVariables false
set_option linter.unusedSimpArgs false
namespace Sv
abbrev zV : Array Value := #[.int .i64 0, .int .i64 0, .int .i64 0, .int .i64 0, .int .i64 0, .int .i64 0, .int .i64 0, .bool false, .int .i64 0]
theorem infoN : (Try.prog.info? 60).map (fun i => (i.zero.map Value.cells, i.size, i.bytes)) = some (some zV, 9, 72) := by kernel_rfl
theorem make_n (n : Nat) (h : n ≤ 1000000) (w : World) : (Instr.makeSlice 56 (.int .i64 (n : Int)) (.int .i64 (n : Int))).run Try.prog w = .ok (.slice (some ⟨w.heap.size, 0, none⟩) n n) (w.alloc (.cells (madeCells zV (n * 9)) 60)) := by
  obtain ⟨i, hi, hzz⟩ := Option.map_eq_some_iff.1 infoN
  simp only [Prod.mk.injEq] at hzz
  obtain ⟨hz, hs, hb⟩ := hzz
  obtain ⟨z, hz1, hz2⟩ := Option.map_eq_some_iff.1 hz
  have := run_make (P := Try.prog) w 56 60 i z Try.underlying56 hi hz1 .i64 .i64 n n (by omega) (Int.le_refl _) (by rw [hb]; omega) (by omega)
  rw [hz2, hs, Int.toNat_natCast] at this
  exact this
def zN : Nd := ⟨0, 0, 0, 0, some 0, fun _ => some 0, false, 0⟩
def iN (v : Int) : Nd := ⟨v, v, v, 1, none, fun _ => none, false, 0⟩
theorem encZ : encN zN = zV.toList := by simp [encN, zN, oi]
theorem made_flat (n : Nat) : (lst n (fun _ => zN)).flatMap encN = (madeCells zV (n * 9)).toList := by
  have hl : ((lst n (fun _ => zN)).flatMap encN).length = n * 9 := by
    unfold lst
    induction n with
    | zero => rfl
    | succ n ih =>
      rw [List.range_succ, List.map_append, List.flatMap_append, List.length_append, ih]
      simp [encN]
      omega
  apply List.ext_getElem?
  intro q
  by_cases hq : q < n * 9
  · have h1 := Rw.flat_at (enc := encN) encN_len (xs := lst n (fun _ => zN)) (q / 9) zN (lst_get _ (by omega)) (q % 9) (zV[q % 9]'(by simp; omega)) (by rw [encZ, List.getElem?_eq_getElem (by simp; omega)]; simp)
    rw [show q / 9 * 9 + q % 9 = q by omega] at h1
    rw [h1]
    have hz : zV.size = 9 := rfl
    simp only [madeCells, Array.toList_map, Array.toList_range, List.getElem?_map, List.getElem?_range hq, Option.map_some]
    rw [show q % zV.size = q % 9 by rw [hz]]
    congr 1
    rw [getElem!_pos zV (q % 9) (by rw [hz]; omega)]
  · rw [List.getElem?_eq_none (by omega), List.getElem?_eq_none (by rw [Array.length_toList, size_madeCells]; omega)]
theorem made_own (w : World) (n : Nat) (h : n ≤ 1000000) : Rw.Own 60 9 encN (w.alloc (.cells (madeCells zV (n * 9)) 60)) w.heap.size (.slice (some ⟨w.heap.size, 0, none⟩) n n) (lst n (fun _ => zN)) := by
  refine ⟨?_, .inr ⟨w.heap.size, n, madeCells zV (n * 9), by rw [lst_len], Nat.le_refl _, ?_, by rw [lst_len]; exact Nat.le_refl _, by unfold maxLen; omega, size_madeCells _ _, ?_⟩⟩
  · rw [made_flat, lst_len, Array.length_toList, size_madeCells]
  · show (w.heap.push _)[w.heap.size]? = _; simp
  · rw [made_flat, lst_len]
    exact List.take_of_length_le (by rw [Array.length_toList, size_madeCells]; exact Nat.le_refl _)
section
variable {w : World} {B g n : Nat} {M : Nat → Nd}
theorem own_putM (h : Rw.Own 60 9 encN w B (.slice (some ⟨g, 0, none⟩) n n) (lst n M)) {y : Nat} (hy : y < n) {k : Nd} {j : Nat} (hj : j < 9) {u : Value} (hk : encN k = (encN (M y)).set j u) : Rw.Own 60 9 encN (w.setCell ⟨g, y * 9 + j, none⟩ u) B (.slice (some ⟨g, 0, none⟩) n n) (lst n (upd M y k)) := by
  rw [← lst_set]
  exact Ne.own_put encN_len h (lst_get M hy) hj hk
theorem own_putU (M : Nat → Nd) {y : Nat} {k k' : Nd} (h : Rw.Own 60 9 encN w B (.slice (some ⟨g, 0, none⟩) n n) (lst n (upd M y k))) (hy : y < n) {j : Nat} (hj : j < 9) {u : Value} (hk : encN k' = (encN k).set j u) : Rw.Own 60 9 encN (w.setCell ⟨g, y * 9 + j, none⟩ u) B (.slice (some ⟨g, 0, none⟩) n n) (lst n (upd M y k')) := by
  have := own_putM h hy (k := k') hj (u := u) (by rw [upd_self]; exact hk)
  rw [upd_upd] at this
  exact this
/-- a new item laid -/
theorem own_item (M : Nat → Nd) (h : Rw.Own 60 9 encN w B (.slice (some ⟨g, 0, none⟩) n n) (lst n M)) {y : Nat} (hy : y < n) (hM : M y = zN) (v : Int) :
    Rw.Own 60 9 encN (((((((((w.setCell ⟨g, y * 9 + 0, none⟩ (.int .i64 v)).setCell ⟨g, y * 9 + 1, none⟩ (.int .i64 v)).setCell ⟨g, y * 9 + 2, none⟩ (.int .i64 v)).setCell ⟨g, y * 9 + 3, none⟩ (.int .i64 1)).setCell ⟨g, y * 9 + 4, none⟩ (.int .i64 (-1))).setCell ⟨g, y * 9 + 5, none⟩ (.int .i64 (-1))).setCell ⟨g, y * 9 + 6, none⟩ (.int .i64 (-1))).setCell ⟨g, y * 9 + 7, none⟩ (.bool false)).setCell ⟨g, y * 9 + 8, none⟩ (.int .i64 0)) B (.slice (some ⟨g, 0, none⟩) n n) (lst n (upd M y (iN v))) := by
  have h0 := h
  rw [← upd_id M y, hM] at h0
  have h1 := own_putU M h0 hy (j := 0) (k' := { zN with v := v }) (by omega) (u := .int .i64 v) rfl
  have h2 := own_putU M h1 hy (j := 1) (k' := { zN with v := v, lo := v }) (by omega) (u := .int .i64 v) rfl
  have h3 := own_putU M h2 hy (j := 2) (k' := { zN with v := v, lo := v, hi := v }) (by omega) (u := .int .i64 v) rfl
  have h4 := own_putU M h3 hy (j := 3) (k' := { zN with v := v, lo := v, hi := v, c := 1 }) (by omega) (u := .int .i64 1) rfl
  have h5 := own_putU M h4 hy (j := 4) (k' := { zN with v := v, lo := v, hi := v, c := 1, up := none }) (by omega) (u := .int .i64 (-1)) rfl
  have h6 := own_putU M h5 hy (j := 5) (k' := { zN with v := v, lo := v, hi := v, c := 1, up := none, b := fun s => if s then some 0 else none }) (by omega) (u := .int .i64 (-1)) rfl
  have h7 := own_putU M h6 hy (j := 6) (k' := iN v) (by omega) (u := .int .i64 (-1)) rfl
  have h8 := own_putU M h7 hy (j := 7) (k' := iN v) (by omega) (u := .bool false) rfl
  exact own_putU M h8 hy (j := 8) (k' := iN v) (by omega) (u := .int .i64 0) rfl
/-- the first so many laid -/
def newM (V : Nat → Int) (i : Nat) : Nat → Nd := fun y => if y < i then iN (V y) else zN
theorem newM_step (V : Nat → Int) (i : Nat) : upd (newM V i) i (iN (V i)) = newM V (i + 1) := by
  funext y
  simp only [upd, newM]
  by_cases c : y = i
  · subst c; simp
  · rw [if_neg c]
    by_cases d : y < i
    · rw [if_pos d, if_pos (by omega)]
    · rw [if_neg d, if_neg (by omega)]
theorem new_inv {n : Nat} {V : Nat → Int} {r : Nat → List Nat} (hr : ∀ y, y < n → r y = [y]) (hb : ∀ x, x < n → -4611686018427387904 ≤ V x ∧ V x ≤ 4611686018427387904) : Inv n V r (fun _ => False) (newM V n) (fun y => [y]) (fun _ => false) (fun _ => 0) := by
  have e : ∀ y, y < n → newM V n y = iN (V y) := fun y hy => by simp [newM, hy]
  have hw : ∀ y, y < n → wr (V y - 0) = V y := fun y hy => by rw [Int.sub_zero]; exact wr_id (by have := hb y hy; omega)
  refine ⟨fun x s y hx hy => ?_, fun x u hx hu => ?_, fun x hx => ?_, fun x hx _ => ⟨rfl, rfl⟩, fun x hx => by simp, fun x hx y hy => ?_, fun x hx => ?_, fun x hx _ => ⟨V x, ⟨⟨x, by simp, rfl⟩, by simp⟩, ?_⟩, fun x hx _ => ⟨V x, ⟨⟨x, by simp, rfl⟩, by simp⟩, ?_⟩, fun x hx _ => ?_, fun x hx _ y hy => ?_, hb⟩
  · rw [e x hx] at hy; cases hy
  · rw [e x hx] at hu; cases hu
  · rw [e x hx]; rfl
  · simp at hy; rw [hy]; exact hx
  · rw [e x hx, hw x hx]; rfl
  · rw [e x hx, hw x hx]; rfl
  · rw [e x hx, hw x hx]; rfl
  · rw [e x hx]; rfl
  · simp at hy; subst hy; exact hr _ hx
theorem new_pot (n : Nat) : pot (fun y => [y]) n = 0 := by
  induction n with
  | zero => rfl
  | succ n ih => simp only [pot, ih, List.length_singleton]; decide
end
end Sv
end Go.Proofs.Ytlkigpmjhojceaa
