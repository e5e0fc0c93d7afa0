/-
  Stage 9: plain facts of SplayLeast: the first and the last of the least ones, told as they are found. No condition.
-/
import Derived.Test.YtlkigpmjhojceaaSpl
namespace Go.Proofs.Ytlkigpmjhojceaa
open Go.ChangeShapes Go.WideShapes Go.ChangeAt Go.RowKit
set_option linter.unusedVariables false
set_option linter.unusedSimpArgs false
namespace Sp
theorem fold_acc (v : List Int) : ∀ (l : List Nat) (b : Int), 0 ≤ b →
    l.foldl (fun (b : Int) i => if b < 0 ∨ Ne.amt v i < Ne.amt v b.toNat then (i : Int) else b) b = if 0 ≤ leastL v l ∧ Ne.amt v (leastL v l).toNat < Ne.amt v b.toNat then leastL v l else b
  | [], b, hb => by
    have : leastL v [] = -1 := rfl
    rw [this, if_neg (by omega)]; rfl
  | a :: l, b, hb => by
    have hX : leastL v (a :: l) = if 0 ≤ leastL v l ∧ Ne.amt v (leastL v l).toNat < Ne.amt v a then leastL v l else (a : Int) := by
      have h1 : leastL v (a :: l) = l.foldl (fun (b : Int) i => if b < 0 ∨ Ne.amt v i < Ne.amt v b.toNat then (i : Int) else b) (a : Int) := by
        unfold leastL
        rw [List.foldl_cons, if_pos (.inl (by omega))]
      rw [h1, fold_acc v l (a : Int) (by omega), Int.toNat_natCast]
    rw [List.foldl_cons]
    by_cases c : Ne.amt v a < Ne.amt v b.toNat
    · rw [if_pos (.inr c), fold_acc v l (a : Int) (by omega), Int.toNat_natCast, hX]
      by_cases d : 0 ≤ leastL v l ∧ Ne.amt v (leastL v l).toNat < Ne.amt v a
      · rw [if_pos d, if_pos ⟨d.1, by omega⟩]
      · rw [if_neg d, if_pos ⟨by omega, by simpa using c⟩]
    · rw [if_neg (by omega), fold_acc v l b hb, hX]
      by_cases d : 0 ≤ leastL v l ∧ Ne.amt v (leastL v l).toNat < Ne.amt v a
      · rw [if_pos d]
      · rw [if_neg d, Int.toNat_natCast, if_neg (fun e => d ⟨e.1, by omega⟩), if_neg fun e => c e.2]
theorem leastL_cons {v : List Int} {l : List Nat} (a : Nat) (h : 0 ≤ leastL v l) : leastL v (a :: l) = if Ne.amt v (leastL v l).toNat < Ne.amt v a then leastL v l else (a : Int) := by
  have h1 : leastL v (a :: l) = l.foldl (fun (b : Int) i => if b < 0 ∨ Ne.amt v i < Ne.amt v b.toNat then (i : Int) else b) (a : Int) := by
    unfold leastL
    rw [List.foldl_cons, if_pos (.inl (by omega))]
  rw [h1, fold_acc v l (a : Int) (by omega), Int.toNat_natCast]
  by_cases c : Ne.amt v (leastL v l).toNat < Ne.amt v a
  · rw [if_pos ⟨h, c⟩, if_pos c]
  · rw [if_neg (fun e => c e.2), if_neg c]
/-- the values -/
def cL (cs : List Int) (i : Nat) : Int := Ne.pickN (Ne.amt cs i) 4
def vL (cs : List Int) (k : Nat) : List Int := (List.range k).map fun i => cL cs i
def fst (cs : List Int) : Nat → Nat
  | 0 => 0
  | k + 1 => if cL cs k < cL cs (fst cs k) then k else fst cs k
def lst (cs : List Int) : Nat → Nat
  | 0 => 0
  | k + 1 => if cL cs k ≤ cL cs (lst cs k) then k else lst cs k
theorem vL_len (cs : List Int) (k : Nat) : (vL cs k).length = k := by simp [vL]
theorem vL_succ (cs : List Int) (k : Nat) : vL cs (k + 1) = vL cs k ++ [cL cs k] := by simp [vL, List.range_succ]
theorem vL_at {cs : List Int} {k i : Nat} (h : i < k) : Ne.amt (vL cs k) i = cL cs i := by simp [vL, Ne.amt, h]
theorem fst_lt (cs : List Int) : ∀ k, fst cs k < k + 1
  | 0 => by simp [fst]
  | k + 1 => by have := fst_lt cs k; unfold fst; split <;> omega
theorem lst_lt (cs : List Int) : ∀ k, lst cs k < k + 1
  | 0 => by simp [lst]
  | k + 1 => by have := lst_lt cs k; unfold lst; split <;> omega
theorem fst_le (cs : List Int) {k : Nat} (h : 0 < k) : fst cs k < k := by
  rcases k with _ | k
  · omega
  · have := fst_lt cs k; unfold fst; split <;> omega
theorem lst_le (cs : List Int) {k : Nat} (h : 0 < k) : lst cs k < k := by
  rcases k with _ | k
  · omega
  · have := lst_lt cs k; unfold lst; split <;> omega
theorem least_fst (cs : List Int) {n : Nat} : ∀ k, k + 1 ≤ n → leastL (vL cs n) (List.range (k + 1)) = (fst cs (k + 1) : Int)
  | 0, h => by
    have : fst cs 1 = 0 := by simp [fst]
    rw [this]; rfl
  | k + 1, h => by
    have ih := least_fst cs (n := n) k (by omega)
    have h1 := fst_le cs (k := k + 1) (by omega)
    rw [List.range_succ, leastL_snoc, ih, Int.toNat_natCast, vL_at (by omega), vL_at (by omega)]
    show _ = ((if cL cs (k + 1) < cL cs (fst cs (k + 1)) then k + 1 else fst cs (k + 1) : Nat) : Int)
    by_cases c : cL cs (k + 1) < cL cs (fst cs (k + 1))
    · rw [if_pos (.inr c), if_pos c]
    · rw [if_neg (by omega), if_neg c]
theorem least_lst (cs : List Int) {n : Nat} : ∀ k, k + 1 ≤ n → leastL (vL cs n) (List.range (k + 1)).reverse = (lst cs (k + 1) : Int)
  | 0, h => by
    have : lst cs 1 = 0 := by simp [lst]
    rw [this]; rfl
  | k + 1, h => by
    have ih := least_lst cs (n := n) k (by omega)
    have h1 := lst_le cs (k := k + 1) (by omega)
    rw [List.range_succ, List.reverse_append]
    show leastL _ ((k + 1) :: (List.range (k + 1)).reverse) = _
    rw [leastL_cons _ (by rw [ih]; omega), ih, Int.toNat_natCast, vL_at (by omega), vL_at (by omega)]
    show _ = ((if cL cs (k + 1) ≤ cL cs (lst cs (k + 1)) then k + 1 else lst cs (k + 1) : Nat) : Int)
    by_cases c : cL cs (k + 1) ≤ cL cs (lst cs (k + 1))
    · rw [if_pos c, if_neg (by omega)]
    · rw [if_neg c, if_pos (by omega)]
theorem cL_bd (cs : List Int) (i : Nat) : 0 ≤ cL cs i ∧ cL cs i < 4 := Ne.pickN_bd (by omega)
theorem vL_new (cs : List Int) {n : Nat} (h : n ≤ 100) : newE (vL cs n) = 0 := by
  unfold newE
  rw [if_neg (by rw [vL_len]; omega), if_pos]
  intro i hi
  rw [vL_len] at hi
  rw [vL_at hi]
  have := cL_bd cs i
  unfold big
  omega
theorem least_all (cs : List Int) {n : Nat} (h0 : 0 < n) (hg : Good (stC (vL cs n) n)) :
    leastZ (stC (vL cs n) n) ((n : Int) - 1) = (fst cs n : Int) ∧ leastZ (turnS (stC (vL cs n) n) 0) 0 = (lst cs n : Int) ∧ leastZ (turnS (stC (vL cs n) n) 0) (n : Int) = -1 := by
  obtain ⟨k, rfl⟩ : ∃ k, n = k + 1 := ⟨n - 1, by omega⟩
  have r0 := stC_row (v := vL cs (k + 1)) (k := k + 1) (x := 0) (by omega) (by omega)
  refine ⟨?_, ?_, ?_⟩
  · unfold leastZ
    rw [stC_row (by omega) (by omega)]
    exact least_fst cs k (Nat.le_refl _)
  · unfold leastZ
    rw [turn_row (by omega) (by rw [r0, List.mem_range]; simp), r0]
    exact least_lst cs k (Nat.le_refl _)
  · unfold leastZ
    have e : rowZ (turnS (stC (vL cs (k + 1)) (k + 1)) 0) ((k + 1 : Nat) : Int) = [] := (rowZ_nil (good_turn hg 0)).2 (.inr (by show ((vL cs (k + 1)).length : Int) ≤ _; rw [vL_len]; omega))
    rw [e]; rfl
end Sp
end Go.Proofs.Ytlkigpmjhojceaa
