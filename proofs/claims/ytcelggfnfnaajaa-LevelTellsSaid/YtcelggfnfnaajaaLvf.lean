/-
  Plain facts: there are levels; what Levels, Leads, Deep answer. No condition.
-/
import Derived.Test.YtcelggfnfnaajaaLvm
namespace Go.Proofs.Ytcelggfnfnaajaa
open Go.ChangeShapes Go.WideShapes Go.ChangeAt Go.RowKit
set_option linter.unusedVariables false
set_option linter.unusedSimpArgs false
namespace Ne
theorem least_of {p : Nat → Prop} (h : ∃ k, p k) : ∃ k, p k ∧ ∀ j, p j → k ≤ j := by
  obtain ⟨k, hk⟩ := h
  induction k using Nat.strongRecOn with
  | ind k ih =>
    by_cases c : ∃ j, j < k ∧ p j
    · obtain ⟨j, hj, hp⟩ := c; exact ih j hj hp
    · exact ⟨k, hk, fun j hj => by
        rcases Nat.lt_or_ge j k with h | h
        · exact absurd ⟨j, h, hj⟩ c
        · exact h⟩
theorem lev_exists {n : Net} (hR : Right n) (f : List Int) (x : Int) : ∃ L, IsLev n f x L := by
  have h : ∀ i : Nat, ∃ a : Int, (a = -1 ∧ ¬ ∃ k, Dst n f x k (i : Int)) ∨ ∃ k : Nat, a = (k : Int) ∧ Dst n f x k (i : Int) ∧ ∀ j, Dst n f x j (i : Int) → k ≤ j := fun i => by
    by_cases c : ∃ k, Dst n f x k (i : Int)
    · obtain ⟨k, h1, h2⟩ := least_of c; exact ⟨k, .inr ⟨k, rfl, h1, h2⟩⟩
    · exact ⟨-1, .inl ⟨rfl, c⟩⟩
  obtain ⟨g, hg⟩ := Classical.axiomOfChoice h
  have ha : ∀ i, i < n.n.toNat + 1 → amt ((List.range (n.n.toNat + 1)).map g) i = g i := fun i hi => by simp [amt, hi]
  refine ⟨(List.range (n.n.toNat + 1)).map g, by simp, fun i hi => ?_, fun k v hd => ?_⟩
  · rw [ha i hi]
    rcases hg i with ⟨e, _⟩ | ⟨k, e, hd, _⟩
    · exact .inl e
    · exact .inr ⟨k, e, hd⟩
  · have hb := dst_bd hR hd
    rw [ha _ (by omega)]
    have hd' : Dst n f x k ((v.toNat : Nat) : Int) := by rwa [show ((v.toNat : Nat) : Int) = v by omega]
    rcases hg v.toNat with ⟨_, e⟩ | ⟨j, e, _, hm⟩
    · exact absurd ⟨k, hd'⟩ e
    · have := hm k hd'; omega
def lvV (n : Net) (f : List Int) (x : Int) (L : List Int) : List Int := if reE n f x ≠ 0 then [] else L
def ldV (n : Net) (f : List Int) (x : Int) (L : List Int) : List Nat := if reE n f x ≠ 0 then [] else leadL n.l f x L (2 * n.l.length)
def dpV (n : Net) (f : List Int) (x : Int) (L : List Int) : Int := if reE n f x ≠ 0 then 0 else amt L n.t.toNat
theorem lvV_bad {n : Net} {f : List Int} {x : Int} {L : List Int} (h : reE n f x ≠ 0) : lvV n f x L = [] ∧ ldV n f x L = [] ∧ dpV n f x L = 0 := by
  unfold lvV ldV dpV; rw [if_pos h, if_pos h, if_pos h]; exact ⟨rfl, rfl, rfl⟩
theorem lvV_ok {n : Net} {f : List Int} {x : Int} {L : List Int} (h : reE n f x = 0) : lvV n f x L = L ∧ ldV n f x L = leadL n.l f x L (2 * n.l.length) ∧ dpV n f x L = amt L n.t.toNat := by
  unfold lvV ldV dpV; rw [if_neg (by simpa using h), if_neg (by simpa using h), if_neg (by simpa using h)]; exact ⟨rfl, rfl, rfl⟩
/-- levels up to k, and what the tracks ahead of r tell of those of k + 1 -/
def LevR (n : Net) (f : List Int) (x : Int) (k r : Nat) (L : List Int) : Prop := ∃ M, LevM n f x k L M ∧ ∀ q : Nat, q < r → x ≤ roomN n.l f q → amt L (trF n.l q).toNat = (k : Int) → 0 ≤ amt L (trT n.l q).toNat
section
variable {n : Net} {f : List Int} {x : Int} {k r : Nat} {L : List Int}
theorem levR_start (h : LevK n f x k L) : LevR n f x k 0 L := ⟨[], levM_start h, fun q hq => absurd hq (by omega)⟩
theorem levR_len (h : LevR n f x k r L) : L.length = n.n.toNat + 1 := by obtain ⟨M, h, _⟩ := h; exact h.len
theorem levR_skip (h : LevR n f x k r L) (h1 : x ≤ roomN n.l f r → amt L (trF n.l r).toNat = (k : Int) → 0 ≤ amt L (trT n.l r).toNat) : LevR n f x k (r + 1) L := by
  obtain ⟨M, hM, hd⟩ := h
  refine ⟨M, hM, fun q hq hx e => ?_⟩
  by_cases c : q = r
  · subst c; exact h1 hx e
  · exact hd q (by omega) hx e
theorem levR_put (hR : Right n) (h : LevR n f x k r L) (hr : r < 2 * n.l.length) (hx : x ≤ roomN n.l f r) (h1 : amt L (trF n.l r).toNat = (k : Int)) (h2 : amt L (trT n.l r).toNat < 0) : LevR n f x k (r + 1) (L.set (trT n.l r).toNat ((k : Int) + 1)) := by
  obtain ⟨M, hM, hd⟩ := h
  have hb := trF_bd hR hr; have hb2 := trT_bd hR hr
  have ht : (trT n.l r).toNat < n.n.toNat + 1 := by omega
  have h3 : amt L (trT n.l r).toNat = -1 := by rcases hM.val _ ht with e | ⟨j, _, e, _⟩ <;> omega
  have hD : Dst n f x (k + 1) (((trT n.l r).toNat : Nat) : Int) := by
    rw [show (((trT n.l r).toNat : Nat) : Int) = trT n.l r by omega]
    refine .step hr hx ?_
    rcases hM.val (trF n.l r).toNat (by omega) with e | ⟨j, _, e, hj⟩
    · omega
    · obtain rfl : j = k := by omega
      rwa [show (((trF n.l r).toNat : Nat) : Int) = trF n.l r by omega] at hj
  refine ⟨M ++ [(trT n.l r).toNat], levM_put hM ht h3 hD, fun q hq hxq e => ?_⟩
  have e1 : ((k : Int) + 1) = ((k + 1 : Nat) : Int) := by omega
  rw [e1] at e ⊢
  by_cases c : q = r
  · subst c
    rw [amt_set _ (by rw [hM.len]; exact ht), if_pos rfl]; omega
  · refine levM_keep hM ht h3 (hd q (by omega) hxq ?_)
    rw [amt_set _ (by rw [hM.len]; exact ht)] at e
    by_cases c2 : (trF n.l q).toNat = (trT n.l r).toNat
    · rw [if_pos c2] at e; omega
    · rw [if_neg c2] at e; exact e
theorem levR_end (hR : Right n) (h : LevR n f x k (2 * n.l.length) L) : LevK n f x (k + 1) L := by
  obtain ⟨M, hM, hd⟩ := h
  exact levM_end hR hM fun r hr hx e => hd r hr hx e
end
end Ne
end Go.Proofs.Ytcelggfnfnaajaa
