/-
  Stage 6's laws: plain facts on where one comes, a track's other one by '^ 1', a walk that is chosen step by step. No condition.
-/
import Derived.Test.YtcelggfnfnaajaaRfl6
import Derived.Test.YtcelggfnfnaajaaRouted
import Derived.Laws.BitsAllLaws
namespace Go.Proofs.Ytcelggfnfnaajaa
open Go.ChangeShapes Go.WideShapes Go.ChangeAt Go.RowKit
set_option linter.unusedVariables false
set_option linter.unusedSimpArgs false
namespace Ne
theorem nat_xor_one (r : Nat) : r ^^^ 1 = opp r := by
  unfold opp
  have h1 : (r ^^^ 1) / 2 = r / 2 := by rw [Nat.xor_div_two]; simp
  have h2 : (r ^^^ 1) % 2 = 1 ↔ ¬ ((r % 2 = 1) ↔ (1 % 2 = 1)) := Nat.xor_mod_two_eq_one
  by_cases c : r % 2 = 1
  · rw [if_pos c]
    have : ¬ (r ^^^ 1) % 2 = 1 := by rw [h2]; simp [c]
    omega
  · rw [if_neg c]
    have : (r ^^^ 1) % 2 = 1 := by rw [h2]; simp [c]
    omega
theorem xor_opp (r : Nat) (h : r < 1099511627776) : Go.bits .xor .i64 (r : Int) 1 = ((opp r : Nat) : Int) := by
  show IntKind.i64.wrap ((BitVec.ofInt 64 (r : Int) ^^^ BitVec.ofInt 64 1).toNat : Int) = _
  have h1 : BitVec.ofInt 64 1 = 1#64 := by decide
  rw [h1, BitVec.toNat_xor, ofInt_u64 r (by omega), show (1#64).toNat = 1 from rfl, nat_xor_one]
  have : opp r ≤ r + 1 := by unfold opp; split <;> omega
  rw [IntKind.wrap_i64]
  omega
/-- is a node come to by one of the tracks' other ones? -/
def byN (l : List Arc) (f : List Int) (x : Int) (M : List Bool) (T : List Nat) : Bool := T.any fun r => M.getD (trT l r).toNat false && decide (x ≤ roomN l f (opp r))
theorem byN_take {l : List Arc} {f : List Int} {x : Int} {M : List Bool} {T : List Nat} {i : Nat} (h : i < T.length) :
    byN l f x M (T.take (i + 1)) = (byN l f x M (T.take i) || (M.getD (trT l (T.getD i 0)).toNat false && decide (x ≤ roomN l f (opp (T.getD i 0))))) := by
  unfold byN
  rw [List.take_add_one, List.getElem?_eq_getElem h, List.any_append]
  simp [List.getD_eq_getElem?_getD, List.getElem?_eq_getElem h]
theorem reach_by {n : Net} (hR : Right n) {f : List Int} {x : Int} {M : List Bool} (h : IsReach n f x M) {v : Nat} (hv : M.getD v false = true) (hs : (v : Int) ≠ n.s) : byN n.l f x M (fromL n.l (v : Int) (2 * n.l.length)) = true := by
  obtain ⟨r, hr, hx, hrf, ht⟩ := rch_pred (h.sound v hv) hs
  unfold byN
  rw [List.any_eq_true]
  refine ⟨opp r, fromL_mem.2 ⟨opp_lt hr, by rw [trF_opp, ht]⟩, ?_⟩
  rw [trT_opp, opp_opp, reach_all hR h hrf]
  simpa using hx
theorem reach_next {n : Net} {f : List Int} {x : Int} {M : List Bool} (h : IsReach n f x M) {v r : Nat} (hv : M.getD v false = true) (hr : r ∈ fromL n.l (v : Int) (2 * n.l.length)) (hx : x ≤ roomN n.l f r) : M.getD (trT n.l r).toNat false = true := by
  obtain ⟨h1, h2⟩ := fromL_mem.1 hr
  exact h.closed r h1 hx (by rw [h2]; simpa using hv)
theorem reach_fewer {n : Net} (hR : Right n) {f : List Int} {x y : Int} {M1 M2 : List Bool} (h1 : IsReach n f x M1) (h2 : IsReach n f y M2) (hxy : x ≤ y) {v : Nat} (hv : M2.getD v false = true) : M1.getD v false = true :=
  (reach_iff hR h1 v).2 (rch_less hxy (h2.sound v hv))
theorem reach_zero {n : Net} (hR : Right n) {f : List Int} {x : Int} {M : List Bool} (h : IsReach n f x M) : M.getD 0 false = false := by
  rcases e : M.getD 0 false with _ | _
  · rfl
  · have := (rch_bd hR (h.sound 0 e)).1; omega
theorem min_max_pick (a b : Int) (ha : 0 ≤ a ∧ a < 30) (hb : 0 ≤ b ∧ b < 30) : ∃ z u : Int, min a b = z ∧ max a b = u ∧ 0 ≤ z ∧ z ≤ u ∧ u < 30 := ⟨_, _, rfl, rfl, by omega, by omega, by omega⟩
end Ne
end Go.Proofs.Ytcelggfnfnaajaa
