/-
  Stage 7's laws: plain facts on levels: of two rooms, far rooms, tracks that lead on, walks. No condition.
-/
import Derived.Test.YtcelggfnfnaajaaRfl7
namespace Go.Proofs.Ytcelggfnfnaajaa
open Go.ChangeShapes Go.WideShapes Go.ChangeAt Go.RowKit
set_option linter.unusedVariables false
set_option linter.unusedSimpArgs false
namespace Ne
section
variable {n : Net} {f : List Int} {x : Int} {L : List Int}
theorem lev_rooms (hR : Right n) {y : Int} {L2 : List Int} (h1 : IsLev n f x L) (h2 : IsLev n f y L2) (hxy : x ≤ y) {i : Nat} (hi : i < n.n.toNat + 1) (h0 : 0 ≤ amt L2 i) : 0 ≤ amt L i ∧ amt L i ≤ amt L2 i := by
  obtain ⟨k, e, hd⟩ := lev_node h2 hi h0
  have := h1.low k _ (dst_less hxy hd)
  rw [Int.toNat_natCast] at this
  omega
theorem lev_far (hR : Right n) (h : IsLev n f x L) (hr : ∀ r, r < 2 * n.l.length → roomN n.l f r < x) {i : Nat} (hi : i < n.n.toNat + 1) : amt L i = if (i : Int) = n.s then 0 else -1 := by
  by_cases e : (i : Int) = n.s
  · rw [if_pos e]
    have := lev_src hR h
    rwa [show n.s.toNat = i by omega] at this
  · rw [if_neg e]
    rcases h.val i hi with e2 | ⟨k, _, hd⟩
    · exact e2
    · exact absurd (rch_far hr (dst_rch hd)) e
theorem lead_far (hr : ∀ r, r < 2 * n.l.length → roomN n.l f r < x) : leadL n.l f x L (2 * n.l.length) = [] := by
  rw [List.eq_nil_iff_forall_not_mem]
  intro r hm
  obtain ⟨h1, h2, _⟩ := leadL_mem.1 hm
  have := hr r h1
  omega
theorem room_far (hR : Right n) (hw : wi n.l f) : ∀ r, r < 2 * n.l.length → roomN n.l f r < 4611686018427387904 := fun r hr => by
  have := (room_nn hw hr).2
  have := cap_topR hR (i := r / 2) (by omega)
  omega
/-- what a track that leads on says -/
theorem lead_says (hR : Right n) (h : IsLev n f x L) {r : Nat} (hm : r ∈ leadL n.l f x L (2 * n.l.length)) :
    r < 2 * n.l.length ∧ x ≤ roomN n.l f r ∧ (trF n.l r).toNat < n.n.toNat + 1 ∧ (trT n.l r).toNat < n.n.toNat + 1 ∧ 1 ≤ (trF n.l r).toNat ∧ 1 ≤ (trT n.l r).toNat ∧ 0 ≤ amt L (trF n.l r).toNat ∧ amt L (trT n.l r).toNat = amt L (trF n.l r).toNat + 1 ∧ (trT n.l r).toNat ≠ n.s.toNat ∧ (trF n.l r).toNat ≠ (trT n.l r).toNat ∧ opp r ∉ leadL n.l f x L (2 * n.l.length) := by
  obtain ⟨h1, h2, h3, h4⟩ := leadL_mem.1 hm
  have hb := trF_bd hR h1; have hb2 := trT_bd hR h1
  refine ⟨h1, h2, by omega, by omega, by omega, by omega, h3, h4, fun e => ?_, fun e => ?_, fun ho => ?_⟩
  · have := lev_src hR h; rw [← e] at this; omega
  · rw [e] at h4; omega
  · obtain ⟨_, _, _, h5⟩ := leadL_mem.1 ho
    rw [trT_opp, trF_opp] at h5; omega
/-- each level above nothing is come to by a track that leads on -/
theorem lead_to (hR : Right n) (h : IsLev n f x L) {i k : Nat} (hi : i < n.n.toNat + 1) (e : amt L i = ((k + 1 : Nat) : Int)) : ∃ r ∈ leadL n.l f x L (2 * n.l.length), (trT n.l r).toNat = i ∧ amt L (trF n.l r).toNat = (k : Int) := by
  obtain ⟨r, hr, hx, ht, e2⟩ := lev_prev hR h hi e
  refine ⟨r, leadL_mem.2 ⟨hr, hx, by omega, ?_⟩, by omega, e2⟩
  rw [show (trT n.l r).toNat = i by omega, e, e2]; omega
end
end Ne
end Go.Proofs.Ytcelggfnfnaajaa
