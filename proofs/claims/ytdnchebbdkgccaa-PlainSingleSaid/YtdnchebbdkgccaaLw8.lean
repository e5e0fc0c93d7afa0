/-
  Stage 8's laws: plain facts on walks that are led one behind the other. No condition.
-/
import Derived.Test.YtdnchebbdkgccaaSr5
import Derived.Test.YtdnchebbdkgccaaRfl7
namespace Go.Proofs.Ytdnchebbdkgccaa
open Go.ChangeShapes Go.WideShapes Go.ChangeAt Go.RowKit
set_option linter.unusedVariables false
set_option linter.unusedSimpArgs false
namespace Ne
section
variable {n : Net} {TL : List Nat} {L : List Int} {x : Int} {f g : List Int} {W : List (List Nat × Int)}
theorem least_pos (hx : 1 ≤ x) {R : List Nat} {a : Int} {s t : Int} (h1 : FirstW n.l TL f x t s R) (h2 : Least n.l f R a) : x ≤ a := by
  obtain ⟨r, hr, e⟩ := h2.one
  have := (wlk_mem (firstW_wlk h1) r hr).2
  omega
theorem blkW_flow (hR : Right n) (hL : Lds n.l L TL) (hx : 1 ≤ x) (hF : Flow n f) (b : BlkW n.l TL x n.s n.t f W g) : Flow n g ∧ exc n.l g n.t = exc n.l f n.t + (W.map (·.2)).sum := by
  obtain ⟨s, hs⟩ : ∃ s, s = n.s := ⟨_, rfl⟩
  obtain ⟨t, ht⟩ : ∃ t, t = n.t := ⟨_, rfl⟩
  rw [← hs, ← ht] at b
  induction b with
  | nil f => exact ⟨hF, by simp⟩
  | @cons f g h R a W h1 h2 h3 _ ih =>
    have ha := least_pos hx h1 h2
    obtain ⟨k1, k2⟩ := push_flow hR hF (by omega) (first_walk hL (by rw [hs, ht] at h1; exact h1)) h3
    obtain ⟨m1, m2⟩ := ih k1
    refine ⟨m1, ?_⟩
    rw [m2, k2, List.map_cons, List.sum_cons]
    omega
/-- each walk has as many tracks as the sink's level -/
theorem blk_long (hR : Right n) (hL : IsLev n f x L) (hB : IsBlk n.l (leadL n.l f x L (2 * n.l.length)) f x n.s n.t W g) : ∀ p ∈ W, (p.1.length : Int) = amt L n.t.toNat := by
  have hLd := lds_of n.l f x L
  have hsrc := lev_src hR hL
  have b := hB.1
  clear hB
  generalize leadL n.l f x L (2 * n.l.length) = TL at *
  clear hL
  obtain ⟨s, hs⟩ : ∃ s, s = n.s := ⟨_, rfl⟩
  obtain ⟨t, ht⟩ : ∃ t, t = n.t := ⟨_, rfl⟩
  rw [← hs, ← ht] at b
  induction b with
  | nil => intro p hp; simp at hp
  | @cons f g h R a W h1 h2 h3 _ ih =>
    intro p hp
    rcases List.mem_cons.1 hp with e | hp
    · subst e
      have h4 := wlk_lev hLd (firstW_wlk h1)
      rw [hs, ht] at h4
      show (R.length : Int) = _
      omega
    · exact ih p hp
theorem minL_of {RL : List Int} {R : List Nat} {a m0 : Int} (h : Least n.l f R a) (hr : ∀ r ∈ R, amt RL r = roomN n.l f r) (hm : a ≤ m0) : minL RL m0 R = a := by
  obtain ⟨h1, h2, h3⟩ := minL_le RL R m0
  obtain ⟨q, hq, e⟩ := h.one
  have h4 := h2 q hq
  rw [hr q hq] at h4
  rcases h3 with h3 | ⟨r, hr2, h3⟩
  · omega
  · have := h.all r hr2
    rw [hr r hr2] at h3
    omega
/-- one more of the walks that are left -/
theorem blk_drop {i : Nat} (hi : i < W.length) (b : BlkW n.l TL x n.s n.t f (W.drop i) g) : ∃ g1, FirstW n.l TL f x n.t n.s (W.getD i ([], 0)).1 ∧ Least n.l f (W.getD i ([], 0)).1 (W.getD i ([], 0)).2 ∧ pushN n.l f (W.getD i ([], 0)).2 (encW (W.getD i ([], 0)).1) = some g1 ∧ BlkW n.l TL x n.s n.t g1 (W.drop (i + 1)) g := by
  have e : W.drop i = W.getD i ([], 0) :: W.drop (i + 1) := by
    rw [List.drop_eq_getElem_cons hi, List.getD_eq_getElem?_getD, List.getElem?_eq_getElem hi]
    rfl
  rw [e] at b
  rcases blkW_inv b with ⟨h, _⟩ | ⟨R, a, V, g1, h1, h2, h3, h4, h5⟩
  · cases h
  · simp only [List.cons.injEq] at h1
    obtain ⟨h1, rfl⟩ := h1
    rw [h1]
    exact ⟨g1, h2, h3, h4, h5⟩
theorem blk_end {i : Nat} (hi : W.length ≤ i) (b : BlkW n.l TL x n.s n.t f (W.drop i) g) : f = g := by
  rw [List.drop_eq_nil_of_le hi] at b
  rcases blkW_inv b with ⟨_, h⟩ | ⟨_, _, _, _, h, _⟩
  · exact h
  · cases h
/-- a flow that blocks of a flow -/
theorem blk_of (hR : Right n) (hF : Okf n f) (hx : 1 ≤ x) (L : List Int) : ∃ W g, IsBlk n.l (leadL n.l f x L (2 * n.l.length)) f x n.s n.t W g :=
  blk_exists (lds_of n.l f x L) hR.ne hx _ f hF.len (Nat.le_refl _)
/-- walks are told just if the sink is come to -/
theorem blk_some (hR : Right n) (hL : IsLev n f x L) (hB : IsBlk n.l (leadL n.l f x L (2 * n.l.length)) f x n.s n.t W g) : W ≠ [] ↔ 0 ≤ amt L n.t.toNat := by
  rw [sink_walk hR hL]
  rcases blkW_inv hB.1 with ⟨rfl, rfl⟩ | ⟨R, a, V, g1, rfl, h1, _⟩
  · exact ⟨fun h => absurd rfl h, fun ⟨R, hW⟩ => absurd hW (hB.2 R)⟩
  · exact ⟨fun _ => ⟨R, firstW_wlk h1⟩, fun _ h => by cases h⟩
/-- nothing is led where the sink is not come to -/
theorem blk_nought (hR : Right n) (hL : IsLev n f x L) (hB : IsBlk n.l (leadL n.l f x L (2 * n.l.length)) f x n.s n.t W g) (hd : amt L n.t.toNat < 0) : W = [] ∧ g = f := by
  rcases blkW_inv hB.1 with ⟨h1, h2⟩ | ⟨R, a, V, g1, e, h1, _⟩
  · exact ⟨h1, h2.symm⟩
  · have := (blk_some hR hL hB).1 (by rw [e]; simp)
    omega
/-- behind it the sink is farther away -/
theorem blk_far (hR : Right n) (hF : Okf n f) (hx : 1 ≤ x) (hL : IsLev n f x L) (hB : IsBlk n.l (leadL n.l f x L (2 * n.l.length)) f x n.s n.t W g) {L2 : List Int} (h2 : IsLev n g x L2) (h0 : 0 ≤ amt L2 n.t.toNat) : 0 ≤ amt L n.t.toNat ∧ amt L n.t.toNat < amt L2 n.t.toNat :=
  sink_farther hR hL (blkW_facts (lds_of n.l f x L) hx hF.len hB.1).1 hB.2 h2 h0
theorem blk_len (hF : Okf n f) (hx : 1 ≤ x) (hB : IsBlk n.l (leadL n.l f x L (2 * n.l.length)) f x n.s n.t W g) : g.length = n.l.length ∧ W.length ≤ (leadL n.l f x L (2 * n.l.length)).length := by
  have h := blkW_facts (lds_of n.l f x L) hx hF.len hB.1
  have h2 := left_le n.l (leadL n.l f x L (2 * n.l.length)) x f
  exact ⟨h.1.len, by omega⟩
end
section
variable {n : Net} (ao : Option Addr) (cap : Nat) (fo : Option Addr) (fc : Nat) {f : List Int} (w : World) (ck : checkN n = 0) (hr : ARow w ao n.l) (hf : IRow w fo f) (hF : Okf n f) (x : Int) (hx : 1 ≤ x) {L : List Int} (hL : IsLev n f x L)
include ck hr hf hF hx hL
/-- Block at what is known to be right -/
theorem block_flow {W : List (List Nat × Int)} {g : List Int} (hB : IsBlk n.l (leadL n.l f x L (2 * n.l.length)) f x n.s n.t W g) :
    Calls Try.prog 11 #[encN n ao cap, .slice fo n.l.length fc, .int .i64 x] w fun e w' => ∃ o c v, e = .returned (.tuple #[.slice o n.l.length c, v, .int .i64 0]) ∧ IRow w' o g ∧ WkR 54 w' w.heap.size v W ∧ Below w.heap.size w w' := by
  have e : reE n f x = 0 := by unfold reE; rw [if_neg (by simpa using hF.chk ck), if_neg (by omega)]
  have h := dblock_any n ao cap fo fc f x L W g w hr hf (by have := (right_of ck).len; omega) (cap_64 (right_of ck)) (fun _ => hL) (fun _ => hB)
  have e1 : blG n f x g = g := by unfold blG; rw [if_neg (by simpa using e)]
  have e2 : blW n f x W = W := by unfold blW; rw [if_neg (by simpa using e)]
  rw [hF.len, e1, e2, (blk_len hF hx hB).1, e] at h
  exact h
end
end Ne
end Go.Proofs.Ytdnchebbdkgccaa
