/-
  Stage 8: what each walk of a flow that blocks takes of the rooms, and that the walks rise. No condition.
-/
import Derived.Test.YtdnchebbdkgccaaLw8
namespace Go.Proofs.Ytdnchebbdkgccaa
open Go.ChangeShapes Go.WideShapes Go.ChangeAt Go.RowKit
set_option linter.unusedVariables false
set_option linter.unusedSimpArgs false
namespace Ne
/-- a step of the rooms -/
structure FillS (RM : List Int) (R : List Nat) (a x : Int) (m : Nat) (j : Nat) (rm : Int) : Prop where
  at' : amt (lessL RM a (R.take j)) (R.getD j 0) = rm
  set : lessL RM a (R.take (j + 1)) = (lessL RM a (R.take j)).set (R.getD j 0) (rm - a)
  lt : R.getD j 0 < m
  le : a ≤ rm
  big : rm ≤ 4611686018427387904
  any : (R.take (j + 1)).any (fun r => decide (amt RM r - a < x)) = ((R.take j).any (fun r => decide (amt RM r - a < x)) || decide (rm - a < x))
theorem ownL_put_cell {w : World} {B g n cap : Nat} {l : List Int} (h : OwnL w B (.slice (some ⟨g, 0, none⟩) n cap) l) {i : Nat} (hi : i < l.length) (y : Int) : (w.setCell ⟨g, i, none⟩ (.int .i64 y)).cell? ⟨g, i, none⟩ = some (.int .i64 y) := by
  have h2 := (ownL_cell (ownL_put h hi y) (i := i) (by rw [List.length_set]; exact hi)).1
  have e : amt (l.set i y) i = y := by
    unfold amt
    rw [List.getD_eq_getElem?_getD, List.getElem?_set_self hi]
    rfl
  rw [e] at h2
  exact h2
section
variable {n : Net} {TL : List Nat} {L : List Int} {x : Int} {f g gl : List Int} {W : List (List Nat × Int)} {RM : List Int} {U : Nat → List Nat}
theorem fill_step (ck : checkN n = 0) (hL : Lds n.l L TL) (hx : 1 ≤ x) {q : Nat} (hq : q < W.length) (h0 : Flow n gl) (hS : Srch n TL gl x RM U) (b : BlkW n.l TL x n.s n.t gl (W.drop q) g) :
    ∃ g1 R a, R = (W.getD q ([], 0)).1 ∧ a = (W.getD q ([], 0)).2 ∧ 0 < R.length ∧ R.length ≤ 1000000 ∧ x ≤ a ∧ a ≤ 4611686018427387904 ∧ Flow n g1 ∧ BlkW n.l TL x n.s n.t g1 (W.drop (q + 1)) g ∧ Srch n TL g1 x (lessL RM a R) U ∧
      R.any (fun r => decide (amt RM r - a < x)) = true ∧ ∀ j, j < R.length → ∃ rm, FillS RM R a x (2 * n.l.length) j rm := by
  obtain ⟨g1, h1, h2, h3, h4⟩ := blk_drop (n := n) hq b
  obtain ⟨R, hR⟩ : ∃ R, R = (W.getD q ([], 0)).1 := ⟨_, rfl⟩
  obtain ⟨a, ha⟩ : ∃ a, a = (W.getD q ([], 0)).2 := ⟨_, rfl⟩
  rw [← hR] at h1 h2 h3
  rw [← ha] at h2 h3
  obtain ⟨R0, R', g2, e, stp⟩ := blk_step ck hL hx h0.okf hS h1
  have hT := fun r hr => (wlk_mem (firstW_wlk h1) r hr).1
  have ea := least_one (h2) (e ▸ stp.least)
  rw [e] at ea
  rw [← ea] at stp
  have e2 : g2 = g1 := by have := stp.pN; rw [← e, h3] at this; exact (Option.some.inj this).symm
  subst e2
  have hlen := stp.len; have hnd := stp.nd; have hlt := stp.lt; have hb := stp.b64
  rw [← e] at hlen hnd hlt hb
  have hax := stp.a64
  have hs := stp.srch
  rw [← e] at hs
  have hF1 := (push_flow (right_of ck) h0 (by omega) (first_walk hL h1) h3).1
  have h0R : 0 < R.length := by rw [e]; simp
  obtain ⟨r0, hr0, e0⟩ := h2.one
  refine ⟨g2, R, a, hR, ha, h0R, hlen, hax.1, by omega, hF1, h4, hs, ?_, fun j hj => ?_⟩
  · rw [List.any_eq_true]
    refine ⟨r0, hr0, ?_⟩
    rw [hS.rm r0 (hT r0 hr0), ← e0]
    simp; omega
  · have hm := getD_mem hj
    have hr := hb _ hm
    have hle : a ≤ amt RM (R.getD j 0) := by rw [hS.rm _ (hT _ hm)]; exact h2.all _ hm
    have hat : amt (lessL RM a (R.take j)) (R.getD j 0) = amt RM (R.getD j 0) := by
      rw [lessL_at (hnd.sublist (List.take_sublist _ _)) (fun r hr => by rw [hS.len]; exact hlt r (List.mem_of_mem_take hr)), if_neg (getD_notin hnd hj)]
    refine ⟨amt RM (R.getD j 0), hat, ?_, hlt _ hm, hle, hr.2, ?_⟩
    · rw [take_getD hj, lessL_snoc, hat]
    · rw [take_getD hj, List.any_append]; simp
/-- the walks rise -/
theorem blk_lex (hR : Right n) (hL : Lds n.l L TL) (hx : 1 ≤ x) (hF : Flow n f) (b : BlkW n.l TL x n.s n.t f W g) : ∀ i, i + 1 < W.length → LexLt (W.getD i ([], 0)).1 (W.getD (i + 1) ([], 0)).1 := by
  obtain ⟨s, hs⟩ : ∃ s, s = n.s := ⟨_, rfl⟩
  obtain ⟨t, ht⟩ : ∃ t, t = n.t := ⟨_, rfl⟩
  rw [← hs, ← ht] at b
  induction b with
  | nil f => intro i hi; simp at hi
  | @cons f g h R a W h1 h2 h3 h4 ih =>
    have ha := least_pos (n := n) hx h1 h2
    obtain ⟨k1, _⟩ := push_flow hR hF (by omega) (first_walk hL (by rw [hs, ht] at h1; exact h1)) h3
    intro i hi
    rcases i with _ | i
    · rcases blkW_inv h4 with ⟨e, _⟩ | ⟨R2, a2, V, g2, e, m1, _⟩
      · subst e; simp at hi
      · subst e
        exact first_next hL hx hF.len h1 h2 h3 m1
    · simpa using ih k1 i (by simpa using hi)
/-- where the later of two neighbouring walks rises above the elder -/
theorem blk_rise (hR : Right n) (hLv : IsLev n f x L) (hx : 1 ≤ x) (hF : Flow n f) (hB : IsBlk n.l (leadL n.l f x L (2 * n.l.length)) f x n.s n.t W g) : ∀ i, i + 1 < W.length → ∃ j, j < (W.getD (i + 1) ([], 0)).1.length ∧ (W.getD i ([], 0)).1.length = (W.getD (i + 1) ([], 0)).1.length ∧
    (∀ k, k < j → (W.getD i ([], 0)).1.getD k 0 = (W.getD (i + 1) ([], 0)).1.getD k 0) ∧ (W.getD i ([], 0)).1.getD j 0 < (W.getD (i + 1) ([], 0)).1.getD j 0 := fun i hi => by
  have hlong := blk_long hR hLv hB
  have hmem : ∀ k, k < W.length → W.getD k ([], 0) ∈ W := fun k hk => by rw [List.getD_eq_getElem?_getD, List.getElem?_eq_getElem hk]; exact List.getElem_mem hk
  obtain ⟨j, h1, h2, h3, h4⟩ := blk_lex hR (lds_of n.l f x L) hx hF hB.1 i hi
  have l1 := hlong _ (hmem i (by omega))
  have l2 := hlong _ (hmem (i + 1) hi)
  refine ⟨j, h2, by omega, fun k hk => ?_, h4⟩
  have := congrArg (fun l => l.getD k 0) h3
  simpa [List.getD_eq_getElem?_getD, List.getElem?_take, hk] using this
end
end Ne
end Go.Proofs.Ytdnchebbdkgccaa
