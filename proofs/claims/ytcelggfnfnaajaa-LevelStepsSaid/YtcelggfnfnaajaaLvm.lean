/-
  Plain facts on levels: how many tracks away a node is, levels that are told up to a number, tracks that lead on, nodes beside a node. No condition.
  Plain facts: there are levels; what Levels, Leads, Deep answer. No condition.
-/
import Derived.Test.YtcelggfnfnaajaaRsq
import Derived.Test.YtcelggfnfnaajaaRtm
namespace Go.Proofs.Ytcelggfnfnaajaa
open Go.ChangeShapes Go.WideShapes Go.ChangeAt Go.RowKit
set_option linter.unusedVariables false
set_option linter.unusedSimpArgs false
namespace Ne
/-- a walk of k tracks with room leads there -/
inductive Dst (n : Net) (f : List Int) (x : Int) : Nat → Int → Prop
  | base : Dst n f x 0 n.s
  | step {k r : Nat} : r < 2 * n.l.length → x ≤ roomN n.l f r → Dst n f x k (trF n.l r) → Dst n f x (k + 1) (trT n.l r)
section
variable {n : Net} {f : List Int} {x : Int}
theorem dst_bd (hR : Right n) {k : Nat} {v : Int} (h : Dst n f x k v) : 1 ≤ v ∧ v ≤ n.n := by
  cases h with
  | base => exact ⟨hR.s0, hR.s1⟩
  | step hr _ _ => exact trT_bd hR hr
theorem dst_rch {k : Nat} {v : Int} (h : Dst n f x k v) : Rch n f x v := by
  induction h with
  | base => exact .base
  | step hr hx _ ih => exact .step hr hx ih
theorem rch_dst {v : Int} (h : Rch n f x v) : ∃ k, Dst n f x k v := by
  induction h with
  | base => exact ⟨0, .base⟩
  | step hr hx _ ih => obtain ⟨k, hk⟩ := ih; exact ⟨k + 1, .step hr hx hk⟩
theorem dst_zero {v : Int} (h : Dst n f x 0 v) : v = n.s := by cases h; rfl
theorem dst_succ {k : Nat} {v : Int} (h : Dst n f x (k + 1) v) : ∃ r : Nat, r < 2 * n.l.length ∧ x ≤ roomN n.l f r ∧ Dst n f x k (trF n.l r) ∧ trT n.l r = v := by
  cases h with
  | @step _ r hr hx h => exact ⟨r, hr, hx, h, rfl⟩
theorem dst_less {y : Int} (hxy : y ≤ x) {k : Nat} {v : Int} (h : Dst n f x k v) : Dst n f y k v := by
  induction h with
  | base => exact .base
  | step hr hx _ ih => exact .step hr (by omega) ih
end
/-- levels that are told up to K -/
structure LevK (n : Net) (f : List Int) (x : Int) (K : Nat) (L : List Int) : Prop where
  len : L.length = n.n.toNat + 1
  val : ∀ i : Nat, i < n.n.toNat + 1 → amt L i = -1 ∨ ∃ k : Nat, k ≤ K ∧ amt L i = (k : Int) ∧ Dst n f x k (i : Int)
  low : ∀ (k : Nat) (v : Int), k ≤ K → Dst n f x k v → 0 ≤ amt L v.toNat ∧ amt L v.toNat ≤ (k : Int)
/-- all levels -/
structure IsLev (n : Net) (f : List Int) (x : Int) (L : List Int) : Prop where
  len : L.length = n.n.toNat + 1
  val : ∀ i : Nat, i < n.n.toNat + 1 → amt L i = -1 ∨ ∃ k : Nat, amt L i = (k : Int) ∧ Dst n f x k (i : Int)
  low : ∀ (k : Nat) (v : Int), Dst n f x k v → 0 ≤ amt L v.toNat ∧ amt L v.toNat ≤ (k : Int)
section
variable {n : Net} {f : List Int} {x : Int} {L : List Int} {K : Nat}
theorem IsLev.upto (h : IsLev n f x L) (K : Nat) (hk : ∀ i : Nat, i < n.n.toNat + 1 → amt L i ≤ (K : Int)) : LevK n f x K L :=
  ⟨h.len, fun i hi => by
    rcases h.val i hi with e | ⟨k, e, hd⟩
    · exact .inl e
    · exact .inr ⟨k, by have := hk i hi; omega, e, hd⟩, fun k v _ => h.low k v⟩
theorem levK_prev (hR : Right n) (h : LevK n f x K L) {i k : Nat} (hi : i < n.n.toNat + 1) (e : amt L i = ((k + 1 : Nat) : Int)) : ∃ r : Nat, r < 2 * n.l.length ∧ x ≤ roomN n.l f r ∧ trT n.l r = (i : Int) ∧ amt L (trF n.l r).toNat = (k : Int) := by
  rcases h.val i hi with e2 | ⟨k2, hk2, e2, hd⟩
  · omega
  · obtain rfl : k2 = k + 1 := by omega
    obtain ⟨r, hr, hx, hd2, ht⟩ := dst_succ hd
    have hb := trF_bd hR hr
    obtain ⟨h1, h2⟩ := h.low k _ (by omega) hd2
    refine ⟨r, hr, hx, ht, ?_⟩
    rcases h.val (trF n.l r).toNat (by omega) with e3 | ⟨j, hj, e3, hd3⟩
    · omega
    · by_cases c : j = k
      · rw [e3, c]
      · exfalso
        have hd4 := Dst.step hr hx (show Dst n f x j (trF n.l r) by rwa [show (((trF n.l r).toNat : Nat) : Int) = trF n.l r by omega] at hd3)
        rw [ht] at hd4
        have := (h.low (j + 1) _ (by omega) hd4).2
        rw [Int.toNat_natCast] at this
        omega
theorem levK_zero (hR : Right n) (h : LevK n f x K L) : amt L 0 = -1 := by
  rcases h.val 0 (by omega) with e | ⟨k, _, _, hd⟩
  · exact e
  · have := (dst_bd hR hd).1; omega
theorem levK_chain (hR : Right n) (h : LevK n f x K L) : ∀ (k i : Nat), i < n.n.toNat + 1 → amt L i = (k : Int) → ∃ P : List Nat, P.length = k + 1 ∧ P.Nodup ∧ ∀ p ∈ P, 1 ≤ p ∧ p < n.n.toNat + 1 ∧ amt L p ≤ (k : Int)
  | 0, i, hi, e => ⟨[i], rfl, by simp, fun p hp => by
      simp at hp; subst hp
      refine ⟨?_, hi, by omega⟩
      rcases Nat.eq_zero_or_pos p with h0 | h0
      · subst h0; have := levK_zero hR h; omega
      · exact h0⟩
  | k + 1, i, hi, e => by
    obtain ⟨r, hr, hx, ht, e2⟩ := levK_prev hR h hi e
    have hb := trF_bd hR hr
    obtain ⟨P, h1, h2, h3⟩ := levK_chain hR h k _ (by omega) e2
    refine ⟨i :: P, by simp [h1], List.nodup_cons.2 ⟨fun hm => by have := (h3 i hm).2.2; omega, h2⟩, fun p hp => ?_⟩
    rcases List.mem_cons.1 hp with e3 | hp
    · subst e3
      have hb2 := trT_bd hR hr
      exact ⟨by omega, hi, by omega⟩
    · have := h3 p hp; exact ⟨this.1, this.2.1, by omega⟩
theorem levK_lt (hR : Right n) (h : LevK n f x K L) {k i : Nat} (hi : i < n.n.toNat + 1) (e : amt L i = (k : Int)) : k < n.n.toNat := by
  obtain ⟨P, h1, h2, h3⟩ := levK_chain hR h k i hi e
  have := nodup_len (L := n.n.toNat + 1) (R := 0 :: P) (List.nodup_cons.2 ⟨fun hm => by have := (h3 0 hm).1; omega, h2⟩) (fun q hq => by
    rcases List.mem_cons.1 hq with e | hq
    · omega
    · exact (h3 q hq).2.1)
  simp at this
  omega
theorem levK_end (hR : Right n) (h : LevK n f x K L) (hK : ∀ i : Nat, i < n.n.toNat + 1 → amt L i ≠ (K : Int)) : IsLev n f x L := by
  refine ⟨h.len, fun i hi => ?_, fun k v hd => ?_⟩
  · rcases h.val i hi with e | ⟨k, _, e, hd⟩
    · exact .inl e
    · exact .inr ⟨k, e, hd⟩
  · induction hd with
    | base => exact h.low 0 _ (by omega) .base
    | @step k r hr hx hd ih =>
      have hb := trF_bd hR hr
      rcases h.val (trF n.l r).toNat (by omega) with e3 | ⟨j, hj, e3, hd3⟩
      · omega
      · have hne := hK (trF n.l r).toNat (by omega)
        have hd4 := Dst.step hr hx (show Dst n f x j (trF n.l r) by rwa [show (((trF n.l r).toNat : Nat) : Int) = trF n.l r by omega] at hd3)
        have h5 := h.low (j + 1) _ (by omega) hd4
        exact ⟨h5.1, by omega⟩
theorem levK_all (hR : Right n) (h : LevK n f x n.n.toNat L) : IsLev n f x L :=
  levK_end hR h fun i hi e => by have := levK_lt hR h hi e; omega
theorem amt_repl (N : Nat) (a : Int) {i : Nat} (h : i < N) : amt (List.replicate N a) i = a := by simp [amt, h]
/-- levels at the start -/
def lev0 (n : Net) : List Int := (List.replicate (n.n.toNat + 1) (-1)).set n.s.toNat 0
theorem lev0_at (hR : Right n) (i : Nat) (hi : i < n.n.toNat + 1) : amt (lev0 n) i = if i = n.s.toNat then 0 else -1 := by
  have := hR.s0; have := hR.s1
  unfold lev0
  rw [amt_set _ (by simp; omega), amt_repl _ _ hi]
theorem levK_start (hR : Right n) (f : List Int) (x : Int) : LevK n f x 0 (lev0 n) := by
  have := hR.s0; have := hR.s1
  refine ⟨by simp [lev0], fun i hi => ?_, fun k v hk hd => ?_⟩
  · rw [lev0_at hR i hi]
    by_cases e : i = n.s.toNat
    · rw [if_pos e]; exact .inr ⟨0, Nat.le_refl _, rfl, by rw [show (i : Int) = n.s by omega]; exact .base⟩
    · rw [if_neg e]; exact .inl rfl
  · obtain rfl : k = 0 := by omega
    rw [dst_zero hd, lev0_at hR _ (by omega), if_pos rfl]; exact ⟨by omega, by omega⟩
/-- how many nodes have no level -/
def unl (L : List Int) : Nat := L.countP (fun a => decide (a = -1))
theorem unl_set {L : List Int} {i : Nat} (hi : i < L.length) (h : amt L i = -1) {y : Int} (hy : 0 ≤ y) : unl (L.set i y) + 1 = unl L := by
  unfold unl
  have he : L[i] = -1 := by unfold amt at h; simpa [hi] using h
  rw [List.countP_set hi]
  have : 0 < L.countP (fun a => decide (a = -1)) := by
    rw [List.countP_pos_iff]; exact ⟨L[i], List.getElem_mem hi, by simpa using he⟩
  simp [he, show ¬ y = -1 by omega]
  omega
theorem unl_le (L : List Int) : unl L ≤ L.length := List.countP_le_length
/-- levels up to K, and those of K + 1 that were met -/
structure LevM (n : Net) (f : List Int) (x : Int) (K : Nat) (L : List Int) (M : List Nat) : Prop where
  len : L.length = n.n.toNat + 1
  val : ∀ i : Nat, i < n.n.toNat + 1 → amt L i = -1 ∨ ∃ k : Nat, k ≤ K + 1 ∧ amt L i = (k : Int) ∧ Dst n f x k (i : Int)
  low : ∀ (k : Nat) (v : Int), k ≤ K → Dst n f x k v → 0 ≤ amt L v.toNat ∧ amt L v.toNat ≤ (k : Int)
  met : ∀ i : Nat, i ∈ M ↔ i < n.n.toNat + 1 ∧ amt L i = ((K + 1 : Nat) : Int)
  few : M.length + unl L ≤ n.n.toNat + 1
theorem levM_start (h : LevK n f x K L) : LevM n f x K L [] := by
  refine ⟨h.len, fun i hi => ?_, h.low, fun i => ⟨fun hm => by simp at hm, fun ⟨hi, e⟩ => ?_⟩, by have := unl_le L; rw [h.len] at this; simpa using this⟩
  · rcases h.val i hi with e | ⟨k, hk, e, hd⟩
    · exact .inl e
    · exact .inr ⟨k, by omega, e, hd⟩
  · exfalso
    rcases h.val i hi with e2 | ⟨k, hk, e2, hd⟩ <;> omega
theorem levM_put {M : List Nat} (h : LevM n f x K L M) {t : Nat} (ht : t < n.n.toNat + 1) (h1 : amt L t = -1) (hd : Dst n f x (K + 1) (t : Int)) : LevM n f x K (L.set t ((K + 1 : Nat) : Int)) (M ++ [t]) := by
  have hl : t < L.length := by rw [h.len]; exact ht
  have hg := fun j => amt_set (((K + 1 : Nat) : Int)) hl j
  refine ⟨by simp [h.len], fun i hi => ?_, fun k v hk hv => ?_, fun i => ?_, ?_⟩
  · rw [hg]
    by_cases e : i = t
    · subst e; rw [if_pos rfl]; exact .inr ⟨K + 1, Nat.le_refl _, rfl, hd⟩
    · rw [if_neg e]; exact h.val i hi
  · rw [hg]
    have h2 := h.low k v hk hv
    by_cases e : v.toNat = t
    · rw [e] at h2; omega
    · rw [if_neg e]; exact h2
  · rw [hg, List.mem_append, h.met i]
    by_cases e : i = t
    · subst e; simp [ht]
    · simp [e]
  · have := unl_set hl h1 (y := ((K + 1 : Nat) : Int)) (by omega)
    have := h.few
    simp only [List.length_append, List.length_singleton]
    omega
theorem levM_end {M : List Nat} (hR : Right n) (h : LevM n f x K L M) (hc : ∀ r : Nat, r < 2 * n.l.length → x ≤ roomN n.l f r → amt L (trF n.l r).toNat = (K : Int) → 0 ≤ amt L (trT n.l r).toNat) : LevK n f x (K + 1) L := by
  refine ⟨h.len, h.val, fun k v hk hv => ?_⟩
  by_cases c : k ≤ K
  · exact h.low k v c hv
  · obtain rfl : k = K + 1 := by omega
    obtain ⟨r, hr, hx, hd, rfl⟩ := dst_succ hv
    have hb := trF_bd hR hr
    have hb2 := trT_bd hR hr
    have h1 := h.low K _ (Nat.le_refl _) hd
    rcases h.val (trF n.l r).toNat (by omega) with e | ⟨j, hj, e, hd2⟩
    · omega
    · by_cases ej : j = K
      · subst ej
        refine ⟨hc r hr hx e, ?_⟩
        rcases h.val (trT n.l r).toNat (by omega) with e2 | ⟨j2, hj2, e2, _⟩ <;> omega
      · have hd4 := Dst.step hr hx (show Dst n f x j (trF n.l r) by rwa [show (((trF n.l r).toNat : Nat) : Int) = trF n.l r by omega] at hd2)
        have := h.low (j + 1) _ (by omega) hd4
        exact ⟨this.1, by omega⟩
theorem levM_keep {M : List Nat} (h : LevM n f x K L M) {t j : Nat} (ht : t < n.n.toNat + 1) (h1 : amt L t = -1) (hj : 0 ≤ amt L j) : 0 ≤ amt (L.set t ((K + 1 : Nat) : Int)) j := by
  rw [amt_set _ (by rw [h.len]; exact ht)]; split <;> omega
end
section
variable {n : Net} {f : List Int} {x : Int} {L : List Int}
theorem lev_node (h : IsLev n f x L) {i : Nat} (hi : i < n.n.toNat + 1) (h0 : 0 ≤ amt L i) : ∃ k : Nat, amt L i = (k : Int) ∧ Dst n f x k (i : Int) := by
  rcases h.val i hi with e | ⟨k, e, hd⟩
  · omega
  · exact ⟨k, e, hd⟩
theorem lev_prev (hR : Right n) (h : IsLev n f x L) {i k : Nat} (hi : i < n.n.toNat + 1) (e : amt L i = ((k + 1 : Nat) : Int)) : ∃ r : Nat, r < 2 * n.l.length ∧ x ≤ roomN n.l f r ∧ trT n.l r = (i : Int) ∧ amt L (trF n.l r).toNat = (k : Int) := by
  rcases h.val i hi with e2 | ⟨k2, e2, hd⟩
  · omega
  · obtain rfl : k2 = k + 1 := by omega
    obtain ⟨r, hr, hx, hd2, ht⟩ := dst_succ hd
    have hb := trF_bd hR hr
    obtain ⟨h1, h2⟩ := h.low k _ hd2
    refine ⟨r, hr, hx, ht, ?_⟩
    rcases h.val (trF n.l r).toNat (by omega) with e3 | ⟨j, e3, hd3⟩
    · omega
    · by_cases c : j = k
      · rw [e3, c]
      · exfalso
        have hd4 := Dst.step hr hx (show Dst n f x j (trF n.l r) by rwa [show (((trF n.l r).toNat : Nat) : Int) = trF n.l r by omega] at hd3)
        rw [ht] at hd4
        have := (h.low (j + 1) _ hd4).2
        rw [Int.toNat_natCast] at this
        omega
theorem lev_zero (hR : Right n) (h : IsLev n f x L) : amt L 0 = -1 := by
  rcases h.val 0 (by omega) with e | ⟨k, _, hd⟩
  · exact e
  · have := (dst_bd hR hd).1; omega
theorem lev_chain (hR : Right n) (h : IsLev n f x L) : ∀ (k i : Nat), i < n.n.toNat + 1 → amt L i = (k : Int) → ∃ P : List Nat, P.length = k + 1 ∧ P.Nodup ∧ (∀ p ∈ P, 1 ≤ p ∧ p < n.n.toNat + 1 ∧ amt L p ≤ (k : Int)) ∧ ∀ j, j ≤ k → ∃ p ∈ P, amt L p = (j : Int)
  | 0, i, hi, e => ⟨[i], rfl, by simp, fun p hp => by
      simp at hp; subst hp
      refine ⟨?_, hi, by omega⟩
      rcases Nat.eq_zero_or_pos p with h0 | h0
      · subst h0; have := lev_zero hR h; omega
      · exact h0, fun j hj => ⟨i, by simp, by rw [e]; omega⟩⟩
  | k + 1, i, hi, e => by
    obtain ⟨r, hr, hx, ht, e2⟩ := lev_prev hR h hi e
    have hb := trF_bd hR hr
    obtain ⟨P, h1, h2, h3, h4⟩ := lev_chain hR h k _ (by omega) e2
    refine ⟨i :: P, by simp [h1], List.nodup_cons.2 ⟨fun hm => by have := (h3 i hm).2.2; omega, h2⟩, fun p hp => ?_, fun j hj => ?_⟩
    · rcases List.mem_cons.1 hp with e3 | hp
      · subst e3
        have hb2 := trT_bd hR hr
        exact ⟨by omega, hi, by omega⟩
      · have := h3 p hp; exact ⟨this.1, this.2.1, by omega⟩
    · by_cases c : j = k + 1
      · exact ⟨i, by simp, by rw [e, c]⟩
      · obtain ⟨p, hp, e5⟩ := h4 j (by omega)
        exact ⟨p, List.mem_cons_of_mem _ hp, e5⟩
theorem lev_lt (hR : Right n) (h : IsLev n f x L) {i : Nat} (hi : i < n.n.toNat + 1) : -1 ≤ amt L i ∧ amt L i < n.n := by
  have hn := hR.n0
  rcases h.val i hi with e | ⟨k, e, hd⟩
  · omega
  · obtain ⟨P, h1, h2, h3, _⟩ := lev_chain hR h k i hi e
    have := nodup_len (L := n.n.toNat + 1) (R := 0 :: P) (List.nodup_cons.2 ⟨fun hm => by have := (h3 0 hm).1; omega, h2⟩) (fun q hq => by
      rcases List.mem_cons.1 hq with e | hq
      · omega
      · exact (h3 q hq).2.1)
    simp at this
    omega
theorem lev_src (hR : Right n) (h : IsLev n f x L) : amt L n.s.toNat = 0 := by have := h.low 0 _ .base; omega
theorem lev_only (hR : Right n) (h : IsLev n f x L) {i : Nat} (hi : i < n.n.toNat + 1) (e : amt L i = 0) : (i : Int) = n.s := by
  obtain ⟨k, e2, hd⟩ := lev_node h hi (by omega)
  obtain rfl : k = 0 := by omega
  exact dst_zero hd
theorem lev_next (hR : Right n) (h : IsLev n f x L) {r : Nat} (hr : r < 2 * n.l.length) (hx : x ≤ roomN n.l f r) (h0 : 0 ≤ amt L (trF n.l r).toNat) : 0 ≤ amt L (trT n.l r).toNat ∧ amt L (trT n.l r).toNat ≤ amt L (trF n.l r).toNat + 1 := by
  have hb := trF_bd hR hr
  obtain ⟨k, e, hd⟩ := lev_node h (i := (trF n.l r).toNat) (by omega) h0
  have := h.low (k + 1) _ (.step hr hx (show Dst n f x k (trF n.l r) by rwa [show (((trF n.l r).toNat : Nat) : Int) = trF n.l r by omega] at hd))
  omega
theorem lev_rch (hR : Right n) (h : IsLev n f x L) {i : Nat} (hi : i < n.n.toNat + 1) : 0 ≤ amt L i ↔ Rch n f x (i : Int) := by
  refine ⟨fun h0 => ?_, fun hv => ?_⟩
  · obtain ⟨k, _, hd⟩ := lev_node h hi h0; exact dst_rch hd
  · obtain ⟨k, hd⟩ := rch_dst hv
    have := (h.low k _ hd).1
    rwa [Int.toNat_natCast] at this
theorem lev_one (hR : Right n) {L2 : List Int} (h1 : IsLev n f x L) (h2 : IsLev n f x L2) : L = L2 := by
  have one : ∀ (A B : List Int), IsLev n f x A → IsLev n f x B → ∀ i : Nat, i < n.n.toNat + 1 → 0 ≤ amt A i → 0 ≤ amt B i ∧ amt B i ≤ amt A i := fun A B hA hB i hi h0 => by
    obtain ⟨k, e, hd⟩ := lev_node hA hi h0
    have := hB.low k _ hd
    rw [Int.toNat_natCast] at this
    omega
  apply List.ext_getElem (by rw [h1.len, h2.len])
  intro i g1 g2
  have hi : i < n.n.toNat + 1 := by rw [← h1.len]; exact g1
  have a := one L L2 h1 h2 i hi
  have b := one L2 L h2 h1 i hi
  have c1 := (lev_lt hR h1 hi).1
  have c2 := (lev_lt hR h2 hi).1
  have e : amt L i = amt L2 i := by
    by_cases c : 0 ≤ amt L i
    · have := a c; have := b this.1; omega
    · by_cases d : 0 ≤ amt L2 i
      · have := b d; omega
      · omega
  simpa [amt, g1, g2] using e
end
/-- the tracks with room, the tracks that lead on, among the first k -/
def wideL (l : List Arc) (f : List Int) (x : Int) (k : Nat) : List Nat := (List.range k).filter fun r => decide (x ≤ roomN l f r)
def leadB (l : List Arc) (f : List Int) (x : Int) (L : List Int) (r : Nat) : Bool := decide (x ≤ roomN l f r) && (decide (0 ≤ amt L (trF l r).toNat) && decide (amt L (trT l r).toNat = amt L (trF l r).toNat + 1))
def leadL (l : List Arc) (f : List Int) (x : Int) (L : List Int) (k : Nat) : List Nat := (List.range k).filter (leadB l f x L)
theorem wideL_hit {l : List Arc} {f : List Int} {x : Int} {k : Nat} (h : x ≤ roomN l f k) : wideL l f x (k + 1) = wideL l f x k ++ [k] := by
  unfold wideL; rw [List.range_succ, List.filter_append]; simp [h]
theorem wideL_miss {l : List Arc} {f : List Int} {x : Int} {k : Nat} (h : ¬ x ≤ roomN l f k) : wideL l f x (k + 1) = wideL l f x k := by
  unfold wideL; rw [List.range_succ, List.filter_append]; simp [h]
theorem wideL_len (l : List Arc) (f : List Int) (x : Int) (k : Nat) : (wideL l f x k).length ≤ k := by
  unfold wideL; exact Nat.le_trans (List.length_filter_le _ _) (by simp)
theorem wideL_mem {l : List Arc} {f : List Int} {x : Int} {k r : Nat} : r ∈ wideL l f x k ↔ r < k ∧ x ≤ roomN l f r := by
  unfold wideL; rw [List.mem_filter, List.mem_range, decide_eq_true_eq]
theorem leadL_hit {l : List Arc} {f : List Int} {x : Int} {L : List Int} {k : Nat} (h : leadB l f x L k = true) : leadL l f x L (k + 1) = leadL l f x L k ++ [k] := by
  unfold leadL; rw [List.range_succ, List.filter_append]; simp [h]
theorem leadL_miss {l : List Arc} {f : List Int} {x : Int} {L : List Int} {k : Nat} (h : leadB l f x L k = false) : leadL l f x L (k + 1) = leadL l f x L k := by
  unfold leadL; rw [List.range_succ, List.filter_append]; simp [h]
theorem leadL_len (l : List Arc) (f : List Int) (x : Int) (L : List Int) (k : Nat) : (leadL l f x L k).length ≤ k := by
  unfold leadL; exact Nat.le_trans (List.length_filter_le _ _) (by simp)
theorem leadL_mem {l : List Arc} {f : List Int} {x : Int} {L : List Int} {k r : Nat} : r ∈ leadL l f x L k ↔ r < k ∧ x ≤ roomN l f r ∧ 0 ≤ amt L (trF l r).toNat ∧ amt L (trT l r).toNat = amt L (trF l r).toNat + 1 := by
  unfold leadL leadB; rw [List.mem_filter, List.mem_range]; simp
theorem leadL_lt {l : List Arc} {f : List Int} {x : Int} {L : List Int} {k i : Nat} (h : i + 1 < (leadL l f x L k).length) : (leadL l f x L k).getD i 0 < (leadL l f x L k).getD (i + 1) 0 := by
  have hp : (leadL l f x L k).Pairwise (· < ·) := List.Pairwise.filter _ List.pairwise_lt_range
  have := List.pairwise_iff_getElem.1 hp i (i + 1) (by omega) h (by omega)
  simpa [List.getD_eq_getElem?_getD, List.getElem?_eq_getElem h, List.getElem?_eq_getElem (show i < (leadL l f x L k).length by omega)] using this
/-- tracks of T that lead on, as the program sifts them out of the tracks with room -/
def leadT (l : List Arc) (L : List Int) (T : List Nat) : List Nat := T.filter fun r => decide (0 ≤ amt L (trF l r).toNat) && decide (amt L (trT l r).toNat = amt L (trF l r).toNat + 1)
theorem leadT_all (l : List Arc) (f : List Int) (x : Int) (L : List Int) (k : Nat) : leadT l L (wideL l f x k) = leadL l f x L k := by
  unfold leadT wideL leadL leadB
  rw [List.filter_filter]
  congr 1; funext r
  rw [Bool.and_comm]
theorem leadT_snoc (l : List Arc) (L : List Int) (T : List Nat) (r : Nat) : leadT l L (T ++ [r]) = leadT l L T ++ if (decide (0 ≤ amt L (trF l r).toNat) && decide (amt L (trT l r).toNat = amt L (trF l r).toNat + 1)) = true then [r] else [] := by
  unfold leadT; rw [List.filter_append]
  congr 1
  rw [List.filter_cons]; split <;> simp_all
theorem leadT_len (l : List Arc) (L : List Int) (T : List Nat) : (leadT l L T).length ≤ T.length := by
  unfold leadT; exact List.length_filter_le _ _
/-- the nodes to which tracks of T go from v -/
def nbL (l : List Arc) (T : List Nat) (v : Nat) : List Nat := (T.filter fun r => decide ((trF l r).toNat = v)).map fun r => (trT l r).toNat
theorem nbL_snoc (l : List Arc) (T : List Nat) (r v : Nat) : nbL l (T ++ [r]) v = if v = (trF l r).toNat then nbL l T v ++ [(trT l r).toNat] else nbL l T v := by
  unfold nbL; rw [List.filter_append, List.map_append]
  by_cases e : v = (trF l r).toNat
  · rw [if_pos e]; subst e; simp
  · rw [if_neg e]; simp [Ne.symm e]
theorem nbL_len (l : List Arc) (T : List Nat) (v : Nat) : (nbL l T v).length ≤ T.length := by
  unfold nbL; rw [List.length_map]; exact List.length_filter_le _ _
theorem nbL_mem {l : List Arc} {T : List Nat} {v t : Nat} : t ∈ nbL l T v ↔ ∃ r ∈ T, (trF l r).toNat = v ∧ (trT l r).toNat = t := by
  unfold nbL; rw [List.mem_map]
  constructor
  · rintro ⟨r, h, e⟩; rw [List.mem_filter, decide_eq_true_eq] at h; exact ⟨r, h.1, h.2, e⟩
  · rintro ⟨r, h1, h2, e⟩; exact ⟨r, by rw [List.mem_filter, decide_eq_true_eq]; exact ⟨h1, h2⟩, e⟩
end Ne
end Go.Proofs.Ytcelggfnfnaajaa
namespace Go.Proofs.Ytcelggfnfnaajaa
open Go.ChangeShapes Go.WideShapes Go.ChangeAt Go.RowKit
set_option linter.unusedVariables false
set_option linter.unusedSimpArgs false
namespace Ne
theorem least_of {p : Nat → Prop} (h : ∃ k, p k) : ∃ k, p k ∧ ∀ j, p j → k ≤ j := by
  obtain ⟨k, hk⟩ := h
  induction k using Nat.strongRecOn with
  | ind k ih =>
    by_cases c : ∃ j, j < k ∧ p j
    · obtain ⟨j, hj, hp⟩ := c; exact ih j hj hp
    · exact ⟨k, hk, fun j hj => by
        rcases Nat.lt_or_ge j k with h | h
        · exact absurd ⟨j, h, hj⟩ c
        · exact h⟩
theorem lev_exists {n : Net} (hR : Right n) (f : List Int) (x : Int) : ∃ L, IsLev n f x L := by
  have h : ∀ i : Nat, ∃ a : Int, (a = -1 ∧ ¬ ∃ k, Dst n f x k (i : Int)) ∨ ∃ k : Nat, a = (k : Int) ∧ Dst n f x k (i : Int) ∧ ∀ j, Dst n f x j (i : Int) → k ≤ j := fun i => by
    by_cases c : ∃ k, Dst n f x k (i : Int)
    · obtain ⟨k, h1, h2⟩ := least_of c; exact ⟨k, .inr ⟨k, rfl, h1, h2⟩⟩
    · exact ⟨-1, .inl ⟨rfl, c⟩⟩
  obtain ⟨g, hg⟩ := Classical.axiomOfChoice h
  have ha : ∀ i, i < n.n.toNat + 1 → amt ((List.range (n.n.toNat + 1)).map g) i = g i := fun i hi => by simp [amt, hi]
  refine ⟨(List.range (n.n.toNat + 1)).map g, by simp, fun i hi => ?_, fun k v hd => ?_⟩
  · rw [ha i hi]
    rcases hg i with ⟨e, _⟩ | ⟨k, e, hd, _⟩
    · exact .inl e
    · exact .inr ⟨k, e, hd⟩
  · have hb := dst_bd hR hd
    rw [ha _ (by omega)]
    have hd' : Dst n f x k ((v.toNat : Nat) : Int) := by rwa [show ((v.toNat : Nat) : Int) = v by omega]
    rcases hg v.toNat with ⟨_, e⟩ | ⟨j, e, _, hm⟩
    · exact absurd ⟨k, hd'⟩ e
    · have := hm k hd'; omega
def lvV (n : Net) (f : List Int) (x : Int) (L : List Int) : List Int := if reE n f x ≠ 0 then [] else L
def ldV (n : Net) (f : List Int) (x : Int) (L : List Int) : List Nat := if reE n f x ≠ 0 then [] else leadL n.l f x L (2 * n.l.length)
def dpV (n : Net) (f : List Int) (x : Int) (L : List Int) : Int := if reE n f x ≠ 0 then 0 else amt L n.t.toNat
theorem lvV_bad {n : Net} {f : List Int} {x : Int} {L : List Int} (h : reE n f x ≠ 0) : lvV n f x L = [] ∧ ldV n f x L = [] ∧ dpV n f x L = 0 := by
  unfold lvV ldV dpV; rw [if_pos h, if_pos h, if_pos h]; exact ⟨rfl, rfl, rfl⟩
theorem lvV_ok {n : Net} {f : List Int} {x : Int} {L : List Int} (h : reE n f x = 0) : lvV n f x L = L ∧ ldV n f x L = leadL n.l f x L (2 * n.l.length) ∧ dpV n f x L = amt L n.t.toNat := by
  unfold lvV ldV dpV; rw [if_neg (by simpa using h), if_neg (by simpa using h), if_neg (by simpa using h)]; exact ⟨rfl, rfl, rfl⟩
/-- levels up to k, and what the tracks ahead of r tell of those of k + 1 -/
def LevR (n : Net) (f : List Int) (x : Int) (k r : Nat) (L : List Int) : Prop := ∃ M, LevM n f x k L M ∧ ∀ q : Nat, q < r → x ≤ roomN n.l f q → amt L (trF n.l q).toNat = (k : Int) → 0 ≤ amt L (trT n.l q).toNat
section
variable {n : Net} {f : List Int} {x : Int} {k r : Nat} {L : List Int}
theorem levR_start (h : LevK n f x k L) : LevR n f x k 0 L := ⟨[], levM_start h, fun q hq => absurd hq (by omega)⟩
theorem levR_len (h : LevR n f x k r L) : L.length = n.n.toNat + 1 := by obtain ⟨M, h, _⟩ := h; exact h.len
theorem levR_skip (h : LevR n f x k r L) (h1 : x ≤ roomN n.l f r → amt L (trF n.l r).toNat = (k : Int) → 0 ≤ amt L (trT n.l r).toNat) : LevR n f x k (r + 1) L := by
  obtain ⟨M, hM, hd⟩ := h
  refine ⟨M, hM, fun q hq hx e => ?_⟩
  by_cases c : q = r
  · subst c; exact h1 hx e
  · exact hd q (by omega) hx e
theorem levR_put (hR : Right n) (h : LevR n f x k r L) (hr : r < 2 * n.l.length) (hx : x ≤ roomN n.l f r) (h1 : amt L (trF n.l r).toNat = (k : Int)) (h2 : amt L (trT n.l r).toNat < 0) : LevR n f x k (r + 1) (L.set (trT n.l r).toNat ((k : Int) + 1)) := by
  obtain ⟨M, hM, hd⟩ := h
  have hb := trF_bd hR hr; have hb2 := trT_bd hR hr
  have ht : (trT n.l r).toNat < n.n.toNat + 1 := by omega
  have h3 : amt L (trT n.l r).toNat = -1 := by rcases hM.val _ ht with e | ⟨j, _, e, _⟩ <;> omega
  have hD : Dst n f x (k + 1) (((trT n.l r).toNat : Nat) : Int) := by
    rw [show (((trT n.l r).toNat : Nat) : Int) = trT n.l r by omega]
    refine .step hr hx ?_
    rcases hM.val (trF n.l r).toNat (by omega) with e | ⟨j, _, e, hj⟩
    · omega
    · obtain rfl : j = k := by omega
      rwa [show (((trF n.l r).toNat : Nat) : Int) = trF n.l r by omega] at hj
  refine ⟨M ++ [(trT n.l r).toNat], levM_put hM ht h3 hD, fun q hq hxq e => ?_⟩
  have e1 : ((k : Int) + 1) = ((k + 1 : Nat) : Int) := by omega
  rw [e1] at e ⊢
  by_cases c : q = r
  · subst c
    rw [amt_set _ (by rw [hM.len]; exact ht), if_pos rfl]; omega
  · refine levM_keep hM ht h3 (hd q (by omega) hxq ?_)
    rw [amt_set _ (by rw [hM.len]; exact ht)] at e
    by_cases c2 : (trF n.l q).toNat = (trT n.l r).toNat
    · rw [if_pos c2] at e; omega
    · rw [if_neg c2] at e; exact e
theorem levR_end (hR : Right n) (h : LevR n f x k (2 * n.l.length) L) : LevK n f x (k + 1) L := by
  obtain ⟨M, hM, hd⟩ := h
  exact levM_end hR hM fun r hr hx e => hd r hr hx e
end
end Ne
end Go.Proofs.Ytcelggfnfnaajaa
