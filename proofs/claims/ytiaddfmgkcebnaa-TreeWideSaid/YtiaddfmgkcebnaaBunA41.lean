/-
  Tch, Twd
-/
import Derived.Test.YtiaddfmgkcebnaaBunA39
namespace Go.Proofs.Ytiaddfmgkcebnaa
open Go.ChangeShapes Go.WideShapes Go.ChangeAt Go.RowKit
set_option linter.unusedVariables false
set_option linter.unusedSimpArgs false
namespace Tc
def capC (cs : List Int) (i : Nat) : Int := Ne.pickN (Ne.amt cs i) 100
def arcsL (cs : List Int) (k : Nat) : List Ne.Arc := (List.range k).map fun i : Nat => ⟨(i : Int) + 1, (i : Int) + 2, capC cs i⟩
def minC (cs : List Int) : Nat → Int
  | 0 => 1099511627776
  | k + 1 => min (minC cs k) (capC cs k)
def want (cs : List Int) (x : Int) (m : Nat) : Int := if minC cs m < x then 0 else minC cs m
def partL (m : Nat) (v : Int) (j : Nat) : List Int := (List.range m).map fun i => if i < j then v else 0
def walk (j n : Nat) : List Nat := (List.range' j n).map (2 * ·)
theorem arcs_len (cs : List Int) (k : Nat) : (arcsL cs k).length = k := by simp [arcsL]
theorem arcs_succ (cs : List Int) (k : Nat) : arcsL cs (k + 1) = arcsL cs k ++ [⟨(k : Int) + 1, (k : Int) + 2, capC cs k⟩] := by simp [arcsL, List.range_succ]
theorem arcs_at (cs : List Int) {k i : Nat} (h : i < k) : Ne.arcAt (arcsL cs k) i = ⟨(i : Int) + 1, (i : Int) + 2, capC cs i⟩ := by simp [arcsL, Ne.arcAt, h]
theorem part_len (m : Nat) (v : Int) (j : Nat) : (partL m v j).length = m := by simp [partL]
theorem part_at {m : Nat} {v : Int} {j i : Nat} (h : i < m) : Ne.amt (partL m v j) i = if i < j then v else 0 := by simp [partL, Ne.amt, h]
theorem part_zero (m : Nat) (v : Int) : partL m v 0 = List.replicate m 0 := by simp [partL, List.map_const']
theorem rep_at {m i : Nat} (v : Int) (h : i < m) : Ne.amt (List.replicate m v) i = v := by simp [Ne.amt, h]
theorem part_full (m : Nat) (v : Int) : partL m v m = List.replicate m v := by
  refine List.ext_getElem (by rw [part_len]; simp) fun i h1 h2 => ?_
  rw [part_len] at h1
  simp [partL, h1]
theorem nul_at (m i : Nat) : Ne.amt (List.replicate m 0) i = 0 := by
  unfold Ne.amt
  by_cases h : i < m
  · simp [h]
  · simp [List.getElem?_eq_none, h]
theorem cap_bd (cs : List Int) (i : Nat) : 0 ≤ capC cs i ∧ capC cs i < 100 := Ne.pickN_bd (by omega)
theorem min_le (cs : List Int) : ∀ k i, i < k → minC cs k ≤ capC cs i
  | 0, i, h => absurd h (by omega)
  | k + 1, i, h => by
    unfold minC
    by_cases c : i = k
    · subst c; omega
    · have := min_le cs k i (by omega); omega
theorem min_is (cs : List Int) : ∀ k, 1 ≤ k → ∃ i, i < k ∧ minC cs k = capC cs i
  | 0, h => absurd h (by omega)
  | k + 1, _ => by
    unfold minC
    by_cases c : k = 0
    · subst c
      refine ⟨0, by omega, ?_⟩
      have := cap_bd cs 0
      show min (1099511627776 : Int) _ = _
      omega
    · obtain ⟨i, hi, e⟩ := min_is cs k (by omega)
      by_cases d : minC cs k ≤ capC cs k
      · exact ⟨i, by omega, by omega⟩
      · exact ⟨k, by omega, by omega⟩
theorem min_bd (cs : List Int) (k : Nat) : 0 ≤ minC cs k ∧ minC cs k ≤ 1099511627776 := by
  induction k with
  | zero => exact ⟨by unfold minC; omega, by unfold minC; omega⟩
  | succ k ih => have := cap_bd cs k; unfold minC; omega
section
variable {cs : List Int} {x : Int} {m : Nat}
theorem check (hm : 1 ≤ m) (hm2 : m ≤ 60) : Ne.checkN ⟨(m : Int) + 1, 1, (m : Int) + 1, arcsL cs m⟩ = 0 := by
  refine Ne.checkN_fine ⟨by simp only; omega, by simp only; omega, by simp only; omega, by simp only; omega, by simp only; omega, by simp only; omega, by simp only; omega, by simp only [arcs_len]; omega⟩ fun a ha => ?_
  simp only at ha ⊢
  obtain ⟨i, hi, rfl⟩ := List.mem_map.1 ha
  rw [List.mem_range] at hi
  have := cap_bd cs i
  exact ⟨(Ne.isNode_iff _ _).2 (by simp only; omega), (Ne.isNode_iff _ _).2 (by simp only; omega), by simp only; omega, by simp only; omega⟩
theorem even {g : List Int} {i : Nat} (h : i < m) : Ne.trF (arcsL cs m) (2 * i) = (i : Int) + 1 ∧ Ne.trT (arcsL cs m) (2 * i) = (i : Int) + 2 ∧ Ne.roomN (arcsL cs m) g (2 * i) = capC cs i - Ne.amt g i := by
  rw [Ne.trF_even, Ne.trT_even, Ne.room_even, arcs_at cs h]
  exact ⟨rfl, rfl, rfl⟩
theorem odd {g : List Int} {i : Nat} (h : i < m) : Ne.trF (arcsL cs m) (2 * i + 1) = (i : Int) + 2 ∧ Ne.trT (arcsL cs m) (2 * i + 1) = (i : Int) + 1 := by
  rw [Ne.trF_odd, Ne.trT_odd, arcs_at cs h]
  exact ⟨rfl, rfl⟩
theorem cut {g : List Int} {i0 r : Nat} (hi : i0 < m) (hr : r < 2 * m) (h0 : Ne.roomN (arcsL cs m) g (2 * i0) < x) (hx : x ≤ Ne.roomN (arcsL cs m) g r) (hf : Ne.trF (arcsL cs m) r ≤ (i0 : Int) + 1) : Ne.trT (arcsL cs m) r ≤ (i0 : Int) + 1 := by
  by_cases c : r % 2 = 1
  · obtain ⟨i, rfl⟩ : ∃ i, r = 2 * i + 1 := ⟨r / 2, by omega⟩
    obtain ⟨e1, e2⟩ := odd (cs := cs) (g := g) (show i < m by omega)
    rw [e1] at hf; rw [e2]; omega
  · obtain ⟨i, rfl⟩ : ∃ i, r = 2 * i := ⟨r / 2, by omega⟩
    obtain ⟨e1, e2, _⟩ := even (cs := cs) (g := g) (show i < m by omega)
    rw [e1] at hf; rw [e2]
    by_cases d : i = i0
    · subst d; omega
    · omega
theorem no_walk {TL : List Nat} (hT : ∀ r ∈ TL, r < 2 * m) {g : List Int} {i0 : Nat} (hi : i0 < m) (h0 : Ne.roomN (arcsL cs m) g (2 * i0) < x) {t : Int} : ∀ (R : List Nat) (u : Int), Ne.Wlk (arcsL cs m) TL g x u R t → u ≤ (i0 : Int) + 1 → t ≤ (i0 : Int) + 1
  | [], u, h, hu => by
    rcases Ne.wlk_inv h with ⟨_, rfl⟩ | ⟨_, _, e, _⟩
    · exact hu
    · cases e
  | r :: R, u, h, hu => by
    rcases Ne.wlk_inv h with ⟨e, _⟩ | ⟨r', R', e, e2, h1, h2, h3⟩
    · cases e
    · cases e
      exact no_walk hT hi h0 R _ h3 (cut hi (hT _ h1) h0 h2 (by rw [← e2]; exact hu))
theorem no_dst {g : List Int} {i0 : Nat} (hi : i0 < m) (h0 : Ne.roomN (arcsL cs m) g (2 * i0) < x) {k : Nat} {v : Int} (h : Ne.Dst ⟨(m : Int) + 1, 1, (m : Int) + 1, arcsL cs m⟩ g x k v) : v ≤ (i0 : Int) + 1 := by
  induction h with
  | base => simp only; omega
  | @step k r hr hx _ ih => exact cut hi (by simpa only [arcs_len] using hr) h0 hx ih
theorem lev_cut {g L : List Int} {i0 : Nat} (hi : i0 < m) (h0 : Ne.roomN (arcsL cs m) g (2 * i0) < x) (hL : Ne.IsLev ⟨(m : Int) + 1, 1, (m : Int) + 1, arcsL cs m⟩ g x L) : Ne.amt L (m + 1) < 0 := by
  rcases hL.val (m + 1) (by simp only; omega) with h | ⟨k, _, hd⟩
  · omega
  · have := no_dst hi h0 hd; omega
theorem blk_none {g L : List Int} {i0 : Nat} (hR : Ne.Right ⟨(m : Int) + 1, 1, (m : Int) + 1, arcsL cs m⟩) (hF : Ne.Okf ⟨(m : Int) + 1, 1, (m : Int) + 1, arcsL cs m⟩ g) (hx : 1 ≤ x) (hi : i0 < m) (h0 : Ne.roomN (arcsL cs m) g (2 * i0) < x) (hL : Ne.IsLev ⟨(m : Int) + 1, 1, (m : Int) + 1, arcsL cs m⟩ g x L) :
    Ne.IsBlk (arcsL cs m) (Ne.leadL (arcsL cs m) g x L (2 * m)) g x 1 ((m : Int) + 1) [] g := by
  obtain ⟨W, h, hB⟩ := Ne.blk_of hR hF hx L
  have hd := lev_cut hi h0 hL
  obtain ⟨rfl, rfl⟩ := Ne.blk_nought hR hL hB (by simp only; rwa [show ((m : Int) + 1).toNat = m + 1 by omega])
  simpa only [arcs_len] using hB
theorem track {r : Nat} (h : r < 2 * m) (h1 : 1 ≤ x) (hx : x ≤ Ne.roomN (arcsL cs m) (List.replicate m 0) r) : ∃ i, i < m ∧ r = 2 * i ∧ x ≤ capC cs i := by
  by_cases c : r % 2 = 1
  · obtain ⟨i, rfl⟩ : ∃ i, r = 2 * i + 1 := ⟨r / 2, by omega⟩
    rw [Ne.room_odd, nul_at] at hx; omega
  · obtain ⟨i, rfl⟩ : ∃ i, r = 2 * i := ⟨r / 2, by omega⟩
    have hi : i < m := by omega
    rw [(even hi).2.2, nul_at] at hx
    exact ⟨i, hi, rfl, by omega⟩
theorem dst (h1 : 1 ≤ x) {k : Nat} {v : Int} (h : Ne.Dst ⟨(m : Int) + 1, 1, (m : Int) + 1, arcsL cs m⟩ (List.replicate m 0) x k v) : v = (k : Int) + 1 := by
  induction h with
  | base => rfl
  | @step k r hr hx _ ih =>
    obtain ⟨i, hi, rfl, _⟩ := track (by simpa only [arcs_len] using hr) h1 hx
    obtain ⟨e1, e2, _⟩ := even (cs := cs) (g := List.replicate m 0) hi
    simp only at ih ⊢
    rw [e1] at ih
    rw [e2]; omega
theorem dst' (ha : ∀ i, i < m → x ≤ capC cs i) : ∀ k, k ≤ m → Ne.Dst ⟨(m : Int) + 1, 1, (m : Int) + 1, arcsL cs m⟩ (List.replicate m 0) x k ((k : Int) + 1)
  | 0, _ => Ne.Dst.base (n := ⟨(m : Int) + 1, 1, (m : Int) + 1, arcsL cs m⟩)
  | k + 1, h => by
    have ih := dst' ha k (by omega)
    obtain ⟨e1, e2, e3⟩ := even (cs := cs) (g := List.replicate m 0) (show k < m by omega)
    have hx := ha k (by omega)
    rw [nul_at] at e3
    have := Ne.Dst.step (n := ⟨(m : Int) + 1, 1, (m : Int) + 1, arcsL cs m⟩) (f := List.replicate m 0) (x := x) (k := k) (r := 2 * k) (by simp only [arcs_len]; omega) (by simp only; rw [e3]; omega) (by simp only; rw [e1]; exact ih)
    simp only at this
    rw [e2] at this
    rwa [show ((k + 1 : Nat) : Int) + 1 = (k : Int) + 2 by omega]
theorem lev_at (h1 : 1 ≤ x) (ha : ∀ i, i < m → x ≤ capC cs i) {L : List Int} (hL : Ne.IsLev ⟨(m : Int) + 1, 1, (m : Int) + 1, arcsL cs m⟩ (List.replicate m 0) x L) {j : Nat} (hj : j ≤ m) : Ne.amt L (j + 1) = (j : Int) := by
  have h0 := hL.low j _ (dst' ha j hj)
  rw [show ((j : Int) + 1).toNat = j + 1 by omega] at h0
  rcases hL.val (j + 1) (by simp only; omega) with h | ⟨k, h, hd⟩
  · omega
  · have := dst h1 hd; omega
theorem lead_at (h1 : 1 ≤ x) (ha : ∀ i, i < m → x ≤ capC cs i) {L : List Int} (hL : Ne.IsLev ⟨(m : Int) + 1, 1, (m : Int) + 1, arcsL cs m⟩ (List.replicate m 0) x L) {j : Nat} (hj : j < m) : 2 * j ∈ Ne.leadL (arcsL cs m) (List.replicate m 0) x L (2 * m) := by
  rw [Ne.leadL_mem]
  obtain ⟨e1, e2, e3⟩ := even (cs := cs) (g := List.replicate m 0) hj
  rw [nul_at] at e3
  have hx := ha j hj
  have a1 := lev_at h1 ha hL (show j ≤ m by omega)
  have a2 := lev_at h1 ha hL (show j + 1 ≤ m by omega)
  rw [e1, e2, e3, show ((j : Int) + 1).toNat = j + 1 by omega, show ((j : Int) + 2).toNat = j + 1 + 1 by omega, a1, a2]
  exact ⟨by omega, by omega, by omega, by omega⟩
theorem walk_succ (j n : Nat) : walk j (n + 1) = 2 * j :: walk (j + 1) n := by simp [walk, List.range'_succ]
theorem walk_mem {j n r : Nat} (h : r ∈ walk j n) : ∃ i, j ≤ i ∧ i < j + n ∧ r = 2 * i := by
  unfold walk at h
  obtain ⟨i, hi, rfl⟩ := List.mem_map.1 h
  have := List.mem_range'_1.1 hi
  exact ⟨i, by omega, by omega, rfl⟩
theorem walk_has {j n i : Nat} (h1 : j ≤ i) (h2 : i < j + n) : 2 * i ∈ walk j n := by
  unfold walk
  exact List.mem_map.2 ⟨i, List.mem_range'_1.2 (by omega), rfl⟩
theorem first_from {TL : List Nat} (hT : ∀ r ∈ TL, ∃ i, i < m ∧ r = 2 * i) (hT2 : ∀ j, j < m → 2 * j ∈ TL) (ha : ∀ i, i < m → x ≤ capC cs i) : ∀ (n j : Nat), j + n = m → Ne.FirstW (arcsL cs m) TL (List.replicate m 0) x ((m : Int) + 1) ((j : Int) + 1) (walk j n)
  | 0, j, h => by
    obtain rfl : j = m := by omega
    exact .done
  | n + 1, j, h => by
    have hj : j < m := by omega
    obtain ⟨e1, e2, e3⟩ := even (cs := cs) (g := List.replicate m 0) hj
    rw [nul_at] at e3
    have ih := first_from hT hT2 ha n (j + 1) (by omega)
    rw [show ((j + 1 : Nat) : Int) + 1 = (j : Int) + 2 by omega] at ih
    have hx := ha j hj
    rw [walk_succ]
    have hst := Ne.FirstW.step (l := arcsL cs m) (TL := TL) (f := List.replicate m 0) (x := x) (t := (m : Int) + 1) (r := 2 * j) (R := walk (j + 1) n) (by rw [e1]; omega) (hT2 j hj) (by rw [e3]; omega) (by rw [e2]; exact ih) fun q hq hqf hxq hlt => by
      obtain ⟨i, hi, rfl⟩ := hT _ hq
      rw [(even (cs := cs) (g := List.replicate m 0) hi).1, e1] at hqf
      omega
    rwa [e1] at hst
theorem push_from {v : Int} (ha : ∀ i, i < m → v ≤ capC cs i) : ∀ (n j : Nat), j + n = m → Ne.pushN (arcsL cs m) (partL m v j) v (Ne.encW (walk j n)) = some (partL m v m)
  | 0, j, h => by
    obtain rfl : j = m := by omega
    rfl
  | n + 1, j, h => by
    have hj : j < m := by omega
    obtain ⟨e1, e2, e3⟩ := even (cs := cs) (g := partL m v j) hj
    rw [part_at hj, if_neg (by omega)] at e3
    have hx := ha j hj
    rw [walk_succ, Ne.pushN_cons, e3, if_neg (by omega)]
    have e : Ne.put1 (partL m v j) v (2 * j) = partL m v (j + 1) := by
      refine List.ext_getElem? fun i => ?_
      have hl1 : (Ne.put1 (partL m v j) v (2 * j)).length = m := by rw [Ne.put1_len, part_len]
      by_cases hi : i < m
      · have e4 := Ne.at_amt (f := Ne.put1 (partL m v j) v (2 * j)) (i := i) (by rw [hl1]; exact hi)
        have e5 := Ne.at_amt (f := partL m v (j + 1)) (i := i) (by rw [part_len]; exact hi)
        rw [Ne.put1_at (by rw [part_len]; omega), part_at hi] at e4
        rw [part_at hi] at e5
        rw [e4, e5]
        congr 1
        by_cases hij : i = j
        · subst hij
          rw [if_pos (by omega), if_neg (by omega), if_neg (by omega), if_pos (by omega)]; omega
        · rw [if_neg (by omega)]
          by_cases h2 : i < j
          · rw [if_pos h2, if_pos (by omega)]
          · rw [if_neg h2, if_neg (by omega)]
      · rw [List.getElem?_eq_none (by omega), List.getElem?_eq_none (by rw [part_len]; omega)]
    rw [e]
    exact push_from ha n (j + 1) (by omega)
theorem blk_one (hx : 1 ≤ x) (hm : 1 ≤ m) (hc : x ≤ minC cs m) {L : List Int} (hL : Ne.IsLev ⟨(m : Int) + 1, 1, (m : Int) + 1, arcsL cs m⟩ (List.replicate m 0) x L) :
    Ne.IsBlk (arcsL cs m) (Ne.leadL (arcsL cs m) (List.replicate m 0) x L (2 * m)) (List.replicate m 0) x 1 ((m : Int) + 1) [(walk 0 m, minC cs m)] (List.replicate m (minC cs m)) := by
  have hmin := min_le cs m
  have ha : ∀ i, i < m → x ≤ capC cs i := fun i hi => by have := hmin i hi; omega
  obtain ⟨i0, hi0, e0⟩ := min_is cs m hm
  have hT0 : ∀ r ∈ Ne.leadL (arcsL cs m) (List.replicate m 0) x L (2 * m), r < 2 * m := fun r hr => (Ne.leadL_mem.1 hr).1
  refine ⟨.cons (g := List.replicate m (minC cs m)) ?_ ⟨fun r hr => ?_, ⟨2 * i0, walk_has (by omega) (by omega), ?_⟩⟩ ?_ (.nil _), fun R hW => ?_⟩
  · have := first_from (cs := cs) (x := x) (m := m) (TL := Ne.leadL (arcsL cs m) (List.replicate m 0) x L (2 * m)) (fun r hr => by
      obtain ⟨h1, h2, _⟩ := Ne.leadL_mem.1 hr
      obtain ⟨i, hi, e, _⟩ := track h1 hx h2
      exact ⟨i, hi, e⟩) (fun j hj => lead_at hx ha hL hj) ha m 0 (by omega)
    simpa using this
  · obtain ⟨i, _, hi, rfl⟩ := walk_mem hr
    rw [(even (show i < m by omega)).2.2, nul_at]
    have := hmin i (by omega)
    omega
  · rw [(even hi0).2.2, nul_at, e0]; omega
  · have := push_from (cs := cs) (v := minC cs m) hmin m 0 (by omega)
    rwa [part_zero, part_full] at this
  · have := no_walk hT0 hi0 (by rw [(even hi0).2.2, rep_at _ hi0, ← e0]; omega) R 1 hW (by omega)
    omega
theorem both (hx : 1 ≤ x) (hm : 1 ≤ m) (hm2 : m ≤ 60) {L : List Int} (hL : Ne.IsLev ⟨(m : Int) + 1, 1, (m : Int) + 1, arcsL cs m⟩ (List.replicate m 0) x L) :
    ∃ W, Ne.IsBlk (arcsL cs m) (Ne.leadL (arcsL cs m) (List.replicate m 0) x L (2 * m)) (List.replicate m 0) x 1 ((m : Int) + 1) W (List.replicate m (want cs x m)) ∧ W.length = (if minC cs m < x then 0 else 1) ∧ Ne.Flow ⟨(m : Int) + 1, 1, (m : Int) + 1, arcsL cs m⟩ (List.replicate m (want cs x m)) ∧
      ∀ L2, Ne.IsLev ⟨(m : Int) + 1, 1, (m : Int) + 1, arcsL cs m⟩ (List.replicate m (want cs x m)) x L2 → Ne.IsBlk (arcsL cs m) (Ne.leadL (arcsL cs m) (List.replicate m (want cs x m)) x L2 (2 * m)) (List.replicate m (want cs x m)) x 1 ((m : Int) + 1) [] (List.replicate m (want cs x m)) := by
  have hR := Ne.right_of (check (cs := cs) hm hm2)
  have hF0 : Ne.Flow ⟨(m : Int) + 1, 1, (m : Int) + 1, arcsL cs m⟩ (List.replicate m 0) := by
    have := Ne.flow_nought hR
    simpa only [arcs_len] using this
  obtain ⟨i0, hi0, e0⟩ := min_is cs m hm
  unfold want
  by_cases c : minC cs m < x
  · rw [if_pos c]
    have hB := blk_none hR hF0.okf hx hi0 (by rw [(even hi0).2.2, nul_at]; omega) hL
    exact ⟨[], hB, by rw [if_pos c]; rfl, hF0, fun L2 h2 => blk_none hR hF0.okf hx hi0 (by rw [(even hi0).2.2, nul_at]; omega) h2⟩
  · rw [if_neg c]
    have hB := blk_one hx hm (by omega) hL
    have hF := (Ne.blkW_flow hR (Ne.lds_of (arcsL cs m) (List.replicate m 0) x L) hx hF0 (by simpa only [arcs_len] using hB.1)).1
    exact ⟨_, hB, by rw [if_neg c]; rfl, hF, fun L2 h2 => blk_none hR hF.okf hx hi0 (by rw [(even hi0).2.2, rep_at _ hi0]; omega) h2⟩
end
end Tc
namespace Tw
def aC (cs : List Int) (i : Nat) : Int := Ne.pickN (Ne.amt cs i) 10
def bC (cs : List Int) (i : Nat) : Int := Ne.pickN ((Ne.amt cs i).tdiv 10) 10
def mC (cs : List Int) (i : Nat) : Int := min (aC cs i) (bC cs i)
def arcC (cs : List Int) (q : Nat) : Ne.Arc := if q % 2 = 0 then ⟨1, (q / 2 : Nat) + 3, aC cs (q / 2)⟩ else ⟨(q / 2 : Nat) + 3, 2, bC cs (q / 2)⟩
def arcsL (cs : List Int) (k : Nat) : List Ne.Arc := (List.range k).map (arcC cs)
def sumC (cs : List Int) : Nat → Int
  | 0 => 0
  | k + 1 => sumC cs k + mC cs k
def manyC (cs : List Int) : Nat → Nat
  | 0 => 0
  | k + 1 => if 0 < mC cs k then manyC cs k + 1 else manyC cs k
def flowL (cs : List Int) (m j : Nat) : List Int := (List.range (2 * m)).map fun q => if q / 2 < j then mC cs (q / 2) else 0
def walksL (cs : List Int) : Nat → Nat → List (List Nat × Int)
  | _, 0 => []
  | j, n + 1 => if 0 < mC cs j then ([4 * j, 4 * j + 2], mC cs j) :: walksL cs (j + 1) n else walksL cs (j + 1) n
theorem walks_succ (cs : List Int) (j n : Nat) : walksL cs j (n + 1) = if 0 < mC cs j then ([4 * j, 4 * j + 2], mC cs j) :: walksL cs (j + 1) n else walksL cs (j + 1) n := rfl
theorem arcs_len (cs : List Int) (k : Nat) : (arcsL cs k).length = k := by simp [arcsL]
theorem arcs_one (cs : List Int) (k : Nat) : arcsL cs (2 * k + 1) = arcsL cs (2 * k) ++ [⟨1, (k : Int) + 3, aC cs k⟩] := by
  have : arcC cs (2 * k) = ⟨1, (k : Int) + 3, aC cs k⟩ := by unfold arcC; rw [if_pos (by omega), show 2 * k / 2 = k by omega]
  rw [← this]; simp [arcsL, List.range_succ]
theorem arcs_two (cs : List Int) (k : Nat) : arcsL cs (2 * (k + 1)) = arcsL cs (2 * k + 1) ++ [⟨(k : Int) + 3, 2, bC cs k⟩] := by
  have : arcC cs (2 * k + 1) = ⟨(k : Int) + 3, 2, bC cs k⟩ := by unfold arcC; rw [if_neg (by omega), show (2 * k + 1) / 2 = k by omega]
  rw [← this, show 2 * (k + 1) = 2 * k + 1 + 1 by omega]; simp [arcsL, List.range_succ]
theorem arcs_at (cs : List Int) {k q : Nat} (h : q < k) : Ne.arcAt (arcsL cs k) q = arcC cs q := by simp [arcsL, Ne.arcAt, h]
theorem arc_a (cs : List Int) {m i : Nat} (h : i < m) : Ne.arcAt (arcsL cs (2 * m)) (2 * i) = ⟨1, (i : Int) + 3, aC cs i⟩ := by rw [arcs_at cs (by omega)]; unfold arcC; rw [if_pos (by omega), show 2 * i / 2 = i by omega]
theorem arc_b (cs : List Int) {m i : Nat} (h : i < m) : Ne.arcAt (arcsL cs (2 * m)) (2 * i + 1) = ⟨(i : Int) + 3, 2, bC cs i⟩ := by rw [arcs_at cs (by omega)]; unfold arcC; rw [if_neg (by omega), show (2 * i + 1) / 2 = i by omega]
theorem flow_len (cs : List Int) (m j : Nat) : (flowL cs m j).length = 2 * m := by simp [flowL]
theorem flow_at {cs : List Int} {m j q : Nat} (h : q < 2 * m) : Ne.amt (flowL cs m j) q = if q / 2 < j then mC cs (q / 2) else 0 := by simp [flowL, Ne.amt, h]
theorem flow_zero (cs : List Int) (m : Nat) : flowL cs m 0 = List.replicate (2 * m) 0 := by simp [flowL, List.map_const']
theorem nul_at (m i : Nat) : Ne.amt (List.replicate m 0) i = 0 := by
  unfold Ne.amt
  by_cases h : i < m
  · simp [h]
  · simp [List.getElem?_eq_none, h]
theorem a_bd (cs : List Int) (i : Nat) : 0 ≤ aC cs i ∧ aC cs i < 10 := Ne.pickN_bd (by omega)
theorem b_bd (cs : List Int) (i : Nat) : 0 ≤ bC cs i ∧ bC cs i < 10 := Ne.pickN_bd (by omega)
theorem m_bd (cs : List Int) (i : Nat) : 0 ≤ mC cs i ∧ mC cs i < 10 ∧ mC cs i ≤ aC cs i ∧ mC cs i ≤ bC cs i ∧ (mC cs i = aC cs i ∨ mC cs i = bC cs i) := by
  have h1 := a_bd cs i; have h2 := b_bd cs i; unfold mC; omega
theorem sum_bd (cs : List Int) (k : Nat) : 0 ≤ sumC cs k ∧ sumC cs k ≤ 10 * (k : Int) := by
  induction k with
  | zero => exact ⟨by unfold sumC; omega, by unfold sumC; omega⟩
  | succ k ih => have := m_bd cs k; unfold sumC; omega
theorem many_bd (cs : List Int) (k : Nat) : manyC cs k ≤ k := by
  induction k with
  | zero => exact Nat.le_refl _
  | succ k ih => unfold manyC; split <;> omega
theorem walks_sum (cs : List Int) : ∀ n j, sumC cs j + ((walksL cs j n).map (·.2)).sum = sumC cs (j + n)
  | 0, j => by simp [walksL]
  | n + 1, j => by
    have ih := walks_sum cs n (j + 1)
    have hb := m_bd cs j
    rw [show j + (n + 1) = j + 1 + n by omega, ← ih, walks_succ, show sumC cs (j + 1) = sumC cs j + mC cs j from rfl]
    by_cases c : 0 < mC cs j
    · rw [if_pos c, List.map_cons, List.sum_cons]; simp only; omega
    · rw [if_neg c]; omega
theorem walks_many (cs : List Int) : ∀ n j, manyC cs j + (walksL cs j n).length = manyC cs (j + n)
  | 0, j => by simp [walksL]
  | n + 1, j => by
    have ih := walks_many cs n (j + 1)
    rw [show j + (n + 1) = j + 1 + n by omega, ← ih, walks_succ, show manyC cs (j + 1) = if 0 < mC cs j then manyC cs j + 1 else manyC cs j from rfl]
    by_cases c : 0 < mC cs j
    · rw [if_pos c, if_pos c, List.length_cons]; omega
    · rw [if_neg c, if_neg c]
section
variable {cs : List Int} {m : Nat}
theorem check (hm2 : m ≤ 60) : Ne.checkN ⟨(m : Int) + 2, 1, 2, arcsL cs (2 * m)⟩ = 0 := by
  refine Ne.checkN_fine ⟨by simp only; omega, by simp only; omega, by simp only; omega, by simp only; omega, by simp only; omega, by simp only; omega, by simp only; omega, by simp only [arcs_len]; omega⟩ fun a ha => ?_
  simp only at ha ⊢
  obtain ⟨q, hq, rfl⟩ := List.mem_map.1 ha
  rw [List.mem_range] at hq
  have h1 := a_bd cs (q / 2)
  have h2 := b_bd cs (q / 2)
  unfold arcC
  by_cases c : q % 2 = 0
  · rw [if_pos c]
    exact ⟨(Ne.isNode_iff _ _).2 (by simp only; omega), (Ne.isNode_iff _ _).2 (by simp only; omega), by simp only; omega, by simp only; omega⟩
  · rw [if_neg c]
    exact ⟨(Ne.isNode_iff _ _).2 (by simp only; omega), (Ne.isNode_iff _ _).2 (by simp only; omega), by simp only; omega, by simp only; omega⟩
theorem ta (g : List Int) {i : Nat} (h : i < m) : Ne.trF (arcsL cs (2 * m)) (4 * i) = 1 ∧ Ne.trT (arcsL cs (2 * m)) (4 * i) = (i : Int) + 3 ∧ Ne.roomN (arcsL cs (2 * m)) g (4 * i) = aC cs i - Ne.amt g (2 * i) := by
  rw [show 4 * i = 2 * (2 * i) by omega, Ne.trF_even, Ne.trT_even, Ne.room_even, arc_a cs h]
  exact ⟨rfl, rfl, rfl⟩
theorem tb (g : List Int) {i : Nat} (h : i < m) : Ne.trF (arcsL cs (2 * m)) (4 * i + 2) = (i : Int) + 3 ∧ Ne.trT (arcsL cs (2 * m)) (4 * i + 2) = 2 ∧ Ne.roomN (arcsL cs (2 * m)) g (4 * i + 2) = bC cs i - Ne.amt g (2 * i + 1) := by
  rw [show 4 * i + 2 = 2 * (2 * i + 1) by omega, Ne.trF_even, Ne.trT_even, Ne.room_even, arc_b cs h]
  exact ⟨rfl, rfl, rfl⟩
theorem track {r : Nat} (h : r < 4 * m) (hx : 1 ≤ Ne.roomN (arcsL cs (2 * m)) (List.replicate (2 * m) 0) r) : ∃ i, i < m ∧ (r = 4 * i ∧ 1 ≤ aC cs i ∨ r = 4 * i + 2 ∧ 1 ≤ bC cs i) := by
  by_cases c : r % 2 = 1
  · obtain ⟨i, rfl⟩ : ∃ i, r = 2 * i + 1 := ⟨r / 2, by omega⟩
    rw [Ne.room_odd, nul_at] at hx; omega
  · by_cases d : r % 4 = 0
    · obtain ⟨i, rfl⟩ : ∃ i, r = 4 * i := ⟨r / 4, by omega⟩
      have hi : i < m := by omega
      rw [(ta _ hi).2.2, nul_at] at hx
      exact ⟨i, hi, .inl ⟨rfl, by omega⟩⟩
    · obtain ⟨i, rfl⟩ : ∃ i, r = 4 * i + 2 := ⟨r / 4, by omega⟩
      have hi : i < m := by omega
      rw [(tb _ hi).2.2, nul_at] at hx
      exact ⟨i, hi, .inr ⟨rfl, by omega⟩⟩
theorem lead_fw {L : List Int} {r : Nat} (h : r ∈ Ne.leadL (arcsL cs (2 * m)) (List.replicate (2 * m) 0) 1 L (4 * m)) : ∃ i, i < m ∧ (r = 4 * i ∨ r = 4 * i + 2) := by
  obtain ⟨h1, h2, _⟩ := Ne.leadL_mem.1 h
  obtain ⟨i, hi, h | h⟩ := track h1 h2
  · exact ⟨i, hi, .inl h.1⟩
  · exact ⟨i, hi, .inr h.1⟩
theorem lead_at {L : List Int} (hR : Ne.Right ⟨(m : Int) + 2, 1, 2, arcsL cs (2 * m)⟩) (hL : Ne.IsLev ⟨(m : Int) + 2, 1, 2, arcsL cs (2 * m)⟩ (List.replicate (2 * m) 0) 1 L) {j : Nat} (hj : j < m) (h0 : 0 < mC cs j) : 4 * j ∈ Ne.leadL (arcsL cs (2 * m)) (List.replicate (2 * m) 0) 1 L (4 * m) ∧ 4 * j + 2 ∈ Ne.leadL (arcsL cs (2 * m)) (List.replicate (2 * m) 0) 1 L (4 * m) := by
  have hb := m_bd cs j
  obtain ⟨a1, a2, a3⟩ := ta (cs := cs) (List.replicate (2 * m) 0) hj
  obtain ⟨b1, b2, b3⟩ := tb (cs := cs) (List.replicate (2 * m) 0) hj
  rw [nul_at] at a3 b3
  have hl : 2 * (arcsL cs (2 * m)).length = 4 * m := by rw [arcs_len]; omega
  have l1 := Ne.lev_src hR hL
  have d1 : Ne.Dst ⟨(m : Int) + 2, 1, 2, arcsL cs (2 * m)⟩ (List.replicate (2 * m) 0) 1 1 ((j : Int) + 3) := by
    have := Ne.Dst.step (n := ⟨(m : Int) + 2, 1, 2, arcsL cs (2 * m)⟩) (f := List.replicate (2 * m) 0) (x := 1) (k := 0) (r := 4 * j) (by simp only; omega) (by simp only; rw [a3]; omega) (by simp only; rw [a1]; exact .base)
    simp only at this
    rwa [a2] at this
  have d2 : Ne.Dst ⟨(m : Int) + 2, 1, 2, arcsL cs (2 * m)⟩ (List.replicate (2 * m) 0) 1 2 2 := by
    have := Ne.Dst.step (n := ⟨(m : Int) + 2, 1, 2, arcsL cs (2 * m)⟩) (f := List.replicate (2 * m) 0) (x := 1) (k := 1) (r := 4 * j + 2) (by simp only; omega) (by simp only; rw [b3]; omega) (by simp only; rw [b1]; exact d1)
    simp only at this
    rwa [b2] at this
  have e1 := hL.low 1 _ d1
  have e2 := hL.low 2 _ d2
  rw [show ((j : Int) + 3).toNat = j + 3 by omega] at e1
  have n1 : Ne.amt L (j + 3) ≠ 0 := fun e => by
    have := Ne.lev_only hR hL (i := j + 3) (by simp only; omega) e
    simp only at this; omega
  have n2 : Ne.amt L 2 ≠ 0 := fun e => by
    have := Ne.lev_only hR hL (i := 2) (by simp only; omega) e
    simp only at this; omega
  have n3 : Ne.amt L 2 ≠ 1 := fun e => by
    rcases hL.val 2 (by simp only; omega) with h | ⟨k, h, hd⟩
    · omega
    · obtain rfl : k = 1 := by omega
      generalize ht : ((2 : Nat) : Int) = t at hd
      cases hd with
      | @step k r hr hx hd0 =>
        have hs := Ne.dst_zero hd0
        simp only at hr hx hs ht
        obtain ⟨i, hi, ⟨rfl, _⟩ | ⟨rfl, _⟩⟩ := track (by omega) hx
        · rw [(ta (cs := cs) [] hi).2.1] at ht; omega
        · rw [(tb (cs := cs) [] hi).1] at hs; omega
  have t1 : (1 : Int).toNat = 1 := rfl
  have t2 : (2 : Int).toNat = 2 := rfl
  simp only at l1
  rw [t1] at l1
  rw [t2] at e2
  rw [Ne.leadL_mem, Ne.leadL_mem, a1, a2, a3, b1, b2, b3, t1, t2, show ((j : Int) + 3).toNat = j + 3 by omega]
  exact ⟨⟨by omega, by omega, by omega, by omega⟩, ⟨by omega, by omega, by omega, by omega⟩⟩
theorem stuck {TL : List Nat} (hT : ∀ r ∈ TL, ∃ i, i < m ∧ (r = 4 * i ∨ r = 4 * i + 2)) {j i : Nat} (hi : i < m) (hij : i < j) (h0 : 1 ≤ Ne.roomN (arcsL cs (2 * m)) (flowL cs m j) (4 * i)) (R : List Nat) : ¬ Ne.Wlk (arcsL cs (2 * m)) TL (flowL cs m j) 1 ((i : Int) + 3) R 2 := fun hW => by
  have hb := m_bd cs i
  rw [(ta _ hi).2.2, flow_at (by omega), show 2 * i / 2 = i by omega, if_pos hij] at h0
  rcases Ne.wlk_inv hW with ⟨_, e⟩ | ⟨r, R', _, e, h1, h2, _⟩
  · omega
  · obtain ⟨k, hk, rfl | rfl⟩ := hT _ h1
    · rw [(ta (cs := cs) [] hk).1] at e; omega
    · rw [(tb (cs := cs) [] hk).1] at e
      obtain rfl : k = i := by omega
      rw [(tb _ hk).2.2, flow_at (by omega), show (2 * k + 1) / 2 = k by omega, if_pos hij] at h2
      omega
theorem blk_from {TL : List Nat} (hT : ∀ r ∈ TL, ∃ i, i < m ∧ (r = 4 * i ∨ r = 4 * i + 2)) (hT2 : ∀ j, j < m → 0 < mC cs j → 4 * j ∈ TL ∧ 4 * j + 2 ∈ TL) : ∀ (n j : Nat), j + n = m → Ne.BlkW (arcsL cs (2 * m)) TL 1 1 2 (flowL cs m j) (walksL cs j n) (flowL cs m m)
  | 0, j, h => by
    obtain rfl : j = m := by omega
    exact .nil _
  | n + 1, j, h => by
    have ih := blk_from hT hT2 n (j + 1) (by omega)
    have hj : j < m := by omega
    have hb := m_bd cs j
    rw [walks_succ]
    by_cases c : 0 < mC cs j
    · rw [if_pos c]
      obtain ⟨a1, a2, a3⟩ := ta (cs := cs) (flowL cs m j) hj
      obtain ⟨b1, b2, b3⟩ := tb (cs := cs) (flowL cs m j) hj
      rw [flow_at (by omega), show 2 * j / 2 = j by omega, if_neg (by omega)] at a3
      rw [flow_at (by omega), show (2 * j + 1) / 2 = j by omega, if_neg (by omega)] at b3
      obtain ⟨k1, k2⟩ := hT2 j hj c
      refine Ne.BlkW.cons (g := flowL cs m (j + 1)) ?_ ⟨fun r hr => ?_, ?_⟩ ?_ ih
      · have s2 := Ne.FirstW.step (l := arcsL cs (2 * m)) (TL := TL) (f := flowL cs m j) (x := 1) (t := 2) (r := 4 * j + 2) (R := []) (by rw [b1]; omega) k2 (by rw [b3]; omega) (by rw [b2]; exact .done) fun q hq hqf hxq hlt => by
          obtain ⟨i, hi, rfl | rfl⟩ := hT _ hq
          · rw [(ta (cs := cs) [] hi).1, b1] at hqf; omega
          · rw [(tb (cs := cs) [] hi).1, b1] at hqf; omega
        rw [b1] at s2
        have s1 := Ne.FirstW.step (l := arcsL cs (2 * m)) (TL := TL) (f := flowL cs m j) (x := 1) (t := 2) (r := 4 * j) (R := [4 * j + 2]) (by rw [a1]; omega) k1 (by rw [a3]; omega) (by rw [a2]; exact s2) fun q hq hqf hxq hlt => by
          obtain ⟨i, hi, rfl | rfl⟩ := hT _ hq
          · rw [(ta (cs := cs) [] hi).2.1]
            exact fun R' => stuck hT hi (by omega) hxq R'
          · rw [(tb (cs := cs) [] hi).1, a1] at hqf; omega
        rwa [a1] at s1
      · simp only [List.mem_cons, List.not_mem_nil, or_false] at hr
        rcases hr with rfl | rfl
        · rw [a3]; omega
        · rw [b3]; omega
      · rcases hb.2.2.2.2 with e | e
        · exact ⟨4 * j, by simp, by rw [a3]; omega⟩
        · exact ⟨4 * j + 2, by simp, by rw [b3]; omega⟩
      · have hr2 : Ne.roomN (arcsL cs (2 * m)) (Ne.put1 (flowL cs m j) (mC cs j) (4 * j)) (4 * j + 2) = bC cs j := by
          rw [(tb _ hj).2.2, Ne.put1_at (by rw [flow_len]; omega), if_neg (by omega), flow_at (by omega), show (2 * j + 1) / 2 = j by omega, if_neg (by omega)]; omega
        rw [Ne.pushN_cons, a3, if_neg (by omega), Ne.pushN_cons, hr2, if_neg (by omega)]
        show some _ = _
        congr 1
        refine List.ext_getElem? fun i => ?_
        have hl1 : (Ne.put1 (Ne.put1 (flowL cs m j) (mC cs j) (4 * j)) (mC cs j) (4 * j + 2)).length = 2 * m := by rw [Ne.put1_len, Ne.put1_len, flow_len]
        by_cases hi : i < 2 * m
        · have e4 := Ne.at_amt (f := Ne.put1 (Ne.put1 (flowL cs m j) (mC cs j) (4 * j)) (mC cs j) (4 * j + 2)) (i := i) (by rw [hl1]; exact hi)
          have e5 := Ne.at_amt (f := flowL cs m (j + 1)) (i := i) (by rw [flow_len]; exact hi)
          rw [Ne.put1_at (by rw [Ne.put1_len, flow_len]; omega), Ne.put1_at (by rw [flow_len]; omega), flow_at hi] at e4
          rw [flow_at hi] at e5
          rw [e4, e5]
          congr 1
          have q1 : (4 * j + 2) / 2 = 2 * j + 1 := by omega
          have q2 : 4 * j / 2 = 2 * j := by omega
          have q3 : ¬ (4 * j + 2) % 2 = 1 := by omega
          have q4 : ¬ 4 * j % 2 = 1 := by omega
          rw [q1, q2, if_neg q3, if_neg q4]
          by_cases c1 : i = 2 * j + 1
          · subst c1
            rw [if_pos rfl, if_neg (by omega), show (2 * j + 1) / 2 = j by omega, if_neg (by omega), if_pos (by omega)]; omega
          · rw [if_neg c1]
            by_cases c2 : i = 2 * j
            · subst c2
              rw [if_pos rfl, show 2 * j / 2 = j by omega, if_neg (by omega), if_pos (by omega)]; omega
            · rw [if_neg c2]
              by_cases c3 : i / 2 < j
              · rw [if_pos c3, if_pos (by omega)]
              · rw [if_neg c3, if_neg (by omega)]
        · rw [List.getElem?_eq_none (by omega), List.getElem?_eq_none (by rw [flow_len]; omega)]
    · rw [if_neg c]
      have e : flowL cs m j = flowL cs m (j + 1) := by
        unfold flowL
        refine List.map_congr_left fun q hq => ?_
        by_cases hqj : q / 2 = j
        · rw [hqj, if_neg (by omega), if_pos (by omega)]; omega
        · by_cases h2 : q / 2 < j
          · rw [if_pos h2, if_pos (by omega)]
          · rw [if_neg h2, if_neg (by omega)]
      rw [e]
      exact ih
theorem blk (hm2 : m ≤ 60) {L : List Int} (hL : Ne.IsLev ⟨(m : Int) + 2, 1, 2, arcsL cs (2 * m)⟩ (List.replicate (2 * m) 0) 1 L) :
    Ne.IsBlk (arcsL cs (2 * m)) (Ne.leadL (arcsL cs (2 * m)) (List.replicate (2 * m) 0) 1 L (4 * m)) (List.replicate (2 * m) 0) 1 1 2 (walksL cs 0 m) (flowL cs m m) ∧ (walksL cs 0 m).length = manyC cs m ∧ Ne.Flow ⟨(m : Int) + 2, 1, 2, arcsL cs (2 * m)⟩ (flowL cs m m) ∧ Ne.exc (arcsL cs (2 * m)) (flowL cs m m) 2 = sumC cs m := by
  have hR := Ne.right_of (check (cs := cs) hm2)
  have hl : 2 * (arcsL cs (2 * m)).length = 4 * m := by rw [arcs_len]; omega
  have hF0 : Ne.Flow ⟨(m : Int) + 2, 1, 2, arcsL cs (2 * m)⟩ (List.replicate (2 * m) 0) := by
    have := Ne.flow_nought hR
    simpa only [arcs_len] using this
  have h := blk_from (cs := cs) (m := m) (TL := Ne.leadL (arcsL cs (2 * m)) (List.replicate (2 * m) 0) 1 L (4 * m)) (fun r hr => lead_fw hr) (fun j hj h0 => lead_at hR hL hj h0) m 0 (by omega)
  rw [flow_zero] at h
  have hF := Ne.blkW_flow hR (Ne.lds_of (arcsL cs (2 * m)) (List.replicate (2 * m) 0) 1 L) (Int.le_refl 1) hF0 (by rw [hl]; exact h)
  have hs := walks_sum cs m 0
  have hk := walks_many cs m 0
  have he : Ne.exc (arcsL cs (2 * m)) (List.replicate (2 * m) 0) 2 = 0 := Ne.exc_zero (fun i => nul_at _ i) 2
  refine ⟨⟨h, fun R hW => ?_⟩, by rw [Nat.zero_add] at hk; rw [← hk]; simp [manyC], hF.1, ?_⟩
  · rcases Ne.wlk_inv hW with ⟨_, e⟩ | ⟨r, R', _, e, h1, h2, h3⟩
    · omega
    · obtain ⟨i, hi, rfl | rfl⟩ := lead_fw h1
      · rw [(ta (cs := cs) [] hi).2.1] at h3
        exact stuck (fun r hr => lead_fw hr) hi hi h2 R' h3
      · rw [(tb (cs := cs) [] hi).1] at e; omega
  · have := hF.2
    simp only at this
    rw [he] at this
    rw [this]
    rw [Nat.zero_add] at hs
    rw [← hs]; simp [sumC]
end
end Tw
end Go.Proofs.Ytiaddfmgkcebnaa
