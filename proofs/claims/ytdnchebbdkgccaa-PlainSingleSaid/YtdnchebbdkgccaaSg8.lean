/-
  Stage 8: plain facts of arcs beside one another (PlainSingle): the flow that blocks there, told by itself. No condition.
-/
import Derived.Test.YtdnchebbdkgccaaLw8
namespace Go.Proofs.Ytdnchebbdkgccaa
open Go.ChangeShapes Go.WideShapes Go.ChangeAt Go.RowKit
set_option linter.unusedVariables false
set_option linter.unusedSimpArgs false
namespace Sg
/-- the capacity of arc i -/
def capC (cs : List Int) (i : Nat) : Int := Ne.pickN (Ne.amt cs i) 20
def arcsL (cs : List Int) (k : Nat) : List Ne.Arc := (List.range k).map fun i : Nat => ⟨2, 1, capC cs i⟩
/-- the arcs with room, from j on, n of them looked at -/
def idxL (cs : List Int) (x : Int) (j n : Nat) : List Nat := (List.range' j n).filter fun i => decide (x ≤ capC cs i)
def wantL (cs : List Int) (x : Int) (k : Nat) : List Nat := (idxL cs x 0 k).map (2 * ·)
def flowL (cs : List Int) (x : Int) (m j : Nat) : List Int := (List.range m).map fun i => if i < j ∧ x ≤ capC cs i then capC cs i else 0
def walksL (cs : List Int) (x : Int) (j n : Nat) : List (List Nat × Int) := (idxL cs x j n).map fun i => ([2 * i], capC cs i)
theorem arcs_len (cs : List Int) (k : Nat) : (arcsL cs k).length = k := by simp [arcsL]
theorem arcs_succ (cs : List Int) (k : Nat) : arcsL cs (k + 1) = arcsL cs k ++ [⟨2, 1, capC cs k⟩] := by simp [arcsL, List.range_succ]
theorem arcs_at (cs : List Int) {k i : Nat} (h : i < k) : Ne.arcAt (arcsL cs k) i = ⟨2, 1, capC cs i⟩ := by simp [arcsL, Ne.arcAt, h]
theorem want_hit {cs : List Int} {x : Int} {k : Nat} (h : x ≤ capC cs k) : wantL cs x (k + 1) = wantL cs x k ++ [2 * k] := by
  unfold wantL idxL
  rw [← List.range_eq_range', ← List.range_eq_range', List.range_succ, List.filter_append, List.map_append]
  simp [h]
theorem want_miss {cs : List Int} {x : Int} {k : Nat} (h : ¬ x ≤ capC cs k) : wantL cs x (k + 1) = wantL cs x k := by
  unfold wantL idxL
  rw [← List.range_eq_range', ← List.range_eq_range', List.range_succ, List.filter_append, List.map_append]
  simp [h]
theorem want_len (cs : List Int) (x : Int) (k : Nat) : (wantL cs x k).length ≤ k := by
  unfold wantL idxL
  rw [List.length_map]
  exact Nat.le_trans (List.length_filter_le _ _) (by simp)
theorem walks_len (cs : List Int) (x : Int) (k : Nat) : (walksL cs x 0 k).length = (wantL cs x k).length := by simp [walksL, wantL]
theorem flow_len (cs : List Int) (x : Int) (m j : Nat) : (flowL cs x m j).length = m := by simp [flowL]
theorem flow_at {cs : List Int} {x : Int} {m j i : Nat} (h : i < m) : Ne.amt (flowL cs x m j) i = if i < j ∧ x ≤ capC cs i then capC cs i else 0 := by simp [flowL, Ne.amt, h]
theorem flow_zero (cs : List Int) (x : Int) (m : Nat) : flowL cs x m 0 = List.replicate m 0 := by
  simp [flowL, List.map_const']
theorem nul_at (m i : Nat) : Ne.amt (List.replicate m 0) i = 0 := by
  unfold Ne.amt
  by_cases h : i < m
  · simp [h]
  · simp [List.getElem?_eq_none, h]
section
variable {cs : List Int} {x : Int} {m : Nat}
theorem cap_bd (cs : List Int) (i : Nat) : 0 ≤ capC cs i ∧ capC cs i < 20 := Ne.pickN_bd (by omega)
theorem check (hm : m ≤ 80) : Ne.checkN ⟨2, 2, 1, arcsL cs m⟩ = 0 := by
  refine Ne.checkN_fine ⟨by simp only; omega, by simp only; omega, by simp only; omega, by simp only; omega, by simp only; omega, by simp only; omega, by simp only; omega, by simp only [arcs_len]; omega⟩ fun a ha => ?_
  simp only at ha ⊢
  obtain ⟨i, hi, rfl⟩ := List.mem_map.1 ha
  rw [List.mem_range] at hi
  have := cap_bd cs i
  exact ⟨(Ne.isNode_iff _ _).2 (by simp only; omega), (Ne.isNode_iff _ _).2 (by simp only; omega), by simp only; omega, by simp only; omega⟩
theorem even {g : List Int} {i : Nat} (h : i < m) : Ne.trF (arcsL cs m) (2 * i) = 2 ∧ Ne.trT (arcsL cs m) (2 * i) = 1 ∧ Ne.roomN (arcsL cs m) g (2 * i) = capC cs i - Ne.amt g i := by
  rw [Ne.trF_even, Ne.trT_even, Ne.room_even, arcs_at cs h]
  exact ⟨rfl, rfl, rfl⟩
theorem lead_iff (hx : 1 ≤ x) {L : List Int} (hR : Ne.Right ⟨2, 2, 1, arcsL cs m⟩) (hl : Ne.IsLev ⟨2, 2, 1, arcsL cs m⟩ (List.replicate m 0) x L) (r : Nat) :
    r ∈ Ne.leadL (arcsL cs m) (List.replicate m 0) x L (2 * m) ↔ ∃ i, i < m ∧ r = 2 * i ∧ x ≤ capC cs i := by
  rw [Ne.leadL_mem]
  constructor
  · rintro ⟨h1, h2, _⟩
    by_cases c : r % 2 = 1
    · obtain ⟨i, rfl⟩ : ∃ i, r = 2 * i + 1 := ⟨r / 2, by omega⟩
      rw [Ne.room_odd, nul_at] at h2; omega
    · obtain ⟨i, rfl⟩ : ∃ i, r = 2 * i := ⟨r / 2, by omega⟩
      rw [(even (by omega)).2.2, nul_at] at h2
      exact ⟨i, by omega, rfl, by omega⟩
  · rintro ⟨i, hi, rfl, h2⟩
    obtain ⟨e1, e2, e3⟩ := even (cs := cs) (g := List.replicate m 0) hi
    rw [e1, e2, e3, nul_at]
    have h0 := Ne.lev_src hR hl
    have h1 := hl.low 1 1 (by
      have := Ne.Dst.step (n := ⟨2, 2, 1, arcsL cs m⟩) (f := List.replicate m 0) (x := x) (k := 0) (r := 2 * i) (by simp only [arcs_len]; omega) (by simp only; rw [e3, nul_at]; omega) (by simp only; rw [e1]; exact .base)
      simp only at this
      rwa [e2] at this)
    have hne : Ne.amt L 1 ≠ 0 := fun e => by
      rcases hl.val 1 (by simp only; omega) with h | ⟨k, h, hd⟩
      · rw [e] at h; omega
      · obtain rfl : k = 0 := by omega
        have := Ne.dst_zero hd
        simp only at this
        omega
    simp only at h0 h1
    have a1 : (1 : Int).toNat = 1 := rfl
    have a2 : (2 : Int).toNat = 2 := rfl
    rw [a1] at h1 ⊢
    rw [a2] at h0 ⊢
    exact ⟨by omega, by omega, by omega, by omega⟩
theorem blk_from {TL : List Nat} (hx : 1 ≤ x) (hT : ∀ r, r ∈ TL ↔ ∃ i, i < m ∧ r = 2 * i ∧ x ≤ capC cs i) : ∀ (n j : Nat), j + n = m → Ne.BlkW (arcsL cs m) TL x 2 1 (flowL cs x m j) (walksL cs x j n) (flowL cs x m m)
  | 0, j, h => by
    obtain rfl : j = m := by omega
    exact .nil _
  | n + 1, j, h => by
    have ih := blk_from hx hT n (j + 1) (by omega)
    have hj : j < m := by omega
    have hw : walksL cs x j (n + 1) = (if x ≤ capC cs j then [([2 * j], capC cs j)] else []) ++ walksL cs x (j + 1) n := by
      unfold walksL idxL
      rw [List.range'_succ, List.filter_cons]
      by_cases c : x ≤ capC cs j <;> simp [c]
    rw [hw]
    by_cases c : x ≤ capC cs j
    · rw [if_pos c]
      obtain ⟨e1, e2, e3⟩ := even (cs := cs) (g := flowL cs x m j) hj
      rw [flow_at hj, if_neg (by omega)] at e3
      have hroom : Ne.roomN (arcsL cs m) (flowL cs x m j) (2 * j) = capC cs j := by rw [e3]; omega
      refine Ne.BlkW.cons (g := flowL cs x m (j + 1)) ?_ ⟨fun r hr => ?_, ⟨2 * j, by simp, hroom.symm⟩⟩ ?_ ih
      · have hst := Ne.FirstW.step (l := arcsL cs m) (TL := TL) (f := flowL cs x m j) (x := x) (t := 1) (r := 2 * j) (R := []) (by rw [e1]; omega) ((hT _).2 ⟨j, hj, rfl, c⟩) (by rw [hroom]; exact c) (by rw [e2]; exact .done) fun q hq _ hxq hlt => by
          obtain ⟨i, hi, rfl, hc⟩ := (hT _).1 hq
          rw [(even hi).2.2, flow_at hi, if_pos ⟨by omega, hc⟩] at hxq
          omega
        rwa [e1] at hst
      · simp at hr; subst hr; rw [hroom]; exact Int.le_refl _
      · rw [Ne.pushN_cons, hroom, if_neg (by omega)]
        show some _ = _
        congr 1
        refine List.ext_getElem? fun i => ?_
        have hl1 : (Ne.put1 (flowL cs x m j) (capC cs j) (2 * j)).length = m := by rw [Ne.put1_len, flow_len]
        by_cases hi : i < m
        · have e4 := Ne.at_amt (f := Ne.put1 (flowL cs x m j) (capC cs j) (2 * j)) (i := i) (by rw [hl1]; exact hi)
          have e5 := Ne.at_amt (f := flowL cs x m (j + 1)) (i := i) (by rw [flow_len]; exact hi)
          rw [Ne.put1_at (by rw [flow_len]; omega), flow_at hi] at e4
          rw [flow_at hi] at e5
          rw [e4, e5]
          congr 1
          by_cases hij : i = j
          · subst hij
            rw [if_pos (by omega), if_neg (by omega), if_neg (by omega), if_pos ⟨by omega, c⟩]; omega
          · rw [if_neg (by omega)]
            by_cases h2 : i < j ∧ x ≤ capC cs i
            · rw [if_pos h2, if_pos ⟨by omega, h2.2⟩]
            · rw [if_neg h2, if_neg (fun h3 => h2 ⟨by omega, h3.2⟩)]
        · rw [List.getElem?_eq_none (by omega), List.getElem?_eq_none (by rw [flow_len]; omega)]
    · rw [if_neg c, List.nil_append]
      have e : flowL cs x m j = flowL cs x m (j + 1) := by
        unfold flowL
        refine List.map_congr_left fun i hi => ?_
        by_cases hij : i = j
        · subst hij; rw [if_neg (by omega), if_neg (fun h => c h.2)]
        · by_cases h2 : i < j ∧ x ≤ capC cs i
          · rw [if_pos h2, if_pos ⟨by omega, h2.2⟩]
          · rw [if_neg h2, if_neg (fun h3 => h2 ⟨by omega, h3.2⟩)]
      rw [e]
      exact ih
theorem blk (hx : 1 ≤ x) {L : List Int} (hR : Ne.Right ⟨2, 2, 1, arcsL cs m⟩) (hl : Ne.IsLev ⟨2, 2, 1, arcsL cs m⟩ (List.replicate m 0) x L) :
    Ne.IsBlk (arcsL cs m) (Ne.leadL (arcsL cs m) (List.replicate m 0) x L (2 * m)) (List.replicate m 0) x 2 1 (walksL cs x 0 m) (flowL cs x m m) := by
  have hT := lead_iff hx hR hl
  have h := blk_from hx hT m 0 (by omega)
  rw [flow_zero] at h
  refine ⟨h, fun R hW => ?_⟩
  rcases Ne.wlk_inv hW with ⟨_, e⟩ | ⟨r, R', _, _, h1, h2, _⟩
  · omega
  · obtain ⟨i, hi, rfl, hc⟩ := (hT _).1 h1
    rw [(even hi).2.2, flow_at hi, if_pos ⟨hi, hc⟩] at h2
    omega
/-- what stands at an index -/
theorem at_index {q : Nat} (hq : q < (wantL cs x m).length) : ∃ i, i < m ∧ (wantL cs x m).getD q 0 = 2 * i ∧ (walksL cs x 0 m).getD q ([], 0) = ([2 * i], capC cs i) ∧ Ne.amt (flowL cs x m m) i = capC cs i := by
  have hl : q < (idxL cs x 0 m).length := by unfold wantL at hq; rwa [List.length_map] at hq
  obtain ⟨i, hi⟩ : ∃ i, (idxL cs x 0 m)[q]? = some i := ⟨_, List.getElem?_eq_getElem hl⟩
  have hm := List.mem_of_getElem? hi
  unfold idxL at hm
  rw [List.mem_filter, ← List.range_eq_range', List.mem_range] at hm
  have hc := of_decide_eq_true hm.2
  refine ⟨i, hm.1, ?_, ?_, ?_⟩
  · unfold wantL; rw [List.getD_eq_getElem?_getD, List.getElem?_map, hi]; rfl
  · unfold walksL; rw [List.getD_eq_getElem?_getD, List.getElem?_map, hi]; rfl
  · rw [flow_at hm.1, if_pos ⟨hm.1, hc⟩]
end
end Sg
end Go.Proofs.Ytdnchebbdkgccaa
