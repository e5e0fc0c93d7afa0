/-
  The search back from the sink, plainly: what it keeps, from node to node; where one comes, and from where. Condition: the network is right.
-/
import Derived.Test.YthhlfphnokdfaaaCtr
namespace Go.Proofs.Ythhlfphnokdfaaa
set_option linter.unusedVariables false
set_option linter.unusedSimpArgs false
namespace Ne
theorem right_back {n : Net} (hR : Right n) : Right (turnN n) := by
  have ha : ∀ i, i < n.l.length → arcAt (n.l.map turnA) i = turnA (arcAt n.l i) := fun i hi => arcAt_of (by rw [List.getElem?_map, at_arc hi]; rfl)
  refine ⟨hR.n0, hR.n1, hR.t0, hR.t1, hR.s0, hR.s1, fun h => hR.ne h.symm, by simpa [turnN] using hR.len, ?_, ?_, ?_, ?_, ?_, ?_⟩
  · intro i hi; have hi : i < n.l.length := by simpa [turnN] using hi
    show 1 ≤ (arcAt (n.l.map turnA) i).fr; rw [ha i hi]; exact hR.to0 i hi
  · intro i hi; have hi : i < n.l.length := by simpa [turnN] using hi
    show (arcAt (n.l.map turnA) i).fr ≤ n.n; rw [ha i hi]; exact hR.to1 i hi
  · intro i hi; have hi : i < n.l.length := by simpa [turnN] using hi
    show 1 ≤ (arcAt (n.l.map turnA) i).to; rw [ha i hi]; exact hR.fr0 i hi
  · intro i hi; have hi : i < n.l.length := by simpa [turnN] using hi
    show (arcAt (n.l.map turnA) i).to ≤ n.n; rw [ha i hi]; exact hR.fr1 i hi
  · intro i hi; have hi : i < n.l.length := by simpa [turnN] using hi
    show 0 ≤ (arcAt (n.l.map turnA) i).cap; rw [ha i hi]; exact hR.cap0 i hi
  · have e : capS (n.l.map turnA) (n.l.map turnA).length = capS n.l n.l.length := by
      unfold capS; rw [List.length_map]
      exact sumTo_congr fun i hi => by rw [ha i hi]; rfl
    show capS (n.l.map turnA) (n.l.map turnA).length ≤ _
    rw [e]; exact hR.sum
/-- what is come to, there is -/
theorem reach_exists {n : Net} (hR : Right n) (f : List Int) (x : Int) : ∃ M, IsReach n f x M := by
  have hs0 := hR.s0
  have hs1 := hR.s1
  refine ⟨(List.range (n.n.toNat + 1)).map fun v => @decide (Rch n f x ((v : Nat) : Int)) (Classical.propDecidable _), by simp, ?_, fun i hi => ?_, fun r hr hx hm => ?_⟩
  · rw [List.getD_eq_getElem?_getD, List.getElem?_map, List.getElem?_range (by omega)]
    simp only [Option.map_some, Option.getD_some, decide_eq_true_eq]
    rw [show ((n.s.toNat : Nat) : Int) = n.s by omega]; exact .base
  · rw [List.getD_eq_getElem?_getD, List.getElem?_map] at hi
    rcases Nat.lt_or_ge i (n.n.toNat + 1) with h | h
    · rw [List.getElem?_range h] at hi; simpa using hi
    · rw [List.getElem?_eq_none (by simpa using h)] at hi; simp at hi
  · have h1 := trF_bd hR hr
    have h2 := trT_bd hR hr
    rw [List.getD_eq_getElem?_getD, List.getElem?_map, List.getElem?_range (by omega)] at hm ⊢
    simp only [Option.map_some, Option.getD_some, decide_eq_true_eq] at hm ⊢
    rw [show (((trF n.l r).toNat : Nat) : Int) = trF n.l r by omega] at hm
    rw [show (((trT n.l r).toNat : Nat) : Int) = trT n.l r by omega]
    exact .step hr hx hm
/-- the sink is come to just if one comes from the source back -/
theorem reach_back {n : Net} (hR : Right n) {f : List Int} {M B : List Bool} (hM : IsReach n f 1 M) (hB : IsReach (turnN n) f 1 B) : B.getD n.s.toNat false = M.getD n.t.toNat false := by
  have hs := hR.s0
  have ht := hR.t0
  cases c : M.getD n.t.toNat false
  · cases d : B.getD n.s.toNat false
    · rfl
    · have h1 := hB.sound _ d
      have h2 := back_shut (reach_shut hR hM) (by rw [c]; rfl) h1
      rw [show ((n.s.toNat : Nat) : Int).toNat = n.s.toNat by omega, hM.at_s] at h2; cases h2
  · cases d : B.getD n.s.toNat false
    · have h1 := hM.sound _ c
      have h2 := rch_shut (back_turned (right_back hR) hB) d h1
      have h3 : B.getD n.t.toNat false = true := hB.at_s
      rw [show ((n.t.toNat : Nat) : Int).toNat = n.t.toNat by omega, h3] at h2; cases h2
    · rfl
/-- where the tracks with room that end at v begin, of the first k -/
def behL (l : List Arc) (f : List Int) (v k : Nat) : List Nat := ((List.range k).filter fun r => decide (0 < roomN l f r ∧ (trT l r).toNat = v)).map fun r => (trF l r).toNat
theorem behL_zero (l : List Arc) (f : List Int) (v : Nat) : behL l f v 0 = [] := rfl
theorem behL_hit {l : List Arc} {f : List Int} {v k : Nat} (h : 0 < roomN l f k) (h2 : (trT l k).toNat = v) : behL l f v (k + 1) = behL l f v k ++ [(trF l k).toNat] := by
  simp [behL, List.range_succ, h, h2]
theorem behL_miss {l : List Arc} {f : List Int} {v k : Nat} (h : ¬ (0 < roomN l f k ∧ (trT l k).toNat = v)) : behL l f v (k + 1) = behL l f v k := by
  unfold behL
  rw [List.range_succ, List.filter_append, List.filter_cons_of_neg (by simpa using h), List.filter_nil, List.append_nil]
theorem behL_mem {l : List Arc} {f : List Int} {v k u : Nat} : u ∈ behL l f v k ↔ ∃ r, r < k ∧ 0 < roomN l f r ∧ (trT l r).toNat = v ∧ (trF l r).toNat = u := by
  simp only [behL, List.mem_map, List.mem_filter, List.mem_range, decide_eq_true_eq]
  constructor
  · rintro ⟨r, ⟨h1, h2, h3⟩, h4⟩; exact ⟨r, h1, h2, h3, h4⟩
  · rintro ⟨r, h1, h2, h3, h4⟩; exact ⟨r, ⟨h1, h2, h3⟩, h4⟩
theorem behL_len (l : List Arc) (f : List Int) (v k : Nat) : (behL l f v k).length ≤ k := by
  unfold behL; rw [List.length_map]; exact Nat.le_trans (List.length_filter_le _ _) (by simp)
/-- what the search keeps: those that are marked, those that wait; of node u those behind it that wait to be looked at -/
structure Bk (n : Net) (f : List Int) (B : List Bool) (way : List Nat) (u : Nat) (D : List Nat) : Prop where
  len : B.length = n.n.toNat + 1
  snk : B.getD n.t.toNat false = true
  sound : ∀ i : Nat, B.getD i false = true → Rch (turnN n) f 1 (i : Int)
  cls : ∀ r, r < 2 * n.l.length → 1 ≤ roomN n.l f r → B.getD (trT n.l r).toNat false = true → B.getD (trF n.l r).toNat false = true ∨ (trT n.l r).toNat ∈ way ∨ ((trT n.l r).toNat = u ∧ (trF n.l r).toNat ∈ D)
  wayB : ∀ v ∈ way, B.getD v false = true
  few : way.length + unmet B ≤ n.n.toNat + 1
theorem bk_lt {n : Net} {f : List Int} {B : List Bool} {way : List Nat} {u : Nat} {D : List Nat} (h : Bk n f B way u D) {v : Nat} (hv : B.getD v false = true) : v < n.n.toNat + 1 := by
  rcases Nat.lt_or_ge v B.length with c | c
  · rwa [h.len] at c
  · rw [List.getD_eq_getElem?_getD, List.getElem?_eq_none c] at hv; simp at hv
theorem bk_start {n : Net} (hR : Right n) (f : List Int) : Bk n f ((List.replicate (n.n.toNat + 1) false).set n.t.toNat true) [n.t.toNat] 0 [] := by
  have h0 := hR.t0
  have h1 := hR.t1
  have ht : n.t.toNat < (List.replicate (n.n.toNat + 1) false).length := by simp; omega
  have hg := fun j => getD_set _ n.t.toNat j ht
  have hz : ∀ j, (List.replicate (n.n.toNat + 1) false).getD j false = false := fun j => by
    rw [List.getD_eq_getElem?_getD, List.getElem?_replicate]; split <;> rfl
  refine ⟨by simp, by rw [hg, if_pos rfl], fun i hi => ?_, fun r hr hx hm => ?_, fun v hv => ?_, ?_⟩
  · rw [hg, hz] at hi
    by_cases e : i = n.t.toNat
    · rw [show (i : Int) = n.t by omega]; exact .base (n := turnN n)
    · rw [if_neg e] at hi; cases hi
  · rw [hg, hz] at hm
    by_cases e : (trT n.l r).toNat = n.t.toNat
    · exact .inr (.inl (by simp [e]))
    · rw [if_neg e] at hm; cases hm
  · simp at hv; subst hv; rw [hg, if_pos rfl]
  · have h3 := unmet_set ht (hz _)
    have h4 : unmet (List.replicate (n.n.toNat + 1) false) ≤ n.n.toNat + 1 := by
      unfold unmet; have := List.countP_le_length (p := fun b => !b) (l := List.replicate (n.n.toNat + 1) false); simpa using this
    simp only [List.length_singleton]; omega
/-- the last one that waits is looked at -/
theorem bk_pop {n : Net} {f : List Int} {B : List Bool} {W0 : List Nat} {u : Nat} (h : Bk n f B (W0 ++ [u]) 0 []) : Bk n f B W0 u (behL n.l f u (2 * n.l.length)) := by
  refine ⟨h.len, h.snk, h.sound, fun r hr hx hm => ?_, fun v hv => h.wayB v (List.mem_append_left _ hv), by have := h.few; simp at this; omega⟩
  rcases h.cls r hr hx hm with h1 | h1 | ⟨_, h1⟩
  · exact .inl h1
  · rcases List.mem_append.1 h1 with h2 | h2
    · exact .inr (.inl h2)
    · simp at h2; exact .inr (.inr ⟨h2, behL_mem.2 ⟨r, hr, by omega, h2, rfl⟩⟩)
  · simp at h1
theorem bk_skip {n : Net} {f : List Int} {B : List Bool} {way : List Nat} {u v : Nat} {D : List Nat} (h : Bk n f B way u (v :: D)) (hv : B.getD v false = true) : Bk n f B way u D := by
  refine ⟨h.len, h.snk, h.sound, fun r hr hx hm => ?_, h.wayB, h.few⟩
  rcases h.cls r hr hx hm with h1 | h1 | ⟨h1, h2⟩
  · exact .inl h1
  · exact .inr (.inl h1)
  · rcases List.mem_cons.1 h2 with h3 | h3
    · rw [h3]; exact .inl hv
    · exact .inr (.inr ⟨h1, h3⟩)
theorem bk_put {n : Net} (hR : Right n) {f : List Int} {B : List Bool} {way : List Nat} {u v : Nat} {D : List Nat} (h : Bk n f B way u (v :: D)) (hv : B.getD v false = false) (hu : B.getD u false = true) (hm : v ∈ behL n.l f u (2 * n.l.length)) :
    Bk n f (B.set v true) (way ++ [v]) u D ∧ unmet (B.set v true) + 1 = unmet B ∧ v < B.length := by
  obtain ⟨r, hr, hx, ht, hf⟩ := behL_mem.1 hm
  have hb := trF_bd hR hr
  have hb2 := trT_bd hR hr
  have hvl : v < B.length := by rw [h.len]; omega
  have hg := fun j => getD_set B v j hvl
  have hun := unmet_set hvl hv
  have hup : ∀ j, B.getD j false = true → (B.set v true).getD j false = true := fun j hj => by rw [hg]; split <;> simp_all
  refine ⟨⟨by simp [h.len], hup _ h.snk, fun i hi => ?_, fun q hq hxq hmq => ?_, fun w hw => ?_, ?_⟩, hun, hvl⟩
  · rw [hg] at hi
    by_cases e : i = v
    · obtain ⟨e1, e2, e3⟩ := tr_turn (f := f) hr
      have h1 := h.sound u hu
      have : (i : Int) = trT (turnN n).l r := by show _ = trT (n.l.map turnA) r; rw [e2]; omega
      rw [this]
      refine .step (by simpa [turnN] using hr) (by show 1 ≤ roomN (n.l.map turnA) f r; rw [e3]; omega) ?_
      show Rch (turnN n) f 1 (trF (n.l.map turnA) r)
      rw [e1, show trT n.l r = (u : Int) by omega]; exact h1
    · rw [if_neg e] at hi; exact h.sound i hi
  · rw [hg] at hmq
    by_cases e : (trT n.l q).toNat = v
    · exact .inr (.inl (by simp [e]))
    · rw [if_neg e] at hmq
      rcases h.cls q hq hxq hmq with h1 | h1 | ⟨h1, h2⟩
      · exact .inl (hup _ h1)
      · exact .inr (.inl (List.mem_append_left _ h1))
      · rcases List.mem_cons.1 h2 with h3 | h3
        · exact .inl (by rw [hg, if_pos h3])
        · exact .inr (.inr ⟨h1, h3⟩)
  · rcases List.mem_append.1 hw with h1 | h1
    · exact hup _ (h.wayB w h1)
    · simp at h1; subst h1; rw [hg, if_pos rfl]
  · have := h.few; simp; omega
theorem bk_done {n : Net} {f : List Int} {B : List Bool} {way : List Nat} {u : Nat} (h : Bk n f B way u []) : Bk n f B way 0 [] := by
  refine ⟨h.len, h.snk, h.sound, fun r hr hx hm => ?_, h.wayB, h.few⟩
  rcases h.cls r hr hx hm with h1 | h1 | ⟨h1, h2⟩
  · exact .inl h1
  · exact .inr (.inl h1)
  · simp at h2
theorem bk_end {n : Net} {f : List Int} {B : List Bool} (h : Bk n f B [] 0 []) : IsReach (turnN n) f 1 B := by
  refine ⟨h.len, h.snk, h.sound, fun r hr hx hm => ?_⟩
  have hr' : r < 2 * n.l.length := by simpa [turnN] using hr
  obtain ⟨e1, e2, e3⟩ := tr_turn (f := f) hr'
  have hx' : 1 ≤ roomN n.l f r := by rw [← e3]; exact hx
  have hm' : B.getD (trT n.l r).toNat false = true := by rw [← e1]; exact hm
  show B.getD (trT (n.l.map turnA) r).toNat false = true
  rw [e2]
  rcases h.cls r hr' hx' hm' with h1 | h1 | ⟨h1, h2⟩
  · exact h1
  · simp at h1
  · simp at h2
end Ne
end Go.Proofs.Ythhlfphnokdfaaa
