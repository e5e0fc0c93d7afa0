/-
  Stage 9: the document's forest behind a call that changes it: which rows there are, what lies in memory. No condition.
-/
import Derived.Test.YtjhodnpmogkmmaaSpo
namespace Go.Proofs.Ytjhodnpmogkmmaa
open Go.ChangeShapes Go.WideShapes Go.ChangeAt Go.RowKit
set_option linter.unusedVariables false
set_option linter.unusedSimpArgs false
namespace Sp
section
variable {RS : List (List Nat)} {s : St}
theorem rep_mk (hg : Good s) (own : Nat → Nat) (h1 : ∀ x, x < s.v.length → RS[own x]? = some (s.r x)) (h2 : ∀ (j : Nat) (l : List Nat), RS[j]? = some l → ∀ y ∈ l, y < s.v.length ∧ own y = j) : Rep RS s :=
  ⟨hg, fun j l hl y hy => by
    obtain ⟨g1, g2⟩ := h2 j l hl y hy
    have := h1 y g1
    rw [g2, hl] at this
    exact (Option.some.inj this).symm, fun x hx => ⟨own x, h1 x hx⟩, fun i j l l' y hl hl' hy hy' => by
    rw [← (h2 i l hl y hy).2, ← (h2 j l' hl' y hy').2]⟩
theorem rep_own (h : Rep RS s) : ∃ own : Nat → Nat, (∀ x, x < s.v.length → RS[own x]? = some (s.r x)) ∧ (∀ (j : Nat) (l : List Nat), RS[j]? = some l → ∀ y ∈ l, y < s.v.length ∧ own y = j) := by
  have hc : ∀ x, ∃ i, x < s.v.length → RS[i]? = some (s.r x) := fun x => by
    by_cases c : x < s.v.length
    · obtain ⟨i, hi⟩ := h.is x c; exact ⟨i, fun _ => hi⟩
    · exact ⟨0, fun c2 => absurd c2 c⟩
  refine ⟨fun x => Classical.choose (hc x), fun x hx => Classical.choose_spec (hc x) hx, fun j l hl y hy => ?_⟩
  have e := h.of j l hl y hy
  have hy2 : y < s.v.length := h.good.lt y y (by rw [e]; exact hy)
  exact ⟨hy2, h.one _ j _ l y (Classical.choose_spec (hc y) hy2) hl (h.good.mem y hy2) hy⟩
theorem get_set (l : List (List Nat)) (i j : Nat) (x : List Nat) (hi : i < l.length) : (l.set i x)[j]? = if j = i then some x else l[j]? := by
  by_cases e : j = i
  · subst e; rw [if_pos rfl, List.getElem?_set_self hi]
  · rw [if_neg e, List.getElem?_set_ne (Ne.symm e)]
theorem rep_turn (h : Rep RS s) {x : Int} {i : Nat} (hi : RS[i]? = some (rowZ s x)) : Rep (RS.set i (rowZ s x).reverse) (turnS s x) := by
  obtain ⟨own, h1, h2⟩ := rep_own h
  have hil := (List.getElem?_eq_some_iff.1 hi).1
  refine rep_mk (good_turn h.good x) own (fun y hy => ?_) (fun j l hl y hy => ?_)
  · have hy' : y < s.v.length := hy
    rw [get_set _ _ _ _ hil]
    show _ = some (if y ∈ rowZ s x then (rowZ s x).reverse else s.r y)
    by_cases c : y ∈ rowZ s x
    · rw [if_pos c, if_pos (h2 i _ hi y c).2]
    · rw [if_neg c, if_neg fun e => by
        have := h1 y hy'
        rw [e, hi] at this
        rw [Option.some.inj this] at c
        exact c (h.good.mem y hy')]
      exact h1 y hy'
  · rw [get_set _ _ _ _ hil] at hl
    split at hl
    · rename_i e
      cases hl
      subst e
      exact h2 j _ hi y (List.mem_reverse.1 hy)
    · exact h2 j l hl y hy
theorem rep_join (h : Rep RS s) {a b : Int} (he : joinE s a b = 0) {i k : Nat} (hi : RS[i]? = some (rowZ s a)) (hk : RS[k]? = some (rowZ s b)) (hne : i ≠ k) : Rep ((RS.set i (rowZ s a ++ rowZ s b)).set k []) (joinS s a b) := by
  obtain ⟨own, h1, h2⟩ := rep_own h
  have hil := (List.getElem?_eq_some_iff.1 hi).1
  have hkl := (List.getElem?_eq_some_iff.1 hk).1
  have hg := good_join h.good a b
  unfold joinS at hg ⊢
  rw [if_pos he] at hg ⊢
  have hget : ∀ j, ((RS.set i (rowZ s a ++ rowZ s b)).set k [])[j]? = if j = k then some [] else if j = i then some (rowZ s a ++ rowZ s b) else RS[j]? := fun j => by
    rw [get_set _ _ _ _ (by rw [List.length_set]; exact hkl), get_set _ _ _ _ hil]
  refine rep_mk hg (fun y => if y ∈ rowZ s b then i else own y) (fun y hy => ?_) (fun j l hl y hy => ?_)
  · have hy' : y < s.v.length := hy
    rw [hget]
    show _ = some (if y ∈ rowZ s a ∨ y ∈ rowZ s b then rowZ s a ++ rowZ s b else s.r y)
    by_cases cb : y ∈ rowZ s b
    · rw [if_pos cb, if_neg hne, if_pos rfl, if_pos (.inr cb)]
    · simp only [if_neg cb]
      by_cases ca : y ∈ rowZ s a
      · have e := (h2 i _ hi y ca).2
        rw [e, if_neg hne, if_pos rfl, if_pos (.inl ca)]
      · have e1 : own y ≠ k := fun e => by
          have := h1 y hy'
          rw [e, hk] at this
          rw [Option.some.inj this] at cb
          exact cb (h.good.mem y hy')
        have e2 : own y ≠ i := fun e => by
          have := h1 y hy'
          rw [e, hi] at this
          rw [Option.some.inj this] at ca
          exact ca (h.good.mem y hy')
        rw [if_neg e1, if_neg e2, if_neg (by simp [ca, cb])]
        exact h1 y hy'
  · rw [hget] at hl
    show y < s.v.length ∧ (if y ∈ rowZ s b then i else own y) = j
    split at hl
    · cases hl; simp at hy
    · split at hl
      · rename_i e1 e2
        cases hl
        rcases List.mem_append.1 hy with c | c
        · obtain ⟨g1, g2⟩ := h2 i _ hi y c
          refine ⟨g1, ?_⟩
          split
          · exact e2.symm
          · rw [g2]; exact e2.symm
        · exact ⟨(h2 k _ hk y c).1, by rw [if_pos c]; exact e2.symm⟩
      · rename_i e1 e2
        obtain ⟨g1, g2⟩ := h2 j l hl y hy
        refine ⟨g1, ?_⟩
        rw [if_neg fun c => e1 (by rw [← g2, (h2 k _ hk y c).2])]
        exact g2
theorem rep_cut (h : Rep RS s) {x : Int} {i : Nat} (hi : RS[i]? = some (rowZ s x)) (k : Nat) : Rep (RS.set i ((rowZ s x).take k) ++ [(rowZ s x).drop k]) (cutR s (rowZ s x) k) := by
  obtain ⟨own, h1, h2⟩ := rep_own h
  have hil := (List.getElem?_eq_some_iff.1 hi).1
  have hnd := rowZ_nodup h.good x
  have hd : ∀ y, y ∈ (rowZ s x).take k → y ∉ (rowZ s x).drop k := fun y g1 g2 => by
    have := List.take_append_drop k (rowZ s x)
    rw [← this] at hnd
    exact (List.nodup_append.1 hnd).2.2 y g1 y g2 rfl
  have hget : ∀ j, (RS.set i ((rowZ s x).take k) ++ [(rowZ s x).drop k])[j]? = if j = RS.length then some ((rowZ s x).drop k) else if j = i then some ((rowZ s x).take k) else RS[j]? := fun j => by
    by_cases e : j = RS.length
    · subst e; rw [if_pos rfl, List.getElem?_append_right (by simp)]; simp
    · rw [if_neg e]
      by_cases c : j < RS.length
      · rw [List.getElem?_append_left (by simpa using c), get_set _ _ _ _ hil]
      · rw [List.getElem?_eq_none (by simp; omega), if_neg (by omega), List.getElem?_eq_none (by omega)]
  refine rep_mk (good_cut h.good x k) (fun y => if y ∈ (rowZ s x).drop k then RS.length else own y) (fun y hy => ?_) (fun j l hl y hy => ?_)
  · have hy' : y < s.v.length := hy
    rw [hget]
    show _ = some (if y ∈ (rowZ s x).take k then (rowZ s x).take k else if y ∈ (rowZ s x).drop k then (rowZ s x).drop k else s.r y)
    by_cases cb : y ∈ (rowZ s x).drop k
    · rw [if_pos cb, if_pos rfl, if_neg (fun c => hd y c cb), if_pos cb]
    · simp only [if_neg cb]
      have hol : own y < RS.length := (List.getElem?_eq_some_iff.1 (h1 y hy')).1
      rw [if_neg (by omega)]
      by_cases ca : y ∈ (rowZ s x).take k
      · rw [if_pos (h2 i _ hi y (List.mem_of_mem_take ca)).2, if_pos ca]
      · rw [if_neg ca, if_neg fun e => by
          have := h1 y hy'
          rw [e, hi] at this
          have hm := h.good.mem y hy'
          rw [← Option.some.inj this, ← List.take_append_drop k (rowZ s x)] at hm
          rcases List.mem_append.1 hm with c | c
          · exact ca c
          · exact cb c]
        exact h1 y hy'
  · rw [hget] at hl
    show y < s.v.length ∧ (if y ∈ (rowZ s x).drop k then RS.length else own y) = j
    split at hl
    · rename_i e
      cases hl
      exact ⟨(h2 i _ hi y (List.mem_of_mem_drop hy)).1, by rw [if_pos hy, e]⟩
    · split at hl
      · rename_i e1 e2
        cases hl
        obtain ⟨g1, g2⟩ := h2 i _ hi y (List.mem_of_mem_take hy)
        exact ⟨g1, by rw [if_neg (hd y hy), g2]; exact e2.symm⟩
      · rename_i e1 e2
        obtain ⟨g1, g2⟩ := h2 j l hl y hy
        refine ⟨g1, ?_⟩
        rw [if_neg fun c => e2 (by rw [← g2, (h2 i _ hi y (List.mem_of_mem_drop c)).2])]
        exact g2
theorem rep_add (h : Rep RS s) (x d : Int) : Rep RS (addS s x d) := by
  have hr : (addS s x d).r = s.r := by unfold addS; split <;> rfl
  have hv : (addS s x d).v.length = s.v.length := by
    unfold addS; split
    · exact addL_len _ _ _
    · rfl
  exact ⟨good_add h.good x d, fun i l hl y hy => by rw [hr]; exact h.of i l hl y hy, fun y hy => by rw [hr]; exact h.is y (by omega), h.one⟩
theorem rep_new {vs : List Int} (he : newE vs = 0) : Rep ((List.range vs.length).map fun i => [i]) (newS vs) := by
  refine rep_mk (good_new he) id (fun y hy => ?_) (fun j l hl y hy => ?_)
  · have hy' : y < vs.length := hy
    show ((List.range vs.length).map fun i => [i])[y]? = some (if y < vs.length then [y] else [])
    rw [if_pos hy']; simp [hy']
  · simp only [List.getElem?_map] at hl
    have hj : j < vs.length := by
      rcases Nat.lt_or_ge j vs.length with c | c
      · exact c
      · rw [List.getElem?_eq_none (by simpa using c)] at hl; simp at hl
    rw [List.getElem?_range hj] at hl
    simp at hl
    subst hl
    simp at hy
    subst hy
    exact ⟨hj, rfl⟩
end
section
variable {w w2 : World} {B p : Nat} {vv rv : Value} {Ks : List RowC} {RS : List (List Nat)} {s : St}
/-- a row is another one -/
theorem RefM.put {v : List Int} {g n c : Nat} (h : RefM w B p vv (.slice (some ⟨g, 0, none⟩) n c) Ks RS v) {i : Nat} (hi : i < RS.length) {K : RowC} {l : List Nat} (hK : Ne.OwnI w B K.val (Ne.encW l)) :
    RefM (w.setCell ⟨g, i, none⟩ K.val) B p vv (.slice (some ⟨g, 0, none⟩) n c) (Ks.set i K) (RS.set i l) v := by
  have hik : i < Ks.length := by rw [h.len]; exact hi
  have hrow := Ne.own_put encS_len h.rows (List.getElem?_eq_getElem hik) (j := 0) (by omega) (u := K.val) (y := K) rfl
  rw [Nat.mul_one, Nat.add_zero] at hrow
  have hown : ∀ {x : Value} {l : List Int}, Ne.OwnI w B x l → Ne.OwnI (w.setCell ⟨g, i, none⟩ K.val) B x l := fun hx => Rw.own_set hx (p := ⟨g, i, none⟩) (fun e => Ne.own_types (by decide) hx h.rows g e rfl) _
  refine ⟨fblk_same h.blk (Below.heap_setCell _ _ _ _ fun e => fblk_own h.blk (by decide) h.rows (by show some g = some p; rw [e])), h.low, ?_, hrow, by simp [h.len], fun j k l' hj hl => ?_⟩
  · exact Rw.own_set h.vals (p := ⟨g, i, none⟩) (fun e => Ne.own_types (by decide) h.vals h.rows g e rfl) _
  · by_cases e : j = i
    · subst e
      rw [List.getElem?_set_self hik] at hj
      rw [List.getElem?_set_self hi] at hl
      cases hj; cases hl
      exact hown hK
    · rw [List.getElem?_set_ne (Ne.symm e)] at hj hl
      exact hown (h.each j k l' hj hl)
theorem refF_put {i : Nat} {K : RowC} {g : Nat} (h : RefF p vv rv (Ks.set i K) g) : RefF p vv rv Ks g ∨ K.val.ownBlock = some g := by
  rcases h with h | h | h | ⟨k, hk, h⟩
  · exact .inl (.inl h)
  · exact .inl (.inr (.inl h))
  · exact .inl (.inr (.inr (.inl h)))
  · rcases List.mem_or_eq_of_mem_set hk with c | c
    · exact .inl (.inr (.inr (.inr ⟨k, c, h⟩)))
    · subst c; exact .inr h
/-- one row more -/
theorem RefM.snoc {v : List Int} (h : RefM w B p vv rv Ks RS v) {K : RowC} {l : List Nat} (hK : Ne.OwnI w B K.val (Ne.encW l)) {rv2 : Value} (hg : w.grownBy w2 rv.ownBlock) (hrow : Rw.Own 37 1 encS w2 B rv2 (Ks ++ [K])) :
    RefM (w2.setCell ⟨p, 1, none⟩ rv2) B p vv rv2 (Ks ++ [K]) (RS ++ [l]) v := by
  have hb : FBlk w2 p vv rv := fblk_same h.blk (hg.block p (fblk_lt h.blk) fun e => fblk_own h.blk (by decide) h.rows e.symm)
  have hown : ∀ {x : Value} {l : List Int}, Ne.OwnI w B x l → Ne.OwnI (w2.setCell ⟨p, 1, none⟩ rv2) B x l := fun hx => by
    have h1 := Ne.own_same hx fun g hg2 => hg.block g (Rw.own_lt hx g hg2).2 fun e2 => Ne.own_types (by decide) hx h.rows g hg2 e2.symm
    exact Rw.own_set h1 (p := ⟨p, 1, none⟩) (fun e => fblk_own hb (by decide) h1 e) _
  have hvl := Ne.own_same h.vals fun g hg2 => hg.block g (Rw.own_lt h.vals g hg2).2 fun e2 => Ne.own_types (by decide) h.vals h.rows g hg2 e2.symm
  refine ⟨fblk_rows hb rv2, h.low, Rw.own_set hvl (p := ⟨p, 1, none⟩) (fun e => fblk_own hb (by decide) hvl e) _, Rw.own_set hrow (p := ⟨p, 1, none⟩) (fun e => fblk_own hb (by decide) hrow e) _, by simp [h.len], fun j k l' hj hl => ?_⟩
  · rcases Nat.lt_trichotomy j Ks.length with c | c | c
    · rw [List.getElem?_append_left c] at hj
      rw [List.getElem?_append_left (by rw [← h.len]; exact c)] at hl
      exact hown (h.each j k l' hj hl)
    · subst c
      rw [List.getElem?_append_right (Nat.le_refl _)] at hj
      rw [h.len, List.getElem?_append_right (Nat.le_refl _)] at hl
      simp at hj hl
      subst hj; subst hl
      exact hown hK
    · rw [List.getElem?_eq_none (by simp; omega)] at hj; cases hj
end
/-- the blocks of F, and those that are new -/
def Ext (F : Nat → Prop) (w w2 : World) (g : Nat) : Prop := F g ∨ (w.heap.size ≤ g ∧ g < w2.heap.size)
/-- the document's forest, in blocks of F -/
def RefP (w : World) (B : Nat) (F : Nat → Prop) (p : Nat) (s : St) (m : Nat) : Prop :=
  ∃ vv rv Ks RS, RefO w B p vv rv Ks RS s ∧ RS.length ≤ 3000 + m ∧ (∀ g, RefF p vv rv Ks g → F g) ∧ ∀ g, F g → B ≤ g ∧ g < w.heap.size
section
variable {w w2 w3 : World} {B p m : Nat} {F G : Nat → Prop} {vv rv : Value} {Ks : List RowC} {RS : List (List Nat)} {s : St}
theorem ext_two {g : Nat} (h : Ext (Ext F w w2) w2 w3 g) (h1 : w.heap.size ≤ w2.heap.size) (h2 : w2.heap.size ≤ w3.heap.size) : Ext F w w3 g := by
  rcases h with (h | h) | h
  · exact .inl h
  · exact .inr ⟨h.1, by omega⟩
  · exact .inr ⟨by omega, h.2⟩
theorem RefP.good (h : RefP w B F p s m) : Good s := by obtain ⟨_, _, _, _, h, _⟩ := h; exact h.rep.good
theorem RefP.fin (h : RefP w B F p s m) : ∀ g, F g → B ≤ g ∧ g < w.heap.size := by obtain ⟨_, _, _, _, _, _, _, h⟩ := h; exact h
theorem RefP.grow (h : RefP w B F p s m) {m2 : Nat} (hm : m ≤ m2) : RefP w B F p s m2 := by obtain ⟨vv, rv, Ks, RS, h1, h2, h3, h4⟩ := h; exact ⟨vv, rv, Ks, RS, h1, by omega, h3, h4⟩
theorem RefP.mono (h : RefP w B F p s m) (hG : ∀ g, F g → G g) (hf : ∀ g, G g → B ≤ g ∧ g < w.heap.size) : RefP w B G p s m := by obtain ⟨vv, rv, Ks, RS, h1, h2, h3, h4⟩ := h; exact ⟨vv, rv, Ks, RS, h1, h2, fun g hg => hG g (h3 g hg), hf⟩
/-- where none of its blocks is another one -/
theorem RefP.off (h : RefP w B F p s m) (ho : Off G w w2) (hd : ∀ g, F g → ¬ G g) : RefP w2 B F p s m := by
  obtain ⟨vv, rv, Ks, RS, h1, h2, h3, h4⟩ := h
  exact ⟨vv, rv, Ks, RS, h1.off ho fun g hg => hd g (h3 g hg), h2, h3, fun g hg => ⟨(h4 g hg).1, Nat.lt_of_lt_of_le (h4 g hg).2 ho.size⟩⟩
theorem RefP.kept (h : RefP w B F p s m) (hb : Below w.heap.size w w2) : RefP w2 B F p s m := h.off (G := fun _ => False) (.of_below hb) fun _ _ c => c
/-- what lies in memory, in blocks of F -/
def RefK (w : World) (B : Nat) (F : Nat → Prop) (p : Nat) (vv rv : Value) (Ks : List RowC) (RS : List (List Nat)) (v : List Int) : Prop :=
  RefM w B p vv rv Ks RS v ∧ (∀ g, RefF p vv rv Ks g → F g) ∧ ∀ g, F g → B ≤ g ∧ g < w.heap.size
theorem RefK.kept {v : List Int} (h : RefK w B F p vv rv Ks RS v) (hb : Below w.heap.size w w2) : RefK w2 B F p vv rv Ks RS v :=
  ⟨h.1.kept hb, h.2.1, fun g hg => ⟨(h.2.2 g hg).1, Nat.lt_of_lt_of_le (h.2.2 g hg).2 hb.size⟩⟩
theorem RefK.refP (h : RefK w B F p vv rv Ks RS s.v) (hr : Rep RS s) (hm : RS.length ≤ 3000 + m) : RefP w B F p s m := ⟨_, _, _, _, ⟨h.1, hr⟩, hm, h.2.1, h.2.2⟩
theorem RefK.mono {v : List Int} (h : RefK w B F p vv rv Ks RS v) (hG : ∀ g, F g → G g) (hf : ∀ g, G g → B ≤ g ∧ g < w.heap.size) : RefK w B G p vv rv Ks RS v := ⟨h.1, fun g hg => hG g (h.2.1 g hg), hf⟩
/-- a row of the call's own in the place of another one -/
theorem refK_put {v : List Int} {g n c : Nat} (h : RefK w B F p vv (.slice (some ⟨g, 0, none⟩) n c) Ks RS v) (hBw : B ≤ w.heap.size) (hb : Below w.heap.size w w2)
    {i : Nat} (hi : i < RS.length) {K : RowC} {l : List Nat} (hK : Ne.OwnI w2 w.heap.size K.val (Ne.encW l)) :
    RefK (w2.setCell ⟨g, i, none⟩ K.val) B (Ext F w (w2.setCell ⟨g, i, none⟩ K.val)) p vv (.slice (some ⟨g, 0, none⟩) n c) (Ks.set i K) (RS.set i l) v ∧ Off F w (w2.setCell ⟨g, i, none⟩ K.val) := by
  obtain ⟨h, hF, hf⟩ := h
  have hsz : (w2.setCell ⟨g, i, none⟩ K.val).heap.size = w2.heap.size := by simp [World.setCell]
  have hs := hb.size
  refine ⟨⟨(h.kept hb).put hi (Rw.own_base hK hBw), fun g' hg' => ?_, fun g' hg' => ?_⟩, (Off.of_below hb).set (p := ⟨g, i, none⟩) (.inl (hF g (.inr (.inr (.inl rfl))))) _⟩
  · rcases refF_put hg' with c | c
    · exact .inl (hF g' c)
    · have := Rw.own_lt hK g' c
      exact .inr ⟨this.1, by rw [hsz]; exact this.2⟩
  · rw [hsz]
    rcases hg' with c | c
    · have := hf g' c; omega
    · rw [hsz] at c; omega
/-- one row of the call's own more; w3 is behind the row of rows' growth -/
theorem refK_snoc {v : List Int} (h : RefK w B F p vv rv Ks RS v) (hBw : B ≤ w.heap.size) (hb : Below w.heap.size w w2)
    {K : RowC} {l : List Nat} (hK : Ne.OwnI w2 w.heap.size K.val (Ne.encW l)) {rv2 : Value} (hg : w2.grownBy w3 rv.ownBlock) (hrow : Rw.Own 37 1 encS w3 B rv2 (Ks ++ [K])) (hat : rv2.ownBlock = rv.ownBlock ∨ rv2.ownBlock = some w2.heap.size) :
    RefK (w3.setCell ⟨p, 1, none⟩ rv2) B (Ext F w (w3.setCell ⟨p, 1, none⟩ rv2)) p vv rv2 (Ks ++ [K]) (RS ++ [l]) v ∧ Off F w (w3.setCell ⟨p, 1, none⟩ rv2) := by
  obtain ⟨h, hF, hf⟩ := h
  have hsz : (w3.setCell ⟨p, 1, none⟩ rv2).heap.size = w3.heap.size := by simp [World.setCell]
  have hs := hb.size
  have hs3 := hg.size
  have hrl := Rw.own_lt hrow
  refine ⟨⟨(h.kept hb).snoc (Rw.own_base hK hBw) hg hrow, fun g' hg' => ?_, fun g' hg' => ?_⟩, ((Off.of_below hb).grown hg (fun k hk => .inl (hF k (.inr (.inr (.inl hk)))))).set (p := ⟨p, 1, none⟩) (.inl (hF p (.inl rfl))) _⟩
  · rcases hg' with c | c | c | ⟨k, hk, c⟩
    · exact .inl (hF g' (.inl c))
    · exact .inl (hF g' (.inr (.inl c)))
    · rcases hat with e | e
      · rw [e] at c; exact .inl (hF g' (.inr (.inr (.inl c))))
      · have := hrl g' c
        rw [e] at c; cases c
        exact .inr ⟨hs, by rw [hsz]; exact this.2⟩
    · rcases List.mem_append.1 hk with d | d
      · exact .inl (hF g' (.inr (.inr (.inr ⟨k, d, c⟩))))
      · simp at d; subst d
        have := Rw.own_lt hK g' c
        exact .inr ⟨this.1, by rw [hsz]; omega⟩
  · rw [hsz]
    rcases hg' with c | c
    · have := hf g' c; omega
    · rw [hsz] at c; omega
end
end Sp
end Go.Proofs.Ytjhodnpmogkmmaa
