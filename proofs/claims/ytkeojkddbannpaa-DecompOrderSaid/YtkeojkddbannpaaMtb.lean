/-
  Places: a map of the call's own from nodes to their places in a row: asked, and put behind all others (the developers' meet). Condition: nodes of at most a million.
-/
import Derived.Test.YtkeojkddbannpaaDcw
import Derived.Maps.OwnSet
namespace Go.Proofs.Ytkeojkddbannpaa
open Go.ChangeShapes Go.WideShapes Go.ChangeAt Go.RowKit
open Go.Maps (Keyed IsMap int_keyed keyOf_int_mk)
set_option linter.unusedVariables false
set_option linter.unusedSimpArgs false
namespace Dc
open Go.Proofs.Ytkeojkddbannpaa.Ne
/-- block b is a map in which the numbers of L stand, each with its place -/
def MtBox (w : World) (b : Nat) (L : List Int) : Prop :=
  ∃ D : DataW Unit, w.ownsMap Try.prog 3 (plainElem Try.prog 3) b L.length D ∧ Maps.size D = L.length ∧ ∀ v : Int, (Maps.has D (.int .i64 v) = (ixOf L v).isSome ∧ ∀ i, ixOf L v = some i → D.atKey (.int .i64 v) (.lit (.int .i64 0)) = .lit (.int .i64 (i : Int)))
section
variable {w w2 : World} {b : Nat} {L : List Int}
theorem MtBox.kept {row : Option Nat} (h : MtBox w b L) (hg : w.grownBy w2 row) (hne : some b ≠ row) : MtBox w2 b L := by
  obtain ⟨D, h1, h2⟩ := h; exact ⟨D, h1.kept hg hne, h2⟩
theorem MtBox.lt (h : MtBox w b L) : b < w.heap.size := by obtain ⟨D, h1, _⟩ := h; exact h1.lt
theorem MtBox.same (h : MtBox w b L) (e : w2.heap[b]? = w.heap[b]?) : MtBox w2 b L := by
  obtain ⟨D, ⟨es, c, e1, r⟩, h2⟩ := h
  exact ⟨D, ⟨es, c, by rw [e]; exact e1, r⟩, h2⟩
theorem MtBox.below (h : MtBox w b L) (hb : Below w.heap.size w w2) : MtBox w2 b L := h.same (hb.block b h.lt)
theorem MtBox.far (h : MtBox w b L) {p : Addr} (hp : b ≠ p.block) (v : Value) : MtBox (w.setCell p v) b L := h.same (Below.heap_setCell _ _ _ _ hp)
end
theorem ix_nil (v : Int) : ixOf [] v = none := rfl
theorem mtbox_new (w : World) {b : Nat} (hb : b = w.heap.size) : MtBox (w.alloc (.map #[] 0)) b [] := by
  subst hb
  exact ⟨_, World.ownsMap_made w _ _ _, rfl, fun v => ⟨rfl, fun i h => by rw [ix_nil] at h; cases h⟩⟩
/-- a row of the call's own is no map -/
theorem own_mt {α : Type} {e : TypeId} {k : Nat} {enc : α → List Value} {w : World} {B b : Nat} {L : List Int} {v : Value} {l : List α} (h : Rw.Own e k enc w B v l) (hm : MtBox w b L) : some b ≠ v.ownBlock := by
  obtain ⟨D, ⟨es, c, e, -⟩, -⟩ := hm
  intro h2
  rcases h.2 with ⟨hv, -⟩ | ⟨g, cap, cur, hv, -, hh, -⟩
  · rw [hv] at h2; cases h2
  · rw [hv] at h2
    have : b = g := by simpa [Value.ownBlock] using h2
    subst this
    rw [hh] at e; cases e
theorem ix_snoc_same {L : List Int} {v : Int} (h : ixOf L v = none) : ixOf (L ++ [v]) v = some L.length := by
  have hn := ix_none h
  refine ix_hit (by simp) (by unfold amt; simp) fun j hj e => ?_
  apply hn
  have : amt (L ++ [v]) j = L[j] := by unfold amt; simp [List.getElem?_append_left hj, hj]
  rw [this] at e
  rw [← e]; exact List.getElem_mem _
theorem ix_snoc_other {L : List Int} {v u : Int} (h : u ≠ v) : ixOf (L ++ [v]) u = ixOf L u := by
  rcases hx : ixOf L u with _ | i
  · refine List.find?_eq_none.2 fun j hj => ?_
    have hn := ix_none hx
    rw [List.mem_range] at hj
    simp only [decide_eq_true_eq]
    intro e
    by_cases c : j < L.length
    · have : amt (L ++ [v]) j = L[j] := by unfold amt; simp [List.getElem?_append_left c, c]
      rw [this] at e
      exact hn (e ▸ List.getElem_mem _)
    · have : j = L.length := by simp at hj; omega
      subst this
      have : amt (L ++ [v]) L.length = v := by unfold amt; simp
      rw [this] at e; exact h e.symm
  · obtain ⟨i1, i2⟩ := ix_some hx
    have ha : ∀ j, j < L.length → amt (L ++ [v]) j = amt L j := fun j hj => by unfold amt; simp [List.getElem?_append_left hj]
    refine ix_hit (by simp; omega) (by rw [ha i i1]; exact i2) fun j hj e => ?_
    rw [ha j (by omega)] at e
    have := List.find?_eq_some_iff_append.1 hx
    obtain ⟨_, pa, pb, e1, h2⟩ := this
    have hl : pa.length = i := by
      have h3 := congrArg (fun l => l[pa.length]?) e1
      simp at h3
      have h4 := congrArg List.length e1
      simp at h4
      rw [List.getElem?_range (by omega)] at h3
      simpa using h3
    have hj2 : j ∈ pa := by
      have h3 : (List.range L.length)[j]? = (pa ++ i :: pb)[j]? := by rw [e1]
      rw [List.getElem?_range (by omega), List.getElem?_append_left (by omega)] at h3
      exact List.mem_of_getElem? h3.symm
    have := h2 j hj2
    simp at this
    exact this e
theorem mtLaw : Keyed Try.prog 3 := int_keyed Try.underlying3
theorem mtZero (w : World) : (zeroValue 3).run Try.prog w = .ok (.int .i64 0) w := by kernel_rfl
theorem mtKey (v : Int) (h0 : 0 ≤ v) (h : v ≤ 1000000) : keyOf Try.prog 3 (.int .i64 v) = some (.int .i64 v) := keyOf_int_mk Try.underlying3 (WalkArith.wf_i64 (by omega))
set_option maxRecDepth 100000 in
set_option maxHeartbeats 4000000 in
theorem meet_any (w : World) (b : Nat) (L : List Int) (v : Int) (h : MtBox w b L) (h0 : 0 ≤ v) (hv : v ≤ 1000000) (hl : L.length ≤ 1000000) :
    Calls Try.prog 38 #[.map (some b), .int .i64 v] w fun e w' => ((∃ i : Nat, ixOf L v = some i ∧ e = .returned (.tuple #[.int .i64 (i : Int), .bool true]) ∧ Below w.heap.size w w') ∨ (∃ p, ixOf L v = none ∧ e = .returned (.tuple #[.int .i64 p, .bool false]) ∧ MtBox w' b (L ++ [v]) ∧ w.grownBy w' (some b))) := by
  obtain ⟨D, hown, hsz, hD⟩ := h
  have HDV := hD v
  have HT := Lib.hid (hown.tidy mtLaw)
  have HM := Lib.hid hown.isMap
  have HKK := Lib.hid (mtKey v h0 hv)
  have HW := Lib.hid hown
  have HKM := Lib.hid (show L.length < maxLen by unfold maxLen; omega)
  rcases hx : ixOf L v with _ | i
  · rw [hx] at HDV
    have HHAS := Lib.hid (show Maps.has D (.int .i64 v) = false from HDV.1)
    have HE := Lib.hid (show ∀ w', w'.ownsMap Try.prog 3 (plainElem Try.prog 3) b (L.length + 1) (D.put (.int .i64 v) (.lit (.int .i64 (L.length : Int)))) → MtBox w' b (L ++ [v]) from fun w' h => ⟨_, by rw [List.length_append]; exact h, by rw [Maps.size_put HT.out, HHAS.out, hsz]; simp, fun x => by
      by_cases e : x = v
      · subst e
        refine ⟨by rw [Maps.has_put_same HM.out (by trivial), ix_snoc_same hx]; rfl, fun i hi => ?_⟩
        rw [ix_snoc_same hx] at hi
        cases hi
        exact Maps.atKey_put_same HM.out (by trivial) _ _
      · have hne : (Lit.int .i64 x) ≠ Lit.int .i64 v := by intro h; injection h with _ h2; exact e h2
        refine ⟨by rw [Maps.has_put_other hne, ix_snoc_other e]; exact (hD x).1, fun i hi => ?_⟩
        rw [ix_snoc_other e] at hi
        rw [Maps.atKey_put_other hne]; exact (hD x).2 i hi⟩)
    have HSZ := Lib.hid hsz
    have HPE := Lib.hid (show plainElem (H := Unit) Try.prog 3 (.int .i64 (L.length : Int)) = some (.lit (.int .i64 (L.length : Int)), []) from plainElem_int Try.underlying3 (WalkArith.wf_i64 (by omega)))
    generalize L.length = m at *
    clear hown hD hsz HDV h0 hv hl
    go_enter Try.func38, Try.ntmps38
    go_wp2_with (first
      | (at_lookup; refine wpList_lookup_own_ok_int _ rfl _ _ 79 rfl 3 3 .i64 mtLaw Try.underlying79 Try.underlying3 (mtZero _) b m D rfl HW.out _ _ rfl HKK.out ?_; intro p hat hwp; rw [HHAS.out]; clear hat hwp)
      | (at_len; refine wpList_len_own _ rfl _ 79 rfl 3 3 Try.underlying79 _ b m D rfl HW.out ?_; rw [HSZ.out])
      | (at_mapUpdate; refine wpList_mapUpdate_own _ rfl _ _ _ 79 rfl 3 3 mtLaw Try.underlying79 (plainElem Try.prog 3) b m D rfl HW.out HKM.out _ _ _ rfl rfl HKK.out (.lit (.int .i64 (m : Int))) [] HPE.out ?_; intro w1 hown1 hgrow1; have HO1 := Lib.hid hown1; have HG1 := Lib.hid hgrow1; clear hown1 hgrow1))
    go_ret2
    exact Or.inr ⟨p, trivial, rfl, HE.out _ HO1.out, HG1.out⟩
  · rw [hx] at HDV
    have HHAS := Lib.hid (show Maps.has D (.int .i64 v) = true from HDV.1)
    have HAT := Lib.hid (HDV.2 i rfl)
    have HB := Lib.hid (Below.refl w.heap.size w)
    generalize L.length = m at *
    clear hown hD hsz HDV h0 hv hl
    go_enter Try.func38, Try.ntmps38
    have HMB := Lib.hid (show ∀ p : Int, D.atKey (.int .i64 v) (.lit (.int .i64 0)) = .lit (.int .i64 p) → (i : Int) = p from fun p hat => by rw [HAT.out] at hat; simpa using hat)
    go_wp2_with (at_lookup; refine wpList_lookup_own_ok_int _ rfl _ _ 79 rfl 3 3 .i64 mtLaw Try.underlying79 Try.underlying3 (mtZero _) b m D rfl HW.out _ _ rfl HKK.out ?_; intro p hat hwp; rw [HHAS.out]; have hp := HMB.out p hat; clear hat hwp)
    go_ret2
    subst hp
    exact Or.inl ⟨i, rfl, rfl, HB.out⟩
end Dc
end Go.Proofs.Ytkeojkddbannpaa
