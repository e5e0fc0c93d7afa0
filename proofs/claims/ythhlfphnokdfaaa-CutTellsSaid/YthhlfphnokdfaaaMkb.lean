/-
  Marks: a map of the call's own that holds nodes: asked, and marked. Condition: nodes of at most a million.
-/
import Derived.Test.YthhlfphnokdfaaaIrow
import Derived.Maps.OwnSet
namespace Go.Proofs.Ythhlfphnokdfaaa
open Go.ChangeShapes Go.WideShapes Go.ChangeAt Go.RowKit
open Go.Maps (Keyed IsMap int_keyed keyOf_int_mk)
set_option linter.unusedVariables false
set_option linter.unusedSimpArgs false
namespace Ne
/-- block b is a map of at most k entries, in which the nodes of S stand -/
def MkBox (w : World) (b k : Nat) (S : Nat → Bool) : Prop :=
  ∃ D : DataW Unit, w.ownsMap Try.prog 3 unitElem b k D ∧ ∀ v : Nat, v ≤ 1000000 → Maps.has D (.int .i64 (v : Int)) = S v
section
variable {w w2 : World} {b k : Nat} {S T : Nat → Bool}
theorem MkBox.kept {row : Option Nat} (h : MkBox w b k S) (hg : w.grownBy w2 row) (hne : some b ≠ row) : MkBox w2 b k S := by
  obtain ⟨D, h1, h2⟩ := h; exact ⟨D, h1.kept hg hne, h2⟩
theorem MkBox.lt (h : MkBox w b k S) : b < w.heap.size := by obtain ⟨D, h1, _⟩ := h; exact h1.lt
theorem MkBox.below (h : MkBox w b k S) (hb : Below w.heap.size w w2) : MkBox w2 b k S := by
  obtain ⟨D, ⟨es, c, e, r⟩, h2⟩ := h
  have hl : b < w.heap.size := by
    rcases Nat.lt_or_ge b w.heap.size with h | h
    · exact h
    · rw [Array.getElem?_eq_none h] at e; cases e
  exact ⟨D, ⟨es, c, by rw [hb.block b hl]; exact e, r⟩, h2⟩
theorem MkBox.alloc (h : MkBox w b k S) (o : Obj) : MkBox (w.alloc o) b k S := h.below ((Below.refl _ _).alloc (Nat.le_refl _) o)
theorem MkBox.far (h : MkBox w b k S) {p : Addr} (hp : b ≠ p.block) (v : Value) : MkBox (w.setCell p v) b k S := by
  obtain ⟨D, h1, h2⟩ := h; exact ⟨D, h1.setCell hp v, h2⟩
theorem MkBox.same (h : MkBox w b k S) (e : ∀ v, v ≤ 1000000 → S v = T v) : MkBox w b k T := by
  obtain ⟨D, h1, h2⟩ := h; exact ⟨D, h1, fun v hv => by rw [h2 v hv, e v hv]⟩
end
theorem mkbox_new (w : World) {b : Nat} (hb : b = w.heap.size) : MkBox (w.alloc (.map #[] 0)) b 0 (fun _ => false) := by
  subst hb
  exact ⟨_, World.ownsMap_made w _ _ _, fun v _ => rfl⟩
/-- a row of the call's own is no map -/
theorem ownI_map {w : World} {B b k : Nat} {S : Nat → Bool} {v : Value} {l : List Int} (h : OwnI w B v l) (hm : MkBox w b k S) : some b ≠ v.ownBlock := by
  obtain ⟨D, ⟨es, c, e, -⟩, -⟩ := hm
  intro h2
  rcases h.2 with ⟨hv, -⟩ | ⟨g, cap, cur, hv, -, hh, -⟩
  · rw [hv] at h2; cases h2
  · rw [hv] at h2
    have : b = g := by simpa [Value.ownBlock] using h2
    subst this
    rw [hh] at e; cases e
theorem mkLaw : Keyed Try.prog 3 := int_keyed Try.underlying3
theorem mkZero (w : World) : (zeroValue 69).run Try.prog w = .ok (.agg #[]) w := by kernel_rfl
theorem mkKey (v : Nat) (h : v ≤ 1000000) : keyOf Try.prog 3 (.int .i64 (v : Int)) = some (.int .i64 (v : Int)) := keyOf_int_mk Try.underlying3 (WalkArith.wf_i64 (by omega))
set_option maxRecDepth 100000 in
set_option maxHeartbeats 4000000 in
theorem has_any (w : World) (b k : Nat) (S : Nat → Bool) (v : Nat) (h : MkBox w b k S) (hv : v ≤ 1000000) :
    Calls Try.prog 26 #[.map (some b), .int .i64 (v : Int)] w fun e w' => e = .returned (.bool (S v)) ∧ Below w.heap.size w w' := by
  obtain ⟨D, hown, hD⟩ := h
  have HD := Lib.hid (hD v hv)
  have HW := Lib.hid hown
  have HK := Lib.hid (mkKey v hv)
  have HB := Lib.hid ((Below.refl w.heap.size w).alloc (Nat.le_refl _) (.cells #[] 69))
  clear hown hD hv
  generalize S v = sv at *
  go_enter Try.func26, Try.ntmps26
  go_wp2_with (at_lookup; refine wpList_lookup_own_unit _ rfl _ _ 49 rfl 3 69 mkLaw Try.underlying49 (mkZero _) b k D rfl HW.out _ _ rfl HK.out ?_; rw [HD.out])
  go_ret
  exact ⟨rfl, HB.out⟩
set_option maxRecDepth 100000 in
set_option maxHeartbeats 4000000 in
theorem put_any (w : World) (b k : Nat) (S : Nat → Bool) (v : Nat) (h : MkBox w b k S) (hk : k ≤ 1000000) (hv : v ≤ 1000000) :
    Calls Try.prog 41 #[.map (some b), .int .i64 (v : Int)] w fun e w' => e = .returned (.tuple #[]) ∧ MkBox w' b (k + 1) (fun x => x == v || S x) ∧ w.grownBy w' (some b) := by
  obtain ⟨D, hown, hD⟩ := h
  have HD := Lib.hid hD
  have HM := Lib.hid hown.isMap
  have HW := Lib.hid hown
  have HK := Lib.hid (mkKey v hv)
  have HE := Lib.hid (show ∀ w', w'.ownsMap Try.prog 3 unitElem b (k + 1) (D.put (.int .i64 (v : Int)) (.agg [])) → MkBox w' b (k + 1) (fun x => x == v || S x) from fun w' h => ⟨_, h, fun x hx => by
    by_cases e : x = v
    · subst e
      rw [Maps.has_put_same HM.out (by trivial)]; simp
    · rw [Maps.has_put_other (by intro h; injection h with _ h2; omega), HD.out x hx]; simp [e]⟩)
  have HKM := Lib.hid (show k < maxLen by unfold maxLen; omega)
  clear hown hD hv hk
  go_enter Try.func41, Try.ntmps41
  go_wp2_with (at_mapUpdate; refine wpList_mapUpdate_own _ rfl _ _ _ 49 rfl 3 69 mkLaw Try.underlying49 unitElem b k D rfl HW.out HKM.out _ _ _ rfl rfl HK.out (.agg []) [] unitElem_mk ?_; intro w1 hown1 hgrow1; have HO1 := Lib.hid hown1; have HG1 := Lib.hid hgrow1; clear hown1 hgrow1)
  go_end0
  exact ⟨rfl, HE.out _ HO1.out, HG1.out⟩
end Ne
end Go.Proofs.Ythhlfphnokdfaaa
