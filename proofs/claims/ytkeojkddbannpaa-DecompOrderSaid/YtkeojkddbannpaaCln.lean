/-
  slices.Clone of amounts. Condition: at most a million; the row lies in memory.
-/
import Derived.Test.YtkeojkddbannpaaFlc
import Derived.Test.YtkeojkddbannpaaRtm
namespace Go.Proofs.Ytkeojkddbannpaa
open Go.ChangeShapes Go.WideShapes Go.ChangeAt Go.RowKit
set_option linter.unusedVariables false
set_option linter.unusedSimpArgs false
namespace Ne
set_option maxHeartbeats 1000000 in
theorem clonel_any (l : List Int) (ao : Option Addr) (n cap : Nat) (w : World) (hn : n = l.length) (hr : IRow w ao l) (hl : l.length ≤ 1000000) (h0 : 0 < l.length) :
    Calls Try.prog 35 #[.slice ao n cap] w fun e w' => ∃ g c, e = .returned (.slice (some ⟨g, 0, none⟩) n c) ∧ OwnL w' w.heap.size (.slice (some ⟨g, 0, none⟩) n c) l ∧ Below w.heap.size w w' := by
  have q : ∀ (w : World) (a : Option Addr) (n c n' c' : Nat), (binOp .eql 25 (.slice a n c) (.slice none n' c')).run Try.prog w = .ok (.bool a.isNone) w := fun w a n c n' c' => Lib.run_eql_slice_nil w _ _ a n c n' c' Try.underlying25
  subst hn
  obtain ⟨b, off, rfl, _, _⟩ := irow_cell hr h0
  have HR := Lib.hid (hr.kept ((Below.refl _ _).alloc (Nat.le_refl _) (.cells #[] 2)))
  have HL := Lib.hid (show ([] : List Int).length + l.length ≤ 1099511627776 by simp; omega)
  have H0 := Lib.hid h0
  clear hr hl h0
  go_enter Try.func35, Try.ntmps35
  go_wp2_with (at_builtin; refine Rw.app elemL encI_len encI_one rfl (.tmp 5) (.tmp 6) rfl w.heap.size _ ([] : List Int) rfl (own_empty w _ (Nat.le_refl _)) (some ⟨b, off, none⟩) cap l rfl ?hnn HR.out HL.out ?hB ?_; (case hnn => (intro h; cases h)); (case hB => (simp)); intro v2 w2 hown2 hgr2; have HO2 := Lib.hid hown2; have HB2 := Lib.hid (((Below.refl w.heap.size w).alloc (Nat.le_refl _) (.cells #[] 2)).grown hgr2 (by simp) (Rw.own_block (own_empty (α := Int) (k := 1) (enc := encI) (e := 2) w w.heap.size (Nat.le_refl _)))); clear hown2 hgr2)
  go_ret
  have h := HO2.out
  rw [List.nil_append] at h
  obtain ⟨g, c, rfl, _, _⟩ := ownL_row' h H0.out
  exact ⟨g, c, rfl, h, HB2.out⟩
set_option maxHeartbeats 1000000 in
theorem cloneL_any (l : List Int) (ao : Option Addr) (n cap : Nat) (w : World) (hn : n = l.length) (hr : IRow w ao l) (hl : l.length ≤ 1000000) :
    Calls Try.prog 35 #[.slice ao n cap] w fun e w' => ∃ o c, e = .returned (.slice o n c) ∧ OwnL w' w.heap.size (.slice o n c) l ∧ Below w.heap.size w w' := by
  rcases l with _ | ⟨z, zs⟩
  · simp only [List.length_nil] at hn
    subst hn
    have q : ∀ (w : World) (a : Option Addr) (n c n' c' : Nat), (binOp .eql 25 (.slice a n c) (.slice none n' c')).run Try.prog w = .ok (.bool a.isNone) w := fun w a n c n' c' => Lib.run_eql_slice_nil w _ _ a n c n' c' Try.underlying25
    rcases ao with _ | ad
    · go_enter Try.func35, Try.ntmps35
      go_wp2
      go_ret
      exact ⟨none, 0, rfl, Rw.own_nil _ _, Below.refl _ _⟩
    · have HR := Lib.hid (hr.kept ((Below.refl _ _).alloc (Nat.le_refl _) (.cells #[] 2)))
      clear hr hl
      go_enter Try.func35, Try.ntmps35
      go_wp2_with (at_builtin; refine Rw.app elemL encI_len encI_one rfl (.tmp 5) (.tmp 6) rfl w.heap.size _ ([] : List Int) rfl (own_empty w _ (Nat.le_refl _)) (some ad) cap ([] : List Int) rfl ?hnn HR.out (by simp) ?hB ?_; (case hnn => (intro h; cases h)); (case hB => (simp)); intro v2 w2 hown2 hgr2; have HO2 := Lib.hid hown2; have HB2 := Lib.hid (((Below.refl w.heap.size w).alloc (Nat.le_refl _) (.cells #[] 2)).grown hgr2 (by simp) (Rw.own_block (own_empty (α := Int) (k := 1) (enc := encI) (e := 2) w w.heap.size (Nat.le_refl _)))); clear hown2 hgr2)
      go_ret
      have h := HO2.out
      rw [List.nil_append] at h
      obtain ⟨o, c, h1, _, _, _, h2, _⟩ := Rw.own_row encI_len h
      rw [h1] at h
      exact ⟨o, c, by rw [h1]; rfl, h, HB2.out⟩
  · exact (clonel_any (z :: zs) ao n cap w hn hr hl (by simp)).mono fun e w' ⟨g, c, h1, h2, h3⟩ => ⟨_, c, h1, h2, h3⟩
end Ne
end Go.Proofs.Ytkeojkddbannpaa
