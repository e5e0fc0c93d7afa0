/-
  Contracts of slices.Clone (at arcs) and of the developers' Copy. Condition: at most a million arcs; nil has no capacity.
-/
import Derived.Test.YtcelggfnfnaajaaNbox
import Derived.Lib.SliceRun
namespace Go.Proofs.Ytcelggfnfnaajaa
open Go.ChangeShapes Go.WideShapes Go.ChangeAt Go.RowKit
set_option linter.unusedVariables false
set_option linter.unusedSimpArgs false
namespace Ne
set_option maxHeartbeats 1000000 in
theorem cloneV (l : List Arc) (ao : Option Addr) (cap : Nat) (w : World) (hn : ao = none → cap = 0) (hr : ARow w ao l) (hl : l.length ≤ 1000000) :
    Calls Try.prog 46 #[.slice ao l.length cap] w fun e w' => ∃ x, e = .returned x ∧ OwnA w' w.heap.size x l ∧ Below w.heap.size w w' := by
  have q : ∀ (w : World) (a : Option Addr) (n c n' c' : Nat), (binOp .eql 22 (.slice a n c) (.slice none n' c')).run Try.prog w = .ok (.bool a.isNone) w := fun w a n c n' c' => Lib.run_eql_slice_nil w _ _ a n c n' c' Try.underlying22
  rcases ao with _ | ad
  · obtain rfl := hn rfl
    have hl0 : l = [] := by
      rcases hr with h | ⟨b, off, h, _⟩
      · exact h
      · cases h
    subst hl0
    go_enter Try.func46, Try.ntmps46
    go_wp2
    go_ret
    exact ⟨_, rfl, Rw.own_nil _ _, Below.refl _ _⟩
  · have HR := Lib.hid (hr.kept ((Below.refl _ _).alloc (Nat.le_refl _) (.cells #[] 53)))
    have HL := Lib.hid (show ([] : List Arc).length + l.length ≤ 1099511627776 by simp; omega)
    clear hr hn hl
    go_enter Try.func46, Try.ntmps46
    go_wp2_with (at_builtin; refine Rw.app elemA encA_len encA_one rfl (.tmp 5) (.tmp 6) rfl w.heap.size _ ([] : List Arc) rfl (own_empty w _ (Nat.le_refl _)) (some ad) cap l rfl ?hnn HR.out HL.out ?hB ?_; (case hnn => (intro h; cases h)); (case hB => (simp)); intro v2 w2 hown2 hgr2; have HO2 := Lib.hid hown2; have HB2 := Lib.hid (((Below.refl w.heap.size w).alloc (Nat.le_refl _) (.cells #[] 53)).grown hgr2 (by simp) (Rw.own_block (own_empty (α := Arc) (k := 3) (enc := encA) (e := 53) w w.heap.size (Nat.le_refl _)))); clear hown2 hgr2)
    go_ret
    exact ⟨_, rfl, by have h := HO2.out; rw [List.nil_append] at h; exact h, HB2.out⟩

theorem clone_any (l : List Arc) (ao : Option Addr) (cap : Nat) (w : World) (hn : ao = none → cap = 0) (hr : ARow w ao l) (hl : l.length ≤ 1000000) :
    Calls Try.prog 46 #[.slice ao l.length cap] w fun e w' => ∃ ao' cap', e = .returned (.slice ao' l.length cap') ∧ OwnA w' w.heap.size (.slice ao' l.length cap') l ∧ Below w.heap.size w w' := by
  refine (cloneV l ao cap w hn hr hl).mono ?_
  rintro e w' ⟨x, rfl, ho, hb⟩
  obtain ⟨ao2, cap2, hx, _⟩ := Rw.own_row encA_len ho
  subst hx
  exact ⟨ao2, cap2, rfl, ho, hb⟩

set_option maxHeartbeats 2000000 in
theorem copy_any (n : Net) (ao : Option Addr) (cap : Nat) (w : World) (hn : ao = none → cap = 0) (hr : ARow w ao n.l) (hl : n.l.length ≤ 1000000) :
    Calls Try.prog 37 #[encN n ao cap] w fun e w' => ∃ ao' cap', e = .returned (encN n ao' cap') ∧ OwnA w' w.heap.size (.slice ao' n.l.length cap') n.l ∧ Below w.heap.size w w' := by
  obtain ⟨nn, ns, nt, l⟩ := n
  simp only at hr hl ⊢
  have HB := Lib.hid (((Below.refl w.heap.size w).alloc (by simp) (.cells #[.int .i64 nn, .int .i64 ns, .int .i64 nt, .slice ao l.length cap] 24)).alloc (by simp) (.cells #[.int .i64 0, .int .i64 0, .int .i64 0, .slice none 0 0] 24))
  have HC := Lib.hid (clone_any l ao cap _ hn (hr.kept HB.out) hl)
  have HX := Lib.hid (netBox_alloc (netBox_new w nn ns nt (.slice ao l.length cap)) (.cells #[.int .i64 0, .int .i64 0, .int .i64 0, .slice none 0 0] 24))
  have HY := Lib.hid (netBox_at (w.alloc (.cells #[.int .i64 nn, .int .i64 ns, .int .i64 nt, .slice ao l.length cap] 24)) (b := w.heap.size + 1) (by simp) 0 0 0 (.slice none 0 0))
  clear hr hn
  go_enter Try.func37, Try.ntmps37
  go_wp2_with fail
  refine HC.out.mono ?_
  rintro e w1 ⟨a2, k2, rfl, ho, hb⟩
  have X1 := netBox_below HX.out hb (by simp; omega)
  have Y1 := netBox_below HY.out hb (by simp)
  have HB1 := Lib.hid (HB.out.trans (hb.mono (by simp; omega)))
  have HO := Lib.hid (Rw.own_base ho (B' := w.heap.size + 2) (by simp))
  have hvb := Rw.own_block HO.out
  obtain ⟨n0, n1, n2, n3⟩ := netBox_cells X1
  have nf := netBox_frozen X1 3
  obtain ⟨r0, r1, r2, r3⟩ := netBox_cells Y1
  have f0 := netBox_frozen Y1 0
  have f1 := netBox_frozen Y1 1
  have f2 := netBox_frozen Y1 2
  have f3 := netBox_frozen Y1 3
  have HO2 := Lib.hid (Rw.own_set (Rw.own_set (Rw.own_set (Rw.own_set (Rw.own_set HO.out (p := ⟨w.heap.size, 3, none⟩) (fun h => by have h2 := hvb _ h; simp only at h2; omega) (.slice a2 l.length k2))
    (p := ⟨w.heap.size + 1, 0, none⟩) (fun h => by have h2 := hvb _ h; simp only at h2; omega) (.int .i64 nn)) (p := ⟨w.heap.size + 1, 1, none⟩) (fun h => by have h2 := hvb _ h; simp only at h2; omega) (.int .i64 ns)) (p := ⟨w.heap.size + 1, 2, none⟩) (fun h => by have h2 := hvb _ h; simp only at h2; omega) (.int .i64 nt)) (p := ⟨w.heap.size + 1, 3, none⟩) (fun h => by have h2 := hvb _ h; simp only at h2; omega) (.slice a2 l.length k2))
  have HW := Lib.hid (netBox_all (n2 := nn) (s2 := ns) (t2 := nt) (v2 := .slice a2 l.length k2) (netBox_other Y1 (b2 := w.heap.size) (o := 3) (v2 := .slice a2 l.length k2) (by omega)))
  have HB2 := Lib.hid (((((HB1.out.setCell (p := ⟨w.heap.size, 3, none⟩) (by simp) (.slice a2 l.length k2)).setCell (p := ⟨w.heap.size + 1, 0, none⟩) (by simp) (.int .i64 nn)).setCell (p := ⟨w.heap.size + 1, 1, none⟩) (by simp) (.int .i64 ns)).setCell (p := ⟨w.heap.size + 1, 2, none⟩) (by simp) (.int .i64 nt)).setCell (p := ⟨w.heap.size + 1, 3, none⟩) (by simp) (.slice a2 l.length k2))
  clear X1 Y1 ho hb hvb
  go_wp2
  refine bodyPost_ret_by (results_cell_row rfl _ _ (w.heap.size + 1) 24 _ (0, 0) _ rfl HW.out Try.underlying24 rfl (by kernel_rfl)) rfl ?_
  exact ⟨a2, k2, rfl, Rw.own_base HO2.out (by omega), HB2.out⟩
end Ne
end Go.Proofs.Ytcelggfnfnaajaa
