/-
  Contracts of the developers' reader of DIMACS lines: arc, end. Condition: the reader lies in a block of the call's own.
-/
import Derived.Test.YtaepoddmonijkaaDoorRdr2
namespace Go.Proofs.YtaepoddmonijkaaDoor
open Go.ChangeShapes Go.WideShapes Go.ChangeAt Go.RowKit
set_option linter.unusedVariables false
set_option linter.unusedSimpArgs false
namespace Dm

theorem box6_alloc {T : TypeId} {w : World} {b : Nat} {n s t x y : Int} {v : Value} (h : Box6 T w b n s t v x y) (o : Obj) : Box6 T (w.alloc o) b n s t v x y :=
  box6_below h ((Below.refl _ _).alloc (Nat.le_refl _) o) (box6_lt h)
theorem arow_new (w : World) (a : Ne.Arc) : Ne.ARow (w.alloc (.cells #[.int .i64 a.fr, .int .i64 a.to, .int .i64 a.cap] 49)) (some ⟨w.heap.size, 0, none⟩) [a] := by
  refine .inr ⟨w.heap.size, 0, rfl, by simp, ?_⟩
  intro i y hi j v hv
  match i, hi with
  | 0, hi =>
    simp at hi; subst hi
    match j, hv with
    | 0, hv => simp [Ne.encA] at hv; subst hv; exact World.cell?_alloc_new w _ _ 0
    | 1, hv => simp [Ne.encA] at hv; subst hv; exact World.cell?_alloc_new w _ _ 1
    | 2, hv => simp [Ne.encA] at hv; subst hv; exact World.cell?_alloc_new w _ _ 2
    | (j + 3), hv => simp [Ne.encA] at hv
  | (i + 1), hi => simp at hi
theorem but_grown {B b : Nat} {a w w' : World} {row : Option Nat} (h : But B b a w) (hg : w.grownBy w' row) (hB : B ≤ w.heap.size) (hr : ∀ k, row = some k → B ≤ k) : But B b a w' :=
  h.trans (But.of_below ((Below.refl B w).grown hg hB hr))
theorem but_alloc {B b : Nat} {a w : World} (h : But B b a w) (hB : B ≤ w.heap.size) (o : Obj) : But B b a (w.alloc o) :=
  h.trans (But.of_below ((Below.refl B w).alloc hB o))
theorem end_ok {st : St} : endE st = 0 ∨ endE st = 2 ∨ endE st = 6 := by unfold endE; split; exact .inr (.inl rfl); split; exact .inr (.inr rfl); exact .inl rfl

set_option maxHeartbeats 2000000 in
theorem end_any (B b : Nat) (st : St) (w : World) (h : RdIs w B b st) :
    Calls Tryd.prog 24 #[.pointer (some ⟨b, 0, none⟩)] w fun e w' => e = .returned (.int .i64 (endE st)) ∧ Below w.heap.size w w' := by
  obtain ⟨v, h, ho⟩ := h
  obtain ⟨h0, h1, h2, h3, h4, h5⟩ := box6_cells h
  clear h
  obtain ⟨n, s, t, x, y, l⟩ := st
  simp only at h0 h1 h2 h3 h4 h5 ho
  obtain ⟨ao, cap, rfl, _⟩ := Rw.own_row Ne.encA_len ho
  clear ho
  by_cases f1 : s = 0
  · have HE := Lib.hid (show endE ⟨n, s, t, x, y, l⟩ = 2 by simp [endE, f1])
    have f1' : (s == 0) = true := by simp [f1]
    clear f1
    go_enter Tryd.func24, Tryd.ntmps24
    go_wp2
    go_ret
    exact ⟨Ne.retI HE.out.symm, Below.refl _ _⟩
  have f1' : (s == 0) = false := by simp [f1]
  by_cases f2 : t = 0
  · have HE := Lib.hid (show endE ⟨n, s, t, x, y, l⟩ = 2 by simp [endE, f2])
    have f2' : (t == 0) = true := by simp [f2]
    clear f1 f2
    go_enter Tryd.func24, Tryd.ntmps24
    go_wp2
    go_ret
    exact ⟨Ne.retI HE.out.symm, Below.refl _ _⟩
  have f2' : (t == 0) = false := by simp [f2]
  by_cases f3 : (l.length : Int) < x
  · have HE := Lib.hid (show endE ⟨n, s, t, x, y, l⟩ = 6 by simp [endE, f1, f2, f3])
    clear f1 f2
    go_enter Tryd.func24, Tryd.ntmps24
    go_wp2
    go_quiet (fail)
    go_wp2
    go_ret
    exact ⟨Ne.retI HE.out.symm, Rw.below_drewN _ _⟩
  · have HE := Lib.hid (show endE ⟨n, s, t, x, y, l⟩ = 0 by simp [endE, f1, f2, f3])
    clear f1 f2
    go_enter Tryd.func24, Tryd.ntmps24
    go_wp2
    go_quiet (fail)
    go_wp2
    go_ret
    exact ⟨Ne.retI HE.out.symm, Rw.below_drewN _ _⟩

set_option maxHeartbeats 4000000 in
theorem arc_any (B b : Nat) (st : St) (w : World) (h : RdIs w B b st) (hok : st.ok) (ao : Option Addr) (cap : Nat) (f t c : Int) (hr : Ne.IRow w ao [f, t, c]) (hB : B ≤ w.heap.size) (hc64 : -9223372036854775808 ≤ c ∧ c ≤ 9223372036854775807) :
    Calls Tryd.prog 62 #[.pointer (some ⟨b, 0, none⟩), .slice ao 3 cap] w (After w B b (arc st f t c)) := by
  have hsum := hok.sum
  have hlen := hok.l
  have harcs := hok.arcs
  clear hok
  obtain ⟨v, h, ho⟩ := h
  have hbt := Lib.hid h
  obtain ⟨h0, h1, h2, h3, h4, h5⟩ := box6_cells h
  clear h
  obtain ⟨n, s, z, x, y, l⟩ := st
  simp only [top] at h0 h1 h2 h3 h4 h5 ho hbt hsum hlen harcs
  obtain ⟨ao2, cap2, rfl, _⟩ := Rw.own_row Ne.encA_len ho
  rcases hr with hr | ⟨g, off, rfl, hlt, hc⟩
  · exact absurd hr (by simp)
  have c0 : w.cell? ⟨g, off, none⟩ = some (.int .i64 f) := Ne.irow_at hc (i := 0) (x := f) rfl
  have c1 := Ne.irow_at hc (i := 1) (x := t) rfl
  have c2 := Ne.irow_at hc (i := 2) (x := c) rfl
  have HO := Lib.hid ho
  clear hc ho
  have i0 : (0 : Int) < ((3 : Nat) : Int) := by decide
  have i1 : (1 : Int) < ((3 : Nat) : Int) := by decide
  have i2 : (2 : Int) < ((3 : Nat) : Int) := by decide
  have HI := Lib.hid fun (p : Int) (w' : World) (h : w'.cell? ⟨b, 0, none⟩ = some (.int .i64 n)) => disnode_any b n p w' h
  by_cases f1 : Ne.isNode n f = true
  case neg =>
    have f1' : Ne.isNode n f = false := by simpa using f1
    have HE := Lib.hid (show arc ⟨n, s, z, x, y, l⟩ f t c = (4, ⟨n, s, z, x, y, l⟩) by unfold arc; rw [if_neg (by simp [f1'])])
    clear f1
    go_enter Tryd.func62, Tryd.ntmps62
    go_wp2
    go_quiet (fail)
    go_wp2_with (go_at_call 77; refine (HI.out _ _ ?hc).mono ?_; (case hc => exact h0); rintro e w' ⟨rfl, rfl⟩)
    go_ret
    exact after_err HE.out (by decide) rfl (but_drewN (But.refl _ _ _) _)
  by_cases f2 : Ne.isNode n t = true
  case neg =>
    have f2' : Ne.isNode n t = false := by simpa using f2
    have HE := Lib.hid (show arc ⟨n, s, z, x, y, l⟩ f t c = (4, ⟨n, s, z, x, y, l⟩) by unfold arc; rw [if_neg (by simp [f2'])])
    clear f2
    go_enter Tryd.func62, Tryd.ntmps62
    go_wp2
    go_quiet (fail)
    go_wp2_with (go_at_call 77; refine (HI.out _ _ ?hc).mono ?_; (case hc => exact h0); rintro e w' ⟨rfl, rfl⟩)
    go_ret
    exact after_err HE.out (by decide) rfl (but_drewN (But.refl _ _ _) _)
  have HN := Lib.hid (show (Ne.isNode n f && Ne.isNode n t) = true by simp [f1, f2])
  by_cases f3 : c < 0
  · have HE := Lib.hid (show arc ⟨n, s, z, x, y, l⟩ f t c = (3, ⟨n, s, z, x, y, l⟩) by unfold arc; rw [if_pos HN.out, if_pos f3])
    go_enter Tryd.func62, Tryd.ntmps62
    go_wp2
    go_quiet (fail)
    go_wp2_with (go_at_call 77; refine (HI.out _ _ ?hc).mono ?_; (case hc => exact h0); rintro e w' ⟨rfl, rfl⟩)
    go_ret
    exact after_err HE.out (by decide) rfl (but_drewN (But.refl _ _ _) _)
  by_cases f4 : (l.length : Int) = x
  · have HE := Lib.hid (show arc ⟨n, s, z, x, y, l⟩ f t c = (6, ⟨n, s, z, x, y, l⟩) by unfold arc; rw [if_pos HN.out, if_neg f3, if_pos f4])
    have f4' : ((l.length : Int) == x) = true := by simp [f4]
    clear f4
    go_enter Tryd.func62, Tryd.ntmps62
    go_wp2
    go_quiet (fail)
    go_wp2_with (go_at_call 77; refine (HI.out _ _ ?hc).mono ?_; (case hc => exact h0); rintro e w' ⟨rfl, rfl⟩)
    go_quiet (fail)
    go_wp2
    go_ret
    exact after_err HE.out (by decide) rfl (but_drewN (but_drewN (But.refl _ _ _) _) _)
  have f4' : ((l.length : Int) == x) = false := by simp [f4]
  have hw : IntKind.i64.wrap (4611686018427387903 - y) = 4611686018427387903 - y := by rw [IntKind.wrap_i64]; omega
  by_cases f5 : 4611686018427387903 - y < c
  · have HE := Lib.hid (show arc ⟨n, s, z, x, y, l⟩ f t c = (7, ⟨n, s, z, x, y, l⟩) by unfold arc; rw [if_pos HN.out, if_neg f3, if_neg f4, if_pos (by simpa [top] using f5)])
    clear f4
    go_enter Tryd.func62, Tryd.ntmps62
    go_wp2
    go_quiet (fail)
    go_wp2_with (go_at_call 77; refine (HI.out _ _ ?hc).mono ?_; (case hc => exact h0); rintro e w' ⟨rfl, rfl⟩)
    go_quiet (fail)
    go_wp2
    go_ret
    exact after_err HE.out (by decide) rfl (but_drewN (But.refl _ _ _) _)
  obtain ⟨l2, hl2⟩ : ∃ l2, l2 = l ++ [(⟨f, t, c⟩ : Ne.Arc)] := ⟨_, rfl⟩
  have HL2 := Lib.hid hl2
  clear hl2
  have HE := Lib.hid (show arc ⟨n, s, z, x, y, l⟩ f t c = (0, ⟨n, s, z, x, y + c, l2⟩) by rw [HL2.out]; unfold arc; rw [if_pos HN.out, if_neg f3, if_neg f4, if_neg (by simpa [top] using f5)])
  have HLN := Lib.hid (show l.length + [(⟨f, t, c⟩ : Ne.Arc)].length ≤ 1099511627776 by simp; omega)
  have hw2 : IntKind.i64.wrap (y + c) = y + c := by rw [IntKind.wrap_i64]; omega
  clear f4 hlen harcs
  go_enter Tryd.func62, Tryd.ntmps62
  go_wp2
  go_quiet (fail)
  go_wp2_with (go_at_call 77; refine (HI.out _ _ ?hc).mono ?_; (case hc => exact h0); rintro e w' ⟨rfl, rfl⟩)
  go_quiet (fail)
  go_wp2_with (at_builtin; refine Rw.app Ne.elemA Ne.encA_len Ne.encA_one rfl (.tmp 56) (.tmp 61) rfl B (.slice ao2 l.length cap2) l rfl ?ho (some ⟨w.heap.size, 0, none⟩) 1 [⟨f, t, c⟩] rfl ?hnn ?hrow HLN.out ?hB ?_; (case ho => exact Rw.own_alloc HO.out _); (case hnn => (intro h; cases h)); (case hrow => exact arow_new w ⟨f, t, c⟩); (case hB => (simp; omega)); intro v2 w2 hown2 hgr2; rw [← HL2.out] at hown2; have HX2 := Lib.hid (box6_grown (box6_alloc (box6_drewN hbt.out _) _) hgr2 (fun h => box6_own HO.out hbt.out (by decide) h.symm)); obtain ⟨o3, c3, hv3, _⟩ := Rw.own_row Ne.encA_len hown2; subst hv3; have HO2 := Lib.hid hown2; have HG2 := Lib.hid (but_grown (but_alloc (but_drewN (But.refl B b w) _) hB _) hgr2 (by simp; omega) (Rw.own_block HO.out)); obtain ⟨k0, k1, k2, k3, k4, k5⟩ := box6_cells HX2.out; have z3 := box6_frozen HX2.out 3; have z5 := box6_frozen HX2.out 5; clear hown2 hgr2)
  go_ret
  exact after_ok HE.out rfl ⟨_, box6_set5 (box6_set3 HX2.out), Rw.own_set (Rw.own_set HO2.out (box6_own HO2.out HX2.out (by decide)) _) (box6_own HO2.out HX2.out (by decide)) _⟩ (but_set (but_set HG2.out _ _) _ _)
end Dm
end Go.Proofs.YtaepoddmonijkaaDoor
