/-
  Contracts of the developers' reader of DIMACS lines: problem, source, sink, arc, end. Condition: the reader lies in a block of the call's own.
-/
import Derived.Test.YtaepoddmonijkaaDoorRdr
namespace Go.Proofs.YtaepoddmonijkaaDoor
open Go.ChangeShapes Go.WideShapes Go.ChangeAt Go.RowKit
set_option linter.unusedVariables false
set_option linter.unusedSimpArgs false
namespace Dm

theorem but_set {B b : Nat} {a w : World} (h : But B b a w) (o : Nat) (u : Value) : But B b a (w.setCell ⟨b, o, none⟩ u) :=
  h.trans ⟨rfl, rfl, rfl, by simp [World.setCell], fun k _ hn => Below.heap_setCell _ _ _ _ hn⟩
theorem but_drew {B b : Nat} {a w : World} (h : But B b a w) : But B b a w.drew := ⟨h.os, h.tape, h.output, h.size, h.block⟩
theorem but_drewN {B b : Nat} {a w : World} (h : But B b a w) (q : Nat) : But B b a (w.drewN q) := ⟨h.os, h.tape, h.output, h.size, h.block⟩
theorem box6_drewN {T : TypeId} {w : World} {b : Nat} {n s t x y : Int} {v : Value} (h : Box6 T w b n s t v x y) (q : Nat) : Box6 T (w.drewN q) b n s t v x y := h

/-- what a line's act leaves behind -/
def After (w : World) (B b : Nat) (r : Int × St) (e : Ending) (w' : World) : Prop := e = .returned (.int .i64 r.1) ∧ (r.1 = 0 → RdIs w' B b r.2) ∧ But B b w w'

theorem after_err {w w' : World} {B b : Nat} {r : Int × St} {c : Int} {st' : St} {e : Ending} (hE : r = (c, st')) (hc : c ≠ 0) (he : e = .returned (.int .i64 c)) (hb : But B b w w') : After w B b r e w' := by
  subst hE; exact ⟨he, fun h => absurd h hc, hb⟩
theorem after_ok {w w' : World} {B b : Nat} {r : Int × St} {st' : St} {e : Ending} (hE : r = (0, st')) (he : e = .returned (.int .i64 0)) (hR : RdIs w' B b st') (hb : But B b w w') : After w B b r e w' := by
  subst hE; exact ⟨he, fun _ => hR, hb⟩
theorem box6_own {w : World} {B : Nat} {v : Value} {l : List Ne.Arc} {T : TypeId} {b : Nat} {n s t x y : Int} {u : Value} (hown : Ne.OwnA w B v l) (hb : Box6 T w b n s t u x y) (hT : T ≠ 49) : v.ownBlock ≠ some b := own_ne6 hown hb hT

set_option maxHeartbeats 1000000 in
theorem problem_any (B b : Nat) (st : St) (w : World) (h : RdIs w B b st) (ao : Option Addr) (cap : Nat) (p q : Int) (hr : Ne.IRow w ao [p, q]) :
    Calls Tryd.prog 56 #[.pointer (some ⟨b, 0, none⟩), .slice ao 2 cap] w (After w B b (problem st p q)) := by
  obtain ⟨v, h, ho⟩ := h
  have hbt := Lib.hid h
  have hz := Lib.hid (box6_frozen h)
  obtain ⟨h0, h1, h2, h3, h4, h5⟩ := box6_cells h
  clear h
  obtain ⟨n, s, t, x, y, l⟩ := st
  simp only at h0 h1 h2 h3 h4 h5 hbt ho
  rcases hr with hr | ⟨g, off, rfl, hlt, hc⟩
  · exact absurd hr (by simp)
  have c0 : w.cell? ⟨g, off, none⟩ = some (.int .i64 p) := Ne.irow_at hc (i := 0) (x := p) rfl
  have c1 := Ne.irow_at hc (i := 1) (x := q) rfl
  have HO := Lib.hid ho
  clear hc ho
  have i0 : (0 : Int) < ((2 : Nat) : Int) := by decide
  have i1 : (1 : Int) < ((2 : Nat) : Int) := by decide
  have z0 := hz.out 0
  have z4 := hz.out 4
  by_cases f : p < 2 ∨ 500 < p ∨ q < 0 ∨ 2000 < q
  · have HE := Lib.hid (show problem ⟨n, s, t, x, y, l⟩ p q = (3, ⟨n, s, t, x, y, l⟩) by unfold problem; rw [if_pos f])
    by_cases f1 : p < 2
    · go_enter Tryd.func56, Tryd.ntmps56
      go_wp2
      go_quiet (fail)
      go_wp2
      go_ret
      exact after_err HE.out (by decide) rfl (but_drewN (But.refl _ _ _) _)
    by_cases f2 : 500 < p
    · go_enter Tryd.func56, Tryd.ntmps56
      go_wp2
      go_quiet (fail)
      go_wp2
      go_ret
      exact after_err HE.out (by decide) rfl (but_drewN (But.refl _ _ _) _)
    by_cases f3 : q < 0
    · go_enter Tryd.func56, Tryd.ntmps56
      go_wp2
      go_quiet (fail)
      go_wp2
      go_ret
      exact after_err HE.out (by decide) rfl (but_drewN (But.refl _ _ _) _)
    have f4 : 2000 < q := by omega
    clear f
    go_enter Tryd.func56, Tryd.ntmps56
    go_wp2
    go_quiet (fail)
    go_wp2
    go_ret
    exact after_err HE.out (by decide) rfl (but_drewN (But.refl _ _ _) _)
  · have HE := Lib.hid (show problem ⟨n, s, t, x, y, l⟩ p q = (0, ⟨p, s, t, q, y, l⟩) by unfold problem; rw [if_neg f])
    have f1 : ¬ p < 2 := by omega
    have f2 : ¬ 500 < p := by omega
    have f3 : ¬ q < 0 := by omega
    have f4 : ¬ 2000 < q := by omega
    clear f
    go_enter Tryd.func56, Tryd.ntmps56
    go_wp2
    go_quiet (fail)
    go_wp2
    go_ret
    exact after_ok HE.out rfl ⟨v, box6_set4 (box6_set0 (box6_drewN hbt.out _)), Rw.own_set (Rw.own_set (Rw.own_drewN HO.out _) (box6_own HO.out hbt.out (by decide)) _) (box6_own HO.out hbt.out (by decide)) _⟩
      (but_set (but_set (but_drewN (But.refl _ _ _) _) _ _) _ _)

set_option maxHeartbeats 1000000 in
/-- place, at the source's cell -/
theorem place1_any (B b : Nat) (st : St) (w : World) (h : RdIs w B b st) (p : Int) :
    Calls Tryd.prog 76 #[.pointer (some ⟨b, 0, none⟩), .pointer (some ⟨b, 1, none⟩), .int .i64 p] w (After w B b (source st p)) := by
  obtain ⟨v, h, ho⟩ := h
  have hbt := Lib.hid h
  have hz := box6_frozen h 1
  obtain ⟨h0, h1, h2, h3, h4, h5⟩ := box6_cells h
  clear h
  obtain ⟨n, s, t, x, y, l⟩ := st
  simp only at h0 h1 h2 h3 h4 h5 hbt ho
  have HO := Lib.hid ho
  clear ho
  have HI := Lib.hid (disnode_any b n p w h0)
  by_cases f : Ne.isNode n p = true
  · rw [f] at HI
    have hbt2 := Lib.hid (box6_set1 (n2 := p) hbt.out)
    obtain ⟨k0, k1, k2, k3, k4, k5⟩ := box6_cells hbt2.out
    by_cases g : p = t
    · have HE := Lib.hid (show source ⟨n, s, t, x, y, l⟩ p = (5, ⟨n, s, t, x, y, l⟩) by unfold source; rw [if_pos f, if_pos g])
      have g' : (p == t) = true := by simp [g]
      clear f g
      go_enter Tryd.func76, Tryd.ntmps76
      go_wp2_with (go_at_call 77; refine HI.out.mono ?_; rintro e w' ⟨rfl, rfl⟩)
      go_quiet (fail)
      go_wp2
      go_ret
      exact after_err HE.out (by decide) rfl (but_drewN (but_set (But.refl _ _ _) _ _) _)
    · have HE := Lib.hid (show source ⟨n, s, t, x, y, l⟩ p = (0, ⟨n, p, t, x, y, l⟩) by unfold source; rw [if_pos f, if_neg g])
      have g' : (p == t) = false := by simp [g]
      clear f g
      go_enter Tryd.func76, Tryd.ntmps76
      go_wp2_with (go_at_call 77; refine HI.out.mono ?_; rintro e w' ⟨rfl, rfl⟩)
      go_quiet (fail)
      go_wp2
      go_ret
      exact after_ok HE.out rfl ⟨v, box6_drewN hbt2.out _, Rw.own_drewN (Rw.own_set HO.out (box6_own HO.out hbt.out (by decide)) _) _⟩ (but_drewN (but_set (But.refl _ _ _) _ _) _)
  · have f' : Ne.isNode n p = false := by simpa using f
    rw [f'] at HI
    have HE := Lib.hid (show source ⟨n, s, t, x, y, l⟩ p = (4, ⟨n, s, t, x, y, l⟩) by unfold source; rw [if_neg f])
    clear f f'
    go_enter Tryd.func76, Tryd.ntmps76
    go_wp2_with (go_at_call 77; refine HI.out.mono ?_; rintro e w' ⟨rfl, rfl⟩)
    go_ret
    exact after_err HE.out (by decide) rfl (But.refl _ _ _)

set_option maxHeartbeats 1000000 in
theorem source_any (B b : Nat) (st : St) (w : World) (h : RdIs w B b st) (ao : Option Addr) (cap : Nat) (p : Int) (hr : Ne.IRow w ao [p]) :
    Calls Tryd.prog 58 #[.pointer (some ⟨b, 0, none⟩), .slice ao 1 cap] w (After w B b (source st p)) := by
  rcases hr with hr | ⟨g, off, rfl, hlt, hc⟩
  · exact absurd hr (by simp)
  have c0 : w.cell? ⟨g, off, none⟩ = some (.int .i64 p) := Ne.irow_at hc (i := 0) (x := p) rfl
  have HP := Lib.hid fun w' (hR : RdIs w' B b st) => place1_any B b st w' hR p
  have HR := Lib.hid h
  clear hc h
  have i0 : (0 : Int) < ((1 : Nat) : Int) := by decide
  go_enter Tryd.func58, Tryd.ntmps58
  go_wp2
  go_region_with (go_at_call 76; refine (HP.out w.drew HR.out).mono ?_; rintro e w' ⟨rfl, hst, hb⟩; have HS := Lib.hid hst; have HB := Lib.hid hb; clear hst hb)
  all_goals (go_wp2; go_ret; exact ⟨rfl, HS.out, (but_drew (But.refl B b w)).trans HB.out⟩)

set_option maxHeartbeats 1000000 in
/-- place, at the sink's cell -/
theorem place2_any (B b : Nat) (st : St) (w : World) (h : RdIs w B b st) (p : Int) :
    Calls Tryd.prog 76 #[.pointer (some ⟨b, 0, none⟩), .pointer (some ⟨b, 2, none⟩), .int .i64 p] w (After w B b (sink st p)) := by
  obtain ⟨v, h, ho⟩ := h
  have hbt := Lib.hid h
  have hz := box6_frozen h 2
  obtain ⟨h0, h1, h2, h3, h4, h5⟩ := box6_cells h
  clear h
  obtain ⟨n, s, t, x, y, l⟩ := st
  simp only at h0 h1 h2 h3 h4 h5 hbt ho
  have HO := Lib.hid ho
  clear ho
  have HI := Lib.hid (disnode_any b n p w h0)
  by_cases f : Ne.isNode n p = true
  · rw [f] at HI
    have hbt2 := Lib.hid (box6_set2 (n2 := p) hbt.out)
    obtain ⟨k0, k1, k2, k3, k4, k5⟩ := box6_cells hbt2.out
    by_cases g : p = s
    · have HE := Lib.hid (show sink ⟨n, s, t, x, y, l⟩ p = (5, ⟨n, s, t, x, y, l⟩) by unfold sink; rw [if_pos f, if_pos g])
      have g' : (s == p) = true := by simp [g]
      clear f g
      go_enter Tryd.func76, Tryd.ntmps76
      go_wp2_with (go_at_call 77; refine HI.out.mono ?_; rintro e w' ⟨rfl, rfl⟩)
      go_quiet (fail)
      go_wp2
      go_ret
      exact after_err HE.out (by decide) rfl (but_drewN (but_set (But.refl _ _ _) _ _) _)
    · have HE := Lib.hid (show sink ⟨n, s, t, x, y, l⟩ p = (0, ⟨n, s, p, x, y, l⟩) by unfold sink; rw [if_pos f, if_neg g])
      have g' : (s == p) = false := by simpa using fun h => g h.symm
      clear f g
      go_enter Tryd.func76, Tryd.ntmps76
      go_wp2_with (go_at_call 77; refine HI.out.mono ?_; rintro e w' ⟨rfl, rfl⟩)
      go_quiet (fail)
      go_wp2
      go_ret
      exact after_ok HE.out rfl ⟨v, box6_drewN hbt2.out _, Rw.own_drewN (Rw.own_set HO.out (box6_own HO.out hbt.out (by decide)) _) _⟩ (but_drewN (but_set (But.refl _ _ _) _ _) _)
  · have f' : Ne.isNode n p = false := by simpa using f
    rw [f'] at HI
    have HE := Lib.hid (show sink ⟨n, s, t, x, y, l⟩ p = (4, ⟨n, s, t, x, y, l⟩) by unfold sink; rw [if_neg f])
    clear f f'
    go_enter Tryd.func76, Tryd.ntmps76
    go_wp2_with (go_at_call 77; refine HI.out.mono ?_; rintro e w' ⟨rfl, rfl⟩)
    go_ret
    exact after_err HE.out (by decide) rfl (But.refl _ _ _)

set_option maxHeartbeats 1000000 in
theorem sink_any (B b : Nat) (st : St) (w : World) (h : RdIs w B b st) (ao : Option Addr) (cap : Nat) (p : Int) (hr : Ne.IRow w ao [p]) :
    Calls Tryd.prog 60 #[.pointer (some ⟨b, 0, none⟩), .slice ao 1 cap] w (After w B b (sink st p)) := by
  rcases hr with hr | ⟨g, off, rfl, hlt, hc⟩
  · exact absurd hr (by simp)
  have c0 : w.cell? ⟨g, off, none⟩ = some (.int .i64 p) := Ne.irow_at hc (i := 0) (x := p) rfl
  have HP := Lib.hid fun w' (hR : RdIs w' B b st) => place2_any B b st w' hR p
  have HR := Lib.hid h
  clear hc h
  have i0 : (0 : Int) < ((1 : Nat) : Int) := by decide
  go_enter Tryd.func60, Tryd.ntmps60
  go_wp2
  go_region_with (go_at_call 76; refine (HP.out w.drew HR.out).mono ?_; rintro e w' ⟨rfl, hst, hb⟩; have HS := Lib.hid hst; have HB := Lib.hid hb; clear hst hb)
  all_goals (go_wp2; go_ret; exact ⟨rfl, HS.out, (but_drew (But.refl B b w)).trans HB.out⟩)
end Dm
end Go.Proofs.YtaepoddmonijkaaDoor
