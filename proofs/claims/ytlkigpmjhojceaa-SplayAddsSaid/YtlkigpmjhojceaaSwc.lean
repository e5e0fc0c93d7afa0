/-
  Stage 9: contracts of the developers' forest: Turn, Split. No condition.
-/
import Derived.Test.YtlkigpmjhojceaaSwb
import Derived.Test.YtlkigpmjhojceaaSvi
namespace Go.Proofs.Ytlkigpmjhojceaa
open Go.ChangeShapes Go.WideShapes Go.ChangeAt Go.RowKit
set_option linter.unusedVariables false
set_option linter.unusedSimpArgs false
namespace Sp
open Sv
section
variable {w w1 w2 w3 : World} {B p lo hi g c : Nat} {F : Nat → Prop} {s : St} {M : Nat → Nd} {I : Nat → List Nat} {P : Nat → Bool} {D : Nat → Int}
theorem turnS_miss {x : Int} (h : rowZ s x = []) : turnS s x = s := by unfold turnS; rw [h]; simp
theorem splitS_miss {x : Int} (h : rowZ s x = []) : splitS s x = s := by unfold splitS cutR; rw [h]; simp
theorem st_ext {s t : St} (h1 : s.v = t.v) (h2 : ∀ y, s.r y = t.r y) : s = t := by
  obtain ⟨v, r⟩ := s
  obtain ⟨v2, r2⟩ := t
  simp only at h1 h2
  rw [h1, show r = r2 from funext h2]
section
variable {y c1 : Nat} {M1 : Nat → Nd} {I1 : Nat → List Nat} {P1 : Nat → Bool} {D1 : Nat → Int}
theorem Hd.turned (h : Hd w B F p s lo hi g c M I P D) (hB : B ≤ w.heap.size) (t : Tp w w1 B p g s.v.length s c (c + 6 * pot I s.v.length) y c1 M1 I1 P1 D1) (hM : SpA w1 w2 B p g s.v.length (upd M1 y { M1 y with t := !(M1 y).t }) c1) :
    SpO w2 B (Ext F w w2) p (turnS s (y : Int)) (lo + it s (y : Int)) (hi + cst s.v.length) ∧ Off F w w2 := by
  rw [it_in h t.lt]
  refine h.to hB (s2 := turnS s (y : Int)) hM.toSpM (off_pg t.off hM.off) rfl (turn_inv t.inv t.lt t.up fun z => ?_) (good_turn h.good _) (by have := t.lo; have := h.lo; omega) (by rw [turn_pot]; have := t.hi; omega)
  show (if z ∈ rowZ s (y : Int) then _ else _) = _
  rw [rowZ_nat]
/-- where a top lies in its row -/
theorem Tp.mid {n K : Nat} (t : Tp w w1 B p g n s c K y c1 M1 I1 P1 D1) : s.r y = IL I1 ((M1 y).b false) ++ y :: IL I1 ((M1 y).b true) ∧ y ∉ IL I1 ((M1 y).b false) := by
  have e2 := t.inv.root_row t.lt t.up
  have e3 := t.inv.spl_clear t.lt t.cl false
  simp only [ord] at e3
  have e3' : I1 y = IL I1 ((M1 y).b false) ++ y :: IL I1 ((M1 y).b true) := by simpa using e3
  have hnd := t.inv.nd y t.lt
  rw [e3'] at hnd
  exact ⟨by rw [e2, e3'], fun c => (List.nodup_append.1 hnd).2.2 y c y (by simp) rfl⟩
theorem cut_at {A C : List Nat} {y : Nat} (h : y ∉ A) : (A ++ y :: C).idxOf y = A.length := by
  rw [List.idxOf_append, if_neg h]; simp
theorem Tp.cutS {n K : Nat} (t : Tp w w1 B p g n s c K y c1 M1 I1 P1 D1) : splitS s (y : Int) = ⟨s.v, fun z => if z ∈ IL I1 ((M1 y).b false) then IL I1 ((M1 y).b false) else if z ∈ y :: IL I1 ((M1 y).b true) then y :: IL I1 ((M1 y).b true) else s.r z⟩ := by
  obtain ⟨h1, h2⟩ := t.mid
  unfold splitS cutR
  rw [rowZ_nat, Int.toNat_natCast, h1, cut_at h2, List.take_left, List.drop_left]
theorem Hd.kept0 (h : Hd w B F p s lo hi g c M I P D) (hB : B ≤ w.heap.size) (t : Tp w w1 B p g s.v.length s c (c + 6 * pot I s.v.length) y c1 M1 I1 P1 D1) (hb : (M1 y).b false = none) :
    SpO w1 B (Ext F w w1) p (splitS s (y : Int)) (lo + it s (y : Int)) (hi + cst s.v.length) ∧ Off F w w1 := by
  have e : splitS s (y : Int) = s := by
    rw [t.cutS, hb]
    refine st_ext rfl fun z => ?_
    show (if z ∈ IL I1 none then IL I1 none else if z ∈ y :: IL I1 ((M1 y).b true) then y :: IL I1 ((M1 y).b true) else s.r z) = s.r z
    obtain ⟨h1, _⟩ := t.mid
    rw [hb] at h1
    have h1' : s.r y = y :: IL I1 ((M1 y).b true) := h1
    rw [if_neg (by simp [IL])]
    split
    · rename_i c
      rw [← h1'] at c ⊢
      exact (h.good.same y z c).symm
    · rfl
  rw [e]
  exact h.one hB t
theorem Hd.cut (h : Hd w B F p s lo hi g c M I P D) (hB : B ≤ w.heap.size) (t : Tp w w1 B p g s.v.length s c (c + 6 * pot I s.v.length) y c1 M1 I1 P1 D1) {L : Nat} (hb : (M1 y).b false = some L) (hM : SpA w1 w2 B p g s.v.length (refM (cutM M1 y L) y) c1) :
    SpO w2 B (Ext F w w2) p (splitS s (y : Int)) (lo + it s (y : Int)) (hi + cst s.v.length) ∧ Off F w w2 := by
  rw [it_in h t.lt]
  have hG := good_split h.good (y : Int)
  have e := t.cutS
  rw [e] at hG ⊢
  refine h.to hB (s2 := ⟨s.v, fun z => if z ∈ IL I1 ((M1 y).b false) then IL I1 ((M1 y).b false) else if z ∈ y :: IL I1 ((M1 y).b true) then y :: IL I1 ((M1 y).b true) else s.r z⟩) hM.toSpM (off_pg t.off hM.off) rfl (cut_inv t.inv t.lt t.up t.cl hb fun z => ?_) hG (by have := t.lo; have := h.lo; omega) (by have := cut_pot (L := L) t.inv t.lt t.cl; have := t.hi; omega)
  show (if z ∈ IL I1 ((M1 y).b false) then _ else _) = _
  rw [hb]; rfl
theorem cut_wants {n : Nat} {V : Nat → Int} {r : Nat → List Nat} (hI : Inv n V r No M1 I1 P1 D1) (hn : n ≤ 3000) {L : Nat} (hy : y < n) (hyu : (M1 y).up = none) (hb : (M1 y).b false = some L) : L < n ∧ y ≠ L ∧ ∀ s' z, (cutM M1 y L y).b s' = some z → z < n ∧ z ≠ y ∧ (cutM M1 y L z).c ≤ 1000000 := by
  obtain ⟨hLn, hLu, _⟩ := hI.ch y _ L hy hb
  have hxL : y ≠ L := fun e => by subst e; rw [hyu] at hLu; cases hLu
  refine ⟨hLn, hxL, fun s' z hz => ?_⟩
  rw [cutM_x hxL] at hz
  have hz' : (M1 y).b s' = some z ∧ s' ≠ false := by
    simp only [setb] at hz
    split at hz
    · cases hz
    · rename_i e; exact ⟨hz, e⟩
  have hzn := (hI.ch y s' z hy hz'.1).1
  have hzy : z ≠ y := fun e => by subst e; have := hI.below hy hz'.1; omega
  have hzL : z ≠ L := fun e => by subst e; exact hz'.2 (hI.side_uniq hy hz'.1 hb)
  refine ⟨hzn, hzy, ?_⟩
  rw [cutM_o hzy hzL, hI.cnt z hzn id]
  have := hI.len hzn
  omega
end
set_option maxHeartbeats 1000000 in
theorem dturn_any (h : SpO w B F p s lo hi) (hBw : B ≤ w.heap.size) (x : Int) :
    Calls Try.prog 32 #[.pointer (some ⟨p, 0, none⟩), .int .i64 x] w fun e w' => e = .returned (.tuple #[]) ∧ SpO w' B (Ext F w w') p (turnS s x) (lo + it s x) (hi + cst s.v.length) ∧ Off F w w' := by
  obtain ⟨g, c, M, I, P, D, h⟩ := h.hd
  by_cases hx : 0 ≤ x ∧ x < (s.v.length : Int)
  case neg =>
    have hm := h.miss hBw hx
    have HE := Lib.hid hm.1
    have HL := Lib.hid (lift_out h.mem hx)
    have hz : turnS s x = s := by exact turnS_miss hm.2
    rw [hz]
    clear h hx hm hz
    go_enter Try.func32, Try.ntmps32
    go_wp2_with fail
    refine HL.out.mono ?_
    rintro e w1 ⟨rfl, rfl⟩
    go_wp2
    go_end0
    exact ⟨rfl, HE.out⟩
  obtain ⟨y, rfl⟩ : ∃ y : Nat, x = (y : Int) := ⟨x.toNat, by omega⟩
  have hy : y < s.v.length := by omega
  have hyi : (y : Int) < (s.v.length : Int) := hx.2
  have hy0 : (0 : Int) ≤ (y : Int) := hx.1
  have HL := Lib.hid (h.lift hy)
  have HH := Lib.hid (fun w1 w2 c1 M1 I1 P1 D1 t1 hM => h.turned (w1 := w1) (w2 := w2) hBw (y := y) (c1 := c1) (M1 := M1) (I1 := I1) (P1 := P1) (D1 := D1) t1 hM)
  generalize turnS s (y : Int) = s2 at *
  clear h hx
  go_enter Try.func32, Try.ntmps32
  go_wp2_with fail
  refine HL.out.mono ?_
  rintro e w1 ⟨rfl, c1, M1, I1, P1, D1, t1⟩
  have HT := Lib.hid (turn_any t1.mem hy)
  have HQ := Lib.hid t1
  clear t1
  go_wp2_with fail
  refine HT.out.mono ?_
  rintro e w2 ⟨rfl, hA⟩
  have HE := Lib.hid (HH.out _ _ _ _ _ _ _ HQ.out hA)
  clear hA HT
  go_wp2
  go_end0
  exact ⟨rfl, HE.out⟩
set_option maxHeartbeats 1000000 in
theorem dsplit_any (h : SpO w B F p s lo hi) (hBw : B ≤ w.heap.size) (x : Int) :
    Calls Try.prog 31 #[.pointer (some ⟨p, 0, none⟩), .int .i64 x] w fun e w' => e = .returned (.int .i64 (splitE s x)) ∧ SpO w' B (Ext F w w') p (splitS s x) (lo + it s x) (hi + cst s.v.length) ∧ Off F w w' := by
  obtain ⟨g, c, M, I, P, D, h⟩ := h.hd
  by_cases hx : 0 ≤ x ∧ x < (s.v.length : Int)
  case neg =>
    have hm := h.miss hBw hx
    have HE := Lib.hid hm.1
    have HL := Lib.hid (lift_out h.mem hx)
    have hz : splitE s x = 4 := by unfold splitE; rw [if_pos hm.2]
    rw [hz, splitS_miss hm.2]
    clear h hx hm hz
    go_enter Try.func31, Try.ntmps31
    go_wp2_with fail
    refine HL.out.mono ?_
    rintro e w1 ⟨rfl, rfl⟩
    go_wp2
    go_ret
    exact ⟨rfl, HE.out⟩
  obtain ⟨y, rfl⟩ : ∃ y : Nat, x = (y : Int) := ⟨x.toNat, by omega⟩
  have hy : y < s.v.length := by omega
  have hyi : (y : Int) < (s.v.length : Int) := hx.2
  have hy0 : (0 : Int) ≤ (y : Int) := hx.1
  have HL := Lib.hid (h.lift hy)
  have hz : splitE s (y : Int) = 0 := by unfold splitE; rw [if_neg (fun e => by have := h.row.1 e; omega)]
  rw [hz]
  have H0 := Lib.hid (fun w1 c1 M1 I1 P1 D1 t1 hb => h.kept0 (w1 := w1) hBw (y := y) (c1 := c1) (M1 := M1) (I1 := I1) (P1 := P1) (D1 := D1) t1 hb)
  have HH := Lib.hid (fun w1 w2 c1 M1 I1 P1 D1 t1 L hb hM => h.cut (w1 := w1) (w2 := w2) hBw (y := y) (c1 := c1) (M1 := M1) (I1 := I1) (P1 := P1) (D1 := D1) t1 (L := L) hb hM)
  generalize splitS s (y : Int) = s2 at *
  clear h hx hz
  go_enter Try.func31, Try.ntmps31
  go_wp2_with fail
  refine HL.out.mono ?_
  rintro e w1 ⟨rfl, c1, M1, I1, P1, D1, t1⟩
  have n0 := t1.mem.head
  have c5 := t1.mem.cells hy 5 _ rfl
  cases hb : (M1 y).b false with
  | none =>
    have HE := Lib.hid (H0.out _ _ _ _ _ _ t1 hb)
    rw [hb] at c5
    simp only [oi] at c5
    clear t1 hb
    go_wp2
    go_ret
    exact ⟨rfl, HE.out⟩
  | some L =>
    obtain ⟨hLn, hyL, hw⟩ := cut_wants t1.inv t1.mem.small hy t1.up hb
    have HQ := Lib.hid t1
    have HB := Lib.hid hb
    have HW := Lib.hid hw
    rw [hb] at c5
    simp only [oi] at c5
    have hLm : ¬ (L : Int) = -1 := by omega
    have hLi : (L : Int) < (s.v.length : Int) := by omega
    have hL0 : (0 : Int) ≤ (L : Int) := by omega
    have c4 := t1.mem.cells hLn 4 _ rfl
    have f4 := t1.mem.froz (L * 9 + 4)
    have HM1 := Lib.hid (t1.mem.at.put hLn (j := 4) (k := { M1 L with up := none }) (by omega) (u := .int .i64 (-1)) rfl)
    clear t1 hb hw
    go_wp2_with fail
    refine (hang_any HM1.out.toSpM hy false none (fun z e => by cases e)).mono ?_
    rintro e w2 ⟨rfl, hA⟩
    have HM2 := Lib.hid (show SpA w1 w2 B p g s.v.length (cutM M1 y L) c1 from HM1.out.then hA)
    clear hA
    go_wp2_with fail
    refine (refresh_any HM2.out.toSpM hy HW.out).mono ?_
    rintro e w3 ⟨rfl, hA⟩
    have HE := Lib.hid (HH.out _ _ _ _ _ _ _ HQ.out _ HB.out (HM2.out.then hA))
    clear hA
    go_wp2
    go_ret
    exact ⟨rfl, HE.out⟩
end
end Sp
end Go.Proofs.Ytlkigpmjhojceaa
