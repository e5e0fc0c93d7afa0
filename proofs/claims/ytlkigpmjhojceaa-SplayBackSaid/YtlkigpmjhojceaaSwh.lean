/-
  Stage 9: contract of the developers' forest: New. No condition.
-/
import Derived.Test.YtlkigpmjhojceaaSwg
namespace Go.Proofs.Ytlkigpmjhojceaa
open Go.ChangeShapes Go.WideShapes Go.ChangeAt Go.RowKit
set_option linter.unusedVariables false
set_option linter.unusedSimpArgs false
namespace Sp
open Sv
theorem below_item {w w2 : World} {B g : Nat} (hg : B ≤ g) (hB : Below B w w2) (o1 o2 o3 o4 o5 o6 o7 o8 o9 : Nat) (v1 v2 v3 v4 v5 v6 v7 v8 v9 : Value) :
    Below B w (((((((((w2.setCell ⟨g, o1, none⟩ v1).setCell ⟨g, o2, none⟩ v2).setCell ⟨g, o3, none⟩ v3).setCell ⟨g, o4, none⟩ v4).setCell ⟨g, o5, none⟩ v5).setCell ⟨g, o6, none⟩ v6).setCell ⟨g, o7, none⟩ v7).setCell ⟨g, o8, none⟩ v8).setCell ⟨g, o9, none⟩ v9) :=
  (((((((((hB.setCell (p := ⟨g, o1, none⟩) hg v1).setCell (p := ⟨g, o2, none⟩) hg v2).setCell (p := ⟨g, o3, none⟩) hg v3).setCell (p := ⟨g, o4, none⟩) hg v4).setCell (p := ⟨g, o5, none⟩) hg v5).setCell (p := ⟨g, o6, none⟩) hg v6).setCell (p := ⟨g, o7, none⟩) hg v7).setCell (p := ⟨g, o8, none⟩) hg v8).setCell (p := ⟨g, o9, none⟩) hg v9)
/-- the forest that New lays -/
theorem new_done {w wr : World} {vs : List Int} (hn : newE vs = 0) (hB : Below w.heap.size w wr) (hO : Rw.Own 60 9 encN wr w.heap.size (.slice (some ⟨w.heap.size, 0, none⟩) vs.length vs.length) (lst vs.length (newM (Ne.amt vs) vs.length))) :
    SpO (wr.alloc (.cells #[.slice (some ⟨w.heap.size, 0, none⟩) vs.length vs.length, .int .i64 0] 62)) w.heap.size (fun g => w.heap.size ≤ g ∧ g < (wr.alloc (.cells #[.slice (some ⟨w.heap.size, 0, none⟩) vs.length vs.length, .int .i64 0] 62)).heap.size) wr.heap.size (newS vs) 0 (2 * cst vs.length) := by
  have hG := good_new hn
  have hsz : (wr.alloc (.cells #[.slice (some ⟨w.heap.size, 0, none⟩) vs.length vs.length, .int .i64 0] 62)).heap.size = wr.heap.size + 1 := by show (wr.heap.push _).size = _; simp
  have hlt := Rw.own_lt hO w.heap.size rfl
  have hb : ∀ x, x < vs.length → -4611686018427387904 ≤ Ne.amt vs x ∧ Ne.amt vs x ≤ 4611686018427387904 := hG.bnd
  refine ⟨w.heap.size, 0, newM (Ne.amt vs) vs.length, fun y => [y], fun _ => false, fun _ => 0, ⟨?_, ?_, ?_, hG.small⟩, ?_, hG, fun k hk => ?_, fun k hk => hk, Nat.le_refl _, ?_⟩
  · unfold VBlk
    show (wr.heap.push _)[wr.heap.size]? = _
    rw [show Sv.wr ((0 : Nat) : Int) = (0 : Int) from by rw [Sv.wr_eq]; decide]
    simp [newS]
  · exact hB.size
  · exact Rw.own_alloc hO _
  · exact new_inv (fun y hy => by show (if y < vs.length then [y] else []) = _; rw [if_pos (show y < vs.length from hy)]) hb
  · rcases hk with rfl | rfl
    · have := hB.size; omega
    · omega
  · show 0 + 6 * pot (fun y => [y]) vs.length ≤ _
    rw [new_pot]; omega
set_option maxHeartbeats 4000000 in
theorem dnew_any (ao : Option Addr) (cap : Nat) (vs : List Int) (w : World) (hr : Ne.IRow w ao vs) (hn : ao = none → cap = 0) :
    Calls Try.prog 11 #[.slice ao vs.length cap] w fun e w' => Below w.heap.size w w' ∧ ∃ pv, e = .returned (.tuple #[pv, .int .i64 (newE vs)]) ∧ (newE vs ≠ 0 → pv = .pointer none) ∧
      (newE vs = 0 → ∃ p, pv = .pointer (some ⟨p, 0, none⟩) ∧ SpO w' w.heap.size (fun g => w.heap.size ≤ g ∧ g < w'.heap.size) p (newS vs) 0 (2 * cst vs.length)) := by
  have HR := Lib.hid hr
  have HDN := Lib.hid (fun (wr : World) h1 h2 h3 => new_done (w := w) (wr := wr) (vs := vs) h1 h2 h3)
  have HZ := Lib.hid (show (3000 < vs.length → newE vs = 1) ∧ (vs.length ≤ 3000 → (∃ i, i < vs.length ∧ ¬ (-4611686018427387904 ≤ Ne.amt vs i ∧ Ne.amt vs i ≤ 4611686018427387904)) → newE vs = 3) ∧ (vs.length ≤ 3000 → (∀ i, i < vs.length → -4611686018427387904 ≤ Ne.amt vs i ∧ Ne.amt vs i ≤ 4611686018427387904) → newE vs = 0) from by
    unfold newE
    refine ⟨fun h => if_pos h, fun h h2 => ?_, fun h h2 => ?_⟩
    · rw [if_neg (by omega), if_neg (fun c => by obtain ⟨i, h3, h4⟩ := h2; exact h4 (c i h3))]
    · rw [if_neg (by omega), if_pos h2])
  generalize newE vs = Z at *
  generalize newS vs = NS at *
  generalize hnl : vs.length = n at *
  have HNL := Lib.hid hnl
  clear hr hnl
  by_cases hbig : 3000 < n
  · have hz := HZ.out.1 hbig
    subst hz
    have hbi : (3000 : Int) < (n : Int) := by omega
    clear HZ HDN
    go_enter Try.func11, Try.ntmps11
    go_wp2
    go_ret2
    exact ⟨Below.refl _ _, _, rfl, fun _ => rfl, fun h => by cases h⟩
  · have hbi : ¬ (3000 : Int) < (n : Int) := by omega
    have hn3 : n ≤ 3000 := by omega
    have hmk := make_n n (by omega)
    have HO0 := Lib.hid (made_own w n (by omega))
    have HB0 := Lib.hid ((Below.refl w.heap.size w).alloc (Nat.le_refl _) (.cells (madeCells zV (n * 9)) 60))
    clear hbig
    go_enter Try.func11, Try.ntmps11
    go_wp2
    clear hmk
    go_loopg [5, 6, 15] n (fun gg s5 s6 si wr => (∃ z, s5 = z) ∧ (∃ z, s6 = z) ∧ ∃ i : Nat, si = .int .i64 i ∧ i + gg = n ∧ Hid (Rw.Own 60 9 encN wr w.heap.size (.slice (some ⟨w.heap.size, 0, none⟩) n n) (lst n (newM (Ne.amt vs) i))) ∧ Hid (Below w.heap.size w wr) ∧ Hid (∀ j, j < i → -4611686018427387904 ≤ Ne.amt vs j ∧ Ne.amt vs j ≤ 4611686018427387904))
    case atStart => exact ⟨⟨_, rfl⟩, ⟨_, rfl⟩, 0, rfl, by omega, HO0, HB0, Lib.hid (fun j hj => absurd hj (by omega))⟩
    case round =>
      obtain ⟨⟨z5, rfl⟩, ⟨z6, rfl⟩, i, rfl, hig, HO, HB, HF⟩ := hrel
      by_cases hin : i < n
      · have hii : (i : Int) < (n : Int) := by omega
        have hi0 : (0 : Int) ≤ (i : Int) := by omega
        obtain ⟨b, off, rfl, hb, c0⟩ := Ne.irow_cell (HR.out.kept HB.out) (i := i) (by rw [HNL.out]; exact hin)
        by_cases hv : -4611686018427387904 ≤ Ne.amt vs i ∧ Ne.amt vs i ≤ 4611686018427387904
        · have HBE := Lib.hid (beyond_in (Ne.amt vs i) hv wr)
          have HV := Lib.hid hv
          have HOI := Lib.hid (own_item (newM (Ne.amt vs) i) HO.out hin (by simp [newM]) (Ne.amt vs i))
          have HBI := Lib.hid (below_item (Nat.le_refl w.heap.size) HB.out (i * 9 + 0) (i * 9 + 1) (i * 9 + 2) (i * 9 + 3) (i * 9 + 4) (i * 9 + 5) (i * 9 + 6) (i * 9 + 7) (i * 9 + 8) (.int .i64 (Ne.amt vs i)) (.int .i64 (Ne.amt vs i)) (.int .i64 (Ne.amt vs i)) (.int .i64 1) (.int .i64 (-1)) (.int .i64 (-1)) (.int .i64 (-1)) (.bool false) (.int .i64 0))
          rw [newM_step] at HOI
          have HFI := Lib.hid (show ∀ j, j < i + 1 → -4611686018427387904 ≤ Ne.amt vs j ∧ Ne.amt vs j ≤ 4611686018427387904 from fun j hj => by
            by_cases e : j = i
            · subst e; exact HV.out
            · exact HF.out j (by omega))
          obtain ⟨g', e', _, _, hcs, hfz⟩ := Ne.own_cells encN_len HO.out (lst_get (newM (Ne.amt vs) i) hin)
          cases e'
          have d0 := hcs 0 _ rfl
          have d1 := hcs 1 _ rfl
          have d2 := hcs 2 _ rfl
          have d3 := hcs 3 _ rfl
          have d4 := hcs 4 _ rfl
          have d5 := hcs 5 _ rfl
          have d6 := hcs 6 _ rfl
          have d7 := hcs 7 _ rfl
          have d8 := hcs 8 _ rfl
          have f0 := hfz (i * 9)
          have f1 := hfz (i * 9 + 1)
          have f2 := hfz (i * 9 + 2)
          have f3 := hfz (i * 9 + 3)
          have f4 := hfz (i * 9 + 4)
          have f5 := hfz (i * 9 + 5)
          have f6 := hfz (i * 9 + 6)
          have f7 := hfz (i * 9 + 7)
          have f8 := hfz (i * 9 + 8)
          have hw1 : IntKind.i64.wrap ((i : Int) + 1) = ((i + 1 : Nat) : Int) := by rw [IntKind.wrap_i64]; omega
          simp only [Nat.add_zero] at d0 HOI HBI
          generalize Ne.amt vs i = v at *
          clear hcs hfz hv
          go_wp2_with fail
          refine HBE.out.mono ?_
          rintro e wz ⟨rfl, rfl⟩
          go_wp2
          go_roundg (n - (i + 1))
          case measure => omega
          case rel => exact ⟨⟨_, rfl⟩, ⟨_, rfl⟩, i + 1, by rfl, by omega, HOI, HBI, HFI⟩
        · have HBE := Lib.hid (beyond_out (Ne.amt vs i) (by omega) wr)
          have hz := HZ.out.2.1 hn3 ⟨i, hin, hv⟩
          subst hz
          clear HZ HDN hv
          generalize Ne.amt vs i = v at *
          go_wp2_with fail
          refine HBE.out.mono ?_
          rintro e wz ⟨rfl, rfl⟩
          go_wp2
          go_ret2
          exact ⟨HB.out, _, rfl, fun _ => rfl, fun h => by cases h⟩
      · obtain rfl : i = n := by omega
        have hz := HZ.out.2.2 hn3 HF.out
        subst hz
        have HE := Lib.hid (HDN.out wr rfl HB.out HO.out)
        have HBL := Lib.hid (HB.out.alloc HB.out.size (.cells #[.slice (some ⟨w.heap.size, 0, none⟩) i i, .int .i64 0] 62))
        clear HZ HDN
        go_wp2
        go_ret2
        exact ⟨HBL.out, _, rfl, _, rfl, HE.out⟩
end Sp
end Go.Proofs.Ytlkigpmjhojceaa
