/- NetParts: for every input the law returns true and its arguments read as they did. No condition. -/
import Derived.Test.YtpoflbnmfoamhaaParts
import Derived.Test.YtpoflbnmfoamhaaOpenc
import Derived.Outline
import Derived.Test.YtpoflbnmfoamhaaRows
import Derived.WalkKit
import Derived.ProofKit
import Derived.OpenShut
import Derived.ShutString
import Derived.ChangeOld
import Derived.Below
import Derived.Deep.Strs
namespace Go.Proofs.Ytpoflbnmfoamhaa.netParts
open Go.ChangeShapes Go.WideShapes Go.ChangeAt Go.RowKit
open Go.ChangeMaps (open_string shut_string)
set_option linter.unusedVariables false
set_option linter.unusedSimpArgs false

theorem own : ownKnob Try.prog.godebug = none := by kernel_rfl
theorem laidOut : laidOutB Try.prog = true := by kernel_rfl

set_option maxRecDepth 100000
theorem arow_take {w : World} {ao : Option Addr} {l : List Ne.Arc} (h : Ne.ARow w ao l) (k : Nat) : Ne.ARow w ao (l.take k) := by
  rcases h with h | ⟨b, off, rfl, hlt, hc⟩
  · left; rw [h]; simp
  · exact .inr ⟨b, off, rfl, hlt, fun i x hx j v hv => hc i x (by rw [List.getElem?_take] at hx; split at hx; exact hx; cases hx) j v hv⟩
theorem arow_drop {w : World} {g off : Nat} {l : List Ne.Arc} (h : Ne.ARow w (some ⟨g, off, none⟩) l) (k : Nat) : Ne.ARow w (some ⟨g, off + k * 3, none⟩) (l.drop k) := by
  rcases h with h | ⟨b, o, e, hlt, hc⟩
  · left; rw [h]; simp
  · cases e
    refine .inr ⟨g, off + k * 3, rfl, hlt, fun i x hx j v hv => ?_⟩
    rw [List.getElem?_drop] at hx
    have := hc (k + i) x hx j v hv
    rw [show off + ((k + i) * 3 + j) = off + k * 3 + (i * 3 + j) by omega] at this
    exact this

set_option maxRecDepth 100000 in
set_option maxHeartbeats 4000000 in
theorem walk (a0 : Int) (a1 : Int) (a2 : List Ne.Arc) (o2 : Option Addr) (c2 : Nat) (a3 : Int) (w : World) (w0 : (Lit.int .i64 a0).wf = true) (w1 : (Lit.int .i64 a1).wf = true) (k2 : ∀ a ∈ a2, Ne.Arc.ok a) (z2 : a2.length ≤ c2) (y2 : c2 ≤ maxLen) (n2 : o2 = none → c2 = 0) (r2 : Ne.ARow w o2 a2) (w3 : (Lit.int .i64 a3).wf = true) :
    Calls Try.prog 5 #[.int .i64 a0, .int .i64 a1, .slice o2 a2.length c2, .int .i64 a3] w fun e w' => e = .returned (.bool true) ∧ Below w.heap.size w w' := by
  have HSH := Lib.hid (Ne.shown_any w)
  obtain ⟨mn, hmn⟩ : ∃ x, x = (Ne.madeN a0 a1 a2).n := ⟨_, rfl⟩
  obtain ⟨ms, hms⟩ : ∃ x, x = (Ne.madeN a0 a1 a2).s := ⟨_, rfl⟩
  obtain ⟨mt, hmt⟩ : ∃ x, x = (Ne.madeN a0 a1 a2).t := ⟨_, rfl⟩
  obtain ⟨ml, hml⟩ : ∃ x, x = (Ne.madeN a0 a1 a2).l := ⟨_, rfl⟩
  have em : Ne.madeN a0 a1 a2 = ⟨mn, ms, mt, ml⟩ := by rw [hmn, hms, hmt, hml]
  have mfh := Ne.madeN_h (nodes := a0) (ends := a1) k2
  obtain ⟨f1, f2, f3, f4, f5, f6, f7, f8, f9⟩ := Ne.madeN_fine (nodes := a0) (ends := a1) k2
  have MD := Lib.hid fun w' (h : Ne.ARow w' o2 a2) => Ne.made_s a0 a1 a2 o2 c2 w' (bounds_i64 w0) (bounds_i64 w1) k2 h
  rw [em] at MD f1 f2 f3 f4 f5 f6 f7 f8 f9 mfh
  simp only at f1 f2 f3 f4 f5 f6 f7 f8 f9
  clear hmn hms hmt hml em
  have f8' : ml.length ≤ 24 := by omega
  have F8 := Lib.hid (show 0 < a2.length → 0 < ml.length by omega)
  have F9 := Lib.hid f9
  have F7 := Lib.hid f7
  have FH := Lib.hid mfh
  have fcap : ∀ a ∈ ml, Ne.in64 a.cap := fun a ha => by have := (f9 a ha).2.2; unfold Ne.in64; omega
  have FC := Lib.hid fcap
  have hin : ∀ a ∈ ml, 1 ≤ a.fr ∧ a.fr ≤ mn ∧ 1 ≤ a.to ∧ a.to ≤ mn := fun a ha => by
    have h := f9 a ha
    have g1 := (Ne.isNode_iff _ _).1 h.1
    have g2 := (Ne.isNode_iff _ _).1 h.2.1
    omega
  have HIN := Lib.hid hin
  have b3 := bounds_i64 w3
  clear f8 f9 f7 mfh hin
  have RA := Lib.hid r2
  clear r2
  have CK := Lib.hid fun w' o c (h : Ne.ARow w' o ml) => Ne.check_any ⟨mn, ms, mt, ml⟩ o c w' h (by simp only; omega) FC.out
  rw [Ne.checkN_fine FH.out F9.out] at CK
  have SN := Lib.hid fun x1 x2 c1 c2 w' (h1 : Ne.ARow w' x1 ml) (h2 : Ne.ARow w' x2 ml) => Ne.dsame_s ⟨mn, ms, mt, ml⟩ x1 x2 c1 c2 w' h1 h2 (by simp only; omega)
  clear fcap
  go_enter Try.func5, Try.ntmps5
  go_wp2_with fail
  refine HSH.out.mono ?_
  rintro e w1 ⟨rfl, hb⟩
  have HB1 := Lib.hid hb
  clear hb HSH
  go_wp2_with fail
  refine (MD.out _ (RA.out.kept HB1.out)).mono ?_
  rintro e w2 ⟨om, cm, rfl, ho, hb⟩
  have HB2 := Lib.hid (HB1.out.trans (hb.mono HB1.out.size))
  have HR3 := Lib.hid ((Ne.arow_of ho).2.2.kept ((Below.refl _ _).alloc (Nat.le_refl _) (.cells #[.int .i64 mn, .int .i64 ms, .int .i64 mt, .slice om ml.length cm] 24)))
  have HOC := Lib.hid (Ne.arow_of ho).2.1
  have hz2 : w.heap.size ≤ w2.heap.size := HB2.out.size
  have HBW3 := Lib.hid (HB2.out.alloc hz2 (.cells #[.int .i64 mn, .int .i64 ms, .int .i64 mt, .slice om ml.length cm] 24))
  have HN3 := Lib.hid (Ne.netBox_new w2 mn ms mt (.slice om ml.length cm))
  clear ho hb MD RA
  go_wp2_with fail
  have hn3 := Ne.netBox_lt HN3.out
  generalize (w2.alloc (.cells #[.int .i64 mn, .int .i64 ms, .int .i64 mt, .slice om ml.length cm] 24)) = W3 at *
  generalize w2.heap.size = bn at *
  refine (CK.out _ _ _ HR3.out).mono ?_
  rintro e w4 ⟨rfl, hb⟩
  have D4 := Lib.hid hb
  obtain ⟨n0, n1, n2, n3⟩ := Ne.netBox_cells (Ne.netBox_below HN3.out hb hn3)
  clear hb
  go_wp2_with fail
  refine (SN.out _ _ _ _ _ (HR3.out.kept D4.out) (HR3.out.kept D4.out)).mono ?_
  rintro e w5 ⟨rfl, hb⟩
  have D5 := Lib.hid (D4.out.trans (hb.mono D4.out.size))
  obtain ⟨n0, n1, n2, n3⟩ := Ne.netBox_cells (Ne.netBox_below HN3.out D5.out hn3)
  clear hb
  go_wp2_with fail
  have OM := Lib.hid fun w' v (h : Ne.ARow w' om ml) => Ne.out_s ⟨mn, ms, mt, ml⟩ om cm v w' h (by simp only; omega)
  have IM := Lib.hid fun w' v (h : Ne.ARow w' om ml) => Ne.in_s ⟨mn, ms, mt, ml⟩ om cm v w' h (by simp only; omega)
  have E0 := Lib.hid (Ne.cntB_none Ne.Arc.fr ml 1 (fun a ha => (HIN.out a ha).1))
  have I0 := Lib.hid (Ne.cntB_none Ne.Arc.to ml 1 (fun a ha => (HIN.out a ha).2.2.1))
  go_loopw [11, 12, 13] (fun s t u wr => ∃ (v : Int) (x y : Nat), s = .int .i64 x ∧ t = .int .i64 y ∧ u = .int .i64 v ∧ 1 ≤ v ∧ v ≤ mn + 1 ∧ x ≤ ml.length ∧ y ≤ ml.length ∧ Hid (x = Ne.cntB Ne.Arc.fr ml v) ∧ Hid (y = Ne.cntB Ne.Arc.to ml v) ∧ Hid (Below W3.heap.size W3 wr)) (fun _ _ u _ => (mn + 1 - intOf u).toNat)
  case atStart => exact ⟨1, 0, 0, rfl, rfl, rfl, by omega, by omega, by omega, by omega, Lib.hid E0.out.symm, Lib.hid I0.out.symm, D5⟩
  case round =>
    obtain ⟨v, x, y, rfl, rfl, rfl, hv0, hv1, hx0, hy0, HX, HY, HB⟩ := hrel
    obtain ⟨n0, n1, n2, n3⟩ := Ne.netBox_cells (Ne.netBox_below HN3.out HB.out hn3)
    by_cases hlt : v ≤ mn
    · obtain ⟨ol, hol⟩ : ∃ z, z = Ne.outs ml v ml.length := ⟨_, rfl⟩
      obtain ⟨il, hil⟩ : ∃ z, z = Ne.ins ml v ml.length := ⟨_, rfl⟩
      have HOL := Lib.hid hol
      have o1 := Lib.hid fun w' h => OM.out w' v h
      have i1 := Lib.hid fun w' h => IM.out w' v h
      simp only [← hol] at o1
      simp only [← hil] at i1
      have HCO := Lib.hid (show ol.length = Ne.cntE Ne.Arc.fr ml v by rw [hol, Ne.outs_cnt])
      have HCI := Lib.hid (show il.length = Ne.cntE Ne.Arc.to ml v by rw [hil, Ne.ins_cnt])
      have hxo : x + ol.length ≤ ml.length := by have h1 := Ne.cntB_succ Ne.Arc.fr ml v; have h2 := Ne.cntB_le Ne.Arc.fr ml (v + 1); have h3 := HX.out; have h4 := HCO.out; omega
      have hyi : y + il.length ≤ ml.length := by have h1 := Ne.cntB_succ Ne.Arc.to ml v; have h2 := Ne.cntB_le Ne.Arc.to ml (v + 1); have h3 := HY.out; have h4 := HCI.out; omega
      have HX2 := Lib.hid (show x + ol.length = Ne.cntB Ne.Arc.fr ml (v + 1) by rw [Ne.cntB_succ, HX.out, HCO.out])
      have HY2 := Lib.hid (show y + il.length = Ne.cntB Ne.Arc.to ml (v + 1) by rw [Ne.cntB_succ, HY.out, HCI.out])
      clear hol hil
      go_wp2_with fail
      refine (o1.out _ (HR3.out.kept HB.out)).mono ?_
      rintro e y1 ⟨p1, q1, rfl, x1, hb⟩
      have D6 := Lib.hid (HB.out.trans (hb.mono HB.out.size))
      have X1 := Lib.hid x1
      have RM := Lib.hid (HR3.out.kept D6.out)
      obtain ⟨n0, n1, n2, n3⟩ := Ne.netBox_cells (Ne.netBox_below HN3.out D6.out hn3)
      clear hb x1
      go_wp2_with fail
      go_loopw [15] (fun s wr2 => ∃ (i q : Nat), s = .int .i64 i ∧ i ≤ ol.length ∧ wr2 = y1.drewN q) (fun s _ => ol.length - (intOf s).toNat)
      case atStart => exact ⟨0, 0, rfl, Nat.zero_le _, rfl⟩
      case round =>
        obtain ⟨i, q, rfl, hi, rfl⟩ := hrel
        by_cases hil2 : i < ol.length
        · obtain ⟨z, hz⟩ : ∃ z, ol[i]? = some z := ⟨_, List.getElem?_eq_getElem hil2⟩
          obtain ⟨j, a, rfl, hj, ha, hfa⟩ := Ne.outs_get (by rw [← HOL.out]; exact hz)
          rcases X1.out with h | ⟨b1, o1', rfl, _, k1⟩
          · rw [h] at hil2; simp at hil2
          rcases RM.out with h | ⟨b2, o2', rfl, _, k2'⟩
          · rw [h] at hj; simp at hj
          have c1 := Ne.irow_at k1 hz
          obtain ⟨c20, _, _⟩ := Ne.arow_at k2' ha
          rw [hfa] at c20
          have hji : (j : Int) < (ml.length : Int) := by omega
          have hj0 : (0 : Int) ≤ (j : Int) := by omega
          have hii : (i : Int) < (ol.length : Int) := by omega
          have hi0 : (0 : Int) ≤ (i : Int) := by omega
          have t1 : decide ((j : Int) < 0) = false := decide_eq_false (by omega)
          have t2 : decide ((ml.length : Int) ≤ (j : Int)) = false := decide_eq_false (by omega)
          have t2n : decide (ml.length ≤ j) = false := decide_eq_false (by omega)
          by_cases hiz : i = 0
          · have t3 : decide ((0 : Int) < (i : Int)) = false := decide_eq_false (by omega)
            have t3n : decide (0 < i) = false := decide_eq_false (by omega)
            clear hz ha hfa hiz
            go_wp2
            refine wp_region_quiet_lit (by kernel_rfl) (by kernel_rfl) ?_
            repeat (go_big_quiet_step (fail))
            refine wpQuiet_nil ?_
            intro _ hw'
            obtain ⟨nq, hw''⟩ := hw'
            subst hw''
            go_wp2
            go_roundw
            case rel => exact ⟨i + 1, q + nq, by go_num, by omega, rfl⟩
            case measure => simp [intOf]; omega
          · obtain ⟨i, rfl⟩ : ∃ k, i = k + 1 := ⟨i - 1, by omega⟩
            clear hiz
            obtain ⟨z2, hz2⟩ : ∃ z, ol[i]? = some z := ⟨_, List.getElem?_eq_getElem (by omega)⟩
            have hlt2 := Ne.outs_inc (by rw [← HOL.out]; exact hz2) (by rw [← HOL.out]; exact hz)
            have c3 := Ne.irow_at k1 hz2
            have t4 : decide ((j : Int) ≤ z2) = false := decide_eq_false (by omega)
            have hi2 : (i : Int) + 1 < (ol.length : Int) := by omega
            have hi3 : (i : Int) < (ol.length : Int) := by omega
            have hi4 : (0 : Int) ≤ (i : Int) := by omega
            have t3 : decide ((0 : Int) < (i : Int) + 1) = true := decide_eq_true (by omega)
            clear hz ha hfa hz2 hlt2
            go_wp2
            refine wp_region_quiet_lit (by kernel_rfl) (by kernel_rfl) ?_
            repeat (go_big_quiet_step (fail))
            refine wpQuiet_nil ?_
            intro _ hw'
            obtain ⟨nq, hw''⟩ := hw'
            subst hw''
            go_wp2
            go_roundw
            case rel => exact ⟨i + 1 + 1, q + nq, by go_num, by omega, rfl⟩
            case measure => simp [intOf]; omega
        · have hnl : ¬ (i : Int) < (ol.length : Int) := by omega
          have n0' : (y1.drewN q).cell? ⟨bn, 0, none⟩ = some (.int .i64 mn) := n0
          go_wp2_with fail
          refine (i1.out _ (RM.out.kept (Rw.below_drewN y1 q))).mono ?_
          rintro e y2 ⟨p2, q2, rfl, x2, hb⟩
          have D7 := Lib.hid (D6.out.trans (((Rw.below_drewN y1 q).trans hb).mono D6.out.size))
          obtain ⟨n0, n1, n2, n3⟩ := Ne.netBox_cells (Ne.netBox_below HN3.out D7.out hn3)
          clear hb x2
          go_wp2
          go_roundw
          case rel => exact ⟨v + 1, x + ol.length, y + il.length, by go_num, by go_num, rfl, by omega, by omega, hxo, hyi, HX2, HY2, D7⟩
          case measure => simp [intOf]; omega
    · have ev : v = mn + 1 := by omega
      have ex : x = ml.length := by rw [HX.out, ev]; exact Ne.cntB_all _ _ _ (fun a ha => by have := HIN.out a ha; omega)
      have ey : y = ml.length := by rw [HY.out, ev]; exact Ne.cntB_all _ _ _ (fun a ha => by have := HIN.out a ha; omega)
      have O0 := Lib.hid fun w' h => OM.out w' 0 h
      have I1 := Lib.hid fun w' h => IM.out w' (mn + 1) h
      have e0 : Ne.outs ml 0 ml.length = [] := List.length_eq_zero_iff.1 (by rw [Ne.outs_cnt]; exact Ne.cntE_none _ _ _ (fun a ha => by have := HIN.out a ha; omega))
      have e1 : Ne.ins ml (mn + 1) ml.length = [] := List.length_eq_zero_iff.1 (by rw [Ne.ins_cnt]; exact Ne.cntE_none _ _ _ (fun a ha => by have := HIN.out a ha; omega))
      simp only [e0, List.length_nil] at O0
      simp only [e1, List.length_nil] at I1
      clear e0 e1
      have hnv : ¬ v ≤ mn := hlt
      clear HX HY hlt
      subst ex
      subst ey
      have HSB : Hid (∀ w', Below W3.heap.size W3 w' → (fun w' => w'.cell? ⟨bn, 0, none⟩ = some (.int .i64 mn) ∧ w'.cell? ⟨bn, 1, none⟩ = some (.int .i64 ms) ∧ w'.cell? ⟨bn, 2, none⟩ = some (.int .i64 mt) ∧ w'.cell? ⟨bn, 3, none⟩ = some (.slice om ml.length cm)) w') := Lib.hid fun w' h => by
        obtain ⟨x0, x1, x2, x3⟩ := Ne.netBox_cells (Ne.netBox_below HN3.out h hn3)
        exact ⟨x0, x1, x2, x3⟩
      go_wp2_with fail
      have HB1 := Lib.hid (Ne.below_drew HB.out)
      have hS1 := HSB.out _ HB1.out
      refine Rh.start (S := (fun w' => w'.cell? ⟨bn, 0, none⟩ = some (.int .i64 mn) ∧ w'.cell? ⟨bn, 1, none⟩ = some (.int .i64 ms) ∧ w'.cell? ⟨bn, 2, none⟩ = some (.int .i64 mt) ∧ w'.cell? ⟨bn, 3, none⟩ = some (.slice om ml.length cm))) (by kernel_rfl) ?_
      refine Rh.take (some 104) (i := 0) (v := ?_) rfl (by kernel_rfl) (by kernel_rfl) (by kernel_rfl) (by kernel_rfl) (fun _ _ _ h => h) (Or.inl ⟨by rfl, ?_⟩) hS1 ?_
      rotate_left
      · intro w hSw
        go_simp
        try with_reducible rfl
      try simp only [Act.put, List.setIfInBounds_toArray, List.set_cons_zero, List.set_cons_succ]
      refine Rh.take (some 105) (i := 1) (v := ?_) rfl (by kernel_rfl) (by kernel_rfl) (by kernel_rfl) (by kernel_rfl) (fun _ _ _ h => h) (Or.inl ⟨by rfl, ?_⟩) hS1 ?_
      rotate_left
      · intro w hSw
        go_simp
        try with_reducible rfl
      try simp only [Act.put, List.setIfInBounds_toArray, List.set_cons_zero, List.set_cons_succ]
      refine Rh.take (some 106) (i := 2) (v := ?_) rfl (by kernel_rfl) (by kernel_rfl) (by kernel_rfl) (by kernel_rfl) (fun _ _ _ h => h) (Or.inl ⟨by rfl, ?_⟩) hS1 ?_
      rotate_left
      · intro w hSw
        go_simp
        try with_reducible rfl
      try simp only [Act.put, List.setIfInBounds_toArray, List.set_cons_zero, List.set_cons_succ]
      refine Rh.take (some 107) (i := 3) (v := ?_) rfl (by kernel_rfl) (by kernel_rfl) (by kernel_rfl) (by kernel_rfl) (fun _ _ _ h => h) (Or.inl ⟨by rfl, ?_⟩) hS1 ?_
      rotate_left
      · intro w hSw
        go_simp
        try with_reducible rfl
      try simp only [Act.put, List.setIfInBounds_toArray, List.set_cons_zero, List.set_cons_succ]
      refine Rh.take (some 108) (i := 4) (v := ?_) rfl (by kernel_rfl) (by kernel_rfl) (by kernel_rfl) (by kernel_rfl) (fun _ _ _ h => h) (Or.inl ⟨by rfl, ?_⟩) hS1 ?_
      rotate_left
      · intro w hSw
        go_simp
        try with_reducible rfl
      try simp only [Act.put, List.setIfInBounds_toArray, List.set_cons_zero, List.set_cons_succ]
      refine Rh.take (some 109) (i := 5) (v := ?_) rfl (by kernel_rfl) (by kernel_rfl) (by kernel_rfl) (by kernel_rfl) (fun _ _ _ h => h) (Or.inl ⟨by rfl, ?_⟩) hS1 ?_
      rotate_left
      · intro w hSw
        go_simp
        try with_reducible rfl
      try simp only [Act.put, List.setIfInBounds_toArray, List.set_cons_zero, List.set_cons_succ]
      refine Rh.take (some 110) (i := 6) (v := ?_) rfl (by kernel_rfl) (by kernel_rfl) (by kernel_rfl) (by kernel_rfl) (fun _ _ _ h => h) (Or.inl ⟨by rfl, ?_⟩) hS1 ?_
      rotate_left
      · intro w hSw
        go_simp
        try with_reducible rfl
      try simp only [Act.put, List.setIfInBounds_toArray, List.set_cons_zero, List.set_cons_succ]
      refine Rh.take (some 111) (i := 7) (v := ?_) rfl (by kernel_rfl) (by kernel_rfl) (by kernel_rfl) (by kernel_rfl) (fun _ _ _ h => h) (Or.inl ⟨by rfl, ?_⟩) hS1 ?_
      rotate_left
      · intro w hSw
        go_simp
        try with_reducible rfl
      try simp only [Act.put, List.setIfInBounds_toArray, List.set_cons_zero, List.set_cons_succ]
      refine Rh.take (some 112) (i := 8) (v := ?_) rfl (by kernel_rfl) (by kernel_rfl) (by kernel_rfl) (by kernel_rfl) (fun _ _ _ h => h) (Or.inl ⟨by rfl, ?_⟩) hS1 ?_
      rotate_left
      · intro w hSw
        go_simp
        try with_reducible rfl
      try simp only [Act.put, List.setIfInBounds_toArray, List.set_cons_zero, List.set_cons_succ]
      refine Rh.take (some 113) (i := 9) (v := ?_) rfl (by kernel_rfl) (by kernel_rfl) (by kernel_rfl) (by kernel_rfl) (fun _ _ _ h => h) (Or.inl ⟨by rfl, ?_⟩) hS1 ?_
      rotate_left
      · intro w hSw
        go_simp
        try with_reducible rfl
      try simp only [Act.put, List.setIfInBounds_toArray, List.set_cons_zero, List.set_cons_succ]
      refine Rh.take (some 114) (i := 10) (v := ?_) rfl (by kernel_rfl) (by kernel_rfl) (by kernel_rfl) (by kernel_rfl) (fun _ _ _ h => h) (Or.inl ⟨by rfl, ?_⟩) hS1 ?_
      rotate_left
      · intro w hSw
        go_simp
        try with_reducible rfl
      try simp only [Act.put, List.setIfInBounds_toArray, List.set_cons_zero, List.set_cons_succ]
      refine Rh.take (some 115) (i := 11) (v := ?_) rfl (by kernel_rfl) (by kernel_rfl) (by kernel_rfl) (by kernel_rfl) (fun _ _ _ h => h) (Or.inl ⟨by rfl, ?_⟩) hS1 ?_
      rotate_left
      · intro w hSw
        go_simp
        try with_reducible rfl
      try simp only [Act.put, List.setIfInBounds_toArray, List.set_cons_zero, List.set_cons_succ]
      refine Rh.take (some 116) (i := 12) (v := ?_) rfl (by kernel_rfl) (by kernel_rfl) (by kernel_rfl) (by kernel_rfl) (fun _ _ _ h => h) (Or.inl ⟨by rfl, ?_⟩) hS1 ?_
      rotate_left
      · intro w hSw
        go_simp
        try with_reducible rfl
      try simp only [Act.put, List.setIfInBounds_toArray, List.set_cons_zero, List.set_cons_succ]
      refine Rh.take (some 117) (i := 13) (v := ?_) rfl (by kernel_rfl) (by kernel_rfl) (by kernel_rfl) (by kernel_rfl) (fun _ _ _ h => h) (Or.inl ⟨by rfl, ?_⟩) hS1 ?_
      rotate_left
      · intro w hSw
        go_simp
        try with_reducible rfl
      try simp only [Act.put, List.setIfInBounds_toArray, List.set_cons_zero, List.set_cons_succ]
      refine Rh.take (some 120) (i := 16) (v := ?_) rfl (by kernel_rfl) (by kernel_rfl) (by kernel_rfl) (by kernel_rfl) (fun _ _ _ h => h) (Or.inl ⟨by rfl, ?_⟩) hS1 ?_
      rotate_left
      · intro w hSw
        go_simp
        try with_reducible rfl
      try simp only [Act.put, List.setIfInBounds_toArray, List.set_cons_zero, List.set_cons_succ]
      refine Rh.take (some 121) (i := 17) (v := ?_) rfl (by kernel_rfl) (by kernel_rfl) (by kernel_rfl) (by kernel_rfl) (fun _ _ _ h => h) (Or.inl ⟨by rfl, ?_⟩) hS1 ?_
      rotate_left
      · intro w hSw
        go_simp
        try with_reducible rfl
      try simp only [Act.put, List.setIfInBounds_toArray, List.set_cons_zero, List.set_cons_succ]
      refine Rh.take (some 122) (i := 18) (v := ?_) rfl (by kernel_rfl) (by kernel_rfl) (by kernel_rfl) (by kernel_rfl) (fun _ _ _ h => h) (Or.inl ⟨by rfl, ?_⟩) hS1 ?_
      rotate_left
      · intro w hSw
        go_simp
        try with_reducible rfl
      try simp only [Act.put, List.setIfInBounds_toArray, List.set_cons_zero, List.set_cons_succ]
      refine Rh.take (some 123) (i := 19) (v := ?_) rfl (by kernel_rfl) (by kernel_rfl) (by kernel_rfl) (by kernel_rfl) (fun _ _ _ h => h) (Or.inl ⟨by rfl, ?_⟩) hS1 ?_
      rotate_left
      · intro w hSw
        go_simp
        rw [Ne.wrap_in (x := mn + 1) (by unfold Ne.in64; omega)]
        try with_reducible rfl
      try simp only [Act.put, List.setIfInBounds_toArray, List.set_cons_zero, List.set_cons_succ]
      refine Rh.step (i := 14) (by kernel_rfl) rfl fun K' hK' => ?_
      have HK := Lib.hid hK'
      clear hK'
      go_simp
      refine (O0.out _ (HR3.out.kept HB1.out)).mono ?_
      rintro e w2 ⟨p0, q0, rfl, _, hb⟩
      have HB2 := Lib.hid (HB1.out.trans (hb.mono HB1.out.size))
      clear hb
      have hS2 := HSB.out w2 HB2.out
      refine HK.out _ _ ⟨hS2, ?_⟩
      clear HK K'
      try simp only [Act.put, List.setIfInBounds_toArray, List.set_cons_zero, List.set_cons_succ]
      refine Rh.take (some 119) (i := 15) (v := ?_) rfl (by kernel_rfl) (by kernel_rfl) (by kernel_rfl) (by kernel_rfl) (fun _ _ _ h => h) (Or.inl ⟨by rfl, ?_⟩) hS2 ?_
      rotate_left
      · intro w hSw
        go_simp
        try with_reducible rfl
      try simp only [Act.put, List.setIfInBounds_toArray, List.set_cons_zero, List.set_cons_succ]
      refine Rh.step (i := 20) (by kernel_rfl) rfl fun K' hK' => ?_
      have HK := Lib.hid hK'
      clear hK'
      go_simp
      refine (I1.out _ (HR3.out.kept HB2.out)).mono ?_
      rintro e w3 ⟨p0', q0', rfl, _, hb⟩
      have HB3 := Lib.hid (HB2.out.trans (hb.mono HB2.out.size))
      clear hb
      have hS3 := HSB.out w3 HB3.out
      refine HK.out _ _ ⟨hS3, ?_⟩
      clear HK K'
      try simp only [Act.put, List.setIfInBounds_toArray, List.set_cons_zero, List.set_cons_succ]
      refine Rh.take (some 125) (i := 21) (v := ?_) rfl (by kernel_rfl) (by kernel_rfl) (by kernel_rfl) (by kernel_rfl) (fun _ _ _ h => h) (Or.inl ⟨by rfl, ?_⟩) hS3 ?_
      rotate_left
      · intro w hSw
        go_simp
        try with_reducible rfl
      try simp only [Act.put, List.setIfInBounds_toArray, List.set_cons_zero, List.set_cons_succ]
      refine Rh.take (some 126) (i := 22) (v := ?_) rfl (by kernel_rfl) (by kernel_rfl) (by kernel_rfl) (by kernel_rfl) (fun _ _ _ h => h) (Or.inl ⟨by rfl, ?_⟩) hS3 ?_
      rotate_left
      · intro w hSw
        go_simp
        try with_reducible rfl
      try simp only [Act.put, List.setIfInBounds_toArray, List.set_cons_zero, List.set_cons_succ]
      refine Rh.take (some 127) (i := 23) (v := ?_) rfl (by kernel_rfl) (by kernel_rfl) (by kernel_rfl) (by kernel_rfl) (fun _ _ _ h => h) (Or.inl ⟨by rfl, ?_⟩) hS3 ?_
      rotate_left
      · intro w hSw
        go_simp
        try with_reducible rfl
      try simp only [Act.put, List.setIfInBounds_toArray, List.set_cons_zero, List.set_cons_succ]
      refine Rh.take (some 128) (i := 24) (v := ?_) rfl (by kernel_rfl) (by kernel_rfl) (by kernel_rfl) (by kernel_rfl) (fun _ _ _ h => h) (Or.inl ⟨by rfl, ?_⟩) hS3 ?_
      rotate_left
      · intro w hSw
        go_simp
        try with_reducible rfl
      try simp only [Act.put, List.setIfInBounds_toArray, List.set_cons_zero, List.set_cons_succ]
      refine Rh.done (by kernel_rfl) ?_ _
      obtain ⟨n0, n1, n2, n3⟩ := Ne.netBox_cells (Ne.netBox_below HN3.out HB3.out hn3)
      go_wp2_with fail
      have CP := Lib.hid fun w' (h : Ne.ARow w' om ml) => Ne.copy_any ⟨mn, ms, mt, ml⟩ om cm w' HOC.out h (by simp only; omega)
      refine (CP.out _ (HR3.out.kept HB3.out)).mono ?_
      rintro e x5 ⟨o5, c5, rfl, ho, hb⟩
      have D5' := Lib.hid (HB3.out.trans (hb.mono HB3.out.size))
      have HM5 := Lib.hid (Ne.netBox_new x5 mn ms mt (.slice o5 ml.length c5))
      have hb5 : bn < x5.heap.size := by have := D5'.out.size; omega
      have HA5 := Lib.hid (Rw.own_base (Rw.own_alloc (Rw.own_alloc ho (.cells #[.int .i64 mn, .int .i64 ms, .int .i64 mt, .slice o5 ml.length c5] 24)) (.cells #[.int .i64 mt, .int .i64 ms, .int .i64 0] 35)) (B' := W3.heap.size) HB3.out.size)
      have HF5 := Lib.hid (Ne.own_far ho)
      have D5b := Lib.hid ((D5'.out.alloc D5'.out.size (.cells #[.int .i64 mn, .int .i64 ms, .int .i64 mt, .slice o5 ml.length c5] 24)).alloc (by have := D5'.out.size; simp; omega) (.cells #[.int .i64 mt, .int .i64 ms, .int .i64 0] 35))
      have HM5b := Lib.hid (Ne.netBox_alloc HM5.out (.cells #[.int .i64 mt, .int .i64 ms, .int .i64 0] 35))
      have HAR := Lib.hid (Ne.arow_at1 (x5.alloc (.cells #[.int .i64 mn, .int .i64 ms, .int .i64 mt, .slice o5 ml.length c5] 24)) (b := x5.heap.size + 1) (by simp) ⟨mt, ms, 0⟩)
      have HLN := Lib.hid (show ml.length + ([⟨mt, ms, 0⟩] : List Ne.Arc).length ≤ 1099511627776 by simp; omega)
      have HZ5 := Lib.hid (show ((x5.alloc (.cells #[.int .i64 mn, .int .i64 ms, .int .i64 mt, .slice o5 ml.length c5] 24)).alloc (.cells #[.int .i64 mt, .int .i64 ms, .int .i64 0] 35)).heap.size = x5.heap.size + 2 by simp)
      have hx5 : W3.heap.size ≤ x5.heap.size := D5'.out.size
      obtain ⟨n0, n1, n2, n3⟩ := Ne.netBox_cells (Ne.netBox_below HN3.out D5'.out hn3)
      clear ho hb
      obtain ⟨fl, hfl⟩ : ∃ z, z = ml ++ [(⟨mt, ms, 0⟩ : Ne.Arc)] := ⟨_, rfl⟩
      have HFL := Lib.hid hfl
      clear hfl
      go_wp2_with (at_builtin; refine Rw.appAt Ne.elemA Ne.encA_len Ne.encA_one rfl (.tmp 132) (.tmp 138) rfl W3.heap.size _ ml rfl HA5.out ⟨x5.heap.size + 1, 0, none⟩ 1 [⟨mt, ms, 0⟩] rfl HAR.out HLN.out ?hB ?_; (case hB => (have := HZ5.out; omega)); intro vv x6 hown hgr hat; rw [← HFL.out] at hown; have D6 := Lib.hid (D5b.out.grown hgr (by have := HZ5.out; omega) (fun g hg => by have := HF5.out g hg; have := HB3.out.size; omega)); have HM6 := Lib.hid (Ne.netBox_grown HM5b.out hgr (fun h => by have := HF5.out _ h.symm; omega)); obtain ⟨o7, c7, hvv, _⟩ := Rw.own_row Ne.encA_len hown; subst hvv; have HO7 := Lib.hid hown; have hx6 : x5.heap.size < x6.heap.size := (by have h1 := hgr.size; have h2 := HZ5.out; omega); clear hown hgr hat; obtain ⟨m0, m1, m2, m3⟩ := Ne.netBox_cells HM6.out; have mf := Ne.netBox_frozen HM6.out 3; obtain ⟨n0, n1, n2, n3⟩ := Ne.netBox_cells (Ne.netBox_below HN3.out D6.out hn3))
      have hb5' : W3.heap.size ≤ x5.heap.size := hx5
      have HM7 := Lib.hid (Ne.netBox_set (v2 := .slice o7 fl.length c7) HM6.out)
      have HO8 := Lib.hid (Rw.own_set HO7.out (p := ⟨x5.heap.size, 3, none⟩) (Ne.own_ne_box HO7.out HM6.out) (.slice o7 fl.length c7))
      have D7 := Lib.hid (D6.out.setCell (p := ⟨x5.heap.size, 3, none⟩) hx5 (.slice o7 fl.length c7))
      have hb7 : x5.heap.size < (x6.setCell ⟨x5.heap.size, 3, none⟩ (.slice o7 fl.length c7)).heap.size := Ne.netBox_lt HM7.out
      clear m0 m1 m2 m3 mf n0 n1 n2 n3
      generalize (x6.setCell ⟨x5.heap.size, 3, none⟩ (.slice o7 fl.length c7)) = X7 at *
      have HRm := Lib.hid (Ne.arow_of HO8.out).2.2
      obtain ⟨n0, n1, n2, n3⟩ := Ne.netBox_cells (Ne.netBox_below HN3.out D7.out hn3)
      have hbm : x5.heap.size < X7.heap.size := hb7
      refine (CP.out _ (HR3.out.kept D7.out)).mono ?_
      rintro e x8 ⟨o6, c6, rfl, ho, hb⟩
      have D8 := Lib.hid (D7.out.trans (hb.mono D7.out.size))
      have HL9 := Lib.hid (Ne.netBox_new x8 mn ms mt (.slice o6 ml.length c6))
      have HO9 := Lib.hid (Rw.own_alloc ho (.cells #[.int .i64 mn, .int .i64 ms, .int .i64 mt, .slice o6 ml.length c6] 24))
      have D9 := Lib.hid (D8.out.alloc D8.out.size (.cells #[.int .i64 mn, .int .i64 ms, .int .i64 mt, .slice o6 ml.length c6] 24))
      have HM9 := Lib.hid (Ne.netBox_alloc (Ne.netBox_below HM7.out hb hbm) (.cells #[.int .i64 mn, .int .i64 ms, .int .i64 mt, .slice o6 ml.length c6] 24))
      have HRm9 := Lib.hid ((HRm.out.kept hb).kept ((Below.refl _ _).alloc (Nat.le_refl _) (.cells #[.int .i64 mn, .int .i64 ms, .int .i64 mt, .slice o6 ml.length c6] 24)))
      have hx8 : X7.heap.size ≤ x8.heap.size := hb.size
      have HRl9 := Lib.hid (Ne.arow_of HO9.out).2.2
      have hbl : bn < x8.heap.size := by have := D7.out.size; omega
      have hW8 : W3.heap.size ≤ x8.heap.size := by have := D7.out.size; omega
      have hbl5 : x5.heap.size < x8.heap.size := by omega
      have HOm9 := Lib.hid (Rw.own_alloc (Rw.own_below HO8.out hb) (.cells #[.int .i64 mn, .int .i64 ms, .int .i64 mt, .slice o6 ml.length c6] 24))
      clear ho hb n0 n1 n2 n3 HRm HM7 HO8 HO7 HM6 HA5 HM5b HAR HLN HZ5 HF5 CP O0 I1
      obtain ⟨m0, m1, m2, m3⟩ := Ne.netBox_cells HM9.out
      by_cases hal : 0 < a2.length
      · have hml := F8.out hal
        have hal' : (0 : Int) < (a2.length : Int) := by omega
        go_wp2_with fail
        have hbl9 := Ne.netBox_lt HL9.out
        generalize (x8.alloc (.cells #[.int .i64 mn, .int .i64 ms, .int .i64 mt, .slice o6 ml.length c6] 24)) = X9 at *
        generalize hbb : x8.heap.size = bl at *
        generalize hbm' : x5.heap.size = bm at *
        clear hbb hbm'
        obtain ⟨m0, m1, m2, m3⟩ := Ne.netBox_cells HM9.out
        obtain ⟨l0, l1, l2, l3⟩ := Ne.netBox_cells HL9.out
        have lf := Ne.netBox_frozen HL9.out 3
        obtain ⟨n0, n1, n2, n3⟩ := Ne.netBox_cells (Ne.netBox_below HN3.out D9.out hn3)
        have hcm : Ne.checkN ⟨mn, ms, mt, fl⟩ = 0 := Ne.checkN_fine (by obtain ⟨g1, g2, g3, g4, g5, g6, g7, g8⟩ := FH.out; exact ⟨g1, g2, g3, g4, g5, g6, g7, by simp only [HFL.out, List.length_append, List.length_singleton]; omega⟩) (by
          simp only [HFL.out]
          intro a ha
          rcases List.mem_append.1 ha with h | h
          · exact F9.out a h
          · simp at h; subst h; refine ⟨(Ne.isNode_iff _ _).2 ⟨?_, ?_⟩, (Ne.isNode_iff _ _).2 ⟨?_, ?_⟩, ?_, ?_⟩ <;> simp only <;> omega)
        have hfll : fl.length ≤ 25 := by rw [HFL.out]; simp; omega
        have CKm := Lib.hid fun w' h => Ne.check_any ⟨mn, ms, mt, fl⟩ o7 c7 w' h (by simp only; omega) (by
          simp only [HFL.out]
          intro a ha
          rcases List.mem_append.1 ha with h | h
          · exact FC.out a h
          · simp at h; subst h; unfold Ne.in64; simp only; omega)
        rw [hcm] at CKm
        have SMN := Lib.hid fun w' h1 h2 => Ne.dsame_any ⟨mn, ms, mt, fl⟩ ⟨mn, ms, mt, ml⟩ o7 om c7 cm w' h1 h2 (by simp only; omega) (by simp only; omega)
        have esm : Ne.sameN ⟨mn, ms, mt, fl⟩ ⟨mn, ms, mt, ml⟩ = false := by
          have : fl ≠ ml := fun e => by have := congrArg List.length e; rw [HFL.out] at this; simp at this
          unfold Ne.sameN; rw [decide_eq_false this]; simp
        rw [esm] at SMN
        clear hcm esm
        obtain ⟨a0e, ha0⟩ : ∃ a, ml[0]? = some a := ⟨_, List.getElem?_eq_getElem hml⟩
        obtain ⟨g6, rfl, hgB, hgs, _, _⟩ := Ne.own_cells Ne.encA_len HO9.out ha0
        have hmc : ml.length ≤ c6 := by obtain ⟨_, _, hv, hcc, _⟩ := Rw.own_row Ne.encA_len HO9.out; simp only [Value.slice.injEq] at hv; omega
        have RL9 := Lib.hid HRl9.out
        clear ha0
        obtain ⟨pk, hpk⟩ : ∃ x, x = Ne.pickN a3 (ml.length : Int) := ⟨_, rfl⟩
        have bpk := Ne.pickN_bd (c := a3) (n := (ml.length : Int)) (by omega)
        rw [← hpk] at bpk
        obtain ⟨kk, hkk⟩ : ∃ k : Nat, pk = (k : Int) := ⟨pk.toNat, by omega⟩
        subst hkk
        have P1 := Lib.hid fun w' => Ne.pick_any a3 (ml.length : Int) w' b3.1 b3.2 (by omega) (by omega)
        rw [← hpk] at P1
        clear hpk
        have hkl : kk < ml.length := by omega
        have hk0 : (0 : Int) ≤ (kk : Int) := by omega
        have hk1 : (kk : Int) < (ml.length : Int) := by omega
        have hk2 : (kk : Int) + 1 ≤ (ml.length : Int) := by omega
        have hk3 : (kk : Int) ≤ (c6 : Int) := by omega
        have hk4 : (0 : Int) ≤ (kk : Int) + 1 := by omega
        have htn : ((kk : Int) + 1).toNat = kk + 1 := by omega
        have hlk : kk = (ml.take kk).length := by simp; omega
        have hld : ml.length - (kk + 1) = (ml.drop (kk + 1)).length := by simp
        have hs1 : ([] : List Ne.Arc).length + (ml.take kk).length ≤ 1099511627776 := by simp; omega
        have hs2 : X9.heap.size ≤ (X9.alloc (.cells #[] 35)).drew.heap.size := by show _ ≤ (X9.heap.push _).size; simp
        have hs3 : ([] ++ ml.take kk).length + (ml.drop (kk + 1)).length ≤ 1099511627776 := by simp; omega
        obtain ⟨ll, hll⟩ : ∃ z, z = ([] ++ ml.take kk ++ ml.drop (kk + 1)) := ⟨_, rfl⟩
        have HLL := Lib.hid hll
        clear hll bpk
        have HLK := Lib.hid hlk
        have HLD := Lib.hid hld
        clear hlk hld
        refine (P1.out _).mono ?_
        rintro e y ⟨rfl, rfl⟩
        go_wp2_with fail
        by_cases hcap : c6 = kk + 1
        · subst hcap
          have hk5 : (kk : Int) ≤ (kk : Int) + 1 := by omega
          have HLZ := Lib.hid (show 0 = (ml.drop (kk + 1)).length by simp; omega)
          have hS0 := (show (fun w' => w'.cell? ⟨bl, 3, none⟩ = some (.slice (some ⟨g6, 0, none⟩) ml.length (kk + 1))) X9.drew from l3)
          refine Rg.start (S := (fun w' => w'.cell? ⟨bl, 3, none⟩ = some (.slice (some ⟨g6, 0, none⟩) ml.length (kk + 1)))) (last := 13) (by kernel_rfl) ?_
          refine Rg.take (i := 1) (v := ?_) 30 rfl (by kernel_rfl) (by kernel_rfl) (by kernel_rfl) (by kernel_rfl) (fun _ _ _ h => h) (Or.inl ⟨by rfl, ?_⟩) hS0 ?_
          rotate_left
          · intro w hSw
            go_simp
            try with_reducible rfl
          try simp only [Act.put, List.setIfInBounds_toArray, List.set_cons_zero, List.set_cons_succ]
          refine Rg.take (i := 2) (v := ?_) 30 rfl (by kernel_rfl) (by kernel_rfl) (by kernel_rfl) (by kernel_rfl) (fun _ _ _ h => h) (Or.inl ⟨by rfl, ?_⟩) hS0 ?_
          rotate_left
          · intro w hSw
            go_simp
            try with_reducible rfl
          try simp only [Act.put, List.setIfInBounds_toArray, List.set_cons_zero, List.set_cons_succ]
          refine Rg.take (i := 3) (v := ?_) 30 rfl (by kernel_rfl) (by kernel_rfl) (by kernel_rfl) (by kernel_rfl) (fun _ _ _ h => h) (Or.inl ⟨by rfl, ?_⟩) hS0 ?_
          rotate_left
          · intro w hSw
            go_simp
            try with_reducible rfl
          try simp only [Act.put, List.setIfInBounds_toArray, List.set_cons_zero, List.set_cons_succ]
          refine Rg.take (i := 4) (v := ?_) 30 rfl (by kernel_rfl) (by kernel_rfl) (by kernel_rfl) (by kernel_rfl) (fun _ _ _ h => h) (Or.inl ⟨by rfl, ?_⟩) hS0 ?_
          rotate_left
          · intro w hSw
            go_simp
            try with_reducible rfl
          try simp only [Act.put, List.setIfInBounds_toArray, List.set_cons_zero, List.set_cons_succ]
          refine Rg.take (i := 6) (v := ?_) 30 rfl (by kernel_rfl) (by kernel_rfl) (by kernel_rfl) (by kernel_rfl) (fun _ _ _ h => h) (Or.inl ⟨by rfl, ?_⟩) hS0 ?_
          rotate_left
          · intro w hSw
            go_simp
            try with_reducible rfl
          try simp only [Act.put, List.setIfInBounds_toArray, List.set_cons_zero, List.set_cons_succ]
          refine Rg.take (i := 7) (v := ?_) 30 rfl (by kernel_rfl) (by kernel_rfl) (by kernel_rfl) (by kernel_rfl) (fun _ _ _ h => h) (Or.inl ⟨by rfl, ?_⟩) hS0 ?_
          rotate_left
          · intro w hSw
            go_simp
            try with_reducible rfl
          try simp only [Act.put, List.setIfInBounds_toArray, List.set_cons_zero, List.set_cons_succ]
          refine Rg.take (i := 8) (v := ?_) 30 rfl (by kernel_rfl) (by kernel_rfl) (by kernel_rfl) (by kernel_rfl) (fun _ _ _ h => h) (Or.inl ⟨by rfl, ?_⟩) hS0 ?_
          rotate_left
          · intro w hSw
            go_simp
            try with_reducible rfl
          try simp only [Act.put, List.setIfInBounds_toArray, List.set_cons_zero, List.set_cons_succ]
          refine Rg.take (i := 9) (v := ?_) 30 rfl (by kernel_rfl) (by kernel_rfl) (by kernel_rfl) (by kernel_rfl) (fun _ _ _ h => h) (Or.inl ⟨by rfl, ?_⟩) hS0 ?_
          rotate_left
          · intro w hSw
            go_simp
            rw [Ne.wrap_in (x := (kk : Int) + 1) (by unfold Ne.in64; omega)]
            try with_reducible rfl
          try simp only [Act.put, List.setIfInBounds_toArray, List.set_cons_zero, List.set_cons_succ]
          refine Rg.take (i := 10) (v := ?_) 30 rfl (by kernel_rfl) (by kernel_rfl) (by kernel_rfl) (by kernel_rfl) (fun _ _ _ h => h) (Or.inl ⟨by rfl, ?_⟩) hS0 ?_
          rotate_left
          · intro w hSw
            go_simp
            try with_reducible rfl
          try simp only [Act.put, List.setIfInBounds_toArray, List.set_cons_zero, List.set_cons_succ]
          refine Rg.step (i := 0) (by kernel_rfl) rfl fun K' hK' => ?_
          have HK := Lib.hid hK'
          clear hK'
          go_simp
          refine HK.out _ _ ⟨fun _ => (show (fun w' => w'.cell? ⟨bl, 3, none⟩ = some (.slice (some ⟨g6, 0, none⟩) ml.length (kk + 1))) (X9.alloc (.cells #[] 35)).drew from Ne.held_new l3), ?_⟩
          clear HK K'
          try simp only [Act.put, List.setIfInBounds_toArray, List.set_cons_zero, List.set_cons_succ]
          refine Rg.step (i := 5) (by kernel_rfl) rfl fun K' hK' => ?_
          refine Rw.stepAt Ne.elemA Ne.encA_len Ne.encA_one (by rfl) (.tmp 151) (.tmp 155) (by rfl) X9.heap.size _ ([] : List Ne.Arc) (by rfl) (show Ne.OwnA (X9.alloc (.cells #[] 35)).drew _ _ _ from Ne.own_empty X9 X9.heap.size (Nat.le_refl _)) ⟨g6, 0, none⟩ (kk + 1) (ml.take kk) kk HLK.out (by rfl) ((arow_take RL9.out kk).kept (Ne.below_drew ((Below.refl _ _).alloc (Nat.le_refl _) _))) hs1 hs2 ?_
          intro v1 w1' hown1 hgr1 hat1
          have E1 := Lib.hid (show Below X9.heap.size X9 w1' from (Ne.below_drew ((Below.refl X9.heap.size X9).alloc (Nat.le_refl _) (.cells #[] 35))).grown hgr1 hs2 (fun g hg => by simp [Value.ownBlock] at hg; omega))
          have hSq := (show (fun w' => w'.cell? ⟨bl, 3, none⟩ = some (.slice (some ⟨g6, 0, none⟩) ml.length (kk + 1))) w1' from (Ne.netBox_cells (Ne.netBox_below HL9.out E1.out hbl9)).2.2.2)
          refine hK' _ _ ⟨fun _ => hSq, ?_⟩
          clear hK' K'
          try simp only [Act.put, List.setIfInBounds_toArray, List.set_cons_zero, List.set_cons_succ]
          refine Rg.step (i := 11) (by kernel_rfl) rfl fun K' hK' => ?_
          refine Rw.stepAt Ne.elemA Ne.encA_len Ne.encA_one (by rfl) (.tmp 156) (.tmp 161) (by rfl) X9.heap.size _ ([] ++ ml.take kk) (by rfl) hown1 ⟨g6, 0, none⟩ _ (ml.drop (kk + 1)) 0 HLZ.out (by rfl) (show Ne.ARow w1' (some ⟨g6, 0, none⟩) (ml.drop (kk + 1)) from Or.inl (by apply List.drop_eq_nil_of_le; omega)) hs3 E1.out.size ?_
          intro v2 w2' hown2 hgr2 hat2
          have ell : ([] ++ ml.take kk ++ ml.drop (kk + 1)) = ll := HLL.out.symm
          rw [ell] at hown2
          clear ell
          have E2 := Lib.hid (E1.out.grown hgr2 E1.out.size (Rw.own_block hown1))
          have hl2 := Ne.netBox_below HL9.out E2.out hbl9
          have hSr := (show (fun w' => w'.cell? ⟨bl, 3, none⟩ = some (.slice (some ⟨g6, 0, none⟩) ml.length (kk + 1))) w2' from (Ne.netBox_cells hl2).2.2.2)
          have lf2 := Ne.netBox_frozen hl2 3
          obtain ⟨o9, c9, hv9, _⟩ := Rw.own_row Ne.encA_len hown2
          subst hv9
          refine hK' _ _ ⟨fun _ => hSr, ?_⟩
          clear hK' K'
          try simp only [Act.put, List.setIfInBounds_toArray, List.set_cons_zero, List.set_cons_succ]
          refine Rg.take (i := 12) (v := ?_) 30 rfl (by kernel_rfl) (by kernel_rfl) (by kernel_rfl) (by kernel_rfl) (fun _ _ _ h => h) (Or.inl ⟨by rfl, ?_⟩) hSr ?_
          rotate_left
          · intro w hSw
            go_simp
            try with_reducible rfl
          try simp only [Act.put, List.setIfInBounds_toArray, List.set_cons_zero, List.set_cons_succ]
          refine Rg.step (i := 13) (by kernel_rfl) rfl fun K' hK' => ?_
          have HK := Lib.hid hK'
          clear hK'
          go_simp
          refine HK.out _ _ ⟨fun h => absurd rfl h, ?_⟩
          clear HK K'
          try simp only [Act.put, List.setIfInBounds_toArray, List.set_cons_zero, List.set_cons_succ]
          refine Rg.finished (by kernel_rfl) ?_ _
          have hlll : ll.length ≤ 24 := by rw [HLL.out]; simp; omega
          have HLx := Lib.hid (Ne.netBox_set (v2 := .slice o9 ll.length c9) hl2)
          have HOx := Lib.hid (Rw.own_set hown2 (p := ⟨bl, 3, none⟩) (Ne.own_ne_box hown2 hl2) (.slice o9 ll.length c9))
          have HRx := Lib.hid (Ne.arow_of HOx.out).2.2
          have Dx := Lib.hid ((D9.out.trans (E2.out.mono D9.out.size)).setCell (p := ⟨bl, 3, none⟩) hW8 (.slice o9 ll.length c9))
          have HMx := Lib.hid (Ne.netBox_other (Ne.netBox_below HM9.out E2.out (Ne.netBox_lt HM9.out)) (b2 := bl) (o := 3) (v2 := .slice o9 ll.length c9) (by omega))
          have HRmx := Lib.hid (Ne.arow_of (Rw.own_set (Rw.own_below HOm9.out E2.out) (p := ⟨bl, 3, none⟩) (Ne.own_ne_box (Rw.own_below HOm9.out E2.out) hl2) (.slice o9 ll.length c9))).2.2
          have hsub : ∀ a ∈ ll, a ∈ ml := by
            rw [HLL.out]
            intro a ha
            rcases List.mem_append.1 ha with h | h
            · exact List.mem_of_mem_take (by simpa using h)
            · exact List.mem_of_mem_drop h
          have HCL := Lib.hid (show Ne.checkN ⟨mn, ms, mt, ll⟩ = 0 from Ne.checkN_fine (by obtain ⟨g1, g2, g3, g4, g5, g6, g7, g8⟩ := FH.out; exact ⟨g1, g2, g3, g4, g5, g6, g7, by simp only; omega⟩) (fun a ha => F9.out a (hsub a ha)))
          have HLC := Lib.hid (fun a (ha : a ∈ ll) => FC.out a (hsub a ha))
          clear hown1 hgr1 hat1 hSq hown2 hgr2 hat2 hSr lf2 hl2 hsub hS0
          clear m0 m1 m2 m3 l0 l1 l2 l3 lf n0 n1 n2 n3
          generalize (w2'.setCell ⟨bl, 3, none⟩ (.slice o9 ll.length c9)) = WX at *
          obtain ⟨l0, l1, l2, l3⟩ := Ne.netBox_cells HLx.out
          obtain ⟨m0, m1, m2, m3⟩ := Ne.netBox_cells HMx.out
          obtain ⟨n0, n1, n2, n3⟩ := Ne.netBox_cells (Ne.netBox_below HN3.out Dx.out hn3)
          have CKl := Lib.hid fun w' (h : Ne.ARow w' o9 ll) => Ne.check_any ⟨mn, ms, mt, ll⟩ o9 c9 w' h (by simp; omega) HLC.out
          rw [HCL.out] at CKl
          go_wp2_with fail
          refine (CKm.out _ HRmx.out).mono ?_
          rintro e z1 ⟨rfl, hb⟩
          have Z1 := Lib.hid hb
          obtain ⟨l0, l1, l2, l3⟩ := Ne.netBox_cells (Ne.netBox_below HLx.out Z1.out (Ne.netBox_lt HLx.out))
          obtain ⟨m0, m1, m2, m3⟩ := Ne.netBox_cells (Ne.netBox_below HMx.out Z1.out (Ne.netBox_lt HMx.out))
          obtain ⟨n0, n1, n2, n3⟩ := Ne.netBox_cells (Ne.netBox_below HN3.out (Dx.out.trans (Z1.out.mono Dx.out.size)) hn3)
          clear hb
          go_wp2_with fail
          refine (CKl.out _ (HRx.out.kept Z1.out)).mono ?_
          rintro e z2 ⟨rfl, hb⟩
          have Z2 := Lib.hid (Z1.out.trans (hb.mono Z1.out.size))
          obtain ⟨m0, m1, m2, m3⟩ := Ne.netBox_cells (Ne.netBox_below HMx.out Z2.out (Ne.netBox_lt HMx.out))
          obtain ⟨n0, n1, n2, n3⟩ := Ne.netBox_cells (Ne.netBox_below HN3.out (Dx.out.trans (Z2.out.mono Dx.out.size)) hn3)
          clear hb
          go_wp2_with fail
          refine (SMN.out _ (HRmx.out.kept Z2.out) (HR3.out.kept (Dx.out.trans (Z2.out.mono Dx.out.size)))).mono ?_
          rintro e z3 ⟨rfl, hb⟩
          have Z3 := Lib.hid (Z2.out.trans (hb.mono Z2.out.size))
          clear hb
          go_wp2
          go_ret
          exact ⟨rfl, HBW3.out.trans ((Dx.out.trans (Z3.out.mono Dx.out.size)).mono HBW3.out.size)⟩
        · have hS0 := (show (fun w' => w'.cell? ⟨bl, 3, none⟩ = some (.slice (some ⟨g6, 0, none⟩) ml.length c6)) X9.drew from l3)
          refine Rg.start (S := (fun w' => w'.cell? ⟨bl, 3, none⟩ = some (.slice (some ⟨g6, 0, none⟩) ml.length c6))) (last := 13) (by kernel_rfl) ?_
          refine Rg.take (i := 1) (v := ?_) 30 rfl (by kernel_rfl) (by kernel_rfl) (by kernel_rfl) (by kernel_rfl) (fun _ _ _ h => h) (Or.inl ⟨by rfl, ?_⟩) hS0 ?_
          rotate_left
          · intro w hSw
            go_simp
            try with_reducible rfl
          try simp only [Act.put, List.setIfInBounds_toArray, List.set_cons_zero, List.set_cons_succ]
          refine Rg.take (i := 2) (v := ?_) 30 rfl (by kernel_rfl) (by kernel_rfl) (by kernel_rfl) (by kernel_rfl) (fun _ _ _ h => h) (Or.inl ⟨by rfl, ?_⟩) hS0 ?_
          rotate_left
          · intro w hSw
            go_simp
            try with_reducible rfl
          try simp only [Act.put, List.setIfInBounds_toArray, List.set_cons_zero, List.set_cons_succ]
          refine Rg.take (i := 3) (v := ?_) 30 rfl (by kernel_rfl) (by kernel_rfl) (by kernel_rfl) (by kernel_rfl) (fun _ _ _ h => h) (Or.inl ⟨by rfl, ?_⟩) hS0 ?_
          rotate_left
          · intro w hSw
            go_simp
            try with_reducible rfl
          try simp only [Act.put, List.setIfInBounds_toArray, List.set_cons_zero, List.set_cons_succ]
          refine Rg.take (i := 4) (v := ?_) 30 rfl (by kernel_rfl) (by kernel_rfl) (by kernel_rfl) (by kernel_rfl) (fun _ _ _ h => h) (Or.inl ⟨by rfl, ?_⟩) hS0 ?_
          rotate_left
          · intro w hSw
            go_simp
            try with_reducible rfl
          try simp only [Act.put, List.setIfInBounds_toArray, List.set_cons_zero, List.set_cons_succ]
          refine Rg.take (i := 6) (v := ?_) 30 rfl (by kernel_rfl) (by kernel_rfl) (by kernel_rfl) (by kernel_rfl) (fun _ _ _ h => h) (Or.inl ⟨by rfl, ?_⟩) hS0 ?_
          rotate_left
          · intro w hSw
            go_simp
            try with_reducible rfl
          try simp only [Act.put, List.setIfInBounds_toArray, List.set_cons_zero, List.set_cons_succ]
          refine Rg.take (i := 7) (v := ?_) 30 rfl (by kernel_rfl) (by kernel_rfl) (by kernel_rfl) (by kernel_rfl) (fun _ _ _ h => h) (Or.inl ⟨by rfl, ?_⟩) hS0 ?_
          rotate_left
          · intro w hSw
            go_simp
            try with_reducible rfl
          try simp only [Act.put, List.setIfInBounds_toArray, List.set_cons_zero, List.set_cons_succ]
          refine Rg.take (i := 8) (v := ?_) 30 rfl (by kernel_rfl) (by kernel_rfl) (by kernel_rfl) (by kernel_rfl) (fun _ _ _ h => h) (Or.inl ⟨by rfl, ?_⟩) hS0 ?_
          rotate_left
          · intro w hSw
            go_simp
            try with_reducible rfl
          try simp only [Act.put, List.setIfInBounds_toArray, List.set_cons_zero, List.set_cons_succ]
          refine Rg.take (i := 9) (v := ?_) 30 rfl (by kernel_rfl) (by kernel_rfl) (by kernel_rfl) (by kernel_rfl) (fun _ _ _ h => h) (Or.inl ⟨by rfl, ?_⟩) hS0 ?_
          rotate_left
          · intro w hSw
            go_simp
            rw [Ne.wrap_in (x := (kk : Int) + 1) (by unfold Ne.in64; omega)]
            try with_reducible rfl
          try simp only [Act.put, List.setIfInBounds_toArray, List.set_cons_zero, List.set_cons_succ]
          refine Rg.take (i := 10) (v := ?_) 30 rfl (by kernel_rfl) (by kernel_rfl) (by kernel_rfl) (by kernel_rfl) (fun _ _ _ h => h) (Or.inl ⟨by rfl, ?_⟩) hS0 ?_
          rotate_left
          · intro w hSw
            go_simp
            try with_reducible rfl
          try simp only [Act.put, List.setIfInBounds_toArray, List.set_cons_zero, List.set_cons_succ]
          refine Rg.step (i := 0) (by kernel_rfl) rfl fun K' hK' => ?_
          have HK := Lib.hid hK'
          clear hK'
          go_simp
          refine HK.out _ _ ⟨fun _ => (show (fun w' => w'.cell? ⟨bl, 3, none⟩ = some (.slice (some ⟨g6, 0, none⟩) ml.length c6)) (X9.alloc (.cells #[] 35)).drew from Ne.held_new l3), ?_⟩
          clear HK K'
          try simp only [Act.put, List.setIfInBounds_toArray, List.set_cons_zero, List.set_cons_succ]
          refine Rg.step (i := 5) (by kernel_rfl) rfl fun K' hK' => ?_
          refine Rw.stepAt Ne.elemA Ne.encA_len Ne.encA_one (by rfl) (.tmp 151) (.tmp 155) (by rfl) X9.heap.size _ ([] : List Ne.Arc) (by rfl) (show Ne.OwnA (X9.alloc (.cells #[] 35)).drew _ _ _ from Ne.own_empty X9 X9.heap.size (Nat.le_refl _)) ⟨g6, 0, none⟩ c6 (ml.take kk) kk HLK.out (by rfl) ((arow_take RL9.out kk).kept (Ne.below_drew ((Below.refl _ _).alloc (Nat.le_refl _) _))) hs1 hs2 ?_
          intro v1 w1' hown1 hgr1 hat1
          have E1 := Lib.hid (show Below X9.heap.size X9 w1' from (Ne.below_drew ((Below.refl X9.heap.size X9).alloc (Nat.le_refl _) (.cells #[] 35))).grown hgr1 hs2 (fun g hg => by simp [Value.ownBlock] at hg; omega))
          have hSq := (show (fun w' => w'.cell? ⟨bl, 3, none⟩ = some (.slice (some ⟨g6, 0, none⟩) ml.length c6)) w1' from (Ne.netBox_cells (Ne.netBox_below HL9.out E1.out hbl9)).2.2.2)
          refine hK' _ _ ⟨fun _ => hSq, ?_⟩
          clear hK' K'
          try simp only [Act.put, List.setIfInBounds_toArray, List.set_cons_zero, List.set_cons_succ]
          refine Rg.step (i := 11) (by kernel_rfl) rfl fun K' hK' => ?_
          refine Rw.stepAt Ne.elemA Ne.encA_len Ne.encA_one (by rfl) (.tmp 156) (.tmp 161) (by rfl) X9.heap.size _ ([] ++ ml.take kk) (by rfl) hown1 ⟨g6, (kk + 1) * 3, none⟩ (c6 - (kk + 1)) (ml.drop (kk + 1)) (ml.length - (kk + 1)) HLD.out (by rfl) (show Ne.ARow w1' (some ⟨g6, (kk + 1) * 3, none⟩) (ml.drop (kk + 1)) from by have h := arow_drop (RL9.out.kept E1.out) (kk + 1); rw [Nat.zero_add] at h; exact h) hs3 E1.out.size ?_
          intro v2 w2' hown2 hgr2 hat2
          have ell : ([] ++ ml.take kk ++ ml.drop (kk + 1)) = ll := HLL.out.symm
          rw [ell] at hown2
          clear ell
          have E2 := Lib.hid (E1.out.grown hgr2 E1.out.size (Rw.own_block hown1))
          have hl2 := Ne.netBox_below HL9.out E2.out hbl9
          have hSr := (show (fun w' => w'.cell? ⟨bl, 3, none⟩ = some (.slice (some ⟨g6, 0, none⟩) ml.length c6)) w2' from (Ne.netBox_cells hl2).2.2.2)
          have lf2 := Ne.netBox_frozen hl2 3
          obtain ⟨o9, c9, hv9, _⟩ := Rw.own_row Ne.encA_len hown2
          subst hv9
          refine hK' _ _ ⟨fun _ => hSr, ?_⟩
          clear hK' K'
          try simp only [Act.put, List.setIfInBounds_toArray, List.set_cons_zero, List.set_cons_succ]
          refine Rg.take (i := 12) (v := ?_) 30 rfl (by kernel_rfl) (by kernel_rfl) (by kernel_rfl) (by kernel_rfl) (fun _ _ _ h => h) (Or.inl ⟨by rfl, ?_⟩) hSr ?_
          rotate_left
          · intro w hSw
            go_simp
            try with_reducible rfl
          try simp only [Act.put, List.setIfInBounds_toArray, List.set_cons_zero, List.set_cons_succ]
          refine Rg.step (i := 13) (by kernel_rfl) rfl fun K' hK' => ?_
          have HK := Lib.hid hK'
          clear hK'
          go_simp
          refine HK.out _ _ ⟨fun h => absurd rfl h, ?_⟩
          clear HK K'
          try simp only [Act.put, List.setIfInBounds_toArray, List.set_cons_zero, List.set_cons_succ]
          refine Rg.finished (by kernel_rfl) ?_ _
          have hlll : ll.length ≤ 24 := by rw [HLL.out]; simp; omega
          have HLx := Lib.hid (Ne.netBox_set (v2 := .slice o9 ll.length c9) hl2)
          have HOx := Lib.hid (Rw.own_set hown2 (p := ⟨bl, 3, none⟩) (Ne.own_ne_box hown2 hl2) (.slice o9 ll.length c9))
          have HRx := Lib.hid (Ne.arow_of HOx.out).2.2
          have Dx := Lib.hid ((D9.out.trans (E2.out.mono D9.out.size)).setCell (p := ⟨bl, 3, none⟩) hW8 (.slice o9 ll.length c9))
          have HMx := Lib.hid (Ne.netBox_other (Ne.netBox_below HM9.out E2.out (Ne.netBox_lt HM9.out)) (b2 := bl) (o := 3) (v2 := .slice o9 ll.length c9) (by omega))
          have HRmx := Lib.hid (Ne.arow_of (Rw.own_set (Rw.own_below HOm9.out E2.out) (p := ⟨bl, 3, none⟩) (Ne.own_ne_box (Rw.own_below HOm9.out E2.out) hl2) (.slice o9 ll.length c9))).2.2
          have hsub : ∀ a ∈ ll, a ∈ ml := by
            rw [HLL.out]
            intro a ha
            rcases List.mem_append.1 ha with h | h
            · exact List.mem_of_mem_take (by simpa using h)
            · exact List.mem_of_mem_drop h
          have HCL := Lib.hid (show Ne.checkN ⟨mn, ms, mt, ll⟩ = 0 from Ne.checkN_fine (by obtain ⟨g1, g2, g3, g4, g5, g6, g7, g8⟩ := FH.out; exact ⟨g1, g2, g3, g4, g5, g6, g7, by simp only; omega⟩) (fun a ha => F9.out a (hsub a ha)))
          have HLC := Lib.hid (fun a (ha : a ∈ ll) => FC.out a (hsub a ha))
          clear hown1 hgr1 hat1 hSq hown2 hgr2 hat2 hSr lf2 hl2 hsub hS0
          clear m0 m1 m2 m3 l0 l1 l2 l3 lf n0 n1 n2 n3
          generalize (w2'.setCell ⟨bl, 3, none⟩ (.slice o9 ll.length c9)) = WX at *
          obtain ⟨l0, l1, l2, l3⟩ := Ne.netBox_cells HLx.out
          obtain ⟨m0, m1, m2, m3⟩ := Ne.netBox_cells HMx.out
          obtain ⟨n0, n1, n2, n3⟩ := Ne.netBox_cells (Ne.netBox_below HN3.out Dx.out hn3)
          have CKl := Lib.hid fun w' (h : Ne.ARow w' o9 ll) => Ne.check_any ⟨mn, ms, mt, ll⟩ o9 c9 w' h (by simp; omega) HLC.out
          rw [HCL.out] at CKl
          go_wp2_with fail
          refine (CKm.out _ HRmx.out).mono ?_
          rintro e z1 ⟨rfl, hb⟩
          have Z1 := Lib.hid hb
          obtain ⟨l0, l1, l2, l3⟩ := Ne.netBox_cells (Ne.netBox_below HLx.out Z1.out (Ne.netBox_lt HLx.out))
          obtain ⟨m0, m1, m2, m3⟩ := Ne.netBox_cells (Ne.netBox_below HMx.out Z1.out (Ne.netBox_lt HMx.out))
          obtain ⟨n0, n1, n2, n3⟩ := Ne.netBox_cells (Ne.netBox_below HN3.out (Dx.out.trans (Z1.out.mono Dx.out.size)) hn3)
          clear hb
          go_wp2_with fail
          refine (CKl.out _ (HRx.out.kept Z1.out)).mono ?_
          rintro e z2 ⟨rfl, hb⟩
          have Z2 := Lib.hid (Z1.out.trans (hb.mono Z1.out.size))
          obtain ⟨m0, m1, m2, m3⟩ := Ne.netBox_cells (Ne.netBox_below HMx.out Z2.out (Ne.netBox_lt HMx.out))
          obtain ⟨n0, n1, n2, n3⟩ := Ne.netBox_cells (Ne.netBox_below HN3.out (Dx.out.trans (Z2.out.mono Dx.out.size)) hn3)
          clear hb
          go_wp2_with fail
          refine (SMN.out _ (HRmx.out.kept Z2.out) (HR3.out.kept (Dx.out.trans (Z2.out.mono Dx.out.size)))).mono ?_
          rintro e z3 ⟨rfl, hb⟩
          have Z3 := Lib.hid (Z2.out.trans (hb.mono Z2.out.size))
          clear hb
          go_wp2
          go_ret
          exact ⟨rfl, HBW3.out.trans ((Dx.out.trans (Z3.out.mono Dx.out.size)).mono HBW3.out.size)⟩
      · have t0 : decide ((0 : Int) < (a2.length : Int)) = false := decide_eq_false (by omega)
        have t1 : decide (0 < a2.length) = false := decide_eq_false hal
        have hal2 := Lib.hid hal
        clear hal
        go_wp2_with fail
        have hbl9 := Ne.netBox_lt HL9.out
        generalize (x8.alloc (.cells #[.int .i64 mn, .int .i64 ms, .int .i64 mt, .slice o6 ml.length c6] 24)) = X9 at *
        generalize hbb : x8.heap.size = bl at *
        generalize hbm' : x5.heap.size = bm at *
        clear hbb hbm'
        obtain ⟨m0, m1, m2, m3⟩ := Ne.netBox_cells HM9.out
        obtain ⟨l0, l1, l2, l3⟩ := Ne.netBox_cells HL9.out
        have lf := Ne.netBox_frozen HL9.out 3
        obtain ⟨n0, n1, n2, n3⟩ := Ne.netBox_cells (Ne.netBox_below HN3.out D9.out hn3)
        have hcm : Ne.checkN ⟨mn, ms, mt, fl⟩ = 0 := Ne.checkN_fine (by obtain ⟨g1, g2, g3, g4, g5, g6, g7, g8⟩ := FH.out; exact ⟨g1, g2, g3, g4, g5, g6, g7, by simp only [HFL.out, List.length_append, List.length_singleton]; omega⟩) (by
          simp only [HFL.out]
          intro a ha
          rcases List.mem_append.1 ha with h | h
          · exact F9.out a h
          · simp at h; subst h; refine ⟨(Ne.isNode_iff _ _).2 ⟨?_, ?_⟩, (Ne.isNode_iff _ _).2 ⟨?_, ?_⟩, ?_, ?_⟩ <;> simp only <;> omega)
        have hfll : fl.length ≤ 25 := by rw [HFL.out]; simp; omega
        have CKm := Lib.hid fun w' h => Ne.check_any ⟨mn, ms, mt, fl⟩ o7 c7 w' h (by simp only; omega) (by
          simp only [HFL.out]
          intro a ha
          rcases List.mem_append.1 ha with h | h
          · exact FC.out a h
          · simp at h; subst h; unfold Ne.in64; simp only; omega)
        rw [hcm] at CKm
        have SMN := Lib.hid fun w' h1 h2 => Ne.dsame_any ⟨mn, ms, mt, fl⟩ ⟨mn, ms, mt, ml⟩ o7 om c7 cm w' h1 h2 (by simp only; omega) (by simp only; omega)
        have esm : Ne.sameN ⟨mn, ms, mt, fl⟩ ⟨mn, ms, mt, ml⟩ = false := by
          have : fl ≠ ml := fun e => by have := congrArg List.length e; rw [HFL.out] at this; simp at this
          unfold Ne.sameN; rw [decide_eq_false this]; simp
        rw [esm] at SMN
        clear hcm esm
        have HCL := Lib.hid (show Ne.checkN ⟨mn, ms, mt, ml⟩ = 0 from Ne.checkN_fine FH.out F9.out)
        have HLC := Lib.hid FC.out
        have CKl := Lib.hid fun w' (h : Ne.ARow w' o6 ml) => Ne.check_any ⟨mn, ms, mt, ml⟩ o6 c6 w' h (by simp; omega) HLC.out
        rw [HCL.out] at CKl
        refine (CKm.out _ HRm9.out).mono ?_
        rintro e z1 ⟨rfl, hb⟩
        have Z1 := Lib.hid hb
        obtain ⟨l0, l1, l2, l3⟩ := Ne.netBox_cells (Ne.netBox_below HL9.out Z1.out (Ne.netBox_lt HL9.out))
        obtain ⟨m0, m1, m2, m3⟩ := Ne.netBox_cells (Ne.netBox_below HM9.out Z1.out (Ne.netBox_lt HM9.out))
        obtain ⟨n0, n1, n2, n3⟩ := Ne.netBox_cells (Ne.netBox_below HN3.out (D9.out.trans (Z1.out.mono D9.out.size)) hn3)
        clear hb
        go_wp2_with fail
        refine (CKl.out _ (HRl9.out.kept Z1.out)).mono ?_
        rintro e z2 ⟨rfl, hb⟩
        have Z2 := Lib.hid (Z1.out.trans (hb.mono Z1.out.size))
        obtain ⟨m0, m1, m2, m3⟩ := Ne.netBox_cells (Ne.netBox_below HM9.out Z2.out (Ne.netBox_lt HM9.out))
        obtain ⟨n0, n1, n2, n3⟩ := Ne.netBox_cells (Ne.netBox_below HN3.out (D9.out.trans (Z2.out.mono D9.out.size)) hn3)
        clear hb
        go_wp2_with fail
        refine (SMN.out _ (HRm9.out.kept Z2.out) (HR3.out.kept (D9.out.trans (Z2.out.mono D9.out.size)))).mono ?_
        rintro e z3 ⟨rfl, hb⟩
        have Z3 := Lib.hid (Z2.out.trans (hb.mono Z2.out.size))
        clear hb
        go_wp2
        go_ret
        exact ⟨rfl, HBW3.out.trans ((D9.out.trans (Z3.out.mono D9.out.size)).mono HBW3.out.size)⟩

end Go.Proofs.Ytpoflbnmfoamhaa.netParts
