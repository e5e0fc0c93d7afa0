/-
  Stage 10: contract of the laws' does: an act in the program's forest and in the document's: they are the same. No condition. (Written by wip/tools/gen-Flz.py.)
-/
import Derived.Test.YtjhodnpmogkmmaaFlr
import Derived.Test.YtjhodnpmogkmmaaOpa
import Derived.WalkMore
import Derived.Deep.DeepCutAuto
namespace Go.Proofs.Ytjhodnpmogkmmaa
open Go.ChangeShapes Go.WideShapes Go.ChangeAt Go.RowKit
set_option linter.unusedVariables false
set_option linter.unusedSimpArgs false
namespace Fo
theorem linkS_len (f : Ft) (a b : Int) : (linkS f a b).v.length = f.v.length := by unfold linkS; split <;> rfl
theorem cutS_len (f : Ft) (a : Int) : (cutS f a).v.length = f.v.length := by unfold cutS; split <;> rfl
theorem evertS_len (f : Ft) (a : Int) : (evertS f a).v.length = f.v.length := by unfold evertS; split <;> rfl
set_option maxRecDepth 100000 in
set_option maxHeartbeats 16000000 in
theorem does_any {w : World} {B p q : Nat} {f : Ft} (h : Pair w B p q f f) (a : Sp.Act) (ha : a.ok) :
    Calls Try.prog 14 #[.pointer (some ⟨p, 0, none⟩), .pointer (some ⟨q, 0, none⟩), .agg #[.int .i64 a.op, .int .i64 a.x, .int .i64 a.y, .int .i64 a.d]] w fun e w' =>
      ∃ f', e = .returned (.bool true) ∧ Pair w' B p q f' f' ∧ f'.v.length = f.v.length ∧ Below B w w' := by
  have hsm := h.good.1.small
  obtain ⟨b0, b1, b2, b3⟩ := ha
  unfold Ne.in64 at b0 b1 b2 b3
  have hba := (Below.refl w.heap.size w).alloc (Nat.le_refl _) (.cells #[.int .i64 a.op, .int .i64 a.x, .int .i64 a.y, .int .i64 a.d] 34)
  have HP := Lib.hid (h.kept hba)
  have HB1 := Lib.hid (hba.mono h.size)
  have hBW := Lib.hid h.size
  obtain ⟨n, hn⟩ : ∃ n, n = f.v.length := ⟨_, rfl⟩
  have HNN := Lib.hid hn
  rw [← hn] at hsm
  obtain ⟨o, c, n0⟩ := pair_vals HP.out
  rw [← hn] at n0
  clear hn h hba
  have bpx := Ne.pickN_bd (c := a.x) (n := (n : Int) + 2) (by omega)
  have bpy := Ne.pickN_bd (c := a.y) (n := (n : Int) + 2) (by omega)
  have PX := Lib.hid fun w' => Ne.pick_any a.x ((n : Int) + 2) w' b1.1 b1.2 (by omega) (by omega)
  have PY := Lib.hid fun w' => Ne.pick_any a.y ((n : Int) + 2) w' b2.1 b2.2 (by omega) (by omega)
  have PO := Lib.hid fun w' => Ne.pick_any a.op 14 w' b0.1 b0.2 (by omega) (by omega)
  have bpo := Ne.pickN_bd (c := a.op) (n := 14) (by omega)
  have P5 := Lib.hid fun w' => Ne.pick_any a.y 5 w' b2.1 b2.2 (by omega) (by omega)
  have bp5 := Ne.pickN_bd (c := a.y) (n := 5) (by omega)
  generalize Ne.pickN a.x ((n : Int) + 2) = px at *
  generalize Ne.pickN a.y ((n : Int) + 2) = py at *
  generalize Ne.pickN a.op 14 = pk at *
  generalize Ne.pickN a.y 5 = p5 at *
  obtain ⟨X, hX⟩ : ∃ X, px - 1 = X := ⟨_, rfl⟩
  obtain ⟨Y, hY⟩ : ∃ Y, py - 1 = Y := ⟨_, rfl⟩
  have hXw : IntKind.i64.wrap X = X := by rw [IntKind.wrap_i64]; omega
  have hYw : IntKind.i64.wrap Y = Y := by rw [IntKind.wrap_i64]; omega
  have hn2 : IntKind.i64.wrap ((n : Int) + 2) = (n : Int) + 2 := by rw [IntKind.wrap_i64]; omega
  have hpk0 := bpo.1
  have hpk1 := bpo.2
  have hd5 := bp5.1
  clear bpx bpy bpo bp5 hsm
  generalize a.op = aop at *
  generalize a.x = ax at *
  generalize a.y = ay at *
  generalize a.d = ad at *
  have c1 : (w.alloc (.cells #[.int .i64 aop, .int .i64 ax, .int .i64 ay, .int .i64 ad] 34)).cell? ⟨w.heap.size, 0, none⟩ = some (.int .i64 aop) := World.cell?_alloc_new w _ _ 0
  have c2 : (w.alloc (.cells #[.int .i64 aop, .int .i64 ax, .int .i64 ay, .int .i64 ad] 34)).cell? ⟨w.heap.size, 1, none⟩ = some (.int .i64 ax) := World.cell?_alloc_new w _ _ 1
  have c3 : (w.alloc (.cells #[.int .i64 aop, .int .i64 ax, .int .i64 ay, .int .i64 ad] 34)).cell? ⟨w.heap.size, 2, none⟩ = some (.int .i64 ay) := World.cell?_alloc_new w _ _ 2
  have c4 : (w.alloc (.cells #[.int .i64 aop, .int .i64 ax, .int .i64 ay, .int .i64 ad] 34)).cell? ⟨w.heap.size, 3, none⟩ = some (.int .i64 ad) := World.cell?_alloc_new w _ _ 3
  go_enter Try.func14, Try.ntmps14
  go_upto_region 2 with fail
  generalize (w.alloc (.cells #[.int .i64 aop, .int .i64 ax, .int .i64 ay, .int .i64 ad] 34)) = W at *
  go_wp2_with fail
  refine (PX.out _).mono ?_
  rintro e w' ⟨rfl, rfl⟩
  go_wp2_with fail
  refine (PY.out _).mono ?_
  rintro e w' ⟨rfl, rfl⟩
  go_wp2_with fail
  refine (PO.out _).mono ?_
  rintro e w' ⟨rfl, rfl⟩
  by_cases k5 : pk < 5
  · clear P5
    have q_link : ((linkE f X Y) == (linkE f X Y)) = true := by simp
    go_wp2_with fail
    refine (pair_link HP.out X Y).mono ?_
    rintro e w2 ⟨rfl, h2, hb⟩
    have HP2 := Lib.hid h2
    have HB2 := Lib.hid (HB1.out.trans (hb.mono (Nat.le_refl _)))
    clear h2 hb
    go_wp2_with fail
    refine (pair_rlink HP2.out X Y).mono ?_
    rintro e w3 ⟨rfl, h3, hb⟩
    have HP3 := Lib.hid h3
    have HB3 := Lib.hid (HB2.out.trans (hb.mono (Nat.le_refl _)))
    clear h3 hb
    go_wp2
    go_ret
    exact ⟨(linkS f X Y), rfl, HP3.out, by exact linkS_len _ _ _, HB3.out⟩
  by_cases k7 : pk < 7
  · have n5 : ¬ pk < 5 := by omega
    clear k5 P5
    have q_cut : ((cutE f X) == (cutE f X)) = true := by simp
    go_wp2_with fail
    refine (pair_cut HP.out X).mono ?_
    rintro e w2 ⟨rfl, h2, hb⟩
    have HP2 := Lib.hid h2
    have HB2 := Lib.hid (HB1.out.trans (hb.mono (Nat.le_refl _)))
    clear h2 hb
    go_wp2_with fail
    refine (pair_rcut HP2.out X).mono ?_
    rintro e w3 ⟨rfl, h3, hb⟩
    have HP3 := Lib.hid h3
    have HB3 := Lib.hid (HB2.out.trans (hb.mono (Nat.le_refl _)))
    clear h3 hb
    go_wp2
    go_ret
    exact ⟨(cutS f X), rfl, HP3.out, by exact cutS_len _ _, HB3.out⟩
  by_cases j7 : pk = 7
  · have m7 : (pk == 7) = true := by simpa using j7
    have n5 : ¬ pk < 5 := by omega
    have n7 : ¬ pk < 7 := by omega
    clear k5 k7 P5 j7
    have q_evert : ((evertE f X) == (evertE f X)) = true := by simp
    go_wp2_with fail
    refine (pair_evert HP.out X).mono ?_
    rintro e w2 ⟨rfl, h2, hb⟩
    have HP2 := Lib.hid h2
    have HB2 := Lib.hid (HB1.out.trans (hb.mono (Nat.le_refl _)))
    clear h2 hb
    go_wp2_with fail
    refine (pair_revert HP2.out X).mono ?_
    rintro e w3 ⟨rfl, h3, hb⟩
    have HP3 := Lib.hid h3
    have HB3 := Lib.hid (HB2.out.trans (hb.mono (Nat.le_refl _)))
    clear h3 hb
    go_wp2
    go_ret
    exact ⟨(evertS f X), rfl, HP3.out, by exact evertS_len _ _, HB3.out⟩
  have m7 : (pk == 7) = false := by simpa using j7
  by_cases k10 : pk < 10
  · have n5 : ¬ pk < 5 := by omega
    have n7 : ¬ pk < 7 := by omega
    clear k5 k7 j7
    by_cases kd : 0 < p5
    · obtain ⟨DD, hDD0⟩ : ∃ DD, Int.tmod ad 10 = DD := ⟨_, rfl⟩
      have hdd : -9223372036854775808 ≤ DD ∧ DD ≤ 9223372036854775807 := by
        rw [← hDD0]
        rcases (show ad < 0 ∨ 0 ≤ ad by omega) with c | c
        · have h1 := Int.tmod_nonneg (b := 10) (a := -ad) (by omega)
          rw [Int.neg_tmod] at h1
          have h2 := Int.tmod_lt_of_pos (-ad) (b := 10) (by omega)
          have h3 : -10 < Int.tmod ad 10 := by rw [Int.neg_tmod] at h2; omega
          omega
        · have h1 := Int.tmod_nonneg (b := 10) (a := ad) c
          have h2 := Int.tmod_lt_of_pos ad (b := 10) (by omega)
          omega
      go_wp2_with fail
      refine (P5.out _).mono ?_
      rintro e w' ⟨rfl, rfl⟩
      have q_add : ((addE f X DD) == (addE f X DD)) = true := by simp
      go_wp2_with fail
      refine (pair_add HP.out X DD hdd).mono ?_
      rintro e w2 ⟨rfl, h2, hb⟩
      have HP2 := Lib.hid h2
      have HB2 := Lib.hid (HB1.out.trans (hb.mono (Nat.le_refl _)))
      clear h2 hb
      go_wp2_with fail
      refine (pair_radd HP2.out X DD hdd).mono ?_
      rintro e w3 ⟨rfl, h3, hb⟩
      have HP3 := Lib.hid h3
      have HB3 := Lib.hid (HB2.out.trans (hb.mono (Nat.le_refl _)))
      clear h3 hb
      go_wp2
      go_ret
      exact ⟨(addS f X DD), rfl, HP3.out, by exact addS_len _ _ _, HB3.out⟩
    · have kd2 : ¬ 0 < p5 := kd
      obtain ⟨DD, hDD0⟩ : ∃ DD, ad = DD := ⟨_, rfl⟩
      subst hDD0
      have hdd := b3
      go_wp2_with fail
      refine (P5.out _).mono ?_
      rintro e w' ⟨rfl, rfl⟩
      have q_add : ((addE f X ad) == (addE f X ad)) = true := by simp
      go_wp2_with fail
      refine (pair_add HP.out X ad hdd).mono ?_
      rintro e w2 ⟨rfl, h2, hb⟩
      have HP2 := Lib.hid h2
      have HB2 := Lib.hid (HB1.out.trans (hb.mono (Nat.le_refl _)))
      clear h2 hb
      go_wp2_with fail
      refine (pair_radd HP2.out X ad hdd).mono ?_
      rintro e w3 ⟨rfl, h3, hb⟩
      have HP3 := Lib.hid h3
      have HB3 := Lib.hid (HB2.out.trans (hb.mono (Nat.le_refl _)))
      clear h3 hb
      go_wp2
      go_ret
      exact ⟨(addS f X ad), rfl, HP3.out, by exact addS_len _ _ _, HB3.out⟩
  have n5 : ¬ pk < 5 := by omega
  have n7 : ¬ pk < 7 := by omega
  have n10 : ¬ pk < 10 := by omega
  clear P5 k5 k7 k10 j7
  by_cases j10 : pk = 10
  · have m10 : (pk == 10) = true := by simpa using j10
    have q_least : ((leastZ f X) == (leastZ f X)) = true := by simp
    go_wp2_with fail
    refine (pair_least HP.out X).mono ?_
    rintro e w2 ⟨rfl, h2, hb⟩
    have HP2 := Lib.hid h2
    have HB2 := Lib.hid (HB1.out.trans (hb.mono (Nat.le_refl _)))
    clear h2 hb
    go_wp2_with fail
    refine (pair_rleast HP2.out X).mono ?_
    rintro e w3 ⟨rfl, h3, hb⟩
    have HP3 := Lib.hid h3
    have HB3 := Lib.hid (HB2.out.trans (hb.mono (Nat.le_refl _)))
    clear h3 hb
    go_wp2
    go_ret
    exact ⟨f, rfl, HP3.out, by rfl, HB3.out⟩
  have m10 : (pk == 10) = false := by simpa using j10
  by_cases j11 : pk = 11
  · have m11 : (pk == 11) = true := by simpa using j11
    have q_root : ((rootZ f X) == (rootZ f X)) = true := by simp
    go_wp2_with fail
    refine (pair_root HP.out X).mono ?_
    rintro e w2 ⟨rfl, h2, hb⟩
    have HP2 := Lib.hid h2
    have HB2 := Lib.hid (HB1.out.trans (hb.mono (Nat.le_refl _)))
    clear h2 hb
    go_wp2_with fail
    refine (pair_rroot HP2.out X).mono ?_
    rintro e w3 ⟨rfl, h3, hb⟩
    have HP3 := Lib.hid h3
    have HB3 := Lib.hid (HB2.out.trans (hb.mono (Nat.le_refl _)))
    clear h3 hb
    go_wp2
    go_ret
    exact ⟨f, rfl, HP3.out, by rfl, HB3.out⟩
  have m11 : (pk == 11) = false := by simpa using j11
  by_cases j12 : pk = 12
  · have m12 : (pk == 12) = true := by simpa using j12
    have q_above : ((aboveZ f X) == (aboveZ f X)) = true := by simp
    go_wp2_with fail
    refine (pair_above HP.out X).mono ?_
    rintro e w2 ⟨rfl, h2, hb⟩
    have HP2 := Lib.hid h2
    have HB2 := Lib.hid (HB1.out.trans (hb.mono (Nat.le_refl _)))
    clear h2 hb
    go_wp2_with fail
    refine (pair_rabove HP2.out X).mono ?_
    rintro e w3 ⟨rfl, h3, hb⟩
    have HP3 := Lib.hid h3
    have HB3 := Lib.hid (HB2.out.trans (hb.mono (Nat.le_refl _)))
    clear h3 hb
    go_wp2
    go_ret
    exact ⟨f, rfl, HP3.out, by rfl, HB3.out⟩
  have m12 : (pk == 12) = false := by simpa using j12
  have q_value : ((valZ f X) == (valZ f X)) = true := by simp
  go_wp2_with fail
  refine (pair_value HP.out X).mono ?_
  rintro e w2 ⟨rfl, h2, hb⟩
  have HP2 := Lib.hid h2
  have HB2 := Lib.hid (HB1.out.trans (hb.mono (Nat.le_refl _)))
  clear h2 hb
  go_wp2_with fail
  refine (pair_rvalue HP2.out X).mono ?_
  rintro e w3 ⟨rfl, h3, hb⟩
  have HP3 := Lib.hid h3
  have HB3 := Lib.hid (HB2.out.trans (hb.mono (Nat.le_refl _)))
  clear h3 hb
  go_wp2
  go_ret
  exact ⟨f, rfl, HP3.out, by rfl, HB3.out⟩
end Fo
end Go.Proofs.Ytjhodnpmogkmmaa
