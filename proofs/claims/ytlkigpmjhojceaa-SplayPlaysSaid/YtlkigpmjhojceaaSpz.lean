/-
  Stage 9: contract of the laws' does: an act in the program's forest and in the document's: they are the same. Condition: fewer than 900000 acts. (Written by wip/tools/gen-Spz.py.)
-/
import Derived.Test.YtlkigpmjhojceaaSps
import Derived.Test.YtlkigpmjhojceaaOpa
import Derived.WalkMore
import Derived.Deep.DeepCutAuto
namespace Go.Proofs.Ytlkigpmjhojceaa
open Go.ChangeShapes Go.WideShapes Go.ChangeAt Go.RowKit
set_option linter.unusedVariables false
set_option linter.unusedSimpArgs false
namespace Sp
theorem joinS_len (s : St) (a b : Int) : (joinS s a b).v = s.v := by unfold joinS; split <;> rfl
theorem addS_len' (s : St) (x d : Int) : (addS s x d).v.length = s.v.length := by
  unfold addS; split
  · exact addL_len _ _ _
  · rfl
theorem pair_vals {w : World} {B p q m : Nat} {s1 s2 : St} (h : Pair w B p q s1 s2 m) : ∃ o c rv, w.cell? ⟨q, 0, none⟩ = some (.slice o s2.v.length c) ∧ FBlk w q (.slice o s2.v.length c) rv ∧ Ne.IRow w o s2.v := by
  obtain ⟨F, G, lo, hi, hB, h1, ⟨vv, rv, Ks, RS, h2, h3, _⟩, hd⟩ := h
  obtain ⟨o, c, hv, _⟩ := Rw.own_row Ne.encI_len h2.vals
  have hx := h2.vals
  subst hv
  exact ⟨o, c, rv, (fblk_cells h2.blk).1, h2.blk, Ne.own_irow hx⟩
set_option maxRecDepth 100000 in
set_option maxHeartbeats 16000000 in
theorem does_any {w : World} {B p q m : Nat} {s : St} (h : Pair w B p q s s m) (hm : m ≤ 800000) (a : Act) (ha : a.ok) :
    Calls Try.prog 13 #[.pointer (some ⟨p, 0, none⟩), .pointer (some ⟨q, 0, none⟩), .agg #[.int .i64 a.op, .int .i64 a.x, .int .i64 a.y, .int .i64 a.d]] w fun e w' =>
      ∃ v s', e = .returned (.tuple #[.bool true, v]) ∧ Pair w' B p q s' s' (m + 1) ∧ s'.v.length = s.v.length ∧ Below B w w' := by
  have hsm := h.good.1.small
  obtain ⟨b0, b1, b2, b3⟩ := ha
  unfold Ne.in64 at b0 b1 b2 b3
  have hba := (Below.refl w.heap.size w).alloc (Nat.le_refl _) (.cells #[.int .i64 a.op, .int .i64 a.x, .int .i64 a.y, .int .i64 a.d] 35)
  have HP := Lib.hid (h.kept hba)
  have HB1 := Lib.hid (hba.mono h.size)
  have hBW := Lib.hid h.size
  obtain ⟨n, hn⟩ : ∃ n, n = s.v.length := ⟨_, rfl⟩
  have HNN := Lib.hid hn
  rw [← hn] at hsm
  obtain ⟨o, c, rv, n0, _, _⟩ := pair_vals HP.out
  rw [← hn] at n0
  clear hn h hba
  have bpx := Ne.pickN_bd (c := a.x) (n := (n : Int) + 2) (by omega)
  have bpy := Ne.pickN_bd (c := a.y) (n := (n : Int) + 2) (by omega)
  have PX := Lib.hid fun w' => Ne.pick_any a.x ((n : Int) + 2) w' b1.1 b1.2 (by omega) (by omega)
  have PY := Lib.hid fun w' => Ne.pick_any a.y ((n : Int) + 2) w' b2.1 b2.2 (by omega) (by omega)
  have PO := Lib.hid fun w' => Ne.pick_any a.op 14 w' b0.1 b0.2 (by omega) (by omega)
  have bpo := Ne.pickN_bd (c := a.op) (n := 14) (by omega)
  have P5 := Lib.hid fun w' => Ne.pick_any a.y 5 w' b2.1 b2.2 (by omega) (by omega)
  have bp5 := Ne.pickN_bd (c := a.y) (n := 5) (by omega)
  generalize Ne.pickN a.x ((n : Int) + 2) = px at *
  generalize Ne.pickN a.y ((n : Int) + 2) = py at *
  generalize Ne.pickN a.op 14 = pk at *
  generalize Ne.pickN a.y 5 = p5 at *
  obtain ⟨X, hX⟩ : ∃ X, px - 1 = X := ⟨_, rfl⟩
  obtain ⟨Y, hY⟩ : ∃ Y, py - 1 = Y := ⟨_, rfl⟩
  have hXw : IntKind.i64.wrap X = X := by rw [IntKind.wrap_i64]; omega
  have hYw : IntKind.i64.wrap Y = Y := by rw [IntKind.wrap_i64]; omega
  have hn2 : IntKind.i64.wrap ((n : Int) + 2) = (n : Int) + 2 := by rw [IntKind.wrap_i64]; omega
  have hpk0 := bpo.1
  have hpk1 := bpo.2
  have hd5 := bp5.1
  clear bpx bpy bpo bp5 hsm
  generalize a.op = aop at *
  generalize a.x = ax at *
  generalize a.y = ay at *
  generalize a.d = ad at *
  have c1 : (w.alloc (.cells #[.int .i64 aop, .int .i64 ax, .int .i64 ay, .int .i64 ad] 35)).cell? ⟨w.heap.size, 0, none⟩ = some (.int .i64 aop) := World.cell?_alloc_new w _ _ 0
  have c2 : (w.alloc (.cells #[.int .i64 aop, .int .i64 ax, .int .i64 ay, .int .i64 ad] 35)).cell? ⟨w.heap.size, 1, none⟩ = some (.int .i64 ax) := World.cell?_alloc_new w _ _ 1
  have c3 : (w.alloc (.cells #[.int .i64 aop, .int .i64 ax, .int .i64 ay, .int .i64 ad] 35)).cell? ⟨w.heap.size, 2, none⟩ = some (.int .i64 ay) := World.cell?_alloc_new w _ _ 2
  have c4 : (w.alloc (.cells #[.int .i64 aop, .int .i64 ax, .int .i64 ay, .int .i64 ad] 35)).cell? ⟨w.heap.size, 3, none⟩ = some (.int .i64 ad) := World.cell?_alloc_new w _ _ 3
  go_enter Try.func13, Try.ntmps13
  go_upto_region 2 with fail
  generalize (w.alloc (.cells #[.int .i64 aop, .int .i64 ax, .int .i64 ay, .int .i64 ad] 35)) = W at *
  go_wp2_with fail
  refine (PX.out _).mono ?_
  rintro e w' ⟨rfl, rfl⟩
  go_wp2_with fail
  refine (PY.out _).mono ?_
  rintro e w' ⟨rfl, rfl⟩
  go_upto_region 4 with fail
  go_cut [11] (fun sl wc => (∃ bb : Bool, sl = .bool bb) ∧ W = wc)
  case first =>
    by_cases kx : 0 ≤ X
    · have kx' : decide (0 ≤ X) = true := by simpa using kx
      go_wp2_with fail
      go_meet
      case rel => exact ⟨⟨_, rfl⟩, rfl⟩
    · have kx' : decide (0 ≤ X) = false := by simpa using kx
      go_wp2_with fail
      go_meet
      case rel => exact ⟨⟨_, rfl⟩, rfl⟩
  case rest =>
  obtain ⟨⟨bb, rfl⟩, rfl⟩ := hcut
  go_wp2_with fail
  refine (PO.out _).mono ?_
  rintro e w' ⟨rfl, rfl⟩
  by_cases k4 : pk < 4
  · clear P5
    have q_join : ((joinE s X Y) == (joinE s X Y)) = true := by simp
    go_wp2_with fail
    refine (pair_join HP.out X Y).mono ?_
    rintro e w2 ⟨rfl, h2, hb⟩
    have HP2 := Lib.hid h2
    have HB2 := Lib.hid (HB1.out.trans (hb.mono (Nat.le_refl _)))
    clear h2 hb
    go_wp2_with fail
    refine (pair_rjoin HP2.out (by omega) X Y).mono ?_
    rintro e w3 ⟨rfl, h3, hb⟩
    have HP3 := Lib.hid h3
    have HB3 := Lib.hid (HB2.out.trans (hb.mono (Nat.le_refl _)))
    clear h3 hb
    rcases bb with _ | _
    · go_wp2
      go_ret2
      exact ⟨_, (joinS s X Y), rfl, HP3.out.grow (by omega), by rw [joinS_len], HB3.out⟩
    by_cases ky : 0 ≤ Y
    · have ky' : decide (0 ≤ Y) = true := by simpa using ky
      go_wp2
      go_ret2
      exact ⟨_, (joinS s X Y), rfl, HP3.out.grow (by omega), by rw [joinS_len], HB3.out⟩
    · have ky' : decide (0 ≤ Y) = false := by simpa using ky
      go_wp2
      go_ret2
      exact ⟨_, (joinS s X Y), rfl, HP3.out.grow (by omega), by rw [joinS_len], HB3.out⟩
  by_cases k6 : pk < 6
  · have n4 : ¬ pk < 4 := by omega
    clear k4 P5
    have q_split : ((splitE s X) == (splitE s X)) = true := by simp
    go_wp2_with fail
    refine (pair_split HP.out X).mono ?_
    rintro e w2 ⟨rfl, h2, hb⟩
    have HP2 := Lib.hid h2
    have HB2 := Lib.hid (HB1.out.trans (hb.mono (Nat.le_refl _)))
    clear h2 hb
    go_wp2_with fail
    refine (pair_rsplit HP2.out (by omega) X).mono ?_
    rintro e w3 ⟨rfl, h3, hb⟩
    have HP3 := Lib.hid h3
    have HB3 := Lib.hid (HB2.out.trans (hb.mono (Nat.le_refl _)))
    clear h3 hb
    go_wp2
    go_ret2
    exact ⟨_, (splitS s X), rfl, HP3.out, by rfl, HB3.out⟩
  by_cases k8 : pk < 8
  · have n4 : ¬ pk < 4 := by omega
    have n6 : ¬ pk < 6 := by omega
    clear k4 k6 P5
    go_wp2_with fail
    refine (pair_turn HP.out X).mono ?_
    rintro e w2 ⟨rfl, h2, hb⟩
    have HP2 := Lib.hid h2
    have HB2 := Lib.hid (HB1.out.trans (hb.mono (Nat.le_refl _)))
    clear h2 hb
    go_wp2_with fail
    refine (pair_rturn HP2.out (by omega) X).mono ?_
    rintro e w3 ⟨rfl, h3, hb⟩
    have HP3 := Lib.hid h3
    have HB3 := Lib.hid (HB2.out.trans (hb.mono (Nat.le_refl _)))
    clear h3 hb
    go_wp2
    go_ret2
    exact ⟨_, (turnS s X), rfl, HP3.out.grow (by omega), by rfl, HB3.out⟩
  by_cases k10 : pk < 10
  · have n4 : ¬ pk < 4 := by omega
    have n6 : ¬ pk < 6 := by omega
    have n8 : ¬ pk < 8 := by omega
    clear k4 k6 k8
    by_cases kd : 0 < p5
    · obtain ⟨DD, hDD0⟩ : ∃ DD, Int.tmod ad 10 = DD := ⟨_, rfl⟩
      have hdd : -9223372036854775808 ≤ DD ∧ DD ≤ 9223372036854775807 := by
        rw [← hDD0]
        rcases (show ad < 0 ∨ 0 ≤ ad by omega) with c | c
        · have h1 := Int.tmod_nonneg (b := 10) (a := -ad) (by omega)
          rw [Int.neg_tmod] at h1
          have h2 := Int.tmod_lt_of_pos (-ad) (b := 10) (by omega)
          have h3 : -10 < Int.tmod ad 10 := by rw [Int.neg_tmod] at h2; omega
          omega
        · have h1 := Int.tmod_nonneg (b := 10) (a := ad) c
          have h2 := Int.tmod_lt_of_pos ad (b := 10) (by omega)
          omega
      go_wp2_with fail
      refine (P5.out _).mono ?_
      rintro e w' ⟨rfl, rfl⟩
      have q_add : ((addE s X DD) == (addE s X DD)) = true := by simp
      go_wp2_with fail
      refine (pair_add HP.out X DD hdd).mono ?_
      rintro e w2 ⟨rfl, h2, hb⟩
      have HP2 := Lib.hid h2
      have HB2 := Lib.hid (HB1.out.trans (hb.mono (Nat.le_refl _)))
      clear h2 hb
      go_wp2_with fail
      refine (pair_radd HP2.out (by omega) X DD hdd).mono ?_
      rintro e w3 ⟨rfl, h3, hb⟩
      have HP3 := Lib.hid h3
      have HB3 := Lib.hid (HB2.out.trans (hb.mono (Nat.le_refl _)))
      clear h3 hb
      go_wp2
      go_ret2
      exact ⟨_, (addS s X DD), rfl, HP3.out.grow (by omega), by exact addS_len' _ _ _, HB3.out⟩
    · have kd2 : ¬ 0 < p5 := kd
      obtain ⟨DD, hDD0⟩ : ∃ DD, ad = DD := ⟨_, rfl⟩
      subst hDD0
      have hdd := b3
      go_wp2_with fail
      refine (P5.out _).mono ?_
      rintro e w' ⟨rfl, rfl⟩
      have q_add : ((addE s X ad) == (addE s X ad)) = true := by simp
      go_wp2_with fail
      refine (pair_add HP.out X ad hdd).mono ?_
      rintro e w2 ⟨rfl, h2, hb⟩
      have HP2 := Lib.hid h2
      have HB2 := Lib.hid (HB1.out.trans (hb.mono (Nat.le_refl _)))
      clear h2 hb
      go_wp2_with fail
      refine (pair_radd HP2.out (by omega) X ad hdd).mono ?_
      rintro e w3 ⟨rfl, h3, hb⟩
      have HP3 := Lib.hid h3
      have HB3 := Lib.hid (HB2.out.trans (hb.mono (Nat.le_refl _)))
      clear h3 hb
      go_wp2
      go_ret2
      exact ⟨_, (addS s X ad), rfl, HP3.out.grow (by omega), by exact addS_len' _ _ _, HB3.out⟩
  have n4 : ¬ pk < 4 := by omega
  have n6 : ¬ pk < 6 := by omega
  have n8 : ¬ pk < 8 := by omega
  have n10 : ¬ pk < 10 := by omega
  clear P5 k4 k6 k8 k10
  by_cases j10 : pk = 10
  · have m10 : (pk == 10) = true := by simpa using j10
    have q_least : ((leastZ s X) == (leastZ s X)) = true := by simp
    go_wp2_with fail
    refine (pair_least HP.out X).mono ?_
    rintro e w2 ⟨rfl, h2, hb⟩
    have HP2 := Lib.hid h2
    have HB2 := Lib.hid (HB1.out.trans (hb.mono (Nat.le_refl _)))
    clear h2 hb
    go_wp2_with fail
    refine (pair_rleast HP2.out (by omega) X).mono ?_
    rintro e w3 ⟨rfl, h3, hb⟩
    have HP3 := Lib.hid h3
    have HB3 := Lib.hid (HB2.out.trans (hb.mono (Nat.le_refl _)))
    clear h3 hb
    go_wp2
    go_ret2
    exact ⟨_, s, rfl, HP3.out.grow (by omega), by rfl, HB3.out⟩
  have m10 : (pk == 10) = false := by simpa using j10
  by_cases j11 : pk = 11
  · have m11 : (pk == 11) = true := by simpa using j11
    have q_first : ((firstZ s X) == (firstZ s X)) = true := by simp
    have q_last : ((lastZ s X) == (lastZ s X)) = true := by simp
    go_wp2_with fail
    refine (pair_first HP.out X).mono ?_
    rintro e w2 ⟨rfl, h2, hb⟩
    have HP2 := Lib.hid h2
    have HB2 := Lib.hid (HB1.out.trans (hb.mono (Nat.le_refl _)))
    clear h2 hb
    go_wp2_with fail
    refine (pair_rfirst HP2.out (by omega) X).mono ?_
    rintro e w' ⟨rfl, rfl⟩
    go_wp2_with fail
    refine (pair_last HP2.out X).mono ?_
    rintro e w3 ⟨rfl, h3, hb⟩
    have HP3 := Lib.hid h3
    have HB3 := Lib.hid (HB2.out.trans (hb.mono (Nat.le_refl _)))
    clear h3 hb
    go_wp2_with fail
    refine (pair_rlast HP3.out (by omega) X).mono ?_
    rintro e w' ⟨rfl, rfl⟩
    go_wp2
    go_ret2
    exact ⟨_, s, rfl, HP3.out.grow (by omega), by rfl, HB3.out⟩
  have m11 : (pk == 11) = false := by simpa using j11
  by_cases j12 : pk = 12
  · have m12 : (pk == 12) = true := by simpa using j12
    have q_place : ((placeZ s X) == (placeZ s X)) = true := by simp
    have q_at : ((atZ s X Y) == (atZ s X Y)) = true := by simp
    go_wp2_with fail
    refine (pair_place HP.out X).mono ?_
    rintro e w2 ⟨rfl, h2, hb⟩
    have HP2 := Lib.hid h2
    have HB2 := Lib.hid (HB1.out.trans (hb.mono (Nat.le_refl _)))
    clear h2 hb
    go_wp2_with fail
    refine (pair_rplace HP2.out (by omega) X).mono ?_
    rintro e w' ⟨rfl, rfl⟩
    go_wp2_with fail
    refine (pair_at HP2.out X Y).mono ?_
    rintro e w3 ⟨rfl, h3, hb⟩
    have HP3 := Lib.hid h3
    have HB3 := Lib.hid (HB2.out.trans (hb.mono (Nat.le_refl _)))
    clear h3 hb
    go_wp2_with fail
    refine (pair_rat HP3.out (by omega) X Y).mono ?_
    rintro e w' ⟨rfl, rfl⟩
    go_wp2
    go_ret2
    exact ⟨_, s, rfl, HP3.out.grow (by omega), by rfl, HB3.out⟩
  have m12 : (pk == 12) = false := by simpa using j12
  have q_value : ((valZ s X) == (valZ s X)) = true := by simp
  go_wp2_with fail
  refine (pair_value HP.out X).mono ?_
  rintro e w2 ⟨rfl, h2, hb⟩
  have HP2 := Lib.hid h2
  have HB2 := Lib.hid (HB1.out.trans (hb.mono (Nat.le_refl _)))
  clear h2 hb
  go_wp2_with fail
  refine (pair_rvalue HP2.out (by omega) X).mono ?_
  rintro e w' ⟨rfl, rfl⟩
  go_wp2
  go_ret2
  exact ⟨_, s, rfl, HP2.out.grow (by omega), by rfl, HB2.out⟩
end Sp
end Go.Proofs.Ytlkigpmjhojceaa
