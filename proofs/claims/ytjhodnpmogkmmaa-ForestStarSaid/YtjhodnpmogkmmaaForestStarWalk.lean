/- ForestStar: for every input the law returns true and its arguments read as they did. No condition. -/
import Derived.Test.YtjhodnpmogkmmaaFlk
import Derived.Test.YtjhodnpmogkmmaaFlc
import Derived.Test.YtjhodnpmogkmmaaEnd
import Derived.Deep.LoopGhost
import Derived.Deep.DeepCutAuto
import Derived.Test.YtjhodnpmogkmmaaSamei
import Derived.Test.YtjhodnpmogkmmaaRows
import Derived.WalkKit
import Derived.ProofKit
import Derived.OpenShut
import Derived.ShutString
import Derived.ChangeOld
import Derived.Below
import Derived.Deep.Strs
namespace Go.Proofs.Ytjhodnpmogkmmaa.forestStar
open Go.ChangeShapes Go.WideShapes Go.ChangeAt Go.RowKit
open Go.ChangeMaps (open_string shut_string)
set_option linter.unusedVariables false
set_option linter.unusedSimpArgs false

theorem own : ownKnob Try.prog.godebug = none := by kernel_rfl
theorem laidOut : laidOutB Try.prog = true := by kernel_rfl

open Fo

set_option maxRecDepth 100000 in
set_option maxHeartbeats 4000000 in
theorem walk (a0 : Int) (a1 : Int) (w : World) (w0 : (Lit.int .i64 a0).wf = true) (w1 : (Lit.int .i64 a1).wf = true) :
    Calls Try.prog 7 #[.int .i64 a0, .int .i64 a1] w fun e w' => e = .returned (.bool true) ∧ Below w.heap.size w w' := by
  have HSH := Lib.hid (shown_any w)
  have b0 := bounds_i64 w0
  have b1 := bounds_i64 w1
  clear w0 w1
  have bpz0 := Ne.pickN_bd (c := a0) (n := 40) (by omega)
  have PN := Lib.hid fun w' => Ne.pick_any a0 40 w' b0.1 b0.2 (by omega) (by omega)
  generalize Ne.pickN a0 40 = z0 at *
  obtain ⟨n, hn⟩ : ∃ n : Nat, 2 + z0 = (n : Int) := ⟨(2 + z0).toNat, by omega⟩
  have hn2 : 2 ≤ n := by omega
  have hnm : n ≤ 41 := by omega
  have hz0 : 0 ≤ z0 := bpz0.1
  have hz1 : z0 < 40 := bpz0.2
  clear b0 bpz0
  obtain ⟨n1, hn1⟩ : ∃ n1 : Nat, n = n1 + 1 := ⟨n - 1, by omega⟩
  have hnw : IntKind.i64.wrap ((n : Int) - 1) = (n1 : Int) := by rw [IntKind.wrap_i64]; omega
  have hn11 : n ≤ n1 + 1 := by omega
  have hn12 : n1 + 1 ≤ n := by omega
  clear hn1
  have bpX := Ne.pickN_bd (c := a1) (n := (n1 : Int)) (by omega)
  have PK := Lib.hid fun w' => Ne.pick_any a1 (n1 : Int) w' b1.1 b1.2 (by omega) (by omega)
  generalize Ne.pickN a1 (n1 : Int) = X at *
  obtain ⟨k, hk⟩ : ∃ k : Nat, 1 + X = (k : Int) := ⟨(1 + X).toNat, by omega⟩
  have hkn : k < n := by omega
  have hk1 : 1 ≤ k := by omega
  clear b1 bpX
  have NW := Lib.hid (fun w' : World => hd_zero n (by omega) w')
  have hmk := Ne.make_l n (by omega)
  go_enter Try.func7, Try.ntmps7
  go_wp2_with fail
  refine HSH.out.mono ?_
  rintro e w1 ⟨rfl, hb⟩
  have HB1 := Lib.hid hb
  clear hb HSH
  go_wp2_with fail
  refine (PN.out _).mono ?_
  rintro e w' ⟨rfl, rfl⟩
  go_wp2_with fail
  refine (NW.out w1).mono ?_
  rintro e w2 ⟨p, rfl, h2, hb⟩
  have HB2 := Lib.hid (HB1.out.trans (hb.mono HB1.out.size))
  have H2 := Lib.hid h2
  have hbs : w.heap.size ≤ w1.heap.size + 1 := by have := HB1.out.size; omega
  clear hb h2 NW hmk PN HB1
  generalize w1.heap.size + 1 = b at *
  have HS1 := Lib.hid (show Hd w2 b p (stF n 1) [] by rw [← stF_1]; exact H2.out)
  clear H2
  go_wp2
  go_loopg [9] (n - 1) (fun gg si wz => ∃ i : Nat, si = .int .i64 i ∧ 1 ≤ i ∧ i + gg = n ∧ Hid (Hd wz b p (stF n i) []) ∧ Hid (Below w.heap.size w wz))
  case atStart => exact ⟨1, rfl, Nat.le_refl _, by omega, HS1, HB2⟩
  case round =>
    obtain ⟨i, rfl, hi1, hig, HW, HBX⟩ := hrel
    by_cases hi : i < n
    · have hii : (i : Int) < (n : Int) := by omega
      obtain ⟨l1, l2⟩ := st_link HW.out.good hi1 hi
      go_wp2_with fail
      refine (hd_link HW.out (i : Int) 0).mono ?_
      rintro e w21 ⟨he, h21, k21⟩
      rw [l1] at he
      rw [l2] at h21
      subst he
      have H21 := Lib.hid h21
      have HB21 := Lib.hid (HBX.out.trans ((k21.below HW.out.size).mono hbs))
      clear h21 k21
      go_wp2
      go_roundg (n - (i + 1))
      case measure => omega
      case rel => exact ⟨i + 1, by go_num, by omega, by omega, H21, HB21⟩
    · have ei : i = n := by omega
      subst i
      clear hig HS1 HB2
      obtain ⟨v1, v2⟩ := st_evert HW.out.good hk1 hkn
      have hev : Fo.Good (stE n k 0) := by rw [← v2]; exact good_evertS HW.out.good _
      obtain ⟨s1, s2, s3, s4⟩ := ste_says hev hk1 hkn
      have HSAY := Lib.hid s4
      have tk : ((k : Int) != (k : Int)) = false := by simp
      clear s4 hev
      go_wp2_with fail
      refine (PK.out _).mono ?_
      rintro e w' ⟨rfl, rfl⟩
      go_wp2_with fail
      refine (hd_evert HW.out (k : Int)).mono ?_
      rintro e w22 ⟨he, h22, k22⟩
      rw [v1] at he
      rw [v2] at h22
      subst he
      have H22 := Lib.hid h22
      have HB22 := Lib.hid (HBX.out.trans ((k22.below HW.out.size).mono hbs))
      clear h22 k22
      go_wp2_with fail
      refine (hd_above H22.out 0).mono ?_
      rintro e w23 ⟨he, h23, k23⟩
      rw [s1] at he
      subst he
      have H23 := Lib.hid h23
      have HB23 := Lib.hid (HB22.out.trans ((k23.below H22.out.size).mono hbs))
      clear h23 k23
      go_wp2_with fail
      refine (hd_above H23.out (k : Int)).mono ?_
      rintro e w24 ⟨he, h24, k24⟩
      rw [s2] at he
      subst he
      have H24 := Lib.hid h24
      have HB24 := Lib.hid (HB23.out.trans ((k24.below H23.out.size).mono hbs))
      clear h24 k24
      go_wp2
      go_loopg [11] (n - 1) (fun gg si wz => ∃ i : Nat, si = .int .i64 i ∧ 1 ≤ i ∧ i + gg = n ∧ Hid (Hd wz b p (stE n k 0) []) ∧ Hid (Below w.heap.size w wz))
      case atStart => exact ⟨1, rfl, Nat.le_refl _, by omega, H24, HB24⟩
      case round =>
        obtain ⟨i, rfl, hi1, hig, HW, HBX⟩ := hrel
        by_cases hi : i < n
        · have hii : (i : Int) < (n : Int) := by omega
          by_cases hik : i = k
          · subst i
            go_wp2_with fail
            refine (hd_root HW.out (k : Int)).mono ?_
            rintro e w25 ⟨he, h25, k25⟩
            rw [s3] at he
            subst he
            have H25 := Lib.hid h25
            have HB25 := Lib.hid (HBX.out.trans ((k25.below HW.out.size).mono hbs))
            clear h25 k25
            go_wp2
            go_roundg (n - (k + 1))
            case measure => omega
            case rel => exact ⟨k + 1, by go_num, by omega, by omega, H25, HB25⟩
          · have tik : ((i : Int) != (k : Int)) = true := by simp; omega
            obtain ⟨a1', a2', a3'⟩ := HSAY.out i hi1 hi hik
            go_wp2_with fail
            refine (hd_above HW.out (i : Int)).mono ?_
            rintro e w26 ⟨he, h26, k26⟩
            rw [a1'] at he
            subst he
            have H26 := Lib.hid h26
            have HB26 := Lib.hid (HBX.out.trans ((k26.below HW.out.size).mono hbs))
            clear h26 k26
            have PTH := Lib.hid (hd_path H26.out (v := i) (by rw [stE_len]; exact hi))
            rw [a2'] at PTH
            go_wp2_with fail
            refine PTH.out.mono ?_
            rintro e w9 ⟨gp, cp, rfl, ho, h9, k9⟩
            have H9 := Lib.hid (h9.less (K2 := []) (fun x hx => by simp at hx))
            have HB9 := Lib.hid (HB26.out.trans ((k9.below H26.out.size).mono hbs))
            have HI := Lib.hid ((Ne.own_irow ho).kept ((Below.refl _ _).alloc (Nat.le_refl _) (.cells #[.int .i64 (k : Int), .int .i64 0, .int .i64 (i : Int)] 3)))
            have HBA := Lib.hid (HB9.out.alloc HB9.out.size (.cells #[.int .i64 (k : Int), .int .i64 0, .int .i64 (i : Int)] 3))
            have HWA := Lib.hid (H9.out.kept ((Below.refl _ _).alloc (Nat.le_refl _) (.cells #[.int .i64 (k : Int), .int .i64 0, .int .i64 (i : Int)] 3)))
            have HR3 := Lib.hid (row_three w9 rfl (k : Int) 0 (i : Int) 3)
            have SM := Lib.hid (Ne.same_any (some ⟨gp, 0, none⟩) (some ⟨w9.heap.size, 0, none⟩) cp 3 (Ne.encW [k, 0, i]) [(k : Int), 0, (i : Int)] _ HI.out HR3.out (by simp [Ne.encW]) (by simp))
            rw [show decide (Ne.encW [k, 0, i] = [(k : Int), 0, (i : Int)]) = true by simp [Ne.encW]] at SM
            clear h9 k9 ho PTH
            go_wp2_with fail
            refine SM.out.mono ?_
            rintro e w10 ⟨rfl, hb⟩
            have H10 := Lib.hid (HWA.out.kept hb)
            have HB10 := Lib.hid (HBA.out.trans (hb.mono HBA.out.size))
            clear hb SM
            go_wp2_with fail
            refine (hd_root H10.out (i : Int)).mono ?_
            rintro e w27 ⟨he, h27, k27⟩
            rw [a3'] at he
            subst he
            have H27 := Lib.hid h27
            have HB27 := Lib.hid (HB10.out.trans ((k27.below H10.out.size).mono hbs))
            clear h27 k27
            go_wp2
            go_roundg (n - (i + 1))
            case measure => omega
            case rel => exact ⟨i + 1, by go_num, by omega, by omega, H27, HB27⟩
        · have ei : i = n := by omega
          subst i
          clear hig
          go_wp2
          go_loopg [12] n (fun gg si wz => ∃ i : Nat, si = .int .i64 i ∧ i + gg = n ∧ Hid (Hd wz b p (stE n k i) []) ∧ Hid (Below w.heap.size w wz))
          case atStart => exact ⟨0, rfl, by omega, HW, HBX⟩
          case round =>
            obtain ⟨i, rfl, hig, HW, HBX⟩ := hrel
            by_cases hi : i < n
            · have hii : (i : Int) < (n : Int) := by omega
              obtain ⟨c1, c2⟩ := ste_cut HW.out.good hk1 hkn hi
              have hg2 : Fo.Good (stE n k (i + 1)) := by rw [← c2]; exact good_cutS HW.out.good _
              have hrt := ste_root hg2 hi
              clear hg2
              have tii : ((i : Int) != (i : Int)) = false := by simp
              by_cases hik : i = k
              · rw [if_pos hik] at c1
                have tik : ((i : Int) != (k : Int)) = false := by simp; omega
                clear hik
                go_wp2_with fail
                refine (hd_cut HW.out (i : Int)).mono ?_
                rintro e w28 ⟨he, h28, k28⟩
                rw [c1] at he
                rw [c2] at h28
                subst he
                have H28 := Lib.hid h28
                have HB28 := Lib.hid (HBX.out.trans ((k28.below HW.out.size).mono hbs))
                clear h28 k28
                go_wp2_with fail
                refine (hd_root H28.out (i : Int)).mono ?_
                rintro e w29 ⟨he, h29, k29⟩
                rw [hrt] at he
                subst he
                have H29 := Lib.hid h29
                have HB29 := Lib.hid (HB28.out.trans ((k29.below H28.out.size).mono hbs))
                clear h29 k29
                go_wp2
                go_roundg (n - (i + 1))
                case measure => omega
                case rel => exact ⟨i + 1, by go_num, by omega, H29, HB29⟩
              · rw [if_neg hik] at c1
                have tik : ((i : Int) != (k : Int)) = true := by simp; omega
                clear hik
                go_wp2_with fail
                refine (hd_cut HW.out (i : Int)).mono ?_
                rintro e w28 ⟨he, h28, k28⟩
                rw [c1] at he
                rw [c2] at h28
                subst he
                have H28 := Lib.hid h28
                have HB28 := Lib.hid (HBX.out.trans ((k28.below HW.out.size).mono hbs))
                clear h28 k28
                go_wp2_with fail
                refine (hd_root H28.out (i : Int)).mono ?_
                rintro e w29 ⟨he, h29, k29⟩
                rw [hrt] at he
                subst he
                have H29 := Lib.hid h29
                have HB29 := Lib.hid (HB28.out.trans ((k29.below H28.out.size).mono hbs))
                clear h29 k29
                go_wp2
                go_roundg (n - (i + 1))
                case measure => omega
                case rel => exact ⟨i + 1, by go_num, by omega, H29, HB29⟩
            · have ei : i = n := by omega
              subst i
              have hll := ste_last HW.out.good hk1 hkn
              go_wp2_with fail
              refine (hd_link HW.out 0 (k : Int)).mono ?_
              rintro e w30 ⟨he, h30, k30⟩
              rw [hll] at he
              subst he
              have H30 := Lib.hid h30
              have HB30 := Lib.hid (HBX.out.trans ((k30.below HW.out.size).mono hbs))
              clear h30 k30
              go_wp2
              go_ret
              exact ⟨rfl, HB30.out⟩

end Go.Proofs.Ytjhodnpmogkmmaa.forestStar
