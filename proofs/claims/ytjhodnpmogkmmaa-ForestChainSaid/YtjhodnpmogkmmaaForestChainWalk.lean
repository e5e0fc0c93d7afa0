/- ForestChain: for every input the law returns true and its arguments read as they did. No condition. -/
import Derived.Test.YtjhodnpmogkmmaaFlk
import Derived.Test.YtjhodnpmogkmmaaFlc
import Derived.Test.YtjhodnpmogkmmaaEnd
import Derived.Deep.LoopGhost
import Derived.Deep.DeepCutAuto
import Derived.Test.YtjhodnpmogkmmaaRows
import Derived.WalkKit
import Derived.ProofKit
import Derived.OpenShut
import Derived.ShutString
import Derived.ChangeOld
import Derived.Below
import Derived.Deep.Strs
namespace Go.Proofs.Ytjhodnpmogkmmaa.forestChain
open Go.ChangeShapes Go.WideShapes Go.ChangeAt Go.RowKit
open Go.ChangeMaps (open_string shut_string)
set_option linter.unusedVariables false
set_option linter.unusedSimpArgs false

theorem own : ownKnob Try.prog.godebug = none := by kernel_rfl
theorem laidOut : laidOutB Try.prog = true := by kernel_rfl

open Fo

set_option maxRecDepth 100000 in
set_option maxHeartbeats 4000000 in
theorem walk (a0 : Int) (a1 : Int) (w : World) (w0 : (Lit.int .i64 a0).wf = true) (w1 : (Lit.int .i64 a1).wf = true) :
    Calls Try.prog 8 #[.int .i64 a0, .int .i64 a1] w fun e w' => e = .returned (.bool true) ∧ Below w.heap.size w w' := by
  have HSH := Lib.hid (shown_any w)
  have b0 := bounds_i64 w0
  have b1 := bounds_i64 w1
  clear w0 w1
  have bpz0 := Ne.pickN_bd (c := a0) (n := 60) (by omega)
  have PN := Lib.hid fun w' => Ne.pick_any a0 60 w' b0.1 b0.2 (by omega) (by omega)
  generalize Ne.pickN a0 60 = z0 at *
  obtain ⟨n, hn⟩ : ∃ n : Nat, 2 + z0 = (n : Int) := ⟨(2 + z0).toNat, by omega⟩
  have hn2 : 2 ≤ n := by omega
  have hnm : n ≤ 61 := by omega
  have hz0 : 0 ≤ z0 := bpz0.1
  have hz1 : z0 < 60 := bpz0.2
  clear b0 bpz0
  have bpX := Ne.pickN_bd (c := a1) (n := (n : Int)) (by omega)
  have PK := Lib.hid fun w' => Ne.pick_any a1 (n : Int) w' b1.1 b1.2 (by omega) (by omega)
  generalize Ne.pickN a1 (n : Int) = X at *
  obtain ⟨k, hk⟩ : ∃ k : Nat, X = (k : Int) := ⟨X.toNat, by omega⟩
  subst hk
  have hkn : k < n := by omega
  clear b1 bpX
  have NW := Lib.hid (fun w' : World => hd_zero n (by omega) w')
  have hmk := Ne.make_l n (by omega)
  go_enter Try.func8, Try.ntmps8
  go_wp2_with fail
  refine HSH.out.mono ?_
  rintro e w1 ⟨rfl, hb⟩
  have HB1 := Lib.hid hb
  clear hb HSH
  go_wp2_with fail
  refine (PN.out _).mono ?_
  rintro e w' ⟨rfl, rfl⟩
  go_wp2_with fail
  refine (NW.out w1).mono ?_
  rintro e w2 ⟨p, rfl, h2, hb⟩
  have HB2 := Lib.hid (HB1.out.trans (hb.mono HB1.out.size))
  have H2 := Lib.hid h2
  have hbs : w.heap.size ≤ w1.heap.size + 1 := by have := HB1.out.size; omega
  clear hb h2 NW hmk PN HB1
  generalize w1.heap.size + 1 = b at *
  have HS1 := Lib.hid (show Hd w2 b p (chF n 0) [] by rw [← chF_0]; exact H2.out)
  clear H2
  go_wp2
  go_loopg [9] (n - 1) (fun gg si wz => ∃ i : Nat, si = .int .i64 i ∧ i + 1 + gg = n ∧ Hid (Hd wz b p (chF n i) []) ∧ Hid (Below w.heap.size w wz))
  case atStart => exact ⟨0, rfl, by omega, HS1, HB2⟩
  case round =>
    obtain ⟨i, rfl, hig, HW, HBX⟩ := hrel
    have hw1 : IntKind.i64.wrap ((i : Int) + 1) = ((i + 1 : Nat) : Int) := by rw [IntKind.wrap_i64]; omega
    by_cases hi : i + 1 < n
    · have hii : ((i + 1 : Nat) : Int) < (n : Int) := by omega
      obtain ⟨l1, l2⟩ := ch_link HW.out.good hi
      have hg2 : Fo.Good (chF n (i + 1)) := by rw [← l2]; exact good_linkS HW.out.good _ _
      obtain ⟨l3, l4⟩ := ch_same hg2 hi
      clear hg2
      go_wp2_with fail
      refine (hd_link HW.out (i : Int) ((i + 1 : Nat) : Int)).mono ?_
      rintro e w21 ⟨he, h21, k21⟩
      rw [l1] at he
      rw [l2] at h21
      subst he
      have H21 := Lib.hid h21
      have HB21 := Lib.hid (HBX.out.trans ((k21.below HW.out.size).mono hbs))
      clear h21 k21
      go_wp2_with fail
      refine (hd_link H21.out ((i + 1 : Nat) : Int) (i : Int)).mono ?_
      rintro e w22 ⟨he, h22, k22⟩
      rw [l3] at he
      rw [l4] at h22
      subst he
      have H22 := Lib.hid h22
      have HB22 := Lib.hid (HB21.out.trans ((k22.below H21.out.size).mono hbs))
      clear h22 k22
      clear l1 l2 l3 l4
      go_wp2
      go_roundg (n - (i + 1 + 1))
      case measure => omega
      case rel => exact ⟨i + 1, by rfl, by omega, H22, HB22⟩
    · have hii : ¬ ((i + 1 : Nat) : Int) < (n : Int) := by omega
      have hin : n ≤ i + 1 := by omega
      have hin2 : i + 1 ≤ n := by omega
      have hei : i = n - 1 := by omega
      have HWN := Lib.hid (show Hd wr b p (chF n (n - 1)) [] from by rw [← hei]; exact HW.out)
      have hkz := hkn
      obtain ⟨v1, v2⟩ := ch_evert HWN.out.good hkn
      have hev : Fo.Good (chE n k) := by rw [← v2]; exact good_evertS HWN.out.good _
      have HSAY := Lib.hid (fun (x : Nat) (hx : x < n) => che_says hev hkn hx)
      have hp0 := ch_path HWN.out.good (by omega) (n - 1) 0 (by omega)
      have hpl : (path (chF n (n - 1)) 0).length = n := by rw [hp0]; simp; omega
      have HPA := Lib.hid (show ∀ j, j < n → (path (chF n (n - 1)) 0)[j]? = some (n - 1 - j) from fun j hj => by
        rw [hp0, List.getElem?_map, List.getElem?_range (by omega)]; rfl)
      have PTH := Lib.hid (show Calls Try.prog 16 #[.pointer (some ⟨p, 0, none⟩), .int .i64 0] wr fun e w' => ∃ g c, e = .returned (.slice (some ⟨g, 0, none⟩) n c) ∧ Ne.OwnI w' b (.slice (some ⟨g, 0, none⟩) n c) (Ne.encW (path (chF n (n - 1)) 0)) ∧ Hd w' b p (chF n (n - 1)) [g] ∧ Kp [] b wr w' from by
        have := hd_path HWN.out (v := 0) (by rw [chF_len]; omega)
        rw [hpl] at this
        exact this)
      have HV1 := Lib.hid v1
      have HV2 := Lib.hid v2
      generalize path (chF n (n - 1)) 0 = l at *
      generalize chF n (n - 1) = fc at *
      have HPL := Lib.hid hpl
      clear hig HS1 HB2 HW hei hin hin2 v1 v2 hev hp0 hpl hi
      go_wp2_with fail
      refine (PK.out _).mono ?_
      rintro e w' ⟨rfl, rfl⟩
      go_wp2_with fail
      refine PTH.out.mono ?_
      rintro e w9 ⟨gp, cp, rfl, ho, h9, k9⟩
      have H9 := Lib.hid h9
      have RP := Lib.hid ho
      have HB9 := Lib.hid (HBX.out.trans ((k9.below HWN.out.size).mono hbs))
      clear ho h9 k9 PTH
      go_wp2
      go_loopg [12] n (fun gg si wz => ∃ i : Nat, si = .int .i64 i ∧ i + gg = n ∧ w9 = wz)
      case atStart => exact ⟨0, rfl, by omega, rfl⟩
      case round =>
        obtain ⟨i, rfl, hig, rfl⟩ := hrel
        by_cases hi : i < n
        · have hii : (i : Int) < (n : Int) := by omega
          have hi0 : (0 : Int) ≤ (i : Int) := by omega
          obtain ⟨bq, oq, e, _, hc⟩ := Ne.irow_cell (Ne.own_irow RP.out) (i := i) (by rw [Ne.encW_len, HPL.out]; exact hi)
          cases e
          rw [Ne.encW_at (by rw [HPL.out]; exact hi), Nat.zero_add, List.getD_eq_getElem?_getD, HPA.out i hi, Option.getD_some] at hc
          obtain ⟨qq, hqq⟩ : ∃ qq, qq = n - 1 - i := ⟨_, rfl⟩
          rw [← hqq] at hc
          obtain ⟨n1, hn1⟩ : ∃ n1, n1 = n - 1 := ⟨_, rfl⟩
          have hw2 : IntKind.i64.wrap ((n : Int) - 1) = (n1 : Int) := by rw [IntKind.wrap_i64]; omega
          have hw3 : IntKind.i64.wrap ((n1 : Int) - (i : Int)) = (qq : Int) := by rw [IntKind.wrap_i64]; omega
          have tq : ((qq : Int) != (qq : Int)) = false := by simp
          have tn : ((n : Int) != (n : Int)) = false := by simp
          have hw4 : IntKind.i64.wrap ((i : Int) + 1) = ((i + 1 : Nat) : Int) := by rw [IntKind.wrap_i64]; omega
          clear hqq hn1
          go_wp2
          go_roundg (n - (i + 1))
          case measure => omega
          case rel => exact ⟨i + 1, by rfl, by omega, rfl⟩
        · have hni : ¬ (i : Int) < (n : Int) := by omega
          clear hig
          have H10 := Lib.hid (H9.out.less (K2 := []) (fun x hx => by simp at hx))
          go_wp2_with fail
          refine (hd_evert H10.out (k : Int)).mono ?_
          rintro e w23 ⟨he, h23, k23⟩
          rw [HV1.out] at he
          rw [HV2.out] at h23
          subst he
          have H23 := Lib.hid h23
          have HB23 := Lib.hid (HB9.out.trans ((k23.below H10.out.size).mono hbs))
          clear h23 k23
          go_wp2
          go_loopg [13] n (fun gg si wz => ∃ i : Nat, si = .int .i64 i ∧ i + gg = n ∧ Hid (Hd wz b p (chE n k) []) ∧ Hid (Below w.heap.size w wz))
          case atStart => exact ⟨0, rfl, by omega, H23, HB23⟩
          case round =>
            obtain ⟨i, rfl, hig, HW, HBX⟩ := hrel
            by_cases hi : i < n
            · have hii : (i : Int) < (n : Int) := by omega
              have hw4 : IntKind.i64.wrap ((i : Int) + 1) = ((i + 1 : Nat) : Int) := by rw [IntKind.wrap_i64]; omega
              obtain ⟨a0', a1'⟩ := HSAY.out i hi
              have tk : ((k : Int) != (k : Int)) = false := by simp
              have PT := Lib.hid (hd_path HW.out (v := i) (by rw [chE_len]; exact hi))
              rcases a1' with ⟨c1, c2, c3⟩ | ⟨c1, c2, c3⟩ | ⟨c1, c2, c3⟩
              · have q1 : (i : Int) < (k : Int) := by omega
                have q2 : ¬ (k : Int) < (i : Int) := by omega
                obtain ⟨d, hd⟩ : ∃ d, d = k - i := ⟨_, rfl⟩
                rw [← hd] at c3
                obtain ⟨fr, hfr⟩ : ∃ fr : Int, fr = -(d : Int) := ⟨_, rfl⟩
                have q3 : IntKind.i64.wrap ((i : Int) - (k : Int)) = fr := by rw [IntKind.wrap_i64]; omega
                have q4 : fr < 0 := by omega
                have q5 : IntKind.i64.wrap (-fr) = (d : Int) := by rw [IntKind.wrap_i64]; omega
                have q6 : IntKind.i64.wrap ((d : Int) + 1) = ((d + 1 : Nat) : Int) := by rw [IntKind.wrap_i64]; omega
                have t1 : (((i + 1 : Nat) : Int) != ((i + 1 : Nat) : Int)) = false := by simp
                have t2 : (((d + 1 : Nat) : Int) != ((d + 1 : Nat) : Int)) = false := by simp
                clear hd hfr c1
                rw [c3] at PT
                go_wp2_with fail
                refine (hd_above HW.out (i : Int)).mono ?_
                rintro e w24 ⟨he, h24, k24⟩
                rw [c2] at he
                subst he
                have H24 := Lib.hid h24
                have HB24 := Lib.hid (HBX.out.trans ((k24.below HW.out.size).mono hbs))
                clear h24 k24
                have PT2 := hd_path H24.out (v := i) (by rw [chE_len]; exact hi)
                rw [c3] at PT2
                have PT3 := Lib.hid PT2
                clear PT2 PT
                go_wp2_with fail
                refine PT3.out.mono ?_
                rintro e w11 ⟨gp, cp, rfl, ho, h11, k11⟩
                have H11 := Lib.hid (h11.less (K2 := []) (fun x hx => by simp at hx))
                have HB11 := Lib.hid (HB24.out.trans ((k11.below H24.out.size).mono hbs))
                clear ho h11 k11 PT3
                go_wp2_with fail
                refine (hd_root H11.out (i : Int)).mono ?_
                rintro e w25 ⟨he, h25, k25⟩
                rw [a0'] at he
                subst he
                have H25 := Lib.hid h25
                have HB25 := Lib.hid (HB11.out.trans ((k25.below H11.out.size).mono hbs))
                clear h25 k25
                clear c2 c3
                go_wp2
                go_roundg (n - (i + 1))
                case measure => omega
                case rel => exact ⟨i + 1, by rfl, by omega, H25, HB25⟩
              · subst c1
                have t2 : ((1 : Int) != (1 : Int)) = false := by simp
                rw [c3] at PT
                go_wp2_with fail
                refine (hd_above HW.out (i : Int)).mono ?_
                rintro e w24 ⟨he, h24, k24⟩
                rw [c2] at he
                subst he
                have H24 := Lib.hid h24
                have HB24 := Lib.hid (HBX.out.trans ((k24.below HW.out.size).mono hbs))
                clear h24 k24
                have PT2 := hd_path H24.out (v := i) (by rw [chE_len]; exact hi)
                rw [c3] at PT2
                have PT3 := Lib.hid PT2
                clear PT2 PT
                go_wp2_with fail
                refine PT3.out.mono ?_
                rintro e w11 ⟨gp, cp, rfl, ho, h11, k11⟩
                have H11 := Lib.hid (h11.less (K2 := []) (fun x hx => by simp at hx))
                have HB11 := Lib.hid (HB24.out.trans ((k11.below H24.out.size).mono hbs))
                clear ho h11 k11 PT3
                go_wp2_with fail
                refine (hd_root H11.out (i : Int)).mono ?_
                rintro e w25 ⟨he, h25, k25⟩
                rw [a0'] at he
                subst he
                have H25 := Lib.hid h25
                have HB25 := Lib.hid (HB11.out.trans ((k25.below H11.out.size).mono hbs))
                clear h25 k25
                clear c2 c3
                go_wp2
                go_roundg (n - (i + 1))
                case measure => omega
                case rel => exact ⟨i + 1, by rfl, by omega, H25, HB25⟩
              · have q1 : ¬ (i : Int) < (k : Int) := by omega
                have q2 : (k : Int) < (i : Int) := by omega
                obtain ⟨d, hd⟩ : ∃ d, d = i - k := ⟨_, rfl⟩
                rw [← hd] at c3
                obtain ⟨i1, hi1⟩ : ∃ i1, i1 = i - 1 := ⟨_, rfl⟩
                rw [← hi1] at c2
                have q3 : IntKind.i64.wrap ((i : Int) - (k : Int)) = (d : Int) := by rw [IntKind.wrap_i64]; omega
                have q4 : ¬ (d : Int) < 0 := by omega
                have q5 : IntKind.i64.wrap ((i : Int) - 1) = (i1 : Int) := by rw [IntKind.wrap_i64]; omega
                have q6 : IntKind.i64.wrap ((d : Int) + 1) = ((d + 1 : Nat) : Int) := by rw [IntKind.wrap_i64]; omega
                have t1 : ((i1 : Int) != (i1 : Int)) = false := by simp
                have t2 : (((d + 1 : Nat) : Int) != ((d + 1 : Nat) : Int)) = false := by simp
                clear hd hi1 c1
                rw [c3] at PT
                go_wp2_with fail
                refine (hd_above HW.out (i : Int)).mono ?_
                rintro e w24 ⟨he, h24, k24⟩
                rw [c2] at he
                subst he
                have H24 := Lib.hid h24
                have HB24 := Lib.hid (HBX.out.trans ((k24.below HW.out.size).mono hbs))
                clear h24 k24
                have PT2 := hd_path H24.out (v := i) (by rw [chE_len]; exact hi)
                rw [c3] at PT2
                have PT3 := Lib.hid PT2
                clear PT2 PT
                go_wp2_with fail
                refine PT3.out.mono ?_
                rintro e w11 ⟨gp, cp, rfl, ho, h11, k11⟩
                have H11 := Lib.hid (h11.less (K2 := []) (fun x hx => by simp at hx))
                have HB11 := Lib.hid (HB24.out.trans ((k11.below H24.out.size).mono hbs))
                clear ho h11 k11 PT3
                go_wp2_with fail
                refine (hd_root H11.out (i : Int)).mono ?_
                rintro e w25 ⟨he, h25, k25⟩
                rw [a0'] at he
                subst he
                have H25 := Lib.hid h25
                have HB25 := Lib.hid (HB11.out.trans ((k25.below H11.out.size).mono hbs))
                clear h25 k25
                clear c2 c3
                go_wp2
                go_roundg (n - (i + 1))
                case measure => omega
                case rel => exact ⟨i + 1, by rfl, by omega, H25, HB25⟩
            · go_wp2
              go_ret
              exact ⟨rfl, HBX.out⟩

end Go.Proofs.Ytjhodnpmogkmmaa.forestChain
