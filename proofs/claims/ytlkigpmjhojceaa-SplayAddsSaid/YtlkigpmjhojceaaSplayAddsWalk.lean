/- SplayAdds: for every input the law returns true and its arguments read as they did. No condition. -/
import Derived.Test.YtlkigpmjhojceaaSps
import Derived.Test.YtlkigpmjhojceaaSpj
import Derived.Deep.LoopGhost
import Derived.Deep.DeepCutAuto
import Derived.Test.YtlkigpmjhojceaaRows
import Derived.WalkKit
import Derived.ProofKit
import Derived.OpenShut
import Derived.ShutString
import Derived.ChangeOld
import Derived.Below
import Derived.Deep.Strs
namespace Go.Proofs.Ytlkigpmjhojceaa.splayAdds
open Go.ChangeShapes Go.WideShapes Go.ChangeAt Go.RowKit
open Go.ChangeMaps (open_string shut_string)
set_option linter.unusedVariables false
set_option linter.unusedSimpArgs false

theorem own : ownKnob Try.prog.godebug = none := by kernel_rfl
theorem laidOut : laidOutB Try.prog = true := by kernel_rfl

def IntsIn (k : IntKind) (w : World) (a : Option Addr) (len cap : Nat) (zs : List Int) : Prop :=
  (a = none ∧ len = 0 ∧ cap = 0 ∧ zs = []) ∨
  ∃ x, a = some x ∧ len ≤ cap ∧ cap ≤ maxLen ∧ zs.length = cap ∧ (∀ i, i < zs.length → w.cell? (x.add i) = some (.int k (zs.getD i 0))) ∧ ∀ n ∈ zs, (Lit.int k n).wf = true

open Sp

set_option maxRecDepth 100000 in
set_option maxHeartbeats 4000000 in
theorem walk (a0 : Option Addr) (len0 cap0 : Nat) (l0 : List Int) (a1 : Int) (a2 : Int) (a3 : Int) (w : World) (w0 : IntsIn .i64 w a0 len0 cap0 l0) (w1 : (Lit.int .i64 a1).wf = true) (w2 : (Lit.int .i64 a2).wf = true) (w3 : (Lit.int .i64 a3).wf = true) :
    Calls Try.prog 7 #[.slice a0 len0 cap0, .int .i64 a1, .int .i64 a2, .int .i64 a3] w fun e w' => e = .returned (.bool true) ∧ Below w.heap.size w w' := by
  have HSH := Lib.hid (shown_any w)
  obtain ⟨vs, hk0, hq0, bq0, hcc, hcm, hnone⟩ := Ne.ints_row w0
  subst hk0
  clear w0
  have KR0 := Lib.hid hq0
  have HNO := Lib.hid hnone
  clear hq0 hnone bq0
  have b1 := bounds_i64 w1
  have b2 := bounds_i64 w2
  have b3 := bounds_i64 w3
  clear w1 w2 w3
  obtain ⟨n, hn⟩ : ∃ n, n = vs.length := ⟨_, rfl⟩
  have NW := Lib.hid (fun (w' : World) h1 => dnew_any a0 cap0 vs w' h1 HNO.out)
  rw [← hn] at NW ⊢
  have HMM := Lib.hid hn
  have hm63 : n ≤ 9223372036854775807 := by unfold maxLen at hcm; omega
  clear hcc hcm hn
  by_cases g0 : n < 2
  · have g0' : decide ((n : Int) < 2) = true := by simp; omega
    have g0' : (n : Int) < 2 := by omega
    go_enter Try.func7, Try.ntmps7
    go_wp2_with fail
    refine HSH.out.mono ?_
    rintro e w1 ⟨rfl, hb⟩
    have HB1 := Lib.hid hb
    clear hb
    go_wp2
    go_ret
    exact ⟨rfl, HB1.out⟩
  have g0' : decide ((n : Int) < 2) = false := by simp; omega
  have g0n : ¬ (n : Int) < 2 := by omega
  by_cases g1 : 60 < n
  · have g1' : (60 : Int) < (n : Int) := by omega
    go_enter Try.func7, Try.ntmps7
    go_wp2_with fail
    refine HSH.out.mono ?_
    rintro e w1 ⟨rfl, hb⟩
    have HB1 := Lib.hid hb
    clear hb
    go_wp2
    go_ret
    exact ⟨rfl, HB1.out⟩
  have g1' : ¬ (60 : Int) < (n : Int) := by omega
  have hm1 : 2 ≤ n := by omega
  have hm2 : n ≤ 60 := by omega
  clear g0 g1
  by_cases hne : newE vs = 0
  case neg =>
    have h3 : newE vs = 3 := by
      unfold newE at hne ⊢
      rw [if_neg (by have := HMM.out; omega)] at hne ⊢
      split
      · rename_i c; exact absurd (if_pos c) hne
      · rfl
    rw [h3] at NW
    clear hne h3
    go_enter Try.func7, Try.ntmps7
    go_wp2_with fail
    refine HSH.out.mono ?_
    rintro e w1 ⟨rfl, hb⟩
    have HB1 := Lib.hid hb
    clear hb
    go_wp2_with fail
    refine (NW.out w1 (KR0.out.kept HB1.out)).mono ?_
    rintro e w2 ⟨hb, pv, rfl, h0, _⟩
    have hpv := h0 (by decide)
    subst hpv
    have HB2 := Lib.hid (HB1.out.trans (hb.mono HB1.out.size))
    clear hb h0
    go_wp2
    go_ret
    exact ⟨rfl, HB2.out⟩
  have hs0 := stC_new (v := vs) (by have := HMM.out; omega)
  rw [hne, hs0] at NW
  have bp1 := Ne.pickN_bd (c := a1) (n := (n : Int) - 1) (by omega)
  have PB := Lib.hid fun w' => Ne.pick_any a1 ((n : Int) - 1) w' b1.1 b1.2 (by omega) (by omega)
  generalize Ne.pickN a1 ((n : Int) - 1) = y at *
  obtain ⟨k, hk⟩ : ∃ k : Nat, 1 + y = (k : Int) := ⟨(1 + y).toNat, by omega⟩
  have hk1 : 1 ≤ k := by omega
  have hkn : k < n := by omega
  have hy0 : 0 ≤ y := bp1.1
  have hy60 : y < (n : Int) - 1 := bp1.2
  have hn1 : IntKind.i64.wrap ((n : Int) - 1) = (n : Int) - 1 := by rw [IntKind.wrap_i64]; omega
  clear b1 bp1 hs0 hne
  have HJ := Lib.hid (fun (i : Nat) (h1 : 1 ≤ i) (h2 : i < n) => stC_join (v := vs) (k := i) (a := 0) (by omega) (by omega) (by have := HMM.out; omega))
  have HALL := Lib.hid (fun hg => adds_all (v := vs) HMM.out.symm hg hk1 hkn a2 a3)
  have HB2B := Lib.hid b2
  have HB3B := Lib.hid b3
  generalize hst : stC vs = ST at *
  clear hst
  go_enter Try.func7, Try.ntmps7
  go_wp2_with fail
  refine HSH.out.mono ?_
  rintro e w1 ⟨rfl, hb⟩
  have HB1 := Lib.hid hb
  clear hb HSH
  go_wp2_with fail
  refine (NW.out w1 (KR0.out.kept HB1.out)).mono ?_
  rintro e w2 ⟨hb, pv, rfl, _, h0⟩
  obtain ⟨p, rfl, h9⟩ := h0 (by trivial)
  have hbs := HB1.out.size
  have H3 := Lib.hid (show One w2 w1.heap.size p (ST 1) [] from ⟨_, _, _, hb.size, h9, fun v l hv => by simp at hv⟩)
  have HB3 := Lib.hid (HB1.out.trans (hb.mono hbs))
  clear hb h0 h9 NW HNO
  generalize w1.heap.size = b at *
  go_wp2
  go_loopg [12] (n - 1) (fun gg si wz => ∃ i : Nat, si = .int .i64 i ∧ 1 ≤ i ∧ i + gg = n ∧ Hid (One wz b p (ST i) []) ∧ Hid (Below w.heap.size w wz))
  case atStart => exact ⟨1, rfl, Nat.le_refl _, by omega, H3, HB3⟩
  case round =>
    obtain ⟨i, rfl, hi1, hig, HW, HBX⟩ := hrel
    by_cases hi : i < n
    · have hii : (i : Int) < (n : Int) := by omega
      obtain ⟨e1, e2⟩ := HJ.out i hi1 hi
      have HE1 := Lib.hid e1
      have HE2 := Lib.hid e2
      clear e1 e2
      go_wp2_with fail
      refine (one_join HW.out 0 (i : Int)).mono ?_
      rintro e w4 ⟨he, h4, hb⟩
      rw [HE1.out] at he
      subst he
      rw [HE2.out] at h4
      have H4 := Lib.hid h4
      have HB4 := Lib.hid (HBX.out.trans (hb.mono hbs))
      clear h4 hb
      go_wp2
      go_roundg (n - (i + 1))
      case measure => omega
      case rel => exact ⟨i + 1, by go_num, by omega, by omega, H4, HB4⟩
    · have ei : i = n := by omega
      subst i
      obtain ⟨fe, ge, f1, f2, f3, f4, f5, f6, f7, f8⟩ := HALL.out HW.out.good
      have SK := Lib.hid (fun (w' : World) h => one_split (w := w') (B := b) (p := p) (s := ST n) (K := []) h (k : Int))
      have FA := Lib.hid (fun (w' : World) (s' : St) h => one_add (w := w') (B := b) (p := p) (s := s') (K := []) h 0 a2 HB2B.out)
      have GA := Lib.hid (fun (w' : World) (s' : St) h => one_add (w := w') (B := b) (p := p) (s := s') (K := []) h (k : Int) a3 HB3B.out)
      have HA := Lib.hid (fun (w' : World) (s' : St) h => one_add (w := w') (B := b) (p := p) (s := s') (K := []) h (n : Int) 1 (by omega))
      generalize splitS (ST n) (k : Int) = A0 at *
      generalize hA1 : addS A0 0 a2 = A1 at *
      generalize hA2 : addS A1 (k : Int) a3 = A2 at *
      have HA1 := Lib.hid hA1
      have HA2 := Lib.hid hA2
      have F1 := Lib.hid f1
      have F2 := Lib.hid f2
      have F3 := Lib.hid f3
      have F4 := Lib.hid f4
      have F5 := Lib.hid f5
      have F6 := Lib.hid f6
      have F7 := Lib.hid f7
      have F8 := Lib.hid f8
      clear f1 f2 f3 f4 f5 f6 f7 f8 hA1 hA2 hig HJ HALL
      go_wp2_with fail
      refine (PB.out _).mono ?_
      rintro e w' ⟨rfl, rfl⟩
      go_wp2_with fail
      refine (SK.out _ HW.out).mono ?_
      rintro e w4 ⟨rfl, h4, hb⟩
      have H4 := Lib.hid h4
      have HB4 := Lib.hid (HBX.out.trans (hb.mono hbs))
      clear h4 hb
      go_wp2_with fail
      refine (FA.out _ _ H4.out).mono ?_
      rintro e w5 ⟨he, h5, hb⟩
      rw [F4.out] at he
      subst he
      rw [HA1.out] at h5
      have H5 := Lib.hid h5
      have HB5 := Lib.hid (HB4.out.trans (hb.mono hbs))
      clear h5 hb
      go_wp2_with fail
      refine (GA.out _ _ H5.out).mono ?_
      rintro e w6 ⟨he, h6, hb⟩
      rw [F5.out] at he
      subst he
      rw [HA2.out] at h6
      have H6 := Lib.hid h6
      have HB6 := Lib.hid (HB5.out.trans (hb.mono hbs))
      clear h6 hb
      go_wp2_with fail
      refine (HA.out _ _ H6.out).mono ?_
      rintro e w7 ⟨he, h7, hb⟩
      rw [F6.out] at he
      subst he
      rw [F7.out] at h7
      have H7 := Lib.hid h7
      have HB7 := Lib.hid (HB6.out.trans (hb.mono hbs))
      clear h7 hb SK FA GA HA HW HBX H3 HB3 H4 H5 H6 HB4 HB5 HB6
      go_wp2
      go_loopg [17, 18, 19, 20] n (fun gg si s18 s19 s20 wz => ∃ i : Nat, si = .int .i64 i ∧ i + gg = n ∧ Hid (One wz b p A2 []) ∧ Hid (Below w.heap.size w wz))
      case atStart => exact ⟨0, rfl, by omega, H7, HB7⟩
      case round =>
        obtain ⟨i, rfl, hig, HW, HBX⟩ := hrel
        by_cases hi : i < n
        · have hii : (i : Int) < (n : Int) := by omega
          have hi0 : (0 : Int) ≤ (i : Int) := by omega
          obtain ⟨b0, o0, e0, hb0, d0⟩ := Ne.irow_cell (KR0.out.kept HBX.out) (i := i) (by rw [← HMM.out]; exact hi)
          subst e0
          obtain ⟨v1, v2, v3⟩ := F8.out i hi
          generalize Ne.amt vs i = vi at *
          by_cases c : i < k
          · have c1 : ¬ (k : Int) ≤ (i : Int) := by omega
            have c2 : decide ((k : Int) ≤ (i : Int)) = false := by simp; omega
            rw [if_pos c] at v1
            by_cases d : fe = 0
            · have d' : (fe == 0) = true := by simpa using d
              rw [if_pos d] at v1
              obtain ⟨x, hx⟩ : ∃ x, x = vi + a2 := ⟨_, rfl⟩
              have hvx : valZ A2 (i : Int) = x := by rw [v1, hx]
              rw [hvx] at v2 v3
              have HVI := Lib.hid hvx
              have xb1 : ¬ 4611686018427387904 < x := by omega
              have xb2 : ¬ x < -4611686018427387904 := by omega
              have xx : (x != x) = false := by simp
              have xw : IntKind.i64.wrap (vi + a2) = x := by rw [IntKind.wrap_i64, ← hx]; omega
              clear hvx v1 v2 v3 d
              clear hx
              go_wp2_with fail
              refine (one_value HW.out (i : Int)).mono ?_
              rintro e w8 ⟨he, h8, hb⟩
              rw [HVI.out] at he
              subst he
              have H8 := Lib.hid h8
              have HB8 := Lib.hid (HBX.out.trans (hb.mono hbs))
              clear h8 hb
              go_wp2
              go_roundg (n - (i + 1))
              case measure => omega
              case rel => exact ⟨i + 1, by go_num, by omega, H8, HB8⟩
            · have d' : (fe == 0) = false := by simpa using d
              rw [if_neg d] at v1
              obtain ⟨x, hx⟩ : ∃ x, x = vi := ⟨_, rfl⟩
              have hvx : valZ A2 (i : Int) = x := by rw [v1, hx]; omega
              rw [hvx] at v2 v3
              have HVI := Lib.hid hvx
              have xb1 : ¬ 4611686018427387904 < x := by omega
              have xb2 : ¬ x < -4611686018427387904 := by omega
              have xx : (x != x) = false := by simp
              clear hvx v1 v2 v3 d
              subst hx
              go_wp2_with fail
              refine (one_value HW.out (i : Int)).mono ?_
              rintro e w8 ⟨he, h8, hb⟩
              rw [HVI.out] at he
              subst he
              have H8 := Lib.hid h8
              have HB8 := Lib.hid (HBX.out.trans (hb.mono hbs))
              clear h8 hb
              go_wp2
              go_roundg (n - (i + 1))
              case measure => omega
              case rel => exact ⟨i + 1, by go_num, by omega, H8, HB8⟩
          · have c1 : (k : Int) ≤ (i : Int) := by omega
            rw [if_neg c] at v1
            by_cases d : ge = 0
            · have d' : (ge == 0) = true := by simpa using d
              rw [if_pos d] at v1
              obtain ⟨x, hx⟩ : ∃ x, x = vi + a3 := ⟨_, rfl⟩
              have hvx : valZ A2 (i : Int) = x := by rw [v1, hx]
              rw [hvx] at v2 v3
              have HVI := Lib.hid hvx
              have xb1 : ¬ 4611686018427387904 < x := by omega
              have xb2 : ¬ x < -4611686018427387904 := by omega
              have xx : (x != x) = false := by simp
              have xw : IntKind.i64.wrap (vi + a3) = x := by rw [IntKind.wrap_i64, ← hx]; omega
              clear hvx v1 v2 v3 d
              clear hx
              go_wp2_with fail
              refine (one_value HW.out (i : Int)).mono ?_
              rintro e w8 ⟨he, h8, hb⟩
              rw [HVI.out] at he
              subst he
              have H8 := Lib.hid h8
              have HB8 := Lib.hid (HBX.out.trans (hb.mono hbs))
              clear h8 hb
              go_wp2
              go_roundg (n - (i + 1))
              case measure => omega
              case rel => exact ⟨i + 1, by go_num, by omega, H8, HB8⟩
            · have d' : (ge == 0) = false := by simpa using d
              rw [if_neg d] at v1
              obtain ⟨x, hx⟩ : ∃ x, x = vi := ⟨_, rfl⟩
              have hvx : valZ A2 (i : Int) = x := by rw [v1, hx]; omega
              rw [hvx] at v2 v3
              have HVI := Lib.hid hvx
              have xb1 : ¬ 4611686018427387904 < x := by omega
              have xb2 : ¬ x < -4611686018427387904 := by omega
              have xx : (x != x) = false := by simp
              clear hvx v1 v2 v3 d
              subst hx
              go_wp2_with fail
              refine (one_value HW.out (i : Int)).mono ?_
              rintro e w8 ⟨he, h8, hb⟩
              rw [HVI.out] at he
              subst he
              have H8 := Lib.hid h8
              have HB8 := Lib.hid (HBX.out.trans (hb.mono hbs))
              clear h8 hb
              go_wp2
              go_roundg (n - (i + 1))
              case measure => omega
              case rel => exact ⟨i + 1, by go_num, by omega, H8, HB8⟩
        · have ei : i = n := by omega
          subst i
          rcases F1.out with c | c
          · subst c
            clear F2 F3 F4 F5 F8
            by_cases ha : a2 = 0
            · have ha' : (a2 != 0) = false := by simpa using ha
              go_wp2
              go_ret
              exact ⟨rfl, HBX.out⟩
            · have ha' : (a2 != 0) = true := by simpa using ha
              go_wp2
              go_ret
              exact ⟨rfl, HBX.out⟩
          · subst c
            have ha : (a2 != 0) = true := by
              simp only [bne_iff_ne, ne_eq]
              intro e
              have := F3.out e
              omega
            clear F2 F3 F4 F5 F8
            go_wp2
            go_ret
            exact ⟨rfl, HBX.out⟩

end Go.Proofs.Ytlkigpmjhojceaa.splayAdds
