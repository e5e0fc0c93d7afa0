/- ForestPlays: for every input the law returns true and its arguments read as they did. No condition. -/
import Derived.Test.YtjhodnpmogkmmaaFls
import Derived.Test.YtjhodnpmogkmmaaFlz
import Derived.Deep.LoopGhost
import Derived.Deep.DeepCutAuto
import Derived.Test.YtjhodnpmogkmmaaRows
import Derived.WalkKit
import Derived.ProofKit
import Derived.OpenShut
import Derived.ShutString
import Derived.ChangeOld
import Derived.Below
import Derived.Deep.Strs
namespace Go.Proofs.Ytjhodnpmogkmmaa.forestPlays
open Go.ChangeShapes Go.WideShapes Go.ChangeAt Go.RowKit
open Go.ChangeMaps (open_string shut_string)
set_option linter.unusedVariables false
set_option linter.unusedSimpArgs false

theorem own : ownKnob Try.prog.godebug = none := by kernel_rfl
theorem laidOut : laidOutB Try.prog = true := by kernel_rfl

def IntsIn (k : IntKind) (w : World) (a : Option Addr) (len cap : Nat) (zs : List Int) : Prop :=
  (a = none ∧ len = 0 ∧ cap = 0 ∧ zs = []) ∨
  ∃ x, a = some x ∧ len ≤ cap ∧ cap ≤ maxLen ∧ zs.length = cap ∧ (∀ i, i < zs.length → w.cell? (x.add i) = some (.int k (zs.getD i 0))) ∧ ∀ n ∈ zs, (Lit.int k n).wf = true

open Fo
theorem path_small {f : Ft} (h : Fo.Good f) (x : Int) : (pathZ f x).length ≤ 3000 := by
  unfold pathZ
  split
  · simp
  · exact Nat.le_trans (Sp.len_le (h.path_nodup _) (fun y hy => h.path_lt hy)) h.small

set_option maxRecDepth 100000 in
set_option maxHeartbeats 4000000 in
theorem walk (a0 : Option Addr) (len0 cap0 : Nat) (l0 : List Int) (a1 : List Sp.Act) (o1 : Option Addr) (c1 : Nat) (w : World) (w0 : IntsIn .i64 w a0 len0 cap0 l0) (k1 : ∀ a ∈ a1, Sp.Act.ok a) (z1 : a1.length ≤ c1) (y1 : c1 ≤ maxLen) (n1 : o1 = none → c1 = 0) (r1 : Sp.TRow w o1 a1) :
    Calls Try.prog 3 #[.slice a0 len0 cap0, .slice o1 a1.length c1] w fun e w' => e = .returned (.bool true) ∧ Below w.heap.size w w' := by
  have HSH := Lib.hid (shown_any w)
  obtain ⟨vs, hk0, hq0, bq0, hcc, hcm, hnone⟩ := Ne.ints_row w0
  subst hk0
  clear w0
  have KR0 := Lib.hid hq0
  have HNO := Lib.hid hnone
  clear hq0 hnone bq0
  obtain ⟨n, hn⟩ : ∃ n, n = vs.length := ⟨_, rfl⟩
  have NW := Lib.hid (fun (w' : World) h1 => fnew_any a0 cap0 vs w' h1 HNO.out)
  have RW := Lib.hid (fun (w' : World) h1 => qnew_any a0 cap0 vs w' h1 HNO.out)
  rw [← hn] at NW RW ⊢
  have HMM := Lib.hid hn
  have hm63 : n ≤ 9223372036854775807 := by unfold maxLen at hcm; omega
  clear hcc hcm hn
  obtain ⟨M, hM⟩ : ∃ M, M = a1.length := ⟨_, rfl⟩
  rw [← hM] at z1 ⊢
  have HLL := Lib.hid hM
  have hm64 : M ≤ 9223372036854775807 := by unfold maxLen at y1; omega
  have KA := Lib.hid k1
  have TR := Lib.hid r1
  clear hM z1 y1 n1 k1 r1
  by_cases g0 : 60 < n
  · have g0' : decide ((60 : Int) < (n : Int)) = true := by simp; omega
    have g0i : (60 : Int) < (n : Int) := by omega
    go_enter Try.func3, Try.ntmps3
    go_wp2_with fail
    refine HSH.out.mono ?_
    rintro e w1 ⟨rfl, hb⟩
    have HB1 := Lib.hid hb
    clear hb
    go_wp2
    go_ret
    exact ⟨rfl, HB1.out⟩
  have g0' : decide ((60 : Int) < (n : Int)) = false := by simp; omega
  have g0i : ¬ (60 : Int) < (n : Int) := by omega
  by_cases g1 : 120 < M
  · have g1' : (120 : Int) < (M : Int) := by omega
    go_enter Try.func3, Try.ntmps3
    go_wp2_with fail
    refine HSH.out.mono ?_
    rintro e w1 ⟨rfl, hb⟩
    have HB1 := Lib.hid hb
    clear hb
    go_wp2
    go_ret
    exact ⟨rfl, HB1.out⟩
  have g1' : ¬ (120 : Int) < (M : Int) := by omega
  have hm1 : n ≤ 60 := by omega
  have hm2 : M ≤ 120 := by omega
  clear g0 g1
  have hpx : IntKind.i64.wrap ((n : Int) + 1) = (n : Int) + 1 := by rw [IntKind.wrap_i64]; omega
  have hgl : (newS vs).v.length = n := HMM.out.symm
  have HGL := Lib.hid hgl
  have hee : ((Sp.newE vs) == (Sp.newE vs)) = true := by simp
  generalize newS vs = s0 at *
  clear hgl
  by_cases hne : Sp.newE vs = 0
  case neg =>
    generalize Sp.newE vs = er at *
    go_enter Try.func3, Try.ntmps3
    go_wp2_with fail
    refine HSH.out.mono ?_
    rintro e w1 ⟨rfl, hb⟩
    have HB1 := Lib.hid hb
    have HNE := Lib.hid hne
    clear hb hne
    go_wp2_with fail
    refine (NW.out w1 (KR0.out.kept HB1.out)).mono ?_
    rintro e w2 ⟨hb, pv, rfl, h0, _⟩
    have hpv := h0 HNE.out
    subst hpv
    have HB2 := Lib.hid (HB1.out.trans (hb.mono HB1.out.size))
    clear hb h0
    go_wp2_with fail
    refine (RW.out w2 (KR0.out.kept HB2.out)).mono ?_
    rintro e w3 ⟨hb, pv, rfl, h0, _⟩
    have hpv := h0 HNE.out
    subst hpv
    have HB3 := Lib.hid (HB2.out.trans (hb.mono HB2.out.size))
    clear hb h0
    go_wp2
    go_ret
    exact ⟨rfl, HB3.out⟩
  rw [hne] at NW RW
  clear hne hee
  go_enter Try.func3, Try.ntmps3
  go_wp2_with fail
  refine HSH.out.mono ?_
  rintro e w1 ⟨rfl, hb⟩
  have HB1 := Lib.hid hb
  clear hb HSH
  go_wp2_with fail
  refine (NW.out w1 (KR0.out.kept HB1.out)).mono ?_
  rintro e w2 ⟨hb, pv, rfl, _, h0⟩
  obtain ⟨p, rfl, h9⟩ := h0 (by trivial)
  have hbs := HB1.out.size
  have hb12 := hb.size
  have HB2 := Lib.hid (HB1.out.trans (hb.mono hbs))
  have H9 := Lib.hid h9
  clear hb h0 h9
  go_wp2_with fail
  refine (RW.out w2 (KR0.out.kept HB2.out)).mono ?_
  rintro e w3 ⟨hb, pv, rfl, _, h0⟩
  obtain ⟨q, rfl, h9⟩ := h0 (by trivial)
  have HP3 := Lib.hid (pair_born (p := p) (q := q) H9.out hb12 hb h9 (fun g hg => hg.1) hb12)
  have HB3 := Lib.hid (HB2.out.trans (hb.mono HB2.out.size))
  clear hb h0 h9 NW RW H9 hb12 HNO
  generalize w1.heap.size = b at *
  go_wp2
  go_loopg [10, 11] M (fun gg si s11 wz => (∃ z, s11 = z) ∧ ∃ (j : Nat) (f : Ft), si = .int .i64 j ∧ j + gg = M ∧ Hid (f.v.length = n) ∧ Hid (Pair wz b p q f f) ∧ Hid (Below w.heap.size w wz))
  case atStart => exact ⟨⟨_, rfl⟩, 0, s0, rfl, by omega, HGL, HP3, HB3⟩
  case round =>
    obtain ⟨⟨z11, rfl⟩, j, f, rfl, hjg, HSL, HW, HBX⟩ := hrel
    by_cases hj : j < M
    · have hji : (j : Int) < (M : Int) := by omega
      have hj0 : (0 : Int) ≤ (j : Int) := by omega
      obtain ⟨bt, ot, rfl, hbt, t0, t1, t2, t3⟩ := Sp.trow_cell (show Sp.TRow wr o1 a1 from TR.out.kept HBX.out) (i := j) (by rw [← HLL.out]; exact hj)
      have hak := KA.out (Sp.actAt a1 j) (List.mem_of_getElem? (Sp.at_act (l := a1) (i := j) (by rw [← HLL.out]; exact hj)))
      have DO := Lib.hid (does_any HW.out (Sp.actAt a1 j) hak)
      have b2 := hak.2.1
      unfold Ne.in64 at b2
      have bpx := Ne.pickN_bd (c := (Sp.actAt a1 j).x) (n := (n : Int) + 1) (by omega)
      have PX := Lib.hid fun w' => Ne.pick_any (Sp.actAt a1 j).x ((n : Int) + 1) w' b2.1 b2.2 (by omega) (by omega)
      have HT0 := Lib.hid (show ∀ wz, Below w.heap.size w wz → wz.cell? ⟨bt, ot + j * 4 + 1, none⟩ = some (.int .i64 (Sp.actAt a1 j).x) from fun wz hb => by
        obtain ⟨bt', ot', e, _, _, h1, _⟩ := Sp.trow_cell (show Sp.TRow wz _ a1 from TR.out.kept hb) (i := j) (by rw [← HLL.out]; exact hj)
        cases e; exact h1)
      generalize Ne.pickN (Sp.actAt a1 j).x ((n : Int) + 1) = X at *
      generalize (Sp.actAt a1 j).op = aop at *
      generalize (Sp.actAt a1 j).x = ax at *
      generalize (Sp.actAt a1 j).y = ay at *
      generalize (Sp.actAt a1 j).d = ad at *
      have hX0 := bpx.1
      clear hak bpx b2
      go_wp2_with fail
      refine (PX.out _).mono ?_
      rintro e w' ⟨rfl, rfl⟩
      go_wp2_with fail
      refine DO.out.mono ?_
      rintro e w4 ⟨f4, rfl, h4, hl4, hb⟩
      have HP4 := Lib.hid h4
      have HL4 := Lib.hid (show f4.v.length = n from hl4.trans HSL.out)
      have HB4 := Lib.hid (HBX.out.trans (hb.mono hbs))
      clear h4 hl4 hb DO HW HBX t0 t1 t2 t3 HSL
      obtain ⟨f, hs⟩ : ∃ f, f = f4 := ⟨_, rfl⟩
      subst hs
      have r1 : ((valZ f X) != (valZ f X)) = false := by simp
      have hrl := path_small HP4.out.good.1 X
      go_wp2_with fail
      refine (pair_path HP4.out X).mono ?_
      rintro e w11 ⟨o1, cc1, rfl, hi1, h11, hb⟩
      have HP11 := Lib.hid h11
      have HI11 := Lib.hid hi1
      have HB11 := Lib.hid (HB4.out.trans (hb.mono hbs))
      clear h11 hb hi1
      go_wp2_with fail
      refine (pair_rpath HP11.out X).mono ?_
      rintro e w12 ⟨o2, cc2, rfl, hi2, h12, hb⟩
      have HP12 := Lib.hid h12
      have HI12 := Lib.hid (HI11.out.kept hb)
      have HB12 := Lib.hid (HB11.out.trans (hb.mono HB11.out.size))
      have SM := Ne.same_any o1 o2 cc1 cc2 (Ne.encW (pathZ f X)) (Ne.encW (pathZ f X)) w12 HI12.out hi2 (by rw [Ne.encW_len]; omega) (by rw [Ne.encW_len]; omega)
      rw [Ne.encW_len, decide_eq_true rfl] at SM
      have HSM11 := Lib.hid SM
      clear SM hi2 hrl h12 hb HI11
      go_wp2_with fail
      refine HSM11.out.mono ?_
      rintro e w13 ⟨rfl, hb⟩
      have HP13 := Lib.hid (HP12.out.kept hb)
      have HB13 := Lib.hid (HB12.out.trans (hb.mono HB12.out.size))
      clear hb HSM11 HI12
      go_wp2_with fail
      refine (pair_value HP13.out X).mono ?_
      rintro e w14 ⟨rfl, h14, hb⟩
      have HP14 := Lib.hid h14
      have HB14 := Lib.hid (HB13.out.trans (hb.mono hbs))
      clear h14 hb
      go_wp2_with fail
      refine (pair_rvalue HP14.out X).mono ?_
      rintro e w15 ⟨rfl, h15, hb⟩
      have HP15 := Lib.hid h15
      have HB15 := Lib.hid (HB14.out.trans (hb.mono hbs))
      clear h15 hb
      go_wp2
      go_roundg (M - (j + 1))
      case measure => omega
      case rel => exact ⟨⟨_, rfl⟩, j + 1, f, by go_num, by omega, HL4, HP15, HB15⟩
    · have ej : j = M := by omega
      subst j
      clear hjg TR KA HLL
      go_wp2
      go_loopg [12] (n + 2) (fun gg si wz => ∃ X : Int, si = .int .i64 X ∧ -1 ≤ X ∧ X + (gg : Int) = (n : Int) + 1 ∧ Hid (Pair wz b p q f f) ∧ Hid (Below w.heap.size w wz))
      case atStart => exact ⟨-1, rfl, by omega, by omega, HW, HBX⟩
      case round =>
        obtain ⟨X, rfl, hX1, hXg, HW, HBX⟩ := hrel
        by_cases hX : X ≤ (n : Int)
        · have r0 : ((aboveZ f X) != (aboveZ f X)) = false := by simp
          have r1 : ((rootZ f X) != (rootZ f X)) = false := by simp
          have r2 : ((leastZ f X) != (leastZ f X)) = false := by simp
          have r3 : ((valZ f X) != (valZ f X)) = false := by simp
          have hXw : IntKind.i64.wrap (X + 1) = X + 1 := by rw [IntKind.wrap_i64]; omega
          go_wp2_with fail
          refine (pair_above HW.out X).mono ?_
          rintro e w16 ⟨rfl, h16, hb⟩
          have HP16 := Lib.hid h16
          have HB16 := Lib.hid (HBX.out.trans (hb.mono hbs))
          clear h16 hb
          go_wp2_with fail
          refine (pair_rabove HP16.out X).mono ?_
          rintro e w17 ⟨rfl, h17, hb⟩
          have HP17 := Lib.hid h17
          have HB17 := Lib.hid (HB16.out.trans (hb.mono hbs))
          clear h17 hb
          go_wp2_with fail
          refine (pair_root HP17.out X).mono ?_
          rintro e w18 ⟨rfl, h18, hb⟩
          have HP18 := Lib.hid h18
          have HB18 := Lib.hid (HB17.out.trans (hb.mono hbs))
          clear h18 hb
          go_wp2_with fail
          refine (pair_rroot HP18.out X).mono ?_
          rintro e w19 ⟨rfl, h19, hb⟩
          have HP19 := Lib.hid h19
          have HB19 := Lib.hid (HB18.out.trans (hb.mono hbs))
          clear h19 hb
          go_wp2_with fail
          refine (pair_least HP19.out X).mono ?_
          rintro e w20 ⟨rfl, h20, hb⟩
          have HP20 := Lib.hid h20
          have HB20 := Lib.hid (HB19.out.trans (hb.mono hbs))
          clear h20 hb
          go_wp2_with fail
          refine (pair_rleast HP20.out X).mono ?_
          rintro e w21 ⟨rfl, h21, hb⟩
          have HP21 := Lib.hid h21
          have HB21 := Lib.hid (HB20.out.trans (hb.mono hbs))
          clear h21 hb
          have hrl := path_small HP21.out.good.1 X
          go_wp2_with fail
          refine (pair_path HP21.out X).mono ?_
          rintro e w22 ⟨o1, cc1, rfl, hi1, h22, hb⟩
          have HP22 := Lib.hid h22
          have HI22 := Lib.hid hi1
          have HB22 := Lib.hid (HB21.out.trans (hb.mono hbs))
          clear h22 hb hi1
          go_wp2_with fail
          refine (pair_rpath HP22.out X).mono ?_
          rintro e w23 ⟨o2, cc2, rfl, hi2, h23, hb⟩
          have HP23 := Lib.hid h23
          have HI23 := Lib.hid (HI22.out.kept hb)
          have HB23 := Lib.hid (HB22.out.trans (hb.mono HB22.out.size))
          have SM := Ne.same_any o1 o2 cc1 cc2 (Ne.encW (pathZ f X)) (Ne.encW (pathZ f X)) w23 HI23.out hi2 (by rw [Ne.encW_len]; omega) (by rw [Ne.encW_len]; omega)
          rw [Ne.encW_len, decide_eq_true rfl] at SM
          have HSM22 := Lib.hid SM
          clear SM hi2 hrl h23 hb HI22
          go_wp2_with fail
          refine HSM22.out.mono ?_
          rintro e w24 ⟨rfl, hb⟩
          have HP24 := Lib.hid (HP23.out.kept hb)
          have HB24 := Lib.hid (HB23.out.trans (hb.mono HB23.out.size))
          clear hb HSM22 HI23
          go_wp2_with fail
          refine (pair_value HP24.out X).mono ?_
          rintro e w25 ⟨rfl, h25, hb⟩
          have HP25 := Lib.hid h25
          have HB25 := Lib.hid (HB24.out.trans (hb.mono hbs))
          clear h25 hb
          go_wp2_with fail
          refine (pair_rvalue HP25.out X).mono ?_
          rintro e w26 ⟨rfl, h26, hb⟩
          have HP26 := Lib.hid h26
          have HB26 := Lib.hid (HB25.out.trans (hb.mono hbs))
          clear h26 hb
          go_wp2
          go_roundg ((n : Int) + 1 - (X + 1)).toNat
          case measure => omega
          case rel => exact ⟨X + 1, by go_num, by omega, by omega, HP26, HB26⟩
        · go_wp2
          go_ret
          exact ⟨rfl, HBX.out⟩

end Go.Proofs.Ytjhodnpmogkmmaa.forestPlays
