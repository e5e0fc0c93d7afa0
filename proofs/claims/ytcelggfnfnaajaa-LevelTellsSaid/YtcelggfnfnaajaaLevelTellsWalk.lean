/- LevelTells: for every input the law returns true and its arguments read as they did. No condition. -/
import Derived.Test.YtcelggfnfnaajaaDld
import Derived.Test.YtcelggfnfnaajaaShown7
import Derived.Test.YtcelggfnfnaajaaRld
import Derived.Test.YtcelggfnfnaajaaSamei
import Derived.Test.YtcelggfnfnaajaaOpenc
import Derived.Test.YtcelggfnfnaajaaRows
import Derived.WalkKit
import Derived.ProofKit
import Derived.OpenShut
import Derived.ShutString
import Derived.ChangeOld
import Derived.Below
import Derived.Deep.Strs
namespace Go.Proofs.Ytcelggfnfnaajaa.levelTells
open Go.ChangeShapes Go.WideShapes Go.ChangeAt Go.RowKit
open Go.ChangeMaps (open_string shut_string)
set_option linter.unusedVariables false
set_option linter.unusedSimpArgs false

theorem own : ownKnob Try.prog.godebug = none := by kernel_rfl
theorem laidOut : laidOutB Try.prog = true := by kernel_rfl

def IntsIn (k : IntKind) (w : World) (a : Option Addr) (len cap : Nat) (zs : List Int) : Prop :=
  (a = none ∧ len = 0 ∧ cap = 0 ∧ zs = []) ∨
  ∃ x, a = some x ∧ len ≤ cap ∧ cap ≤ maxLen ∧ zs.length = cap ∧ (∀ i, i < zs.length → w.cell? (x.add i) = some (.int k (zs.getD i 0))) ∧ ∀ n ∈ zs, (Lit.int k n).wf = true



set_option maxRecDepth 100000 in
set_option maxHeartbeats 4000000 in
theorem walk (a0 : Ne.Net) (o0 : Option Addr) (c0 : Nat) (a1 : Option Addr) (len1 cap1 : Nat) (l1 : List Int) (a2 : Int) (w : World) (k0 : a0.ok) (z0 : a0.l.length ≤ c0) (y0 : c0 ≤ maxLen) (n0 : o0 = none → c0 = 0) (r0 : Ne.ARow w o0 a0.l) (w1 : IntsIn .i64 w a1 len1 cap1 l1) (w2 : (Lit.int .i64 a2).wf = true) :
    Calls Try.prog 3 #[Ne.encN a0 o0 c0, .slice a1 len1 cap1, .int .i64 a2] w fun e w' => e = .returned (.bool true) ∧ Below w.heap.size w w' := by
  obtain ⟨an, as_, at_, al⟩ := a0
  simp only [Ne.Net.ok] at k0 z0 r0
  obtain ⟨_, _, _, ka⟩ := k0
  obtain ⟨f, hfl, hf, _, hfc, hfm, _⟩ := Ne.ints_row w1
  subst hfl
  have hf63 : f.length ≤ 9223372036854775807 := by unfold maxLen at hfm; omega
  clear w1
  have HSH := Lib.hid (Ne.shown_any (w.alloc (.cells #[.int .i64 an, .int .i64 as_, .int .i64 at_, .slice o0 al.length c0] 24)))
  have HB0 := Lib.hid (show Below w.heap.size w (w.alloc (.cells #[.int .i64 an, .int .i64 as_, .int .i64 at_, .slice o0 al.length c0] 24)) from (Below.refl _ _).alloc (Nat.le_refl _) _)
  have HN0 := Lib.hid (Ne.netBox_new w an as_ at_ (.slice o0 al.length c0))
  have HR0 := Lib.hid (r0.kept HB0.out)
  have HF0 := Lib.hid (hf.kept HB0.out)
  clear r0 hf
  by_cases g1 : 200 < al.length
  · have g1' : (200 : Int) < (al.length : Int) := by omega
    go_enter Try.func3, Try.ntmps3
    go_wp2_with fail
    refine HSH.out.mono ?_
    rintro e w1 ⟨rfl, hb⟩
    obtain ⟨n0, n1, n2, n3⟩ := Ne.netBox_cells (Ne.netBox_below HN0.out hb (by simp))
    have HB1 := Lib.hid (HB0.out.trans (hb.mono (by simp)))
    clear hb
    go_wp2
    go_ret
    exact ⟨rfl, HB1.out⟩
  have g1' : ¬ (200 : Int) < (al.length : Int) := by omega
  by_cases g2 : 60 < an
  · go_enter Try.func3, Try.ntmps3
    go_wp2_with fail
    refine HSH.out.mono ?_
    rintro e w1 ⟨rfl, hb⟩
    obtain ⟨n0, n1, n2, n3⟩ := Ne.netBox_cells (Ne.netBox_below HN0.out hb (by simp))
    have HB1 := Lib.hid (HB0.out.trans (hb.mono (by simp)))
    clear hb
    go_wp2
    go_ret
    exact ⟨rfl, HB1.out⟩
  have la : al.length ≤ 1000000 := by omega
  have kc : ∀ a ∈ al, Ne.in64 a.cap := fun a ha => (ka a ha).2.2
  obtain ⟨L0, hL0⟩ : ∃ L0, Ne.reE ⟨an, as_, at_, al⟩ f a2 = 0 → Ne.IsLev ⟨an, as_, at_, al⟩ f a2 L0 := by
    by_cases c : Ne.reE ⟨an, as_, at_, al⟩ f a2 = 0
    · obtain ⟨L0, h⟩ := Ne.lev_exists (Ne.right_of (Ne.chkA_ok (Ne.chkF_ok (Ne.reE_ok c).1).1).1) f a2
      exact ⟨L0, fun _ => h⟩
    · exact ⟨[], fun h => absurd h c⟩
  have DL := Lib.hid fun w' h1 h2 => Ne.dlevels_any ⟨an, as_, at_, al⟩ o0 c0 a1 cap1 f a2 L0 w' h1 h2 la kc hL0
  have RL := Lib.hid fun w' h1 h2 => Ne.rlevels_any ⟨an, as_, at_, al⟩ o0 c0 a1 cap1 f a2 L0 w' h1 h2 la hL0
  have DD := Lib.hid fun w' h1 h2 => Ne.dleads_any ⟨an, as_, at_, al⟩ o0 c0 a1 cap1 f a2 L0 w' h1 h2 la kc hL0
  have RD := Lib.hid fun w' h1 h2 => Ne.rleads_any ⟨an, as_, at_, al⟩ o0 c0 a1 cap1 f a2 L0 w' h1 h2 la hL0
  have DP := Lib.hid fun w' h1 h2 => Ne.ddeep_any ⟨an, as_, at_, al⟩ o0 c0 a1 cap1 f a2 L0 w' h1 h2 la kc hL0
  have RP := Lib.hid fun w' h1 h2 => Ne.rdeep_any ⟨an, as_, at_, al⟩ o0 c0 a1 cap1 f a2 L0 w' h1 h2 la hL0
  have hl1 := Ne.lvV_len hL0
  have hl2 := Ne.ldV_len ⟨an, as_, at_, al⟩ f a2 L0
  simp only at hl2
  clear hL0
  generalize Ne.lvV ⟨an, as_, at_, al⟩ f a2 L0 = lv at *
  generalize Ne.ldV ⟨an, as_, at_, al⟩ f a2 L0 = ld at *
  generalize Ne.dpV ⟨an, as_, at_, al⟩ f a2 L0 = dp at *
  generalize Ne.reE ⟨an, as_, at_, al⟩ f a2 = re at *
  have SMR := Lib.hid fun x1 x2 y1 y2 w' h1 h2 => Ne.same_any x1 x2 y1 y2 lv lv w' h1 h2 (by omega) (by omega)
  rw [show decide (lv = lv) = true by simp] at SMR
  have SMI := Lib.hid fun x1 x2 y1 y2 w' h1 h2 => show Calls Try.prog 17 #[.slice x1 ld.length y1, .slice x2 ld.length y2] w' fun e w2 => e = .returned (.bool true) ∧ Below w'.heap.size w' w2 by
    have := Ne.same_any x1 x2 y1 y2 (Ne.encW ld) (Ne.encW ld) w' h1 h2 (by rw [Ne.encW_len]; omega) (by rw [Ne.encW_len]; omega)
    rwa [Ne.encW_len, show decide (Ne.encW ld = Ne.encW ld) = true by simp] at this
  clear ka kc hfc hfm hl1 hl2
  obtain ⟨fl, hfl⟩ : ∃ x, x = f.length := ⟨_, rfl⟩
  rw [← hfl]
  simp only [← hfl] at DL RL DD RD DP RP
  clear hfl hf63
  go_enter Try.func3, Try.ntmps3
  go_wp2_with fail
  refine HSH.out.mono ?_
  rintro e w1 ⟨rfl, hb⟩
  generalize (w.alloc (.cells #[.int .i64 an, .int .i64 as_, .int .i64 at_, .slice o0 al.length c0] 24)) = W0 at *
  have hw0 := Ne.netBox_lt HN0.out
  have HB1 := Lib.hid hb
  obtain ⟨n0, n1, n2, n3⟩ := Ne.netBox_cells (Ne.netBox_below HN0.out HB1.out hw0)
  clear hb
  go_wp2_with fail
  refine (DL.out _ (HR0.out.kept HB1.out) (HF0.out.kept HB1.out)).mono ?_
  rintro e w2 ⟨x2, y2, rfl, hx, hb⟩
  have HB2 := Lib.hid (HB1.out.trans (hb.mono HB1.out.size))
  have HX22 := Lib.hid hx
  clear n0 n1 n2 n3 hx 
  obtain ⟨n0, n1, n2, n3⟩ := Ne.netBox_cells (Ne.netBox_below HN0.out HB2.out hw0)
  clear hb
  go_wp2_with fail
  refine (RL.out _ (HR0.out.kept HB2.out) (HF0.out.kept HB2.out)).mono ?_
  rintro e w3 ⟨x3, y3, rfl, hx, hb⟩
  have HB3 := Lib.hid (HB2.out.trans (hb.mono HB2.out.size))
  have HX23 := Lib.hid (HX22.out.kept hb)
  have HX33 := Lib.hid hx
  clear n0 n1 n2 n3 hx HX22
  obtain ⟨n0, n1, n2, n3⟩ := Ne.netBox_cells (Ne.netBox_below HN0.out HB3.out hw0)
  clear hb
  go_wp2_with fail
  refine (DD.out _ (HR0.out.kept HB3.out) (HF0.out.kept HB3.out)).mono ?_
  rintro e w4 ⟨x4, y4, rfl, hx, hb⟩
  have HB4 := Lib.hid (HB3.out.trans (hb.mono HB3.out.size))
  have HX24 := Lib.hid (HX23.out.kept hb)
  have HX34 := Lib.hid (HX33.out.kept hb)
  have HX44 := Lib.hid hx
  clear n0 n1 n2 n3 hx HX23 HX33
  obtain ⟨n0, n1, n2, n3⟩ := Ne.netBox_cells (Ne.netBox_below HN0.out HB4.out hw0)
  clear hb
  go_wp2_with fail
  refine (RD.out _ (HR0.out.kept HB4.out) (HF0.out.kept HB4.out)).mono ?_
  rintro e w5 ⟨x5, y5, rfl, hx, hb⟩
  have HB5 := Lib.hid (HB4.out.trans (hb.mono HB4.out.size))
  have HX25 := Lib.hid (HX24.out.kept hb)
  have HX35 := Lib.hid (HX34.out.kept hb)
  have HX45 := Lib.hid (HX44.out.kept hb)
  have HX55 := Lib.hid hx
  clear n0 n1 n2 n3 hx HX24 HX34 HX44
  obtain ⟨n0, n1, n2, n3⟩ := Ne.netBox_cells (Ne.netBox_below HN0.out HB5.out hw0)
  clear hb
  go_wp2_with fail
  refine (DP.out _ (HR0.out.kept HB5.out) (HF0.out.kept HB5.out)).mono ?_
  rintro e w6 ⟨rfl, hb⟩
  have HB6 := Lib.hid (HB5.out.trans (hb.mono HB5.out.size))
  have HX26 := Lib.hid (HX25.out.kept hb)
  have HX36 := Lib.hid (HX35.out.kept hb)
  have HX46 := Lib.hid (HX45.out.kept hb)
  have HX56 := Lib.hid (HX55.out.kept hb)
  clear n0 n1 n2 n3 HX25 HX35 HX45 HX55
  obtain ⟨n0, n1, n2, n3⟩ := Ne.netBox_cells (Ne.netBox_below HN0.out HB6.out hw0)
  clear hb
  go_wp2_with fail
  refine (RP.out _ (HR0.out.kept HB6.out) (HF0.out.kept HB6.out)).mono ?_
  rintro e w7 ⟨rfl, hb⟩
  have HB7 := Lib.hid (HB6.out.trans (hb.mono HB6.out.size))
  have HX27 := Lib.hid (HX26.out.kept hb)
  have HX37 := Lib.hid (HX36.out.kept hb)
  have HX47 := Lib.hid (HX46.out.kept hb)
  have HX57 := Lib.hid (HX56.out.kept hb)
  clear n0 n1 n2 n3 HX26 HX36 HX46 HX56
  obtain ⟨n0, n1, n2, n3⟩ := Ne.netBox_cells (Ne.netBox_below HN0.out HB7.out hw0)
  clear hb
  clear n0 n1 n2 n3
  go_wp2_with fail
  refine (SMR.out _ _ _ _ _ HX27.out HX37.out).mono ?_
  rintro e w8 ⟨rfl, hb⟩
  have HB8 := Lib.hid (HB7.out.trans (hb.mono HB7.out.size))
  have HX48 := Lib.hid (HX47.out.kept hb)
  have HX58 := Lib.hid (HX57.out.kept hb)
  clear hb
  go_wp2_with fail
  refine (SMI.out _ _ _ _ _ HX48.out HX58.out).mono ?_
  rintro e w9 ⟨rfl, hb⟩
  have HB9 := Lib.hid (HB8.out.trans (hb.mono HB8.out.size))
  clear hb
  go_wp2
  go_ret
  exact ⟨rfl, HB0.out.trans (HB9.out.mono HB0.out.size)⟩

end Go.Proofs.Ytcelggfnfnaajaa.levelTells
