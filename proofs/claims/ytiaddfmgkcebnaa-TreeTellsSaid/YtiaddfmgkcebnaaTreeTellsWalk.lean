/- TreeTells: for every input the law returns true and its arguments read as they did. No condition. -/
import Derived.Test.YtiaddfmgkcebnaaBunB37
import Derived.Test.YtiaddfmgkcebnaaBunB43
import Derived.Test.YtiaddfmgkcebnaaBunB29
import Derived.Test.YtiaddfmgkcebnaaBunB44
import Derived.RegionTactic
import Derived.BigRegion
import Derived.Test.YtiaddfmgkcebnaaRows
import Derived.WalkKit
import Derived.ProofKit
import Derived.OpenShut
import Derived.ShutString
import Derived.ChangeOld
import Derived.Below
import Derived.Deep.Strs
namespace Go.Proofs.Ytiaddfmgkcebnaa.treeTells
open Go.ChangeShapes Go.WideShapes Go.ChangeAt Go.RowKit
open Go.ChangeMaps (open_string shut_string)
set_option linter.unusedVariables false
set_option linter.unusedSimpArgs false

theorem own : ownKnob Try.prog.godebug = none := by kernel_rfl
theorem laidOut : laidOutB Try.prog = true := by kernel_rfl

def IntsIn (k : IntKind) (w : World) (a : Option Addr) (len cap : Nat) (zs : List Int) : Prop :=
  (a = none ∧ len = 0 ∧ cap = 0 ∧ zs = []) ∨
  ∃ x, a = some x ∧ len ≤ cap ∧ cap ≤ maxLen ∧ zs.length = cap ∧ (∀ i, i < zs.length → w.cell? (x.add i) = some (.int k (zs.getD i 0))) ∧ ∀ n ∈ zs, (Lit.int k n).wf = true

/-- all that a network and amounts answer: levels, walks, amounts -/
theorem tells_exist (n : Ne.Net) (f : List Int) (x : Int) (hl : n.l.length ≤ 1000) : ∃ L0 W0 g0, (Ne.reE n f x = 0 → Ne.IsLev n f x L0) ∧ (Ne.reE n f x = 0 → Ne.IsBlk n.l (Ne.leadL n.l f x L0 (2 * n.l.length)) f x n.s n.t W0 g0) ∧ (Ne.blG n f x g0).length ≤ 1000 ∧ (Ne.reE n f x = 0 → Ne.Right n) := by
  by_cases c : Ne.reE n f x = 0
  · obtain ⟨hck, hx⟩ := Ne.reE_ok c
    obtain ⟨ck, hF⟩ := Ne.okf_of hck
    have hR := Ne.right_of ck
    obtain ⟨L0, hL0⟩ := Ne.lev_exists hR f x
    have hLd := Ne.lds_of n.l f x L0
    obtain ⟨W0, g0, hB⟩ := Ne.blk_exists hLd hR.ne hx _ f hF.len (Nat.le_refl _)
    have hfa := Ne.blkW_facts hLd hx hF.len hB.1
    have e1 : Ne.blG n f x g0 = g0 := by unfold Ne.blG; rw [if_neg (by simpa using c)]
    exact ⟨L0, W0, g0, fun _ => hL0, fun _ => hB, by rw [e1, hfa.1.len]; exact hl, fun _ => hR⟩
  · refine ⟨[], [], [], fun h => absurd h c, fun h => absurd h c, ?_, fun h => absurd h c⟩
    unfold Ne.blG; split <;> simp

set_option maxRecDepth 100000 in
set_option maxHeartbeats 4000000 in
theorem walk (a0 : Ne.Net) (o0 : Option Addr) (c0 : Nat) (a1 : Option Addr) (len1 cap1 : Nat) (l1 : List Int) (a2 : Int) (w : World) (k0 : a0.ok) (z0 : a0.l.length ≤ c0) (y0 : c0 ≤ maxLen) (n0 : o0 = none → c0 = 0) (r0 : Ne.ARow w o0 a0.l) (w1 : IntsIn .i64 w a1 len1 cap1 l1) (w2 : (Lit.int .i64 a2).wf = true) :
    Calls Try.prog 3 #[Ne.encN a0 o0 c0, .slice a1 len1 cap1, .int .i64 a2] w fun e w' => e = .returned (.bool true) ∧ Below w.heap.size w w' := by
  obtain ⟨an, as_, at_, al⟩ := a0
  simp only [Ne.Net.ok] at k0 z0 r0
  obtain ⟨_, _, _, ka⟩ := k0
  obtain ⟨f, hfl, hf, _, hfc, hfm, hfn⟩ := Ne.ints_row w1
  subst hfl
  clear w1
  have HSH := Lib.hid (Ne.shown_any (w.alloc (.cells #[.int .i64 an, .int .i64 as_, .int .i64 at_, .slice o0 al.length c0] 24)))
  have HB0 := Lib.hid (show Below w.heap.size w (w.alloc (.cells #[.int .i64 an, .int .i64 as_, .int .i64 at_, .slice o0 al.length c0] 24)) from (Below.refl _ _).alloc (Nat.le_refl _) _)
  have HN0 := Lib.hid (Ne.netBox_new w an as_ at_ (.slice o0 al.length c0))
  have HR0 := Lib.hid (r0.kept HB0.out)
  have HF0 := Lib.hid (hf.kept HB0.out)
  clear r0 hf
  by_cases g1 : 100 < al.length
  · have g1' : (100 : Int) < (al.length : Int) := by omega
    go_enter Try.func3, Try.ntmps3
    go_wp2_with fail
    refine HSH.out.mono ?_
    rintro e w1 ⟨rfl, hb⟩
    obtain ⟨n0, n1, n2, n3⟩ := Ne.netBox_cells (Ne.netBox_below HN0.out hb (by simp))
    have HB1 := Lib.hid (HB0.out.trans (hb.mono (by simp)))
    clear hb
    go_wp2
    go_ret
    exact ⟨rfl, HB1.out⟩
  have g1' : ¬ (100 : Int) < (al.length : Int) := by omega
  by_cases g2 : 40 < an
  · go_enter Try.func3, Try.ntmps3
    go_wp2_with fail
    refine HSH.out.mono ?_
    rintro e w1 ⟨rfl, hb⟩
    obtain ⟨n0, n1, n2, n3⟩ := Ne.netBox_cells (Ne.netBox_below HN0.out hb (by simp))
    have HB1 := Lib.hid (HB0.out.trans (hb.mono (by simp)))
    clear hb
    go_wp2
    go_ret
    exact ⟨rfl, HB1.out⟩
  have la : al.length ≤ 1000000 := by omega
  have kc : ∀ a ∈ al, Ne.in64 a.cap := fun a ha => (ka a ha).2.2
  obtain ⟨L0, W0, g0, hL0, hB0, hG, hRT⟩ := tells_exist ⟨an, as_, at_, al⟩ f a2 (by simp only; omega)
  have DB := Lib.hid fun w' h1 h2 => Ne.tblock_any ⟨an, as_, at_, al⟩ o0 c0 a1 cap1 f a2 L0 W0 g0 w' h1 h2 la kc hL0 hB0
  have RB := Lib.hid fun w' h1 h2 => Ne.rtblock_any ⟨an, as_, at_, al⟩ o0 c0 a1 cap1 f a2 L0 W0 g0 w' h1 h2 hfn la hL0 hB0
  have MO := Lib.hid fun (c : Ne.reE ⟨an, as_, at_, al⟩ f a2 = 0) w' => Ne.tmost_any ⟨an, as_, at_, al⟩ o0 c0 w' (hRT c)
  have RMO := Lib.hid fun (c : Ne.reE ⟨an, as_, at_, al⟩ f a2 = 0) w' => Ne.rmost_any ⟨an, as_, at_, al⟩ o0 c0 w' (hRT c)
  have HG := Lib.hid hG
  clear hL0 hB0 ka kc hfc hfm hfn hG hRT
  generalize Ne.mostV ⟨an, as_, at_, al⟩ = MV at *
  generalize Ne.blG ⟨an, as_, at_, al⟩ f a2 g0 = BG at *
  generalize (Ne.blW ⟨an, as_, at_, al⟩ f a2 W0).length = BW at *
  generalize hre : Ne.reE ⟨an, as_, at_, al⟩ f a2 = re at *
  have HRE := Lib.hid hre
  clear hre
  have SMR := Lib.hid fun x1 x2 y1 y2 w' h1 h2 => Ne.rsame_l x1 x2 y1 y2 BG BG w' h1 h2 (by have := HG.out; omega) (by have := HG.out; omega)
  rw [show decide (BG = BG) = true by simp] at SMR
  obtain ⟨fl, hfl⟩ : ∃ x, x = f.length := ⟨_, rfl⟩
  rw [← hfl]
  simp only [← hfl] at DB RB
  clear hfl
  go_enter Try.func3, Try.ntmps3
  go_wp2_with fail
  refine HSH.out.mono ?_
  rintro e w1 ⟨rfl, hb⟩
  generalize (w.alloc (.cells #[.int .i64 an, .int .i64 as_, .int .i64 at_, .slice o0 al.length c0] 24)) = WB at *
  have hw0 := Ne.netBox_lt HN0.out
  have HB1 := Lib.hid hb
  obtain ⟨n0, n1, n2, n3⟩ := Ne.netBox_cells (Ne.netBox_below HN0.out HB1.out hw0)
  clear hb
  go_wp2_with fail
  refine (DB.out _ (HR0.out.kept HB1.out) (HF0.out.kept HB1.out)).mono ?_
  rintro e w2 ⟨x2, y2, st, rfl, hx, hst, _, hb⟩
  have HB2 := Lib.hid (HB1.out.trans (hb.mono HB1.out.size))
  have HX2 := Lib.hid hx
  have HST := Lib.hid hst
  clear n0 n1 n2 n3 hx hst hb
  obtain ⟨n0, n1, n2, n3⟩ := Ne.netBox_cells (Ne.netBox_below HN0.out HB2.out hw0)
  go_wp2_with fail
  refine (RB.out _ (HR0.out.kept HB2.out) (HF0.out.kept HB2.out)).mono ?_
  rintro e w3 ⟨x3, y3, rfl, hx, hb⟩
  have HB3 := Lib.hid (HB2.out.trans (hb.mono HB2.out.size))
  have HX3 := Lib.hid hx
  have HX23 := Lib.hid (HX2.out.kept hb)
  clear n0 n1 n2 n3 hx hb HX2
  go_wp2_with fail
  refine (SMR.out _ _ _ _ _ HX23.out HX3.out).mono ?_
  rintro e w4 ⟨rfl, hb⟩
  have HB4 := Lib.hid (HB3.out.trans (hb.mono HB3.out.size))
  clear hb
  obtain ⟨n0, n1, n2, n3⟩ := Ne.netBox_cells (Ne.netBox_below HN0.out HB4.out hw0)
  have hkk : ((BW : Int) != (BW : Int)) = false := by simp
  have hrr : (re != re) = false := by simp
  by_cases hr : re = 0
  case neg =>
    have hr' : (re != 0) = true := by simpa using hr
    have hs := HST.out hr
    have hs' : (st != 0) = false := by simpa using hs
    clear hr hs
    go_wp2
    go_region
    all_goals
      go_wp2
      go_ret
      exact ⟨rfl, Ne.below_drew (HB0.out.trans (HB4.out.mono HB0.out.size))⟩
  subst hr
  have MO2 := Lib.hid (MO.out (by trivial))
  have RMO2 := Lib.hid (RMO.out (by trivial))
  have hmm : (MV == MV) = true := by simp
  go_wp2
  go_region_with (first
    | (go_at_call 13; refine (MO2.out _).mono ?_; rintro e w5 ⟨rfl, hb⟩; have HB5 := Lib.hid ((Ne.below_drew HB4.out).trans (hb.mono HB4.out.size)); obtain ⟨q0, q1, q2, q3⟩ := Ne.netBox_cells (Ne.netBox_below HN0.out HB5.out hw0); clear hb)
    | (go_at_call 14; refine (RMO2.out _).mono ?_; rintro e w6 ⟨rfl, hb⟩; have HB6 := Lib.hid (HB5.out.trans (hb.mono HB5.out.size)); clear hb))
  all_goals
    go_wp2
    go_ret
    exact ⟨rfl, HB0.out.trans (HB6.out.mono HB0.out.size)⟩

end Go.Proofs.Ytiaddfmgkcebnaa.treeTells
