/- DimacsPrints: for every input the law returns true and its arguments read as they did. No condition. -/
import Derived.Test.YtaepoddmonijkaaDoorVars
import Derived.Test.YtaepoddmonijkaaDoorShown4
import Derived.Test.YtaepoddmonijkaaDoorPrt
import Derived.Test.YtaepoddmonijkaaDoorRprt
import Derived.Test.YtaepoddmonijkaaDoorOpen
import Derived.Test.YtaepoddmonijkaaDoorRows
import Derived.Test.YtaepoddmonijkaaDoorTie
import Derived.Test.YtaepoddmonijkaaDoorCards
import Derived.WalkKit
import Derived.ProofKit
import Derived.OpenShut
import Derived.ShutString
import Derived.ChangeOld
import Derived.Below
import Derived.Deep.Strs
import Derived.LaidMore
import Derived.Lay
import Derived.SevenTiedAt
import Derived.Stop.Joined
namespace Go.Proofs.YtaepoddmonijkaaDoor.dimacsPrints
open Go.ChangeShapes Go.WideShapes Go.ChangeAt Go.RowKit
open Go.ChangeMaps (open_string shut_string)
set_option linter.unusedVariables false
set_option linter.unusedSimpArgs false

theorem own : ownKnob Tryd.prog.godebug = none := by kernel_rfl
theorem laidOut : laidOutB Tryd.prog = true := by kernel_rfl



set_option maxRecDepth 100000 in
set_option maxHeartbeats 4000000 in
theorem walk (a0 : Ne.Net) (o0 : Option Addr) (c0 : Nat) (w : World) (k0 : a0.ok) (z0 : a0.l.length ≤ c0) (y0 : c0 ≤ maxLen) (n0 : o0 = none → c0 = 0) (r0 : Ne.ARow w o0 a0.l) (hv : Txt.Vars w) :
    Calls Tryd.prog 4 #[Ne.encN a0 o0 c0] w fun e w' => e = .returned (.bool true) ∧ Below w.heap.size w w' := by
  have HBA := Lib.hid (show Below w.heap.size w (w.alloc (.cells #[.int .i64 a0.n, .int .i64 a0.s, .int .i64 a0.t, .slice o0 a0.l.length c0] 25)) from (Below.refl _ _).alloc (Nat.le_refl _) _)
  have HNA := Lib.hid (Ne.netBox_new w a0.n a0.s a0.t (.slice o0 a0.l.length c0))
  have HS := Lib.hid fun w' (h : Txt.Vars w') => Dm.shown_any w' h
  have HV := Lib.hid hv
  have HR := Lib.hid r0
  have HOK := Lib.hid k0
  clear hv r0 k0
  by_cases hl : a0.l.length ≤ 300
  case neg =>
    have hl' : (300 : Int) < (a0.l.length : Int) := by omega
    clear hl
    go_enter Tryd.func4, Tryd.ntmps4
    go_wp2_with fail
    refine (HS.out _ (HV.out.below HBA.out)).mono ?_
    rintro e w1 ⟨rfl, hb⟩
    have HB := Lib.hid (HBA.out.trans (hb.mono HBA.out.size))
    obtain ⟨m0, m1, m2, m3⟩ := Ne.netBox_cells (Ne.netBox_below HNA.out hb (Ne.netBox_lt HNA.out))
    clear hb
    go_wp2
    go_ret
    exact ⟨rfl, HB.out⟩
  have hl' : ¬ (300 : Int) < (a0.l.length : Int) := by omega
  have HP := Lib.hid fun w' (h : Ne.ARow w' o0 a0.l) (h2 : Txt.Vars w') => Dm.print_any a0 o0 c0 w' h (by omega) HOK.out h2
  have HQ := Lib.hid fun w' (h : Ne.ARow w' o0 a0.l) => Dm.rprint_any a0 o0 c0 w' h (by omega) HOK.out
  generalize Dm.prtS a0 = T at *
  generalize Dm.prtE a0 = E at *
  clear hl
  go_enter Tryd.func4, Tryd.ntmps4
  go_wp2_with fail
  refine (HS.out _ (HV.out.below HBA.out)).mono ?_
  rintro e w1 ⟨rfl, hb⟩
  have HB1 := Lib.hid (HBA.out.trans (hb.mono HBA.out.size))
  have HN1 := Lib.hid (Ne.netBox_below HNA.out hb (Ne.netBox_lt HNA.out))
  obtain ⟨m0, m1, m2, m3⟩ := Ne.netBox_cells HN1.out
  clear hb
  go_wp2_with fail
  refine (HP.out _ (HR.out.kept HB1.out) (HV.out.below HB1.out)).mono ?_
  rintro e w2 ⟨rfl, hb⟩
  have HB2 := Lib.hid (HB1.out.trans (hb.mono HB1.out.size))
  have HN2 := Lib.hid (Ne.netBox_below HN1.out hb (Ne.netBox_lt HN1.out))
  clear hb m0 m1 m2 m3
  obtain ⟨m0, m1, m2, m3⟩ := Ne.netBox_cells HN2.out
  go_wp2_with fail
  refine (HQ.out _ (HR.out.kept HB2.out)).mono ?_
  rintro e w3 ⟨rfl, hb⟩
  have HB3 := Lib.hid (HB2.out.trans (hb.mono HB2.out.size))
  clear hb m0 m1 m2 m3
  have hT : (T == T) = true := by simp
  have hE : (E == E) = true := by simp
  go_wp2
  go_ret
  exact ⟨rfl, HB3.out⟩

end Go.Proofs.YtaepoddmonijkaaDoor.dimacsPrints
