/- DimacsParses: for every input the law returns true and its arguments read as they did. No condition. -/
import Derived.Test.YtaepoddmonijkaaDoorVars
import Derived.Test.YtaepoddmonijkaaDoorShown4
import Derived.Test.YtaepoddmonijkaaDoorRpars
import Derived.Test.YtaepoddmonijkaaDoorRsame
import Derived.Test.YtaepoddmonijkaaDoorDimn
import Derived.Test.YtaepoddmonijkaaDoorRows
import Derived.Test.YtaepoddmonijkaaDoorTie
import Derived.Test.YtaepoddmonijkaaDoorCards
import Derived.WalkKit
import Derived.ProofKit
import Derived.OpenShut
import Derived.ShutString
import Derived.ChangeOld
import Derived.Below
import Derived.Deep.Strs
import Derived.LaidMore
import Derived.Lay
import Derived.SevenTiedAt
import Derived.Stop.Joined
namespace Go.Proofs.YtaepoddmonijkaaDoor.dimacsParses
open Go.ChangeShapes Go.WideShapes Go.ChangeAt Go.RowKit
open Go.ChangeMaps (open_string shut_string)
set_option linter.unusedVariables false
set_option linter.unusedSimpArgs false

theorem own : ownKnob Tryd.prog.godebug = none := by kernel_rfl
theorem laidOut : laidOutB Tryd.prog = true := by kernel_rfl

theorem netRef (n : Ne.Net) : Ne.sameN n n = true := by simp [Ne.sameN]
theorem parse_len (s : List UInt8) (hs : s.length ≤ 1000000) : (Dm.parseN s).l.length ≤ 1000000 := by
  have h := Dm.parseN_le s
  omega

set_option maxRecDepth 100000 in
set_option maxHeartbeats 4000000 in
theorem walk (a0 : ByteArray) (w : World) (w0 : a0.size ≤ maxLen) (hv : Txt.Vars w) :
    Calls Tryd.prog 3 #[.string a0] w fun e w' => e = .returned (.bool true) ∧ Below w.heap.size w w' := by
  have HS := Lib.hid (Dm.shown_any w hv)
  have HV := Lib.hid hv
  clear hv
  by_cases hl : a0.size ≤ 4000
  case neg =>
    have hl' : (4000 : Int) < (a0.size : Int) := by omega
    clear hl
    go_enter Tryd.func3, Tryd.ntmps3
    go_wp2_with fail
    refine HS.out.mono ?_
    rintro e w1 ⟨rfl, hb⟩
    have HB := Lib.hid hb
    clear hb
    go_wp2
    go_ret
    exact ⟨rfl, HB.out⟩
  have hl' : ¬ (4000 : Int) < (a0.size : Int) := by omega
  have HP := Lib.hid fun w' (h : Txt.Vars w') => Dm.parse_any a0 w' (by omega) h
  have HQ := Lib.hid fun w' => Dm.rparse_any a0 w' (by omega)
  have HLN := Lib.hid (parse_len a0.data.toList (by rw [← Lib.size_eq]; omega))
  unfold Dm.Parsed at HP HQ
  obtain ⟨N, hN⟩ : ∃ N, N = Dm.parseN a0.data.toList := ⟨_, rfl⟩
  rw [← hN] at HP HQ HLN
  obtain ⟨n, s, t, l⟩ := N
  generalize (Dm.parseI a0.data.toList : Int) = I at *
  generalize Dm.parseE a0.data.toList = E at *
  clear hl hN
  go_enter Tryd.func3, Tryd.ntmps3
  go_wp2_with fail
  refine HS.out.mono ?_
  rintro e w1 ⟨rfl, hb⟩
  have HB1 := Lib.hid hb
  clear hb
  go_wp2_with fail
  refine (HP.out w1 (HV.out.below HB1.out)).mono ?_
  rintro e w2 ⟨o2, c2, rfl, _, _, _, hr2, hb⟩
  have HB2 := Lib.hid (HB1.out.trans (hb.mono HB1.out.size))
  have HR2 := Lib.hid hr2
  have HBA := Lib.hid ((Below.refl w2.heap.size w2).alloc (Nat.le_refl _) (.cells #[.int .i64 n, .int .i64 s, .int .i64 t, .slice o2 l.length c2] 25))
  have HNA := Lib.hid (Ne.netBox_new w2 n s t (.slice o2 l.length c2))
  clear hb hr2
  go_wp2_with fail
  refine (HQ.out _).mono ?_
  rintro e w3 ⟨o3, c3, rfl, _, _, _, hr3, hb⟩
  have HB3 := Lib.hid (HB2.out.trans ((HBA.out.trans (hb.mono HBA.out.size)).mono HB2.out.size))
  have HR2' := Lib.hid ((HR2.out.kept HBA.out).kept hb)
  have HNA' := Lib.hid (Ne.netBox_below HNA.out hb (Ne.netBox_lt HNA.out))
  have HR3 := Lib.hid hr3
  have HBC := Lib.hid ((Below.refl w3.heap.size w3).alloc (Nat.le_refl _) (.cells #[.int .i64 n, .int .i64 s, .int .i64 t, .slice o3 l.length c3] 25))
  have hnz : w2.heap.size < w3.heap.size := Ne.netBox_lt HNA'.out
  obtain ⟨n0, n1, n2, n3⟩ := Ne.netBox_cells (Ne.netBox_below HNA'.out HBC.out hnz)
  have HSM := Lib.hid (Ne.rsame_any ⟨n, s, t, l⟩ ⟨n, s, t, l⟩ o2 o3 c2 c3 (w3.alloc (.cells #[.int .i64 n, .int .i64 s, .int .i64 t, .slice o3 l.length c3] 25)) (HR2'.out.kept HBC.out) (HR3.out.kept HBC.out) HLN.out HLN.out)
  rw [netRef] at HSM
  have HB4 := Lib.hid (HB3.out.trans (HBC.out.mono HB3.out.size))
  clear hb hr3
  go_wp2_with fail
  refine HSM.out.mono ?_
  rintro e w4 ⟨rfl, hb⟩
  have HB5 := Lib.hid (HB4.out.trans (hb.mono HB4.out.size))
  clear hb
  have hI : (I == I) = true := by simp
  have hE : (E == E) = true := by simp
  go_wp2
  go_ret
  exact ⟨rfl, HB5.out⟩

end Go.Proofs.YtaepoddmonijkaaDoor.dimacsParses
