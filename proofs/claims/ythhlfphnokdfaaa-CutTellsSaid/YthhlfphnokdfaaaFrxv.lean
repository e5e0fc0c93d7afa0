/-
  Contracts of the document's Excess and Value. Condition: at most a million arcs, capacities of 64 bits.
-/
import Derived.Test.YthhlfphnokdfaaaFrck
namespace Go.Proofs.Ythhlfphnokdfaaa
open Go.ChangeShapes Go.WideShapes Go.ChangeAt Go.RowKit
set_option linter.unusedVariables false
set_option linter.unusedSimpArgs false
namespace Ne
section
variable (n : Net) (ao : Option Addr) (cap : Nat) (fo : Option Addr) (fc : Nat) (f : List Int) (w : World) (hr : ARow w ao n.l) (hf : IRow w fo f) (hl : n.l.length ≤ 1000000)
include hr hf hl
set_option maxRecDepth 100000 in
set_option maxHeartbeats 1000000 in
theorem rval_any : Calls Try.prog 37 #[encN n ao cap, .slice fo f.length fc] w fun e w' => e = .returned (.tuple #[.int .i64 (vaV n f), .int .i64 (chkF n f)]) ∧ Below w.heap.size w w' := by
  have AM := Lib.hid (fun w' (h1 : ARow w' ao n.l) (h2 : IRow w' fo f) => rchk_any n ao cap fo fc f w' h1 h2 hl)
  by_cases c0 : chkF n f = 0
  case neg =>
    have HV := Lib.hid (show vaV n f = 0 by unfold vaV; rw [if_pos c0])
    generalize vaV n f = R at *
    generalize chkF n f = c at *
    generalize f.length = fl at *
    obtain ⟨nn, ns, nt, l⟩ := n
    simp only at hr AM ⊢
    have HB0 := Lib.hid ((Below.refl w.heap.size w).alloc (Nat.le_refl _) (.cells #[.int .i64 nn, .int .i64 ns, .int .i64 nt, .slice ao l.length cap] 24))
    have HN0 := Lib.hid (netBox_new w nn ns nt (.slice ao l.length cap))
    have c1' : (c == 0) = false := by simpa using c0
    have c1n : (c != 0) = true := by simpa using c0
    have HR := Lib.hid (hr.kept HB0.out)
    have HF := Lib.hid (hf.kept HB0.out)
    clear hr hf c0
    go_enter Try.func37, Try.ntmps37
    go_wp2_with fail
    refine (AM.out _ HR.out HF.out).mono ?_
    rintro e w1 ⟨rfl, hb⟩
    have HB1 := Lib.hid (HB0.out.trans (hb.mono (by simp)))
    obtain ⟨n0, n1, n2, n3⟩ := netBox_cells (netBox_below HN0.out hb (by simp))
    clear hb
    go_wp2
    go_ret2
    exact ⟨ret2r HV.out.symm rfl, HB1.out⟩
  have HV := Lib.hid (show vaV n f = exc n.l f n.t by unfold vaV; rw [if_neg (by simpa using c0)])
  have c1 := (chkF_ok c0).1
  have XS := Lib.hid (fun w' (h1 : ARow w' ao n.l) (h2 : IRow w' fo f) => rexc_any n ao cap fo fc f n.t w' h1 h2 c1)
  rw [c0] at AM ⊢
  clear c0 c1
  generalize vaV n f = R at *
  generalize f.length = fl at *
  obtain ⟨nn, ns, nt, l⟩ := n
  simp only at hr AM XS HV ⊢
  have HB0 := Lib.hid ((Below.refl w.heap.size w).alloc (Nat.le_refl _) (.cells #[.int .i64 nn, .int .i64 ns, .int .i64 nt, .slice ao l.length cap] 24))
  have HN0 := Lib.hid (netBox_new w nn ns nt (.slice ao l.length cap))
  have HR := Lib.hid (hr.kept HB0.out)
  have HF := Lib.hid (hf.kept HB0.out)
  clear hr hf
  go_enter Try.func37, Try.ntmps37
  go_wp2_with fail
  refine (AM.out _ HR.out HF.out).mono ?_
  rintro e w1 ⟨rfl, hb⟩
  have HB1 := Lib.hid (HB0.out.trans (hb.mono (by simp)))
  have HR1 := Lib.hid (HR.out.kept hb)
  have HF1 := Lib.hid (HF.out.kept hb)
  obtain ⟨n0, n1, n2, n3⟩ := netBox_cells (netBox_below HN0.out hb (by simp))
  clear hb
  go_wp2_with fail
  refine (XS.out _ HR1.out HF1.out).mono ?_
  rintro e w2 ⟨rfl, hb⟩
  have HB2 := Lib.hid (HB1.out.trans (hb.mono HB1.out.size))
  clear hb n0 n1 n2 n3
  go_wp2
  go_ret2
  exact ⟨ret2r HV.out.symm rfl, HB2.out⟩
end
end Ne
end Go.Proofs.Ythhlfphnokdfaaa
