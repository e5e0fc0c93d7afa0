/-
  Contracts of the developers' Levels, Leads and Deep. Condition: at most a million arcs, capacities of 64 bits.
-/
import Derived.Test.YtdnchebbdkgccaaLvs
import Derived.Test.YtdnchebbdkgccaaRtm
import Derived.Test.YtdnchebbdkgccaaWide
namespace Go.Proofs.Ytdnchebbdkgccaa
open Go.ChangeShapes Go.WideShapes Go.ChangeAt Go.RowKit
set_option linter.unusedVariables false
set_option linter.unusedSimpArgs false
namespace Ne
section
variable (n : Net) (ao : Option Addr) (cap : Nat) (fo : Option Addr) (fc : Nat) (f : List Int) (x : Int) (L0 : List Int) (w : World) (hr : ARow w ao n.l) (hf : IRow w fo f) (hl : n.l.length ≤ 1000000) (hok : ∀ a ∈ n.l, in64 a.cap) (hL : reE n f x = 0 → IsLev n f x L0)
include hr hf hl hok hL
set_option maxRecDepth 100000 in
set_option maxHeartbeats 2000000 in
theorem dlevels_any : Calls Try.prog 41 #[encN n ao cap, .slice fo f.length fc, .int .i64 x] w fun e w' => ∃ o c, e = .returned (.tuple #[.slice o (lvV n f x L0).length c, .int .i64 (reE n f x)]) ∧ IRow w' o (lvV n f x L0) ∧ Below w.heap.size w w' := by
  have WD := Lib.hid (fun w' (h1 : ARow w' ao n.l) (h2 : IRow w' fo f) => wide_any n ao cap fo fc f x w' h1 h2 hl hok)
  by_cases c0 : reE n f x = 0
  case neg =>
    rw [(lvV_bad (L := L0) c0).1]
    generalize wideV n f x = WV at *
    generalize reE n f x = E at *
    clear hL
    generalize f.length = fl at *
    obtain ⟨nn, ns, nt, l⟩ := n
    simp only at hr WD ⊢
    have HB0 := Lib.hid ((Below.refl w.heap.size w).alloc (Nat.le_refl _) (.cells #[.int .i64 nn, .int .i64 ns, .int .i64 nt, .slice ao l.length cap] 24))
    have HR := Lib.hid (hr.kept HB0.out)
    have HF := Lib.hid (hf.kept HB0.out)
    have c1' : (E == 0) = false := by simpa using c0
    have c1n : (E != 0) = true := by simpa using c0
    clear hr hf c0
    go_enter Try.func41, Try.ntmps41
    go_wp2_with fail
    refine (WD.out _ HR.out HF.out).mono ?_
    rintro e w1 ⟨v, rfl, _, hb⟩
    have HB1 := Lib.hid (HB0.out.trans (hb.mono (by simp)))
    clear hb
    go_wp2
    go_ret2
    exact ⟨none, 0, rfl, .inl rfl, HB1.out⟩
  obtain ⟨hc0, hx1⟩ := reE_ok c0
  have hR := right_of (chkA_ok (chkF_ok hc0).1).1
  rw [(lvV_ok (L := L0) c0).1, c0]
  rw [c0, show wideV n f x = wideL n.l f x (2 * n.l.length) by unfold wideV; rw [if_neg (by simpa using c0)]] at WD
  have HLL := Lib.hid (hL c0).len
  have HL0 := Lib.hid (fun L (h : IsLev n f x L) => lev_one hR h (hL c0))
  have LV := Lib.hid (fun tk tc w' h1 h2 => levels_any n ao cap tk tc f x w' h1 h2 hR)
  have HTL := Lib.hid (encW_len (wideL n.l f x (2 * n.l.length)))
  generalize hIL : IsLev n f x = IL at *
  generalize encW (wideL n.l f x (2 * n.l.length)) = TW at *
  generalize (wideL n.l f x (2 * n.l.length)).length = tl at *
  clear hIL hL c0 hc0 hx1 hR
  generalize f.length = fl at *
  obtain ⟨nn, ns, nt, l⟩ := n
  simp only at hr WD LV HLL ⊢
  have HB0 := Lib.hid ((Below.refl w.heap.size w).alloc (Nat.le_refl _) (.cells #[.int .i64 nn, .int .i64 ns, .int .i64 nt, .slice ao l.length cap] 24))
  have HN0 := Lib.hid (netBox_new w nn ns nt (.slice ao l.length cap))
  have HR := Lib.hid (hr.kept HB0.out)
  have HF := Lib.hid (hf.kept HB0.out)
  clear hr hf
  go_enter Try.func41, Try.ntmps41
  go_wp2_with fail
  refine (WD.out _ HR.out HF.out).mono ?_
  rintro e w1 ⟨v, rfl, ho, hb⟩
  have HB1 := Lib.hid (HB0.out.trans (hb.mono (by simp)))
  have HN1 := Lib.hid (netBox_below HN0.out hb (by simp))
  have HR1 := Lib.hid (HR.out.kept hb)
  obtain ⟨to1, tc1, hv, _, _, _, hri, _, _⟩ := Rw.own_row encI_len ho
  rw [HTL.out] at hv
  subst hv
  have HRI := Lib.hid hri
  obtain ⟨n0, n1, n2, n3⟩ := netBox_cells HN1.out
  clear hb ho hri HB0 HN0 HR HF WD
  go_wp2_with fail
  refine (LV.out _ _ _ HR1.out HRI.out).mono ?_
  rintro e w2 ⟨g, L, rfl, hl1, hm, hb⟩
  have HB2 := Lib.hid (HB1.out.trans (hb.mono HB1.out.size))
  have HE := Lib.hid (HL0.out L hl1)
  have HM := Lib.hid hm
  clear hb hl1 hm n0 n1 n2 n3
  go_wp2
  go_ret2
  exact ⟨some ⟨g, 0, none⟩, nn.toNat + 1, by rw [HLL.out]; rfl, by rw [← HE.out]; exact HM.out.irow, HB2.out⟩
set_option maxRecDepth 100000 in
set_option maxHeartbeats 2000000 in
theorem ddeep_any : Calls Try.prog 23 #[encN n ao cap, .slice fo f.length fc, .int .i64 x] w fun e w' => e = .returned (.tuple #[.int .i64 (dpV n f x L0), .int .i64 (reE n f x)]) ∧ Below w.heap.size w w' := by
  have WD := Lib.hid (fun w' (h1 : ARow w' ao n.l) (h2 : IRow w' fo f) => dlevels_any n ao cap fo fc f x L0 w' h1 h2 hl hok hL)
  by_cases c0 : reE n f x = 0
  case neg =>
    rw [(lvV_bad (L := L0) c0).2.2]
    generalize lvV n f x L0 = WV at *
    generalize reE n f x = E at *
    clear hL
    generalize f.length = fl at *
    obtain ⟨nn, ns, nt, l⟩ := n
    simp only at hr WD ⊢
    have HB0 := Lib.hid ((Below.refl w.heap.size w).alloc (Nat.le_refl _) (.cells #[.int .i64 nn, .int .i64 ns, .int .i64 nt, .slice ao l.length cap] 24))
    have HR := Lib.hid (hr.kept HB0.out)
    have HF := Lib.hid (hf.kept HB0.out)
    have c1' : (E == 0) = false := by simpa using c0
    have c1n : (E != 0) = true := by simpa using c0
    clear hr hf c0
    go_enter Try.func23, Try.ntmps23
    go_wp2_with fail
    refine (WD.out _ HR.out HF.out).mono ?_
    rintro e w1 ⟨o, c, rfl, _, hb⟩
    have HB1 := Lib.hid (HB0.out.trans (hb.mono (by simp)))
    clear hb
    go_wp2
    go_ret2
    exact ⟨rfl, HB1.out⟩
  obtain ⟨hc0, hx1⟩ := reE_ok c0
  have hR := right_of (chkA_ok (chkF_ok hc0).1).1
  rw [(lvV_ok (L := L0) c0).2.2, c0]
  rw [c0, (lvV_ok (L := L0) c0).1] at WD
  have HLL := Lib.hid (hL c0).len
  rw [HLL.out] at WD
  have hN0 := hR.n0
  have hN1 := hR.n1
  have hT0 := hR.t0
  have hT1 := hR.t1
  clear hL c0 hc0 hx1 hR
  generalize f.length = fl at *
  obtain ⟨nn, ns, nt, l⟩ := n
  simp only at hr WD HLL hN0 hN1 hT0 hT1 ⊢
  obtain ⟨N, rfl⟩ : ∃ N : Nat, nn = (N : Int) := ⟨nn.toNat, by omega⟩
  obtain ⟨T, rfl⟩ : ∃ T : Nat, nt = (T : Int) := ⟨nt.toNat, by omega⟩
  simp only [Int.toNat_natCast] at HLL WD ⊢
  have HB0 := Lib.hid ((Below.refl w.heap.size w).alloc (Nat.le_refl _) (.cells #[.int .i64 (N : Int), .int .i64 ns, .int .i64 (T : Int), .slice ao l.length cap] 24))
  have HN0 := Lib.hid (netBox_new w (N : Int) ns (T : Int) (.slice ao l.length cap))
  have HR := Lib.hid (hr.kept HB0.out)
  have HF := Lib.hid (hf.kept HB0.out)
  clear hr hf
  go_enter Try.func23, Try.ntmps23
  go_wp2_with fail
  refine (WD.out _ HR.out HF.out).mono ?_
  rintro e w1 ⟨o, c, rfl, hi, hb⟩
  have HB1 := Lib.hid (HB0.out.trans (hb.mono (by simp)))
  have HN1 := Lib.hid (netBox_below HN0.out hb (by simp))
  obtain ⟨n0, n1, n2, n3⟩ := netBox_cells HN1.out
  obtain ⟨b1, o1, rfl, _, d0⟩ := irow_cell hi (i := T) (by rw [HLL.out]; omega)
  have hti : (T : Int) < (N : Int) + 1 := by omega
  have ht0 : (0 : Int) ≤ (T : Int) := by omega
  generalize hA : amt L0 T = a at *
  have HA := Lib.hid hA
  clear hA hb hi HB0 HN0 HR HF WD
  go_wp2
  go_ret2
  exact ⟨by rw [HA.out]; rfl, HB1.out⟩
end
theorem lvV_len {n : Net} {f : List Int} {x : Int} {L : List Int} (hL : reE n f x = 0 → IsLev n f x L) : (lvV n f x L).length ≤ 501 := by
  by_cases e : reE n f x = 0
  · rw [(lvV_ok e).1, (hL e).len]
    have := (right_of (chkA_ok (chkF_ok (reE_ok e).1).1).1).n1
    omega
  · rw [(lvV_bad e).1]; simp
theorem ldV_len (n : Net) (f : List Int) (x : Int) (L : List Int) : (ldV n f x L).length ≤ 2 * n.l.length := by
  unfold ldV; split
  · simp
  · exact leadL_len _ _ _ _ _
end Ne
end Go.Proofs.Ytdnchebbdkgccaa
