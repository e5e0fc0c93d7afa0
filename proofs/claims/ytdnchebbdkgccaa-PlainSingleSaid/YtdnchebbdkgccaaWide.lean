/-
  Contract of level.wide: the tracks of a room of least or more, or what is wrong. Condition: at most a million arcs, capacities of 64 bits.
-/
import Derived.Test.YtdnchebbdkgccaaRtm
import Derived.Test.YtdnchebbdkgccaaRfl6
namespace Go.Proofs.Ytdnchebbdkgccaa
open Go.ChangeShapes Go.WideShapes Go.ChangeAt Go.RowKit
set_option linter.unusedVariables false
set_option linter.unusedSimpArgs false
namespace Ne
theorem ret2z {v : Value} {a b : Int} (h : a = b) : Ending.returned (.tuple #[v, .int .i64 a]) = .returned (.tuple #[v, .int .i64 b]) := by rw [h]
/-- what wide answers -/
def wideV (n : Net) (f : List Int) (x : Int) : List Nat := if reE n f x ≠ 0 then [] else wideL n.l f x (2 * n.l.length)
set_option maxRecDepth 100000 in
set_option maxHeartbeats 2000000 in
theorem wide_any (n : Net) (ao : Option Addr) (cap : Nat) (fo : Option Addr) (fc : Nat) (f : List Int) (x : Int) (w : World) (hr : ARow w ao n.l) (hf : IRow w fo f) (hl : n.l.length ≤ 1000000) (hok : ∀ a ∈ n.l, in64 a.cap) :
    Calls Try.prog 42 #[encN n ao cap, .slice fo f.length fc, .int .i64 x] w fun e w' => ∃ v, e = .returned (.tuple #[v, .int .i64 (reE n f x)]) ∧ OwnI w' w.heap.size v (encW (wideV n f x)) ∧ Below w.heap.size w w' := by
  have RE := Lib.hid (fun w' (h1 : ARow w' ao n.l) (h2 : IRow w' fo f) => dreach_any n ao cap fo fc f x w' h1 h2 hl hok)
  have RM := Lib.hid (fun w' (h1 : ARow w' ao n.l) (h2 : IRow w' fo f) => droom_s n ao cap fo fc f w' h1 h2 hl hok)
  by_cases c0 : reE n f x = 0
  case neg =>
    have HV := Lib.hid (show wideV n f x = [] by unfold wideV; rw [if_pos c0])
    rw [HV.out]
    generalize hRA : ReachAns n f x = RA at *
    generalize reE n f x = E at *
    clear hRA RM HV
    generalize f.length = fl at *
    obtain ⟨nn, ns, nt, l⟩ := n
    simp only at hr RE ⊢
    have HB0 := Lib.hid ((Below.refl w.heap.size w).alloc (Nat.le_refl _) (.cells #[.int .i64 nn, .int .i64 ns, .int .i64 nt, .slice ao l.length cap] 24))
    have HR := Lib.hid (hr.kept HB0.out)
    have HF := Lib.hid (hf.kept HB0.out)
    have c1' : (E == 0) = false := by simpa using c0
    have c1n : (E != 0) = true := by simpa using c0
    clear hr hf c0
    go_enter Try.func42, Try.ntmps42
    go_wp2_with fail
    refine (RE.out _ HR.out HF.out).mono ?_
    rintro e w1 ⟨o, c, M, rfl, _, hb⟩
    have HB1 := Lib.hid (HB0.out.trans (hb.mono (by simp)))
    clear hb
    go_wp2
    go_ret2
    exact ⟨.slice none 0 0, rfl, Rw.own_nil _ _, HB1.out⟩
  obtain ⟨hc0, hx1⟩ := reE_ok c0
  have HV := Lib.hid (show wideV n f x = wideL n.l f x (2 * n.l.length) by unfold wideV; rw [if_neg (by simpa using c0)])
  rw [HV.out, c0]
  rw [c0] at RE
  rw [show roomV n f = roomL n.l f (2 * n.l.length) by unfold roomV; rw [if_neg (by simpa using hc0)], roomL_len, hc0] at RM
  have HHIT := Lib.hid (fun (k : Nat) (h : x ≤ roomN n.l f k) => show encW (wideL n.l f x (k + 1)) = encW (wideL n.l f x k) ++ [(k : Int)] by rw [wideL_hit h, encW_snoc])
  have HMISS := Lib.hid (fun (k : Nat) (h : ¬ x ≤ roomN n.l f k) => show encW (wideL n.l f x (k + 1)) = encW (wideL n.l f x k) by rw [wideL_miss h])
  have HFL := Lib.hid (fun (k : Nat) => show (encW (wideL n.l f x k)).length ≤ k by rw [encW_len]; exact wideL_len _ _ _ _)
  have HF0 := Lib.hid (show encW (wideL n.l f x 0) = [] from rfl)
  have HRA := Lib.hid (fun i (h : i < 2 * n.l.length) => roomL_at n.l f h)
  have HRN := Lib.hid (roomL_len n.l f (2 * n.l.length))
  obtain ⟨FL, hFL⟩ : ∃ FL, FL = fun k => encW (wideL n.l f x k) := ⟨_, rfl⟩
  simp only [show ∀ k, encW (wideL n.l f x k) = FL k from fun k => by rw [hFL]] at HHIT HMISS HFL HF0 ⊢
  clear hFL HV c0 hc0 hx1
  generalize hRW : ReachAns n f x = RW at *
  clear hRW
  generalize roomL n.l f (2 * n.l.length) = RL at *
  generalize roomN n.l f = RO at *
  generalize f.length = fl at *
  obtain ⟨nn, ns, nt, l⟩ := n
  simp only at hr hl RE RM HRA HRN ⊢
  have HB0 := Lib.hid ((Below.refl w.heap.size w).alloc (Nat.le_refl _) (.cells #[.int .i64 nn, .int .i64 ns, .int .i64 nt, .slice ao l.length cap] 24))
  have HN0 := Lib.hid (netBox_new w nn ns nt (.slice ao l.length cap))
  have HR := Lib.hid (hr.kept HB0.out)
  have HF := Lib.hid (hf.kept HB0.out)
  clear hr hf
  go_enter Try.func42, Try.ntmps42
  go_wp2_with fail
  refine (RE.out _ HR.out HF.out).mono ?_
  rintro e w1 ⟨o1, c1, M1, rfl, _, hb⟩
  have HB1 := Lib.hid (HB0.out.trans (hb.mono (by simp)))
  have HN1 := Lib.hid (netBox_below HN0.out hb (by simp))
  have HR1 := Lib.hid (HR.out.kept hb)
  have HF1 := Lib.hid (HF.out.kept hb)
  obtain ⟨n0, n1, n2, n3⟩ := netBox_cells HN1.out
  clear hb HB0 HN0 HR HF RE
  go_wp2_with fail
  refine (RM.out _ HR1.out HF1.out).mono ?_
  rintro e WX ⟨o2, c2, rfl, hi, hb⟩
  have HBX := Lib.hid (HB1.out.trans (hb.mono HB1.out.size))
  have HRI := Lib.hid hi
  clear hb hi n0 n1 n2 n3 HB1 HN1 HR1 HF1 RM
  obtain ⟨m, hm⟩ : ∃ m, m = 2 * l.length := ⟨_, rfl⟩
  have hml : m ≤ 2000000 := by omega
  rw [← hm] at HRA HRN ⊢
  have HM := Lib.hid hm
  clear hm
  go_wp2
  go_loopw [12, 33] (fun s i wr => ∃ (v : Value) (j : Nat), v = s ∧ i = .int .i64 j ∧ j ≤ m ∧ Hid (OwnI wr WX.heap.size v (FL j)) ∧ Hid (Below WX.heap.size WX wr)) (fun _ i _ => m - (intOf i).toNat)
  case atStart => exact ⟨_, 0, rfl, rfl, Nat.zero_le _, Lib.hid (by rw [HF0.out]; exact Rw.own_nil _ _), Lib.hid (Below.refl _ _)⟩
  case round =>
    obtain ⟨v, j, rfl, rfl, hj, HOW, HBW⟩ := hrel
    by_cases hlt : j < m
    · have hji : (j : Int) < (m : Int) := by omega
      have hj0 : (0 : Int) ≤ (j : Int) := by omega
      obtain ⟨b2, off2, rfl, hbl2, d0⟩ := irow_cell (HRI.out.kept HBW.out) (i := j) (by rw [HRN.out]; exact hlt)
      rw [HRA.out j hlt] at d0
      have HH := Lib.hid (HHIT.out j)
      have HMS := Lib.hid (HMISS.out j)
      have HLN := Lib.hid (show (FL j).length + ([(j : Int)] : List Int).length ≤ 1099511627776 by have := HFL.out j; simp; omega)
      generalize RO j = ro at *
      by_cases c : x ≤ ro
      · have HST := Lib.hid (HH.out c)
        have c' : decide (x ≤ ro) = true := by simpa using c
        have HO3 := Lib.hid (Rw.own_alloc HOW.out (.cells #[.int .i64 (j : Int)] 3))
        have HR3 := Lib.hid (irow_one' wr rfl (j : Int) 3)
        have hvb := Rw.own_block HOW.out
        have HB3 := Lib.hid (HBW.out.alloc HBW.out.size (.cells #[.int .i64 (j : Int)] 3))
        have HZ3 := Lib.hid HB3.out.size
        clear HH HMS c
        go_wp2_with (at_builtin; refine Rw.app elemI encI_len encI_one rfl (.tmp 41) (.tmp 43) rfl WX.heap.size _ (FL j) rfl HO3.out (some ⟨wr.heap.size, 0, none⟩) 1 [(j : Int)] rfl ?hnn HR3.out HLN.out ?hB ?_; (case hnn => (intro h; cases h)); (case hB => (exact HZ3.out)); intro v4 w4 hown4 hgr4; rw [← HST.out] at hown4; have HB4 := Lib.hid (HB3.out.grown hgr4 HZ3.out hvb); have HO4 := Lib.hid hown4; clear hown4 hgr4)
        go_roundw
        case rel => exact ⟨_, j + 1, rfl, by go_num, by omega, HO4, HB4⟩
        case measure => simp [intOf]; omega
      · have HST := Lib.hid (HMS.out (by omega))
        have c' : decide (x ≤ ro) = false := by simpa using c
        have HO4 := Lib.hid (show OwnI wr WX.heap.size v (FL (j + 1)) by rw [HST.out]; exact HOW.out)
        clear HH HMS c
        go_wp2
        go_roundw
        case rel => exact ⟨_, j + 1, rfl, by go_num, by omega, HO4, HBW⟩
        case measure => simp [intOf]; omega
    · have ej : j = m := by omega
      subst ej
      have HBE := Lib.hid (HBX.out.trans (HBW.out.mono HBX.out.size))
      have HOE := Lib.hid (Rw.own_base HOW.out (B' := w.heap.size) HBX.out.size)
      clear hlt hj
      go_wp2
      go_ret2
      exact ⟨_, rfl, by rw [← HM.out]; exact HOE.out, HBE.out⟩
end Ne
end Go.Proofs.Ytdnchebbdkgccaa
