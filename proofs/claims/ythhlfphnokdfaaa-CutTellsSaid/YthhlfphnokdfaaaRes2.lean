/-
  Contracts of Room and From, the developers' and the document's. Condition: at most a million arcs, capacities of 64 bits. (Written by wip/tools/gen-Res2.py.)
-/
import Derived.Test.YthhlfphnokdfaaaRes1
import Derived.Test.YthhlfphnokdfaaaWalkd
namespace Go.Proofs.Ythhlfphnokdfaaa
open Go.ChangeShapes Go.WideShapes Go.ChangeAt Go.RowKit
set_option linter.unusedVariables false
set_option linter.unusedSimpArgs false
namespace Ne
def roomV (n : Net) (f : List Int) : List Int := if chkF n f ≠ 0 then [] else roomL n.l f (2 * n.l.length)
theorem room_64 {n : Net} (hR : Right n) {f : List Int} (hw : wi n.l f) {r : Nat} (h : r < 2 * n.l.length) : in64 (roomN n.l f r) := by
  have h1 := room_nn hw h
  have h2 := cap_topR hR (i := r / 2) (by omega)
  unfold in64; omega
set_option maxRecDepth 100000 in
set_option maxHeartbeats 2000000 in
theorem droom_any (n : Net) (ao : Option Addr) (cap : Nat) (fo : Option Addr) (fc : Nat) (f : List Int) (w : World) (hr : ARow w ao n.l) (hf : IRow w fo f) (hl : n.l.length ≤ 1000000) (hok : ∀ a ∈ n.l, in64 a.cap) :
    Calls Try.prog 32 #[encN n ao cap, .slice fo f.length fc] w fun e w' => ∃ v, e = .returned (.tuple #[v, .int .i64 (chkF n f)]) ∧ OwnL w' w.heap.size v (roomV n f) ∧ Below w.heap.size w w' := by
  have CK := Lib.hid (fun w' (h1 : ARow w' ao n.l) (h2 : IRow w' fo f) => fchk_any n ao cap fo fc f w' h1 h2 hl hok)
  by_cases c0 : chkF n f = 0
  case neg =>
    have HE := Lib.hid (show roomV n f = [] by unfold roomV; rw [if_pos c0])
    generalize roomV n f = RV at *
    generalize chkF n f = c at *
    generalize f.length = fl at *
    obtain ⟨nn, ns, nt, l⟩ := n
    simp only at hr CK ⊢
    have HB0 := Lib.hid ((Below.refl w.heap.size w).alloc (Nat.le_refl _) (.cells #[.int .i64 nn, .int .i64 ns, .int .i64 nt, .slice ao l.length cap] 24))
    have c1' : (c == 0) = false := by simpa using c0
    have c1n : (c != 0) = true := by simpa using c0
    have HR := Lib.hid (hr.kept HB0.out)
    have HF := Lib.hid (hf.kept HB0.out)
    clear hr hf c0
    go_enter Try.func32, Try.ntmps32
    go_wp2_with fail
    refine (CK.out _ HR.out HF.out).mono ?_
    rintro e w1 ⟨rfl, hb⟩
    have HB1 := Lib.hid (HB0.out.trans (hb.mono (by simp)))
    clear hb
    go_wp2
    go_ret2
    exact ⟨_, rfl, by rw [HE.out]; exact Rw.own_nil _ _, HB1.out⟩
  have HRV := Lib.hid (show roomV n f = roomL n.l f (2 * n.l.length) by unfold roomV; rw [if_neg (by simpa using c0)])
  obtain ⟨-, RT, hfl, hwi⟩ := chkA_ok (chkF_ok c0).1
  rw [c0] at CK ⊢
  rw [hfl] at CK ⊢
  have HRM := Lib.hid (fun (r : Nat) w' (h : r < 2 * n.l.length) h1 h2 => room_any n ao cap fo fc f r w' h1 h2 hl hfl h (room_64 RT hwi h))
  have HTR := Lib.hid (fun w' => tracks_any n ao cap w' hl)
  have HRS := Lib.hid (fun k => roomL_succ n.l f k)
  have HRN := Lib.hid (fun k => roomL_len n.l f k)
  have HR0 := Lib.hid (show roomL n.l f 0 = [] from rfl)
  have HEV := Lib.hid (fun i => room_even n.l f i)
  have HOD := Lib.hid (fun i => room_odd n.l f i)
  have HR64 := Lib.hid (fun (r : Nat) (h : r < 2 * n.l.length) => room_64 RT hwi h)
  have HFL := Lib.hid hfl
  have hLL := RT.len
  generalize roomV n f = RV at *
  generalize roomL n.l f = RL at *
  generalize roomN n.l f = RO at *
  clear c0 RT hwi hfl
  obtain ⟨nn, ns, nt, l⟩ := n
  simp only at hr hl CK HRM HTR HRV HEV HFL hLL HR64 ⊢
  have HB0 := Lib.hid ((Below.refl w.heap.size w).alloc (Nat.le_refl _) (.cells #[.int .i64 nn, .int .i64 ns, .int .i64 nt, .slice ao l.length cap] 24))
  have HN0 := Lib.hid (netBox_new w nn ns nt (.slice ao l.length cap))
  have HR := Lib.hid (hr.kept HB0.out)
  have HF := Lib.hid (hf.kept HB0.out)
  clear hr hf
  go_enter Try.func32, Try.ntmps32
  go_wp2_with fail
  refine (CK.out _ HR.out HF.out).mono ?_
  rintro e w1 ⟨rfl, hb⟩
  have HB1 := Lib.hid (HB0.out.trans (hb.mono (by simp)))
  have HN1 := Lib.hid (netBox_below HN0.out hb (by simp))
  have HR1 := Lib.hid (HR.out.kept hb)
  have HF1 := Lib.hid (HF.out.kept hb)
  obtain ⟨n0, n1, n2, n3⟩ := netBox_cells HN1.out
  clear hb
  go_wp2_with fail
  refine (HTR.out _).mono ?_
  rintro e WX ⟨rfl, hb⟩
  have HBX := Lib.hid (HB1.out.trans (hb.mono HB1.out.size))
  have HNX := Lib.hid (netBox_below HN1.out hb (netBox_lt HN1.out))
  have HRX := Lib.hid (HR1.out.kept hb)
  have HFX := Lib.hid (HF1.out.kept hb)
  clear hb n0 n1 n2 n3 HB0 HB1 HN0 HN1 HR HR1 HF HF1 CK HTR
  go_wp2
  go_loopw [7, 17] (fun s i wr => ∃ (v : Value) (j : Nat), v = s ∧ i = .int .i64 j ∧ j ≤ 2 * l.length ∧ Hid (OwnL wr WX.heap.size v (RL j)) ∧ Hid (Below WX.heap.size WX wr)) (fun _ i _ => 2 * l.length - (intOf i).toNat)
  case atStart => exact ⟨_, 0, rfl, rfl, Nat.zero_le _, Lib.hid (by rw [HR0.out]; exact Rw.own_nil _ _), Lib.hid (Below.refl _ _)⟩
  case round =>
    obtain ⟨v, j, rfl, rfl, hj, HOW, HBW⟩ := hrel
    by_cases hlt : j < 2 * l.length
    · obtain ⟨n0, n1, n2, n3⟩ := netBox_cells (netBox_below HNX.out HBW.out (netBox_lt HNX.out))
      have hji : (j : Int) < 2 * (l.length : Int) := by omega
      have hj0 : (0 : Int) ≤ (j : Int) := by omega
      have RM := Lib.hid (fun w' => HRM.out j w' hlt)
      have HST := Lib.hid (HRS.out j)
      have HLN := Lib.hid (show (RL j).length + ([RO j] : List Int).length ≤ 1099511627776 by rw [HRN.out]; simp; omega)
      generalize RO j = x at *
      go_wp2_with fail
      refine (RM.out _ (HRX.out.kept HBW.out) (HFX.out.kept HBW.out)).mono ?_
      rintro e w2 ⟨rfl, hb⟩
      have HB2 := Lib.hid (HBW.out.trans (hb.mono HBW.out.size))
      have HO3 := Lib.hid (Rw.own_alloc (Rw.own_below HOW.out hb) (.cells #[.int .i64 x] 2))
      have HR3 := Lib.hid (irow_one' w2 rfl x 2)
      have hvb := Rw.own_block HOW.out
      have HB3 := Lib.hid (HB2.out.alloc HB2.out.size (.cells #[.int .i64 x] 2))
      have HZ3 := Lib.hid HB3.out.size
      clear hb
      go_wp2_with (at_builtin; refine Rw.app elemL encI_len encI_one rfl (.tmp 20) (.tmp 25) rfl WX.heap.size _ (RL j) rfl HO3.out (some ⟨w2.heap.size, 0, none⟩) 1 [x] rfl ?hnn HR3.out HLN.out ?hB ?_; (case hnn => (intro h; cases h)); (case hB => (exact HZ3.out)); intro v4 w4 hown4 hgr4; rw [← HST.out] at hown4; have HB4 := Lib.hid (HB3.out.grown hgr4 HZ3.out hvb); have HO4 := Lib.hid hown4; clear hown4 hgr4)
      go_roundw
      case rel => exact ⟨_, j + 1, rfl, by go_num, by omega, HO4, HB4⟩
      case measure => simp [intOf]; omega
    · have ej : j = 2 * l.length := by omega
      subst ej
      have HBE := Lib.hid (HBX.out.trans (HBW.out.mono HBX.out.size))
      have HOE := Lib.hid (Rw.own_base HOW.out (B' := w.heap.size) HBX.out.size)
      clear hlt hj
      go_wp2
      go_ret2
      exact ⟨_, rfl, by rw [HRV.out]; exact HOE.out, HBE.out⟩
end Ne
end Go.Proofs.Ythhlfphnokdfaaa
