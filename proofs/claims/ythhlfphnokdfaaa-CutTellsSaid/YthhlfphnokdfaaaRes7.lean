/-
  Contract of the developers' Reach; the head that all laws of stage 6 share. Condition: at most a million arcs, capacities of 64 bits.
-/
import Derived.Test.YthhlfphnokdfaaaRes4
import Derived.Test.YthhlfphnokdfaaaRes6
namespace Go.Proofs.Ythhlfphnokdfaaa
open Go.ChangeShapes Go.WideShapes Go.ChangeAt Go.RowKit
set_option linter.unusedVariables false
set_option linter.unusedSimpArgs false
namespace Ne
set_option maxRecDepth 100000 in
set_option maxHeartbeats 4000000 in
theorem dreach_any (n : Net) (ao : Option Addr) (cap : Nat) (fo : Option Addr) (fc : Nat) (f : List Int) (x : Int) (w : World) (hr : ARow w ao n.l) (hf : IRow w fo f) (hl : n.l.length ≤ 1000000) (hok : ∀ a ∈ n.l, in64 a.cap) :
    Calls Try.prog 28 #[encN n ao cap, .slice fo f.length fc, .int .i64 x] w fun e w' => ∃ o c M, e = .returned (.tuple #[.slice o M.length c, .int .i64 (reE n f x)]) ∧ ReachAns n f x w' o M ∧ Below w.heap.size w w' := by
  have CK := Lib.hid (fun w' (h1 : ARow w' ao n.l) (h2 : IRow w' fo f) => fchk_any n ao cap fo fc f w' h1 h2 hl hok)
  by_cases c0 : chkF n f = 0
  case neg =>
    have HE := Lib.hid (show reE n f x = chkF n f by unfold reE; rw [if_pos c0])
    have HNZ := Lib.hid (show reE n f x ≠ 0 by rw [HE.out]; exact c0)
    have HAN := Lib.hid (show ∀ w', ReachAns n f x w' none [] from fun w' => ⟨fun _ => rfl, fun h => absurd h HNZ.out⟩)
    generalize hRE : reE n f x = RE at *
    generalize hRA : ReachAns n f x = RA at *
    clear hRE hRA
    generalize chkF n f = c at *
    generalize f.length = fl at *
    obtain ⟨nn, ns, nt, l⟩ := n
    simp only at hr CK ⊢
    have HB0 := Lib.hid ((Below.refl w.heap.size w).alloc (Nat.le_refl _) (.cells #[.int .i64 nn, .int .i64 ns, .int .i64 nt, .slice ao l.length cap] 24))
    have c1' : (c == 0) = false := by simpa using c0
    have c1n : (c != 0) = true := by simpa using c0
    have HR := Lib.hid (hr.kept HB0.out)
    have HF := Lib.hid (hf.kept HB0.out)
    clear hr hf c0
    go_enter Try.func28, Try.ntmps28
    go_wp2_with fail
    refine (CK.out _ HR.out HF.out).mono ?_
    rintro e w1 ⟨rfl, hb⟩
    have HB1 := Lib.hid (HB0.out.trans (hb.mono (by simp)))
    clear hb
    go_wp2
    go_ret2
    exact ⟨none, 0, [], ret2w HE.out.symm, HAN.out _, HB1.out⟩
  obtain ⟨-, hR, hfl, hwi⟩ := chkA_ok (chkF_ok c0).1
  have HLO := Lib.hid (show x < 1 → reE n f x = 3 from fun h => by unfold reE; rw [if_neg (by simpa using c0), if_pos h])
  have HOK := Lib.hid (show 1 ≤ x → reE n f x = 0 from fun h => by unfold reE; rw [if_neg (by simpa using c0), if_neg (by omega)])
  have HAB := Lib.hid (show ∀ w', reE n f x ≠ 0 → ReachAns n f x w' none [] from fun w' h => ⟨fun _ => rfl, fun h2 => absurd h2 h⟩)
  have HAG := Lib.hid (show ∀ w' b M, reE n f x = 0 → IsReach n f x M → BBox w' b M → ReachAns n f x w' (some ⟨b, 0, none⟩) M from fun w' b M h h1 h2 => ⟨fun h3 => absurd h h3, fun _ => ⟨h1, b, rfl, h2⟩⟩)
  have HLN := Lib.hid (show ∀ M, IsReach n f x M → M.length = n.n.toNat + 1 from fun M h => h.len)
  rw [c0] at CK
  rw [hfl] at CK ⊢
  have RE1 := Lib.hid (fun w' h1 h2 => reached_any n ao cap fo fc f x w' h1 h2 hR hfl hwi)
  generalize hIR : IsReach n f x = IR at *
  generalize hRE : reE n f x = RE at *
  generalize hRW : ReachAns n f x = RW at *
  clear hR hfl hwi c0 hIR hRE hRW
  obtain ⟨nn, ns, nt, l⟩ := n
  simp only at hr hl CK RE1 HLN ⊢
  have HB0 := Lib.hid ((Below.refl w.heap.size w).alloc (Nat.le_refl _) (.cells #[.int .i64 nn, .int .i64 ns, .int .i64 nt, .slice ao l.length cap] 24))
  have HN0 := Lib.hid (netBox_new w nn ns nt (.slice ao l.length cap))
  have HR := Lib.hid (hr.kept HB0.out)
  have HF := Lib.hid (hf.kept HB0.out)
  clear hr hf hok
  go_enter Try.func28, Try.ntmps28
  go_wp2_with fail
  refine (CK.out _ HR.out HF.out).mono ?_
  rintro e w1 ⟨rfl, hb⟩
  have HB1 := Lib.hid (HB0.out.trans (hb.mono (by simp)))
  have HN1 := Lib.hid (netBox_below HN0.out hb (by simp))
  have HR1 := Lib.hid (HR.out.kept hb)
  have HF1 := Lib.hid (HF.out.kept hb)
  obtain ⟨n0, n1, n2, n3⟩ := netBox_cells HN1.out
  clear hb HB0 HN0 HR HF CK
  by_cases hx : x < 1
  · have HE := Lib.hid (HLO.out hx)
    have HA := Lib.hid (fun w' => HAB.out w' (by rw [HE.out]; decide))
    have hx' : decide (x < 1) = true := by simpa using hx
    clear hx
    go_wp2
    go_ret2
    exact ⟨none, 0, [], ret2w HE.out.symm, HA.out _, HB1.out⟩
  have hx' : decide (x < 1) = false := by simpa using hx
  have HE := Lib.hid (HOK.out (by omega))
  clear hx HLO HOK
  go_wp2_with fail
  refine (RE1.out _ HR1.out HF1.out).mono ?_
  rintro e w2 ⟨b, M, rfl, hi, hm, hb⟩
  have HB2 := Lib.hid (HB1.out.trans (hb.mono HB1.out.size))
  have HI := Lib.hid hi
  have HM := Lib.hid hm
  have HL := Lib.hid (HLN.out M hi)
  clear hb hi hm n0 n1 n2 n3
  go_wp2
  go_ret2
  exact ⟨some ⟨b, 0, none⟩, nn.toNat + 1, M, by rw [HL.out, HE.out]; rfl, HAG.out _ b M HE.out HI.out HM.out, HB2.out⟩
end Ne
end Go.Proofs.Ythhlfphnokdfaaa
