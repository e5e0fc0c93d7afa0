/-
  Contracts of the document's Check, Excess and Value. Condition: at most a million arcs.
-/
import Derived.Test.YthhlfphnokdfaaaFwit
import Derived.Test.YthhlfphnokdfaaaFrex
import Derived.Test.YthhlfphnokdfaaaNets
namespace Go.Proofs.Ythhlfphnokdfaaa
open Go.ChangeShapes Go.WideShapes Go.ChangeAt Go.RowKit
set_option linter.unusedVariables false
set_option linter.unusedSimpArgs false
namespace Ne
theorem ret2r {a b c d : Int} (h1 : a = c) (h2 : b = d) : Ending.returned (.tuple #[.int .i64 a, .int .i64 b]) = .returned (.tuple #[.int .i64 c, .int .i64 d]) := by rw [h1, h2]
section
variable (n : Net) (ao : Option Addr) (cap : Nat) (fo : Option Addr) (fc : Nat) (f : List Int) (w : World) (hr : ARow w ao n.l) (hf : IRow w fo f) (hl : n.l.length ≤ 1000000)
include hr hf hl
set_option maxRecDepth 100000 in
set_option maxHeartbeats 1000000 in
theorem rchk_any : Calls Try.prog 47 #[encN n ao cap, .slice fo f.length fc] w fun e w' => e = .returned (.int .i64 (chkF n f)) ∧ Below w.heap.size w w' := by
  have AM := Lib.hid (fun w' (h1 : ARow w' ao n.l) (h2 : IRow w' fo f) => within_any n ao cap fo fc f w' h1 h2 hl)
  by_cases c0 : chkA n f = 0
  case neg =>
    have HE := Lib.hid (show chkF n f = chkA n f by unfold chkF; rw [if_pos c0])
    generalize chkF n f = R at *
    generalize chkA n f = c at *
    generalize f.length = fl at *
    obtain ⟨nn, ns, nt, l⟩ := n
    simp only at hr AM ⊢
    have HB0 := Lib.hid ((Below.refl w.heap.size w).alloc (Nat.le_refl _) (.cells #[.int .i64 nn, .int .i64 ns, .int .i64 nt, .slice ao l.length cap] 24))
    have HN0 := Lib.hid (netBox_new w nn ns nt (.slice ao l.length cap))
    have c1' : (c == 0) = false := by simpa using c0
    have c1n : (c != 0) = true := by simpa using c0
    have HR := Lib.hid (hr.kept HB0.out)
    have HF := Lib.hid (hf.kept HB0.out)
    clear hr hf c0
    go_enter Try.func47, Try.ntmps47
    go_wp2_with fail
    refine (AM.out _ HR.out HF.out).mono ?_
    rintro e w1 ⟨rfl, hb⟩
    have HB1 := Lib.hid (HB0.out.trans (hb.mono (by simp)))
    obtain ⟨n0, n1, n2, n3⟩ := netBox_cells (netBox_below HN0.out hb (by simp))
    clear hb
    go_wp2
    go_ret
    exact ⟨retI HE.out.symm, HB1.out⟩
  have HE := Lib.hid (show calm n f → chkF n f = 0 from fun h => chkF_in c0 h)
  have HE2 := Lib.hid (show ¬ calm n f → chkF n f = 9 from fun h => by unfold chkF; rw [if_neg (by simpa using c0), if_neg h])
  have XS := Lib.hid (fun v w' (h1 : ARow w' ao n.l) (h2 : IRow w' fo f) => rexc_any n ao cap fo fc f v w' h1 h2 c0)
  rw [c0] at AM
  obtain ⟨-, RT, -, -⟩ := chkA_ok c0
  have hN0 := RT.n0
  have hN1 := RT.n1
  have HX0 := Lib.hid (exc_out RT f (v := 0) (by omega))
  clear RT c0
  generalize chkF n f = R at *
  generalize f.length = fl at *
  obtain ⟨nn, ns, nt, l⟩ := n
  simp only at hr AM XS HE HE2 hN0 hN1 HX0 ⊢
  obtain ⟨N, rfl⟩ : ∃ N : Nat, nn = (N : Int) := ⟨nn.toNat, by omega⟩
  have HB0 := Lib.hid ((Below.refl w.heap.size w).alloc (Nat.le_refl _) (.cells #[.int .i64 (N : Int), .int .i64 ns, .int .i64 nt, .slice ao l.length cap] 24))
  have HN0 := Lib.hid (netBox_new w (N : Int) ns nt (.slice ao l.length cap))
  have HR := Lib.hid (hr.kept HB0.out)
  have HF := Lib.hid (hf.kept HB0.out)
  clear hr hf
  have HNS := Lib.hid (show calm ⟨N, ns, nt, l⟩ f ↔ ∀ v : Nat, v < N + 1 → (v : Int) ≠ ns → (v : Int) ≠ nt → exc l f v = 0 by unfold calm; simp only [Int.toNat_natCast])
  go_enter Try.func47, Try.ntmps47
  go_wp2_with fail
  refine (AM.out _ HR.out HF.out).mono ?_
  rintro e w1 ⟨rfl, hb⟩
  have HB1 := Lib.hid (HB0.out.trans (hb.mono (by simp)))
  have HN1 := Lib.hid (netBox_below HN0.out hb (by simp))
  have HR1 := Lib.hid (HR.out.kept hb)
  have HF1 := Lib.hid (HF.out.kept hb)
  clear hb HB0 HN0 HR HF AM
  go_wp2
  go_loopw [6] (fun i wr => ∃ k : Nat, i = .int .i64 k ∧ 1 ≤ k ∧ k ≤ N + 1 ∧ Hid (Below w.heap.size w wr) ∧ Hid (Below w1.heap.size w1 wr) ∧ Hid (∀ v : Nat, v < k → (v : Int) ≠ ns → (v : Int) ≠ nt → exc l f v = 0)) (fun i _ => N + 1 - (intOf i).toNat)
  case atStart => exact ⟨1, rfl, by omega, by omega, HB1, Lib.hid (Below.refl _ _), Lib.hid (fun v hv _ _ => by rw [show v = 0 by omega]; exact HX0.out)⟩
  case round =>
    obtain ⟨k, rfl, hk1, hk, HB, HBW, HW⟩ := hrel
    obtain ⟨n0, n1, n2, n3⟩ := netBox_cells (netBox_below HN1.out HBW.out (netBox_lt HN1.out))
    by_cases hlt : k < N + 1
    · have hki : (k : Int) ≤ (N : Int) := by omega
      have HST := Lib.hid (show ((k : Int) ≠ ns → (k : Int) ≠ nt → exc l f k = 0) → ∀ v : Nat, v < k + 1 → (v : Int) ≠ ns → (v : Int) ≠ nt → exc l f v = 0 from fun h v hv h1 h2 => by
        by_cases e : v = k
        · subst e; exact h h1 h2
        · exact HW.out v (by omega) h1 h2)
      have HBD := Lib.hid (show (k : Int) ≠ ns → (k : Int) ≠ nt → exc l f k ≠ 0 → R = 9 from fun h1 h2 h3 => HE2.out (fun hc => h3 ((HNS.out.1 hc) k hlt h1 h2)))
      have XK := Lib.hid (fun w' h1 h2 => XS.out (k : Int) w' h1 h2)
      generalize exc l f (k : Int) = x at *
      by_cases p1 : (k : Int) = ns
      · have p1' : ((k : Int) == ns) = true := by simpa using p1
        have p1n : ((k : Int) != ns) = false := by simpa using p1
        have HS2 := Lib.hid (HST.out (fun h => absurd p1 h))
        clear p1
        go_wp2
        go_roundw
        case rel => exact ⟨k + 1, by go_num, by omega, by omega, HB, HBW, HS2⟩
        case measure => simp [intOf]; omega
      · have p1' : ((k : Int) == ns) = false := by simpa using p1
        have p1n : ((k : Int) != ns) = true := by simpa using p1
        by_cases p2 : (k : Int) = nt
        · have p2' : ((k : Int) == nt) = true := by simpa using p2
          have p2n : ((k : Int) != nt) = false := by simpa using p2
          have HS2 := Lib.hid (HST.out (fun _ h => absurd p2 h))
          clear p1 p2
          go_wp2
          go_roundw
          case rel => exact ⟨k + 1, by go_num, by omega, by omega, HB, HBW, HS2⟩
          case measure => simp [intOf]; omega
        · have p2' : ((k : Int) == nt) = false := by simpa using p2
          have p2n : ((k : Int) != nt) = true := by simpa using p2
          by_cases p3 : x = 0
          · have p3' : (x == 0) = true := by simpa using p3
            have p3n : (x != 0) = false := by simpa using p3
            have HS2 := Lib.hid (HST.out (fun _ _ => p3))
            clear p1 p2 p3
            go_wp2_with fail
            refine (XK.out _ (HR1.out.kept HBW.out) (HF1.out.kept HBW.out)).mono ?_
            rintro e w2 ⟨rfl, hb⟩
            have HB2 := Lib.hid (HB.out.trans (hb.mono HB.out.size))
            have HW2 := Lib.hid (HBW.out.trans (hb.mono HBW.out.size))
            clear hb
            go_wp2
            go_roundw
            case rel => exact ⟨k + 1, by go_num, by omega, by omega, HB2, HW2, HS2⟩
            case measure => simp [intOf]; omega
          · have p3' : (x == 0) = false := by simpa using p3
            have p3n : (x != 0) = true := by simpa using p3
            have HR9 := Lib.hid (HBD.out p1 p2 p3)
            clear p1 p2 p3
            go_wp2_with fail
            refine (XK.out _ (HR1.out.kept HBW.out) (HF1.out.kept HBW.out)).mono ?_
            rintro e w2 ⟨rfl, hb⟩
            have HB2 := Lib.hid (HB.out.trans (hb.mono HB.out.size))
            clear hb
            go_wp2
            go_ret
            exact ⟨retI HR9.out.symm, HB2.out⟩
    · have ek : k = N + 1 := by omega
      have hki : ¬ (k : Int) ≤ (N : Int) := by omega
      have HR0 := Lib.hid (HE.out (HNS.out.2 (fun v hv => HW.out v (by omega))))
      clear ek
      go_wp2
      go_ret
      exact ⟨retI HR0.out.symm, HB.out⟩

end
end Ne
end Go.Proofs.Ythhlfphnokdfaaa
