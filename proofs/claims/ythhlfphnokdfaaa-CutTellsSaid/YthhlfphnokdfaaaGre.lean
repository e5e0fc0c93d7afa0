/-
  The document's Reach. Condition: the rows lie in memory.
-/
import Derived.Test.YthhlfphnokdfaaaRes6
import Derived.Test.YthhlfphnokdfaaaGrm
import Derived.Test.YthhlfphnokdfaaaGen
import Derived.Test.YthhlfphnokdfaaaRes2
import Derived.Test.YthhlfphnokdfaaaRbox
import Derived.Deep.LoopGhost
namespace Go.Proofs.Ythhlfphnokdfaaa
open Go.ChangeShapes Go.WideShapes Go.ChangeAt Go.RowKit
set_option linter.unusedVariables false
set_option linter.unusedSimpArgs false
namespace Ne
set_option maxRecDepth 100000 in
set_option maxHeartbeats 4000000 in
theorem rreach_any (n : Net) (ao : Option Addr) (cap : Nat) (fo : Option Addr) (fc : Nat) (f : List Int) (x : Int) (w : World) (hr : ARow w ao n.l) (hf : IRow w fo f) (hl : n.l.length ≤ 1000000) :
    Calls Try.prog 31 #[encN n ao cap, .slice fo f.length fc, .int .i64 x] w fun e w' => ∃ o c M, e = .returned (.tuple #[.slice o M.length c, .int .i64 (reE n f x)]) ∧ ReachAns n f x w' o M ∧ Below w.heap.size w w' := by
  have RC := Lib.hid (fun w' (h1 : ARow w' ao n.l) (h2 : IRow w' fo f) => rroom_any n ao cap fo fc f w' h1 h2 hl)
  by_cases c0 : chkF n f = 0
  case neg =>
    have HE := Lib.hid (show reE n f x = chkF n f by unfold reE; rw [if_pos c0])
    have HNZ := Lib.hid (show reE n f x ≠ 0 by rw [HE.out]; exact c0)
    have HAN := Lib.hid (show ∀ w', ReachAns n f x w' none [] from fun w' => ⟨fun _ => rfl, fun h => absurd h HNZ.out⟩)
    generalize hRE : reE n f x = RE at *
    generalize hRA : ReachAns n f x = RA at *
    clear hRE hRA
    generalize roomV n f = RV at *
    generalize chkF n f = c at *
    generalize f.length = fl at *
    obtain ⟨nn, ns, nt, l⟩ := n
    simp only at hr RC ⊢
    have HB0 := Lib.hid ((Below.refl w.heap.size w).alloc (Nat.le_refl _) (.cells #[.int .i64 nn, .int .i64 ns, .int .i64 nt, .slice ao l.length cap] 24))
    have c1' : (c == 0) = false := by simpa using c0
    have c1n : (c != 0) = true := by simpa using c0
    have HR := Lib.hid (hr.kept HB0.out)
    have HF := Lib.hid (hf.kept HB0.out)
    clear hr hf c0
    go_enter Try.func31, Try.ntmps31
    go_wp2_with fail
    refine (RC.out _ HR.out HF.out).mono ?_
    rintro e w1 ⟨v, rfl, _, hb⟩
    have HB1 := Lib.hid (HB0.out.trans (hb.mono (by simp)))
    clear hb
    go_wp2
    go_ret2
    exact ⟨none, 0, [], ret2w HE.out.symm, HAN.out _, HB1.out⟩
  rw [c0] at RC
  have HRV := Lib.hid (show roomV n f = roomL n.l f (2 * n.l.length) by unfold roomV; rw [if_neg (by simpa using c0)])
  rw [HRV.out] at RC
  obtain ⟨-, hR, hfl, hwi⟩ := chkA_ok (chkF_ok c0).1
  have HLO := Lib.hid (show x < 1 → reE n f x = 3 from fun h => by unfold reE; rw [if_neg (by simpa using c0), if_pos h])
  have HOK := Lib.hid (show 1 ≤ x → reE n f x = 0 from fun h => by unfold reE; rw [if_neg (by simpa using c0), if_neg (by omega)])
  have HAB := Lib.hid (show ∀ w', reE n f x ≠ 0 → ReachAns n f x w' none [] from fun w' h => ⟨fun _ => rfl, fun h2 => absurd h2 h⟩)
  have HAG := Lib.hid (show ∀ w' b M, reE n f x = 0 → IsReach n f x M → BBox w' b M → ReachAns n f x w' (some ⟨b, 0, none⟩) M from fun w' b M h h1 h2 => ⟨fun h3 => absurd h h3, fun _ => ⟨h1, b, rfl, h2⟩⟩)
  have hLL := hR.len
  have hN0 := hR.n0
  have hN1 := hR.n1
  have hS0 := hR.s0
  have hS1 := hR.s1
  have HEN := Lib.hid (fun (j : Nat) (h : j < 2 * n.l.length) w' h1 => show Calls Try.prog 36 #[encN n ao cap, .int .i64 (j : Int)] w' fun e w2 => e = .returned (.tuple #[.int .i64 (((trF n.l j).toNat : Nat) : Int), .int .i64 (((trT n.l j).toNat : Nat) : Int)]) ∧ Below w'.heap.size w' w2 by
    have := rends_any n ao cap (j : Int) w' h1 hl (by unfold in64; omega)
    rw [enF_in h, enT_in h] at this
    have hb := trT_bd hR h
    have hb2 := trF_bd hR h
    rwa [show (((trT n.l j).toNat : Nat) : Int) = trT n.l j by omega, show (((trF n.l j).toNat : Nat) : Int) = trF n.l j by omega])
  have HTB := Lib.hid (fun (j : Nat) (h : j < 2 * n.l.length) => show (trF n.l j).toNat < n.n.toNat + 1 ∧ (trT n.l j).toNat < n.n.toNat + 1 by have := trT_bd hR h; have := trF_bd hR h; omega)
  have HRA := Lib.hid (fun i (h : i < 2 * n.l.length) => roomL_at n.l f h)
  have HRN := Lib.hid (roomL_len n.l f (2 * n.l.length))
  have HF0 := Lib.hid (fix_start hR f x)
  have HFS := Lib.hid (fun M (h : Fix n f x M) r (hr : r < 2 * n.l.length) h1 h2 h3 => fix_step hR h hr h1 h2 h3)
  have HFE := Lib.hid (fun M (h : Fix n f x M) hc => fix_end h hc)
  have HFN := Lib.hid (fun M (h : Fix n f x M) => h.len)
  generalize hFX : Fix n f x = FX at *
  generalize hIR : IsReach n f x = IR at *
  generalize hRE : reE n f x = RE at *
  generalize hRW : ReachAns n f x = RW at *
  generalize roomL n.l f (2 * n.l.length) = RL at *
  generalize roomN n.l f = RO at *
  generalize hTT : (fun j => (trT n.l j).toNat) = TT at *
  generalize hTF : (fun j => (trF n.l j).toNat) = TF at *
  have HTE := Lib.hid (show ∀ j, (trT n.l j).toNat = TT j from fun j => by rw [← hTT])
  have HTG := Lib.hid (show ∀ j, (trF n.l j).toNat = TF j from fun j => by rw [← hTF])
  clear hTT hTF hFX hIR hRE hRW
  simp only [HTE.out, HTG.out] at HEN HTB HFS HFE
  clear HTE HTG hR hfl hwi c0 HRV
  generalize f.length = fl at *
  obtain ⟨nn, ns, nt, l⟩ := n
  simp only at hr hl RC hLL hN0 hN1 hS0 hS1 HEN HTB HRA HRN HF0 HFS HFE HFN ⊢
  obtain ⟨N, rfl⟩ : ∃ N : Nat, nn = (N : Int) := ⟨nn.toNat, by omega⟩
  obtain ⟨S, rfl⟩ : ∃ S : Nat, ns = (S : Int) := ⟨ns.toNat, by omega⟩
  simp only [Int.toNat_natCast] at HTB HF0 HFN ⊢
  have hmk := make_b (N + 1) (by omega)
  simp only [Int.natCast_add, Int.natCast_one] at hmk
  have HB0 := Lib.hid ((Below.refl w.heap.size w).alloc (Nat.le_refl _) (.cells #[.int .i64 (N : Int), .int .i64 (S : Int), .int .i64 nt, .slice ao l.length cap] 24))
  have HN0 := Lib.hid (netBox_new w (N : Int) (S : Int) nt (.slice ao l.length cap))
  have HR := Lib.hid (hr.kept HB0.out)
  have HF := Lib.hid (hf.kept HB0.out)
  clear hr hf
  go_enter Try.func31, Try.ntmps31
  go_wp2_with fail
  refine (RC.out _ HR.out HF.out).mono ?_
  rintro e w1 ⟨v, rfl, ho, hb⟩
  have HB1 := Lib.hid (HB0.out.trans (hb.mono (by simp)))
  have HN1 := Lib.hid (netBox_below HN0.out hb (by simp))
  have HR1 := Lib.hid (HR.out.kept hb)
  obtain ⟨ro, rc, hv, _, _, _, hri, _, _⟩ := Rw.own_row encI_len ho
  rw [HRN.out] at hv
  subst hv
  have HRI := Lib.hid hri
  clear hb ho hri HB0 HN0 HR HF RC
  obtain ⟨n0, n1, n2, n3⟩ := netBox_cells HN1.out
  by_cases hx : x < 1
  · have HE := Lib.hid (HLO.out hx)
    have HA := Lib.hid (fun w' => HAB.out w' (by rw [HE.out]; decide))
    have hx' : decide (x < 1) = true := by simpa using hx
    clear hx hmk
    go_wp2
    go_ret2
    exact ⟨none, 0, [], ret2w HE.out.symm, HA.out _, HB1.out⟩
  have hx' : decide (x < 1) = false := by simpa using hx
  have HE := Lib.hid (HOK.out (by omega))
  clear hx HLO HOK
  have hsi : (S : Int) < (N : Int) + 1 := by omega
  have hs0 : (0 : Int) ≤ (S : Int) := by omega
  have HM1 := Lib.hid (bbox_made w1 (N + 1) (b := w1.heap.size) rfl)
  have hm1 := HM1.out.cell (i := S) (by simp; omega)
  have hf1 := HM1.out.frozen S
  have HN2 := Lib.hid (netBox_alloc HN1.out (.cells (madeCells #[.bool false] (N + 1)) 4))
  obtain ⟨m0, m1, m2, m3⟩ := netBox_cells HN2.out
  have HM2 := Lib.hid (HM1.out.set (i := S) (by simp; omega) true)
  have HB2 := Lib.hid ((((Below.refl w1.heap.size w1).alloc (Nat.le_refl _) (.cells (madeCells #[.bool false] (N + 1)) 4))).setCell (p := ⟨w1.heap.size, S, none⟩) (Nat.le_refl _) (.bool true))
  have HSN := Lib.hid (set_new w1 (madeCells #[.bool false] (N + 1)) 4 S (.bool true))
  rw [HSN.out] at HM2 HB2
  go_wp2
  clear hm1 hf1 m0 m1 m2 m3 n0 n1 n2 n3 hmk HM1 HN2 HSN
  obtain ⟨bm, hbm⟩ : ∃ b, b = w1.heap.size := ⟨_, rfl⟩
  rw [← hbm] at HM2 HB2 ⊢
  have HBM := Lib.hid hbm
  clear hbm
  generalize (w1.alloc (.cells ((madeCells #[.bool false] (N + 1)).setIfInBounds S (.bool true)) 4)) = W2 at *
  go_loopg [11] (2 * unmet ((List.replicate (N + 1) false).set S true) + 1) (fun g s wr => ∃ (M : List Bool) (mo : Bool), s = .bool mo ∧ g = 2 * unmet M + BOn mo ∧ Hid (FX M) ∧ Hid (BBox wr bm M) ∧ Hid (Below bm w1 wr) ∧ Hid (mo = false → ∀ r, r < 2 * l.length → x ≤ RO r → M.getD (TF r) false = true → M.getD (TT r) false = true))
  case atStart => exact ⟨_, true, rfl, rfl, HF0, HM2, HB2, Lib.hid (fun h => by cases h)⟩
  case round =>
    obtain ⟨M, mo, rfl, hgk, HFX, HMW, HBW, HCL⟩ := hrel
    have HGK := Lib.hid hgk
    clear hgk
    rcases mo with _ | _
    · have HI := Lib.hid (HFE.out M HFX.out (HCL.out rfl))
      have HLN := Lib.hid (HFN.out M HFX.out)
      have HBE := Lib.hid (HB1.out.trans (HBW.out.mono (by rw [HBM.out]; exact HB1.out.size)))
      go_wp2
      go_ret2
      exact ⟨some ⟨bm, 0, none⟩, N + 1, M, by rw [HLN.out, HE.out]; rfl, HAG.out _ bm M HE.out HI.out HMW.out, HBE.out⟩
    go_wp2
    go_loopg [11, 12] (2 * l.length) (fun g2 s i wy => ∃ (r : Nat) (M2 : List Bool) (m2 : Bool), s = .bool m2 ∧ i = .int .i64 r ∧ r + g2 = 2 * l.length ∧ Hid (FX M2) ∧ Hid (BBox wy bm M2) ∧ Hid (Below bm w1 wy) ∧ Hid (m2 = false → ∀ q, q < r → x ≤ RO q → M2.getD (TF q) false = true → M2.getD (TT q) false = true) ∧ Hid (2 * unmet M2 + BOn m2 < 2 * unmet M + 1))
    case atStart => exact ⟨0, M, false, rfl, rfl, by omega, HFX, HMW, HBW, Lib.hid (fun _ q hq => absurd hq (by omega)), Lib.hid (by simp [BOn])⟩
    case round =>
      obtain ⟨r, M2, m2, rfl, rfl, hrg, HFX2, HM2, HBY, HC2, HUN⟩ := hrel
      by_cases hlt : r < 2 * l.length
      · have hri : (r : Int) < 2 * (l.length : Int) := by omega
        have hr0 : (0 : Int) ≤ (r : Int) := by omega
        have HN3 := Lib.hid (netBox_below HN1.out HBY.out (by rw [HBM.out]; exact netBox_lt HN1.out))
        obtain ⟨n0, n1, n2, n3⟩ := netBox_cells HN3.out
        have EN := Lib.hid (fun w' => HEN.out r hlt w')
        obtain ⟨hta, htb⟩ := HTB.out r hlt
        have HRr := Lib.hid (HRA.out r hlt)
        have HST := Lib.hid (HFS.out M2 HFX2.out r hlt)
        have HC3 := Lib.hid (show (x ≤ RO r → M2.getD (TF r) false = true → M2.getD (TT r) false = true) → m2 = false → ∀ q, q < r + 1 → x ≤ RO q → M2.getD (TF q) false = true → M2.getD (TT q) false = true from fun h hm q hq => by
          by_cases e : q = r
          · subst e; exact h
          · exact HC2.out hm q (by omega))
        have HLN := Lib.hid (HFN.out M2 HFX2.out)
        generalize TF r = a at *
        generalize TT r = b at *
        have hai : (a : Int) < (N : Int) + 1 := by omega
        have ha0 : (0 : Int) ≤ (a : Int) := by omega
        have hbi : (b : Int) < (N : Int) + 1 := by omega
        have hb0 : (0 : Int) ≤ (b : Int) := by omega
        have hrl : r < RL.length := by rw [HRN.out]; exact hlt
        go_wp2_with fail
        refine (EN.out _ (HR1.out.kept (by have := HBY.out; rwa [HBM.out] at this))).mono ?_
        rintro e w3 ⟨rfl, hb⟩
        have HB3 := Lib.hid (HBY.out.trans (hb.mono (by have := HBY.out.size; have := HM2.out.lt; omega)))
        have HM3 := Lib.hid (HM2.out.kept hb)
        have HI3 := Lib.hid (HRI.out.kept (by have := HB3.out; rwa [HBM.out] at this))
        obtain ⟨b5, o5, rfl, _, d0⟩ := irow_cell HI3.out hrl
        rw [HRr.out] at d0
        generalize RO r = rr at *
        have ma := HM3.out.cell (i := a) (by rw [HLN.out]; exact hta)
        have mb := HM3.out.cell (i := b) (by rw [HLN.out]; exact htb)
        have mf := HM3.out.frozen b
        clear hb n0 n1 n2 n3
        by_cases p1 : x ≤ rr
        · have p1' : decide (x ≤ rr) = true := by simpa using p1
          rcases hA : M2.getD a false with _ | _
          · rw [hA] at ma
            have HC := Lib.hid (HC3.out (fun _ h => by rw [hA] at h; cases h))
            clear hA p1
            go_wp2
            go_roundg (2 * l.length - (r + 1))
            case measure => omega
            case rel => exact ⟨r + 1, M2, m2, rfl, by go_num, by omega, HFX2, HM3, HB3, HC, HUN⟩
          · rw [hA] at ma
            rcases hB : M2.getD b false with _ | _
            · rw [hB] at mb
              obtain ⟨k1, k2⟩ := HST.out p1 hA hB
              have K1 := Lib.hid k1
              have K2 := Lib.hid k2
              have HM4 := Lib.hid (HM3.out.set (i := b) (by rw [HLN.out]; exact htb) true)
              have HB4 := Lib.hid (HB3.out.setCell (p := ⟨bm, b, none⟩) (Nat.le_refl _) (.bool true))
              have HU4 := Lib.hid (show 2 * unmet (M2.set b true) + BOn true < 2 * unmet M + 1 by have := K2.out; have := HUN.out; unfold BOn at *; simp only [if_true]; split at this <;> omega)
              clear k1 k2 hA hB p1
              go_wp2
              go_roundg (2 * l.length - (r + 1))
              case measure => omega
              case rel => exact ⟨r + 1, M2.set b true, true, rfl, by go_num, by omega, K1, HM4, HB4, Lib.hid (fun h => by cases h), HU4⟩
            · rw [hB] at mb
              have HC := Lib.hid (HC3.out (fun _ _ => hB))
              clear hA hB p1
              go_wp2
              go_roundg (2 * l.length - (r + 1))
              case measure => omega
              case rel => exact ⟨r + 1, M2, m2, rfl, by go_num, by omega, HFX2, HM3, HB3, HC, HUN⟩
        · have p1' : decide (x ≤ rr) = false := by simpa using p1
          have HC := Lib.hid (HC3.out (fun h => absurd h p1))
          clear p1
          go_wp2
          go_roundg (2 * l.length - (r + 1))
          case measure => omega
          case rel => exact ⟨r + 1, M2, m2, rfl, by go_num, by omega, HFX2, HM3, HB3, HC, HUN⟩
      · have er : r = 2 * l.length := by omega
        subst er
        have HBM2 := Lib.hid (HM2.out)
        have hlt2 : ¬ (2 * (l.length : Int) < 2 * (l.length : Int)) := by omega
        go_wp2
        go_roundg (2 * unmet M2 + BOn m2)
        case measure => have := HGK.out; have := HUN.out; simp only [BOn, if_true] at *; omega
        case rel => exact ⟨M2, m2, rfl, rfl, HFX2, HM2, HBY, Lib.hid (fun h q hq => HC2.out h q hq)⟩
end Ne
end Go.Proofs.Ythhlfphnokdfaaa
