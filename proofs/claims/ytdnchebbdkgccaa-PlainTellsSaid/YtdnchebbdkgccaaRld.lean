/-
  Contracts of the document's Leads and Deep. Condition: at most a million arcs.
-/
import Derived.Test.YtdnchebbdkgccaaRlv
namespace Go.Proofs.Ytdnchebbdkgccaa
open Go.ChangeShapes Go.WideShapes Go.ChangeAt Go.RowKit
set_option linter.unusedVariables false
set_option linter.unusedSimpArgs false
namespace Ne
section
variable (n : Net) (ao : Option Addr) (cap : Nat) (fo : Option Addr) (fc : Nat) (f : List Int) (x : Int) (L0 : List Int) (w : World) (hr : ARow w ao n.l) (hf : IRow w fo f) (hl : n.l.length ≤ 1000000) (hL : reE n f x = 0 → IsLev n f x L0)
include hr hf hl hL
set_option maxRecDepth 100000 in
set_option maxHeartbeats 4000000 in
theorem rleads_any : Calls Try.prog 16 #[encN n ao cap, .slice fo f.length fc, .int .i64 x] w fun e w' => ∃ o c, e = .returned (.tuple #[.slice o (ldV n f x L0).length c, .int .i64 (reE n f x)]) ∧ IRow w' o (encW (ldV n f x L0)) ∧ Below w.heap.size w w' := by
  have WD := Lib.hid (fun w' (h1 : ARow w' ao n.l) (h2 : IRow w' fo f) => rlevels_any n ao cap fo fc f x L0 w' h1 h2 hl hL)
  have RM := Lib.hid (fun w' (h1 : ARow w' ao n.l) (h2 : IRow w' fo f) => rroom_s n ao cap fo fc f w' h1 h2 hl)
  by_cases c0 : reE n f x = 0
  case neg =>
    rw [(lvV_bad (L := L0) c0).2.1]
    generalize lvV n f x L0 = WV at *
    generalize reE n f x = E at *
    clear hL RM
    generalize f.length = fl at *
    obtain ⟨nn, ns, nt, l⟩ := n
    simp only at hr WD ⊢
    have HB0 := Lib.hid ((Below.refl w.heap.size w).alloc (Nat.le_refl _) (.cells #[.int .i64 nn, .int .i64 ns, .int .i64 nt, .slice ao l.length cap] 24))
    have HR := Lib.hid (hr.kept HB0.out)
    have HF := Lib.hid (hf.kept HB0.out)
    have c1' : (E == 0) = false := by simpa using c0
    have c1n : (E != 0) = true := by simpa using c0
    clear hr hf c0
    go_enter Try.func16, Try.ntmps16
    go_wp2_with fail
    refine (WD.out _ HR.out HF.out).mono ?_
    rintro e w1 ⟨o, c, rfl, _, hb⟩
    have HB1 := Lib.hid (HB0.out.trans (hb.mono (by simp)))
    clear hb
    go_wp2
    go_ret2
    exact ⟨none, 0, rfl, .inl rfl, HB1.out⟩
  obtain ⟨hc0, hx1⟩ := reE_ok c0
  have hR := right_of (chkA_ok (chkF_ok hc0).1).1
  rw [(lvV_ok (L := L0) c0).2.1, c0]
  rw [c0, (lvV_ok (L := L0) c0).1] at WD
  rw [show roomV n f = roomL n.l f (2 * n.l.length) by unfold roomV; rw [if_neg (by simpa using hc0)], roomL_len, hc0] at RM
  have HLL := Lib.hid (hL c0).len
  rw [HLL.out] at WD
  have hN0 := hR.n0
  have hN1 := hR.n1
  have HEN := Lib.hid (fun (j : Nat) (h : j < 2 * n.l.length) w' h1 => show Calls Try.prog 38 #[encN n ao cap, .int .i64 (j : Int)] w' fun e w2 => e = .returned (.tuple #[.int .i64 (((trF n.l j).toNat : Nat) : Int), .int .i64 (((trT n.l j).toNat : Nat) : Int)]) ∧ Below w'.heap.size w' w2 by
    have := rends_any n ao cap (j : Int) w' h1 hl (by unfold in64; omega)
    rw [enF_in h, enT_in h] at this
    have hb := trT_bd hR h
    have hb2 := trF_bd hR h
    rwa [show (((trT n.l j).toNat : Nat) : Int) = trT n.l j by omega, show (((trF n.l j).toNat : Nat) : Int) = trF n.l j by omega])
  have HTB := Lib.hid (fun (r : Nat) (hr : r < 2 * n.l.length) => show (trF n.l r).toNat < n.n.toNat + 1 ∧ (trT n.l r).toNat < n.n.toNat + 1 by
    have hb := trF_bd hR hr; have hb2 := trT_bd hR hr; omega)
  have HLV := Lib.hid (fun i (h : i < n.n.toNat + 1) => show -1 ≤ amt L0 i ∧ amt L0 i < 500 by have := lev_lt hR (hL c0) h; omega)
  have HRA := Lib.hid (fun i (h : i < 2 * n.l.length) => roomL_at n.l f h)
  have HRN := Lib.hid (roomL_len n.l f (2 * n.l.length))
  have HHIT := Lib.hid (fun (k : Nat) (h1 : x ≤ roomN n.l f k) (h2 : 0 ≤ amt L0 (trF n.l k).toNat) (h3 : amt L0 (trT n.l k).toNat = amt L0 (trF n.l k).toNat + 1) => show encW (leadL n.l f x L0 (k + 1)) = encW (leadL n.l f x L0 k) ++ [(k : Int)] by rw [leadL_hit (by unfold leadB; simp [h1, h2, h3]), encW_snoc])
  have HMISS := Lib.hid (fun (k : Nat) (h : ¬ (x ≤ roomN n.l f k ∧ 0 ≤ amt L0 (trF n.l k).toNat ∧ amt L0 (trT n.l k).toNat = amt L0 (trF n.l k).toNat + 1)) => show encW (leadL n.l f x L0 (k + 1)) = encW (leadL n.l f x L0 k) by
    rw [leadL_miss (by rw [Bool.eq_false_iff]; intro h2; unfold leadB at h2; simp at h2; exact h h2)])
  have HFL := Lib.hid (fun (k : Nat) => show (encW (leadL n.l f x L0 k)).length ≤ k by rw [encW_len]; exact leadL_len _ _ _ _ _)
  have HFE := Lib.hid (encW_len (leadL n.l f x L0 (2 * n.l.length)))
  have HF0 := Lib.hid (show encW (leadL n.l f x L0 0) = [] from rfl)
  obtain ⟨FL, hFL⟩ : ∃ FL, FL = fun k => encW (leadL n.l f x L0 k) := ⟨_, rfl⟩
  have HFLE := Lib.hid (show ∀ k, encW (leadL n.l f x L0 k) = FL k from fun k => by rw [hFL])
  clear hFL
  rw [← HFE.out]
  simp only [HFLE.out] at HHIT HMISS HFL HF0 ⊢
  clear HFLE HFE hL c0 hc0 hx1 hR
  generalize roomL n.l f (2 * n.l.length) = RL at *
  generalize roomN n.l f = RO at *
  generalize f.length = fl at *
  generalize hTT : (fun j => (trT n.l j).toNat) = TT at *
  generalize hTF : (fun j => (trF n.l j).toNat) = TF at *
  have HTE := Lib.hid (show ∀ j, (trT n.l j).toNat = TT j from fun j => by rw [← hTT])
  have HTG := Lib.hid (show ∀ j, (trF n.l j).toNat = TF j from fun j => by rw [← hTF])
  clear hTT hTF
  simp only [HTE.out, HTG.out] at HEN HTB HHIT HMISS
  clear HTE HTG
  obtain ⟨nn, ns, nt, l⟩ := n
  simp only at hr hl WD RM HLL hN0 hN1 HEN HTB HLV HRA HRN ⊢
  obtain ⟨N, rfl⟩ : ∃ N : Nat, nn = (N : Int) := ⟨nn.toNat, by omega⟩
  simp only [Int.toNat_natCast] at HLL WD HTB HLV ⊢
  have HB0 := Lib.hid ((Below.refl w.heap.size w).alloc (Nat.le_refl _) (.cells #[.int .i64 (N : Int), .int .i64 ns, .int .i64 nt, .slice ao l.length cap] 24))
  have HN0 := Lib.hid (netBox_new w (N : Int) ns nt (.slice ao l.length cap))
  have HR := Lib.hid (hr.kept HB0.out)
  have HF := Lib.hid (hf.kept HB0.out)
  clear hr hf
  go_enter Try.func16, Try.ntmps16
  go_wp2_with fail
  refine (WD.out _ HR.out HF.out).mono ?_
  rintro e w1 ⟨lo, lc, rfl, hi, hb⟩
  have HB1 := Lib.hid (HB0.out.trans (hb.mono (by simp)))
  have HN1 := Lib.hid (netBox_below HN0.out hb (by simp))
  have HR1 := Lib.hid (HR.out.kept hb)
  have HF1 := Lib.hid (HF.out.kept hb)
  have HL1 := Lib.hid hi
  obtain ⟨n0, n1, n2, n3⟩ := netBox_cells HN1.out
  clear hb hi HB0 HN0 HR HF WD
  go_wp2_with fail
  refine (RM.out _ HR1.out HF1.out).mono ?_
  rintro e WX ⟨o2, c2, rfl, hi, hb⟩
  have HBX := Lib.hid (HB1.out.trans (hb.mono HB1.out.size))
  have HNX := Lib.hid (netBox_below HN1.out hb (netBox_lt HN1.out))
  have HRX := Lib.hid (HR1.out.kept hb)
  have HLX := Lib.hid (HL1.out.kept hb)
  have HRI := Lib.hid hi
  clear hb hi n0 n1 n2 n3 HB1 HN1 HR1 HF1 HL1 RM
  go_wp2
  go_loopw [12, 13] (fun s i wr => ∃ (v : Value) (j : Nat), v = s ∧ i = .int .i64 j ∧ j ≤ 2 * l.length ∧ Hid (OwnI wr WX.heap.size v (FL j)) ∧ Hid (Below WX.heap.size WX wr)) (fun _ i _ => 2 * l.length - (intOf i).toNat)
  case atStart => exact ⟨_, 0, rfl, rfl, Nat.zero_le _, Lib.hid (by rw [HF0.out]; exact Rw.own_nil _ _), Lib.hid (Below.refl _ _)⟩
  case round =>
    obtain ⟨v, j, rfl, rfl, hj, HOW, HBW⟩ := hrel
    by_cases hlt : j < 2 * l.length
    · have hji : (j : Int) < 2 * (l.length : Int) := by omega
      have hj0 : (0 : Int) ≤ (j : Int) := by omega
      have HN8 := Lib.hid (netBox_below HNX.out HBW.out (netBox_lt HNX.out))
      obtain ⟨n0, n1, n2, n3⟩ := netBox_cells HN8.out
      have EN := Lib.hid (fun w' => HEN.out j hlt w')
      obtain ⟨hta, htb⟩ := HTB.out j hlt
      have HRr := Lib.hid (HRA.out j hlt)
      have HH := Lib.hid (HHIT.out j)
      have HMS := Lib.hid (HMISS.out j)
      have HLN := Lib.hid (show (FL j).length + ([(j : Int)] : List Int).length ≤ 1099511627776 by have := HFL.out j; simp; omega)
      generalize TF j = a at *
      generalize TT j = b at *
      have hai : (a : Int) < (N : Int) + 1 := by omega
      have ha0 : (0 : Int) ≤ (a : Int) := by omega
      have hbi : (b : Int) < (N : Int) + 1 := by omega
      have hb0 : (0 : Int) ≤ (b : Int) := by omega
      go_wp2_with fail
      refine (EN.out _ (HRX.out.kept HBW.out)).mono ?_
      rintro e w3 ⟨rfl, hb⟩
      have HB3 := Lib.hid (HBW.out.trans (hb.mono HBW.out.size))
      have HO3 := Lib.hid (Rw.own_below HOW.out hb)
      obtain ⟨b5, o5, rfl, hbl5, d0⟩ := irow_cell (HRI.out.kept HB3.out) (i := j) (by rw [HRN.out]; exact hlt)
      rw [HRr.out] at d0
      obtain ⟨b6, o6, rfl, hbl6, ma⟩ := irow_cell (HLX.out.kept HB3.out) (i := a) (by rw [HLL.out]; exact hta)
      obtain ⟨b7, o7, he7, hbl7, mb⟩ := irow_cell (HLX.out.kept HB3.out) (i := b) (by rw [HLL.out]; exact htb)
      simp only [Option.some.injEq, Addr.mk.injEq, and_true] at he7
      obtain ⟨rfl, rfl⟩ := he7
      obtain ⟨hA0, hA1⟩ := HLV.out a hta
      generalize RO j = rr at *
      generalize amt L0 a = A at *
      generalize amt L0 b = B at *
      have hwA : IntKind.i64.wrap (A + 1) = A + 1 := by rw [IntKind.wrap_i64]; omega
      clear hb n0 n1 n2 n3 hbl7
      by_cases p1 : x ≤ rr
      · have p1' : decide (x ≤ rr) = true := by simpa using p1
        by_cases p2 : 0 ≤ A
        · have p2' : decide (0 ≤ A) = true := by simpa using p2
          by_cases p3 : B = A + 1
          · have p3' : (B == A + 1) = true := by simpa using p3
            have HST := Lib.hid (HH.out p1 p2 p3)
            have HO4 := Lib.hid (fun q => show OwnI ((w3.drewN q).alloc (.cells #[.int .i64 (j : Int)] 3)) WX.heap.size v (FL j) from Rw.own_alloc HO3.out _)
            have HR4 := Lib.hid (fun q => irow_one' (w3.drewN q) rfl (j : Int) 3)
            have hvb := Rw.own_block HO3.out
            have HB4 := Lib.hid (fun q => (below_dn HB3.out q).alloc (by exact HB3.out.size) (.cells #[.int .i64 (j : Int)] 3))
            clear p1 p2 p3 HH HMS
            go_wp2
            go_quiet (fail)
            go_wp2_with (at_builtin; refine Rw.app elemI encI_len encI_one rfl (.tmp 69) (.tmp 71) rfl WX.heap.size _ (FL j) rfl (HO4.out _) (some ⟨w3.heap.size, 0, none⟩) 1 [(j : Int)] rfl ?hnn (HR4.out _) HLN.out ?hB ?_; (case hnn => (intro h; cases h)); (case hB => (exact (HB4.out _).size)); intro v4 w4 hown4 hgr4; rw [← HST.out] at hown4; have HB5 := Lib.hid ((HB4.out _).grown hgr4 (HB4.out _).size hvb); have HO5 := Lib.hid hown4; clear hown4 hgr4)
            go_roundw
            case rel => exact ⟨_, j + 1, rfl, by go_num, by omega, HO5, HB5⟩
            case measure => simp [intOf]; omega
          · have p3' : (B == A + 1) = false := by simpa using p3
            have HST := Lib.hid (HMS.out (fun h => p3 h.2.2))
            have HO4 := Lib.hid (fun q => show OwnI (w3.drewN q) WX.heap.size v (FL (j + 1)) by rw [HST.out]; exact HO3.out)
            clear p1 p2 p3 HH HMS
            go_wp2
            go_quiet (fail)
            go_wp2
            go_roundw
            case rel => exact ⟨_, j + 1, rfl, by go_num, by omega, Lib.hid (HO4.out _), Lib.hid (below_dn HB3.out _)⟩
            case measure => simp [intOf]; omega
        · have p2' : decide (0 ≤ A) = false := by simpa using p2
          have HST := Lib.hid (HMS.out (fun h => p2 h.2.1))
          have HO4 := Lib.hid (fun q => show OwnI (w3.drewN q) WX.heap.size v (FL (j + 1)) by rw [HST.out]; exact HO3.out)
          clear p1 p2 HH HMS
          go_wp2
          go_quiet (fail)
          go_wp2
          go_roundw
          case rel => exact ⟨_, j + 1, rfl, by go_num, by omega, Lib.hid (HO4.out _), Lib.hid (below_dn HB3.out _)⟩
          case measure => simp [intOf]; omega
      · have p1' : decide (x ≤ rr) = false := by simpa using p1
        have HST := Lib.hid (HMS.out (fun h => p1 h.1))
        have HO4 := Lib.hid (fun q => show OwnI (w3.drewN q) WX.heap.size v (FL (j + 1)) by rw [HST.out]; exact HO3.out)
        clear p1 HH HMS
        go_wp2
        go_quiet (fail)
        go_wp2
        go_roundw
        case rel => exact ⟨_, j + 1, rfl, by go_num, by omega, Lib.hid (HO4.out _), Lib.hid (below_dn HB3.out _)⟩
        case measure => simp [intOf]; omega
    · have ej : j = 2 * l.length := by omega
      subst ej
      have HBE := Lib.hid (HBX.out.trans (HBW.out.mono HBX.out.size))
      obtain ⟨o9, c9, hv9, _, _, _, hi9, _, _⟩ := Rw.own_row encI_len HOW.out
      subst hv9
      have HI9 := Lib.hid hi9
      have hlt2 : ¬ (2 * (l.length : Int) < 2 * (l.length : Int)) := by omega
      clear hlt hj hi9
      go_wp2
      go_ret2
      exact ⟨_, ⟨_, rfl⟩, HI9.out, HBE.out⟩
end
end Ne
end Go.Proofs.Ytdnchebbdkgccaa
