/-
  Rlv, Rld
-/
import Derived.Test.YtiaddfmgkcebnaaBunB41
import Derived.Test.YtiaddfmgkcebnaaBunB40
import Derived.Test.YtiaddfmgkcebnaaBunB38
import Derived.Test.YtiaddfmgkcebnaaBunB4
import Derived.Test.YtiaddfmgkcebnaaBunB28
import Derived.Test.YtiaddfmgkcebnaaBunB8
namespace Go.Proofs.Ytiaddfmgkcebnaa
open Go.ChangeShapes Go.WideShapes Go.ChangeAt Go.RowKit
set_option linter.unusedVariables false
set_option linter.unusedSimpArgs false
namespace Ne
structure LvDoc (N S T2 : Nat) (x : Int) (RO : Nat → Int) (TF TT : Nat → Nat) (LK : Nat → List Int → Prop) (LR : Nat → Nat → List Int → Prop) (L0 : List Int) : Prop where
  start : LK 0 ((List.replicate (N + 1) (-1)).set S 0)
  all : ∀ L, LK N L → L = L0
  beg : ∀ k L, LK k L → LR k 0 L
  put : ∀ k r L, LR k r L → r < T2 → x ≤ RO r → amt L (TF r) = (k : Int) → amt L (TT r) < 0 → LR k (r + 1) (L.set (TT r) ((k : Int) + 1))
  skip : ∀ k r L, LR k r L → (x ≤ RO r → amt L (TF r) = (k : Int) → 0 ≤ amt L (TT r)) → LR k (r + 1) L
  nx : ∀ k L, LR k T2 L → LK (k + 1) L
  len : ∀ k r L, LR k r L → L.length = N + 1
  bd : ∀ r, r < T2 → TF r < N + 1 ∧ TT r < N + 1
theorem lv_doc {n : Net} (hR : Right n) (f : List Int) (x : Int) {L0 : List Int} (h0 : IsLev n f x L0) : LvDoc n.n.toNat n.s.toNat (2 * n.l.length) x (roomN n.l f) (fun r => (trF n.l r).toNat) (fun r => (trT n.l r).toNat) (LevK n f x) (LevR n f x) L0 :=
  ⟨levK_start hR f x, fun L h => lev_one hR (levK_all hR h) h0, fun k L h => levR_start h, fun k r L h hr hx h1 h2 => levR_put hR h hr hx h1 h2, fun k r L h h1 => levR_skip h h1, fun k L h => levR_end hR h, fun k r L h => levR_len h, fun r hr => by
    have hb := trF_bd hR hr; have hb2 := trT_bd hR hr
    omega⟩
set_option maxRecDepth 100000 in
set_option maxHeartbeats 4000000 in
theorem rlevels_any (n : Net) (ao : Option Addr) (cap : Nat) (fo : Option Addr) (fc : Nat) (f : List Int) (x : Int) (L0 : List Int) (w : World) (hr : ARow w ao n.l) (hf : IRow w fo f) (hl : n.l.length ≤ 1000000) (hL : reE n f x = 0 → IsLev n f x L0) :
    Calls Try.prog 77 #[encN n ao cap, .slice fo f.length fc, .int .i64 x] w fun e w' => ∃ o c, e = .returned (.tuple #[.slice o (lvV n f x L0).length c, .int .i64 (reE n f x)]) ∧ IRow w' o (lvV n f x L0) ∧ Below w.heap.size w w' := by
  have RE := Lib.hid (fun w' (h1 : ARow w' ao n.l) (h2 : IRow w' fo f) => rreach_any n ao cap fo fc f x w' h1 h2 hl)
  have RM := Lib.hid (fun w' (h1 : ARow w' ao n.l) (h2 : IRow w' fo f) => rroom_s n ao cap fo fc f w' h1 h2 hl)
  by_cases c0 : reE n f x = 0
  case neg =>
    rw [(lvV_bad (L := L0) c0).1]
    generalize hRA : ReachAns n f x = RA at *
    generalize reE n f x = E at *
    clear hRA RM hL
    generalize f.length = fl at *
    obtain ⟨nn, ns, nt, l⟩ := n
    simp only at hr RE ⊢
    have HB0 := Lib.hid ((Below.refl w.heap.size w).alloc (Nat.le_refl _) (.cells #[.int .i64 nn, .int .i64 ns, .int .i64 nt, .slice ao l.length cap] 24))
    have HR := Lib.hid (hr.kept HB0.out)
    have HF := Lib.hid (hf.kept HB0.out)
    have c1' : (E == 0) = false := by simpa using c0
    have c1n : (E != 0) = true := by simpa using c0
    clear hr hf c0
    go_enter Try.func77, Try.ntmps77
    go_wp2_with fail
    refine (RE.out _ HR.out HF.out).mono ?_
    rintro e w1 ⟨o, c, M, rfl, _, hb⟩
    have HB1 := Lib.hid (HB0.out.trans (hb.mono (by simp)))
    clear hb
    go_wp2
    go_ret2
    exact ⟨none, 0, rfl, .inl rfl, HB1.out⟩
  obtain ⟨hc0, hx1⟩ := reE_ok c0
  have hR := right_of (chkA_ok (chkF_ok hc0).1).1
  rw [(lvV_ok (L := L0) c0).1, c0]
  rw [c0] at RE
  rw [show roomV n f = roomL n.l f (2 * n.l.length) by unfold roomV; rw [if_neg (by simpa using hc0)], roomL_len, hc0] at RM
  have TL := Lib.hid (lv_doc hR f x (hL c0))
  have HLL := Lib.hid (hL c0).len
  have hLL := hR.len
  have hN0 := hR.n0
  have hN1 := hR.n1
  have hS0 := hR.s0
  have hS1 := hR.s1
  have HEN := Lib.hid (fun (j : Nat) (h : j < 2 * n.l.length) w' h1 => show Calls Try.prog 78 #[encN n ao cap, .int .i64 (j : Int)] w' fun e w2 => e = .returned (.tuple #[.int .i64 (((trF n.l j).toNat : Nat) : Int), .int .i64 (((trT n.l j).toNat : Nat) : Int)]) ∧ Below w'.heap.size w' w2 by
    have := rends_any n ao cap (j : Int) w' h1 hl (by unfold in64; omega)
    rw [enF_in h, enT_in h] at this
    have hb := trT_bd hR h
    have hb2 := trF_bd hR h
    rwa [show (((trT n.l j).toNat : Nat) : Int) = trT n.l j by omega, show (((trF n.l j).toNat : Nat) : Int) = trF n.l j by omega])
  have HRA := Lib.hid (fun i (h : i < 2 * n.l.length) => roomL_at n.l f h)
  have HRN := Lib.hid (roomL_len n.l f (2 * n.l.length))
  generalize hRW : ReachAns n f x = RW at *
  generalize hLK : LevK n f x = LK at *
  generalize hLR : LevR n f x = LR at *
  clear hRW hLK hLR c0 hc0 hx1 hL hR
  generalize roomL n.l f (2 * n.l.length) = RL at *
  generalize roomN n.l f = RO at *
  generalize f.length = fl at *
  generalize hTT : (fun j => (trT n.l j).toNat) = TT at *
  generalize hTF : (fun j => (trF n.l j).toNat) = TF at *
  have HTE := Lib.hid (show ∀ j, (trT n.l j).toNat = TT j from fun j => by rw [← hTT])
  have HTG := Lib.hid (show ∀ j, (trF n.l j).toNat = TF j from fun j => by rw [← hTF])
  clear hTT hTF
  simp only [HTE.out, HTG.out] at HEN
  clear HTE HTG
  obtain ⟨nn, ns, nt, l⟩ := n
  simp only at hr hl RE RM hLL hN0 hN1 hS0 hS1 HEN HRA HRN TL HLL ⊢
  obtain ⟨N, rfl⟩ : ∃ N : Nat, nn = (N : Int) := ⟨nn.toNat, by omega⟩
  obtain ⟨S, rfl⟩ : ∃ S : Nat, ns = (S : Int) := ⟨ns.toNat, by omega⟩
  simp only [Int.toNat_natCast] at TL HLL ⊢
  have hmk := make_i (N + 1) (by omega)
  simp only [Int.natCast_add, Int.natCast_one] at hmk
  have HB0 := Lib.hid ((Below.refl w.heap.size w).alloc (Nat.le_refl _) (.cells #[.int .i64 (N : Int), .int .i64 (S : Int), .int .i64 nt, .slice ao l.length cap] 24))
  have HN0 := Lib.hid (netBox_new w (N : Int) (S : Int) nt (.slice ao l.length cap))
  have HR := Lib.hid (hr.kept HB0.out)
  have HF := Lib.hid (hf.kept HB0.out)
  clear hr hf
  go_enter Try.func77, Try.ntmps77
  go_wp2_with fail
  refine (RE.out _ HR.out HF.out).mono ?_
  rintro e w1 ⟨o1, c1, M1, rfl, _, hb⟩
  have HB1 := Lib.hid (HB0.out.trans (hb.mono (by simp)))
  have HN1 := Lib.hid (netBox_below HN0.out hb (by simp))
  have HR1 := Lib.hid (HR.out.kept hb)
  have HF1 := Lib.hid (HF.out.kept hb)
  obtain ⟨n0, n1, n2, n3⟩ := netBox_cells HN1.out
  clear hb HB0 HN0 HR HF RE
  go_wp2_with fail
  refine (RM.out _ HR1.out HF1.out).mono ?_
  rintro e w2 ⟨o2, c2, rfl, hi, hb⟩
  have HB2 := Lib.hid (HB1.out.trans (hb.mono HB1.out.size))
  have HN2 := Lib.hid (netBox_below HN1.out hb (netBox_lt HN1.out))
  have HR2 := Lib.hid (HR1.out.kept hb)
  have HRI := Lib.hid hi
  clear hb hi n0 n1 n2 n3 HB1 HN1 HR1 HF1 RM
  obtain ⟨n0, n1, n2, n3⟩ := netBox_cells HN2.out
  have HM0 := Lib.hid (ibox_made w2 (N + 1) (b := w2.heap.size) rfl)
  have HBM := Lib.hid ((Below.refl w2.heap.size w2).alloc (Nat.le_refl _) (.cells (madeCells #[.int .i64 0] (N + 1)) 3))
  go_wp2
  clear n0 n1 n2 n3 hmk
  generalize (w2.alloc (.cells (madeCells #[.int .i64 0] (N + 1)) 3)) = W3 at *
  obtain ⟨bm, hbm⟩ : ∃ b, b = w2.heap.size := ⟨_, rfl⟩
  rw [← hbm] at HM0 HBM ⊢
  have HBE := Lib.hid hbm
  clear hbm
  go_loopw [13] (fun i wr => ∃ j : Nat, i = .int .i64 j ∧ j ≤ N + 1 ∧ Hid (IBox wr bm (repL (N + 1) j (-1))) ∧ Hid (Below bm w2 wr)) (fun i _ => N + 1 - (intOf i).toNat)
  case atStart => exact ⟨0, rfl, Nat.zero_le _, Lib.hid (by rw [repL_zero]; exact HM0.out), HBM⟩
  case round =>
    obtain ⟨j, rfl, hj, HMW, HBW⟩ := hrel
    by_cases hlt : j < N + 1
    · have hji : (j : Int) < (N : Int) + 1 := by omega
      have hj0 : (0 : Int) ≤ (j : Int) := by omega
      have hc := HMW.out.cell (i := j) (by rw [repL_len _ hj]; exact hlt)
      have hfz := HMW.out.frozen j
      have HM4 := Lib.hid (show IBox (wr.setCell ⟨bm, j, none⟩ (.int .i64 (-1))) bm (repL (N + 1) (j + 1) (-1)) by rw [← repL_set _ hlt]; exact HMW.out.set (by rw [repL_len _ hj]; exact hlt) (-1))
      have HB4 := Lib.hid (HBW.out.setCell (p := ⟨bm, j, none⟩) (Nat.le_refl _) (.int .i64 (-1)))
      go_wp2
      go_roundw
      case rel => exact ⟨j + 1, by go_num, by omega, HM4, HB4⟩
      case measure => simp [intOf]; omega
    · have ej : j = N + 1 := by omega
      subst ej
      clear hlt hj
      have HN5 := Lib.hid (netBox_below HN2.out HBW.out (by rw [HBE.out]; exact netBox_lt HN2.out))
      obtain ⟨n0, n1, n2, n3⟩ := netBox_cells HN5.out
      have hsi : (S : Int) < (N : Int) + 1 := by omega
      have hs0 : (0 : Int) ≤ (S : Int) := by omega
      have hxi : ¬ (((N + 1 : Nat) : Int) < (N : Int) + 1) := by omega
      have HMA := Lib.hid (show IBox wr bm (List.replicate (N + 1) (-1)) by rw [← repL_all]; exact HMW.out)
      have hc := HMA.out.cell (i := S) (by simp; omega)
      have hfz := HMA.out.frozen S
      have HM6 := Lib.hid (HMA.out.set (i := S) (by simp; omega) 0)
      have HB6 := Lib.hid (HBW.out.setCell (p := ⟨bm, S, none⟩) (Nat.le_refl _) (.int .i64 0))
      have HN6 := Lib.hid (netBox_other HN5.out (b2 := bm) (o := S) (v2 := .int .i64 0) (by have := netBox_lt HN2.out; have := HBE.out; omega))
      clear HM0 HBM
      go_wp2
      clear n0 n1 n2 n3 hc hfz
      generalize (wr.setCell ⟨bm, S, none⟩ (.int .i64 0)) = W6 at *
      go_loopg [14] N (fun gg i wx => ∃ (k : Nat) (L : List Int), i = .int .i64 k ∧ k + gg = N ∧ Hid (LK k L) ∧ Hid (L.length = N + 1) ∧ Hid (IBox wx bm L) ∧ Hid (Below bm w2 wx))
      case atStart => exact ⟨0, _, rfl, by omega, Lib.hid TL.out.start, Lib.hid (by simp), HM6, HB6⟩
      case round =>
        obtain ⟨k, L, rfl, hkg, HK, HLN, HMX, HBX⟩ := hrel
        have HN7 := Lib.hid (netBox_below HN2.out HBX.out (by rw [HBE.out]; exact netBox_lt HN2.out))
        obtain ⟨n0, n1, n2, n3⟩ := netBox_cells HN7.out
        by_cases hlk : k < N
        · have hki : (k : Int) < (N : Int) := by omega
          have hk0 : (0 : Int) ≤ (k : Int) := by omega
          go_wp2
          clear n0 n1 n2 n3
          go_loopg [15] (2 * l.length) (fun g2 i wy => ∃ (r : Nat) (L2 : List Int), i = .int .i64 r ∧ r + g2 = 2 * l.length ∧ Hid (LR k r L2) ∧ Hid (IBox wy bm L2) ∧ Hid (Below bm w2 wy))
          case atStart => exact ⟨0, L, rfl, by omega, Lib.hid (TL.out.beg k L HK.out), HMX, HBX⟩
          case round =>
            obtain ⟨r, L2, rfl, hrg, HLR, HMY, HBY⟩ := hrel
            by_cases hlr : r < 2 * l.length
            · have hri : (r : Int) < 2 * (l.length : Int) := by omega
              have hr0 : (0 : Int) ≤ (r : Int) := by omega
              have HN8 := Lib.hid (netBox_below HN2.out HBY.out (by rw [HBE.out]; exact netBox_lt HN2.out))
              obtain ⟨n0, n1, n2, n3⟩ := netBox_cells HN8.out
              have EN := Lib.hid (fun w' => HEN.out r hlr w')
              obtain ⟨hta, htb⟩ := TL.out.bd r hlr
              have HRr := Lib.hid (HRA.out r hlr)
              have HPUT := Lib.hid (TL.out.put k r L2 HLR.out hlr)
              have HSK := Lib.hid (TL.out.skip k r L2 HLR.out)
              have HL2 := Lib.hid (TL.out.len k r L2 HLR.out)
              generalize TF r = a at *
              generalize TT r = b at *
              have hai : (a : Int) < (N : Int) + 1 := by omega
              have ha0 : (0 : Int) ≤ (a : Int) := by omega
              have hbi : (b : Int) < (N : Int) + 1 := by omega
              have hb0 : (0 : Int) ≤ (b : Int) := by omega
              have hrl : r < RL.length := by rw [HRN.out]; exact hlr
              go_wp2_with fail
              refine (EN.out _ (HR2.out.kept (by have := HBY.out; rwa [HBE.out] at this))).mono ?_
              rintro e w3 ⟨rfl, hb⟩
              have HM3 := Lib.hid (HMY.out.kept hb)
              have HB3 := Lib.hid (HBY.out.trans (hb.mono (by have := HBY.out.size; have := HMY.out.lt; omega)))
              have HI3 := Lib.hid (HRI.out.kept (by have := HB3.out; rwa [HBE.out] at this))
              obtain ⟨b5, o5, rfl, _, d0⟩ := irow_cell HI3.out hrl
              rw [HRr.out] at d0
              generalize RO r = rr at *
              have ma := HM3.out.cell (i := a) (by rw [HL2.out]; exact hta)
              have mb := HM3.out.cell (i := b) (by rw [HL2.out]; exact htb)
              have mf := HM3.out.frozen b
              clear hb n0 n1 n2 n3
              have HM4 := Lib.hid (HM3.out.set (i := b) (by rw [HL2.out]; exact htb) ((k : Int) + 1))
              have HB4 := Lib.hid (HB3.out.setCell (p := ⟨bm, b, none⟩) (Nat.le_refl _) (.int .i64 ((k : Int) + 1)))
              have hkw : IntKind.i64.wrap ((k : Int) + 1) = (k : Int) + 1 := by rw [IntKind.wrap_i64]; omega
              generalize hA : amt L2 a = A at *
              generalize hB : amt L2 b = B at *
              clear hA hB
              by_cases p1 : x ≤ rr
              · have p1' : decide (x ≤ rr) = true := by simpa using p1
                by_cases p2 : A = (k : Int)
                · have p2' : (A == (k : Int)) = true := by simpa using p2
                  by_cases p3 : B < 0
                  · have p3' : decide (B < 0) = true := by simpa using p3
                    have H1 := Lib.hid (HPUT.out p1 p2 p3)
                    clear p1 p2 p3 HSK
                    go_wp2
                    go_roundg (2 * l.length - (r + 1))
                    case measure => omega
                    case rel => exact ⟨r + 1, _, by go_num, by omega, H1, HM4, HB4⟩
                  · have p3' : decide (B < 0) = false := by simpa using p3
                    have H1 := Lib.hid (HSK.out (fun _ _ => by omega))
                    clear p1 p2 p3 HPUT
                    go_wp2
                    go_roundg (2 * l.length - (r + 1))
                    case measure => omega
                    case rel => exact ⟨r + 1, _, by go_num, by omega, H1, HM3, HB3⟩
                · have p2' : (A == (k : Int)) = false := by simpa using p2
                  have H1 := Lib.hid (HSK.out (fun _ h => absurd h p2))
                  clear p1 p2 HPUT
                  go_wp2
                  go_roundg (2 * l.length - (r + 1))
                  case measure => omega
                  case rel => exact ⟨r + 1, _, by go_num, by omega, H1, HM3, HB3⟩
              · have p1' : decide (x ≤ rr) = false := by simpa using p1
                have H1 := Lib.hid (HSK.out (fun h => absurd h p1))
                clear p1 HPUT
                go_wp2
                go_roundg (2 * l.length - (r + 1))
                case measure => omega
                case rel => exact ⟨r + 1, _, by go_num, by omega, H1, HM3, HB3⟩
            · have er : r = 2 * l.length := by omega
              subst er
              have H1 := Lib.hid (TL.out.nx k L2 HLR.out)
              have H2 := Lib.hid (TL.out.len k _ L2 HLR.out)
              have hlt2 : ¬ (2 * (l.length : Int) < 2 * (l.length : Int)) := by omega
              have hkw : IntKind.i64.wrap ((k : Int) + 1) = (k : Int) + 1 := by rw [IntKind.wrap_i64]; omega
              go_wp2
              go_roundg (N - (k + 1))
              case measure => omega
              case rel => exact ⟨k + 1, L2, by go_num, by omega, H1, H2, HMY, HBY⟩
        · have ek : k = N := by omega
          subst ek
          have HLE := Lib.hid (TL.out.all L HK.out)
          have HBF := Lib.hid (HB2.out.trans (HBX.out.mono (by rw [HBE.out]; exact HB2.out.size)))
          clear hlk
          go_wp2
          go_ret2
          exact ⟨some ⟨bm, 0, none⟩, k + 1, by rw [HLL.out]; rfl, by rw [← HLE.out]; exact HMX.out.irow, HBF.out⟩
end Ne
namespace Ne
section
variable (n : Net) (ao : Option Addr) (cap : Nat) (fo : Option Addr) (fc : Nat) (f : List Int) (x : Int) (L0 : List Int) (w : World) (hr : ARow w ao n.l) (hf : IRow w fo f) (hl : n.l.length ≤ 1000000) (hL : reE n f x = 0 → IsLev n f x L0)
include hr hf hl hL
set_option maxRecDepth 100000 in
set_option maxHeartbeats 4000000 in
theorem rleads_any : Calls Try.prog 53 #[encN n ao cap, .slice fo f.length fc, .int .i64 x] w fun e w' => ∃ o c, e = .returned (.tuple #[.slice o (ldV n f x L0).length c, .int .i64 (reE n f x)]) ∧ IRow w' o (encW (ldV n f x L0)) ∧ Below w.heap.size w w' := by
  have WD := Lib.hid (fun w' (h1 : ARow w' ao n.l) (h2 : IRow w' fo f) => rlevels_any n ao cap fo fc f x L0 w' h1 h2 hl hL)
  have RM := Lib.hid (fun w' (h1 : ARow w' ao n.l) (h2 : IRow w' fo f) => rroom_s n ao cap fo fc f w' h1 h2 hl)
  by_cases c0 : reE n f x = 0
  case neg =>
    rw [(lvV_bad (L := L0) c0).2.1]
    generalize lvV n f x L0 = WV at *
    generalize reE n f x = E at *
    clear hL RM
    generalize f.length = fl at *
    obtain ⟨nn, ns, nt, l⟩ := n
    simp only at hr WD ⊢
    have HB0 := Lib.hid ((Below.refl w.heap.size w).alloc (Nat.le_refl _) (.cells #[.int .i64 nn, .int .i64 ns, .int .i64 nt, .slice ao l.length cap] 24))
    have HR := Lib.hid (hr.kept HB0.out)
    have HF := Lib.hid (hf.kept HB0.out)
    have c1' : (E == 0) = false := by simpa using c0
    have c1n : (E != 0) = true := by simpa using c0
    clear hr hf c0
    go_enter Try.func53, Try.ntmps53
    go_wp2_with fail
    refine (WD.out _ HR.out HF.out).mono ?_
    rintro e w1 ⟨o, c, rfl, _, hb⟩
    have HB1 := Lib.hid (HB0.out.trans (hb.mono (by simp)))
    clear hb
    go_wp2
    go_ret2
    exact ⟨none, 0, rfl, .inl rfl, HB1.out⟩
  obtain ⟨hc0, hx1⟩ := reE_ok c0
  have hR := right_of (chkA_ok (chkF_ok hc0).1).1
  rw [(lvV_ok (L := L0) c0).2.1, c0]
  rw [c0, (lvV_ok (L := L0) c0).1] at WD
  rw [show roomV n f = roomL n.l f (2 * n.l.length) by unfold roomV; rw [if_neg (by simpa using hc0)], roomL_len, hc0] at RM
  have HLL := Lib.hid (hL c0).len
  rw [HLL.out] at WD
  have hN0 := hR.n0
  have hN1 := hR.n1
  have HEN := Lib.hid (fun (j : Nat) (h : j < 2 * n.l.length) w' h1 => show Calls Try.prog 78 #[encN n ao cap, .int .i64 (j : Int)] w' fun e w2 => e = .returned (.tuple #[.int .i64 (((trF n.l j).toNat : Nat) : Int), .int .i64 (((trT n.l j).toNat : Nat) : Int)]) ∧ Below w'.heap.size w' w2 by
    have := rends_any n ao cap (j : Int) w' h1 hl (by unfold in64; omega)
    rw [enF_in h, enT_in h] at this
    have hb := trT_bd hR h
    have hb2 := trF_bd hR h
    rwa [show (((trT n.l j).toNat : Nat) : Int) = trT n.l j by omega, show (((trF n.l j).toNat : Nat) : Int) = trF n.l j by omega])
  have HTB := Lib.hid (fun (r : Nat) (hr : r < 2 * n.l.length) => show (trF n.l r).toNat < n.n.toNat + 1 ∧ (trT n.l r).toNat < n.n.toNat + 1 by
    have hb := trF_bd hR hr; have hb2 := trT_bd hR hr; omega)
  have HLV := Lib.hid (fun i (h : i < n.n.toNat + 1) => show -1 ≤ amt L0 i ∧ amt L0 i < 500 by have := lev_lt hR (hL c0) h; omega)
  have HRA := Lib.hid (fun i (h : i < 2 * n.l.length) => roomL_at n.l f h)
  have HRN := Lib.hid (roomL_len n.l f (2 * n.l.length))
  have HHIT := Lib.hid (fun (k : Nat) (h1 : x ≤ roomN n.l f k) (h2 : 0 ≤ amt L0 (trF n.l k).toNat) (h3 : amt L0 (trT n.l k).toNat = amt L0 (trF n.l k).toNat + 1) => show encW (leadL n.l f x L0 (k + 1)) = encW (leadL n.l f x L0 k) ++ [(k : Int)] by rw [leadL_hit (by unfold leadB; simp [h1, h2, h3]), encW_snoc])
  have HMISS := Lib.hid (fun (k : Nat) (h : ¬ (x ≤ roomN n.l f k ∧ 0 ≤ amt L0 (trF n.l k).toNat ∧ amt L0 (trT n.l k).toNat = amt L0 (trF n.l k).toNat + 1)) => show encW (leadL n.l f x L0 (k + 1)) = encW (leadL n.l f x L0 k) by
    rw [leadL_miss (by rw [Bool.eq_false_iff]; intro h2; unfold leadB at h2; simp at h2; exact h h2)])
  have HFL := Lib.hid (fun (k : Nat) => show (encW (leadL n.l f x L0 k)).length ≤ k by rw [encW_len]; exact leadL_len _ _ _ _ _)
  have HFE := Lib.hid (encW_len (leadL n.l f x L0 (2 * n.l.length)))
  have HF0 := Lib.hid (show encW (leadL n.l f x L0 0) = [] from rfl)
  obtain ⟨FL, hFL⟩ : ∃ FL, FL = fun k => encW (leadL n.l f x L0 k) := ⟨_, rfl⟩
  have HFLE := Lib.hid (show ∀ k, encW (leadL n.l f x L0 k) = FL k from fun k => by rw [hFL])
  clear hFL
  rw [← HFE.out]
  simp only [HFLE.out] at HHIT HMISS HFL HF0 ⊢
  clear HFLE HFE hL c0 hc0 hx1 hR
  generalize roomL n.l f (2 * n.l.length) = RL at *
  generalize roomN n.l f = RO at *
  generalize f.length = fl at *
  generalize hTT : (fun j => (trT n.l j).toNat) = TT at *
  generalize hTF : (fun j => (trF n.l j).toNat) = TF at *
  have HTE := Lib.hid (show ∀ j, (trT n.l j).toNat = TT j from fun j => by rw [← hTT])
  have HTG := Lib.hid (show ∀ j, (trF n.l j).toNat = TF j from fun j => by rw [← hTF])
  clear hTT hTF
  simp only [HTE.out, HTG.out] at HEN HTB HHIT HMISS
  clear HTE HTG
  obtain ⟨nn, ns, nt, l⟩ := n
  simp only at hr hl WD RM HLL hN0 hN1 HEN HTB HLV HRA HRN ⊢
  obtain ⟨N, rfl⟩ : ∃ N : Nat, nn = (N : Int) := ⟨nn.toNat, by omega⟩
  simp only [Int.toNat_natCast] at HLL WD HTB HLV ⊢
  have HB0 := Lib.hid ((Below.refl w.heap.size w).alloc (Nat.le_refl _) (.cells #[.int .i64 (N : Int), .int .i64 ns, .int .i64 nt, .slice ao l.length cap] 24))
  have HN0 := Lib.hid (netBox_new w (N : Int) ns nt (.slice ao l.length cap))
  have HR := Lib.hid (hr.kept HB0.out)
  have HF := Lib.hid (hf.kept HB0.out)
  clear hr hf
  go_enter Try.func53, Try.ntmps53
  go_wp2_with fail
  refine (WD.out _ HR.out HF.out).mono ?_
  rintro e w1 ⟨lo, lc, rfl, hi, hb⟩
  have HB1 := Lib.hid (HB0.out.trans (hb.mono (by simp)))
  have HN1 := Lib.hid (netBox_below HN0.out hb (by simp))
  have HR1 := Lib.hid (HR.out.kept hb)
  have HF1 := Lib.hid (HF.out.kept hb)
  have HL1 := Lib.hid hi
  obtain ⟨n0, n1, n2, n3⟩ := netBox_cells HN1.out
  clear hb hi HB0 HN0 HR HF WD
  go_wp2_with fail
  refine (RM.out _ HR1.out HF1.out).mono ?_
  rintro e WX ⟨o2, c2, rfl, hi, hb⟩
  have HBX := Lib.hid (HB1.out.trans (hb.mono HB1.out.size))
  have HNX := Lib.hid (netBox_below HN1.out hb (netBox_lt HN1.out))
  have HRX := Lib.hid (HR1.out.kept hb)
  have HLX := Lib.hid (HL1.out.kept hb)
  have HRI := Lib.hid hi
  clear hb hi n0 n1 n2 n3 HB1 HN1 HR1 HF1 HL1 RM
  go_wp2
  go_loopw [12, 13] (fun s i wr => ∃ (v : Value) (j : Nat), v = s ∧ i = .int .i64 j ∧ j ≤ 2 * l.length ∧ Hid (OwnI wr WX.heap.size v (FL j)) ∧ Hid (Below WX.heap.size WX wr)) (fun _ i _ => 2 * l.length - (intOf i).toNat)
  case atStart => exact ⟨_, 0, rfl, rfl, Nat.zero_le _, Lib.hid (by rw [HF0.out]; exact Rw.own_nil _ _), Lib.hid (Below.refl _ _)⟩
  case round =>
    obtain ⟨v, j, rfl, rfl, hj, HOW, HBW⟩ := hrel
    by_cases hlt : j < 2 * l.length
    · have hji : (j : Int) < 2 * (l.length : Int) := by omega
      have hj0 : (0 : Int) ≤ (j : Int) := by omega
      have HN8 := Lib.hid (netBox_below HNX.out HBW.out (netBox_lt HNX.out))
      obtain ⟨n0, n1, n2, n3⟩ := netBox_cells HN8.out
      have EN := Lib.hid (fun w' => HEN.out j hlt w')
      obtain ⟨hta, htb⟩ := HTB.out j hlt
      have HRr := Lib.hid (HRA.out j hlt)
      have HH := Lib.hid (HHIT.out j)
      have HMS := Lib.hid (HMISS.out j)
      have HLN := Lib.hid (show (FL j).length + ([(j : Int)] : List Int).length ≤ 1099511627776 by have := HFL.out j; simp; omega)
      generalize TF j = a at *
      generalize TT j = b at *
      have hai : (a : Int) < (N : Int) + 1 := by omega
      have ha0 : (0 : Int) ≤ (a : Int) := by omega
      have hbi : (b : Int) < (N : Int) + 1 := by omega
      have hb0 : (0 : Int) ≤ (b : Int) := by omega
      go_wp2_with fail
      refine (EN.out _ (HRX.out.kept HBW.out)).mono ?_
      rintro e w3 ⟨rfl, hb⟩
      have HB3 := Lib.hid (HBW.out.trans (hb.mono HBW.out.size))
      have HO3 := Lib.hid (Rw.own_below HOW.out hb)
      obtain ⟨b5, o5, rfl, hbl5, d0⟩ := irow_cell (HRI.out.kept HB3.out) (i := j) (by rw [HRN.out]; exact hlt)
      rw [HRr.out] at d0
      obtain ⟨b6, o6, rfl, hbl6, ma⟩ := irow_cell (HLX.out.kept HB3.out) (i := a) (by rw [HLL.out]; exact hta)
      obtain ⟨b7, o7, he7, hbl7, mb⟩ := irow_cell (HLX.out.kept HB3.out) (i := b) (by rw [HLL.out]; exact htb)
      simp only [Option.some.injEq, Addr.mk.injEq, and_true] at he7
      obtain ⟨rfl, rfl⟩ := he7
      obtain ⟨hA0, hA1⟩ := HLV.out a hta
      generalize RO j = rr at *
      generalize amt L0 a = A at *
      generalize amt L0 b = B at *
      have hwA : IntKind.i64.wrap (A + 1) = A + 1 := by rw [IntKind.wrap_i64]; omega
      clear hb n0 n1 n2 n3 hbl7
      by_cases p1 : x ≤ rr
      · have p1' : decide (x ≤ rr) = true := by simpa using p1
        by_cases p2 : 0 ≤ A
        · have p2' : decide (0 ≤ A) = true := by simpa using p2
          by_cases p3 : B = A + 1
          · have p3' : (B == A + 1) = true := by simpa using p3
            have HST := Lib.hid (HH.out p1 p2 p3)
            have HO4 := Lib.hid (fun q => show OwnI ((w3.drewN q).alloc (.cells #[.int .i64 (j : Int)] 3)) WX.heap.size v (FL j) from Rw.own_alloc HO3.out _)
            have HR4 := Lib.hid (fun q => irow_one' (w3.drewN q) rfl (j : Int) 3)
            have hvb := Rw.own_block HO3.out
            have HB4 := Lib.hid (fun q => (below_dn HB3.out q).alloc (by exact HB3.out.size) (.cells #[.int .i64 (j : Int)] 3))
            clear p1 p2 p3 HH HMS
            go_wp2
            go_quiet (fail)
            go_wp2_with (at_builtin; refine Rw.app elemI encI_len encI_one rfl (.tmp 69) (.tmp 71) rfl WX.heap.size _ (FL j) rfl (HO4.out _) (some ⟨w3.heap.size, 0, none⟩) 1 [(j : Int)] rfl ?hnn (HR4.out _) HLN.out ?hB ?_; (case hnn => (intro h; cases h)); (case hB => (exact (HB4.out _).size)); intro v4 w4 hown4 hgr4; rw [← HST.out] at hown4; have HB5 := Lib.hid ((HB4.out _).grown hgr4 (HB4.out _).size hvb); have HO5 := Lib.hid hown4; clear hown4 hgr4)
            go_roundw
            case rel => exact ⟨_, j + 1, rfl, by go_num, by omega, HO5, HB5⟩
            case measure => simp [intOf]; omega
          · have p3' : (B == A + 1) = false := by simpa using p3
            have HST := Lib.hid (HMS.out (fun h => p3 h.2.2))
            have HO4 := Lib.hid (fun q => show OwnI (w3.drewN q) WX.heap.size v (FL (j + 1)) by rw [HST.out]; exact HO3.out)
            clear p1 p2 p3 HH HMS
            go_wp2
            go_quiet (fail)
            go_wp2
            go_roundw
            case rel => exact ⟨_, j + 1, rfl, by go_num, by omega, Lib.hid (HO4.out _), Lib.hid (below_dn HB3.out _)⟩
            case measure => simp [intOf]; omega
        · have p2' : decide (0 ≤ A) = false := by simpa using p2
          have HST := Lib.hid (HMS.out (fun h => p2 h.2.1))
          have HO4 := Lib.hid (fun q => show OwnI (w3.drewN q) WX.heap.size v (FL (j + 1)) by rw [HST.out]; exact HO3.out)
          clear p1 p2 HH HMS
          go_wp2
          go_quiet (fail)
          go_wp2
          go_roundw
          case rel => exact ⟨_, j + 1, rfl, by go_num, by omega, Lib.hid (HO4.out _), Lib.hid (below_dn HB3.out _)⟩
          case measure => simp [intOf]; omega
      · have p1' : decide (x ≤ rr) = false := by simpa using p1
        have HST := Lib.hid (HMS.out (fun h => p1 h.1))
        have HO4 := Lib.hid (fun q => show OwnI (w3.drewN q) WX.heap.size v (FL (j + 1)) by rw [HST.out]; exact HO3.out)
        clear p1 HH HMS
        go_wp2
        go_quiet (fail)
        go_wp2
        go_roundw
        case rel => exact ⟨_, j + 1, rfl, by go_num, by omega, Lib.hid (HO4.out _), Lib.hid (below_dn HB3.out _)⟩
        case measure => simp [intOf]; omega
    · have ej : j = 2 * l.length := by omega
      subst ej
      have HBE := Lib.hid (HBX.out.trans (HBW.out.mono HBX.out.size))
      obtain ⟨o9, c9, hv9, _, _, _, hi9, _, _⟩ := Rw.own_row encI_len HOW.out
      subst hv9
      have HI9 := Lib.hid hi9
      have hlt2 : ¬ (2 * (l.length : Int) < 2 * (l.length : Int)) := by omega
      clear hlt hj hi9
      go_wp2
      go_ret2
      exact ⟨_, ⟨_, rfl⟩, HI9.out, HBE.out⟩
end
end Ne
end Go.Proofs.Ytiaddfmgkcebnaa
