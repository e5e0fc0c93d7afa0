/- SplayTurns: for every input the law returns true and its arguments read as they did. No condition. -/
import Derived.Test.YtlkigpmjhojceaaSps
import Derived.Test.YtlkigpmjhojceaaSpl
import Derived.Deep.LoopGhost
import Derived.Deep.DeepCutAuto
import Derived.Test.YtlkigpmjhojceaaRows
import Derived.WalkKit
import Derived.ProofKit
import Derived.OpenShut
import Derived.ShutString
import Derived.ChangeOld
import Derived.Below
import Derived.Deep.Strs
namespace Go.Proofs.Ytlkigpmjhojceaa.splayTurns
open Go.ChangeShapes Go.WideShapes Go.ChangeAt Go.RowKit
open Go.ChangeMaps (open_string shut_string)
set_option linter.unusedVariables false
set_option linter.unusedSimpArgs false

theorem own : ownKnob Try.prog.godebug = none := by kernel_rfl
theorem laidOut : laidOutB Try.prog = true := by kernel_rfl

open Sp

set_option maxRecDepth 100000 in
set_option maxHeartbeats 4000000 in
theorem walk (a0 : Int) (a1 : Int) (w : World) (w0 : (Lit.int .i64 a0).wf = true) (w1 : (Lit.int .i64 a1).wf = true) :
    Calls Try.prog 8 #[.int .i64 a0, .int .i64 a1] w fun e w' => e = .returned (.bool true) ∧ Below w.heap.size w w' := by
  have b0 := bounds_i64 w0
  have b1 := bounds_i64 w1
  clear w0 w1
  have bp0 := Ne.pickN_bd (c := a0) (n := 60) (by omega)
  have PA := Lib.hid fun w' => Ne.pick_any a0 60 w' b0.1 b0.2 (by omega) (by omega)
  generalize Ne.pickN a0 60 = z at *
  obtain ⟨n, hn⟩ : ∃ n : Nat, 2 + z = (n : Int) := ⟨(2 + z).toNat, by omega⟩
  have hn2 : 2 ≤ n := by omega
  have hn62 : n ≤ 62 := by omega
  have bp1 := Ne.pickN_bd (c := a1) (n := (n : Int) - 1) (by omega)
  have PB := Lib.hid fun w' => Ne.pick_any a1 ((n : Int) - 1) w' b1.1 b1.2 (by omega) (by omega)
  generalize Ne.pickN a1 ((n : Int) - 1) = y at *
  obtain ⟨k, hk⟩ : ∃ k : Nat, 1 + y = (k : Int) := ⟨(1 + y).toNat, by omega⟩
  have hk1 : 1 ≤ k := by omega
  have hkn : k < n := by omega
  have hz0 : 0 ≤ z := bp0.1
  have hz60 : z < 60 := bp0.2
  have hy0 : 0 ≤ y := bp1.1
  have hy60 : y < (n : Int) - 1 := bp1.2
  clear b0 b1 bp0 bp1
  obtain ⟨v, hv⟩ : ∃ v : List Int, v = List.replicate n 0 := ⟨_, rfl⟩
  have hvl : v.length = n := by rw [hv]; simp
  have hne : newE v = 0 := by
    unfold newE
    rw [if_neg (by omega), if_pos]
    intro i hi
    rw [hv]
    simp only [Ne.amt, List.getD_eq_getElem?_getD]
    rw [List.getElem?_replicate]
    split <;> simp [big]
  have HLB := Lib.hid (show ∀ (w' : World), Ne.IRow (w'.alloc (.cells (madeCells #[.int .i64 0] n) 2)) (some ⟨w'.heap.size, 0, none⟩) v from fun w' => by rw [hv]; exact (Ne.lbox_made w' n rfl).irow)
  have NW := Lib.hid (fun (w' : World) => dnew_any (some ⟨w'.heap.size, 0, none⟩) n v (w'.alloc (.cells (madeCells #[.int .i64 0] n) 2)) (HLB.out w') (fun h => by cases h))
  have hs0 := stC_new (v := v) (by omega)
  rw [hne, hvl, hs0] at NW
  have HJ := Lib.hid (fun (i : Nat) (h1 : 1 ≤ i) (h2 : i < n) => stC_join (v := v) (k := i) (a := 0) (by omega) (by omega) (by omega))
  have hgood : Sp.Good (stC v n) → _ := fun hg => turns_s (v := v) hvl.symm hg (k := (k : Int)) (by omega) (by omega)
  have hgoot : Sp.Good (stC v n) → _ := fun hg => turns_t (v := v) hvl.symm hg hk1 hkn
  have HGS := Lib.hid hgood
  have HGT := Lib.hid hgoot
  clear hgood hgoot hv hs0 hne
  generalize hst : stC v = ST at *
  have hmk := Ne.make_l n (by omega)
  clear hst HLB
  have HSH := Lib.hid (shown_any w)
  go_enter Try.func8, Try.ntmps8
  go_wp2_with fail
  refine HSH.out.mono ?_
  rintro e w1 ⟨rfl, hb⟩
  have HB1 := Lib.hid hb
  clear hb HSH
  go_wp2_with fail
  refine (PA.out _).mono ?_
  rintro e w' ⟨rfl, rfl⟩
  go_wp2_with fail
  refine (NW.out w1).mono ?_
  rintro e w2 ⟨hb, pv, rfl, _, h0⟩
  obtain ⟨p, rfl, h9⟩ := h0 (by trivial)
  have HB2a := Lib.hid (HB1.out.alloc HB1.out.size (.cells (madeCells #[.int .i64 0] n) 2))
  have HB2 := Lib.hid (HB2a.out.trans (hb.mono HB2a.out.size))
  have hbs : w.heap.size ≤ (w1.alloc (.cells (madeCells #[.int .i64 0] n) 2)).heap.size := HB2a.out.size
  have hbs2 := hb.size
  generalize (w1.alloc (.cells (madeCells #[.int .i64 0] n) 2)).heap.size = b at *
  have H9 := Lib.hid h9
  clear hb h0 h9 HB2a
  go_wp2_with fail
  refine (NW.out w2).mono ?_
  rintro e w3 ⟨hb, pv, rfl, _, h0⟩
  obtain ⟨q, rfl, h9⟩ := h0 (by trivial)
  have hba := (Below.refl w2.heap.size w2).alloc (Nat.le_refl _) (.cells (madeCells #[.int .i64 0] n) 2)
  have H3 := Lib.hid (both_born (p := p) (q := q) H9.out hbs2 (hba.trans (hb.mono hba.size)) h9 (fun g hg => Nat.le_trans hba.size hg.1) (Nat.le_trans hbs2 hba.size))
  have HB3 := Lib.hid (HB2.out.trans ((hba.trans (hb.mono hba.size)).mono HB2.out.size))
  clear hb h0 h9 hba H9 HB1 HB2 NW PA
  go_wp2
  go_loopg [11] (n - 1) (fun gg si wr => ∃ i : Nat, si = .int .i64 i ∧ 1 ≤ i ∧ i + gg = n ∧ Hid (Both wr b p q (ST i) (ST i) []) ∧ Hid (Below w.heap.size w wr))
  case atStart => exact ⟨1, rfl, Nat.le_refl _, by omega, H3, HB3⟩
  case round =>
    obtain ⟨i, rfl, hi1, hig, HW, HBW⟩ := hrel
    by_cases hi : i < n
    · have hii : (i : Int) < (n : Int) := by omega
      obtain ⟨e1, e2⟩ := HJ.out i hi1 hi
      have HE1 := Lib.hid e1
      have HE2 := Lib.hid e2
      clear e1 e2
      go_wp2_with fail
      refine (both_join HW.out 0 (i : Int)).mono ?_
      rintro e w4 ⟨he, h4, hb⟩
      rw [HE1.out] at he
      subst he
      rw [HE2.out] at h4
      have H4 := Lib.hid h4.swap
      have HB4 := Lib.hid (HBW.out.trans (hb.mono hbs))
      clear h4 hb
      go_wp2_with fail
      refine (both_join H4.out 0 (i : Int)).mono ?_
      rintro e w5 ⟨he, h5, hb⟩
      rw [HE1.out] at he
      subst he
      rw [HE2.out] at h5
      have H5 := Lib.hid h5.swap
      have HB5 := Lib.hid (HB4.out.trans (hb.mono hbs))
      clear h5 hb
      go_wp2
      go_roundg (n - (i + 1))
      case measure => omega
      case rel => exact ⟨i + 1, by go_num, by omega, by omega, H5, HB5⟩
    · have ei : i = n := by omega
      subst i
      obtain ⟨hg1, _⟩ := HW.out.good
      obtain ⟨f1, f2, f3, f4, f5, f6, f7⟩ := HGS.out hg1
      obtain ⟨f8, f9⟩ := HGT.out hg1
      have f1' := f1 0 (by omega) (by omega)
      have F2 := Lib.hid f2
      have F3 := Lib.hid f3
      have F8 := Lib.hid f8
      rw [show ((n - 1 : Nat) : Int) = (n : Int) - 1 by omega] at f4
      have F4 := Lib.hid f4
      have F5 := Lib.hid f5
      have F6 := Lib.hid f6
      have F7 := Lib.hid f7
      have FR := Lib.hid (show (List.range n).reverse.length = n by simp)
      have TK := Lib.hid (fun (w' : World) h => both_turn (w := w') (B := b) (p := p) (q := q) (s1 := ST n) (s2 := ST n) (K := []) h (k : Int))
      have SK := Lib.hid (fun (w' : World) (s' : St) h => both_split (w := w') (B := b) (p := q) (q := p) (s1 := ST n) (s2 := s') (K := []) h (k : Int))
      have T0 := Lib.hid (fun (w' : World) (s s' : St) h => both_turn (w := w') (B := b) (p := q) (q := p) (s1 := s) (s2 := s') (K := []) h 0)
      have T1 := Lib.hid (fun (w' : World) (s s' : St) h => both_turn (w := w') (B := b) (p := q) (q := p) (s1 := s) (s2 := s') (K := []) h (k : Int))
      have JK := Lib.hid (fun (w' : World) (s s' : St) h => both_join (w := w') (B := b) (p := q) (q := p) (s1 := s) (s2 := s') (K := []) h (k : Int) 0)
      generalize turnS (ST n) (k : Int) = A1 at *
      generalize splitS (ST n) (k : Int) = C1 at *
      generalize hC2 : turnS C1 0 = C2 at *
      generalize hC3 : turnS C2 (k : Int) = C3 at *
      generalize hC4 : joinS C3 (k : Int) 0 = C4 at *
      have HC2 := Lib.hid hC2
      have HC3 := Lib.hid hC3
      have HC4 := Lib.hid hC4
      have RA := Lib.hid (fun (w' : World) K h => both_row (w := w') (B := b) (p := p) (q := q) (s1 := A1) (s2 := C4) (K := K) h 0)
      have RC := Lib.hid (fun (w' : World) K h => both_row (w := w') (B := b) (p := q) (q := p) (s1 := C4) (s2 := A1) (K := K) h 0)
      rw [f1'] at RA
      rw [f9] at RC
      have PLC := Lib.hid (fun (w' : World) K (i : Nat) h => both_place (w := w') (B := b) (p := p) (q := q) (s1 := A1) (s2 := C4) (K := K) h (i : Int))
      have ATC := Lib.hid (fun (w' : World) K (i : Nat) h => both_at (w := w') (B := b) (p := p) (q := q) (s1 := A1) (s2 := C4) (K := K) h 0 (i : Int))
      generalize (List.range n).reverse = RV at *
      rw [FR.out] at RA RC
      clear hC2 hC3 hC4 f1 f2 f3 f4 f5 f6 f7 f8 f9 f1' hg1 HGS HGT HJ hig
      have hn1 : IntKind.i64.wrap ((n : Int) - 1) = (n : Int) - 1 := by rw [IntKind.wrap_i64]; omega
      go_wp2_with fail
      refine (PB.out _).mono ?_
      rintro e w' ⟨rfl, rfl⟩
      go_wp2_with fail
      refine (TK.out _ HW.out).mono ?_
      rintro e w4 ⟨rfl, h4, hb⟩
      have H4 := Lib.hid h4.swap
      have HB4 := Lib.hid (HBW.out.trans (hb.mono hbs))
      clear h4 hb
      go_wp2_with fail
      refine (SK.out _ _ H4.out).mono ?_
      rintro e w5 ⟨rfl, h5, hb⟩
      have H5 := Lib.hid h5
      have HB5 := Lib.hid (HB4.out.trans (hb.mono hbs))
      clear h5 hb
      go_wp2_with fail
      refine (T0.out _ _ _ H5.out).mono ?_
      rintro e w6 ⟨rfl, h6, hb⟩
      rw [HC2.out] at h6
      have H6 := Lib.hid h6
      have HB6 := Lib.hid (HB5.out.trans (hb.mono hbs))
      clear h6 hb
      go_wp2_with fail
      refine (T1.out _ _ _ H6.out).mono ?_
      rintro e w7 ⟨rfl, h7, hb⟩
      rw [HC3.out] at h7
      have H7 := Lib.hid h7
      have HB7 := Lib.hid (HB6.out.trans (hb.mono hbs))
      clear h7 hb
      go_wp2_with fail
      refine (JK.out _ _ _ H7.out).mono ?_
      rintro e w8 ⟨he, h8, hb⟩
      rw [F8.out] at he
      subst he
      rw [HC4.out] at h8
      have H8 := Lib.hid h8.swap
      have HB8 := Lib.hid (HB7.out.trans (hb.mono hbs))
      clear h8 hb
      go_wp2_with fail
      refine (RA.out _ _ H8.out).mono ?_
      rintro e w9 ⟨o9, c9, rfl, h9, hb⟩
      have H9 := Lib.hid h9.swap
      have HB9 := Lib.hid (HB8.out.trans (hb.mono hbs))
      clear h9 hb
      go_wp2_with fail
      refine (RC.out _ _ H9.out).mono ?_
      rintro e w10 ⟨o10, c10, rfl, h10, hb⟩
      have H10 := Lib.hid h10.swap
      have HB10 := Lib.hid (HB9.out.trans (hb.mono hbs))
      have SM := Ne.same_any o9 o10 c9 c10 (Ne.encW RV) (Ne.encW RV) w10 (Ne.own_irow (H10.out.row (List.mem_cons_of_mem _ List.mem_cons_self))) (Ne.own_irow (H10.out.row List.mem_cons_self)) (by rw [Ne.encW_len, FR.out]; omega) (by rw [Ne.encW_len, FR.out]; omega)
      rw [Ne.encW_len, FR.out, decide_eq_true rfl] at SM
      have HSM := Lib.hid SM
      clear h10 hb SM
      go_wp2_with fail
      refine HSM.out.mono ?_
      rintro e w11 ⟨rfl, hb⟩
      have H11 := Lib.hid ((H10.out.kept hb).less (K2 := []) (fun x hx => by simp at hx))
      have HB11 := Lib.hid (HB10.out.trans (hb.mono HB10.out.size))
      clear hb HSM H4 H5 H6 H7 H8 H9 H10 HB3 HB4 HB5 HB6 HB7 HB8 HB9 HB10 TK SK T0 T1 JK RA RC HC2 HC3 HC4 F8 FR HW HBW H3
      go_wp2
      go_loopg [13] n (fun gg si wr => ∃ i : Nat, si = .int .i64 i ∧ i + gg = n ∧ Hid (Both wr b p q A1 C4 []) ∧ Hid (Below w.heap.size w wr))
      case atStart => exact ⟨0, rfl, by omega, H11, HB11⟩
      case round =>
        obtain ⟨i, rfl, hig, HW, HBW⟩ := hrel
        by_cases hi : i < n
        · have hii : (i : Int) < (n : Int) := by omega
          have f2 := F2.out i hi
          have f3 := F3.out i hi
          obtain ⟨r, hr⟩ : ∃ r, n - 1 - i = r := ⟨_, rfl⟩
          rw [hr] at f2 f3
          have F2i := Lib.hid f2
          have F3i := Lib.hid f3
          have hrz : (n : Int) - 1 - (i : Int) = (r : Int) := by omega
          have hrw : IntKind.i64.wrap (r : Int) = (r : Int) := by rw [IntKind.wrap_i64]; omega
          have hrr : ((r : Int) != (r : Int)) = false := by simp
          clear f2 f3 hr
          go_wp2_with fail
          refine (PLC.out wr _ i HW.out).mono ?_
          rintro e w12 ⟨he, h12, hb⟩
          rw [F2i.out] at he
          subst he
          have H12 := Lib.hid h12
          have HB12 := Lib.hid (HBW.out.trans (hb.mono hbs))
          clear h12 hb
          go_wp2_with fail
          refine (ATC.out w12 _ i H12.out).mono ?_
          rintro e w13 ⟨he, h13, hb⟩
          rw [F3i.out] at he
          subst he
          have H13 := Lib.hid h13
          have HB13 := Lib.hid (HB12.out.trans (hb.mono hbs))
          clear h13 hb
          go_wp2
          go_roundg (n - (i + 1))
          case measure => omega
          case rel => exact ⟨i + 1, by go_num, by omega, H13, HB13⟩
        · have ei : i = n := by omega
          subst i
          clear hig
          have hnn : ((n : Int) - 1 == (n : Int) - 1) = true := by simp
          go_wp2_with fail
          refine (both_first HW.out (k : Int)).mono ?_
          rintro e w12 ⟨he, h12, hb⟩
          rw [F4.out] at he
          subst he
          have H12 := Lib.hid h12
          have HB12 := Lib.hid (HBW.out.trans (hb.mono hbs))
          clear h12 hb
          go_wp2_with fail
          refine (both_last H12.out (k : Int)).mono ?_
          rintro e w13 ⟨he, h13, hb⟩
          rw [F5.out] at he
          subst he
          have H13 := Lib.hid h13
          have HB13 := Lib.hid (HB12.out.trans (hb.mono hbs))
          clear h13 hb
          go_wp2_with fail
          refine (both_at H13.out (k : Int) (n : Int)).mono ?_
          rintro e w14 ⟨he, h14, hb⟩
          rw [F6.out] at he
          subst he
          have H14 := Lib.hid h14
          have HB14 := Lib.hid (HB13.out.trans (hb.mono hbs))
          clear h14 hb
          go_wp2_with fail
          refine (both_at H14.out (k : Int) (-1)).mono ?_
          rintro e w15 ⟨he, h15, hb⟩
          rw [F7.out] at he
          subst he
          have HB15 := Lib.hid (HB14.out.trans (hb.mono hbs))
          clear h15 hb
          go_wp2
          go_ret
          exact ⟨rfl, HB15.out⟩

end Go.Proofs.Ytlkigpmjhojceaa.splayTurns
