/- SplayBack: for every input the law returns true and its arguments read as they did. No condition. -/
import Derived.Test.YtlkigpmjhojceaaSps
import Derived.Test.YtlkigpmjhojceaaSpb
import Derived.Deep.LoopGhost
import Derived.Deep.DeepCutAuto
import Derived.Test.YtlkigpmjhojceaaRows
import Derived.WalkKit
import Derived.ProofKit
import Derived.OpenShut
import Derived.ShutString
import Derived.ChangeOld
import Derived.Below
import Derived.Deep.Strs
namespace Go.Proofs.Ytlkigpmjhojceaa.splayBack
open Go.ChangeShapes Go.WideShapes Go.ChangeAt Go.RowKit
open Go.ChangeMaps (open_string shut_string)
set_option linter.unusedVariables false
set_option linter.unusedSimpArgs false

theorem own : ownKnob Try.prog.godebug = none := by kernel_rfl
theorem laidOut : laidOutB Try.prog = true := by kernel_rfl

def IntsIn (k : IntKind) (w : World) (a : Option Addr) (len cap : Nat) (zs : List Int) : Prop :=
  (a = none ∧ len = 0 ∧ cap = 0 ∧ zs = []) ∨
  ∃ x, a = some x ∧ len ≤ cap ∧ cap ≤ maxLen ∧ zs.length = cap ∧ (∀ i, i < zs.length → w.cell? (x.add i) = some (.int k (zs.getD i 0))) ∧ ∀ n ∈ zs, (Lit.int k n).wf = true

open Sp
theorem tell_at {w : World} {B g c i : Nat} {LR : List Nat} {n : Nat} (h : Ne.OwnI w B (.slice (some ⟨g, 0, none⟩) n c) (Ne.encW LR)) (hi : i < LR.length) : w.cell? ⟨g, i, none⟩ = some (.int .i64 ((LR.getD i 0 : Nat) : Int)) := by
  obtain ⟨g', c', e, _, hc⟩ := own_tells h (by omega)
  cases e
  exact hc i hi
theorem irow_drop {w : World} {b : Nat} {l : List Int} (h : Ne.IRow w (some ⟨b, 0, none⟩) l) (k : Nat) : Ne.IRow w (some ⟨b, k, none⟩) (l.drop k) := Sp.irow_drop h k

set_option maxRecDepth 100000 in
set_option maxHeartbeats 4000000 in
theorem walk (a0 : Option Addr) (len0 cap0 : Nat) (l0 : List Int) (a1 : Int) (a2 : Int) (a3 : Bool) (w : World) (w0 : IntsIn .i64 w a0 len0 cap0 l0) (w1 : (Lit.int .i64 a1).wf = true) (w2 : (Lit.int .i64 a2).wf = true) :
    Calls Try.prog 5 #[.slice a0 len0 cap0, .int .i64 a1, .int .i64 a2, .bool a3] w fun e w' => e = .returned (.bool true) ∧ Below w.heap.size w w' := by
  have HSH := Lib.hid (shown_any w)
  obtain ⟨vs, hk0, hq0, bq0, hcc, hcm, hnone⟩ := Ne.ints_row w0
  subst hk0
  clear w0
  have KR0 := Lib.hid hq0
  have HNO := Lib.hid hnone
  clear hq0 hnone bq0
  have b1 := bounds_i64 w1
  have b2 := bounds_i64 w2
  clear w1 w2
  obtain ⟨n, hn⟩ : ∃ n, n = vs.length := ⟨_, rfl⟩
  have NW := Lib.hid (fun (w' : World) h1 => dnew_any a0 cap0 vs w' h1 HNO.out)
  rw [← hn] at NW ⊢
  have HMM := Lib.hid hn
  have hm63 : n ≤ 9223372036854775807 := by unfold maxLen at hcm; omega
  clear hcc hcm hn
  by_cases g1 : 60 < n
  · have g1' : (60 : Int) < (n : Int) := by omega
    have g1d : decide ((60 : Int) < (n : Int)) = true := decide_eq_true g1'
    go_enter Try.func5, Try.ntmps5
    go_wp2_with fail
    refine HSH.out.mono ?_
    rintro e w1 ⟨rfl, hb⟩
    have HB1 := Lib.hid hb
    clear hb
    go_wp2
    go_ret
    exact ⟨rfl, HB1.out⟩
  have g1d : decide ((60 : Int) < (n : Int)) = false := decide_eq_false (by omega)
  have g1d2 : decide (60 < n) = false := decide_eq_false g1
  by_cases g0 : n = 0
  · subst g0
    go_enter Try.func5, Try.ntmps5
    go_wp2_with fail
    refine HSH.out.mono ?_
    rintro e w1 ⟨rfl, hb⟩
    have HB1 := Lib.hid hb
    clear hb
    go_wp2
    go_ret
    exact ⟨rfl, HB1.out⟩
  have g0' : ((n : Int) == 0) = false := by simp; omega
  have g0n : (n == 0) = false := by simpa using g0
  have hm1 : 1 ≤ n := by omega
  have hm2 : n ≤ 60 := by omega
  clear g0 g1
  by_cases hne : newE vs = 0
  case neg =>
    have h3 : newE vs = 3 := by
      unfold newE at hne ⊢
      rw [if_neg (by have := HMM.out; omega)] at hne ⊢
      split
      · rename_i c; exact absurd (if_pos c) hne
      · rfl
    rw [h3] at NW
    clear hne h3
    go_enter Try.func5, Try.ntmps5
    go_wp2_with fail
    refine HSH.out.mono ?_
    rintro e w1 ⟨rfl, hb⟩
    have HB1 := Lib.hid hb
    clear hb
    go_wp2_with fail
    refine (NW.out w1 (KR0.out.kept HB1.out)).mono ?_
    rintro e w2 ⟨hb, pv, rfl, h0, _⟩
    have hpv := h0 (by decide)
    subst hpv
    have HB2 := Lib.hid (HB1.out.trans (hb.mono HB1.out.size))
    clear hb h0
    go_wp2
    go_ret
    exact ⟨rfl, HB2.out⟩
  rw [hne] at NW
  have bpx := Ne.pickN_bd (c := a1) (n := (n : Int)) (by omega)
  have PX := Lib.hid fun w' => Ne.pick_any a1 (n : Int) w' b1.1 b1.2 (by omega) (by omega)
  generalize Ne.pickN a1 (n : Int) = Xi at *
  obtain ⟨x, rfl⟩ : ∃ x : Nat, Xi = (x : Int) := ⟨Xi.toNat, by omega⟩
  have hxn : x < n := by omega
  obtain ⟨DD, hDD⟩ : ∃ DD, Int.tmod a2 1000 = DD := ⟨_, rfl⟩
  have hdd : -1000 < DD ∧ DD < 1000 := by
    rw [← hDD]
    rcases (show a2 < 0 ∨ 0 ≤ a2 by omega) with c | c
    · have h1 := Int.tmod_nonneg (b := 1000) (a := -a2) (by omega)
      rw [Int.neg_tmod] at h1
      have h2 := Int.tmod_lt_of_pos (-a2) (b := 1000) (by omega)
      rw [Int.neg_tmod] at h2
      omega
    · have h1 := Int.tmod_nonneg (b := 1000) (a := a2) c
      have h2 := Int.tmod_lt_of_pos a2 (b := 1000) (by omega)
      omega
  have hdw : IntKind.i64.wrap (-DD) = -DD := by rw [IntKind.wrap_i64]; omega
  have HW0 := Lib.hid (whole_new (vs := vs) (by have := HMM.out; omega))
  clear b1 b2 bpx hne
  go_enter Try.func5, Try.ntmps5
  go_wp2_with fail
  refine HSH.out.mono ?_
  rintro e w1 ⟨rfl, hb⟩
  have HB1 := Lib.hid hb
  clear hb HSH
  go_wp2_with fail
  refine (NW.out w1 (KR0.out.kept HB1.out)).mono ?_
  rintro e w2 ⟨hb, pv, rfl, _, h0⟩
  obtain ⟨p, rfl, h9⟩ := h0 (by trivial)
  have hbs := HB1.out.size
  have H3 := Lib.hid (show One w2 w1.heap.size p (newS vs) [] from ⟨_, _, _, hb.size, h9, fun v l hv => by simp at hv⟩)
  have HB3 := Lib.hid (HB1.out.trans (hb.mono hbs))
  clear hb h0 h9 NW HNO
  generalize w1.heap.size = b at *
  go_wp2
  go_loopg [12] (n - 1) (fun gg si wz => ∃ (i : Nat) (s : St), si = .int .i64 i ∧ 1 ≤ i ∧ i + gg = n ∧ Hid (Whole s vs i) ∧ Hid (One wz b p s []) ∧ Hid (Below w.heap.size w wz))
  case atStart => exact ⟨1, _, rfl, Nat.le_refl _, by omega, HW0, H3, HB3⟩
  case round =>
    obtain ⟨i, s, rfl, hi1, hig, HWH, HW, HBX⟩ := hrel
    by_cases hi : i < n
    · have hii : (i : Int) < (n : Int) := by omega
      have hin : i < vs.length := by rw [← HMM.out]; exact hi
      obtain ⟨e1, e2, e3, e4⟩ := whole_join HW.out.good HWH.out hi1 hin
      obtain ⟨e5, e6, e7⟩ := whole_turn (good_join HW.out.good 0 (i : Int)) e2 hin
      have HE1 := Lib.hid e1
      have HE2 := Lib.hid e2
      have HE3 := Lib.hid e3
      have HE4 := Lib.hid e4
      have HE5 := Lib.hid e5
      have HE6 := Lib.hid e6
      have HE7 := Lib.hid e7
      clear e1 e2 e3 e4 e5 e6 e7 hin
      rcases a3 with _ | _
      · go_wp2_with fail
        refine (one_join HW.out 0 (i : Int)).mono ?_
        rintro e w4 ⟨he, h4, hb⟩
        rw [HE1.out] at he
        subst he
        have H4 := Lib.hid h4
        have HB4 := Lib.hid (HBX.out.trans (hb.mono hbs))
        clear h4 hb
        go_wp2_with fail
        refine (one_join H4.out (i : Int) 0).mono ?_
        rintro e w5 ⟨he, h5, hb⟩
        rw [HE3.out] at he
        subst he
        rw [HE4.out] at h5
        have H5 := Lib.hid h5
        have HB5 := Lib.hid (HB4.out.trans (hb.mono hbs))
        clear h5 hb
        go_wp2
        go_roundg (n - (i + 1))
        case measure => omega
        case rel => exact ⟨i + 1, _, by go_num, by omega, by omega, HE2, H5, HB5⟩
      · go_wp2_with fail
        refine (one_join HW.out 0 (i : Int)).mono ?_
        rintro e w4 ⟨he, h4, hb⟩
        rw [HE1.out] at he
        subst he
        have H4 := Lib.hid h4
        have HB4 := Lib.hid (HBX.out.trans (hb.mono hbs))
        clear h4 hb
        go_wp2_with fail
        refine (one_turn H4.out (i : Int)).mono ?_
        rintro e w5 ⟨he, h5, hb⟩
        subst he
        have H5 := Lib.hid h5
        have HB5 := Lib.hid (HB4.out.trans (hb.mono hbs))
        clear h5 hb
        go_wp2_with fail
        refine (one_join H5.out (i : Int) 0).mono ?_
        rintro e w6 ⟨he, h6, hb⟩
        rw [HE6.out] at he
        subst he
        rw [HE7.out] at h6
        have H6 := Lib.hid h6
        have HB6 := Lib.hid (HB5.out.trans (hb.mono hbs))
        clear h6 hb
        go_wp2
        go_roundg (n - (i + 1))
        case measure => omega
        case rel => exact ⟨i + 1, _, by go_num, by omega, by omega, HE5, H6, HB6⟩
    · have ei : i = n := by omega
      subst i
      have hgd := HW.out.good
      have hwh := HWH.out
      rw [HMM.out] at hwh
      obtain ⟨hall, hm⟩ := whole_all hgd hwh
      have hxv : x < vs.length := by rw [← HMM.out]; exact hxn
      have hr0 : rowZ s 0 = rowZ s (x : Int) := (hall.2 x hxv).symm
      obtain ⟨LR, k, m, r1, r2, r3, r4, r5, r6, r7, r8, r9, r10, r11, r12, r13, r14, r15, r16⟩ := row_tells hgd (x := x) (by rw [hwh.v]; exact hxv)
      rw [hr0, r1] at hall hm
      have hmn : m = n := by rw [← r2, nodup_full r16 hm, ← HMM.out]
      subst hmn
      rw [hr0, r1] at hr0
      have HR0 := Lib.hid (show rowZ s 0 = LR from (whole_all hgd hwh).1.2 x hxv ▸ r1)
      have hkx : LR[k]? = some x := by rw [← r5]; exact of_getD (by omega)
      have hf0 : LR[0]? = some (LR.getD 0 0) := of_getD (by omega)
      have hfv : LR.getD 0 0 < vs.length := (hm _).1 (List.mem_of_getElem? hf0)
      have hback := all_back hgd hall hm hxv (by omega) hkx hf0 r14 r15
      have HBK := Lib.hid hback
      have HFK := Lib.hid (show 0 < k → LR.getD 0 0 ≠ x from fun h0 e => by
        have := not_take r16 hkx
        exact this (by rw [List.mem_iff_getElem?]; exact ⟨0, by rw [List.getElem?_take, if_pos h0, hf0, e]⟩))
      have HFZ := Lib.hid (show k = 0 → LR.getD 0 0 = x from fun h0 => by subst h0; exact r5)
      have HMEM := Lib.hid hm
      have RL := Lib.hid (show ∀ (w' : World) KK (h : One w' b p s KK), Calls Try.prog 16 #[.pointer (some ⟨p, 0, none⟩), .int .i64 0] w' fun e w2 => ∃ o c, e = .returned (.slice o m c) ∧ One w2 b p s ((.slice o m c, LR) :: KK) ∧ Below b w' w2 from fun w' KK h => by
        have h1 := one_row h 0
        rw [HR0.out, r2] at h1
        exact h1)
      have RD := Lib.hid (fun (w' : World) KK h => one_row (w := w') (B := b) (p := p) (s := splitS s (x : Int)) (K := KK) h (x : Int))
      rw [r14, show (LR.drop k).length = m - k by rw [List.length_drop, r2]] at RD
      have HRH := Lib.hid (show 0 < k → ∀ (w' : World) KK (h : One w' b p (splitS s (x : Int)) KK), Calls Try.prog 16 #[.pointer (some ⟨p, 0, none⟩), .int .i64 ((LR.getD 0 0 : Nat) : Int)] w' fun e w2 => ∃ o c, e = .returned (.slice o k c) ∧ One w2 b p (splitS s (x : Int)) ((.slice o k c, LR.take k) :: KK) ∧ Below b w' w2 from fun h0 w' KK h => by
        have h1 := one_row h ((LR.getD 0 0 : Nat) : Int)
        rw [r15 h0, show (LR.take k).length = k by rw [List.length_take, r2]; omega] at h1
        exact h1)
      have HTK := Lib.hid (show (Ne.encW (LR.take k)).length = k by rw [Ne.encW_len, List.length_take, r2]; omega)
      have HDK := Lib.hid (show (Ne.encW (LR.drop k)).length = m - k by rw [Ne.encW_len, List.length_drop, r2])
      have HLK := Lib.hid (show (Ne.encW LR).length = m by rw [Ne.encW_len, r2])
      have HML := Lib.hid (show m = LR.length from r2.symm)
      obtain ⟨ml, hml⟩ : ∃ ml : Nat, (m : Int) - 1 = (ml : Int) := ⟨m - 1, by omega⟩
      have hml2 : m - 1 = ml := by omega
      rw [hml2] at r10
      have FAT := Lib.hid r8
      have FFI := Lib.hid r9
      have FLA := Lib.hid r10
      have FPL := Lib.hid r7
      have FSP := Lib.hid r13
      have HSGD := Lib.hid (good_split hgd (x : Int))
      have HRC0 := Lib.hid (fun (gr cr : Nat) (wz : World) (h : Ne.OwnI wz b (.slice (some ⟨gr, 0, none⟩) m cr) (Ne.encW LR)) => show wz.cell? ⟨gr, 0, none⟩ = some (.int .i64 ((LR.getD 0 0 : Nat) : Int)) ∧ wz.cell? ⟨gr, k, none⟩ = some (.int .i64 (x : Int)) ∧ wz.cell? ⟨gr, ml, none⟩ = some (.int .i64 ((LR.getD ml 0 : Nat) : Int)) from by
        have h2 := tell_at h (i := k) (by omega)
        rw [r5] at h2
        exact ⟨tell_at h (i := 0) (by omega), h2, tell_at h (i := ml) (by omega)⟩)
      generalize LR.getD 0 0 = f at *
      generalize LR.getD ml 0 = l0 at *
      generalize hs1 : splitS s (x : Int) = s1 at *
      have HS1 := Lib.hid hs1
      have HXV := Lib.hid hxv
      have HFV := Lib.hid hfv
      clear hs1 r1 r2 r5 r6 r7 r8 r9 r10 r11 r12 r13 r14 r15 r16 hgd hwh hall hm hr0 hkx hf0 hfv hback hml2 HWH hig hxv hi HW0
      have hmlm : (ml : Int) < (m : Int) := by omega
      have hml0 : (0 : Int) ≤ (ml : Int) := by omega
      have hmlw : IntKind.i64.wrap (ml : Int) = (ml : Int) := by rw [IntKind.wrap_i64]; omega
      have z0 : ((m : Int) != (m : Int)) = false := by simp
      have z1 : ((x : Int) != (x : Int)) = false := by simp
      have z2 : ((f : Int) != (f : Int)) = false := by simp
      have z3 : ((l0 : Int) != (l0 : Int)) = false := by simp
      have kk0 : (0 : Int) ≤ (k : Int) := by omega
      have kkn : decide ((k : Int) < 0) = false := decide_eq_false (by omega)
      have kkm : (k : Int) < (m : Int) := by omega
      have kkl : decide ((m : Int) ≤ (k : Int)) = false := decide_eq_false (by omega)
      have kkl2 : decide (m ≤ k) = false := decide_eq_false (by omega)
      have km0 : (0 : Int) < (m : Int) := by omega
      have km0n : 0 < m := by omega
      have kk2 : (k : Int) ≤ (m : Int) := by omega
      go_wp2_with fail
      refine (RL.out _ _ HW.out).mono ?_
      rintro e w17 ⟨o17, cr, rfl, h17, hb⟩
      obtain ⟨gr, cr', e5, hcw, _⟩ := own_tells (h17.row List.mem_cons_self) (by rw [← HML.out]; omega)
      simp only [Value.slice.injEq] at e5
      obtain ⟨e5a, -, e5c⟩ := e5
      subst e5a
      subst e5c
      rw [← HML.out] at hcw
      have H17 := Lib.hid h17
      have HB17 := Lib.hid (HBX.out.trans (hb.mono hbs))
      have HRC := Lib.hid (HRC0.out gr cr)
      clear h17 hb HRC0 RL
      have kk1 : (k : Int) ≤ (cr : Int) := by omega
      have kk3 : ¬ cr = k := by omega
      go_wp2_with fail
      refine (PX.out _).mono ?_
      rintro e w' ⟨rfl, rfl⟩
      go_wp2_with fail
      refine (one_place H17.out (x : Int)).mono ?_
      rintro e w18 ⟨he, h18, hb⟩
      rw [FPL.out] at he
      subst he
      have H18 := Lib.hid h18
      have HB18 := Lib.hid (HB17.out.trans (hb.mono hbs))
      clear h18 hb
      go_wp2_with fail
      refine (one_first H18.out (x : Int)).mono ?_
      rintro e w20 ⟨he, h20, hb⟩
      rw [FFI.out] at he
      subst he
      have H20 := Lib.hid h20
      have HB20 := Lib.hid (HB18.out.trans (hb.mono hbs))
      clear h20 hb
      clear H17 H18 HB17 HB18 HW HBX
      go_upto_region 19 with fail
      go_cut [163] (fun sl wc => sl = .bool false ∧ Hid (One wc b p s1 [(.slice (some ⟨gr, 0, none⟩) m cr, LR)]) ∧ Hid (Below w.heap.size w wc))
      case first =>
        by_cases k0 : 0 < k
        · as_aux_lemma =>
            have RH := Lib.hid (HRH.out k0)
            have zf : ((f : Int) != (x : Int)) = true := by
              have := HFK.out k0
              simp; omega
            clear HRH HFK HFZ HBK k0
            simp only [List.append]
            have hS0 := (show (fun w' : World => w'.cell? ⟨gr, 0, none⟩ = some (.int .i64 (f : Int)) ∧ w'.cell? ⟨gr, k, none⟩ = some (.int .i64 (x : Int)) ∧ w'.cell? ⟨gr, ml, none⟩ = some (.int .i64 (l0 : Int))) w20.drew from HRC.out _ ((H20.out.kept (Ne.below_drew (Below.refl _ _))).row List.mem_cons_self))
            refine Rh.start (S := (fun w' : World => w'.cell? ⟨gr, 0, none⟩ = some (.int .i64 (f : Int)) ∧ w'.cell? ⟨gr, k, none⟩ = some (.int .i64 (x : Int)) ∧ w'.cell? ⟨gr, ml, none⟩ = some (.int .i64 (l0 : Int)))) (by kernel_rfl) ?_
            refine Rh.take (some 83) (i := 0) (v := ?_) rfl (by kernel_rfl) (by kernel_rfl) (by kernel_rfl) (by kernel_rfl) (fun _ _ _ h => h) (Or.inl ⟨by rfl, ?_⟩) hS0 ?_
            rotate_left
            · intro w hSw
              go_simp
              try with_reducible rfl
            try simp only [Act.put, List.setIfInBounds_toArray, List.set_cons_zero, List.set_cons_succ]
            refine Rh.take (some 84) (i := 1) (v := ?_) rfl (by kernel_rfl) (by kernel_rfl) (by kernel_rfl) (by kernel_rfl) (fun _ _ _ h => h) (Or.inl ⟨by rfl, ?_⟩) hS0 ?_
            rotate_left
            · intro w hSw
              go_simp
              try with_reducible rfl
            try simp only [Act.put, List.setIfInBounds_toArray, List.set_cons_zero, List.set_cons_succ]
            refine Rh.take (some 85) (i := 2) (v := ?_) rfl (by kernel_rfl) (by kernel_rfl) (by kernel_rfl) (by kernel_rfl) (fun _ _ _ h => h) (Or.inl ⟨by rfl, ?_⟩) hS0 ?_
            rotate_left
            · intro w hSw
              go_simp
              try with_reducible rfl
            try simp only [Act.put, List.setIfInBounds_toArray, List.set_cons_zero, List.set_cons_succ]
            refine Rh.take (some 86) (i := 3) (v := ?_) rfl (by kernel_rfl) (by kernel_rfl) (by kernel_rfl) (by kernel_rfl) (fun _ _ _ h => h) (Or.inl ⟨by rfl, ?_⟩) hS0 ?_
            rotate_left
            · intro w hSw
              go_simp
              try with_reducible rfl
            try simp only [Act.put, List.setIfInBounds_toArray, List.set_cons_zero, List.set_cons_succ]
            refine Rh.take (some 87) (i := 4) (v := ?_) rfl (by kernel_rfl) (by kernel_rfl) (by kernel_rfl) (by kernel_rfl) (fun _ _ _ h => h) (Or.inl ⟨by rfl, ?_⟩) hS0 ?_
            rotate_left
            · intro w hSw
              go_simp
              try with_reducible rfl
            try simp only [Act.put, List.setIfInBounds_toArray, List.set_cons_zero, List.set_cons_succ]
            refine Rh.take (some 88) (i := 5) (v := ?_) rfl (by kernel_rfl) (by kernel_rfl) (by kernel_rfl) (by kernel_rfl) (fun _ _ _ h => h) (Or.inl ⟨by rfl, ?_⟩) hS0 ?_
            rotate_left
            · intro w hSw
              go_simp
              try with_reducible rfl
            try simp only [Act.put, List.setIfInBounds_toArray, List.set_cons_zero, List.set_cons_succ]
            refine Rh.take (some 89) (i := 6) (v := ?_) rfl (by kernel_rfl) (by kernel_rfl) (by kernel_rfl) (by kernel_rfl) (fun _ _ _ h => h) (Or.inl ⟨by rfl, ?_⟩) hS0 ?_
            rotate_left
            · intro w hSw
              go_simp
              try with_reducible rfl
            try simp only [Act.put, List.setIfInBounds_toArray, List.set_cons_zero, List.set_cons_succ]
            refine Rh.take (some 90) (i := 7) (v := ?_) rfl (by kernel_rfl) (by kernel_rfl) (by kernel_rfl) (by kernel_rfl) (fun _ _ _ h => h) (Or.inl ⟨by rfl, ?_⟩) hS0 ?_
            rotate_left
            · intro w hSw
              go_simp
              try with_reducible rfl
            try simp only [Act.put, List.setIfInBounds_toArray, List.set_cons_zero, List.set_cons_succ]
            refine Rh.take (some 91) (i := 8) (v := ?_) rfl (by kernel_rfl) (by kernel_rfl) (by kernel_rfl) (by kernel_rfl) (fun _ _ _ h => h) (Or.inl ⟨by rfl, ?_⟩) hS0 ?_
            rotate_left
            · intro w hSw
              go_simp
              try with_reducible rfl
            try simp only [Act.put, List.setIfInBounds_toArray, List.set_cons_zero, List.set_cons_succ]
            refine Rh.take (some 92) (i := 9) (v := ?_) rfl (by kernel_rfl) (by kernel_rfl) (by kernel_rfl) (by kernel_rfl) (fun _ _ _ h => h) (Or.inl ⟨by rfl, ?_⟩) hS0 ?_
            rotate_left
            · intro w hSw
              go_simp
              try with_reducible rfl
            try simp only [Act.put, List.setIfInBounds_toArray, List.set_cons_zero, List.set_cons_succ]
            refine Rh.take (some 93) (i := 10) (v := ?_) rfl (by kernel_rfl) (by kernel_rfl) (by kernel_rfl) (by kernel_rfl) (fun _ _ _ h => h) (Or.inl ⟨by rfl, ?_⟩) hS0 ?_
            rotate_left
            · intro w hSw
              go_simp
              try with_reducible rfl
            try simp only [Act.put, List.setIfInBounds_toArray, List.set_cons_zero, List.set_cons_succ]
            refine Rh.take (some 94) (i := 11) (v := ?_) rfl (by kernel_rfl) (by kernel_rfl) (by kernel_rfl) (by kernel_rfl) (fun _ _ _ h => h) (Or.inl ⟨by rfl, ?_⟩) hS0 ?_
            rotate_left
            · intro w hSw
              go_simp
              try with_reducible rfl
            try simp only [Act.put, List.setIfInBounds_toArray, List.set_cons_zero, List.set_cons_succ]
            refine Rh.take (some 95) (i := 12) (v := ?_) rfl (by kernel_rfl) (by kernel_rfl) (by kernel_rfl) (by kernel_rfl) (fun _ _ _ h => h) (Or.inl ⟨by rfl, ?_⟩) hS0 ?_
            rotate_left
            · intro w hSw
              go_simp
              try with_reducible rfl
            try simp only [Act.put, List.setIfInBounds_toArray, List.set_cons_zero, List.set_cons_succ]
            refine Rh.take (some 96) (i := 13) (v := ?_) rfl (by kernel_rfl) (by kernel_rfl) (by kernel_rfl) (by kernel_rfl) (fun _ _ _ h => h) (Or.inl ⟨by rfl, ?_⟩) hS0 ?_
            rotate_left
            · intro w hSw
              go_simp
              try with_reducible rfl
            try simp only [Act.put, List.setIfInBounds_toArray, List.set_cons_zero, List.set_cons_succ]
            refine Rh.take (some 97) (i := 14) (v := ?_) rfl (by kernel_rfl) (by kernel_rfl) (by kernel_rfl) (by kernel_rfl) (fun _ _ _ h => h) (Or.inl ⟨by rfl, ?_⟩) hS0 ?_
            rotate_left
            · intro w hSw
              go_simp
              try with_reducible rfl
            try simp only [Act.put, List.setIfInBounds_toArray, List.set_cons_zero, List.set_cons_succ]
            refine Rh.take (some 98) (i := 15) (v := ?_) rfl (by kernel_rfl) (by kernel_rfl) (by kernel_rfl) (by kernel_rfl) (fun _ _ _ h => h) (Or.inl ⟨by rfl, ?_⟩) hS0 ?_
            rotate_left
            · intro w hSw
              go_simp
              try with_reducible rfl
            try simp only [Act.put, List.setIfInBounds_toArray, List.set_cons_zero, List.set_cons_succ]
            refine Rh.take (some 99) (i := 16) (v := ?_) rfl (by kernel_rfl) (by kernel_rfl) (by kernel_rfl) (by kernel_rfl) (fun _ _ _ h => h) (Or.inl ⟨by rfl, ?_⟩) hS0 ?_
            rotate_left
            · intro w hSw
              go_simp
              try with_reducible rfl
            try simp only [Act.put, List.setIfInBounds_toArray, List.set_cons_zero, List.set_cons_succ]
            refine Rh.take (some 100) (i := 17) (v := ?_) rfl (by kernel_rfl) (by kernel_rfl) (by kernel_rfl) (by kernel_rfl) (fun _ _ _ h => h) (Or.inl ⟨by rfl, ?_⟩) hS0 ?_
            rotate_left
            · intro w hSw
              go_simp
              try with_reducible rfl
            try simp only [Act.put, List.setIfInBounds_toArray, List.set_cons_zero, List.set_cons_succ]
            refine Rh.take (some 101) (i := 18) (v := ?_) rfl (by kernel_rfl) (by kernel_rfl) (by kernel_rfl) (by kernel_rfl) (fun _ _ _ h => h) (Or.inl ⟨by rfl, ?_⟩) hS0 ?_
            rotate_left
            · intro w hSw
              go_simp
              try with_reducible rfl
            try simp only [Act.put, List.setIfInBounds_toArray, List.set_cons_zero, List.set_cons_succ]
            refine Rh.take (some 102) (i := 19) (v := ?_) rfl (by kernel_rfl) (by kernel_rfl) (by kernel_rfl) (by kernel_rfl) (fun _ _ _ h => h) (Or.inl ⟨by rfl, ?_⟩) hS0 ?_
            rotate_left
            · intro w hSw
              go_simp
              try with_reducible rfl
            try simp only [Act.put, List.setIfInBounds_toArray, List.set_cons_zero, List.set_cons_succ]
            refine Rh.take (some 103) (i := 20) (v := ?_) rfl (by kernel_rfl) (by kernel_rfl) (by kernel_rfl) (by kernel_rfl) (fun _ _ _ h => h) (Or.inl ⟨by rfl, ?_⟩) hS0 ?_
            rotate_left
            · intro w hSw
              go_simp
              try with_reducible rfl
            try simp only [Act.put, List.setIfInBounds_toArray, List.set_cons_zero, List.set_cons_succ]
            refine Rh.take (some 104) (i := 21) (v := ?_) rfl (by kernel_rfl) (by kernel_rfl) (by kernel_rfl) (by kernel_rfl) (fun _ _ _ h => h) (Or.inl ⟨by rfl, ?_⟩) hS0 ?_
            rotate_left
            · intro w hSw
              go_simp
              try with_reducible rfl
            try simp only [Act.put, List.setIfInBounds_toArray, List.set_cons_zero, List.set_cons_succ]
            refine Rh.take (some 105) (i := 22) (v := ?_) rfl (by kernel_rfl) (by kernel_rfl) (by kernel_rfl) (by kernel_rfl) (fun _ _ _ h => h) (Or.inl ⟨by rfl, ?_⟩) hS0 ?_
            rotate_left
            · intro w hSw
              go_simp
              try with_reducible rfl
            try simp only [Act.put, List.setIfInBounds_toArray, List.set_cons_zero, List.set_cons_succ]
            refine Rh.take (some 106) (i := 23) (v := ?_) rfl (by kernel_rfl) (by kernel_rfl) (by kernel_rfl) (by kernel_rfl) (fun _ _ _ h => h) (Or.inl ⟨by rfl, ?_⟩) hS0 ?_
            rotate_left
            · intro w hSw
              go_simp
              try with_reducible rfl
            try simp only [Act.put, List.setIfInBounds_toArray, List.set_cons_zero, List.set_cons_succ]
            refine Rh.take (some 107) (i := 24) (v := ?_) rfl (by kernel_rfl) (by kernel_rfl) (by kernel_rfl) (by kernel_rfl) (fun _ _ _ h => h) (Or.inl ⟨by rfl, ?_⟩) hS0 ?_
            rotate_left
            · intro w hSw
              go_simp
              try with_reducible rfl
            try simp only [Act.put, List.setIfInBounds_toArray, List.set_cons_zero, List.set_cons_succ]
            refine Rh.take (some 108) (i := 25) (v := ?_) rfl (by kernel_rfl) (by kernel_rfl) (by kernel_rfl) (by kernel_rfl) (fun _ _ _ h => h) (Or.inl ⟨by rfl, ?_⟩) hS0 ?_
            rotate_left
            · intro w hSw
              go_simp
              try with_reducible rfl
            try simp only [Act.put, List.setIfInBounds_toArray, List.set_cons_zero, List.set_cons_succ]
            refine Rh.take (some 109) (i := 26) (v := ?_) rfl (by kernel_rfl) (by kernel_rfl) (by kernel_rfl) (by kernel_rfl) (fun _ _ _ h => h) (Or.inl ⟨by rfl, ?_⟩) hS0 ?_
            rotate_left
            · intro w hSw
              go_simp
              try with_reducible rfl
            try simp only [Act.put, List.setIfInBounds_toArray, List.set_cons_zero, List.set_cons_succ]
            refine Rh.take (some 110) (i := 27) (v := ?_) rfl (by kernel_rfl) (by kernel_rfl) (by kernel_rfl) (by kernel_rfl) (fun _ _ _ h => h) (Or.inl ⟨by rfl, ?_⟩) hS0 ?_
            rotate_left
            · intro w hSw
              go_simp
              try with_reducible rfl
            try simp only [Act.put, List.setIfInBounds_toArray, List.set_cons_zero, List.set_cons_succ]
            refine Rh.take (some 111) (i := 28) (v := ?_) rfl (by kernel_rfl) (by kernel_rfl) (by kernel_rfl) (by kernel_rfl) (fun _ _ _ h => h) (Or.inl ⟨by rfl, ?_⟩) hS0 ?_
            rotate_left
            · intro w hSw
              go_simp
              try with_reducible rfl
            try simp only [Act.put, List.setIfInBounds_toArray, List.set_cons_zero, List.set_cons_succ]
            refine Rh.take (some 112) (i := 29) (v := ?_) rfl (by kernel_rfl) (by kernel_rfl) (by kernel_rfl) (by kernel_rfl) (fun _ _ _ h => h) (Or.inl ⟨by rfl, ?_⟩) hS0 ?_
            rotate_left
            · intro w hSw
              go_simp
              try with_reducible rfl
            try simp only [Act.put, List.setIfInBounds_toArray, List.set_cons_zero, List.set_cons_succ]
            refine Rh.take (some 113) (i := 30) (v := ?_) rfl (by kernel_rfl) (by kernel_rfl) (by kernel_rfl) (by kernel_rfl) (fun _ _ _ h => h) (Or.inl ⟨by rfl, ?_⟩) hS0 ?_
            rotate_left
            · intro w hSw
              go_simp
              try with_reducible rfl
            try simp only [Act.put, List.setIfInBounds_toArray, List.set_cons_zero, List.set_cons_succ]
            refine Rh.take (some 114) (i := 31) (v := ?_) rfl (by kernel_rfl) (by kernel_rfl) (by kernel_rfl) (by kernel_rfl) (fun _ _ _ h => h) (Or.inl ⟨by rfl, ?_⟩) hS0 ?_
            rotate_left
            · intro w hSw
              go_simp
              try with_reducible rfl
            try simp only [Act.put, List.setIfInBounds_toArray, List.set_cons_zero, List.set_cons_succ]
            refine Rh.take (some 115) (i := 32) (v := ?_) rfl (by kernel_rfl) (by kernel_rfl) (by kernel_rfl) (by kernel_rfl) (fun _ _ _ h => h) (Or.inl ⟨by rfl, ?_⟩) hS0 ?_
            rotate_left
            · intro w hSw
              go_simp
              try with_reducible rfl
            try simp only [Act.put, List.setIfInBounds_toArray, List.set_cons_zero, List.set_cons_succ]
            refine Rh.take (some 116) (i := 33) (v := ?_) rfl (by kernel_rfl) (by kernel_rfl) (by kernel_rfl) (by kernel_rfl) (fun _ _ _ h => h) (Or.inl ⟨by rfl, ?_⟩) hS0 ?_
            rotate_left
            · intro w hSw
              go_simp
              try with_reducible rfl
            try simp only [Act.put, List.setIfInBounds_toArray, List.set_cons_zero, List.set_cons_succ]
            refine Rh.take (some 118) (i := 35) (v := ?_) rfl (by kernel_rfl) (by kernel_rfl) (by kernel_rfl) (by kernel_rfl) (fun _ _ _ h => h) (Or.inl ⟨by rfl, ?_⟩) hS0 ?_
            rotate_left
            · intro w hSw
              go_simp
              try with_reducible rfl
            try simp only [Act.put, List.setIfInBounds_toArray, List.set_cons_zero, List.set_cons_succ]
            refine Rh.step (i := 34) (by kernel_rfl) rfl fun K' hK' => ?_
            have HK := Lib.hid hK'
            clear hK'
            go_simp
            refine (one_at (H20.out.kept (Ne.below_drew (Below.refl _ _))) (x : Int) (k : Int)).mono ?_
            rintro e w21 ⟨he, h21, hb⟩
            rw [FAT.out] at he
            subst he
            have H21 := Lib.hid h21
            have HB21 := Lib.hid ((Ne.below_drew HB20.out).trans (hb.mono hbs))
            have hS21 := (show (fun w' : World => w'.cell? ⟨gr, 0, none⟩ = some (.int .i64 (f : Int)) ∧ w'.cell? ⟨gr, k, none⟩ = some (.int .i64 (x : Int)) ∧ w'.cell? ⟨gr, ml, none⟩ = some (.int .i64 (l0 : Int))) w21 from HRC.out w21 (h21.row List.mem_cons_self))
            clear h21 hb
            refine HK.out _ _ ⟨hS21, ?_⟩
            clear HK K'
            try simp only [Act.put, List.setIfInBounds_toArray, List.set_cons_zero, List.set_cons_succ]
            refine Rh.take (some 119) (i := 36) (v := ?_) rfl (by kernel_rfl) (by kernel_rfl) (by kernel_rfl) (by kernel_rfl) (fun _ _ _ h => h) (Or.inl ⟨by rfl, ?_⟩) hS21 ?_
            rotate_left
            · intro w hSw
              go_simp
              try with_reducible rfl
            try simp only [Act.put, List.setIfInBounds_toArray, List.set_cons_zero, List.set_cons_succ]
            refine Rh.take (some 120) (i := 37) (v := ?_) rfl (by kernel_rfl) (by kernel_rfl) (by kernel_rfl) (by kernel_rfl) (fun _ _ _ h => h) (Or.inl ⟨by rfl, ?_⟩) hS21 ?_
            rotate_left
            · intro w hSw
              go_simp
              try with_reducible rfl
            try simp only [Act.put, List.setIfInBounds_toArray, List.set_cons_zero, List.set_cons_succ]
            refine Rh.take (some 121) (i := 38) (v := ?_) rfl (by kernel_rfl) (by kernel_rfl) (by kernel_rfl) (by kernel_rfl) (fun _ _ _ h => h) (Or.inl ⟨by rfl, ?_⟩) hS21 ?_
            rotate_left
            · intro w hSw
              go_simp
              try with_reducible rfl
            try simp only [Act.put, List.setIfInBounds_toArray, List.set_cons_zero, List.set_cons_succ]
            refine Rh.take (some 122) (i := 39) (v := ?_) rfl (by kernel_rfl) (by kernel_rfl) (by kernel_rfl) (by kernel_rfl) (fun _ _ _ h => h) (Or.inl ⟨by rfl, ?_⟩) hS21 ?_
            rotate_left
            · intro w hSw
              go_simp
              try with_reducible rfl
            try simp only [Act.put, List.setIfInBounds_toArray, List.set_cons_zero, List.set_cons_succ]
            refine Rh.take (some 123) (i := 40) (v := ?_) rfl (by kernel_rfl) (by kernel_rfl) (by kernel_rfl) (by kernel_rfl) (fun _ _ _ h => h) (Or.inl ⟨by rfl, ?_⟩) hS21 ?_
            rotate_left
            · intro w hSw
              go_simp
              try with_reducible rfl
            try simp only [Act.put, List.setIfInBounds_toArray, List.set_cons_zero, List.set_cons_succ]
            refine Rh.take (some 125) (i := 42) (v := ?_) rfl (by kernel_rfl) (by kernel_rfl) (by kernel_rfl) (by kernel_rfl) (fun _ _ _ h => h) (Or.inl ⟨by rfl, ?_⟩) hS21 ?_
            rotate_left
            · intro w hSw
              go_simp
              try with_reducible rfl
            try simp only [Act.put, List.setIfInBounds_toArray, List.set_cons_zero, List.set_cons_succ]
            refine Rh.take (some 126) (i := 43) (v := ?_) rfl (by kernel_rfl) (by kernel_rfl) (by kernel_rfl) (by kernel_rfl) (fun _ _ _ h => h) (Or.inl ⟨by rfl, ?_⟩) hS21 ?_
            rotate_left
            · intro w hSw
              go_simp
              try with_reducible rfl
            try simp only [Act.put, List.setIfInBounds_toArray, List.set_cons_zero, List.set_cons_succ]
            refine Rh.take (some 127) (i := 44) (v := ?_) rfl (by kernel_rfl) (by kernel_rfl) (by kernel_rfl) (by kernel_rfl) (fun _ _ _ h => h) (Or.inl ⟨by rfl, ?_⟩) hS21 ?_
            rotate_left
            · intro w hSw
              go_simp
              try with_reducible rfl
            try simp only [Act.put, List.setIfInBounds_toArray, List.set_cons_zero, List.set_cons_succ]
            refine Rh.take (some 128) (i := 45) (v := ?_) rfl (by kernel_rfl) (by kernel_rfl) (by kernel_rfl) (by kernel_rfl) (fun _ _ _ h => h) (Or.inl ⟨by rfl, ?_⟩) hS21 ?_
            rotate_left
            · intro w hSw
              go_simp
              try with_reducible rfl
            try simp only [Act.put, List.setIfInBounds_toArray, List.set_cons_zero, List.set_cons_succ]
            refine Rh.take (some 129) (i := 46) (v := ?_) rfl (by kernel_rfl) (by kernel_rfl) (by kernel_rfl) (by kernel_rfl) (fun _ _ _ h => h) (Or.inl ⟨by rfl, ?_⟩) hS21 ?_
            rotate_left
            · intro w hSw
              go_simp
              try with_reducible rfl
            try simp only [Act.put, List.setIfInBounds_toArray, List.set_cons_zero, List.set_cons_succ]
            refine Rh.take (some 130) (i := 47) (v := ?_) rfl (by kernel_rfl) (by kernel_rfl) (by kernel_rfl) (by kernel_rfl) (fun _ _ _ h => h) (Or.inl ⟨by rfl, ?_⟩) hS21 ?_
            rotate_left
            · intro w hSw
              go_simp
              try with_reducible rfl
            try simp only [Act.put, List.setIfInBounds_toArray, List.set_cons_zero, List.set_cons_succ]
            refine Rh.step (i := 41) (by kernel_rfl) rfl fun K' hK' => ?_
            have HK := Lib.hid hK'
            clear hK'
            go_simp
            refine (one_last H21.out (x : Int)).mono ?_
            rintro e w22 ⟨he, h22, hb⟩
            rw [FLA.out] at he
            subst he
            have H22 := Lib.hid h22
            have HB22 := Lib.hid (HB21.out.trans (hb.mono hbs))
            have hS22 := (show (fun w' : World => w'.cell? ⟨gr, 0, none⟩ = some (.int .i64 (f : Int)) ∧ w'.cell? ⟨gr, k, none⟩ = some (.int .i64 (x : Int)) ∧ w'.cell? ⟨gr, ml, none⟩ = some (.int .i64 (l0 : Int))) w22 from HRC.out w22 (h22.row List.mem_cons_self))
            clear h22 hb
            refine HK.out _ _ ⟨hS22, ?_⟩
            clear HK K'
            try simp only [Act.put, List.setIfInBounds_toArray, List.set_cons_zero, List.set_cons_succ]
            refine Rh.take (some 131) (i := 48) (v := ?_) rfl (by kernel_rfl) (by kernel_rfl) (by kernel_rfl) (by kernel_rfl) (fun _ _ _ h => h) (Or.inl ⟨by rfl, ?_⟩) hS22 ?_
            rotate_left
            · intro w hSw
              go_simp
              try with_reducible rfl
            try simp only [Act.put, List.setIfInBounds_toArray, List.set_cons_zero, List.set_cons_succ]
            refine Rh.take (some 132) (i := 49) (v := ?_) rfl (by kernel_rfl) (by kernel_rfl) (by kernel_rfl) (by kernel_rfl) (fun _ _ _ h => h) (Or.inl ⟨by rfl, ?_⟩) hS22 ?_
            rotate_left
            · intro w hSw
              go_simp
              try with_reducible rfl
            try simp only [Act.put, List.setIfInBounds_toArray, List.set_cons_zero, List.set_cons_succ]
            refine Rh.take (some 133) (i := 50) (v := ?_) rfl (by kernel_rfl) (by kernel_rfl) (by kernel_rfl) (by kernel_rfl) (fun _ _ _ h => h) (Or.inl ⟨by rfl, ?_⟩) hS22 ?_
            rotate_left
            · intro w hSw
              go_simp
              try with_reducible rfl
            try simp only [Act.put, List.setIfInBounds_toArray, List.set_cons_zero, List.set_cons_succ]
            refine Rh.take (some 134) (i := 51) (v := ?_) rfl (by kernel_rfl) (by kernel_rfl) (by kernel_rfl) (by kernel_rfl) (fun _ _ _ h => h) (Or.inl ⟨by rfl, ?_⟩) hS22 ?_
            rotate_left
            · intro w hSw
              go_simp
              try with_reducible rfl
            try simp only [Act.put, List.setIfInBounds_toArray, List.set_cons_zero, List.set_cons_succ]
            refine Rh.take (some 135) (i := 52) (v := ?_) rfl (by kernel_rfl) (by kernel_rfl) (by kernel_rfl) (by kernel_rfl) (fun _ _ _ h => h) (Or.inl ⟨by rfl, ?_⟩) hS22 ?_
            rotate_left
            · intro w hSw
              go_simp
              try with_reducible rfl
            try simp only [Act.put, List.setIfInBounds_toArray, List.set_cons_zero, List.set_cons_succ]
            refine Rh.step (i := 53) (by kernel_rfl) rfl fun K' hK' => ?_
            have HK := Lib.hid hK'
            clear hK'
            go_simp
            refine (one_split H22.out (x : Int)).mono ?_
            rintro e w23 ⟨he, h23, hb⟩
            rw [FSP.out] at he
            subst he
            rw [HS1.out] at h23
            have H23 := Lib.hid h23
            have HB23 := Lib.hid (HB22.out.trans (hb.mono hbs))
            have hS23 := (show (fun w' : World => w'.cell? ⟨gr, 0, none⟩ = some (.int .i64 (f : Int)) ∧ w'.cell? ⟨gr, k, none⟩ = some (.int .i64 (x : Int)) ∧ w'.cell? ⟨gr, ml, none⟩ = some (.int .i64 (l0 : Int))) w23 from HRC.out w23 (h23.row List.mem_cons_self))
            clear h23 hb
            refine HK.out _ _ ⟨hS23, ?_⟩
            clear HK K'
            try simp only [Act.put, List.setIfInBounds_toArray, List.set_cons_zero, List.set_cons_succ]
            refine Rh.take (some 137) (i := 54) (v := ?_) rfl (by kernel_rfl) (by kernel_rfl) (by kernel_rfl) (by kernel_rfl) (fun _ _ _ h => h) (Or.inl ⟨by rfl, ?_⟩) hS23 ?_
            rotate_left
            · intro w hSw
              go_simp
              try with_reducible rfl
            try simp only [Act.put, List.setIfInBounds_toArray, List.set_cons_zero, List.set_cons_succ]
            refine Rh.take (some 138) (i := 55) (v := ?_) rfl (by kernel_rfl) (by kernel_rfl) (by kernel_rfl) (by kernel_rfl) (fun _ _ _ h => h) (Or.inl ⟨by rfl, ?_⟩) hS23 ?_
            rotate_left
            · intro w hSw
              go_simp
              try with_reducible rfl
            try simp only [Act.put, List.setIfInBounds_toArray, List.set_cons_zero, List.set_cons_succ]
            refine Rh.take (some 139) (i := 56) (v := ?_) rfl (by kernel_rfl) (by kernel_rfl) (by kernel_rfl) (by kernel_rfl) (fun _ _ _ h => h) (Or.inl ⟨by rfl, ?_⟩) hS23 ?_
            rotate_left
            · intro w hSw
              go_simp
              try with_reducible rfl
            try simp only [Act.put, List.setIfInBounds_toArray, List.set_cons_zero, List.set_cons_succ]
            refine Rh.take (some 140) (i := 57) (v := ?_) rfl (by kernel_rfl) (by kernel_rfl) (by kernel_rfl) (by kernel_rfl) (fun _ _ _ h => h) (Or.inl ⟨by rfl, ?_⟩) hS23 ?_
            rotate_left
            · intro w hSw
              go_simp
              try with_reducible rfl
            try simp only [Act.put, List.setIfInBounds_toArray, List.set_cons_zero, List.set_cons_succ]
            refine Rh.take (some 141) (i := 58) (v := ?_) rfl (by kernel_rfl) (by kernel_rfl) (by kernel_rfl) (by kernel_rfl) (fun _ _ _ h => h) (Or.inl ⟨by rfl, ?_⟩) hS23 ?_
            rotate_left
            · intro w hSw
              go_simp
              try with_reducible rfl
            try simp only [Act.put, List.setIfInBounds_toArray, List.set_cons_zero, List.set_cons_succ]
            refine Rh.take (some 143) (i := 60) (v := ?_) rfl (by kernel_rfl) (by kernel_rfl) (by kernel_rfl) (by kernel_rfl) (fun _ _ _ h => h) (Or.inl ⟨by rfl, ?_⟩) hS23 ?_
            rotate_left
            · intro w hSw
              go_simp
              try with_reducible rfl
            try simp only [Act.put, List.setIfInBounds_toArray, List.set_cons_zero, List.set_cons_succ]
            refine Rh.take (some 144) (i := 61) (v := ?_) rfl (by kernel_rfl) (by kernel_rfl) (by kernel_rfl) (by kernel_rfl) (fun _ _ _ h => h) (Or.inl ⟨by rfl, ?_⟩) hS23 ?_
            rotate_left
            · intro w hSw
              go_simp
              try with_reducible rfl
            try simp only [Act.put, List.setIfInBounds_toArray, List.set_cons_zero, List.set_cons_succ]
            refine Rh.take (some 145) (i := 62) (v := ?_) rfl (by kernel_rfl) (by kernel_rfl) (by kernel_rfl) (by kernel_rfl) (fun _ _ _ h => h) (Or.inl ⟨by rfl, ?_⟩) hS23 ?_
            rotate_left
            · intro w hSw
              go_simp
              try with_reducible rfl
            try simp only [Act.put, List.setIfInBounds_toArray, List.set_cons_zero, List.set_cons_succ]
            refine Rh.step (i := 59) (by kernel_rfl) rfl fun K' hK' => ?_
            have HK := Lib.hid hK'
            clear hK'
            go_simp
            refine (RD.out _ _ H23.out).mono ?_
            rintro e w24 ⟨o24, c24, rfl, h24, hb⟩
            have H24 := Lib.hid h24
            have HB24 := Lib.hid (HB23.out.trans (hb.mono hbs))
            have hS24 := (show (fun w' : World => w'.cell? ⟨gr, 0, none⟩ = some (.int .i64 (f : Int)) ∧ w'.cell? ⟨gr, k, none⟩ = some (.int .i64 (x : Int)) ∧ w'.cell? ⟨gr, ml, none⟩ = some (.int .i64 (l0 : Int))) w24 from HRC.out w24 (h24.row (List.mem_cons_of_mem _ List.mem_cons_self)))
            clear h24 hb
            refine HK.out _ _ ⟨hS24, ?_⟩
            clear HK K'
            try simp only [Act.put, List.setIfInBounds_toArray, List.set_cons_zero, List.set_cons_succ]
            refine Rh.step (i := 63) (by kernel_rfl) rfl fun K' hK' => ?_
            have HK := Lib.hid hK'
            clear hK'
            go_simp
            have SM := Ne.same_any o24 (some ⟨gr, k, none⟩) c24 (cr - k) (Ne.encW (LR.drop k)) (Ne.encW (LR.drop k)) _ (Ne.own_irow (H24.out.row List.mem_cons_self)) (by rw [encW_drop]; exact irow_drop (Ne.own_irow (H24.out.row (List.mem_cons_of_mem _ List.mem_cons_self))) k) (by rw [HDK.out]; omega) (by rw [HDK.out]; omega)
            rw [HDK.out, decide_eq_true rfl] at SM
            refine SM.mono ?_
            rintro e w25 ⟨rfl, hb⟩
            have H25 := Lib.hid (H24.out.kept hb)
            have HB25 := Lib.hid (HB24.out.trans (hb.mono (Nat.le_trans hbs H24.out.size)))
            have hS25 := (show (fun w' : World => w'.cell? ⟨gr, 0, none⟩ = some (.int .i64 (f : Int)) ∧ w'.cell? ⟨gr, k, none⟩ = some (.int .i64 (x : Int)) ∧ w'.cell? ⟨gr, ml, none⟩ = some (.int .i64 (l0 : Int))) w25 from HRC.out w25 (H25.out.row (List.mem_cons_of_mem _ List.mem_cons_self)))
            clear hb SM
            refine HK.out _ _ ⟨hS25, ?_⟩
            clear HK K'
            try simp only [Act.put, List.setIfInBounds_toArray, List.set_cons_zero, List.set_cons_succ]
            refine Rh.take (some 147) (i := 64) (v := ?_) rfl (by kernel_rfl) (by kernel_rfl) (by kernel_rfl) (by kernel_rfl) (fun _ _ _ h => h) (Or.inl ⟨by rfl, ?_⟩) hS25 ?_
            rotate_left
            · intro w hSw
              go_simp
              try with_reducible rfl
            try simp only [Act.put, List.setIfInBounds_toArray, List.set_cons_zero, List.set_cons_succ]
            refine Rh.take (some 148) (i := 65) (v := ?_) rfl (by kernel_rfl) (by kernel_rfl) (by kernel_rfl) (by kernel_rfl) (fun _ _ _ h => h) (Or.inl ⟨by rfl, ?_⟩) hS25 ?_
            rotate_left
            · intro w hSw
              go_simp
              try with_reducible rfl
            try simp only [Act.put, List.setIfInBounds_toArray, List.set_cons_zero, List.set_cons_succ]
            refine Rh.take (some 149) (i := 66) (v := ?_) rfl (by kernel_rfl) (by kernel_rfl) (by kernel_rfl) (by kernel_rfl) (fun _ _ _ h => h) (Or.inl ⟨by rfl, ?_⟩) hS25 ?_
            rotate_left
            · intro w hSw
              go_simp
              try with_reducible rfl
            try simp only [Act.put, List.setIfInBounds_toArray, List.set_cons_zero, List.set_cons_succ]
            refine Rh.take (some 150) (i := 67) (v := ?_) rfl (by kernel_rfl) (by kernel_rfl) (by kernel_rfl) (by kernel_rfl) (fun _ _ _ h => h) (Or.inl ⟨by rfl, ?_⟩) hS25 ?_
            rotate_left
            · intro w hSw
              go_simp
              try with_reducible rfl
            try simp only [Act.put, List.setIfInBounds_toArray, List.set_cons_zero, List.set_cons_succ]
            refine Rh.take (some 151) (i := 68) (v := ?_) rfl (by kernel_rfl) (by kernel_rfl) (by kernel_rfl) (by kernel_rfl) (fun _ _ _ h => h) (Or.inl ⟨by rfl, ?_⟩) hS25 ?_
            rotate_left
            · intro w hSw
              go_simp
              try with_reducible rfl
            try simp only [Act.put, List.setIfInBounds_toArray, List.set_cons_zero, List.set_cons_succ]
            refine Rh.take (some 152) (i := 69) (v := ?_) rfl (by kernel_rfl) (by kernel_rfl) (by kernel_rfl) (by kernel_rfl) (fun _ _ _ h => h) (Or.inl ⟨by rfl, ?_⟩) hS25 ?_
            rotate_left
            · intro w hSw
              go_simp
              try with_reducible rfl
            try simp only [Act.put, List.setIfInBounds_toArray, List.set_cons_zero, List.set_cons_succ]
            refine Rh.take (some 153) (i := 70) (v := ?_) rfl (by kernel_rfl) (by kernel_rfl) (by kernel_rfl) (by kernel_rfl) (fun _ _ _ h => h) (Or.inl ⟨by rfl, ?_⟩) hS25 ?_
            rotate_left
            · intro w hSw
              go_simp
              try with_reducible rfl
            try simp only [Act.put, List.setIfInBounds_toArray, List.set_cons_zero, List.set_cons_succ]
            refine Rh.take (some 154) (i := 71) (v := ?_) rfl (by kernel_rfl) (by kernel_rfl) (by kernel_rfl) (by kernel_rfl) (fun _ _ _ h => h) (Or.inl ⟨by rfl, ?_⟩) hS25 ?_
            rotate_left
            · intro w hSw
              go_simp
              try with_reducible rfl
            try simp only [Act.put, List.setIfInBounds_toArray, List.set_cons_zero, List.set_cons_succ]
            refine Rh.take (some 155) (i := 72) (v := ?_) rfl (by kernel_rfl) (by kernel_rfl) (by kernel_rfl) (by kernel_rfl) (fun _ _ _ h => h) (Or.inl ⟨by rfl, ?_⟩) hS25 ?_
            rotate_left
            · intro w hSw
              go_simp
              try with_reducible rfl
            try simp only [Act.put, List.setIfInBounds_toArray, List.set_cons_zero, List.set_cons_succ]
            refine Rh.take (some 157) (i := 74) (v := ?_) rfl (by kernel_rfl) (by kernel_rfl) (by kernel_rfl) (by kernel_rfl) (fun _ _ _ h => h) (Or.inl ⟨by rfl, ?_⟩) hS25 ?_
            rotate_left
            · intro w hSw
              go_simp
              try with_reducible rfl
            try simp only [Act.put, List.setIfInBounds_toArray, List.set_cons_zero, List.set_cons_succ]
            refine Rh.take (some 158) (i := 75) (v := ?_) rfl (by kernel_rfl) (by kernel_rfl) (by kernel_rfl) (by kernel_rfl) (fun _ _ _ h => h) (Or.inl ⟨by rfl, ?_⟩) hS25 ?_
            rotate_left
            · intro w hSw
              go_simp
              try with_reducible rfl
            try simp only [Act.put, List.setIfInBounds_toArray, List.set_cons_zero, List.set_cons_succ]
            refine Rh.take (some 159) (i := 76) (v := ?_) rfl (by kernel_rfl) (by kernel_rfl) (by kernel_rfl) (by kernel_rfl) (fun _ _ _ h => h) (Or.inl ⟨by rfl, ?_⟩) hS25 ?_
            rotate_left
            · intro w hSw
              go_simp
              try with_reducible rfl
            try simp only [Act.put, List.setIfInBounds_toArray, List.set_cons_zero, List.set_cons_succ]
            refine Rh.step (i := 73) (by kernel_rfl) rfl fun K' hK' => ?_
            have HK := Lib.hid hK'
            clear hK'
            go_simp
            refine (RH.out _ _ H25.out).mono ?_
            rintro e w26 ⟨o26, c26, rfl, h26, hb⟩
            have H26 := Lib.hid h26
            have HB26 := Lib.hid (HB25.out.trans (hb.mono hbs))
            have hS26 := (show (fun w' : World => w'.cell? ⟨gr, 0, none⟩ = some (.int .i64 (f : Int)) ∧ w'.cell? ⟨gr, k, none⟩ = some (.int .i64 (x : Int)) ∧ w'.cell? ⟨gr, ml, none⟩ = some (.int .i64 (l0 : Int))) w26 from HRC.out w26 (h26.row (List.mem_cons_of_mem _ (List.mem_cons_of_mem _ List.mem_cons_self))))
            clear h26 hb
            refine HK.out _ _ ⟨hS26, ?_⟩
            clear HK K'
            try simp only [Act.put, List.setIfInBounds_toArray, List.set_cons_zero, List.set_cons_succ]
            refine Rh.step (i := 77) (by kernel_rfl) rfl fun K' hK' => ?_
            have HK := Lib.hid hK'
            clear hK'
            go_simp
            have SM := Ne.same_any o26 (some ⟨gr, 0, none⟩) c26 cr (Ne.encW (LR.take k)) (Ne.encW (LR.take k)) _ (Ne.own_irow (H26.out.row List.mem_cons_self)) (by rw [encW_take]; exact irow_take (Ne.own_irow (H26.out.row (List.mem_cons_of_mem _ (List.mem_cons_of_mem _ List.mem_cons_self)))) k) (by rw [HTK.out]; omega) (by rw [HTK.out]; omega)
            rw [HTK.out, decide_eq_true rfl] at SM
            refine SM.mono ?_
            rintro e w27 ⟨rfl, hb⟩
            have H27 := Lib.hid (H26.out.kept hb)
            have HB27 := Lib.hid (HB26.out.trans (hb.mono (Nat.le_trans hbs H26.out.size)))
            have hS27 := (show (fun w' : World => w'.cell? ⟨gr, 0, none⟩ = some (.int .i64 (f : Int)) ∧ w'.cell? ⟨gr, k, none⟩ = some (.int .i64 (x : Int)) ∧ w'.cell? ⟨gr, ml, none⟩ = some (.int .i64 (l0 : Int))) w27 from HRC.out w27 (H27.out.row (List.mem_cons_of_mem _ (List.mem_cons_of_mem _ List.mem_cons_self))))
            clear hb SM
            refine HK.out _ _ ⟨hS27, ?_⟩
            clear HK K'
            try simp only [Act.put, List.setIfInBounds_toArray, List.set_cons_zero, List.set_cons_succ]
            refine Rh.take (some 161) (i := 78) (v := ?_) rfl (by kernel_rfl) (by kernel_rfl) (by kernel_rfl) (by kernel_rfl) (fun _ _ _ h => h) (Or.inl ⟨by rfl, ?_⟩) hS27 ?_
            rotate_left
            · intro w hSw
              go_simp
              try with_reducible rfl
            try simp only [Act.put, List.setIfInBounds_toArray, List.set_cons_zero, List.set_cons_succ]
            refine Rh.take (some 162) (i := 79) (v := ?_) rfl (by kernel_rfl) (by kernel_rfl) (by kernel_rfl) (by kernel_rfl) (fun _ _ _ h => h) (Or.inl ⟨by rfl, ?_⟩) hS27 ?_
            rotate_left
            · intro w hSw
              go_simp
              try with_reducible rfl
            try simp only [Act.put, List.setIfInBounds_toArray, List.set_cons_zero, List.set_cons_succ]
            refine Rh.take (some 163) (i := 80) (v := ?_) rfl (by kernel_rfl) (by kernel_rfl) (by kernel_rfl) (by kernel_rfl) (fun _ _ _ h => h) (Or.inl ⟨by rfl, ?_⟩) hS27 ?_
            rotate_left
            · intro w hSw
              go_simp
              try with_reducible rfl
            try simp only [Act.put, List.setIfInBounds_toArray, List.set_cons_zero, List.set_cons_succ]
            refine Rh.done (by kernel_rfl) ?_ _
            have H30 := Lib.hid (H27.out.less (K2 := [(.slice (some ⟨gr, 0, none⟩) m cr, LR)]) (fun z hz => by simp at hz; subst hz; simp))
            have HB30 := Lib.hid HB27.out
            clear hS0 hS21 hS22 hS23 hS24 hS25 hS26 hS27 H20 H21 H22 H23 H24 H25 H26 H27 HB20 HB21 HB22 HB23 HB24 HB25 HB26 HB27
            go_wp2_with fail
            go_meet
            case rel => exact ⟨rfl, H30, HB30⟩
        · as_aux_lemma =>
            have k00 : k = 0 := by omega
            have zf : ((f : Int) != (x : Int)) = false := by
              have := HFZ.out k00
              simp; omega
            clear k00 HRH HFK HFZ HBK k0
            simp only [List.append]
            have hS0 := (show (fun w' : World => w'.cell? ⟨gr, 0, none⟩ = some (.int .i64 (f : Int)) ∧ w'.cell? ⟨gr, k, none⟩ = some (.int .i64 (x : Int)) ∧ w'.cell? ⟨gr, ml, none⟩ = some (.int .i64 (l0 : Int))) w20.drew from HRC.out _ ((H20.out.kept (Ne.below_drew (Below.refl _ _))).row List.mem_cons_self))
            refine Rh.start (S := (fun w' : World => w'.cell? ⟨gr, 0, none⟩ = some (.int .i64 (f : Int)) ∧ w'.cell? ⟨gr, k, none⟩ = some (.int .i64 (x : Int)) ∧ w'.cell? ⟨gr, ml, none⟩ = some (.int .i64 (l0 : Int)))) (by kernel_rfl) ?_
            refine Rh.take (some 83) (i := 0) (v := ?_) rfl (by kernel_rfl) (by kernel_rfl) (by kernel_rfl) (by kernel_rfl) (fun _ _ _ h => h) (Or.inl ⟨by rfl, ?_⟩) hS0 ?_
            rotate_left
            · intro w hSw
              go_simp
              try with_reducible rfl
            try simp only [Act.put, List.setIfInBounds_toArray, List.set_cons_zero, List.set_cons_succ]
            refine Rh.take (some 84) (i := 1) (v := ?_) rfl (by kernel_rfl) (by kernel_rfl) (by kernel_rfl) (by kernel_rfl) (fun _ _ _ h => h) (Or.inl ⟨by rfl, ?_⟩) hS0 ?_
            rotate_left
            · intro w hSw
              go_simp
              try with_reducible rfl
            try simp only [Act.put, List.setIfInBounds_toArray, List.set_cons_zero, List.set_cons_succ]
            refine Rh.take (some 85) (i := 2) (v := ?_) rfl (by kernel_rfl) (by kernel_rfl) (by kernel_rfl) (by kernel_rfl) (fun _ _ _ h => h) (Or.inl ⟨by rfl, ?_⟩) hS0 ?_
            rotate_left
            · intro w hSw
              go_simp
              try with_reducible rfl
            try simp only [Act.put, List.setIfInBounds_toArray, List.set_cons_zero, List.set_cons_succ]
            refine Rh.take (some 86) (i := 3) (v := ?_) rfl (by kernel_rfl) (by kernel_rfl) (by kernel_rfl) (by kernel_rfl) (fun _ _ _ h => h) (Or.inl ⟨by rfl, ?_⟩) hS0 ?_
            rotate_left
            · intro w hSw
              go_simp
              try with_reducible rfl
            try simp only [Act.put, List.setIfInBounds_toArray, List.set_cons_zero, List.set_cons_succ]
            refine Rh.take (some 87) (i := 4) (v := ?_) rfl (by kernel_rfl) (by kernel_rfl) (by kernel_rfl) (by kernel_rfl) (fun _ _ _ h => h) (Or.inl ⟨by rfl, ?_⟩) hS0 ?_
            rotate_left
            · intro w hSw
              go_simp
              try with_reducible rfl
            try simp only [Act.put, List.setIfInBounds_toArray, List.set_cons_zero, List.set_cons_succ]
            refine Rh.take (some 88) (i := 5) (v := ?_) rfl (by kernel_rfl) (by kernel_rfl) (by kernel_rfl) (by kernel_rfl) (fun _ _ _ h => h) (Or.inl ⟨by rfl, ?_⟩) hS0 ?_
            rotate_left
            · intro w hSw
              go_simp
              try with_reducible rfl
            try simp only [Act.put, List.setIfInBounds_toArray, List.set_cons_zero, List.set_cons_succ]
            refine Rh.take (some 89) (i := 6) (v := ?_) rfl (by kernel_rfl) (by kernel_rfl) (by kernel_rfl) (by kernel_rfl) (fun _ _ _ h => h) (Or.inl ⟨by rfl, ?_⟩) hS0 ?_
            rotate_left
            · intro w hSw
              go_simp
              try with_reducible rfl
            try simp only [Act.put, List.setIfInBounds_toArray, List.set_cons_zero, List.set_cons_succ]
            refine Rh.take (some 90) (i := 7) (v := ?_) rfl (by kernel_rfl) (by kernel_rfl) (by kernel_rfl) (by kernel_rfl) (fun _ _ _ h => h) (Or.inl ⟨by rfl, ?_⟩) hS0 ?_
            rotate_left
            · intro w hSw
              go_simp
              try with_reducible rfl
            try simp only [Act.put, List.setIfInBounds_toArray, List.set_cons_zero, List.set_cons_succ]
            refine Rh.take (some 91) (i := 8) (v := ?_) rfl (by kernel_rfl) (by kernel_rfl) (by kernel_rfl) (by kernel_rfl) (fun _ _ _ h => h) (Or.inl ⟨by rfl, ?_⟩) hS0 ?_
            rotate_left
            · intro w hSw
              go_simp
              try with_reducible rfl
            try simp only [Act.put, List.setIfInBounds_toArray, List.set_cons_zero, List.set_cons_succ]
            refine Rh.take (some 92) (i := 9) (v := ?_) rfl (by kernel_rfl) (by kernel_rfl) (by kernel_rfl) (by kernel_rfl) (fun _ _ _ h => h) (Or.inl ⟨by rfl, ?_⟩) hS0 ?_
            rotate_left
            · intro w hSw
              go_simp
              try with_reducible rfl
            try simp only [Act.put, List.setIfInBounds_toArray, List.set_cons_zero, List.set_cons_succ]
            refine Rh.take (some 93) (i := 10) (v := ?_) rfl (by kernel_rfl) (by kernel_rfl) (by kernel_rfl) (by kernel_rfl) (fun _ _ _ h => h) (Or.inl ⟨by rfl, ?_⟩) hS0 ?_
            rotate_left
            · intro w hSw
              go_simp
              try with_reducible rfl
            try simp only [Act.put, List.setIfInBounds_toArray, List.set_cons_zero, List.set_cons_succ]
            refine Rh.take (some 94) (i := 11) (v := ?_) rfl (by kernel_rfl) (by kernel_rfl) (by kernel_rfl) (by kernel_rfl) (fun _ _ _ h => h) (Or.inl ⟨by rfl, ?_⟩) hS0 ?_
            rotate_left
            · intro w hSw
              go_simp
              try with_reducible rfl
            try simp only [Act.put, List.setIfInBounds_toArray, List.set_cons_zero, List.set_cons_succ]
            refine Rh.take (some 95) (i := 12) (v := ?_) rfl (by kernel_rfl) (by kernel_rfl) (by kernel_rfl) (by kernel_rfl) (fun _ _ _ h => h) (Or.inl ⟨by rfl, ?_⟩) hS0 ?_
            rotate_left
            · intro w hSw
              go_simp
              try with_reducible rfl
            try simp only [Act.put, List.setIfInBounds_toArray, List.set_cons_zero, List.set_cons_succ]
            refine Rh.take (some 96) (i := 13) (v := ?_) rfl (by kernel_rfl) (by kernel_rfl) (by kernel_rfl) (by kernel_rfl) (fun _ _ _ h => h) (Or.inl ⟨by rfl, ?_⟩) hS0 ?_
            rotate_left
            · intro w hSw
              go_simp
              try with_reducible rfl
            try simp only [Act.put, List.setIfInBounds_toArray, List.set_cons_zero, List.set_cons_succ]
            refine Rh.take (some 97) (i := 14) (v := ?_) rfl (by kernel_rfl) (by kernel_rfl) (by kernel_rfl) (by kernel_rfl) (fun _ _ _ h => h) (Or.inl ⟨by rfl, ?_⟩) hS0 ?_
            rotate_left
            · intro w hSw
              go_simp
              try with_reducible rfl
            try simp only [Act.put, List.setIfInBounds_toArray, List.set_cons_zero, List.set_cons_succ]
            refine Rh.take (some 98) (i := 15) (v := ?_) rfl (by kernel_rfl) (by kernel_rfl) (by kernel_rfl) (by kernel_rfl) (fun _ _ _ h => h) (Or.inl ⟨by rfl, ?_⟩) hS0 ?_
            rotate_left
            · intro w hSw
              go_simp
              try with_reducible rfl
            try simp only [Act.put, List.setIfInBounds_toArray, List.set_cons_zero, List.set_cons_succ]
            refine Rh.take (some 99) (i := 16) (v := ?_) rfl (by kernel_rfl) (by kernel_rfl) (by kernel_rfl) (by kernel_rfl) (fun _ _ _ h => h) (Or.inl ⟨by rfl, ?_⟩) hS0 ?_
            rotate_left
            · intro w hSw
              go_simp
              try with_reducible rfl
            try simp only [Act.put, List.setIfInBounds_toArray, List.set_cons_zero, List.set_cons_succ]
            refine Rh.take (some 100) (i := 17) (v := ?_) rfl (by kernel_rfl) (by kernel_rfl) (by kernel_rfl) (by kernel_rfl) (fun _ _ _ h => h) (Or.inl ⟨by rfl, ?_⟩) hS0 ?_
            rotate_left
            · intro w hSw
              go_simp
              try with_reducible rfl
            try simp only [Act.put, List.setIfInBounds_toArray, List.set_cons_zero, List.set_cons_succ]
            refine Rh.take (some 101) (i := 18) (v := ?_) rfl (by kernel_rfl) (by kernel_rfl) (by kernel_rfl) (by kernel_rfl) (fun _ _ _ h => h) (Or.inl ⟨by rfl, ?_⟩) hS0 ?_
            rotate_left
            · intro w hSw
              go_simp
              try with_reducible rfl
            try simp only [Act.put, List.setIfInBounds_toArray, List.set_cons_zero, List.set_cons_succ]
            refine Rh.take (some 102) (i := 19) (v := ?_) rfl (by kernel_rfl) (by kernel_rfl) (by kernel_rfl) (by kernel_rfl) (fun _ _ _ h => h) (Or.inl ⟨by rfl, ?_⟩) hS0 ?_
            rotate_left
            · intro w hSw
              go_simp
              try with_reducible rfl
            try simp only [Act.put, List.setIfInBounds_toArray, List.set_cons_zero, List.set_cons_succ]
            refine Rh.take (some 103) (i := 20) (v := ?_) rfl (by kernel_rfl) (by kernel_rfl) (by kernel_rfl) (by kernel_rfl) (fun _ _ _ h => h) (Or.inl ⟨by rfl, ?_⟩) hS0 ?_
            rotate_left
            · intro w hSw
              go_simp
              try with_reducible rfl
            try simp only [Act.put, List.setIfInBounds_toArray, List.set_cons_zero, List.set_cons_succ]
            refine Rh.take (some 104) (i := 21) (v := ?_) rfl (by kernel_rfl) (by kernel_rfl) (by kernel_rfl) (by kernel_rfl) (fun _ _ _ h => h) (Or.inl ⟨by rfl, ?_⟩) hS0 ?_
            rotate_left
            · intro w hSw
              go_simp
              try with_reducible rfl
            try simp only [Act.put, List.setIfInBounds_toArray, List.set_cons_zero, List.set_cons_succ]
            refine Rh.take (some 105) (i := 22) (v := ?_) rfl (by kernel_rfl) (by kernel_rfl) (by kernel_rfl) (by kernel_rfl) (fun _ _ _ h => h) (Or.inl ⟨by rfl, ?_⟩) hS0 ?_
            rotate_left
            · intro w hSw
              go_simp
              try with_reducible rfl
            try simp only [Act.put, List.setIfInBounds_toArray, List.set_cons_zero, List.set_cons_succ]
            refine Rh.take (some 106) (i := 23) (v := ?_) rfl (by kernel_rfl) (by kernel_rfl) (by kernel_rfl) (by kernel_rfl) (fun _ _ _ h => h) (Or.inl ⟨by rfl, ?_⟩) hS0 ?_
            rotate_left
            · intro w hSw
              go_simp
              try with_reducible rfl
            try simp only [Act.put, List.setIfInBounds_toArray, List.set_cons_zero, List.set_cons_succ]
            refine Rh.take (some 107) (i := 24) (v := ?_) rfl (by kernel_rfl) (by kernel_rfl) (by kernel_rfl) (by kernel_rfl) (fun _ _ _ h => h) (Or.inl ⟨by rfl, ?_⟩) hS0 ?_
            rotate_left
            · intro w hSw
              go_simp
              try with_reducible rfl
            try simp only [Act.put, List.setIfInBounds_toArray, List.set_cons_zero, List.set_cons_succ]
            refine Rh.take (some 108) (i := 25) (v := ?_) rfl (by kernel_rfl) (by kernel_rfl) (by kernel_rfl) (by kernel_rfl) (fun _ _ _ h => h) (Or.inl ⟨by rfl, ?_⟩) hS0 ?_
            rotate_left
            · intro w hSw
              go_simp
              try with_reducible rfl
            try simp only [Act.put, List.setIfInBounds_toArray, List.set_cons_zero, List.set_cons_succ]
            refine Rh.take (some 109) (i := 26) (v := ?_) rfl (by kernel_rfl) (by kernel_rfl) (by kernel_rfl) (by kernel_rfl) (fun _ _ _ h => h) (Or.inl ⟨by rfl, ?_⟩) hS0 ?_
            rotate_left
            · intro w hSw
              go_simp
              try with_reducible rfl
            try simp only [Act.put, List.setIfInBounds_toArray, List.set_cons_zero, List.set_cons_succ]
            refine Rh.take (some 110) (i := 27) (v := ?_) rfl (by kernel_rfl) (by kernel_rfl) (by kernel_rfl) (by kernel_rfl) (fun _ _ _ h => h) (Or.inl ⟨by rfl, ?_⟩) hS0 ?_
            rotate_left
            · intro w hSw
              go_simp
              try with_reducible rfl
            try simp only [Act.put, List.setIfInBounds_toArray, List.set_cons_zero, List.set_cons_succ]
            refine Rh.take (some 111) (i := 28) (v := ?_) rfl (by kernel_rfl) (by kernel_rfl) (by kernel_rfl) (by kernel_rfl) (fun _ _ _ h => h) (Or.inl ⟨by rfl, ?_⟩) hS0 ?_
            rotate_left
            · intro w hSw
              go_simp
              try with_reducible rfl
            try simp only [Act.put, List.setIfInBounds_toArray, List.set_cons_zero, List.set_cons_succ]
            refine Rh.take (some 112) (i := 29) (v := ?_) rfl (by kernel_rfl) (by kernel_rfl) (by kernel_rfl) (by kernel_rfl) (fun _ _ _ h => h) (Or.inl ⟨by rfl, ?_⟩) hS0 ?_
            rotate_left
            · intro w hSw
              go_simp
              try with_reducible rfl
            try simp only [Act.put, List.setIfInBounds_toArray, List.set_cons_zero, List.set_cons_succ]
            refine Rh.take (some 113) (i := 30) (v := ?_) rfl (by kernel_rfl) (by kernel_rfl) (by kernel_rfl) (by kernel_rfl) (fun _ _ _ h => h) (Or.inl ⟨by rfl, ?_⟩) hS0 ?_
            rotate_left
            · intro w hSw
              go_simp
              try with_reducible rfl
            try simp only [Act.put, List.setIfInBounds_toArray, List.set_cons_zero, List.set_cons_succ]
            refine Rh.take (some 114) (i := 31) (v := ?_) rfl (by kernel_rfl) (by kernel_rfl) (by kernel_rfl) (by kernel_rfl) (fun _ _ _ h => h) (Or.inl ⟨by rfl, ?_⟩) hS0 ?_
            rotate_left
            · intro w hSw
              go_simp
              try with_reducible rfl
            try simp only [Act.put, List.setIfInBounds_toArray, List.set_cons_zero, List.set_cons_succ]
            refine Rh.take (some 115) (i := 32) (v := ?_) rfl (by kernel_rfl) (by kernel_rfl) (by kernel_rfl) (by kernel_rfl) (fun _ _ _ h => h) (Or.inl ⟨by rfl, ?_⟩) hS0 ?_
            rotate_left
            · intro w hSw
              go_simp
              try with_reducible rfl
            try simp only [Act.put, List.setIfInBounds_toArray, List.set_cons_zero, List.set_cons_succ]
            refine Rh.take (some 116) (i := 33) (v := ?_) rfl (by kernel_rfl) (by kernel_rfl) (by kernel_rfl) (by kernel_rfl) (fun _ _ _ h => h) (Or.inl ⟨by rfl, ?_⟩) hS0 ?_
            rotate_left
            · intro w hSw
              go_simp
              try with_reducible rfl
            try simp only [Act.put, List.setIfInBounds_toArray, List.set_cons_zero, List.set_cons_succ]
            refine Rh.take (some 118) (i := 35) (v := ?_) rfl (by kernel_rfl) (by kernel_rfl) (by kernel_rfl) (by kernel_rfl) (fun _ _ _ h => h) (Or.inl ⟨by rfl, ?_⟩) hS0 ?_
            rotate_left
            · intro w hSw
              go_simp
              try with_reducible rfl
            try simp only [Act.put, List.setIfInBounds_toArray, List.set_cons_zero, List.set_cons_succ]
            refine Rh.step (i := 34) (by kernel_rfl) rfl fun K' hK' => ?_
            have HK := Lib.hid hK'
            clear hK'
            go_simp
            refine (one_at (H20.out.kept (Ne.below_drew (Below.refl _ _))) (x : Int) (k : Int)).mono ?_
            rintro e w21 ⟨he, h21, hb⟩
            rw [FAT.out] at he
            subst he
            have H21 := Lib.hid h21
            have HB21 := Lib.hid ((Ne.below_drew HB20.out).trans (hb.mono hbs))
            have hS21 := (show (fun w' : World => w'.cell? ⟨gr, 0, none⟩ = some (.int .i64 (f : Int)) ∧ w'.cell? ⟨gr, k, none⟩ = some (.int .i64 (x : Int)) ∧ w'.cell? ⟨gr, ml, none⟩ = some (.int .i64 (l0 : Int))) w21 from HRC.out w21 (h21.row List.mem_cons_self))
            clear h21 hb
            refine HK.out _ _ ⟨hS21, ?_⟩
            clear HK K'
            try simp only [Act.put, List.setIfInBounds_toArray, List.set_cons_zero, List.set_cons_succ]
            refine Rh.take (some 119) (i := 36) (v := ?_) rfl (by kernel_rfl) (by kernel_rfl) (by kernel_rfl) (by kernel_rfl) (fun _ _ _ h => h) (Or.inl ⟨by rfl, ?_⟩) hS21 ?_
            rotate_left
            · intro w hSw
              go_simp
              try with_reducible rfl
            try simp only [Act.put, List.setIfInBounds_toArray, List.set_cons_zero, List.set_cons_succ]
            refine Rh.take (some 120) (i := 37) (v := ?_) rfl (by kernel_rfl) (by kernel_rfl) (by kernel_rfl) (by kernel_rfl) (fun _ _ _ h => h) (Or.inl ⟨by rfl, ?_⟩) hS21 ?_
            rotate_left
            · intro w hSw
              go_simp
              try with_reducible rfl
            try simp only [Act.put, List.setIfInBounds_toArray, List.set_cons_zero, List.set_cons_succ]
            refine Rh.take (some 121) (i := 38) (v := ?_) rfl (by kernel_rfl) (by kernel_rfl) (by kernel_rfl) (by kernel_rfl) (fun _ _ _ h => h) (Or.inl ⟨by rfl, ?_⟩) hS21 ?_
            rotate_left
            · intro w hSw
              go_simp
              try with_reducible rfl
            try simp only [Act.put, List.setIfInBounds_toArray, List.set_cons_zero, List.set_cons_succ]
            refine Rh.take (some 122) (i := 39) (v := ?_) rfl (by kernel_rfl) (by kernel_rfl) (by kernel_rfl) (by kernel_rfl) (fun _ _ _ h => h) (Or.inl ⟨by rfl, ?_⟩) hS21 ?_
            rotate_left
            · intro w hSw
              go_simp
              try with_reducible rfl
            try simp only [Act.put, List.setIfInBounds_toArray, List.set_cons_zero, List.set_cons_succ]
            refine Rh.take (some 123) (i := 40) (v := ?_) rfl (by kernel_rfl) (by kernel_rfl) (by kernel_rfl) (by kernel_rfl) (fun _ _ _ h => h) (Or.inl ⟨by rfl, ?_⟩) hS21 ?_
            rotate_left
            · intro w hSw
              go_simp
              try with_reducible rfl
            try simp only [Act.put, List.setIfInBounds_toArray, List.set_cons_zero, List.set_cons_succ]
            refine Rh.take (some 125) (i := 42) (v := ?_) rfl (by kernel_rfl) (by kernel_rfl) (by kernel_rfl) (by kernel_rfl) (fun _ _ _ h => h) (Or.inl ⟨by rfl, ?_⟩) hS21 ?_
            rotate_left
            · intro w hSw
              go_simp
              try with_reducible rfl
            try simp only [Act.put, List.setIfInBounds_toArray, List.set_cons_zero, List.set_cons_succ]
            refine Rh.take (some 126) (i := 43) (v := ?_) rfl (by kernel_rfl) (by kernel_rfl) (by kernel_rfl) (by kernel_rfl) (fun _ _ _ h => h) (Or.inl ⟨by rfl, ?_⟩) hS21 ?_
            rotate_left
            · intro w hSw
              go_simp
              try with_reducible rfl
            try simp only [Act.put, List.setIfInBounds_toArray, List.set_cons_zero, List.set_cons_succ]
            refine Rh.take (some 127) (i := 44) (v := ?_) rfl (by kernel_rfl) (by kernel_rfl) (by kernel_rfl) (by kernel_rfl) (fun _ _ _ h => h) (Or.inl ⟨by rfl, ?_⟩) hS21 ?_
            rotate_left
            · intro w hSw
              go_simp
              try with_reducible rfl
            try simp only [Act.put, List.setIfInBounds_toArray, List.set_cons_zero, List.set_cons_succ]
            refine Rh.take (some 128) (i := 45) (v := ?_) rfl (by kernel_rfl) (by kernel_rfl) (by kernel_rfl) (by kernel_rfl) (fun _ _ _ h => h) (Or.inl ⟨by rfl, ?_⟩) hS21 ?_
            rotate_left
            · intro w hSw
              go_simp
              try with_reducible rfl
            try simp only [Act.put, List.setIfInBounds_toArray, List.set_cons_zero, List.set_cons_succ]
            refine Rh.take (some 129) (i := 46) (v := ?_) rfl (by kernel_rfl) (by kernel_rfl) (by kernel_rfl) (by kernel_rfl) (fun _ _ _ h => h) (Or.inl ⟨by rfl, ?_⟩) hS21 ?_
            rotate_left
            · intro w hSw
              go_simp
              try with_reducible rfl
            try simp only [Act.put, List.setIfInBounds_toArray, List.set_cons_zero, List.set_cons_succ]
            refine Rh.take (some 130) (i := 47) (v := ?_) rfl (by kernel_rfl) (by kernel_rfl) (by kernel_rfl) (by kernel_rfl) (fun _ _ _ h => h) (Or.inl ⟨by rfl, ?_⟩) hS21 ?_
            rotate_left
            · intro w hSw
              go_simp
              try with_reducible rfl
            try simp only [Act.put, List.setIfInBounds_toArray, List.set_cons_zero, List.set_cons_succ]
            refine Rh.step (i := 41) (by kernel_rfl) rfl fun K' hK' => ?_
            have HK := Lib.hid hK'
            clear hK'
            go_simp
            refine (one_last H21.out (x : Int)).mono ?_
            rintro e w22 ⟨he, h22, hb⟩
            rw [FLA.out] at he
            subst he
            have H22 := Lib.hid h22
            have HB22 := Lib.hid (HB21.out.trans (hb.mono hbs))
            have hS22 := (show (fun w' : World => w'.cell? ⟨gr, 0, none⟩ = some (.int .i64 (f : Int)) ∧ w'.cell? ⟨gr, k, none⟩ = some (.int .i64 (x : Int)) ∧ w'.cell? ⟨gr, ml, none⟩ = some (.int .i64 (l0 : Int))) w22 from HRC.out w22 (h22.row List.mem_cons_self))
            clear h22 hb
            refine HK.out _ _ ⟨hS22, ?_⟩
            clear HK K'
            try simp only [Act.put, List.setIfInBounds_toArray, List.set_cons_zero, List.set_cons_succ]
            refine Rh.take (some 131) (i := 48) (v := ?_) rfl (by kernel_rfl) (by kernel_rfl) (by kernel_rfl) (by kernel_rfl) (fun _ _ _ h => h) (Or.inl ⟨by rfl, ?_⟩) hS22 ?_
            rotate_left
            · intro w hSw
              go_simp
              try with_reducible rfl
            try simp only [Act.put, List.setIfInBounds_toArray, List.set_cons_zero, List.set_cons_succ]
            refine Rh.take (some 132) (i := 49) (v := ?_) rfl (by kernel_rfl) (by kernel_rfl) (by kernel_rfl) (by kernel_rfl) (fun _ _ _ h => h) (Or.inl ⟨by rfl, ?_⟩) hS22 ?_
            rotate_left
            · intro w hSw
              go_simp
              try with_reducible rfl
            try simp only [Act.put, List.setIfInBounds_toArray, List.set_cons_zero, List.set_cons_succ]
            refine Rh.take (some 133) (i := 50) (v := ?_) rfl (by kernel_rfl) (by kernel_rfl) (by kernel_rfl) (by kernel_rfl) (fun _ _ _ h => h) (Or.inl ⟨by rfl, ?_⟩) hS22 ?_
            rotate_left
            · intro w hSw
              go_simp
              try with_reducible rfl
            try simp only [Act.put, List.setIfInBounds_toArray, List.set_cons_zero, List.set_cons_succ]
            refine Rh.take (some 134) (i := 51) (v := ?_) rfl (by kernel_rfl) (by kernel_rfl) (by kernel_rfl) (by kernel_rfl) (fun _ _ _ h => h) (Or.inl ⟨by rfl, ?_⟩) hS22 ?_
            rotate_left
            · intro w hSw
              go_simp
              try with_reducible rfl
            try simp only [Act.put, List.setIfInBounds_toArray, List.set_cons_zero, List.set_cons_succ]
            refine Rh.take (some 135) (i := 52) (v := ?_) rfl (by kernel_rfl) (by kernel_rfl) (by kernel_rfl) (by kernel_rfl) (fun _ _ _ h => h) (Or.inl ⟨by rfl, ?_⟩) hS22 ?_
            rotate_left
            · intro w hSw
              go_simp
              try with_reducible rfl
            try simp only [Act.put, List.setIfInBounds_toArray, List.set_cons_zero, List.set_cons_succ]
            refine Rh.step (i := 53) (by kernel_rfl) rfl fun K' hK' => ?_
            have HK := Lib.hid hK'
            clear hK'
            go_simp
            refine (one_split H22.out (x : Int)).mono ?_
            rintro e w23 ⟨he, h23, hb⟩
            rw [FSP.out] at he
            subst he
            rw [HS1.out] at h23
            have H23 := Lib.hid h23
            have HB23 := Lib.hid (HB22.out.trans (hb.mono hbs))
            have hS23 := (show (fun w' : World => w'.cell? ⟨gr, 0, none⟩ = some (.int .i64 (f : Int)) ∧ w'.cell? ⟨gr, k, none⟩ = some (.int .i64 (x : Int)) ∧ w'.cell? ⟨gr, ml, none⟩ = some (.int .i64 (l0 : Int))) w23 from HRC.out w23 (h23.row List.mem_cons_self))
            clear h23 hb
            refine HK.out _ _ ⟨hS23, ?_⟩
            clear HK K'
            try simp only [Act.put, List.setIfInBounds_toArray, List.set_cons_zero, List.set_cons_succ]
            refine Rh.take (some 137) (i := 54) (v := ?_) rfl (by kernel_rfl) (by kernel_rfl) (by kernel_rfl) (by kernel_rfl) (fun _ _ _ h => h) (Or.inl ⟨by rfl, ?_⟩) hS23 ?_
            rotate_left
            · intro w hSw
              go_simp
              try with_reducible rfl
            try simp only [Act.put, List.setIfInBounds_toArray, List.set_cons_zero, List.set_cons_succ]
            refine Rh.take (some 138) (i := 55) (v := ?_) rfl (by kernel_rfl) (by kernel_rfl) (by kernel_rfl) (by kernel_rfl) (fun _ _ _ h => h) (Or.inl ⟨by rfl, ?_⟩) hS23 ?_
            rotate_left
            · intro w hSw
              go_simp
              try with_reducible rfl
            try simp only [Act.put, List.setIfInBounds_toArray, List.set_cons_zero, List.set_cons_succ]
            refine Rh.take (some 139) (i := 56) (v := ?_) rfl (by kernel_rfl) (by kernel_rfl) (by kernel_rfl) (by kernel_rfl) (fun _ _ _ h => h) (Or.inl ⟨by rfl, ?_⟩) hS23 ?_
            rotate_left
            · intro w hSw
              go_simp
              try with_reducible rfl
            try simp only [Act.put, List.setIfInBounds_toArray, List.set_cons_zero, List.set_cons_succ]
            refine Rh.take (some 140) (i := 57) (v := ?_) rfl (by kernel_rfl) (by kernel_rfl) (by kernel_rfl) (by kernel_rfl) (fun _ _ _ h => h) (Or.inl ⟨by rfl, ?_⟩) hS23 ?_
            rotate_left
            · intro w hSw
              go_simp
              try with_reducible rfl
            try simp only [Act.put, List.setIfInBounds_toArray, List.set_cons_zero, List.set_cons_succ]
            refine Rh.take (some 141) (i := 58) (v := ?_) rfl (by kernel_rfl) (by kernel_rfl) (by kernel_rfl) (by kernel_rfl) (fun _ _ _ h => h) (Or.inl ⟨by rfl, ?_⟩) hS23 ?_
            rotate_left
            · intro w hSw
              go_simp
              try with_reducible rfl
            try simp only [Act.put, List.setIfInBounds_toArray, List.set_cons_zero, List.set_cons_succ]
            refine Rh.take (some 143) (i := 60) (v := ?_) rfl (by kernel_rfl) (by kernel_rfl) (by kernel_rfl) (by kernel_rfl) (fun _ _ _ h => h) (Or.inl ⟨by rfl, ?_⟩) hS23 ?_
            rotate_left
            · intro w hSw
              go_simp
              try with_reducible rfl
            try simp only [Act.put, List.setIfInBounds_toArray, List.set_cons_zero, List.set_cons_succ]
            refine Rh.take (some 144) (i := 61) (v := ?_) rfl (by kernel_rfl) (by kernel_rfl) (by kernel_rfl) (by kernel_rfl) (fun _ _ _ h => h) (Or.inl ⟨by rfl, ?_⟩) hS23 ?_
            rotate_left
            · intro w hSw
              go_simp
              try with_reducible rfl
            try simp only [Act.put, List.setIfInBounds_toArray, List.set_cons_zero, List.set_cons_succ]
            refine Rh.take (some 145) (i := 62) (v := ?_) rfl (by kernel_rfl) (by kernel_rfl) (by kernel_rfl) (by kernel_rfl) (fun _ _ _ h => h) (Or.inl ⟨by rfl, ?_⟩) hS23 ?_
            rotate_left
            · intro w hSw
              go_simp
              try with_reducible rfl
            try simp only [Act.put, List.setIfInBounds_toArray, List.set_cons_zero, List.set_cons_succ]
            refine Rh.step (i := 59) (by kernel_rfl) rfl fun K' hK' => ?_
            have HK := Lib.hid hK'
            clear hK'
            go_simp
            refine (RD.out _ _ H23.out).mono ?_
            rintro e w24 ⟨o24, c24, rfl, h24, hb⟩
            have H24 := Lib.hid h24
            have HB24 := Lib.hid (HB23.out.trans (hb.mono hbs))
            have hS24 := (show (fun w' : World => w'.cell? ⟨gr, 0, none⟩ = some (.int .i64 (f : Int)) ∧ w'.cell? ⟨gr, k, none⟩ = some (.int .i64 (x : Int)) ∧ w'.cell? ⟨gr, ml, none⟩ = some (.int .i64 (l0 : Int))) w24 from HRC.out w24 (h24.row (List.mem_cons_of_mem _ List.mem_cons_self)))
            clear h24 hb
            refine HK.out _ _ ⟨hS24, ?_⟩
            clear HK K'
            try simp only [Act.put, List.setIfInBounds_toArray, List.set_cons_zero, List.set_cons_succ]
            refine Rh.step (i := 63) (by kernel_rfl) rfl fun K' hK' => ?_
            have HK := Lib.hid hK'
            clear hK'
            go_simp
            have SM := Ne.same_any o24 (some ⟨gr, k, none⟩) c24 (cr - k) (Ne.encW (LR.drop k)) (Ne.encW (LR.drop k)) _ (Ne.own_irow (H24.out.row List.mem_cons_self)) (by rw [encW_drop]; exact irow_drop (Ne.own_irow (H24.out.row (List.mem_cons_of_mem _ List.mem_cons_self))) k) (by rw [HDK.out]; omega) (by rw [HDK.out]; omega)
            rw [HDK.out, decide_eq_true rfl] at SM
            refine SM.mono ?_
            rintro e w25 ⟨rfl, hb⟩
            have H25 := Lib.hid (H24.out.kept hb)
            have HB25 := Lib.hid (HB24.out.trans (hb.mono (Nat.le_trans hbs H24.out.size)))
            have hS25 := (show (fun w' : World => w'.cell? ⟨gr, 0, none⟩ = some (.int .i64 (f : Int)) ∧ w'.cell? ⟨gr, k, none⟩ = some (.int .i64 (x : Int)) ∧ w'.cell? ⟨gr, ml, none⟩ = some (.int .i64 (l0 : Int))) w25 from HRC.out w25 (H25.out.row (List.mem_cons_of_mem _ List.mem_cons_self)))
            clear hb SM
            refine HK.out _ _ ⟨hS25, ?_⟩
            clear HK K'
            try simp only [Act.put, List.setIfInBounds_toArray, List.set_cons_zero, List.set_cons_succ]
            refine Rh.take (some 147) (i := 64) (v := ?_) rfl (by kernel_rfl) (by kernel_rfl) (by kernel_rfl) (by kernel_rfl) (fun _ _ _ h => h) (Or.inl ⟨by rfl, ?_⟩) hS25 ?_
            rotate_left
            · intro w hSw
              go_simp
              try with_reducible rfl
            try simp only [Act.put, List.setIfInBounds_toArray, List.set_cons_zero, List.set_cons_succ]
            refine Rh.take (some 148) (i := 65) (v := ?_) rfl (by kernel_rfl) (by kernel_rfl) (by kernel_rfl) (by kernel_rfl) (fun _ _ _ h => h) (Or.inl ⟨by rfl, ?_⟩) hS25 ?_
            rotate_left
            · intro w hSw
              go_simp
              try with_reducible rfl
            try simp only [Act.put, List.setIfInBounds_toArray, List.set_cons_zero, List.set_cons_succ]
            refine Rh.take (some 149) (i := 66) (v := ?_) rfl (by kernel_rfl) (by kernel_rfl) (by kernel_rfl) (by kernel_rfl) (fun _ _ _ h => h) (Or.inl ⟨by rfl, ?_⟩) hS25 ?_
            rotate_left
            · intro w hSw
              go_simp
              try with_reducible rfl
            try simp only [Act.put, List.setIfInBounds_toArray, List.set_cons_zero, List.set_cons_succ]
            refine Rh.take (some 150) (i := 67) (v := ?_) rfl (by kernel_rfl) (by kernel_rfl) (by kernel_rfl) (by kernel_rfl) (fun _ _ _ h => h) (Or.inl ⟨by rfl, ?_⟩) hS25 ?_
            rotate_left
            · intro w hSw
              go_simp
              try with_reducible rfl
            try simp only [Act.put, List.setIfInBounds_toArray, List.set_cons_zero, List.set_cons_succ]
            refine Rh.take (some 151) (i := 68) (v := ?_) rfl (by kernel_rfl) (by kernel_rfl) (by kernel_rfl) (by kernel_rfl) (fun _ _ _ h => h) (Or.inl ⟨by rfl, ?_⟩) hS25 ?_
            rotate_left
            · intro w hSw
              go_simp
              try with_reducible rfl
            try simp only [Act.put, List.setIfInBounds_toArray, List.set_cons_zero, List.set_cons_succ]
            refine Rh.take (some 152) (i := 69) (v := ?_) rfl (by kernel_rfl) (by kernel_rfl) (by kernel_rfl) (by kernel_rfl) (fun _ _ _ h => h) (Or.inl ⟨by rfl, ?_⟩) hS25 ?_
            rotate_left
            · intro w hSw
              go_simp
              try with_reducible rfl
            try simp only [Act.put, List.setIfInBounds_toArray, List.set_cons_zero, List.set_cons_succ]
            refine Rh.take (some 153) (i := 70) (v := ?_) rfl (by kernel_rfl) (by kernel_rfl) (by kernel_rfl) (by kernel_rfl) (fun _ _ _ h => h) (Or.inl ⟨by rfl, ?_⟩) hS25 ?_
            rotate_left
            · intro w hSw
              go_simp
              try with_reducible rfl
            try simp only [Act.put, List.setIfInBounds_toArray, List.set_cons_zero, List.set_cons_succ]
            refine Rh.take (some 154) (i := 71) (v := undef) rfl (by kernel_rfl) (by kernel_rfl) (by kernel_rfl) (by kernel_rfl) (fun _ _ _ h => h) (Or.inr ⟨by rfl, rfl⟩) hS25 ?_
            try simp only [Act.put, List.setIfInBounds_toArray, List.set_cons_zero, List.set_cons_succ]
            refine Rh.take (some 155) (i := 72) (v := undef) rfl (by kernel_rfl) (by kernel_rfl) (by kernel_rfl) (by kernel_rfl) (fun _ _ _ h => h) (Or.inr ⟨by rfl, rfl⟩) hS25 ?_
            try simp only [Act.put, List.setIfInBounds_toArray, List.set_cons_zero, List.set_cons_succ]
            refine Rh.take (some 156) (i := 73) (v := undef) rfl (by kernel_rfl) (by kernel_rfl) (by kernel_rfl) (by kernel_rfl) (fun _ _ _ h => h) (Or.inr ⟨by rfl, rfl⟩) hS25 ?_
            try simp only [Act.put, List.setIfInBounds_toArray, List.set_cons_zero, List.set_cons_succ]
            refine Rh.take (some 157) (i := 74) (v := undef) rfl (by kernel_rfl) (by kernel_rfl) (by kernel_rfl) (by kernel_rfl) (fun _ _ _ h => h) (Or.inr ⟨by rfl, rfl⟩) hS25 ?_
            try simp only [Act.put, List.setIfInBounds_toArray, List.set_cons_zero, List.set_cons_succ]
            refine Rh.take (some 158) (i := 75) (v := undef) rfl (by kernel_rfl) (by kernel_rfl) (by kernel_rfl) (by kernel_rfl) (fun _ _ _ h => h) (Or.inr ⟨by rfl, rfl⟩) hS25 ?_
            try simp only [Act.put, List.setIfInBounds_toArray, List.set_cons_zero, List.set_cons_succ]
            refine Rh.take (some 159) (i := 76) (v := undef) rfl (by kernel_rfl) (by kernel_rfl) (by kernel_rfl) (by kernel_rfl) (fun _ _ _ h => h) (Or.inr ⟨by rfl, rfl⟩) hS25 ?_
            try simp only [Act.put, List.setIfInBounds_toArray, List.set_cons_zero, List.set_cons_succ]
            refine Rh.take (some 160) (i := 77) (v := undef) rfl (by kernel_rfl) (by kernel_rfl) (by kernel_rfl) (by kernel_rfl) (fun _ _ _ h => h) (Or.inr ⟨by rfl, rfl⟩) hS25 ?_
            try simp only [Act.put, List.setIfInBounds_toArray, List.set_cons_zero, List.set_cons_succ]
            refine Rh.take (some 161) (i := 78) (v := undef) rfl (by kernel_rfl) (by kernel_rfl) (by kernel_rfl) (by kernel_rfl) (fun _ _ _ h => h) (Or.inr ⟨by rfl, rfl⟩) hS25 ?_
            try simp only [Act.put, List.setIfInBounds_toArray, List.set_cons_zero, List.set_cons_succ]
            refine Rh.take (some 162) (i := 79) (v := ?_) rfl (by kernel_rfl) (by kernel_rfl) (by kernel_rfl) (by kernel_rfl) (fun _ _ _ h => h) (Or.inl ⟨by rfl, ?_⟩) hS25 ?_
            rotate_left
            · intro w hSw
              go_simp
              try with_reducible rfl
            try simp only [Act.put, List.setIfInBounds_toArray, List.set_cons_zero, List.set_cons_succ]
            refine Rh.take (some 163) (i := 80) (v := ?_) rfl (by kernel_rfl) (by kernel_rfl) (by kernel_rfl) (by kernel_rfl) (fun _ _ _ h => h) (Or.inl ⟨by rfl, ?_⟩) hS25 ?_
            rotate_left
            · intro w hSw
              go_simp
              try with_reducible rfl
            try simp only [Act.put, List.setIfInBounds_toArray, List.set_cons_zero, List.set_cons_succ]
            refine Rh.done (by kernel_rfl) ?_ _
            have H30 := Lib.hid (H25.out.less (K2 := [(.slice (some ⟨gr, 0, none⟩) m cr, LR)]) (fun z hz => by simp at hz; subst hz; simp))
            have HB30 := Lib.hid HB25.out
            clear hS0 hS21 hS22 hS23 hS24 hS25 H20 H21 H22 H23 H24 H25 HB20 HB21 HB22 HB23 HB24 HB25
            go_wp2_with fail
            go_meet
            case rel => exact ⟨rfl, H30, HB30⟩
      case rest =>
      obtain ⟨rfl, H30, HB30⟩ := hcut
      clear H20 HB20 HRH RD HTK HDK HRC FAT FFI FLA FPL FSP HS1
      go_upto_region 21 with fail
      go_cut [181] (fun sl wd => sl = .bool false ∧ ∃ s2, Hid (AllIn s2 LR vs) ∧ Hid (One wd b p s2 [(.slice (some ⟨gr, 0, none⟩) m cr, LR)]) ∧ Hid (Below w.heap.size w wd))
      case first =>
        by_cases k0 : 0 < k
        · have zf : ((f : Int) != (x : Int)) = true := by
            have := HFK.out k0
            simp; omega
          obtain ⟨hj, hA2⟩ := HBK.out.1 k0
          have HJ := Lib.hid hj
          have HA2 := Lib.hid hA2
          clear hj hA2 HFK HFZ HBK k0
          generalize hs2 : joinS s1 (f : Int) (x : Int) = s2 at *
          have HS2 := Lib.hid hs2
          clear hs2
          go_wp2_with fail
          refine (one_join H30.out (f : Int) (x : Int)).mono ?_
          rintro e w31 ⟨he, h31, hb⟩
          rw [HJ.out] at he
          subst he
          rw [HS2.out] at h31
          have H31 := Lib.hid h31
          have HB31 := Lib.hid (HB30.out.trans (hb.mono hbs))
          clear h31 hb
          have RX := Lib.hid (show ∀ (w' : World) KK (h : One w' b p s2 KK), Calls Try.prog 16 #[.pointer (some ⟨p, 0, none⟩), .int .i64 (x : Int)] w' fun e w2 => ∃ o c, e = .returned (.slice o m c) ∧ One w2 b p s2 ((.slice o m c, LR) :: KK) ∧ Below b w' w2 from fun w' KK h => by
            have h1 := one_row h (x : Int)
            rw [HA2.out.2 x HXV.out, ← HML.out] at h1
            exact h1)
          go_wp2_with fail
          refine (RX.out _ _ H31.out).mono ?_
          rintro e w32 ⟨o32, c32, rfl, h32, hb⟩
          have SM := Ne.same_any o32 (some ⟨gr, 0, none⟩) c32 cr (Ne.encW LR) (Ne.encW LR) _ (Ne.own_irow (h32.row List.mem_cons_self)) (Ne.own_irow (h32.row (List.mem_cons_of_mem _ List.mem_cons_self))) (by rw [HLK.out]; omega) (by rw [HLK.out]; omega)
          rw [HLK.out, decide_eq_true rfl] at SM
          have HSM := Lib.hid SM
          have H32 := Lib.hid h32
          have HB32 := Lib.hid (HB31.out.trans (hb.mono hbs))
          clear h32 hb SM
          go_wp2_with fail
          refine HSM.out.mono ?_
          rintro e w33 ⟨rfl, hb⟩
          have H33 := Lib.hid ((H32.out.kept hb).less (K2 := [(.slice (some ⟨gr, 0, none⟩) m cr, LR)]) (fun z hz => by simp at hz; subst hz; simp))
          have HB33 := Lib.hid (HB32.out.trans (hb.mono HB32.out.size))
          clear hb HSM RX
          go_wp2_with fail
          go_meet
          case rel => exact ⟨rfl, s2, HA2, H33, HB33⟩
        · have k00 : k = 0 := by omega
          have zf : ((f : Int) != (x : Int)) = false := by
            have := HFZ.out k00
            simp; omega
          have HA2 := Lib.hid (HBK.out.2 k00)
          clear k00 HFK HFZ HBK k0
          obtain ⟨s2, hs2⟩ : ∃ s2, s2 = s1 := ⟨_, rfl⟩
          rw [← hs2] at H30 HA2
          clear hs2
          have RX := Lib.hid (show ∀ (w' : World) KK (h : One w' b p s2 KK), Calls Try.prog 16 #[.pointer (some ⟨p, 0, none⟩), .int .i64 (x : Int)] w' fun e w2 => ∃ o c, e = .returned (.slice o m c) ∧ One w2 b p s2 ((.slice o m c, LR) :: KK) ∧ Below b w' w2 from fun w' KK h => by
            have h1 := one_row h (x : Int)
            rw [HA2.out.2 x HXV.out, ← HML.out] at h1
            exact h1)
          go_wp2_with fail
          refine (RX.out _ _ H30.out).mono ?_
          rintro e w32 ⟨o32, c32, rfl, h32, hb⟩
          have SM := Ne.same_any o32 (some ⟨gr, 0, none⟩) c32 cr (Ne.encW LR) (Ne.encW LR) _ (Ne.own_irow (h32.row List.mem_cons_self)) (Ne.own_irow (h32.row (List.mem_cons_of_mem _ List.mem_cons_self))) (by rw [HLK.out]; omega) (by rw [HLK.out]; omega)
          rw [HLK.out, decide_eq_true rfl] at SM
          have HSM := Lib.hid SM
          have H32 := Lib.hid h32
          have HB32 := Lib.hid (HB30.out.trans (hb.mono hbs))
          clear h32 hb SM
          go_wp2_with fail
          refine HSM.out.mono ?_
          rintro e w33 ⟨rfl, hb⟩
          have H33 := Lib.hid ((H32.out.kept hb).less (K2 := [(.slice (some ⟨gr, 0, none⟩) m cr, LR)]) (fun z hz => by simp at hz; subst hz; simp))
          have HB33 := Lib.hid (HB32.out.trans (hb.mono HB32.out.size))
          clear hb HSM RX
          go_wp2_with fail
          go_meet
          case rel => exact ⟨rfl, s2, HA2, H33, HB33⟩
      case rest =>
      obtain ⟨rfl, s2, HA2, H33, HB33⟩ := hcut
      clear H30 HB30 HFK HFZ HBK
      have hA3 := all_turns (s := s2) HA2.out HMEM.out HXV.out HFV.out
      have hg3 : Sp.Good (turnS (turnS s2 (x : Int)) (f : Int)) := good_turn (good_turn H33.out.good _) _
      obtain ⟨g, h, v5, g1, g2, g3, g4, g5, g6, g7⟩ := all_adds (s := turnS (turnS s2 (x : Int)) (f : Int)) hg3 hA3 HMEM.out HXV.out HFV.out DD
      have hg5 : Sp.Good (addS (addS (turnS (turnS s2 (x : Int)) (f : Int)) (x : Int) DD) (f : Int) (-DD)) := good_add (good_add hg3 _ _) _ _
      obtain ⟨z, jz, l1, l2, l3, l4⟩ := all_least hg5 g6 (fun y => by rw [g5]; exact HMEM.out y) (x := x) (by rw [g5]; exact HXV.out)
      have T1 := Lib.hid (fun (w' : World) KK h => one_turn (w := w') (B := b) (p := p) (s := s2) (K := KK) h (x : Int))
      have T2 := Lib.hid (fun (w' : World) KK h => one_turn (w := w') (B := b) (p := p) (s := turnS s2 (x : Int)) (K := KK) h (f : Int))
      generalize turnS (turnS s2 (x : Int)) (f : Int) = s3 at *
      have A1 := Lib.hid (fun (w' : World) KK h => one_add (w := w') (B := b) (p := p) (s := s3) (K := KK) h (x : Int) DD (by omega))
      generalize hs4 : addS s3 (x : Int) DD = s4 at *
      have A2 := Lib.hid (fun (w' : World) KK h => one_add (w := w') (B := b) (p := p) (s := s4) (K := KK) h (f : Int) (-DD) (by omega))
      generalize hs5 : addS s4 (f : Int) (-DD) = s5 at *
      have G1 := Lib.hid g1
      have G2 := Lib.hid g2
      have G3 := Lib.hid g3
      have G6 := Lib.hid g6
      have G7 := Lib.hid g7
      have G5 := Lib.hid g5
      have L1 := Lib.hid l1
      have L2 := Lib.hid l2
      have L3 := Lib.hid l3
      have L4 := Lib.hid l4
      clear hA3 hg3 hg5 g1 g2 g3 g4 g5 g6 g7 l1 l2 l3 l4 hs4 hs5
      go_wp2_with fail
      refine (T1.out _ _ H33.out).mono ?_
      rintro e w34 ⟨rfl, h34, hb⟩
      have H34 := Lib.hid h34
      have HB34 := Lib.hid (HB33.out.trans (hb.mono hbs))
      clear h34 hb
      go_wp2_with fail
      refine (T2.out _ _ H34.out).mono ?_
      rintro e w35 ⟨rfl, h35, hb⟩
      have H35 := Lib.hid h35
      have HB35 := Lib.hid (HB34.out.trans (hb.mono hbs))
      clear h35 hb
      go_wp2_with fail
      refine (A1.out _ _ H35.out).mono ?_
      rintro e w36 ⟨he, h36, hb⟩
      rw [G2.out] at he
      subst he
      have H36 := Lib.hid h36
      have HB36 := Lib.hid (HB35.out.trans (hb.mono hbs))
      clear h36 hb
      go_wp2_with fail
      refine (A2.out _ _ H36.out).mono ?_
      rintro e w37 ⟨he, h37, hb⟩
      rw [G3.out] at he
      subst he
      have H37 := Lib.hid h37
      have HB37 := Lib.hid (HB36.out.trans (hb.mono hbs))
      clear h37 hb
      go_wp2_with fail
      refine (one_least H37.out (x : Int)).mono ?_
      rintro e w38 ⟨he, h38, hb⟩
      rw [L1.out] at he
      subst he
      have H38 := Lib.hid h38
      have HB38 := Lib.hid (HB37.out.trans (hb.mono hbs))
      clear h38 hb
      clear T1 T2 A1 A2 H33 H34 H35 H36 H37 HB33 HB34 HB35 HB36 HB37
      go_wp2
      go_loopg [21, 22] m (fun gg si s22 wz => ∃ i : Nat, si = .int .i64 i ∧ i + gg = m ∧ Hid (One wz b p s5 [(.slice (some ⟨gr, 0, none⟩) m cr, LR)]) ∧ Hid (Below w.heap.size w wz))
      case atStart => exact ⟨0, rfl, by omega, H38, HB38⟩
      case round =>
        obtain ⟨i, rfl, hig, HW, HBX⟩ := hrel
        by_cases hi : i < m
        · have hii : (i : Int) < (m : Int) := by omega
          have hi0 : (0 : Int) ≤ (i : Int) := by omega
          have c0 := tell_at (HW.out.row List.mem_cons_self) (i := i) (by rw [← HML.out]; exact hi)
          have hyL := of_getD (l := LR) (i := i) (by rw [← HML.out]; exact hi)
          have HTA := Lib.hid (fun (wz : World) (h : Ne.OwnI wz b (.slice (some ⟨gr, 0, none⟩) m cr) (Ne.encW LR)) => tell_at h (i := i) (by rw [← HML.out]; exact hi))
          generalize LR.getD i 0 = y at *
          obtain ⟨q1, q2, q3⟩ := L4.out i y hyL
          have hyv := (HMEM.out y).1 (List.mem_of_getElem? hyL)
          have HYV := Lib.hid (show y < m by rw [HMM.out]; exact hyv)
          have hyi : (y : Int) < (m : Int) := by have := HYV.out; omega
          have hy0 : (0 : Int) ≤ (y : Int) := by omega
          have HQ1 := Lib.hid q1
          have G7y := Lib.hid (show g = 0 → h = 0 ∧ Ne.amt v5 y = Ne.amt vs y from fun e => ⟨(G7.out e).1, (G7.out e).2 y hyv⟩)
          have VC := Lib.hid (show ∀ wz, Below w.heap.size w wz → ∃ bv ov, a0 = some ⟨bv, ov, none⟩ ∧ wz.cell? ⟨bv, ov + y, none⟩ = some (.int .i64 (Ne.amt vs y)) from fun wz hb => by
            obtain ⟨bv, ov, e, _, hc⟩ := Ne.irow_cell (KR0.out.kept hb) (i := y) hyv
            exact ⟨bv, ov, e, hc⟩)
          generalize Ne.amt v5 y = ay at *
          generalize Ne.amt vs y = oy at *
          have L3z := Lib.hid L3.out
          generalize Ne.amt v5 z = az at *
          have d1 : decide (ay < az) = false := decide_eq_false (by omega)
          clear q1 hyL hyv
          go_wp2_with fail
          refine (one_value HW.out (y : Int)).mono ?_
          rintro e w41 ⟨he, h41, hb⟩
          rw [HQ1.out] at he
          subst he
          have H41 := Lib.hid h41
          have HB41 := Lib.hid (HBX.out.trans (hb.mono hbs))
          clear h41 hb c0
          have c0 := HTA.out w41 (H41.out.row List.mem_cons_self)
          obtain ⟨bv, ov, e0, c1⟩ := VC.out w41 HB41.out
          subst e0
          rcases G1.out with hg | hg
          · subst hg
            obtain ⟨hh, hay⟩ := G7y.out rfl
            subst hh
            subst hay
            have d2 : (ay != ay) = false := by simp
            go_wp2_with fail
            refine (one_value H41.out (z : Int)).mono ?_
            rintro e w42 ⟨he, h42, hb⟩
            rw [L3z.out] at he
            subst he
            have H42 := Lib.hid h42
            have HB42 := Lib.hid (HB41.out.trans (hb.mono hbs))
            clear h42 hb
            go_wp2_with fail
            refine (one_value H42.out (z : Int)).mono ?_
            rintro e w43 ⟨he, h43, hb⟩
            rw [L3z.out] at he
            subst he
            have H43 := Lib.hid h43
            have HB43 := Lib.hid (HB42.out.trans (hb.mono hbs))
            clear h43 hb
            by_cases ee : ay = az
            · have ee' : (ay == az) = true := by simpa using ee
              have d3 : decide ((i : Int) < (jz : Int)) = false := decide_eq_false (by have := q3 ee; omega)
              have d3n : decide (i < jz) = false := decide_eq_false (by have := q3 ee; omega)
              clear ee q3
              go_wp2_with fail
              refine (one_place H43.out (z : Int)).mono ?_
              rintro e w44 ⟨he, h44, hb⟩
              rw [L2.out] at he
              subst he
              have H44 := Lib.hid h44
              have HB44 := Lib.hid (HB43.out.trans (hb.mono hbs))
              clear h44 hb
              go_wp2
              go_roundg (m - (i + 1))
              case measure => omega
              case rel => exact ⟨i + 1, by go_num, by omega, H44, HB44⟩
            · have ee' : (ay == az) = false := by simpa using ee
              clear ee q3
              go_wp2
              go_roundg (m - (i + 1))
              case measure => omega
              case rel => exact ⟨i + 1, by go_num, by omega, H43, HB43⟩
          · subst hg
            go_wp2_with fail
            refine (one_value H41.out (z : Int)).mono ?_
            rintro e w42 ⟨he, h42, hb⟩
            rw [L3z.out] at he
            subst he
            have H42 := Lib.hid h42
            have HB42 := Lib.hid (HB41.out.trans (hb.mono hbs))
            clear h42 hb
            go_wp2_with fail
            refine (one_value H42.out (z : Int)).mono ?_
            rintro e w43 ⟨he, h43, hb⟩
            rw [L3z.out] at he
            subst he
            have H43 := Lib.hid h43
            have HB43 := Lib.hid (HB42.out.trans (hb.mono hbs))
            clear h43 hb
            by_cases ee : ay = az
            · have ee' : (ay == az) = true := by simpa using ee
              have d3 : decide ((i : Int) < (jz : Int)) = false := decide_eq_false (by have := q3 ee; omega)
              have d3n : decide (i < jz) = false := decide_eq_false (by have := q3 ee; omega)
              clear ee q3
              go_wp2_with fail
              refine (one_place H43.out (z : Int)).mono ?_
              rintro e w44 ⟨he, h44, hb⟩
              rw [L2.out] at he
              subst he
              have H44 := Lib.hid h44
              have HB44 := Lib.hid (HB43.out.trans (hb.mono hbs))
              clear h44 hb
              go_wp2
              go_roundg (m - (i + 1))
              case measure => omega
              case rel => exact ⟨i + 1, by go_num, by omega, H44, HB44⟩
            · have ee' : (ay == az) = false := by simpa using ee
              clear ee q3
              go_wp2
              go_roundg (m - (i + 1))
              case measure => omega
              case rel => exact ⟨i + 1, by go_num, by omega, H43, HB43⟩
        · have ei : i = m := by omega
          subst i
          clear hig L4 G7 L1 L2 L3
          rcases G1.out with hg | hg
          · subst hg
            have GX := Lib.hid (show AllIn s5 LR v5 from G6.out)
            have HXV5 := Lib.hid (show x < v5.length by rw [G5.out]; exact HXV.out)
            have RX := Lib.hid (show ∀ (w' : World) KK (h : One w' b p s5 KK), Calls Try.prog 16 #[.pointer (some ⟨p, 0, none⟩), .int .i64 (x : Int)] w' fun e w2 => ∃ o c, e = .returned (.slice o m c) ∧ One w2 b p s5 ((.slice o m c, LR) :: KK) ∧ Below b w' w2 from fun w' KK h => by
              have h1 := one_row h (x : Int)
              rw [GX.out.2 x HXV5.out, ← HML.out] at h1
              exact h1)
            go_wp2_with fail
            refine (RX.out _ _ HW.out).mono ?_
            rintro e w45 ⟨o45, c45, rfl, h45, hb⟩
            have SM := Ne.same_any o45 (some ⟨gr, 0, none⟩) c45 cr (Ne.encW LR) (Ne.encW LR) _ (Ne.own_irow (h45.row List.mem_cons_self)) (Ne.own_irow (h45.row (List.mem_cons_of_mem _ List.mem_cons_self))) (by rw [HLK.out]; omega) (by rw [HLK.out]; omega)
            rw [HLK.out, decide_eq_true rfl] at SM
            have HSM := Lib.hid SM
            have H45 := Lib.hid h45
            have HB45 := Lib.hid (HBX.out.trans (hb.mono hbs))
            clear h45 hb SM
            go_wp2_with fail
            refine HSM.out.mono ?_
            rintro e w46 ⟨rfl, hb⟩
            have H46 := Lib.hid ((H45.out.kept hb).less (K2 := [(.slice (some ⟨gr, 0, none⟩) m cr, LR)]) (fun z hz => by simp at hz; subst hz; simp))
            have HB46 := Lib.hid (HB45.out.trans (hb.mono HB45.out.size))
            clear hb HSM RX
            go_wp2
            go_ret
            exact ⟨rfl, HB46.out⟩
          · subst hg
            have GX := Lib.hid (show AllIn s5 LR v5 from G6.out)
            have HXV5 := Lib.hid (show x < v5.length by rw [G5.out]; exact HXV.out)
            have RX := Lib.hid (show ∀ (w' : World) KK (h : One w' b p s5 KK), Calls Try.prog 16 #[.pointer (some ⟨p, 0, none⟩), .int .i64 (x : Int)] w' fun e w2 => ∃ o c, e = .returned (.slice o m c) ∧ One w2 b p s5 ((.slice o m c, LR) :: KK) ∧ Below b w' w2 from fun w' KK h => by
              have h1 := one_row h (x : Int)
              rw [GX.out.2 x HXV5.out, ← HML.out] at h1
              exact h1)
            go_wp2_with fail
            refine (RX.out _ _ HW.out).mono ?_
            rintro e w45 ⟨o45, c45, rfl, h45, hb⟩
            have SM := Ne.same_any o45 (some ⟨gr, 0, none⟩) c45 cr (Ne.encW LR) (Ne.encW LR) _ (Ne.own_irow (h45.row List.mem_cons_self)) (Ne.own_irow (h45.row (List.mem_cons_of_mem _ List.mem_cons_self))) (by rw [HLK.out]; omega) (by rw [HLK.out]; omega)
            rw [HLK.out, decide_eq_true rfl] at SM
            have HSM := Lib.hid SM
            have H45 := Lib.hid h45
            have HB45 := Lib.hid (HBX.out.trans (hb.mono hbs))
            clear h45 hb SM
            go_wp2_with fail
            refine HSM.out.mono ?_
            rintro e w46 ⟨rfl, hb⟩
            have H46 := Lib.hid ((H45.out.kept hb).less (K2 := [(.slice (some ⟨gr, 0, none⟩) m cr, LR)]) (fun z hz => by simp at hz; subst hz; simp))
            have HB46 := Lib.hid (HB45.out.trans (hb.mono HB45.out.size))
            clear hb HSM RX
            go_wp2
            go_ret
            exact ⟨rfl, HB46.out⟩

end Go.Proofs.Ytlkigpmjhojceaa.splayBack
