/- ForestSteps: for every input the law returns true and its arguments read as they did. No condition. -/
import Derived.Test.YtjhodnpmogkmmaaFls
import Derived.Test.YtjhodnpmogkmmaaOpa
import Derived.Deep.LoopGhost
import Derived.Deep.DeepCutAuto
import Derived.Test.YtjhodnpmogkmmaaRows
import Derived.WalkKit
import Derived.ProofKit
import Derived.OpenShut
import Derived.ShutString
import Derived.ChangeOld
import Derived.Below
import Derived.Deep.Strs
namespace Go.Proofs.Ytjhodnpmogkmmaa.forestSteps
open Go.ChangeShapes Go.WideShapes Go.ChangeAt Go.RowKit
open Go.ChangeMaps (open_string shut_string)
set_option linter.unusedVariables false
set_option linter.unusedSimpArgs false

theorem own : ownKnob Try.prog.godebug = none := by kernel_rfl
theorem laidOut : laidOutB Try.prog = true := by kernel_rfl

open Fo
theorem linkS_len (f : Ft) (a b : Int) : (linkS f a b).v.length = f.v.length := by unfold linkS; split <;> rfl
theorem cutS_len (f : Ft) (a : Int) : (cutS f a).v.length = f.v.length := by unfold cutS; split <;> rfl
theorem evertS_len (f : Ft) (a : Int) : (evertS f a).v.length = f.v.length := by unfold evertS; split <;> rfl
theorem ft_one {f : Ft} {x : Int} (h0 : 0 ≤ x) (hx : x < (f.v.length : Int)) : ft f x = 1 := by
  unfold ft
  rw [if_pos (show there f x from ⟨h0, hx⟩)]
theorem fc_le (n : Nat) (h : n ≤ 200) : ∃ k : Nat, Num.logF (n : Int) = (k : Int) ∧ k ≤ 8 ∧ fc n ≤ 400 * ((2 + k) * (2 + k)) := by
  have hk : ∃ k : Nat, Num.logF (n : Int) = (k : Int) ∧ k ≤ 8 := by
    by_cases c : (n : Int) < 2
    · exact ⟨0, Num.logF_lo c, by omega⟩
    · obtain ⟨k, h1, _, h2, _, h5⟩ := Num.logF_spec (n : Int) (by omega) (by omega)
      refine ⟨k, h1, ?_⟩
      rcases Nat.lt_or_ge 8 k with c2 | c2
      · have h6 : (2 : Nat) ^ 8 ≤ 2 ^ (k - 1) := Nat.pow_le_pow_right (by omega) (by omega)
        have h7 : ((2 : Nat) ^ (k - 1) : Nat) < n := by
          have := h5
          rw [← Num.pc] at this
          omega
        omega
      · exact c2
  obtain ⟨k, h1, h2⟩ := hk
  refine ⟨k, h1, h2, ?_⟩
  have hl : n.log2 ≤ k := by
    have := Sp.log_le (l := n) (n := n) (Nat.le_refl _) (by omega)
    rw [h1] at this
    simpa using this
  have hlg : Sp.lg n = k := by unfold Sp.lg; rw [h1]; simp
  have h3 : fc n ≤ (6 * (18 * k + 4) + (60 * k + 12)) * (3 * k + 3) + 12 * (18 * k + 4) := by
    unfold fc tc Sp.ac Sp.jc
    rw [hlg]
    exact Nat.add_le_add_right (Nat.mul_le_mul_left _ (by omega)) _
  refine Nat.le_trans h3 ?_
  have : ∀ j, j < 9 → (6 * (18 * j + 4) + (60 * j + 12)) * (3 * j + 3) + 12 * (18 * j + 4) ≤ 400 * ((2 + j) * (2 + j)) := by decide
  exact this k (by omega)

set_option maxRecDepth 100000 in
set_option maxHeartbeats 4000000 in
theorem walk (a0 : Int) (a1 : Int) (a2 : List Sp.Act) (o2 : Option Addr) (c2 : Nat) (a3 : Int) (w : World) (w0 : (Lit.int .i64 a0).wf = true) (w1 : (Lit.int .i64 a1).wf = true) (k2 : ∀ a ∈ a2, Sp.Act.ok a) (z2 : a2.length ≤ c2) (y2 : c2 ≤ maxLen) (n2 : o2 = none → c2 = 0) (r2 : Sp.TRow w o2 a2) (w3 : (Lit.int .i64 a3).wf = true) :
    Calls Try.prog 4 #[.int .i64 a0, .int .i64 a1, .slice o2 a2.length c2, .int .i64 a3] w fun e w' => e = .returned (.bool true) ∧ Below w.heap.size w w' := by
  have HSH := Lib.hid (shown_any w)
  obtain ⟨M, hM⟩ : ∃ M, M = a2.length := ⟨_, rfl⟩
  rw [← hM] at z2 ⊢
  have HLL := Lib.hid hM
  have hm64 : M ≤ 9223372036854775807 := by unfold maxLen at y2; omega
  have KA := Lib.hid k2
  have TR := Lib.hid r2
  clear hM z2 y2 n2 k2 r2
  have b0 := bounds_i64 w0
  have b1 := bounds_i64 w1
  have b2 := bounds_i64 w3
  clear w0 w1 w3
  by_cases g1 : 40 < M
  · have g1' : (40 : Int) < (M : Int) := by omega
    go_enter Try.func4, Try.ntmps4
    go_wp2_with fail
    refine HSH.out.mono ?_
    rintro e w1 ⟨rfl, hb⟩
    have HB1 := Lib.hid hb
    clear hb
    go_wp2
    go_ret
    exact ⟨rfl, HB1.out⟩
  have g1' : ¬ (40 : Int) < (M : Int) := by omega
  have hm2 : M ≤ 40 := by omega
  clear g1
  have bp0 := Ne.pickN_bd (c := a0) (n := 200) (by omega)
  have PA := Lib.hid fun w' => Ne.pick_any a0 200 w' b0.1 b0.2 (by omega) (by omega)
  generalize Ne.pickN a0 200 = z at *
  obtain ⟨n, hn⟩ : ∃ n : Nat, 1 + z = (n : Int) := ⟨(1 + z).toNat, by omega⟩
  have hn1 : 1 ≤ n := by omega
  have hn300 : n ≤ 200 := by omega
  have bp2 := Ne.pickN_bd (c := a3) (n := 15) (by omega)
  have PT := Lib.hid fun w' => Ne.pick_any a3 15 w' b2.1 b2.2 (by omega) (by omega)
  generalize Ne.pickN a3 15 = y at *
  obtain ⟨TT, hT⟩ : ∃ TT : Nat, 1 + y = (TT : Int) := ⟨(1 + y).toNat, by omega⟩
  have hT20 : TT ≤ 15 := by omega
  have bp1 := Ne.pickN_bd (c := a1) (n := 3) (by omega)
  have PF := Lib.hid fun w' => Ne.pick_any a1 3 w' b1.1 b1.2 (by omega) (by omega)
  generalize Ne.pickN a1 3 = pf at *
  have hz0 : 0 ≤ z := bp0.1
  have hz1 : z < 200 := bp0.2
  have hy0 : 0 ≤ y := bp2.1
  have hy1 : y < 15 := bp2.2
  clear b0 b1 b2 bp0 bp1 bp2
  obtain ⟨lg, hlg, hlg63, hfc⟩ := fc_le n hn300
  have LOG := Lib.hid (fun w' => Num.log_any (n : Int) w' (by omega) (by omega))
  rw [hlg] at LOG
  obtain ⟨v, hv⟩ : ∃ v : List Int, v = List.replicate n 0 := ⟨_, rfl⟩
  have hvl : v.length = n := by rw [hv]; simp
  have hne : Sp.newE v = 0 := by
    unfold Sp.newE
    rw [if_neg (by omega), if_pos]
    intro i hi
    rw [hv]
    simp only [Ne.amt, List.getD_eq_getElem?_getD]
    rw [List.getElem?_replicate]
    split <;> simp [Sp.big]
  have HLB := Lib.hid (show ∀ (w' : World), Ne.IRow (w'.alloc (.cells (madeCells #[.int .i64 0] n) 2)) (some ⟨w'.heap.size, 0, none⟩) v from fun w' => by rw [hv]; exact (Ne.lbox_made w' n rfl).irow)
  have NW := Lib.hid (fun (w' : World) => fnew_any (some ⟨w'.heap.size, 0, none⟩) n v (w'.alloc (.cells (madeCells #[.int .i64 0] n) 2)) (HLB.out w') (fun h => by cases h))
  rw [hne] at NW
  rw [hvl] at NW
  have HGL := Lib.hid (show (newS v).v.length = n from hvl)
  have HFC := Lib.hid hfc
  generalize hcs : fc n = CS at *
  have HCS := Lib.hid hcs
  clear hcs hfc
  generalize newS v = s0 at *
  clear hv hne hlg HLB hvl
  have hmk := Ne.make_l n (by omega)
  go_enter Try.func4, Try.ntmps4
  go_wp2_with fail
  refine HSH.out.mono ?_
  rintro e w1 ⟨rfl, hb⟩
  have HB1 := Lib.hid hb
  clear hb HSH
  go_wp2_with fail
  refine (PA.out _).mono ?_
  rintro e w' ⟨rfl, rfl⟩
  go_wp2_with fail
  refine (NW.out w1).mono ?_
  rintro e w2 ⟨hb, pv, rfl, _, h0⟩
  obtain ⟨p, rfl, h9⟩ := h0 (by trivial)
  have HB2a := Lib.hid (HB1.out.alloc HB1.out.size (.cells (madeCells #[.int .i64 0] n) 2))
  have HB2 := Lib.hid (HB2a.out.trans (hb.mono HB2a.out.size))
  have hbs : w.heap.size ≤ (w1.alloc (.cells (madeCells #[.int .i64 0] n) 2)).heap.size := HB2a.out.size
  have hbs2 := hb.size
  have H2 := Lib.hid (show Cnt w2 (w1.alloc (.cells (madeCells #[.int .i64 0] n) 2)).heap.size p s0 0 0 from ⟨_, hbs2, h9⟩)
  clear hb h0 h9 HB2a hbs2
  generalize (w1.alloc (.cells (madeCells #[.int .i64 0] n) 2)).heap.size = b at *
  clear NW hmk PA HB1
  go_wp2
  go_loopg [13, 14] (n - 1) (fun gg sk si wr => ∃ (i : Nat) (f : Ft), si = .int .i64 i ∧ sk = .int .i64 ((i : Int) - 1) ∧ 1 ≤ i ∧ i + gg = n ∧ Hid (f.v.length = n) ∧ Hid (Cnt wr b p f (i - 1) ((i - 1) * CS)) ∧ Hid (Below w.heap.size w wr))
  case atStart => exact ⟨1, s0, rfl, by go_num, Nat.le_refl _, by omega, HGL, Lib.hid (by simpa using H2.out), HB2⟩
  case round =>
    obtain ⟨i, f, rfl, rfl, hi1, hig, HFL, HW, HBW⟩ := hrel
    by_cases hi : i < n
    · have hii : (i : Int) < (n : Int) := by omega
      have hw1 : IntKind.i64.wrap (i : Int) = (i : Int) := by rw [IntKind.wrap_i64]; omega
      have hw2 : IntKind.i64.wrap ((i : Int) - 1) = (i : Int) - 1 := by rw [IntKind.wrap_i64]; omega
      have hq0 : 0 ≤ Int.tdiv ((i : Int) - 1) 2 := Int.tdiv_nonneg (by omega) (by omega)
      have hq1 : Int.tdiv ((i : Int) - 1) 2 < (n : Int) := by
        rw [Int.tdiv_eq_ediv_of_nonneg (by omega)]; omega
      have hw3 : IntKind.i64.wrap (Int.tdiv ((i : Int) - 1) 2) = Int.tdiv ((i : Int) - 1) 2 := by rw [IntKind.wrap_i64]; omega
      have HLK := Lib.hid (show ∀ (O : Int) (w4 : World), 0 ≤ O → O < (n : Int) → Below w.heap.size w w4 → Cnt w4 b p f (i - 1) ((i - 1) * CS) → Calls Try.prog 26 #[.pointer (some ⟨p, 0, none⟩), .int .i64 (i : Int), .int .i64 O] w4 fun e w5 => e = .returned (.int .i64 (linkE f (i : Int) O)) ∧ (linkS f (i : Int) O).v.length = n ∧ Cnt w5 b p (linkS f (i : Int) O) (i + 1 - 1) ((i + 1 - 1) * CS) ∧ Below w.heap.size w w5 from fun O w4 h1 h2 hb4 h4 => by
        refine (cnt_link h4 (i : Int) O).mono ?_
        rintro e w5 ⟨rfl, h5, hb⟩
        rw [ft_one (by omega) (by rw [HFL.out]; omega), ft_one h1 (by rw [HFL.out]; exact h2), HFL.out, HCS.out] at h5
        refine ⟨rfl, by rw [linkS_len]; exact HFL.out, ?_, hb4.trans (hb.mono hbs)⟩
        have e : (i + 1 - 1) * CS = (i - 1) * CS + CS := by rw [← Nat.succ_mul]; congr 1; omega
        have e2 : i + 1 - 1 = i - 1 + 1 * 1 := by omega
        rw [e, e2]; exact h5)
      have hk1 : (i : Int) - 1 < (n : Int) := by omega
      by_cases k1 : pf = 1
      · have m1 : (pf == 1) = true := by simpa using k1
        have m2 : (pf == 2) = false := by simp; omega
        go_wp2_with fail
        refine (PF.out _).mono ?_
        rintro e w' ⟨rfl, rfl⟩
        go_wp2_with fail
        refine (PF.out _).mono ?_
        rintro e w' ⟨rfl, rfl⟩
        go_wp2_with fail
        refine (HLK.out (0) _ (by omega) (by omega) HBW.out HW.out).mono ?_
        rintro e w4 ⟨rfl, hl4, h4, hb4⟩
        have HL4 := Lib.hid hl4
        have H4 := Lib.hid h4
        have HB4 := Lib.hid hb4
        clear hl4 h4 hb4
        go_wp2
        go_roundg (n - (i + 1))
        case measure => omega
        case rel => exact ⟨i + 1, _, by go_num, by go_num, by omega, by omega, HL4, H4, HB4⟩
      have m1 : (pf == 1) = false := by simpa using k1
      by_cases k2 : pf = 2
      · have m2 : (pf == 2) = true := by simpa using k2
        go_wp2_with fail
        refine (PF.out _).mono ?_
        rintro e w' ⟨rfl, rfl⟩
        go_wp2_with fail
        refine (PF.out _).mono ?_
        rintro e w' ⟨rfl, rfl⟩
        go_wp2_with fail
        refine (HLK.out (Int.tdiv ((i : Int) - 1) 2) _ (by omega) (by omega) HBW.out HW.out).mono ?_
        rintro e w4 ⟨rfl, hl4, h4, hb4⟩
        have HL4 := Lib.hid hl4
        have H4 := Lib.hid h4
        have HB4 := Lib.hid hb4
        clear hl4 h4 hb4
        go_wp2
        go_roundg (n - (i + 1))
        case measure => omega
        case rel => exact ⟨i + 1, _, by go_num, by go_num, by omega, by omega, HL4, H4, HB4⟩
      · have m2 : (pf == 2) = false := by simpa using k2
        go_wp2_with fail
        refine (PF.out _).mono ?_
        rintro e w' ⟨rfl, rfl⟩
        go_wp2_with fail
        refine (PF.out _).mono ?_
        rintro e w' ⟨rfl, rfl⟩
        go_wp2_with fail
        refine (HLK.out ((i : Int) - 1) _ (by omega) (by omega) HBW.out HW.out).mono ?_
        rintro e w4 ⟨rfl, hl4, h4, hb4⟩
        have HL4 := Lib.hid hl4
        have H4 := Lib.hid h4
        have HB4 := Lib.hid hb4
        clear hl4 h4 hb4
        go_wp2
        go_roundg (n - (i + 1))
        case measure => omega
        case rel => exact ⟨i + 1, _, by go_num, by go_num, by omega, by omega, HL4, H4, HB4⟩
    · have ei : i = n := by omega
      subst i
      obtain ⟨k0, hk0⟩ : ∃ k0 : Nat, (n : Int) - 1 = (k0 : Int) := ⟨n - 1, by omega⟩
      have hk00 : n - 1 = k0 := by omega
      have HS0 := HFL
      have HW0 := Lib.hid (show Cnt wr b p f k0 (k0 * CS) from by rw [← hk00]; exact HW.out)
      have hk0n : k0 ≤ 200 := by omega
      rw [hk0]
      clear hig HFL HW hk0 hk00 hi H2 HB2 HGL PF
      obtain ⟨s0, hs0⟩ : ∃ s0, s0 = f := ⟨_, rfl⟩
      subst hs0
      go_wp2
      go_loopg [13, 16] (TT + 1) (fun gg sk st wz => ∃ (t kk : Nat) (f : Ft), st = .int .i64 t ∧ sk = .int .i64 kk ∧ t + gg = TT + 1 ∧ Hid (kk ≤ 200 + t * 40) ∧ Hid (f.v.length = n) ∧ Hid (Cnt wz b p f kk (kk * CS)) ∧ Hid (Below w.heap.size w wz))
      case atStart => exact ⟨0, k0, s0, rfl, rfl, by omega, Lib.hid (by omega), HS0, HW0, HBW⟩
      case round =>
        obtain ⟨t, kk, f, rfl, rfl, htg, HKT, HSL, HW, HBX⟩ := hrel
        by_cases ht : t < TT
        · have hti : (t : Int) < (TT : Int) := by omega
          go_wp2_with fail
          refine (PT.out _).mono ?_
          rintro e w' ⟨rfl, rfl⟩
          go_wp2
          go_loopg [13, 17] M (fun gg sk sj wz => ∃ (j kk : Nat) (f : Ft), sj = .int .i64 j ∧ sk = .int .i64 kk ∧ j + gg = M ∧ Hid (kk ≤ 200 + t * 40 + j) ∧ Hid (f.v.length = n) ∧ Hid (Cnt wz b p f kk (kk * CS)) ∧ Hid (Below w.heap.size w wz))
          case atStart => exact ⟨0, kk, f, rfl, rfl, by omega, Lib.hid (by have := HKT.out; omega), HSL, HW, HBX⟩
          case round =>
            obtain ⟨j, kk, f, rfl, rfl, hjg, HKB, HSL, HW, HBX⟩ := hrel
            by_cases hj : j < M
            · have hji : (j : Int) < (M : Int) := by omega
              have hj0 : (0 : Int) ≤ (j : Int) := by omega
              have hkk : (kk : Int) ≤ 2000 := by have := HKB.out; have := Nat.mul_le_mul_right 40 (show t ≤ 15 by omega); omega
              have ht15 : t < 15 := by omega
              obtain ⟨bt, ot, rfl, hbt, t0, t1, t2, t3⟩ := Sp.trow_cell (show Sp.TRow wr o2 a2 from TR.out.kept HBX.out) (i := j) (by rw [← HLL.out]; exact hj)
              have hak := KA.out (Sp.actAt a2 j) (List.mem_of_getElem? (Sp.at_act (l := a2) (i := j) (by rw [← HLL.out]; exact hj)))
              obtain ⟨q0, q1, q2, _⟩ := hak
              unfold Ne.in64 at q0 q1 q2
              obtain ⟨cx, hcx⟩ : ∃ cx, IntKind.i64.wrap ((Sp.actAt a2 j).x + 7 * (t : Int)) = cx := ⟨_, rfl⟩
              have hcx2 : -9223372036854775808 ≤ cx ∧ cx ≤ 9223372036854775807 := by rw [← hcx, IntKind.wrap_i64]; omega
              obtain ⟨cy, hcy⟩ : ∃ cy, IntKind.i64.wrap ((Sp.actAt a2 j).y + 3 * (t : Int)) = cy := ⟨_, rfl⟩
              have hcy2 : -9223372036854775808 ≤ cy ∧ cy ≤ 9223372036854775807 := by rw [← hcy, IntKind.wrap_i64]; omega
              have hm7 : IntKind.i64.wrap (7 * (t : Int)) = 7 * (t : Int) := by rw [IntKind.wrap_i64]; omega
              have hm3 : IntKind.i64.wrap (3 * (t : Int)) = 3 * (t : Int) := by rw [IntKind.wrap_i64]; omega
              have bpx := Ne.pickN_bd (c := cx) (n := (n : Int)) (by omega)
              have PX := Lib.hid fun w' => Ne.pick_any cx (n : Int) w' hcx2.1 hcx2.2 (by omega) (by omega)
              have bpy := Ne.pickN_bd (c := cy) (n := (n : Int)) (by omega)
              have PY := Lib.hid fun w' => Ne.pick_any cy (n : Int) w' hcy2.1 hcy2.2 (by omega) (by omega)
              have bpo := Ne.pickN_bd (c := (Sp.actAt a2 j).op) (n := 14) (by omega)
              have PO := Lib.hid fun w' => Ne.pick_any (Sp.actAt a2 j).op 14 w' q0.1 q0.2 (by omega) (by omega)
              generalize Ne.pickN cx (n : Int) = X at *
              generalize Ne.pickN cy (n : Int) = Y at *
              generalize Ne.pickN (Sp.actAt a2 j).op 14 = pk at *
              generalize (Sp.actAt a2 j).op = aop at *
              generalize (Sp.actAt a2 j).x = ax at *
              generalize (Sp.actAt a2 j).y = ay at *
              have HX1 := Lib.hid (ft_one (f := f) (x := X) bpx.1 (by rw [HSL.out]; exact bpx.2))
              have HY1 := Lib.hid (ft_one (f := f) (x := Y) bpy.1 (by rw [HSL.out]; exact bpy.2))
              have hp0 := bpo.1
              have hp1 := bpo.2
              have hkw : IntKind.i64.wrap ((kk : Int) + 1) = (kk : Int) + 1 := by rw [IntKind.wrap_i64]; omega
              clear bpx bpy bpo q0 q1 q2 hcx2 hcy2
              go_wp2_with fail
              refine (PX.out _).mono ?_
              rintro e w' ⟨rfl, rfl⟩
              go_wp2_with fail
              refine (PY.out _).mono ?_
              rintro e w' ⟨rfl, rfl⟩
              go_wp2_with fail
              refine (PO.out _).mono ?_
              rintro e w' ⟨rfl, rfl⟩
              clear t0 t1 t2 t3
              by_cases g0 : pk = 0
              · have tt : (pk == 0) = true := by simp; omega
                clear g0
                go_wp2_with fail
                refine (cnt_link HW.out X Y).mono ?_
                rintro e w7 ⟨rfl, h7, hb⟩
                rw [HX1.out, HY1.out] at h7
                rw [HSL.out, HCS.out] at h7
                have H7 := Lib.hid (show Cnt w7 b p (linkS f X Y) (kk + 1) ((kk + 1) * CS) from by
                  have e : (kk + 1) * CS = kk * CS + CS := by rw [Nat.succ_mul]
                  rw [e]; exact h7)
                have HB7 := Lib.hid (HBX.out.trans (hb.mono hbs))
                have HL7 := Lib.hid (show ((linkS f X Y)).v.length = n by rw [linkS_len]; exact HSL.out)
                clear h7 hb
                go_wp2
                go_roundg (M - (j + 1))
                case measure => omega
                case rel => exact ⟨j + 1, kk + 1, _, by go_num, by go_num, by omega, Lib.hid (by have := HKB.out; omega), HL7, H7, HB7⟩
              by_cases g1 : pk = 1
              · have t0 : (pk == 0) = false := by simp; omega
                have tt : (pk == 1) = true := by simp; omega
                clear g1
                go_wp2_with fail
                refine (cnt_link HW.out X Y).mono ?_
                rintro e w7 ⟨rfl, h7, hb⟩
                rw [HX1.out, HY1.out] at h7
                rw [HSL.out, HCS.out] at h7
                have H7 := Lib.hid (show Cnt w7 b p (linkS f X Y) (kk + 1) ((kk + 1) * CS) from by
                  have e : (kk + 1) * CS = kk * CS + CS := by rw [Nat.succ_mul]
                  rw [e]; exact h7)
                have HB7 := Lib.hid (HBX.out.trans (hb.mono hbs))
                have HL7 := Lib.hid (show ((linkS f X Y)).v.length = n by rw [linkS_len]; exact HSL.out)
                clear h7 hb
                go_wp2
                go_roundg (M - (j + 1))
                case measure => omega
                case rel => exact ⟨j + 1, kk + 1, _, by go_num, by go_num, by omega, Lib.hid (by have := HKB.out; omega), HL7, H7, HB7⟩
              by_cases g2 : pk = 2
              · have t0 : (pk == 0) = false := by simp; omega
                have t1 : (pk == 1) = false := by simp; omega
                have tt : (pk == 2) = true := by simp; omega
                clear g2
                go_wp2_with fail
                refine (cnt_link HW.out X Y).mono ?_
                rintro e w7 ⟨rfl, h7, hb⟩
                rw [HX1.out, HY1.out] at h7
                rw [HSL.out, HCS.out] at h7
                have H7 := Lib.hid (show Cnt w7 b p (linkS f X Y) (kk + 1) ((kk + 1) * CS) from by
                  have e : (kk + 1) * CS = kk * CS + CS := by rw [Nat.succ_mul]
                  rw [e]; exact h7)
                have HB7 := Lib.hid (HBX.out.trans (hb.mono hbs))
                have HL7 := Lib.hid (show ((linkS f X Y)).v.length = n by rw [linkS_len]; exact HSL.out)
                clear h7 hb
                go_wp2
                go_roundg (M - (j + 1))
                case measure => omega
                case rel => exact ⟨j + 1, kk + 1, _, by go_num, by go_num, by omega, Lib.hid (by have := HKB.out; omega), HL7, H7, HB7⟩
              by_cases g3 : pk = 3
              · have t0 : (pk == 0) = false := by simp; omega
                have t1 : (pk == 1) = false := by simp; omega
                have t2 : (pk == 2) = false := by simp; omega
                have tt : (pk == 3) = true := by simp; omega
                clear g3
                go_wp2_with fail
                refine (cnt_link HW.out X Y).mono ?_
                rintro e w7 ⟨rfl, h7, hb⟩
                rw [HX1.out, HY1.out] at h7
                rw [HSL.out, HCS.out] at h7
                have H7 := Lib.hid (show Cnt w7 b p (linkS f X Y) (kk + 1) ((kk + 1) * CS) from by
                  have e : (kk + 1) * CS = kk * CS + CS := by rw [Nat.succ_mul]
                  rw [e]; exact h7)
                have HB7 := Lib.hid (HBX.out.trans (hb.mono hbs))
                have HL7 := Lib.hid (show ((linkS f X Y)).v.length = n by rw [linkS_len]; exact HSL.out)
                clear h7 hb
                go_wp2
                go_roundg (M - (j + 1))
                case measure => omega
                case rel => exact ⟨j + 1, kk + 1, _, by go_num, by go_num, by omega, Lib.hid (by have := HKB.out; omega), HL7, H7, HB7⟩
              by_cases g4 : pk = 4
              · have t0 : (pk == 0) = false := by simp; omega
                have t1 : (pk == 1) = false := by simp; omega
                have t2 : (pk == 2) = false := by simp; omega
                have t3 : (pk == 3) = false := by simp; omega
                have tt : (pk == 4) = true := by simp; omega
                clear g4
                go_wp2_with fail
                refine (cnt_link HW.out X Y).mono ?_
                rintro e w7 ⟨rfl, h7, hb⟩
                rw [HX1.out, HY1.out] at h7
                rw [HSL.out, HCS.out] at h7
                have H7 := Lib.hid (show Cnt w7 b p (linkS f X Y) (kk + 1) ((kk + 1) * CS) from by
                  have e : (kk + 1) * CS = kk * CS + CS := by rw [Nat.succ_mul]
                  rw [e]; exact h7)
                have HB7 := Lib.hid (HBX.out.trans (hb.mono hbs))
                have HL7 := Lib.hid (show ((linkS f X Y)).v.length = n by rw [linkS_len]; exact HSL.out)
                clear h7 hb
                go_wp2
                go_roundg (M - (j + 1))
                case measure => omega
                case rel => exact ⟨j + 1, kk + 1, _, by go_num, by go_num, by omega, Lib.hid (by have := HKB.out; omega), HL7, H7, HB7⟩
              by_cases g5 : pk = 5
              · have t0 : (pk == 0) = false := by simp; omega
                have t1 : (pk == 1) = false := by simp; omega
                have t2 : (pk == 2) = false := by simp; omega
                have t3 : (pk == 3) = false := by simp; omega
                have t4 : (pk == 4) = false := by simp; omega
                have tt : (pk == 5) = true := by simp; omega
                clear g5
                go_wp2_with fail
                refine (cnt_cut HW.out X).mono ?_
                rintro e w7 ⟨rfl, h7, hb⟩
                rw [HX1.out] at h7
                rw [HSL.out, HCS.out] at h7
                have H7 := Lib.hid (show Cnt w7 b p (cutS f X) (kk + 1) ((kk + 1) * CS) from by
                  have e : (kk + 1) * CS = kk * CS + CS := by rw [Nat.succ_mul]
                  rw [e]; exact h7)
                have HB7 := Lib.hid (HBX.out.trans (hb.mono hbs))
                have HL7 := Lib.hid (show ((cutS f X)).v.length = n by rw [cutS_len]; exact HSL.out)
                clear h7 hb
                go_wp2
                go_roundg (M - (j + 1))
                case measure => omega
                case rel => exact ⟨j + 1, kk + 1, _, by go_num, by go_num, by omega, Lib.hid (by have := HKB.out; omega), HL7, H7, HB7⟩
              by_cases g6 : pk = 6
              · have t0 : (pk == 0) = false := by simp; omega
                have t1 : (pk == 1) = false := by simp; omega
                have t2 : (pk == 2) = false := by simp; omega
                have t3 : (pk == 3) = false := by simp; omega
                have t4 : (pk == 4) = false := by simp; omega
                have t5 : (pk == 5) = false := by simp; omega
                have tt : (pk == 6) = true := by simp; omega
                clear g6
                go_wp2_with fail
                refine (cnt_cut HW.out X).mono ?_
                rintro e w7 ⟨rfl, h7, hb⟩
                rw [HX1.out] at h7
                rw [HSL.out, HCS.out] at h7
                have H7 := Lib.hid (show Cnt w7 b p (cutS f X) (kk + 1) ((kk + 1) * CS) from by
                  have e : (kk + 1) * CS = kk * CS + CS := by rw [Nat.succ_mul]
                  rw [e]; exact h7)
                have HB7 := Lib.hid (HBX.out.trans (hb.mono hbs))
                have HL7 := Lib.hid (show ((cutS f X)).v.length = n by rw [cutS_len]; exact HSL.out)
                clear h7 hb
                go_wp2
                go_roundg (M - (j + 1))
                case measure => omega
                case rel => exact ⟨j + 1, kk + 1, _, by go_num, by go_num, by omega, Lib.hid (by have := HKB.out; omega), HL7, H7, HB7⟩
              by_cases g7 : pk = 7
              · have t0 : (pk == 0) = false := by simp; omega
                have t1 : (pk == 1) = false := by simp; omega
                have t2 : (pk == 2) = false := by simp; omega
                have t3 : (pk == 3) = false := by simp; omega
                have t4 : (pk == 4) = false := by simp; omega
                have t5 : (pk == 5) = false := by simp; omega
                have t6 : (pk == 6) = false := by simp; omega
                have tt : (pk == 7) = true := by simp; omega
                clear g7
                go_wp2_with fail
                refine (cnt_evert HW.out X).mono ?_
                rintro e w7 ⟨rfl, h7, hb⟩
                rw [HX1.out] at h7
                rw [HSL.out, HCS.out] at h7
                have H7 := Lib.hid (show Cnt w7 b p (evertS f X) (kk + 1) ((kk + 1) * CS) from by
                  have e : (kk + 1) * CS = kk * CS + CS := by rw [Nat.succ_mul]
                  rw [e]; exact h7)
                have HB7 := Lib.hid (HBX.out.trans (hb.mono hbs))
                have HL7 := Lib.hid (show ((evertS f X)).v.length = n by rw [evertS_len]; exact HSL.out)
                clear h7 hb
                go_wp2
                go_roundg (M - (j + 1))
                case measure => omega
                case rel => exact ⟨j + 1, kk + 1, _, by go_num, by go_num, by omega, Lib.hid (by have := HKB.out; omega), HL7, H7, HB7⟩
              by_cases g8 : pk = 8
              · have t0 : (pk == 0) = false := by simp; omega
                have t1 : (pk == 1) = false := by simp; omega
                have t2 : (pk == 2) = false := by simp; omega
                have t3 : (pk == 3) = false := by simp; omega
                have t4 : (pk == 4) = false := by simp; omega
                have t5 : (pk == 5) = false := by simp; omega
                have t6 : (pk == 6) = false := by simp; omega
                have t7 : (pk == 7) = false := by simp; omega
                have tt : (pk == 8) = true := by simp; omega
                clear g8
                go_wp2_with fail
                refine (cnt_add HW.out X 1 (by omega)).mono ?_
                rintro e w7 ⟨rfl, h7, hb⟩
                rw [HX1.out] at h7
                rw [HSL.out, HCS.out] at h7
                have H7 := Lib.hid (show Cnt w7 b p (addS f X 1) (kk + 1) ((kk + 1) * CS) from by
                  have e : (kk + 1) * CS = kk * CS + CS := by rw [Nat.succ_mul]
                  rw [e]; exact h7)
                have HB7 := Lib.hid (HBX.out.trans (hb.mono hbs))
                have HL7 := Lib.hid (show ((addS f X 1)).v.length = n by rw [addS_len]; exact HSL.out)
                clear h7 hb
                go_wp2
                go_roundg (M - (j + 1))
                case measure => omega
                case rel => exact ⟨j + 1, kk + 1, _, by go_num, by go_num, by omega, Lib.hid (by have := HKB.out; omega), HL7, H7, HB7⟩
              by_cases g9 : pk = 9
              · have t0 : (pk == 0) = false := by simp; omega
                have t1 : (pk == 1) = false := by simp; omega
                have t2 : (pk == 2) = false := by simp; omega
                have t3 : (pk == 3) = false := by simp; omega
                have t4 : (pk == 4) = false := by simp; omega
                have t5 : (pk == 5) = false := by simp; omega
                have t6 : (pk == 6) = false := by simp; omega
                have t7 : (pk == 7) = false := by simp; omega
                have t8 : (pk == 8) = false := by simp; omega
                have tt : (pk == 9) = true := by simp; omega
                clear g9
                go_wp2_with fail
                refine (cnt_add HW.out X 1 (by omega)).mono ?_
                rintro e w7 ⟨rfl, h7, hb⟩
                rw [HX1.out] at h7
                rw [HSL.out, HCS.out] at h7
                have H7 := Lib.hid (show Cnt w7 b p (addS f X 1) (kk + 1) ((kk + 1) * CS) from by
                  have e : (kk + 1) * CS = kk * CS + CS := by rw [Nat.succ_mul]
                  rw [e]; exact h7)
                have HB7 := Lib.hid (HBX.out.trans (hb.mono hbs))
                have HL7 := Lib.hid (show ((addS f X 1)).v.length = n by rw [addS_len]; exact HSL.out)
                clear h7 hb
                go_wp2
                go_roundg (M - (j + 1))
                case measure => omega
                case rel => exact ⟨j + 1, kk + 1, _, by go_num, by go_num, by omega, Lib.hid (by have := HKB.out; omega), HL7, H7, HB7⟩
              by_cases g10 : pk = 10
              · have t0 : (pk == 0) = false := by simp; omega
                have t1 : (pk == 1) = false := by simp; omega
                have t2 : (pk == 2) = false := by simp; omega
                have t3 : (pk == 3) = false := by simp; omega
                have t4 : (pk == 4) = false := by simp; omega
                have t5 : (pk == 5) = false := by simp; omega
                have t6 : (pk == 6) = false := by simp; omega
                have t7 : (pk == 7) = false := by simp; omega
                have t8 : (pk == 8) = false := by simp; omega
                have t9 : (pk == 9) = false := by simp; omega
                have tt : (pk == 10) = true := by simp; omega
                clear g10
                go_wp2_with fail
                refine (cnt_least HW.out X).mono ?_
                rintro e w7 ⟨rfl, h7, hb⟩
                rw [HX1.out] at h7
                rw [HSL.out, HCS.out] at h7
                have H7 := Lib.hid (show Cnt w7 b p f (kk + 1) ((kk + 1) * CS) from by
                  have e : (kk + 1) * CS = kk * CS + CS := by rw [Nat.succ_mul]
                  rw [e]; exact h7)
                have HB7 := Lib.hid (HBX.out.trans (hb.mono hbs))
                have HL7 := Lib.hid (show (f).v.length = n by exact HSL.out)
                clear h7 hb
                go_wp2
                go_roundg (M - (j + 1))
                case measure => omega
                case rel => exact ⟨j + 1, kk + 1, _, by go_num, by go_num, by omega, Lib.hid (by have := HKB.out; omega), HL7, H7, HB7⟩
              by_cases g11 : pk = 11
              · have t0 : (pk == 0) = false := by simp; omega
                have t1 : (pk == 1) = false := by simp; omega
                have t2 : (pk == 2) = false := by simp; omega
                have t3 : (pk == 3) = false := by simp; omega
                have t4 : (pk == 4) = false := by simp; omega
                have t5 : (pk == 5) = false := by simp; omega
                have t6 : (pk == 6) = false := by simp; omega
                have t7 : (pk == 7) = false := by simp; omega
                have t8 : (pk == 8) = false := by simp; omega
                have t9 : (pk == 9) = false := by simp; omega
                have t10 : (pk == 10) = false := by simp; omega
                have tt : (pk == 11) = true := by simp; omega
                clear g11
                go_wp2_with fail
                refine (cnt_root HW.out X).mono ?_
                rintro e w7 ⟨rfl, h7, hb⟩
                rw [HX1.out] at h7
                rw [HSL.out, HCS.out] at h7
                have H7 := Lib.hid (show Cnt w7 b p f (kk + 1) ((kk + 1) * CS) from by
                  have e : (kk + 1) * CS = kk * CS + CS := by rw [Nat.succ_mul]
                  rw [e]; exact h7)
                have HB7 := Lib.hid (HBX.out.trans (hb.mono hbs))
                have HL7 := Lib.hid (show (f).v.length = n by exact HSL.out)
                clear h7 hb
                go_wp2
                go_roundg (M - (j + 1))
                case measure => omega
                case rel => exact ⟨j + 1, kk + 1, _, by go_num, by go_num, by omega, Lib.hid (by have := HKB.out; omega), HL7, H7, HB7⟩
              by_cases g12 : pk = 12
              · have t0 : (pk == 0) = false := by simp; omega
                have t1 : (pk == 1) = false := by simp; omega
                have t2 : (pk == 2) = false := by simp; omega
                have t3 : (pk == 3) = false := by simp; omega
                have t4 : (pk == 4) = false := by simp; omega
                have t5 : (pk == 5) = false := by simp; omega
                have t6 : (pk == 6) = false := by simp; omega
                have t7 : (pk == 7) = false := by simp; omega
                have t8 : (pk == 8) = false := by simp; omega
                have t9 : (pk == 9) = false := by simp; omega
                have t10 : (pk == 10) = false := by simp; omega
                have t11 : (pk == 11) = false := by simp; omega
                have tt : (pk == 12) = true := by simp; omega
                clear g12
                go_wp2_with fail
                refine (cnt_above HW.out X).mono ?_
                rintro e w7 ⟨rfl, h7, hb⟩
                rw [HX1.out] at h7
                rw [HSL.out, HCS.out] at h7
                have H7 := Lib.hid (show Cnt w7 b p f (kk + 1) ((kk + 1) * CS) from by
                  have e : (kk + 1) * CS = kk * CS + CS := by rw [Nat.succ_mul]
                  rw [e]; exact h7)
                have HB7 := Lib.hid (HBX.out.trans (hb.mono hbs))
                have HL7 := Lib.hid (show (f).v.length = n by exact HSL.out)
                clear h7 hb
                go_wp2
                go_roundg (M - (j + 1))
                case measure => omega
                case rel => exact ⟨j + 1, kk + 1, _, by go_num, by go_num, by omega, Lib.hid (by have := HKB.out; omega), HL7, H7, HB7⟩
              have t0 : (pk == 0) = false := by simp; omega
              have t1 : (pk == 1) = false := by simp; omega
              have t2 : (pk == 2) = false := by simp; omega
              have t3 : (pk == 3) = false := by simp; omega
              have t4 : (pk == 4) = false := by simp; omega
              have t5 : (pk == 5) = false := by simp; omega
              have t6 : (pk == 6) = false := by simp; omega
              have t7 : (pk == 7) = false := by simp; omega
              have t8 : (pk == 8) = false := by simp; omega
              have t9 : (pk == 9) = false := by simp; omega
              have t10 : (pk == 10) = false := by simp; omega
              have t11 : (pk == 11) = false := by simp; omega
              have t12 : (pk == 12) = false := by simp; omega
              go_wp2_with fail
              refine (cnt_value HW.out X).mono ?_
              rintro e w7 ⟨rfl, h7, hb⟩
              rw [HX1.out] at h7
              rw [HSL.out, HCS.out] at h7
              have H7 := Lib.hid (show Cnt w7 b p f (kk + 1) ((kk + 1) * CS) from by
                have e : (kk + 1) * CS = kk * CS + CS := by rw [Nat.succ_mul]
                rw [e]; exact h7)
              have HB7 := Lib.hid (HBX.out.trans (hb.mono hbs))
              have HL7 := Lib.hid (show (f).v.length = n by exact HSL.out)
              clear h7 hb
              go_wp2
              go_roundg (M - (j + 1))
              case measure => omega
              case rel => exact ⟨j + 1, kk + 1, _, by go_num, by go_num, by omega, Lib.hid (by have := HKB.out; omega), HL7, H7, HB7⟩
            · have ej : j = M := by omega
              subst j
              have HKT2 := Lib.hid (show kk ≤ 200 + (t + 1) * 40 by have := HKB.out; omega)
              go_wp2
              go_roundg (TT + 1 - (t + 1))
              case measure => omega
              case rel => exact ⟨t + 1, kk, f, by go_num, rfl, by omega, HKT2, HSL, HW, HBX⟩
        · have et : t = TT ∨ t = TT + 1 := by omega
          have hti : ¬ (t : Int) < (TT : Int) := by omega
          have hkk : kk ≤ 2000 := by have := HKT.out; have := Nat.mul_le_mul_right 40 (show t ≤ 16 by omega); omega
          have hle : kk * CS ≤ 400 * (2 + kk) * (2 + lg) * (2 + lg) := by
            have h1 : kk * CS ≤ (2 + kk) * (400 * ((2 + lg) * (2 + lg))) := Nat.mul_le_mul (by omega) HFC.out
            have e : 400 * (2 + kk) * (2 + lg) * (2 + lg) = (2 + kk) * (400 * ((2 + lg) * (2 + lg))) := by
              rw [Nat.mul_assoc, Nat.mul_comm 400 (2 + kk), Nat.mul_assoc]
            rw [e]; exact h1
          have hmul : 400 * (2 + kk) * (2 + lg) * (2 + lg) ≤ 400 * (2 + 2000) * (2 + 8) * (2 + 8) := Nat.mul_le_mul (Nat.mul_le_mul (Nat.mul_le_mul_left 400 (by omega)) (by omega)) (by omega)
          have hmul1 : 400 * (2 + kk) * (2 + lg) ≤ 400 * (2 + 2000) * (2 + 8) := Nat.mul_le_mul (Nat.mul_le_mul_left 400 (by omega)) (by omega)
          obtain ⟨QQ, hQQ⟩ : ∃ QQ : Int, 400 * (2 + (kk : Int)) * (2 + (lg : Int)) * (2 + (lg : Int)) = QQ := ⟨_, rfl⟩
          obtain ⟨Q1, hQ1⟩ : ∃ Q1 : Int, 400 * (2 + (kk : Int)) * (2 + (lg : Int)) = Q1 := ⟨_, rfl⟩
          have hQn : QQ = ((400 * (2 + kk) * (2 + lg) * (2 + lg) : Nat) : Int) := by rw [← hQQ]; simp
          have hQn1 : Q1 = ((400 * (2 + kk) * (2 + lg) : Nat) : Int) := by rw [← hQ1]; simp
          have hQQ1 : Q1 * (2 + (lg : Int)) = QQ := by rw [← hQ1]; exact hQQ
          have ST1 := Lib.hid (fun (w' : World) (h : Cnt w' b p f kk (kk * CS)) => show Calls Try.prog 31 #[.pointer (some ⟨p, 0, none⟩)] w' fun e w2 => ∃ c : Nat, e = .returned (.int .i64 (c : Int)) ∧ (kk : Int) ≤ (c : Int) ∧ (c : Int) ≤ QQ ∧ w' = w2 from by
            obtain ⟨F, h1, h2⟩ := h
            refine (fsteps_any h2 (Nat.le_trans hle (Nat.le_trans hmul (by decide)))).mono ?_
            rintro e w2 ⟨c, rfl, g1, g2, rfl⟩
            refine ⟨c, rfl, by omega, ?_, rfl⟩
            rw [hQn]
            exact Int.ofNat_le.2 (Nat.le_trans g2 hle))
          have hmw : IntKind.i64.wrap QQ = QQ := by
            rw [IntKind.wrap_i64]
            have : QQ ≤ ((400 * (2 + 2000) * (2 + 8) * (2 + 8) : Nat) : Int) := by rw [hQn]; exact Int.ofNat_le.2 hmul
            have h0 : 0 ≤ QQ := by rw [hQn]; exact Int.natCast_nonneg _
            omega
          have hmw0 : IntKind.i64.wrap Q1 = Q1 := by
            rw [IntKind.wrap_i64]
            have : Q1 ≤ ((400 * (2 + 2000) * (2 + 8) : Nat) : Int) := by rw [hQn1]; exact Int.ofNat_le.2 hmul1
            have h0 : 0 ≤ Q1 := by rw [hQn1]; exact Int.natCast_nonneg _
            omega
          have hmw1 : IntKind.i64.wrap (400 * (2 + (kk : Int))) = 400 * (2 + (kk : Int)) := by rw [IntKind.wrap_i64]; omega
          have hmw2 : IntKind.i64.wrap (2 + (lg : Int)) = 2 + (lg : Int) := by rw [IntKind.wrap_i64]; omega
          have hmw3 : IntKind.i64.wrap (2 + (kk : Int)) = 2 + (kk : Int) := by rw [IntKind.wrap_i64]; omega
          clear hle hmul hmul1 hQn hQn1 hQQ
          go_wp2_with fail
          refine (PT.out _).mono ?_
          rintro e w' ⟨rfl, rfl⟩
          go_wp2_with fail
          refine (LOG.out _).mono ?_
          rintro e w' ⟨rfl, rfl⟩
          go_wp2_with fail
          refine (ST1.out _ HW.out).mono ?_
          rintro e w' ⟨c1, rfl, d1, d2, rfl⟩
          have d1' : decide ((kk : Int) ≤ (c1 : Int)) = true := by simpa using d1
          clear d2
          go_wp2_with fail
          refine (ST1.out _ HW.out).mono ?_
          rintro e w' ⟨c2, rfl, d3, d4, rfl⟩
          have d4' : decide ((c2 : Int) ≤ QQ) = true := by simpa using d4
          clear d3
          go_wp2
          go_ret
          exact ⟨rfl, HBX.out⟩

end Go.Proofs.Ytjhodnpmogkmmaa.forestSteps
