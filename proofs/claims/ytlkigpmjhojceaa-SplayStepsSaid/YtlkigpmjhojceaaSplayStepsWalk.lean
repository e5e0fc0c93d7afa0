/- SplaySteps: for every input the law returns true and its arguments read as they did. No condition. -/
import Derived.Test.YtlkigpmjhojceaaSps
import Derived.Test.YtlkigpmjhojceaaSpl
import Derived.Test.YtlkigpmjhojceaaOpa
import Derived.Deep.LoopGhost
import Derived.Deep.DeepCutAuto
import Derived.Test.YtlkigpmjhojceaaRows
import Derived.WalkKit
import Derived.ProofKit
import Derived.OpenShut
import Derived.ShutString
import Derived.ChangeOld
import Derived.Below
import Derived.Deep.Strs
namespace Go.Proofs.Ytlkigpmjhojceaa.splaySteps
open Go.ChangeShapes Go.WideShapes Go.ChangeAt Go.RowKit
open Go.ChangeMaps (open_string shut_string)
set_option linter.unusedVariables false
set_option linter.unusedSimpArgs false

theorem own : ownKnob Try.prog.godebug = none := by kernel_rfl
theorem laidOut : laidOutB Try.prog = true := by kernel_rfl

open Sp
theorem it_one {s : St} (h : Sp.Good s) {x : Int} (h0 : 0 ≤ x) (hx : x < (s.v.length : Int)) : it s x = 1 := by
  unfold it
  rw [if_neg fun e => by have := (rowZ_nil h).1 e; omega]
theorem joinS_len (s : St) (a b : Int) : (joinS s a b).v = s.v := by unfold joinS; split <;> rfl
theorem addS_len' (s : St) (x d : Int) : (addS s x d).v.length = s.v.length := by
  unfold addS; split
  · exact addL_len _ _ _
  · rfl
theorem log_small (n : Nat) (h : n ≤ 300) : ∃ k : Nat, Num.logF (n : Int) = (k : Int) ∧ k ≤ 63 := by
  by_cases c : (n : Int) < 2
  · exact ⟨0, Num.logF_lo c, by omega⟩
  · obtain ⟨k, h1, _, h2, _⟩ := Num.logF_spec (n : Int) (by omega) (by omega)
    exact ⟨k, h1, h2⟩

set_option maxRecDepth 100000 in
set_option maxHeartbeats 4000000 in
theorem walk (a0 : Int) (a1 : List Sp.Act) (o1 : Option Addr) (c1 : Nat) (a2 : Int) (w : World) (w0 : (Lit.int .i64 a0).wf = true) (k1 : ∀ a ∈ a1, Sp.Act.ok a) (z1 : a1.length ≤ c1) (y1 : c1 ≤ maxLen) (n1 : o1 = none → c1 = 0) (r1 : Sp.TRow w o1 a1) (w2 : (Lit.int .i64 a2).wf = true) :
    Calls Try.prog 4 #[.int .i64 a0, .slice o1 a1.length c1, .int .i64 a2] w fun e w' => e = .returned (.bool true) ∧ Below w.heap.size w w' := by
  have HSH := Lib.hid (shown_any w)
  obtain ⟨M, hM⟩ : ∃ M, M = a1.length := ⟨_, rfl⟩
  rw [← hM] at z1 ⊢
  have HLL := Lib.hid hM
  have hm64 : M ≤ 9223372036854775807 := by unfold maxLen at y1; omega
  have KA := Lib.hid k1
  have TR := Lib.hid r1
  clear hM z1 y1 n1 k1 r1
  have b0 := bounds_i64 w0
  have b2 := bounds_i64 w2
  clear w0 w2
  by_cases g1 : 60 < M
  · have g1' : (60 : Int) < (M : Int) := by omega
    go_enter Try.func4, Try.ntmps4
    go_wp2_with fail
    refine HSH.out.mono ?_
    rintro e w1 ⟨rfl, hb⟩
    have HB1 := Lib.hid hb
    clear hb
    go_wp2
    go_ret
    exact ⟨rfl, HB1.out⟩
  have g1' : ¬ (60 : Int) < (M : Int) := by omega
  have hm2 : M ≤ 60 := by omega
  clear g1
  have bp0 := Ne.pickN_bd (c := a0) (n := 300) (by omega)
  have PA := Lib.hid fun w' => Ne.pick_any a0 300 w' b0.1 b0.2 (by omega) (by omega)
  generalize Ne.pickN a0 300 = z at *
  obtain ⟨n, hn⟩ : ∃ n : Nat, 1 + z = (n : Int) := ⟨(1 + z).toNat, by omega⟩
  have hn1 : 1 ≤ n := by omega
  have hn300 : n ≤ 300 := by omega
  have bp2 := Ne.pickN_bd (c := a2) (n := 20) (by omega)
  have PT := Lib.hid fun w' => Ne.pick_any a2 20 w' b2.1 b2.2 (by omega) (by omega)
  generalize Ne.pickN a2 20 = y at *
  obtain ⟨TT, hT⟩ : ∃ TT : Nat, 1 + y = (TT : Int) := ⟨(1 + y).toNat, by omega⟩
  have hT20 : TT ≤ 20 := by omega
  have hz0 : 0 ≤ z := bp0.1
  have hz1 : z < 300 := bp0.2
  have hy0 : 0 ≤ y := bp2.1
  have hy1 : y < 20 := bp2.2
  clear b0 b2 bp0 bp2
  obtain ⟨lg, hlg, hlg63⟩ := log_small n hn300
  have LOG := Lib.hid (fun w' => Num.log_any (n : Int) w' (by omega) (by omega))
  rw [hlg] at LOG
  have hcst : cst n = 100 * (2 + lg) := by unfold cst; rw [hlg]; simp
  obtain ⟨v, hv⟩ : ∃ v : List Int, v = List.replicate n 0 := ⟨_, rfl⟩
  have hvl : v.length = n := by rw [hv]; simp
  have hne : newE v = 0 := by
    unfold newE
    rw [if_neg (by omega), if_pos]
    intro i hi
    rw [hv]
    simp only [Ne.amt, List.getD_eq_getElem?_getD]
    rw [List.getElem?_replicate]
    split <;> simp [big]
  have HLB := Lib.hid (show ∀ (w' : World), Ne.IRow (w'.alloc (.cells (madeCells #[.int .i64 0] n) 2)) (some ⟨w'.heap.size, 0, none⟩) v from fun w' => by rw [hv]; exact (Ne.lbox_made w' n rfl).irow)
  have NW := Lib.hid (fun (w' : World) => dnew_any (some ⟨w'.heap.size, 0, none⟩) n v (w'.alloc (.cells (madeCells #[.int .i64 0] n) 2)) (HLB.out w') (fun h => by cases h))
  have hs0 := stC_new (v := v) (by omega)
  rw [hne, hvl, hs0] at NW
  have HJ := Lib.hid (fun (i : Nat) (h1 : 1 ≤ i) (h2 : i < n) => stC_join (v := v) (k := i) (a := 0) (by omega) (by omega) (by omega))
  have HSV := Lib.hid (show ∀ i, (stC v i).v.length = n from fun i => hvl)
  have HCST := Lib.hid hcst
  generalize hcs : cst n = CS at *
  have HCS := Lib.hid hcs
  clear hcs
  clear hv hs0 hne hcst hlg HLB hvl
  generalize hst : stC v = ST at *
  have hmk := Ne.make_l n (by omega)
  clear hst
  go_enter Try.func4, Try.ntmps4
  go_wp2_with fail
  refine HSH.out.mono ?_
  rintro e w1 ⟨rfl, hb⟩
  have HB1 := Lib.hid hb
  clear hb HSH
  go_wp2_with fail
  refine (PA.out _).mono ?_
  rintro e w' ⟨rfl, rfl⟩
  go_wp2_with fail
  refine (NW.out w1).mono ?_
  rintro e w2 ⟨hb, pv, rfl, _, h0⟩
  obtain ⟨p, rfl, h9⟩ := h0 (by trivial)
  have HB2a := Lib.hid (HB1.out.alloc HB1.out.size (.cells (madeCells #[.int .i64 0] n) 2))
  have HB2 := Lib.hid (HB2a.out.trans (hb.mono HB2a.out.size))
  have hbs : w.heap.size ≤ (w1.alloc (.cells (madeCells #[.int .i64 0] n) 2)).heap.size := HB2a.out.size
  have hbs2 := hb.size
  have H2 := Lib.hid (show Cnt w2 (w1.alloc (.cells (madeCells #[.int .i64 0] n) 2)).heap.size p (ST 1) 0 (2 * CS) from ⟨_, hbs2, h9⟩)
  clear hb h0 h9 HB2a hbs2
  generalize (w1.alloc (.cells (madeCells #[.int .i64 0] n) 2)).heap.size = b at *
  clear NW hmk PA HB1
  go_wp2
  go_loopg [11, 12] (n - 1) (fun gg sk si wr => ∃ i : Nat, si = .int .i64 i ∧ sk = .int .i64 ((i : Int) - 1) ∧ 1 ≤ i ∧ i + gg = n ∧ Hid (Cnt wr b p (ST i) (i - 1) ((2 + (i - 1)) * CS)) ∧ Hid (Below w.heap.size w wr))
  case atStart => exact ⟨1, rfl, by go_num, Nat.le_refl _, by omega, H2, HB2⟩
  case round =>
    obtain ⟨i, rfl, rfl, hi1, hig, HW, HBW⟩ := hrel
    by_cases hi : i < n
    · have hii : (i : Int) < (n : Int) := by omega
      obtain ⟨e1, e2⟩ := HJ.out i hi1 hi
      have HE2 := Lib.hid e2
      have HX1 := Lib.hid (it_one HW.out.good (x := 0) (by omega) (by rw [HSV.out]; omega))
      have HY1 := Lib.hid (it_one HW.out.good (x := (i : Int)) (by omega) (by rw [HSV.out]; omega))
      have hw1 : IntKind.i64.wrap (i : Int) = (i : Int) := by rw [IntKind.wrap_i64]; omega
      clear e1 e2
      go_wp2_with fail
      refine (cnt_join HW.out 0 (i : Int)).mono ?_
      rintro e w4 ⟨rfl, h4, hb⟩
      rw [HE2.out, HX1.out, HY1.out, HSV.out, HCS.out] at h4
      have H4 := Lib.hid (show Cnt w4 b p (ST (i + 1)) (i + 1 - 1) ((2 + (i + 1 - 1)) * CS) from by
        have e : (2 + (i + 1 - 1)) * CS = (2 + (i - 1)) * CS + CS := by rw [← Nat.succ_mul]; congr 1; omega
        have e2 : i + 1 - 1 = i - 1 + 1 * 1 := by omega
        rw [e, e2]; exact h4)
      have HB4 := Lib.hid (HBW.out.trans (hb.mono hbs))
      clear h4 hb
      go_wp2
      go_roundg (n - (i + 1))
      case measure => omega
      case rel => exact ⟨i + 1, by go_num, by go_num, by omega, by omega, H4, HB4⟩
    · have ei : i = n := by omega
      subst i
      obtain ⟨k0, hk0⟩ : ∃ k0 : Nat, (n : Int) - 1 = (k0 : Int) := ⟨n - 1, by omega⟩
      have hk00 : n - 1 = k0 := by omega
      have HS0 := Lib.hid (HSV.out n)
      have HW0 := Lib.hid (show Cnt wr b p (ST n) k0 ((2 + k0) * CS) from by rw [← hk00]; exact HW.out)
      have hk0n : k0 ≤ 300 := by omega
      rw [hk0]
      clear hig HJ HSV HW hk0 hk00 hi H2 HB2
      generalize ST n = s0 at *
      go_wp2
      go_loopg [11, 13] (TT + 1) (fun gg sk st wz => ∃ (t kk : Nat) (s : St), st = .int .i64 t ∧ sk = .int .i64 kk ∧ t + gg = TT + 1 ∧ Hid (kk ≤ 300 + t * 60) ∧ Hid (s.v.length = n) ∧ Hid (Cnt wz b p s kk ((2 + kk) * CS)) ∧ Hid (Below w.heap.size w wz))
      case atStart => exact ⟨0, k0, s0, rfl, rfl, by omega, Lib.hid (by omega), HS0, HW0, HBW⟩
      case round =>
        obtain ⟨t, kk, s, rfl, rfl, htg, HKT, HSL, HW, HBX⟩ := hrel
        by_cases ht : t < TT
        · have hti : (t : Int) < (TT : Int) := by omega
          go_wp2_with fail
          refine (PT.out _).mono ?_
          rintro e w' ⟨rfl, rfl⟩
          go_wp2
          go_loopg [11, 14] M (fun gg sk sj wz => ∃ (j kk : Nat) (s : St), sj = .int .i64 j ∧ sk = .int .i64 kk ∧ j + gg = M ∧ Hid (kk ≤ 300 + t * 60 + j) ∧ Hid (s.v.length = n) ∧ Hid (Cnt wz b p s kk ((2 + kk) * CS)) ∧ Hid (Below w.heap.size w wz))
          case atStart => exact ⟨0, kk, s, rfl, rfl, by omega, Lib.hid (by have := HKT.out; omega), HSL, HW, HBX⟩
          case round =>
            obtain ⟨j, kk, s, rfl, rfl, hjg, HKB, HSL, HW, HBX⟩ := hrel
            by_cases hj : j < M
            · have hji : (j : Int) < (M : Int) := by omega
              have hj0 : (0 : Int) ≤ (j : Int) := by omega
              have hkk : (kk : Int) ≤ 2000 := by have := HKB.out; have := Nat.mul_le_mul_right 60 (show t ≤ 20 by omega); omega
              obtain ⟨bt, ot, rfl, hbt, t0, t1, t2, t3⟩ := trow_cell (show TRow wr o1 a1 from TR.out.kept HBX.out) (i := j) (by rw [← HLL.out]; exact hj)
              have hak := KA.out (actAt a1 j) (List.mem_of_getElem? (at_act (l := a1) (i := j) (by rw [← HLL.out]; exact hj)))
              obtain ⟨q0, q1, q2, _⟩ := hak
              unfold Ne.in64 at q0 q1 q2
              have bpx := Ne.pickN_bd (c := (actAt a1 j).x) (n := (n : Int)) (by omega)
              have PX := Lib.hid fun w' => Ne.pick_any (actAt a1 j).x (n : Int) w' q1.1 q1.2 (by omega) (by omega)
              have bpy := Ne.pickN_bd (c := (actAt a1 j).y) (n := (n : Int)) (by omega)
              have PY := Lib.hid fun w' => Ne.pick_any (actAt a1 j).y (n : Int) w' q2.1 q2.2 (by omega) (by omega)
              have bpo := Ne.pickN_bd (c := (actAt a1 j).op) (n := 14) (by omega)
              have PO := Lib.hid fun w' => Ne.pick_any (actAt a1 j).op 14 w' q0.1 q0.2 (by omega) (by omega)
              generalize Ne.pickN (actAt a1 j).x (n : Int) = X at *
              generalize Ne.pickN (actAt a1 j).y (n : Int) = Y at *
              generalize Ne.pickN (actAt a1 j).op 14 = pk at *
              generalize (actAt a1 j).op = aop at *
              generalize (actAt a1 j).x = ax at *
              generalize (actAt a1 j).y = ay at *
              have HX1 := Lib.hid (it_one HW.out.good (x := X) bpx.1 (by rw [HSL.out]; exact bpx.2))
              have HY1 := Lib.hid (it_one HW.out.good (x := Y) bpy.1 (by rw [HSL.out]; exact bpy.2))
              have hp0 := bpo.1
              have hp1 := bpo.2
              have hkw : IntKind.i64.wrap ((kk : Int) + 1) = (kk : Int) + 1 := by rw [IntKind.wrap_i64]; omega
              clear bpx bpy bpo q0 q1 q2
              go_wp2_with fail
              refine (PX.out _).mono ?_
              rintro e w' ⟨rfl, rfl⟩
              go_wp2_with fail
              refine (PY.out _).mono ?_
              rintro e w' ⟨rfl, rfl⟩
              go_wp2_with fail
              refine (PO.out _).mono ?_
              rintro e w' ⟨rfl, rfl⟩
              clear t0 t1 t2 t3
              by_cases g0 : pk = 0
              · have tt : (pk == 0) = true := by simp; omega
                clear g0
                go_wp2_with fail
                refine (cnt_join HW.out X Y).mono ?_
                rintro e w7 ⟨rfl, h7, hb⟩
                rw [HX1.out, HY1.out] at h7
                rw [HSL.out, HCS.out] at h7
                have H7 := Lib.hid (show Cnt w7 b p (joinS s X Y) (kk + 1) ((2 + (kk + 1)) * CS) from by
                  have e : (2 + (kk + 1)) * CS = (2 + kk) * CS + CS := by rw [← Nat.add_assoc, Nat.succ_mul]
                  rw [e]; exact h7)
                have HB7 := Lib.hid (HBX.out.trans (hb.mono hbs))
                have HL7 := Lib.hid (show ((joinS s X Y)).v.length = n by rw [joinS_len]; exact HSL.out)
                clear h7 hb
                go_wp2
                go_roundg (M - (j + 1))
                case measure => omega
                case rel => exact ⟨j + 1, kk + 1, _, by go_num, by go_num, by omega, Lib.hid (by have := HKB.out; omega), HL7, H7, HB7⟩
              by_cases g1 : pk = 1
              · have t0 : (pk == 0) = false := by simp; omega
                have tt : (pk == 1) = true := by simp; omega
                clear g1
                go_wp2_with fail
                refine (cnt_join HW.out X Y).mono ?_
                rintro e w7 ⟨rfl, h7, hb⟩
                rw [HX1.out, HY1.out] at h7
                rw [HSL.out, HCS.out] at h7
                have H7 := Lib.hid (show Cnt w7 b p (joinS s X Y) (kk + 1) ((2 + (kk + 1)) * CS) from by
                  have e : (2 + (kk + 1)) * CS = (2 + kk) * CS + CS := by rw [← Nat.add_assoc, Nat.succ_mul]
                  rw [e]; exact h7)
                have HB7 := Lib.hid (HBX.out.trans (hb.mono hbs))
                have HL7 := Lib.hid (show ((joinS s X Y)).v.length = n by rw [joinS_len]; exact HSL.out)
                clear h7 hb
                go_wp2
                go_roundg (M - (j + 1))
                case measure => omega
                case rel => exact ⟨j + 1, kk + 1, _, by go_num, by go_num, by omega, Lib.hid (by have := HKB.out; omega), HL7, H7, HB7⟩
              by_cases g2 : pk = 2
              · have t0 : (pk == 0) = false := by simp; omega
                have t1 : (pk == 1) = false := by simp; omega
                have tt : (pk == 2) = true := by simp; omega
                clear g2
                go_wp2_with fail
                refine (cnt_join HW.out X Y).mono ?_
                rintro e w7 ⟨rfl, h7, hb⟩
                rw [HX1.out, HY1.out] at h7
                rw [HSL.out, HCS.out] at h7
                have H7 := Lib.hid (show Cnt w7 b p (joinS s X Y) (kk + 1) ((2 + (kk + 1)) * CS) from by
                  have e : (2 + (kk + 1)) * CS = (2 + kk) * CS + CS := by rw [← Nat.add_assoc, Nat.succ_mul]
                  rw [e]; exact h7)
                have HB7 := Lib.hid (HBX.out.trans (hb.mono hbs))
                have HL7 := Lib.hid (show ((joinS s X Y)).v.length = n by rw [joinS_len]; exact HSL.out)
                clear h7 hb
                go_wp2
                go_roundg (M - (j + 1))
                case measure => omega
                case rel => exact ⟨j + 1, kk + 1, _, by go_num, by go_num, by omega, Lib.hid (by have := HKB.out; omega), HL7, H7, HB7⟩
              by_cases g3 : pk = 3
              · have t0 : (pk == 0) = false := by simp; omega
                have t1 : (pk == 1) = false := by simp; omega
                have t2 : (pk == 2) = false := by simp; omega
                have tt : (pk == 3) = true := by simp; omega
                clear g3
                go_wp2_with fail
                refine (cnt_join HW.out X Y).mono ?_
                rintro e w7 ⟨rfl, h7, hb⟩
                rw [HX1.out, HY1.out] at h7
                rw [HSL.out, HCS.out] at h7
                have H7 := Lib.hid (show Cnt w7 b p (joinS s X Y) (kk + 1) ((2 + (kk + 1)) * CS) from by
                  have e : (2 + (kk + 1)) * CS = (2 + kk) * CS + CS := by rw [← Nat.add_assoc, Nat.succ_mul]
                  rw [e]; exact h7)
                have HB7 := Lib.hid (HBX.out.trans (hb.mono hbs))
                have HL7 := Lib.hid (show ((joinS s X Y)).v.length = n by rw [joinS_len]; exact HSL.out)
                clear h7 hb
                go_wp2
                go_roundg (M - (j + 1))
                case measure => omega
                case rel => exact ⟨j + 1, kk + 1, _, by go_num, by go_num, by omega, Lib.hid (by have := HKB.out; omega), HL7, H7, HB7⟩
              by_cases g4 : pk = 4
              · have t0 : (pk == 0) = false := by simp; omega
                have t1 : (pk == 1) = false := by simp; omega
                have t2 : (pk == 2) = false := by simp; omega
                have t3 : (pk == 3) = false := by simp; omega
                have tt : (pk == 4) = true := by simp; omega
                clear g4
                go_wp2_with fail
                refine (cnt_split HW.out X).mono ?_
                rintro e w7 ⟨rfl, h7, hb⟩
                rw [HX1.out] at h7
                rw [HSL.out, HCS.out] at h7
                have H7 := Lib.hid (show Cnt w7 b p (splitS s X) (kk + 1) ((2 + (kk + 1)) * CS) from by
                  have e : (2 + (kk + 1)) * CS = (2 + kk) * CS + CS := by rw [← Nat.add_assoc, Nat.succ_mul]
                  rw [e]; exact h7)
                have HB7 := Lib.hid (HBX.out.trans (hb.mono hbs))
                have HL7 := Lib.hid (show ((splitS s X)).v.length = n by exact HSL.out)
                clear h7 hb
                go_wp2
                go_roundg (M - (j + 1))
                case measure => omega
                case rel => exact ⟨j + 1, kk + 1, _, by go_num, by go_num, by omega, Lib.hid (by have := HKB.out; omega), HL7, H7, HB7⟩
              by_cases g5 : pk = 5
              · have t0 : (pk == 0) = false := by simp; omega
                have t1 : (pk == 1) = false := by simp; omega
                have t2 : (pk == 2) = false := by simp; omega
                have t3 : (pk == 3) = false := by simp; omega
                have t4 : (pk == 4) = false := by simp; omega
                have tt : (pk == 5) = true := by simp; omega
                clear g5
                go_wp2_with fail
                refine (cnt_split HW.out X).mono ?_
                rintro e w7 ⟨rfl, h7, hb⟩
                rw [HX1.out] at h7
                rw [HSL.out, HCS.out] at h7
                have H7 := Lib.hid (show Cnt w7 b p (splitS s X) (kk + 1) ((2 + (kk + 1)) * CS) from by
                  have e : (2 + (kk + 1)) * CS = (2 + kk) * CS + CS := by rw [← Nat.add_assoc, Nat.succ_mul]
                  rw [e]; exact h7)
                have HB7 := Lib.hid (HBX.out.trans (hb.mono hbs))
                have HL7 := Lib.hid (show ((splitS s X)).v.length = n by exact HSL.out)
                clear h7 hb
                go_wp2
                go_roundg (M - (j + 1))
                case measure => omega
                case rel => exact ⟨j + 1, kk + 1, _, by go_num, by go_num, by omega, Lib.hid (by have := HKB.out; omega), HL7, H7, HB7⟩
              by_cases g6 : pk = 6
              · have t0 : (pk == 0) = false := by simp; omega
                have t1 : (pk == 1) = false := by simp; omega
                have t2 : (pk == 2) = false := by simp; omega
                have t3 : (pk == 3) = false := by simp; omega
                have t4 : (pk == 4) = false := by simp; omega
                have t5 : (pk == 5) = false := by simp; omega
                have tt : (pk == 6) = true := by simp; omega
                clear g6
                go_wp2_with fail
                refine (cnt_turn HW.out X).mono ?_
                rintro e w7 ⟨rfl, h7, hb⟩
                rw [HX1.out] at h7
                rw [HSL.out, HCS.out] at h7
                have H7 := Lib.hid (show Cnt w7 b p (turnS s X) (kk + 1) ((2 + (kk + 1)) * CS) from by
                  have e : (2 + (kk + 1)) * CS = (2 + kk) * CS + CS := by rw [← Nat.add_assoc, Nat.succ_mul]
                  rw [e]; exact h7)
                have HB7 := Lib.hid (HBX.out.trans (hb.mono hbs))
                have HL7 := Lib.hid (show ((turnS s X)).v.length = n by exact HSL.out)
                clear h7 hb
                go_wp2
                go_roundg (M - (j + 1))
                case measure => omega
                case rel => exact ⟨j + 1, kk + 1, _, by go_num, by go_num, by omega, Lib.hid (by have := HKB.out; omega), HL7, H7, HB7⟩
              by_cases g7 : pk = 7
              · have t0 : (pk == 0) = false := by simp; omega
                have t1 : (pk == 1) = false := by simp; omega
                have t2 : (pk == 2) = false := by simp; omega
                have t3 : (pk == 3) = false := by simp; omega
                have t4 : (pk == 4) = false := by simp; omega
                have t5 : (pk == 5) = false := by simp; omega
                have t6 : (pk == 6) = false := by simp; omega
                have tt : (pk == 7) = true := by simp; omega
                clear g7
                go_wp2_with fail
                refine (cnt_turn HW.out X).mono ?_
                rintro e w7 ⟨rfl, h7, hb⟩
                rw [HX1.out] at h7
                rw [HSL.out, HCS.out] at h7
                have H7 := Lib.hid (show Cnt w7 b p (turnS s X) (kk + 1) ((2 + (kk + 1)) * CS) from by
                  have e : (2 + (kk + 1)) * CS = (2 + kk) * CS + CS := by rw [← Nat.add_assoc, Nat.succ_mul]
                  rw [e]; exact h7)
                have HB7 := Lib.hid (HBX.out.trans (hb.mono hbs))
                have HL7 := Lib.hid (show ((turnS s X)).v.length = n by exact HSL.out)
                clear h7 hb
                go_wp2
                go_roundg (M - (j + 1))
                case measure => omega
                case rel => exact ⟨j + 1, kk + 1, _, by go_num, by go_num, by omega, Lib.hid (by have := HKB.out; omega), HL7, H7, HB7⟩
              by_cases g8 : pk = 8
              · have t0 : (pk == 0) = false := by simp; omega
                have t1 : (pk == 1) = false := by simp; omega
                have t2 : (pk == 2) = false := by simp; omega
                have t3 : (pk == 3) = false := by simp; omega
                have t4 : (pk == 4) = false := by simp; omega
                have t5 : (pk == 5) = false := by simp; omega
                have t6 : (pk == 6) = false := by simp; omega
                have t7 : (pk == 7) = false := by simp; omega
                have tt : (pk == 8) = true := by simp; omega
                clear g8
                go_wp2_with fail
                refine (cnt_add HW.out X 1 (by omega)).mono ?_
                rintro e w7 ⟨rfl, h7, hb⟩
                rw [HX1.out] at h7
                rw [HSL.out, HCS.out] at h7
                have H7 := Lib.hid (show Cnt w7 b p (addS s X 1) (kk + 1) ((2 + (kk + 1)) * CS) from by
                  have e : (2 + (kk + 1)) * CS = (2 + kk) * CS + CS := by rw [← Nat.add_assoc, Nat.succ_mul]
                  rw [e]; exact h7)
                have HB7 := Lib.hid (HBX.out.trans (hb.mono hbs))
                have HL7 := Lib.hid (show ((addS s X 1)).v.length = n by rw [addS_len']; exact HSL.out)
                clear h7 hb
                go_wp2
                go_roundg (M - (j + 1))
                case measure => omega
                case rel => exact ⟨j + 1, kk + 1, _, by go_num, by go_num, by omega, Lib.hid (by have := HKB.out; omega), HL7, H7, HB7⟩
              by_cases g9 : pk = 9
              · have t0 : (pk == 0) = false := by simp; omega
                have t1 : (pk == 1) = false := by simp; omega
                have t2 : (pk == 2) = false := by simp; omega
                have t3 : (pk == 3) = false := by simp; omega
                have t4 : (pk == 4) = false := by simp; omega
                have t5 : (pk == 5) = false := by simp; omega
                have t6 : (pk == 6) = false := by simp; omega
                have t7 : (pk == 7) = false := by simp; omega
                have t8 : (pk == 8) = false := by simp; omega
                have tt : (pk == 9) = true := by simp; omega
                clear g9
                go_wp2_with fail
                refine (cnt_add HW.out X 1 (by omega)).mono ?_
                rintro e w7 ⟨rfl, h7, hb⟩
                rw [HX1.out] at h7
                rw [HSL.out, HCS.out] at h7
                have H7 := Lib.hid (show Cnt w7 b p (addS s X 1) (kk + 1) ((2 + (kk + 1)) * CS) from by
                  have e : (2 + (kk + 1)) * CS = (2 + kk) * CS + CS := by rw [← Nat.add_assoc, Nat.succ_mul]
                  rw [e]; exact h7)
                have HB7 := Lib.hid (HBX.out.trans (hb.mono hbs))
                have HL7 := Lib.hid (show ((addS s X 1)).v.length = n by rw [addS_len']; exact HSL.out)
                clear h7 hb
                go_wp2
                go_roundg (M - (j + 1))
                case measure => omega
                case rel => exact ⟨j + 1, kk + 1, _, by go_num, by go_num, by omega, Lib.hid (by have := HKB.out; omega), HL7, H7, HB7⟩
              by_cases g10 : pk = 10
              · have t0 : (pk == 0) = false := by simp; omega
                have t1 : (pk == 1) = false := by simp; omega
                have t2 : (pk == 2) = false := by simp; omega
                have t3 : (pk == 3) = false := by simp; omega
                have t4 : (pk == 4) = false := by simp; omega
                have t5 : (pk == 5) = false := by simp; omega
                have t6 : (pk == 6) = false := by simp; omega
                have t7 : (pk == 7) = false := by simp; omega
                have t8 : (pk == 8) = false := by simp; omega
                have t9 : (pk == 9) = false := by simp; omega
                have tt : (pk == 10) = true := by simp; omega
                clear g10
                go_wp2_with fail
                refine (cnt_least HW.out X).mono ?_
                rintro e w7 ⟨rfl, h7, hb⟩
                rw [HX1.out] at h7
                rw [HSL.out, HCS.out] at h7
                have H7 := Lib.hid (show Cnt w7 b p s (kk + 1) ((2 + (kk + 1)) * CS) from by
                  have e : (2 + (kk + 1)) * CS = (2 + kk) * CS + CS := by rw [← Nat.add_assoc, Nat.succ_mul]
                  rw [e]; exact h7)
                have HB7 := Lib.hid (HBX.out.trans (hb.mono hbs))
                have HL7 := Lib.hid (show (s).v.length = n by exact HSL.out)
                clear h7 hb
                go_wp2
                go_roundg (M - (j + 1))
                case measure => omega
                case rel => exact ⟨j + 1, kk + 1, _, by go_num, by go_num, by omega, Lib.hid (by have := HKB.out; omega), HL7, H7, HB7⟩
              by_cases g11 : pk = 11
              · have t0 : (pk == 0) = false := by simp; omega
                have t1 : (pk == 1) = false := by simp; omega
                have t2 : (pk == 2) = false := by simp; omega
                have t3 : (pk == 3) = false := by simp; omega
                have t4 : (pk == 4) = false := by simp; omega
                have t5 : (pk == 5) = false := by simp; omega
                have t6 : (pk == 6) = false := by simp; omega
                have t7 : (pk == 7) = false := by simp; omega
                have t8 : (pk == 8) = false := by simp; omega
                have t9 : (pk == 9) = false := by simp; omega
                have t10 : (pk == 10) = false := by simp; omega
                have tt : (pk == 11) = true := by simp; omega
                clear g11
                go_wp2_with fail
                refine (cnt_last HW.out X).mono ?_
                rintro e w7 ⟨rfl, h7, hb⟩
                rw [HX1.out] at h7
                rw [HSL.out, HCS.out] at h7
                have H7 := Lib.hid (show Cnt w7 b p s (kk + 1) ((2 + (kk + 1)) * CS) from by
                  have e : (2 + (kk + 1)) * CS = (2 + kk) * CS + CS := by rw [← Nat.add_assoc, Nat.succ_mul]
                  rw [e]; exact h7)
                have HB7 := Lib.hid (HBX.out.trans (hb.mono hbs))
                have HL7 := Lib.hid (show (s).v.length = n by exact HSL.out)
                clear h7 hb
                go_wp2
                go_roundg (M - (j + 1))
                case measure => omega
                case rel => exact ⟨j + 1, kk + 1, _, by go_num, by go_num, by omega, Lib.hid (by have := HKB.out; omega), HL7, H7, HB7⟩
              by_cases g12 : pk = 12
              · have t0 : (pk == 0) = false := by simp; omega
                have t1 : (pk == 1) = false := by simp; omega
                have t2 : (pk == 2) = false := by simp; omega
                have t3 : (pk == 3) = false := by simp; omega
                have t4 : (pk == 4) = false := by simp; omega
                have t5 : (pk == 5) = false := by simp; omega
                have t6 : (pk == 6) = false := by simp; omega
                have t7 : (pk == 7) = false := by simp; omega
                have t8 : (pk == 8) = false := by simp; omega
                have t9 : (pk == 9) = false := by simp; omega
                have t10 : (pk == 10) = false := by simp; omega
                have t11 : (pk == 11) = false := by simp; omega
                have tt : (pk == 12) = true := by simp; omega
                clear g12
                go_wp2_with fail
                refine (cnt_at HW.out X Y).mono ?_
                rintro e w7 ⟨rfl, h7, hb⟩
                rw [HX1.out] at h7
                rw [HSL.out, HCS.out] at h7
                have H7 := Lib.hid (show Cnt w7 b p s (kk + 1) ((2 + (kk + 1)) * CS) from by
                  have e : (2 + (kk + 1)) * CS = (2 + kk) * CS + CS := by rw [← Nat.add_assoc, Nat.succ_mul]
                  rw [e]; exact h7)
                have HB7 := Lib.hid (HBX.out.trans (hb.mono hbs))
                have HL7 := Lib.hid (show (s).v.length = n by exact HSL.out)
                clear h7 hb
                go_wp2
                go_roundg (M - (j + 1))
                case measure => omega
                case rel => exact ⟨j + 1, kk + 1, _, by go_num, by go_num, by omega, Lib.hid (by have := HKB.out; omega), HL7, H7, HB7⟩
              have t0 : (pk == 0) = false := by simp; omega
              have t1 : (pk == 1) = false := by simp; omega
              have t2 : (pk == 2) = false := by simp; omega
              have t3 : (pk == 3) = false := by simp; omega
              have t4 : (pk == 4) = false := by simp; omega
              have t5 : (pk == 5) = false := by simp; omega
              have t6 : (pk == 6) = false := by simp; omega
              have t7 : (pk == 7) = false := by simp; omega
              have t8 : (pk == 8) = false := by simp; omega
              have t9 : (pk == 9) = false := by simp; omega
              have t10 : (pk == 10) = false := by simp; omega
              have t11 : (pk == 11) = false := by simp; omega
              have t12 : (pk == 12) = false := by simp; omega
              go_wp2_with fail
              refine (cnt_value HW.out X).mono ?_
              rintro e w7 ⟨rfl, h7, hb⟩
              rw [HX1.out] at h7
              rw [HSL.out, HCS.out] at h7
              have H7 := Lib.hid (show Cnt w7 b p s (kk + 1) ((2 + (kk + 1)) * CS) from by
                have e : (2 + (kk + 1)) * CS = (2 + kk) * CS + CS := by rw [← Nat.add_assoc, Nat.succ_mul]
                rw [e]; exact h7)
              have HB7 := Lib.hid (HBX.out.trans (hb.mono hbs))
              have HL7 := Lib.hid (show (s).v.length = n by exact HSL.out)
              clear h7 hb
              go_wp2
              go_roundg (M - (j + 1))
              case measure => omega
              case rel => exact ⟨j + 1, kk + 1, _, by go_num, by go_num, by omega, Lib.hid (by have := HKB.out; omega), HL7, H7, HB7⟩
            · have ej : j = M := by omega
              subst j
              have HKT2 := Lib.hid (show kk ≤ 300 + (t + 1) * 60 by have := HKB.out; omega)
              go_wp2
              go_roundg (TT + 1 - (t + 1))
              case measure => omega
              case rel => exact ⟨t + 1, kk, s, by go_num, rfl, by omega, HKT2, HSL, HW, HBX⟩
        · have et : t = TT ∨ t = TT + 1 := by omega
          have hti : ¬ (t : Int) < (TT : Int) := by omega
          have hkk : kk ≤ 2000 := by have := HKT.out; have := Nat.mul_le_mul_right 60 (show t ≤ 21 by omega); omega
          have hexp : (2 + kk) * CS = 100 * (2 + kk) * (2 + lg) := by rw [HCST.out, ← Nat.mul_assoc, Nat.mul_comm (2 + kk) 100]
          have hmul0 : 100 * (2 + kk) * (2 + lg) ≤ 100 * (2 + 2000) * (2 + 63) := Nat.mul_le_mul (Nat.mul_le_mul_left 100 (by omega)) (by omega)
          have ST1 := Lib.hid (fun (w' : World) (h : Cnt w' b p s kk ((2 + kk) * CS)) => show Calls Try.prog 34 #[.pointer (some ⟨p, 0, none⟩)] w' fun e w2 => ∃ c : Nat, e = .returned (.int .i64 (c : Int)) ∧ (kk : Int) ≤ (c : Int) ∧ (c : Int) ≤ 100 * (2 + (kk : Int)) * (2 + (lg : Int)) ∧ w' = w2 from by
            obtain ⟨F, h1, h2⟩ := h
            refine (dsteps_any h2 (by rw [hexp]; exact Nat.le_trans hmul0 (by decide))).mono ?_
            rintro e w2 ⟨c, rfl, g1, g2, rfl⟩
            refine ⟨c, rfl, by omega, ?_, rfl⟩
            rw [hexp] at g2
            have := Int.ofNat_le.2 g2
            simpa using this)
          have hmul : 100 * (2 + kk) * (2 + lg) ≤ 100 * (2 + 2000) * (2 + 63) := Nat.mul_le_mul (Nat.mul_le_mul_left 100 (by omega)) (by omega)
          have hmz : (100 * (2 + (kk : Int)) * (2 + (lg : Int))) ≤ 13013000 := by
            have := Int.ofNat_le.2 hmul
            simpa using this
          have hmz0 : 0 ≤ (100 * (2 + (kk : Int)) * (2 + (lg : Int))) := Int.mul_nonneg (by omega) (by omega)
          have hmw : IntKind.i64.wrap (100 * (2 + (kk : Int)) * (2 + (lg : Int))) = 100 * (2 + (kk : Int)) * (2 + (lg : Int)) := by
            rw [IntKind.wrap_i64]
            generalize (100 * (2 + (kk : Int)) * (2 + (lg : Int))) = Q at *
            omega
          have hmw1 : IntKind.i64.wrap (100 * (2 + (kk : Int))) = 100 * (2 + (kk : Int)) := by rw [IntKind.wrap_i64]; omega
          have hmw2 : IntKind.i64.wrap (2 + (lg : Int)) = 2 + (lg : Int) := by rw [IntKind.wrap_i64]; omega
          clear hexp hmul hmz hmz0
          go_wp2_with fail
          refine (PT.out _).mono ?_
          rintro e w' ⟨rfl, rfl⟩
          go_wp2_with fail
          refine (ST1.out _ HW.out).mono ?_
          rintro e w' ⟨c1, rfl, d1, d2, rfl⟩
          have d1' : decide ((kk : Int) ≤ (c1 : Int)) = true := by simpa using d1
          clear d2
          go_wp2_with fail
          refine (ST1.out _ HW.out).mono ?_
          rintro e w' ⟨c2, rfl, d3, d4, rfl⟩
          have d4' : decide ((c2 : Int) ≤ 100 * (2 + (kk : Int)) * (2 + (lg : Int))) = true := by simpa using d4
          clear d3
          go_wp2_with fail
          refine (LOG.out _).mono ?_
          rintro e w' ⟨rfl, rfl⟩
          go_wp2
          go_ret
          exact ⟨rfl, HBX.out⟩

end Go.Proofs.Ytlkigpmjhojceaa.splaySteps
