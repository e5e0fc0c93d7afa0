/- ForestBack: for every input the law returns true and its arguments read as they did. No condition. -/
import Derived.Test.YtjhodnpmogkmmaaFlk
import Derived.Test.YtjhodnpmogkmmaaFlp
import Derived.Test.YtjhodnpmogkmmaaOpa
import Derived.Test.YtjhodnpmogkmmaaEnd
import Derived.Deep.LoopGhost
import Derived.Deep.DeepCutAuto
import Derived.Test.YtjhodnpmogkmmaaRows
import Derived.WalkKit
import Derived.ProofKit
import Derived.OpenShut
import Derived.ShutString
import Derived.ChangeOld
import Derived.Below
import Derived.Deep.Strs
namespace Go.Proofs.Ytjhodnpmogkmmaa.forestBack
open Go.ChangeShapes Go.WideShapes Go.ChangeAt Go.RowKit
open Go.ChangeMaps (open_string shut_string)
set_option linter.unusedVariables false
set_option linter.unusedSimpArgs false

theorem own : ownKnob Try.prog.godebug = none := by kernel_rfl
theorem laidOut : laidOutB Try.prog = true := by kernel_rfl

open Fo
theorem linkS_len (f : Ft) (a b : Int) : (linkS f a b).v.length = f.v.length := by unfold linkS; split <;> rfl
theorem cutS_len (f : Ft) (a : Int) : (cutS f a).v.length = f.v.length := by unfold cutS; split <;> rfl
theorem evertS_len (f : Ft) (a : Int) : (evertS f a).v.length = f.v.length := by unfold evertS; split <;> rfl
def preU (f : Ft) (n i : Nat) : List Int := (List.range n).map fun j => if j < i then oz (f.up j) else 0
theorem preU_len (f : Ft) (n i : Nat) : (preU f n i).length = n := by simp [preU]
theorem preU_0 (f : Ft) (n : Nat) : preU f n 0 = List.replicate n 0 := by
  refine List.ext_getElem (by simp [preU]) fun k h1 h2 => ?_
  simp [preU]
theorem preU_set {f : Ft} {n i : Nat} (h : i < n) : (preU f n i).set i (oz (f.up i)) = preU f n (i + 1) := by
  refine List.ext_getElem (by simp [preU]) fun k h1 h2 => ?_
  simp only [preU, List.getElem_set, List.getElem_map, List.getElem_range]
  by_cases c : i = k
  · subst c; rw [if_pos rfl, if_pos (by omega)]
  · rw [if_neg c]
    by_cases c2 : k < i
    · rw [if_pos c2, if_pos (by omega)]
    · rw [if_neg c2, if_neg (by omega)]
theorem preU_n (f : Ft) (n : Nat) : preU f n n = ovL n f.up := by
  refine List.ext_getElem (by simp [preU, ovL]) fun k h1 h2 => ?_
  simp only [preU, ovL, List.getElem_map, List.getElem_range]
  rw [if_pos (by simpa [preU] using h1)]

set_option maxRecDepth 100000 in
set_option maxHeartbeats 4000000 in
theorem walk (a0 : Int) (a1 : List Sp.Act) (o1 : Option Addr) (c1 : Nat) (a2 : Int) (a3 : Int) (w : World) (w0 : (Lit.int .i64 a0).wf = true) (k1 : ∀ a ∈ a1, Sp.Act.ok a) (z1 : a1.length ≤ c1) (y1 : c1 ≤ maxLen) (n1 : o1 = none → c1 = 0) (r1 : Sp.TRow w o1 a1) (w2 : (Lit.int .i64 a2).wf = true) (w3 : (Lit.int .i64 a3).wf = true) :
    Calls Try.prog 5 #[.int .i64 a0, .slice o1 a1.length c1, .int .i64 a2, .int .i64 a3] w fun e w' => e = .returned (.bool true) ∧ Below w.heap.size w w' := by
  have HSH := Lib.hid (shown_any w)
  obtain ⟨M, hM⟩ : ∃ M, M = a1.length := ⟨_, rfl⟩
  rw [← hM] at z1 ⊢
  have HLL := Lib.hid hM
  have hm64 : M ≤ 9223372036854775807 := by unfold maxLen at y1; omega
  have KA := Lib.hid k1
  have TR := Lib.hid r1
  clear hM z1 y1 n1 k1 r1
  have b0 := bounds_i64 w0
  have b2 := bounds_i64 w2
  have b3 := bounds_i64 w3
  clear w0 w2 w3
  by_cases g1 : 100 < M
  · have g1' : (100 : Int) < (M : Int) := by omega
    go_enter Try.func5, Try.ntmps5
    go_wp2_with fail
    refine HSH.out.mono ?_
    rintro e w1 ⟨rfl, hb⟩
    have HB1 := Lib.hid hb
    clear hb
    go_wp2
    go_ret
    exact ⟨rfl, HB1.out⟩
  have g1' : ¬ (100 : Int) < (M : Int) := by omega
  have hm2 : M ≤ 100 := by omega
  clear g1
  have bpz0 := Ne.pickN_bd (c := a0) (n := 14) (by omega)
  have PN := Lib.hid fun w' => Ne.pick_any a0 14 w' b0.1 b0.2 (by omega) (by omega)
  generalize Ne.pickN a0 14 = z0 at *
  obtain ⟨n, hn⟩ : ∃ n : Nat, 2 + z0 = (n : Int) := ⟨(2 + z0).toNat, by omega⟩
  have hn2 : 2 ≤ n := by omega
  have hn16 : n ≤ 16 := by omega
  have hz0 : 0 ≤ z0 := bpz0.1
  have hz1 : z0 < 14 := bpz0.2
  clear b0 bpz0
  have bpX := Ne.pickN_bd (c := a2) (n := (n : Int)) (by omega)
  have PX := Lib.hid fun w' => Ne.pick_any a2 (n : Int) w' b2.1 b2.2 (by omega) (by omega)
  generalize Ne.pickN a2 (n : Int) = X at *
  have bpY := Ne.pickN_bd (c := a3) (n := (n : Int)) (by omega)
  have PY := Lib.hid fun w' => Ne.pick_any a3 (n : Int) w' b3.1 b3.2 (by omega) (by omega)
  generalize Ne.pickN a3 (n : Int) = Y at *
  obtain ⟨x, hx⟩ : ∃ x : Nat, X = (x : Int) := ⟨X.toNat, by omega⟩
  obtain ⟨y, hy⟩ : ∃ y : Nat, Y = (y : Int) := ⟨Y.toNat, by omega⟩
  subst hx
  subst hy
  have hxn : x < n := by omega
  have hyn : y < n := by omega
  clear b2 b3 bpX bpY
  have NW := Lib.hid (fun w' : World => hd_zero n (by omega) w')
  have hmk := Ne.make_l n (by omega)
  have hmk2 := Ne.make_i n (by omega)
  have HGL := Lib.hid (show (newS (List.replicate n 0)).v.length = n from by show (List.replicate n (0 : Int)).length = n; simp)
  generalize newS (List.replicate n 0) = s0 at *
  go_enter Try.func5, Try.ntmps5
  go_wp2_with fail
  refine HSH.out.mono ?_
  rintro e w1 ⟨rfl, hb⟩
  have HB1 := Lib.hid hb
  clear hb HSH
  go_wp2_with fail
  refine (PN.out _).mono ?_
  rintro e w' ⟨rfl, rfl⟩
  go_wp2_with fail
  refine (NW.out w1).mono ?_
  rintro e w2 ⟨p, rfl, h2, hb⟩
  have HB2 := Lib.hid (HB1.out.trans (hb.mono HB1.out.size))
  have H2 := Lib.hid h2
  have hbs : w.heap.size ≤ w1.heap.size + 1 := by have := HB1.out.size; omega
  clear hb h2 NW hmk PN HB1
  generalize w1.heap.size + 1 = b at *
  go_wp2
  go_loopg [13] M (fun gg si wz => ∃ (j : Nat) (f : Ft), si = .int .i64 j ∧ j + gg = M ∧ Hid (f.v.length = n) ∧ Hid (Hd wz b p f []) ∧ Hid (Below w.heap.size w wz))
  case atStart => exact ⟨0, s0, rfl, by omega, HGL, H2, HB2⟩
  case round =>
    obtain ⟨j, f, rfl, hjg, HSL, HW, HBX⟩ := hrel
    by_cases hj : j < M
    · have hji : (j : Int) < (M : Int) := by omega
      have hj0 : (0 : Int) ≤ (j : Int) := by omega
      obtain ⟨bt, ot, rfl, hbt, t0, t1, t2, t3⟩ := Sp.trow_cell (show Sp.TRow wr o1 a1 from TR.out.kept HBX.out) (i := j) (by rw [← HLL.out]; exact hj)
      have hak := KA.out (Sp.actAt a1 j) (List.mem_of_getElem? (Sp.at_act (l := a1) (i := j) (by rw [← HLL.out]; exact hj)))
      obtain ⟨q0, q1, q2, _⟩ := hak
      unfold Ne.in64 at q0 q1 q2
      have bpX := Ne.pickN_bd (c := (Sp.actAt a1 j).x) (n := (n : Int)) (by omega)
      have QX := Lib.hid fun w' => Ne.pick_any (Sp.actAt a1 j).x (n : Int) w' q1.1 q1.2 (by omega) (by omega)
      generalize Ne.pickN (Sp.actAt a1 j).x (n : Int) = X at *
      have bpY := Ne.pickN_bd (c := (Sp.actAt a1 j).y) (n := (n : Int)) (by omega)
      have QY := Lib.hid fun w' => Ne.pick_any (Sp.actAt a1 j).y (n : Int) w' q2.1 q2.2 (by omega) (by omega)
      generalize Ne.pickN (Sp.actAt a1 j).y (n : Int) = Y at *
      have bppk := Ne.pickN_bd (c := (Sp.actAt a1 j).op) (n := 4) (by omega)
      have PO := Lib.hid fun w' => Ne.pick_any (Sp.actAt a1 j).op 4 w' q0.1 q0.2 (by omega) (by omega)
      generalize Ne.pickN (Sp.actAt a1 j).op 4 = pk at *
      generalize (Sp.actAt a1 j).op = aop at *
      generalize (Sp.actAt a1 j).x = ax at *
      generalize (Sp.actAt a1 j).y = ay at *
      clear q0 q1 q2
      go_wp2_with fail
      refine (QX.out _).mono ?_
      rintro e w' ⟨rfl, rfl⟩
      go_wp2_with fail
      refine (QY.out _).mono ?_
      rintro e w' ⟨rfl, rfl⟩
      go_wp2_with fail
      refine (PO.out _).mono ?_
      rintro e w' ⟨rfl, rfl⟩
      clear t0 t1 t2 t3 QX QY bpX bpY
      by_cases g0 : pk = 0
      · subst g0
        clear PO
        go_wp2_with fail
        refine (hd_link HW.out X Y).mono ?_
        rintro e w21 ⟨he, h21, k21⟩
        subst he
        have H21 := Lib.hid h21
        have HB21 := Lib.hid (HBX.out.trans ((k21.below HW.out.size).mono hbs))
        clear h21 k21
        go_wp2
        go_roundg (M - (j + 1))
        case measure => omega
        case rel => exact ⟨j + 1, (linkS f X Y), by go_num, by omega, Lib.hid (by rw [linkS_len]; exact HSL.out), H21, HB21⟩
      have t0 : (pk == 0) = false := by simpa using g0
      by_cases g1 : pk = 1
      · subst g1
        clear PO
        go_wp2_with fail
        refine (hd_link HW.out X Y).mono ?_
        rintro e w22 ⟨he, h22, k22⟩
        subst he
        have H22 := Lib.hid h22
        have HB22 := Lib.hid (HBX.out.trans ((k22.below HW.out.size).mono hbs))
        clear h22 k22
        go_wp2
        go_roundg (M - (j + 1))
        case measure => omega
        case rel => exact ⟨j + 1, (linkS f X Y), by go_num, by omega, Lib.hid (by rw [linkS_len]; exact HSL.out), H22, HB22⟩
      have t1 : (pk == 1) = false := by simpa using g1
      by_cases g2 : pk = 2
      · subst g2
        clear PO
        go_wp2_with fail
        refine (hd_cut HW.out X).mono ?_
        rintro e w23 ⟨he, h23, k23⟩
        subst he
        have H23 := Lib.hid h23
        have HB23 := Lib.hid (HBX.out.trans ((k23.below HW.out.size).mono hbs))
        clear h23 k23
        go_wp2
        go_roundg (M - (j + 1))
        case measure => omega
        case rel => exact ⟨j + 1, (cutS f X), by go_num, by omega, Lib.hid (by rw [cutS_len]; exact HSL.out), H23, HB23⟩
      have t2 : (pk == 2) = false := by simpa using g2
      go_wp2_with fail
      refine (hd_evert HW.out X).mono ?_
      rintro e w24 ⟨he, h24, k24⟩
      subst he
      have H24 := Lib.hid h24
      have HB24 := Lib.hid (HBX.out.trans ((k24.below HW.out.size).mono hbs))
      clear h24 k24
      go_wp2
      go_roundg (M - (j + 1))
      case measure => omega
      case rel => exact ⟨j + 1, (evertS f X), by go_num, by omega, Lib.hid (by rw [evertS_len]; exact HSL.out), H24, HB24⟩
    · have ej : j = M := by omega
      subst j
      clear hjg TR KA HLL HGL H2 HB2
      have HGD := Lib.hid HW.out.good
      have hbw := HW.out.size
      have HW0 := Lib.hid (HW.out.alloc (.cells (madeCells #[.int .i64 0] n) 3))
      have HX0 := Lib.hid (show Ne.IBox (wr.alloc (.cells (madeCells #[.int .i64 0] n) 3)) wr.heap.size (preU f n 0) by rw [preU_0]; exact Ne.ibox_made wr n rfl)
      have HB0 := Lib.hid (HBX.out.alloc HBX.out.size (.cells (madeCells #[.int .i64 0] n) 3))
      clear HW HBX
      generalize hgu : wr.heap.size = gu at *
      have HGU := Lib.hid hgu
      go_wp2
      clear hmk2 hgu
      go_loopg [17] n (fun gg si wz => ∃ i : Nat, si = .int .i64 i ∧ i + gg = n ∧ Hid (Hd wz b p f [gu]) ∧ Hid (Ne.IBox wz gu (preU f n i)) ∧ Hid (Below w.heap.size w wz))
      case atStart => exact ⟨0, rfl, by omega, HW0, HX0, HB0⟩
      case round =>
        obtain ⟨i, rfl, hig, HW, HU, HBX⟩ := hrel
        by_cases hi : i < n
        · have hii : (i : Int) < (n : Int) := by omega
          have hi0 : (0 : Int) ≤ (i : Int) := by omega
          have hif : i < f.v.length := by rw [HSL.out]; exact hi
          have hab := aboveZ_nat hif
          go_wp2_with fail
          refine (hd_above HW.out (i : Int)).mono ?_
          rintro e w25 ⟨he, h25, k25⟩
          rw [hab] at he
          subst he
          have H25 := Lib.hid h25
          have HB25 := Lib.hid (HBX.out.trans ((k25.below HW.out.size).mono hbs))
          have HU_25 := Lib.hid (k25.ibox HU.out List.mem_cons_self)
          clear h25 k25
          obtain ⟨q8, hq8⟩ : ∃ q8, q8 = oz (f.up i) := ⟨_, rfl⟩
          have HQ8 := Lib.hid hq8
          rw [← hq8]
          have c0 := HU_25.out.cell (i := i) (by rw [preU_len]; exact hi)
          have f0 := HU_25.out.frozen i
          obtain ⟨WS, hWS⟩ : ∃ WS, WS = w25.setCell ⟨gu, i, none⟩ (.int .i64 q8) := ⟨_, rfl⟩
          have HS6 := Lib.hid (show Hd WS b p f [gu] by rw [hWS]; exact H25.out.set List.mem_cons_self _)
          have HU6 := Lib.hid (show Ne.IBox WS gu (preU f n (i + 1)) by
            rw [hWS]
            have := HU_25.out.set (i := i) (by rw [preU_len]; exact hi) q8
            rw [HQ8.out, preU_set hi] at this
            rw [HQ8.out]; exact this)
          have HB6 := Lib.hid (show Below w.heap.size w WS by rw [hWS]; exact HB25.out.setCell (p := ⟨gu, i, none⟩) (Nat.le_trans hbs hbw) _)
          obtain ⟨m, hm⟩ : ∃ m, m = (path f i).length := ⟨_, rfl⟩
          obtain ⟨hp1, hp2⟩ := path_pos HGD.out hif
          obtain ⟨M0, hM0⟩ : ∃ M0, m = M0 + 1 := ⟨m - 1, by omega⟩
          have hM1 : m ≤ M0 + 1 := by omega
          have hM2 : M0 + 1 ≤ m := by omega
          have hlast := path_last HGD.out hif (M := M0) (by omega)
          clear hM0
          obtain ⟨r, hr1, hr2, hr3, hr4, hr5⟩ := path_first HGD.out hif
          have hmn : m ≤ n := by rw [HSL.out] at hp2; omega
          have HPN := Lib.hid (fun (j a b : Nat) h1 h2 => path_next HGD.out (v := i) (i := j) (a := a) (b := b) h1 h2)
          have PTH := Lib.hid (hd_path HS6.out hif)
          generalize path f i = l at *
          rw [← hm] at PTH
          have HML := Lib.hid hm
          clear hm hp1 hp2 hq8
          go_wp2_with fail
          rw [← hWS]
          refine PTH.out.mono ?_
          rintro e w9 ⟨gp, cp, rfl, ho, h9, k9⟩
          have H9 := Lib.hid h9
          have RP_9 := Lib.hid ho
          have HU_9 := Lib.hid (k9.ibox HU6.out List.mem_cons_self)
          have HB9 := Lib.hid (HB6.out.trans ((k9.below HS6.out.size).mono hbs))
          have HCL := Lib.hid (show ∀ (wz : World) (j a : Nat), Ne.OwnI wz b (.slice (some ⟨gp, 0, none⟩) m cp) (Ne.encW l) → l[j]? = some a → wz.cell? ⟨gp, j, none⟩ = some (.int .i64 (a : Int)) from fun wz j a hw hj => by
            have hjl := (List.getElem?_eq_some_iff.1 hj).1
            obtain ⟨bq, oq, e, _, hc⟩ := Ne.irow_cell (Ne.own_irow hw) (i := j) (by rw [Ne.encW_len]; exact hjl)
            cases e
            rw [Ne.encW_at hjl, Nat.zero_add] at hc
            rw [hc]
            simp [List.getD_eq_getElem?_getD, hj])
          have hc0 := HCL.out _ _ _ ho hr1
          have hcm := HCL.out _ _ _ ho hlast
          have hw1 : IntKind.i64.wrap ((m : Int) - 1) = (M0 : Int) := by rw [IntKind.wrap_i64]; omega
          have hm1 : (M0 : Int) < (m : Int) := by omega
          have hm0 : (0 : Int) ≤ (M0 : Int) := by omega
          have hmp : (0 : Int) < (m : Int) := by omega
          have hmp2 : 0 < m := by omega
          have hm12 : M0 < m := by omega
          have tz : ((m : Int) == 0) = false := by simp; omega
          have tz2 : (m == 0) = false := by simp; omega
          have tn : ¬ (n : Int) < (m : Int) := by omega
          have tn2 : decide ((n : Int) < (m : Int)) = false := by simp; omega
          have tn3 : decide (n < m) = false := by simp; omega
          have tn4 : ¬ n < m := by omega
          have ti : ((i : Int) != (i : Int)) = false := by simp
          have tr : ((r : Int) != (r : Int)) = false := by simp
          clear h9 ho k9 PTH HS6 HU6 HB6 hWS
          go_upto_region 26 with fail
          have hS0 := (show (fun w' : World => w'.cell? ⟨gp, 0, none⟩ = some (.int .i64 (r : Int)) ∧ w'.cell? ⟨gp, M0, none⟩ = some (.int .i64 (i : Int))) w9.drew from ⟨hc0, hcm⟩)
          clear hc0 hcm
          refine Rh.start (S := (fun w' : World => w'.cell? ⟨gp, 0, none⟩ = some (.int .i64 (r : Int)) ∧ w'.cell? ⟨gp, M0, none⟩ = some (.int .i64 (i : Int)))) (by kernel_rfl) ?_
          refine Rh.take (some 106) (i := 0) (v := ?_) rfl (by kernel_rfl) (by kernel_rfl) (by kernel_rfl) (by kernel_rfl) (fun _ _ _ h => h) (Or.inl ⟨by rfl, ?_⟩) hS0 ?_
          rotate_left
          · intro w hSw
            go_simp
            try with_reducible rfl
          try simp only [Act.put, List.setIfInBounds_toArray, List.set_cons_zero, List.set_cons_succ]
          refine Rh.take (some 107) (i := 1) (v := ?_) rfl (by kernel_rfl) (by kernel_rfl) (by kernel_rfl) (by kernel_rfl) (fun _ _ _ h => h) (Or.inl ⟨by rfl, ?_⟩) hS0 ?_
          rotate_left
          · intro w hSw
            go_simp
            try with_reducible rfl
          try simp only [Act.put, List.setIfInBounds_toArray, List.set_cons_zero, List.set_cons_succ]
          refine Rh.take (some 108) (i := 2) (v := ?_) rfl (by kernel_rfl) (by kernel_rfl) (by kernel_rfl) (by kernel_rfl) (fun _ _ _ h => h) (Or.inl ⟨by rfl, ?_⟩) hS0 ?_
          rotate_left
          · intro w hSw
            go_simp
            try with_reducible rfl
          try simp only [Act.put, List.setIfInBounds_toArray, List.set_cons_zero, List.set_cons_succ]
          refine Rh.take (some 109) (i := 3) (v := ?_) rfl (by kernel_rfl) (by kernel_rfl) (by kernel_rfl) (by kernel_rfl) (fun _ _ _ h => h) (Or.inl ⟨by rfl, ?_⟩) hS0 ?_
          rotate_left
          · intro w hSw
            go_simp
            try with_reducible rfl
          try simp only [Act.put, List.setIfInBounds_toArray, List.set_cons_zero, List.set_cons_succ]
          refine Rh.take (some 110) (i := 4) (v := ?_) rfl (by kernel_rfl) (by kernel_rfl) (by kernel_rfl) (by kernel_rfl) (fun _ _ _ h => h) (Or.inl ⟨by rfl, ?_⟩) hS0 ?_
          rotate_left
          · intro w hSw
            go_simp
            try with_reducible rfl
          try simp only [Act.put, List.setIfInBounds_toArray, List.set_cons_zero, List.set_cons_succ]
          refine Rh.take (some 111) (i := 5) (v := ?_) rfl (by kernel_rfl) (by kernel_rfl) (by kernel_rfl) (by kernel_rfl) (fun _ _ _ h => h) (Or.inl ⟨by rfl, ?_⟩) hS0 ?_
          rotate_left
          · intro w hSw
            go_simp
            try with_reducible rfl
          try simp only [Act.put, List.setIfInBounds_toArray, List.set_cons_zero, List.set_cons_succ]
          refine Rh.take (some 112) (i := 6) (v := ?_) rfl (by kernel_rfl) (by kernel_rfl) (by kernel_rfl) (by kernel_rfl) (fun _ _ _ h => h) (Or.inl ⟨by rfl, ?_⟩) hS0 ?_
          rotate_left
          · intro w hSw
            go_simp
            try with_reducible rfl
          try simp only [Act.put, List.setIfInBounds_toArray, List.set_cons_zero, List.set_cons_succ]
          refine Rh.take (some 113) (i := 7) (v := ?_) rfl (by kernel_rfl) (by kernel_rfl) (by kernel_rfl) (by kernel_rfl) (fun _ _ _ h => h) (Or.inl ⟨by rfl, ?_⟩) hS0 ?_
          rotate_left
          · intro w hSw
            go_simp
            try with_reducible rfl
          try simp only [Act.put, List.setIfInBounds_toArray, List.set_cons_zero, List.set_cons_succ]
          refine Rh.take (some 114) (i := 8) (v := ?_) rfl (by kernel_rfl) (by kernel_rfl) (by kernel_rfl) (by kernel_rfl) (fun _ _ _ h => h) (Or.inl ⟨by rfl, ?_⟩) hS0 ?_
          rotate_left
          · intro w hSw
            go_simp
            try with_reducible rfl
          try simp only [Act.put, List.setIfInBounds_toArray, List.set_cons_zero, List.set_cons_succ]
          refine Rh.take (some 115) (i := 9) (v := ?_) rfl (by kernel_rfl) (by kernel_rfl) (by kernel_rfl) (by kernel_rfl) (fun _ _ _ h => h) (Or.inl ⟨by rfl, ?_⟩) hS0 ?_
          rotate_left
          · intro w hSw
            go_simp
            try with_reducible rfl
          try simp only [Act.put, List.setIfInBounds_toArray, List.set_cons_zero, List.set_cons_succ]
          refine Rh.take (some 116) (i := 10) (v := ?_) rfl (by kernel_rfl) (by kernel_rfl) (by kernel_rfl) (by kernel_rfl) (fun _ _ _ h => h) (Or.inl ⟨by rfl, ?_⟩) hS0 ?_
          rotate_left
          · intro w hSw
            go_simp
            try with_reducible rfl
          try simp only [Act.put, List.setIfInBounds_toArray, List.set_cons_zero, List.set_cons_succ]
          refine Rh.take (some 117) (i := 11) (v := ?_) rfl (by kernel_rfl) (by kernel_rfl) (by kernel_rfl) (by kernel_rfl) (fun _ _ _ h => h) (Or.inl ⟨by rfl, ?_⟩) hS0 ?_
          rotate_left
          · intro w hSw
            go_simp
            try with_reducible rfl
          try simp only [Act.put, List.setIfInBounds_toArray, List.set_cons_zero, List.set_cons_succ]
          refine Rh.take (some 118) (i := 12) (v := ?_) rfl (by kernel_rfl) (by kernel_rfl) (by kernel_rfl) (by kernel_rfl) (fun _ _ _ h => h) (Or.inl ⟨by rfl, ?_⟩) hS0 ?_
          rotate_left
          · intro w hSw
            go_simp
            try with_reducible rfl
          try simp only [Act.put, List.setIfInBounds_toArray, List.set_cons_zero, List.set_cons_succ]
          refine Rh.take (some 119) (i := 13) (v := ?_) rfl (by kernel_rfl) (by kernel_rfl) (by kernel_rfl) (by kernel_rfl) (fun _ _ _ h => h) (Or.inl ⟨by rfl, ?_⟩) hS0 ?_
          rotate_left
          · intro w hSw
            go_simp
            try with_reducible rfl
          try simp only [Act.put, List.setIfInBounds_toArray, List.set_cons_zero, List.set_cons_succ]
          refine Rh.take (some 120) (i := 14) (v := ?_) rfl (by kernel_rfl) (by kernel_rfl) (by kernel_rfl) (by kernel_rfl) (fun _ _ _ h => h) (Or.inl ⟨by rfl, ?_⟩) hS0 ?_
          rotate_left
          · intro w hSw
            go_simp
            try with_reducible rfl
          try simp only [Act.put, List.setIfInBounds_toArray, List.set_cons_zero, List.set_cons_succ]
          refine Rh.take (some 121) (i := 15) (v := ?_) rfl (by kernel_rfl) (by kernel_rfl) (by kernel_rfl) (by kernel_rfl) (fun _ _ _ h => h) (Or.inl ⟨by rfl, ?_⟩) hS0 ?_
          rotate_left
          · intro w hSw
            go_simp
            try with_reducible rfl
          try simp only [Act.put, List.setIfInBounds_toArray, List.set_cons_zero, List.set_cons_succ]
          refine Rh.take (some 122) (i := 16) (v := ?_) rfl (by kernel_rfl) (by kernel_rfl) (by kernel_rfl) (by kernel_rfl) (fun _ _ _ h => h) (Or.inl ⟨by rfl, ?_⟩) hS0 ?_
          rotate_left
          · intro w hSw
            go_simp
            try with_reducible rfl
          try simp only [Act.put, List.setIfInBounds_toArray, List.set_cons_zero, List.set_cons_succ]
          refine Rh.take (some 123) (i := 17) (v := ?_) rfl (by kernel_rfl) (by kernel_rfl) (by kernel_rfl) (by kernel_rfl) (fun _ _ _ h => h) (Or.inl ⟨by rfl, ?_⟩) hS0 ?_
          rotate_left
          · intro w hSw
            go_simp
            try with_reducible rfl
          try simp only [Act.put, List.setIfInBounds_toArray, List.set_cons_zero, List.set_cons_succ]
          refine Rh.take (some 124) (i := 18) (v := ?_) rfl (by kernel_rfl) (by kernel_rfl) (by kernel_rfl) (by kernel_rfl) (fun _ _ _ h => h) (Or.inl ⟨by rfl, ?_⟩) hS0 ?_
          rotate_left
          · intro w hSw
            go_simp
            try with_reducible rfl
          try simp only [Act.put, List.setIfInBounds_toArray, List.set_cons_zero, List.set_cons_succ]
          refine Rh.take (some 125) (i := 19) (v := ?_) rfl (by kernel_rfl) (by kernel_rfl) (by kernel_rfl) (by kernel_rfl) (fun _ _ _ h => h) (Or.inl ⟨by rfl, ?_⟩) hS0 ?_
          rotate_left
          · intro w hSw
            go_simp
            try with_reducible rfl
          try simp only [Act.put, List.setIfInBounds_toArray, List.set_cons_zero, List.set_cons_succ]
          refine Rh.take (some 126) (i := 20) (v := ?_) rfl (by kernel_rfl) (by kernel_rfl) (by kernel_rfl) (by kernel_rfl) (fun _ _ _ h => h) (Or.inl ⟨by rfl, ?_⟩) hS0 ?_
          rotate_left
          · intro w hSw
            go_simp
            try with_reducible rfl
          try simp only [Act.put, List.setIfInBounds_toArray, List.set_cons_zero, List.set_cons_succ]
          refine Rh.take (some 127) (i := 21) (v := ?_) rfl (by kernel_rfl) (by kernel_rfl) (by kernel_rfl) (by kernel_rfl) (fun _ _ _ h => h) (Or.inl ⟨by rfl, ?_⟩) hS0 ?_
          rotate_left
          · intro w hSw
            go_simp
            try with_reducible rfl
          try simp only [Act.put, List.setIfInBounds_toArray, List.set_cons_zero, List.set_cons_succ]
          refine Rh.take (some 128) (i := 22) (v := ?_) rfl (by kernel_rfl) (by kernel_rfl) (by kernel_rfl) (by kernel_rfl) (fun _ _ _ h => h) (Or.inl ⟨by rfl, ?_⟩) hS0 ?_
          rotate_left
          · intro w hSw
            go_simp
            try with_reducible rfl
          try simp only [Act.put, List.setIfInBounds_toArray, List.set_cons_zero, List.set_cons_succ]
          refine Rh.take (some 129) (i := 23) (v := ?_) rfl (by kernel_rfl) (by kernel_rfl) (by kernel_rfl) (by kernel_rfl) (fun _ _ _ h => h) (Or.inl ⟨by rfl, ?_⟩) hS0 ?_
          rotate_left
          · intro w hSw
            go_simp
            try with_reducible rfl
          try simp only [Act.put, List.setIfInBounds_toArray, List.set_cons_zero, List.set_cons_succ]
          refine Rh.take (some 130) (i := 24) (v := ?_) rfl (by kernel_rfl) (by kernel_rfl) (by kernel_rfl) (by kernel_rfl) (fun _ _ _ h => h) (Or.inl ⟨by rfl, ?_⟩) hS0 ?_
          rotate_left
          · intro w hSw
            go_simp
            try with_reducible rfl
          try simp only [Act.put, List.setIfInBounds_toArray, List.set_cons_zero, List.set_cons_succ]
          refine Rh.step (i := 25) (by kernel_rfl) rfl fun K' hK' => ?_
          have HK := Lib.hid hK'
          clear hK'
          go_simp
          refine (hd_root (H9.out.kept (Ne.below_drew (Below.refl _ _))) (i : Int)).mono ?_
          rintro e w26 ⟨he, h26, k26⟩
          rw [hr2] at he
          subst he
          have H26 := Lib.hid h26
          have HB26 := Lib.hid ((Ne.below_drew HB9.out).trans ((k26.below (H9.out.kept (Ne.below_drew (Below.refl _ _))).size).mono hbs))
          have RP_26 := Lib.hid (k26.own (show Ne.OwnI w9.drew b (.slice (some ⟨gp, 0, none⟩) m cp) (Ne.encW l) from RP_9.out) (by intro g e; cases e; exact List.mem_cons_self))
          have HU_26 := Lib.hid (k26.ibox (show Ne.IBox w9.drew gu (preU f n (i + 1)) from HU_9.out) (List.mem_cons_of_mem _ List.mem_cons_self))
          have hS26 := (show (fun w' : World => w'.cell? ⟨gp, 0, none⟩ = some (.int .i64 (r : Int)) ∧ w'.cell? ⟨gp, M0, none⟩ = some (.int .i64 (i : Int))) w26 from ⟨k26.cell List.mem_cons_self hS0.1, k26.cell List.mem_cons_self hS0.2⟩)
          clear h26 k26
          refine HK.out _ _ ⟨hS26, ?_⟩
          clear HK K'
          try simp only [Act.put, List.setIfInBounds_toArray, List.set_cons_zero, List.set_cons_succ]
          refine Rh.take (some 132) (i := 26) (v := ?_) rfl (by kernel_rfl) (by kernel_rfl) (by kernel_rfl) (by kernel_rfl) (fun _ _ _ h => h) (Or.inl ⟨by rfl, ?_⟩) hS26 ?_
          rotate_left
          · intro w hSw
            go_simp
            try with_reducible rfl
          try simp only [Act.put, List.setIfInBounds_toArray, List.set_cons_zero, List.set_cons_succ]
          refine Rh.take (some 133) (i := 27) (v := ?_) rfl (by kernel_rfl) (by kernel_rfl) (by kernel_rfl) (by kernel_rfl) (fun _ _ _ h => h) (Or.inl ⟨by rfl, ?_⟩) hS26 ?_
          rotate_left
          · intro w hSw
            go_simp
            try with_reducible rfl
          try simp only [Act.put, List.setIfInBounds_toArray, List.set_cons_zero, List.set_cons_succ]
          refine Rh.take (some 134) (i := 28) (v := ?_) rfl (by kernel_rfl) (by kernel_rfl) (by kernel_rfl) (by kernel_rfl) (fun _ _ _ h => h) (Or.inl ⟨by rfl, ?_⟩) hS26 ?_
          rotate_left
          · intro w hSw
            go_simp
            try with_reducible rfl
          try simp only [Act.put, List.setIfInBounds_toArray, List.set_cons_zero, List.set_cons_succ]
          refine Rh.take (some 135) (i := 29) (v := ?_) rfl (by kernel_rfl) (by kernel_rfl) (by kernel_rfl) (by kernel_rfl) (fun _ _ _ h => h) (Or.inl ⟨by rfl, ?_⟩) hS26 ?_
          rotate_left
          · intro w hSw
            go_simp
            try with_reducible rfl
          try simp only [Act.put, List.setIfInBounds_toArray, List.set_cons_zero, List.set_cons_succ]
          refine Rh.take (some 136) (i := 30) (v := ?_) rfl (by kernel_rfl) (by kernel_rfl) (by kernel_rfl) (by kernel_rfl) (fun _ _ _ h => h) (Or.inl ⟨by rfl, ?_⟩) hS26 ?_
          rotate_left
          · intro w hSw
            go_simp
            try with_reducible rfl
          try simp only [Act.put, List.setIfInBounds_toArray, List.set_cons_zero, List.set_cons_succ]
          refine Rh.take (some 137) (i := 31) (v := ?_) rfl (by kernel_rfl) (by kernel_rfl) (by kernel_rfl) (by kernel_rfl) (fun _ _ _ h => h) (Or.inl ⟨by rfl, ?_⟩) hS26 ?_
          rotate_left
          · intro w hSw
            go_simp
            try with_reducible rfl
          try simp only [Act.put, List.setIfInBounds_toArray, List.set_cons_zero, List.set_cons_succ]
          refine Rh.take (some 138) (i := 32) (v := ?_) rfl (by kernel_rfl) (by kernel_rfl) (by kernel_rfl) (by kernel_rfl) (fun _ _ _ h => h) (Or.inl ⟨by rfl, ?_⟩) hS26 ?_
          rotate_left
          · intro w hSw
            go_simp
            try with_reducible rfl
          try simp only [Act.put, List.setIfInBounds_toArray, List.set_cons_zero, List.set_cons_succ]
          refine Rh.step (i := 33) (by kernel_rfl) rfl fun K' hK' => ?_
          have HK := Lib.hid hK'
          clear hK'
          go_simp
          refine (hd_above H26.out (r : Int)).mono ?_
          rintro e w27 ⟨he, h27, k27⟩
          rw [hr5] at he
          subst he
          have H27 := Lib.hid h27
          have HB27 := Lib.hid (HB26.out.trans ((k27.below H26.out.size).mono hbs))
          have RP_27 := Lib.hid (k27.own RP_26.out (by intro g e; cases e; exact List.mem_cons_self))
          have HU_27 := Lib.hid (k27.ibox HU_26.out (List.mem_cons_of_mem _ List.mem_cons_self))
          have hS27 := (show (fun w' : World => w'.cell? ⟨gp, 0, none⟩ = some (.int .i64 (r : Int)) ∧ w'.cell? ⟨gp, M0, none⟩ = some (.int .i64 (i : Int))) w27 from ⟨k27.cell List.mem_cons_self hS26.1, k27.cell List.mem_cons_self hS26.2⟩)
          clear h27 k27
          refine HK.out _ _ ⟨hS27, ?_⟩
          clear HK K'
          try simp only [Act.put, List.setIfInBounds_toArray, List.set_cons_zero, List.set_cons_succ]
          refine Rh.take (some 140) (i := 34) (v := ?_) rfl (by kernel_rfl) (by kernel_rfl) (by kernel_rfl) (by kernel_rfl) (fun _ _ _ h => h) (Or.inl ⟨by rfl, ?_⟩) hS27 ?_
          rotate_left
          · intro w hSw
            go_simp
            try with_reducible rfl
          try simp only [Act.put, List.setIfInBounds_toArray, List.set_cons_zero, List.set_cons_succ]
          refine Rh.take (some 141) (i := 35) (v := ?_) rfl (by kernel_rfl) (by kernel_rfl) (by kernel_rfl) (by kernel_rfl) (fun _ _ _ h => h) (Or.inl ⟨by rfl, ?_⟩) hS27 ?_
          rotate_left
          · intro w hSw
            go_simp
            try with_reducible rfl
          try simp only [Act.put, List.setIfInBounds_toArray, List.set_cons_zero, List.set_cons_succ]
          refine Rh.done (by kernel_rfl) ?_ _
          go_wp2
          go_loopg [19] M0 (fun gg si wz => ∃ J j0 : Nat, si = .int .i64 (J : Int) ∧ j0 + gg = M0 ∧ Hid (J = j0 + 1) ∧ Hid (Hd wz b p f [gp, gu]) ∧ Hid (Ne.OwnI wz b (.slice (some ⟨gp, 0, none⟩) m cp) (Ne.encW l)) ∧ Hid (Ne.IBox wz gu (preU f n (i + 1))) ∧ Hid (Below w.heap.size w wz))
          case atStart => exact ⟨1, 0, rfl, by omega, Lib.hid rfl, Lib.hid H27.out, RP_27, HU_27, Lib.hid HB27.out⟩
          case round =>
            obtain ⟨J, j0, rfl, hjg, HJJ, HW3, HO3, HU3, HB3⟩ := hrel
            have hJ1 : J ≤ j0 + 1 := by have := HJJ.out; omega
            have hJ2 : j0 + 1 ≤ J := by have := HJJ.out; omega
            by_cases hj : j0 < M0
            · have hji : (J : Int) < (m : Int) := by omega
              have hji2 : (j0 : Int) < (m : Int) := by omega
              have hjn1 : J < m := by omega
              have hjn2 : j0 < m := by omega
              have hj1 : (0 : Int) ≤ (J : Int) := by omega
              have hj2 : (0 : Int) ≤ (j0 : Int) := by omega
              have hw3 : IntKind.i64.wrap ((J : Int) - 1) = (j0 : Int) := by rw [IntKind.wrap_i64]; omega
              have hw4 : IntKind.i64.wrap ((J : Int) + 1) = ((J + 1 : Nat) : Int) := by rw [IntKind.wrap_i64]; omega
              have hll := HML.out
              obtain ⟨yy, hyy⟩ : ∃ yy, l[j0 + 1]? = some yy := ⟨_, List.getElem?_eq_getElem (by omega)⟩
              obtain ⟨zz, hzz⟩ : ∃ zz, l[j0]? = some zz := ⟨_, List.getElem?_eq_getElem (by omega)⟩
              obtain ⟨hn1, hn2'⟩ := HPN.out j0 zz yy hzz hyy
              rw [hr2] at hn2'
              have d0 := HCL.out _ _ _ HO3.out hr1
              have d1 := HCL.out _ _ _ HO3.out hyy
              rw [← HJJ.out] at d1
              have d2 := HCL.out _ _ _ HO3.out hzz
              have tzz : ((zz : Int) != (zz : Int)) = false := by simp
              clear hyy hzz hll
              go_upto_region 31 with fail
              have hS0 := (show (fun w' : World => w'.cell? ⟨gp, 0, none⟩ = some (.int .i64 (r : Int)) ∧ w'.cell? ⟨gp, J, none⟩ = some (.int .i64 (yy : Int)) ∧ w'.cell? ⟨gp, j0, none⟩ = some (.int .i64 (zz : Int))) wr.drew from ⟨d0, d1, d2⟩)
              clear d0 d1 d2
              refine Rh.start (S := (fun w' : World => w'.cell? ⟨gp, 0, none⟩ = some (.int .i64 (r : Int)) ∧ w'.cell? ⟨gp, J, none⟩ = some (.int .i64 (yy : Int)) ∧ w'.cell? ⟨gp, j0, none⟩ = some (.int .i64 (zz : Int)))) (by kernel_rfl) ?_
              refine Rh.take (some 148) (i := 0) (v := ?_) rfl (by kernel_rfl) (by kernel_rfl) (by kernel_rfl) (by kernel_rfl) (fun _ _ _ h => h) (Or.inl ⟨by rfl, ?_⟩) hS0 ?_
              rotate_left
              · intro w hSw
                go_simp
                try with_reducible rfl
              try simp only [Act.put, List.setIfInBounds_toArray, List.set_cons_zero, List.set_cons_succ]
              refine Rh.take (some 149) (i := 1) (v := ?_) rfl (by kernel_rfl) (by kernel_rfl) (by kernel_rfl) (by kernel_rfl) (fun _ _ _ h => h) (Or.inl ⟨by rfl, ?_⟩) hS0 ?_
              rotate_left
              · intro w hSw
                go_simp
                try with_reducible rfl
              try simp only [Act.put, List.setIfInBounds_toArray, List.set_cons_zero, List.set_cons_succ]
              refine Rh.take (some 150) (i := 2) (v := ?_) rfl (by kernel_rfl) (by kernel_rfl) (by kernel_rfl) (by kernel_rfl) (fun _ _ _ h => h) (Or.inl ⟨by rfl, ?_⟩) hS0 ?_
              rotate_left
              · intro w hSw
                go_simp
                try with_reducible rfl
              try simp only [Act.put, List.setIfInBounds_toArray, List.set_cons_zero, List.set_cons_succ]
              refine Rh.take (some 151) (i := 3) (v := ?_) rfl (by kernel_rfl) (by kernel_rfl) (by kernel_rfl) (by kernel_rfl) (fun _ _ _ h => h) (Or.inl ⟨by rfl, ?_⟩) hS0 ?_
              rotate_left
              · intro w hSw
                go_simp
                try with_reducible rfl
              try simp only [Act.put, List.setIfInBounds_toArray, List.set_cons_zero, List.set_cons_succ]
              refine Rh.take (some 152) (i := 4) (v := ?_) rfl (by kernel_rfl) (by kernel_rfl) (by kernel_rfl) (by kernel_rfl) (fun _ _ _ h => h) (Or.inl ⟨by rfl, ?_⟩) hS0 ?_
              rotate_left
              · intro w hSw
                go_simp
                try with_reducible rfl
              try simp only [Act.put, List.setIfInBounds_toArray, List.set_cons_zero, List.set_cons_succ]
              refine Rh.take (some 154) (i := 6) (v := ?_) rfl (by kernel_rfl) (by kernel_rfl) (by kernel_rfl) (by kernel_rfl) (fun _ _ _ h => h) (Or.inl ⟨by rfl, ?_⟩) hS0 ?_
              rotate_left
              · intro w hSw
                go_simp
                try with_reducible rfl
              try simp only [Act.put, List.setIfInBounds_toArray, List.set_cons_zero, List.set_cons_succ]
              refine Rh.take (some 155) (i := 7) (v := ?_) rfl (by kernel_rfl) (by kernel_rfl) (by kernel_rfl) (by kernel_rfl) (fun _ _ _ h => h) (Or.inl ⟨by rfl, ?_⟩) hS0 ?_
              rotate_left
              · intro w hSw
                go_simp
                try with_reducible rfl
              try simp only [Act.put, List.setIfInBounds_toArray, List.set_cons_zero, List.set_cons_succ]
              refine Rh.take (some 156) (i := 8) (v := ?_) rfl (by kernel_rfl) (by kernel_rfl) (by kernel_rfl) (by kernel_rfl) (fun _ _ _ h => h) (Or.inl ⟨by rfl, ?_⟩) hS0 ?_
              rotate_left
              · intro w hSw
                go_simp
                try with_reducible rfl
              try simp only [Act.put, List.setIfInBounds_toArray, List.set_cons_zero, List.set_cons_succ]
              refine Rh.take (some 157) (i := 9) (v := ?_) rfl (by kernel_rfl) (by kernel_rfl) (by kernel_rfl) (by kernel_rfl) (fun _ _ _ h => h) (Or.inl ⟨by rfl, ?_⟩) hS0 ?_
              rotate_left
              · intro w hSw
                go_simp
                try with_reducible rfl
              try simp only [Act.put, List.setIfInBounds_toArray, List.set_cons_zero, List.set_cons_succ]
              refine Rh.take (some 158) (i := 10) (v := ?_) rfl (by kernel_rfl) (by kernel_rfl) (by kernel_rfl) (by kernel_rfl) (fun _ _ _ h => h) (Or.inl ⟨by rfl, ?_⟩) hS0 ?_
              rotate_left
              · intro w hSw
                go_simp
                try with_reducible rfl
              try simp only [Act.put, List.setIfInBounds_toArray, List.set_cons_zero, List.set_cons_succ]
              refine Rh.step (i := 5) (by kernel_rfl) rfl fun K' hK' => ?_
              have HK := Lib.hid hK'
              clear hK'
              go_simp
              refine (hd_above (HW3.out.kept (Ne.below_drew (Below.refl _ _))) (yy : Int)).mono ?_
              rintro e w28 ⟨he, h28, k28⟩
              rw [hn1] at he
              subst he
              have H28 := Lib.hid h28
              have HB28 := Lib.hid ((Ne.below_drew HB3.out).trans ((k28.below (HW3.out.kept (Ne.below_drew (Below.refl _ _))).size).mono hbs))
              have RP_28 := Lib.hid (k28.own (show Ne.OwnI wr.drew b (.slice (some ⟨gp, 0, none⟩) m cp) (Ne.encW l) from HO3.out) (by intro g e; cases e; exact List.mem_cons_self))
              have HU_28 := Lib.hid (k28.ibox (show Ne.IBox wr.drew gu (preU f n (i + 1)) from HU3.out) (List.mem_cons_of_mem _ List.mem_cons_self))
              have hS28 := (show (fun w' : World => w'.cell? ⟨gp, 0, none⟩ = some (.int .i64 (r : Int)) ∧ w'.cell? ⟨gp, J, none⟩ = some (.int .i64 (yy : Int)) ∧ w'.cell? ⟨gp, j0, none⟩ = some (.int .i64 (zz : Int))) w28 from ⟨k28.cell List.mem_cons_self hS0.1, k28.cell List.mem_cons_self hS0.2.1, k28.cell List.mem_cons_self hS0.2.2⟩)
              clear h28 k28
              refine HK.out _ _ ⟨hS28, ?_⟩
              clear HK K'
              try simp only [Act.put, List.setIfInBounds_toArray, List.set_cons_zero, List.set_cons_succ]
              refine Rh.take (some 159) (i := 11) (v := ?_) rfl (by kernel_rfl) (by kernel_rfl) (by kernel_rfl) (by kernel_rfl) (fun _ _ _ h => h) (Or.inl ⟨by rfl, ?_⟩) hS28 ?_
              rotate_left
              · intro w hSw
                go_simp
                try with_reducible rfl
              try simp only [Act.put, List.setIfInBounds_toArray, List.set_cons_zero, List.set_cons_succ]
              refine Rh.take (some 160) (i := 12) (v := ?_) rfl (by kernel_rfl) (by kernel_rfl) (by kernel_rfl) (by kernel_rfl) (fun _ _ _ h => h) (Or.inl ⟨by rfl, ?_⟩) hS28 ?_
              rotate_left
              · intro w hSw
                go_simp
                try with_reducible rfl
              try simp only [Act.put, List.setIfInBounds_toArray, List.set_cons_zero, List.set_cons_succ]
              refine Rh.take (some 161) (i := 13) (v := ?_) rfl (by kernel_rfl) (by kernel_rfl) (by kernel_rfl) (by kernel_rfl) (fun _ _ _ h => h) (Or.inl ⟨by rfl, ?_⟩) hS28 ?_
              rotate_left
              · intro w hSw
                go_simp
                try with_reducible rfl
              try simp only [Act.put, List.setIfInBounds_toArray, List.set_cons_zero, List.set_cons_succ]
              refine Rh.take (some 162) (i := 14) (v := ?_) rfl (by kernel_rfl) (by kernel_rfl) (by kernel_rfl) (by kernel_rfl) (fun _ _ _ h => h) (Or.inl ⟨by rfl, ?_⟩) hS28 ?_
              rotate_left
              · intro w hSw
                go_simp
                try with_reducible rfl
              try simp only [Act.put, List.setIfInBounds_toArray, List.set_cons_zero, List.set_cons_succ]
              refine Rh.take (some 163) (i := 15) (v := ?_) rfl (by kernel_rfl) (by kernel_rfl) (by kernel_rfl) (by kernel_rfl) (fun _ _ _ h => h) (Or.inl ⟨by rfl, ?_⟩) hS28 ?_
              rotate_left
              · intro w hSw
                go_simp
                try with_reducible rfl
              try simp only [Act.put, List.setIfInBounds_toArray, List.set_cons_zero, List.set_cons_succ]
              refine Rh.take (some 164) (i := 16) (v := ?_) rfl (by kernel_rfl) (by kernel_rfl) (by kernel_rfl) (by kernel_rfl) (fun _ _ _ h => h) (Or.inl ⟨by rfl, ?_⟩) hS28 ?_
              rotate_left
              · intro w hSw
                go_simp
                try with_reducible rfl
              try simp only [Act.put, List.setIfInBounds_toArray, List.set_cons_zero, List.set_cons_succ]
              refine Rh.take (some 165) (i := 17) (v := ?_) rfl (by kernel_rfl) (by kernel_rfl) (by kernel_rfl) (by kernel_rfl) (fun _ _ _ h => h) (Or.inl ⟨by rfl, ?_⟩) hS28 ?_
              rotate_left
              · intro w hSw
                go_simp
                try with_reducible rfl
              try simp only [Act.put, List.setIfInBounds_toArray, List.set_cons_zero, List.set_cons_succ]
              refine Rh.take (some 167) (i := 19) (v := ?_) rfl (by kernel_rfl) (by kernel_rfl) (by kernel_rfl) (by kernel_rfl) (fun _ _ _ h => h) (Or.inl ⟨by rfl, ?_⟩) hS28 ?_
              rotate_left
              · intro w hSw
                go_simp
                try with_reducible rfl
              try simp only [Act.put, List.setIfInBounds_toArray, List.set_cons_zero, List.set_cons_succ]
              refine Rh.take (some 168) (i := 20) (v := ?_) rfl (by kernel_rfl) (by kernel_rfl) (by kernel_rfl) (by kernel_rfl) (fun _ _ _ h => h) (Or.inl ⟨by rfl, ?_⟩) hS28 ?_
              rotate_left
              · intro w hSw
                go_simp
                try with_reducible rfl
              try simp only [Act.put, List.setIfInBounds_toArray, List.set_cons_zero, List.set_cons_succ]
              refine Rh.take (some 169) (i := 21) (v := ?_) rfl (by kernel_rfl) (by kernel_rfl) (by kernel_rfl) (by kernel_rfl) (fun _ _ _ h => h) (Or.inl ⟨by rfl, ?_⟩) hS28 ?_
              rotate_left
              · intro w hSw
                go_simp
                try with_reducible rfl
              try simp only [Act.put, List.setIfInBounds_toArray, List.set_cons_zero, List.set_cons_succ]
              refine Rh.step (i := 18) (by kernel_rfl) rfl fun K' hK' => ?_
              have HK := Lib.hid hK'
              clear hK'
              go_simp
              refine (hd_root H28.out (yy : Int)).mono ?_
              rintro e w29 ⟨he, h29, k29⟩
              rw [hn2'] at he
              subst he
              have H29 := Lib.hid h29
              have HB29 := Lib.hid (HB28.out.trans ((k29.below H28.out.size).mono hbs))
              have RP_29 := Lib.hid (k29.own RP_28.out (by intro g e; cases e; exact List.mem_cons_self))
              have HU_29 := Lib.hid (k29.ibox HU_28.out (List.mem_cons_of_mem _ List.mem_cons_self))
              have hS29 := (show (fun w' : World => w'.cell? ⟨gp, 0, none⟩ = some (.int .i64 (r : Int)) ∧ w'.cell? ⟨gp, J, none⟩ = some (.int .i64 (yy : Int)) ∧ w'.cell? ⟨gp, j0, none⟩ = some (.int .i64 (zz : Int))) w29 from ⟨k29.cell List.mem_cons_self hS28.1, k29.cell List.mem_cons_self hS28.2.1, k29.cell List.mem_cons_self hS28.2.2⟩)
              clear h29 k29
              refine HK.out _ _ ⟨hS29, ?_⟩
              clear HK K'
              try simp only [Act.put, List.setIfInBounds_toArray, List.set_cons_zero, List.set_cons_succ]
              refine Rh.take (some 170) (i := 22) (v := ?_) rfl (by kernel_rfl) (by kernel_rfl) (by kernel_rfl) (by kernel_rfl) (fun _ _ _ h => h) (Or.inl ⟨by rfl, ?_⟩) hS29 ?_
              rotate_left
              · intro w hSw
                go_simp
                try with_reducible rfl
              try simp only [Act.put, List.setIfInBounds_toArray, List.set_cons_zero, List.set_cons_succ]
              refine Rh.take (some 171) (i := 23) (v := ?_) rfl (by kernel_rfl) (by kernel_rfl) (by kernel_rfl) (by kernel_rfl) (fun _ _ _ h => h) (Or.inl ⟨by rfl, ?_⟩) hS29 ?_
              rotate_left
              · intro w hSw
                go_simp
                try with_reducible rfl
              try simp only [Act.put, List.setIfInBounds_toArray, List.set_cons_zero, List.set_cons_succ]
              refine Rh.done (by kernel_rfl) ?_ _
              go_wp2
              go_roundg (M0 - (j0 + 1))
              case measure => omega
              case rel => exact ⟨J + 1, j0 + 1, by rfl, by omega, Lib.hid (by rw [HJJ.out]), Lib.hid H29.out, RP_29, HU_29, Lib.hid HB29.out⟩
            · have hji : ¬ (J : Int) < (m : Int) := by omega
              have hjn : ¬ J < m := by omega
              have HWL := Lib.hid (HW3.out.less (K2 := [gu]) (fun x hx => List.mem_cons_of_mem _ hx))
              go_wp2
              go_roundg (n - (i + 1))
              case measure => omega
              case rel => exact ⟨i + 1, by go_num, by omega, HWL, HU3, HB3⟩
        · have ei : i = n := by omega
          subst i
          have HUU := Lib.hid (show Ne.IBox wr gu (ovL n f.up) by rw [← preU_n]; exact HU.out)
          clear HW0 HX0 HB0 HU hig
          have hxf : x < f.v.length := by rw [HSL.out]; exact hxn
          have hyf : y < f.v.length := by rw [HSL.out]; exact hyn
          obtain ⟨rr, hv1, hv2, hv3, hv4, hv5, hv6, hv7⟩ := evert_says HGD.out hyf
          have hxi : (x : Int) < (n : Int) := by omega
          have hx0 : (0 : Int) ≤ (x : Int) := by omega
          have trx : ∀ q : Int, (q != q) = false := fun q => by simp
          have tqx : ∀ q : Int, (q == q) = true := fun q => by simp
          obtain ⟨rx, hrx1, hrx2, hrx3, hrx4, hrx5⟩ := path_first HGD.out hxf
          go_wp2_with fail
          refine (PX.out _).mono ?_
          rintro e w' ⟨rfl, rfl⟩
          go_wp2_with fail
          refine (PY.out _).mono ?_
          rintro e w' ⟨rfl, rfl⟩
          go_wp2_with fail
          refine (hd_root HW.out (x : Int)).mono ?_
          rintro e w30 ⟨he, h30, k30⟩
          rw [hrx2] at he
          subst he
          have H30 := Lib.hid h30
          have HB30 := Lib.hid (HBX.out.trans ((k30.below HW.out.size).mono hbs))
          have HUU_30 := Lib.hid (k30.ibox HUU.out List.mem_cons_self)
          clear h30 k30
          rcases linkE_cases HGD.out hxf hyf with ⟨e1, e2, e3, e4⟩ | ⟨e1, e2, e4⟩ | ⟨e1, e2, e3, e4⟩
          · obtain ⟨u1, u2, u3, u4, u5, u6, u7⟩ := link_says HGD.out hxf hyf e2 e3
            rw [hrx2] at u2
            have urx : rx = x := by omega
            subst urx
            go_wp2_with fail
            refine (hd_link H30.out (rx : Int) (y : Int)).mono ?_
            rintro e w31 ⟨he, h31, k31⟩
            rw [e1] at he
            rw [e4] at h31
            subst he
            have H31 := Lib.hid h31
            have HB31 := Lib.hid (HB30.out.trans ((k31.below H30.out.size).mono hbs))
            have HUU_31 := Lib.hid (k31.ibox HUU_30.out List.mem_cons_self)
            clear h31 k31
            have trr : ((rx : Int) == (rx : Int)) = true := by simp
            have tyy : ((y : Int) == (y : Int)) = true := by simp
            have c0 := HUU_31.out.cell (i := rx) (by rw [ovL_len]; exact hxn)
            rw [ovL_at _ hxn, e2] at c0
            simp only [oz] at c0
            clear c0
            go_wp2_with fail
            refine (hd_root H31.out (y : Int)).mono ?_
            rintro e w32 ⟨he, h32, k32⟩
            rw [u4] at he
            subst he
            have H32 := Lib.hid h32
            have HB32 := Lib.hid (HB31.out.trans ((k32.below H31.out.size).mono hbs))
            have HUU_32 := Lib.hid (k32.ibox HUU_31.out List.mem_cons_self)
            clear h32 k32
            obtain ⟨q7, hq7⟩ : ∃ q7, q7 = rootZ (linkF f rx y) (rx : Int) := ⟨_, rfl⟩
            rw [← hq7]
            have tq7 : (q7 == q7) = true := by simp
            go_wp2_with fail
            refine (hd_root H32.out (rx : Int)).mono ?_
            rintro e w33 ⟨he, h33, k33⟩
            rw [← hq7] at he
            subst he
            have H33 := Lib.hid h33
            have HB33 := Lib.hid (HB32.out.trans ((k33.below H32.out.size).mono hbs))
            have HUU_33 := Lib.hid (k33.ibox HUU_32.out List.mem_cons_self)
            clear h33 k33
            have c0 := HUU_33.out.cell (i := rx) (by rw [ovL_len]; exact hxn)
            rw [ovL_at _ hxn, e2] at c0
            simp only [oz] at c0
            go_wp2_with fail
            refine (hd_above H33.out (rx : Int)).mono ?_
            rintro e w34 ⟨he, h34, k34⟩
            rw [u5] at he
            subst he
            have H34 := Lib.hid h34
            have HB34 := Lib.hid (HB33.out.trans ((k34.below H33.out.size).mono hbs))
            have HUU_34 := Lib.hid (k34.ibox HUU_33.out List.mem_cons_self)
            clear h34 k34
            go_wp2_with fail
            refine (hd_cut H34.out (rx : Int)).mono ?_
            rintro e w35 ⟨he, h35, k35⟩
            rw [u6] at he
            rw [u7] at h35
            subst he
            have H35 := Lib.hid h35
            have HB35 := Lib.hid (HB34.out.trans ((k35.below H34.out.size).mono hbs))
            have HUU_35 := Lib.hid (k35.ibox HUU_34.out List.mem_cons_self)
            clear h35 k35
            clear c0 u1 u2 u3 u4 u5 u6 u7 e1 e2 e3 e4
            go_wp2_with fail
            refine (hd_root H35.out (y : Int)).mono ?_
            rintro e w36 ⟨he, h36, k36⟩
            rw [hv1] at he
            subst he
            have H36 := Lib.hid h36
            have HB36 := Lib.hid (HB35.out.trans ((k36.below H35.out.size).mono hbs))
            have HUU_36 := Lib.hid (k36.ibox HUU_35.out List.mem_cons_self)
            clear h36 k36
            go_wp2_with fail
            refine (hd_evert H36.out (y : Int)).mono ?_
            rintro e w37 ⟨he, h37, k37⟩
            rw [hv3] at he
            rw [hv4] at h37
            subst he
            have H37 := Lib.hid h37
            have HB37 := Lib.hid (HB36.out.trans ((k37.below H36.out.size).mono hbs))
            have HUU_37 := Lib.hid (k37.ibox HUU_36.out List.mem_cons_self)
            clear h37 k37
            go_wp2_with fail
            refine (hd_root H37.out (rr : Int)).mono ?_
            rintro e w38 ⟨he, h38, k38⟩
            rw [hv5] at he
            subst he
            have H38 := Lib.hid h38
            have HB38 := Lib.hid (HB37.out.trans ((k38.below H37.out.size).mono hbs))
            have HUU_38 := Lib.hid (k38.ibox HUU_37.out List.mem_cons_self)
            clear h38 k38
            go_wp2_with fail
            refine (hd_evert H38.out (rr : Int)).mono ?_
            rintro e w39 ⟨he, h39, k39⟩
            rw [hv6] at he
            rw [hv7] at h39
            subst he
            have H39 := Lib.hid h39
            have HB39 := Lib.hid (HB38.out.trans ((k39.below H38.out.size).mono hbs))
            have HUU_39 := Lib.hid (k39.ibox HUU_38.out List.mem_cons_self)
            clear h39 k39
            clear hv1 hv2 hv3 hv4 hv5 hv6 hv7
            go_wp2
            go_loopg [24] n (fun gg si wz => ∃ k9 : Nat, si = .int .i64 k9 ∧ k9 + gg = n ∧ Hid (Hd wz b p f [gu]) ∧ Hid (Ne.IBox wz gu (ovL n f.up)) ∧ Hid (Below w.heap.size w wz))
            case atStart => exact ⟨0, rfl, by omega, H39, HUU_39, HB39⟩
            case round =>
              obtain ⟨k9, rfl, hkg, HW4, HU4, HB4⟩ := hrel
              by_cases hk : k9 < n
              · have hki : (k9 : Int) < (n : Int) := by omega
                have hk0 : (0 : Int) ≤ (k9 : Int) := by omega
                have hab := aboveZ_nat (f := f) (v := k9) (by rw [HSL.out]; exact hk)
                have c0 := HU4.out.cell (i := k9) (by rw [ovL_len]; exact hk)
                rw [ovL_at _ hk] at c0
                generalize oz (f.up k9) = q9 at *
                have tq : (q9 != q9) = false := by simp
                go_upto_region 47 with fail
                have hS0 := (show (fun w' : World => w'.cell? ⟨gu, k9, none⟩ = some (.int .i64 q9)) wr.drew from c0)
                clear c0
                refine Rh.start (S := (fun w' : World => w'.cell? ⟨gu, k9, none⟩ = some (.int .i64 q9))) (by kernel_rfl) ?_
                refine Rh.take (some 247) (i := 0) (v := ?_) rfl (by kernel_rfl) (by kernel_rfl) (by kernel_rfl) (by kernel_rfl) (fun _ _ _ h => h) (Or.inl ⟨by rfl, ?_⟩) hS0 ?_
                rotate_left
                · intro w hSw
                  go_simp
                  try with_reducible rfl
                try simp only [Act.put, List.setIfInBounds_toArray, List.set_cons_zero, List.set_cons_succ]
                refine Rh.take (some 248) (i := 1) (v := ?_) rfl (by kernel_rfl) (by kernel_rfl) (by kernel_rfl) (by kernel_rfl) (fun _ _ _ h => h) (Or.inl ⟨by rfl, ?_⟩) hS0 ?_
                rotate_left
                · intro w hSw
                  go_simp
                  try with_reducible rfl
                try simp only [Act.put, List.setIfInBounds_toArray, List.set_cons_zero, List.set_cons_succ]
                refine Rh.take (some 250) (i := 3) (v := ?_) rfl (by kernel_rfl) (by kernel_rfl) (by kernel_rfl) (by kernel_rfl) (fun _ _ _ h => h) (Or.inl ⟨by rfl, ?_⟩) hS0 ?_
                rotate_left
                · intro w hSw
                  go_simp
                  try with_reducible rfl
                try simp only [Act.put, List.setIfInBounds_toArray, List.set_cons_zero, List.set_cons_succ]
                refine Rh.take (some 251) (i := 4) (v := ?_) rfl (by kernel_rfl) (by kernel_rfl) (by kernel_rfl) (by kernel_rfl) (fun _ _ _ h => h) (Or.inl ⟨by rfl, ?_⟩) hS0 ?_
                rotate_left
                · intro w hSw
                  go_simp
                  try with_reducible rfl
                try simp only [Act.put, List.setIfInBounds_toArray, List.set_cons_zero, List.set_cons_succ]
                refine Rh.take (some 252) (i := 5) (v := ?_) rfl (by kernel_rfl) (by kernel_rfl) (by kernel_rfl) (by kernel_rfl) (fun _ _ _ h => h) (Or.inl ⟨by rfl, ?_⟩) hS0 ?_
                rotate_left
                · intro w hSw
                  go_simp
                  try with_reducible rfl
                try simp only [Act.put, List.setIfInBounds_toArray, List.set_cons_zero, List.set_cons_succ]
                refine Rh.take (some 253) (i := 6) (v := ?_) rfl (by kernel_rfl) (by kernel_rfl) (by kernel_rfl) (by kernel_rfl) (fun _ _ _ h => h) (Or.inl ⟨by rfl, ?_⟩) hS0 ?_
                rotate_left
                · intro w hSw
                  go_simp
                  try with_reducible rfl
                try simp only [Act.put, List.setIfInBounds_toArray, List.set_cons_zero, List.set_cons_succ]
                refine Rh.step (i := 2) (by kernel_rfl) rfl fun K' hK' => ?_
                have HK := Lib.hid hK'
                clear hK'
                go_simp
                refine (hd_above (HW4.out.kept (Ne.below_drew (Below.refl _ _))) (k9 : Int)).mono ?_
                rintro e w40 ⟨he, h40, k40⟩
                rw [hab] at he
                subst he
                have H40 := Lib.hid h40
                have HB40 := Lib.hid ((Ne.below_drew HB4.out).trans ((k40.below (HW4.out.kept (Ne.below_drew (Below.refl _ _))).size).mono hbs))
                have HUU_40 := Lib.hid (k40.ibox (show Ne.IBox wr.drew gu (ovL n f.up) from HU4.out) List.mem_cons_self)
                have hS40 := (show (fun w' : World => w'.cell? ⟨gu, k9, none⟩ = some (.int .i64 q9)) w40 from k40.cell List.mem_cons_self hS0)
                clear h40 k40
                refine HK.out _ _ ⟨hS40, ?_⟩
                clear HK K'
                try simp only [Act.put, List.setIfInBounds_toArray, List.set_cons_zero, List.set_cons_succ]
                refine Rh.take (some 254) (i := 7) (v := ?_) rfl (by kernel_rfl) (by kernel_rfl) (by kernel_rfl) (by kernel_rfl) (fun _ _ _ h => h) (Or.inl ⟨by rfl, ?_⟩) hS40 ?_
                rotate_left
                · intro w hSw
                  go_simp
                  try with_reducible rfl
                try simp only [Act.put, List.setIfInBounds_toArray, List.set_cons_zero, List.set_cons_succ]
                refine Rh.done (by kernel_rfl) ?_ _
                go_wp2
                go_roundg (n - (k9 + 1))
                case measure => omega
                case rel => exact ⟨k9 + 1, by go_num, by omega, H40, HUU_40, HB40⟩
              · go_wp2
                go_ret
                exact ⟨rfl, HB4.out⟩
          · have urx : ((rx : Int) == (x : Int)) = false := by
              have : rx ≠ x := fun c => by rw [c] at hrx4; rw [hrx4] at e2; cases e2
              simp; omega
            go_wp2_with fail
            refine (hd_link H30.out (x : Int) (y : Int)).mono ?_
            rintro e w41 ⟨he, h41, k41⟩
            rw [e1] at he
            rw [e4] at h41
            subst he
            have H41 := Lib.hid h41
            have HB41 := Lib.hid (HB30.out.trans ((k41.below H30.out.size).mono hbs))
            have HUU_41 := Lib.hid (k41.ibox HUU_30.out List.mem_cons_self)
            clear h41 k41
            clear e1 e2 e4
            go_wp2_with fail
            refine (hd_root H41.out (y : Int)).mono ?_
            rintro e w42 ⟨he, h42, k42⟩
            rw [hv1] at he
            subst he
            have H42 := Lib.hid h42
            have HB42 := Lib.hid (HB41.out.trans ((k42.below H41.out.size).mono hbs))
            have HUU_42 := Lib.hid (k42.ibox HUU_41.out List.mem_cons_self)
            clear h42 k42
            go_wp2_with fail
            refine (hd_evert H42.out (y : Int)).mono ?_
            rintro e w43 ⟨he, h43, k43⟩
            rw [hv3] at he
            rw [hv4] at h43
            subst he
            have H43 := Lib.hid h43
            have HB43 := Lib.hid (HB42.out.trans ((k43.below H42.out.size).mono hbs))
            have HUU_43 := Lib.hid (k43.ibox HUU_42.out List.mem_cons_self)
            clear h43 k43
            go_wp2_with fail
            refine (hd_root H43.out (rr : Int)).mono ?_
            rintro e w44 ⟨he, h44, k44⟩
            rw [hv5] at he
            subst he
            have H44 := Lib.hid h44
            have HB44 := Lib.hid (HB43.out.trans ((k44.below H43.out.size).mono hbs))
            have HUU_44 := Lib.hid (k44.ibox HUU_43.out List.mem_cons_self)
            clear h44 k44
            go_wp2_with fail
            refine (hd_evert H44.out (rr : Int)).mono ?_
            rintro e w45 ⟨he, h45, k45⟩
            rw [hv6] at he
            rw [hv7] at h45
            subst he
            have H45 := Lib.hid h45
            have HB45 := Lib.hid (HB44.out.trans ((k45.below H44.out.size).mono hbs))
            have HUU_45 := Lib.hid (k45.ibox HUU_44.out List.mem_cons_self)
            clear h45 k45
            clear hv1 hv2 hv3 hv4 hv5 hv6 hv7
            go_wp2
            go_loopg [24] n (fun gg si wz => ∃ k9 : Nat, si = .int .i64 k9 ∧ k9 + gg = n ∧ Hid (Hd wz b p f [gu]) ∧ Hid (Ne.IBox wz gu (ovL n f.up)) ∧ Hid (Below w.heap.size w wz))
            case atStart => exact ⟨0, rfl, by omega, H45, HUU_45, HB45⟩
            case round =>
              obtain ⟨k9, rfl, hkg, HW4, HU4, HB4⟩ := hrel
              by_cases hk : k9 < n
              · have hki : (k9 : Int) < (n : Int) := by omega
                have hk0 : (0 : Int) ≤ (k9 : Int) := by omega
                have hab := aboveZ_nat (f := f) (v := k9) (by rw [HSL.out]; exact hk)
                have c0 := HU4.out.cell (i := k9) (by rw [ovL_len]; exact hk)
                rw [ovL_at _ hk] at c0
                generalize oz (f.up k9) = q9 at *
                have tq : (q9 != q9) = false := by simp
                go_upto_region 47 with fail
                have hS0 := (show (fun w' : World => w'.cell? ⟨gu, k9, none⟩ = some (.int .i64 q9)) wr.drew from c0)
                clear c0
                refine Rh.start (S := (fun w' : World => w'.cell? ⟨gu, k9, none⟩ = some (.int .i64 q9))) (by kernel_rfl) ?_
                refine Rh.take (some 247) (i := 0) (v := ?_) rfl (by kernel_rfl) (by kernel_rfl) (by kernel_rfl) (by kernel_rfl) (fun _ _ _ h => h) (Or.inl ⟨by rfl, ?_⟩) hS0 ?_
                rotate_left
                · intro w hSw
                  go_simp
                  try with_reducible rfl
                try simp only [Act.put, List.setIfInBounds_toArray, List.set_cons_zero, List.set_cons_succ]
                refine Rh.take (some 248) (i := 1) (v := ?_) rfl (by kernel_rfl) (by kernel_rfl) (by kernel_rfl) (by kernel_rfl) (fun _ _ _ h => h) (Or.inl ⟨by rfl, ?_⟩) hS0 ?_
                rotate_left
                · intro w hSw
                  go_simp
                  try with_reducible rfl
                try simp only [Act.put, List.setIfInBounds_toArray, List.set_cons_zero, List.set_cons_succ]
                refine Rh.take (some 250) (i := 3) (v := ?_) rfl (by kernel_rfl) (by kernel_rfl) (by kernel_rfl) (by kernel_rfl) (fun _ _ _ h => h) (Or.inl ⟨by rfl, ?_⟩) hS0 ?_
                rotate_left
                · intro w hSw
                  go_simp
                  try with_reducible rfl
                try simp only [Act.put, List.setIfInBounds_toArray, List.set_cons_zero, List.set_cons_succ]
                refine Rh.take (some 251) (i := 4) (v := ?_) rfl (by kernel_rfl) (by kernel_rfl) (by kernel_rfl) (by kernel_rfl) (fun _ _ _ h => h) (Or.inl ⟨by rfl, ?_⟩) hS0 ?_
                rotate_left
                · intro w hSw
                  go_simp
                  try with_reducible rfl
                try simp only [Act.put, List.setIfInBounds_toArray, List.set_cons_zero, List.set_cons_succ]
                refine Rh.take (some 252) (i := 5) (v := ?_) rfl (by kernel_rfl) (by kernel_rfl) (by kernel_rfl) (by kernel_rfl) (fun _ _ _ h => h) (Or.inl ⟨by rfl, ?_⟩) hS0 ?_
                rotate_left
                · intro w hSw
                  go_simp
                  try with_reducible rfl
                try simp only [Act.put, List.setIfInBounds_toArray, List.set_cons_zero, List.set_cons_succ]
                refine Rh.take (some 253) (i := 6) (v := ?_) rfl (by kernel_rfl) (by kernel_rfl) (by kernel_rfl) (by kernel_rfl) (fun _ _ _ h => h) (Or.inl ⟨by rfl, ?_⟩) hS0 ?_
                rotate_left
                · intro w hSw
                  go_simp
                  try with_reducible rfl
                try simp only [Act.put, List.setIfInBounds_toArray, List.set_cons_zero, List.set_cons_succ]
                refine Rh.step (i := 2) (by kernel_rfl) rfl fun K' hK' => ?_
                have HK := Lib.hid hK'
                clear hK'
                go_simp
                refine (hd_above (HW4.out.kept (Ne.below_drew (Below.refl _ _))) (k9 : Int)).mono ?_
                rintro e w46 ⟨he, h46, k46⟩
                rw [hab] at he
                subst he
                have H46 := Lib.hid h46
                have HB46 := Lib.hid ((Ne.below_drew HB4.out).trans ((k46.below (HW4.out.kept (Ne.below_drew (Below.refl _ _))).size).mono hbs))
                have HUU_46 := Lib.hid (k46.ibox (show Ne.IBox wr.drew gu (ovL n f.up) from HU4.out) List.mem_cons_self)
                have hS46 := (show (fun w' : World => w'.cell? ⟨gu, k9, none⟩ = some (.int .i64 q9)) w46 from k46.cell List.mem_cons_self hS0)
                clear h46 k46
                refine HK.out _ _ ⟨hS46, ?_⟩
                clear HK K'
                try simp only [Act.put, List.setIfInBounds_toArray, List.set_cons_zero, List.set_cons_succ]
                refine Rh.take (some 254) (i := 7) (v := ?_) rfl (by kernel_rfl) (by kernel_rfl) (by kernel_rfl) (by kernel_rfl) (fun _ _ _ h => h) (Or.inl ⟨by rfl, ?_⟩) hS46 ?_
                rotate_left
                · intro w hSw
                  go_simp
                  try with_reducible rfl
                try simp only [Act.put, List.setIfInBounds_toArray, List.set_cons_zero, List.set_cons_succ]
                refine Rh.done (by kernel_rfl) ?_ _
                go_wp2
                go_roundg (n - (k9 + 1))
                case measure => omega
                case rel => exact ⟨k9 + 1, by go_num, by omega, H46, HUU_46, HB46⟩
              · go_wp2
                go_ret
                exact ⟨rfl, HB4.out⟩
          · have hrx6 := rootZ_root (HGD.out.root_top hxf e2)
            rw [hrx2] at hrx6
            have urx : rx = x := by omega
            subst urx
            have hry := rootZ_root e3
            have hax := aboveZ_nat hxf
            rw [e2] at hax
            simp only [oz] at hax
            go_wp2_with fail
            refine (hd_link H30.out (rx : Int) (y : Int)).mono ?_
            rintro e w47 ⟨he, h47, k47⟩
            rw [e1] at he
            rw [e4] at h47
            subst he
            have H47 := Lib.hid h47
            have HB47 := Lib.hid (HB30.out.trans ((k47.below H30.out.size).mono hbs))
            have HUU_47 := Lib.hid (k47.ibox HUU_30.out List.mem_cons_self)
            clear h47 k47
            have trr : ((rx : Int) == (rx : Int)) = true := by simp
            go_wp2_with fail
            refine (hd_root H47.out (y : Int)).mono ?_
            rintro e w48 ⟨he, h48, k48⟩
            rw [hry] at he
            subst he
            have H48 := Lib.hid h48
            have HB48 := Lib.hid (HB47.out.trans ((k48.below H47.out.size).mono hbs))
            have HUU_48 := Lib.hid (k48.ibox HUU_47.out List.mem_cons_self)
            clear h48 k48
            go_wp2_with fail
            refine (hd_root H48.out (rx : Int)).mono ?_
            rintro e w49 ⟨he, h49, k49⟩
            rw [hrx2] at he
            subst he
            have H49 := Lib.hid h49
            have HB49 := Lib.hid (HB48.out.trans ((k49.below H48.out.size).mono hbs))
            have HUU_49 := Lib.hid (k49.ibox HUU_48.out List.mem_cons_self)
            clear h49 k49
            have c0 := HUU_49.out.cell (i := rx) (by rw [ovL_len]; exact hxn)
            rw [ovL_at _ hxn, e2] at c0
            simp only [oz] at c0
            have tm : ((-1 : Int) == (y : Int)) = false := by simp <;> omega
            go_wp2_with fail
            refine (hd_above H49.out (rx : Int)).mono ?_
            rintro e w50 ⟨he, h50, k50⟩
            rw [hax] at he
            subst he
            have H50 := Lib.hid h50
            have HB50 := Lib.hid (HB49.out.trans ((k50.below H49.out.size).mono hbs))
            have HUU_50 := Lib.hid (k50.ibox HUU_49.out List.mem_cons_self)
            clear h50 k50
            clear c0 e1 e2 e3 e4 hax hry
            go_wp2_with fail
            refine (hd_root H50.out (y : Int)).mono ?_
            rintro e w51 ⟨he, h51, k51⟩
            rw [hv1] at he
            subst he
            have H51 := Lib.hid h51
            have HB51 := Lib.hid (HB50.out.trans ((k51.below H50.out.size).mono hbs))
            have HUU_51 := Lib.hid (k51.ibox HUU_50.out List.mem_cons_self)
            clear h51 k51
            go_wp2_with fail
            refine (hd_evert H51.out (y : Int)).mono ?_
            rintro e w52 ⟨he, h52, k52⟩
            rw [hv3] at he
            rw [hv4] at h52
            subst he
            have H52 := Lib.hid h52
            have HB52 := Lib.hid (HB51.out.trans ((k52.below H51.out.size).mono hbs))
            have HUU_52 := Lib.hid (k52.ibox HUU_51.out List.mem_cons_self)
            clear h52 k52
            go_wp2_with fail
            refine (hd_root H52.out (rr : Int)).mono ?_
            rintro e w53 ⟨he, h53, k53⟩
            rw [hv5] at he
            subst he
            have H53 := Lib.hid h53
            have HB53 := Lib.hid (HB52.out.trans ((k53.below H52.out.size).mono hbs))
            have HUU_53 := Lib.hid (k53.ibox HUU_52.out List.mem_cons_self)
            clear h53 k53
            go_wp2_with fail
            refine (hd_evert H53.out (rr : Int)).mono ?_
            rintro e w54 ⟨he, h54, k54⟩
            rw [hv6] at he
            rw [hv7] at h54
            subst he
            have H54 := Lib.hid h54
            have HB54 := Lib.hid (HB53.out.trans ((k54.below H53.out.size).mono hbs))
            have HUU_54 := Lib.hid (k54.ibox HUU_53.out List.mem_cons_self)
            clear h54 k54
            clear hv1 hv2 hv3 hv4 hv5 hv6 hv7
            go_wp2
            go_loopg [24] n (fun gg si wz => ∃ k9 : Nat, si = .int .i64 k9 ∧ k9 + gg = n ∧ Hid (Hd wz b p f [gu]) ∧ Hid (Ne.IBox wz gu (ovL n f.up)) ∧ Hid (Below w.heap.size w wz))
            case atStart => exact ⟨0, rfl, by omega, H54, HUU_54, HB54⟩
            case round =>
              obtain ⟨k9, rfl, hkg, HW4, HU4, HB4⟩ := hrel
              by_cases hk : k9 < n
              · have hki : (k9 : Int) < (n : Int) := by omega
                have hk0 : (0 : Int) ≤ (k9 : Int) := by omega
                have hab := aboveZ_nat (f := f) (v := k9) (by rw [HSL.out]; exact hk)
                have c0 := HU4.out.cell (i := k9) (by rw [ovL_len]; exact hk)
                rw [ovL_at _ hk] at c0
                generalize oz (f.up k9) = q9 at *
                have tq : (q9 != q9) = false := by simp
                go_upto_region 47 with fail
                have hS0 := (show (fun w' : World => w'.cell? ⟨gu, k9, none⟩ = some (.int .i64 q9)) wr.drew from c0)
                clear c0
                refine Rh.start (S := (fun w' : World => w'.cell? ⟨gu, k9, none⟩ = some (.int .i64 q9))) (by kernel_rfl) ?_
                refine Rh.take (some 247) (i := 0) (v := ?_) rfl (by kernel_rfl) (by kernel_rfl) (by kernel_rfl) (by kernel_rfl) (fun _ _ _ h => h) (Or.inl ⟨by rfl, ?_⟩) hS0 ?_
                rotate_left
                · intro w hSw
                  go_simp
                  try with_reducible rfl
                try simp only [Act.put, List.setIfInBounds_toArray, List.set_cons_zero, List.set_cons_succ]
                refine Rh.take (some 248) (i := 1) (v := ?_) rfl (by kernel_rfl) (by kernel_rfl) (by kernel_rfl) (by kernel_rfl) (fun _ _ _ h => h) (Or.inl ⟨by rfl, ?_⟩) hS0 ?_
                rotate_left
                · intro w hSw
                  go_simp
                  try with_reducible rfl
                try simp only [Act.put, List.setIfInBounds_toArray, List.set_cons_zero, List.set_cons_succ]
                refine Rh.take (some 250) (i := 3) (v := ?_) rfl (by kernel_rfl) (by kernel_rfl) (by kernel_rfl) (by kernel_rfl) (fun _ _ _ h => h) (Or.inl ⟨by rfl, ?_⟩) hS0 ?_
                rotate_left
                · intro w hSw
                  go_simp
                  try with_reducible rfl
                try simp only [Act.put, List.setIfInBounds_toArray, List.set_cons_zero, List.set_cons_succ]
                refine Rh.take (some 251) (i := 4) (v := ?_) rfl (by kernel_rfl) (by kernel_rfl) (by kernel_rfl) (by kernel_rfl) (fun _ _ _ h => h) (Or.inl ⟨by rfl, ?_⟩) hS0 ?_
                rotate_left
                · intro w hSw
                  go_simp
                  try with_reducible rfl
                try simp only [Act.put, List.setIfInBounds_toArray, List.set_cons_zero, List.set_cons_succ]
                refine Rh.take (some 252) (i := 5) (v := ?_) rfl (by kernel_rfl) (by kernel_rfl) (by kernel_rfl) (by kernel_rfl) (fun _ _ _ h => h) (Or.inl ⟨by rfl, ?_⟩) hS0 ?_
                rotate_left
                · intro w hSw
                  go_simp
                  try with_reducible rfl
                try simp only [Act.put, List.setIfInBounds_toArray, List.set_cons_zero, List.set_cons_succ]
                refine Rh.take (some 253) (i := 6) (v := ?_) rfl (by kernel_rfl) (by kernel_rfl) (by kernel_rfl) (by kernel_rfl) (fun _ _ _ h => h) (Or.inl ⟨by rfl, ?_⟩) hS0 ?_
                rotate_left
                · intro w hSw
                  go_simp
                  try with_reducible rfl
                try simp only [Act.put, List.setIfInBounds_toArray, List.set_cons_zero, List.set_cons_succ]
                refine Rh.step (i := 2) (by kernel_rfl) rfl fun K' hK' => ?_
                have HK := Lib.hid hK'
                clear hK'
                go_simp
                refine (hd_above (HW4.out.kept (Ne.below_drew (Below.refl _ _))) (k9 : Int)).mono ?_
                rintro e w55 ⟨he, h55, k55⟩
                rw [hab] at he
                subst he
                have H55 := Lib.hid h55
                have HB55 := Lib.hid ((Ne.below_drew HB4.out).trans ((k55.below (HW4.out.kept (Ne.below_drew (Below.refl _ _))).size).mono hbs))
                have HUU_55 := Lib.hid (k55.ibox (show Ne.IBox wr.drew gu (ovL n f.up) from HU4.out) List.mem_cons_self)
                have hS55 := (show (fun w' : World => w'.cell? ⟨gu, k9, none⟩ = some (.int .i64 q9)) w55 from k55.cell List.mem_cons_self hS0)
                clear h55 k55
                refine HK.out _ _ ⟨hS55, ?_⟩
                clear HK K'
                try simp only [Act.put, List.setIfInBounds_toArray, List.set_cons_zero, List.set_cons_succ]
                refine Rh.take (some 254) (i := 7) (v := ?_) rfl (by kernel_rfl) (by kernel_rfl) (by kernel_rfl) (by kernel_rfl) (fun _ _ _ h => h) (Or.inl ⟨by rfl, ?_⟩) hS55 ?_
                rotate_left
                · intro w hSw
                  go_simp
                  try with_reducible rfl
                try simp only [Act.put, List.setIfInBounds_toArray, List.set_cons_zero, List.set_cons_succ]
                refine Rh.done (by kernel_rfl) ?_ _
                go_wp2
                go_roundg (n - (k9 + 1))
                case measure => omega
                case rel => exact ⟨k9 + 1, by go_num, by omega, H55, HUU_55, HB55⟩
              · go_wp2
                go_ret
                exact ⟨rfl, HB4.out⟩

end Go.Proofs.Ytjhodnpmogkmmaa.forestBack
