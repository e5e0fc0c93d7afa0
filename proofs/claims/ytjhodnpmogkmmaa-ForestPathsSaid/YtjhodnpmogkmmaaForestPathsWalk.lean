/- ForestPaths: for every input the law returns true and its arguments read as they did. No condition. -/
import Derived.Test.YtjhodnpmogkmmaaFlk
import Derived.Test.YtjhodnpmogkmmaaFla
import Derived.Test.YtjhodnpmogkmmaaOpa
import Derived.Test.YtjhodnpmogkmmaaEnd
import Derived.Deep.LoopGhost
import Derived.Deep.DeepCutAuto
import Derived.Test.YtjhodnpmogkmmaaRows
import Derived.WalkKit
import Derived.ProofKit
import Derived.OpenShut
import Derived.ShutString
import Derived.ChangeOld
import Derived.Below
import Derived.Deep.Strs
namespace Go.Proofs.Ytjhodnpmogkmmaa.forestPaths
open Go.ChangeShapes Go.WideShapes Go.ChangeAt Go.RowKit
open Go.ChangeMaps (open_string shut_string)
set_option linter.unusedVariables false
set_option linter.unusedSimpArgs false

theorem own : ownKnob Try.prog.godebug = none := by kernel_rfl
theorem laidOut : laidOutB Try.prog = true := by kernel_rfl

open Fo
theorem linkS_v (f : Ft) (a b : Int) : (linkS f a b).v = f.v := by unfold linkS; split <;> rfl
theorem evertS_v (f : Ft) (a : Int) : (evertS f a).v = f.v := by unfold evertS; split <;> rfl
theorem row_one64 (w : World) (x : Int) (T : TypeId) : Ne.IRow (w.alloc (.cells #[.int .i64 x] T)) (some ⟨w.heap.size, 0, none⟩) [x] := by
  refine .inr ⟨w.heap.size, 0, rfl, by simp, fun i a hi j v hv => ?_⟩
  have h1 : j = 0 := by
    rcases j with _ | j
    · rfl
    · simp [Ne.encI] at hv
  subst h1
  simp [Ne.encI] at hv
  subst hv
  rcases i with _ | i
  · simp at hi; subst hi; exact World.cell?_alloc_new w _ _ 0
  · simp at hi
theorem vals_kp {K : List Nat} {B gv : Nat} {w w2 : World} {vs : List Int} (h : Ne.IRow w (some ⟨gv, 0, none⟩) vs) (hg : gv < B) (k : Kp K B w w2) (hB : B ≤ w.heap.size) : Ne.IRow w2 (some ⟨gv, 0, none⟩) vs :=
  Rw.Row.below h (fun b off e => by cases e; exact hg) k.size (k.below hB)

set_option maxRecDepth 100000 in
set_option maxHeartbeats 4000000 in
theorem walk (a0 : Int) (a1 : List Sp.Act) (o1 : Option Addr) (c1 : Nat) (a2 : Int) (a3 : Int) (w : World) (w0 : (Lit.int .i64 a0).wf = true) (k1 : ∀ a ∈ a1, Sp.Act.ok a) (z1 : a1.length ≤ c1) (y1 : c1 ≤ maxLen) (n1 : o1 = none → c1 = 0) (r1 : Sp.TRow w o1 a1) (w2 : (Lit.int .i64 a2).wf = true) (w3 : (Lit.int .i64 a3).wf = true) :
    Calls Try.prog 6 #[.int .i64 a0, .slice o1 a1.length c1, .int .i64 a2, .int .i64 a3] w fun e w' => e = .returned (.bool true) ∧ Below w.heap.size w w' := by
  have HSH := Lib.hid (shown_any w)
  obtain ⟨M, hM⟩ : ∃ M, M = a1.length := ⟨_, rfl⟩
  rw [← hM] at z1 ⊢
  have HLL := Lib.hid hM
  have hm64 : M ≤ 9223372036854775807 := by unfold maxLen at y1; omega
  have KA := Lib.hid k1
  have TR := Lib.hid r1
  clear hM z1 y1 n1 k1 r1
  have b0 := bounds_i64 w0
  have b2 := bounds_i64 w2
  have b3 := bounds_i64 w3
  clear w0 w2 w3
  by_cases g1 : 80 < M
  · have g1' : (80 : Int) < (M : Int) := by omega
    go_enter Try.func6, Try.ntmps6
    go_wp2_with fail
    refine HSH.out.mono ?_
    rintro e w1 ⟨rfl, hb⟩
    have HB1 := Lib.hid hb
    clear hb
    go_wp2
    go_ret
    exact ⟨rfl, HB1.out⟩
  have g1' : ¬ (80 : Int) < (M : Int) := by omega
  have hm2 : M ≤ 80 := by omega
  clear g1
  have bpz0 := Ne.pickN_bd (c := a0) (n := 14) (by omega)
  have PN := Lib.hid fun w' => Ne.pick_any a0 14 w' b0.1 b0.2 (by omega) (by omega)
  generalize Ne.pickN a0 14 = z0 at *
  obtain ⟨n, hn⟩ : ∃ n : Nat, 2 + z0 = (n : Int) := ⟨(2 + z0).toNat, by omega⟩
  have hn2 : 2 ≤ n := by omega
  have hn16 : n ≤ 16 := by omega
  have hz0 : 0 ≤ z0 := bpz0.1
  have hz1 : z0 < 14 := bpz0.2
  clear b0 bpz0
  have bpX := Ne.pickN_bd (c := a2) (n := (n : Int)) (by omega)
  have PX := Lib.hid fun w' => Ne.pick_any a2 (n : Int) w' b2.1 b2.2 (by omega) (by omega)
  generalize Ne.pickN a2 (n : Int) = X at *
  obtain ⟨v, hv⟩ : ∃ v : Nat, X = (v : Int) := ⟨X.toNat, by omega⟩
  subst hv
  have hvn : v < n := by omega
  clear b2 bpX
  obtain ⟨dd, hdd⟩ : ∃ dd, Int.tmod a3 1000 = dd := ⟨_, rfl⟩
  have hdb : -1000 < dd ∧ dd < 1000 := by
    rw [← hdd]
    rcases (show a3 < 0 ∨ 0 ≤ a3 by omega) with c | c
    · have h1 := Int.tmod_nonneg (b := 1000) (a := -a3) (by omega)
      have h2 := Int.tmod_lt_of_pos (-a3) (b := 1000) (by omega)
      rw [Int.neg_tmod] at h1 h2
      omega
    · have h1 := Int.tmod_nonneg (b := 1000) (a := a3) c
      have h2 := Int.tmod_lt_of_pos a3 (b := 1000) (by omega)
      omega
  go_enter Try.func6, Try.ntmps6
  go_wp2_with fail
  refine HSH.out.mono ?_
  rintro e w1 ⟨rfl, hb⟩
  have HB1 := Lib.hid hb
  clear hb HSH
  go_wp2_with fail
  refine (PN.out _).mono ?_
  rintro e w' ⟨rfl, rfl⟩
  go_wp2
  go_loopg [11, 12] n (fun gg sv si wz => ∃ (i : Nat) (o : Option Addr) (c : Nat), sv = .slice o i c ∧ si = .int .i64 i ∧ i + gg = n ∧ Hid (Ne.OwnL wz w.heap.size (.slice o i c) (valL i)) ∧ Hid (Below w.heap.size w wz))
  case atStart => exact ⟨0, none, 0, rfl, rfl, by omega, Lib.hid (Rw.own_nil _ _), HB1⟩
  case round =>
    obtain ⟨i, o, c, rfl, rfl, hig, HO, HBX⟩ := hrel
    by_cases hi : i < n
    · have hii : (i : Int) < (n : Int) := by omega
      obtain ⟨q, hq⟩ : ∃ q, Int.tmod (7 * (i : Int)) 5 = q := ⟨_, rfl⟩
      have hw7 : IntKind.i64.wrap (7 * (i : Int)) = 7 * (i : Int) := by rw [IntKind.wrap_i64]; omega
      have HQ := Lib.hid (show valL (i + 1) = valL i ++ [q] by rw [valL_snoc, hq])
      have hq64 : 0 ≤ q ∧ q < 5 := by
        rw [← hq]
        exact ⟨Int.tmod_nonneg _ (by omega), Int.tmod_lt_of_pos _ (by omega)⟩
      have hwq : IntKind.i64.wrap q = q := by rw [IntKind.wrap_i64]; omega
      have HOA := Lib.hid (Rw.own_alloc HO.out (.cells #[.int .i64 q] 2))
      have HBA := Lib.hid (HBX.out.alloc HBX.out.size (.cells #[.int .i64 q] 2))
      have HKR := Lib.hid (row_one64 wr q 2)
      have HLN := Lib.hid (show (valL i).length + ([q] : List Int).length ≤ 1099511627776 by rw [valL_len]; simp; omega)
      go_wp2_with (at_builtin; refine Rw.appAt Ne.elemL Ne.encI_len Ne.encI_one rfl (.tmp 43) (.tmp 47) rfl w.heap.size _ (valL i) rfl HOA.out ⟨wr.heap.size, 0, none⟩ 1 [q] rfl HKR.out HLN.out HBA.out.size ?_; intro v6 w6 hown6 hgr6 hat6; rw [← HQ.out] at hown6; have HO6 := Lib.hid hown6; have HB6 := Lib.hid (HBA.out.grown hgr6 HBA.out.size (Rw.own_block HOA.out)); obtain ⟨o6, c6, hv6, _⟩ := Rw.own_row Ne.encI_len hown6; rw [valL_len] at hv6; subst hv6; clear hown6 hgr6 hat6)
      go_roundg (n - (i + 1))
      case measure => omega
      case rel => exact ⟨i + 1, o6, c6, rfl, by go_num, by omega, HO6, HB6⟩
    · have ei : i = n := by omega
      subst i
      clear hig HB1
      obtain ⟨gv, e0, hgv1, hgv2, _⟩ := Ne.own_cells Ne.encI_len HO.out (Ne.at_amt (f := valL n) (i := 0) (by rw [valL_len]; omega))
      subst e0
      have HVB := Lib.hid (valL_bd n)
      have hvl := valL_len n
      have NW := Lib.hid (hd_new (some ⟨gv, 0, none⟩) c (valL n) wr (Ne.own_irow HO.out) (fun h => by cases h) (valL_new (by omega)))
      rw [hvl] at NW
      have HV0 := Lib.hid (Ne.own_irow HO.out)
      have HGL := Lib.hid (show (newS (valL n)).v = valL n from rfl)
      have HVL := Lib.hid hvl
      clear hvl HO
      generalize newS (valL n) = s0 at *
      generalize valL n = vs at *
      go_wp2_with fail
      refine NW.out.mono ?_
      rintro e w2 ⟨p, rfl, h2, hb⟩
      have HB2 := Lib.hid (HBX.out.trans (hb.mono HBX.out.size))
      have HV2 := Lib.hid (HV0.out.kept hb)
      have H2 := Lib.hid h2
      have hbs : w.heap.size ≤ wr.heap.size := HBX.out.size
      have HGV := Lib.hid hgv2
      clear hb h2 NW HV0 HBX hgv2 hgv1
      generalize wr.heap.size = b at *
      go_wp2
      go_loopg [15] M (fun gg si wz => ∃ (j : Nat) (f : Ft), si = .int .i64 j ∧ j + gg = M ∧ Hid (f.v = vs) ∧ Hid (Hd wz b p f []) ∧ Hid (Ne.IRow wz (some ⟨gv, 0, none⟩) vs) ∧ Hid (Below w.heap.size w wz))
      case atStart => exact ⟨0, s0, rfl, by omega, HGL, H2, HV2, HB2⟩
      case round =>
        obtain ⟨j, f, rfl, hjg, HSL, HW, HV, HBX⟩ := hrel
        by_cases hj : j < M
        · have hji : (j : Int) < (M : Int) := by omega
          have hj0 : (0 : Int) ≤ (j : Int) := by omega
          obtain ⟨bt, ot, rfl, hbt, t0, t1, t2, t3⟩ := Sp.trow_cell (show Sp.TRow wr o1 a1 from TR.out.kept HBX.out) (i := j) (by rw [← HLL.out]; exact hj)
          have hak := KA.out (Sp.actAt a1 j) (List.mem_of_getElem? (Sp.at_act (l := a1) (i := j) (by rw [← HLL.out]; exact hj)))
          obtain ⟨q0, q1, q2, _⟩ := hak
          unfold Ne.in64 at q0 q1 q2
          have HT0 := Lib.hid (show ∀ wz, Below w.heap.size w wz → wz.cell? ⟨bt, ot + j * 4 + 1, none⟩ = some (.int .i64 (Sp.actAt a1 j).x) ∧ wz.cell? ⟨bt, ot + j * 4 + 2, none⟩ = some (.int .i64 (Sp.actAt a1 j).y) from fun wz hb => by
            obtain ⟨bt', ot', e, _, _, h1, h2, _⟩ := Sp.trow_cell (show Sp.TRow wz _ a1 from TR.out.kept hb) (i := j) (by rw [← HLL.out]; exact hj)
            cases e; exact ⟨h1, h2⟩)
          have bpX := Ne.pickN_bd (c := (Sp.actAt a1 j).x) (n := (n : Int)) (by omega)
          have QX := Lib.hid fun w' => Ne.pick_any (Sp.actAt a1 j).x (n : Int) w' q1.1 q1.2 (by omega) (by omega)
          generalize Ne.pickN (Sp.actAt a1 j).x (n : Int) = X at *
          have bpY := Ne.pickN_bd (c := (Sp.actAt a1 j).y) (n := (n : Int)) (by omega)
          have QY := Lib.hid fun w' => Ne.pick_any (Sp.actAt a1 j).y (n : Int) w' q2.1 q2.2 (by omega) (by omega)
          generalize Ne.pickN (Sp.actAt a1 j).y (n : Int) = Y at *
          have bppk := Ne.pickN_bd (c := (Sp.actAt a1 j).op) (n := 4) (by omega)
          have PO := Lib.hid fun w' => Ne.pick_any (Sp.actAt a1 j).op 4 w' q0.1 q0.2 (by omega) (by omega)
          generalize Ne.pickN (Sp.actAt a1 j).op 4 = pk at *
          generalize (Sp.actAt a1 j).op = aop at *
          generalize (Sp.actAt a1 j).x = ax at *
          generalize (Sp.actAt a1 j).y = ay at *
          clear q0 q1 q2
          go_wp2_with fail
          refine (PO.out _).mono ?_
          rintro e w' ⟨rfl, rfl⟩
          by_cases g0 : pk = 0
          · subst g0
            clear PO
            clear t0 t1 t2 t3
            go_upto_region 21 with fail
            have hS0 := (show (fun w' : World => w'.cell? ⟨bt, ot + j * 4 + 1, none⟩ = some (.int .i64 ax) ∧ w'.cell? ⟨bt, ot + j * 4 + 2, none⟩ = some (.int .i64 ay)) wr.drew from HT0.out _ (Ne.below_drew HBX.out))
            refine Rh.start (S := (fun w' : World => w'.cell? ⟨bt, ot + j * 4 + 1, none⟩ = some (.int .i64 ax) ∧ w'.cell? ⟨bt, ot + j * 4 + 2, none⟩ = some (.int .i64 ay))) (by kernel_rfl) ?_
            refine Rh.take (some 85) (i := 0) (v := ?_) rfl (by kernel_rfl) (by kernel_rfl) (by kernel_rfl) (by kernel_rfl) (fun _ _ _ h => h) (Or.inl ⟨by rfl, ?_⟩) hS0 ?_
            rotate_left
            · intro w hSw
              go_simp
              try with_reducible rfl
            try simp only [Act.put, List.setIfInBounds_toArray, List.set_cons_zero, List.set_cons_succ]
            refine Rh.take (some 86) (i := 1) (v := ?_) rfl (by kernel_rfl) (by kernel_rfl) (by kernel_rfl) (by kernel_rfl) (fun _ _ _ h => h) (Or.inl ⟨by rfl, ?_⟩) hS0 ?_
            rotate_left
            · intro w hSw
              go_simp
              try with_reducible rfl
            try simp only [Act.put, List.setIfInBounds_toArray, List.set_cons_zero, List.set_cons_succ]
            refine Rh.take (some 87) (i := 2) (v := ?_) rfl (by kernel_rfl) (by kernel_rfl) (by kernel_rfl) (by kernel_rfl) (fun _ _ _ h => h) (Or.inl ⟨by rfl, ?_⟩) hS0 ?_
            rotate_left
            · intro w hSw
              go_simp
              try with_reducible rfl
            try simp only [Act.put, List.setIfInBounds_toArray, List.set_cons_zero, List.set_cons_succ]
            refine Rh.take (some 88) (i := 3) (v := ?_) rfl (by kernel_rfl) (by kernel_rfl) (by kernel_rfl) (by kernel_rfl) (fun _ _ _ h => h) (Or.inl ⟨by rfl, ?_⟩) hS0 ?_
            rotate_left
            · intro w hSw
              go_simp
              try with_reducible rfl
            try simp only [Act.put, List.setIfInBounds_toArray, List.set_cons_zero, List.set_cons_succ]
            refine Rh.take (some 89) (i := 4) (v := ?_) rfl (by kernel_rfl) (by kernel_rfl) (by kernel_rfl) (by kernel_rfl) (fun _ _ _ h => h) (Or.inl ⟨by rfl, ?_⟩) hS0 ?_
            rotate_left
            · intro w hSw
              go_simp
              try with_reducible rfl
            try simp only [Act.put, List.setIfInBounds_toArray, List.set_cons_zero, List.set_cons_succ]
            refine Rh.take (some 90) (i := 5) (v := ?_) rfl (by kernel_rfl) (by kernel_rfl) (by kernel_rfl) (by kernel_rfl) (fun _ _ _ h => h) (Or.inl ⟨by rfl, ?_⟩) hS0 ?_
            rotate_left
            · intro w hSw
              go_simp
              try with_reducible rfl
            try simp only [Act.put, List.setIfInBounds_toArray, List.set_cons_zero, List.set_cons_succ]
            refine Rh.take (some 91) (i := 6) (v := ?_) rfl (by kernel_rfl) (by kernel_rfl) (by kernel_rfl) (by kernel_rfl) (fun _ _ _ h => h) (Or.inl ⟨by rfl, ?_⟩) hS0 ?_
            rotate_left
            · intro w hSw
              go_simp
              try with_reducible rfl
            try simp only [Act.put, List.setIfInBounds_toArray, List.set_cons_zero, List.set_cons_succ]
            refine Rh.take (some 93) (i := 8) (v := ?_) rfl (by kernel_rfl) (by kernel_rfl) (by kernel_rfl) (by kernel_rfl) (fun _ _ _ h => h) (Or.inl ⟨by rfl, ?_⟩) hS0 ?_
            rotate_left
            · intro w hSw
              go_simp
              try with_reducible rfl
            try simp only [Act.put, List.setIfInBounds_toArray, List.set_cons_zero, List.set_cons_succ]
            refine Rh.take (some 94) (i := 9) (v := ?_) rfl (by kernel_rfl) (by kernel_rfl) (by kernel_rfl) (by kernel_rfl) (fun _ _ _ h => h) (Or.inl ⟨by rfl, ?_⟩) hS0 ?_
            rotate_left
            · intro w hSw
              go_simp
              try with_reducible rfl
            try simp only [Act.put, List.setIfInBounds_toArray, List.set_cons_zero, List.set_cons_succ]
            refine Rh.take (some 95) (i := 10) (v := ?_) rfl (by kernel_rfl) (by kernel_rfl) (by kernel_rfl) (by kernel_rfl) (fun _ _ _ h => h) (Or.inl ⟨by rfl, ?_⟩) hS0 ?_
            rotate_left
            · intro w hSw
              go_simp
              try with_reducible rfl
            try simp only [Act.put, List.setIfInBounds_toArray, List.set_cons_zero, List.set_cons_succ]
            refine Rh.take (some 96) (i := 11) (v := ?_) rfl (by kernel_rfl) (by kernel_rfl) (by kernel_rfl) (by kernel_rfl) (fun _ _ _ h => h) (Or.inl ⟨by rfl, ?_⟩) hS0 ?_
            rotate_left
            · intro w hSw
              go_simp
              try with_reducible rfl
            try simp only [Act.put, List.setIfInBounds_toArray, List.set_cons_zero, List.set_cons_succ]
            refine Rh.take (some 97) (i := 12) (v := ?_) rfl (by kernel_rfl) (by kernel_rfl) (by kernel_rfl) (by kernel_rfl) (fun _ _ _ h => h) (Or.inl ⟨by rfl, ?_⟩) hS0 ?_
            rotate_left
            · intro w hSw
              go_simp
              try with_reducible rfl
            try simp only [Act.put, List.setIfInBounds_toArray, List.set_cons_zero, List.set_cons_succ]
            refine Rh.take (some 98) (i := 13) (v := ?_) rfl (by kernel_rfl) (by kernel_rfl) (by kernel_rfl) (by kernel_rfl) (fun _ _ _ h => h) (Or.inl ⟨by rfl, ?_⟩) hS0 ?_
            rotate_left
            · intro w hSw
              go_simp
              try with_reducible rfl
            try simp only [Act.put, List.setIfInBounds_toArray, List.set_cons_zero, List.set_cons_succ]
            refine Rh.step (i := 7) (by kernel_rfl) rfl fun K' hK' => ?_
            have HK := Lib.hid hK'
            clear hK'
            go_simp
            refine (QX.out _).mono ?_
            rintro e w' ⟨rfl, rfl⟩
            refine HK.out _ _ ⟨hS0, ?_⟩
            clear HK K'
            try simp only [Act.put, List.setIfInBounds_toArray, List.set_cons_zero, List.set_cons_succ]
            refine Rh.step (i := 14) (by kernel_rfl) rfl fun K' hK' => ?_
            have HK := Lib.hid hK'
            clear hK'
            go_simp
            refine (QY.out _).mono ?_
            rintro e w' ⟨rfl, rfl⟩
            refine HK.out _ _ ⟨hS0, ?_⟩
            clear HK K'
            try simp only [Act.put, List.setIfInBounds_toArray, List.set_cons_zero, List.set_cons_succ]
            refine Rh.step (i := 15) (by kernel_rfl) rfl fun K' hK' => ?_
            have HK := Lib.hid hK'
            clear hK'
            go_simp
            refine (hd_link (HW.out.kept (Ne.below_drew (Below.refl _ _))) X Y).mono ?_
            rintro e w21 ⟨he, h21, k21⟩
            subst he
            have H21 := Lib.hid h21
            have HB21 := Lib.hid ((Ne.below_drew HBX.out).trans ((k21.below (HW.out.kept (Ne.below_drew (Below.refl _ _))).size).mono hbs))
            have VV_21 := Lib.hid (vals_kp (HV.out.kept (Ne.below_drew (Below.refl _ _))) HGV.out k21 (HW.out.kept (Ne.below_drew (Below.refl _ _))).size)
            have hS21 := (show (fun w' : World => w'.cell? ⟨bt, ot + j * 4 + 1, none⟩ = some (.int .i64 ax) ∧ w'.cell? ⟨bt, ot + j * 4 + 2, none⟩ = some (.int .i64 ay)) w21 from HT0.out _ HB21.out)
            clear h21 k21
            refine HK.out _ _ ⟨hS21, ?_⟩
            clear HK K'
            try simp only [Act.put, List.setIfInBounds_toArray, List.set_cons_zero, List.set_cons_succ]
            refine Rh.done (by kernel_rfl) ?_ _
            go_wp2
            go_roundg (M - (j + 1))
            case measure => omega
            case rel => exact ⟨j + 1, linkS f X Y, by go_num, by omega, Lib.hid (by rw [linkS_v]; exact HSL.out), H21, VV_21, HB21⟩
          have t0' : (pk == 0) = false := by simpa using g0
          by_cases g1 : pk = 1
          · subst g1
            clear PO
            clear t0 t1 t2 t3
            go_upto_region 21 with fail
            have hS0 := (show (fun w' : World => w'.cell? ⟨bt, ot + j * 4 + 1, none⟩ = some (.int .i64 ax) ∧ w'.cell? ⟨bt, ot + j * 4 + 2, none⟩ = some (.int .i64 ay)) wr.drew from HT0.out _ (Ne.below_drew HBX.out))
            refine Rh.start (S := (fun w' : World => w'.cell? ⟨bt, ot + j * 4 + 1, none⟩ = some (.int .i64 ax) ∧ w'.cell? ⟨bt, ot + j * 4 + 2, none⟩ = some (.int .i64 ay))) (by kernel_rfl) ?_
            refine Rh.take (some 85) (i := 0) (v := ?_) rfl (by kernel_rfl) (by kernel_rfl) (by kernel_rfl) (by kernel_rfl) (fun _ _ _ h => h) (Or.inl ⟨by rfl, ?_⟩) hS0 ?_
            rotate_left
            · intro w hSw
              go_simp
              try with_reducible rfl
            try simp only [Act.put, List.setIfInBounds_toArray, List.set_cons_zero, List.set_cons_succ]
            refine Rh.take (some 86) (i := 1) (v := ?_) rfl (by kernel_rfl) (by kernel_rfl) (by kernel_rfl) (by kernel_rfl) (fun _ _ _ h => h) (Or.inl ⟨by rfl, ?_⟩) hS0 ?_
            rotate_left
            · intro w hSw
              go_simp
              try with_reducible rfl
            try simp only [Act.put, List.setIfInBounds_toArray, List.set_cons_zero, List.set_cons_succ]
            refine Rh.take (some 87) (i := 2) (v := ?_) rfl (by kernel_rfl) (by kernel_rfl) (by kernel_rfl) (by kernel_rfl) (fun _ _ _ h => h) (Or.inl ⟨by rfl, ?_⟩) hS0 ?_
            rotate_left
            · intro w hSw
              go_simp
              try with_reducible rfl
            try simp only [Act.put, List.setIfInBounds_toArray, List.set_cons_zero, List.set_cons_succ]
            refine Rh.take (some 88) (i := 3) (v := ?_) rfl (by kernel_rfl) (by kernel_rfl) (by kernel_rfl) (by kernel_rfl) (fun _ _ _ h => h) (Or.inl ⟨by rfl, ?_⟩) hS0 ?_
            rotate_left
            · intro w hSw
              go_simp
              try with_reducible rfl
            try simp only [Act.put, List.setIfInBounds_toArray, List.set_cons_zero, List.set_cons_succ]
            refine Rh.take (some 89) (i := 4) (v := ?_) rfl (by kernel_rfl) (by kernel_rfl) (by kernel_rfl) (by kernel_rfl) (fun _ _ _ h => h) (Or.inl ⟨by rfl, ?_⟩) hS0 ?_
            rotate_left
            · intro w hSw
              go_simp
              try with_reducible rfl
            try simp only [Act.put, List.setIfInBounds_toArray, List.set_cons_zero, List.set_cons_succ]
            refine Rh.take (some 90) (i := 5) (v := ?_) rfl (by kernel_rfl) (by kernel_rfl) (by kernel_rfl) (by kernel_rfl) (fun _ _ _ h => h) (Or.inl ⟨by rfl, ?_⟩) hS0 ?_
            rotate_left
            · intro w hSw
              go_simp
              try with_reducible rfl
            try simp only [Act.put, List.setIfInBounds_toArray, List.set_cons_zero, List.set_cons_succ]
            refine Rh.take (some 91) (i := 6) (v := ?_) rfl (by kernel_rfl) (by kernel_rfl) (by kernel_rfl) (by kernel_rfl) (fun _ _ _ h => h) (Or.inl ⟨by rfl, ?_⟩) hS0 ?_
            rotate_left
            · intro w hSw
              go_simp
              try with_reducible rfl
            try simp only [Act.put, List.setIfInBounds_toArray, List.set_cons_zero, List.set_cons_succ]
            refine Rh.take (some 93) (i := 8) (v := ?_) rfl (by kernel_rfl) (by kernel_rfl) (by kernel_rfl) (by kernel_rfl) (fun _ _ _ h => h) (Or.inl ⟨by rfl, ?_⟩) hS0 ?_
            rotate_left
            · intro w hSw
              go_simp
              try with_reducible rfl
            try simp only [Act.put, List.setIfInBounds_toArray, List.set_cons_zero, List.set_cons_succ]
            refine Rh.take (some 94) (i := 9) (v := ?_) rfl (by kernel_rfl) (by kernel_rfl) (by kernel_rfl) (by kernel_rfl) (fun _ _ _ h => h) (Or.inl ⟨by rfl, ?_⟩) hS0 ?_
            rotate_left
            · intro w hSw
              go_simp
              try with_reducible rfl
            try simp only [Act.put, List.setIfInBounds_toArray, List.set_cons_zero, List.set_cons_succ]
            refine Rh.take (some 95) (i := 10) (v := ?_) rfl (by kernel_rfl) (by kernel_rfl) (by kernel_rfl) (by kernel_rfl) (fun _ _ _ h => h) (Or.inl ⟨by rfl, ?_⟩) hS0 ?_
            rotate_left
            · intro w hSw
              go_simp
              try with_reducible rfl
            try simp only [Act.put, List.setIfInBounds_toArray, List.set_cons_zero, List.set_cons_succ]
            refine Rh.take (some 96) (i := 11) (v := ?_) rfl (by kernel_rfl) (by kernel_rfl) (by kernel_rfl) (by kernel_rfl) (fun _ _ _ h => h) (Or.inl ⟨by rfl, ?_⟩) hS0 ?_
            rotate_left
            · intro w hSw
              go_simp
              try with_reducible rfl
            try simp only [Act.put, List.setIfInBounds_toArray, List.set_cons_zero, List.set_cons_succ]
            refine Rh.take (some 97) (i := 12) (v := ?_) rfl (by kernel_rfl) (by kernel_rfl) (by kernel_rfl) (by kernel_rfl) (fun _ _ _ h => h) (Or.inl ⟨by rfl, ?_⟩) hS0 ?_
            rotate_left
            · intro w hSw
              go_simp
              try with_reducible rfl
            try simp only [Act.put, List.setIfInBounds_toArray, List.set_cons_zero, List.set_cons_succ]
            refine Rh.take (some 98) (i := 13) (v := ?_) rfl (by kernel_rfl) (by kernel_rfl) (by kernel_rfl) (by kernel_rfl) (fun _ _ _ h => h) (Or.inl ⟨by rfl, ?_⟩) hS0 ?_
            rotate_left
            · intro w hSw
              go_simp
              try with_reducible rfl
            try simp only [Act.put, List.setIfInBounds_toArray, List.set_cons_zero, List.set_cons_succ]
            refine Rh.step (i := 7) (by kernel_rfl) rfl fun K' hK' => ?_
            have HK := Lib.hid hK'
            clear hK'
            go_simp
            refine (QX.out _).mono ?_
            rintro e w' ⟨rfl, rfl⟩
            refine HK.out _ _ ⟨hS0, ?_⟩
            clear HK K'
            try simp only [Act.put, List.setIfInBounds_toArray, List.set_cons_zero, List.set_cons_succ]
            refine Rh.step (i := 14) (by kernel_rfl) rfl fun K' hK' => ?_
            have HK := Lib.hid hK'
            clear hK'
            go_simp
            refine (QY.out _).mono ?_
            rintro e w' ⟨rfl, rfl⟩
            refine HK.out _ _ ⟨hS0, ?_⟩
            clear HK K'
            try simp only [Act.put, List.setIfInBounds_toArray, List.set_cons_zero, List.set_cons_succ]
            refine Rh.step (i := 15) (by kernel_rfl) rfl fun K' hK' => ?_
            have HK := Lib.hid hK'
            clear hK'
            go_simp
            refine (hd_link (HW.out.kept (Ne.below_drew (Below.refl _ _))) X Y).mono ?_
            rintro e w22 ⟨he, h22, k22⟩
            subst he
            have H22 := Lib.hid h22
            have HB22 := Lib.hid ((Ne.below_drew HBX.out).trans ((k22.below (HW.out.kept (Ne.below_drew (Below.refl _ _))).size).mono hbs))
            have VV_22 := Lib.hid (vals_kp (HV.out.kept (Ne.below_drew (Below.refl _ _))) HGV.out k22 (HW.out.kept (Ne.below_drew (Below.refl _ _))).size)
            have hS22 := (show (fun w' : World => w'.cell? ⟨bt, ot + j * 4 + 1, none⟩ = some (.int .i64 ax) ∧ w'.cell? ⟨bt, ot + j * 4 + 2, none⟩ = some (.int .i64 ay)) w22 from HT0.out _ HB22.out)
            clear h22 k22
            refine HK.out _ _ ⟨hS22, ?_⟩
            clear HK K'
            try simp only [Act.put, List.setIfInBounds_toArray, List.set_cons_zero, List.set_cons_succ]
            refine Rh.done (by kernel_rfl) ?_ _
            go_wp2
            go_roundg (M - (j + 1))
            case measure => omega
            case rel => exact ⟨j + 1, linkS f X Y, by go_num, by omega, Lib.hid (by rw [linkS_v]; exact HSL.out), H22, VV_22, HB22⟩
          have t1' : (pk == 1) = false := by simpa using g1
          by_cases g2 : pk = 2
          · subst g2
            clear PO
            clear t0 t1 t2 t3
            go_upto_region 21 with fail
            have hS0 := (show (fun w' : World => w'.cell? ⟨bt, ot + j * 4 + 1, none⟩ = some (.int .i64 ax) ∧ w'.cell? ⟨bt, ot + j * 4 + 2, none⟩ = some (.int .i64 ay)) wr.drew from HT0.out _ (Ne.below_drew HBX.out))
            refine Rh.start (S := (fun w' : World => w'.cell? ⟨bt, ot + j * 4 + 1, none⟩ = some (.int .i64 ax) ∧ w'.cell? ⟨bt, ot + j * 4 + 2, none⟩ = some (.int .i64 ay))) (by kernel_rfl) ?_
            refine Rh.take (some 85) (i := 0) (v := ?_) rfl (by kernel_rfl) (by kernel_rfl) (by kernel_rfl) (by kernel_rfl) (fun _ _ _ h => h) (Or.inl ⟨by rfl, ?_⟩) hS0 ?_
            rotate_left
            · intro w hSw
              go_simp
              try with_reducible rfl
            try simp only [Act.put, List.setIfInBounds_toArray, List.set_cons_zero, List.set_cons_succ]
            refine Rh.take (some 86) (i := 1) (v := ?_) rfl (by kernel_rfl) (by kernel_rfl) (by kernel_rfl) (by kernel_rfl) (fun _ _ _ h => h) (Or.inl ⟨by rfl, ?_⟩) hS0 ?_
            rotate_left
            · intro w hSw
              go_simp
              try with_reducible rfl
            try simp only [Act.put, List.setIfInBounds_toArray, List.set_cons_zero, List.set_cons_succ]
            refine Rh.take (some 87) (i := 2) (v := ?_) rfl (by kernel_rfl) (by kernel_rfl) (by kernel_rfl) (by kernel_rfl) (fun _ _ _ h => h) (Or.inl ⟨by rfl, ?_⟩) hS0 ?_
            rotate_left
            · intro w hSw
              go_simp
              try with_reducible rfl
            try simp only [Act.put, List.setIfInBounds_toArray, List.set_cons_zero, List.set_cons_succ]
            refine Rh.take (some 88) (i := 3) (v := ?_) rfl (by kernel_rfl) (by kernel_rfl) (by kernel_rfl) (by kernel_rfl) (fun _ _ _ h => h) (Or.inl ⟨by rfl, ?_⟩) hS0 ?_
            rotate_left
            · intro w hSw
              go_simp
              try with_reducible rfl
            try simp only [Act.put, List.setIfInBounds_toArray, List.set_cons_zero, List.set_cons_succ]
            refine Rh.take (some 89) (i := 4) (v := ?_) rfl (by kernel_rfl) (by kernel_rfl) (by kernel_rfl) (by kernel_rfl) (fun _ _ _ h => h) (Or.inl ⟨by rfl, ?_⟩) hS0 ?_
            rotate_left
            · intro w hSw
              go_simp
              try with_reducible rfl
            try simp only [Act.put, List.setIfInBounds_toArray, List.set_cons_zero, List.set_cons_succ]
            refine Rh.take (some 90) (i := 5) (v := ?_) rfl (by kernel_rfl) (by kernel_rfl) (by kernel_rfl) (by kernel_rfl) (fun _ _ _ h => h) (Or.inl ⟨by rfl, ?_⟩) hS0 ?_
            rotate_left
            · intro w hSw
              go_simp
              try with_reducible rfl
            try simp only [Act.put, List.setIfInBounds_toArray, List.set_cons_zero, List.set_cons_succ]
            refine Rh.take (some 91) (i := 6) (v := ?_) rfl (by kernel_rfl) (by kernel_rfl) (by kernel_rfl) (by kernel_rfl) (fun _ _ _ h => h) (Or.inl ⟨by rfl, ?_⟩) hS0 ?_
            rotate_left
            · intro w hSw
              go_simp
              try with_reducible rfl
            try simp only [Act.put, List.setIfInBounds_toArray, List.set_cons_zero, List.set_cons_succ]
            refine Rh.take (some 93) (i := 8) (v := ?_) rfl (by kernel_rfl) (by kernel_rfl) (by kernel_rfl) (by kernel_rfl) (fun _ _ _ h => h) (Or.inl ⟨by rfl, ?_⟩) hS0 ?_
            rotate_left
            · intro w hSw
              go_simp
              try with_reducible rfl
            try simp only [Act.put, List.setIfInBounds_toArray, List.set_cons_zero, List.set_cons_succ]
            refine Rh.take (some 94) (i := 9) (v := ?_) rfl (by kernel_rfl) (by kernel_rfl) (by kernel_rfl) (by kernel_rfl) (fun _ _ _ h => h) (Or.inl ⟨by rfl, ?_⟩) hS0 ?_
            rotate_left
            · intro w hSw
              go_simp
              try with_reducible rfl
            try simp only [Act.put, List.setIfInBounds_toArray, List.set_cons_zero, List.set_cons_succ]
            refine Rh.take (some 95) (i := 10) (v := ?_) rfl (by kernel_rfl) (by kernel_rfl) (by kernel_rfl) (by kernel_rfl) (fun _ _ _ h => h) (Or.inl ⟨by rfl, ?_⟩) hS0 ?_
            rotate_left
            · intro w hSw
              go_simp
              try with_reducible rfl
            try simp only [Act.put, List.setIfInBounds_toArray, List.set_cons_zero, List.set_cons_succ]
            refine Rh.take (some 96) (i := 11) (v := ?_) rfl (by kernel_rfl) (by kernel_rfl) (by kernel_rfl) (by kernel_rfl) (fun _ _ _ h => h) (Or.inl ⟨by rfl, ?_⟩) hS0 ?_
            rotate_left
            · intro w hSw
              go_simp
              try with_reducible rfl
            try simp only [Act.put, List.setIfInBounds_toArray, List.set_cons_zero, List.set_cons_succ]
            refine Rh.take (some 97) (i := 12) (v := ?_) rfl (by kernel_rfl) (by kernel_rfl) (by kernel_rfl) (by kernel_rfl) (fun _ _ _ h => h) (Or.inl ⟨by rfl, ?_⟩) hS0 ?_
            rotate_left
            · intro w hSw
              go_simp
              try with_reducible rfl
            try simp only [Act.put, List.setIfInBounds_toArray, List.set_cons_zero, List.set_cons_succ]
            refine Rh.take (some 98) (i := 13) (v := ?_) rfl (by kernel_rfl) (by kernel_rfl) (by kernel_rfl) (by kernel_rfl) (fun _ _ _ h => h) (Or.inl ⟨by rfl, ?_⟩) hS0 ?_
            rotate_left
            · intro w hSw
              go_simp
              try with_reducible rfl
            try simp only [Act.put, List.setIfInBounds_toArray, List.set_cons_zero, List.set_cons_succ]
            refine Rh.step (i := 7) (by kernel_rfl) rfl fun K' hK' => ?_
            have HK := Lib.hid hK'
            clear hK'
            go_simp
            refine (QX.out _).mono ?_
            rintro e w' ⟨rfl, rfl⟩
            refine HK.out _ _ ⟨hS0, ?_⟩
            clear HK K'
            try simp only [Act.put, List.setIfInBounds_toArray, List.set_cons_zero, List.set_cons_succ]
            refine Rh.step (i := 14) (by kernel_rfl) rfl fun K' hK' => ?_
            have HK := Lib.hid hK'
            clear hK'
            go_simp
            refine (QY.out _).mono ?_
            rintro e w' ⟨rfl, rfl⟩
            refine HK.out _ _ ⟨hS0, ?_⟩
            clear HK K'
            try simp only [Act.put, List.setIfInBounds_toArray, List.set_cons_zero, List.set_cons_succ]
            refine Rh.step (i := 15) (by kernel_rfl) rfl fun K' hK' => ?_
            have HK := Lib.hid hK'
            clear hK'
            go_simp
            refine (hd_link (HW.out.kept (Ne.below_drew (Below.refl _ _))) X Y).mono ?_
            rintro e w23 ⟨he, h23, k23⟩
            subst he
            have H23 := Lib.hid h23
            have HB23 := Lib.hid ((Ne.below_drew HBX.out).trans ((k23.below (HW.out.kept (Ne.below_drew (Below.refl _ _))).size).mono hbs))
            have VV_23 := Lib.hid (vals_kp (HV.out.kept (Ne.below_drew (Below.refl _ _))) HGV.out k23 (HW.out.kept (Ne.below_drew (Below.refl _ _))).size)
            have hS23 := (show (fun w' : World => w'.cell? ⟨bt, ot + j * 4 + 1, none⟩ = some (.int .i64 ax) ∧ w'.cell? ⟨bt, ot + j * 4 + 2, none⟩ = some (.int .i64 ay)) w23 from HT0.out _ HB23.out)
            clear h23 k23
            refine HK.out _ _ ⟨hS23, ?_⟩
            clear HK K'
            try simp only [Act.put, List.setIfInBounds_toArray, List.set_cons_zero, List.set_cons_succ]
            refine Rh.done (by kernel_rfl) ?_ _
            go_wp2
            go_roundg (M - (j + 1))
            case measure => omega
            case rel => exact ⟨j + 1, linkS f X Y, by go_num, by omega, Lib.hid (by rw [linkS_v]; exact HSL.out), H23, VV_23, HB23⟩
          have t2' : (pk == 2) = false := by simpa using g2
          go_wp2_with fail
          refine (QX.out _).mono ?_
          rintro e w' ⟨rfl, rfl⟩
          go_wp2_with fail
          refine (hd_evert HW.out X).mono ?_
          rintro e w24 ⟨he, h24, k24⟩
          subst he
          have H24 := Lib.hid h24
          have HB24 := Lib.hid (HBX.out.trans ((k24.below HW.out.size).mono hbs))
          have VV_24 := Lib.hid (vals_kp HV.out HGV.out k24 HW.out.size)
          clear h24 k24
          go_wp2
          go_roundg (M - (j + 1))
          case measure => omega
          case rel => exact ⟨j + 1, evertS f X, by go_num, by omega, Lib.hid (by rw [evertS_v]; exact HSL.out), H24, VV_24, HB24⟩
        · have ej : j = M := by omega
          subst j
          have hMM : ¬ (M : Int) < (M : Int) := by omega
          clear hjg TR KA HLL HGL H2 HB2 HV2
          have hvf : v < f.v.length := by rw [HSL.out, HVL.out]; exact hvn
          have HGD := Lib.hid HW.out.good
          obtain ⟨kk, le, ls1, ls2, ls3, ls4, ls5, ls6, ls7⟩ := least_says HGD.out hvf
          obtain ⟨ad1, ad2, ad3, ad4⟩ := add_says HGD.out hvf hdb (fun i hi => by rw [HSL.out]; rw [HSL.out, HVL.out] at hi; exact HVB.out i hi)
          rw [HSL.out] at ls5 ls6 ad4
          rw [HVL.out] at ad4
          have hlen : le < n := by rw [HSL.out, HVL.out] at ls3; exact ls3
          have HLS5 := Lib.hid ls5
          have HLS6 := Lib.hid ls6
          have HLS7 := Lib.hid ls7
          have HAD4 := Lib.hid ad4
          have HPM := Lib.hid (show ∀ y ∈ path f v, y < n from fun y hy => by have := HGD.out.path_lt hy; rwa [HSL.out, HVL.out] at this)
          have HND := Lib.hid (HGD.out.path_nodup v)
          have PTH := Lib.hid (hd_path HW.out hvf)
          obtain ⟨m, hm⟩ : ∃ m, m = (path f v).length := ⟨_, rfl⟩
          have hml : m ≤ n := by
            have := (path_pos HGD.out hvf).2
            rw [HSL.out, HVL.out] at this
            omega
          rw [← hm] at PTH ls4
          have HML := Lib.hid hm
          obtain ⟨LZ, hLZ⟩ : ∃ LZ, leastZ f (v : Int) = LZ := ⟨_, rfl⟩
          rw [hLZ] at ls2 ad3
          subst ls2
          have HLZ := Lib.hid hLZ
          have HA1 := Lib.hid ad1
          have HA3 := Lib.hid ad3
          generalize hf2 : addS f (v : Int) dd = f2 at *
          have HF2 := Lib.hid hf2
          clear hf2
          generalize path f v = l at *
          have HLK := Lib.hid ls1
          clear ls1 ls3 ls5 ls6 ls7 ad1 ad2 ad3 ad4 hm hLZ
          go_wp2_with fail
          refine (PX.out _).mono ?_
          rintro e w' ⟨rfl, rfl⟩
          go_wp2_with fail
          refine PTH.out.mono ?_
          rintro e w9 ⟨gp, cp, rfl, ho, h9, k9⟩
          have H9 := Lib.hid h9
          have RP_9 := Lib.hid ho
          have VV_9 := Lib.hid (vals_kp HV.out HGV.out k9 HW.out.size)
          have HB9 := Lib.hid (HBX.out.trans ((k9.below HW.out.size).mono hbs))
          have HCL := Lib.hid (show ∀ (wz : World) (j a : Nat), Ne.OwnI wz b (.slice (some ⟨gp, 0, none⟩) m cp) (Ne.encW l) → l[j]? = some a → wz.cell? ⟨gp, j, none⟩ = some (.int .i64 (a : Int)) from fun wz j a hw hj => by
            have hjl := (List.getElem?_eq_some_iff.1 hj).1
            obtain ⟨bq, oq, e, _, hc⟩ := Ne.irow_cell (Ne.own_irow hw) (i := j) (by rw [Ne.encW_len]; exact hjl)
            cases e
            rw [Ne.encW_at hjl, Nat.zero_add] at hc
            rw [hc]
            simp [List.getD_eq_getElem?_getD, hj])
          have HCV := Lib.hid (show ∀ (wz : World) (y : Nat), Ne.IRow wz (some ⟨gv, 0, none⟩) vs → y < n → wz.cell? ⟨gv, y, none⟩ = some (.int .i64 (Ne.amt vs y)) from fun wz y hw hy => by
            obtain ⟨bq, oq, e, _, hc⟩ := Ne.irow_cell hw (i := y) (by rw [HVL.out]; exact hy)
            cases e
            rw [Nat.zero_add] at hc
            exact hc)
          clear h9 ho k9 PTH HW HV HBX
          go_wp2_with fail
          refine (hd_least H9.out (v : Int)).mono ?_
          rintro e w25 ⟨he, h25, k25⟩
          rw [HLZ.out] at he
          subst he
          have H25 := Lib.hid h25
          have HB25 := Lib.hid (HB9.out.trans ((k25.below H9.out.size).mono hbs))
          have RP_25 := Lib.hid (k25.own RP_9.out (by intro g e; cases e; exact List.mem_cons_self))
          have VV_25 := Lib.hid (vals_kp VV_9.out HGV.out k25 H9.out.size)
          clear h25 k25
          obtain ⟨wy, hwy⟩ : ∃ wy, wy = w25 := ⟨_, rfl⟩
          subst hwy
          go_wp2
          go_loopg [19, 20] m (fun gg sk si wz => ∃ (i : Nat) (K9 : Int), si = .int .i64 i ∧ sk = .int .i64 K9 ∧ i + gg = m ∧ Hid (K9 = if kk < i then (kk : Int) else -1) ∧ wy = wz)
          case atStart => exact ⟨0, -1, rfl, rfl, by omega, Lib.hid (by simp), rfl⟩
          case round =>
            obtain ⟨i, K9, rfl, rfl, hig, HK9, rfl⟩ := hrel
            by_cases hi : i < m
            · have hii : (i : Int) < (m : Int) := by omega
              have hi0 : (0 : Int) ≤ (i : Int) := by omega
              obtain ⟨y, hy⟩ : ∃ y, l[i]? = some y := ⟨_, List.getElem?_eq_getElem (by rw [← HML.out]; exact hi)⟩
              have c0 := HCL.out _ _ _ RP_25.out hy
              have hyk := HLS7.out i y hy
              by_cases hik : i = kk
              · have hyl := hyk.2 hik
                have ty : ((y : Int) == (le : Int)) = true := by simp [hyl]
                have hk9 := HK9.out
                rw [if_neg (by omega)] at hk9
                have HN := Lib.hid (show (i : Int) = if kk < i + 1 then (kk : Int) else -1 by rw [if_pos (by omega)]; omega)
                clear hyk hik hy
                subst hyl
                subst hk9
                go_wp2
                go_roundg (m - (i + 1))
                case measure => omega
                case rel => exact ⟨i + 1, (i : Int), by go_num, rfl, by omega, HN, rfl⟩
              · have hyl : y ≠ le := fun e => hik (hyk.1 e)
                have ty : ((y : Int) == (le : Int)) = false := by simp; omega
                have HN := Lib.hid (show K9 = if kk < i + 1 then (kk : Int) else -1 by
                  rw [HK9.out]
                  by_cases c : kk < i
                  · rw [if_pos c, if_pos (by omega)]
                  · rw [if_neg c, if_neg (by omega)])
                clear hyk hik hy hyl
                go_wp2
                go_roundg (m - (i + 1))
                case measure => omega
                case rel => exact ⟨i + 1, K9, by go_num, rfl, by omega, HN, rfl⟩
            · have hii : ¬ (i : Int) < (m : Int) := by omega
              have hk9 := HK9.out
              rw [if_pos (by omega)] at hk9
              subst hk9
              have hkk0 : ¬ (kk : Int) < 0 := by omega
              clear hig hi HK9
              go_wp2
              go_loopg [21] m (fun gg si wz => ∃ i : Nat, si = .int .i64 i ∧ i + gg = m ∧ Hid (Hd wz b p f [gp]) ∧ Hid (Ne.OwnI wz b (.slice (some ⟨gp, 0, none⟩) m cp) (Ne.encW l)) ∧ Hid (Ne.IRow wz (some ⟨gv, 0, none⟩) vs) ∧ Hid (Below w.heap.size w wz))
              case atStart => exact ⟨0, rfl, by omega, H25, RP_25, VV_25, HB25⟩
              case round =>
                obtain ⟨i, rfl, hig, HW, HO, HV, HBX⟩ := hrel
                by_cases hi : i < m
                · have hii : (i : Int) < (m : Int) := by omega
                  have hin : i < m := hi
                  have hi0 : (0 : Int) ≤ (i : Int) := by omega
                  obtain ⟨y, hy⟩ : ∃ y, l[i]? = some y := ⟨_, List.getElem?_eq_getElem (by rw [← HML.out]; exact hi)⟩
                  have hyn := HPM.out y (List.mem_of_getElem? hy)
                  have hyi : (y : Int) < (n : Int) := by omega
                  have hy0 : (0 : Int) ≤ (y : Int) := by omega
                  have hli : (le : Int) < (n : Int) := by omega
                  have hl0 : (0 : Int) ≤ (le : Int) := by omega
                  have c0 := HCL.out _ _ _ HO.out hy
                  have c1 := HCV.out _ _ HV.out hyn
                  have c2 := HCV.out _ _ HV.out hlen
                  have h5 := HLS5.out i y hy
                  have h6 := HLS6.out i y hy
                  generalize hay : Ne.amt vs y = ay at *
                  generalize hal : Ne.amt vs le = al at *
                  have t5 : decide (ay < al) = false := by simpa using h5
                  by_cases hik : i < kk
                  · have hik1 : (i : Int) < (kk : Int) := by omega
                    have hik2 : decide ((i : Int) < (kk : Int)) = true := by simpa using hik
                    have hik3 : decide (i < kk) = true := by simpa using hik
                    have t6 : (ay == al) = false := by simpa using h6 hik
                    clear h5 h6 hay hal hy
                    go_upto_region 36 with fail
                    have hS0 := (show (fun w' : World => w'.cell? ⟨gp, i, none⟩ = some (.int .i64 (y : Int)) ∧ w'.cell? ⟨gv, y, none⟩ = some (.int .i64 ay) ∧ w'.cell? ⟨gv, le, none⟩ = some (.int .i64 al)) wr.drew from ⟨c0, c1, c2⟩)
                    clear c0 c1 c2
                    refine Rh.start (S := (fun w' : World => w'.cell? ⟨gp, i, none⟩ = some (.int .i64 (y : Int)) ∧ w'.cell? ⟨gv, y, none⟩ = some (.int .i64 ay) ∧ w'.cell? ⟨gv, le, none⟩ = some (.int .i64 al))) (by kernel_rfl) ?_
                    refine Rh.take (some 135) (i := 0) (v := ?_) rfl (by kernel_rfl) (by kernel_rfl) (by kernel_rfl) (by kernel_rfl) (fun _ _ _ h => h) (Or.inl ⟨by rfl, ?_⟩) hS0 ?_
                    rotate_left
                    · intro w hSw
                      go_simp
                      try with_reducible rfl
                    try simp only [Act.put, List.setIfInBounds_toArray, List.set_cons_zero, List.set_cons_succ]
                    refine Rh.take (some 136) (i := 1) (v := ?_) rfl (by kernel_rfl) (by kernel_rfl) (by kernel_rfl) (by kernel_rfl) (fun _ _ _ h => h) (Or.inl ⟨by rfl, ?_⟩) hS0 ?_
                    rotate_left
                    · intro w hSw
                      go_simp
                      try with_reducible rfl
                    try simp only [Act.put, List.setIfInBounds_toArray, List.set_cons_zero, List.set_cons_succ]
                    refine Rh.take (some 137) (i := 2) (v := ?_) rfl (by kernel_rfl) (by kernel_rfl) (by kernel_rfl) (by kernel_rfl) (fun _ _ _ h => h) (Or.inl ⟨by rfl, ?_⟩) hS0 ?_
                    rotate_left
                    · intro w hSw
                      go_simp
                      try with_reducible rfl
                    try simp only [Act.put, List.setIfInBounds_toArray, List.set_cons_zero, List.set_cons_succ]
                    refine Rh.take (some 138) (i := 3) (v := ?_) rfl (by kernel_rfl) (by kernel_rfl) (by kernel_rfl) (by kernel_rfl) (fun _ _ _ h => h) (Or.inl ⟨by rfl, ?_⟩) hS0 ?_
                    rotate_left
                    · intro w hSw
                      go_simp
                      try with_reducible rfl
                    try simp only [Act.put, List.setIfInBounds_toArray, List.set_cons_zero, List.set_cons_succ]
                    refine Rh.take (some 139) (i := 4) (v := ?_) rfl (by kernel_rfl) (by kernel_rfl) (by kernel_rfl) (by kernel_rfl) (fun _ _ _ h => h) (Or.inl ⟨by rfl, ?_⟩) hS0 ?_
                    rotate_left
                    · intro w hSw
                      go_simp
                      try with_reducible rfl
                    try simp only [Act.put, List.setIfInBounds_toArray, List.set_cons_zero, List.set_cons_succ]
                    refine Rh.take (some 140) (i := 5) (v := ?_) rfl (by kernel_rfl) (by kernel_rfl) (by kernel_rfl) (by kernel_rfl) (fun _ _ _ h => h) (Or.inl ⟨by rfl, ?_⟩) hS0 ?_
                    rotate_left
                    · intro w hSw
                      go_simp
                      try with_reducible rfl
                    try simp only [Act.put, List.setIfInBounds_toArray, List.set_cons_zero, List.set_cons_succ]
                    refine Rh.take (some 141) (i := 6) (v := ?_) rfl (by kernel_rfl) (by kernel_rfl) (by kernel_rfl) (by kernel_rfl) (fun _ _ _ h => h) (Or.inl ⟨by rfl, ?_⟩) hS0 ?_
                    rotate_left
                    · intro w hSw
                      go_simp
                      try with_reducible rfl
                    try simp only [Act.put, List.setIfInBounds_toArray, List.set_cons_zero, List.set_cons_succ]
                    refine Rh.take (some 142) (i := 7) (v := ?_) rfl (by kernel_rfl) (by kernel_rfl) (by kernel_rfl) (by kernel_rfl) (fun _ _ _ h => h) (Or.inl ⟨by rfl, ?_⟩) hS0 ?_
                    rotate_left
                    · intro w hSw
                      go_simp
                      try with_reducible rfl
                    try simp only [Act.put, List.setIfInBounds_toArray, List.set_cons_zero, List.set_cons_succ]
                    refine Rh.take (some 143) (i := 8) (v := ?_) rfl (by kernel_rfl) (by kernel_rfl) (by kernel_rfl) (by kernel_rfl) (fun _ _ _ h => h) (Or.inl ⟨by rfl, ?_⟩) hS0 ?_
                    rotate_left
                    · intro w hSw
                      go_simp
                      try with_reducible rfl
                    try simp only [Act.put, List.setIfInBounds_toArray, List.set_cons_zero, List.set_cons_succ]
                    refine Rh.take (some 144) (i := 9) (v := ?_) rfl (by kernel_rfl) (by kernel_rfl) (by kernel_rfl) (by kernel_rfl) (fun _ _ _ h => h) (Or.inl ⟨by rfl, ?_⟩) hS0 ?_
                    rotate_left
                    · intro w hSw
                      go_simp
                      try with_reducible rfl
                    try simp only [Act.put, List.setIfInBounds_toArray, List.set_cons_zero, List.set_cons_succ]
                    refine Rh.take (some 145) (i := 10) (v := ?_) rfl (by kernel_rfl) (by kernel_rfl) (by kernel_rfl) (by kernel_rfl) (fun _ _ _ h => h) (Or.inl ⟨by rfl, ?_⟩) hS0 ?_
                    rotate_left
                    · intro w hSw
                      go_simp
                      try with_reducible rfl
                    try simp only [Act.put, List.setIfInBounds_toArray, List.set_cons_zero, List.set_cons_succ]
                    refine Rh.take (some 146) (i := 11) (v := ?_) rfl (by kernel_rfl) (by kernel_rfl) (by kernel_rfl) (by kernel_rfl) (fun _ _ _ h => h) (Or.inl ⟨by rfl, ?_⟩) hS0 ?_
                    rotate_left
                    · intro w hSw
                      go_simp
                      try with_reducible rfl
                    try simp only [Act.put, List.setIfInBounds_toArray, List.set_cons_zero, List.set_cons_succ]
                    refine Rh.take (some 147) (i := 12) (v := ?_) rfl (by kernel_rfl) (by kernel_rfl) (by kernel_rfl) (by kernel_rfl) (fun _ _ _ h => h) (Or.inl ⟨by rfl, ?_⟩) hS0 ?_
                    rotate_left
                    · intro w hSw
                      go_simp
                      try with_reducible rfl
                    try simp only [Act.put, List.setIfInBounds_toArray, List.set_cons_zero, List.set_cons_succ]
                    refine Rh.take (some 148) (i := 13) (v := ?_) rfl (by kernel_rfl) (by kernel_rfl) (by kernel_rfl) (by kernel_rfl) (fun _ _ _ h => h) (Or.inl ⟨by rfl, ?_⟩) hS0 ?_
                    rotate_left
                    · intro w hSw
                      go_simp
                      try with_reducible rfl
                    try simp only [Act.put, List.setIfInBounds_toArray, List.set_cons_zero, List.set_cons_succ]
                    refine Rh.take (some 149) (i := 14) (v := ?_) rfl (by kernel_rfl) (by kernel_rfl) (by kernel_rfl) (by kernel_rfl) (fun _ _ _ h => h) (Or.inl ⟨by rfl, ?_⟩) hS0 ?_
                    rotate_left
                    · intro w hSw
                      go_simp
                      try with_reducible rfl
                    try simp only [Act.put, List.setIfInBounds_toArray, List.set_cons_zero, List.set_cons_succ]
                    refine Rh.take (some 150) (i := 15) (v := ?_) rfl (by kernel_rfl) (by kernel_rfl) (by kernel_rfl) (by kernel_rfl) (fun _ _ _ h => h) (Or.inl ⟨by rfl, ?_⟩) hS0 ?_
                    rotate_left
                    · intro w hSw
                      go_simp
                      try with_reducible rfl
                    try simp only [Act.put, List.setIfInBounds_toArray, List.set_cons_zero, List.set_cons_succ]
                    refine Rh.take (some 151) (i := 16) (v := ?_) rfl (by kernel_rfl) (by kernel_rfl) (by kernel_rfl) (by kernel_rfl) (fun _ _ _ h => h) (Or.inl ⟨by rfl, ?_⟩) hS0 ?_
                    rotate_left
                    · intro w hSw
                      go_simp
                      try with_reducible rfl
                    try simp only [Act.put, List.setIfInBounds_toArray, List.set_cons_zero, List.set_cons_succ]
                    refine Rh.take (some 152) (i := 17) (v := ?_) rfl (by kernel_rfl) (by kernel_rfl) (by kernel_rfl) (by kernel_rfl) (fun _ _ _ h => h) (Or.inl ⟨by rfl, ?_⟩) hS0 ?_
                    rotate_left
                    · intro w hSw
                      go_simp
                      try with_reducible rfl
                    try simp only [Act.put, List.setIfInBounds_toArray, List.set_cons_zero, List.set_cons_succ]
                    refine Rh.take (some 153) (i := 18) (v := ?_) rfl (by kernel_rfl) (by kernel_rfl) (by kernel_rfl) (by kernel_rfl) (fun _ _ _ h => h) (Or.inl ⟨by rfl, ?_⟩) hS0 ?_
                    rotate_left
                    · intro w hSw
                      go_simp
                      try with_reducible rfl
                    try simp only [Act.put, List.setIfInBounds_toArray, List.set_cons_zero, List.set_cons_succ]
                    refine Rh.take (some 154) (i := 19) (v := ?_) rfl (by kernel_rfl) (by kernel_rfl) (by kernel_rfl) (by kernel_rfl) (fun _ _ _ h => h) (Or.inl ⟨by rfl, ?_⟩) hS0 ?_
                    rotate_left
                    · intro w hSw
                      go_simp
                      try with_reducible rfl
                    try simp only [Act.put, List.setIfInBounds_toArray, List.set_cons_zero, List.set_cons_succ]
                    refine Rh.take (some 155) (i := 20) (v := ?_) rfl (by kernel_rfl) (by kernel_rfl) (by kernel_rfl) (by kernel_rfl) (fun _ _ _ h => h) (Or.inl ⟨by rfl, ?_⟩) hS0 ?_
                    rotate_left
                    · intro w hSw
                      go_simp
                      try with_reducible rfl
                    try simp only [Act.put, List.setIfInBounds_toArray, List.set_cons_zero, List.set_cons_succ]
                    refine Rh.take (some 156) (i := 21) (v := ?_) rfl (by kernel_rfl) (by kernel_rfl) (by kernel_rfl) (by kernel_rfl) (fun _ _ _ h => h) (Or.inl ⟨by rfl, ?_⟩) hS0 ?_
                    rotate_left
                    · intro w hSw
                      go_simp
                      try with_reducible rfl
                    try simp only [Act.put, List.setIfInBounds_toArray, List.set_cons_zero, List.set_cons_succ]
                    refine Rh.take (some 157) (i := 22) (v := ?_) rfl (by kernel_rfl) (by kernel_rfl) (by kernel_rfl) (by kernel_rfl) (fun _ _ _ h => h) (Or.inl ⟨by rfl, ?_⟩) hS0 ?_
                    rotate_left
                    · intro w hSw
                      go_simp
                      try with_reducible rfl
                    try simp only [Act.put, List.setIfInBounds_toArray, List.set_cons_zero, List.set_cons_succ]
                    refine Rh.take (some 158) (i := 23) (v := ?_) rfl (by kernel_rfl) (by kernel_rfl) (by kernel_rfl) (by kernel_rfl) (fun _ _ _ h => h) (Or.inl ⟨by rfl, ?_⟩) hS0 ?_
                    rotate_left
                    · intro w hSw
                      go_simp
                      try with_reducible rfl
                    try simp only [Act.put, List.setIfInBounds_toArray, List.set_cons_zero, List.set_cons_succ]
                    refine Rh.take (some 159) (i := 24) (v := ?_) rfl (by kernel_rfl) (by kernel_rfl) (by kernel_rfl) (by kernel_rfl) (fun _ _ _ h => h) (Or.inl ⟨by rfl, ?_⟩) hS0 ?_
                    rotate_left
                    · intro w hSw
                      go_simp
                      try with_reducible rfl
                    try simp only [Act.put, List.setIfInBounds_toArray, List.set_cons_zero, List.set_cons_succ]
                    refine Rh.take (some 160) (i := 25) (v := ?_) rfl (by kernel_rfl) (by kernel_rfl) (by kernel_rfl) (by kernel_rfl) (fun _ _ _ h => h) (Or.inl ⟨by rfl, ?_⟩) hS0 ?_
                    rotate_left
                    · intro w hSw
                      go_simp
                      try with_reducible rfl
                    try simp only [Act.put, List.setIfInBounds_toArray, List.set_cons_zero, List.set_cons_succ]
                    refine Rh.take (some 161) (i := 26) (v := ?_) rfl (by kernel_rfl) (by kernel_rfl) (by kernel_rfl) (by kernel_rfl) (fun _ _ _ h => h) (Or.inl ⟨by rfl, ?_⟩) hS0 ?_
                    rotate_left
                    · intro w hSw
                      go_simp
                      try with_reducible rfl
                    try simp only [Act.put, List.setIfInBounds_toArray, List.set_cons_zero, List.set_cons_succ]
                    refine Rh.take (some 162) (i := 27) (v := ?_) rfl (by kernel_rfl) (by kernel_rfl) (by kernel_rfl) (by kernel_rfl) (fun _ _ _ h => h) (Or.inl ⟨by rfl, ?_⟩) hS0 ?_
                    rotate_left
                    · intro w hSw
                      go_simp
                      try with_reducible rfl
                    try simp only [Act.put, List.setIfInBounds_toArray, List.set_cons_zero, List.set_cons_succ]
                    refine Rh.take (some 163) (i := 28) (v := ?_) rfl (by kernel_rfl) (by kernel_rfl) (by kernel_rfl) (by kernel_rfl) (fun _ _ _ h => h) (Or.inl ⟨by rfl, ?_⟩) hS0 ?_
                    rotate_left
                    · intro w hSw
                      go_simp
                      try with_reducible rfl
                    try simp only [Act.put, List.setIfInBounds_toArray, List.set_cons_zero, List.set_cons_succ]
                    refine Rh.take (some 164) (i := 29) (v := ?_) rfl (by kernel_rfl) (by kernel_rfl) (by kernel_rfl) (by kernel_rfl) (fun _ _ _ h => h) (Or.inl ⟨by rfl, ?_⟩) hS0 ?_
                    rotate_left
                    · intro w hSw
                      go_simp
                      try with_reducible rfl
                    try simp only [Act.put, List.setIfInBounds_toArray, List.set_cons_zero, List.set_cons_succ]
                    refine Rh.take (some 165) (i := 30) (v := ?_) rfl (by kernel_rfl) (by kernel_rfl) (by kernel_rfl) (by kernel_rfl) (fun _ _ _ h => h) (Or.inl ⟨by rfl, ?_⟩) hS0 ?_
                    rotate_left
                    · intro w hSw
                      go_simp
                      try with_reducible rfl
                    try simp only [Act.put, List.setIfInBounds_toArray, List.set_cons_zero, List.set_cons_succ]
                    refine Rh.done (by kernel_rfl) ?_ _
                    go_wp2
                    go_roundg (m - (i + 1))
                    case measure => omega
                    case rel => exact ⟨i + 1, by go_num, by omega, Lib.hid (HW.out.kept (Ne.below_drew (Below.refl _ _))), Lib.hid (Rw.own_below HO.out (Ne.below_drew (Below.refl _ _))), Lib.hid (HV.out.kept (Ne.below_drew (Below.refl _ _))), Lib.hid (Ne.below_drew HBX.out)⟩
                  · have hik1 : ¬ (i : Int) < (kk : Int) := by omega
                    have hik2 : decide ((i : Int) < (kk : Int)) = false := by simp; omega
                    have hik3 : decide (i < kk) = false := by simpa using hik
                    clear h5 h6 hay hal hy
                    go_upto_region 36 with fail
                    have hS0 := (show (fun w' : World => w'.cell? ⟨gp, i, none⟩ = some (.int .i64 (y : Int)) ∧ w'.cell? ⟨gv, y, none⟩ = some (.int .i64 ay) ∧ w'.cell? ⟨gv, le, none⟩ = some (.int .i64 al)) wr.drew from ⟨c0, c1, c2⟩)
                    clear c0 c1 c2
                    refine Rh.start (S := (fun w' : World => w'.cell? ⟨gp, i, none⟩ = some (.int .i64 (y : Int)) ∧ w'.cell? ⟨gv, y, none⟩ = some (.int .i64 ay) ∧ w'.cell? ⟨gv, le, none⟩ = some (.int .i64 al))) (by kernel_rfl) ?_
                    refine Rh.take (some 135) (i := 0) (v := ?_) rfl (by kernel_rfl) (by kernel_rfl) (by kernel_rfl) (by kernel_rfl) (fun _ _ _ h => h) (Or.inl ⟨by rfl, ?_⟩) hS0 ?_
                    rotate_left
                    · intro w hSw
                      go_simp
                      try with_reducible rfl
                    try simp only [Act.put, List.setIfInBounds_toArray, List.set_cons_zero, List.set_cons_succ]
                    refine Rh.take (some 136) (i := 1) (v := ?_) rfl (by kernel_rfl) (by kernel_rfl) (by kernel_rfl) (by kernel_rfl) (fun _ _ _ h => h) (Or.inl ⟨by rfl, ?_⟩) hS0 ?_
                    rotate_left
                    · intro w hSw
                      go_simp
                      try with_reducible rfl
                    try simp only [Act.put, List.setIfInBounds_toArray, List.set_cons_zero, List.set_cons_succ]
                    refine Rh.take (some 137) (i := 2) (v := ?_) rfl (by kernel_rfl) (by kernel_rfl) (by kernel_rfl) (by kernel_rfl) (fun _ _ _ h => h) (Or.inl ⟨by rfl, ?_⟩) hS0 ?_
                    rotate_left
                    · intro w hSw
                      go_simp
                      try with_reducible rfl
                    try simp only [Act.put, List.setIfInBounds_toArray, List.set_cons_zero, List.set_cons_succ]
                    refine Rh.take (some 138) (i := 3) (v := ?_) rfl (by kernel_rfl) (by kernel_rfl) (by kernel_rfl) (by kernel_rfl) (fun _ _ _ h => h) (Or.inl ⟨by rfl, ?_⟩) hS0 ?_
                    rotate_left
                    · intro w hSw
                      go_simp
                      try with_reducible rfl
                    try simp only [Act.put, List.setIfInBounds_toArray, List.set_cons_zero, List.set_cons_succ]
                    refine Rh.take (some 139) (i := 4) (v := ?_) rfl (by kernel_rfl) (by kernel_rfl) (by kernel_rfl) (by kernel_rfl) (fun _ _ _ h => h) (Or.inl ⟨by rfl, ?_⟩) hS0 ?_
                    rotate_left
                    · intro w hSw
                      go_simp
                      try with_reducible rfl
                    try simp only [Act.put, List.setIfInBounds_toArray, List.set_cons_zero, List.set_cons_succ]
                    refine Rh.take (some 140) (i := 5) (v := ?_) rfl (by kernel_rfl) (by kernel_rfl) (by kernel_rfl) (by kernel_rfl) (fun _ _ _ h => h) (Or.inl ⟨by rfl, ?_⟩) hS0 ?_
                    rotate_left
                    · intro w hSw
                      go_simp
                      try with_reducible rfl
                    try simp only [Act.put, List.setIfInBounds_toArray, List.set_cons_zero, List.set_cons_succ]
                    refine Rh.take (some 141) (i := 6) (v := ?_) rfl (by kernel_rfl) (by kernel_rfl) (by kernel_rfl) (by kernel_rfl) (fun _ _ _ h => h) (Or.inl ⟨by rfl, ?_⟩) hS0 ?_
                    rotate_left
                    · intro w hSw
                      go_simp
                      try with_reducible rfl
                    try simp only [Act.put, List.setIfInBounds_toArray, List.set_cons_zero, List.set_cons_succ]
                    refine Rh.take (some 142) (i := 7) (v := ?_) rfl (by kernel_rfl) (by kernel_rfl) (by kernel_rfl) (by kernel_rfl) (fun _ _ _ h => h) (Or.inl ⟨by rfl, ?_⟩) hS0 ?_
                    rotate_left
                    · intro w hSw
                      go_simp
                      try with_reducible rfl
                    try simp only [Act.put, List.setIfInBounds_toArray, List.set_cons_zero, List.set_cons_succ]
                    refine Rh.take (some 143) (i := 8) (v := ?_) rfl (by kernel_rfl) (by kernel_rfl) (by kernel_rfl) (by kernel_rfl) (fun _ _ _ h => h) (Or.inl ⟨by rfl, ?_⟩) hS0 ?_
                    rotate_left
                    · intro w hSw
                      go_simp
                      try with_reducible rfl
                    try simp only [Act.put, List.setIfInBounds_toArray, List.set_cons_zero, List.set_cons_succ]
                    refine Rh.take (some 144) (i := 9) (v := ?_) rfl (by kernel_rfl) (by kernel_rfl) (by kernel_rfl) (by kernel_rfl) (fun _ _ _ h => h) (Or.inl ⟨by rfl, ?_⟩) hS0 ?_
                    rotate_left
                    · intro w hSw
                      go_simp
                      try with_reducible rfl
                    try simp only [Act.put, List.setIfInBounds_toArray, List.set_cons_zero, List.set_cons_succ]
                    refine Rh.take (some 145) (i := 10) (v := ?_) rfl (by kernel_rfl) (by kernel_rfl) (by kernel_rfl) (by kernel_rfl) (fun _ _ _ h => h) (Or.inl ⟨by rfl, ?_⟩) hS0 ?_
                    rotate_left
                    · intro w hSw
                      go_simp
                      try with_reducible rfl
                    try simp only [Act.put, List.setIfInBounds_toArray, List.set_cons_zero, List.set_cons_succ]
                    refine Rh.take (some 146) (i := 11) (v := ?_) rfl (by kernel_rfl) (by kernel_rfl) (by kernel_rfl) (by kernel_rfl) (fun _ _ _ h => h) (Or.inl ⟨by rfl, ?_⟩) hS0 ?_
                    rotate_left
                    · intro w hSw
                      go_simp
                      try with_reducible rfl
                    try simp only [Act.put, List.setIfInBounds_toArray, List.set_cons_zero, List.set_cons_succ]
                    refine Rh.take (some 147) (i := 12) (v := ?_) rfl (by kernel_rfl) (by kernel_rfl) (by kernel_rfl) (by kernel_rfl) (fun _ _ _ h => h) (Or.inl ⟨by rfl, ?_⟩) hS0 ?_
                    rotate_left
                    · intro w hSw
                      go_simp
                      try with_reducible rfl
                    try simp only [Act.put, List.setIfInBounds_toArray, List.set_cons_zero, List.set_cons_succ]
                    refine Rh.take (some 148) (i := 13) (v := ?_) rfl (by kernel_rfl) (by kernel_rfl) (by kernel_rfl) (by kernel_rfl) (fun _ _ _ h => h) (Or.inl ⟨by rfl, ?_⟩) hS0 ?_
                    rotate_left
                    · intro w hSw
                      go_simp
                      try with_reducible rfl
                    try simp only [Act.put, List.setIfInBounds_toArray, List.set_cons_zero, List.set_cons_succ]
                    refine Rh.take (some 149) (i := 14) (v := ?_) rfl (by kernel_rfl) (by kernel_rfl) (by kernel_rfl) (by kernel_rfl) (fun _ _ _ h => h) (Or.inl ⟨by rfl, ?_⟩) hS0 ?_
                    rotate_left
                    · intro w hSw
                      go_simp
                      try with_reducible rfl
                    try simp only [Act.put, List.setIfInBounds_toArray, List.set_cons_zero, List.set_cons_succ]
                    refine Rh.take (some 150) (i := 15) (v := ?_) rfl (by kernel_rfl) (by kernel_rfl) (by kernel_rfl) (by kernel_rfl) (fun _ _ _ h => h) (Or.inl ⟨by rfl, ?_⟩) hS0 ?_
                    rotate_left
                    · intro w hSw
                      go_simp
                      try with_reducible rfl
                    try simp only [Act.put, List.setIfInBounds_toArray, List.set_cons_zero, List.set_cons_succ]
                    refine Rh.take (some 151) (i := 16) (v := ?_) rfl (by kernel_rfl) (by kernel_rfl) (by kernel_rfl) (by kernel_rfl) (fun _ _ _ h => h) (Or.inl ⟨by rfl, ?_⟩) hS0 ?_
                    rotate_left
                    · intro w hSw
                      go_simp
                      try with_reducible rfl
                    try simp only [Act.put, List.setIfInBounds_toArray, List.set_cons_zero, List.set_cons_succ]
                    refine Rh.take (some 152) (i := 17) (v := undef) rfl (by kernel_rfl) (by kernel_rfl) (by kernel_rfl) (by kernel_rfl) (fun _ _ _ h => h) (Or.inr ⟨by rfl, rfl⟩) hS0 ?_
                    try simp only [Act.put, List.setIfInBounds_toArray, List.set_cons_zero, List.set_cons_succ]
                    refine Rh.take (some 153) (i := 18) (v := undef) rfl (by kernel_rfl) (by kernel_rfl) (by kernel_rfl) (by kernel_rfl) (fun _ _ _ h => h) (Or.inr ⟨by rfl, rfl⟩) hS0 ?_
                    try simp only [Act.put, List.setIfInBounds_toArray, List.set_cons_zero, List.set_cons_succ]
                    refine Rh.take (some 154) (i := 19) (v := undef) rfl (by kernel_rfl) (by kernel_rfl) (by kernel_rfl) (by kernel_rfl) (fun _ _ _ h => h) (Or.inr ⟨by rfl, rfl⟩) hS0 ?_
                    try simp only [Act.put, List.setIfInBounds_toArray, List.set_cons_zero, List.set_cons_succ]
                    refine Rh.take (some 155) (i := 20) (v := undef) rfl (by kernel_rfl) (by kernel_rfl) (by kernel_rfl) (by kernel_rfl) (fun _ _ _ h => h) (Or.inr ⟨by rfl, rfl⟩) hS0 ?_
                    try simp only [Act.put, List.setIfInBounds_toArray, List.set_cons_zero, List.set_cons_succ]
                    refine Rh.take (some 156) (i := 21) (v := undef) rfl (by kernel_rfl) (by kernel_rfl) (by kernel_rfl) (by kernel_rfl) (fun _ _ _ h => h) (Or.inr ⟨by rfl, rfl⟩) hS0 ?_
                    try simp only [Act.put, List.setIfInBounds_toArray, List.set_cons_zero, List.set_cons_succ]
                    refine Rh.take (some 157) (i := 22) (v := undef) rfl (by kernel_rfl) (by kernel_rfl) (by kernel_rfl) (by kernel_rfl) (fun _ _ _ h => h) (Or.inr ⟨by rfl, rfl⟩) hS0 ?_
                    try simp only [Act.put, List.setIfInBounds_toArray, List.set_cons_zero, List.set_cons_succ]
                    refine Rh.take (some 158) (i := 23) (v := undef) rfl (by kernel_rfl) (by kernel_rfl) (by kernel_rfl) (by kernel_rfl) (fun _ _ _ h => h) (Or.inr ⟨by rfl, rfl⟩) hS0 ?_
                    try simp only [Act.put, List.setIfInBounds_toArray, List.set_cons_zero, List.set_cons_succ]
                    refine Rh.take (some 159) (i := 24) (v := undef) rfl (by kernel_rfl) (by kernel_rfl) (by kernel_rfl) (by kernel_rfl) (fun _ _ _ h => h) (Or.inr ⟨by rfl, rfl⟩) hS0 ?_
                    try simp only [Act.put, List.setIfInBounds_toArray, List.set_cons_zero, List.set_cons_succ]
                    refine Rh.take (some 160) (i := 25) (v := undef) rfl (by kernel_rfl) (by kernel_rfl) (by kernel_rfl) (by kernel_rfl) (fun _ _ _ h => h) (Or.inr ⟨by rfl, rfl⟩) hS0 ?_
                    try simp only [Act.put, List.setIfInBounds_toArray, List.set_cons_zero, List.set_cons_succ]
                    refine Rh.take (some 161) (i := 26) (v := undef) rfl (by kernel_rfl) (by kernel_rfl) (by kernel_rfl) (by kernel_rfl) (fun _ _ _ h => h) (Or.inr ⟨by rfl, rfl⟩) hS0 ?_
                    try simp only [Act.put, List.setIfInBounds_toArray, List.set_cons_zero, List.set_cons_succ]
                    refine Rh.take (some 162) (i := 27) (v := undef) rfl (by kernel_rfl) (by kernel_rfl) (by kernel_rfl) (by kernel_rfl) (fun _ _ _ h => h) (Or.inr ⟨by rfl, rfl⟩) hS0 ?_
                    try simp only [Act.put, List.setIfInBounds_toArray, List.set_cons_zero, List.set_cons_succ]
                    refine Rh.take (some 163) (i := 28) (v := undef) rfl (by kernel_rfl) (by kernel_rfl) (by kernel_rfl) (by kernel_rfl) (fun _ _ _ h => h) (Or.inr ⟨by rfl, rfl⟩) hS0 ?_
                    try simp only [Act.put, List.setIfInBounds_toArray, List.set_cons_zero, List.set_cons_succ]
                    refine Rh.take (some 164) (i := 29) (v := ?_) rfl (by kernel_rfl) (by kernel_rfl) (by kernel_rfl) (by kernel_rfl) (fun _ _ _ h => h) (Or.inl ⟨by rfl, ?_⟩) hS0 ?_
                    rotate_left
                    · intro w hSw
                      go_simp
                      try with_reducible rfl
                    try simp only [Act.put, List.setIfInBounds_toArray, List.set_cons_zero, List.set_cons_succ]
                    refine Rh.take (some 165) (i := 30) (v := ?_) rfl (by kernel_rfl) (by kernel_rfl) (by kernel_rfl) (by kernel_rfl) (fun _ _ _ h => h) (Or.inl ⟨by rfl, ?_⟩) hS0 ?_
                    rotate_left
                    · intro w hSw
                      go_simp
                      try with_reducible rfl
                    try simp only [Act.put, List.setIfInBounds_toArray, List.set_cons_zero, List.set_cons_succ]
                    refine Rh.done (by kernel_rfl) ?_ _
                    go_wp2
                    go_roundg (m - (i + 1))
                    case measure => omega
                    case rel => exact ⟨i + 1, by go_num, by omega, Lib.hid (HW.out.kept (Ne.below_drew (Below.refl _ _))), Lib.hid (Rw.own_below HO.out (Ne.below_drew (Below.refl _ _))), Lib.hid (HV.out.kept (Ne.below_drew (Below.refl _ _))), Lib.hid (Ne.below_drew HBX.out)⟩
                · have hii : ¬ (i : Int) < (m : Int) := by omega
                  have hdd64 : -9223372036854775808 ≤ dd ∧ dd ≤ 9223372036854775807 := by omega
                  clear hig hi
                  go_wp2_with fail
                  refine (hd_add HW.out (v : Int) dd hdd64).mono ?_
                  rintro e w26 ⟨he, h26, k26⟩
                  rw [HA1.out] at he
                  rw [HF2.out] at h26
                  subst he
                  have H26 := Lib.hid h26
                  have HB26 := Lib.hid (HBX.out.trans ((k26.below HW.out.size).mono hbs))
                  have HO_26 := Lib.hid (k26.own HO.out (by intro g e; cases e; exact List.mem_cons_self))
                  have HV_26 := Lib.hid (vals_kp HV.out HGV.out k26 HW.out.size)
                  clear h26 k26
                  go_wp2
                  go_loopg [23] n (fun gg si wz => ∃ u : Nat, si = .int .i64 u ∧ u + gg = n ∧ Hid (Hd wz b p f2 [gp]) ∧ Hid (Ne.OwnI wz b (.slice (some ⟨gp, 0, none⟩) m cp) (Ne.encW l)) ∧ Hid (Ne.IRow wz (some ⟨gv, 0, none⟩) vs) ∧ Hid (Below w.heap.size w wz))
                  case atStart => exact ⟨0, rfl, by omega, H26, HO_26, HV_26, HB26⟩
                  case round =>
                    obtain ⟨u, rfl, hug, HW, HO, HV, HBX⟩ := hrel
                    by_cases hu : u < n
                    · have hui : (u : Int) < (n : Int) := by omega
                      have hu0 : (0 : Int) ≤ (u : Int) := by omega
                      have c1 := HCV.out _ _ HV.out hu
                      have hv4 := HAD4.out u hu
                      have hab := HVB.out u hu
                      generalize Ne.amt vs u = au at *
                      have HV4 := Lib.hid hv4
                      have hwa : IntKind.i64.wrap (au + dd) = au + dd := by rw [IntKind.wrap_i64]; omega
                      obtain ⟨wy, hwy⟩ : ∃ wy, wy = wr := ⟨_, rfl⟩
                      subst hwy
                      clear hv4
                      go_wp2
                      clear c1
                      go_loopg [24, 25] m (fun gg sw si wz => ∃ (i : Nat) (W9 : Int), si = .int .i64 i ∧ sw = .int .i64 W9 ∧ i + gg = m ∧ Hid (W9 = if u ∈ l.take i then au + dd else au) ∧ wy = wz)
                      case atStart => exact ⟨0, au, rfl, rfl, by omega, Lib.hid (by simp), rfl⟩
                      case round =>
                        obtain ⟨i, W9, rfl, rfl, hig, HW9, rfl⟩ := hrel
                        by_cases hi : i < m
                        · have hii : (i : Int) < (m : Int) := by omega
                          have hi0 : (0 : Int) ≤ (i : Int) := by omega
                          obtain ⟨y, hy⟩ : ∃ y, l[i]? = some y := ⟨_, List.getElem?_eq_getElem (by rw [← HML.out]; exact hi)⟩
                          have c0 := HCL.out _ _ _ HO.out hy
                          have htk : l.take (i + 1) = l.take i ++ [y] := by rw [List.take_add_one, hy]; rfl
                          by_cases hyu : y = u
                          · have ty : ((y : Int) == (u : Int)) = true := by simp [hyu]
                            have hno : u ∉ l.take i := fun c => by
                              have h1 := HND.out.sublist (List.take_sublist (i + 1) l)
                              rw [htk] at h1
                              exact (List.nodup_append.1 h1).2.2 u c y (by simp) hyu.symm
                            have hw9 := HW9.out
                            rw [if_neg hno] at hw9
                            have HN := Lib.hid (show au + dd = if u ∈ l.take (i + 1) then au + dd else au by rw [htk, if_pos (by simp [hyu])])
                            clear htk hno hy
                            subst hyu
                            subst hw9
                            go_wp2
                            go_roundg (m - (i + 1))
                            case measure => omega
                            case rel => exact ⟨i + 1, W9 + dd, by go_num, rfl, by omega, HN, rfl⟩
                          · have ty : ((y : Int) == (u : Int)) = false := by simp; omega
                            have HN := Lib.hid (show W9 = if u ∈ l.take (i + 1) then au + dd else au by
                              rw [HW9.out, htk]
                              have : (u ∈ l.take i ++ [y]) ↔ u ∈ l.take i := by simp; exact fun e => absurd e.symm hyu
                              simp only [this])
                            clear htk hyu hy
                            go_wp2
                            go_roundg (m - (i + 1))
                            case measure => omega
                            case rel => exact ⟨i + 1, W9, by go_num, rfl, by omega, HN, rfl⟩
                        · have hii : ¬ (i : Int) < (m : Int) := by omega
                          have hw9 := HW9.out
                          rw [List.take_of_length_le (by rw [← HML.out]; omega), ← HV4.out] at hw9
                          subst hw9
                          obtain ⟨Z9, hZ9⟩ : ∃ Z9, Z9 = valZ f2 (u : Int) := ⟨_, rfl⟩
                          rw [← hZ9]
                          have HZ9 := Lib.hid hZ9
                          have tz : (Z9 != Z9) = false := by simp
                          clear hZ9 hig hi
                          go_wp2_with fail
                          refine (hd_value HW.out (u : Int)).mono ?_
                          rintro e w27 ⟨he, h27, k27⟩
                          rw [← HZ9.out] at he
                          subst he
                          have H27 := Lib.hid h27
                          have HB27 := Lib.hid (HBX.out.trans ((k27.below HW.out.size).mono hbs))
                          have HO_27 := Lib.hid (k27.own HO.out (by intro g e; cases e; exact List.mem_cons_self))
                          have HV_27 := Lib.hid (vals_kp HV.out HGV.out k27 HW.out.size)
                          clear h27 k27
                          go_wp2
                          go_roundg (n - (u + 1))
                          case measure => omega
                          case rel => exact ⟨u + 1, by go_num, by omega, H27, HO_27, HV_27, HB27⟩
                    · have hui : ¬ (u : Int) < (n : Int) := by omega
                      have tle : ((le : Int) == (le : Int)) = true := by simp
                      go_wp2_with fail
                      refine (hd_least HW.out (v : Int)).mono ?_
                      rintro e w28 ⟨he, h28, k28⟩
                      rw [HA3.out] at he
                      subst he
                      have H28 := Lib.hid h28
                      have HB28 := Lib.hid (HBX.out.trans ((k28.below HW.out.size).mono hbs))
                      clear h28 k28
                      go_wp2
                      go_ret
                      exact ⟨rfl, HB28.out⟩

end Go.Proofs.Ytjhodnpmogkmmaa.forestPaths
