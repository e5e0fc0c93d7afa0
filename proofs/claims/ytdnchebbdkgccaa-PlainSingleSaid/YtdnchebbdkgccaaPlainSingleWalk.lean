/- PlainSingle: for every input the law returns true and its arguments read as they did. No condition. -/
import Derived.Test.YtdnchebbdkgccaaSg8
import Derived.Test.YtdnchebbdkgccaaShown8
import Derived.Test.YtdnchebbdkgccaaSamei
import Derived.Deep.LoopGhost
import Derived.Deep.DeepCutAuto
import Derived.Test.YtdnchebbdkgccaaRows
import Derived.WalkKit
import Derived.ProofKit
import Derived.OpenShut
import Derived.ShutString
import Derived.ChangeOld
import Derived.Below
import Derived.Deep.Strs
namespace Go.Proofs.Ytdnchebbdkgccaa.plainSingle
open Go.ChangeShapes Go.WideShapes Go.ChangeAt Go.RowKit
open Go.ChangeMaps (open_string shut_string)
set_option linter.unusedVariables false
set_option linter.unusedSimpArgs false

theorem own : ownKnob Try.prog.godebug = none := by kernel_rfl
theorem laidOut : laidOutB Try.prog = true := by kernel_rfl

def IntsIn (k : IntKind) (w : World) (a : Option Addr) (len cap : Nat) (zs : List Int) : Prop :=
  (a = none ∧ len = 0 ∧ cap = 0 ∧ zs = []) ∨
  ∃ x, a = some x ∧ len ≤ cap ∧ cap ≤ maxLen ∧ zs.length = cap ∧ (∀ i, i < zs.length → w.cell? (x.add i) = some (.int k (zs.getD i 0))) ∧ ∀ n ∈ zs, (Lit.int k n).wf = true

theorem irow_single {w : World} {b o : Nat} {z : Int} (h : w.cell? ⟨b, o, none⟩ = some (.int .i64 z)) : Ne.IRow w (some ⟨b, o, none⟩) [z] := by
  refine .inr ⟨b, o, rfl, World.block_lt_of_cell? _ _ h, fun i x hx j v hv => ?_⟩
  have hi : i = 0 := by
    rcases i with _ | i
    · rfl
    · simp at hx
  subst hi
  have hj : j = 0 := by
    rcases j with _ | j
    · rfl
    · simp [Ne.encI] at hv
  subst hj
  simp at hx
  subst hx
  simp [Ne.encI] at hv
  subst hv
  exact h

set_option maxRecDepth 100000 in
set_option maxHeartbeats 4000000 in
theorem walk (a0 : Option Addr) (len0 cap0 : Nat) (l0 : List Int) (a1 : Int) (w : World) (w0 : IntsIn .i64 w a0 len0 cap0 l0) (w1 : (Lit.int .i64 a1).wf = true) :
    Calls Try.prog 8 #[.slice a0 len0 cap0, .int .i64 a1] w fun e w' => e = .returned (.bool true) ∧ Below w.heap.size w w' := by
  have HSH := Lib.hid (Ne.shown_any w)
  obtain ⟨cs, hk0, hq0, bq0, hcc, hcm, _⟩ := Ne.ints_row w0
  subst hk0
  clear w0
  have BK0 := Lib.hid bq0
  have KR0 := Lib.hid hq0
  clear bq0 hq0
  have b1 := bounds_i64 w1
  clear w1
  obtain ⟨m, hm⟩ : ∃ m, m = cs.length := ⟨_, rfl⟩
  rw [← hm]
  have HMM := Lib.hid hm
  have hm63 : m ≤ 9223372036854775807 := by unfold maxLen at hcm; omega
  clear hm hcc hcm
  by_cases g1 : 80 < m
  · have g1' : (80 : Int) < (m : Int) := by omega
    go_enter Try.func8, Try.ntmps8
    go_wp2_with fail
    refine HSH.out.mono ?_
    rintro e w1 ⟨rfl, hb⟩
    have HB1 := Lib.hid hb
    clear hb
    go_wp2
    go_ret
    exact ⟨rfl, HB1.out⟩
  have g1' : ¬ (80 : Int) < (m : Int) := by omega
  have hm2 : m ≤ 80 := by omega
  have bpa := Ne.pickN_bd (c := a1) (n := 10) (by omega)
  have PA := Lib.hid fun w' => Ne.pick_any a1 10 w' b1.1 b1.2 (by omega) (by omega)
  generalize Ne.pickN a1 10 = z at *
  have hz0 : 0 ≤ z := by omega
  have hz9 : z ≤ 10 := by omega
  clear bpa b1 g1
  obtain ⟨x, hx⟩ : ∃ x, x = 1 + z := ⟨_, rfl⟩
  have hx1 : 1 ≤ x := by omega
  have hx11 : x ≤ 11 := by omega
  have CK := Lib.hid (Sg.check (cs := cs) hm2)
  have hR := Ne.right_of CK.out
  have hFL : Ne.Flow (⟨2, 2, 1, Sg.arcsL cs m⟩ : Ne.Net) (List.replicate m 0) := by
    have := Ne.flow_nought hR
    simp only [Sg.arcs_len] at this
    exact this
  obtain ⟨L1, hl1⟩ := Ne.lev_exists hR (List.replicate m 0) x
  have hB := Sg.blk hx1 hR hl1
  have BX := Lib.hid fun o9 c9 w' (b : Nat) h1 h2 => Ne.block_flow (n := (⟨2, 2, 1, Sg.arcsL cs m⟩ : Ne.Net)) (f := List.replicate m 0) o9 c9 (some ⟨b, 0, none⟩) m w' CK.out h1 h2 hFL.okf x hx1 hl1 (by simp only [Sg.arcs_len]; exact hB)
  simp only [Ne.encN, Sg.arcs_len] at BX
  have HKW := Sg.walks_len cs x m
  have HWLE := Sg.want_len cs x m
  have HIX := Lib.hid (fun q h => Sg.at_index (cs := cs) (x := x) (m := m) (q := q) h)
  have HFLN := Lib.hid (Sg.flow_len cs x m m)
  have HWH := Lib.hid (fun k h => Sg.want_hit (cs := cs) (x := x) (k := k) h)
  have HWM := Lib.hid (fun k h => Sg.want_miss (cs := cs) (x := x) (k := k) h)
  have HW0 := Lib.hid (show Sg.wantL cs x 0 = [] from rfl)
  have HWK := Lib.hid (fun k => Sg.want_len cs x k)
  have HAS := Lib.hid (fun k => Sg.arcs_succ cs k)
  have HA0 := Lib.hid (show Sg.arcsL cs 0 = [] from rfl)
  have HAN := Lib.hid (fun k => Sg.arcs_len cs k)
  have HAA := Lib.hid (fun i (h : i < m) => Sg.arcs_at cs h)
  have HCB := Lib.hid (fun i => Sg.cap_bd cs i)
  have HCE := Lib.hid (fun i => show Sg.capC cs i = Ne.pickN (Ne.amt cs i) 20 from rfl)
  clear hB hl1 hFL hR L1
  generalize Sg.walksL cs x 0 m = WS at *
  generalize Sg.flowL cs x m m = GF at *
  generalize Sg.wantL cs x = WL at *
  generalize Sg.arcsL cs = CA at *
  generalize Sg.capC cs = CC at *
  have hmk := Ne.make_l m (by omega)
  go_enter Try.func8, Try.ntmps8
  go_wp2_with fail
  refine HSH.out.mono ?_
  rintro e w1 ⟨rfl, hb⟩
  have HB1 := Lib.hid hb
  clear hb HSH
  have HN2 := Lib.hid (Ne.netBox_new w1 2 2 1 (.slice none 0 0))
  have HB2 := Lib.hid (HB1.out.alloc HB1.out.size (.cells #[.int .i64 2, .int .i64 2, .int .i64 1, .slice none 0 0] 24))
  go_wp2_with fail
  obtain ⟨bn, hbn⟩ : ∃ b, b = w1.heap.size := ⟨_, rfl⟩
  have HBN := Lib.hid (show w.heap.size ≤ bn by have := HB1.out.size; omega)
  rw [← hbn] at HN2 ⊢
  clear hbn
  generalize (w1.alloc (.cells #[.int .i64 2, .int .i64 2, .int .i64 1, .slice none 0 0] 24)) = W2 at *
  refine (PA.out _).mono ?_
  rintro e w' ⟨rfl, rfl⟩
  subst hx
  go_wp2
  go_loopg [8, 9, 10] m (fun g sf i ic wr => ∃ (k : Nat) (v vw : Value), vw = sf ∧ i = .int .i64 k ∧ k + g = m ∧ Hid (Ne.NetBox wr bn 2 2 1 v) ∧ Hid (Ne.OwnA wr (bn + 1) v (CA k)) ∧ Hid (Ne.OwnI wr (bn + 1) vw (Ne.encW (WL k))) ∧ Hid (Below w.heap.size w wr))
  case atStart => exact ⟨0, _, _, rfl, rfl, by omega, HN2, Lib.hid (by rw [HA0.out]; exact Rw.own_nil _ _), Lib.hid (by rw [HW0.out]; exact Rw.own_nil _ _), HB2⟩
  case round =>
    obtain ⟨k, v, vw, rfl, rfl, hkg, HNW, HOW, HWT, HBW⟩ := hrel
    obtain ⟨o9, c9, hv9, _, _, hn9, hr9, hb9, _⟩ := Rw.own_row Ne.encA_len HOW.out
    rw [HAN.out] at hv9
    subst hv9
    have hbl := Ne.netBox_lt HNW.out
    by_cases hlt : k < m
    · have hki : (k : Int) < (m : Int) := by omega
      have hk0 : (0 : Int) ≤ (k : Int) := by omega
      obtain ⟨b0, o0, e0, hb0, d0⟩ := Ne.irow_cell (KR0.out.kept HBW.out) (i := k) (by rw [← HMM.out]; exact hlt)
      subst e0
      have hraw := BK0.out (Ne.amt cs k) (by have := Ne.at_amt (f := cs) (i := k) (by rw [← HMM.out]; exact hlt); exact List.mem_of_getElem? this)
      have HAK := Lib.hid (HAS.out k)
      have HWHK := Lib.hid (HWH.out k)
      have HWMK := Lib.hid (HWM.out k)
      have HCEK := HCE.out k
      have hwk := HWK.out k
      generalize Ne.amt cs k = raw at *
      have PK := Lib.hid fun w' => Ne.pick_any raw 20 w' hraw.1 hraw.2 (by omega) (by omega)
      have bpk := HCB.out k
      rw [← HCEK] at PK
      clear HCEK hraw
      generalize CC k = pk at *
      have HNA := Lib.hid (Ne.netBox_alloc HNW.out (.cells #[.int .i64 2, .int .i64 1, .int .i64 pk] 67))
      have HOA := Lib.hid (Rw.own_alloc HOW.out (.cells #[.int .i64 2, .int .i64 1, .int .i64 pk] 67))
      have HWA := Lib.hid (Rw.own_alloc HWT.out (.cells #[.int .i64 2, .int .i64 1, .int .i64 pk] 67))
      have HAR := Lib.hid (Ne.arow_at1 wr rfl ⟨2, 1, pk⟩)
      have HLN := Lib.hid (show (CA k).length + ([⟨2, 1, pk⟩] : List Ne.Arc).length ≤ 1099511627776 by rw [HAN.out]; simp; omega)
      have HVB := Lib.hid (Rw.own_block HOW.out)
      have HBA := Lib.hid (HBW.out.alloc HBW.out.size (.cells #[.int .i64 2, .int .i64 1, .int .i64 pk] 67))
      have HZA := Lib.hid (show bn + 1 ≤ (wr.alloc (.cells #[.int .i64 2, .int .i64 1, .int .i64 pk] 67)).heap.size by simp; omega)
      have HBNN := HBN.out
      obtain ⟨n0, n1, n2, n3⟩ := Ne.netBox_cells HNW.out
      clear hr9 hb9 hn9
      go_wp2_with fail
      refine (PK.out _).mono ?_
      rintro e w' ⟨rfl, rfl⟩
      clear d0
      go_upto_region 12 with (at_builtin; refine Rw.app Ne.elemA Ne.encA_len Ne.encA_one rfl (.tmp 40) (.tmp 43) rfl (bn + 1) _ (CA k) rfl HOA.out (some ⟨wr.heap.size, 0, none⟩) 1 [⟨2, 1, pk⟩] rfl ?hnn HAR.out HLN.out ?hB ?_; (case hnn => (intro h; cases h)); (case hB => (exact HZA.out)); intro v8 w8 hown8 hgr8; rw [← HAK.out] at hown8; obtain ⟨o8, c8, hv8, _⟩ := Rw.own_row Ne.encA_len hown8; rw [HAN.out] at hv8; subst hv8; have HN8 := Lib.hid (Ne.netBox_grown HNA.out hgr8 (fun h => by have := HVB.out _ h.symm; omega)); have HO8 := Lib.hid hown8; have HWT8 := Lib.hid (Ne.own_same HWA.out fun g hg => hgr8.block g (Rw.own_lt HWA.out g hg).2 fun e => Ne.own_types (by decide) HWA.out HOA.out g hg e.symm); have HB8 := Lib.hid (HBA.out.grown hgr8 HBA.out.size (fun b hb => by have := HVB.out b hb; omega)); have m3 := (Ne.netBox_cells HN8.out).2.2.2; have mf := Ne.netBox_frozen HN8.out 3; clear hown8 hgr8)
      have HN9 := Lib.hid (Ne.netBox_set (v2 := .slice o8 (k + 1) c8) HN8.out)
      have HO9 := Lib.hid (Rw.own_set HO8.out (p := ⟨bn, 3, none⟩) (fun h => by have := Rw.own_block HO8.out _ h; simp only at this; omega) (.slice o8 (k + 1) c8))
      have HWT9 := Lib.hid (Rw.own_set HWT8.out (p := ⟨bn, 3, none⟩) (fun h => by have := Rw.own_block HWT8.out _ h; simp only at this; omega) (.slice o8 (k + 1) c8))
      have HB9 := Lib.hid (HB8.out.setCell (p := ⟨bn, 3, none⟩) HBNN (.slice o8 (k + 1) c8))
      generalize (w8.setCell ⟨bn, 3, none⟩ (.slice o8 (k + 1) c8)) = W9 at *
      clear n0 n1 n2 n3 m3 mf HB8 HWT8 HO8 HN8 HOA HWA HNA HBA HZA HAR HLN HVB
      by_cases c : 1 + z ≤ pk
      · have c' : decide (1 + z ≤ pk) = true := by simpa using c
        have hww : IntKind.i64.wrap (2 * (k : Int)) = 2 * (k : Int) := by rw [IntKind.wrap_i64]; omega
        have HST := Lib.hid (show Ne.encW (WL (k + 1)) = Ne.encW (WL k) ++ [(2 * (k : Int))] by rw [HWHK.out c, Ne.encW_snoc]; simp)
        have HO3 := Lib.hid (Rw.own_alloc HWT9.out (.cells #[.int .i64 (2 * (k : Int))] 3))
        have HR3 := Lib.hid (Ne.irow_one' W9 rfl (2 * (k : Int)) 3)
        have HVB3 := Lib.hid (Rw.own_block HWT9.out)
        have HN3 := Lib.hid (Ne.netBox_alloc HN9.out (.cells #[.int .i64 (2 * (k : Int))] 3))
        have HA3 := Lib.hid (Rw.own_alloc HO9.out (.cells #[.int .i64 (2 * (k : Int))] 3))
        have HB3 := Lib.hid (HB9.out.alloc HB9.out.size (.cells #[.int .i64 (2 * (k : Int))] 3))
        have HZ3 := Lib.hid (show bn + 1 ≤ (W9.alloc (.cells #[.int .i64 (2 * (k : Int))] 3)).heap.size by have := Ne.netBox_lt HN9.out; simp; omega)
        have HLN3 := Lib.hid (show (Ne.encW (WL k)).length + ([(2 * (k : Int))] : List Int).length ≤ 1099511627776 by rw [Ne.encW_len]; simp; omega)
        clear c
        go_wp2_with (at_builtin; refine Rw.app Ne.elemI Ne.encI_len Ne.encI_one rfl (.tmp 49) (.tmp 52) rfl (bn + 1) _ (Ne.encW (WL k)) rfl HO3.out (some ⟨W9.heap.size, 0, none⟩) 1 [(2 * (k : Int))] rfl ?hnn HR3.out HLN3.out ?hB ?_; (case hnn => (intro h; cases h)); (case hB => (exact HZ3.out)); intro v4 w4' hown4 hgr4; rw [← HST.out] at hown4; have HN4 := Lib.hid (Ne.netBox_grown HN3.out hgr4 (fun h => by have := HVB3.out _ h.symm; omega)); have HA4 := Lib.hid (Ne.own_same HA3.out fun g hg => hgr4.block g (Rw.own_lt HA3.out g hg).2 fun e => Ne.own_types (by decide) HA3.out HO3.out g hg e.symm); have HB4 := Lib.hid (HB3.out.grown hgr4 HB3.out.size (fun b hb => by have := HVB3.out b hb; omega)); have HO4 := Lib.hid hown4; clear hown4 hgr4)
        go_roundg (m - (k + 1))
        case measure => omega
        case rel => exact ⟨k + 1, _, _, rfl, by go_num, by omega, HN4, HA4, HO4, HB4⟩
      · have c' : decide (1 + z ≤ pk) = false := by simpa using c
        have HWT10 := Lib.hid (show Ne.OwnI W9 (bn + 1) vw (Ne.encW (WL (k + 1))) by rw [HWMK.out (by omega)]; exact HWT9.out)
        clear c
        go_wp2
        go_roundg (m - (k + 1))
        case measure => omega
        case rel => exact ⟨k + 1, _, _, rfl, by go_num, by omega, HN9, HO9, HWT10, HB9⟩
    · have ek : k = m := by omega
      subst k
      have HRW := Lib.hid (show Ne.ARow wr.drew o9 (CA m) from hr9)
      obtain ⟨ow, cw, hvw, hcw, hcm, _⟩ := Rw.own_row Ne.encI_len HWT.out
      rw [Ne.encW_len] at hvw hcw
      subst hvw
      have HIW := Lib.hid (show Ne.IRow wr.drew ow (Ne.encW (WL m)) from Ne.own_irow HWT.out)
      obtain ⟨n0, n1, n2, n3⟩ := Ne.netBox_cells HNW.out
      have hS0 := (show (fun w' : World => w'.cell? ⟨bn, 0, none⟩ = some (.int .i64 2) ∧ w'.cell? ⟨bn, 1, none⟩ = some (.int .i64 2) ∧ w'.cell? ⟨bn, 2, none⟩ = some (.int .i64 1) ∧ w'.cell? ⟨bn, 3, none⟩ = some (.slice o9 m c9)) wr.drew from ⟨n0, n1, n2, n3⟩)
      clear hlt hr9 hb9 hn9 hkg HAS HA0 HWH HWM HW0 HWK HCE n0 n1 n2 n3 HWT
      go_wp2
      refine Rh.start (S := (fun w' : World => w'.cell? ⟨bn, 0, none⟩ = some (.int .i64 2) ∧ w'.cell? ⟨bn, 1, none⟩ = some (.int .i64 2) ∧ w'.cell? ⟨bn, 2, none⟩ = some (.int .i64 1) ∧ w'.cell? ⟨bn, 3, none⟩ = some (.slice o9 m c9))) (by kernel_rfl) ?_
      refine Rh.take (some 55) (i := 0) (v := ?_) rfl (by kernel_rfl) (by kernel_rfl) (by kernel_rfl) (by kernel_rfl) (fun _ _ _ h => h) (Or.inl ⟨by rfl, ?_⟩) hS0 ?_
      rotate_left
      · intro w hSw
        go_simp
        try with_reducible rfl
      try simp only [Act.put, List.setIfInBounds_toArray, List.set_cons_zero, List.set_cons_succ]
      refine Rh.take (some 56) (i := 1) (v := ?_) rfl (by kernel_rfl) (by kernel_rfl) (by kernel_rfl) (by kernel_rfl) (fun _ _ _ h => h) (Or.inl ⟨by rfl, ?_⟩) hS0 ?_
      rotate_left
      · intro w hSw
        go_simp
        try with_reducible rfl
      try simp only [Act.put, List.setIfInBounds_toArray, List.set_cons_zero, List.set_cons_succ]
      refine Rh.take (some 57) (i := 2) (v := ?_) rfl (by kernel_rfl) (by kernel_rfl) (by kernel_rfl) (by kernel_rfl) (fun _ _ _ h => h) (Or.inl ⟨by rfl, ?_⟩) hS0 ?_
      rotate_left
      · intro w hSw
        go_simp
        try with_reducible rfl
      try simp only [Act.put, List.setIfInBounds_toArray, List.set_cons_zero, List.set_cons_succ]
      refine Rh.take (some 59) (i := 4) (v := ?_) rfl (by kernel_rfl) (by kernel_rfl) (by kernel_rfl) (by kernel_rfl) (fun _ _ _ h => h) (Or.inl ⟨by rfl, ?_⟩) hS0 ?_
      rotate_left
      · intro w hSw
        go_simp
        try with_reducible rfl
      try simp only [Act.put, List.setIfInBounds_toArray, List.set_cons_zero, List.set_cons_succ]
      refine Rh.step (i := 3) (by kernel_rfl) rfl fun K' hK' => ?_
      have HK := Lib.hid hK'
      clear hK'
      go_simp
      have hbA := (Below.refl wr.drew.heap.size wr.drew).alloc (Nat.le_refl _) (.cells (madeCells #[.int .i64 0] m) 2)
      have HLA := Lib.hid (Ne.lbox_made wr.drew m (b := wr.heap.size) rfl)
      have hS1 := (show (fun w' : World => w'.cell? ⟨bn, 0, none⟩ = some (.int .i64 2) ∧ w'.cell? ⟨bn, 1, none⟩ = some (.int .i64 2) ∧ w'.cell? ⟨bn, 2, none⟩ = some (.int .i64 1) ∧ w'.cell? ⟨bn, 3, none⟩ = some (.slice o9 m c9)) (wr.drew.alloc (.cells (madeCells #[.int .i64 0] m) 2)) from ⟨(hbA.cell (p := ⟨bn, 0, none⟩) hbl).trans hS0.1, (hbA.cell (p := ⟨bn, 1, none⟩) hbl).trans hS0.2.1, (hbA.cell (p := ⟨bn, 2, none⟩) hbl).trans hS0.2.2.1, (hbA.cell (p := ⟨bn, 3, none⟩) hbl).trans hS0.2.2.2⟩)
      refine HK.out _ _ ⟨hS1, ?_⟩
      clear HK K'
      try simp only [Act.put, List.setIfInBounds_toArray, List.set_cons_zero, List.set_cons_succ]
      refine Rh.step (i := 5) (by kernel_rfl) rfl fun K' hK' => ?_
      have HK := Lib.hid hK'
      clear hK'
      go_simp
      refine (BX.out o9 c9 _ wr.heap.size (HRW.out.kept hbA) HLA.out.irow).mono ?_
      rintro e w5 ⟨o5, c5, v5, rfl, hi5, hv5, hb⟩
      have hbAB := hbA.trans (hb.mono hbA.size)
      obtain ⟨p5, q5, rfl, _, _, _⟩ := hv5.val
      have hS2 := (show (fun w' : World => w'.cell? ⟨bn, 0, none⟩ = some (.int .i64 2) ∧ w'.cell? ⟨bn, 1, none⟩ = some (.int .i64 2) ∧ w'.cell? ⟨bn, 2, none⟩ = some (.int .i64 1) ∧ w'.cell? ⟨bn, 3, none⟩ = some (.slice o9 m c9)) w5 from ⟨(hbAB.cell (p := ⟨bn, 0, none⟩) hbl).trans hS0.1, (hbAB.cell (p := ⟨bn, 1, none⟩) hbl).trans hS0.2.1, (hbAB.cell (p := ⟨bn, 2, none⟩) hbl).trans hS0.2.2.1, (hbAB.cell (p := ⟨bn, 3, none⟩) hbl).trans hS0.2.2.2⟩)
      refine HK.out _ _ ⟨hS2, ?_⟩
      clear HK K'
      try simp only [Act.put, List.setIfInBounds_toArray, List.set_cons_zero, List.set_cons_succ]
      refine Rh.take (some 54) (i := 6) (v := ?_) rfl (by kernel_rfl) (by kernel_rfl) (by kernel_rfl) (by kernel_rfl) (fun _ _ _ h => h) (Or.inl ⟨by rfl, ?_⟩) hS2 ?_
      rotate_left
      · intro w hSw
        go_simp
        try with_reducible rfl
      try simp only [Act.put, List.setIfInBounds_toArray, List.set_cons_zero, List.set_cons_succ]
      refine Rh.take (some 61) (i := 7) (v := ?_) rfl (by kernel_rfl) (by kernel_rfl) (by kernel_rfl) (by kernel_rfl) (fun _ _ _ h => h) (Or.inl ⟨by rfl, ?_⟩) hS2 ?_
      rotate_left
      · intro w hSw
        go_simp
        try with_reducible rfl
      try simp only [Act.put, List.setIfInBounds_toArray, List.set_cons_zero, List.set_cons_succ]
      refine Rh.take (some 62) (i := 8) (v := ?_) rfl (by kernel_rfl) (by kernel_rfl) (by kernel_rfl) (by kernel_rfl) (fun _ _ _ h => h) (Or.inl ⟨by rfl, ?_⟩) hS2 ?_
      rotate_left
      · intro w hSw
        go_simp
        try with_reducible rfl
      try simp only [Act.put, List.setIfInBounds_toArray, List.set_cons_zero, List.set_cons_succ]
      refine Rh.take (some 63) (i := 9) (v := ?_) rfl (by kernel_rfl) (by kernel_rfl) (by kernel_rfl) (by kernel_rfl) (fun _ _ _ h => h) (Or.inl ⟨by rfl, ?_⟩) hS2 ?_
      rotate_left
      · intro w hSw
        go_simp
        try with_reducible rfl
      try simp only [Act.put, List.setIfInBounds_toArray, List.set_cons_zero, List.set_cons_succ]
      refine Rh.take (some 11) (i := 10) (v := ?_) rfl (by kernel_rfl) (by kernel_rfl) (by kernel_rfl) (by kernel_rfl) (fun _ _ _ h => h) (Or.inl ⟨by rfl, ?_⟩) hS2 ?_
      rotate_left
      · intro w hSw
        go_simp
        try with_reducible rfl
      try simp only [Act.put, List.setIfInBounds_toArray, List.set_cons_zero, List.set_cons_succ]
      refine Rh.take (some 12) (i := 11) (v := ?_) rfl (by kernel_rfl) (by kernel_rfl) (by kernel_rfl) (by kernel_rfl) (fun _ _ _ h => h) (Or.inl ⟨by rfl, ?_⟩) hS2 ?_
      rotate_left
      · intro w hSw
        go_simp
        try with_reducible rfl
      try simp only [Act.put, List.setIfInBounds_toArray, List.set_cons_zero, List.set_cons_succ]
      refine Rh.take (some 13) (i := 12) (v := ?_) rfl (by kernel_rfl) (by kernel_rfl) (by kernel_rfl) (by kernel_rfl) (fun _ _ _ h => h) (Or.inl ⟨by rfl, ?_⟩) hS2 ?_
      rotate_left
      · intro w hSw
        go_simp
        try with_reducible rfl
      try simp only [Act.put, List.setIfInBounds_toArray, List.set_cons_zero, List.set_cons_succ]
      refine Rh.done (by kernel_rfl) ?_ _
      have HV5 := Lib.hid hv5
      have HI5 := Lib.hid hi5
      have HB5 := Lib.hid ((Ne.below_drew HBW.out).trans (hbAB.mono HBW.out.size))
      have HR5 := Lib.hid (show Ne.ARow w5 o9 (CA m) from (HRW.out.kept hbAB))
      have HW5 := Lib.hid (show Ne.IRow w5 ow (Ne.encW (WL m)) from (HIW.out.kept hbAB))
      have hbl5 : bn < w5.heap.size := Nat.lt_of_lt_of_le hbl hbAB.size
      have H35 := Lib.hid hS2.2.2.2
      have hbz := HBN.out
      clear hv5 hi5 hb hbA hbAB HLA hS0 hS1 hS2 HRW HIW hbl BX hmk
      obtain ⟨K, hK⟩ : ∃ K, K = (WL m).length := ⟨_, rfl⟩
      rw [HKW, ← hK]
      rw [← hK] at hcw
      rw [← hK] at HKW
      have HKWH := Lib.hid HKW
      rw [← hK] at HIX HWLE
      have HKH := Lib.hid hK
      clear HKW hK
      have hkk : ((K : Int) != (K : Int)) = false := by simp
      go_wp2
      go_loopg [14] K (fun g i wr => ∃ q : Nat, i = .int .i64 (q : Int) ∧ q + g = K ∧ Hid (Below w5.heap.size w5 wr))
      case atStart => exact ⟨0, rfl, by omega, Lib.hid (Below.refl _ _)⟩
      case round =>
        obtain ⟨q, rfl, hqg, HBQ⟩ := hrel
        by_cases hq : q < K
        · have hqi : (q : Int) < (K : Int) := by omega
          have hq0 : (0 : Int) ≤ (q : Int) := by omega
          obtain ⟨i, him, e1, e2, e3⟩ := HIX.out q hq
          obtain ⟨g7, c7, o7, m7, am, hv7, hg7, l4, d4, d5, ham, ho7⟩ := (HV5.out.kept HBQ.out).at (i := q) (by rw [HKWH.out]; exact hq)
          rw [e2] at d4 ham ho7
          simp only [List.length_cons, List.length_nil, Nat.zero_add] at d4 ho7
          simp only at ham
          subst ham
          obtain ⟨bw, ow', hbw, l3, d3⟩ := Ne.irow_cell (HW5.out.kept HBQ.out) (i := q) (by rw [Ne.encW_len, ← HKH.out]; exact hq)
          rw [Ne.encW_at (by rw [← HKH.out]; exact hq), e1] at d3
          obtain ⟨ba, oa, hba, l2, _, _, d2⟩ := Ne.arow_cell (HR5.out.kept HBQ.out) (i := i) (by rw [HAN.out]; exact him)
          rw [HAA.out i him] at d2
          simp only at d2
          obtain ⟨bf, of, hbf, l6, d6⟩ := Ne.irow_cell (HI5.out.kept HBQ.out) (i := i) (by rw [HFLN.out]; exact him)
          rw [e3] at d6
          clear e1 e2 e3
          obtain ⟨p, hp⟩ : ∃ p : Nat, p = 2 * i := ⟨_, rfl⟩
          rw [← hp] at d3 ho7
          have hp0 : (0 : Int) ≤ (p : Int) := by omega
          have hdv : Int.tdiv (p : Int) 2 = (i : Int) := by rw [Int.tdiv_eq_ediv_of_nonneg hp0]; omega
          have hi0 : (0 : Int) ≤ (i : Int) := by omega
          have himi : (i : Int) < (m : Int) := by omega
          have hq1 : (0 : Int) ≤ (q : Int) + 1 := by omega
          have hq2 : IntKind.i64.wrap ((q : Int) + 1) = (q : Int) + 1 := by have := HWLE; rw [IntKind.wrap_i64]; omega
          have d1 := (HBQ.out.cell (p := ⟨bn, 3, none⟩) hbl5).trans H35.out
          subst hba
          subst hbw
          subst hbf
          have l1 := Nat.lt_of_lt_of_le hbl5 HBQ.out.size
          have HTW := Lib.hid (Ne.own_irow ho7)
          have SM := Lib.hid fun c2 w' h1 h2 => show Calls Try.prog 19 #[.slice o7 1 m7, .slice (some ⟨bw, ow' + q, none⟩) 1 c2] w' fun e w2 => e = .returned (.bool true) ∧ Below w'.heap.size w' w2 from by
            have := Ne.same_any o7 (some ⟨bw, ow' + q, none⟩) m7 c2 [(p : Int)] [(p : Int)] w' h1 h2 (by simp) (by simp)
            simpa using this
          have HPW := Lib.hid (show Ne.IRow wr.drew (some ⟨bw, ow' + q, none⟩) [(p : Int)] from irow_single (w := wr.drew) d3)
          have hqc : (q : Int) + 1 ≤ (cw : Int) := by omega
          have hqw : (q : Int) ≤ (cw : Int) := by omega
          have hcq : ¬ cw = q := by omega
          have hiw : IntKind.i64.wrap (i : Int) = (i : Int) := by rw [IntKind.wrap_i64]; omega
          have hcc : (CC i != CC i) = false := by simp
          have HCC := HCB.out i
          clear ho7 hp
          generalize CC i = ci at *
          go_wp2
          have hS0 := (show (fun w' : World => w'.cell? ⟨bn, 3, none⟩ = some (.slice (some ⟨ba, oa, none⟩) m c9) ∧ w'.cell? ⟨ba, oa + i * 3 + 2, none⟩ = some (.int .i64 ci) ∧ w'.cell? ⟨bw, ow' + q, none⟩ = some (.int .i64 (p : Int)) ∧ w'.cell? ⟨g7, q * 2, none⟩ = some (.slice o7 1 m7) ∧ w'.cell? ⟨g7, q * 2 + 1, none⟩ = some (.int .i64 ci) ∧ w'.cell? ⟨bf, of + i, none⟩ = some (.int .i64 ci)) wr.drew from ⟨d1, d2, d3, d4, d5, d6⟩)
          refine Rh.start (S := (fun w' : World => w'.cell? ⟨bn, 3, none⟩ = some (.slice (some ⟨ba, oa, none⟩) m c9) ∧ w'.cell? ⟨ba, oa + i * 3 + 2, none⟩ = some (.int .i64 ci) ∧ w'.cell? ⟨bw, ow' + q, none⟩ = some (.int .i64 (p : Int)) ∧ w'.cell? ⟨g7, q * 2, none⟩ = some (.slice o7 1 m7) ∧ w'.cell? ⟨g7, q * 2 + 1, none⟩ = some (.int .i64 ci) ∧ w'.cell? ⟨bf, of + i, none⟩ = some (.int .i64 ci))) (by kernel_rfl) ?_
          refine Rh.take (some 79) (i := 0) (v := ?_) rfl (by kernel_rfl) (by kernel_rfl) (by kernel_rfl) (by kernel_rfl) (fun _ _ _ h => h) (Or.inl ⟨by rfl, ?_⟩) hS0 ?_
          rotate_left
          · intro w hSw
            go_simp
            try with_reducible rfl
          try simp only [Act.put, List.setIfInBounds_toArray, List.set_cons_zero, List.set_cons_succ]
          refine Rh.take (some 80) (i := 1) (v := ?_) rfl (by kernel_rfl) (by kernel_rfl) (by kernel_rfl) (by kernel_rfl) (fun _ _ _ h => h) (Or.inl ⟨by rfl, ?_⟩) hS0 ?_
          rotate_left
          · intro w hSw
            go_simp
            try with_reducible rfl
          try simp only [Act.put, List.setIfInBounds_toArray, List.set_cons_zero, List.set_cons_succ]
          refine Rh.take (some 81) (i := 2) (v := ?_) rfl (by kernel_rfl) (by kernel_rfl) (by kernel_rfl) (by kernel_rfl) (fun _ _ _ h => h) (Or.inl ⟨by rfl, ?_⟩) hS0 ?_
          rotate_left
          · intro w hSw
            go_simp
            try with_reducible rfl
          try simp only [Act.put, List.setIfInBounds_toArray, List.set_cons_zero, List.set_cons_succ]
          refine Rh.take (some 82) (i := 3) (v := ?_) rfl (by kernel_rfl) (by kernel_rfl) (by kernel_rfl) (by kernel_rfl) (fun _ _ _ h => h) (Or.inl ⟨by rfl, ?_⟩) hS0 ?_
          rotate_left
          · intro w hSw
            go_simp
            try with_reducible rfl
          try simp only [Act.put, List.setIfInBounds_toArray, List.set_cons_zero, List.set_cons_succ]
          refine Rh.take (some 83) (i := 4) (v := ?_) rfl (by kernel_rfl) (by kernel_rfl) (by kernel_rfl) (by kernel_rfl) (fun _ _ _ h => h) (Or.inl ⟨by rfl, ?_⟩) hS0 ?_
          rotate_left
          · intro w hSw
            go_simp
            try with_reducible rfl
          try simp only [Act.put, List.setIfInBounds_toArray, List.set_cons_zero, List.set_cons_succ]
          refine Rh.take (some 84) (i := 5) (v := ?_) rfl (by kernel_rfl) (by kernel_rfl) (by kernel_rfl) (by kernel_rfl) (fun _ _ _ h => h) (Or.inl ⟨by rfl, ?_⟩) hS0 ?_
          rotate_left
          · intro w hSw
            go_simp
            try with_reducible rfl
          try simp only [Act.put, List.setIfInBounds_toArray, List.set_cons_zero, List.set_cons_succ]
          refine Rh.take (some 85) (i := 6) (v := ?_) rfl (by kernel_rfl) (by kernel_rfl) (by kernel_rfl) (by kernel_rfl) (fun _ _ _ h => h) (Or.inl ⟨by rfl, ?_⟩) hS0 ?_
          rotate_left
          · intro w hSw
            go_simp
            try with_reducible rfl
          try simp only [Act.put, List.setIfInBounds_toArray, List.set_cons_zero, List.set_cons_succ]
          refine Rh.take (some 86) (i := 7) (v := ?_) rfl (by kernel_rfl) (by kernel_rfl) (by kernel_rfl) (by kernel_rfl) (fun _ _ _ h => h) (Or.inl ⟨by rfl, ?_⟩) hS0 ?_
          rotate_left
          · intro w hSw
            go_simp
            try with_reducible rfl
          try simp only [Act.put, List.setIfInBounds_toArray, List.set_cons_zero, List.set_cons_succ]
          refine Rh.take (some 87) (i := 8) (v := ?_) rfl (by kernel_rfl) (by kernel_rfl) (by kernel_rfl) (by kernel_rfl) (fun _ _ _ h => h) (Or.inl ⟨by rfl, ?_⟩) hS0 ?_
          rotate_left
          · intro w hSw
            go_simp
            try with_reducible rfl
          try simp only [Act.put, List.setIfInBounds_toArray, List.set_cons_zero, List.set_cons_succ]
          refine Rh.take (some 88) (i := 9) (v := ?_) rfl (by kernel_rfl) (by kernel_rfl) (by kernel_rfl) (by kernel_rfl) (fun _ _ _ h => h) (Or.inl ⟨by rfl, ?_⟩) hS0 ?_
          rotate_left
          · intro w hSw
            go_simp
            try with_reducible rfl
          try simp only [Act.put, List.setIfInBounds_toArray, List.set_cons_zero, List.set_cons_succ]
          refine Rh.step (i := 10) (by kernel_rfl) rfl fun K' hK' => ?_
          have HK := Lib.hid hK'
          clear hK'
          go_simp
          refine (SM.out _ wr.drew HTW.out HPW.out).mono ?_
          rintro e w7 ⟨rfl, hb⟩
          have HW7 := Lib.hid ((Ne.below_drew (Below.refl wr.heap.size wr)).trans (hb.mono (Nat.le_refl _)))
          have hS1 := (show (fun w' : World => w'.cell? ⟨bn, 3, none⟩ = some (.slice (some ⟨ba, oa, none⟩) m c9) ∧ w'.cell? ⟨ba, oa + i * 3 + 2, none⟩ = some (.int .i64 ci) ∧ w'.cell? ⟨bw, ow' + q, none⟩ = some (.int .i64 (p : Int)) ∧ w'.cell? ⟨g7, q * 2, none⟩ = some (.slice o7 1 m7) ∧ w'.cell? ⟨g7, q * 2 + 1, none⟩ = some (.int .i64 ci) ∧ w'.cell? ⟨bf, of + i, none⟩ = some (.int .i64 ci)) w7 from ⟨(hb.cell (p := ⟨bn, 3, none⟩) l1).trans d1, (hb.cell (p := ⟨ba, oa + i * 3 + 2, none⟩) l2).trans d2, (hb.cell (p := ⟨bw, ow' + q, none⟩) l3).trans d3, (hb.cell (p := ⟨g7, q * 2, none⟩) l4).trans d4, (hb.cell (p := ⟨g7, q * 2 + 1, none⟩) l4).trans d5, (hb.cell (p := ⟨bf, of + i, none⟩) l6).trans d6⟩)
          clear hb
          refine HK.out _ _ ⟨hS1, ?_⟩
          clear HK K'
          try simp only [Act.put, List.setIfInBounds_toArray, List.set_cons_zero, List.set_cons_succ]
          refine Rh.take (some 90) (i := 11) (v := ?_) rfl (by kernel_rfl) (by kernel_rfl) (by kernel_rfl) (by kernel_rfl) (fun _ _ _ h => h) (Or.inl ⟨by rfl, ?_⟩) hS1 ?_
          rotate_left
          · intro w hSw
            go_simp
            try with_reducible rfl
          try simp only [Act.put, List.setIfInBounds_toArray, List.set_cons_zero, List.set_cons_succ]
          refine Rh.take (some 91) (i := 12) (v := ?_) rfl (by kernel_rfl) (by kernel_rfl) (by kernel_rfl) (by kernel_rfl) (fun _ _ _ h => h) (Or.inl ⟨by rfl, ?_⟩) hS1 ?_
          rotate_left
          · intro w hSw
            go_simp
            try with_reducible rfl
          try simp only [Act.put, List.setIfInBounds_toArray, List.set_cons_zero, List.set_cons_succ]
          refine Rh.take (some 92) (i := 13) (v := ?_) rfl (by kernel_rfl) (by kernel_rfl) (by kernel_rfl) (by kernel_rfl) (fun _ _ _ h => h) (Or.inl ⟨by rfl, ?_⟩) hS1 ?_
          rotate_left
          · intro w hSw
            go_simp
            try with_reducible rfl
          try simp only [Act.put, List.setIfInBounds_toArray, List.set_cons_zero, List.set_cons_succ]
          refine Rh.take (some 93) (i := 14) (v := ?_) rfl (by kernel_rfl) (by kernel_rfl) (by kernel_rfl) (by kernel_rfl) (fun _ _ _ h => h) (Or.inl ⟨by rfl, ?_⟩) hS1 ?_
          rotate_left
          · intro w hSw
            go_simp
            try with_reducible rfl
          try simp only [Act.put, List.setIfInBounds_toArray, List.set_cons_zero, List.set_cons_succ]
          refine Rh.take (some 94) (i := 15) (v := ?_) rfl (by kernel_rfl) (by kernel_rfl) (by kernel_rfl) (by kernel_rfl) (fun _ _ _ h => h) (Or.inl ⟨by rfl, ?_⟩) hS1 ?_
          rotate_left
          · intro w hSw
            go_simp
            try with_reducible rfl
          try simp only [Act.put, List.setIfInBounds_toArray, List.set_cons_zero, List.set_cons_succ]
          refine Rh.take (some 95) (i := 16) (v := ?_) rfl (by kernel_rfl) (by kernel_rfl) (by kernel_rfl) (by kernel_rfl) (fun _ _ _ h => h) (Or.inl ⟨by rfl, ?_⟩) hS1 ?_
          rotate_left
          · intro w hSw
            go_simp
            try with_reducible rfl
          try simp only [Act.put, List.setIfInBounds_toArray, List.set_cons_zero, List.set_cons_succ]
          refine Rh.take (some 96) (i := 17) (v := ?_) rfl (by kernel_rfl) (by kernel_rfl) (by kernel_rfl) (by kernel_rfl) (fun _ _ _ h => h) (Or.inl ⟨by rfl, ?_⟩) hS1 ?_
          rotate_left
          · intro w hSw
            go_simp
            try with_reducible rfl
          try simp only [Act.put, List.setIfInBounds_toArray, List.set_cons_zero, List.set_cons_succ]
          refine Rh.take (some 97) (i := 18) (v := ?_) rfl (by kernel_rfl) (by kernel_rfl) (by kernel_rfl) (by kernel_rfl) (fun _ _ _ h => h) (Or.inl ⟨by rfl, ?_⟩) hS1 ?_
          rotate_left
          · intro w hSw
            go_simp
            try with_reducible rfl
          try simp only [Act.put, List.setIfInBounds_toArray, List.set_cons_zero, List.set_cons_succ]
          refine Rh.take (some 98) (i := 19) (v := ?_) rfl (by kernel_rfl) (by kernel_rfl) (by kernel_rfl) (by kernel_rfl) (fun _ _ _ h => h) (Or.inl ⟨by rfl, ?_⟩) hS1 ?_
          rotate_left
          · intro w hSw
            go_simp
            try with_reducible rfl
          try simp only [Act.put, List.setIfInBounds_toArray, List.set_cons_zero, List.set_cons_succ]
          refine Rh.take (some 99) (i := 20) (v := ?_) rfl (by kernel_rfl) (by kernel_rfl) (by kernel_rfl) (by kernel_rfl) (fun _ _ _ h => h) (Or.inl ⟨by rfl, ?_⟩) hS1 ?_
          rotate_left
          · intro w hSw
            go_simp
            try with_reducible rfl
          try simp only [Act.put, List.setIfInBounds_toArray, List.set_cons_zero, List.set_cons_succ]
          refine Rh.take (some 100) (i := 21) (v := ?_) rfl (by kernel_rfl) (by kernel_rfl) (by kernel_rfl) (by kernel_rfl) (fun _ _ _ h => h) (Or.inl ⟨by rfl, ?_⟩) hS1 ?_
          rotate_left
          · intro w hSw
            go_simp
            try with_reducible rfl
          try simp only [Act.put, List.setIfInBounds_toArray, List.set_cons_zero, List.set_cons_succ]
          refine Rh.take (some 101) (i := 22) (v := ?_) rfl (by kernel_rfl) (by kernel_rfl) (by kernel_rfl) (by kernel_rfl) (fun _ _ _ h => h) (Or.inl ⟨by rfl, ?_⟩) hS1 ?_
          rotate_left
          · intro w hSw
            go_simp
            try with_reducible rfl
          try simp only [Act.put, List.setIfInBounds_toArray, List.set_cons_zero, List.set_cons_succ]
          refine Rh.take (some 102) (i := 23) (v := ?_) rfl (by kernel_rfl) (by kernel_rfl) (by kernel_rfl) (by kernel_rfl) (fun _ _ _ h => h) (Or.inl ⟨by rfl, ?_⟩) hS1 ?_
          rotate_left
          · intro w hSw
            go_simp
            try with_reducible rfl
          try simp only [Act.put, List.setIfInBounds_toArray, List.set_cons_zero, List.set_cons_succ]
          refine Rh.take (some 103) (i := 24) (v := ?_) rfl (by kernel_rfl) (by kernel_rfl) (by kernel_rfl) (by kernel_rfl) (fun _ _ _ h => h) (Or.inl ⟨by rfl, ?_⟩) hS1 ?_
          rotate_left
          · intro w hSw
            go_simp
            try with_reducible rfl
          try simp only [Act.put, List.setIfInBounds_toArray, List.set_cons_zero, List.set_cons_succ]
          refine Rh.take (some 104) (i := 25) (v := ?_) rfl (by kernel_rfl) (by kernel_rfl) (by kernel_rfl) (by kernel_rfl) (fun _ _ _ h => h) (Or.inl ⟨by rfl, ?_⟩) hS1 ?_
          rotate_left
          · intro w hSw
            go_simp
            try with_reducible rfl
          try simp only [Act.put, List.setIfInBounds_toArray, List.set_cons_zero, List.set_cons_succ]
          refine Rh.take (some 105) (i := 26) (v := ?_) rfl (by kernel_rfl) (by kernel_rfl) (by kernel_rfl) (by kernel_rfl) (fun _ _ _ h => h) (Or.inl ⟨by rfl, ?_⟩) hS1 ?_
          rotate_left
          · intro w hSw
            go_simp
            try with_reducible rfl
          try simp only [Act.put, List.setIfInBounds_toArray, List.set_cons_zero, List.set_cons_succ]
          refine Rh.take (some 106) (i := 27) (v := ?_) rfl (by kernel_rfl) (by kernel_rfl) (by kernel_rfl) (by kernel_rfl) (fun _ _ _ h => h) (Or.inl ⟨by rfl, ?_⟩) hS1 ?_
          rotate_left
          · intro w hSw
            go_simp
            try with_reducible rfl
          try simp only [Act.put, List.setIfInBounds_toArray, List.set_cons_zero, List.set_cons_succ]
          refine Rh.take (some 107) (i := 28) (v := ?_) rfl (by kernel_rfl) (by kernel_rfl) (by kernel_rfl) (by kernel_rfl) (fun _ _ _ h => h) (Or.inl ⟨by rfl, ?_⟩) hS1 ?_
          rotate_left
          · intro w hSw
            go_simp
            try with_reducible rfl
          try simp only [Act.put, List.setIfInBounds_toArray, List.set_cons_zero, List.set_cons_succ]
          refine Rh.take (some 108) (i := 29) (v := ?_) rfl (by kernel_rfl) (by kernel_rfl) (by kernel_rfl) (by kernel_rfl) (fun _ _ _ h => h) (Or.inl ⟨by rfl, ?_⟩) hS1 ?_
          rotate_left
          · intro w hSw
            go_simp
            try with_reducible rfl
          try simp only [Act.put, List.setIfInBounds_toArray, List.set_cons_zero, List.set_cons_succ]
          refine Rh.take (some 109) (i := 30) (v := ?_) rfl (by kernel_rfl) (by kernel_rfl) (by kernel_rfl) (by kernel_rfl) (fun _ _ _ h => h) (Or.inl ⟨by rfl, ?_⟩) hS1 ?_
          rotate_left
          · intro w hSw
            go_simp
            try with_reducible rfl
          try simp only [Act.put, List.setIfInBounds_toArray, List.set_cons_zero, List.set_cons_succ]
          refine Rh.take (some 110) (i := 31) (v := ?_) rfl (by kernel_rfl) (by kernel_rfl) (by kernel_rfl) (by kernel_rfl) (fun _ _ _ h => h) (Or.inl ⟨by rfl, ?_⟩) hS1 ?_
          rotate_left
          · intro w hSw
            go_simp
            try with_reducible rfl
          try simp only [Act.put, List.setIfInBounds_toArray, List.set_cons_zero, List.set_cons_succ]
          refine Rh.take (some 111) (i := 32) (v := ?_) rfl (by kernel_rfl) (by kernel_rfl) (by kernel_rfl) (by kernel_rfl) (fun _ _ _ h => h) (Or.inl ⟨by rfl, ?_⟩) hS1 ?_
          rotate_left
          · intro w hSw
            go_simp
            try with_reducible rfl
          try simp only [Act.put, List.setIfInBounds_toArray, List.set_cons_zero, List.set_cons_succ]
          refine Rh.take (some 112) (i := 33) (v := ?_) rfl (by kernel_rfl) (by kernel_rfl) (by kernel_rfl) (by kernel_rfl) (fun _ _ _ h => h) (Or.inl ⟨by rfl, ?_⟩) hS1 ?_
          rotate_left
          · intro w hSw
            go_simp
            try with_reducible rfl
          try simp only [Act.put, List.setIfInBounds_toArray, List.set_cons_zero, List.set_cons_succ]
          refine Rh.take (some 113) (i := 34) (v := ?_) rfl (by kernel_rfl) (by kernel_rfl) (by kernel_rfl) (by kernel_rfl) (fun _ _ _ h => h) (Or.inl ⟨by rfl, ?_⟩) hS1 ?_
          rotate_left
          · intro w hSw
            go_simp
            try with_reducible rfl
          try simp only [Act.put, List.setIfInBounds_toArray, List.set_cons_zero, List.set_cons_succ]
          refine Rh.take (some 114) (i := 35) (v := ?_) rfl (by kernel_rfl) (by kernel_rfl) (by kernel_rfl) (by kernel_rfl) (fun _ _ _ h => h) (Or.inl ⟨by rfl, ?_⟩) hS1 ?_
          rotate_left
          · intro w hSw
            go_simp
            try with_reducible rfl
          try simp only [Act.put, List.setIfInBounds_toArray, List.set_cons_zero, List.set_cons_succ]
          refine Rh.take (some 115) (i := 36) (v := ?_) rfl (by kernel_rfl) (by kernel_rfl) (by kernel_rfl) (by kernel_rfl) (fun _ _ _ h => h) (Or.inl ⟨by rfl, ?_⟩) hS1 ?_
          rotate_left
          · intro w hSw
            go_simp
            try with_reducible rfl
          try simp only [Act.put, List.setIfInBounds_toArray, List.set_cons_zero, List.set_cons_succ]
          refine Rh.take (some 116) (i := 37) (v := ?_) rfl (by kernel_rfl) (by kernel_rfl) (by kernel_rfl) (by kernel_rfl) (fun _ _ _ h => h) (Or.inl ⟨by rfl, ?_⟩) hS1 ?_
          rotate_left
          · intro w hSw
            go_simp
            try with_reducible rfl
          try simp only [Act.put, List.setIfInBounds_toArray, List.set_cons_zero, List.set_cons_succ]
          refine Rh.take (some 117) (i := 38) (v := ?_) rfl (by kernel_rfl) (by kernel_rfl) (by kernel_rfl) (by kernel_rfl) (fun _ _ _ h => h) (Or.inl ⟨by rfl, ?_⟩) hS1 ?_
          rotate_left
          · intro w hSw
            go_simp
            try with_reducible rfl
          try simp only [Act.put, List.setIfInBounds_toArray, List.set_cons_zero, List.set_cons_succ]
          refine Rh.take (some 118) (i := 39) (v := ?_) rfl (by kernel_rfl) (by kernel_rfl) (by kernel_rfl) (by kernel_rfl) (fun _ _ _ h => h) (Or.inl ⟨by rfl, ?_⟩) hS1 ?_
          rotate_left
          · intro w hSw
            go_simp
            try with_reducible rfl
          try simp only [Act.put, List.setIfInBounds_toArray, List.set_cons_zero, List.set_cons_succ]
          refine Rh.take (some 119) (i := 40) (v := ?_) rfl (by kernel_rfl) (by kernel_rfl) (by kernel_rfl) (by kernel_rfl) (fun _ _ _ h => h) (Or.inl ⟨by rfl, ?_⟩) hS1 ?_
          rotate_left
          · intro w hSw
            go_simp
            try with_reducible rfl
          try simp only [Act.put, List.setIfInBounds_toArray, List.set_cons_zero, List.set_cons_succ]
          refine Rh.take (some 120) (i := 41) (v := ?_) rfl (by kernel_rfl) (by kernel_rfl) (by kernel_rfl) (by kernel_rfl) (fun _ _ _ h => h) (Or.inl ⟨by rfl, ?_⟩) hS1 ?_
          rotate_left
          · intro w hSw
            go_simp
            try with_reducible rfl
          try simp only [Act.put, List.setIfInBounds_toArray, List.set_cons_zero, List.set_cons_succ]
          refine Rh.take (some 121) (i := 42) (v := ?_) rfl (by kernel_rfl) (by kernel_rfl) (by kernel_rfl) (by kernel_rfl) (fun _ _ _ h => h) (Or.inl ⟨by rfl, ?_⟩) hS1 ?_
          rotate_left
          · intro w hSw
            go_simp
            try with_reducible rfl
          try simp only [Act.put, List.setIfInBounds_toArray, List.set_cons_zero, List.set_cons_succ]
          refine Rh.take (some 122) (i := 43) (v := ?_) rfl (by kernel_rfl) (by kernel_rfl) (by kernel_rfl) (by kernel_rfl) (fun _ _ _ h => h) (Or.inl ⟨by rfl, ?_⟩) hS1 ?_
          rotate_left
          · intro w hSw
            go_simp
            try with_reducible rfl
          try simp only [Act.put, List.setIfInBounds_toArray, List.set_cons_zero, List.set_cons_succ]
          refine Rh.take (some 123) (i := 44) (v := ?_) rfl (by kernel_rfl) (by kernel_rfl) (by kernel_rfl) (by kernel_rfl) (fun _ _ _ h => h) (Or.inl ⟨by rfl, ?_⟩) hS1 ?_
          rotate_left
          · intro w hSw
            go_simp
            try with_reducible rfl
          try simp only [Act.put, List.setIfInBounds_toArray, List.set_cons_zero, List.set_cons_succ]
          refine Rh.take (some 124) (i := 45) (v := ?_) rfl (by kernel_rfl) (by kernel_rfl) (by kernel_rfl) (by kernel_rfl) (fun _ _ _ h => h) (Or.inl ⟨by rfl, ?_⟩) hS1 ?_
          rotate_left
          · intro w hSw
            go_simp
            try with_reducible rfl
          try simp only [Act.put, List.setIfInBounds_toArray, List.set_cons_zero, List.set_cons_succ]
          refine Rh.done (by kernel_rfl) ?_ _
          have HBQ2 := Lib.hid (HBQ.out.trans (HW7.out.mono HBQ.out.size))
          clear hS0 hS1 d1 d2 d3 d4 d5 d6 SM HPW HTW
          go_wp2
          go_roundg (K - (q + 1))
          case measure => omega
          case rel => exact ⟨q + 1, by go_num, by omega, HBQ2⟩
        · have eq : q = K := by omega
          subst q
          have hqi : ¬ (K : Int) < (K : Int) := by omega
          go_wp2
          go_ret
          exact ⟨rfl, HB5.out.trans (HBQ.out.mono HB5.out.size)⟩

end Go.Proofs.Ytdnchebbdkgccaa.plainSingle
