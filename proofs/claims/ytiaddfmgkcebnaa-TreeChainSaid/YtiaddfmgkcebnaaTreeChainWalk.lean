/- TreeChain: for every input the law returns true and its arguments read as they did. No condition. -/
import Derived.Test.YtiaddfmgkcebnaaBunA41
import Derived.Test.YtiaddfmgkcebnaaBunA16
import Derived.Test.YtiaddfmgkcebnaaBunA39
import Derived.Deep.LoopGhost
import Derived.Deep.DeepCutAuto
import Derived.RegionTactic
import Derived.BigRegion
import Derived.Test.YtiaddfmgkcebnaaRows
import Derived.WalkKit
import Derived.ProofKit
import Derived.OpenShut
import Derived.ShutString
import Derived.ChangeOld
import Derived.Below
import Derived.Deep.Strs
namespace Go.Proofs.Ytiaddfmgkcebnaa.treeChain
open Go.ChangeShapes Go.WideShapes Go.ChangeAt Go.RowKit
open Go.ChangeMaps (open_string shut_string)
set_option linter.unusedVariables false
set_option linter.unusedSimpArgs false

theorem own : ownKnob Try.prog.godebug = none := by kernel_rfl
theorem laidOut : laidOutB Try.prog = true := by kernel_rfl

def IntsIn (k : IntKind) (w : World) (a : Option Addr) (len cap : Nat) (zs : List Int) : Prop :=
  (a = none ∧ len = 0 ∧ cap = 0 ∧ zs = []) ∨
  ∃ x, a = some x ∧ len ≤ cap ∧ cap ≤ maxLen ∧ zs.length = cap ∧ (∀ i, i < zs.length → w.cell? (x.add i) = some (.int k (zs.getD i 0))) ∧ ∀ n ∈ zs, (Lit.int k n).wf = true



set_option maxRecDepth 100000 in
set_option maxHeartbeats 4000000 in
theorem walk (a0 : Option Addr) (len0 cap0 : Nat) (l0 : List Int) (a1 : Int) (w : World) (w0 : IntsIn .i64 w a0 len0 cap0 l0) (w1 : (Lit.int .i64 a1).wf = true) :
    Calls Try.prog 5 #[.slice a0 len0 cap0, .int .i64 a1] w fun e w' => e = .returned (.bool true) ∧ Below w.heap.size w w' := by
  have HSH := Lib.hid (Ne.shown_any w)
  obtain ⟨cs, hk0, hq0, bq0, hcc, hcm, _⟩ := Ne.ints_row w0
  subst hk0
  clear w0
  have BK0 := Lib.hid bq0
  have KR0 := Lib.hid hq0
  clear bq0 hq0
  have b1 := bounds_i64 w1
  clear w1
  obtain ⟨m, hm⟩ : ∃ m, m = cs.length := ⟨_, rfl⟩
  rw [← hm]
  have HMM := Lib.hid hm
  have hm63 : m ≤ 9223372036854775807 := by unfold maxLen at hcm; omega
  clear hm hcc hcm
  by_cases g0 : m = 0
  · subst g0
    go_enter Try.func5, Try.ntmps5
    go_wp2_with fail
    refine HSH.out.mono ?_
    rintro e w1 ⟨rfl, hb⟩
    have HB1 := Lib.hid hb
    clear hb
    go_wp2
    go_ret
    exact ⟨rfl, HB1.out⟩
  have g0' : ((m : Int) == 0) = false := by simp; omega
  have g0n : (m == 0) = false := by simpa using g0
  by_cases g1 : 60 < m
  · have g1' : (60 : Int) < (m : Int) := by omega
    go_enter Try.func5, Try.ntmps5
    go_wp2_with fail
    refine HSH.out.mono ?_
    rintro e w1 ⟨rfl, hb⟩
    have HB1 := Lib.hid hb
    clear hb
    go_wp2
    go_ret
    exact ⟨rfl, HB1.out⟩
  have g1' : ¬ (60 : Int) < (m : Int) := by omega
  have hm1 : 1 ≤ m := by omega
  have hm2 : m ≤ 60 := by omega
  have bpa := Ne.pickN_bd (c := a1) (n := 50) (by omega)
  have PA := Lib.hid fun w' => Ne.pick_any a1 50 w' b1.1 b1.2 (by omega) (by omega)
  generalize Ne.pickN a1 50 = z at *
  obtain ⟨x, hx⟩ : ∃ x, x = 1 + z := ⟨_, rfl⟩
  have hx1 : 1 ≤ x := by omega
  have hx50 : x ≤ 50 := by omega
  have hwz : IntKind.i64.wrap (1 + z) = x := by rw [IntKind.wrap_i64]; omega
  clear bpa b1 g0 g1 hx
  have CK := Lib.hid (Tc.check (cs := cs) hm1 hm2)
  have hFL : Ne.Flow (⟨(m : Int) + 1, 1, (m : Int) + 1, Tc.arcsL cs m⟩ : Ne.Net) (List.replicate m 0) := by
    have := Ne.flow_nought (Ne.right_of CK.out)
    simp only [Tc.arcs_len] at this
    exact this
  obtain ⟨L1, hl1⟩ := Ne.lev_exists (Ne.right_of CK.out) (List.replicate m 0) x
  obtain ⟨W, hB, hWl, hF2, hN2⟩ := Tc.both hx1 hm1 hm2 hl1
  obtain ⟨wl, hwl⟩ : ∃ wl, wl = W.length := ⟨_, rfl⟩
  rw [← hwl] at hWl
  have TB := Lib.hid fun (o9 : Option Addr) (c9 : Nat) w' (b : Nat) h1 h2 => show Calls Try.prog 10 #[.agg #[.int .i64 ((m : Int) + 1), .int .i64 1, .int .i64 ((m : Int) + 1), .slice o9 m c9], .slice (some ⟨b, 0, none⟩) m m, .int .i64 x] w' fun e w2 => ∃ o c st, e = .returned (.tuple #[.slice o m c, .int .i64 (wl : Int), .int .i64 st, .int .i64 0]) ∧ Ne.IRow w2 o (List.replicate m (Tc.want cs x m)) ∧ True ∧ Below w'.heap.size w' w2 from by
    have h := Ne.tblock_flow (n := (⟨(m : Int) + 1, 1, (m : Int) + 1, Tc.arcsL cs m⟩ : Ne.Net)) (f := List.replicate m 0) o9 c9 (some ⟨b, 0, none⟩) m w' CK.out h1 h2 hFL.okf hx1 hl1 (by simp only [Tc.arcs_len]; exact hB)
    simp only [Ne.encN, Tc.arcs_len, ← hwl] at h
    refine h.mono ?_
    rintro e w2 ⟨o, c, st, h3, h4, _, h5⟩
    exact ⟨o, c, st, h3, h4, trivial, h5⟩
  obtain ⟨L2, hl2⟩ := Ne.lev_exists (Ne.right_of CK.out) (List.replicate m (Tc.want cs x m)) x
  have hB2 := hN2 L2 hl2
  have TB2 := Lib.hid fun (o9 : Option Addr) (c9 : Nat) (o5 : Option Addr) (c5 : Nat) w' h1 h2 => show Calls Try.prog 10 #[.agg #[.int .i64 ((m : Int) + 1), .int .i64 1, .int .i64 ((m : Int) + 1), .slice o9 m c9], .slice o5 m c5, .int .i64 x] w' fun e w2 => ∃ o c st, e = .returned (.tuple #[.slice o m c, .int .i64 0, .int .i64 st, .int .i64 0]) ∧ Ne.IRow w2 o (List.replicate m (Tc.want cs x m)) ∧ True ∧ Below w'.heap.size w' w2 from by
    have h := Ne.tblock_flow (n := (⟨(m : Int) + 1, 1, (m : Int) + 1, Tc.arcsL cs m⟩ : Ne.Net)) (f := List.replicate m (Tc.want cs x m)) o9 c9 o5 c5 w' CK.out h1 h2 hF2.okf hx1 hl2 (by simp only [Tc.arcs_len]; exact hB2)
    simp only [Ne.encN, Tc.arcs_len] at h
    refine h.mono ?_
    rintro e w2 ⟨o, c, st, h3, h4, _, h5⟩
    exact ⟨o, c, st, h3, h4, trivial, h5⟩
  have SM := Lib.hid fun x1 x2 y1 y2 w' h1 h2 => show Calls Try.prog 12 #[.slice x1 m y1, .slice x2 m y2] w' fun e w2 => e = .returned (.bool true) ∧ Below w'.heap.size w' w2 from by
    have := Ne.rsame_l x1 x2 y1 y2 (List.replicate m (Tc.want cs x m)) (List.replicate m (Tc.want cs x m)) w' h1 h2 (by simp; omega) (by simp; omega)
    rwa [List.length_replicate, show decide (List.replicate m (Tc.want cs x m) = List.replicate m (Tc.want cs x m)) = true by simp] at this
  have hwd : Tc.want cs x m = if Tc.minC cs m < x then 0 else Tc.minC cs m := rfl
  have hmb := Tc.min_bd cs
  have HAS := Lib.hid (fun k => show Tc.arcsL cs (k + 1) = Tc.arcsL cs k ++ [⟨(k : Int) + 1, (k : Int) + 2, Ne.pickN (Ne.amt cs k) 100⟩] from Tc.arcs_succ cs k)
  have HA0 := Lib.hid (show Tc.arcsL cs 0 = [] from rfl)
  have HAN := Lib.hid (fun k => Tc.arcs_len cs k)
  have HMS := Lib.hid (fun k => show Tc.minC cs (k + 1) = min (Tc.minC cs k) (Ne.pickN (Ne.amt cs k) 100) from rfl)
  have HM0 := Lib.hid (show Tc.minC cs 0 = 1099511627776 from rfl)
  have HMB := Lib.hid hmb
  have HWL := Lib.hid hWl
  have HWD := Lib.hid hwd
  clear hl1 hl2 hB hB2 hN2 hF2 hFL hwl hWl hwd hmb
  generalize Tc.want cs x m = wv at *
  generalize Tc.minC cs = MC at *
  generalize Tc.arcsL cs = CA at *
  have hmk := Ne.make_l m (by omega)
  go_enter Try.func5, Try.ntmps5
  go_wp2_with fail
  refine HSH.out.mono ?_
  rintro e w1 ⟨rfl, hb⟩
  have HB1 := Lib.hid hb
  clear hb HSH
  have HN2 := Lib.hid (Ne.netBox_new w1 ((m : Int) + 1) 1 ((m : Int) + 1) (.slice none 0 0))
  have HB2 := Lib.hid (HB1.out.alloc HB1.out.size (.cells #[.int .i64 ((m : Int) + 1), .int .i64 1, .int .i64 ((m : Int) + 1), .slice none 0 0] 24))
  have HBN1 := Lib.hid HB1.out.size
  go_upto_region 5 with fail
  obtain ⟨bn, hbn⟩ : ∃ b, b = w1.heap.size := ⟨_, rfl⟩
  have HBN := Lib.hid (show w.heap.size ≤ bn by have := HB1.out.size; omega)
  rw [← hbn] at HN2 ⊢
  clear hbn HBN1
  generalize (w1.alloc (.cells #[.int .i64 ((m : Int) + 1), .int .i64 1, .int .i64 ((m : Int) + 1), .slice none 0 0] 24)) = W2 at *
  go_wp2
  go_loopg [7, 8, 9] m (fun g sf i ic wr => ∃ (k : Nat) (mm : Int) (v : Value), sf = .int .i64 mm ∧ i = .int .i64 k ∧ k + g = m ∧ 0 ≤ mm ∧ mm ≤ 1099511627776 ∧ Hid (mm = MC k) ∧ Hid (Ne.NetBox wr bn ((m : Int) + 1) 1 ((m : Int) + 1) v) ∧ Hid (Ne.OwnA wr (bn + 1) v (CA k)) ∧ Hid (Below w.heap.size w wr))
  case atStart => exact ⟨0, _, _, rfl, rfl, by omega, by omega, by omega, Lib.hid HM0.out.symm, HN2, Lib.hid (by rw [HA0.out]; exact Rw.own_nil _ _), HB2⟩
  case round =>
    obtain ⟨k, mm, v, rfl, rfl, hkg, hm0, hmx, HMM7, HNW, HOW, HBW⟩ := hrel
    obtain ⟨o9, c9, hv9, _, _, hn9, hr9, hb9, _⟩ := Rw.own_row Ne.encA_len HOW.out
    rw [HAN.out] at hv9
    subst hv9
    have hbl := Ne.netBox_lt HNW.out
    by_cases hlt : k < m
    · have hki : (k : Int) < (m : Int) := by omega
      have hk0 : (0 : Int) ≤ (k : Int) := by omega
      obtain ⟨b0, o0, e0, hb0, d0⟩ := Ne.irow_cell (KR0.out.kept HBW.out) (i := k) (by rw [← HMM.out]; exact hlt)
      subst e0
      have hraw := BK0.out (Ne.amt cs k) (by have := Ne.at_amt (f := cs) (i := k) (by rw [← HMM.out]; exact hlt); exact List.mem_of_getElem? this)
      have HAK := Lib.hid (HAS.out k)
      have HMK := Lib.hid (HMS.out k)
      have hmb1 := HMB.out (k + 1)
      generalize Ne.amt cs k = raw at *
      have PK := Lib.hid fun w' => Ne.pick_any raw 100 w' hraw.1 hraw.2 (by omega) (by omega)
      have bpk := Ne.pickN_bd (c := raw) (n := 100) (by omega)
      generalize Ne.pickN raw 100 = pk at *
      have HNA := Lib.hid (Ne.netBox_alloc HNW.out (.cells #[.int .i64 ((k : Int) + 1), .int .i64 ((k : Int) + 2), .int .i64 pk] 46))
      have HOA := Lib.hid (Rw.own_alloc HOW.out (.cells #[.int .i64 ((k : Int) + 1), .int .i64 ((k : Int) + 2), .int .i64 pk] 46))
      have HAR := Lib.hid (Ne.arow_at1 wr rfl ⟨(k : Int) + 1, (k : Int) + 2, pk⟩)
      have HLN := Lib.hid (show (CA k).length + ([⟨(k : Int) + 1, (k : Int) + 2, pk⟩] : List Ne.Arc).length ≤ 1099511627776 by rw [HAN.out]; simp; omega)
      have HVB := Lib.hid (Rw.own_block HOW.out)
      have HBA := Lib.hid (HBW.out.alloc HBW.out.size (.cells #[.int .i64 ((k : Int) + 1), .int .i64 ((k : Int) + 2), .int .i64 pk] 46))
      have HZA := Lib.hid (show bn + 1 ≤ (wr.alloc (.cells #[.int .i64 ((k : Int) + 1), .int .i64 ((k : Int) + 2), .int .i64 pk] 46)).heap.size by simp; omega)
      have HBNN := HBN.out
      obtain ⟨n0, n1, n2, n3⟩ := Ne.netBox_cells HNW.out
      obtain ⟨mn, hmn⟩ : ∃ mn, min mm pk = mn := ⟨_, rfl⟩
      have HFN := Lib.hid (show mn = MC (k + 1) by rw [HMK.out, ← HMM7.out, hmn])
      have hmn0 : 0 ≤ mn := by rw [HFN.out]; exact hmb1.1
      have hmn1 : mn ≤ 1099511627776 := by rw [HFN.out]; exact hmb1.2
      clear hmb1 HMK
      go_wp2_with fail
      refine (PK.out _).mono ?_
      rintro e w' ⟨rfl, rfl⟩
      clear hr9 hb9 d0
      go_wp2_with (at_builtin; refine Rw.app Ne.elemA Ne.encA_len Ne.encA_one rfl (.tmp 58) (.tmp 65) rfl (bn + 1) _ (CA k) rfl HOA.out (some ⟨wr.heap.size, 0, none⟩) 1 [⟨(k : Int) + 1, (k : Int) + 2, pk⟩] rfl ?hnn HAR.out HLN.out ?hB ?_; (case hnn => (intro h; cases h)); (case hB => (exact HZA.out)); intro v8 w8 hown8 hgr8; rw [← HAK.out] at hown8; obtain ⟨o8, c8, hv8, _⟩ := Rw.own_row Ne.encA_len hown8; rw [HAN.out] at hv8; subst hv8; have HN8 := Lib.hid (Ne.netBox_grown HNA.out hgr8 (fun h => by have := HVB.out _ h.symm; omega)); have HO8 := Lib.hid hown8; have HB8 := Lib.hid (HBA.out.grown hgr8 HBA.out.size (fun b hb => by have := HVB.out b hb; omega)); have m3 := (Ne.netBox_cells HN8.out).2.2.2; have mf := Ne.netBox_frozen HN8.out 3; clear hown8 hgr8)
      have HN9 := Lib.hid (Ne.netBox_set (v2 := .slice o8 (k + 1) c8) HN8.out)
      have HO9 := Lib.hid (Rw.own_set HO8.out (p := ⟨bn, 3, none⟩) (fun h => by have := Rw.own_block HO8.out _ h; simp only at this; omega) (.slice o8 (k + 1) c8))
      have HB9 := Lib.hid (HB8.out.setCell (p := ⟨bn, 3, none⟩) HBNN (.slice o8 (k + 1) c8))
      go_roundg (m - (k + 1))
      case measure => omega
      case rel => exact ⟨k + 1, mn, _, rfl, by go_num, by omega, hmn0, hmn1, HFN, HN9, HO9, HB9⟩
    · have ek : k = m := by omega
      subst k
      have HRW := Lib.hid (show Ne.ARow wr.drew o9 (CA m) from hr9)
      have hbz := HBN.out
      obtain ⟨n0, n1, n2, n3⟩ := Ne.netBox_cells HNW.out
      have hS0 := (show (fun w' : World => w'.cell? ⟨bn, 0, none⟩ = some (.int .i64 ((m : Int) + 1)) ∧ w'.cell? ⟨bn, 1, none⟩ = some (.int .i64 1) ∧ w'.cell? ⟨bn, 2, none⟩ = some (.int .i64 ((m : Int) + 1)) ∧ w'.cell? ⟨bn, 3, none⟩ = some (.slice o9 m c9)) wr.drew from ⟨n0, n1, n2, n3⟩)
      rw [← HMM7.out] at HWL HWD
      clear hlt hr9 hb9 hkg HMM7 HMS HM0 HAS HA0 n0 n1 n2 n3
      go_wp2_with fail
      refine (PA.out _).mono ?_
      rintro e w' ⟨rfl, rfl⟩
      go_wp2
      refine Rh.start (S := (fun w' : World => w'.cell? ⟨bn, 0, none⟩ = some (.int .i64 ((m : Int) + 1)) ∧ w'.cell? ⟨bn, 1, none⟩ = some (.int .i64 1) ∧ w'.cell? ⟨bn, 2, none⟩ = some (.int .i64 ((m : Int) + 1)) ∧ w'.cell? ⟨bn, 3, none⟩ = some (.slice o9 m c9))) (by kernel_rfl) ?_
      refine Rh.take (some 72) (i := 0) (v := ?_) rfl (by kernel_rfl) (by kernel_rfl) (by kernel_rfl) (by kernel_rfl) (fun _ _ _ h => h) (Or.inl ⟨by rfl, ?_⟩) hS0 ?_
      rotate_left
      · intro w hSw
        go_simp
        try with_reducible rfl
      try simp only [Act.put, List.setIfInBounds_toArray, List.set_cons_zero, List.set_cons_succ]
      refine Rh.take (some 73) (i := 1) (v := ?_) rfl (by kernel_rfl) (by kernel_rfl) (by kernel_rfl) (by kernel_rfl) (fun _ _ _ h => h) (Or.inl ⟨by rfl, ?_⟩) hS0 ?_
      rotate_left
      · intro w hSw
        go_simp
        try with_reducible rfl
      try simp only [Act.put, List.setIfInBounds_toArray, List.set_cons_zero, List.set_cons_succ]
      refine Rh.take (some 74) (i := 2) (v := ?_) rfl (by kernel_rfl) (by kernel_rfl) (by kernel_rfl) (by kernel_rfl) (fun _ _ _ h => h) (Or.inl ⟨by rfl, ?_⟩) hS0 ?_
      rotate_left
      · intro w hSw
        go_simp
        try with_reducible rfl
      try simp only [Act.put, List.setIfInBounds_toArray, List.set_cons_zero, List.set_cons_succ]
      refine Rh.take (some 76) (i := 4) (v := ?_) rfl (by kernel_rfl) (by kernel_rfl) (by kernel_rfl) (by kernel_rfl) (fun _ _ _ h => h) (Or.inl ⟨by rfl, ?_⟩) hS0 ?_
      rotate_left
      · intro w hSw
        go_simp
        try with_reducible rfl
      try simp only [Act.put, List.setIfInBounds_toArray, List.set_cons_zero, List.set_cons_succ]
      refine Rh.step (i := 3) (by kernel_rfl) rfl fun K' hK' => ?_
      have HK := Lib.hid hK'
      clear hK'
      go_simp
      have hbA := (Below.refl wr.drew.heap.size wr.drew).alloc (Nat.le_refl _) (.cells (madeCells #[.int .i64 0] m) 2)
      have HLA := Lib.hid (Ne.lbox_made wr.drew m (b := wr.heap.size) rfl)
      have hS1 := (show (fun w' : World => w'.cell? ⟨bn, 0, none⟩ = some (.int .i64 ((m : Int) + 1)) ∧ w'.cell? ⟨bn, 1, none⟩ = some (.int .i64 1) ∧ w'.cell? ⟨bn, 2, none⟩ = some (.int .i64 ((m : Int) + 1)) ∧ w'.cell? ⟨bn, 3, none⟩ = some (.slice o9 m c9)) (wr.drew.alloc (.cells (madeCells #[.int .i64 0] m) 2)) from ⟨(hbA.cell (p := ⟨bn, 0, none⟩) hbl).trans hS0.1, (hbA.cell (p := ⟨bn, 1, none⟩) hbl).trans hS0.2.1, (hbA.cell (p := ⟨bn, 2, none⟩) hbl).trans hS0.2.2.1, (hbA.cell (p := ⟨bn, 3, none⟩) hbl).trans hS0.2.2.2⟩)
      refine HK.out _ _ ⟨hS1, ?_⟩
      clear HK K'
      try simp only [Act.put, List.setIfInBounds_toArray, List.set_cons_zero, List.set_cons_succ]
      refine Rh.step (i := 5) (by kernel_rfl) rfl fun K' hK' => ?_
      have HK := Lib.hid hK'
      clear hK'
      go_simp
      refine (TB.out o9 c9 _ wr.heap.size (HRW.out.kept hbA) HLA.out.irow).mono ?_
      rintro e w5 ⟨o5, c5, st5, rfl, hi5, _, hb⟩
      have hbAB := hbA.trans (hb.mono hbA.size)
      have hS2 := (show (fun w' : World => w'.cell? ⟨bn, 0, none⟩ = some (.int .i64 ((m : Int) + 1)) ∧ w'.cell? ⟨bn, 1, none⟩ = some (.int .i64 1) ∧ w'.cell? ⟨bn, 2, none⟩ = some (.int .i64 ((m : Int) + 1)) ∧ w'.cell? ⟨bn, 3, none⟩ = some (.slice o9 m c9)) w5 from ⟨(hbAB.cell (p := ⟨bn, 0, none⟩) hbl).trans hS0.1, (hbAB.cell (p := ⟨bn, 1, none⟩) hbl).trans hS0.2.1, (hbAB.cell (p := ⟨bn, 2, none⟩) hbl).trans hS0.2.2.1, (hbAB.cell (p := ⟨bn, 3, none⟩) hbl).trans hS0.2.2.2⟩)
      refine HK.out _ _ ⟨hS2, ?_⟩
      clear HK K'
      try simp only [Act.put, List.setIfInBounds_toArray, List.set_cons_zero, List.set_cons_succ]
      refine Rh.take (some 71) (i := 6) (v := ?_) rfl (by kernel_rfl) (by kernel_rfl) (by kernel_rfl) (by kernel_rfl) (fun _ _ _ h => h) (Or.inl ⟨by rfl, ?_⟩) hS2 ?_
      rotate_left
      · intro w hSw
        go_simp
        try with_reducible rfl
      try simp only [Act.put, List.setIfInBounds_toArray, List.set_cons_zero, List.set_cons_succ]
      refine Rh.take (some 78) (i := 7) (v := ?_) rfl (by kernel_rfl) (by kernel_rfl) (by kernel_rfl) (by kernel_rfl) (fun _ _ _ h => h) (Or.inl ⟨by rfl, ?_⟩) hS2 ?_
      rotate_left
      · intro w hSw
        go_simp
        try with_reducible rfl
      try simp only [Act.put, List.setIfInBounds_toArray, List.set_cons_zero, List.set_cons_succ]
      refine Rh.take (some 79) (i := 8) (v := ?_) rfl (by kernel_rfl) (by kernel_rfl) (by kernel_rfl) (by kernel_rfl) (fun _ _ _ h => h) (Or.inl ⟨by rfl, ?_⟩) hS2 ?_
      rotate_left
      · intro w hSw
        go_simp
        try with_reducible rfl
      try simp only [Act.put, List.setIfInBounds_toArray, List.set_cons_zero, List.set_cons_succ]
      refine Rh.take (some 80) (i := 9) (v := ?_) rfl (by kernel_rfl) (by kernel_rfl) (by kernel_rfl) (by kernel_rfl) (fun _ _ _ h => h) (Or.inl ⟨by rfl, ?_⟩) hS2 ?_
      rotate_left
      · intro w hSw
        go_simp
        try with_reducible rfl
      try simp only [Act.put, List.setIfInBounds_toArray, List.set_cons_zero, List.set_cons_succ]
      refine Rh.take (some 81) (i := 10) (v := ?_) rfl (by kernel_rfl) (by kernel_rfl) (by kernel_rfl) (by kernel_rfl) (fun _ _ _ h => h) (Or.inl ⟨by rfl, ?_⟩) hS2 ?_
      rotate_left
      · intro w hSw
        go_simp
        try with_reducible rfl
      try simp only [Act.put, List.setIfInBounds_toArray, List.set_cons_zero, List.set_cons_succ]
      refine Rh.take (some 11) (i := 11) (v := ?_) rfl (by kernel_rfl) (by kernel_rfl) (by kernel_rfl) (by kernel_rfl) (fun _ _ _ h => h) (Or.inl ⟨by rfl, ?_⟩) hS2 ?_
      rotate_left
      · intro w hSw
        go_simp
        try with_reducible rfl
      try simp only [Act.put, List.setIfInBounds_toArray, List.set_cons_zero, List.set_cons_succ]
      refine Rh.take (some 12) (i := 12) (v := ?_) rfl (by kernel_rfl) (by kernel_rfl) (by kernel_rfl) (by kernel_rfl) (fun _ _ _ h => h) (Or.inl ⟨by rfl, ?_⟩) hS2 ?_
      rotate_left
      · intro w hSw
        go_simp
        try with_reducible rfl
      try simp only [Act.put, List.setIfInBounds_toArray, List.set_cons_zero, List.set_cons_succ]
      refine Rh.take (some 13) (i := 13) (v := ?_) rfl (by kernel_rfl) (by kernel_rfl) (by kernel_rfl) (by kernel_rfl) (fun _ _ _ h => h) (Or.inl ⟨by rfl, ?_⟩) hS2 ?_
      rotate_left
      · intro w hSw
        go_simp
        try with_reducible rfl
      try simp only [Act.put, List.setIfInBounds_toArray, List.set_cons_zero, List.set_cons_succ]
      refine Rh.take (some 14) (i := 14) (v := ?_) rfl (by kernel_rfl) (by kernel_rfl) (by kernel_rfl) (by kernel_rfl) (fun _ _ _ h => h) (Or.inl ⟨by rfl, ?_⟩) hS2 ?_
      rotate_left
      · intro w hSw
        go_simp
        try with_reducible rfl
      try simp only [Act.put, List.setIfInBounds_toArray, List.set_cons_zero, List.set_cons_succ]
      refine Rh.done (by kernel_rfl) ?_ _
      have HI5 := Lib.hid hi5
      have HB5 := Lib.hid ((Ne.below_drew HBW.out).trans (hbAB.mono HBW.out.size))
      have HR5 := Lib.hid (show Ne.ARow w5 o9 (CA m) from (HRW.out.kept hbAB))
      have hbl5 : bn < w5.heap.size := Nat.lt_of_lt_of_le hbl hbAB.size
      clear hi5 hb hbA HLA hS0 hS1 HRW
      obtain ⟨n0, n1, n2, n3⟩ := hS2
      clear hbAB
      by_cases c : mm < x
      · have hwl := HWL.out
        have hwd := HWD.out
        rw [if_pos c] at hwl hwd
        subst hwl hwd
        have hvv : ((0 : Int) != (0 : Int)) = false := by simp
        go_wp2
        go_loopg [17] m (fun g i wy => ∃ v : Nat, i = .int .i64 v ∧ v + g = m ∧ w5 = wy)
        case atStart => exact ⟨0, rfl, by omega, rfl⟩
        case round =>
          obtain ⟨v, rfl, hvg, rfl⟩ := hrel
          by_cases hv : v < m
          · have hvi : (v : Int) < (m : Int) := by omega
            have hv0 : (0 : Int) ≤ (v : Int) := by omega
            obtain ⟨b7, o7, rfl, _, d7⟩ := Ne.irow_cell HI5.out (i := v) (by simpa using hv)
            rw [Tc.rep_at _ hv] at d7
            go_wp2
            go_roundg (m - (v + 1))
            case measure => omega
            case rel => exact ⟨v + 1, by go_num, by omega, rfl⟩
          · have ev : v = m := by omega
            subst v
            go_wp2_with (first
              | (go_at_call 10; refine (TB2.out o9 c9 o5 c5 _ HR5.out HI5.out).mono ?_; rintro e w6 ⟨o6, c6, st6, rfl, hi6, _, hb⟩; have HB6 := Lib.hid (HB5.out.trans (hb.mono HB5.out.size)); have HI56 := Lib.hid (HI5.out.kept hb); have HI6 := Lib.hid hi6; clear hb hi6)
              | (go_at_call 12; refine (SM.out o5 o6 c5 c6 _ HI56.out HI6.out).mono ?_; rintro e w7 ⟨rfl, hb⟩; have HB7 := Lib.hid (HB6.out.trans (hb.mono HB6.out.size)); clear hb))
            go_ret
            exact ⟨rfl, HB7.out⟩
      · have hwl := HWL.out
        have hwd := HWD.out
        rw [if_neg c] at hwl hwd
        subst hwl hwd
        have hvv : (wv != wv) = false := by simp
        go_wp2
        go_loopg [17] m (fun g i wy => ∃ v : Nat, i = .int .i64 v ∧ v + g = m ∧ w5 = wy)
        case atStart => exact ⟨0, rfl, by omega, rfl⟩
        case round =>
          obtain ⟨v, rfl, hvg, rfl⟩ := hrel
          by_cases hv : v < m
          · have hvi : (v : Int) < (m : Int) := by omega
            have hv0 : (0 : Int) ≤ (v : Int) := by omega
            obtain ⟨b7, o7, rfl, _, d7⟩ := Ne.irow_cell HI5.out (i := v) (by simpa using hv)
            rw [Tc.rep_at _ hv] at d7
            go_wp2
            go_roundg (m - (v + 1))
            case measure => omega
            case rel => exact ⟨v + 1, by go_num, by omega, rfl⟩
          · have ev : v = m := by omega
            subst v
            go_wp2_with (first
              | (go_at_call 10; refine (TB2.out o9 c9 o5 c5 _ HR5.out HI5.out).mono ?_; rintro e w6 ⟨o6, c6, st6, rfl, hi6, _, hb⟩; have HB6 := Lib.hid (HB5.out.trans (hb.mono HB5.out.size)); have HI56 := Lib.hid (HI5.out.kept hb); have HI6 := Lib.hid hi6; clear hb hi6)
              | (go_at_call 12; refine (SM.out o5 o6 c5 c6 _ HI56.out HI6.out).mono ?_; rintro e w7 ⟨rfl, hb⟩; have HB7 := Lib.hid (HB6.out.trans (hb.mono HB6.out.size)); clear hb))
            go_ret
            exact ⟨rfl, HB7.out⟩

end Go.Proofs.Ytiaddfmgkcebnaa.treeChain
