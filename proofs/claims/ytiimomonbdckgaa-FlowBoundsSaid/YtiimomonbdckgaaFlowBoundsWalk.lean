/- FlowBounds: for every input the law returns true and its arguments read as they did. No condition. -/
import Derived.Test.YtiimomonbdckgaaFlb
import Derived.Test.YtiimomonbdckgaaRouted
import Derived.Test.YtiimomonbdckgaaOpenc
import Derived.Test.YtiimomonbdckgaaRows
import Derived.WalkKit
import Derived.ProofKit
import Derived.OpenShut
import Derived.ShutString
import Derived.ChangeOld
import Derived.Below
import Derived.Deep.Strs
namespace Go.Proofs.Ytiimomonbdckgaa.flowBounds
open Go.ChangeShapes Go.WideShapes Go.ChangeAt Go.RowKit
open Go.ChangeMaps (open_string shut_string)
set_option linter.unusedVariables false
set_option linter.unusedSimpArgs false

theorem own : ownKnob Try.prog.godebug = none := by kernel_rfl
theorem laidOut : laidOutB Try.prog = true := by kernel_rfl

def IntsIn (k : IntKind) (w : World) (a : Option Addr) (len cap : Nat) (zs : List Int) : Prop :=
  (a = none ∧ len = 0 ∧ cap = 0 ∧ zs = []) ∨
  ∃ x, a = some x ∧ len ≤ cap ∧ cap ≤ maxLen ∧ zs.length = cap ∧ (∀ i, i < zs.length → w.cell? (x.add i) = some (.int k (zs.getD i 0))) ∧ ∀ n ∈ zs, (Lit.int k n).wf = true

theorem arow_set {w : World} {b off : Nat} {l : List Ne.Arc} {p : Addr} {v : Value} (h : Ne.ARow w (some ⟨b, off, none⟩) l) (hp : p.block ≠ b) : Ne.ARow (w.setCell p v) (some ⟨b, off, none⟩) l := by
  rcases h with h | ⟨b', off', e, hlt, hc⟩
  · exact .inl h
  · cases e
    exact .inr ⟨b, off, rfl, by simpa [World.setCell] using hlt, fun i x hx j u hu => (World.cell?_setCell_far w p ⟨b, off + (i * 3 + j), none⟩ v hp).trans (hc i x hx j u hu)⟩
theorem arow_low {w w2 : World} {o : Option Addr} {l : List Ne.Arc} {B : Nat} (h : Ne.ARow w o l) (hB : ∀ b off, o = some ⟨b, off, none⟩ → b < B) (hb : Below B w w2) (hs : w.heap.size ≤ w2.heap.size) : Ne.ARow w2 o l := Rw.Row.below h hB hs hb

set_option maxRecDepth 100000 in
set_option maxHeartbeats 4000000 in
theorem walk (a0 : Int) (a1 : Int) (a2 : List Ne.Arc) (o2 : Option Addr) (c2 : Nat) (a3 : Option Addr) (len3 cap3 : Nat) (l3 : List Int) (a4 : Int) (w : World) (w0 : (Lit.int .i64 a0).wf = true) (w1 : (Lit.int .i64 a1).wf = true) (k2 : ∀ a ∈ a2, Ne.Arc.ok a) (z2 : a2.length ≤ c2) (y2 : c2 ≤ maxLen) (n2 : o2 = none → c2 = 0) (r2 : Ne.ARow w o2 a2) (w3 : IntsIn .i64 w a3 len3 cap3 l3) (w4 : (Lit.int .i64 a4).wf = true) :
    Calls Try.prog 6 #[.int .i64 a0, .int .i64 a1, .slice o2 a2.length c2, .slice a3 len3 cap3, .int .i64 a4] w fun e w' => e = .returned (.bool true) ∧ Below w.heap.size w w' := by
  have HSH := Lib.hid (Ne.shown_any w)
  obtain ⟨mn, hmn⟩ : ∃ x, x = (Ne.madeN a0 a1 a2).n := ⟨_, rfl⟩
  obtain ⟨ms, hms⟩ : ∃ x, x = (Ne.madeN a0 a1 a2).s := ⟨_, rfl⟩
  obtain ⟨mt, hmt⟩ : ∃ x, x = (Ne.madeN a0 a1 a2).t := ⟨_, rfl⟩
  obtain ⟨ml, hml⟩ : ∃ x, x = (Ne.madeN a0 a1 a2).l := ⟨_, rfl⟩
  have em : Ne.madeN a0 a1 a2 = ⟨mn, ms, mt, ml⟩ := by rw [hmn, hms, hmt, hml]
  obtain ⟨f1, f2, f3, f4, f5, f6, f7, f8, f9⟩ := Ne.madeN_fine (nodes := a0) (ends := a1) k2
  have ck := Ne.made_check (nodes := a0) (ends := a1) k2
  have MD := Lib.hid fun w' (h : Ne.ARow w' o2 a2) => Ne.made_s a0 a1 a2 o2 c2 w' (bounds_i64 w0) (bounds_i64 w1) k2 h
  rw [em] at MD f1 f2 f3 f4 f5 f6 f7 f8 f9 ck
  simp only at f1 f2 f3 f4 f5 f6 f7 f8 f9
  clear hmn hms hmt hml em
  have f8' : ml.length ≤ 24 := by omega
  clear f8
  have CK := Lib.hid ck
  have RT := Lib.hid (Ne.right_of ck)
  have FI := Lib.hid f9
  have CAP := Lib.hid (show ∀ a ∈ ml, Ne.in64 a.cap from fun a ha => by have := (f9 a ha).2.2; unfold Ne.in64; omega)
  have hl6 : ml.length ≤ 1000000 := by omega
  have F7 := Lib.hid f7
  have RA := Lib.hid r2
  clear r2 f7 f9 ck
  obtain ⟨ks, hk3, hq3, bq3, _, _, _⟩ := Ne.ints_row w3
  subst hk3
  clear w3
  have BK3 := Lib.hid bq3
  have KR3 := Lib.hid hq3
  clear bq3 hq3
  have b4 := bounds_i64 w4
  go_enter Try.func6, Try.ntmps6
  go_wp2_with fail
  refine HSH.out.mono ?_
  rintro e w1 ⟨rfl, hb⟩
  have HB1 := Lib.hid hb
  clear hb
  go_wp2_with fail
  refine (MD.out _ (RA.out.kept HB1.out)).mono ?_
  rintro e w2 ⟨om, cm, rfl, ho, hb⟩
  have HB2 := Lib.hid (HB1.out.trans (hb.mono HB1.out.size))
  have HV2 := Lib.hid (Rw.own_lt ho)
  have HO3 := Lib.hid (Rw.own_base (Rw.own_alloc ho (.cells #[.int .i64 mn, .int .i64 ms, .int .i64 mt, .slice om ml.length cm] 24)) (B' := w.heap.size) HB1.out.size)
  clear MD RA HSH
  have hz2 : w.heap.size ≤ w2.heap.size := HB2.out.size
  have HR3 := Lib.hid (Ne.arow_ofA (Rw.own_alloc (Rw.own_alloc ho (.cells #[.int .i64 mn, .int .i64 ms, .int .i64 mt, .slice om ml.length cm] 24)) (.cells (madeCells #[.int .i64 0] ml.length) 2)))
  have HN2 := Lib.hid (Ne.netBox_new w2 mn ms mt (.slice om ml.length cm))
  have HN3 := Lib.hid (Ne.netBox_alloc HN2.out (.cells (madeCells #[.int .i64 0] ml.length) 2))
  have HB3 := Lib.hid ((HB2.out.alloc hz2 (.cells #[.int .i64 mn, .int .i64 ms, .int .i64 mt, .slice om ml.length cm] 24)).alloc (by simp; omega) (.cells (madeCells #[.int .i64 0] ml.length) 2))
  have HF3 := Lib.hid (Ne.lbox_made (w2.alloc (.cells #[.int .i64 mn, .int .i64 ms, .int .i64 mt, .slice om ml.length cm] 24)) ml.length (b := w2.heap.size + 1) (by simp))
  rw [← Ne.drawL_zero ml ks] at HF3
  have hz3 : w2.heap.size + 2 ≤ ((w2.alloc (.cells #[.int .i64 mn, .int .i64 ms, .int .i64 mt, .slice om ml.length cm] 24)).alloc (.cells (madeCells #[.int .i64 0] ml.length) 2)).heap.size := by simp
  have hmk := Ne.make_l ml.length hl6
  obtain ⟨n0, n1, n2, n3⟩ := Ne.netBox_cells HN2.out
  clear ho hb
  go_wp2
  obtain ⟨bn, hbn⟩ : ∃ b, b = w2.heap.size := ⟨_, rfl⟩
  obtain ⟨hb, hhb⟩ : ∃ b, b = w2.heap.size + 1 := ⟨_, rfl⟩
  rw [← hhb] at HF3 ⊢
  rw [← hbn] at HN3 HV2 ⊢
  generalize ((w2.alloc (.cells #[.int .i64 mn, .int .i64 ms, .int .i64 mt, .slice om ml.length cm] 24)).alloc (.cells (madeCells #[.int .i64 0] ml.length) 2)) = W3 at *
  have hwb : w.heap.size ≤ bn := by omega
  have hbh : bn < hb := by omega
  have hb3 : hb < W3.heap.size := by omega
  clear hbn hhb HB2 HB1 hz2 hz3 hmk n0 n1 n2 n3 HN2
  go_loopw [14] (fun si wr => ∃ j : Nat, si = .int .i64 j ∧ j ≤ ml.length ∧ j ≤ ks.length ∧ Hid (Ne.LBox wr hb (Ne.drawL ml ks j)) ∧ Hid (Below hb W3 wr)) (fun si _ => ml.length - (intOf si).toNat)
  case atStart => exact ⟨0, rfl, Nat.zero_le _, Nat.zero_le _, HF3, Lib.hid (Below.refl _ _)⟩
  case round =>
    obtain ⟨j, rfl, hj, hjk, HF, HBW⟩ := hrel
    clear HF3
    have HNW := Lib.hid (Ne.netBox_below HN3.out HBW.out hbh)
    have HBT := Lib.hid (HB3.out.trans (HBW.out.mono (by omega)))
    by_cases c : j < ml.length ∧ j < ks.length
    · obtain ⟨cj, ck⟩ := c
      obtain ⟨bk, offk, rfl, hbk, d0⟩ := Ne.irow_cell KR3.out ck
      replace d0 := (HBT.out.cell (p := ⟨bk, offk + j, none⟩) hbk).trans d0
      have hzb := BK3.out _ (List.mem_of_getElem? (Ne.at_amt ck))
      obtain ⟨b, off, rfl, hbl, c0, c1, c2⟩ := Ne.arow_cell HR3.out cj
      have hbb : b < bn := (HV2.out b rfl).2
      replace c2 := (HBW.out.cell (p := ⟨b, off + j * 3 + 2, none⟩) (show b < hb by omega)).trans c2
      have n3 := (Ne.netBox_cells HNW.out).2.2.2
      have h0 := HF.out.cell (i := j) (by rw [Ne.drawL_len]; exact cj)
      have z0 := HF.out.frozen j
      have hca := (FI.out _ (List.mem_of_getElem? (Ne.at_arc cj))).2.2
      have HDS := Lib.hid (Ne.drawL_succ (ks := ks) cj)
      generalize Ne.amt ks j = z at *
      generalize (Ne.arcAt ml j).cap = ca at *
      clear c0 c1
      have PK := Lib.hid fun w' => Ne.pick_any z (ca + 1) w' hzb.1 hzb.2 (by omega) (by omega)
      have hw1 : IntKind.i64.wrap (ca + 1) = ca + 1 := by rw [IntKind.wrap_i64]; omega
      have HF2 := Lib.hid (HF.out.set (i := j) (by rw [Ne.drawL_len]; exact cj) (Ne.pickN z (ca + 1)))
      rw [HDS.out] at HF2
      have HB2 := Lib.hid (HBW.out.setCell (p := ⟨hb, j, none⟩) (Nat.le_refl hb) (.int .i64 (Ne.pickN z (ca + 1))))
      generalize Ne.pickN z (ca + 1) = pv at *
      have hji : (j : Int) < (ml.length : Int) := by omega
      have hjk2 : (j : Int) < (ks.length : Int) := by omega
      have hj0 : (0 : Int) ≤ (j : Int) := by omega
      clear HDS
      go_wp2
      have hS0 := (show (fun w' => w'.cell? ⟨bk, offk + j, none⟩ = some (.int .i64 z) ∧ w'.cell? ⟨bn, 3, none⟩ = some (.slice (some ⟨b, off, none⟩) ml.length cm) ∧ w'.cell? ⟨b, off + j * 3 + 2, none⟩ = some (.int .i64 ca)) wr.drew from ⟨d0, n3, c2⟩)
      refine Rg.start (S := (fun w' => w'.cell? ⟨bk, offk + j, none⟩ = some (.int .i64 z) ∧ w'.cell? ⟨bn, 3, none⟩ = some (.slice (some ⟨b, off, none⟩) ml.length cm) ∧ w'.cell? ⟨b, off + j * 3 + 2, none⟩ = some (.int .i64 ca))) (last := 15) (by kernel_rfl) ?_
      refine Rg.take (i := 0) (v := ?_) 40 rfl (by kernel_rfl) (by kernel_rfl) (by kernel_rfl) (by kernel_rfl) (fun _ _ _ h => h) (Or.inl ⟨by rfl, ?_⟩) hS0 ?_
      rotate_left
      · intro w hSw
        go_simp
        try with_reducible rfl
      try simp only [Act.put, List.setIfInBounds_toArray, List.set_cons_zero, List.set_cons_succ]
      refine Rg.take (i := 1) (v := ?_) 40 rfl (by kernel_rfl) (by kernel_rfl) (by kernel_rfl) (by kernel_rfl) (fun _ _ _ h => h) (Or.inl ⟨by rfl, ?_⟩) hS0 ?_
      rotate_left
      · intro w hSw
        go_simp
        try with_reducible rfl
      try simp only [Act.put, List.setIfInBounds_toArray, List.set_cons_zero, List.set_cons_succ]
      refine Rg.take (i := 2) (v := ?_) 40 rfl (by kernel_rfl) (by kernel_rfl) (by kernel_rfl) (by kernel_rfl) (fun _ _ _ h => h) (Or.inl ⟨by rfl, ?_⟩) hS0 ?_
      rotate_left
      · intro w hSw
        go_simp
        try with_reducible rfl
      try simp only [Act.put, List.setIfInBounds_toArray, List.set_cons_zero, List.set_cons_succ]
      refine Rg.take (i := 3) (v := ?_) 40 rfl (by kernel_rfl) (by kernel_rfl) (by kernel_rfl) (by kernel_rfl) (fun _ _ _ h => h) (Or.inl ⟨by rfl, ?_⟩) hS0 ?_
      rotate_left
      · intro w hSw
        go_simp
        try with_reducible rfl
      try simp only [Act.put, List.setIfInBounds_toArray, List.set_cons_zero, List.set_cons_succ]
      refine Rg.take (i := 4) (v := ?_) 40 rfl (by kernel_rfl) (by kernel_rfl) (by kernel_rfl) (by kernel_rfl) (fun _ _ _ h => h) (Or.inl ⟨by rfl, ?_⟩) hS0 ?_
      rotate_left
      · intro w hSw
        go_simp
        try with_reducible rfl
      try simp only [Act.put, List.setIfInBounds_toArray, List.set_cons_zero, List.set_cons_succ]
      refine Rg.take (i := 5) (v := ?_) 40 rfl (by kernel_rfl) (by kernel_rfl) (by kernel_rfl) (by kernel_rfl) (fun _ _ _ h => h) (Or.inl ⟨by rfl, ?_⟩) hS0 ?_
      rotate_left
      · intro w hSw
        go_simp
        try with_reducible rfl
      try simp only [Act.put, List.setIfInBounds_toArray, List.set_cons_zero, List.set_cons_succ]
      refine Rg.take (i := 6) (v := ?_) 40 rfl (by kernel_rfl) (by kernel_rfl) (by kernel_rfl) (by kernel_rfl) (fun _ _ _ h => h) (Or.inl ⟨by rfl, ?_⟩) hS0 ?_
      rotate_left
      · intro w hSw
        go_simp
        try with_reducible rfl
      try simp only [Act.put, List.setIfInBounds_toArray, List.set_cons_zero, List.set_cons_succ]
      refine Rg.take (i := 7) (v := ?_) 40 rfl (by kernel_rfl) (by kernel_rfl) (by kernel_rfl) (by kernel_rfl) (fun _ _ _ h => h) (Or.inl ⟨by rfl, ?_⟩) hS0 ?_
      rotate_left
      · intro w hSw
        go_simp
        try with_reducible rfl
      try simp only [Act.put, List.setIfInBounds_toArray, List.set_cons_zero, List.set_cons_succ]
      refine Rg.take (i := 8) (v := ?_) 40 rfl (by kernel_rfl) (by kernel_rfl) (by kernel_rfl) (by kernel_rfl) (fun _ _ _ h => h) (Or.inl ⟨by rfl, ?_⟩) hS0 ?_
      rotate_left
      · intro w hSw
        go_simp
        try with_reducible rfl
      try simp only [Act.put, List.setIfInBounds_toArray, List.set_cons_zero, List.set_cons_succ]
      refine Rg.take (i := 9) (v := ?_) 40 rfl (by kernel_rfl) (by kernel_rfl) (by kernel_rfl) (by kernel_rfl) (fun _ _ _ h => h) (Or.inl ⟨by rfl, ?_⟩) hS0 ?_
      rotate_left
      · intro w hSw
        go_simp
        try with_reducible rfl
      try simp only [Act.put, List.setIfInBounds_toArray, List.set_cons_zero, List.set_cons_succ]
      refine Rg.take (i := 10) (v := ?_) 40 rfl (by kernel_rfl) (by kernel_rfl) (by kernel_rfl) (by kernel_rfl) (fun _ _ _ h => h) (Or.inl ⟨by rfl, ?_⟩) hS0 ?_
      rotate_left
      · intro w hSw
        go_simp
        try with_reducible rfl
      try simp only [Act.put, List.setIfInBounds_toArray, List.set_cons_zero, List.set_cons_succ]
      refine Rg.take (i := 11) (v := ?_) 40 rfl (by kernel_rfl) (by kernel_rfl) (by kernel_rfl) (by kernel_rfl) (fun _ _ _ h => h) (Or.inl ⟨by rfl, ?_⟩) hS0 ?_
      rotate_left
      · intro w hSw
        go_simp
        try with_reducible rfl
      try simp only [Act.put, List.setIfInBounds_toArray, List.set_cons_zero, List.set_cons_succ]
      refine Rg.take (i := 12) (v := ?_) 40 rfl (by kernel_rfl) (by kernel_rfl) (by kernel_rfl) (by kernel_rfl) (fun _ _ _ h => h) (Or.inl ⟨by rfl, ?_⟩) hS0 ?_
      rotate_left
      · intro w hSw
        go_simp
        try with_reducible rfl
      try simp only [Act.put, List.setIfInBounds_toArray, List.set_cons_zero, List.set_cons_succ]
      refine Rg.step (i := 13) (by kernel_rfl) rfl fun K' hK' => ?_
      have HK := Lib.hid hK'
      clear hK'
      go_simp
      refine (PK.out _).mono ?_
      rintro e w' ⟨rfl, rfl⟩
      refine HK.out _ _ ⟨fun _ => hS0, ?_⟩
      clear HK K'
      try simp only [Act.put, List.setIfInBounds_toArray, List.set_cons_zero, List.set_cons_succ]
      refine Rg.take (i := 14) (v := ?_) 40 rfl (by kernel_rfl) (by kernel_rfl) (by kernel_rfl) (by kernel_rfl) (fun _ _ _ h => h) (Or.inl ⟨by rfl, ?_⟩) hS0 ?_
      rotate_left
      · intro w hSw
        go_simp
        try with_reducible rfl
      try simp only [Act.put, List.setIfInBounds_toArray, List.set_cons_zero, List.set_cons_succ]
      refine Rg.step (i := 15) (by kernel_rfl) rfl fun K' hK' => ?_
      have HK := Lib.hid hK'
      clear hK'
      go_simp
      refine HK.out _ _ ⟨fun h => absurd rfl h, ?_⟩
      clear HK K'
      try simp only [Act.put, List.setIfInBounds_toArray, List.set_cons_zero, List.set_cons_succ]
      refine Rg.finished (by kernel_rfl) ?_ _
      have HF3 : Hid (Ne.LBox (wr.setCell ⟨hb, j, none⟩ (.int .i64 pv)).drew hb (Ne.drawL ml ks (j + 1))) := HF2
      have HB3' := Lib.hid (Ne.below_drew HB2.out)
      clear hS0 HF HBW d0 c2 n3 h0 z0
      go_wp2
      go_roundw
      case rel => exact ⟨j + 1, by go_num, by omega, by omega, HF3, HB3'⟩
      case measure => simp [intOf]; omega
    · have HWI := Lib.hid (Ne.drawL_wi RT.out ks j)
      have HFL := Lib.hid (Ne.drawL_len ml ks j)
      simp only at HWI
      have HW : Hid (Ne.LBox wr hb (Ne.drawL ml ks j)) := HF
      generalize Ne.drawL ml ks j = F at *
      have HRW := Lib.hid (arow_low HR3.out (fun b off e => by subst e; have := (HV2.out b rfl).2; omega) HBW.out HBW.out.size)
      clear HF
      have hcs : ¬ (j : Int) < (ml.length : Int) ∨ ((j : Int) < (ml.length : Int) ∧ ¬ (j : Int) < (ks.length : Int)) := by omega
      clear c hj hjk
      rcases hcs with h1 | ⟨h1, h2⟩
      · go_wp2
        have HS0 := Lib.hid (show (0 : Int) = Ne.nodS ml F ((1 : Int).toNat - 1) from rfl)
        have HQ0 := Lib.hid (show (true = true) ↔ ∀ v : Int, 1 ≤ v → v < 1 → v ≠ ms → v ≠ mt → Ne.exc ml F v = 0 from ⟨fun _ v h1 h2 => by omega, fun _ => rfl⟩)
        obtain ⟨WA, hWA⟩ : ∃ x, x = wr := ⟨_, rfl⟩
        rw [← hWA] at HNW HBT HRW HW
        have HW0 := Lib.hid (show Below WA.heap.size WA wr from hWA ▸ Below.refl _ _)
        have XF := Lib.hid fun v g1 g2 w' h1 h2 => Ne.exs_in (n := ⟨mn, ms, mt, ml⟩) (f := F) om cm (some ⟨hb, 0, none⟩) ml.length w' CK.out h1 h2 HFL.out HWI.out v g1 g2
        clear h1 HBW
        try clear h2
        go_loopw [15, 16, 17] (fun sr ss su wr => ∃ (u s : Int) (rb : Bool), sr = .bool rb ∧ ss = .int .i64 s ∧ su = .int .i64 u ∧ 1 ≤ u ∧ u ≤ mn + 1 ∧ Hid (s = Ne.nodS ml F (u.toNat - 1)) ∧ Hid (rb = true ↔ ∀ v : Int, 1 ≤ v → v < u → v ≠ ms → v ≠ mt → Ne.exc ml F v = 0) ∧ Hid (Below WA.heap.size WA wr)) (fun _ _ su _ => (mn + 1 - intOf su).toNat)
        case atStart => exact ⟨1, 0, true, rfl, rfl, rfl, by omega, by omega, HS0, HQ0, HW0⟩
        case round =>
          obtain ⟨u, s, rb, rfl, rfl, rfl, hu1, hu2, HS, HQ, HWU⟩ := hrel
          clear HS0 HQ0 HW0 hWA
          have HNU := Lib.hid (Ne.netBox_below HNW.out HWU.out (Ne.netBox_lt HNW.out))
          obtain ⟨n0, n1, n2, n3⟩ := Ne.netBox_cells HNU.out
          by_cases hlt : u ≤ mn
          · have XU := Lib.hid (XF.out u hu1 hlt wr (HRW.out.kept HWU.out) (HW.out.kept HWU.out).irow)
            have HS2 := Lib.hid (show s + Ne.exc ml F u = Ne.nodS ml F ((u + 1).toNat - 1) by
              obtain ⟨j, rfl⟩ : ∃ j : Nat, u = (j : Int) + 1 := ⟨(u - 1).toNat, by omega⟩
              rw [show ((j : Int) + 1 + 1).toNat - 1 = j + 1 by omega, HS.out, show ((j : Int) + 1).toNat - 1 = j by omega]; rfl)
            have hb1 := Ne.nodS_bd RT.out HWI.out (u.toNat - 1)
            have hb2 := Ne.nodS_bd RT.out HWI.out ((u + 1).toNat - 1)
            simp only at hb1 hb2 XU
            rw [← HS.out] at hb1
            rw [← HS2.out] at hb2
            have HQY := Lib.hid (show (u = ms ∨ u = mt ∨ Ne.exc ml F u = 0) → (rb = true ↔ ∀ v : Int, 1 ≤ v → v < u + 1 → v ≠ ms → v ≠ mt → Ne.exc ml F v = 0) from fun h => by
              rw [HQ.out]
              refine ⟨fun g v h1 h2 h3 h4 => ?_, fun g v h1 h2 h3 h4 => g v h1 (by omega) h3 h4⟩
              by_cases e : v = u
              · subst e
                rcases h with h | h | h
                · exact absurd h h3
                · exact absurd h h4
                · exact h
              · exact g v h1 (by omega) h3 h4)
            have HQN := Lib.hid (show u ≠ ms → u ≠ mt → Ne.exc ml F u ≠ 0 → (false = true ↔ ∀ v : Int, 1 ≤ v → v < u + 1 → v ≠ ms → v ≠ mt → Ne.exc ml F v = 0) from fun a b c => ⟨fun h => (by cases h), fun h => absurd (h u hu1 (by omega) a b) c⟩)
            generalize Ne.exc ml F u = E at *
            have hw1 : IntKind.i64.wrap (s + E) = s + E := by rw [IntKind.wrap_i64]; omega
            by_cases p1 : u = ms
            · have p1' : (u == ms) = true := by simpa using p1
              have p1n : (u != ms) = false := by simpa using p1
              have HQ2 := Lib.hid (HQY.out (.inl p1))
              clear p1
              go_wp2_with fail
              refine XU.out.mono ?_
              rintro e wx ⟨rfl, hq⟩
              obtain ⟨m0, m1, m2, m3⟩ := Ne.netBox_cells (Ne.netBox_below HNU.out hq (Ne.netBox_lt HNU.out))
              have HW2 := Lib.hid (HWU.out.trans (hq.mono HWU.out.size))
              clear hq n0 n1 n2 n3
              go_wp2
              go_roundw
              case rel => exact ⟨u + 1, s + E, _, rfl, rfl, rfl, by omega, by omega, HS2, HQ2, HW2⟩
              case measure => simp [intOf]; omega
            have p1' : (u == ms) = false := by simpa using p1
            have p1n : (u != ms) = true := by simpa using p1
            by_cases p2 : u = mt
            · have p2' : (u == mt) = true := by simpa using p2
              have p2n : (u != mt) = false := by simpa using p2
              have HQ2 := Lib.hid (HQY.out (.inr (.inl p2)))
              clear p2
              go_wp2_with fail
              refine XU.out.mono ?_
              rintro e wx ⟨rfl, hq⟩
              obtain ⟨m0, m1, m2, m3⟩ := Ne.netBox_cells (Ne.netBox_below HNU.out hq (Ne.netBox_lt HNU.out))
              have HW2 := Lib.hid (HWU.out.trans (hq.mono HWU.out.size))
              clear hq n0 n1 n2 n3
              go_wp2
              go_roundw
              case rel => exact ⟨u + 1, s + E, _, rfl, rfl, rfl, by omega, by omega, HS2, HQ2, HW2⟩
              case measure => simp [intOf]; omega
            have p2' : (u == mt) = false := by simpa using p2
            have p2n : (u != mt) = true := by simpa using p2
            by_cases p3 : E = 0
            · have p3' : (E == 0) = true := by simpa using p3
              have p3n : (E != 0) = false := by simpa using p3
              have HQ2 := Lib.hid (HQY.out (.inr (.inr p3)))
              clear p3
              go_wp2_with fail
              refine XU.out.mono ?_
              rintro e wx ⟨rfl, hq⟩
              obtain ⟨m0, m1, m2, m3⟩ := Ne.netBox_cells (Ne.netBox_below HNU.out hq (Ne.netBox_lt HNU.out))
              have HW2 := Lib.hid (HWU.out.trans (hq.mono HWU.out.size))
              clear hq n0 n1 n2 n3
              go_wp2
              go_roundw
              case rel => exact ⟨u + 1, s + E, _, rfl, rfl, rfl, by omega, by omega, HS2, HQ2, HW2⟩
              case measure => simp [intOf]; omega
            have p3' : (E == 0) = false := by simpa using p3
            have p3n : (E != 0) = true := by simpa using p3
            have HQ2 := Lib.hid (HQN.out p1 p2 p3)
            clear p1 p2 p3
            go_wp2_with fail
            refine XU.out.mono ?_
            rintro e wx ⟨rfl, hq⟩
            obtain ⟨m0, m1, m2, m3⟩ := Ne.netBox_cells (Ne.netBox_below HNU.out hq (Ne.netBox_lt HNU.out))
            have HW2 := Lib.hid (HWU.out.trans (hq.mono HWU.out.size))
            clear hq n0 n1 n2 n3
            go_wp2
            go_roundw
            case rel => exact ⟨u + 1, s + E, _, rfl, rfl, rfl, by omega, by omega, HS2, HQ2, HW2⟩
            case measure => simp [intOf]; omega
          · have hs0 : s = 0 := by
              rw [HS.out]
              refine Ne.nodS_all (n := ⟨mn, ms, mt, ml⟩) RT.out F ?_
              simp only; omega
            subst hs0
            have hum : u = mn + 1 := by omega
            have HCL := Lib.hid (show rb = true ↔ Ne.calm ⟨mn, ms, mt, ml⟩ F by
              have h1 := Ne.calm_int (n := ⟨mn, ms, mt, ml⟩) RT.out (f := F)
              have h2 := HQ.out
              rw [hum] at h2
              rw [h2, h1])
            have hun : ¬ u ≤ mn := by omega
            obtain ⟨q1, q2⟩ := Ne.chkF_is CK.out HFL.out HWI.out
            have CF := Lib.hid fun w' h1 h2 => Ne.chk_ok (n := ⟨mn, ms, mt, ml⟩) (f := F) om cm (some ⟨hb, 0, none⟩) ml.length w' CK.out h1 h2 HFL.out
            have HC2 := Lib.hid (show (rb = true → Ne.chkF ⟨mn, ms, mt, ml⟩ F = 0) ∧ (rb = false → Ne.chkF ⟨mn, ms, mt, ml⟩ F = 9) from ⟨fun h => q1 (HCL.out.1 h), fun h => q2 (fun hc => by have := HCL.out.2 hc; rw [h] at this; cases this)⟩)
            have HBX := Lib.hid (HBT.out.trans (HWU.out.mono HBT.out.size))
            have HRX := Lib.hid (HRW.out.kept HWU.out)
            have HLX := Lib.hid (HW.out.kept HWU.out)
            clear q1 q2 hum hlt HS HQ HCL XF
            cases rb
            case true =>
              have CT := Lib.hid fun w' h1 h2 => CF.out w' h1 h2
              rw [HC2.out.1 rfl] at CT
              clear CF HC2
              go_wp2_with fail
              refine (CT.out wr HRX.out HLX.out.irow).mono ?_
              rintro e wa ⟨rfl, hq⟩
              have HBA := Lib.hid (HBX.out.trans (hq.mono HBX.out.size))
              have HNA := Lib.hid (Ne.netBox_below HNU.out hq (Ne.netBox_lt HNU.out))
              have HRA := Lib.hid (HRX.out.kept hq)
              have HLA := Lib.hid (HLX.out.kept hq)
              clear hq n0 n1 n2 n3
              by_cases hl0 : ml.length = 0
              · have hi0 : ((ml.length : Int) == 0) = true := by simpa using hl0
                clear hl0
                go_wp2
                go_ret
                exact ⟨rfl, HBA.out⟩
              have hi0 : ((ml.length : Int) == 0) = false := by simpa using hl0
              obtain ⟨pk, hpk⟩ : ∃ x, x = Ne.pickN a4 (ml.length : Int) := ⟨_, rfl⟩
              have bpk := Ne.pickN_bd (c := a4) (n := (ml.length : Int)) (by omega)
              rw [← hpk] at bpk
              obtain ⟨kk, hkk⟩ : ∃ k : Nat, pk = (k : Int) := ⟨pk.toNat, by omega⟩
              subst hkk
              have PK := Lib.hid fun w' => Ne.pick_any a4 (ml.length : Int) w' b4.1 b4.2 (by omega) (by omega)
              rw [← hpk] at PK
              have hk : kk < ml.length := by omega
              have hkI : (kk : Int) < (ml.length : Int) := by omega
              have hk0 : (0 : Int) ≤ (kk : Int) := by omega
              have hkf : kk < F.length := by have := HFL.out; omega
              obtain ⟨b, off, rfl, hbl, c0, c1, c2⟩ := Ne.arow_cell HRA.out hk
              have hbb : hb ≠ b := by have := (HV2.out b rfl).2; omega
              have f0 := HLA.out.cell hkf
              have z0 := HLA.out.frozen kk
              have hcb := (FI.out _ (List.mem_of_getElem? (Ne.at_arc hk))).2.2
              have hE2 := Ne.set_bad CK.out HFL.out hk (y := (Ne.arcAt ml kk).cap + 1) (.inr (by simp only; omega))
              have hE3 := Ne.set_bad (f := F) CK.out HFL.out hk (y := -1) (.inl (by omega))
              try simp only at hE2 hE3
              obtain ⟨y, hy⟩ : ∃ y, Ne.amt F kk = y := ⟨_, rfl⟩
              have HFY := Lib.hid (show F.set kk y = F from Ne.ext_amt (by simp) fun i hi => by
                rw [Ne.amt_set _ hkf, ← hy]
                by_cases e : i = kk
                · subst e; rw [if_pos rfl]
                · rw [if_neg e])
              rw [hy] at f0
              clear hy hpk
              generalize (Ne.arcAt ml kk).cap = ca at *
              have HSET := Lib.hid (fun w' (q : Int) (h : Ne.LBox w' hb F) => h.set hkf q)
              have HSE2 := Lib.hid (fun w' (G : List Int) (q : Int) (hg : G.length = F.length) (h : Ne.LBox w' hb G) => h.set (i := kk) (by omega) q)
              have CB := Lib.hid fun (G : List Int) (hg : G.length = ml.length) w' h1 h2 => Ne.chk_ok (n := ⟨mn, ms, mt, ml⟩) (f := G) (some ⟨b, off, none⟩) cm (some ⟨hb, 0, none⟩) ml.length w' CK.out h1 h2 hg
              have hwc : IntKind.i64.wrap (ca + 1) = ca + 1 := by rw [IntKind.wrap_i64]; omega
              have hwm1 : IntKind.i64.wrap (mn + 1) = mn + 1 := by rw [IntKind.wrap_i64]; omega
              have C2 := Lib.hid (CB.out (F.set kk (ca + 1)) (by rw [List.length_set]; exact HFL.out))
              have C3 := Lib.hid (CB.out (F.set kk (-1)) (by rw [List.length_set]; exact HFL.out))
              rw [hE2] at C2
              rw [hE3] at C3
              clear hE2 hE3 CB
              obtain ⟨e1, e2⟩ := Ne.exE_out (f := F) CK.out HFL.out HWI.out (v := 0) (.inl (by omega))
              obtain ⟨e3, e4⟩ := Ne.exE_out (f := F) CK.out HFL.out HWI.out (v := mn + 1) (.inr (by simp only; omega))
              have X0 := Lib.hid fun w' h1 h2 => Ne.exs_ok (n := ⟨mn, ms, mt, ml⟩) (f := F) (some ⟨b, off, none⟩) cm (some ⟨hb, 0, none⟩) ml.length w' CK.out h1 h2 HFL.out 0
              have X1 := Lib.hid fun w' h1 h2 => Ne.exs_ok (n := ⟨mn, ms, mt, ml⟩) (f := F) (some ⟨b, off, none⟩) cm (some ⟨hb, 0, none⟩) ml.length w' CK.out h1 h2 HFL.out (mn + 1)
              rw [e1, e2] at X0
              rw [e3, e4] at X1
              clear e1 e2 e3 e4
              -- the first store
              have HLB := Lib.hid (HSET.out wa (ca + 1) HLA.out)
              have HNB := Lib.hid (Ne.netBox_other HNA.out (b2 := hb) (o := kk) (v2 := .int .i64 (ca + 1)) (by omega))
              have HBB := Lib.hid (HBA.out.setCell (p := ⟨hb, kk, none⟩) (by show w.heap.size ≤ hb; omega) (.int .i64 (ca + 1)))
              have HRB := Lib.hid (arow_set (p := ⟨hb, kk, none⟩) (v := .int .i64 (ca + 1)) HRA.out hbb)
              obtain ⟨n0, n1, n2, n3⟩ := Ne.netBox_cells HNA.out
              obtain ⟨q0, q1, q2, q3⟩ := Ne.netBox_cells HNB.out
              go_wp2_with fail
              refine (PK.out _).mono ?_
              rintro e w' ⟨rfl, rfl⟩
              go_wp2_with fail
              generalize (wa.setCell ⟨hb, kk, none⟩ (.int .i64 (ca + 1))) = wb at *
              clear n0 n1 n2 n3 q0 q1 q2 q3 f0 z0 c0 c1 c2
              refine (C2.out wb HRB.out HLB.out.irow).mono ?_
              rintro e wc ⟨rfl, hq⟩
              have HBC := Lib.hid (HBB.out.trans (hq.mono HBB.out.size))
              have HNC := Lib.hid (Ne.netBox_below HNB.out hq (Ne.netBox_lt HNB.out))
              have HRC := Lib.hid (HRB.out.kept hq)
              have HLC := Lib.hid (HLB.out.kept hq)
              clear hq
              have g0 := HLC.out.cell (i := kk) (by rw [List.length_set]; exact hkf)
              have y0 := HLC.out.frozen kk
              have HLD := Lib.hid (HSE2.out wc _ (-1) (by rw [List.length_set]) HLC.out)
              rw [List.set_set] at HLD
              have HND := Lib.hid (Ne.netBox_other HNC.out (b2 := hb) (o := kk) (v2 := .int .i64 (-1)) (by omega))
              have HBD := Lib.hid (HBC.out.setCell (p := ⟨hb, kk, none⟩) (by show w.heap.size ≤ hb; omega) (.int .i64 (-1)))
              have HRD := Lib.hid (arow_set (p := ⟨hb, kk, none⟩) (v := .int .i64 (-1)) HRC.out hbb)
              obtain ⟨q0, q1, q2, q3⟩ := Ne.netBox_cells HND.out
              go_wp2_with fail
              generalize (wc.setCell ⟨hb, kk, none⟩ (.int .i64 (-1))) = wd at *
              clear q0 q1 q2 q3 g0 y0
              refine (C3.out wd HRD.out HLD.out.irow).mono ?_
              rintro e we ⟨rfl, hq⟩
              have HBE := Lib.hid (HBD.out.trans (hq.mono HBD.out.size))
              have HNE := Lib.hid (Ne.netBox_below HND.out hq (Ne.netBox_lt HND.out))
              have HRE := Lib.hid (HRD.out.kept hq)
              have HLE := Lib.hid (HLD.out.kept hq)
              clear hq
              have g0 := HLE.out.cell (i := kk) (by rw [List.length_set]; exact hkf)
              have y0 := HLE.out.frozen kk
              have HLG := Lib.hid (HSE2.out we _ y (by rw [List.length_set]) HLE.out)
              rw [List.set_set, HFY.out] at HLG
              have HNG := Lib.hid (Ne.netBox_other HNE.out (b2 := hb) (o := kk) (v2 := .int .i64 y) (by omega))
              have HBG := Lib.hid (HBE.out.setCell (p := ⟨hb, kk, none⟩) (by show w.heap.size ≤ hb; omega) (.int .i64 y))
              have HRG := Lib.hid (arow_set (p := ⟨hb, kk, none⟩) (v := .int .i64 y) HRE.out hbb)
              obtain ⟨q0, q1, q2, q3⟩ := Ne.netBox_cells HNG.out
              go_wp2_with fail
              generalize (we.setCell ⟨hb, kk, none⟩ (.int .i64 y)) = wg at *
              clear q0 q1 q2 q3 g0 y0
              refine (X0.out wg HRG.out HLG.out.irow).mono ?_
              rintro e wh ⟨rfl, hq⟩
              have HBH := Lib.hid (HBG.out.trans (hq.mono HBG.out.size))
              have HNH := Lib.hid (Ne.netBox_below HNG.out hq (Ne.netBox_lt HNG.out))
              have HRH := Lib.hid (HRG.out.kept hq)
              have HLH := Lib.hid (HLG.out.kept hq)
              clear hq
              obtain ⟨q0, q1, q2, q3⟩ := Ne.netBox_cells HNH.out
              go_wp2_with fail
              refine (X1.out wh HRH.out HLH.out.irow).mono ?_
              rintro e wi ⟨rfl, hq⟩
              have HBI := Lib.hid (HBH.out.trans (hq.mono HBH.out.size))
              have HNI := Lib.hid (Ne.netBox_below HNH.out hq (Ne.netBox_lt HNH.out))
              have HRI := Lib.hid (HRH.out.kept hq)
              have HLI := Lib.hid (HLH.out.kept hq)
              clear hq q0 q1 q2 q3
              obtain ⟨n0, n1, n2, n3⟩ := Ne.netBox_cells HNI.out
              have hli : hb < wi.drew.heap.size := HLI.out.lt
              have hln : bn < wi.drew.heap.size := Ne.netBox_lt HNI.out
              have HID := Lib.hid (show Ne.IRow wi.drew (if ml.length = 1 then some ⟨hb, 0, none⟩ else some ⟨hb, 1, none⟩) (F.drop 1) from by
                by_cases e : ml.length = 1
                · exact .inl (List.drop_eq_nil_of_le (by rw [HFL.out]; omega))
                · rw [if_neg e]; exact Ne.irow_drop (show Ne.LBox wi.drew hb F from HLI.out))
              have CD := Lib.hid (show ∀ w', Ne.ARow w' (some ⟨b, off, none⟩) ml → Ne.IRow w' (if ml.length = 1 then some ⟨hb, 0, none⟩ else some ⟨hb, 1, none⟩) (F.drop 1) → Calls Try.prog 17 #[Ne.encN ⟨mn, ms, mt, ml⟩ (some ⟨b, off, none⟩) cm, .slice (if ml.length = 1 then some ⟨hb, 0, none⟩ else some ⟨hb, 1, none⟩) (ml.length - 1) (ml.length - 1)] w' fun e w2 => e = .returned (.int .i64 6) ∧ Below w'.heap.size w' w2 from fun w' g1 g2 => by
                have h := Ne.fchk_any ⟨mn, ms, mt, ml⟩ (some ⟨b, off, none⟩) cm _ (ml.length - 1) (F.drop 1) w' g1 g2 hl6 CAP.out
                rw [Ne.chkF_cnt CK.out (by rw [List.length_drop, HFL.out]; simp only; omega), List.length_drop, HFL.out] at h
                exact h)
              have hml1 : 1 ≤ ml.length := by omega
              have hmlI : (1 : Int) ≤ (ml.length : Int) := by omega
              go_wp2
              have hS0 := (show (fun w' => w'.cell? ⟨bn, 0, none⟩ = some (.int .i64 mn) ∧ w'.cell? ⟨bn, 1, none⟩ = some (.int .i64 ms) ∧ w'.cell? ⟨bn, 2, none⟩ = some (.int .i64 mt) ∧ w'.cell? ⟨bn, 3, none⟩ = some (.slice (some ⟨b, off, none⟩) ml.length cm)) wi.drew from ⟨n0, n1, n2, n3⟩)
              refine Rh.start (S := (fun w' => w'.cell? ⟨bn, 0, none⟩ = some (.int .i64 mn) ∧ w'.cell? ⟨bn, 1, none⟩ = some (.int .i64 ms) ∧ w'.cell? ⟨bn, 2, none⟩ = some (.int .i64 mt) ∧ w'.cell? ⟨bn, 3, none⟩ = some (.slice (some ⟨b, off, none⟩) ml.length cm))) (by kernel_rfl) ?_
              refine Rh.take (some 167) (i := 0) (v := ?_) rfl (by kernel_rfl) (by kernel_rfl) (by kernel_rfl) (by kernel_rfl) (fun _ _ _ h => h) (Or.inl ⟨by rfl, ?_⟩) hS0 ?_
              rotate_left
              · intro w hSw
                go_simp
                try with_reducible rfl
              try simp only [Act.put, List.setIfInBounds_toArray, List.set_cons_zero, List.set_cons_succ]
              refine Rh.take (some 168) (i := 1) (v := ?_) rfl (by kernel_rfl) (by kernel_rfl) (by kernel_rfl) (by kernel_rfl) (fun _ _ _ h => h) (Or.inl ⟨by rfl, ?_⟩) hS0 ?_
              rotate_left
              · intro w hSw
                go_simp
                try with_reducible rfl
              try simp only [Act.put, List.setIfInBounds_toArray, List.set_cons_zero, List.set_cons_succ]
              refine Rh.take (some 169) (i := 2) (v := ?_) rfl (by kernel_rfl) (by kernel_rfl) (by kernel_rfl) (by kernel_rfl) (fun _ _ _ h => h) (Or.inl ⟨by rfl, ?_⟩) hS0 ?_
              rotate_left
              · intro w hSw
                go_simp
                try with_reducible rfl
              try simp only [Act.put, List.setIfInBounds_toArray, List.set_cons_zero, List.set_cons_succ]
              refine Rh.take (some 170) (i := 3) (v := ?_) rfl (by kernel_rfl) (by kernel_rfl) (by kernel_rfl) (by kernel_rfl) (fun _ _ _ h => h) (Or.inl ⟨by rfl, ?_⟩) hS0 ?_
              rotate_left
              · intro w hSw
                go_simp
                try with_reducible rfl
              try simp only [Act.put, List.setIfInBounds_toArray, List.set_cons_zero, List.set_cons_succ]
              refine Rh.take (some 171) (i := 4) (v := ?_) rfl (by kernel_rfl) (by kernel_rfl) (by kernel_rfl) (by kernel_rfl) (fun _ _ _ h => h) (Or.inl ⟨by rfl, ?_⟩) hS0 ?_
              rotate_left
              · intro w hSw
                go_simp
                try with_reducible rfl
              try simp only [Act.put, List.setIfInBounds_toArray, List.set_cons_zero, List.set_cons_succ]
              refine Rh.take (some 172) (i := 5) (v := ?_) rfl (by kernel_rfl) (by kernel_rfl) (by kernel_rfl) (by kernel_rfl) (fun _ _ _ h => h) (Or.inl ⟨by rfl, ?_⟩) hS0 ?_
              rotate_left
              · intro w hSw
                go_simp
                try with_reducible rfl
              try simp only [Act.put, List.setIfInBounds_toArray, List.set_cons_zero, List.set_cons_succ]
              refine Rh.take (some 173) (i := 6) (v := ?_) rfl (by kernel_rfl) (by kernel_rfl) (by kernel_rfl) (by kernel_rfl) (fun _ _ _ h => h) (Or.inl ⟨by rfl, ?_⟩) hS0 ?_
              rotate_left
              · intro w hSw
                go_simp
                try with_reducible rfl
              try simp only [Act.put, List.setIfInBounds_toArray, List.set_cons_zero, List.set_cons_succ]
              refine Rh.take (some 174) (i := 7) (v := ?_) rfl (by kernel_rfl) (by kernel_rfl) (by kernel_rfl) (by kernel_rfl) (fun _ _ _ h => h) (Or.inl ⟨by rfl, ?_⟩) hS0 ?_
              rotate_left
              · intro w hSw
                go_simp
                try with_reducible rfl
              try simp only [Act.put, List.setIfInBounds_toArray, List.set_cons_zero, List.set_cons_succ]
              refine Rh.take (some 175) (i := 8) (v := ?_) rfl (by kernel_rfl) (by kernel_rfl) (by kernel_rfl) (by kernel_rfl) (fun _ _ _ h => h) (Or.inl ⟨by rfl, ?_⟩) hS0 ?_
              rotate_left
              · intro w hSw
                go_simp
                try with_reducible rfl
              try simp only [Act.put, List.setIfInBounds_toArray, List.set_cons_zero, List.set_cons_succ]
              refine Rh.take (some 176) (i := 9) (v := ?_) rfl (by kernel_rfl) (by kernel_rfl) (by kernel_rfl) (by kernel_rfl) (fun _ _ _ h => h) (Or.inl ⟨by rfl, ?_⟩) hS0 ?_
              rotate_left
              · intro w hSw
                go_simp
                try with_reducible rfl
              try simp only [Act.put, List.setIfInBounds_toArray, List.set_cons_zero, List.set_cons_succ]
              refine Rh.take (some 177) (i := 10) (v := ?_) rfl (by kernel_rfl) (by kernel_rfl) (by kernel_rfl) (by kernel_rfl) (fun _ _ _ h => h) (Or.inl ⟨by rfl, ?_⟩) hS0 ?_
              rotate_left
              · intro w hSw
                go_simp
                try with_reducible rfl
              try simp only [Act.put, List.setIfInBounds_toArray, List.set_cons_zero, List.set_cons_succ]
              refine Rh.take (some 178) (i := 11) (v := ?_) rfl (by kernel_rfl) (by kernel_rfl) (by kernel_rfl) (by kernel_rfl) (fun _ _ _ h => h) (Or.inl ⟨by rfl, ?_⟩) hS0 ?_
              rotate_left
              · intro w hSw
                go_simp
                try with_reducible rfl
              try simp only [Act.put, List.setIfInBounds_toArray, List.set_cons_zero, List.set_cons_succ]
              refine Rh.take (some 179) (i := 12) (v := ?_) rfl (by kernel_rfl) (by kernel_rfl) (by kernel_rfl) (by kernel_rfl) (fun _ _ _ h => h) (Or.inl ⟨by rfl, ?_⟩) hS0 ?_
              rotate_left
              · intro w hSw
                go_simp
                try with_reducible rfl
              try simp only [Act.put, List.setIfInBounds_toArray, List.set_cons_zero, List.set_cons_succ]
              refine Rh.take (some 180) (i := 13) (v := ?_) rfl (by kernel_rfl) (by kernel_rfl) (by kernel_rfl) (by kernel_rfl) (fun _ _ _ h => h) (Or.inl ⟨by rfl, ?_⟩) hS0 ?_
              rotate_left
              · intro w hSw
                go_simp
                try with_reducible rfl
              try simp only [Act.put, List.setIfInBounds_toArray, List.set_cons_zero, List.set_cons_succ]
              refine Rh.take (some 181) (i := 14) (v := ?_) rfl (by kernel_rfl) (by kernel_rfl) (by kernel_rfl) (by kernel_rfl) (fun _ _ _ h => h) (Or.inl ⟨by rfl, ?_⟩) hS0 ?_
              rotate_left
              · intro w hSw
                go_simp
                try with_reducible rfl
              try simp only [Act.put, List.setIfInBounds_toArray, List.set_cons_zero, List.set_cons_succ]
              refine Rh.take (some 182) (i := 15) (v := ?_) rfl (by kernel_rfl) (by kernel_rfl) (by kernel_rfl) (by kernel_rfl) (fun _ _ _ h => h) (Or.inl ⟨by rfl, ?_⟩) hS0 ?_
              rotate_left
              · intro w hSw
                go_simp
                try with_reducible rfl
              try simp only [Act.put, List.setIfInBounds_toArray, List.set_cons_zero, List.set_cons_succ]
              refine Rh.take (some 183) (i := 16) (v := ?_) rfl (by kernel_rfl) (by kernel_rfl) (by kernel_rfl) (by kernel_rfl) (fun _ _ _ h => h) (Or.inl ⟨by rfl, ?_⟩) hS0 ?_
              rotate_left
              · intro w hSw
                go_simp
                try with_reducible rfl
              try simp only [Act.put, List.setIfInBounds_toArray, List.set_cons_zero, List.set_cons_succ]
              refine Rh.step (i := 17) (by kernel_rfl) rfl fun K' hK' => ?_
              have HK := Lib.hid hK'
              clear hK'
              go_simp
              refine HK.out _ _ ⟨hS0, ?_⟩
              clear HK K'
              try simp only [Act.put, List.setIfInBounds_toArray, List.set_cons_zero, List.set_cons_succ]
              refine Rh.step (i := 18) (by kernel_rfl) rfl fun K' hK' => ?_
              have HK := Lib.hid hK'
              clear hK'
              go_simp
              refine (CD.out wi.drew (show Ne.ARow wi.drew (some ⟨b, off, none⟩) ml from HRI.out) HID.out).mono ?_
              rintro e wj ⟨rfl, hq⟩
              have HBJ := Lib.hid ((Ne.below_drew HBI.out).trans (hq.mono HBI.out.size))
              have hS1 := (show (fun w' => w'.cell? ⟨bn, 0, none⟩ = some (.int .i64 mn) ∧ w'.cell? ⟨bn, 1, none⟩ = some (.int .i64 ms) ∧ w'.cell? ⟨bn, 2, none⟩ = some (.int .i64 mt) ∧ w'.cell? ⟨bn, 3, none⟩ = some (.slice (some ⟨b, off, none⟩) ml.length cm)) wj from ⟨(hq.cell (p := ⟨bn, 0, none⟩) hln).trans n0, (hq.cell (p := ⟨bn, 1, none⟩) hln).trans n1, (hq.cell (p := ⟨bn, 2, none⟩) hln).trans n2, (hq.cell (p := ⟨bn, 3, none⟩) hln).trans n3⟩)
              clear hq
              refine HK.out _ _ ⟨hS1, ?_⟩
              clear HK K'
              try simp only [Act.put, List.setIfInBounds_toArray, List.set_cons_zero, List.set_cons_succ]
              refine Rh.take (some 186) (i := 19) (v := ?_) rfl (by kernel_rfl) (by kernel_rfl) (by kernel_rfl) (by kernel_rfl) (fun _ _ _ h => h) (Or.inl ⟨by rfl, ?_⟩) hS1 ?_
              rotate_left
              · intro w hSw
                go_simp
                try with_reducible rfl
              try simp only [Act.put, List.setIfInBounds_toArray, List.set_cons_zero, List.set_cons_succ]
              refine Rh.take (some 187) (i := 20) (v := ?_) rfl (by kernel_rfl) (by kernel_rfl) (by kernel_rfl) (by kernel_rfl) (fun _ _ _ h => h) (Or.inl ⟨by rfl, ?_⟩) hS1 ?_
              rotate_left
              · intro w hSw
                go_simp
                try with_reducible rfl
              try simp only [Act.put, List.setIfInBounds_toArray, List.set_cons_zero, List.set_cons_succ]
              refine Rh.take (some 10) (i := 21) (v := ?_) rfl (by kernel_rfl) (by kernel_rfl) (by kernel_rfl) (by kernel_rfl) (fun _ _ _ h => h) (Or.inl ⟨by rfl, ?_⟩) hS1 ?_
              rotate_left
              · intro w hSw
                go_simp
                try with_reducible rfl
              try simp only [Act.put, List.setIfInBounds_toArray, List.set_cons_zero, List.set_cons_succ]
              refine Rh.done (by kernel_rfl) ?_ _
              go_wp2
              all_goals (go_ret; exact ⟨rfl, HBJ.out⟩)
            have CT := Lib.hid fun w' h1 h2 => CF.out w' h1 h2
            rw [HC2.out.2 rfl] at CT
            clear CF HC2
            go_wp2_with fail
            refine (CT.out wr HRX.out HLX.out.irow).mono ?_
            rintro e wa ⟨rfl, hq⟩
            have HBA := Lib.hid (HBX.out.trans (hq.mono HBX.out.size))
            have HNA := Lib.hid (Ne.netBox_below HNU.out hq (Ne.netBox_lt HNU.out))
            have HRA := Lib.hid (HRX.out.kept hq)
            have HLA := Lib.hid (HLX.out.kept hq)
            clear hq n0 n1 n2 n3
            by_cases hl0 : ml.length = 0
            · have hi0 : ((ml.length : Int) == 0) = true := by simpa using hl0
              clear hl0
              go_wp2
              go_ret
              exact ⟨rfl, HBA.out⟩
            have hi0 : ((ml.length : Int) == 0) = false := by simpa using hl0
            obtain ⟨pk, hpk⟩ : ∃ x, x = Ne.pickN a4 (ml.length : Int) := ⟨_, rfl⟩
            have bpk := Ne.pickN_bd (c := a4) (n := (ml.length : Int)) (by omega)
            rw [← hpk] at bpk
            obtain ⟨kk, hkk⟩ : ∃ k : Nat, pk = (k : Int) := ⟨pk.toNat, by omega⟩
            subst hkk
            have PK := Lib.hid fun w' => Ne.pick_any a4 (ml.length : Int) w' b4.1 b4.2 (by omega) (by omega)
            rw [← hpk] at PK
            have hk : kk < ml.length := by omega
            have hkI : (kk : Int) < (ml.length : Int) := by omega
            have hk0 : (0 : Int) ≤ (kk : Int) := by omega
            have hkf : kk < F.length := by have := HFL.out; omega
            obtain ⟨b, off, rfl, hbl, c0, c1, c2⟩ := Ne.arow_cell HRA.out hk
            have hbb : hb ≠ b := by have := (HV2.out b rfl).2; omega
            have f0 := HLA.out.cell hkf
            have z0 := HLA.out.frozen kk
            have hcb := (FI.out _ (List.mem_of_getElem? (Ne.at_arc hk))).2.2
            have hE2 := Ne.set_bad CK.out HFL.out hk (y := (Ne.arcAt ml kk).cap + 1) (.inr (by simp only; omega))
            have hE3 := Ne.set_bad (f := F) CK.out HFL.out hk (y := -1) (.inl (by omega))
            try simp only at hE2 hE3
            obtain ⟨y, hy⟩ : ∃ y, Ne.amt F kk = y := ⟨_, rfl⟩
            have HFY := Lib.hid (show F.set kk y = F from Ne.ext_amt (by simp) fun i hi => by
              rw [Ne.amt_set _ hkf, ← hy]
              by_cases e : i = kk
              · subst e; rw [if_pos rfl]
              · rw [if_neg e])
            rw [hy] at f0
            clear hy hpk
            generalize (Ne.arcAt ml kk).cap = ca at *
            have HSET := Lib.hid (fun w' (q : Int) (h : Ne.LBox w' hb F) => h.set hkf q)
            have HSE2 := Lib.hid (fun w' (G : List Int) (q : Int) (hg : G.length = F.length) (h : Ne.LBox w' hb G) => h.set (i := kk) (by omega) q)
            have CB := Lib.hid fun (G : List Int) (hg : G.length = ml.length) w' h1 h2 => Ne.chk_ok (n := ⟨mn, ms, mt, ml⟩) (f := G) (some ⟨b, off, none⟩) cm (some ⟨hb, 0, none⟩) ml.length w' CK.out h1 h2 hg
            have hwc : IntKind.i64.wrap (ca + 1) = ca + 1 := by rw [IntKind.wrap_i64]; omega
            have hwm1 : IntKind.i64.wrap (mn + 1) = mn + 1 := by rw [IntKind.wrap_i64]; omega
            have C2 := Lib.hid (CB.out (F.set kk (ca + 1)) (by rw [List.length_set]; exact HFL.out))
            have C3 := Lib.hid (CB.out (F.set kk (-1)) (by rw [List.length_set]; exact HFL.out))
            rw [hE2] at C2
            rw [hE3] at C3
            clear hE2 hE3 CB
            obtain ⟨e1, e2⟩ := Ne.exE_out (f := F) CK.out HFL.out HWI.out (v := 0) (.inl (by omega))
            obtain ⟨e3, e4⟩ := Ne.exE_out (f := F) CK.out HFL.out HWI.out (v := mn + 1) (.inr (by simp only; omega))
            have X0 := Lib.hid fun w' h1 h2 => Ne.exs_ok (n := ⟨mn, ms, mt, ml⟩) (f := F) (some ⟨b, off, none⟩) cm (some ⟨hb, 0, none⟩) ml.length w' CK.out h1 h2 HFL.out 0
            have X1 := Lib.hid fun w' h1 h2 => Ne.exs_ok (n := ⟨mn, ms, mt, ml⟩) (f := F) (some ⟨b, off, none⟩) cm (some ⟨hb, 0, none⟩) ml.length w' CK.out h1 h2 HFL.out (mn + 1)
            rw [e1, e2] at X0
            rw [e3, e4] at X1
            clear e1 e2 e3 e4
            -- the first store
            have HLB := Lib.hid (HSET.out wa (ca + 1) HLA.out)
            have HNB := Lib.hid (Ne.netBox_other HNA.out (b2 := hb) (o := kk) (v2 := .int .i64 (ca + 1)) (by omega))
            have HBB := Lib.hid (HBA.out.setCell (p := ⟨hb, kk, none⟩) (by show w.heap.size ≤ hb; omega) (.int .i64 (ca + 1)))
            have HRB := Lib.hid (arow_set (p := ⟨hb, kk, none⟩) (v := .int .i64 (ca + 1)) HRA.out hbb)
            obtain ⟨n0, n1, n2, n3⟩ := Ne.netBox_cells HNA.out
            obtain ⟨q0, q1, q2, q3⟩ := Ne.netBox_cells HNB.out
            go_wp2_with fail
            refine (PK.out _).mono ?_
            rintro e w' ⟨rfl, rfl⟩
            go_wp2_with fail
            generalize (wa.setCell ⟨hb, kk, none⟩ (.int .i64 (ca + 1))) = wb at *
            clear n0 n1 n2 n3 q0 q1 q2 q3 f0 z0 c0 c1 c2
            refine (C2.out wb HRB.out HLB.out.irow).mono ?_
            rintro e wc ⟨rfl, hq⟩
            have HBC := Lib.hid (HBB.out.trans (hq.mono HBB.out.size))
            have HNC := Lib.hid (Ne.netBox_below HNB.out hq (Ne.netBox_lt HNB.out))
            have HRC := Lib.hid (HRB.out.kept hq)
            have HLC := Lib.hid (HLB.out.kept hq)
            clear hq
            have g0 := HLC.out.cell (i := kk) (by rw [List.length_set]; exact hkf)
            have y0 := HLC.out.frozen kk
            have HLD := Lib.hid (HSE2.out wc _ (-1) (by rw [List.length_set]) HLC.out)
            rw [List.set_set] at HLD
            have HND := Lib.hid (Ne.netBox_other HNC.out (b2 := hb) (o := kk) (v2 := .int .i64 (-1)) (by omega))
            have HBD := Lib.hid (HBC.out.setCell (p := ⟨hb, kk, none⟩) (by show w.heap.size ≤ hb; omega) (.int .i64 (-1)))
            have HRD := Lib.hid (arow_set (p := ⟨hb, kk, none⟩) (v := .int .i64 (-1)) HRC.out hbb)
            obtain ⟨q0, q1, q2, q3⟩ := Ne.netBox_cells HND.out
            go_wp2_with fail
            generalize (wc.setCell ⟨hb, kk, none⟩ (.int .i64 (-1))) = wd at *
            clear q0 q1 q2 q3 g0 y0
            refine (C3.out wd HRD.out HLD.out.irow).mono ?_
            rintro e we ⟨rfl, hq⟩
            have HBE := Lib.hid (HBD.out.trans (hq.mono HBD.out.size))
            have HNE := Lib.hid (Ne.netBox_below HND.out hq (Ne.netBox_lt HND.out))
            have HRE := Lib.hid (HRD.out.kept hq)
            have HLE := Lib.hid (HLD.out.kept hq)
            clear hq
            have g0 := HLE.out.cell (i := kk) (by rw [List.length_set]; exact hkf)
            have y0 := HLE.out.frozen kk
            have HLG := Lib.hid (HSE2.out we _ y (by rw [List.length_set]) HLE.out)
            rw [List.set_set, HFY.out] at HLG
            have HNG := Lib.hid (Ne.netBox_other HNE.out (b2 := hb) (o := kk) (v2 := .int .i64 y) (by omega))
            have HBG := Lib.hid (HBE.out.setCell (p := ⟨hb, kk, none⟩) (by show w.heap.size ≤ hb; omega) (.int .i64 y))
            have HRG := Lib.hid (arow_set (p := ⟨hb, kk, none⟩) (v := .int .i64 y) HRE.out hbb)
            obtain ⟨q0, q1, q2, q3⟩ := Ne.netBox_cells HNG.out
            go_wp2_with fail
            generalize (we.setCell ⟨hb, kk, none⟩ (.int .i64 y)) = wg at *
            clear q0 q1 q2 q3 g0 y0
            refine (X0.out wg HRG.out HLG.out.irow).mono ?_
            rintro e wh ⟨rfl, hq⟩
            have HBH := Lib.hid (HBG.out.trans (hq.mono HBG.out.size))
            have HNH := Lib.hid (Ne.netBox_below HNG.out hq (Ne.netBox_lt HNG.out))
            have HRH := Lib.hid (HRG.out.kept hq)
            have HLH := Lib.hid (HLG.out.kept hq)
            clear hq
            obtain ⟨q0, q1, q2, q3⟩ := Ne.netBox_cells HNH.out
            go_wp2_with fail
            refine (X1.out wh HRH.out HLH.out.irow).mono ?_
            rintro e wi ⟨rfl, hq⟩
            have HBI := Lib.hid (HBH.out.trans (hq.mono HBH.out.size))
            have HNI := Lib.hid (Ne.netBox_below HNH.out hq (Ne.netBox_lt HNH.out))
            have HRI := Lib.hid (HRH.out.kept hq)
            have HLI := Lib.hid (HLH.out.kept hq)
            clear hq q0 q1 q2 q3
            obtain ⟨n0, n1, n2, n3⟩ := Ne.netBox_cells HNI.out
            have hli : hb < wi.drew.heap.size := HLI.out.lt
            have hln : bn < wi.drew.heap.size := Ne.netBox_lt HNI.out
            have HID := Lib.hid (show Ne.IRow wi.drew (if ml.length = 1 then some ⟨hb, 0, none⟩ else some ⟨hb, 1, none⟩) (F.drop 1) from by
              by_cases e : ml.length = 1
              · exact .inl (List.drop_eq_nil_of_le (by rw [HFL.out]; omega))
              · rw [if_neg e]; exact Ne.irow_drop (show Ne.LBox wi.drew hb F from HLI.out))
            have CD := Lib.hid (show ∀ w', Ne.ARow w' (some ⟨b, off, none⟩) ml → Ne.IRow w' (if ml.length = 1 then some ⟨hb, 0, none⟩ else some ⟨hb, 1, none⟩) (F.drop 1) → Calls Try.prog 17 #[Ne.encN ⟨mn, ms, mt, ml⟩ (some ⟨b, off, none⟩) cm, .slice (if ml.length = 1 then some ⟨hb, 0, none⟩ else some ⟨hb, 1, none⟩) (ml.length - 1) (ml.length - 1)] w' fun e w2 => e = .returned (.int .i64 6) ∧ Below w'.heap.size w' w2 from fun w' g1 g2 => by
              have h := Ne.fchk_any ⟨mn, ms, mt, ml⟩ (some ⟨b, off, none⟩) cm _ (ml.length - 1) (F.drop 1) w' g1 g2 hl6 CAP.out
              rw [Ne.chkF_cnt CK.out (by rw [List.length_drop, HFL.out]; simp only; omega), List.length_drop, HFL.out] at h
              exact h)
            have hml1 : 1 ≤ ml.length := by omega
            have hmlI : (1 : Int) ≤ (ml.length : Int) := by omega
            go_wp2
            have hS0 := (show (fun w' => w'.cell? ⟨bn, 0, none⟩ = some (.int .i64 mn) ∧ w'.cell? ⟨bn, 1, none⟩ = some (.int .i64 ms) ∧ w'.cell? ⟨bn, 2, none⟩ = some (.int .i64 mt) ∧ w'.cell? ⟨bn, 3, none⟩ = some (.slice (some ⟨b, off, none⟩) ml.length cm)) wi.drew from ⟨n0, n1, n2, n3⟩)
            refine Rh.start (S := (fun w' => w'.cell? ⟨bn, 0, none⟩ = some (.int .i64 mn) ∧ w'.cell? ⟨bn, 1, none⟩ = some (.int .i64 ms) ∧ w'.cell? ⟨bn, 2, none⟩ = some (.int .i64 mt) ∧ w'.cell? ⟨bn, 3, none⟩ = some (.slice (some ⟨b, off, none⟩) ml.length cm))) (by kernel_rfl) ?_
            refine Rh.take (some 167) (i := 0) (v := ?_) rfl (by kernel_rfl) (by kernel_rfl) (by kernel_rfl) (by kernel_rfl) (fun _ _ _ h => h) (Or.inl ⟨by rfl, ?_⟩) hS0 ?_
            rotate_left
            · intro w hSw
              go_simp
              try with_reducible rfl
            try simp only [Act.put, List.setIfInBounds_toArray, List.set_cons_zero, List.set_cons_succ]
            refine Rh.take (some 168) (i := 1) (v := ?_) rfl (by kernel_rfl) (by kernel_rfl) (by kernel_rfl) (by kernel_rfl) (fun _ _ _ h => h) (Or.inl ⟨by rfl, ?_⟩) hS0 ?_
            rotate_left
            · intro w hSw
              go_simp
              try with_reducible rfl
            try simp only [Act.put, List.setIfInBounds_toArray, List.set_cons_zero, List.set_cons_succ]
            refine Rh.take (some 169) (i := 2) (v := ?_) rfl (by kernel_rfl) (by kernel_rfl) (by kernel_rfl) (by kernel_rfl) (fun _ _ _ h => h) (Or.inl ⟨by rfl, ?_⟩) hS0 ?_
            rotate_left
            · intro w hSw
              go_simp
              try with_reducible rfl
            try simp only [Act.put, List.setIfInBounds_toArray, List.set_cons_zero, List.set_cons_succ]
            refine Rh.take (some 170) (i := 3) (v := ?_) rfl (by kernel_rfl) (by kernel_rfl) (by kernel_rfl) (by kernel_rfl) (fun _ _ _ h => h) (Or.inl ⟨by rfl, ?_⟩) hS0 ?_
            rotate_left
            · intro w hSw
              go_simp
              try with_reducible rfl
            try simp only [Act.put, List.setIfInBounds_toArray, List.set_cons_zero, List.set_cons_succ]
            refine Rh.take (some 171) (i := 4) (v := ?_) rfl (by kernel_rfl) (by kernel_rfl) (by kernel_rfl) (by kernel_rfl) (fun _ _ _ h => h) (Or.inl ⟨by rfl, ?_⟩) hS0 ?_
            rotate_left
            · intro w hSw
              go_simp
              try with_reducible rfl
            try simp only [Act.put, List.setIfInBounds_toArray, List.set_cons_zero, List.set_cons_succ]
            refine Rh.take (some 172) (i := 5) (v := ?_) rfl (by kernel_rfl) (by kernel_rfl) (by kernel_rfl) (by kernel_rfl) (fun _ _ _ h => h) (Or.inl ⟨by rfl, ?_⟩) hS0 ?_
            rotate_left
            · intro w hSw
              go_simp
              try with_reducible rfl
            try simp only [Act.put, List.setIfInBounds_toArray, List.set_cons_zero, List.set_cons_succ]
            refine Rh.take (some 173) (i := 6) (v := ?_) rfl (by kernel_rfl) (by kernel_rfl) (by kernel_rfl) (by kernel_rfl) (fun _ _ _ h => h) (Or.inl ⟨by rfl, ?_⟩) hS0 ?_
            rotate_left
            · intro w hSw
              go_simp
              try with_reducible rfl
            try simp only [Act.put, List.setIfInBounds_toArray, List.set_cons_zero, List.set_cons_succ]
            refine Rh.take (some 174) (i := 7) (v := ?_) rfl (by kernel_rfl) (by kernel_rfl) (by kernel_rfl) (by kernel_rfl) (fun _ _ _ h => h) (Or.inl ⟨by rfl, ?_⟩) hS0 ?_
            rotate_left
            · intro w hSw
              go_simp
              try with_reducible rfl
            try simp only [Act.put, List.setIfInBounds_toArray, List.set_cons_zero, List.set_cons_succ]
            refine Rh.take (some 175) (i := 8) (v := ?_) rfl (by kernel_rfl) (by kernel_rfl) (by kernel_rfl) (by kernel_rfl) (fun _ _ _ h => h) (Or.inl ⟨by rfl, ?_⟩) hS0 ?_
            rotate_left
            · intro w hSw
              go_simp
              try with_reducible rfl
            try simp only [Act.put, List.setIfInBounds_toArray, List.set_cons_zero, List.set_cons_succ]
            refine Rh.take (some 176) (i := 9) (v := ?_) rfl (by kernel_rfl) (by kernel_rfl) (by kernel_rfl) (by kernel_rfl) (fun _ _ _ h => h) (Or.inl ⟨by rfl, ?_⟩) hS0 ?_
            rotate_left
            · intro w hSw
              go_simp
              try with_reducible rfl
            try simp only [Act.put, List.setIfInBounds_toArray, List.set_cons_zero, List.set_cons_succ]
            refine Rh.take (some 177) (i := 10) (v := ?_) rfl (by kernel_rfl) (by kernel_rfl) (by kernel_rfl) (by kernel_rfl) (fun _ _ _ h => h) (Or.inl ⟨by rfl, ?_⟩) hS0 ?_
            rotate_left
            · intro w hSw
              go_simp
              try with_reducible rfl
            try simp only [Act.put, List.setIfInBounds_toArray, List.set_cons_zero, List.set_cons_succ]
            refine Rh.take (some 178) (i := 11) (v := ?_) rfl (by kernel_rfl) (by kernel_rfl) (by kernel_rfl) (by kernel_rfl) (fun _ _ _ h => h) (Or.inl ⟨by rfl, ?_⟩) hS0 ?_
            rotate_left
            · intro w hSw
              go_simp
              try with_reducible rfl
            try simp only [Act.put, List.setIfInBounds_toArray, List.set_cons_zero, List.set_cons_succ]
            refine Rh.take (some 179) (i := 12) (v := ?_) rfl (by kernel_rfl) (by kernel_rfl) (by kernel_rfl) (by kernel_rfl) (fun _ _ _ h => h) (Or.inl ⟨by rfl, ?_⟩) hS0 ?_
            rotate_left
            · intro w hSw
              go_simp
              try with_reducible rfl
            try simp only [Act.put, List.setIfInBounds_toArray, List.set_cons_zero, List.set_cons_succ]
            refine Rh.take (some 180) (i := 13) (v := ?_) rfl (by kernel_rfl) (by kernel_rfl) (by kernel_rfl) (by kernel_rfl) (fun _ _ _ h => h) (Or.inl ⟨by rfl, ?_⟩) hS0 ?_
            rotate_left
            · intro w hSw
              go_simp
              try with_reducible rfl
            try simp only [Act.put, List.setIfInBounds_toArray, List.set_cons_zero, List.set_cons_succ]
            refine Rh.take (some 181) (i := 14) (v := ?_) rfl (by kernel_rfl) (by kernel_rfl) (by kernel_rfl) (by kernel_rfl) (fun _ _ _ h => h) (Or.inl ⟨by rfl, ?_⟩) hS0 ?_
            rotate_left
            · intro w hSw
              go_simp
              try with_reducible rfl
            try simp only [Act.put, List.setIfInBounds_toArray, List.set_cons_zero, List.set_cons_succ]
            refine Rh.take (some 182) (i := 15) (v := ?_) rfl (by kernel_rfl) (by kernel_rfl) (by kernel_rfl) (by kernel_rfl) (fun _ _ _ h => h) (Or.inl ⟨by rfl, ?_⟩) hS0 ?_
            rotate_left
            · intro w hSw
              go_simp
              try with_reducible rfl
            try simp only [Act.put, List.setIfInBounds_toArray, List.set_cons_zero, List.set_cons_succ]
            refine Rh.take (some 183) (i := 16) (v := ?_) rfl (by kernel_rfl) (by kernel_rfl) (by kernel_rfl) (by kernel_rfl) (fun _ _ _ h => h) (Or.inl ⟨by rfl, ?_⟩) hS0 ?_
            rotate_left
            · intro w hSw
              go_simp
              try with_reducible rfl
            try simp only [Act.put, List.setIfInBounds_toArray, List.set_cons_zero, List.set_cons_succ]
            refine Rh.step (i := 17) (by kernel_rfl) rfl fun K' hK' => ?_
            have HK := Lib.hid hK'
            clear hK'
            go_simp
            refine HK.out _ _ ⟨hS0, ?_⟩
            clear HK K'
            try simp only [Act.put, List.setIfInBounds_toArray, List.set_cons_zero, List.set_cons_succ]
            refine Rh.step (i := 18) (by kernel_rfl) rfl fun K' hK' => ?_
            have HK := Lib.hid hK'
            clear hK'
            go_simp
            refine (CD.out wi.drew (show Ne.ARow wi.drew (some ⟨b, off, none⟩) ml from HRI.out) HID.out).mono ?_
            rintro e wj ⟨rfl, hq⟩
            have HBJ := Lib.hid ((Ne.below_drew HBI.out).trans (hq.mono HBI.out.size))
            have hS1 := (show (fun w' => w'.cell? ⟨bn, 0, none⟩ = some (.int .i64 mn) ∧ w'.cell? ⟨bn, 1, none⟩ = some (.int .i64 ms) ∧ w'.cell? ⟨bn, 2, none⟩ = some (.int .i64 mt) ∧ w'.cell? ⟨bn, 3, none⟩ = some (.slice (some ⟨b, off, none⟩) ml.length cm)) wj from ⟨(hq.cell (p := ⟨bn, 0, none⟩) hln).trans n0, (hq.cell (p := ⟨bn, 1, none⟩) hln).trans n1, (hq.cell (p := ⟨bn, 2, none⟩) hln).trans n2, (hq.cell (p := ⟨bn, 3, none⟩) hln).trans n3⟩)
            clear hq
            refine HK.out _ _ ⟨hS1, ?_⟩
            clear HK K'
            try simp only [Act.put, List.setIfInBounds_toArray, List.set_cons_zero, List.set_cons_succ]
            refine Rh.take (some 186) (i := 19) (v := ?_) rfl (by kernel_rfl) (by kernel_rfl) (by kernel_rfl) (by kernel_rfl) (fun _ _ _ h => h) (Or.inl ⟨by rfl, ?_⟩) hS1 ?_
            rotate_left
            · intro w hSw
              go_simp
              try with_reducible rfl
            try simp only [Act.put, List.setIfInBounds_toArray, List.set_cons_zero, List.set_cons_succ]
            refine Rh.take (some 187) (i := 20) (v := ?_) rfl (by kernel_rfl) (by kernel_rfl) (by kernel_rfl) (by kernel_rfl) (fun _ _ _ h => h) (Or.inl ⟨by rfl, ?_⟩) hS1 ?_
            rotate_left
            · intro w hSw
              go_simp
              try with_reducible rfl
            try simp only [Act.put, List.setIfInBounds_toArray, List.set_cons_zero, List.set_cons_succ]
            refine Rh.take (some 10) (i := 21) (v := ?_) rfl (by kernel_rfl) (by kernel_rfl) (by kernel_rfl) (by kernel_rfl) (fun _ _ _ h => h) (Or.inl ⟨by rfl, ?_⟩) hS1 ?_
            rotate_left
            · intro w hSw
              go_simp
              try with_reducible rfl
            try simp only [Act.put, List.setIfInBounds_toArray, List.set_cons_zero, List.set_cons_succ]
            refine Rh.done (by kernel_rfl) ?_ _
            go_wp2
            all_goals (go_ret; exact ⟨rfl, HBJ.out⟩)
      · go_wp2
        have HS0 := Lib.hid (show (0 : Int) = Ne.nodS ml F ((1 : Int).toNat - 1) from rfl)
        have HQ0 := Lib.hid (show (true = true) ↔ ∀ v : Int, 1 ≤ v → v < 1 → v ≠ ms → v ≠ mt → Ne.exc ml F v = 0 from ⟨fun _ v h1 h2 => by omega, fun _ => rfl⟩)
        obtain ⟨WA, hWA⟩ : ∃ x, x = wr := ⟨_, rfl⟩
        rw [← hWA] at HNW HBT HRW HW
        have HW0 := Lib.hid (show Below WA.heap.size WA wr from hWA ▸ Below.refl _ _)
        have XF := Lib.hid fun v g1 g2 w' h1 h2 => Ne.exs_in (n := ⟨mn, ms, mt, ml⟩) (f := F) om cm (some ⟨hb, 0, none⟩) ml.length w' CK.out h1 h2 HFL.out HWI.out v g1 g2
        clear h1 HBW
        try clear h2
        go_loopw [15, 16, 17] (fun sr ss su wr => ∃ (u s : Int) (rb : Bool), sr = .bool rb ∧ ss = .int .i64 s ∧ su = .int .i64 u ∧ 1 ≤ u ∧ u ≤ mn + 1 ∧ Hid (s = Ne.nodS ml F (u.toNat - 1)) ∧ Hid (rb = true ↔ ∀ v : Int, 1 ≤ v → v < u → v ≠ ms → v ≠ mt → Ne.exc ml F v = 0) ∧ Hid (Below WA.heap.size WA wr)) (fun _ _ su _ => (mn + 1 - intOf su).toNat)
        case atStart => exact ⟨1, 0, true, rfl, rfl, rfl, by omega, by omega, HS0, HQ0, HW0⟩
        case round =>
          obtain ⟨u, s, rb, rfl, rfl, rfl, hu1, hu2, HS, HQ, HWU⟩ := hrel
          clear HS0 HQ0 HW0 hWA
          have HNU := Lib.hid (Ne.netBox_below HNW.out HWU.out (Ne.netBox_lt HNW.out))
          obtain ⟨n0, n1, n2, n3⟩ := Ne.netBox_cells HNU.out
          by_cases hlt : u ≤ mn
          · have XU := Lib.hid (XF.out u hu1 hlt wr (HRW.out.kept HWU.out) (HW.out.kept HWU.out).irow)
            have HS2 := Lib.hid (show s + Ne.exc ml F u = Ne.nodS ml F ((u + 1).toNat - 1) by
              obtain ⟨j, rfl⟩ : ∃ j : Nat, u = (j : Int) + 1 := ⟨(u - 1).toNat, by omega⟩
              rw [show ((j : Int) + 1 + 1).toNat - 1 = j + 1 by omega, HS.out, show ((j : Int) + 1).toNat - 1 = j by omega]; rfl)
            have hb1 := Ne.nodS_bd RT.out HWI.out (u.toNat - 1)
            have hb2 := Ne.nodS_bd RT.out HWI.out ((u + 1).toNat - 1)
            simp only at hb1 hb2 XU
            rw [← HS.out] at hb1
            rw [← HS2.out] at hb2
            have HQY := Lib.hid (show (u = ms ∨ u = mt ∨ Ne.exc ml F u = 0) → (rb = true ↔ ∀ v : Int, 1 ≤ v → v < u + 1 → v ≠ ms → v ≠ mt → Ne.exc ml F v = 0) from fun h => by
              rw [HQ.out]
              refine ⟨fun g v h1 h2 h3 h4 => ?_, fun g v h1 h2 h3 h4 => g v h1 (by omega) h3 h4⟩
              by_cases e : v = u
              · subst e
                rcases h with h | h | h
                · exact absurd h h3
                · exact absurd h h4
                · exact h
              · exact g v h1 (by omega) h3 h4)
            have HQN := Lib.hid (show u ≠ ms → u ≠ mt → Ne.exc ml F u ≠ 0 → (false = true ↔ ∀ v : Int, 1 ≤ v → v < u + 1 → v ≠ ms → v ≠ mt → Ne.exc ml F v = 0) from fun a b c => ⟨fun h => (by cases h), fun h => absurd (h u hu1 (by omega) a b) c⟩)
            generalize Ne.exc ml F u = E at *
            have hw1 : IntKind.i64.wrap (s + E) = s + E := by rw [IntKind.wrap_i64]; omega
            by_cases p1 : u = ms
            · have p1' : (u == ms) = true := by simpa using p1
              have p1n : (u != ms) = false := by simpa using p1
              have HQ2 := Lib.hid (HQY.out (.inl p1))
              clear p1
              go_wp2_with fail
              refine XU.out.mono ?_
              rintro e wx ⟨rfl, hq⟩
              obtain ⟨m0, m1, m2, m3⟩ := Ne.netBox_cells (Ne.netBox_below HNU.out hq (Ne.netBox_lt HNU.out))
              have HW2 := Lib.hid (HWU.out.trans (hq.mono HWU.out.size))
              clear hq n0 n1 n2 n3
              go_wp2
              go_roundw
              case rel => exact ⟨u + 1, s + E, _, rfl, rfl, rfl, by omega, by omega, HS2, HQ2, HW2⟩
              case measure => simp [intOf]; omega
            have p1' : (u == ms) = false := by simpa using p1
            have p1n : (u != ms) = true := by simpa using p1
            by_cases p2 : u = mt
            · have p2' : (u == mt) = true := by simpa using p2
              have p2n : (u != mt) = false := by simpa using p2
              have HQ2 := Lib.hid (HQY.out (.inr (.inl p2)))
              clear p2
              go_wp2_with fail
              refine XU.out.mono ?_
              rintro e wx ⟨rfl, hq⟩
              obtain ⟨m0, m1, m2, m3⟩ := Ne.netBox_cells (Ne.netBox_below HNU.out hq (Ne.netBox_lt HNU.out))
              have HW2 := Lib.hid (HWU.out.trans (hq.mono HWU.out.size))
              clear hq n0 n1 n2 n3
              go_wp2
              go_roundw
              case rel => exact ⟨u + 1, s + E, _, rfl, rfl, rfl, by omega, by omega, HS2, HQ2, HW2⟩
              case measure => simp [intOf]; omega
            have p2' : (u == mt) = false := by simpa using p2
            have p2n : (u != mt) = true := by simpa using p2
            by_cases p3 : E = 0
            · have p3' : (E == 0) = true := by simpa using p3
              have p3n : (E != 0) = false := by simpa using p3
              have HQ2 := Lib.hid (HQY.out (.inr (.inr p3)))
              clear p3
              go_wp2_with fail
              refine XU.out.mono ?_
              rintro e wx ⟨rfl, hq⟩
              obtain ⟨m0, m1, m2, m3⟩ := Ne.netBox_cells (Ne.netBox_below HNU.out hq (Ne.netBox_lt HNU.out))
              have HW2 := Lib.hid (HWU.out.trans (hq.mono HWU.out.size))
              clear hq n0 n1 n2 n3
              go_wp2
              go_roundw
              case rel => exact ⟨u + 1, s + E, _, rfl, rfl, rfl, by omega, by omega, HS2, HQ2, HW2⟩
              case measure => simp [intOf]; omega
            have p3' : (E == 0) = false := by simpa using p3
            have p3n : (E != 0) = true := by simpa using p3
            have HQ2 := Lib.hid (HQN.out p1 p2 p3)
            clear p1 p2 p3
            go_wp2_with fail
            refine XU.out.mono ?_
            rintro e wx ⟨rfl, hq⟩
            obtain ⟨m0, m1, m2, m3⟩ := Ne.netBox_cells (Ne.netBox_below HNU.out hq (Ne.netBox_lt HNU.out))
            have HW2 := Lib.hid (HWU.out.trans (hq.mono HWU.out.size))
            clear hq n0 n1 n2 n3
            go_wp2
            go_roundw
            case rel => exact ⟨u + 1, s + E, _, rfl, rfl, rfl, by omega, by omega, HS2, HQ2, HW2⟩
            case measure => simp [intOf]; omega
          · have hs0 : s = 0 := by
              rw [HS.out]
              refine Ne.nodS_all (n := ⟨mn, ms, mt, ml⟩) RT.out F ?_
              simp only; omega
            subst hs0
            have hum : u = mn + 1 := by omega
            have HCL := Lib.hid (show rb = true ↔ Ne.calm ⟨mn, ms, mt, ml⟩ F by
              have h1 := Ne.calm_int (n := ⟨mn, ms, mt, ml⟩) RT.out (f := F)
              have h2 := HQ.out
              rw [hum] at h2
              rw [h2, h1])
            have hun : ¬ u ≤ mn := by omega
            obtain ⟨q1, q2⟩ := Ne.chkF_is CK.out HFL.out HWI.out
            have CF := Lib.hid fun w' h1 h2 => Ne.chk_ok (n := ⟨mn, ms, mt, ml⟩) (f := F) om cm (some ⟨hb, 0, none⟩) ml.length w' CK.out h1 h2 HFL.out
            have HC2 := Lib.hid (show (rb = true → Ne.chkF ⟨mn, ms, mt, ml⟩ F = 0) ∧ (rb = false → Ne.chkF ⟨mn, ms, mt, ml⟩ F = 9) from ⟨fun h => q1 (HCL.out.1 h), fun h => q2 (fun hc => by have := HCL.out.2 hc; rw [h] at this; cases this)⟩)
            have HBX := Lib.hid (HBT.out.trans (HWU.out.mono HBT.out.size))
            have HRX := Lib.hid (HRW.out.kept HWU.out)
            have HLX := Lib.hid (HW.out.kept HWU.out)
            clear q1 q2 hum hlt HS HQ HCL XF
            cases rb
            case true =>
              have CT := Lib.hid fun w' h1 h2 => CF.out w' h1 h2
              rw [HC2.out.1 rfl] at CT
              clear CF HC2
              go_wp2_with fail
              refine (CT.out wr HRX.out HLX.out.irow).mono ?_
              rintro e wa ⟨rfl, hq⟩
              have HBA := Lib.hid (HBX.out.trans (hq.mono HBX.out.size))
              have HNA := Lib.hid (Ne.netBox_below HNU.out hq (Ne.netBox_lt HNU.out))
              have HRA := Lib.hid (HRX.out.kept hq)
              have HLA := Lib.hid (HLX.out.kept hq)
              clear hq n0 n1 n2 n3
              by_cases hl0 : ml.length = 0
              · have hi0 : ((ml.length : Int) == 0) = true := by simpa using hl0
                clear hl0
                go_wp2
                go_ret
                exact ⟨rfl, HBA.out⟩
              have hi0 : ((ml.length : Int) == 0) = false := by simpa using hl0
              obtain ⟨pk, hpk⟩ : ∃ x, x = Ne.pickN a4 (ml.length : Int) := ⟨_, rfl⟩
              have bpk := Ne.pickN_bd (c := a4) (n := (ml.length : Int)) (by omega)
              rw [← hpk] at bpk
              obtain ⟨kk, hkk⟩ : ∃ k : Nat, pk = (k : Int) := ⟨pk.toNat, by omega⟩
              subst hkk
              have PK := Lib.hid fun w' => Ne.pick_any a4 (ml.length : Int) w' b4.1 b4.2 (by omega) (by omega)
              rw [← hpk] at PK
              have hk : kk < ml.length := by omega
              have hkI : (kk : Int) < (ml.length : Int) := by omega
              have hk0 : (0 : Int) ≤ (kk : Int) := by omega
              have hkf : kk < F.length := by have := HFL.out; omega
              obtain ⟨b, off, rfl, hbl, c0, c1, c2⟩ := Ne.arow_cell HRA.out hk
              have hbb : hb ≠ b := by have := (HV2.out b rfl).2; omega
              have f0 := HLA.out.cell hkf
              have z0 := HLA.out.frozen kk
              have hcb := (FI.out _ (List.mem_of_getElem? (Ne.at_arc hk))).2.2
              have hE2 := Ne.set_bad CK.out HFL.out hk (y := (Ne.arcAt ml kk).cap + 1) (.inr (by simp only; omega))
              have hE3 := Ne.set_bad (f := F) CK.out HFL.out hk (y := -1) (.inl (by omega))
              try simp only at hE2 hE3
              obtain ⟨y, hy⟩ : ∃ y, Ne.amt F kk = y := ⟨_, rfl⟩
              have HFY := Lib.hid (show F.set kk y = F from Ne.ext_amt (by simp) fun i hi => by
                rw [Ne.amt_set _ hkf, ← hy]
                by_cases e : i = kk
                · subst e; rw [if_pos rfl]
                · rw [if_neg e])
              rw [hy] at f0
              clear hy hpk
              generalize (Ne.arcAt ml kk).cap = ca at *
              have HSET := Lib.hid (fun w' (q : Int) (h : Ne.LBox w' hb F) => h.set hkf q)
              have HSE2 := Lib.hid (fun w' (G : List Int) (q : Int) (hg : G.length = F.length) (h : Ne.LBox w' hb G) => h.set (i := kk) (by omega) q)
              have CB := Lib.hid fun (G : List Int) (hg : G.length = ml.length) w' h1 h2 => Ne.chk_ok (n := ⟨mn, ms, mt, ml⟩) (f := G) (some ⟨b, off, none⟩) cm (some ⟨hb, 0, none⟩) ml.length w' CK.out h1 h2 hg
              have hwc : IntKind.i64.wrap (ca + 1) = ca + 1 := by rw [IntKind.wrap_i64]; omega
              have hwm1 : IntKind.i64.wrap (mn + 1) = mn + 1 := by rw [IntKind.wrap_i64]; omega
              have C2 := Lib.hid (CB.out (F.set kk (ca + 1)) (by rw [List.length_set]; exact HFL.out))
              have C3 := Lib.hid (CB.out (F.set kk (-1)) (by rw [List.length_set]; exact HFL.out))
              rw [hE2] at C2
              rw [hE3] at C3
              clear hE2 hE3 CB
              obtain ⟨e1, e2⟩ := Ne.exE_out (f := F) CK.out HFL.out HWI.out (v := 0) (.inl (by omega))
              obtain ⟨e3, e4⟩ := Ne.exE_out (f := F) CK.out HFL.out HWI.out (v := mn + 1) (.inr (by simp only; omega))
              have X0 := Lib.hid fun w' h1 h2 => Ne.exs_ok (n := ⟨mn, ms, mt, ml⟩) (f := F) (some ⟨b, off, none⟩) cm (some ⟨hb, 0, none⟩) ml.length w' CK.out h1 h2 HFL.out 0
              have X1 := Lib.hid fun w' h1 h2 => Ne.exs_ok (n := ⟨mn, ms, mt, ml⟩) (f := F) (some ⟨b, off, none⟩) cm (some ⟨hb, 0, none⟩) ml.length w' CK.out h1 h2 HFL.out (mn + 1)
              rw [e1, e2] at X0
              rw [e3, e4] at X1
              clear e1 e2 e3 e4
              -- the first store
              have HLB := Lib.hid (HSET.out wa (ca + 1) HLA.out)
              have HNB := Lib.hid (Ne.netBox_other HNA.out (b2 := hb) (o := kk) (v2 := .int .i64 (ca + 1)) (by omega))
              have HBB := Lib.hid (HBA.out.setCell (p := ⟨hb, kk, none⟩) (by show w.heap.size ≤ hb; omega) (.int .i64 (ca + 1)))
              have HRB := Lib.hid (arow_set (p := ⟨hb, kk, none⟩) (v := .int .i64 (ca + 1)) HRA.out hbb)
              obtain ⟨n0, n1, n2, n3⟩ := Ne.netBox_cells HNA.out
              obtain ⟨q0, q1, q2, q3⟩ := Ne.netBox_cells HNB.out
              go_wp2_with fail
              refine (PK.out _).mono ?_
              rintro e w' ⟨rfl, rfl⟩
              go_wp2_with fail
              generalize (wa.setCell ⟨hb, kk, none⟩ (.int .i64 (ca + 1))) = wb at *
              clear n0 n1 n2 n3 q0 q1 q2 q3 f0 z0 c0 c1 c2
              refine (C2.out wb HRB.out HLB.out.irow).mono ?_
              rintro e wc ⟨rfl, hq⟩
              have HBC := Lib.hid (HBB.out.trans (hq.mono HBB.out.size))
              have HNC := Lib.hid (Ne.netBox_below HNB.out hq (Ne.netBox_lt HNB.out))
              have HRC := Lib.hid (HRB.out.kept hq)
              have HLC := Lib.hid (HLB.out.kept hq)
              clear hq
              have g0 := HLC.out.cell (i := kk) (by rw [List.length_set]; exact hkf)
              have y0 := HLC.out.frozen kk
              have HLD := Lib.hid (HSE2.out wc _ (-1) (by rw [List.length_set]) HLC.out)
              rw [List.set_set] at HLD
              have HND := Lib.hid (Ne.netBox_other HNC.out (b2 := hb) (o := kk) (v2 := .int .i64 (-1)) (by omega))
              have HBD := Lib.hid (HBC.out.setCell (p := ⟨hb, kk, none⟩) (by show w.heap.size ≤ hb; omega) (.int .i64 (-1)))
              have HRD := Lib.hid (arow_set (p := ⟨hb, kk, none⟩) (v := .int .i64 (-1)) HRC.out hbb)
              obtain ⟨q0, q1, q2, q3⟩ := Ne.netBox_cells HND.out
              go_wp2_with fail
              generalize (wc.setCell ⟨hb, kk, none⟩ (.int .i64 (-1))) = wd at *
              clear q0 q1 q2 q3 g0 y0
              refine (C3.out wd HRD.out HLD.out.irow).mono ?_
              rintro e we ⟨rfl, hq⟩
              have HBE := Lib.hid (HBD.out.trans (hq.mono HBD.out.size))
              have HNE := Lib.hid (Ne.netBox_below HND.out hq (Ne.netBox_lt HND.out))
              have HRE := Lib.hid (HRD.out.kept hq)
              have HLE := Lib.hid (HLD.out.kept hq)
              clear hq
              have g0 := HLE.out.cell (i := kk) (by rw [List.length_set]; exact hkf)
              have y0 := HLE.out.frozen kk
              have HLG := Lib.hid (HSE2.out we _ y (by rw [List.length_set]) HLE.out)
              rw [List.set_set, HFY.out] at HLG
              have HNG := Lib.hid (Ne.netBox_other HNE.out (b2 := hb) (o := kk) (v2 := .int .i64 y) (by omega))
              have HBG := Lib.hid (HBE.out.setCell (p := ⟨hb, kk, none⟩) (by show w.heap.size ≤ hb; omega) (.int .i64 y))
              have HRG := Lib.hid (arow_set (p := ⟨hb, kk, none⟩) (v := .int .i64 y) HRE.out hbb)
              obtain ⟨q0, q1, q2, q3⟩ := Ne.netBox_cells HNG.out
              go_wp2_with fail
              generalize (we.setCell ⟨hb, kk, none⟩ (.int .i64 y)) = wg at *
              clear q0 q1 q2 q3 g0 y0
              refine (X0.out wg HRG.out HLG.out.irow).mono ?_
              rintro e wh ⟨rfl, hq⟩
              have HBH := Lib.hid (HBG.out.trans (hq.mono HBG.out.size))
              have HNH := Lib.hid (Ne.netBox_below HNG.out hq (Ne.netBox_lt HNG.out))
              have HRH := Lib.hid (HRG.out.kept hq)
              have HLH := Lib.hid (HLG.out.kept hq)
              clear hq
              obtain ⟨q0, q1, q2, q3⟩ := Ne.netBox_cells HNH.out
              go_wp2_with fail
              refine (X1.out wh HRH.out HLH.out.irow).mono ?_
              rintro e wi ⟨rfl, hq⟩
              have HBI := Lib.hid (HBH.out.trans (hq.mono HBH.out.size))
              have HNI := Lib.hid (Ne.netBox_below HNH.out hq (Ne.netBox_lt HNH.out))
              have HRI := Lib.hid (HRH.out.kept hq)
              have HLI := Lib.hid (HLH.out.kept hq)
              clear hq q0 q1 q2 q3
              obtain ⟨n0, n1, n2, n3⟩ := Ne.netBox_cells HNI.out
              have hli : hb < wi.drew.heap.size := HLI.out.lt
              have hln : bn < wi.drew.heap.size := Ne.netBox_lt HNI.out
              have HID := Lib.hid (show Ne.IRow wi.drew (if ml.length = 1 then some ⟨hb, 0, none⟩ else some ⟨hb, 1, none⟩) (F.drop 1) from by
                by_cases e : ml.length = 1
                · exact .inl (List.drop_eq_nil_of_le (by rw [HFL.out]; omega))
                · rw [if_neg e]; exact Ne.irow_drop (show Ne.LBox wi.drew hb F from HLI.out))
              have CD := Lib.hid (show ∀ w', Ne.ARow w' (some ⟨b, off, none⟩) ml → Ne.IRow w' (if ml.length = 1 then some ⟨hb, 0, none⟩ else some ⟨hb, 1, none⟩) (F.drop 1) → Calls Try.prog 17 #[Ne.encN ⟨mn, ms, mt, ml⟩ (some ⟨b, off, none⟩) cm, .slice (if ml.length = 1 then some ⟨hb, 0, none⟩ else some ⟨hb, 1, none⟩) (ml.length - 1) (ml.length - 1)] w' fun e w2 => e = .returned (.int .i64 6) ∧ Below w'.heap.size w' w2 from fun w' g1 g2 => by
                have h := Ne.fchk_any ⟨mn, ms, mt, ml⟩ (some ⟨b, off, none⟩) cm _ (ml.length - 1) (F.drop 1) w' g1 g2 hl6 CAP.out
                rw [Ne.chkF_cnt CK.out (by rw [List.length_drop, HFL.out]; simp only; omega), List.length_drop, HFL.out] at h
                exact h)
              have hml1 : 1 ≤ ml.length := by omega
              have hmlI : (1 : Int) ≤ (ml.length : Int) := by omega
              go_wp2
              have hS0 := (show (fun w' => w'.cell? ⟨bn, 0, none⟩ = some (.int .i64 mn) ∧ w'.cell? ⟨bn, 1, none⟩ = some (.int .i64 ms) ∧ w'.cell? ⟨bn, 2, none⟩ = some (.int .i64 mt) ∧ w'.cell? ⟨bn, 3, none⟩ = some (.slice (some ⟨b, off, none⟩) ml.length cm)) wi.drew from ⟨n0, n1, n2, n3⟩)
              refine Rh.start (S := (fun w' => w'.cell? ⟨bn, 0, none⟩ = some (.int .i64 mn) ∧ w'.cell? ⟨bn, 1, none⟩ = some (.int .i64 ms) ∧ w'.cell? ⟨bn, 2, none⟩ = some (.int .i64 mt) ∧ w'.cell? ⟨bn, 3, none⟩ = some (.slice (some ⟨b, off, none⟩) ml.length cm))) (by kernel_rfl) ?_
              refine Rh.take (some 167) (i := 0) (v := ?_) rfl (by kernel_rfl) (by kernel_rfl) (by kernel_rfl) (by kernel_rfl) (fun _ _ _ h => h) (Or.inl ⟨by rfl, ?_⟩) hS0 ?_
              rotate_left
              · intro w hSw
                go_simp
                try with_reducible rfl
              try simp only [Act.put, List.setIfInBounds_toArray, List.set_cons_zero, List.set_cons_succ]
              refine Rh.take (some 168) (i := 1) (v := ?_) rfl (by kernel_rfl) (by kernel_rfl) (by kernel_rfl) (by kernel_rfl) (fun _ _ _ h => h) (Or.inl ⟨by rfl, ?_⟩) hS0 ?_
              rotate_left
              · intro w hSw
                go_simp
                try with_reducible rfl
              try simp only [Act.put, List.setIfInBounds_toArray, List.set_cons_zero, List.set_cons_succ]
              refine Rh.take (some 169) (i := 2) (v := ?_) rfl (by kernel_rfl) (by kernel_rfl) (by kernel_rfl) (by kernel_rfl) (fun _ _ _ h => h) (Or.inl ⟨by rfl, ?_⟩) hS0 ?_
              rotate_left
              · intro w hSw
                go_simp
                try with_reducible rfl
              try simp only [Act.put, List.setIfInBounds_toArray, List.set_cons_zero, List.set_cons_succ]
              refine Rh.take (some 170) (i := 3) (v := ?_) rfl (by kernel_rfl) (by kernel_rfl) (by kernel_rfl) (by kernel_rfl) (fun _ _ _ h => h) (Or.inl ⟨by rfl, ?_⟩) hS0 ?_
              rotate_left
              · intro w hSw
                go_simp
                try with_reducible rfl
              try simp only [Act.put, List.setIfInBounds_toArray, List.set_cons_zero, List.set_cons_succ]
              refine Rh.take (some 171) (i := 4) (v := ?_) rfl (by kernel_rfl) (by kernel_rfl) (by kernel_rfl) (by kernel_rfl) (fun _ _ _ h => h) (Or.inl ⟨by rfl, ?_⟩) hS0 ?_
              rotate_left
              · intro w hSw
                go_simp
                try with_reducible rfl
              try simp only [Act.put, List.setIfInBounds_toArray, List.set_cons_zero, List.set_cons_succ]
              refine Rh.take (some 172) (i := 5) (v := ?_) rfl (by kernel_rfl) (by kernel_rfl) (by kernel_rfl) (by kernel_rfl) (fun _ _ _ h => h) (Or.inl ⟨by rfl, ?_⟩) hS0 ?_
              rotate_left
              · intro w hSw
                go_simp
                try with_reducible rfl
              try simp only [Act.put, List.setIfInBounds_toArray, List.set_cons_zero, List.set_cons_succ]
              refine Rh.take (some 173) (i := 6) (v := ?_) rfl (by kernel_rfl) (by kernel_rfl) (by kernel_rfl) (by kernel_rfl) (fun _ _ _ h => h) (Or.inl ⟨by rfl, ?_⟩) hS0 ?_
              rotate_left
              · intro w hSw
                go_simp
                try with_reducible rfl
              try simp only [Act.put, List.setIfInBounds_toArray, List.set_cons_zero, List.set_cons_succ]
              refine Rh.take (some 174) (i := 7) (v := ?_) rfl (by kernel_rfl) (by kernel_rfl) (by kernel_rfl) (by kernel_rfl) (fun _ _ _ h => h) (Or.inl ⟨by rfl, ?_⟩) hS0 ?_
              rotate_left
              · intro w hSw
                go_simp
                try with_reducible rfl
              try simp only [Act.put, List.setIfInBounds_toArray, List.set_cons_zero, List.set_cons_succ]
              refine Rh.take (some 175) (i := 8) (v := ?_) rfl (by kernel_rfl) (by kernel_rfl) (by kernel_rfl) (by kernel_rfl) (fun _ _ _ h => h) (Or.inl ⟨by rfl, ?_⟩) hS0 ?_
              rotate_left
              · intro w hSw
                go_simp
                try with_reducible rfl
              try simp only [Act.put, List.setIfInBounds_toArray, List.set_cons_zero, List.set_cons_succ]
              refine Rh.take (some 176) (i := 9) (v := ?_) rfl (by kernel_rfl) (by kernel_rfl) (by kernel_rfl) (by kernel_rfl) (fun _ _ _ h => h) (Or.inl ⟨by rfl, ?_⟩) hS0 ?_
              rotate_left
              · intro w hSw
                go_simp
                try with_reducible rfl
              try simp only [Act.put, List.setIfInBounds_toArray, List.set_cons_zero, List.set_cons_succ]
              refine Rh.take (some 177) (i := 10) (v := ?_) rfl (by kernel_rfl) (by kernel_rfl) (by kernel_rfl) (by kernel_rfl) (fun _ _ _ h => h) (Or.inl ⟨by rfl, ?_⟩) hS0 ?_
              rotate_left
              · intro w hSw
                go_simp
                try with_reducible rfl
              try simp only [Act.put, List.setIfInBounds_toArray, List.set_cons_zero, List.set_cons_succ]
              refine Rh.take (some 178) (i := 11) (v := ?_) rfl (by kernel_rfl) (by kernel_rfl) (by kernel_rfl) (by kernel_rfl) (fun _ _ _ h => h) (Or.inl ⟨by rfl, ?_⟩) hS0 ?_
              rotate_left
              · intro w hSw
                go_simp
                try with_reducible rfl
              try simp only [Act.put, List.setIfInBounds_toArray, List.set_cons_zero, List.set_cons_succ]
              refine Rh.take (some 179) (i := 12) (v := ?_) rfl (by kernel_rfl) (by kernel_rfl) (by kernel_rfl) (by kernel_rfl) (fun _ _ _ h => h) (Or.inl ⟨by rfl, ?_⟩) hS0 ?_
              rotate_left
              · intro w hSw
                go_simp
                try with_reducible rfl
              try simp only [Act.put, List.setIfInBounds_toArray, List.set_cons_zero, List.set_cons_succ]
              refine Rh.take (some 180) (i := 13) (v := ?_) rfl (by kernel_rfl) (by kernel_rfl) (by kernel_rfl) (by kernel_rfl) (fun _ _ _ h => h) (Or.inl ⟨by rfl, ?_⟩) hS0 ?_
              rotate_left
              · intro w hSw
                go_simp
                try with_reducible rfl
              try simp only [Act.put, List.setIfInBounds_toArray, List.set_cons_zero, List.set_cons_succ]
              refine Rh.take (some 181) (i := 14) (v := ?_) rfl (by kernel_rfl) (by kernel_rfl) (by kernel_rfl) (by kernel_rfl) (fun _ _ _ h => h) (Or.inl ⟨by rfl, ?_⟩) hS0 ?_
              rotate_left
              · intro w hSw
                go_simp
                try with_reducible rfl
              try simp only [Act.put, List.setIfInBounds_toArray, List.set_cons_zero, List.set_cons_succ]
              refine Rh.take (some 182) (i := 15) (v := ?_) rfl (by kernel_rfl) (by kernel_rfl) (by kernel_rfl) (by kernel_rfl) (fun _ _ _ h => h) (Or.inl ⟨by rfl, ?_⟩) hS0 ?_
              rotate_left
              · intro w hSw
                go_simp
                try with_reducible rfl
              try simp only [Act.put, List.setIfInBounds_toArray, List.set_cons_zero, List.set_cons_succ]
              refine Rh.take (some 183) (i := 16) (v := ?_) rfl (by kernel_rfl) (by kernel_rfl) (by kernel_rfl) (by kernel_rfl) (fun _ _ _ h => h) (Or.inl ⟨by rfl, ?_⟩) hS0 ?_
              rotate_left
              · intro w hSw
                go_simp
                try with_reducible rfl
              try simp only [Act.put, List.setIfInBounds_toArray, List.set_cons_zero, List.set_cons_succ]
              refine Rh.step (i := 17) (by kernel_rfl) rfl fun K' hK' => ?_
              have HK := Lib.hid hK'
              clear hK'
              go_simp
              refine HK.out _ _ ⟨hS0, ?_⟩
              clear HK K'
              try simp only [Act.put, List.setIfInBounds_toArray, List.set_cons_zero, List.set_cons_succ]
              refine Rh.step (i := 18) (by kernel_rfl) rfl fun K' hK' => ?_
              have HK := Lib.hid hK'
              clear hK'
              go_simp
              refine (CD.out wi.drew (show Ne.ARow wi.drew (some ⟨b, off, none⟩) ml from HRI.out) HID.out).mono ?_
              rintro e wj ⟨rfl, hq⟩
              have HBJ := Lib.hid ((Ne.below_drew HBI.out).trans (hq.mono HBI.out.size))
              have hS1 := (show (fun w' => w'.cell? ⟨bn, 0, none⟩ = some (.int .i64 mn) ∧ w'.cell? ⟨bn, 1, none⟩ = some (.int .i64 ms) ∧ w'.cell? ⟨bn, 2, none⟩ = some (.int .i64 mt) ∧ w'.cell? ⟨bn, 3, none⟩ = some (.slice (some ⟨b, off, none⟩) ml.length cm)) wj from ⟨(hq.cell (p := ⟨bn, 0, none⟩) hln).trans n0, (hq.cell (p := ⟨bn, 1, none⟩) hln).trans n1, (hq.cell (p := ⟨bn, 2, none⟩) hln).trans n2, (hq.cell (p := ⟨bn, 3, none⟩) hln).trans n3⟩)
              clear hq
              refine HK.out _ _ ⟨hS1, ?_⟩
              clear HK K'
              try simp only [Act.put, List.setIfInBounds_toArray, List.set_cons_zero, List.set_cons_succ]
              refine Rh.take (some 186) (i := 19) (v := ?_) rfl (by kernel_rfl) (by kernel_rfl) (by kernel_rfl) (by kernel_rfl) (fun _ _ _ h => h) (Or.inl ⟨by rfl, ?_⟩) hS1 ?_
              rotate_left
              · intro w hSw
                go_simp
                try with_reducible rfl
              try simp only [Act.put, List.setIfInBounds_toArray, List.set_cons_zero, List.set_cons_succ]
              refine Rh.take (some 187) (i := 20) (v := ?_) rfl (by kernel_rfl) (by kernel_rfl) (by kernel_rfl) (by kernel_rfl) (fun _ _ _ h => h) (Or.inl ⟨by rfl, ?_⟩) hS1 ?_
              rotate_left
              · intro w hSw
                go_simp
                try with_reducible rfl
              try simp only [Act.put, List.setIfInBounds_toArray, List.set_cons_zero, List.set_cons_succ]
              refine Rh.take (some 10) (i := 21) (v := ?_) rfl (by kernel_rfl) (by kernel_rfl) (by kernel_rfl) (by kernel_rfl) (fun _ _ _ h => h) (Or.inl ⟨by rfl, ?_⟩) hS1 ?_
              rotate_left
              · intro w hSw
                go_simp
                try with_reducible rfl
              try simp only [Act.put, List.setIfInBounds_toArray, List.set_cons_zero, List.set_cons_succ]
              refine Rh.done (by kernel_rfl) ?_ _
              go_wp2
              all_goals (go_ret; exact ⟨rfl, HBJ.out⟩)
            have CT := Lib.hid fun w' h1 h2 => CF.out w' h1 h2
            rw [HC2.out.2 rfl] at CT
            clear CF HC2
            go_wp2_with fail
            refine (CT.out wr HRX.out HLX.out.irow).mono ?_
            rintro e wa ⟨rfl, hq⟩
            have HBA := Lib.hid (HBX.out.trans (hq.mono HBX.out.size))
            have HNA := Lib.hid (Ne.netBox_below HNU.out hq (Ne.netBox_lt HNU.out))
            have HRA := Lib.hid (HRX.out.kept hq)
            have HLA := Lib.hid (HLX.out.kept hq)
            clear hq n0 n1 n2 n3
            by_cases hl0 : ml.length = 0
            · have hi0 : ((ml.length : Int) == 0) = true := by simpa using hl0
              clear hl0
              go_wp2
              go_ret
              exact ⟨rfl, HBA.out⟩
            have hi0 : ((ml.length : Int) == 0) = false := by simpa using hl0
            obtain ⟨pk, hpk⟩ : ∃ x, x = Ne.pickN a4 (ml.length : Int) := ⟨_, rfl⟩
            have bpk := Ne.pickN_bd (c := a4) (n := (ml.length : Int)) (by omega)
            rw [← hpk] at bpk
            obtain ⟨kk, hkk⟩ : ∃ k : Nat, pk = (k : Int) := ⟨pk.toNat, by omega⟩
            subst hkk
            have PK := Lib.hid fun w' => Ne.pick_any a4 (ml.length : Int) w' b4.1 b4.2 (by omega) (by omega)
            rw [← hpk] at PK
            have hk : kk < ml.length := by omega
            have hkI : (kk : Int) < (ml.length : Int) := by omega
            have hk0 : (0 : Int) ≤ (kk : Int) := by omega
            have hkf : kk < F.length := by have := HFL.out; omega
            obtain ⟨b, off, rfl, hbl, c0, c1, c2⟩ := Ne.arow_cell HRA.out hk
            have hbb : hb ≠ b := by have := (HV2.out b rfl).2; omega
            have f0 := HLA.out.cell hkf
            have z0 := HLA.out.frozen kk
            have hcb := (FI.out _ (List.mem_of_getElem? (Ne.at_arc hk))).2.2
            have hE2 := Ne.set_bad CK.out HFL.out hk (y := (Ne.arcAt ml kk).cap + 1) (.inr (by simp only; omega))
            have hE3 := Ne.set_bad (f := F) CK.out HFL.out hk (y := -1) (.inl (by omega))
            try simp only at hE2 hE3
            obtain ⟨y, hy⟩ : ∃ y, Ne.amt F kk = y := ⟨_, rfl⟩
            have HFY := Lib.hid (show F.set kk y = F from Ne.ext_amt (by simp) fun i hi => by
              rw [Ne.amt_set _ hkf, ← hy]
              by_cases e : i = kk
              · subst e; rw [if_pos rfl]
              · rw [if_neg e])
            rw [hy] at f0
            clear hy hpk
            generalize (Ne.arcAt ml kk).cap = ca at *
            have HSET := Lib.hid (fun w' (q : Int) (h : Ne.LBox w' hb F) => h.set hkf q)
            have HSE2 := Lib.hid (fun w' (G : List Int) (q : Int) (hg : G.length = F.length) (h : Ne.LBox w' hb G) => h.set (i := kk) (by omega) q)
            have CB := Lib.hid fun (G : List Int) (hg : G.length = ml.length) w' h1 h2 => Ne.chk_ok (n := ⟨mn, ms, mt, ml⟩) (f := G) (some ⟨b, off, none⟩) cm (some ⟨hb, 0, none⟩) ml.length w' CK.out h1 h2 hg
            have hwc : IntKind.i64.wrap (ca + 1) = ca + 1 := by rw [IntKind.wrap_i64]; omega
            have hwm1 : IntKind.i64.wrap (mn + 1) = mn + 1 := by rw [IntKind.wrap_i64]; omega
            have C2 := Lib.hid (CB.out (F.set kk (ca + 1)) (by rw [List.length_set]; exact HFL.out))
            have C3 := Lib.hid (CB.out (F.set kk (-1)) (by rw [List.length_set]; exact HFL.out))
            rw [hE2] at C2
            rw [hE3] at C3
            clear hE2 hE3 CB
            obtain ⟨e1, e2⟩ := Ne.exE_out (f := F) CK.out HFL.out HWI.out (v := 0) (.inl (by omega))
            obtain ⟨e3, e4⟩ := Ne.exE_out (f := F) CK.out HFL.out HWI.out (v := mn + 1) (.inr (by simp only; omega))
            have X0 := Lib.hid fun w' h1 h2 => Ne.exs_ok (n := ⟨mn, ms, mt, ml⟩) (f := F) (some ⟨b, off, none⟩) cm (some ⟨hb, 0, none⟩) ml.length w' CK.out h1 h2 HFL.out 0
            have X1 := Lib.hid fun w' h1 h2 => Ne.exs_ok (n := ⟨mn, ms, mt, ml⟩) (f := F) (some ⟨b, off, none⟩) cm (some ⟨hb, 0, none⟩) ml.length w' CK.out h1 h2 HFL.out (mn + 1)
            rw [e1, e2] at X0
            rw [e3, e4] at X1
            clear e1 e2 e3 e4
            -- the first store
            have HLB := Lib.hid (HSET.out wa (ca + 1) HLA.out)
            have HNB := Lib.hid (Ne.netBox_other HNA.out (b2 := hb) (o := kk) (v2 := .int .i64 (ca + 1)) (by omega))
            have HBB := Lib.hid (HBA.out.setCell (p := ⟨hb, kk, none⟩) (by show w.heap.size ≤ hb; omega) (.int .i64 (ca + 1)))
            have HRB := Lib.hid (arow_set (p := ⟨hb, kk, none⟩) (v := .int .i64 (ca + 1)) HRA.out hbb)
            obtain ⟨n0, n1, n2, n3⟩ := Ne.netBox_cells HNA.out
            obtain ⟨q0, q1, q2, q3⟩ := Ne.netBox_cells HNB.out
            go_wp2_with fail
            refine (PK.out _).mono ?_
            rintro e w' ⟨rfl, rfl⟩
            go_wp2_with fail
            generalize (wa.setCell ⟨hb, kk, none⟩ (.int .i64 (ca + 1))) = wb at *
            clear n0 n1 n2 n3 q0 q1 q2 q3 f0 z0 c0 c1 c2
            refine (C2.out wb HRB.out HLB.out.irow).mono ?_
            rintro e wc ⟨rfl, hq⟩
            have HBC := Lib.hid (HBB.out.trans (hq.mono HBB.out.size))
            have HNC := Lib.hid (Ne.netBox_below HNB.out hq (Ne.netBox_lt HNB.out))
            have HRC := Lib.hid (HRB.out.kept hq)
            have HLC := Lib.hid (HLB.out.kept hq)
            clear hq
            have g0 := HLC.out.cell (i := kk) (by rw [List.length_set]; exact hkf)
            have y0 := HLC.out.frozen kk
            have HLD := Lib.hid (HSE2.out wc _ (-1) (by rw [List.length_set]) HLC.out)
            rw [List.set_set] at HLD
            have HND := Lib.hid (Ne.netBox_other HNC.out (b2 := hb) (o := kk) (v2 := .int .i64 (-1)) (by omega))
            have HBD := Lib.hid (HBC.out.setCell (p := ⟨hb, kk, none⟩) (by show w.heap.size ≤ hb; omega) (.int .i64 (-1)))
            have HRD := Lib.hid (arow_set (p := ⟨hb, kk, none⟩) (v := .int .i64 (-1)) HRC.out hbb)
            obtain ⟨q0, q1, q2, q3⟩ := Ne.netBox_cells HND.out
            go_wp2_with fail
            generalize (wc.setCell ⟨hb, kk, none⟩ (.int .i64 (-1))) = wd at *
            clear q0 q1 q2 q3 g0 y0
            refine (C3.out wd HRD.out HLD.out.irow).mono ?_
            rintro e we ⟨rfl, hq⟩
            have HBE := Lib.hid (HBD.out.trans (hq.mono HBD.out.size))
            have HNE := Lib.hid (Ne.netBox_below HND.out hq (Ne.netBox_lt HND.out))
            have HRE := Lib.hid (HRD.out.kept hq)
            have HLE := Lib.hid (HLD.out.kept hq)
            clear hq
            have g0 := HLE.out.cell (i := kk) (by rw [List.length_set]; exact hkf)
            have y0 := HLE.out.frozen kk
            have HLG := Lib.hid (HSE2.out we _ y (by rw [List.length_set]) HLE.out)
            rw [List.set_set, HFY.out] at HLG
            have HNG := Lib.hid (Ne.netBox_other HNE.out (b2 := hb) (o := kk) (v2 := .int .i64 y) (by omega))
            have HBG := Lib.hid (HBE.out.setCell (p := ⟨hb, kk, none⟩) (by show w.heap.size ≤ hb; omega) (.int .i64 y))
            have HRG := Lib.hid (arow_set (p := ⟨hb, kk, none⟩) (v := .int .i64 y) HRE.out hbb)
            obtain ⟨q0, q1, q2, q3⟩ := Ne.netBox_cells HNG.out
            go_wp2_with fail
            generalize (we.setCell ⟨hb, kk, none⟩ (.int .i64 y)) = wg at *
            clear q0 q1 q2 q3 g0 y0
            refine (X0.out wg HRG.out HLG.out.irow).mono ?_
            rintro e wh ⟨rfl, hq⟩
            have HBH := Lib.hid (HBG.out.trans (hq.mono HBG.out.size))
            have HNH := Lib.hid (Ne.netBox_below HNG.out hq (Ne.netBox_lt HNG.out))
            have HRH := Lib.hid (HRG.out.kept hq)
            have HLH := Lib.hid (HLG.out.kept hq)
            clear hq
            obtain ⟨q0, q1, q2, q3⟩ := Ne.netBox_cells HNH.out
            go_wp2_with fail
            refine (X1.out wh HRH.out HLH.out.irow).mono ?_
            rintro e wi ⟨rfl, hq⟩
            have HBI := Lib.hid (HBH.out.trans (hq.mono HBH.out.size))
            have HNI := Lib.hid (Ne.netBox_below HNH.out hq (Ne.netBox_lt HNH.out))
            have HRI := Lib.hid (HRH.out.kept hq)
            have HLI := Lib.hid (HLH.out.kept hq)
            clear hq q0 q1 q2 q3
            obtain ⟨n0, n1, n2, n3⟩ := Ne.netBox_cells HNI.out
            have hli : hb < wi.drew.heap.size := HLI.out.lt
            have hln : bn < wi.drew.heap.size := Ne.netBox_lt HNI.out
            have HID := Lib.hid (show Ne.IRow wi.drew (if ml.length = 1 then some ⟨hb, 0, none⟩ else some ⟨hb, 1, none⟩) (F.drop 1) from by
              by_cases e : ml.length = 1
              · exact .inl (List.drop_eq_nil_of_le (by rw [HFL.out]; omega))
              · rw [if_neg e]; exact Ne.irow_drop (show Ne.LBox wi.drew hb F from HLI.out))
            have CD := Lib.hid (show ∀ w', Ne.ARow w' (some ⟨b, off, none⟩) ml → Ne.IRow w' (if ml.length = 1 then some ⟨hb, 0, none⟩ else some ⟨hb, 1, none⟩) (F.drop 1) → Calls Try.prog 17 #[Ne.encN ⟨mn, ms, mt, ml⟩ (some ⟨b, off, none⟩) cm, .slice (if ml.length = 1 then some ⟨hb, 0, none⟩ else some ⟨hb, 1, none⟩) (ml.length - 1) (ml.length - 1)] w' fun e w2 => e = .returned (.int .i64 6) ∧ Below w'.heap.size w' w2 from fun w' g1 g2 => by
              have h := Ne.fchk_any ⟨mn, ms, mt, ml⟩ (some ⟨b, off, none⟩) cm _ (ml.length - 1) (F.drop 1) w' g1 g2 hl6 CAP.out
              rw [Ne.chkF_cnt CK.out (by rw [List.length_drop, HFL.out]; simp only; omega), List.length_drop, HFL.out] at h
              exact h)
            have hml1 : 1 ≤ ml.length := by omega
            have hmlI : (1 : Int) ≤ (ml.length : Int) := by omega
            go_wp2
            have hS0 := (show (fun w' => w'.cell? ⟨bn, 0, none⟩ = some (.int .i64 mn) ∧ w'.cell? ⟨bn, 1, none⟩ = some (.int .i64 ms) ∧ w'.cell? ⟨bn, 2, none⟩ = some (.int .i64 mt) ∧ w'.cell? ⟨bn, 3, none⟩ = some (.slice (some ⟨b, off, none⟩) ml.length cm)) wi.drew from ⟨n0, n1, n2, n3⟩)
            refine Rh.start (S := (fun w' => w'.cell? ⟨bn, 0, none⟩ = some (.int .i64 mn) ∧ w'.cell? ⟨bn, 1, none⟩ = some (.int .i64 ms) ∧ w'.cell? ⟨bn, 2, none⟩ = some (.int .i64 mt) ∧ w'.cell? ⟨bn, 3, none⟩ = some (.slice (some ⟨b, off, none⟩) ml.length cm))) (by kernel_rfl) ?_
            refine Rh.take (some 167) (i := 0) (v := ?_) rfl (by kernel_rfl) (by kernel_rfl) (by kernel_rfl) (by kernel_rfl) (fun _ _ _ h => h) (Or.inl ⟨by rfl, ?_⟩) hS0 ?_
            rotate_left
            · intro w hSw
              go_simp
              try with_reducible rfl
            try simp only [Act.put, List.setIfInBounds_toArray, List.set_cons_zero, List.set_cons_succ]
            refine Rh.take (some 168) (i := 1) (v := ?_) rfl (by kernel_rfl) (by kernel_rfl) (by kernel_rfl) (by kernel_rfl) (fun _ _ _ h => h) (Or.inl ⟨by rfl, ?_⟩) hS0 ?_
            rotate_left
            · intro w hSw
              go_simp
              try with_reducible rfl
            try simp only [Act.put, List.setIfInBounds_toArray, List.set_cons_zero, List.set_cons_succ]
            refine Rh.take (some 169) (i := 2) (v := ?_) rfl (by kernel_rfl) (by kernel_rfl) (by kernel_rfl) (by kernel_rfl) (fun _ _ _ h => h) (Or.inl ⟨by rfl, ?_⟩) hS0 ?_
            rotate_left
            · intro w hSw
              go_simp
              try with_reducible rfl
            try simp only [Act.put, List.setIfInBounds_toArray, List.set_cons_zero, List.set_cons_succ]
            refine Rh.take (some 170) (i := 3) (v := ?_) rfl (by kernel_rfl) (by kernel_rfl) (by kernel_rfl) (by kernel_rfl) (fun _ _ _ h => h) (Or.inl ⟨by rfl, ?_⟩) hS0 ?_
            rotate_left
            · intro w hSw
              go_simp
              try with_reducible rfl
            try simp only [Act.put, List.setIfInBounds_toArray, List.set_cons_zero, List.set_cons_succ]
            refine Rh.take (some 171) (i := 4) (v := ?_) rfl (by kernel_rfl) (by kernel_rfl) (by kernel_rfl) (by kernel_rfl) (fun _ _ _ h => h) (Or.inl ⟨by rfl, ?_⟩) hS0 ?_
            rotate_left
            · intro w hSw
              go_simp
              try with_reducible rfl
            try simp only [Act.put, List.setIfInBounds_toArray, List.set_cons_zero, List.set_cons_succ]
            refine Rh.take (some 172) (i := 5) (v := ?_) rfl (by kernel_rfl) (by kernel_rfl) (by kernel_rfl) (by kernel_rfl) (fun _ _ _ h => h) (Or.inl ⟨by rfl, ?_⟩) hS0 ?_
            rotate_left
            · intro w hSw
              go_simp
              try with_reducible rfl
            try simp only [Act.put, List.setIfInBounds_toArray, List.set_cons_zero, List.set_cons_succ]
            refine Rh.take (some 173) (i := 6) (v := ?_) rfl (by kernel_rfl) (by kernel_rfl) (by kernel_rfl) (by kernel_rfl) (fun _ _ _ h => h) (Or.inl ⟨by rfl, ?_⟩) hS0 ?_
            rotate_left
            · intro w hSw
              go_simp
              try with_reducible rfl
            try simp only [Act.put, List.setIfInBounds_toArray, List.set_cons_zero, List.set_cons_succ]
            refine Rh.take (some 174) (i := 7) (v := ?_) rfl (by kernel_rfl) (by kernel_rfl) (by kernel_rfl) (by kernel_rfl) (fun _ _ _ h => h) (Or.inl ⟨by rfl, ?_⟩) hS0 ?_
            rotate_left
            · intro w hSw
              go_simp
              try with_reducible rfl
            try simp only [Act.put, List.setIfInBounds_toArray, List.set_cons_zero, List.set_cons_succ]
            refine Rh.take (some 175) (i := 8) (v := ?_) rfl (by kernel_rfl) (by kernel_rfl) (by kernel_rfl) (by kernel_rfl) (fun _ _ _ h => h) (Or.inl ⟨by rfl, ?_⟩) hS0 ?_
            rotate_left
            · intro w hSw
              go_simp
              try with_reducible rfl
            try simp only [Act.put, List.setIfInBounds_toArray, List.set_cons_zero, List.set_cons_succ]
            refine Rh.take (some 176) (i := 9) (v := ?_) rfl (by kernel_rfl) (by kernel_rfl) (by kernel_rfl) (by kernel_rfl) (fun _ _ _ h => h) (Or.inl ⟨by rfl, ?_⟩) hS0 ?_
            rotate_left
            · intro w hSw
              go_simp
              try with_reducible rfl
            try simp only [Act.put, List.setIfInBounds_toArray, List.set_cons_zero, List.set_cons_succ]
            refine Rh.take (some 177) (i := 10) (v := ?_) rfl (by kernel_rfl) (by kernel_rfl) (by kernel_rfl) (by kernel_rfl) (fun _ _ _ h => h) (Or.inl ⟨by rfl, ?_⟩) hS0 ?_
            rotate_left
            · intro w hSw
              go_simp
              try with_reducible rfl
            try simp only [Act.put, List.setIfInBounds_toArray, List.set_cons_zero, List.set_cons_succ]
            refine Rh.take (some 178) (i := 11) (v := ?_) rfl (by kernel_rfl) (by kernel_rfl) (by kernel_rfl) (by kernel_rfl) (fun _ _ _ h => h) (Or.inl ⟨by rfl, ?_⟩) hS0 ?_
            rotate_left
            · intro w hSw
              go_simp
              try with_reducible rfl
            try simp only [Act.put, List.setIfInBounds_toArray, List.set_cons_zero, List.set_cons_succ]
            refine Rh.take (some 179) (i := 12) (v := ?_) rfl (by kernel_rfl) (by kernel_rfl) (by kernel_rfl) (by kernel_rfl) (fun _ _ _ h => h) (Or.inl ⟨by rfl, ?_⟩) hS0 ?_
            rotate_left
            · intro w hSw
              go_simp
              try with_reducible rfl
            try simp only [Act.put, List.setIfInBounds_toArray, List.set_cons_zero, List.set_cons_succ]
            refine Rh.take (some 180) (i := 13) (v := ?_) rfl (by kernel_rfl) (by kernel_rfl) (by kernel_rfl) (by kernel_rfl) (fun _ _ _ h => h) (Or.inl ⟨by rfl, ?_⟩) hS0 ?_
            rotate_left
            · intro w hSw
              go_simp
              try with_reducible rfl
            try simp only [Act.put, List.setIfInBounds_toArray, List.set_cons_zero, List.set_cons_succ]
            refine Rh.take (some 181) (i := 14) (v := ?_) rfl (by kernel_rfl) (by kernel_rfl) (by kernel_rfl) (by kernel_rfl) (fun _ _ _ h => h) (Or.inl ⟨by rfl, ?_⟩) hS0 ?_
            rotate_left
            · intro w hSw
              go_simp
              try with_reducible rfl
            try simp only [Act.put, List.setIfInBounds_toArray, List.set_cons_zero, List.set_cons_succ]
            refine Rh.take (some 182) (i := 15) (v := ?_) rfl (by kernel_rfl) (by kernel_rfl) (by kernel_rfl) (by kernel_rfl) (fun _ _ _ h => h) (Or.inl ⟨by rfl, ?_⟩) hS0 ?_
            rotate_left
            · intro w hSw
              go_simp
              try with_reducible rfl
            try simp only [Act.put, List.setIfInBounds_toArray, List.set_cons_zero, List.set_cons_succ]
            refine Rh.take (some 183) (i := 16) (v := ?_) rfl (by kernel_rfl) (by kernel_rfl) (by kernel_rfl) (by kernel_rfl) (fun _ _ _ h => h) (Or.inl ⟨by rfl, ?_⟩) hS0 ?_
            rotate_left
            · intro w hSw
              go_simp
              try with_reducible rfl
            try simp only [Act.put, List.setIfInBounds_toArray, List.set_cons_zero, List.set_cons_succ]
            refine Rh.step (i := 17) (by kernel_rfl) rfl fun K' hK' => ?_
            have HK := Lib.hid hK'
            clear hK'
            go_simp
            refine HK.out _ _ ⟨hS0, ?_⟩
            clear HK K'
            try simp only [Act.put, List.setIfInBounds_toArray, List.set_cons_zero, List.set_cons_succ]
            refine Rh.step (i := 18) (by kernel_rfl) rfl fun K' hK' => ?_
            have HK := Lib.hid hK'
            clear hK'
            go_simp
            refine (CD.out wi.drew (show Ne.ARow wi.drew (some ⟨b, off, none⟩) ml from HRI.out) HID.out).mono ?_
            rintro e wj ⟨rfl, hq⟩
            have HBJ := Lib.hid ((Ne.below_drew HBI.out).trans (hq.mono HBI.out.size))
            have hS1 := (show (fun w' => w'.cell? ⟨bn, 0, none⟩ = some (.int .i64 mn) ∧ w'.cell? ⟨bn, 1, none⟩ = some (.int .i64 ms) ∧ w'.cell? ⟨bn, 2, none⟩ = some (.int .i64 mt) ∧ w'.cell? ⟨bn, 3, none⟩ = some (.slice (some ⟨b, off, none⟩) ml.length cm)) wj from ⟨(hq.cell (p := ⟨bn, 0, none⟩) hln).trans n0, (hq.cell (p := ⟨bn, 1, none⟩) hln).trans n1, (hq.cell (p := ⟨bn, 2, none⟩) hln).trans n2, (hq.cell (p := ⟨bn, 3, none⟩) hln).trans n3⟩)
            clear hq
            refine HK.out _ _ ⟨hS1, ?_⟩
            clear HK K'
            try simp only [Act.put, List.setIfInBounds_toArray, List.set_cons_zero, List.set_cons_succ]
            refine Rh.take (some 186) (i := 19) (v := ?_) rfl (by kernel_rfl) (by kernel_rfl) (by kernel_rfl) (by kernel_rfl) (fun _ _ _ h => h) (Or.inl ⟨by rfl, ?_⟩) hS1 ?_
            rotate_left
            · intro w hSw
              go_simp
              try with_reducible rfl
            try simp only [Act.put, List.setIfInBounds_toArray, List.set_cons_zero, List.set_cons_succ]
            refine Rh.take (some 187) (i := 20) (v := ?_) rfl (by kernel_rfl) (by kernel_rfl) (by kernel_rfl) (by kernel_rfl) (fun _ _ _ h => h) (Or.inl ⟨by rfl, ?_⟩) hS1 ?_
            rotate_left
            · intro w hSw
              go_simp
              try with_reducible rfl
            try simp only [Act.put, List.setIfInBounds_toArray, List.set_cons_zero, List.set_cons_succ]
            refine Rh.take (some 10) (i := 21) (v := ?_) rfl (by kernel_rfl) (by kernel_rfl) (by kernel_rfl) (by kernel_rfl) (fun _ _ _ h => h) (Or.inl ⟨by rfl, ?_⟩) hS1 ?_
            rotate_left
            · intro w hSw
              go_simp
              try with_reducible rfl
            try simp only [Act.put, List.setIfInBounds_toArray, List.set_cons_zero, List.set_cons_succ]
            refine Rh.done (by kernel_rfl) ?_ _
            go_wp2
            all_goals (go_ret; exact ⟨rfl, HBJ.out⟩)

end Go.Proofs.Ytiimomonbdckgaa.flowBounds
