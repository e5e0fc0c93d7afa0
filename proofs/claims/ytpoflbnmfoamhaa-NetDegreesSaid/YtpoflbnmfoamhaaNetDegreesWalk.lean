/- NetDegrees: for every input the law returns true and its arguments read as they did. No condition. -/
import Derived.Test.YtpoflbnmfoamhaaAppat
import Derived.Test.YtpoflbnmfoamhaaOpenc
import Derived.Outline
import Derived.Test.YtpoflbnmfoamhaaRows
import Derived.WalkKit
import Derived.ProofKit
import Derived.OpenShut
import Derived.ShutString
import Derived.ChangeOld
import Derived.Below
import Derived.Deep.Strs
namespace Go.Proofs.Ytpoflbnmfoamhaa.netDegrees
open Go.ChangeShapes Go.WideShapes Go.ChangeAt Go.RowKit
open Go.ChangeMaps (open_string shut_string)
set_option linter.unusedVariables false
set_option linter.unusedSimpArgs false

theorem own : ownKnob Try.prog.godebug = none := by kernel_rfl
theorem laidOut : laidOutB Try.prog = true := by kernel_rfl

set_option maxRecDepth 100000

set_option maxRecDepth 100000 in
set_option maxHeartbeats 4000000 in
theorem walk (a0 : Int) (a1 : Int) (a2 : List Ne.Arc) (o2 : Option Addr) (c2 : Nat) (a3 : Ne.Arc) (w : World) (w0 : (Lit.int .i64 a0).wf = true) (w1 : (Lit.int .i64 a1).wf = true) (k2 : ∀ a ∈ a2, Ne.Arc.ok a) (z2 : a2.length ≤ c2) (y2 : c2 ≤ maxLen) (n2 : o2 = none → c2 = 0) (r2 : Ne.ARow w o2 a2) (k3 : a3.ok) :
    Calls Try.prog 9 #[.int .i64 a0, .int .i64 a1, .slice o2 a2.length c2, .agg #[.int .i64 a3.fr, .int .i64 a3.to, .int .i64 a3.cap]] w fun e w' => e = .returned (.bool true) ∧ Below w.heap.size w w' := by
  obtain ⟨xf, xt, xc⟩ := a3
  obtain ⟨⟨xf0, xf1⟩, ⟨xt0, xt1⟩, _⟩ := k3
  simp only at xf0 xf1 xt0 xt1
  have HSH := Lib.hid (Ne.shown_any (w.alloc (.cells #[.int .i64 xf, .int .i64 xt, .int .i64 xc] 44)))
  obtain ⟨mn, hmn⟩ : ∃ x, x = (Ne.madeN a0 a1 a2).n := ⟨_, rfl⟩
  obtain ⟨ms, hms⟩ : ∃ x, x = (Ne.madeN a0 a1 a2).s := ⟨_, rfl⟩
  obtain ⟨mt, hmt⟩ : ∃ x, x = (Ne.madeN a0 a1 a2).t := ⟨_, rfl⟩
  obtain ⟨ml, hml⟩ : ∃ x, x = (Ne.madeN a0 a1 a2).l := ⟨_, rfl⟩
  have em : Ne.madeN a0 a1 a2 = ⟨mn, ms, mt, ml⟩ := by rw [hmn, hms, hmt, hml]
  obtain ⟨f1, f2, f3, f4, f5, f6, f7, f8, f9⟩ := Ne.madeN_fine (nodes := a0) (ends := a1) k2
  have MD := Lib.hid fun w' (h : Ne.ARow w' o2 a2) => Ne.made_s a0 a1 a2 o2 c2 w' (bounds_i64 w0) (bounds_i64 w1) k2 h
  rw [em] at MD f1 f2 f3 f4 f5 f6 f7 f8 f9
  simp only at f1 f2 f3 f4 f5 f6 f7 f8 f9
  clear hmn hms hmt hml em
  have f8' : ml.length ≤ 24 := by omega
  clear f8 f3 f4 f5 f6 f7 f9
  obtain ⟨p1, hp1⟩ : ∃ x, x = Ne.pickN xf mn := ⟨_, rfl⟩
  have bp1 := Ne.pickN_bd (c := xf) (n := mn) (by omega)
  rw [← hp1] at bp1
  have P1 := Lib.hid fun w' => Ne.pick_any xf mn w' xf0 xf1 (by omega) (by omega)
  rw [← hp1] at P1
  obtain ⟨p2, hp2⟩ : ∃ x, x = Ne.pickN xt mn := ⟨_, rfl⟩
  have bp2 := Ne.pickN_bd (c := xt) (n := mn) (by omega)
  rw [← hp2] at bp2
  have P2 := Lib.hid fun w' => Ne.pick_any xt mn w' xt0 xt1 (by omega) (by omega)
  rw [← hp2] at P2
  clear hp1 hp2
  obtain ⟨bp10, bp11⟩ := bp1
  obtain ⟨bp20, bp21⟩ := bp2
  obtain ⟨fl, hfl⟩ : ∃ x, x = ml ++ [⟨1 + p1, 1 + p2, 1⟩] := ⟨_, rfl⟩
  have lfl : fl.length ≤ 25 := by rw [hfl]; simp; omega
  have HFL := Lib.hid hfl
  clear hfl
  have HBW := Lib.hid (show Below w.heap.size w (w.alloc (.cells #[.int .i64 xf, .int .i64 xt, .int .i64 xc] 44)) from (Below.refl _ _).alloc (by simp) _)
  have HX0 := Lib.hid (show (w.alloc (.cells #[.int .i64 xf, .int .i64 xt, .int .i64 xc] 44)).cell? ⟨w.heap.size, 0, none⟩ = some (.int .i64 xf) from World.cell?_alloc_new w _ _ 0)
  have HX1 := Lib.hid (show (w.alloc (.cells #[.int .i64 xf, .int .i64 xt, .int .i64 xc] 44)).cell? ⟨w.heap.size, 1, none⟩ = some (.int .i64 xt) from World.cell?_alloc_new w _ _ 1)
  have HZ : (w.alloc (.cells #[.int .i64 xf, .int .i64 xt, .int .i64 xc] 44)).heap.size = w.heap.size + 1 := by simp
  have RA := Lib.hid (r2.kept HBW.out)
  clear r2
  go_enter Try.func9, Try.ntmps9
  go_wp2_with fail
  refine HSH.out.mono ?_
  rintro e w1 ⟨rfl, hb⟩
  generalize (w.alloc (.cells #[.int .i64 xf, .int .i64 xt, .int .i64 xc] 44)) = WB at *
  have HB1 := Lib.hid hb
  clear hb HSH
  go_wp2_with fail
  refine (MD.out _ (RA.out.kept HB1.out)).mono ?_
  rintro e w2 ⟨om, cm, rfl, ho, hb⟩
  have HB2 := Lib.hid (HB1.out.trans (hb.mono HB1.out.size))
  have HRn := Lib.hid ((Ne.arow_of ho).2.2.kept ((Below.refl _ _).alloc (Nat.le_refl _) (.cells #[.int .i64 mn, .int .i64 ms, .int .i64 mt, .slice om ml.length cm] 24)))
  have HOC := Lib.hid (Ne.arow_of ho).2.1
  have HFM := Lib.hid (show ∀ b off, om = some ⟨b, off, none⟩ → b < w2.heap.size from fun b off e => (Ne.own_far ho b (by rw [e]; rfl)).2)
  have hz2 : WB.heap.size ≤ w2.heap.size := HB2.out.size
  have HB3 := Lib.hid (HB2.out.alloc hz2 (.cells #[.int .i64 mn, .int .i64 ms, .int .i64 mt, .slice om ml.length cm] 24))
  have HN3 := Lib.hid (Ne.netBox_new w2 mn ms mt (.slice om ml.length cm))
  have HW3 : (w2.alloc (.cells #[.int .i64 mn, .int .i64 ms, .int .i64 mt, .slice om ml.length cm] 24)).heap.size = w2.heap.size + 1 := by simp
  clear ho hb MD RA
  go_wp2_with fail
  have CP0 := Lib.hid fun w' (h : Ne.ARow w' om ml) => Ne.copy_any ⟨mn, ms, mt, ml⟩ om cm w' HOC.out h (by simp only; omega)
  generalize (w2.alloc (.cells #[.int .i64 mn, .int .i64 ms, .int .i64 mt, .slice om ml.length cm] 24)) = W3 at *
  refine (CP0.out _ HRn.out).mono ?_
  rintro e w4 ⟨o4, c4, rfl, ho, hb⟩
  have HN4 := Lib.hid (Ne.netBox_alloc (Ne.netBox_below HN3.out hb (by omega)) (.cells #[.int .i64 mn, .int .i64 ms, .int .i64 mt, .slice o4 ml.length c4] 24))
  have HR4 := Lib.hid ((HRn.out.kept hb).kept ((Below.refl _ _).alloc (Nat.le_refl _) (.cells #[.int .i64 mn, .int .i64 ms, .int .i64 mt, .slice o4 ml.length c4] 24)))
  have hz4 : W3.heap.size ≤ w4.heap.size := hb.size
  have HB4 := Lib.hid ((HB3.out.trans (hb.mono (by omega))).alloc (by omega) (.cells #[.int .i64 mn, .int .i64 ms, .int .i64 mt, .slice o4 ml.length c4] 24))
  have HM4 := Lib.hid (Ne.netBox_new w4 mn ms mt (.slice o4 ml.length c4))
  have HO4 := Lib.hid (Rw.own_base (Rw.own_alloc ho (.cells #[.int .i64 mn, .int .i64 ms, .int .i64 mt, .slice o4 ml.length c4] 24)) (B' := WB.heap.size) (by omega))
  have HF4 := Lib.hid (Ne.own_far ho)
  have HNR := Lib.hid (show ∀ b off, om = some ⟨b, off, none⟩ → some b ≠ (Value.slice o4 ml.length c4).ownBlock from fun b off e h => by have h1 := HFM.out b off e; have h2 := HF4.out b h.symm; omega)
  have HNB := Lib.hid (show ∀ b off, om = some ⟨b, off, none⟩ → w4.heap.size ≠ b from fun b off e => by have h1 := HFM.out b off e; omega)
  have HW5 : (w4.alloc (.cells #[.int .i64 mn, .int .i64 ms, .int .i64 mt, .slice o4 ml.length c4] 24)).heap.size = w4.heap.size + 1 := by simp
  clear ho hb CP0 HRn HN3
  go_wp2_with fail
  generalize (w4.alloc (.cells #[.int .i64 mn, .int .i64 ms, .int .i64 mt, .slice o4 ml.length c4] 24)) = W5 at *
  have hb4a : w4.heap.size < W5.heap.size := by omega
  clear HW5
  have hx0 := (HB4.out.cell (p := ⟨w.heap.size, 0, none⟩) (by simp only; omega)).trans HX0.out
  have hx1 := (HB4.out.cell (p := ⟨w.heap.size, 1, none⟩) (by simp only; omega)).trans HX1.out
  have hn0 := (Ne.netBox_cells HN4.out).1
  have hS0 := (show (fun w' => w'.cell? ⟨w.heap.size, 0, none⟩ = some (.int .i64 xf) ∧ w'.cell? ⟨w.heap.size, 1, none⟩ = some (.int .i64 xt) ∧ w'.cell? ⟨w2.heap.size, 0, none⟩ = some (.int .i64 mn)) W5.drew from ⟨hx0, hx1, hn0⟩)
  have hSA := (show (fun w' => w'.cell? ⟨w.heap.size, 0, none⟩ = some (.int .i64 xf) ∧ w'.cell? ⟨w.heap.size, 1, none⟩ = some (.int .i64 xt) ∧ w'.cell? ⟨w2.heap.size, 0, none⟩ = some (.int .i64 mn)) (W5.alloc (.cells #[.int .i64 0, .int .i64 0, .int .i64 0] 35)).drew from ⟨Ne.held_new hx0, Ne.held_new hx1, Ne.held_new hn0⟩)
  have hSB := (show (fun w' => w'.cell? ⟨w.heap.size, 0, none⟩ = some (.int .i64 xf) ∧ w'.cell? ⟨w.heap.size, 1, none⟩ = some (.int .i64 xt) ∧ w'.cell? ⟨w2.heap.size, 0, none⟩ = some (.int .i64 mn)) (W5.alloc (.cells #[.int .i64 (1 + p1), .int .i64 (1 + p2), .int .i64 1] 35)).drew from ⟨Ne.held_new hx0, Ne.held_new hx1, Ne.held_new hn0⟩)
  apply Rh.meet
  case h =>
    refine Rh.start (S := (fun w' => w'.cell? ⟨w.heap.size, 0, none⟩ = some (.int .i64 xf) ∧ w'.cell? ⟨w.heap.size, 1, none⟩ = some (.int .i64 xt) ∧ w'.cell? ⟨w2.heap.size, 0, none⟩ = some (.int .i64 mn))) (by kernel_rfl) ?_
    refine Rh.take (some 27) (i := 0) (v := ?_) rfl (by kernel_rfl) (by kernel_rfl) (by kernel_rfl) (by kernel_rfl) (fun _ _ _ h => h) (Or.inl ⟨by rfl, ?_⟩) hS0 ?_
    rotate_left
    · intro w hSw
      go_simp
      try with_reducible rfl
    try simp only [Act.put, List.setIfInBounds_toArray, List.set_cons_zero, List.set_cons_succ]
    refine Rh.take (some 28) (i := 1) (v := ?_) rfl (by kernel_rfl) (by kernel_rfl) (by kernel_rfl) (by kernel_rfl) (fun _ _ _ h => h) (Or.inl ⟨by rfl, ?_⟩) hS0 ?_
    rotate_left
    · intro w hSw
      go_simp
      try with_reducible rfl
    try simp only [Act.put, List.setIfInBounds_toArray, List.set_cons_zero, List.set_cons_succ]
    refine Rh.take (some 29) (i := 2) (v := ?_) rfl (by kernel_rfl) (by kernel_rfl) (by kernel_rfl) (by kernel_rfl) (fun _ _ _ h => h) (Or.inl ⟨by rfl, ?_⟩) hS0 ?_
    rotate_left
    · intro w hSw
      go_simp
      try with_reducible rfl
    try simp only [Act.put, List.setIfInBounds_toArray, List.set_cons_zero, List.set_cons_succ]
    refine Rh.take (some 30) (i := 3) (v := ?_) rfl (by kernel_rfl) (by kernel_rfl) (by kernel_rfl) (by kernel_rfl) (fun _ _ _ h => h) (Or.inl ⟨by rfl, ?_⟩) hS0 ?_
    rotate_left
    · intro w hSw
      go_simp
      try with_reducible rfl
    try simp only [Act.put, List.setIfInBounds_toArray, List.set_cons_zero, List.set_cons_succ]
    refine Rh.take (some 33) (i := 6) (v := ?_) rfl (by kernel_rfl) (by kernel_rfl) (by kernel_rfl) (by kernel_rfl) (fun _ _ _ h => h) (Or.inl ⟨by rfl, ?_⟩) hS0 ?_
    rotate_left
    · intro w hSw
      go_simp
      try with_reducible rfl
    try simp only [Act.put, List.setIfInBounds_toArray, List.set_cons_zero, List.set_cons_succ]
    refine Rh.take (some 34) (i := 7) (v := ?_) rfl (by kernel_rfl) (by kernel_rfl) (by kernel_rfl) (by kernel_rfl) (fun _ _ _ h => h) (Or.inl ⟨by rfl, ?_⟩) hS0 ?_
    rotate_left
    · intro w hSw
      go_simp
      try with_reducible rfl
    try simp only [Act.put, List.setIfInBounds_toArray, List.set_cons_zero, List.set_cons_succ]
    refine Rh.take (some 35) (i := 8) (v := ?_) rfl (by kernel_rfl) (by kernel_rfl) (by kernel_rfl) (by kernel_rfl) (fun _ _ _ h => h) (Or.inl ⟨by rfl, ?_⟩) hS0 ?_
    rotate_left
    · intro w hSw
      go_simp
      try with_reducible rfl
    try simp only [Act.put, List.setIfInBounds_toArray, List.set_cons_zero, List.set_cons_succ]
    refine Rh.take (some 36) (i := 9) (v := ?_) rfl (by kernel_rfl) (by kernel_rfl) (by kernel_rfl) (by kernel_rfl) (fun _ _ _ h => h) (Or.inl ⟨by rfl, ?_⟩) hS0 ?_
    rotate_left
    · intro w hSw
      go_simp
      try with_reducible rfl
    try simp only [Act.put, List.setIfInBounds_toArray, List.set_cons_zero, List.set_cons_succ]
    refine Rh.two (i := 4) (j := 13) (by kernel_rfl) rfl rfl (fun K' hK' => ?_) (fun K' hK' => ?_)
    · have HK := Lib.hid hK'
      clear hK'
      go_simp
      refine (P1.out _).mono ?_
      rintro e w' ⟨rfl, rfl⟩
      refine HK.out _ _ ⟨hS0, ?_⟩
      clear HK K'
      try simp only [Act.put, List.setIfInBounds_toArray, List.set_cons_zero, List.set_cons_succ]
      refine Rh.take (some 32) (i := 5) (v := ?_) rfl (by kernel_rfl) (by kernel_rfl) (by kernel_rfl) (by kernel_rfl) (fun _ _ _ h => h) (Or.inl ⟨by rfl, ?_⟩) hS0 ?_
      rotate_left
      · intro w hSw
        go_simp
        rw [Ne.wrap_in (x := 1 + p1) (by unfold Ne.in64; omega)]
        try with_reducible rfl
      try simp only [Act.put, List.setIfInBounds_toArray, List.set_cons_zero, List.set_cons_succ]
      refine Rh.two (i := 10) (j := 13) (by kernel_rfl) rfl rfl (fun K' hK' => ?_) (fun K' hK' => ?_)
      · have HK := Lib.hid hK'
        clear hK'
        go_simp
        refine (P2.out _).mono ?_
        rintro e w' ⟨rfl, rfl⟩
        refine HK.out _ _ ⟨hS0, ?_⟩
        clear HK K'
        try simp only [Act.put, List.setIfInBounds_toArray, List.set_cons_zero, List.set_cons_succ]
        refine Rh.take (some 38) (i := 11) (v := ?_) rfl (by kernel_rfl) (by kernel_rfl) (by kernel_rfl) (by kernel_rfl) (fun _ _ _ h => h) (Or.inl ⟨by rfl, ?_⟩) hS0 ?_
        rotate_left
        · intro w hSw
          go_simp
          rw [Ne.wrap_in (x := 1 + p2) (by unfold Ne.in64; omega)]
          try with_reducible rfl
        try simp only [Act.put, List.setIfInBounds_toArray, List.set_cons_zero, List.set_cons_succ]
        refine Rh.take (some 39) (i := 12) (v := ?_) rfl (by kernel_rfl) (by kernel_rfl) (by kernel_rfl) (by kernel_rfl) (fun _ _ _ h => h) (Or.inl ⟨by rfl, ?_⟩) hS0 ?_
        rotate_left
        · intro w hSw
          go_simp
          try with_reducible rfl
        try simp only [Act.put, List.setIfInBounds_toArray, List.set_cons_zero, List.set_cons_succ]
        refine Rh.step (i := 13) (by kernel_rfl) rfl fun K' hK' => ?_
        have HK := Lib.hid hK'
        clear hK'
        go_simp
        refine HK.out _ _ ⟨hSA, ?_⟩
        clear HK K'
        try simp only [Act.put, List.setIfInBounds_toArray, List.set_cons_zero, List.set_cons_succ]
        refine Rh.step (i := 14) (by kernel_rfl) rfl fun K' hK' => ?_
        have HK := Lib.hid hK'
        clear hK'
        go_simp
        refine HK.out _ _ ⟨hSB, ?_⟩
        clear HK K'
        try simp only [Act.put, List.setIfInBounds_toArray, List.set_cons_zero, List.set_cons_succ]
        refine Rh.done (by kernel_rfl) ?_ _
        exact Rh.ends _ _
      · have HK := Lib.hid hK'
        clear hK'
        go_simp
        refine HK.out _ _ ⟨hSA, ?_⟩
        clear HK K'
        try simp only [Act.put, List.setIfInBounds_toArray, List.set_cons_zero, List.set_cons_succ]
        refine Rh.step (i := 10) (by kernel_rfl) rfl fun K' hK' => ?_
        have HK := Lib.hid hK'
        clear hK'
        go_simp
        refine (P2.out _).mono ?_
        rintro e w' ⟨rfl, rfl⟩
        refine HK.out _ _ ⟨hSA, ?_⟩
        clear HK K'
        try simp only [Act.put, List.setIfInBounds_toArray, List.set_cons_zero, List.set_cons_succ]
        refine Rh.take (some 38) (i := 11) (v := ?_) rfl (by kernel_rfl) (by kernel_rfl) (by kernel_rfl) (by kernel_rfl) (fun _ _ _ h => h) (Or.inl ⟨by rfl, ?_⟩) hSA ?_
        rotate_left
        · intro w hSw
          go_simp
          rw [Ne.wrap_in (x := 1 + p2) (by unfold Ne.in64; omega)]
          try with_reducible rfl
        try simp only [Act.put, List.setIfInBounds_toArray, List.set_cons_zero, List.set_cons_succ]
        refine Rh.take (some 39) (i := 12) (v := ?_) rfl (by kernel_rfl) (by kernel_rfl) (by kernel_rfl) (by kernel_rfl) (fun _ _ _ h => h) (Or.inl ⟨by rfl, ?_⟩) hSA ?_
        rotate_left
        · intro w hSw
          go_simp
          try with_reducible rfl
        try simp only [Act.put, List.setIfInBounds_toArray, List.set_cons_zero, List.set_cons_succ]
        refine Rh.step (i := 14) (by kernel_rfl) rfl fun K' hK' => ?_
        have HK := Lib.hid hK'
        clear hK'
        go_simp
        refine HK.out _ _ ⟨hSB, ?_⟩
        clear HK K'
        try simp only [Act.put, List.setIfInBounds_toArray, List.set_cons_zero, List.set_cons_succ]
        refine Rh.done (by kernel_rfl) ?_ _
        exact Rh.ends _ _
    · have HK := Lib.hid hK'
      clear hK'
      go_simp
      refine HK.out _ _ ⟨hSA, ?_⟩
      clear HK K'
      try simp only [Act.put, List.setIfInBounds_toArray, List.set_cons_zero, List.set_cons_succ]
      refine Rh.step (i := 4) (by kernel_rfl) rfl fun K' hK' => ?_
      have HK := Lib.hid hK'
      clear hK'
      go_simp
      refine (P1.out _).mono ?_
      rintro e w' ⟨rfl, rfl⟩
      refine HK.out _ _ ⟨hSA, ?_⟩
      clear HK K'
      try simp only [Act.put, List.setIfInBounds_toArray, List.set_cons_zero, List.set_cons_succ]
      refine Rh.take (some 32) (i := 5) (v := ?_) rfl (by kernel_rfl) (by kernel_rfl) (by kernel_rfl) (by kernel_rfl) (fun _ _ _ h => h) (Or.inl ⟨by rfl, ?_⟩) hSA ?_
      rotate_left
      · intro w hSw
        go_simp
        rw [Ne.wrap_in (x := 1 + p1) (by unfold Ne.in64; omega)]
        try with_reducible rfl
      try simp only [Act.put, List.setIfInBounds_toArray, List.set_cons_zero, List.set_cons_succ]
      refine Rh.step (i := 10) (by kernel_rfl) rfl fun K' hK' => ?_
      have HK := Lib.hid hK'
      clear hK'
      go_simp
      refine (P2.out _).mono ?_
      rintro e w' ⟨rfl, rfl⟩
      refine HK.out _ _ ⟨hSA, ?_⟩
      clear HK K'
      try simp only [Act.put, List.setIfInBounds_toArray, List.set_cons_zero, List.set_cons_succ]
      refine Rh.take (some 38) (i := 11) (v := ?_) rfl (by kernel_rfl) (by kernel_rfl) (by kernel_rfl) (by kernel_rfl) (fun _ _ _ h => h) (Or.inl ⟨by rfl, ?_⟩) hSA ?_
      rotate_left
      · intro w hSw
        go_simp
        rw [Ne.wrap_in (x := 1 + p2) (by unfold Ne.in64; omega)]
        try with_reducible rfl
      try simp only [Act.put, List.setIfInBounds_toArray, List.set_cons_zero, List.set_cons_succ]
      refine Rh.take (some 39) (i := 12) (v := ?_) rfl (by kernel_rfl) (by kernel_rfl) (by kernel_rfl) (by kernel_rfl) (fun _ _ _ h => h) (Or.inl ⟨by rfl, ?_⟩) hSA ?_
      rotate_left
      · intro w hSw
        go_simp
        try with_reducible rfl
      try simp only [Act.put, List.setIfInBounds_toArray, List.set_cons_zero, List.set_cons_succ]
      refine Rh.step (i := 14) (by kernel_rfl) rfl fun K' hK' => ?_
      have HK := Lib.hid hK'
      clear hK'
      go_simp
      refine HK.out _ _ ⟨hSB, ?_⟩
      clear HK K'
      try simp only [Act.put, List.setIfInBounds_toArray, List.set_cons_zero, List.set_cons_succ]
      refine Rh.done (by kernel_rfl) ?_ _
      exact Rh.ends _ _
  have HAa := Lib.hid (show Ne.ArcBox (W5.alloc (.cells #[.int .i64 (1 + p1), .int .i64 (1 + p2), .int .i64 1] 35)).drew W5.heap.size ⟨1 + p1, 1 + p2, 1⟩ from Ne.arcBox_at W5 rfl ⟨1 + p1, 1 + p2, 1⟩)
  have HNa := Lib.hid (show Ne.NetBox (W5.alloc (.cells #[.int .i64 (1 + p1), .int .i64 (1 + p2), .int .i64 1] 35)).drew w2.heap.size mn ms mt (.slice om ml.length cm) from Ne.netBox_alloc HN4.out _)
  have HMa := Lib.hid (show Ne.NetBox (W5.alloc (.cells #[.int .i64 (1 + p1), .int .i64 (1 + p2), .int .i64 1] 35)).drew w4.heap.size mn ms mt (.slice o4 ml.length c4) from Ne.netBox_alloc HM4.out _)
  have HBd := Lib.hid (show Below W5.heap.size W5 (W5.alloc (.cells #[.int .i64 (1 + p1), .int .i64 (1 + p2), .int .i64 1] 35)).drew from Ne.below_drew ((Below.refl _ _).alloc (Nat.le_refl _) _))
  have HRa := Lib.hid (HR4.out.kept HBd.out)
  have HOa := Lib.hid (Rw.own_base (Rw.own_below HO4.out HBd.out) (B' := w.heap.size) (by omega))
  have HBa := Lib.hid (HBW.out.trans ((HB4.out.trans (HBd.out.mono HB4.out.size)).mono (by omega)))
  have hza : w.heap.size + 1 ≤ W5.heap.size := by have := HB4.out.size; omega
  have hfa : ∀ g, (Value.slice o4 ml.length c4).ownBlock = some g → g < W5.heap.size := fun g hg => by have := HF4.out g hg; omega
  have hzs : (W5.alloc (.cells #[.int .i64 (1 + p1), .int .i64 (1 + p2), .int .i64 1] 35)).drew.heap.size = W5.heap.size + 1 := by show (W5.heap.push _).size = _; simp
  have hb24 : w2.heap.size ≠ w4.heap.size := by omega
  have hb2a : w2.heap.size < W5.heap.size := by have := Ne.netBox_lt HN4.out; omega
  have HFA := Lib.hid hfa
  have hb2w : w.heap.size ≤ w2.heap.size := by omega
  have hb4w : w.heap.size ≤ w4.heap.size := by omega
  clear hS0 hSA hSB hx0 hx1 hn0 HBd HO4 HN4 HM4 HR4 HB4 HF4 HB1 HB2 HB3 HX0 HX1 hfa hz2 hz4 HW3 HZ
  have hzs2 : W5.heap.size + 1 ≤ (W5.alloc (.cells #[.int .i64 (1 + p1), .int .i64 (1 + p2), .int .i64 1] 35)).drew.heap.size := by omega
  clear hzs
  generalize (W5.alloc (.cells #[.int .i64 (1 + p1), .int .i64 (1 + p2), .int .i64 1] 35)).drew = WA at *
  generalize hba : W5.heap.size = ba at *
  generalize hbn : w2.heap.size = bn at *
  generalize hbm : w4.heap.size = bm at *
  clear hba hbn hbm
  have HNE := Lib.hid (Ne.own_ne_box HOa.out HMa.out)
  have HNE2 := Lib.hid (Ne.own_ne_box HOa.out HNa.out)
  have HO7 := Lib.hid (Rw.own_alloc HOa.out (.cells #[.int .i64 (1 + p1), .int .i64 (1 + p2), .int .i64 1] 35))
  have HM7 := Lib.hid (Ne.netBox_alloc HMa.out (.cells #[.int .i64 (1 + p1), .int .i64 (1 + p2), .int .i64 1] 35))
  have HN7 := Lib.hid (Ne.netBox_alloc HNa.out (.cells #[.int .i64 (1 + p1), .int .i64 (1 + p2), .int .i64 1] 35))
  have HA7 := Lib.hid (Ne.arcBox_below HAa.out ((Below.refl WA.heap.size WA).alloc (Nat.le_refl _) (.cells #[.int .i64 (1 + p1), .int .i64 (1 + p2), .int .i64 1] 35)) (Ne.arcBox_lt HAa.out))
  have HR7 := Lib.hid (HRa.out.kept ((Below.refl WA.heap.size WA).alloc (Nat.le_refl _) (.cells #[.int .i64 (1 + p1), .int .i64 (1 + p2), .int .i64 1] 35)))
  have hzw : w.heap.size ≤ WA.heap.size := by omega
  have HB7 := Lib.hid (HBa.out.alloc hzw (.cells #[.int .i64 (1 + p1), .int .i64 (1 + p2), .int .i64 1] 35))
  have HAR := Lib.hid (Ne.arow_at1 WA (b := WA.heap.size) rfl ⟨1 + p1, 1 + p2, 1⟩)
  have HLN := Lib.hid (show ml.length + ([⟨1 + p1, 1 + p2, 1⟩] : List Ne.Arc).length ≤ 1099511627776 by simp; omega)
  have HZ7 := Lib.hid (show (WA.alloc (.cells #[.int .i64 (1 + p1), .int .i64 (1 + p2), .int .i64 1] 35)).heap.size = WA.heap.size + 1 by simp)
  have HOB := Lib.hid (Rw.own_block HOa.out)
  obtain ⟨n0, n1, n2, n3⟩ := Ne.netBox_cells HMa.out
  obtain ⟨a0', a1', a2'⟩ := Ne.arcBox_cells HAa.out
  have HRX : Hid (∀ w' , WA.grownBy w' none → True) := Lib.hid (fun _ _ => trivial)
  have nf := Ne.netBox_frozen HMa.out 3
  go_wp2_with (at_builtin; refine Rw.app Ne.elemA Ne.encA_len Ne.encA_one rfl (.tmp 41) (.tmp 43) rfl w.heap.size _ ml rfl HO7.out (some ⟨WA.heap.size, 0, none⟩) 1 [⟨1 + p1, 1 + p2, 1⟩] rfl ?hnn HAR.out HLN.out ?hB ?_; (case hnn => (intro h; cases h)); (case hB => (have := HZ7.out; omega)); intro v8 w8 hown8 hgr8; rw [← HFL.out] at hown8; obtain ⟨o8, c8, hv8, _⟩ := Rw.own_row Ne.encA_len hown8; subst hv8; have HM8 := Lib.hid (Ne.netBox_grown HM7.out hgr8 (fun h => HNE.out h.symm)); have HN8 := Lib.hid (Ne.netBox_grown HN7.out hgr8 (fun h => HNE2.out h.symm)); have HA8 := Lib.hid (Ne.arcBox_grown HA7.out hgr8 (fun h => by have := HFA.out _ h.symm; omega)); have HB8 := Lib.hid (HB7.out.grown hgr8 (by have := HZ7.out; omega) HOB.out); have HO8 := Lib.hid hown8; have HG8 := Lib.hid hgr8; clear hown8 hgr8; obtain ⟨n0, n1, n2, n3⟩ := Ne.netBox_cells HM8.out; have nf := Ne.netBox_frozen HM8.out 3)
  have HX5 := Lib.hid (Ne.netBox_set (v2 := .slice o8 fl.length c8) HM8.out)
  have HN5 := Lib.hid (Ne.netBox_other HN8.out (b2 := bm) (o := 3) (v2 := .slice o8 fl.length c8) hb24)
  have HA5 := Lib.hid (Ne.arcBox_other HA8.out (b2 := bm) (o := 3) (v2 := .slice o8 fl.length c8) (by omega))
  have HO5 := Lib.hid (Rw.own_set HO8.out (p := ⟨bm, 3, none⟩) (Ne.own_ne_box HO8.out HM8.out) (.slice o8 fl.length c8))
  have HRf := Lib.hid (Ne.arow_of HO5.out).2.2
  have HB5 := Lib.hid (HB8.out.setCell (p := ⟨bm, 3, none⟩) hb4w (.slice o8 fl.length c8))
  have HRm : Hid (Ne.ARow (w8.setCell ⟨bm, 3, none⟩ (.slice o8 fl.length c8)) om ml) := Lib.hid (by
    rcases HR7.out with h | ⟨b, off, e, hlt, hc⟩
    · exact .inl h
    · subst e
      have hbne : some b ≠ (Value.slice o4 ml.length c4).ownBlock := HNR.out b off rfl
      have hbm : bm ≠ b := HNB.out b off rfl
      refine .inr ⟨b, off, rfl, ?_, fun i x hx j v hv => ?_⟩
      · have h1 := HG8.out.size
        have h2 : (w8.setCell ⟨bm, 3, none⟩ (.slice o8 fl.length c8)).heap.size = w8.heap.size := by simp [World.setCell]
        omega
      · rw [World.cell?_setCell_far _ _ _ _ (show (⟨bm, 3, none⟩ : Addr).block ≠ b from hbm)]
        rw [HG8.out.cell_far ⟨b, off + (i * 3 + j), none⟩ hlt hbne]
        exact hc i x hx j v hv)
  have HOM := Lib.hid fun v => Ne.outs_more ml ⟨1 + p1, 1 + p2, 1⟩ v
  have HIM := Lib.hid fun v => Ne.ins_more ml ⟨1 + p1, 1 + p2, 1⟩ v
  rw [← HFL.out] at HOM HIM
  clear n0 n1 n2 n3 nf a0' a1' a2' HM8 HN8 HA8 HB8 HO8 HG8 HM7 HN7 HA7 HR7 HB7 HO7 HAR HAa HNa HMa HRa HOa HBa HNE HNE2 HOB HFA HRX HNR HNB P1 P2
  generalize (w8.setCell ⟨bm, 3, none⟩ (.slice o8 fl.length c8)) = WL at *
  go_wp2_with fail
  go_loopw [13] (fun s wr => ∃ v : Int, s = .int .i64 v ∧ 1 ≤ v ∧ v ≤ mn + 1 ∧ Hid (Ne.NetBox wr bm mn ms mt (.slice o8 fl.length c8)) ∧ Hid (Ne.NetBox wr bn mn ms mt (.slice om ml.length cm)) ∧ Hid (Ne.ArcBox wr ba ⟨1 + p1, 1 + p2, 1⟩) ∧ Hid (Ne.ARow wr o8 fl) ∧ Hid (Ne.ARow wr om ml) ∧ Hid (Below w.heap.size w wr)) (fun s _ => (mn + 1 - intOf s).toNat)
  case atStart => exact ⟨1, rfl, by omega, by omega, HX5, HN5, HA5, HRf, HRm, HB5⟩
  case round =>
    obtain ⟨v, rfl, hv0, hv1, HX, HN, HA, HF, HM, HB⟩ := hrel
    obtain ⟨m0, m1, m2, m3⟩ := Ne.netBox_cells HX.out
    obtain ⟨n0, n1, n2, n3⟩ := Ne.netBox_cells HN.out
    obtain ⟨a0', a1', a2'⟩ := Ne.arcBox_cells HA.out
    have hwx := Ne.netBox_lt HX.out
    have hwn := Ne.netBox_lt HN.out
    have hwa := Ne.arcBox_lt HA.out
    by_cases hlt : v ≤ mn
    · obtain ⟨ol, hol⟩ : ∃ x, x = Ne.outs fl v fl.length := ⟨_, rfl⟩
      obtain ⟨il, hil⟩ : ∃ x, x = Ne.ins fl v fl.length := ⟨_, rfl⟩
      have hol2 : ol.length ≤ 25 := by have := Ne.outs_len fl v fl.length; rw [← hol] at this; omega
      have hil2 : il.length ≤ 25 := by have := Ne.ins_len fl v fl.length; rw [← hil] at this; omega
      have OF := Lib.hid fun w' (h : Ne.ARow w' o8 fl) => Ne.out_s ⟨mn, ms, mt, fl⟩ o8 c8 v w' h (by simp only; omega)
      have IF := Lib.hid fun w' (h : Ne.ARow w' o8 fl) => Ne.in_s ⟨mn, ms, mt, fl⟩ o8 c8 v w' h (by simp only; omega)
      have OM := Lib.hid fun w' (h : Ne.ARow w' om ml) => Ne.out_o ⟨mn, ms, mt, ml⟩ om cm v w' h (by simp only; omega)
      have IM := Lib.hid fun w' (h : Ne.ARow w' om ml) => Ne.in_o ⟨mn, ms, mt, ml⟩ om cm v w' h (by simp only; omega)
      have SO := Lib.hid fun x1 x2 c1 c2 w' (h1 : Ne.IRow w' x1 ol) (h2 : Ne.IRow w' x2 ol) => Ne.same_s x1 x2 c1 c2 ol w' h1 h2 (by omega)
      have SI := Lib.hid fun x1 x2 c1 c2 w' (h1 : Ne.IRow w' x1 il) (h2 : Ne.IRow w' x2 il) => Ne.same_s x1 x2 c1 c2 il w' h1 h2 (by omega)
      simp only [← hol] at OF
      simp only [← hil] at IF
      obtain ⟨pl, hpl⟩ : ∃ x, x = Ne.outs ml v ml.length := ⟨_, rfl⟩
      obtain ⟨ql, hql⟩ : ∃ x, x = Ne.ins ml v ml.length := ⟨_, rfl⟩
      have hpl2 : pl.length ≤ 25 := by have := Ne.outs_len ml v ml.length; rw [← hpl] at this; omega
      have hql2 : ql.length ≤ 25 := by have := Ne.ins_len ml v ml.length; rw [← hql] at this; omega
      simp only [← hpl] at OM
      simp only [← hql] at IM
      have eo := HOM.out v
      have ei := HIM.out v
      simp only [← hol, ← hpl] at eo
      simp only [← hil, ← hql] at ei
      clear hol hil hpl hql
      have hlt' : v ≤ mn := hlt
      by_cases h1 : 1 + p1 = v
      · rw [if_pos h1] at eo
        have EO := Lib.hid eo
        have t1 : (v == 1 + p1) = true := by simp [h1]
        clear eo h1
        by_cases h2 : 1 + p2 = v
        · rw [if_pos h2] at ei
          have EI := Lib.hid ei
          have t2 : (v == 1 + p2) = true := by simp [h2]
          clear ei h2
          go_wp2_with fail
          refine (OF.out _ HF.out).mono ?_
          rintro e y1 ⟨q1, r1, rfl, x1, hb⟩
          have D1 := Lib.hid hb
          have X1 := Lib.hid x1
          obtain ⟨m0, m1, m2, m3⟩ := Ne.netBox_cells (Ne.netBox_below HX.out D1.out hwx)
          obtain ⟨n0, n1, n2, n3⟩ := Ne.netBox_cells (Ne.netBox_below HN.out D1.out hwn)
          obtain ⟨a0', a1', a2'⟩ := Ne.arcBox_cells (Ne.arcBox_below HA.out D1.out hwa)
          clear hb x1
          go_wp2_with fail
          refine (IF.out _ (HF.out.kept D1.out)).mono ?_
          rintro e y2 ⟨q2, r2, rfl, x2, hb⟩
          have D2 := Lib.hid (D1.out.trans (hb.mono D1.out.size))
          have X12 := Lib.hid (X1.out.kept hb)
          have X2 := Lib.hid x2
          obtain ⟨m0, m1, m2, m3⟩ := Ne.netBox_cells (Ne.netBox_below HX.out D2.out hwx)
          obtain ⟨n0, n1, n2, n3⟩ := Ne.netBox_cells (Ne.netBox_below HN.out D2.out hwn)
          obtain ⟨a0', a1', a2'⟩ := Ne.arcBox_cells (Ne.arcBox_below HA.out D2.out hwa)
          clear hb x2 X1
          go_wp2_with fail
          refine (OM.out _ (HM.out.kept D2.out)).mono ?_
          rintro e y3 ⟨q3, r3, rfl, x3, hb⟩
          have D3 := Lib.hid (D2.out.trans (hb.mono D2.out.size))
          have E3 := Lib.hid hb
          have X3 := Lib.hid x3
          obtain ⟨m0, m1, m2, m3⟩ := Ne.netBox_cells (Ne.netBox_below HX.out D3.out hwx)
          obtain ⟨n0, n1, n2, n3⟩ := Ne.netBox_cells (Ne.netBox_below HN.out D3.out hwn)
          obtain ⟨a0', a1', a2'⟩ := Ne.arcBox_cells (Ne.arcBox_below HA.out D3.out hwa)
          clear hb x3
          go_wp2_with fail
          refine (IM.out _ (HM.out.kept D3.out)).mono ?_
          rintro e y4 ⟨q4, r4, rfl, x4, hb⟩
          have D4 := Lib.hid (D3.out.trans (hb.mono D3.out.size))
          have E4 := Lib.hid (E3.out.trans (hb.mono E3.out.size))
          have P4 := Lib.hid (Rw.own_below X3.out hb)
          have Q4 := Lib.hid x4
          have PB4 := Lib.hid (show ∀ g, (Value.slice q3 pl.length r3).ownBlock = some g → y2.heap.size ≤ g ∧ g < y3.heap.size from Rw.own_lt X3.out)
          have QB4 := Lib.hid (show ∀ g, (Value.slice q4 ql.length r4).ownBlock = some g → y3.heap.size ≤ g ∧ g < y4.heap.size from Rw.own_lt x4)
          have hz32 : y2.heap.size ≤ y3.heap.size := E3.out.size
          have hz43 : y3.heap.size ≤ y4.heap.size := hb.size
          obtain ⟨m0, m1, m2, m3⟩ := Ne.netBox_cells (Ne.netBox_below HX.out D4.out hwx)
          obtain ⟨n0, n1, n2, n3⟩ := Ne.netBox_cells (Ne.netBox_below HN.out D4.out hwn)
          obtain ⟨a0', a1', a2'⟩ := Ne.arcBox_cells (Ne.arcBox_below HA.out D4.out hwa)
          clear hb x4 X3
          have PA := Lib.hid (Rw.own_alloc P4.out (.cells #[.int .i64 (ml.length : Int)] 3))
          have QA := Lib.hid (Rw.own_alloc Q4.out (.cells #[.int .i64 (ml.length : Int)] 3))
          have EA := Lib.hid (E4.out.alloc E4.out.size (.cells #[.int .i64 (ml.length : Int)] 3))
          have IRA := Lib.hid (Ne.irow_one y4 (ml.length : Int))
          have LNA := Lib.hid (show pl.length + [(ml.length : Int)].length ≤ 1099511627776 by simp; omega)
          have HZA := Lib.hid (show (y4.alloc (.cells #[.int .i64 (ml.length : Int)] 3)).heap.size = y4.heap.size + 1 by simp)
          have hz42 : y2.heap.size ≤ y4.heap.size := E4.out.size
          go_wp2_with (first | (at_builtin; refine Rw.appAt Ne.elemI Ne.encI_len Ne.encI_one rfl (.tmp 68) (.tmp 72) rfl y2.heap.size _ pl rfl PA.out ⟨y4.heap.size, 0, none⟩ 1 [(ml.length : Int)] rfl IRA.out LNA.out ?hB ?_; (case hB => (have := HZA.out; omega)); intro vv y5 hown hgr hat; rw [← EO.out] at hown; have E5 := Lib.hid (EA.out.grown hgr (by have := HZA.out; omega) (fun g hg => (PB4.out g hg).1)); have Q5 := Lib.hid (Rw.own_grown QA.out hgr (fun g hg h => by have h1 := QB4.out g hg; have h2 := PB4.out g h.symm; omega)); have PF := Lib.hid (show ∀ g, vv.ownBlock = some g → g < y3.heap.size ∨ g = y4.heap.size + 1 from fun g hg => by rcases hat with h | h; (left; exact (PB4.out g (h.symm.trans hg)).2); (right; rw [h, HZA.out] at hg; exact (Option.some.inj hg).symm)); obtain ⟨q5, r5, hvv, _⟩ := Rw.own_row Ne.encI_len hown; subst hvv; have P5 := Lib.hid hown; have HG5 := Lib.hid hgr; have D5 := Lib.hid (D2.out.trans (E5.out.mono D2.out.size)); have hz54 : y4.heap.size + 1 ≤ y5.heap.size := (by have h1 := hgr.size; have h2 := HZA.out; omega); clear hown hgr hat; obtain ⟨m0, m1, m2, m3⟩ := Ne.netBox_cells (Ne.netBox_below HX.out D5.out hwx); obtain ⟨n0, n1, n2, n3⟩ := Ne.netBox_cells (Ne.netBox_below HN.out D5.out hwn); obtain ⟨a0', a1', a2'⟩ := Ne.arcBox_cells (Ne.arcBox_below HA.out D5.out hwa); have PA2 := Lib.hid (Rw.own_alloc P5.out (.cells #[.int .i64 (ml.length : Int)] 3)); have QA2 := Lib.hid (Rw.own_alloc Q5.out (.cells #[.int .i64 (ml.length : Int)] 3)); have EA2 := Lib.hid (E5.out.alloc E5.out.size (.cells #[.int .i64 (ml.length : Int)] 3)); have IRA2 := Lib.hid (Ne.irow_one y5 (ml.length : Int)); have LNA2 := Lib.hid (show ql.length + [(ml.length : Int)].length ≤ 1099511627776 by simp; omega); have HZA2 := Lib.hid (show (y5.alloc (.cells #[.int .i64 (ml.length : Int)] 3)).heap.size = y5.heap.size + 1 by simp); have hzc : y3.heap.size ≤ y5.heap.size := by omega) | (at_builtin; refine Rw.appAt Ne.elemI Ne.encI_len Ne.encI_one rfl (.tmp 78) (.tmp 82) rfl y3.heap.size _ ql rfl QA2.out ⟨y5.heap.size, 0, none⟩ 1 [(ml.length : Int)] rfl IRA2.out LNA2.out ?hB ?_; (case hB => (have := HZA2.out; omega)); intro vv y6 hown hgr hat; rw [← EI.out] at hown; have E6 := Lib.hid (EA2.out.grown hgr (by have := HZA2.out; omega) (fun g hg => Nat.le_trans hz32 (QB4.out g hg).1)); have P6 := Lib.hid (Rw.own_grown PA2.out hgr (fun g hg h => by have h1 := QB4.out g h.symm; have h2 := PF.out g hg; omega)); obtain ⟨q6, r6, hvv, _⟩ := Rw.own_row Ne.encI_len hown; subst hvv; have Q6 := Lib.hid hown; have D6 := Lib.hid (D2.out.trans (E6.out.mono D2.out.size)); clear hown hgr hat; obtain ⟨m0, m1, m2, m3⟩ := Ne.netBox_cells (Ne.netBox_below HX.out D6.out hwx); obtain ⟨n0, n1, n2, n3⟩ := Ne.netBox_cells (Ne.netBox_below HN.out D6.out hwn); obtain ⟨a0', a1', a2'⟩ := Ne.arcBox_cells (Ne.arcBox_below HA.out D6.out hwa)))
          refine (SO.out _ _ _ _ _ (X12.out.kept E6.out) (Ne.irow_own P6.out)).mono ?_
          rintro e y8 ⟨rfl, hb⟩
          have D8 := Lib.hid (D2.out.trans ((E6.out.trans (hb.mono E6.out.size)).mono D2.out.size))
          have E8 := Lib.hid hb
          clear hb
          go_wp2_with fail
          refine (SI.out _ _ _ _ _ ((X2.out.kept E6.out).kept E8.out) ((Ne.irow_own Q6.out).kept E8.out)).mono ?_
          rintro e y9 ⟨rfl, hb⟩
          have D9 := Lib.hid (D8.out.trans (hb.mono D8.out.size))
          clear hb
          go_wp2
          go_roundw
          case rel => exact ⟨v + 1, rfl, by omega, by omega, Lib.hid (Ne.netBox_below HX.out D9.out hwx), Lib.hid (Ne.netBox_below HN.out D9.out hwn), Lib.hid (Ne.arcBox_below HA.out D9.out hwa), Lib.hid (HF.out.kept D9.out), Lib.hid (HM.out.kept D9.out), Lib.hid (HB.out.trans (D9.out.mono HB.out.size))⟩
          case measure => simp [intOf]; omega
        · rw [if_neg h2] at ei
          subst ei
          have t2 : (v == 1 + p2) = false := by simp; omega
          clear h2
          go_wp2_with fail
          refine (OF.out _ HF.out).mono ?_
          rintro e y1 ⟨q1, r1, rfl, x1, hb⟩
          have D1 := Lib.hid hb
          have X1 := Lib.hid x1
          obtain ⟨m0, m1, m2, m3⟩ := Ne.netBox_cells (Ne.netBox_below HX.out D1.out hwx)
          obtain ⟨n0, n1, n2, n3⟩ := Ne.netBox_cells (Ne.netBox_below HN.out D1.out hwn)
          obtain ⟨a0', a1', a2'⟩ := Ne.arcBox_cells (Ne.arcBox_below HA.out D1.out hwa)
          clear hb x1
          go_wp2_with fail
          refine (IF.out _ (HF.out.kept D1.out)).mono ?_
          rintro e y2 ⟨q2, r2, rfl, x2, hb⟩
          have D2 := Lib.hid (D1.out.trans (hb.mono D1.out.size))
          have X12 := Lib.hid (X1.out.kept hb)
          have X2 := Lib.hid x2
          obtain ⟨m0, m1, m2, m3⟩ := Ne.netBox_cells (Ne.netBox_below HX.out D2.out hwx)
          obtain ⟨n0, n1, n2, n3⟩ := Ne.netBox_cells (Ne.netBox_below HN.out D2.out hwn)
          obtain ⟨a0', a1', a2'⟩ := Ne.arcBox_cells (Ne.arcBox_below HA.out D2.out hwa)
          clear hb x2 X1
          go_wp2_with fail
          refine (OM.out _ (HM.out.kept D2.out)).mono ?_
          rintro e y3 ⟨q3, r3, rfl, x3, hb⟩
          have D3 := Lib.hid (D2.out.trans (hb.mono D2.out.size))
          have E3 := Lib.hid hb
          have X3 := Lib.hid x3
          obtain ⟨m0, m1, m2, m3⟩ := Ne.netBox_cells (Ne.netBox_below HX.out D3.out hwx)
          obtain ⟨n0, n1, n2, n3⟩ := Ne.netBox_cells (Ne.netBox_below HN.out D3.out hwn)
          obtain ⟨a0', a1', a2'⟩ := Ne.arcBox_cells (Ne.arcBox_below HA.out D3.out hwa)
          clear hb x3
          go_wp2_with fail
          refine (IM.out _ (HM.out.kept D3.out)).mono ?_
          rintro e y4 ⟨q4, r4, rfl, x4, hb⟩
          have D4 := Lib.hid (D3.out.trans (hb.mono D3.out.size))
          have E4 := Lib.hid (E3.out.trans (hb.mono E3.out.size))
          have P4 := Lib.hid (Rw.own_below X3.out hb)
          have Q4 := Lib.hid x4
          have PB4 := Lib.hid (show ∀ g, (Value.slice q3 pl.length r3).ownBlock = some g → y2.heap.size ≤ g ∧ g < y3.heap.size from Rw.own_lt X3.out)
          have QB4 := Lib.hid (show ∀ g, (Value.slice q4 il.length r4).ownBlock = some g → y3.heap.size ≤ g ∧ g < y4.heap.size from Rw.own_lt x4)
          have hz32 : y2.heap.size ≤ y3.heap.size := E3.out.size
          have hz43 : y3.heap.size ≤ y4.heap.size := hb.size
          obtain ⟨m0, m1, m2, m3⟩ := Ne.netBox_cells (Ne.netBox_below HX.out D4.out hwx)
          obtain ⟨n0, n1, n2, n3⟩ := Ne.netBox_cells (Ne.netBox_below HN.out D4.out hwn)
          obtain ⟨a0', a1', a2'⟩ := Ne.arcBox_cells (Ne.arcBox_below HA.out D4.out hwa)
          clear hb x4 X3
          have PA := Lib.hid (Rw.own_alloc P4.out (.cells #[.int .i64 (ml.length : Int)] 3))
          have QA := Lib.hid (Rw.own_alloc Q4.out (.cells #[.int .i64 (ml.length : Int)] 3))
          have EA := Lib.hid (E4.out.alloc E4.out.size (.cells #[.int .i64 (ml.length : Int)] 3))
          have IRA := Lib.hid (Ne.irow_one y4 (ml.length : Int))
          have LNA := Lib.hid (show pl.length + [(ml.length : Int)].length ≤ 1099511627776 by simp; omega)
          have HZA := Lib.hid (show (y4.alloc (.cells #[.int .i64 (ml.length : Int)] 3)).heap.size = y4.heap.size + 1 by simp)
          have hz42 : y2.heap.size ≤ y4.heap.size := E4.out.size
          go_wp2_with (at_builtin; refine Rw.appAt Ne.elemI Ne.encI_len Ne.encI_one rfl (.tmp 68) (.tmp 72) rfl y2.heap.size _ pl rfl PA.out ⟨y4.heap.size, 0, none⟩ 1 [(ml.length : Int)] rfl IRA.out LNA.out ?hB ?_; (case hB => (have := HZA.out; omega)); intro vv y5 hown hgr hat; rw [← EO.out] at hown; have E5 := Lib.hid (EA.out.grown hgr (by have := HZA.out; omega) (fun g hg => (PB4.out g hg).1)); have Q5 := Lib.hid (Rw.own_grown QA.out hgr (fun g hg h => by have h1 := QB4.out g hg; have h2 := PB4.out g h.symm; omega)); have PF := Lib.hid (show ∀ g, vv.ownBlock = some g → g < y3.heap.size ∨ g = y4.heap.size + 1 from fun g hg => by rcases hat with h | h; (left; exact (PB4.out g (h.symm.trans hg)).2); (right; rw [h, HZA.out] at hg; exact (Option.some.inj hg).symm)); obtain ⟨q5, r5, hvv, _⟩ := Rw.own_row Ne.encI_len hown; subst hvv; have P5 := Lib.hid hown; have HG5 := Lib.hid hgr; have D5 := Lib.hid (D2.out.trans (E5.out.mono D2.out.size)); have hz54 : y4.heap.size + 1 ≤ y5.heap.size := (by have h1 := hgr.size; have h2 := HZA.out; omega); clear hown hgr hat; obtain ⟨m0, m1, m2, m3⟩ := Ne.netBox_cells (Ne.netBox_below HX.out D5.out hwx); obtain ⟨n0, n1, n2, n3⟩ := Ne.netBox_cells (Ne.netBox_below HN.out D5.out hwn); obtain ⟨a0', a1', a2'⟩ := Ne.arcBox_cells (Ne.arcBox_below HA.out D5.out hwa))
          refine (SO.out _ _ _ _ _ (X12.out.kept E5.out) (Ne.irow_own P5.out)).mono ?_
          rintro e y8 ⟨rfl, hb⟩
          have D8 := Lib.hid (D2.out.trans ((E5.out.trans (hb.mono E5.out.size)).mono D2.out.size))
          have E8 := Lib.hid hb
          clear hb
          go_wp2_with fail
          refine (SI.out _ _ _ _ _ ((X2.out.kept E5.out).kept E8.out) ((Ne.irow_own Q5.out).kept E8.out)).mono ?_
          rintro e y9 ⟨rfl, hb⟩
          have D9 := Lib.hid (D8.out.trans (hb.mono D8.out.size))
          clear hb
          go_wp2
          go_roundw
          case rel => exact ⟨v + 1, rfl, by omega, by omega, Lib.hid (Ne.netBox_below HX.out D9.out hwx), Lib.hid (Ne.netBox_below HN.out D9.out hwn), Lib.hid (Ne.arcBox_below HA.out D9.out hwa), Lib.hid (HF.out.kept D9.out), Lib.hid (HM.out.kept D9.out), Lib.hid (HB.out.trans (D9.out.mono HB.out.size))⟩
          case measure => simp [intOf]; omega
      · rw [if_neg h1] at eo
        subst eo
        have t1 : (v == 1 + p1) = false := by simp; omega
        clear h1
        by_cases h2 : 1 + p2 = v
        · rw [if_pos h2] at ei
          have EI := Lib.hid ei
          have t2 : (v == 1 + p2) = true := by simp [h2]
          clear ei h2
          go_wp2_with fail
          refine (OF.out _ HF.out).mono ?_
          rintro e y1 ⟨q1, r1, rfl, x1, hb⟩
          have D1 := Lib.hid hb
          have X1 := Lib.hid x1
          obtain ⟨m0, m1, m2, m3⟩ := Ne.netBox_cells (Ne.netBox_below HX.out D1.out hwx)
          obtain ⟨n0, n1, n2, n3⟩ := Ne.netBox_cells (Ne.netBox_below HN.out D1.out hwn)
          obtain ⟨a0', a1', a2'⟩ := Ne.arcBox_cells (Ne.arcBox_below HA.out D1.out hwa)
          clear hb x1
          go_wp2_with fail
          refine (IF.out _ (HF.out.kept D1.out)).mono ?_
          rintro e y2 ⟨q2, r2, rfl, x2, hb⟩
          have D2 := Lib.hid (D1.out.trans (hb.mono D1.out.size))
          have X12 := Lib.hid (X1.out.kept hb)
          have X2 := Lib.hid x2
          obtain ⟨m0, m1, m2, m3⟩ := Ne.netBox_cells (Ne.netBox_below HX.out D2.out hwx)
          obtain ⟨n0, n1, n2, n3⟩ := Ne.netBox_cells (Ne.netBox_below HN.out D2.out hwn)
          obtain ⟨a0', a1', a2'⟩ := Ne.arcBox_cells (Ne.arcBox_below HA.out D2.out hwa)
          clear hb x2 X1
          go_wp2_with fail
          refine (OM.out _ (HM.out.kept D2.out)).mono ?_
          rintro e y3 ⟨q3, r3, rfl, x3, hb⟩
          have D3 := Lib.hid (D2.out.trans (hb.mono D2.out.size))
          have E3 := Lib.hid hb
          have X3 := Lib.hid x3
          obtain ⟨m0, m1, m2, m3⟩ := Ne.netBox_cells (Ne.netBox_below HX.out D3.out hwx)
          obtain ⟨n0, n1, n2, n3⟩ := Ne.netBox_cells (Ne.netBox_below HN.out D3.out hwn)
          obtain ⟨a0', a1', a2'⟩ := Ne.arcBox_cells (Ne.arcBox_below HA.out D3.out hwa)
          clear hb x3
          go_wp2_with fail
          refine (IM.out _ (HM.out.kept D3.out)).mono ?_
          rintro e y4 ⟨q4, r4, rfl, x4, hb⟩
          have D4 := Lib.hid (D3.out.trans (hb.mono D3.out.size))
          have E4 := Lib.hid (E3.out.trans (hb.mono E3.out.size))
          have P4 := Lib.hid (Rw.own_below X3.out hb)
          have Q4 := Lib.hid x4
          have PB4 := Lib.hid (show ∀ g, (Value.slice q3 ol.length r3).ownBlock = some g → y2.heap.size ≤ g ∧ g < y3.heap.size from Rw.own_lt X3.out)
          have QB4 := Lib.hid (show ∀ g, (Value.slice q4 ql.length r4).ownBlock = some g → y3.heap.size ≤ g ∧ g < y4.heap.size from Rw.own_lt x4)
          have hz32 : y2.heap.size ≤ y3.heap.size := E3.out.size
          have hz43 : y3.heap.size ≤ y4.heap.size := hb.size
          obtain ⟨m0, m1, m2, m3⟩ := Ne.netBox_cells (Ne.netBox_below HX.out D4.out hwx)
          obtain ⟨n0, n1, n2, n3⟩ := Ne.netBox_cells (Ne.netBox_below HN.out D4.out hwn)
          obtain ⟨a0', a1', a2'⟩ := Ne.arcBox_cells (Ne.arcBox_below HA.out D4.out hwa)
          clear hb x4 X3
          have PA2 := Lib.hid (Rw.own_alloc P4.out (.cells #[.int .i64 (ml.length : Int)] 3))
          have QA2 := Lib.hid (Rw.own_alloc Q4.out (.cells #[.int .i64 (ml.length : Int)] 3))
          have EA2 := Lib.hid (E4.out.alloc E4.out.size (.cells #[.int .i64 (ml.length : Int)] 3))
          have IRA2 := Lib.hid (Ne.irow_one y4 (ml.length : Int))
          have LNA2 := Lib.hid (show ql.length + [(ml.length : Int)].length ≤ 1099511627776 by simp; omega)
          have HZA2 := Lib.hid (show (y4.alloc (.cells #[.int .i64 (ml.length : Int)] 3)).heap.size = y4.heap.size + 1 by simp)
          have hzc : y3.heap.size ≤ y4.heap.size := by omega
          go_wp2_with (at_builtin; refine Rw.appAt Ne.elemI Ne.encI_len Ne.encI_one rfl (.tmp 78) (.tmp 82) rfl y3.heap.size _ ql rfl QA2.out ⟨y4.heap.size, 0, none⟩ 1 [(ml.length : Int)] rfl IRA2.out LNA2.out ?hB ?_; (case hB => (have := HZA2.out; omega)); intro vv y6 hown hgr hat; rw [← EI.out] at hown; have E6 := Lib.hid (EA2.out.grown hgr (by have := HZA2.out; omega) (fun g hg => Nat.le_trans hz32 (QB4.out g hg).1)); have P6 := Lib.hid (Rw.own_grown PA2.out hgr (fun g hg h => by have h1 := QB4.out g h.symm; have h2 := PB4.out g hg; omega)); obtain ⟨q6, r6, hvv, _⟩ := Rw.own_row Ne.encI_len hown; subst hvv; have Q6 := Lib.hid hown; have D6 := Lib.hid (D2.out.trans (E6.out.mono D2.out.size)); clear hown hgr hat; obtain ⟨m0, m1, m2, m3⟩ := Ne.netBox_cells (Ne.netBox_below HX.out D6.out hwx); obtain ⟨n0, n1, n2, n3⟩ := Ne.netBox_cells (Ne.netBox_below HN.out D6.out hwn); obtain ⟨a0', a1', a2'⟩ := Ne.arcBox_cells (Ne.arcBox_below HA.out D6.out hwa))
          refine (SO.out _ _ _ _ _ (X12.out.kept E6.out) (Ne.irow_own P6.out)).mono ?_
          rintro e y8 ⟨rfl, hb⟩
          have D8 := Lib.hid (D2.out.trans ((E6.out.trans (hb.mono E6.out.size)).mono D2.out.size))
          have E8 := Lib.hid hb
          clear hb
          go_wp2_with fail
          refine (SI.out _ _ _ _ _ ((X2.out.kept E6.out).kept E8.out) ((Ne.irow_own Q6.out).kept E8.out)).mono ?_
          rintro e y9 ⟨rfl, hb⟩
          have D9 := Lib.hid (D8.out.trans (hb.mono D8.out.size))
          clear hb
          go_wp2
          go_roundw
          case rel => exact ⟨v + 1, rfl, by omega, by omega, Lib.hid (Ne.netBox_below HX.out D9.out hwx), Lib.hid (Ne.netBox_below HN.out D9.out hwn), Lib.hid (Ne.arcBox_below HA.out D9.out hwa), Lib.hid (HF.out.kept D9.out), Lib.hid (HM.out.kept D9.out), Lib.hid (HB.out.trans (D9.out.mono HB.out.size))⟩
          case measure => simp [intOf]; omega
        · rw [if_neg h2] at ei
          subst ei
          have t2 : (v == 1 + p2) = false := by simp; omega
          clear h2
          go_wp2_with fail
          refine (OF.out _ HF.out).mono ?_
          rintro e y1 ⟨q1, r1, rfl, x1, hb⟩
          have D1 := Lib.hid hb
          have X1 := Lib.hid x1
          obtain ⟨m0, m1, m2, m3⟩ := Ne.netBox_cells (Ne.netBox_below HX.out D1.out hwx)
          obtain ⟨n0, n1, n2, n3⟩ := Ne.netBox_cells (Ne.netBox_below HN.out D1.out hwn)
          obtain ⟨a0', a1', a2'⟩ := Ne.arcBox_cells (Ne.arcBox_below HA.out D1.out hwa)
          clear hb x1
          go_wp2_with fail
          refine (IF.out _ (HF.out.kept D1.out)).mono ?_
          rintro e y2 ⟨q2, r2, rfl, x2, hb⟩
          have D2 := Lib.hid (D1.out.trans (hb.mono D1.out.size))
          have X12 := Lib.hid (X1.out.kept hb)
          have X2 := Lib.hid x2
          obtain ⟨m0, m1, m2, m3⟩ := Ne.netBox_cells (Ne.netBox_below HX.out D2.out hwx)
          obtain ⟨n0, n1, n2, n3⟩ := Ne.netBox_cells (Ne.netBox_below HN.out D2.out hwn)
          obtain ⟨a0', a1', a2'⟩ := Ne.arcBox_cells (Ne.arcBox_below HA.out D2.out hwa)
          clear hb x2 X1
          go_wp2_with fail
          refine (OM.out _ (HM.out.kept D2.out)).mono ?_
          rintro e y3 ⟨q3, r3, rfl, x3, hb⟩
          have D3 := Lib.hid (D2.out.trans (hb.mono D2.out.size))
          have E3 := Lib.hid hb
          have X3 := Lib.hid x3
          obtain ⟨m0, m1, m2, m3⟩ := Ne.netBox_cells (Ne.netBox_below HX.out D3.out hwx)
          obtain ⟨n0, n1, n2, n3⟩ := Ne.netBox_cells (Ne.netBox_below HN.out D3.out hwn)
          obtain ⟨a0', a1', a2'⟩ := Ne.arcBox_cells (Ne.arcBox_below HA.out D3.out hwa)
          clear hb x3
          go_wp2_with fail
          refine (IM.out _ (HM.out.kept D3.out)).mono ?_
          rintro e y4 ⟨q4, r4, rfl, x4, hb⟩
          have D4 := Lib.hid (D3.out.trans (hb.mono D3.out.size))
          have E4 := Lib.hid (E3.out.trans (hb.mono E3.out.size))
          have P4 := Lib.hid (Rw.own_below X3.out hb)
          have Q4 := Lib.hid x4
          have PB4 := Lib.hid (show ∀ g, (Value.slice q3 ol.length r3).ownBlock = some g → y2.heap.size ≤ g ∧ g < y3.heap.size from Rw.own_lt X3.out)
          have QB4 := Lib.hid (show ∀ g, (Value.slice q4 il.length r4).ownBlock = some g → y3.heap.size ≤ g ∧ g < y4.heap.size from Rw.own_lt x4)
          have hz32 : y2.heap.size ≤ y3.heap.size := E3.out.size
          have hz43 : y3.heap.size ≤ y4.heap.size := hb.size
          obtain ⟨m0, m1, m2, m3⟩ := Ne.netBox_cells (Ne.netBox_below HX.out D4.out hwx)
          obtain ⟨n0, n1, n2, n3⟩ := Ne.netBox_cells (Ne.netBox_below HN.out D4.out hwn)
          obtain ⟨a0', a1', a2'⟩ := Ne.arcBox_cells (Ne.arcBox_below HA.out D4.out hwa)
          clear hb x4 X3
          go_wp2_with fail
          refine (SO.out _ _ _ _ _ (X12.out.kept E4.out) (Ne.irow_own P4.out)).mono ?_
          rintro e y8 ⟨rfl, hb⟩
          have D8 := Lib.hid (D2.out.trans ((E4.out.trans (hb.mono E4.out.size)).mono D2.out.size))
          have E8 := Lib.hid hb
          clear hb
          go_wp2_with fail
          refine (SI.out _ _ _ _ _ ((X2.out.kept E4.out).kept E8.out) ((Ne.irow_own Q4.out).kept E8.out)).mono ?_
          rintro e y9 ⟨rfl, hb⟩
          have D9 := Lib.hid (D8.out.trans (hb.mono D8.out.size))
          clear hb
          go_wp2
          go_roundw
          case rel => exact ⟨v + 1, rfl, by omega, by omega, Lib.hid (Ne.netBox_below HX.out D9.out hwx), Lib.hid (Ne.netBox_below HN.out D9.out hwn), Lib.hid (Ne.arcBox_below HA.out D9.out hwa), Lib.hid (HF.out.kept D9.out), Lib.hid (HM.out.kept D9.out), Lib.hid (HB.out.trans (D9.out.mono HB.out.size))⟩
          case measure => simp [intOf]; omega
    · have hnl : ¬ v ≤ mn := hlt
      go_wp2
      go_ret
      exact ⟨rfl, HB.out⟩

end Go.Proofs.Ytpoflbnmfoamhaa.netDegrees
