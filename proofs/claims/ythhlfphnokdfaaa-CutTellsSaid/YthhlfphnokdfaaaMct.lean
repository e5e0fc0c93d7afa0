/-
  Contract of the developers' markCut. Condition: at most a million arcs. (Written by wip/tools/gen-Mct.py.)
-/
import Derived.Test.YthhlfphnokdfaaaMkb
import Derived.Test.YthhlfphnokdfaaaCtr
import Derived.Test.YthhlfphnokdfaaaFchk
import Derived.Test.YthhlfphnokdfaaaEnd
import Derived.Test.YthhlfphnokdfaaaRes6
namespace Go.Proofs.Ythhlfphnokdfaaa
open Go.ChangeShapes Go.WideShapes Go.ChangeAt Go.RowKit
set_option linter.unusedVariables false
set_option linter.unusedSimpArgs false
namespace Ne
/-- what comes of marking a cut's nodes -/
structure Marked (n : Net) (S : List Int) (B : Nat) (w : World) (v : Value) : Prop where
  bad : cutE n S ≠ 0 → v = .map none
  good : cutE n S = 0 → ∃ b k, v = .map (some b) ∧ B ≤ b ∧ MkBox w b k fun x => hasL S (x : Int)
set_option maxRecDepth 100000 in
set_option maxHeartbeats 4000000 in
theorem mark_any (n : Net) (ao : Option Addr) (cap : Nat) (so : Option Addr) (sc : Nat) (S : List Int) (w : World) (hr : ARow w ao n.l) (hs : IRow w so S) (hl : n.l.length ≤ 1000000) (hok : ∀ a ∈ n.l, in64 a.cap) :
    Calls Try.prog 25 #[encN n ao cap, .slice so S.length sc] w fun e w' => ∃ v, e = .returned (.tuple #[v, .int .i64 (cutE n S)]) ∧ Marked n S w.heap.size w' v ∧ Below w.heap.size w w' := by
  have CK := Lib.hid (fun (w' : World) (b : Nat) (h1 : ARow w' ao n.l) (h2 : LBox w' b (List.replicate n.l.length 0)) => show Calls Try.prog 39 #[encN n ao cap, .slice (some ⟨b, 0, none⟩) n.l.length n.l.length] w' fun e w2 => e = .returned (.int .i64 (checkN n)) ∧ Below w'.heap.size w' w2 by
    have := fchk_any n ao cap (some ⟨b, 0, none⟩) n.l.length (List.replicate n.l.length 0) w' h1 h2.irow hl hok
    rw [chkF_nought, List.length_replicate] at this
    exact this)
  have hmk := make_l n.l.length hl
  by_cases c0 : checkN n = 0
  case neg =>
    have HE := Lib.hid (cutE_net S c0)
    have HM := Lib.hid (show ∀ w', Marked n S w.heap.size w' (.map none) from fun w' => ⟨fun _ => rfl, fun h => absurd h (by rw [HE.out]; exact c0)⟩)
    generalize hMK : Marked n S w.heap.size = MK at *
    clear hMK
    generalize cutE n S = ce at *
    generalize checkN n = c at *
    have c1 : (c == 0) = false := by simpa using c0
    have c1n : (c != 0) = true := by simpa using c0
    clear hs c0 hok
    obtain ⟨nn, ns, nt, l⟩ := n
    simp only at hr hl CK hmk ⊢
    have HNB := Lib.hid (netBox_new w nn ns nt (.slice ao l.length cap))
    have HB0 := Lib.hid ((Below.refl w.heap.size w).alloc (Nat.le_refl _) (.cells #[.int .i64 nn, .int .i64 ns, .int .i64 nt, .slice ao l.length cap] 24))
    have HR := Lib.hid hr
    clear hr
    obtain ⟨n0, n1, n2, n3⟩ := netBox_cells HNB.out
    have hmm := @run_makeMap Try.prog
    go_enter Try.func25, Try.ntmps25
    go_wp2
    generalize hW0 : (w.alloc (.cells #[.int .i64 nn, .int .i64 ns, .int .i64 nt, .slice ao l.length cap] 24)) = W0 at *
    have HBZ := Lib.hid (show Below w.heap.size w (W0.alloc (.cells (madeCells #[.int .i64 0] l.length) 2)).drew from below_drew (HB0.out.alloc HB0.out.size _))
    have HNZ := Lib.hid (show NetBox (W0.alloc (.cells (madeCells #[.int .i64 0] l.length) 2)).drew w.heap.size nn ns nt (.slice ao l.length cap) from netBox_alloc HNB.out _)
    have HLB := Lib.hid (show LBox (W0.alloc (.cells (madeCells #[.int .i64 0] l.length) 2)).drew W0.heap.size (List.replicate l.length 0) from lbox_made W0 l.length rfl)
    clear hW0
    have hS0 := (show (fun w' : World => w'.cell? ⟨w.heap.size, 0, none⟩ = some (.int .i64 nn) ∧ w'.cell? ⟨w.heap.size, 1, none⟩ = some (.int .i64 ns) ∧ w'.cell? ⟨w.heap.size, 2, none⟩ = some (.int .i64 nt) ∧ w'.cell? ⟨w.heap.size, 3, none⟩ = some (.slice ao l.length cap)) W0.drew from ⟨n0, n1, n2, n3⟩)
    have hS1 := (show (fun w' : World => w'.cell? ⟨w.heap.size, 0, none⟩ = some (.int .i64 nn) ∧ w'.cell? ⟨w.heap.size, 1, none⟩ = some (.int .i64 ns) ∧ w'.cell? ⟨w.heap.size, 2, none⟩ = some (.int .i64 nt) ∧ w'.cell? ⟨w.heap.size, 3, none⟩ = some (.slice ao l.length cap)) (W0.alloc (.cells (madeCells #[.int .i64 0] l.length) 2)).drew from ⟨held_new n0, held_new n1, held_new n2, held_new n3⟩)
    refine Rh.start (S := (fun w' : World => w'.cell? ⟨w.heap.size, 0, none⟩ = some (.int .i64 nn) ∧ w'.cell? ⟨w.heap.size, 1, none⟩ = some (.int .i64 ns) ∧ w'.cell? ⟨w.heap.size, 2, none⟩ = some (.int .i64 nt) ∧ w'.cell? ⟨w.heap.size, 3, none⟩ = some (.slice ao l.length cap))) (by kernel_rfl) ?_
    refine Rh.take (some 11) (i := 0) (v := ?_) rfl (by kernel_rfl) (by kernel_rfl) (by kernel_rfl) (by kernel_rfl) (fun _ _ _ h => h) (Or.inl ⟨by rfl, ?_⟩) hS0 ?_
    rotate_left
    · intro w hSw
      go_simp
      try with_reducible rfl
    try simp only [Act.put, List.setIfInBounds_toArray, List.set_cons_zero, List.set_cons_succ]
    refine Rh.take (some 12) (i := 1) (v := ?_) rfl (by kernel_rfl) (by kernel_rfl) (by kernel_rfl) (by kernel_rfl) (fun _ _ _ h => h) (Or.inl ⟨by rfl, ?_⟩) hS0 ?_
    rotate_left
    · intro w hSw
      go_simp
      try with_reducible rfl
    try simp only [Act.put, List.setIfInBounds_toArray, List.set_cons_zero, List.set_cons_succ]
    refine Rh.take (some 13) (i := 2) (v := ?_) rfl (by kernel_rfl) (by kernel_rfl) (by kernel_rfl) (by kernel_rfl) (fun _ _ _ h => h) (Or.inl ⟨by rfl, ?_⟩) hS0 ?_
    rotate_left
    · intro w hSw
      go_simp
      try with_reducible rfl
    try simp only [Act.put, List.setIfInBounds_toArray, List.set_cons_zero, List.set_cons_succ]
    refine Rh.take (some 14) (i := 3) (v := ?_) rfl (by kernel_rfl) (by kernel_rfl) (by kernel_rfl) (by kernel_rfl) (fun _ _ _ h => h) (Or.inl ⟨by rfl, ?_⟩) hS0 ?_
    rotate_left
    · intro w hSw
      go_simp
      try with_reducible rfl
    try simp only [Act.put, List.setIfInBounds_toArray, List.set_cons_zero, List.set_cons_succ]
    refine Rh.step (i := 4) (by kernel_rfl) rfl fun K' hK' => ?_
    have HK := Lib.hid hK'
    clear hK'
    go_simp
    refine HK.out _ _ ⟨hS1, ?_⟩
    clear HK K'
    try simp only [Act.put, List.setIfInBounds_toArray, List.set_cons_zero, List.set_cons_succ]
    refine Rh.step (i := 5) (by kernel_rfl) rfl fun K' hK' => ?_
    have HK := Lib.hid hK'
    clear hK'
    go_simp
    refine (CK.out _ W0.heap.size (HR.out.kept HBZ.out) HLB.out).mono ?_
    rintro e w3 ⟨rfl, hb⟩
    have HB3 := Lib.hid (HBZ.out.trans (hb.mono HBZ.out.size))
    have HN3 := Lib.hid (netBox_below HNZ.out hb (netBox_lt HNZ.out))
    have hS2 := (show (fun w' : World => w'.cell? ⟨w.heap.size, 0, none⟩ = some (.int .i64 nn) ∧ w'.cell? ⟨w.heap.size, 1, none⟩ = some (.int .i64 ns) ∧ w'.cell? ⟨w.heap.size, 2, none⟩ = some (.int .i64 nt) ∧ w'.cell? ⟨w.heap.size, 3, none⟩ = some (.slice ao l.length cap)) w3 from netBox_cells HN3.out)
    clear hb
    refine HK.out _ _ ⟨hS2, ?_⟩
    clear HK K'
    try simp only [Act.put, List.setIfInBounds_toArray, List.set_cons_zero, List.set_cons_succ]
    refine Rh.take (some 6) (i := 6) (v := ?_) rfl (by kernel_rfl) (by kernel_rfl) (by kernel_rfl) (by kernel_rfl) (fun _ _ _ h => h) (Or.inl ⟨by rfl, ?_⟩) hS2 ?_
    rotate_left
    · intro w hSw
      go_simp
      try with_reducible rfl
    try simp only [Act.put, List.setIfInBounds_toArray, List.set_cons_zero, List.set_cons_succ]
    refine Rh.done (by kernel_rfl) ?_ _
    go_wp2
    go_ret2
    exact ⟨.map none, ret2w HE.out.symm, HM.out _, HB3.out⟩
  have hR := right_of c0
  have hN0 := hR.n0
  have hN1 := hR.n1
  have hS0' := hR.s0
  have hS1' := hR.s1
  have hT0' := hR.t0
  have hT1' := hR.t1
  rw [c0] at CK
  have HBAD := Lib.hid (show ∀ w', cutE n S ≠ 0 → Marked n S w.heap.size w' (.map none) from fun w' h => ⟨fun _ => rfl, fun h2 => absurd h2 h⟩)
  have HGOOD := Lib.hid (show ∀ w' b k, cutE n S = 0 → w.heap.size ≤ b → MkBox w' b k (fun x => hasL S (x : Int)) → Marked n S w.heap.size w' (.map (some b)) from fun w' b k h h1 h2 => ⟨fun h3 => absurd h h3, fun _ => ⟨b, k, rfl, h1, h2⟩⟩)
  have HARG := Lib.hid (show ¬ Rises n.n S → cutE n S = 1 from fun h => cutE_arg c0 h)
  have HEND := Lib.hid (show Rises n.n S → (hasL S n.s = false ∨ hasL S n.t = true) → cutE n S = 9 from fun h h2 => cutE_end c0 h h2)
  have HOK := Lib.hid (show Rises n.n S → hasL S n.s = true → hasL S n.t = false → cutE n S = 0 from fun h h2 h3 => cutE_fine c0 h h2 h3)
  generalize hMK : Marked n S w.heap.size = MK at *
  clear hMK
  generalize cutE n S = ce at *
  have HS := Lib.hid hs
  clear hs hok c0 hR
  obtain ⟨nn, ns, nt, l⟩ := n
  simp only at hr hl CK hmk ⊢
  have HNB := Lib.hid (netBox_new w nn ns nt (.slice ao l.length cap))
  have HB0 := Lib.hid ((Below.refl w.heap.size w).alloc (Nat.le_refl _) (.cells #[.int .i64 nn, .int .i64 ns, .int .i64 nt, .slice ao l.length cap] 24))
  have HR := Lib.hid hr
  clear hr
  obtain ⟨n0, n1, n2, n3⟩ := netBox_cells HNB.out
  have hmm := @run_makeMap Try.prog
  go_enter Try.func25, Try.ntmps25
  go_wp2
  generalize hW0 : (w.alloc (.cells #[.int .i64 nn, .int .i64 ns, .int .i64 nt, .slice ao l.length cap] 24)) = W0 at *
  have HBZ := Lib.hid (show Below w.heap.size w (W0.alloc (.cells (madeCells #[.int .i64 0] l.length) 2)).drew from below_drew (HB0.out.alloc HB0.out.size _))
  have HNZ := Lib.hid (show NetBox (W0.alloc (.cells (madeCells #[.int .i64 0] l.length) 2)).drew w.heap.size nn ns nt (.slice ao l.length cap) from netBox_alloc HNB.out _)
  have HLB := Lib.hid (show LBox (W0.alloc (.cells (madeCells #[.int .i64 0] l.length) 2)).drew W0.heap.size (List.replicate l.length 0) from lbox_made W0 l.length rfl)
  clear hW0
  try simp only at hN0 hN1 hS0' hS1' hT0' hT1' HARG HEND HOK
  obtain ⟨N, rfl⟩ : ∃ N : Nat, nn = (N : Int) := ⟨nn.toNat, by omega⟩
  obtain ⟨s, rfl⟩ : ∃ s : Nat, ns = (s : Int) := ⟨ns.toNat, by omega⟩
  obtain ⟨t, rfl⟩ : ∃ t : Nat, nt = (t : Int) := ⟨nt.toNat, by omega⟩
  have hS0 := (show (fun w' : World => w'.cell? ⟨w.heap.size, 0, none⟩ = some (.int .i64 (N : Int)) ∧ w'.cell? ⟨w.heap.size, 1, none⟩ = some (.int .i64 (s : Int)) ∧ w'.cell? ⟨w.heap.size, 2, none⟩ = some (.int .i64 (t : Int)) ∧ w'.cell? ⟨w.heap.size, 3, none⟩ = some (.slice ao l.length cap)) W0.drew from ⟨n0, n1, n2, n3⟩)
  have hS1 := (show (fun w' : World => w'.cell? ⟨w.heap.size, 0, none⟩ = some (.int .i64 (N : Int)) ∧ w'.cell? ⟨w.heap.size, 1, none⟩ = some (.int .i64 (s : Int)) ∧ w'.cell? ⟨w.heap.size, 2, none⟩ = some (.int .i64 (t : Int)) ∧ w'.cell? ⟨w.heap.size, 3, none⟩ = some (.slice ao l.length cap)) (W0.alloc (.cells (madeCells #[.int .i64 0] l.length) 2)).drew from ⟨held_new n0, held_new n1, held_new n2, held_new n3⟩)
  refine Rh.start (S := (fun w' : World => w'.cell? ⟨w.heap.size, 0, none⟩ = some (.int .i64 (N : Int)) ∧ w'.cell? ⟨w.heap.size, 1, none⟩ = some (.int .i64 (s : Int)) ∧ w'.cell? ⟨w.heap.size, 2, none⟩ = some (.int .i64 (t : Int)) ∧ w'.cell? ⟨w.heap.size, 3, none⟩ = some (.slice ao l.length cap))) (by kernel_rfl) ?_
  refine Rh.take (some 11) (i := 0) (v := ?_) rfl (by kernel_rfl) (by kernel_rfl) (by kernel_rfl) (by kernel_rfl) (fun _ _ _ h => h) (Or.inl ⟨by rfl, ?_⟩) hS0 ?_
  rotate_left
  · intro w hSw
    go_simp
    try with_reducible rfl
  try simp only [Act.put, List.setIfInBounds_toArray, List.set_cons_zero, List.set_cons_succ]
  refine Rh.take (some 12) (i := 1) (v := ?_) rfl (by kernel_rfl) (by kernel_rfl) (by kernel_rfl) (by kernel_rfl) (fun _ _ _ h => h) (Or.inl ⟨by rfl, ?_⟩) hS0 ?_
  rotate_left
  · intro w hSw
    go_simp
    try with_reducible rfl
  try simp only [Act.put, List.setIfInBounds_toArray, List.set_cons_zero, List.set_cons_succ]
  refine Rh.take (some 13) (i := 2) (v := ?_) rfl (by kernel_rfl) (by kernel_rfl) (by kernel_rfl) (by kernel_rfl) (fun _ _ _ h => h) (Or.inl ⟨by rfl, ?_⟩) hS0 ?_
  rotate_left
  · intro w hSw
    go_simp
    try with_reducible rfl
  try simp only [Act.put, List.setIfInBounds_toArray, List.set_cons_zero, List.set_cons_succ]
  refine Rh.take (some 14) (i := 3) (v := ?_) rfl (by kernel_rfl) (by kernel_rfl) (by kernel_rfl) (by kernel_rfl) (fun _ _ _ h => h) (Or.inl ⟨by rfl, ?_⟩) hS0 ?_
  rotate_left
  · intro w hSw
    go_simp
    try with_reducible rfl
  try simp only [Act.put, List.setIfInBounds_toArray, List.set_cons_zero, List.set_cons_succ]
  refine Rh.step (i := 4) (by kernel_rfl) rfl fun K' hK' => ?_
  have HK := Lib.hid hK'
  clear hK'
  go_simp
  refine HK.out _ _ ⟨hS1, ?_⟩
  clear HK K'
  try simp only [Act.put, List.setIfInBounds_toArray, List.set_cons_zero, List.set_cons_succ]
  refine Rh.step (i := 5) (by kernel_rfl) rfl fun K' hK' => ?_
  have HK := Lib.hid hK'
  clear hK'
  go_simp
  refine (CK.out _ W0.heap.size (HR.out.kept HBZ.out) HLB.out).mono ?_
  rintro e w3 ⟨rfl, hb⟩
  have HB3 := Lib.hid (HBZ.out.trans (hb.mono HBZ.out.size))
  have HN3 := Lib.hid (netBox_below HNZ.out hb (netBox_lt HNZ.out))
  have hS2 := (show (fun w' : World => w'.cell? ⟨w.heap.size, 0, none⟩ = some (.int .i64 (N : Int)) ∧ w'.cell? ⟨w.heap.size, 1, none⟩ = some (.int .i64 (s : Int)) ∧ w'.cell? ⟨w.heap.size, 2, none⟩ = some (.int .i64 (t : Int)) ∧ w'.cell? ⟨w.heap.size, 3, none⟩ = some (.slice ao l.length cap)) w3 from netBox_cells HN3.out)
  clear hb
  refine HK.out _ _ ⟨hS2, ?_⟩
  clear HK K'
  try simp only [Act.put, List.setIfInBounds_toArray, List.set_cons_zero, List.set_cons_succ]
  refine Rh.take (some 6) (i := 6) (v := ?_) rfl (by kernel_rfl) (by kernel_rfl) (by kernel_rfl) (by kernel_rfl) (fun _ _ _ h => h) (Or.inl ⟨by rfl, ?_⟩) hS2 ?_
  rotate_left
  · intro w hSw
    go_simp
    try with_reducible rfl
  try simp only [Act.put, List.setIfInBounds_toArray, List.set_cons_zero, List.set_cons_succ]
  refine Rh.done (by kernel_rfl) ?_ _
  clear n0 n1 n2 n3 HBZ HNZ HLB HNB HB0 hS0 hS1 hS2 CK
  have HMK := Lib.hid (mkbox_new w3 rfl)
  have HB4 := Lib.hid (HB3.out.alloc HB3.out.size (.map #[] 0))
  have HN4 := Lib.hid (netBox_alloc HN3.out (.map #[] 0))
  have HBM := Lib.hid (show w.heap.size < w3.heap.size from netBox_lt HN3.out)
  go_wp2
  clear hmm
  generalize hW4 : w3.alloc (.map #[] 0) = W4 at *
  obtain ⟨B, hB⟩ : ∃ B, B = w3.heap.size := ⟨_, rfl⟩
  rw [← hB] at HMK HBM ⊢
  clear hB hW4
  have HTK := Lib.hid (fun j (hj : j < S.length) v => hasL_take hj v)
  go_loopw [8, 23] (fun y i wr => ∃ j : Nat, i = .int .i64 j ∧ y = .int .i64 (lastOf S j) ∧ j ≤ S.length ∧ Rises (N : Int) (S.take j) ∧ Hid (MkBox wr B j (fun x => hasL (S.take j) (x : Int))) ∧ Hid (Below w.heap.size w wr) ∧ Hid (NetBox wr w.heap.size (N : Int) (s : Int) (t : Int) (.slice ao l.length cap))) (fun _ i _ => S.length - (intOf i).toNat)
  case atStart => exact ⟨0, rfl, by rw [lastOf_zero], Nat.zero_le _, rises_zero _ _, Lib.hid (HMK.out.same fun v _ => by simp [hasL]), HB4, HN4⟩
  case round =>
    obtain ⟨j, rfl, rfl, hj, hris, HMW, HBW, HNW⟩ := hrel
    obtain ⟨n0, n1, n2, n3⟩ := netBox_cells HNW.out
    by_cases hlt : j < S.length
    · obtain ⟨b9, off, rfl, hb9, d0⟩ := irow_cell (HS.out.kept HBW.out) hlt
      have hp := rises_pos hris (by omega)
      have hjl := rises_len hris (by omega)
      have htop := rises_top hris (by omega) (by omega)
      have HST := Lib.hid (rises_step hlt hris)
      have HLS := Lib.hid (lastOf_succ S j)
      have HTJ := Lib.hid (HTK.out j hlt)
      have HNR := Lib.hid (fun h => HARG.out (rises_not (j := j + 1) h))
      generalize amt S j = x at *
      generalize lastOf S j = la at *
      have hji : (j : Int) < (S.length : Int) := by omega
      have hj0 : (0 : Int) ≤ (j : Int) := by omega
      by_cases h1 : la < x
      case neg =>
        have HE := Lib.hid (HNR.out (fun h => h1 (HST.out.1 h).1))
        have HM := Lib.hid (HBAD.out wr (by rw [HE.out]; decide))
        have h1' : decide (x ≤ la) = true := by simpa using h1
        clear h1 HST HTK HNR HEND HOK
        go_wp2
        go_ret2
        exact ⟨.map none, ret2w HE.out.symm, HM.out, HBW.out⟩
      have h1' : decide (x ≤ la) = false := by simpa using h1
      by_cases h2 : x ≤ (N : Int)
      case neg =>
        have HE := Lib.hid (HNR.out (fun h => h2 (HST.out.1 h).2))
        have HM := Lib.hid (HBAD.out wr (by rw [HE.out]; decide))
        have h2' : decide ((N : Int) < x) = true := by simpa using h2
        clear h1 h2 HST HTK HNR HEND HOK
        go_wp2
        go_ret2
        exact ⟨.map none, ret2w HE.out.symm, HM.out, HBW.out⟩
      have h2' : decide ((N : Int) < x) = false := by simpa using h2
      have HRN := Lib.hid (HST.out.2 ⟨h1, h2⟩)
      obtain ⟨u, rfl⟩ : ∃ u : Nat, x = (u : Int) := ⟨x.toNat, by omega⟩
      have h3' : decide (N < u) = false := by simpa using h2
      have HPU := Lib.hid (put_any wr B j _ u HMW.out (by omega) (by omega))
      clear h1 h2 HST HTK HNR HEND HOK
      go_wp2_with fail
      refine HPU.out.mono ?_
      rintro e w5 ⟨rfl, hm, hg⟩
      have HM5 := Lib.hid (hm.same (T := fun x => hasL (S.take (j + 1)) (x : Int)) fun v _ => by
        rw [HTJ.out]
        congr 1
        by_cases e : v = u
        · rw [e, beq_self_eq_true, beq_self_eq_true]
        · rw [beq_false_of_ne e, beq_false_of_ne (by omega)])
      have HB5 := Lib.hid (HBW.out.grown hg HBW.out.size (fun b h => by cases h; exact Nat.le_of_lt HBM.out))
      have HN5 := Lib.hid (netBox_grown HNW.out hg (fun h => by cases h; exact absurd HBM.out (by omega)))
      clear hm hg n0 n1 n2 n3 d0
      go_wp2
      go_roundw
      case rel => exact ⟨j + 1, by go_num, by rw [HLS.out], by omega, HRN.out, HM5, HB5, HN5⟩
      case measure => simp [intOf]; omega
    · have hRS := rises_end hris (by omega)
      have HMS := Lib.hid (show MkBox wr B j (fun x => hasL S (x : Int)) from HMW.out.same fun v _ => by rw [List.take_of_length_le (by omega)])
      have HHS := Lib.hid (has_any wr B j (fun x => hasL S (x : Int)) s HMS.out (by omega))
      have HHT := Lib.hid (fun w' h => has_any w' B j (fun x => hasL S (x : Int)) t h (by omega))
      have H9 := Lib.hid (HEND.out hRS)
      have H0 := Lib.hid (HOK.out hRS)
      clear HTK HARG HEND HOK HMW hris hRS
      cases hs : hasL S (s : Int)
      · rw [hs] at HHS
        have HE := Lib.hid (H9.out (.inl hs))
        have HM := Lib.hid (fun w' => HBAD.out w' (by rw [HE.out]; decide))
        clear hs H0 H9
        go_wp2_with fail
        refine HHS.out.mono ?_
        rintro e w5 ⟨rfl, hb⟩
        have HB5 := Lib.hid (HBW.out.trans (hb.mono HBW.out.size))
        clear hb
        go_wp2
        go_ret2
        exact ⟨.map none, ret2w HE.out.symm, HM.out _, HB5.out⟩
      · rw [hs] at HHS
        go_wp2_with fail
        refine HHS.out.mono ?_
        rintro e w5 ⟨rfl, hb⟩
        have HB5 := Lib.hid (HBW.out.trans (hb.mono HBW.out.size))
        have HN5 := Lib.hid (netBox_below HNW.out hb (netBox_lt HNW.out))
        have HM5 := Lib.hid (HMS.out.below hb)
        clear hb n0 n1 n2 n3
        obtain ⟨n0, n1, n2, n3⟩ := netBox_cells HN5.out
        have HHT5 := Lib.hid (HHT.out _ HM5.out)
        cases ht : hasL S (t : Int)
        · rw [ht] at HHT5
          have HE := Lib.hid (H0.out hs ht)
          clear hs ht H0 H9
          go_wp2_with fail
          refine HHT5.out.mono ?_
          rintro e w6 ⟨rfl, hb⟩
          have HB6 := Lib.hid (HB5.out.trans (hb.mono HB5.out.size))
          have HM6 := Lib.hid (HM5.out.below hb)
          clear hb
          go_wp2
          go_ret2
          exact ⟨.map (some B), ret2w HE.out.symm, HGOOD.out _ B j HE.out (Nat.le_of_lt HBM.out) HM6.out, HB6.out⟩
        · rw [ht] at HHT5
          have HE := Lib.hid (H9.out (.inr ht))
          have HM := Lib.hid (fun w' => HBAD.out w' (by rw [HE.out]; decide))
          clear hs ht H0 H9
          go_wp2_with fail
          refine HHT5.out.mono ?_
          rintro e w6 ⟨rfl, hb⟩
          have HB6 := Lib.hid (HB5.out.trans (hb.mono HB5.out.size))
          clear hb
          go_wp2
          go_ret2
          exact ⟨.map none, ret2w HE.out.symm, HM.out _, HB6.out⟩
end Ne
end Go.Proofs.Ythhlfphnokdfaaa
