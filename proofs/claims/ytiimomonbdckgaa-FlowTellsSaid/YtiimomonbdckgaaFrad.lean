/-
  Contract of the document's Add. Condition: at most a million arcs. (Written by wip/tools/gen-Frad.py.)
-/
import Derived.Test.YtiimomonbdckgaaFrck
import Derived.Test.YtiimomonbdckgaaFadd
namespace Go.Proofs.Ytiimomonbdckgaa
open Go.ChangeShapes Go.WideShapes Go.ChangeAt Go.RowKit
set_option linter.unusedVariables false
set_option linter.unusedSimpArgs false
namespace Ne
theorem cap_top {n : Net} (hR : Right n) {i : Nat} (hi : i < n.l.length) : (arcAt n.l i).cap ≤ 4611686018427387903 := by
  have e : capS n.l (i + 1) ≤ capS n.l n.l.length := sumTo_mono hR.cap0 (by omega)
  have e2 : 0 ≤ capS n.l i := sumTo_nn fun j hj => hR.cap0 j (by omega)
  have e3 : capS n.l (i + 1) = capS n.l i + (arcAt n.l i).cap := rfl
  have := hR.sum
  omega
set_option maxRecDepth 100000 in
set_option maxHeartbeats 2000000 in
theorem radd_any (n : Net) (ao : Option Addr) (cap : Nat) (fo : Option Addr) (fc : Nat) (f : List Int) (go : Option Addr) (gc : Nat) (g : List Int) (w : World) (hr : ARow w ao n.l) (hf : IRow w fo f) (hg : IRow w go g) (hl : n.l.length ≤ 1000000) :
    Calls Try.prog 16 #[encN n ao cap, .slice fo f.length fc, .slice go g.length gc] w fun e w' => ∃ v, e = .returned (.tuple #[v, .int .i64 (addE n f g)]) ∧ OwnL w' w.heap.size v (addL n f g) ∧ Below w.heap.size w w' := by
  have CF := Lib.hid (fun w' (h1 : ARow w' ao n.l) (h2 : IRow w' fo f) => rchk_any n ao cap fo fc f w' h1 h2 hl)
  have CG := Lib.hid (fun w' (h1 : ARow w' ao n.l) (h2 : IRow w' go g) => rchk_any n ao cap go gc g w' h1 h2 hl)
  have E1 := Lib.hid (show chkF n f ≠ 0 → addE n f g = chkF n f from fun h => by unfold addE; rw [if_pos h])
  have E2 := Lib.hid (show chkF n f = 0 → chkF n g ≠ 0 → addE n f g = chkF n g from fun h h2 => by unfold addE; rw [if_neg (by simpa using h), if_pos h2])
  have E3 := Lib.hid (show chkF n f = 0 → chkF n g = 0 → (∀ i, i < n.l.length → amt f i + amt g i ≤ (arcAt n.l i).cap) → addE n f g = 0 from fun h h2 h3 => by unfold addE; rw [if_neg (by simpa using h), if_neg (by simpa using h2), if_pos h3])
  have E4 := Lib.hid (show chkF n f = 0 → chkF n g = 0 → ¬ (∀ i, i < n.l.length → amt f i + amt g i ≤ (arcAt n.l i).cap) → addE n f g = 3 from fun h h2 h3 => by unfold addE; rw [if_neg (by simpa using h), if_neg (by simpa using h2), if_neg h3])
  have F1 := Lib.hid (show addE n f g ≠ 0 → addL n f g = [] from fun h => by unfold addL; rw [if_pos h])
  have F2 := Lib.hid (show addE n f g = 0 → addL n f g = sumL f g from fun h => by unfold addL; rw [if_neg (by simpa using h)])
  have KF := Lib.hid (show chkF n f = 0 → f.length = n.l.length ∧ n.l.length ≤ 2000 ∧ ∀ i, i < n.l.length → 0 ≤ amt f i ∧ amt f i ≤ 4611686018427387903 from fun h => by
    obtain ⟨_, RT, h1, h2⟩ := chkA_ok (chkF_ok h).1; exact ⟨h1, RT.len, fun i hi => amt_bd RT h2 hi⟩)
  have KG := Lib.hid (show chkF n g = 0 → g.length = n.l.length ∧ ∀ i, i < n.l.length → 0 ≤ amt g i ∧ amt g i ≤ 4611686018427387903 from fun h => by
    obtain ⟨_, RT, h1, h2⟩ := chkA_ok (chkF_ok h).1; exact ⟨h1, fun i hi => amt_bd RT h2 hi⟩)
  have KC := Lib.hid (show chkF n f = 0 → ∀ i, i < n.l.length → 0 ≤ (arcAt n.l i).cap ∧ (arcAt n.l i).cap ≤ 4611686018427387903 from fun h i hi => by
    obtain ⟨_, RT, _, _⟩ := chkA_ok (chkF_ok h).1
    exact ⟨RT.cap0 i hi, cap_top RT hi⟩)
  generalize addE n f g = R at *
  generalize addL n f g = L at *
  generalize chkF n f = cf at *
  generalize chkF n g = cg at *
  obtain ⟨fl, hfl⟩ : ∃ x, x = f.length := ⟨_, rfl⟩
  obtain ⟨gl, hgl⟩ : ∃ x, x = g.length := ⟨_, rfl⟩
  rw [← hfl, ← hgl]
  rw [← hfl] at CF
  rw [← hgl] at CG
  have HFL := Lib.hid hfl
  have HGL := Lib.hid hgl
  clear hfl hgl
  obtain ⟨nn, ns, nt, l⟩ := n
  simp only at hr hl CF CG E3 E4 KF KG KC ⊢
  have HB0 := Lib.hid ((Below.refl w.heap.size w).alloc (Nat.le_refl _) (.cells #[.int .i64 nn, .int .i64 ns, .int .i64 nt, .slice ao l.length cap] 24))
  have HN0 := Lib.hid (netBox_new w nn ns nt (.slice ao l.length cap))
  have HR := Lib.hid (hr.kept HB0.out)
  have HF := Lib.hid (hf.kept HB0.out)
  have HG := Lib.hid (hg.kept HB0.out)
  clear hr hf hg
  by_cases p : cf = 0
  case neg =>
    have HE := Lib.hid (E1.out p)
    have HL0 := Lib.hid (F1.out (by rw [HE.out]; exact p))
    have p' : (cf == 0) = false := by simpa using p
    have pn : (cf != 0) = true := by simpa using p
    clear p
    go_enter Try.func16, Try.ntmps16
    go_wp2_with fail
    refine (CF.out _ HR.out HF.out).mono ?_
    rintro e w1 ⟨rfl, hb⟩
    have HB1 := Lib.hid (HB0.out.trans (hb.mono (by simp)))
    clear hb
    go_wp2
    go_ret2
    exact ⟨_, retV HE.out.symm, by rw [HL0.out]; exact Rw.own_nil _ _, HB1.out⟩
  subst p
  by_cases p : cg = 0
  case neg =>
    have HE := Lib.hid (E2.out (by trivial) p)
    have HL0 := Lib.hid (F1.out (by rw [HE.out]; exact p))
    have p' : (cg == 0) = false := by simpa using p
    have pn : (cg != 0) = true := by simpa using p
    clear p
    go_enter Try.func16, Try.ntmps16
    go_wp2_with fail
    refine (CF.out _ HR.out HF.out).mono ?_
    rintro e w1 ⟨rfl, hb⟩
    have HB1 := Lib.hid (HB0.out.trans (hb.mono (by simp)))
    have HR1 := Lib.hid (HR.out.kept hb)
    have HG1 := Lib.hid (HG.out.kept hb)
    obtain ⟨n0, n1, n2, n3⟩ := netBox_cells (netBox_below HN0.out hb (by simp))
    clear hb
    go_wp2_with fail
    refine (CG.out _ HR1.out HG1.out).mono ?_
    rintro e w2 ⟨rfl, hb⟩
    have HB2 := Lib.hid (HB1.out.trans (hb.mono HB1.out.size))
    clear hb n0 n1 n2 n3
    go_wp2
    go_ret2
    exact ⟨_, retV HE.out.symm, by rw [HL0.out]; exact Rw.own_nil _ _, HB2.out⟩
  subst p
  have HCP := Lib.hid (KC.out (by trivial))
  obtain ⟨hf1, hl2, hf3⟩ := KF.out (by trivial)
  obtain ⟨hg1, hg3⟩ := KG.out (by trivial)
  have HFB := Lib.hid hf3
  have HGB := Lib.hid hg3
  have HF1 := Lib.hid hf1
  have HG1 := Lib.hid hg1
  have efl : fl = l.length := by rw [HFL.out]; exact hf1
  have egl : gl = l.length := by rw [HGL.out]; exact hg1
  subst efl egl
  have HE4 := Lib.hid (fun h => E4.out (by trivial) (by trivial) h)
  have HE3 := Lib.hid (fun h => E3.out (by trivial) (by trivial) h)
  clear hf1 hf3 hg1 hg3 E1 E2 E3 E4 KF KG KC HFL HGL
  go_enter Try.func16, Try.ntmps16
  go_wp2_with fail
  refine (CF.out _ HR.out HF.out).mono ?_
  rintro e w1 ⟨rfl, hb⟩
  have HB1 := Lib.hid (HB0.out.trans (hb.mono (by simp)))
  have HN1 := Lib.hid (netBox_below HN0.out hb (by simp))
  have HR1 := Lib.hid (HR.out.kept hb)
  have HFF := Lib.hid (HF.out.kept hb)
  have HGG := Lib.hid (HG.out.kept hb)
  obtain ⟨n0, n1, n2, n3⟩ := netBox_cells HN1.out
  clear hb
  go_wp2_with fail
  refine (CG.out _ HR1.out HGG.out).mono ?_
  rintro e WX ⟨rfl, hb⟩
  have HBX := Lib.hid (HB1.out.trans (hb.mono HB1.out.size))
  have HNX := Lib.hid (netBox_below HN1.out hb (netBox_lt HN1.out))
  have HRX := Lib.hid (HR1.out.kept hb)
  have HFX := Lib.hid (HFF.out.kept hb)
  have HGX := Lib.hid (HGG.out.kept hb)
  have HZ0 : Hid (w.heap.size ≤ WX.heap.size) := Lib.hid HBX.out.size
  clear hb n0 n1 n2 n3 HB0 HB1 HN0 HN1 HR HR1 HF HFF HG HGG CF CG
  go_wp2
  go_loopw [9, 10] (fun s i wr => ∃ (v : Value) (j : Nat), v = s ∧ i = .int .i64 j ∧ j ≤ l.length ∧ Hid (OwnL wr WX.heap.size v ((sumL f g).take j)) ∧ Hid (Below WX.heap.size WX wr) ∧ Hid (∀ i, i < j → amt f i + amt g i ≤ (arcAt l i).cap)) (fun _ i _ => l.length - (intOf i).toNat)
  case atStart => exact ⟨_, 0, rfl, rfl, Nat.zero_le _, Lib.hid (Rw.own_nil _ _), Lib.hid (Below.refl _ _), Lib.hid (fun i hi => absurd hi (by omega))⟩
  case round =>
    obtain ⟨v, j, rfl, rfl, hj, HOW, HBW, HLQ⟩ := hrel
    by_cases hlt : j < l.length
    · obtain ⟨n0, n1, n2, n3⟩ := netBox_cells (netBox_below HNX.out HBW.out (netBox_lt HNX.out))
      obtain ⟨b, off, rfl, hbl, c0, c1, c2⟩ := arow_cell (HRX.out.kept HBW.out) hlt
      obtain ⟨b2, off2, rfl, hbl2, d0⟩ := irow_cell HFX.out (i := j) (by have := HF1.out; omega)
      obtain ⟨b3, off3, rfl, hbl3, e0⟩ := irow_cell HGX.out (i := j) (by have := HG1.out; omega)
      replace d0 := (HBW.out.cell (p := ⟨b2, off2 + j, none⟩) hbl2).trans d0
      replace e0 := (HBW.out.cell (p := ⟨b3, off3 + j, none⟩) hbl3).trans e0
      obtain ⟨x0, x1⟩ := HFB.out j hlt
      obtain ⟨y0, y1⟩ := HGB.out j hlt
      have HTK := Lib.hid (sumL_take (f := f) (g := g) (k := j) (by have := HF1.out; omega))
      have HBD := Lib.hid (show ¬ amt f j + amt g j ≤ (arcAt l j).cap → ¬ (∀ i, i < l.length → amt f i + amt g i ≤ (arcAt l i).cap) from fun h h2 => h (h2 j hlt))
      have HST := Lib.hid (show amt f j + amt g j ≤ (arcAt l j).cap → ∀ i, i < j + 1 → amt f i + amt g i ≤ (arcAt l i).cap from fun h i hi => by
        by_cases e : i = j
        · subst e; exact h
        · exact HLQ.out i (by omega))
      have HLN0 : ((sumL f g).take j).length ≤ 2000 := by rw [List.length_take]; omega
      have hca := HCP.out j hlt
      generalize amt f j = x at *
      generalize amt g j = y at *
      generalize arcAt l j = a at *
      obtain ⟨fr, to, ca⟩ := a
      simp only at c0 c1 c2 HBD HST hca
      have hjj : (j : Int) < (l.length : Int) := by omega
      have hj0 : (0 : Int) ≤ (j : Int) := by omega
      have hsz := HBW.out.size
      have hw1 : IntKind.i64.wrap (ca - y) = ca - y := by rw [IntKind.wrap_i64]; omega
      by_cases p : x + y ≤ ca
      · have p' : decide (ca - y < x) = false := by simp; omega
        have HS2 := Lib.hid (HST.out p)
        have hw2 : IntKind.i64.wrap (x + y) = x + y := by rw [IntKind.wrap_i64]; omega
        have hvb := Rw.own_block HOW.out
        have HV1 := Lib.hid (show v.ownBlock ≠ some b2 from fun h => by have := hvb _ h; omega)
        have HV2 := Lib.hid (show v.ownBlock ≠ some b3 from fun h => by have := hvb _ h; omega)
        go_wp2
        go_quiet (fail)
        have HSZ := Lib.hid hsz
        have d1 : (wr.drewN nq).cell? ⟨b2, off2 + j, none⟩ = some (.int .i64 x) := d0
        have e1 : (wr.drewN nq).cell? ⟨b3, off3 + j, none⟩ = some (.int .i64 y) := e0
        have HOQ := Lib.hid (Rw.own_drewN HOW.out nq)
        have HBQ := Lib.hid (below_dn HBW.out nq)
        have hzq : WX.heap.size ≤ (wr.drewN nq).heap.size := hsz
        clear d0 e0 HOW HBW n0 n1 n2 n3 c0 c1 c2 HSZ hsz
        generalize wr.drewN nq = wr at *
        rename_i wr0
        have d0 := d1
        have e0 := e1
        have HO1 := Lib.hid (show OwnL (wr.alloc (.cells #[.int .i64 (x + y)] 2)).drew WX.heap.size v ((sumL f g).take j) from Rw.own_alloc HOQ.out _)
        have HNW := Lib.hid (show IRow (wr.alloc (.cells #[.int .i64 (x + y)] 2)).drew (some ⟨wr.heap.size, 0, none⟩) [x + y] from irow_one' wr rfl (x + y) _)
        have HLN := Lib.hid (show ((sumL f g).take j).length + ([x + y] : List Int).length ≤ 1099511627776 by simp; omega)
        have HBZ : WX.heap.size ≤ (wr.alloc (.cells #[.int .i64 (x + y)] 2)).drew.heap.size := by rw [size_allocd]; omega
        have HGW := Lib.hid (fun w' (hg : (wr.alloc (.cells #[.int .i64 (x + y)] 2)).drew.grownBy w' v.ownBlock) => (below_drew (HBQ.out.alloc hzq (.cells #[.int .i64 (x + y)] 2))).grown hg HBZ hvb)
        go_wp2
        have hS0 := (show (fun w' => w'.cell? ⟨b2, off2 + j, none⟩ = some (.int .i64 x) ∧ w'.cell? ⟨b3, off3 + j, none⟩ = some (.int .i64 y)) wr.drew from ⟨d0, e0⟩)
        have hS1 := (show (fun w' => w'.cell? ⟨b2, off2 + j, none⟩ = some (.int .i64 x) ∧ w'.cell? ⟨b3, off3 + j, none⟩ = some (.int .i64 y)) (wr.alloc (.cells #[.int .i64 (x + y)] 2)).drew from ⟨held_new d0, held_new e0⟩)
        refine Rh.start (S := (fun w' => w'.cell? ⟨b2, off2 + j, none⟩ = some (.int .i64 x) ∧ w'.cell? ⟨b3, off3 + j, none⟩ = some (.int .i64 y))) (by kernel_rfl) ?_
        refine Rh.take (some 44) (i := 0) (v := ?_) rfl (by kernel_rfl) (by kernel_rfl) (by kernel_rfl) (by kernel_rfl) (fun _ _ _ h => h) (Or.inl ⟨by rfl, ?_⟩) hS0 ?_
        rotate_left
        · intro w hSw
          go_simp
          try with_reducible rfl
        try simp only [Act.put, List.setIfInBounds_toArray, List.set_cons_zero, List.set_cons_succ]
        refine Rh.take (some 45) (i := 1) (v := ?_) rfl (by kernel_rfl) (by kernel_rfl) (by kernel_rfl) (by kernel_rfl) (fun _ _ _ h => h) (Or.inl ⟨by rfl, ?_⟩) hS0 ?_
        rotate_left
        · intro w hSw
          go_simp
          try with_reducible rfl
        try simp only [Act.put, List.setIfInBounds_toArray, List.set_cons_zero, List.set_cons_succ]
        refine Rh.take (some 46) (i := 2) (v := ?_) rfl (by kernel_rfl) (by kernel_rfl) (by kernel_rfl) (by kernel_rfl) (fun _ _ _ h => h) (Or.inl ⟨by rfl, ?_⟩) hS0 ?_
        rotate_left
        · intro w hSw
          go_simp
          try with_reducible rfl
        try simp only [Act.put, List.setIfInBounds_toArray, List.set_cons_zero, List.set_cons_succ]
        refine Rh.take (some 47) (i := 3) (v := ?_) rfl (by kernel_rfl) (by kernel_rfl) (by kernel_rfl) (by kernel_rfl) (fun _ _ _ h => h) (Or.inl ⟨by rfl, ?_⟩) hS0 ?_
        rotate_left
        · intro w hSw
          go_simp
          try with_reducible rfl
        try simp only [Act.put, List.setIfInBounds_toArray, List.set_cons_zero, List.set_cons_succ]
        refine Rh.take (some 48) (i := 4) (v := ?_) rfl (by kernel_rfl) (by kernel_rfl) (by kernel_rfl) (by kernel_rfl) (fun _ _ _ h => h) (Or.inl ⟨by rfl, ?_⟩) hS0 ?_
        rotate_left
        · intro w hSw
          go_simp
          try with_reducible rfl
        try simp only [Act.put, List.setIfInBounds_toArray, List.set_cons_zero, List.set_cons_succ]
        refine Rh.take (some 49) (i := 5) (v := ?_) rfl (by kernel_rfl) (by kernel_rfl) (by kernel_rfl) (by kernel_rfl) (fun _ _ _ h => h) (Or.inl ⟨by rfl, ?_⟩) hS0 ?_
        rotate_left
        · intro w hSw
          go_simp
          try with_reducible rfl
        try simp only [Act.put, List.setIfInBounds_toArray, List.set_cons_zero, List.set_cons_succ]
        refine Rh.take (some 50) (i := 6) (v := ?_) rfl (by kernel_rfl) (by kernel_rfl) (by kernel_rfl) (by kernel_rfl) (fun _ _ _ h => h) (Or.inl ⟨by rfl, ?_⟩) hS0 ?_
        rotate_left
        · intro w hSw
          go_simp
          try with_reducible rfl
        try simp only [Act.put, List.setIfInBounds_toArray, List.set_cons_zero, List.set_cons_succ]
        refine Rh.take (some 51) (i := 7) (v := ?_) rfl (by kernel_rfl) (by kernel_rfl) (by kernel_rfl) (by kernel_rfl) (fun _ _ _ h => h) (Or.inl ⟨by rfl, ?_⟩) hS0 ?_
        rotate_left
        · intro w hSw
          go_simp
          try with_reducible rfl
        try simp only [Act.put, List.setIfInBounds_toArray, List.set_cons_zero, List.set_cons_succ]
        refine Rh.take (some 52) (i := 8) (v := ?_) rfl (by kernel_rfl) (by kernel_rfl) (by kernel_rfl) (by kernel_rfl) (fun _ _ _ h => h) (Or.inl ⟨by rfl, ?_⟩) hS0 ?_
        rotate_left
        · intro w hSw
          go_simp
          try with_reducible rfl
        try simp only [Act.put, List.setIfInBounds_toArray, List.set_cons_zero, List.set_cons_succ]
        refine Rh.take (some 53) (i := 9) (v := ?_) rfl (by kernel_rfl) (by kernel_rfl) (by kernel_rfl) (by kernel_rfl) (fun _ _ _ h => h) (Or.inl ⟨by rfl, ?_⟩) hS0 ?_
        rotate_left
        · intro w hSw
          go_simp
          try with_reducible rfl
        try simp only [Act.put, List.setIfInBounds_toArray, List.set_cons_zero, List.set_cons_succ]
        refine Rh.step (i := 10) (by kernel_rfl) rfl fun K' hK' => ?_
        have HK := Lib.hid hK'
        clear hK'
        go_simp
        refine HK.out _ _ ⟨hS1, ?_⟩
        clear HK K'
        try simp only [Act.put, List.setIfInBounds_toArray, List.set_cons_zero, List.set_cons_succ]
        refine Rh.step (i := 11) (by kernel_rfl) rfl fun K' hK' => ?_
        refine Rw.stepAt elemL encI_len encI_one (by rfl) (.tmp 44) (.tmp 54) (by rfl) WX.heap.size v ((sumL f g).take j) (by rfl) HO1.out ⟨wr.heap.size, 0, none⟩ 1 [x + y] 1 rfl (by rfl) HNW.out HLN.out HBZ ?_
        intro v' w' hown' hgrow _
        have hS2 := (show (fun w' => w'.cell? ⟨b2, off2 + j, none⟩ = some (.int .i64 x) ∧ w'.cell? ⟨b3, off3 + j, none⟩ = some (.int .i64 y)) w' from ⟨held_grow hgrow HV1.out d0, held_grow hgrow HV2.out e0⟩)
        refine hK' _ _ ⟨hS2, ?_⟩
        clear hK' K'
        try simp only [Act.put, List.setIfInBounds_toArray, List.set_cons_zero, List.set_cons_succ]
        refine Rh.take (some 9) (i := 12) (v := ?_) rfl (by kernel_rfl) (by kernel_rfl) (by kernel_rfl) (by kernel_rfl) (fun _ _ _ h => h) (Or.inl ⟨by rfl, ?_⟩) hS2 ?_
        rotate_left
        · intro w hSw
          go_simp
          try with_reducible rfl
        try simp only [Act.put, List.setIfInBounds_toArray, List.set_cons_zero, List.set_cons_succ]
        refine Rh.done (by kernel_rfl) ?_ _
        have HOV := Lib.hid (show OwnL w' WX.heap.size v' ((sumL f g).take (j + 1)) by rw [HTK.out]; exact hown')
        have HB5 := Lib.hid (HGW.out w' hgrow)
        clear hS0 hS1 hS2 hown' hgrow HO1 HNW HBZ
        go_wp2
        go_roundw
        case rel => exact ⟨_, j + 1, rfl, by go_num, by omega, HOV, HB5, HS2⟩
        case measure => simp [intOf]; omega
      · have p' : decide (ca - y < x) = true := by simp; omega
        have HE := Lib.hid (HE4.out (HBD.out p))
        have HL0 := Lib.hid (F1.out (by rw [HE.out]; decide))
        go_wp2
        go_quiet (fail)
        have HB3 := Lib.hid (HBX.out.trans ((below_dn HBW.out nq).mono HZ0.out))
        go_wp2
        go_ret2
        exact ⟨_, retV HE.out.symm, by rw [HL0.out]; exact Rw.own_nil _ _, HB3.out⟩
    · have ej : j = l.length := by omega
      subst ej
      have HE := Lib.hid (HE3.out HLQ.out)
      have HL0 := Lib.hid (F2.out HE.out)
      have HTE := Lib.hid (show (sumL f g).take l.length = sumL f g from List.take_of_length_le (by rw [sumL_len]; exact Nat.le_of_eq HF1.out))
      rw [HTE.out] at HOW
      have HBE := Lib.hid (HBX.out.trans (HBW.out.mono HZ0.out))
      have HOE := Lib.hid (Rw.own_base HOW.out (B' := w.heap.size) HZ0.out)
      clear hlt hj
      go_wp2
      go_ret2
      exact ⟨_, retV HE.out.symm, by rw [HL0.out]; exact HOE.out, HBE.out⟩
end Ne
end Go.Proofs.Ytiimomonbdckgaa
