/-
  Stage 15: contract of the developers' newRest. Condition: the network is right, as many amounts as arcs. (Written by wip/tools/gen-Rsg.py.)
-/
import Derived.Test.YtkeojkddbannpaaNrj
import Derived.Test.YtkeojkddbannpaaCln
import Derived.Test.YtkeojkddbannpaaGnb
namespace Go.Proofs.Ytkeojkddbannpaa
open Go.ChangeShapes Go.WideShapes Go.ChangeAt Go.RowKit
set_option linter.unusedVariables false
set_option linter.unusedSimpArgs false
namespace Dc
open Go.Proofs.Ytkeojkddbannpaa.Ne
open Sp (Off)
set_option maxRecDepth 100000 in
set_option maxHeartbeats 4000000 in
theorem newRest_any (n : Net) (ao : Option Addr) (cap : Nat) (fo : Option Addr) (fc : Nat) (g : List Int) (x : Int) (w : World) (hR : Right n) (hr : ARow w ao n.l) (hf : IRow w fo g) (hgl : g.length = n.l.length) :
    Calls Try.prog 22 #[encN n ao cap, .slice fo n.l.length fc, .int .i64 x] w fun e w' => ∃ rb lb lo hi av va VS U, e = .returned (.pointer (some ⟨rb, 0, none⟩)) ∧ RsM n ao cap w w' rb lb lo hi av g x va (arcsV n.l 0) VS U ∧ LgU n g U := by
  have hl := hR.len
  have hN0 := hR.n0
  have hN1 := hR.n1
  have CL := Lib.hid (fun w' h => cloneL_any g fo n.l.length fc w' hgl.symm h (by omega))
  have HF := Lib.hid hf
  have HR := Lib.hid hr
  have HB0 := Lib.hid ((Below.refl w.heap.size w).alloc (Nat.le_refl _) (.cells #[.int .i64 n.n, .int .i64 n.s, .int .i64 n.t, .slice ao n.l.length cap] 24))
  have HNB := Lib.hid (netBox_new w n.n n.s n.t (.slice ao n.l.length cap))
  obtain ⟨n0, n1, n2, n3⟩ := netBox_cells HNB.out
  have hmkr : ∀ w', (Instr.makeSlice 73 (.int .i64 (n.n + 1)) (.int .i64 (n.n + 1))).run Try.prog w' = .ok (.slice (some ⟨w'.heap.size, 0, none⟩) (n.n.toNat + 1) (n.n.toNat + 1)) (w'.alloc (.cells (madeCells #[.slice none 0 0] (n.n.toNat + 1)) 28)) := fun w' => by
    have h := make_r (n.n.toNat + 1) (by omega) w'
    rwa [show ((n.n.toNat + 1 : Nat) : Int) = n.n + 1 by omega] at h
  have hwN : IntKind.i64.wrap (n.n + 1) = n.n + 1 := by rw [IntKind.wrap_i64]; omega
  clear hr hf
  go_enter Try.func22, Try.ntmps22
  go_upto_region 1 with fail
  generalize hW0 : (w.alloc (.cells #[.int .i64 n.n, .int .i64 n.s, .int .i64 n.t, .slice ao n.l.length cap] 24)) = W0 at *
  clear hW0
  go_cut [7] (fun s wc => ∃ rb lb lo av, s = .pointer (some ⟨rb, 0, none⟩) ∧ Hid (NrJ n ao cap w g x rb lb w.heap.size lo av wc (.slice none 0 0) [] (fun _ => .slice none 0 0) (fun _ => [])))
  case first =>
    obtain ⟨WA, hWA⟩ : ∃ WA, WA = W0.drew := ⟨_, rfl⟩
    have HBA := Lib.hid (show Below w.heap.size w WA from by rw [hWA]; exact below_drew HB0.out)
    have HNA := Lib.hid (show NetBox WA w.heap.size n.n n.s n.t (.slice ao n.l.length cap) from by rw [hWA]; exact HNB.out)
    have hSA := (show (fun w' : World => w'.cell? ⟨w.heap.size, 0, none⟩ = some (.int .i64 n.n) ∧ w'.cell? ⟨w.heap.size, 1, none⟩ = some (.int .i64 n.s) ∧ w'.cell? ⟨w.heap.size, 2, none⟩ = some (.int .i64 n.t) ∧ w'.cell? ⟨w.heap.size, 3, none⟩ = some (.slice ao n.l.length cap)) WA from netBox_cells HNA.out)
    refine Rh.start (S := (fun w' : World => w'.cell? ⟨w.heap.size, 0, none⟩ = some (.int .i64 n.n) ∧ w'.cell? ⟨w.heap.size, 1, none⟩ = some (.int .i64 n.s) ∧ w'.cell? ⟨w.heap.size, 2, none⟩ = some (.int .i64 n.t) ∧ w'.cell? ⟨w.heap.size, 3, none⟩ = some (.slice ao n.l.length cap))) (by kernel_rfl) ?_
    rw [← hWA]
    clear hWA n0 n1 n2 n3
    refine Rh.take (some 10) (i := 0) (v := ?_) rfl (by kernel_rfl) (by kernel_rfl) (by kernel_rfl) (by kernel_rfl) (fun _ _ _ h => h) (Or.inl ⟨by rfl, ?_⟩) hSA ?_
    rotate_left
    · intro w hSw
      go_simp
      try with_reducible rfl
    try simp only [Act.put, List.setIfInBounds_toArray, List.set_cons_zero, List.set_cons_succ]
    refine Rh.take (some 11) (i := 1) (v := ?_) rfl (by kernel_rfl) (by kernel_rfl) (by kernel_rfl) (by kernel_rfl) (fun _ _ _ h => h) (Or.inl ⟨by rfl, ?_⟩) hSA ?_
    rotate_left
    · intro w hSw
      go_simp
      try with_reducible rfl
    try simp only [Act.put, List.setIfInBounds_toArray, List.set_cons_zero, List.set_cons_succ]
    refine Rh.take (some 13) (i := 3) (v := ?_) rfl (by kernel_rfl) (by kernel_rfl) (by kernel_rfl) (by kernel_rfl) (fun _ _ _ h => h) (Or.inl ⟨by rfl, ?_⟩) hSA ?_
    rotate_left
    · intro w hSw
      go_simp
      try with_reducible rfl
    try simp only [Act.put, List.setIfInBounds_toArray, List.set_cons_zero, List.set_cons_succ]
    refine Rh.take (some 14) (i := 4) (v := ?_) rfl (by kernel_rfl) (by kernel_rfl) (by kernel_rfl) (by kernel_rfl) (fun _ _ _ h => h) (Or.inl ⟨by rfl, ?_⟩) hSA ?_
    rotate_left
    · intro w hSw
      go_simp
      try with_reducible rfl
    try simp only [Act.put, List.setIfInBounds_toArray, List.set_cons_zero, List.set_cons_succ]
    refine Rh.take (some 15) (i := 5) (v := ?_) rfl (by kernel_rfl) (by kernel_rfl) (by kernel_rfl) (by kernel_rfl) (fun _ _ _ h => h) (Or.inl ⟨by rfl, ?_⟩) hSA ?_
    rotate_left
    · intro w hSw
      go_simp
      try with_reducible rfl
    try simp only [Act.put, List.setIfInBounds_toArray, List.set_cons_zero, List.set_cons_succ]
    refine Rh.take (some 16) (i := 6) (v := ?_) rfl (by kernel_rfl) (by kernel_rfl) (by kernel_rfl) (by kernel_rfl) (fun _ _ _ h => h) (Or.inl ⟨by rfl, ?_⟩) hSA ?_
    rotate_left
    · intro w hSw
      go_simp
      try with_reducible rfl
    try simp only [Act.put, List.setIfInBounds_toArray, List.set_cons_zero, List.set_cons_succ]
    refine Rh.two (i := 2) (j := 7) (by kernel_rfl) rfl rfl (fun K' hK' => ?_) (fun K' hK' => ?_)
    · have HK := Lib.hid hK'
      clear hK'
      go_simp
      refine (CL.out WA (HF.out.kept (HBA.out))).mono ?_
      rintro e wC ⟨oc, cc, rfl, hoc, hbc⟩
      have HOC := Lib.hid hoc
      have HBC := Lib.hid (HBA.out.trans (hbc.mono HBA.out.size))
      have HNC := Lib.hid (netBox_below HNA.out hbc (netBox_lt HNA.out))
      have hSC := (show (fun w' : World => w'.cell? ⟨w.heap.size, 0, none⟩ = some (.int .i64 n.n) ∧ w'.cell? ⟨w.heap.size, 1, none⟩ = some (.int .i64 n.s) ∧ w'.cell? ⟨w.heap.size, 2, none⟩ = some (.int .i64 n.t) ∧ w'.cell? ⟨w.heap.size, 3, none⟩ = some (.slice ao n.l.length cap)) wC from netBox_cells HNC.out)
      clear hoc hbc
      refine HK.out _ _ ⟨hSC, ?_⟩
      clear HK K'
      try simp only [Act.put, List.setIfInBounds_toArray, List.set_cons_zero, List.set_cons_succ]
      refine Rh.step (i := 7) (by kernel_rfl) rfl fun K' hK' => ?_
      have HK := Lib.hid hK'
      clear hK'
      go_simp
      have HRM := Lib.hid (World.rowIs_made wC (.slice none 0 0) (n.n.toNat + 1) 28)
      have HBM := Lib.hid (show Below w.heap.size w (wC.alloc (.cells (madeCells #[.slice none 0 0] (n.n.toNat + 1)) 28)) from HBC.out.alloc HBC.out.size _)
      have HNM := Lib.hid (netBox_alloc HNC.out (.cells (madeCells #[.slice none 0 0] (n.n.toNat + 1)) 28))
      have HOM := Lib.hid (Rw.own_alloc HOC.out (.cells (madeCells #[.slice none 0 0] (n.n.toNat + 1)) 28))
      have HAB := Lib.hid (Rw.own_lt HOC.out)
      have hSM := (show (fun w' : World => w'.cell? ⟨w.heap.size, 0, none⟩ = some (.int .i64 n.n) ∧ w'.cell? ⟨w.heap.size, 1, none⟩ = some (.int .i64 n.s) ∧ w'.cell? ⟨w.heap.size, 2, none⟩ = some (.int .i64 n.t) ∧ w'.cell? ⟨w.heap.size, 3, none⟩ = some (.slice ao n.l.length cap)) (wC.alloc (.cells (madeCells #[.slice none 0 0] (n.n.toNat + 1)) 28)) from netBox_cells HNM.out)
      have HMZ := Lib.hid (show wC.heap.size < (wC.alloc (.cells (madeCells #[.slice none 0 0] (n.n.toNat + 1)) 28)).heap.size by simp)
      generalize hlb : wC.heap.size = lbM at HRM HMZ ⊢
      generalize (wC.alloc (.cells (madeCells #[.slice none 0 0] (n.n.toNat + 1)) 28)) = wM at *
      refine HK.out _ _ ⟨hSM, ?_⟩
      clear HK K'
      try simp only [Act.put, List.setIfInBounds_toArray, List.set_cons_zero, List.set_cons_succ]
      refine Rh.take (some 18) (i := 8) (v := ?_) rfl (by kernel_rfl) (by kernel_rfl) (by kernel_rfl) (by kernel_rfl) (fun _ _ _ h => h) (Or.inl ⟨by rfl, ?_⟩) hSM ?_
      rotate_left
      · intro w hSw
        go_simp
        try with_reducible rfl
      try simp only [Act.put, List.setIfInBounds_toArray, List.set_cons_zero, List.set_cons_succ]
      refine Rh.step (i := 9) (by kernel_rfl) rfl fun K' hK' => ?_
      have HK := Lib.hid hK'
      clear hK'
      go_simp
      have HNR := Lib.hid (nr_start x HR.out HBM.out HNM.out (Rw.own_base HOM.out HBA.out.size) HRM.out (by rw [← hlb]; exact netBox_lt HNC.out) (fun q hq => by have := (HAB.out q hq).2; omega))
      have hSB := (show (fun w' : World => w'.cell? ⟨w.heap.size, 0, none⟩ = some (.int .i64 n.n) ∧ w'.cell? ⟨w.heap.size, 1, none⟩ = some (.int .i64 n.s) ∧ w'.cell? ⟨w.heap.size, 2, none⟩ = some (.int .i64 n.t) ∧ w'.cell? ⟨w.heap.size, 3, none⟩ = some (.slice ao n.l.length cap)) (wM.alloc (.cells #[.int .i64 n.n, .int .i64 n.s, .int .i64 n.t, .slice ao n.l.length cap, (.slice oc n.l.length cc), .int .i64 x, .slice none 0 0, .slice (some ⟨lbM, 0, none⟩) (n.n.toNat + 1) (n.n.toNat + 1)] 75)) from netBox_cells (netBox_alloc HNM.out _))
      refine HK.out _ _ ⟨hSB, ?_⟩
      clear HK K'
      try simp only [Act.put, List.setIfInBounds_toArray, List.set_cons_zero, List.set_cons_succ]
      refine Rh.take (some 7) (i := 10) (v := ?_) rfl (by kernel_rfl) (by kernel_rfl) (by kernel_rfl) (by kernel_rfl) (fun _ _ _ h => h) (Or.inl ⟨by rfl, ?_⟩) hSB ?_
      rotate_left
      · intro w hSw
        go_simp
        try with_reducible rfl
      try simp only [Act.put, List.setIfInBounds_toArray, List.set_cons_zero, List.set_cons_succ]
      refine Rh.done (by kernel_rfl) ?_ _
      go_wp2
      go_meet
      case rel => exact ⟨_, _, _, _, rfl, HNR⟩
    · have HK := Lib.hid hK'
      clear hK'
      go_simp
      have HRM := Lib.hid (World.rowIs_made WA (.slice none 0 0) (n.n.toNat + 1) 28)
      have HBM := Lib.hid (show Below w.heap.size w (WA.alloc (.cells (madeCells #[.slice none 0 0] (n.n.toNat + 1)) 28)) from HBA.out.alloc HBA.out.size _)
      have HNM := Lib.hid (netBox_alloc HNA.out (.cells (madeCells #[.slice none 0 0] (n.n.toNat + 1)) 28))
      have hSM := (show (fun w' : World => w'.cell? ⟨w.heap.size, 0, none⟩ = some (.int .i64 n.n) ∧ w'.cell? ⟨w.heap.size, 1, none⟩ = some (.int .i64 n.s) ∧ w'.cell? ⟨w.heap.size, 2, none⟩ = some (.int .i64 n.t) ∧ w'.cell? ⟨w.heap.size, 3, none⟩ = some (.slice ao n.l.length cap)) (WA.alloc (.cells (madeCells #[.slice none 0 0] (n.n.toNat + 1)) 28)) from netBox_cells HNM.out)
      have HMZ := Lib.hid (show WA.heap.size < (WA.alloc (.cells (madeCells #[.slice none 0 0] (n.n.toNat + 1)) 28)).heap.size by simp)
      generalize hlb : WA.heap.size = lbM at HRM HMZ ⊢
      generalize (WA.alloc (.cells (madeCells #[.slice none 0 0] (n.n.toNat + 1)) 28)) = wM at *
      refine HK.out _ _ ⟨hSM, ?_⟩
      clear HK K'
      try simp only [Act.put, List.setIfInBounds_toArray, List.set_cons_zero, List.set_cons_succ]
      refine Rh.step (i := 2) (by kernel_rfl) rfl fun K' hK' => ?_
      have HK := Lib.hid hK'
      clear hK'
      go_simp
      refine (CL.out wM (HF.out.kept (HBM.out))).mono ?_
      rintro e wC ⟨oc, cc, rfl, hoc, hbc⟩
      have HOC := Lib.hid hoc
      have HBC := Lib.hid (HBM.out.trans (hbc.mono HBM.out.size))
      have HNC := Lib.hid (netBox_below HNM.out hbc (netBox_lt HNM.out))
      have HRC := Lib.hid (World.rowIs.of_block HRM.out (hbc.block _ (World.rowIs.lt HRM.out)))
      have hSC := (show (fun w' : World => w'.cell? ⟨w.heap.size, 0, none⟩ = some (.int .i64 n.n) ∧ w'.cell? ⟨w.heap.size, 1, none⟩ = some (.int .i64 n.s) ∧ w'.cell? ⟨w.heap.size, 2, none⟩ = some (.int .i64 n.t) ∧ w'.cell? ⟨w.heap.size, 3, none⟩ = some (.slice ao n.l.length cap)) wC from netBox_cells HNC.out)
      clear hoc hbc
      refine HK.out _ _ ⟨hSC, ?_⟩
      clear HK K'
      try simp only [Act.put, List.setIfInBounds_toArray, List.set_cons_zero, List.set_cons_succ]
      refine Rh.take (some 18) (i := 8) (v := ?_) rfl (by kernel_rfl) (by kernel_rfl) (by kernel_rfl) (by kernel_rfl) (fun _ _ _ h => h) (Or.inl ⟨by rfl, ?_⟩) hSC ?_
      rotate_left
      · intro w hSw
        go_simp
        try with_reducible rfl
      try simp only [Act.put, List.setIfInBounds_toArray, List.set_cons_zero, List.set_cons_succ]
      refine Rh.step (i := 9) (by kernel_rfl) rfl fun K' hK' => ?_
      have HK := Lib.hid hK'
      clear hK'
      go_simp
      have HNR := Lib.hid (nr_start x HR.out HBC.out HNC.out (Rw.own_base HOC.out HBM.out.size) HRC.out (by rw [← hlb]; exact netBox_lt HNA.out) (fun q hq => by have := (Rw.own_lt HOC.out q hq).1; have := HMZ.out; omega))
      have hSB := (show (fun w' : World => w'.cell? ⟨w.heap.size, 0, none⟩ = some (.int .i64 n.n) ∧ w'.cell? ⟨w.heap.size, 1, none⟩ = some (.int .i64 n.s) ∧ w'.cell? ⟨w.heap.size, 2, none⟩ = some (.int .i64 n.t) ∧ w'.cell? ⟨w.heap.size, 3, none⟩ = some (.slice ao n.l.length cap)) (wC.alloc (.cells #[.int .i64 n.n, .int .i64 n.s, .int .i64 n.t, .slice ao n.l.length cap, (.slice oc n.l.length cc), .int .i64 x, .slice none 0 0, .slice (some ⟨lbM, 0, none⟩) (n.n.toNat + 1) (n.n.toNat + 1)] 75)) from netBox_cells (netBox_alloc HNC.out _))
      refine HK.out _ _ ⟨hSB, ?_⟩
      clear HK K'
      try simp only [Act.put, List.setIfInBounds_toArray, List.set_cons_zero, List.set_cons_succ]
      refine Rh.take (some 7) (i := 10) (v := ?_) rfl (by kernel_rfl) (by kernel_rfl) (by kernel_rfl) (by kernel_rfl) (fun _ _ _ h => h) (Or.inl ⟨by rfl, ?_⟩) hSB ?_
      rotate_left
      · intro w hSw
        go_simp
        try with_reducible rfl
      try simp only [Act.put, List.setIfInBounds_toArray, List.set_cons_zero, List.set_cons_succ]
      refine Rh.done (by kernel_rfl) ?_ _
      go_wp2
      go_meet
      case rel => exact ⟨_, _, _, _, rfl, HNR⟩

  case rest =>
    obtain ⟨rb, lb, lo, av, rfl, HJ0⟩ := hcut
    have HFR := Lib.hid (show ∀ i, i < n.l.length → ∃ t : Nat, (arcAt n.l i).fr = (t : Int) ∧ 1 ≤ t ∧ t < n.n.toNat + 1 from fun i hi => ⟨(arcAt n.l i).fr.toNat, by have := hR.fr0 i hi; have := hR.fr1 i hi; exact ⟨by omega, by omega, by omega⟩⟩)
    have HEND := Lib.hid (show ∀ w' va VS, NrJ n ao cap w g x rb lb w.heap.size lo av w' va (List.range n.l.length) VS (outs n.l n.l.length) → RsM n ao cap w w' rb lb lo w'.heap.size av g x va (arcsV n.l 0) VS (outs n.l n.l.length) ∧ LgU n g (outs n.l n.l.length) from fun w' va VS h => ⟨(h.same (arcs_all n.l) (fun v _ => rfl)).done, fun v h1 h2 => by rw [outs_all n.l h1]; exact lag_start g _⟩)
    have HOS := Lib.hid (fun j v t ht => outs_step n.l j v t ht)
    have HOL := Lib.hid (fun j v => outs_len n.l j v)
    have HJ1 := Lib.hid (show NrJ n ao cap w g x rb lb w.heap.size lo av wc (.slice none 0 0) (List.range 0) (fun _ => .slice none 0 0) (outs n.l 0) from HJ0.out.same rfl (fun v _ => rfl))
    have HRW := Lib.hid (fun w' va A VS U (h : NrJ n ao cap w g x rb lb w.heap.size lo av w' va A VS U) => h.row0.kept h.old)
    have hlN := hl
    obtain ⟨n0, n1, n2, n3⟩ := netBox_cells HJ1.out.net
    clear hR HJ0 hgl CL HF HR HB0 HNB hmkr hwN
    generalize hN : n.n.toNat = N at *
    obtain ⟨nn, ns, nt, l⟩ := n
    simp only at *
    go_wp2
    clear n0 n1 n2 n3
    go_loopw [23] (fun i wr => ∃ (j : Nat) (va : Value) (VS : Nat → Value), i = .int .i64 j ∧ j ≤ l.length ∧ Hid (NrJ ⟨nn, ns, nt, l⟩ ao cap w g x rb lb w.heap.size lo av wr va (List.range j) VS (outs l j))) (fun i _ => l.length - (intOf i).toNat)
    case atStart => exact ⟨0, _, _, rfl, Nat.zero_le _, HJ1⟩
    case round =>
      obtain ⟨j, va, VS, rfl, hj, HJ⟩ := hrel
      clear HJ1
      by_cases hlt : j < l.length
      · obtain ⟨t, htf, ht1, htN⟩ := HFR.out j hlt
        have HTF := Lib.hid htf
        obtain ⟨b9, off9, rfl, hb9, d0, d1, d2⟩ := arow_cell (HRW.out _ _ _ _ _ HJ.out) hlt
        rw [htf] at d0
        have HAB := Lib.hid (arcBox_at wr rfl ⟨(t : Int), (arcAt l j).to, (arcAt l j).cap⟩)
        generalize (arcAt l j).to = to1 at *
        generalize (arcAt l j).cap = ca at *
        have hji : (j : Int) < (l.length : Int) := by omega
        have hj0 : (0 : Int) ≤ (j : Int) := by omega
        have HJ2 := Lib.hid (HJ.out.below ((Below.refl _ _).alloc (Nat.le_refl _) (.cells #[.int .i64 (t : Int), .int .i64 to1, .int .i64 ca] 53)))
        obtain ⟨r0, r1, r2, r3, r4, r5, r6, r7⟩ := rblk_cells HJ2.out.blk
        have HZL := Lib.hid HJ.out.sz
        simp only at HAB
        obtain ⟨ova, cva, hva, _⟩ := Rw.own_row encI_len HJ2.out.arcs
        rw [encW_len, List.length_range] at hva
        subst hva
        obtain ⟨W2, hW2⟩ : ∃ W2, W2 = wr.alloc (.cells #[.int .i64 (t : Int), .int .i64 to1, .int .i64 ca] 53) := ⟨_, rfl⟩
        have hz2 : W2.heap.size = wr.heap.size + 1 := by rw [hW2]; simp
        rw [← hW2] at HAB HJ2 r6
        have HJ3 := Lib.hid (HJ2.out.below ((Below.refl _ _).alloc (Nat.le_refl _) (.cells #[.int .i64 (j : Int)] 3)))
        have HAB3 := Lib.hid (arcBox_below HAB.out ((Below.refl W2.heap.size W2).alloc (Nat.le_refl _) (.cells #[.int .i64 (j : Int)] 3)) (by omega))
        have HR3 := Lib.hid (irow_one' W2 (b := wr.heap.size + 1) hz2.symm (j : Int) 3)
        have HLN3 := Lib.hid (show (encW (List.range j)).length + ([(j : Int)] : List Int).length ≤ 1099511627776 by rw [encW_len, List.length_range]; simp; omega)
        have HZ3 := Lib.hid (show lo ≤ (W2.alloc (.cells #[.int .i64 (j : Int)] 3)).heap.size from HJ3.out.sz)
        have HVB3 := Lib.hid (Rw.own_lt HJ3.out.arcs)
        have HZW := Lib.hid (show wr.heap.size < (W2.alloc (.cells #[.int .i64 (j : Int)] 3)).heap.size by simp; omega)
        have HVW := Lib.hid (show ∀ q, (Value.slice ova j cva).ownBlock = some q → q ≠ wr.heap.size from fun q hq => by have := (Rw.own_lt HJ.out.arcs q hq).2; omega)
        clear r0 r1 r2 r3 r4 r5 r7 htf hz2
        rw [hW2] at r6 HR3 HJ3 HAB3 HZ3 HZW HVB3
        clear HAB HJ2 hW2
        go_wp2_with (at_builtin; refine Rw.appAt elemI encI_len encI_one rfl (.tmp 32) (.tmp 34) rfl lo _ (encW (List.range j)) rfl HJ3.out.arcs ⟨wr.heap.size + 1, 0, none⟩ 1 [(j : Int)] rfl HR3.out HLN3.out HZ3.out ?_; intro v4 w4 hown4 hgr4 hat4; rw [← encW_snoc, ← List.range_succ] at hown4; obtain ⟨o4, c4, hv4, _⟩ := Rw.own_row encI_len hown4; rw [encW_len, List.length_range] at hv4; subst hv4; have HJ5 := Lib.hid (HJ3.out.arc hgr4 hown4 hat4); have HB4 := Lib.hid (rblk_same HJ3.out.blk (hgr4.block rb (rblk_lt HJ3.out.blk) (fun e => by have := (HVB3.out rb e.symm).1; have := HJ3.out.ups; omega))); obtain ⟨s0, s1, s2, s3, s4, s5, s6, s7⟩ := rblk_cells HB4.out; have f6 := rblk_frozen HB4.out 6; have HA5 := Lib.hid (arcBox_other (b2 := rb) (v2 := .slice o4 (j + 1) c4) (o := 6) (arcBox_grown HAB3.out hgr4 (fun e => HVW.out _ e.symm rfl)) (by have := HJ3.out.ups; have := HZL.out; omega)); have HZ5 := Lib.hid (show wr.heap.size < (w4.setCell ⟨rb, 6, none⟩ (.slice o4 (j + 1) c4)).heap.size from by have := HZW.out; have := hgr4.size; simp [World.setCell]; omega); clear s0 s1 s2 s3 s4 s5 s7 hgr4 hown4 hat4)
        have HVS4 := Lib.hid HVW.out
        generalize w4.setCell ⟨rb, 6, none⟩ (.slice o4 (j + 1) c4) = w5 at *
        clear HJ3 HAB3 HR3 HZ3 HVB3 HVS4 s6 f6 HB4 HLN3
        obtain ⟨s0, s1, s2, s3, s4, s5, s6, s7⟩ := rblk_cells HJ5.out.blk
        simp only at s7
        have htN' : t < nn.toNat + 1 := by omega
        have u0 := HJ5.out.rows.cell htN'
        obtain ⟨ot, ct, hVT, _⟩ := Rw.own_row encI_len (HJ5.out.rows.own t htN')
        rw [encW_len] at hVT
        have HVT := Lib.hid hVT
        obtain ⟨mt, hmt⟩ : ∃ mt, mt = (outs l j t).length := ⟨_, rfl⟩
        rw [← hmt] at hVT HVT
        rw [hVT] at u0
        rw [hN] at s7
        obtain ⟨a0, -, -⟩ := arcBox_cells HA5.out
        simp only at a0
        have HVD := Lib.hid (show OwnI (w5.alloc (.cells #[.int .i64 (j : Int)] 3)).drew lo (.slice ot mt ct) (encW (outs l j t)) from by rw [← HVT.out]; exact Rw.own_alloc (HJ5.out.rows.own t htN') _)
        have HJD := Lib.hid (show NrJ ⟨nn, ns, nt, l⟩ (some ⟨b9, off9, none⟩) cap w g x rb lb w.heap.size lo av (w5.alloc (.cells #[.int .i64 (j : Int)] 3)).drew (.slice o4 (j + 1) c4) (List.range (j + 1)) VS (outs l j) from HJ5.out.below (below_drew ((Below.refl _ _).alloc (Nat.le_refl _) _)))
        have HRD := Lib.hid (show IRow (w5.alloc (.cells #[.int .i64 (j : Int)] 3)).drew (some ⟨w5.heap.size, 0, none⟩) [(j : Int)] from irow_one' w5 rfl (j : Int) 3)
        have HLN := Lib.hid (show (encW (outs l j t)).length + ([(j : Int)] : List Int).length ≤ 1099511627776 by rw [encW_len]; have := HOL.out j t; simp; omega)
        have HLD := Lib.hid HJD.out.sz
        have HVB := Lib.hid (Rw.own_lt HVD.out)
        have HTN := Lib.hid htN'
        have htI : (t : Int) < (N : Int) + 1 := by omega
        have ht0 : (0 : Int) ≤ (t : Int) := by omega
        clear s0 s1 s2 s3 s4 s5 s6 hVT hmt htN'
        have HZN := Lib.hid (show ¬ (Value.slice ot mt ct).ownBlock = some wr.heap.size from fun e => by have := (Rw.own_lt (HJ.out.rows.own t HTN.out) _ (by rw [HVT.out]; exact e)).2; omega)
        have hS0 := (show (fun w' : World => w'.cell? ⟨rb, 7, none⟩ = some (.slice (some ⟨lb, 0, none⟩) (N + 1) (N + 1)) ∧ w'.cell? ⟨lb, t, none⟩ = some (.slice ot mt ct) ∧ w'.cell? ⟨wr.heap.size, 0, none⟩ = some (.int .i64 (t : Int))) w5.drew from ⟨s7, u0, a0⟩)
        have hS1 := (show (fun w' : World => w'.cell? ⟨rb, 7, none⟩ = some (.slice (some ⟨lb, 0, none⟩) (N + 1) (N + 1)) ∧ w'.cell? ⟨lb, t, none⟩ = some (.slice ot mt ct) ∧ w'.cell? ⟨wr.heap.size, 0, none⟩ = some (.int .i64 (t : Int))) (w5.alloc (.cells #[.int .i64 (j : Int)] 3)).drew from ⟨held_new s7, held_new u0, held_new a0⟩)
        refine Rg.start (S := (fun w' : World => w'.cell? ⟨rb, 7, none⟩ = some (.slice (some ⟨lb, 0, none⟩) (N + 1) (N + 1)) ∧ w'.cell? ⟨lb, t, none⟩ = some (.slice ot mt ct) ∧ w'.cell? ⟨wr.heap.size, 0, none⟩ = some (.int .i64 (t : Int)))) (last := 18) (by kernel_rfl) ?_
        refine Rg.take (i := 0) (v := ?_) 40 rfl (by kernel_rfl) (by kernel_rfl) (by kernel_rfl) (by kernel_rfl) (fun _ _ _ h => h) (Or.inl ⟨by rfl, ?_⟩) hS0 ?_
        rotate_left
        · intro w hSw
          go_simp
          try with_reducible rfl
        try simp only [Act.put, List.setIfInBounds_toArray, List.set_cons_zero, List.set_cons_succ]
        refine Rg.take (i := 1) (v := ?_) 40 rfl (by kernel_rfl) (by kernel_rfl) (by kernel_rfl) (by kernel_rfl) (fun _ _ _ h => h) (Or.inl ⟨by rfl, ?_⟩) hS0 ?_
        rotate_left
        · intro w hSw
          go_simp
          try with_reducible rfl
        try simp only [Act.put, List.setIfInBounds_toArray, List.set_cons_zero, List.set_cons_succ]
        refine Rg.take (i := 2) (v := ?_) 40 rfl (by kernel_rfl) (by kernel_rfl) (by kernel_rfl) (by kernel_rfl) (fun _ _ _ h => h) (Or.inl ⟨by rfl, ?_⟩) hS0 ?_
        rotate_left
        · intro w hSw
          go_simp
          try with_reducible rfl
        try simp only [Act.put, List.setIfInBounds_toArray, List.set_cons_zero, List.set_cons_succ]
        refine Rg.take (i := 3) (v := ?_) 40 rfl (by kernel_rfl) (by kernel_rfl) (by kernel_rfl) (by kernel_rfl) (fun _ _ _ h => h) (Or.inl ⟨by rfl, ?_⟩) hS0 ?_
        rotate_left
        · intro w hSw
          go_simp
          try with_reducible rfl
        try simp only [Act.put, List.setIfInBounds_toArray, List.set_cons_zero, List.set_cons_succ]
        refine Rg.take (i := 4) (v := ?_) 40 rfl (by kernel_rfl) (by kernel_rfl) (by kernel_rfl) (by kernel_rfl) (fun _ _ _ h => h) (Or.inl ⟨by rfl, ?_⟩) hS0 ?_
        rotate_left
        · intro w hSw
          go_simp
          try with_reducible rfl
        try simp only [Act.put, List.setIfInBounds_toArray, List.set_cons_zero, List.set_cons_succ]
        refine Rg.take (i := 5) (v := ?_) 40 rfl (by kernel_rfl) (by kernel_rfl) (by kernel_rfl) (by kernel_rfl) (fun _ _ _ h => h) (Or.inl ⟨by rfl, ?_⟩) hS0 ?_
        rotate_left
        · intro w hSw
          go_simp
          try with_reducible rfl
        try simp only [Act.put, List.setIfInBounds_toArray, List.set_cons_zero, List.set_cons_succ]
        refine Rg.take (i := 6) (v := ?_) 40 rfl (by kernel_rfl) (by kernel_rfl) (by kernel_rfl) (by kernel_rfl) (fun _ _ _ h => h) (Or.inl ⟨by rfl, ?_⟩) hS0 ?_
        rotate_left
        · intro w hSw
          go_simp
          try with_reducible rfl
        try simp only [Act.put, List.setIfInBounds_toArray, List.set_cons_zero, List.set_cons_succ]
        refine Rg.take (i := 7) (v := ?_) 40 rfl (by kernel_rfl) (by kernel_rfl) (by kernel_rfl) (by kernel_rfl) (fun _ _ _ h => h) (Or.inl ⟨by rfl, ?_⟩) hS0 ?_
        rotate_left
        · intro w hSw
          go_simp
          try with_reducible rfl
        try simp only [Act.put, List.setIfInBounds_toArray, List.set_cons_zero, List.set_cons_succ]
        refine Rg.take (i := 8) (v := ?_) 40 rfl (by kernel_rfl) (by kernel_rfl) (by kernel_rfl) (by kernel_rfl) (fun _ _ _ h => h) (Or.inl ⟨by rfl, ?_⟩) hS0 ?_
        rotate_left
        · intro w hSw
          go_simp
          try with_reducible rfl
        try simp only [Act.put, List.setIfInBounds_toArray, List.set_cons_zero, List.set_cons_succ]
        refine Rg.take (i := 9) (v := ?_) 40 rfl (by kernel_rfl) (by kernel_rfl) (by kernel_rfl) (by kernel_rfl) (fun _ _ _ h => h) (Or.inl ⟨by rfl, ?_⟩) hS0 ?_
        rotate_left
        · intro w hSw
          go_simp
          try with_reducible rfl
        try simp only [Act.put, List.setIfInBounds_toArray, List.set_cons_zero, List.set_cons_succ]
        refine Rg.take (i := 10) (v := ?_) 40 rfl (by kernel_rfl) (by kernel_rfl) (by kernel_rfl) (by kernel_rfl) (fun _ _ _ h => h) (Or.inl ⟨by rfl, ?_⟩) hS0 ?_
        rotate_left
        · intro w hSw
          go_simp
          try with_reducible rfl
        try simp only [Act.put, List.setIfInBounds_toArray, List.set_cons_zero, List.set_cons_succ]
        refine Rg.take (i := 11) (v := ?_) 40 rfl (by kernel_rfl) (by kernel_rfl) (by kernel_rfl) (by kernel_rfl) (fun _ _ _ h => h) (Or.inl ⟨by rfl, ?_⟩) hS0 ?_
        rotate_left
        · intro w hSw
          go_simp
          try with_reducible rfl
        try simp only [Act.put, List.setIfInBounds_toArray, List.set_cons_zero, List.set_cons_succ]
        refine Rg.take (i := 12) (v := ?_) 40 rfl (by kernel_rfl) (by kernel_rfl) (by kernel_rfl) (by kernel_rfl) (fun _ _ _ h => h) (Or.inl ⟨by rfl, ?_⟩) hS0 ?_
        rotate_left
        · intro w hSw
          go_simp
          try with_reducible rfl
        try simp only [Act.put, List.setIfInBounds_toArray, List.set_cons_zero, List.set_cons_succ]
        refine Rg.take (i := 13) (v := ?_) 40 rfl (by kernel_rfl) (by kernel_rfl) (by kernel_rfl) (by kernel_rfl) (fun _ _ _ h => h) (Or.inl ⟨by rfl, ?_⟩) hS0 ?_
        rotate_left
        · intro w hSw
          go_simp
          try with_reducible rfl
        try simp only [Act.put, List.setIfInBounds_toArray, List.set_cons_zero, List.set_cons_succ]
        refine Rg.take (i := 14) (v := ?_) 40 rfl (by kernel_rfl) (by kernel_rfl) (by kernel_rfl) (by kernel_rfl) (fun _ _ _ h => h) (Or.inl ⟨by rfl, ?_⟩) hS0 ?_
        rotate_left
        · intro w hSw
          go_simp
          try with_reducible rfl
        try simp only [Act.put, List.setIfInBounds_toArray, List.set_cons_zero, List.set_cons_succ]
        refine Rg.step (i := 15) (by kernel_rfl) rfl fun K' hK' => ?_
        have HK := Lib.hid hK'
        clear hK'
        go_simp
        refine HK.out _ _ ⟨fun _ => hS1, ?_⟩
        clear HK K'
        try simp only [Act.put, List.setIfInBounds_toArray, List.set_cons_zero, List.set_cons_succ]
        refine Rg.step (i := 16) (by kernel_rfl) rfl fun K' hK' => ?_
        refine Rw.stepAt elemI encI_len encI_one (by rfl) (.tmp 51) (.tmp 53) (by rfl) lo (.slice ot mt ct) (encW (outs l j t)) (by rfl) HVD.out ⟨w5.heap.size, 0, none⟩ 1 [(j : Int)] 1 rfl (by rfl) HRD.out HLN.out HLD.out ?_
        intro v' w' hown' hgrow hat'
        rw [← encW_snoc] at hown'
        obtain ⟨o4v, c4v, hv4, _, _, _, _⟩ := Rw.own_row encI_len hown'
        subst hv4
        have HOW' := Lib.hid hown'
        have HGR := Lib.hid hgrow
        have HAT := Lib.hid hat'
        have uf' := World.rowIs.frozen (World.rowIs.of_block HJD.out.rows.row (hgrow.block lb HJD.out.rows.lt (fun e => by have := (HVB.out lb e.symm).1; have := HJD.out.ups; omega))) t
        have hS2 := (show (fun w' : World => w'.cell? ⟨rb, 7, none⟩ = some (.slice (some ⟨lb, 0, none⟩) (N + 1) (N + 1)) ∧ w'.cell? ⟨lb, t, none⟩ = some (.slice ot mt ct) ∧ w'.cell? ⟨wr.heap.size, 0, none⟩ = some (.int .i64 (t : Int))) w' from ⟨held_grow hgrow (fun e => by have := (HVB.out rb e).1; have := HJD.out.ups; omega) s7, held_grow hgrow (fun e => by have := (HVB.out lb e).1; have := HJD.out.ups; omega) u0, held_grow hgrow (fun e => HZN.out e) a0⟩)
        clear hown' hgrow hat'
        refine hK' _ _ ⟨fun _ => hS2, ?_⟩
        clear hK' K'
        try simp only [Act.put, List.setIfInBounds_toArray, List.set_cons_zero, List.set_cons_succ]
        refine Rg.take (i := 17) (v := ?_) 40 rfl (by kernel_rfl) (by kernel_rfl) (by kernel_rfl) (by kernel_rfl) (fun _ _ _ h => h) (Or.inl ⟨by rfl, ?_⟩) hS2 ?_
        rotate_left
        · intro w hSw
          go_simp
          try with_reducible rfl
        try simp only [Act.put, List.setIfInBounds_toArray, List.set_cons_zero, List.set_cons_succ]
        refine Rg.step (i := 18) (by kernel_rfl) rfl fun K' hK' => ?_
        have HK := Lib.hid hK'
        clear hK'
        go_simp
        refine HK.out _ _ ⟨fun h => absurd rfl h, ?_⟩
        clear HK K'
        try simp only [Act.put, List.setIfInBounds_toArray, List.set_cons_zero, List.set_cons_succ]
        refine Rg.finished (by kernel_rfl) ?_ _

        have HJ9 := Lib.hid (show NrJ ⟨nn, ns, nt, l⟩ (some ⟨b9, off9, none⟩) cap w g x rb lb w.heap.size lo av (w'.setCell ⟨lb, t, none⟩ (.slice o4v _ c4v)) (.slice o4 (j + 1) c4) (List.range (j + 1)) _ (outs l (j + 1)) from
          (HJD.out.out HTN.out (u := outs l j t ++ [j]) (by rw [HVT.out]; exact HGR.out) HOW'.out (by rw [HVT.out]; exact HAT.out)).same rfl (fun v _ => HOS.out j v t HTF.out))
        go_wp2
        refine ⟨?rel, ?measure⟩
        case rel => exact ⟨j + 1, _, _, by go_num, by omega, HJ9⟩
        case measure => simp [intOf]; omega
      · have ej : j = l.length := by omega
        subst ej
        clear hlt hj
        go_wp2
        go_ret
        obtain ⟨h1, h2⟩ := HEND.out _ _ _ HJ.out
        exact ⟨rb, rfl, lb, lo, _, av, va, VS, _, h1, h2⟩
end Dc
end Go.Proofs.Ytkeojkddbannpaa
