/- ResidualBack: for every input the law returns true and its arguments read as they did. No condition. -/
import Derived.Test.YthgknkjdidbkdaaRbk6
import Derived.Test.YthgknkjdidbkdaaOpenc
import Derived.Test.YthgknkjdidbkdaaAppb
import Derived.Test.YthgknkjdidbkdaaRows
import Derived.WalkKit
import Derived.ProofKit
import Derived.OpenShut
import Derived.ShutString
import Derived.ChangeOld
import Derived.Below
import Derived.Deep.Strs
namespace Go.Proofs.Ythgknkjdidbkdaa.residualBack
open Go.ChangeShapes Go.WideShapes Go.ChangeAt Go.RowKit
open Go.ChangeMaps (open_string shut_string)
set_option linter.unusedVariables false
set_option linter.unusedSimpArgs false

theorem own : ownKnob Try.prog.godebug = none := by kernel_rfl
theorem laidOut : laidOutB Try.prog = true := by kernel_rfl

def IntsIn (k : IntKind) (w : World) (a : Option Addr) (len cap : Nat) (zs : List Int) : Prop :=
  (a = none ∧ len = 0 ∧ cap = 0 ∧ zs = []) ∨
  ∃ x, a = some x ∧ len ≤ cap ∧ cap ≤ maxLen ∧ zs.length = cap ∧ (∀ i, i < zs.length → w.cell? (x.add i) = some (.int k (zs.getD i 0))) ∧ ∀ n ∈ zs, (Lit.int k n).wf = true



set_option maxRecDepth 100000 in
set_option maxHeartbeats 4000000 in
theorem walk (a0 : Option Addr) (len0 cap0 : Nat) (l0 : List Int) (w : World) (w0 : IntsIn .i64 w a0 len0 cap0 l0) :
    Calls Try.prog 9 #[.slice a0 len0 cap0] w fun e w' => e = .returned (.bool true) ∧ Below w.heap.size w w' := by
  obtain ⟨cs, hk0, hq0, bq0, _, _, _⟩ := Ne.ints_row w0
  subst hk0
  clear w0
  have BK0 := Lib.hid bq0
  have KR0 := Lib.hid hq0
  clear bq0 hq0
  have HSH := Lib.hid (Ne.shown_any w)
  by_cases g1 : 60 < cs.length
  · have g1' : (60 : Int) < (cs.length : Int) := by omega
    go_enter Try.func9, Try.ntmps9
    go_wp2_with fail
    refine HSH.out.mono ?_
    rintro e w1 ⟨rfl, hb⟩
    have HB1 := Lib.hid hb
    clear hb
    go_wp2
    go_ret
    exact ⟨rfl, HB1.out⟩
  have g1' : ¬ (60 : Int) < (cs.length : Int) := by omega
  have lcs : cs.length ≤ 60 := by omega
  have CK := Lib.hid (Ne.bnet_check lcs)
  have HBL := Lib.hid (fun k h => Ne.bfill_len (cs := cs) (i := k) h)
  have HBS := Lib.hid (fun k h => Ne.bfill_set (cs := cs) (i := k) h)
  have HBD := Lib.hid (fun k h => Ne.bcap_bd (cs := cs) (i := k) h)
  have HBC := Lib.hid (fun k h => Ne.bcap_at (cs := cs) (i := k) h)
  have HTA := Lib.hid (fun k h => Ne.barc_take (cs := cs) (i := k) h)
  have hmk := Ne.make_l cs.length (by omega)
  go_enter Try.func9, Try.ntmps9
  go_wp2_with fail
  refine HSH.out.mono ?_
  rintro e w1 ⟨rfl, hb⟩
  have HB1 := Lib.hid hb
  have HR1 := Lib.hid (KR0.out.kept hb)
  clear hb HSH
  have HM5 := Lib.hid (Ne.netBox_alloc (Ne.netBox_alloc (Ne.netBox_new w1 2 1 2 (.slice none 0 0)) (.cells (madeCells #[.int .i64 0] cs.length) 2)) (.cells (madeCells #[.int .i64 0] cs.length) 2))
  have HG0 := Lib.hid ((Ne.lbox_made (w1.alloc (.cells #[.int .i64 2, .int .i64 1, .int .i64 2, .slice none 0 0] 24)) cs.length (b := w1.heap.size + 1) (by simp)).alloc (.cells (madeCells #[.int .i64 0] cs.length) 2))
  have HGF := Lib.hid (Ne.lbox_made ((w1.alloc (.cells #[.int .i64 2, .int .i64 1, .int .i64 2, .slice none 0 0] 24)).alloc (.cells (madeCells #[.int .i64 0] cs.length) 2)) cs.length (b := w1.heap.size + 2) (by simp))
  rw [← Ne.bfill_zero] at HGF
  have HB5 := Lib.hid (show Below w1.heap.size w1 (((w1.alloc (.cells #[.int .i64 2, .int .i64 1, .int .i64 2, .slice none 0 0] 24)).alloc (.cells (madeCells #[.int .i64 0] cs.length) 2)).alloc (.cells (madeCells #[.int .i64 0] cs.length) 2)) from (((Below.refl _ _).alloc (Nat.le_refl _) _).alloc (by simp) _).alloc (by simp; omega) _)
  have HZ5 : (((w1.alloc (.cells #[.int .i64 2, .int .i64 1, .int .i64 2, .slice none 0 0] 24)).alloc (.cells (madeCells #[.int .i64 0] cs.length) 2)).alloc (.cells (madeCells #[.int .i64 0] cs.length) 2)).heap.size = w1.heap.size + 3 := by simp
  go_wp2
  generalize (((w1.alloc (.cells #[.int .i64 2, .int .i64 1, .int .i64 2, .slice none 0 0] 24)).alloc (.cells (madeCells #[.int .i64 0] cs.length) 2)).alloc (.cells (madeCells #[.int .i64 0] cs.length) 2)) = W5 at *
  obtain ⟨Z, hZ⟩ : ∃ z, z = W5.heap.size := ⟨_, rfl⟩
  have HZW : Hid (Z ≤ W5.heap.size) := Lib.hid (by omega)
  obtain ⟨bq, hbq⟩ : ∃ z, z = w1.heap.size := ⟨_, rfl⟩
  obtain ⟨b0, hb0⟩ : ∃ z, z = w1.heap.size + 1 := ⟨_, rfl⟩
  obtain ⟨bF, hbF⟩ : ∃ z, z = w1.heap.size + 2 := ⟨_, rfl⟩
  rw [← hbF] at HGF ⊢
  rw [← hb0] at HG0 ⊢
  rw [← hbq] at HM5 HB5 ⊢
  have hq0 : bq < b0 := by omega
  have h0F : b0 < bF := by omega
  have hFZ : bF < Z := by omega
  have HBQ := Lib.hid (show bq = w1.heap.size from hbq)
  clear hmk HZ5 hZ hbq hb0 hbF
  go_loopw [7] (fun si wr => ∃ (j : Nat) (v : Value), si = .int .i64 j ∧ j ≤ cs.length ∧ Hid (Ne.NetBox wr bq 2 1 2 v) ∧ Hid (Ne.OwnA wr Z v (Ne.barc (cs.take j))) ∧ Hid (Ne.LBox wr bF (Ne.bfill cs j)) ∧ Hid (Ne.LBox wr b0 (List.replicate cs.length 0)) ∧ Hid (Below bq w1 wr) ∧ Hid (Z ≤ wr.heap.size)) (fun si _ => cs.length - (intOf si).toNat)
  case atStart => exact ⟨0, _, rfl, Nat.zero_le _, HM5, Lib.hid (Rw.own_nil _ _), HGF, HG0, HB5, HZW⟩
  case round =>
    obtain ⟨j, v, rfl, hj, HM, HO, HG, HG0, HBW, HZ⟩ := hrel
    clear HM5 HGF HB5 HZW
    by_cases hlt : j < cs.length
    · obtain ⟨b4, o4, e4, hb4, d0⟩ := Ne.irow_cell HR1.out hlt
      subst e4
      have hb4q : b4 < bq := by have := HBQ.out; omega
      replace d0 := (HBW.out.cell (p := ⟨b4, o4 + j, none⟩) hb4q).trans d0
      have hraw := BK0.out (Ne.amt cs j) (by have := Ne.at_amt hlt; exact List.mem_of_getElem? this)
      have hyb := HBD.out j hlt
      have HTK := Lib.hid (HTA.out j hlt)
      have HST := Lib.hid (HBS.out j hlt)
      have PK := Lib.hid fun w' => Ne.pick_any (Ne.amt cs j) 50 w' hraw.1 hraw.2 (by omega) (by omega)
      rw [← HBC.out j hlt] at PK
      generalize Ne.amt (Ne.bcap cs) j = y at *
      generalize Ne.amt cs j = raw at *
      have hji : (j : Int) < (cs.length : Int) := by omega
      have hj0 : (0 : Int) ≤ (j : Int) := by omega
      have z0 := HG.out.cell (i := j) (by rw [HBL.out j hj]; exact hlt)
      have zf := HG.out.frozen j
      have HG2 := Lib.hid (HG.out.set (i := j) (by rw [HBL.out j hj]; exact hlt) y)
      rw [HST.out] at HG2
      have HM2 := Lib.hid (Ne.netBox_other HM.out (b2 := bF) (o := j) (v2 := .int .i64 y) (by omega))
      have HO2 := Lib.hid (Rw.own_set HO.out (p := ⟨bF, j, none⟩) (fun h => by have := Rw.own_block HO.out _ h; simp only at this; omega) (.int .i64 y))
      have HG02 := Lib.hid (HG0.out.far (p := ⟨bF, j, none⟩) (by show b0 ≠ bF; omega) (.int .i64 y))
      have HB2 := Lib.hid (HBW.out.setCell (p := ⟨bF, j, none⟩) (by show bq ≤ bF; omega) (.int .i64 y))
      have HZ2 := Lib.hid (show Z ≤ (wr.setCell ⟨bF, j, none⟩ (.int .i64 y)).heap.size by have := HZ.out; simpa [World.setCell] using this)
      have m3 := (Ne.netBox_cells HM2.out).2.2.2
      have e0 := HG2.out.cell (i := j) (by rw [HBL.out (j + 1) (by omega)]; exact hlt)
      have HE0 := Lib.hid (show Ne.amt (Ne.bfill cs (j + 1)) j = y by rw [← HST.out, Ne.amt_set _ (by rw [HBL.out j hj]; exact hlt), if_pos rfl])
      rw [HE0.out] at e0
      go_wp2_with fail
      refine (PK.out _).mono ?_
      rintro e w' ⟨rfl, rfl⟩
      go_upto_region 11 with fail
      clear d0 z0 zf HM HO HG HG0 HBW HZ
      generalize (wr.setCell ⟨bF, j, none⟩ (.int .i64 y)) = W2 at *
      have hvb := Rw.own_block HO2.out
      have HV1 := Lib.hid (show some bq ≠ v.ownBlock from fun h => by have := hvb _ h.symm; omega)
      have HV2 := Lib.hid (show v.ownBlock ≠ some bF from fun h => by have := hvb _ h; omega)
      have HO1 := Lib.hid (show Ne.OwnA (W2.alloc (.cells #[.int .i64 1, .int .i64 2, .int .i64 y] 51)).drew Z v (Ne.barc (cs.take j)) from Rw.own_alloc HO2.out _)
      have HNW := Lib.hid (show Ne.ARow (W2.alloc (.cells #[.int .i64 1, .int .i64 2, .int .i64 y] 51)).drew (some ⟨W2.heap.size, 0, none⟩) [⟨1, 2, y⟩] from Ne.arow_at1 W2 rfl ⟨1, 2, y⟩)
      have HLN := Lib.hid (show (Ne.barc (cs.take j)).length + ([⟨1, 2, y⟩] : List Ne.Arc).length ≤ 1099511627776 by rw [Ne.barc_len, List.length_take]; simp only [List.length_singleton]; omega)
      have HTL := Lib.hid (show (Ne.barc (cs.take (j + 1))).length = j + 1 by rw [Ne.barc_len, List.length_take]; omega)
      have hzz := HZ2.out
      have HBZ : Z ≤ (W2.alloc (.cells #[.int .i64 1, .int .i64 2, .int .i64 y] 51)).drew.heap.size := by rw [Ne.size_allocd]; omega
      have HMA := Lib.hid (show Ne.NetBox (W2.alloc (.cells #[.int .i64 1, .int .i64 2, .int .i64 y] 51)).drew bq 2 1 2 v from Ne.netBox_alloc HM2.out _)
      have HGA := Lib.hid (show Ne.LBox (W2.alloc (.cells #[.int .i64 1, .int .i64 2, .int .i64 y] 51)).drew bF (Ne.bfill cs (j + 1)) from HG2.out.alloc _)
      have HG0A := Lib.hid (show Ne.LBox (W2.alloc (.cells #[.int .i64 1, .int .i64 2, .int .i64 y] 51)).drew b0 (List.replicate cs.length 0) from HG02.out.alloc _)
      have HBA := Lib.hid (show Below bq w1 (W2.alloc (.cells #[.int .i64 1, .int .i64 2, .int .i64 y] 51)).drew from Ne.below_drew (HB2.out.alloc (by omega) _))
      have hS0 := (show (fun w' => w'.cell? ⟨bq, 3, none⟩ = some v ∧ w'.cell? ⟨bF, j, none⟩ = some (.int .i64 y)) W2.drew from ⟨m3, e0⟩)
      have hS1 := (show (fun w' => w'.cell? ⟨bq, 3, none⟩ = some v ∧ w'.cell? ⟨bF, j, none⟩ = some (.int .i64 y)) (W2.alloc (.cells #[.int .i64 1, .int .i64 2, .int .i64 y] 51)).drew from ⟨Ne.held_new m3, Ne.held_new e0⟩)
      refine Rg.start (S := (fun w' => w'.cell? ⟨bq, 3, none⟩ = some v ∧ w'.cell? ⟨bF, j, none⟩ = some (.int .i64 y))) (last := 10) (by kernel_rfl) ?_
      refine Rg.take (i := 0) (v := ?_) 40 rfl (by kernel_rfl) (by kernel_rfl) (by kernel_rfl) (by kernel_rfl) (fun _ _ _ h => h) (Or.inl ⟨by rfl, ?_⟩) hS0 ?_
      rotate_left
      · intro w hSw
        go_simp
        try with_reducible rfl
      try simp only [Act.put, List.setIfInBounds_toArray, List.set_cons_zero, List.set_cons_succ]
      refine Rg.take (i := 1) (v := ?_) 40 rfl (by kernel_rfl) (by kernel_rfl) (by kernel_rfl) (by kernel_rfl) (fun _ _ _ h => h) (Or.inl ⟨by rfl, ?_⟩) hS0 ?_
      rotate_left
      · intro w hSw
        go_simp
        try with_reducible rfl
      try simp only [Act.put, List.setIfInBounds_toArray, List.set_cons_zero, List.set_cons_succ]
      refine Rg.take (i := 2) (v := ?_) 40 rfl (by kernel_rfl) (by kernel_rfl) (by kernel_rfl) (by kernel_rfl) (fun _ _ _ h => h) (Or.inl ⟨by rfl, ?_⟩) hS0 ?_
      rotate_left
      · intro w hSw
        go_simp
        try with_reducible rfl
      try simp only [Act.put, List.setIfInBounds_toArray, List.set_cons_zero, List.set_cons_succ]
      refine Rg.take (i := 3) (v := ?_) 40 rfl (by kernel_rfl) (by kernel_rfl) (by kernel_rfl) (by kernel_rfl) (fun _ _ _ h => h) (Or.inl ⟨by rfl, ?_⟩) hS0 ?_
      rotate_left
      · intro w hSw
        go_simp
        try with_reducible rfl
      try simp only [Act.put, List.setIfInBounds_toArray, List.set_cons_zero, List.set_cons_succ]
      refine Rg.take (i := 4) (v := ?_) 40 rfl (by kernel_rfl) (by kernel_rfl) (by kernel_rfl) (by kernel_rfl) (fun _ _ _ h => h) (Or.inl ⟨by rfl, ?_⟩) hS0 ?_
      rotate_left
      · intro w hSw
        go_simp
        try with_reducible rfl
      try simp only [Act.put, List.setIfInBounds_toArray, List.set_cons_zero, List.set_cons_succ]
      refine Rg.take (i := 5) (v := ?_) 40 rfl (by kernel_rfl) (by kernel_rfl) (by kernel_rfl) (by kernel_rfl) (fun _ _ _ h => h) (Or.inl ⟨by rfl, ?_⟩) hS0 ?_
      rotate_left
      · intro w hSw
        go_simp
        try with_reducible rfl
      try simp only [Act.put, List.setIfInBounds_toArray, List.set_cons_zero, List.set_cons_succ]
      refine Rg.take (i := 6) (v := ?_) 40 rfl (by kernel_rfl) (by kernel_rfl) (by kernel_rfl) (by kernel_rfl) (fun _ _ _ h => h) (Or.inl ⟨by rfl, ?_⟩) hS0 ?_
      rotate_left
      · intro w hSw
        go_simp
        try with_reducible rfl
      try simp only [Act.put, List.setIfInBounds_toArray, List.set_cons_zero, List.set_cons_succ]
      refine Rg.step (i := 7) (by kernel_rfl) rfl fun K' hK' => ?_
      have HK := Lib.hid hK'
      clear hK'
      go_simp
      refine HK.out _ _ ⟨fun _ => hS1, ?_⟩
      clear HK K'
      try simp only [Act.put, List.setIfInBounds_toArray, List.set_cons_zero, List.set_cons_succ]
      refine Rg.step (i := 8) (by kernel_rfl) rfl fun K' hK' => ?_
      refine Rw.stepAt Ne.elemA Ne.encA_len Ne.encA_one (by rfl) (.tmp 50) (.tmp 56) (by rfl) Z v (Ne.barc (cs.take j)) (by rfl) HO1.out ⟨W2.heap.size, 0, none⟩ 1 [⟨1, 2, y⟩] 1 rfl (by rfl) HNW.out HLN.out HBZ ?_
      intro v' w' hown' hgrow _
      rw [← HTK.out] at hown'
      obtain ⟨vo, vc, hv', _⟩ := Rw.own_row Ne.encA_len hown'
      rw [HTL.out] at hv'
      subst hv'
      have HX2 := Lib.hid (Ne.netBox_grown HMA.out hgrow HV1.out)
      have nf := Ne.netBox_frozen HX2.out 3
      have o3 := (Ne.netBox_cells HX2.out).2.2.2
      have hS2 := (show (fun w' => w'.cell? ⟨bq, 3, none⟩ = some v ∧ w'.cell? ⟨bF, j, none⟩ = some (.int .i64 y)) w' from ⟨o3, Ne.held_grow hgrow HV2.out e0⟩)
      refine hK' _ _ ⟨fun _ => hS2, ?_⟩
      clear hK' K'
      try simp only [Act.put, List.setIfInBounds_toArray, List.set_cons_zero, List.set_cons_succ]
      refine Rg.take (i := 9) (v := ?_) 40 rfl (by kernel_rfl) (by kernel_rfl) (by kernel_rfl) (by kernel_rfl) (fun _ _ _ h => h) (Or.inl ⟨by rfl, ?_⟩) hS2 ?_
      rotate_left
      · intro w hSw
        go_simp
        try with_reducible rfl
      try simp only [Act.put, List.setIfInBounds_toArray, List.set_cons_zero, List.set_cons_succ]
      refine Rg.step (i := 10) (by kernel_rfl) rfl fun K' hK' => ?_
      have HK := Lib.hid hK'
      clear hK'
      go_simp
      refine HK.out _ _ ⟨fun h => absurd rfl h, ?_⟩
      clear HK K'
      try simp only [Act.put, List.setIfInBounds_toArray, List.set_cons_zero, List.set_cons_succ]
      refine Rg.finished (by kernel_rfl) ?_ _
      have HM3 := Lib.hid (Ne.netBox_set (v2 := .slice vo (j + 1) vc) HX2.out)
      have HO3 := Lib.hid (Rw.own_set hown' (p := ⟨bq, 3, none⟩) (fun h => by have := Rw.own_block hown' _ h; simp only at this; omega) (.slice vo (j + 1) vc))
      have HG3 := Lib.hid ((HGA.out.grown hgrow (fun h => by have := hvb _ h.symm; omega)).far (p := ⟨bq, 3, none⟩) (by show bF ≠ bq; omega) (.slice vo (j + 1) vc))
      have HG03 := Lib.hid ((HG0A.out.grown hgrow (fun h => by have := hvb _ h.symm; omega)).far (p := ⟨bq, 3, none⟩) (by show b0 ≠ bq; omega) (.slice vo (j + 1) vc))
      have HB3 := Lib.hid ((HBA.out.grown hgrow (by omega) (fun b hb => by have := hvb _ hb; omega)).setCell (p := ⟨bq, 3, none⟩) (Nat.le_refl bq) (.slice vo (j + 1) vc))
      have HZ3 := Lib.hid (show Z ≤ (w'.setCell ⟨bq, 3, none⟩ (.slice vo (j + 1) vc)).heap.size by have := hgrow.size; simp only [World.setCell, Array.size_modify]; omega)
      clear hS0 hS1 hS2 hown' hgrow HX2 nf o3 HO1 HNW HBZ HMA HGA HG0A HBA m3 e0
      go_wp2
      go_roundw
      case rel => exact ⟨j + 1, _, by go_num, by omega, HM3, HO3, HG3, HG03, HB3, HZ3⟩
      case measure => simp [intOf]; omega
    have ej : j = cs.length := by omega
    subst ej
    rw [Ne.barc_all] at HO
    rw [Ne.bfill_all] at HG
    obtain ⟨vo, vc, hv, _⟩ := Rw.own_row Ne.encA_len HO.out
    rw [Ne.barc_len] at hv
    subst hv
    have HA0 := Lib.hid (Ne.arow_ofA HO.out)
    have HB6 := Lib.hid (HB1.out.trans ((show Below w1.heap.size w1 wr by have := HBW.out; rwa [HBQ.out] at this).mono HB1.out.size))
    have EN := Lib.hid (show Ne.encN (Ne.bnet cs) vo vc = .agg #[.int .i64 2, .int .i64 1, .int .i64 2, .slice vo cs.length vc] by simp [Ne.encN, Ne.bnet, Ne.barc_len])
    have EL := Lib.hid (show (Ne.bnet cs).l.length = cs.length from Ne.barc_len cs)
    have R0 := Lib.hid fun w' h1 h2 => show Calls Try.prog 11 #[.agg #[.int .i64 2, .int .i64 1, .int .i64 2, .slice vo cs.length vc], .slice (some ⟨b0, 0, none⟩) cs.length cs.length] w' fun e w2 => ∃ o c, e = .returned (.tuple #[.slice o (2 * cs.length) c, .int .i64 0]) ∧ Ne.IRow w2 o (Ne.roomL (Ne.barc cs) (List.replicate cs.length 0) (2 * (Ne.barc cs).length)) ∧ Below w'.heap.size w' w2 by
      have := Ne.room_flow (n := Ne.bnet cs) vo vc (some ⟨b0, 0, none⟩) cs.length w' CK.out h1 h2 (Ne.bflow_nought cs)
      rw [EN.out, EL.out] at this
      rw [Ne.barc_len]; exact this
    have R1 := Lib.hid fun w' h1 h2 => show Calls Try.prog 11 #[.agg #[.int .i64 2, .int .i64 1, .int .i64 2, .slice vo cs.length vc], .slice (some ⟨bF, 0, none⟩) cs.length cs.length] w' fun e w2 => ∃ o c, e = .returned (.tuple #[.slice o (2 * cs.length) c, .int .i64 0]) ∧ Ne.IRow w2 o (Ne.roomL (Ne.barc cs) (Ne.bcap cs) (2 * (Ne.barc cs).length)) ∧ Below w'.heap.size w' w2 by
      have := Ne.room_flow (n := Ne.bnet cs) vo vc (some ⟨bF, 0, none⟩) cs.length w' CK.out h1 h2 (Ne.bflow_full cs)
      rw [EN.out, EL.out] at this
      rw [Ne.barc_len]; exact this
    have RX := Lib.hid fun w' h1 h2 => show Calls Try.prog 15 #[.agg #[.int .i64 2, .int .i64 1, .int .i64 2, .slice vo cs.length vc], .slice (some ⟨bF, 0, none⟩) cs.length cs.length, .int .i64 1] w' fun e w2 => ∃ b c M, e = .returned (.tuple #[.slice (some ⟨b, 0, none⟩) 3 c, .int .i64 0]) ∧ Ne.IsReach (Ne.bnet cs) (Ne.bcap cs) 1 M ∧ Ne.BBox w2 b M ∧ Below w'.heap.size w' w2 by
      have := Ne.reach_flow (n := Ne.bnet cs) vo vc (some ⟨bF, 0, none⟩) cs.length w' CK.out h1 h2 (Ne.bflow_full cs) 1 (by omega)
      rw [EN.out, EL.out] at this
      exact this
    have PN0 := Lib.hid fun (k : Nat) (hk : k < cs.length) (o : Option Addr) w' h1 h2 h3 => show Calls Try.prog 13 #[.agg #[.int .i64 2, .int .i64 1, .int .i64 2, .slice vo cs.length vc], .slice (some ⟨b0, 0, none⟩) cs.length cs.length, .slice o 1 1, .int .i64 (Ne.amt (Ne.bcap cs) k)] w' fun e w2 => ∃ o c, e = .returned (.tuple #[.slice o (Ne.pushV (Ne.bnet cs) (List.replicate cs.length 0) [2 * (k : Int)] (Ne.amt (Ne.bcap cs) k)).length c, .int .i64 (Ne.pushE (Ne.bnet cs) (List.replicate cs.length 0) [2 * (k : Int)] (Ne.amt (Ne.bcap cs) k))]) ∧ Ne.IRow w2 o (Ne.pushV (Ne.bnet cs) (List.replicate cs.length 0) [2 * (k : Int)] (Ne.amt (Ne.bcap cs) k)) ∧ Below w'.heap.size w' w2 by
      have hb := Ne.bcap_bd hk
      have := Ne.push_flowC (n := Ne.bnet cs) vo vc (some ⟨b0, 0, none⟩) cs.length w' CK.out h1 h2 (Ne.bflow_nought cs) o 1 [2 * (k : Int)] (Ne.amt (Ne.bcap cs) k) h3 (by simp) (by simp [Ne.in64]; omega) (by unfold Ne.in64; omega)
      rw [EN.out, EL.out] at this
      exact this
    have PF0 := Lib.hid fun (k : Nat) (hk : k < cs.length) (o : Option Addr) w' h1 h2 h3 => show Calls Try.prog 13 #[.agg #[.int .i64 2, .int .i64 1, .int .i64 2, .slice vo cs.length vc], .slice (some ⟨bF, 0, none⟩) cs.length cs.length, .slice o 1 1, .int .i64 1] w' fun e w2 => ∃ v, e = .returned (.tuple #[v, .int .i64 9]) ∧ Below w'.heap.size w' w2 by
      have := Ne.push_flowC (n := Ne.bnet cs) vo vc (some ⟨bF, 0, none⟩) cs.length w' CK.out h1 h2 (Ne.bflow_full cs) o 1 [2 * (k : Int)] 1 h3 (by simp) (by simp [Ne.in64]; omega) (by unfold Ne.in64; omega)
      rw [EN.out, EL.out, Ne.bpush_full lcs hk] at this
      exact this.mono fun e w2 ⟨o, c, h1, _, h2⟩ => ⟨_, h1, h2⟩
    have HRA := Lib.hid (fun k (h : k < cs.length) => Ne.broom (cs := cs) (f := List.replicate cs.length 0) h)
    have HRB := Lib.hid (fun k (h : k < cs.length) => Ne.broom (cs := cs) (f := Ne.bcap cs) h)
    have HRL := Lib.hid (fun f => show (Ne.roomL (Ne.barc cs) f (2 * (Ne.barc cs).length)).length = 2 * cs.length by rw [Ne.roomL_len, Ne.barc_len])
    have HPC := Lib.hid (fun k (h : k < cs.length) => Ne.bpush_nought lcs h)
    have HBR := Lib.hid (fun M h => Ne.breach lcs (M := M) h)
    obtain ⟨n0, n1, n2, n3⟩ := Ne.netBox_cells HM.out
    clear HBC HBS HBL HTA HO
    go_wp2_with fail
    refine (R0.out _ HA0.out HG0.out.irow).mono ?_
    rintro e w7 ⟨oa0, ca, rfl, hra, hb⟩
    have HQ7 := Lib.hid hb
    have HXA := Lib.hid hra
    obtain ⟨k0, k1, k2, k3⟩ := Ne.netBox_cells (Ne.netBox_below HM.out HQ7.out (Ne.netBox_lt HM.out))
    clear hb hra n0 n1 n2 n3
    go_wp2_with fail
    refine (R1.out _ (HA0.out.kept HQ7.out) (HG.out.kept HQ7.out).irow).mono ?_
    rintro e w8 ⟨ob0, cb, rfl, hrb, hb⟩
    have HQ8 := Lib.hid (HQ7.out.trans (hb.mono HQ7.out.size))
    have HXA8 := Lib.hid (HXA.out.kept hb)
    have HXB := Lib.hid hrb
    clear hb hrb k0 k1 k2 k3 HXA
    obtain ⟨k0, k1, k2, k3⟩ := Ne.netBox_cells (Ne.netBox_below HM.out HQ8.out (Ne.netBox_lt HM.out))
    go_wp2_with fail
    refine (RX.out _ (HA0.out.kept HQ8.out) (HG.out.kept HQ8.out).irow).mono ?_
    rintro e w9 ⟨bx, cx, M, rfl, hi, hm, hb⟩
    have HQ9 := Lib.hid (HQ8.out.trans (hb.mono HQ8.out.size))
    have HXA9 := Lib.hid (HXA8.out.kept hb)
    have HXB9 := Lib.hid (HXB.out.kept hb)
    have mx := hm.cell (i := 2) (by rw [hi.len]; show 2 < (2 : Int).toNat + 1; decide)
    rw [HBR.out M hi] at mx
    clear hb hi hm k0 k1 k2 k3 HXA8 HXB R0 R1 RX HBR
    have HM9 := Lib.hid (Ne.netBox_below HM.out HQ9.out (Ne.netBox_lt HM.out))
    have HA := Lib.hid (HA0.out.kept HQ9.out)
    have HF0 := Lib.hid (HG0.out.kept HQ9.out)
    have HFF := Lib.hid (HG.out.kept HQ9.out)
    have HB9 := Lib.hid (HB6.out.trans (HQ9.out.mono HB6.out.size))
    have h23 : (2 : Nat) < 3 := by omega
    clear HA0 HG0 HG HQ7 HQ8 HQ9 HM HB6
    go_wp2
    clear mx
    go_loopg [14] cs.length (fun g s wy => ∃ i : Nat, s = .int .i64 i ∧ i + g = cs.length ∧ Hid (Below w9.heap.size w9 wy))
    case atStart => exact ⟨0, rfl, by omega, Lib.hid (Below.refl _ _)⟩
    case round =>
      obtain ⟨i, rfl, hig, HQ⟩ := hrel
      by_cases hil : i < cs.length
      case neg =>
        have ei : i = cs.length := by omega
        subst ei
        have HBE := Lib.hid (HB9.out.trans (HQ.out.mono HB9.out.size))
        clear hil hig
        go_wp2
        go_ret
        exact ⟨rfl, HBE.out⟩
      have hii : (i : Int) < (cs.length : Int) := by omega
      have hi0 : (0 : Int) ≤ (i : Int) := by omega
      obtain ⟨ba, oa, ea, hba, a0c⟩ := Ne.irow_cell HXA9.out (i := 2 * i) (by rw [HRL.out]; omega)
      subst ea
      obtain ⟨_, _, e, _, a1c⟩ := Ne.irow_cell HXA9.out (i := 2 * i + 1) (by rw [HRL.out]; omega)
      cases e
      obtain ⟨bb, ob, eb, hbb, b0c⟩ := Ne.irow_cell HXB9.out (i := 2 * i) (by rw [HRL.out]; omega)
      subst eb
      obtain ⟨_, _, e, _, b1c⟩ := Ne.irow_cell HXB9.out (i := 2 * i + 1) (by rw [HRL.out]; omega)
      cases e
      rw [(HRA.out i hil).1, Ne.amt_repl] at a0c
      rw [(HRA.out i hil).2, Ne.amt_repl] at a1c
      rw [(HRB.out i hil).1] at b0c
      rw [(HRB.out i hil).2] at b1c
      have fc := HFF.out.cell (i := i) (by rw [Ne.bcap_len]; exact hil)
      have hffl := HFF.out.lt
      have hyb := HBD.out i hil
      have HPCI := Lib.hid (HPC.out i hil)
      have PNI := Lib.hid (PN0.out i hil)
      have PFI := Lib.hid (PF0.out i hil)
      generalize Ne.pushV (Ne.bnet cs) (List.replicate cs.length 0) [2 * (i : Int)] (Ne.amt (Ne.bcap cs) i) = PV at *
      generalize Ne.pushE (Ne.bnet cs) (List.replicate cs.length 0) [2 * (i : Int)] (Ne.amt (Ne.bcap cs) i) = PE at *
      generalize Ne.amt (Ne.bcap cs) i = y at *
      rw [Int.sub_zero] at a0c
      rw [Int.sub_self] at b0c
      obtain ⟨p, hp⟩ : ∃ p, p = 2 * i := ⟨_, rfl⟩
      obtain ⟨p1, hp1⟩ : ∃ p, p = 2 * i + 1 := ⟨_, rfl⟩
      rw [← hp] at a0c b0c
      rw [← hp1] at a1c b1c
      have hpi : 2 * (i : Int) = (p : Int) := by omega
      rw [hpi] at PNI PFI
      have PN := Lib.hid PNI.out
      have PF := Lib.hid PFI.out
      have hx1 : IntKind.i64.wrap (2 * (i : Int)) = (p : Int) := by rw [IntKind.wrap_i64]; omega
      have hx2 : IntKind.i64.wrap ((p : Int) + 1) = (p1 : Int) := by rw [IntKind.wrap_i64]; omega
      have hx3 : (0 : Int) ≤ (p : Int) := by omega
      have hx4 : (0 : Int) ≤ (p1 : Int) := by omega
      have hx5 : (p : Int) < 2 * (cs.length : Int) := by omega
      have hx6 : (p1 : Int) < 2 * (cs.length : Int) := by omega
      have hx7 : p < 2 * cs.length := by omega
      have hx8 : p1 < 2 * cs.length := by omega
      clear hpi hp hp1 PNI PFI
      replace a0c := (HQ.out.cell (p := ⟨ba, oa + p, none⟩) hba).trans a0c
      replace a1c := (HQ.out.cell (p := ⟨ba, oa + p1, none⟩) hba).trans a1c
      replace b0c := (HQ.out.cell (p := ⟨bb, ob + p, none⟩) hbb).trans b0c
      replace b1c := (HQ.out.cell (p := ⟨bb, ob + p1, none⟩) hbb).trans b1c
      have HFC := Lib.hid (show ∀ w', Below w9.heap.size w9 w' → w'.cell? ⟨bF, i, none⟩ = some (.int .i64 y) from fun w' h => (h.cell (p := ⟨bF, i, none⟩) hffl).trans fc)
      have fcr := HFC.out wr HQ.out
      have hbl9 := Ne.netBox_lt HM9.out
      have HS22 := Lib.hid (show ∀ w', Below w9.heap.size w9 w' → (fun w' => (w'.cell? ⟨bq, 0, none⟩ = some (.int .i64 2) ∧ w'.cell? ⟨bq, 1, none⟩ = some (.int .i64 1) ∧ w'.cell? ⟨bq, 2, none⟩ = some (.int .i64 2) ∧ w'.cell? ⟨bq, 3, none⟩ = some (.slice vo cs.length vc)) ∧ w'.cell? ⟨bF, i, none⟩ = some (.int .i64 y)) w' from fun w' h => ⟨Ne.netBox_cells (Ne.netBox_below HM9.out h hbl9), HFC.out w' h⟩)
      go_wp2
      have hS0 := (show (fun w' => (w'.cell? ⟨ba, oa + p, none⟩ = some (.int .i64 y) ∧ w'.cell? ⟨ba, oa + p1, none⟩ = some (.int .i64 0)) ∧ (w'.cell? ⟨bb, ob + p, none⟩ = some (.int .i64 0) ∧ w'.cell? ⟨bb, ob + p1, none⟩ = some (.int .i64 y)) ∧ w'.cell? ⟨bF, i, none⟩ = some (.int .i64 y)) wr.drew from ⟨⟨a0c, a1c⟩, ⟨b0c, b1c⟩, fcr⟩)
      refine Rh.start (S := (fun w' => (w'.cell? ⟨ba, oa + p, none⟩ = some (.int .i64 y) ∧ w'.cell? ⟨ba, oa + p1, none⟩ = some (.int .i64 0)) ∧ (w'.cell? ⟨bb, ob + p, none⟩ = some (.int .i64 0) ∧ w'.cell? ⟨bb, ob + p1, none⟩ = some (.int .i64 y)) ∧ w'.cell? ⟨bF, i, none⟩ = some (.int .i64 y))) (by kernel_rfl) ?_
      refine Rh.take (some 98) (i := 0) (v := ?_) rfl (by kernel_rfl) (by kernel_rfl) (by kernel_rfl) (by kernel_rfl) (fun _ _ _ h => h) (Or.inl ⟨by rfl, ?_⟩) hS0 ?_
      rotate_left
      · intro w hSw
        go_simp
        try with_reducible rfl
      try simp only [Act.put, List.setIfInBounds_toArray, List.set_cons_zero, List.set_cons_succ]
      refine Rh.take (some 99) (i := 1) (v := ?_) rfl (by kernel_rfl) (by kernel_rfl) (by kernel_rfl) (by kernel_rfl) (fun _ _ _ h => h) (Or.inl ⟨by rfl, ?_⟩) hS0 ?_
      rotate_left
      · intro w hSw
        go_simp
        try with_reducible rfl
      try simp only [Act.put, List.setIfInBounds_toArray, List.set_cons_zero, List.set_cons_succ]
      refine Rh.take (some 100) (i := 2) (v := ?_) rfl (by kernel_rfl) (by kernel_rfl) (by kernel_rfl) (by kernel_rfl) (fun _ _ _ h => h) (Or.inl ⟨by rfl, ?_⟩) hS0 ?_
      rotate_left
      · intro w hSw
        go_simp
        try with_reducible rfl
      try simp only [Act.put, List.setIfInBounds_toArray, List.set_cons_zero, List.set_cons_succ]
      refine Rh.take (some 101) (i := 3) (v := ?_) rfl (by kernel_rfl) (by kernel_rfl) (by kernel_rfl) (by kernel_rfl) (fun _ _ _ h => h) (Or.inl ⟨by rfl, ?_⟩) hS0 ?_
      rotate_left
      · intro w hSw
        go_simp
        try with_reducible rfl
      try simp only [Act.put, List.setIfInBounds_toArray, List.set_cons_zero, List.set_cons_succ]
      refine Rh.take (some 102) (i := 4) (v := ?_) rfl (by kernel_rfl) (by kernel_rfl) (by kernel_rfl) (by kernel_rfl) (fun _ _ _ h => h) (Or.inl ⟨by rfl, ?_⟩) hS0 ?_
      rotate_left
      · intro w hSw
        go_simp
        try with_reducible rfl
      try simp only [Act.put, List.setIfInBounds_toArray, List.set_cons_zero, List.set_cons_succ]
      refine Rh.take (some 103) (i := 5) (v := ?_) rfl (by kernel_rfl) (by kernel_rfl) (by kernel_rfl) (by kernel_rfl) (fun _ _ _ h => h) (Or.inl ⟨by rfl, ?_⟩) hS0 ?_
      rotate_left
      · intro w hSw
        go_simp
        try with_reducible rfl
      try simp only [Act.put, List.setIfInBounds_toArray, List.set_cons_zero, List.set_cons_succ]
      refine Rh.take (some 104) (i := 6) (v := ?_) rfl (by kernel_rfl) (by kernel_rfl) (by kernel_rfl) (by kernel_rfl) (fun _ _ _ h => h) (Or.inl ⟨by rfl, ?_⟩) hS0 ?_
      rotate_left
      · intro w hSw
        go_simp
        try with_reducible rfl
      try simp only [Act.put, List.setIfInBounds_toArray, List.set_cons_zero, List.set_cons_succ]
      refine Rh.take (some 105) (i := 7) (v := ?_) rfl (by kernel_rfl) (by kernel_rfl) (by kernel_rfl) (by kernel_rfl) (fun _ _ _ h => h) (Or.inl ⟨by rfl, ?_⟩) hS0 ?_
      rotate_left
      · intro w hSw
        go_simp
        try with_reducible rfl
      try simp only [Act.put, List.setIfInBounds_toArray, List.set_cons_zero, List.set_cons_succ]
      refine Rh.take (some 106) (i := 8) (v := ?_) rfl (by kernel_rfl) (by kernel_rfl) (by kernel_rfl) (by kernel_rfl) (fun _ _ _ h => h) (Or.inl ⟨by rfl, ?_⟩) hS0 ?_
      rotate_left
      · intro w hSw
        go_simp
        try with_reducible rfl
      try simp only [Act.put, List.setIfInBounds_toArray, List.set_cons_zero, List.set_cons_succ]
      refine Rh.take (some 107) (i := 9) (v := ?_) rfl (by kernel_rfl) (by kernel_rfl) (by kernel_rfl) (by kernel_rfl) (fun _ _ _ h => h) (Or.inl ⟨by rfl, ?_⟩) hS0 ?_
      rotate_left
      · intro w hSw
        go_simp
        try with_reducible rfl
      try simp only [Act.put, List.setIfInBounds_toArray, List.set_cons_zero, List.set_cons_succ]
      refine Rh.take (some 108) (i := 10) (v := ?_) rfl (by kernel_rfl) (by kernel_rfl) (by kernel_rfl) (by kernel_rfl) (fun _ _ _ h => h) (Or.inl ⟨by rfl, ?_⟩) hS0 ?_
      rotate_left
      · intro w hSw
        go_simp
        try with_reducible rfl
      try simp only [Act.put, List.setIfInBounds_toArray, List.set_cons_zero, List.set_cons_succ]
      refine Rh.take (some 109) (i := 11) (v := ?_) rfl (by kernel_rfl) (by kernel_rfl) (by kernel_rfl) (by kernel_rfl) (fun _ _ _ h => h) (Or.inl ⟨by rfl, ?_⟩) hS0 ?_
      rotate_left
      · intro w hSw
        go_simp
        try with_reducible rfl
      try simp only [Act.put, List.setIfInBounds_toArray, List.set_cons_zero, List.set_cons_succ]
      refine Rh.take (some 110) (i := 12) (v := ?_) rfl (by kernel_rfl) (by kernel_rfl) (by kernel_rfl) (by kernel_rfl) (fun _ _ _ h => h) (Or.inl ⟨by rfl, ?_⟩) hS0 ?_
      rotate_left
      · intro w hSw
        go_simp
        try with_reducible rfl
      try simp only [Act.put, List.setIfInBounds_toArray, List.set_cons_zero, List.set_cons_succ]
      refine Rh.take (some 111) (i := 13) (v := ?_) rfl (by kernel_rfl) (by kernel_rfl) (by kernel_rfl) (by kernel_rfl) (fun _ _ _ h => h) (Or.inl ⟨by rfl, ?_⟩) hS0 ?_
      rotate_left
      · intro w hSw
        go_simp
        try with_reducible rfl
      try simp only [Act.put, List.setIfInBounds_toArray, List.set_cons_zero, List.set_cons_succ]
      refine Rh.take (some 112) (i := 14) (v := ?_) rfl (by kernel_rfl) (by kernel_rfl) (by kernel_rfl) (by kernel_rfl) (fun _ _ _ h => h) (Or.inl ⟨by rfl, ?_⟩) hS0 ?_
      rotate_left
      · intro w hSw
        go_simp
        try with_reducible rfl
      try simp only [Act.put, List.setIfInBounds_toArray, List.set_cons_zero, List.set_cons_succ]
      refine Rh.take (some 113) (i := 15) (v := ?_) rfl (by kernel_rfl) (by kernel_rfl) (by kernel_rfl) (by kernel_rfl) (fun _ _ _ h => h) (Or.inl ⟨by rfl, ?_⟩) hS0 ?_
      rotate_left
      · intro w hSw
        go_simp
        try with_reducible rfl
      try simp only [Act.put, List.setIfInBounds_toArray, List.set_cons_zero, List.set_cons_succ]
      refine Rh.take (some 114) (i := 16) (v := ?_) rfl (by kernel_rfl) (by kernel_rfl) (by kernel_rfl) (by kernel_rfl) (fun _ _ _ h => h) (Or.inl ⟨by rfl, ?_⟩) hS0 ?_
      rotate_left
      · intro w hSw
        go_simp
        try with_reducible rfl
      try simp only [Act.put, List.setIfInBounds_toArray, List.set_cons_zero, List.set_cons_succ]
      refine Rh.take (some 115) (i := 17) (v := ?_) rfl (by kernel_rfl) (by kernel_rfl) (by kernel_rfl) (by kernel_rfl) (fun _ _ _ h => h) (Or.inl ⟨by rfl, ?_⟩) hS0 ?_
      rotate_left
      · intro w hSw
        go_simp
        try with_reducible rfl
      try simp only [Act.put, List.setIfInBounds_toArray, List.set_cons_zero, List.set_cons_succ]
      refine Rh.take (some 116) (i := 18) (v := ?_) rfl (by kernel_rfl) (by kernel_rfl) (by kernel_rfl) (by kernel_rfl) (fun _ _ _ h => h) (Or.inl ⟨by rfl, ?_⟩) hS0 ?_
      rotate_left
      · intro w hSw
        go_simp
        try with_reducible rfl
      try simp only [Act.put, List.setIfInBounds_toArray, List.set_cons_zero, List.set_cons_succ]
      refine Rh.take (some 117) (i := 19) (v := ?_) rfl (by kernel_rfl) (by kernel_rfl) (by kernel_rfl) (by kernel_rfl) (fun _ _ _ h => h) (Or.inl ⟨by rfl, ?_⟩) hS0 ?_
      rotate_left
      · intro w hSw
        go_simp
        try with_reducible rfl
      try simp only [Act.put, List.setIfInBounds_toArray, List.set_cons_zero, List.set_cons_succ]
      refine Rh.take (some 118) (i := 20) (v := ?_) rfl (by kernel_rfl) (by kernel_rfl) (by kernel_rfl) (by kernel_rfl) (fun _ _ _ h => h) (Or.inl ⟨by rfl, ?_⟩) hS0 ?_
      rotate_left
      · intro w hSw
        go_simp
        try with_reducible rfl
      try simp only [Act.put, List.setIfInBounds_toArray, List.set_cons_zero, List.set_cons_succ]
      refine Rh.take (some 119) (i := 21) (v := ?_) rfl (by kernel_rfl) (by kernel_rfl) (by kernel_rfl) (by kernel_rfl) (fun _ _ _ h => h) (Or.inl ⟨by rfl, ?_⟩) hS0 ?_
      rotate_left
      · intro w hSw
        go_simp
        try with_reducible rfl
      try simp only [Act.put, List.setIfInBounds_toArray, List.set_cons_zero, List.set_cons_succ]
      refine Rh.take (some 120) (i := 22) (v := ?_) rfl (by kernel_rfl) (by kernel_rfl) (by kernel_rfl) (by kernel_rfl) (fun _ _ _ h => h) (Or.inl ⟨by rfl, ?_⟩) hS0 ?_
      rotate_left
      · intro w hSw
        go_simp
        try with_reducible rfl
      try simp only [Act.put, List.setIfInBounds_toArray, List.set_cons_zero, List.set_cons_succ]
      refine Rh.take (some 121) (i := 23) (v := ?_) rfl (by kernel_rfl) (by kernel_rfl) (by kernel_rfl) (by kernel_rfl) (fun _ _ _ h => h) (Or.inl ⟨by rfl, ?_⟩) hS0 ?_
      rotate_left
      · intro w hSw
        go_simp
        try with_reducible rfl
      try simp only [Act.put, List.setIfInBounds_toArray, List.set_cons_zero, List.set_cons_succ]
      refine Rh.take (some 122) (i := 24) (v := ?_) rfl (by kernel_rfl) (by kernel_rfl) (by kernel_rfl) (by kernel_rfl) (fun _ _ _ h => h) (Or.inl ⟨by rfl, ?_⟩) hS0 ?_
      rotate_left
      · intro w hSw
        go_simp
        try with_reducible rfl
      try simp only [Act.put, List.setIfInBounds_toArray, List.set_cons_zero, List.set_cons_succ]
      refine Rh.take (some 123) (i := 25) (v := ?_) rfl (by kernel_rfl) (by kernel_rfl) (by kernel_rfl) (by kernel_rfl) (fun _ _ _ h => h) (Or.inl ⟨by rfl, ?_⟩) hS0 ?_
      rotate_left
      · intro w hSw
        go_simp
        try with_reducible rfl
      try simp only [Act.put, List.setIfInBounds_toArray, List.set_cons_zero, List.set_cons_succ]
      refine Rh.take (some 124) (i := 26) (v := ?_) rfl (by kernel_rfl) (by kernel_rfl) (by kernel_rfl) (by kernel_rfl) (fun _ _ _ h => h) (Or.inl ⟨by rfl, ?_⟩) hS0 ?_
      rotate_left
      · intro w hSw
        go_simp
        try with_reducible rfl
      try simp only [Act.put, List.setIfInBounds_toArray, List.set_cons_zero, List.set_cons_succ]
      refine Rh.take (some 125) (i := 27) (v := ?_) rfl (by kernel_rfl) (by kernel_rfl) (by kernel_rfl) (by kernel_rfl) (fun _ _ _ h => h) (Or.inl ⟨by rfl, ?_⟩) hS0 ?_
      rotate_left
      · intro w hSw
        go_simp
        try with_reducible rfl
      try simp only [Act.put, List.setIfInBounds_toArray, List.set_cons_zero, List.set_cons_succ]
      refine Rh.take (some 126) (i := 28) (v := ?_) rfl (by kernel_rfl) (by kernel_rfl) (by kernel_rfl) (by kernel_rfl) (fun _ _ _ h => h) (Or.inl ⟨by rfl, ?_⟩) hS0 ?_
      rotate_left
      · intro w hSw
        go_simp
        try with_reducible rfl
      try simp only [Act.put, List.setIfInBounds_toArray, List.set_cons_zero, List.set_cons_succ]
      refine Rh.take (some 127) (i := 29) (v := ?_) rfl (by kernel_rfl) (by kernel_rfl) (by kernel_rfl) (by kernel_rfl) (fun _ _ _ h => h) (Or.inl ⟨by rfl, ?_⟩) hS0 ?_
      rotate_left
      · intro w hSw
        go_simp
        try with_reducible rfl
      try simp only [Act.put, List.setIfInBounds_toArray, List.set_cons_zero, List.set_cons_succ]
      refine Rh.take (some 128) (i := 30) (v := ?_) rfl (by kernel_rfl) (by kernel_rfl) (by kernel_rfl) (by kernel_rfl) (fun _ _ _ h => h) (Or.inl ⟨by rfl, ?_⟩) hS0 ?_
      rotate_left
      · intro w hSw
        go_simp
        try with_reducible rfl
      try simp only [Act.put, List.setIfInBounds_toArray, List.set_cons_zero, List.set_cons_succ]
      refine Rh.take (some 129) (i := 31) (v := ?_) rfl (by kernel_rfl) (by kernel_rfl) (by kernel_rfl) (by kernel_rfl) (fun _ _ _ h => h) (Or.inl ⟨by rfl, ?_⟩) hS0 ?_
      rotate_left
      · intro w hSw
        go_simp
        try with_reducible rfl
      try simp only [Act.put, List.setIfInBounds_toArray, List.set_cons_zero, List.set_cons_succ]
      refine Rh.take (some 130) (i := 32) (v := ?_) rfl (by kernel_rfl) (by kernel_rfl) (by kernel_rfl) (by kernel_rfl) (fun _ _ _ h => h) (Or.inl ⟨by rfl, ?_⟩) hS0 ?_
      rotate_left
      · intro w hSw
        go_simp
        try with_reducible rfl
      try simp only [Act.put, List.setIfInBounds_toArray, List.set_cons_zero, List.set_cons_succ]
      refine Rh.take (some 131) (i := 33) (v := ?_) rfl (by kernel_rfl) (by kernel_rfl) (by kernel_rfl) (by kernel_rfl) (fun _ _ _ h => h) (Or.inl ⟨by rfl, ?_⟩) hS0 ?_
      rotate_left
      · intro w hSw
        go_simp
        try with_reducible rfl
      try simp only [Act.put, List.setIfInBounds_toArray, List.set_cons_zero, List.set_cons_succ]
      refine Rh.take (some 132) (i := 34) (v := ?_) rfl (by kernel_rfl) (by kernel_rfl) (by kernel_rfl) (by kernel_rfl) (fun _ _ _ h => h) (Or.inl ⟨by rfl, ?_⟩) hS0 ?_
      rotate_left
      · intro w hSw
        go_simp
        try with_reducible rfl
      try simp only [Act.put, List.setIfInBounds_toArray, List.set_cons_zero, List.set_cons_succ]
      refine Rh.take (some 133) (i := 35) (v := ?_) rfl (by kernel_rfl) (by kernel_rfl) (by kernel_rfl) (by kernel_rfl) (fun _ _ _ h => h) (Or.inl ⟨by rfl, ?_⟩) hS0 ?_
      rotate_left
      · intro w hSw
        go_simp
        try with_reducible rfl
      try simp only [Act.put, List.setIfInBounds_toArray, List.set_cons_zero, List.set_cons_succ]
      refine Rh.take (some 134) (i := 36) (v := ?_) rfl (by kernel_rfl) (by kernel_rfl) (by kernel_rfl) (by kernel_rfl) (fun _ _ _ h => h) (Or.inl ⟨by rfl, ?_⟩) hS0 ?_
      rotate_left
      · intro w hSw
        go_simp
        try with_reducible rfl
      try simp only [Act.put, List.setIfInBounds_toArray, List.set_cons_zero, List.set_cons_succ]
      refine Rh.take (some 135) (i := 37) (v := ?_) rfl (by kernel_rfl) (by kernel_rfl) (by kernel_rfl) (by kernel_rfl) (fun _ _ _ h => h) (Or.inl ⟨by rfl, ?_⟩) hS0 ?_
      rotate_left
      · intro w hSw
        go_simp
        try with_reducible rfl
      try simp only [Act.put, List.setIfInBounds_toArray, List.set_cons_zero, List.set_cons_succ]
      refine Rh.take (some 136) (i := 38) (v := ?_) rfl (by kernel_rfl) (by kernel_rfl) (by kernel_rfl) (by kernel_rfl) (fun _ _ _ h => h) (Or.inl ⟨by rfl, ?_⟩) hS0 ?_
      rotate_left
      · intro w hSw
        go_simp
        try with_reducible rfl
      try simp only [Act.put, List.setIfInBounds_toArray, List.set_cons_zero, List.set_cons_succ]
      refine Rh.take (some 137) (i := 39) (v := ?_) rfl (by kernel_rfl) (by kernel_rfl) (by kernel_rfl) (by kernel_rfl) (fun _ _ _ h => h) (Or.inl ⟨by rfl, ?_⟩) hS0 ?_
      rotate_left
      · intro w hSw
        go_simp
        try with_reducible rfl
      try simp only [Act.put, List.setIfInBounds_toArray, List.set_cons_zero, List.set_cons_succ]
      refine Rh.done (by kernel_rfl) ?_ _
      clear hS0 a0c a1c b0c b1c fcr fc
      have HD0 := Lib.hid (Ne.below_drew HQ.out)
      generalize wr.drew = wq at *
      have HD0d := Lib.hid (Ne.below_drew HD0.out)
      have HD1 := Lib.hid (show Below w9.heap.size w9 (wq.alloc (.cells #[.int .i64 (p : Int)] 3)).drew from Ne.below_drew (HD0.out.alloc HD0.out.size _))
      have HPW := Lib.hid (show Ne.IRow (wq.alloc (.cells #[.int .i64 (p : Int)] 3)).drew (some ⟨wq.heap.size, 0, none⟩) [(p : Int)] from Ne.irow_one' wq rfl (p : Int) _)
      go_wp2
      have hS0 := HS22.out _ HD0d.out
      have hS1 := HS22.out _ HD1.out
      refine Rh.start (S := (fun w' => (w'.cell? ⟨bq, 0, none⟩ = some (.int .i64 2) ∧ w'.cell? ⟨bq, 1, none⟩ = some (.int .i64 1) ∧ w'.cell? ⟨bq, 2, none⟩ = some (.int .i64 2) ∧ w'.cell? ⟨bq, 3, none⟩ = some (.slice vo cs.length vc)) ∧ w'.cell? ⟨bF, i, none⟩ = some (.int .i64 y))) (by kernel_rfl) ?_
      refine Rh.take (some 139) (i := 0) (v := ?_) rfl (by kernel_rfl) (by kernel_rfl) (by kernel_rfl) (by kernel_rfl) (fun _ _ _ h => h) (Or.inl ⟨by rfl, ?_⟩) hS0 ?_
      rotate_left
      · intro w hSw
        go_simp
        try with_reducible rfl
      try simp only [Act.put, List.setIfInBounds_toArray, List.set_cons_zero, List.set_cons_succ]
      refine Rh.take (some 140) (i := 1) (v := ?_) rfl (by kernel_rfl) (by kernel_rfl) (by kernel_rfl) (by kernel_rfl) (fun _ _ _ h => h) (Or.inl ⟨by rfl, ?_⟩) hS0 ?_
      rotate_left
      · intro w hSw
        go_simp
        try with_reducible rfl
      try simp only [Act.put, List.setIfInBounds_toArray, List.set_cons_zero, List.set_cons_succ]
      refine Rh.take (some 141) (i := 2) (v := ?_) rfl (by kernel_rfl) (by kernel_rfl) (by kernel_rfl) (by kernel_rfl) (fun _ _ _ h => h) (Or.inl ⟨by rfl, ?_⟩) hS0 ?_
      rotate_left
      · intro w hSw
        go_simp
        try with_reducible rfl
      try simp only [Act.put, List.setIfInBounds_toArray, List.set_cons_zero, List.set_cons_succ]
      refine Rh.take (some 142) (i := 3) (v := ?_) rfl (by kernel_rfl) (by kernel_rfl) (by kernel_rfl) (by kernel_rfl) (fun _ _ _ h => h) (Or.inl ⟨by rfl, ?_⟩) hS0 ?_
      rotate_left
      · intro w hSw
        go_simp
        try with_reducible rfl
      try simp only [Act.put, List.setIfInBounds_toArray, List.set_cons_zero, List.set_cons_succ]
      refine Rh.take (some 144) (i := 5) (v := ?_) rfl (by kernel_rfl) (by kernel_rfl) (by kernel_rfl) (by kernel_rfl) (fun _ _ _ h => h) (Or.inl ⟨by rfl, ?_⟩) hS0 ?_
      rotate_left
      · intro w hSw
        go_simp
        try with_reducible rfl
      try simp only [Act.put, List.setIfInBounds_toArray, List.set_cons_zero, List.set_cons_succ]
      refine Rh.take (some 145) (i := 6) (v := ?_) rfl (by kernel_rfl) (by kernel_rfl) (by kernel_rfl) (by kernel_rfl) (fun _ _ _ h => h) (Or.inl ⟨by rfl, ?_⟩) hS0 ?_
      rotate_left
      · intro w hSw
        go_simp
        try with_reducible rfl
      try simp only [Act.put, List.setIfInBounds_toArray, List.set_cons_zero, List.set_cons_succ]
      refine Rh.take (some 146) (i := 7) (v := ?_) rfl (by kernel_rfl) (by kernel_rfl) (by kernel_rfl) (by kernel_rfl) (fun _ _ _ h => h) (Or.inl ⟨by rfl, ?_⟩) hS0 ?_
      rotate_left
      · intro w hSw
        go_simp
        try with_reducible rfl
      try simp only [Act.put, List.setIfInBounds_toArray, List.set_cons_zero, List.set_cons_succ]
      refine Rh.take (some 147) (i := 8) (v := ?_) rfl (by kernel_rfl) (by kernel_rfl) (by kernel_rfl) (by kernel_rfl) (fun _ _ _ h => h) (Or.inl ⟨by rfl, ?_⟩) hS0 ?_
      rotate_left
      · intro w hSw
        go_simp
        try with_reducible rfl
      try simp only [Act.put, List.setIfInBounds_toArray, List.set_cons_zero, List.set_cons_succ]
      refine Rh.step (i := 4) (by kernel_rfl) rfl fun K' hK' => ?_
      have HK := Lib.hid hK'
      clear hK'
      go_simp
      refine HK.out _ _ ⟨hS1, ?_⟩
      clear HK K'
      try simp only [Act.put, List.setIfInBounds_toArray, List.set_cons_zero, List.set_cons_succ]
      refine Rh.step (i := 9) (by kernel_rfl) rfl fun K' hK' => ?_
      have HK := Lib.hid hK'
      clear hK'
      go_simp
      refine (PN.out _ _ (HA.out.kept HD1.out) (HF0.out.kept HD1.out).irow HPW.out).mono ?_
      rintro e w12 ⟨oc, cc, rfl, hpv, hb⟩
      have HD2 := Lib.hid (HD1.out.trans (hb.mono HD1.out.size))
      have hS2 := HS22.out w12 HD2.out
      refine HK.out _ _ ⟨hS2, ?_⟩
      clear HK K'
      try simp only [Act.put, List.setIfInBounds_toArray, List.set_cons_zero, List.set_cons_succ]
      refine Rh.take (some 138) (i := 10) (v := ?_) rfl (by kernel_rfl) (by kernel_rfl) (by kernel_rfl) (by kernel_rfl) (fun _ _ _ h => h) (Or.inl ⟨by rfl, ?_⟩) hS2 ?_
      rotate_left
      · intro w hSw
        go_simp
        try with_reducible rfl
      try simp only [Act.put, List.setIfInBounds_toArray, List.set_cons_zero, List.set_cons_succ]
      refine Rh.take (some 149) (i := 11) (v := ?_) rfl (by kernel_rfl) (by kernel_rfl) (by kernel_rfl) (by kernel_rfl) (fun _ _ _ h => h) (Or.inl ⟨by rfl, ?_⟩) hS2 ?_
      rotate_left
      · intro w hSw
        go_simp
        try with_reducible rfl
      try simp only [Act.put, List.setIfInBounds_toArray, List.set_cons_zero, List.set_cons_succ]
      refine Rh.take (some 150) (i := 12) (v := ?_) rfl (by kernel_rfl) (by kernel_rfl) (by kernel_rfl) (by kernel_rfl) (fun _ _ _ h => h) (Or.inl ⟨by rfl, ?_⟩) hS2 ?_
      rotate_left
      · intro w hSw
        go_simp
        try with_reducible rfl
      try simp only [Act.put, List.setIfInBounds_toArray, List.set_cons_zero, List.set_cons_succ]
      refine Rh.take (some 15) (i := 13) (v := ?_) rfl (by kernel_rfl) (by kernel_rfl) (by kernel_rfl) (by kernel_rfl) (fun _ _ _ h => h) (Or.inl ⟨by rfl, ?_⟩) hS2 ?_
      rotate_left
      · intro w hSw
        go_simp
        try with_reducible rfl
      try simp only [Act.put, List.setIfInBounds_toArray, List.set_cons_zero, List.set_cons_succ]
      refine Rh.take (some 16) (i := 14) (v := ?_) rfl (by kernel_rfl) (by kernel_rfl) (by kernel_rfl) (by kernel_rfl) (fun _ _ _ h => h) (Or.inl ⟨by rfl, ?_⟩) hS2 ?_
      rotate_left
      · intro w hSw
        go_simp
        try with_reducible rfl
      try simp only [Act.put, List.setIfInBounds_toArray, List.set_cons_zero, List.set_cons_succ]
      refine Rh.done (by kernel_rfl) ?_ _
      have HPV := Lib.hid hpv
      clear hS0 hS1 hS2 hb hpv HD0d HD1 HPW
      have fc12 := HFC.out w12 HD2.out
      obtain ⟨n0, n1, n2, n3⟩ := Ne.netBox_cells (Ne.netBox_below HM9.out HD2.out hbl9)
      have HD2d := Lib.hid (Ne.below_drew HD2.out)
      have HD3 := Lib.hid (HD2d.out.alloc HD2d.out.size (.cells #[.int .i64 (p : Int)] 3))
      have HPW3 := Lib.hid (Ne.irow_one' w12.drew rfl (p : Int) 3)
      have HM12 := Lib.hid (Ne.netBox_below HM9.out HD2d.out hbl9)
      rcases HPCI.out with ⟨q1, q2⟩ | ⟨q1, q2, q3, q4⟩
      · subst q1 q2
        go_wp2
        have hS0 := (show (fun w' => w'.cell? ⟨bF, i, none⟩ = some (.int .i64 0)) w12.drew from fc12)
        refine Rh.start (S := (fun w' => w'.cell? ⟨bF, i, none⟩ = some (.int .i64 0))) (by kernel_rfl) ?_
        refine Rh.take (some 151) (i := 0) (v := ?_) rfl (by kernel_rfl) (by kernel_rfl) (by kernel_rfl) (by kernel_rfl) (fun _ _ _ h => h) (Or.inl ⟨by rfl, ?_⟩) hS0 ?_
        rotate_left
        · intro w hSw
          go_simp
          try with_reducible rfl
        try simp only [Act.put, List.setIfInBounds_toArray, List.set_cons_zero, List.set_cons_succ]
        refine Rh.take (some 152) (i := 1) (v := ?_) rfl (by kernel_rfl) (by kernel_rfl) (by kernel_rfl) (by kernel_rfl) (fun _ _ _ h => h) (Or.inl ⟨by rfl, ?_⟩) hS0 ?_
        rotate_left
        · intro w hSw
          go_simp
          try with_reducible rfl
        try simp only [Act.put, List.setIfInBounds_toArray, List.set_cons_zero, List.set_cons_succ]
        refine Rh.take (some 153) (i := 2) (v := ?_) rfl (by kernel_rfl) (by kernel_rfl) (by kernel_rfl) (by kernel_rfl) (fun _ _ _ h => h) (Or.inl ⟨by rfl, ?_⟩) hS0 ?_
        rotate_left
        · intro w hSw
          go_simp
          try with_reducible rfl
        try simp only [Act.put, List.setIfInBounds_toArray, List.set_cons_zero, List.set_cons_succ]
        refine Rh.take (some 154) (i := 3) (v := ?_) rfl (by kernel_rfl) (by kernel_rfl) (by kernel_rfl) (by kernel_rfl) (fun _ _ _ h => h) (Or.inl ⟨by rfl, ?_⟩) hS0 ?_
        rotate_left
        · intro w hSw
          go_simp
          try with_reducible rfl
        try simp only [Act.put, List.setIfInBounds_toArray, List.set_cons_zero, List.set_cons_succ]
        refine Rh.take (some 155) (i := 4) (v := ?_) rfl (by kernel_rfl) (by kernel_rfl) (by kernel_rfl) (by kernel_rfl) (fun _ _ _ h => h) (Or.inl ⟨by rfl, ?_⟩) hS0 ?_
        rotate_left
        · intro w hSw
          go_simp
          try with_reducible rfl
        try simp only [Act.put, List.setIfInBounds_toArray, List.set_cons_zero, List.set_cons_succ]
        refine Rh.take (some 156) (i := 5) (v := ?_) rfl (by kernel_rfl) (by kernel_rfl) (by kernel_rfl) (by kernel_rfl) (fun _ _ _ h => h) (Or.inl ⟨by rfl, ?_⟩) hS0 ?_
        rotate_left
        · intro w hSw
          go_simp
          try with_reducible rfl
        try simp only [Act.put, List.setIfInBounds_toArray, List.set_cons_zero, List.set_cons_succ]
        refine Rh.take (some 157) (i := 6) (v := ?_) rfl (by kernel_rfl) (by kernel_rfl) (by kernel_rfl) (by kernel_rfl) (fun _ _ _ h => h) (Or.inl ⟨by rfl, ?_⟩) hS0 ?_
        rotate_left
        · intro w hSw
          go_simp
          try with_reducible rfl
        try simp only [Act.put, List.setIfInBounds_toArray, List.set_cons_zero, List.set_cons_succ]
        refine Rh.take (some 158) (i := 7) (v := ?_) rfl (by kernel_rfl) (by kernel_rfl) (by kernel_rfl) (by kernel_rfl) (fun _ _ _ h => h) (Or.inl ⟨by rfl, ?_⟩) hS0 ?_
        rotate_left
        · intro w hSw
          go_simp
          try with_reducible rfl
        try simp only [Act.put, List.setIfInBounds_toArray, List.set_cons_zero, List.set_cons_succ]
        refine Rh.take (some 159) (i := 8) (v := ?_) rfl (by kernel_rfl) (by kernel_rfl) (by kernel_rfl) (by kernel_rfl) (fun _ _ _ h => h) (Or.inl ⟨by rfl, ?_⟩) hS0 ?_
        rotate_left
        · intro w hSw
          go_simp
          try with_reducible rfl
        try simp only [Act.put, List.setIfInBounds_toArray, List.set_cons_zero, List.set_cons_succ]
        refine Rh.take (some 160) (i := 9) (v := ?_) rfl (by kernel_rfl) (by kernel_rfl) (by kernel_rfl) (by kernel_rfl) (fun _ _ _ h => h) (Or.inl ⟨by rfl, ?_⟩) hS0 ?_
        rotate_left
        · intro w hSw
          go_simp
          try with_reducible rfl
        try simp only [Act.put, List.setIfInBounds_toArray, List.set_cons_zero, List.set_cons_succ]
        refine Rh.take (some 161) (i := 10) (v := ?_) rfl (by kernel_rfl) (by kernel_rfl) (by kernel_rfl) (by kernel_rfl) (fun _ _ _ h => h) (Or.inl ⟨by rfl, ?_⟩) hS0 ?_
        rotate_left
        · intro w hSw
          go_simp
          try with_reducible rfl
        try simp only [Act.put, List.setIfInBounds_toArray, List.set_cons_zero, List.set_cons_succ]
        refine Rh.take (some 162) (i := 11) (v := ?_) rfl (by kernel_rfl) (by kernel_rfl) (by kernel_rfl) (by kernel_rfl) (fun _ _ _ h => h) (Or.inl ⟨by rfl, ?_⟩) hS0 ?_
        rotate_left
        · intro w hSw
          go_simp
          try with_reducible rfl
        try simp only [Act.put, List.setIfInBounds_toArray, List.set_cons_zero, List.set_cons_succ]
        refine Rh.take (some 163) (i := 12) (v := undef) rfl (by kernel_rfl) (by kernel_rfl) (by kernel_rfl) (by kernel_rfl) (fun _ _ _ h => h) (Or.inr ⟨by rfl, rfl⟩) hS0 ?_
        try simp only [Act.put, List.setIfInBounds_toArray, List.set_cons_zero, List.set_cons_succ]
        refine Rh.take (some 164) (i := 13) (v := undef) rfl (by kernel_rfl) (by kernel_rfl) (by kernel_rfl) (by kernel_rfl) (fun _ _ _ h => h) (Or.inr ⟨by rfl, rfl⟩) hS0 ?_
        try simp only [Act.put, List.setIfInBounds_toArray, List.set_cons_zero, List.set_cons_succ]
        refine Rh.take (some 165) (i := 14) (v := undef) rfl (by kernel_rfl) (by kernel_rfl) (by kernel_rfl) (by kernel_rfl) (fun _ _ _ h => h) (Or.inr ⟨by rfl, rfl⟩) hS0 ?_
        try simp only [Act.put, List.setIfInBounds_toArray, List.set_cons_zero, List.set_cons_succ]
        refine Rh.take (some 166) (i := 15) (v := undef) rfl (by kernel_rfl) (by kernel_rfl) (by kernel_rfl) (by kernel_rfl) (fun _ _ _ h => h) (Or.inr ⟨by rfl, rfl⟩) hS0 ?_
        try simp only [Act.put, List.setIfInBounds_toArray, List.set_cons_zero, List.set_cons_succ]
        refine Rh.take (some 167) (i := 16) (v := undef) rfl (by kernel_rfl) (by kernel_rfl) (by kernel_rfl) (by kernel_rfl) (fun _ _ _ h => h) (Or.inr ⟨by rfl, rfl⟩) hS0 ?_
        try simp only [Act.put, List.setIfInBounds_toArray, List.set_cons_zero, List.set_cons_succ]
        refine Rh.take (some 168) (i := 17) (v := undef) rfl (by kernel_rfl) (by kernel_rfl) (by kernel_rfl) (by kernel_rfl) (fun _ _ _ h => h) (Or.inr ⟨by rfl, rfl⟩) hS0 ?_
        try simp only [Act.put, List.setIfInBounds_toArray, List.set_cons_zero, List.set_cons_succ]
        refine Rh.take (some 169) (i := 18) (v := undef) rfl (by kernel_rfl) (by kernel_rfl) (by kernel_rfl) (by kernel_rfl) (fun _ _ _ h => h) (Or.inr ⟨by rfl, rfl⟩) hS0 ?_
        try simp only [Act.put, List.setIfInBounds_toArray, List.set_cons_zero, List.set_cons_succ]
        refine Rh.take (some 170) (i := 19) (v := undef) rfl (by kernel_rfl) (by kernel_rfl) (by kernel_rfl) (by kernel_rfl) (fun _ _ _ h => h) (Or.inr ⟨by rfl, rfl⟩) hS0 ?_
        try simp only [Act.put, List.setIfInBounds_toArray, List.set_cons_zero, List.set_cons_succ]
        refine Rh.take (some 171) (i := 20) (v := undef) rfl (by kernel_rfl) (by kernel_rfl) (by kernel_rfl) (by kernel_rfl) (fun _ _ _ h => h) (Or.inr ⟨by rfl, rfl⟩) hS0 ?_
        try simp only [Act.put, List.setIfInBounds_toArray, List.set_cons_zero, List.set_cons_succ]
        refine Rh.take (some 172) (i := 21) (v := ?_) rfl (by kernel_rfl) (by kernel_rfl) (by kernel_rfl) (by kernel_rfl) (fun _ _ _ h => h) (Or.inl ⟨by rfl, ?_⟩) hS0 ?_
        rotate_left
        · intro w hSw
          go_simp
          try with_reducible rfl
        try simp only [Act.put, List.setIfInBounds_toArray, List.set_cons_zero, List.set_cons_succ]
        refine Rh.take (some 173) (i := 22) (v := ?_) rfl (by kernel_rfl) (by kernel_rfl) (by kernel_rfl) (by kernel_rfl) (fun _ _ _ h => h) (Or.inl ⟨by rfl, ?_⟩) hS0 ?_
        rotate_left
        · intro w hSw
          go_simp
          try with_reducible rfl
        try simp only [Act.put, List.setIfInBounds_toArray, List.set_cons_zero, List.set_cons_succ]
        refine Rh.done (by kernel_rfl) ?_ _
        clear hS0 fc12 n0 n1 n2 n3
        obtain ⟨n0, n1, n2, n3⟩ := Ne.netBox_cells HM12.out
        go_wp2_with fail
        refine (PF.out _ _ (HA.out.kept HD3.out) (HFF.out.kept HD3.out).irow HPW3.out).mono ?_
        rintro e w13 ⟨v13, rfl, hb⟩
        have HD4 := Lib.hid (HD3.out.trans (hb.mono HD3.out.size))
        clear hb n0 n1 n2 n3
        go_wp2
        go_roundg (cs.length - (i + 1))
        case measure => omega
        case rel => exact ⟨i + 1, by go_num, by omega, HD4⟩
      · subst q2
        obtain ⟨bc, occ, ec, hbc, c0⟩ := Ne.irow_cell HPV.out (i := i) (by rw [q3]; exact hil)
        subst ec
        rw [q4] at c0
        have HQ3 := Lib.hid q3
        have hgt : decide (0 < y) = true := decide_eq_true q1
        have hil2 : i < PV.length := by rw [q3]; exact hil
        have hil3 : (i : Int) < (PV.length : Int) := by omega
        clear q3 q4
        go_wp2
        have hS0 := (show (fun w' => w'.cell? ⟨bF, i, none⟩ = some (.int .i64 y) ∧ w'.cell? ⟨bc, occ + i, none⟩ = some (.int .i64 y)) w12.drew from ⟨fc12, c0⟩)
        refine Rh.start (S := (fun w' => w'.cell? ⟨bF, i, none⟩ = some (.int .i64 y) ∧ w'.cell? ⟨bc, occ + i, none⟩ = some (.int .i64 y))) (by kernel_rfl) ?_
        refine Rh.take (some 151) (i := 0) (v := ?_) rfl (by kernel_rfl) (by kernel_rfl) (by kernel_rfl) (by kernel_rfl) (fun _ _ _ h => h) (Or.inl ⟨by rfl, ?_⟩) hS0 ?_
        rotate_left
        · intro w hSw
          go_simp
          try with_reducible rfl
        try simp only [Act.put, List.setIfInBounds_toArray, List.set_cons_zero, List.set_cons_succ]
        refine Rh.take (some 152) (i := 1) (v := ?_) rfl (by kernel_rfl) (by kernel_rfl) (by kernel_rfl) (by kernel_rfl) (fun _ _ _ h => h) (Or.inl ⟨by rfl, ?_⟩) hS0 ?_
        rotate_left
        · intro w hSw
          go_simp
          try with_reducible rfl
        try simp only [Act.put, List.setIfInBounds_toArray, List.set_cons_zero, List.set_cons_succ]
        refine Rh.take (some 153) (i := 2) (v := ?_) rfl (by kernel_rfl) (by kernel_rfl) (by kernel_rfl) (by kernel_rfl) (fun _ _ _ h => h) (Or.inl ⟨by rfl, ?_⟩) hS0 ?_
        rotate_left
        · intro w hSw
          go_simp
          try with_reducible rfl
        try simp only [Act.put, List.setIfInBounds_toArray, List.set_cons_zero, List.set_cons_succ]
        refine Rh.take (some 154) (i := 3) (v := ?_) rfl (by kernel_rfl) (by kernel_rfl) (by kernel_rfl) (by kernel_rfl) (fun _ _ _ h => h) (Or.inl ⟨by rfl, ?_⟩) hS0 ?_
        rotate_left
        · intro w hSw
          go_simp
          try with_reducible rfl
        try simp only [Act.put, List.setIfInBounds_toArray, List.set_cons_zero, List.set_cons_succ]
        refine Rh.take (some 155) (i := 4) (v := ?_) rfl (by kernel_rfl) (by kernel_rfl) (by kernel_rfl) (by kernel_rfl) (fun _ _ _ h => h) (Or.inl ⟨by rfl, ?_⟩) hS0 ?_
        rotate_left
        · intro w hSw
          go_simp
          try with_reducible rfl
        try simp only [Act.put, List.setIfInBounds_toArray, List.set_cons_zero, List.set_cons_succ]
        refine Rh.take (some 156) (i := 5) (v := ?_) rfl (by kernel_rfl) (by kernel_rfl) (by kernel_rfl) (by kernel_rfl) (fun _ _ _ h => h) (Or.inl ⟨by rfl, ?_⟩) hS0 ?_
        rotate_left
        · intro w hSw
          go_simp
          try with_reducible rfl
        try simp only [Act.put, List.setIfInBounds_toArray, List.set_cons_zero, List.set_cons_succ]
        refine Rh.take (some 157) (i := 6) (v := ?_) rfl (by kernel_rfl) (by kernel_rfl) (by kernel_rfl) (by kernel_rfl) (fun _ _ _ h => h) (Or.inl ⟨by rfl, ?_⟩) hS0 ?_
        rotate_left
        · intro w hSw
          go_simp
          try with_reducible rfl
        try simp only [Act.put, List.setIfInBounds_toArray, List.set_cons_zero, List.set_cons_succ]
        refine Rh.take (some 158) (i := 7) (v := ?_) rfl (by kernel_rfl) (by kernel_rfl) (by kernel_rfl) (by kernel_rfl) (fun _ _ _ h => h) (Or.inl ⟨by rfl, ?_⟩) hS0 ?_
        rotate_left
        · intro w hSw
          go_simp
          try with_reducible rfl
        try simp only [Act.put, List.setIfInBounds_toArray, List.set_cons_zero, List.set_cons_succ]
        refine Rh.take (some 159) (i := 8) (v := ?_) rfl (by kernel_rfl) (by kernel_rfl) (by kernel_rfl) (by kernel_rfl) (fun _ _ _ h => h) (Or.inl ⟨by rfl, ?_⟩) hS0 ?_
        rotate_left
        · intro w hSw
          go_simp
          try with_reducible rfl
        try simp only [Act.put, List.setIfInBounds_toArray, List.set_cons_zero, List.set_cons_succ]
        refine Rh.take (some 160) (i := 9) (v := ?_) rfl (by kernel_rfl) (by kernel_rfl) (by kernel_rfl) (by kernel_rfl) (fun _ _ _ h => h) (Or.inl ⟨by rfl, ?_⟩) hS0 ?_
        rotate_left
        · intro w hSw
          go_simp
          try with_reducible rfl
        try simp only [Act.put, List.setIfInBounds_toArray, List.set_cons_zero, List.set_cons_succ]
        refine Rh.take (some 161) (i := 10) (v := ?_) rfl (by kernel_rfl) (by kernel_rfl) (by kernel_rfl) (by kernel_rfl) (fun _ _ _ h => h) (Or.inl ⟨by rfl, ?_⟩) hS0 ?_
        rotate_left
        · intro w hSw
          go_simp
          try with_reducible rfl
        try simp only [Act.put, List.setIfInBounds_toArray, List.set_cons_zero, List.set_cons_succ]
        refine Rh.take (some 162) (i := 11) (v := ?_) rfl (by kernel_rfl) (by kernel_rfl) (by kernel_rfl) (by kernel_rfl) (fun _ _ _ h => h) (Or.inl ⟨by rfl, ?_⟩) hS0 ?_
        rotate_left
        · intro w hSw
          go_simp
          try with_reducible rfl
        try simp only [Act.put, List.setIfInBounds_toArray, List.set_cons_zero, List.set_cons_succ]
        refine Rh.take (some 163) (i := 12) (v := ?_) rfl (by kernel_rfl) (by kernel_rfl) (by kernel_rfl) (by kernel_rfl) (fun _ _ _ h => h) (Or.inl ⟨by rfl, ?_⟩) hS0 ?_
        rotate_left
        · intro w hSw
          go_simp
          try with_reducible rfl
        try simp only [Act.put, List.setIfInBounds_toArray, List.set_cons_zero, List.set_cons_succ]
        refine Rh.take (some 164) (i := 13) (v := ?_) rfl (by kernel_rfl) (by kernel_rfl) (by kernel_rfl) (by kernel_rfl) (fun _ _ _ h => h) (Or.inl ⟨by rfl, ?_⟩) hS0 ?_
        rotate_left
        · intro w hSw
          go_simp
          try with_reducible rfl
        try simp only [Act.put, List.setIfInBounds_toArray, List.set_cons_zero, List.set_cons_succ]
        refine Rh.take (some 165) (i := 14) (v := ?_) rfl (by kernel_rfl) (by kernel_rfl) (by kernel_rfl) (by kernel_rfl) (fun _ _ _ h => h) (Or.inl ⟨by rfl, ?_⟩) hS0 ?_
        rotate_left
        · intro w hSw
          go_simp
          try with_reducible rfl
        try simp only [Act.put, List.setIfInBounds_toArray, List.set_cons_zero, List.set_cons_succ]
        refine Rh.take (some 166) (i := 15) (v := ?_) rfl (by kernel_rfl) (by kernel_rfl) (by kernel_rfl) (by kernel_rfl) (fun _ _ _ h => h) (Or.inl ⟨by rfl, ?_⟩) hS0 ?_
        rotate_left
        · intro w hSw
          go_simp
          try with_reducible rfl
        try simp only [Act.put, List.setIfInBounds_toArray, List.set_cons_zero, List.set_cons_succ]
        refine Rh.take (some 167) (i := 16) (v := ?_) rfl (by kernel_rfl) (by kernel_rfl) (by kernel_rfl) (by kernel_rfl) (fun _ _ _ h => h) (Or.inl ⟨by rfl, ?_⟩) hS0 ?_
        rotate_left
        · intro w hSw
          go_simp
          try with_reducible rfl
        try simp only [Act.put, List.setIfInBounds_toArray, List.set_cons_zero, List.set_cons_succ]
        refine Rh.take (some 168) (i := 17) (v := ?_) rfl (by kernel_rfl) (by kernel_rfl) (by kernel_rfl) (by kernel_rfl) (fun _ _ _ h => h) (Or.inl ⟨by rfl, ?_⟩) hS0 ?_
        rotate_left
        · intro w hSw
          go_simp
          try with_reducible rfl
        try simp only [Act.put, List.setIfInBounds_toArray, List.set_cons_zero, List.set_cons_succ]
        refine Rh.take (some 169) (i := 18) (v := ?_) rfl (by kernel_rfl) (by kernel_rfl) (by kernel_rfl) (by kernel_rfl) (fun _ _ _ h => h) (Or.inl ⟨by rfl, ?_⟩) hS0 ?_
        rotate_left
        · intro w hSw
          go_simp
          try with_reducible rfl
        try simp only [Act.put, List.setIfInBounds_toArray, List.set_cons_zero, List.set_cons_succ]
        refine Rh.take (some 170) (i := 19) (v := ?_) rfl (by kernel_rfl) (by kernel_rfl) (by kernel_rfl) (by kernel_rfl) (fun _ _ _ h => h) (Or.inl ⟨by rfl, ?_⟩) hS0 ?_
        rotate_left
        · intro w hSw
          go_simp
          try with_reducible rfl
        try simp only [Act.put, List.setIfInBounds_toArray, List.set_cons_zero, List.set_cons_succ]
        refine Rh.take (some 171) (i := 20) (v := ?_) rfl (by kernel_rfl) (by kernel_rfl) (by kernel_rfl) (by kernel_rfl) (fun _ _ _ h => h) (Or.inl ⟨by rfl, ?_⟩) hS0 ?_
        rotate_left
        · intro w hSw
          go_simp
          try with_reducible rfl
        try simp only [Act.put, List.setIfInBounds_toArray, List.set_cons_zero, List.set_cons_succ]
        refine Rh.take (some 172) (i := 21) (v := ?_) rfl (by kernel_rfl) (by kernel_rfl) (by kernel_rfl) (by kernel_rfl) (fun _ _ _ h => h) (Or.inl ⟨by rfl, ?_⟩) hS0 ?_
        rotate_left
        · intro w hSw
          go_simp
          try with_reducible rfl
        try simp only [Act.put, List.setIfInBounds_toArray, List.set_cons_zero, List.set_cons_succ]
        refine Rh.take (some 173) (i := 22) (v := ?_) rfl (by kernel_rfl) (by kernel_rfl) (by kernel_rfl) (by kernel_rfl) (fun _ _ _ h => h) (Or.inl ⟨by rfl, ?_⟩) hS0 ?_
        rotate_left
        · intro w hSw
          go_simp
          try with_reducible rfl
        try simp only [Act.put, List.setIfInBounds_toArray, List.set_cons_zero, List.set_cons_succ]
        refine Rh.done (by kernel_rfl) ?_ _
        clear hS0 fc12 n0 n1 n2 n3 c0
        obtain ⟨n0, n1, n2, n3⟩ := Ne.netBox_cells HM12.out
        go_wp2_with fail
        refine (PF.out _ _ (HA.out.kept HD3.out) (HFF.out.kept HD3.out).irow HPW3.out).mono ?_
        rintro e w13 ⟨v13, rfl, hb⟩
        have HD4 := Lib.hid (HD3.out.trans (hb.mono HD3.out.size))
        clear hb n0 n1 n2 n3
        go_wp2
        go_roundg (cs.length - (i + 1))
        case measure => omega
        case rel => exact ⟨i + 1, by go_num, by omega, HD4⟩

end Go.Proofs.Ythgknkjdidbkdaa.residualBack
