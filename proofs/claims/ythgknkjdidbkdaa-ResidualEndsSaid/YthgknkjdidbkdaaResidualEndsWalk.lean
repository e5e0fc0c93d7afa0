/- ResidualEnds: for every input the law returns true and its arguments read as they did. No condition. -/
import Derived.Test.YthgknkjdidbkdaaRen6
import Derived.Test.YthgknkjdidbkdaaOpenc
import Derived.Test.YthgknkjdidbkdaaRows
import Derived.WalkKit
import Derived.ProofKit
import Derived.OpenShut
import Derived.ShutString
import Derived.ChangeOld
import Derived.Below
import Derived.Deep.Strs
namespace Go.Proofs.Ythgknkjdidbkdaa.residualEnds
open Go.ChangeShapes Go.WideShapes Go.ChangeAt Go.RowKit
open Go.ChangeMaps (open_string shut_string)
set_option linter.unusedVariables false
set_option linter.unusedSimpArgs false

theorem own : ownKnob Try.prog.godebug = none := by kernel_rfl
theorem laidOut : laidOutB Try.prog = true := by kernel_rfl

def IntsIn (k : IntKind) (w : World) (a : Option Addr) (len cap : Nat) (zs : List Int) : Prop :=
  (a = none ∧ len = 0 ∧ cap = 0 ∧ zs = []) ∨
  ∃ x, a = some x ∧ len ≤ cap ∧ cap ≤ maxLen ∧ zs.length = cap ∧ (∀ i, i < zs.length → w.cell? (x.add i) = some (.int k (zs.getD i 0))) ∧ ∀ n ∈ zs, (Lit.int k n).wf = true



set_option maxRecDepth 100000 in
set_option maxHeartbeats 4000000 in
theorem walk (a0 : Int) (a1 : Int) (a2 : List Ne.Arc) (o2 : Option Addr) (c2 : Nat) (a3 : Option Addr) (len3 cap3 : Nat) (l3 : List Int) (a4 : Option Addr) (len4 cap4 : Nat) (l4 : List Int) (a5 : Int) (w : World) (w0 : (Lit.int .i64 a0).wf = true) (w1 : (Lit.int .i64 a1).wf = true) (k2 : ∀ a ∈ a2, Ne.Arc.ok a) (z2 : a2.length ≤ c2) (y2 : c2 ≤ maxLen) (n2 : o2 = none → c2 = 0) (r2 : Ne.ARow w o2 a2) (w3 : IntsIn .i64 w a3 len3 cap3 l3) (w4 : IntsIn .i64 w a4 len4 cap4 l4) (w5 : (Lit.int .i64 a5).wf = true) :
    Calls Try.prog 7 #[.int .i64 a0, .int .i64 a1, .slice o2 a2.length c2, .slice a3 len3 cap3, .slice a4 len4 cap4, .int .i64 a5] w fun e w' => e = .returned (.bool true) ∧ Below w.heap.size w w' := by
  have HSH := Lib.hid (Ne.shown_any w)
  obtain ⟨mn, hmn⟩ : ∃ x, x = (Ne.madeN a0 a1 a2).n := ⟨_, rfl⟩
  obtain ⟨ms, hms⟩ : ∃ x, x = (Ne.madeN a0 a1 a2).s := ⟨_, rfl⟩
  obtain ⟨mt, hmt⟩ : ∃ x, x = (Ne.madeN a0 a1 a2).t := ⟨_, rfl⟩
  obtain ⟨ml, hml⟩ : ∃ x, x = (Ne.madeN a0 a1 a2).l := ⟨_, rfl⟩
  have em : Ne.madeN a0 a1 a2 = ⟨mn, ms, mt, ml⟩ := by rw [hmn, hms, hmt, hml]
  obtain ⟨f1, f2, f3, f4, f5, f6, f7, f8, f9⟩ := Ne.madeN_fine (nodes := a0) (ends := a1) k2
  have ck := Ne.made_check (nodes := a0) (ends := a1) k2
  have MD := Lib.hid fun w' (h : Ne.ARow w' o2 a2) => Ne.made_s a0 a1 a2 o2 c2 w' (bounds_i64 w0) (bounds_i64 w1) k2 h
  rw [em] at MD f1 f2 f3 f4 f5 f6 f7 f8 f9 ck
  simp only at f1 f2 f3 f4 f5 f6 f7 f8 f9
  clear hmn hms hmt hml em
  have f8' : ml.length ≤ 24 := by omega
  clear f8
  have CK := Lib.hid ck
  have RT := Lib.hid (Ne.right_of ck)
  have FI := Lib.hid f9
  have CAP := Lib.hid (show ∀ a ∈ ml, Ne.in64 a.cap from fun a ha => by have := (f9 a ha).2.2; unfold Ne.in64; omega)
  have hl6 : ml.length ≤ 1000000 := by omega
  have F7 := Lib.hid f7
  have RA := Lib.hid r2
  clear r2 f7 f9 ck
  obtain ⟨N, rfl⟩ : ∃ N : Nat, mn = (N : Int) := ⟨mn.toNat, by omega⟩
  obtain ⟨S, rfl⟩ : ∃ S : Nat, ms = (S : Int) := ⟨ms.toNat, by omega⟩
  obtain ⟨D, rfl⟩ : ∃ D : Nat, mt = (D : Int) := ⟨mt.toNat, by omega⟩
  obtain ⟨ks, hk3, hq3, bq3, _, _, _⟩ := Ne.ints_row w3
  subst hk3
  clear w3
  have BK3 := Lib.hid bq3
  have KR3 := Lib.hid hq3
  clear bq3 hq3
  obtain ⟨st, hk4, hq4, bq4, _, _, _⟩ := Ne.ints_row w4
  subst hk4
  clear w4
  have BK4 := Lib.hid bq4
  have KR4 := Lib.hid hq4
  clear bq4 hq4
  have b5 := bounds_i64 w5
  have bpa := Ne.pickN_bd (c := a5) (n := 20) (by omega)
  have PA := Lib.hid fun w' => Ne.pick_any a5 20 w' b5.1 b5.2 (by omega) (by omega)
  generalize Ne.pickN a5 20 = pa at *
  clear b5
  by_cases g1 : 40 < st.length
  · have g1' : (40 : Int) < (st.length : Int) := by omega
    go_enter Try.func7, Try.ntmps7
    go_wp2_with fail
    refine HSH.out.mono ?_
    rintro e w1 ⟨rfl, hb⟩
    have HB1 := Lib.hid hb
    clear hb
    go_wp2
    go_ret
    exact ⟨rfl, HB1.out⟩
  have g1' : ¬ (40 : Int) < (st.length : Int) := by omega
  have lst : st.length ≤ 40 := by omega
  go_enter Try.func7, Try.ntmps7
  go_wp2_with fail
  refine HSH.out.mono ?_
  rintro e w1 ⟨rfl, hb⟩
  have HB1 := Lib.hid hb
  clear hb
  go_wp2_with fail
  refine (MD.out _ (RA.out.kept HB1.out)).mono ?_
  rintro e w2 ⟨om, cm, rfl, ho, hb⟩
  have HB2 := Lib.hid (HB1.out.trans (hb.mono HB1.out.size))
  have HV2 := Lib.hid (Rw.own_lt ho)
  have HO3 := Lib.hid (Rw.own_base (Rw.own_alloc ho (.cells #[.int .i64 (N : Int), .int .i64 (S : Int), .int .i64 (D : Int), .slice om ml.length cm] 24)) (B' := w.heap.size) HB1.out.size)
  have HN3 := Lib.hid (Ne.netBox_new w2 (N : Int) (S : Int) (D : Int) (.slice om ml.length cm))
  have hz2 : w.heap.size ≤ w2.heap.size := HB2.out.size
  have HB3 := Lib.hid (HB2.out.alloc hz2 (.cells #[.int .i64 (N : Int), .int .i64 (S : Int), .int .i64 (D : Int), .slice om ml.length cm] 24))
  clear ho hb MD RA HSH
  go_wp2_with fail
  obtain ⟨bn, hbn⟩ : ∃ b, b = w2.heap.size := ⟨_, rfl⟩
  have hbn3 : bn < (w2.alloc (.cells #[.int .i64 (N : Int), .int .i64 (S : Int), .int .i64 (D : Int), .slice om ml.length cm] 24)).heap.size := by rw [hbn]; simp
  rw [← hbn] at HN3 HV2 hz2 ⊢
  clear hbn HB2 HB1
  generalize (w2.alloc (.cells #[.int .i64 (N : Int), .int .i64 (S : Int), .int .i64 (D : Int), .slice om ml.length cm] 24)) = W3 at *
  have HR3 := Lib.hid (Ne.arow_ofA HO3.out)
  obtain ⟨f, hf⟩ : ∃ x, x = Ne.routeN ⟨(N : Int), (S : Int), (D : Int), ml⟩ ks := ⟨_, rfl⟩
  have FL := Lib.hid (show Ne.Flow ⟨(N : Int), (S : Int), (D : Int), ml⟩ f by rw [hf]; exact Ne.route_flow RT.out _)
  have RD := Lib.hid fun w' h1 h2 => Ne.routed_any ⟨(N : Int), (S : Int), (D : Int), ml⟩ om cm a3 cap3 ks w' h1 h2 CK.out BK3.out
  rw [← hf] at RD
  refine (RD.out _ HR3.out (KR3.out.kept HB3.out)).mono ?_
  rintro e w4 ⟨fb, rfl, hfb, hl, hb⟩
  have HB4 := Lib.hid (HB3.out.trans (hb.mono HB3.out.size))
  have HN4 := Lib.hid (Ne.netBox_below HN3.out hb (Ne.netBox_lt HN3.out))
  have HO4 := Lib.hid (Rw.own_below HO3.out hb)
  have HR4 := Lib.hid (HR3.out.kept hb)
  have HFB4 := Lib.hid hl
  have hfb2 := hl.lt
  clear hl hb
  have HL4 := Lib.hid HFB4.out
  have HFB := Lib.hid hfb
  have HST := Lib.hid (KR4.out.kept HB4.out)
  have R1 := Lib.hid fun w' h1 h2 => Ne.reach_flow (n := ⟨(N : Int), (S : Int), (D : Int), ml⟩) (f := f) om cm (some ⟨fb, 0, none⟩) ml.length w' CK.out h1 h2 FL.out 1 (by omega)
  have R0 := Lib.hid fun w' h1 h2 => Ne.reach_low (n := ⟨(N : Int), (S : Int), (D : Int), ml⟩) (f := f) om cm (some ⟨fb, 0, none⟩) ml.length w' CK.out h1 h2 FL.out 0 (by omega)
  have RF := Lib.hid fun w' h1 h2 => Ne.reach_flow (n := ⟨(N : Int), (S : Int), (D : Int), ml⟩) (f := f) om cm (some ⟨fb, 0, none⟩) ml.length w' CK.out h1 h2 FL.out 4611686018427387904 (by omega)
  simp only [Int.toNat_natCast] at R1 RF
  have HFAR := Lib.hid fun M (h : Ne.IsReach ⟨(N : Int), (S : Int), (D : Int), ml⟩ f 4611686018427387904 M) (v : Nat) => Ne.far_at CK.out FL.out h (v := v) (S := S) rfl
  have HRI := Lib.hid fun M (h : Ne.IsReach ⟨(N : Int), (S : Int), (D : Int), ml⟩ f 1 M) (hd : Ne.Rch ⟨(N : Int), (S : Int), (D : Int), ml⟩ f 1 (D : Int)) => show M.getD D false = true by have := Ne.reach_all RT.out h hd; simpa using this
  obtain ⟨n0, n1, n2, n3⟩ := Ne.netBox_cells HN4.out
  have HFLN := Lib.hid FL.out.len
  go_wp2
  clear n0 n1 n2 n3
  go_loopg [16, 17] st.length (fun g s i wr => ∃ (v : Value) (j : Nat), v = s ∧ i = .int .i64 j ∧ j + g = st.length ∧ Hid (Ne.OwnI wr w4.heap.size v (if 0 < ml.length then Ne.encW (Ne.trN ml.length (st.take j)) else [])) ∧ Hid (Below w4.heap.size w4 wr))
  case atStart => exact ⟨_, 0, rfl, rfl, by omega, Lib.hid (by split <;> exact Rw.own_nil _ _), Lib.hid (Below.refl _ _)⟩
  case round =>
    obtain ⟨v, i, rfl, rfl, hig, HOW, HBW⟩ := hrel
    obtain ⟨n0, n1, n2, n3⟩ := Ne.netBox_cells (Ne.netBox_below HN4.out HBW.out (Ne.netBox_lt HN4.out))
    have hbn4 := Ne.netBox_lt HN4.out
    by_cases hgo : i < st.length ∧ 0 < ml.length
    · obtain ⟨hil, hl0⟩ := hgo
      rw [if_pos hl0] at HOW
      obtain ⟨b4, o4, e4, hb4, d0⟩ := Ne.irow_cell HST.out hil
      subst e4
      replace d0 := (HBW.out.cell (p := ⟨b4, o4 + i, none⟩) hb4).trans d0
      have HTK := Lib.hid (Ne.trN_take hil hl0)
      have hraw := BK4.out (Ne.amt st i) (by have := Ne.at_amt hil; exact List.mem_of_getElem? this)
      generalize Ne.amt st i = raw at *
      have PK := Lib.hid fun w' => Ne.pick_any raw (2 * (ml.length : Int)) w' hraw.1 hraw.2 (by omega) (by omega)
      have bpk := Ne.pickN_bd (c := raw) (n := 2 * (ml.length : Int)) (by omega)
      generalize Ne.pickN raw (2 * (ml.length : Int)) = pk at *
      have hii : (i : Int) < (st.length : Int) := by omega
      have hi0 : (0 : Int) ≤ (i : Int) := by omega
      have hl0i : (0 : Int) < (ml.length : Int) := by omega
      have hl0d : decide (0 < ml.length) = true := by simpa using hl0
      have hw1 : IntKind.i64.wrap (2 * (ml.length : Int)) = 2 * (ml.length : Int) := by rw [IntKind.wrap_i64]; omega
      have hvb := Rw.own_block HOW.out
      have HV0 := Lib.hid (show ∀ b, b < w4.heap.size → v.ownBlock ≠ some b from fun b hb h => by have := hvb _ h; omega)
      have hsz := HBW.out.size
      have HO1 := Lib.hid (show Ne.OwnI (wr.alloc (.cells #[.int .i64 pk] 3)).drew w4.heap.size v (Ne.encW (Ne.trN ml.length (st.take i))) from Rw.own_alloc HOW.out _)
      have HNW := Lib.hid (show Ne.IRow (wr.alloc (.cells #[.int .i64 pk] 3)).drew (some ⟨wr.heap.size, 0, none⟩) [pk] from Ne.irow_one' wr rfl pk _)
      have HLN := Lib.hid (show (Ne.encW (Ne.trN ml.length (st.take i))).length + ([pk] : List Int).length ≤ 1099511627776 by rw [Ne.encW_len, Ne.trN_len, List.length_take]; simp; omega)
      have HBZ : w4.heap.size ≤ (wr.alloc (.cells #[.int .i64 pk] 3)).drew.heap.size := by rw [Ne.size_allocd]; omega
      have HGW := Lib.hid (fun w' (hg : (wr.alloc (.cells #[.int .i64 pk] 3)).drew.grownBy w' v.ownBlock) => (Ne.below_drew (HBW.out.alloc hsz (.cells #[.int .i64 pk] 3))).grown hg HBZ hvb)
      go_wp2
      have hS0 := (show (fun w' => (w'.cell? ⟨bn, 0, none⟩ = some (.int .i64 (N : Int)) ∧ w'.cell? ⟨bn, 1, none⟩ = some (.int .i64 (S : Int)) ∧ w'.cell? ⟨bn, 2, none⟩ = some (.int .i64 (D : Int)) ∧ w'.cell? ⟨bn, 3, none⟩ = some (.slice om ml.length cm)) ∧ w'.cell? ⟨b4, o4 + i, none⟩ = some (.int .i64 raw)) wr.drew from ⟨⟨n0, n1, n2, n3⟩, d0⟩)
      have hS1 := (show (fun w' => (w'.cell? ⟨bn, 0, none⟩ = some (.int .i64 (N : Int)) ∧ w'.cell? ⟨bn, 1, none⟩ = some (.int .i64 (S : Int)) ∧ w'.cell? ⟨bn, 2, none⟩ = some (.int .i64 (D : Int)) ∧ w'.cell? ⟨bn, 3, none⟩ = some (.slice om ml.length cm)) ∧ w'.cell? ⟨b4, o4 + i, none⟩ = some (.int .i64 raw)) (wr.alloc (.cells #[.int .i64 pk] 3)).drew from ⟨⟨Ne.held_new n0, Ne.held_new n1, Ne.held_new n2, Ne.held_new n3⟩, Ne.held_new d0⟩)
      refine Rh.start (S := (fun w' => (w'.cell? ⟨bn, 0, none⟩ = some (.int .i64 (N : Int)) ∧ w'.cell? ⟨bn, 1, none⟩ = some (.int .i64 (S : Int)) ∧ w'.cell? ⟨bn, 2, none⟩ = some (.int .i64 (D : Int)) ∧ w'.cell? ⟨bn, 3, none⟩ = some (.slice om ml.length cm)) ∧ w'.cell? ⟨b4, o4 + i, none⟩ = some (.int .i64 raw))) (by kernel_rfl) ?_
      refine Rh.take (some 58) (i := 0) (v := ?_) rfl (by kernel_rfl) (by kernel_rfl) (by kernel_rfl) (by kernel_rfl) (fun _ _ _ h => h) (Or.inl ⟨by rfl, ?_⟩) hS0 ?_
      rotate_left
      · intro w hSw
        go_simp
        try with_reducible rfl
      try simp only [Act.put, List.setIfInBounds_toArray, List.set_cons_zero, List.set_cons_succ]
      refine Rh.take (some 59) (i := 1) (v := ?_) rfl (by kernel_rfl) (by kernel_rfl) (by kernel_rfl) (by kernel_rfl) (fun _ _ _ h => h) (Or.inl ⟨by rfl, ?_⟩) hS0 ?_
      rotate_left
      · intro w hSw
        go_simp
        try with_reducible rfl
      try simp only [Act.put, List.setIfInBounds_toArray, List.set_cons_zero, List.set_cons_succ]
      refine Rh.take (some 60) (i := 2) (v := ?_) rfl (by kernel_rfl) (by kernel_rfl) (by kernel_rfl) (by kernel_rfl) (fun _ _ _ h => h) (Or.inl ⟨by rfl, ?_⟩) hS0 ?_
      rotate_left
      · intro w hSw
        go_simp
        try with_reducible rfl
      try simp only [Act.put, List.setIfInBounds_toArray, List.set_cons_zero, List.set_cons_succ]
      refine Rh.take (some 61) (i := 3) (v := ?_) rfl (by kernel_rfl) (by kernel_rfl) (by kernel_rfl) (by kernel_rfl) (fun _ _ _ h => h) (Or.inl ⟨by rfl, ?_⟩) hS0 ?_
      rotate_left
      · intro w hSw
        go_simp
        try with_reducible rfl
      try simp only [Act.put, List.setIfInBounds_toArray, List.set_cons_zero, List.set_cons_succ]
      refine Rh.take (some 62) (i := 4) (v := ?_) rfl (by kernel_rfl) (by kernel_rfl) (by kernel_rfl) (by kernel_rfl) (fun _ _ _ h => h) (Or.inl ⟨by rfl, ?_⟩) hS0 ?_
      rotate_left
      · intro w hSw
        go_simp
        try with_reducible rfl
      try simp only [Act.put, List.setIfInBounds_toArray, List.set_cons_zero, List.set_cons_succ]
      refine Rh.take (some 63) (i := 5) (v := ?_) rfl (by kernel_rfl) (by kernel_rfl) (by kernel_rfl) (by kernel_rfl) (fun _ _ _ h => h) (Or.inl ⟨by rfl, ?_⟩) hS0 ?_
      rotate_left
      · intro w hSw
        go_simp
        try with_reducible rfl
      try simp only [Act.put, List.setIfInBounds_toArray, List.set_cons_zero, List.set_cons_succ]
      refine Rh.take (some 64) (i := 6) (v := ?_) rfl (by kernel_rfl) (by kernel_rfl) (by kernel_rfl) (by kernel_rfl) (fun _ _ _ h => h) (Or.inl ⟨by rfl, ?_⟩) hS0 ?_
      rotate_left
      · intro w hSw
        go_simp
        try with_reducible rfl
      try simp only [Act.put, List.setIfInBounds_toArray, List.set_cons_zero, List.set_cons_succ]
      refine Rh.take (some 65) (i := 7) (v := ?_) rfl (by kernel_rfl) (by kernel_rfl) (by kernel_rfl) (by kernel_rfl) (fun _ _ _ h => h) (Or.inl ⟨by rfl, ?_⟩) hS0 ?_
      rotate_left
      · intro w hSw
        go_simp
        try with_reducible rfl
      try simp only [Act.put, List.setIfInBounds_toArray, List.set_cons_zero, List.set_cons_succ]
      refine Rh.take (some 66) (i := 8) (v := ?_) rfl (by kernel_rfl) (by kernel_rfl) (by kernel_rfl) (by kernel_rfl) (fun _ _ _ h => h) (Or.inl ⟨by rfl, ?_⟩) hS0 ?_
      rotate_left
      · intro w hSw
        go_simp
        try with_reducible rfl
      try simp only [Act.put, List.setIfInBounds_toArray, List.set_cons_zero, List.set_cons_succ]
      refine Rh.step (i := 9) (by kernel_rfl) rfl fun K' hK' => ?_
      have HK := Lib.hid hK'
      clear hK'
      go_simp
      refine (PK.out _).mono ?_
      rintro e w' ⟨rfl, rfl⟩
      refine HK.out _ _ ⟨hS0, ?_⟩
      clear HK K'
      try simp only [Act.put, List.setIfInBounds_toArray, List.set_cons_zero, List.set_cons_succ]
      refine Rh.step (i := 10) (by kernel_rfl) rfl fun K' hK' => ?_
      have HK := Lib.hid hK'
      clear hK'
      go_simp
      refine HK.out _ _ ⟨hS1, ?_⟩
      clear HK K'
      try simp only [Act.put, List.setIfInBounds_toArray, List.set_cons_zero, List.set_cons_succ]
      refine Rh.step (i := 11) (by kernel_rfl) rfl fun K' hK' => ?_
      refine Rw.stepAt Ne.elemI Ne.encI_len Ne.encI_one (by rfl) (.tmp 58) (.tmp 68) (by rfl) w4.heap.size v (Ne.encW (Ne.trN ml.length (st.take i))) (by rfl) HO1.out ⟨wr.heap.size, 0, none⟩ 1 [pk] 1 rfl (by rfl) HNW.out HLN.out HBZ ?_
      intro v' w' hown' hgrow _
      have hS2 := (show (fun w' => (w'.cell? ⟨bn, 0, none⟩ = some (.int .i64 (N : Int)) ∧ w'.cell? ⟨bn, 1, none⟩ = some (.int .i64 (S : Int)) ∧ w'.cell? ⟨bn, 2, none⟩ = some (.int .i64 (D : Int)) ∧ w'.cell? ⟨bn, 3, none⟩ = some (.slice om ml.length cm)) ∧ w'.cell? ⟨b4, o4 + i, none⟩ = some (.int .i64 raw)) w' from ⟨⟨Ne.held_grow hgrow (HV0.out bn (by omega)) n0, Ne.held_grow hgrow (HV0.out bn (by omega)) n1, Ne.held_grow hgrow (HV0.out bn (by omega)) n2, Ne.held_grow hgrow (HV0.out bn (by omega)) n3⟩, Ne.held_grow hgrow (HV0.out b4 (by omega)) d0⟩)
      refine hK' _ _ ⟨hS2, ?_⟩
      clear hK' K'
      try simp only [Act.put, List.setIfInBounds_toArray, List.set_cons_zero, List.set_cons_succ]
      refine Rh.take (some 16) (i := 12) (v := ?_) rfl (by kernel_rfl) (by kernel_rfl) (by kernel_rfl) (by kernel_rfl) (fun _ _ _ h => h) (Or.inl ⟨by rfl, ?_⟩) hS2 ?_
      rotate_left
      · intro w hSw
        go_simp
        try with_reducible rfl
      try simp only [Act.put, List.setIfInBounds_toArray, List.set_cons_zero, List.set_cons_succ]
      refine Rh.done (by kernel_rfl) ?_ _
      have HOV := Lib.hid (show Ne.OwnI w' w4.heap.size v' (if 0 < ml.length then Ne.encW (Ne.trN ml.length (st.take (i + 1))) else []) by rw [if_pos hl0, HTK.out]; exact hown')
      have HB5 := Lib.hid (HGW.out w' hgrow)
      clear hS0 hS1 hS2 hown' hgrow HO1 HNW HBZ n0 n1 n2 n3 d0
      go_wp2
      go_roundg (st.length - (i + 1))
      case measure => omega
      case rel => exact ⟨_, i + 1, rfl, by go_num, by omega, HOV, HB5⟩
    have HX := Lib.hid (show Ne.OwnI wr w4.heap.size v (Ne.encW (if 0 < ml.length then Ne.trN ml.length st else [])) by
      have h := HOW.out
      by_cases hl0 : 0 < ml.length
      · have e : i = st.length := by omega
        rw [if_pos hl0, e, Ne.trN_all] at h
        rw [if_pos hl0]; exact h
      · rw [if_neg hl0] at h ⊢; exact h)
    have HTB := Lib.hid (show ∀ x ∈ Ne.encW (if 0 < ml.length then Ne.trN ml.length st else []), Ne.in64 x from Ne.encW_64 (b := 2 * ml.length) (fun r hr => by
      by_cases hl0 : 0 < ml.length
      · rw [if_pos hl0] at hr; exact Ne.trN_bd hl0 r hr
      · rw [if_neg hl0] at hr; simp at hr) (by omega))
    have HTL := Lib.hid (show (if 0 < ml.length then Ne.trN ml.length st else []).length ≤ 1000000 by split <;> simp [Ne.trN_len]; omega)
    generalize (if 0 < ml.length then Ne.trN ml.length st else []) = TR at *
    obtain ⟨ot, ct, hv, _, hrt⟩ := Ne.irow_ofI2 HX.out
    rw [Ne.encW_len] at hv
    subst hv
    have HRT := Lib.hid hrt
    clear hrt HOW HX
    have PX := Lib.hid fun x (hx : Ne.in64 x) w' h1 h2 h3 => show Calls Try.prog 13 #[Ne.encN ⟨(N : Int), (S : Int), (D : Int), ml⟩ om cm, .slice (some ⟨fb, 0, none⟩) ml.length ml.length, .slice ot TR.length ct, .int .i64 x] w' fun e w2 => ∃ o c, e = .returned (.tuple #[.slice o (Ne.pushV ⟨(N : Int), (S : Int), (D : Int), ml⟩ f (Ne.encW TR) x).length c, .int .i64 (Ne.pushE ⟨(N : Int), (S : Int), (D : Int), ml⟩ f (Ne.encW TR) x)]) ∧ Ne.IRow w2 o (Ne.pushV ⟨(N : Int), (S : Int), (D : Int), ml⟩ f (Ne.encW TR) x) ∧ Below w'.heap.size w' w2 by
      have := Ne.push_flowC (n := ⟨(N : Int), (S : Int), (D : Int), ml⟩) (f := f) om cm (some ⟨fb, 0, none⟩) ml.length w' CK.out h1 h2 FL.out ot ct (Ne.encW TR) x h3 (by rw [Ne.encW_len]; exact HTL.out) HTB.out hx
      rwa [Ne.encW_len] at this
    have HB5 := Lib.hid (HB4.out.trans (HBW.out.mono HB4.out.size))
    have HN5 := Lib.hid (Ne.netBox_below HN4.out HBW.out (Ne.netBox_lt HN4.out))
    have HR5 := Lib.hid (HR4.out.kept HBW.out)
    have HL5 := Lib.hid (HL4.out.kept HBW.out)
    have PX1 := Lib.hid (PX.out (1 + pa) (by unfold Ne.in64; omega))
    have PX0 := Lib.hid (PX.out 0 (by unfold Ne.in64; omega))
    have HC1 := Lib.hid (Ne.push_cases CK.out FL.out (Ne.encW TR) (x := 1 + pa) (by omega))
    obtain ⟨hz1, hz2⟩ := Ne.push_nought CK.out FL.out (Ne.encW TR)
    rw [hz2] at PX0
    have HZ1 := Lib.hid hz1
    clear hz1 hz2 PX
    generalize Ne.pushV ⟨(N : Int), (S : Int), (D : Int), ml⟩ f (Ne.encW TR) (1 + pa) = PV at *
    generalize Ne.pushE ⟨(N : Int), (S : Int), (D : Int), ml⟩ f (Ne.encW TR) (1 + pa) = PE at *
    generalize Ne.pushE ⟨(N : Int), (S : Int), (D : Int), ml⟩ f (Ne.encW TR) 0 = PZ at *
    have hend : i = st.length ∨ (i < st.length ∧ ml.length = 0) := by omega
    go_upto_region 8 with fail
    go_cut [55] (fun s wc => s = .bool false ∧ wr = wc)
    case first =>
      rcases hend with hend | ⟨hend, hz⟩
      · have h1 : ¬ (i : Int) < (st.length : Int) := by omega
        have h1d : decide (i < st.length) = false := decide_eq_false (by omega)
        clear hend
        go_wp2
        go_meet
        case rel => exact ⟨by first | rfl | simp [h1], rfl⟩
      · have h1 : (i : Int) < (st.length : Int) := by omega
        have h2 : ¬ (0 : Int) < (ml.length : Int) := by omega
        have h2d : decide (0 < ml.length) = false := decide_eq_false (by omega)
        clear hz
        go_wp2
        go_meet
        case rel => exact ⟨by first | rfl | simp [h2], rfl⟩
    case rest =>
    obtain ⟨rfl, rfl⟩ := hcut
    go_wp2_with fail
    refine (R1.out wr HR5.out HL5.out.irow).mono ?_
    rintro e w6 ⟨b6, c6, M1, rfl, hi1, hm1, hb⟩
    have HM6 := Lib.hid hm1
    have HMD := Lib.hid (HRI.out M1 hi1)
    have HL1 := Lib.hid (show M1.length = N + 1 by have := hi1.len; simpa using this)
    have HB6 := Lib.hid (HB5.out.trans (hb.mono HB5.out.size))
    have HN6 := Lib.hid (Ne.netBox_below HN5.out hb (Ne.netBox_lt HN5.out))
    have HR6 := Lib.hid (HR5.out.kept hb)
    have HL6 := Lib.hid (HL5.out.kept hb)
    have HRT6 := Lib.hid (HRT.out.kept hb)
    clear hm1 hi1
    clear hb n0 n1 n2 n3
    obtain ⟨n0, n1, n2, n3⟩ := Ne.netBox_cells HN6.out
    go_wp2_with fail
    refine (PA.out _).mono ?_
    rintro e w' ⟨rfl, rfl⟩
    go_wp2_with fail
    refine (PX1.out w6 HR6.out HL6.out.irow HRT6.out).mono ?_
    rintro e w7 ⟨o7, c7, rfl, hpv, hb⟩
    have HPV := Lib.hid hpv
    have HM7 := Lib.hid (HM6.out.kept hb)
    have HB7 := Lib.hid (HB6.out.trans (hb.mono HB6.out.size))
    have HN7 := Lib.hid (Ne.netBox_below HN6.out hb (Ne.netBox_lt HN6.out))
    have HR7 := Lib.hid (HR6.out.kept hb)
    have HL7 := Lib.hid (HL6.out.kept hb)
    have HRT7 := Lib.hid (HRT6.out.kept hb)
    clear hpv HRT6 HM6
    clear hb n0 n1 n2 n3
    obtain ⟨n0, n1, n2, n3⟩ := Ne.netBox_cells HN7.out
    have hdi : (D : Int) < (N : Int) + 1 := by omega
    have hd0 : (0 : Int) ≤ (D : Int) := by omega
    have md := HM7.out.cell (i := D) (by rw [HL1.out]; omega)
    have HVL := Lib.hid (show (PE = 0 ∧ M1.getD D false = true ∧ Ne.Flow ⟨(N : Int), (S : Int), (D : Int), ml⟩ PV) ∨ ((PE = 1 ∨ PE = 9) ∧ PV = []) from by
      rcases HC1.out with ⟨h1, _, _, h4, _, h6⟩ | ⟨h1, _, h3⟩ | ⟨h1, _, _, h3⟩
      · exact .inl ⟨h1, HMD.out h6, h4⟩
      · exact .inr ⟨.inl h1, h3⟩
      · exact .inr ⟨.inr h1, h3⟩)
    clear HC1 HMD
    go_upto_region 14 with fail
    go_cut [110] (fun s wc => s = .bool false ∧ Below w7.heap.size w7 wc)
    case first =>
      rcases HVL.out with ⟨h1, h2, h4⟩ | ⟨h1, h3⟩
      · subst h1
        rw [h2] at md
        have HFW := Lib.hid h4
        have CF := Lib.hid fun w' h1 h2 => Ne.fchk_any ⟨(N : Int), (S : Int), (D : Int), ml⟩ om cm o7 c7 PV w' h1 h2 hl6 CAP.out
        rw [Ne.flow_chkF CK.out HFW.out] at CF
        clear h2 h4
        go_wp2_with fail
        refine (CF.out _ HR7.out HPV.out).mono ?_
        rintro e w8 ⟨rfl, hb⟩
        have HBX := Lib.hid hb
        clear hb
        go_wp2
        go_meet
        case rel => exact ⟨rfl, HBX.out⟩
      · rcases h1 with h1 | h1
        all_goals
          subst h1
          clear h3
          go_wp2
          go_meet
          case rel => exact ⟨rfl, Below.refl _ _⟩
    case rest =>
    obtain ⟨rfl, hb⟩ := hcut
    have HBC := Lib.hid hb
    have HB8 := Lib.hid (HB7.out.trans (hb.mono HB7.out.size))
    have HN8 := Lib.hid (Ne.netBox_below HN7.out hb (Ne.netBox_lt HN7.out))
    have HR8 := Lib.hid (HR7.out.kept hb)
    have HL8 := Lib.hid (HL7.out.kept hb)
    clear hb n0 n1 n2 n3
    obtain ⟨n0, n1, n2, n3⟩ := Ne.netBox_cells HN8.out
    have HRT8 := Lib.hid (HRT7.out.kept HBC.out)
    clear HRT7 md
    go_upto_region 16 with fail
    go_cut [125] (fun s w2 => s = .bool false ∧ wc = w2)
    case first =>
      rcases HVL.out with ⟨h1, h2, h4⟩ | ⟨h1, h3⟩
      · subst h1
        clear h2 h4
        go_wp2
        go_meet
        case rel => exact ⟨rfl, rfl⟩
      · rcases h1 with h1 | h1
        all_goals
          subst h1
          subst h3
          go_wp2
          go_meet
          case rel => exact ⟨rfl, rfl⟩
    case rest =>
    obtain ⟨rfl, rfl⟩ := hcut
    clear HVL
    go_wp2_with fail
    refine (R0.out _ HR8.out HL8.out.irow).mono ?_
    rintro e w9 ⟨o9, c9, rfl, hb⟩
    have HB9 := Lib.hid (HB8.out.trans (hb.mono HB8.out.size))
    have HN9 := Lib.hid (Ne.netBox_below HN8.out hb (Ne.netBox_lt HN8.out))
    have HR9 := Lib.hid (HR8.out.kept hb)
    have HL9 := Lib.hid (HL8.out.kept hb)
    have HRT9 := Lib.hid (HRT8.out.kept hb)
    clear HRT8
    clear hb n0 n1 n2 n3
    obtain ⟨n0, n1, n2, n3⟩ := Ne.netBox_cells HN9.out
    go_wp2_with fail
    refine (PX0.out w9 HR9.out HL9.out.irow HRT9.out).mono ?_
    rintro e w10 ⟨o10, c10, rfl, _, hb⟩
    have HB10 := Lib.hid (HB9.out.trans (hb.mono HB9.out.size))
    have HN10 := Lib.hid (Ne.netBox_below HN9.out hb (Ne.netBox_lt HN9.out))
    have HR10 := Lib.hid (HR9.out.kept hb)
    have HL10 := Lib.hid (HL9.out.kept hb)
    clear HRT9
    clear hb n0 n1 n2 n3
    obtain ⟨n0, n1, n2, n3⟩ := Ne.netBox_cells HN10.out
    go_wp2_with fail
    refine (RF.out w10 HR10.out HL10.out.irow).mono ?_
    rintro e w11 ⟨b11, c11, M3, rfl, hi3, hm3, hb⟩
    have HM11 := Lib.hid hm3
    have HF3 := Lib.hid (HFAR.out M3 hi3)
    have HL3 := Lib.hid (show M3.length = N + 1 by have := hi3.len; simpa using this)
    have HB11 := Lib.hid (HB10.out.trans (hb.mono HB10.out.size))
    have HN11 := Lib.hid (Ne.netBox_below HN10.out hb (Ne.netBox_lt HN10.out))
    have HR11 := Lib.hid (HR10.out.kept hb)
    have HL11 := Lib.hid (HL10.out.kept hb)
    clear hm3 hi3
    clear hb n0 n1 n2 n3
    obtain ⟨n0, n1, n2, n3⟩ := Ne.netBox_cells HN11.out
    clear R1 R0 RF PX0 PX1 PA
    go_wp2
    go_loopg [29] N (fun g i wy => ∃ k : Nat, i = .int .i64 k ∧ 1 ≤ k ∧ k + g = N + 1 ∧ Hid (Below w11.heap.size w11 wy))
    case atStart => exact ⟨1, rfl, Nat.le_refl _, by omega, Lib.hid (Below.refl _ _)⟩
    case round =>
      obtain ⟨k, rfl, hk1, hkg, HQ⟩ := hrel
      obtain ⟨n0, n1, n2, n3⟩ := Ne.netBox_cells (Ne.netBox_below HN11.out HQ.out (Ne.netBox_lt HN11.out))
      by_cases hlt : k < N + 1
      · have hki : (k : Int) < (N : Int) + 1 := by omega
        have hki2 : (k : Int) ≤ (N : Int) := by omega
        have hk0 : (0 : Int) ≤ (k : Int) := by omega
        have hkN : k ≤ N := by omega
        have m0 := (HM11.out.kept HQ.out).cell (i := k) (by rw [HL3.out]; exact hlt)
        rw [HF3.out k] at m0
        by_cases c : k = S
        · subst c
          have hdd : decide (k = k) = true := by simp
          rw [hdd] at m0
          clear hdd
          go_wp2
          go_quiet (fail)
          go_wp2
          go_roundg (N + 1 - (k + 1))
          case measure => omega
          case rel => exact ⟨k + 1, by go_num, by omega, by omega, Lib.hid (Ne.below_dn HQ.out _)⟩
        · have hdd : decide (k = S) = false := by simpa using c
          rw [hdd] at m0
          have hne : ((k : Int) == (S : Int)) = false := by simp; omega
          have hne2 : (k == S) = false := by simpa using c
          have hne3 : ¬ (k : Int) = (S : Int) := by omega
          clear hdd
          go_wp2
          go_quiet (fail)
          go_wp2
          go_roundg (N + 1 - (k + 1))
          case measure => omega
          case rel => exact ⟨k + 1, by go_num, by omega, by omega, Lib.hid (Ne.below_dn HQ.out _)⟩
      · have ek : k = N + 1 := by omega
        subst ek
        have hlast : ¬ ((N : Int) + 1 ≤ (N : Int)) := by omega
        have HBE := Lib.hid (HB11.out.trans (HQ.out.mono HB11.out.size))
        rcases HZ1.out with hz | hz
        all_goals
          subst hz
          go_wp2
          go_ret
          exact ⟨rfl, HBE.out⟩

end Go.Proofs.Ythgknkjdidbkdaa.residualEnds
