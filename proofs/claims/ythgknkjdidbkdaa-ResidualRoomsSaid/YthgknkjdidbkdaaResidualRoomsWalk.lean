/- ResidualRooms: for every input the law returns true and its arguments read as they did. No condition. -/
import Derived.Test.YthgknkjdidbkdaaRrm6
import Derived.Test.YthgknkjdidbkdaaOpenc
import Derived.Test.YthgknkjdidbkdaaRows
import Derived.WalkKit
import Derived.ProofKit
import Derived.OpenShut
import Derived.ShutString
import Derived.ChangeOld
import Derived.Below
import Derived.Deep.Strs
namespace Go.Proofs.Ythgknkjdidbkdaa.residualRooms
open Go.ChangeShapes Go.WideShapes Go.ChangeAt Go.RowKit
open Go.ChangeMaps (open_string shut_string)
set_option linter.unusedVariables false
set_option linter.unusedSimpArgs false

theorem own : ownKnob Try.prog.godebug = none := by kernel_rfl
theorem laidOut : laidOutB Try.prog = true := by kernel_rfl

def IntsIn (k : IntKind) (w : World) (a : Option Addr) (len cap : Nat) (zs : List Int) : Prop :=
  (a = none ∧ len = 0 ∧ cap = 0 ∧ zs = []) ∨
  ∃ x, a = some x ∧ len ≤ cap ∧ cap ≤ maxLen ∧ zs.length = cap ∧ (∀ i, i < zs.length → w.cell? (x.add i) = some (.int k (zs.getD i 0))) ∧ ∀ n ∈ zs, (Lit.int k n).wf = true



set_option maxRecDepth 100000 in
set_option maxHeartbeats 4000000 in
theorem walk (a0 : Int) (a1 : Int) (a2 : List Ne.Arc) (o2 : Option Addr) (c2 : Nat) (a3 : Option Addr) (len3 cap3 : Nat) (l3 : List Int) (w : World) (w0 : (Lit.int .i64 a0).wf = true) (w1 : (Lit.int .i64 a1).wf = true) (k2 : ∀ a ∈ a2, Ne.Arc.ok a) (z2 : a2.length ≤ c2) (y2 : c2 ≤ maxLen) (n2 : o2 = none → c2 = 0) (r2 : Ne.ARow w o2 a2) (w3 : IntsIn .i64 w a3 len3 cap3 l3) :
    Calls Try.prog 6 #[.int .i64 a0, .int .i64 a1, .slice o2 a2.length c2, .slice a3 len3 cap3] w fun e w' => e = .returned (.bool true) ∧ Below w.heap.size w w' := by
  have HSH := Lib.hid (Ne.shown_any w)
  obtain ⟨mn, hmn⟩ : ∃ x, x = (Ne.madeN a0 a1 a2).n := ⟨_, rfl⟩
  obtain ⟨ms, hms⟩ : ∃ x, x = (Ne.madeN a0 a1 a2).s := ⟨_, rfl⟩
  obtain ⟨mt, hmt⟩ : ∃ x, x = (Ne.madeN a0 a1 a2).t := ⟨_, rfl⟩
  obtain ⟨ml, hml⟩ : ∃ x, x = (Ne.madeN a0 a1 a2).l := ⟨_, rfl⟩
  have em : Ne.madeN a0 a1 a2 = ⟨mn, ms, mt, ml⟩ := by rw [hmn, hms, hmt, hml]
  obtain ⟨f1, f2, f3, f4, f5, f6, f7, f8, f9⟩ := Ne.madeN_fine (nodes := a0) (ends := a1) k2
  have ck := Ne.made_check (nodes := a0) (ends := a1) k2
  have MD := Lib.hid fun w' (h : Ne.ARow w' o2 a2) => Ne.made_s a0 a1 a2 o2 c2 w' (bounds_i64 w0) (bounds_i64 w1) k2 h
  rw [em] at MD f1 f2 f3 f4 f5 f6 f7 f8 f9 ck
  simp only at f1 f2 f3 f4 f5 f6 f7 f8 f9
  clear hmn hms hmt hml em
  have f8' : ml.length ≤ 24 := by omega
  clear f8
  have CK := Lib.hid ck
  have RT := Lib.hid (Ne.right_of ck)
  have FI := Lib.hid f9
  have CAP := Lib.hid (show ∀ a ∈ ml, Ne.in64 a.cap from fun a ha => by have := (f9 a ha).2.2; unfold Ne.in64; omega)
  have hl6 : ml.length ≤ 1000000 := by omega
  have F7 := Lib.hid f7
  have RA := Lib.hid r2
  clear r2 f7 f9 ck
  obtain ⟨N, rfl⟩ : ∃ N : Nat, mn = (N : Int) := ⟨mn.toNat, by omega⟩
  obtain ⟨S, rfl⟩ : ∃ S : Nat, ms = (S : Int) := ⟨ms.toNat, by omega⟩
  obtain ⟨D, rfl⟩ : ∃ D : Nat, mt = (D : Int) := ⟨mt.toNat, by omega⟩
  obtain ⟨ks, hk3, hq3, bq3, _, _, _⟩ := Ne.ints_row w3
  subst hk3
  clear w3
  have BK3 := Lib.hid bq3
  have KR3 := Lib.hid hq3
  clear bq3 hq3
  go_enter Try.func6, Try.ntmps6
  go_wp2_with fail
  refine HSH.out.mono ?_
  rintro e w1 ⟨rfl, hb⟩
  have HB1 := Lib.hid hb
  clear hb
  go_wp2_with fail
  refine (MD.out _ (RA.out.kept HB1.out)).mono ?_
  rintro e w2 ⟨om, cm, rfl, ho, hb⟩
  have HB2 := Lib.hid (HB1.out.trans (hb.mono HB1.out.size))
  have HV2 := Lib.hid (Rw.own_lt ho)
  have HO3 := Lib.hid (Rw.own_base (Rw.own_alloc ho (.cells #[.int .i64 (N : Int), .int .i64 (S : Int), .int .i64 (D : Int), .slice om ml.length cm] 24)) (B' := w.heap.size) HB1.out.size)
  have HN3 := Lib.hid (Ne.netBox_new w2 (N : Int) (S : Int) (D : Int) (.slice om ml.length cm))
  have hz2 : w.heap.size ≤ w2.heap.size := HB2.out.size
  have HB3 := Lib.hid (HB2.out.alloc hz2 (.cells #[.int .i64 (N : Int), .int .i64 (S : Int), .int .i64 (D : Int), .slice om ml.length cm] 24))
  clear ho hb MD RA HSH
  go_wp2_with fail
  obtain ⟨bn, hbn⟩ : ∃ b, b = w2.heap.size := ⟨_, rfl⟩
  have hbn3 : bn < (w2.alloc (.cells #[.int .i64 (N : Int), .int .i64 (S : Int), .int .i64 (D : Int), .slice om ml.length cm] 24)).heap.size := by rw [hbn]; simp
  rw [← hbn] at HN3 HV2 hz2 ⊢
  clear hbn HB2 HB1
  generalize (w2.alloc (.cells #[.int .i64 (N : Int), .int .i64 (S : Int), .int .i64 (D : Int), .slice om ml.length cm] 24)) = W3 at *
  have HR3 := Lib.hid (Ne.arow_ofA HO3.out)
  obtain ⟨f, hf⟩ : ∃ x, x = Ne.routeN ⟨(N : Int), (S : Int), (D : Int), ml⟩ ks := ⟨_, rfl⟩
  have FL := Lib.hid (show Ne.Flow ⟨(N : Int), (S : Int), (D : Int), ml⟩ f by rw [hf]; exact Ne.route_flow RT.out _)
  have RD := Lib.hid fun w' h1 h2 => Ne.routed_any ⟨(N : Int), (S : Int), (D : Int), ml⟩ om cm a3 cap3 ks w' h1 h2 CK.out BK3.out
  rw [← hf] at RD
  refine (RD.out _ HR3.out (KR3.out.kept HB3.out)).mono ?_
  rintro e w4 ⟨fb, rfl, hfb, hl, hb⟩
  have HB4 := Lib.hid (HB3.out.trans (hb.mono HB3.out.size))
  have HN4 := Lib.hid (Ne.netBox_below HN3.out hb (Ne.netBox_lt HN3.out))
  have HO4 := Lib.hid (Rw.own_below HO3.out hb)
  have HR4 := Lib.hid (HR3.out.kept hb)
  have HFB4 := Lib.hid hl
  have hfb2 := hl.lt
  clear hl hb
  have HL4 := Lib.hid HFB4.out
  have HFB := Lib.hid hfb
  have RM := Lib.hid fun w' h1 h2 => Ne.room_flow (n := ⟨(N : Int), (S : Int), (D : Int), ml⟩) (f := f) om cm (some ⟨fb, 0, none⟩) ml.length w' CK.out h1 h2 FL.out
  have FR := Lib.hid fun (v : Int) w' h1 => Ne.dfrom_b ⟨(N : Int), (S : Int), (D : Int), ml⟩ om cm v w' h1 hl6
  have HE0 := Lib.hid fun (i : Nat) (h : i < ml.length) w' h1 => show Calls Try.prog 19 #[Ne.encN ⟨(N : Int), (S : Int), (D : Int), ml⟩ om cm, .int .i64 (2 * (i : Int))] w' fun e w2 => e = .returned (.tuple #[.int .i64 (Ne.arcAt ml i).fr, .int .i64 (Ne.arcAt ml i).to]) ∧ Below w'.heap.size w' w2 by
    have := Ne.ends_at ⟨(N : Int), (S : Int), (D : Int), ml⟩ om cm (2 * i) w' h1 hl6 (by simp only; omega)
    rwa [Ne.trF_even, Ne.trT_even, show ((2 * i : Nat) : Int) = 2 * (i : Int) by omega] at this
  have HE1 := Lib.hid fun (i : Nat) (h : i < ml.length) w' h1 => show Calls Try.prog 19 #[Ne.encN ⟨(N : Int), (S : Int), (D : Int), ml⟩ om cm, .int .i64 (2 * (i : Int) + 1)] w' fun e w2 => e = .returned (.tuple #[.int .i64 (Ne.arcAt ml i).to, .int .i64 (Ne.arcAt ml i).fr]) ∧ Below w'.heap.size w' w2 by
    have := Ne.ends_at ⟨(N : Int), (S : Int), (D : Int), ml⟩ om cm (2 * i + 1) w' h1 hl6 (by simp only; omega)
    rwa [Ne.trF_odd, Ne.trT_odd, show ((2 * i + 1 : Nat) : Int) = 2 * (i : Int) + 1 by omega] at this
  have HE2 := Lib.hid fun w' h1 => show Calls Try.prog 19 #[Ne.encN ⟨(N : Int), (S : Int), (D : Int), ml⟩ om cm, .int .i64 (2 * (ml.length : Int))] w' fun e w2 => e = .returned (.tuple #[.int .i64 0, .int .i64 0]) ∧ Below w'.heap.size w' w2 by
    have := Ne.ends_any ⟨(N : Int), (S : Int), (D : Int), ml⟩ om cm (2 * (ml.length : Int)) w' h1 hl6 (by unfold Ne.in64; omega)
    rwa [Ne.enF_out (.inr (Int.le_refl _)), Ne.enT_out (.inr (Int.le_refl _))] at this
  have HEN := Lib.hid fun (r : Nat) (h : r < 2 * ml.length) w' h1 => Ne.ends_at ⟨(N : Int), (S : Int), (D : Int), ml⟩ om cm r w' h1 hl6 h
  have HRE := Lib.hid fun (i : Nat) (h : i < ml.length) => show Ne.amt (Ne.roomL ml f (2 * ml.length)) (2 * i) = (Ne.arcAt ml i).cap - Ne.amt f i by rw [Ne.roomL_at ml f (by omega), Ne.room_even]
  have HRD := Lib.hid fun (i : Nat) (h : i < ml.length) => show Ne.amt (Ne.roomL ml f (2 * ml.length)) (2 * i + 1) = Ne.amt f i by rw [Ne.roomL_at ml f (by omega), Ne.room_odd]
  have HRL := Lib.hid (Ne.roomL_len ml f (2 * ml.length))
  have HFLN := Lib.hid FL.out.len
  have HAB := Lib.hid (fun i h => Ne.amt_bd RT.out FL.out.wi (i := i) h)
  have HCP := Lib.hid (fun i h => Ne.cap_topR RT.out (i := i) h)
  have HCP0 := Lib.hid (fun i h => RT.out.cap0 i h)
  have HWI := Lib.hid (fun i h => FL.out.wi i h)
  have HMS := Lib.hid (Ne.marked_start RT.out)
  have HME := Lib.hid (fun M h => Ne.marked_end RT.out (M := M) h)
  have HMT := Lib.hid (fun (v : Int) M i h hi => Ne.marked_step (l := ml) (v := v) (M := M) (i := i) h hi)
  have HMN := Lib.hid (fun (v : Int) M h => Ne.marked_next (l := ml) (v := v) (M := M) h)
  have HML := Lib.hid (fun (v : Int) T M (h : Ne.Marked ml v T M) => h.len)
  have HUP := Lib.hid (fun (v : Int) i j (h : i < j) hj => Ne.fromL_up (l := ml) (v := v) (k := 2 * ml.length) h hj)
  have HMEM := Lib.hid (fun (v : Int) r (h : r ∈ Ne.fromL ml v (2 * ml.length)) => Ne.fromL_mem.1 h)
  have HFL2 := Lib.hid (fun (v : Int) => Ne.fromL_len ml v (2 * ml.length))
  simp only at HAB HCP HCP0 HWI HMS HME HFLN
  generalize Ne.roomL ml f (2 * ml.length) = RL at *
  have hmk := Ne.make_b (2 * ml.length) (by omega)
  simp only [Int.natCast_mul, Int.cast_ofNat_Int] at hmk
  obtain ⟨n0, n1, n2, n3⟩ := Ne.netBox_cells HN4.out
  go_wp2_with fail
  refine (RM.out w4 HR4.out HL4.out.irow).mono ?_
  rintro e w5 ⟨o5, c5, rfl, hrm, hb⟩
  have HB5 := Lib.hid (HB4.out.trans (hb.mono HB4.out.size))
  have HN5 := Lib.hid (Ne.netBox_below HN4.out hb (Ne.netBox_lt HN4.out))
  have HR5 := Lib.hid (HR4.out.kept hb)
  have HL5 := Lib.hid (HL4.out.kept hb)
  have HRM5 := Lib.hid hrm
  clear hrm
  clear hb n0 n1 n2 n3
  obtain ⟨n0, n1, n2, n3⟩ := Ne.netBox_cells HN5.out
  clear RM
  go_wp2
  clear n0 n1 n2 n3
  go_loopg [14] ml.length (fun g i wr => ∃ k : Nat, i = .int .i64 k ∧ k + g = ml.length ∧ Hid (Below w5.heap.size w5 wr))
  case atStart => exact ⟨0, rfl, by omega, Lib.hid (Below.refl _ _)⟩
  case round =>
    obtain ⟨k, rfl, hkg, HBW⟩ := hrel
    obtain ⟨n0, n1, n2, n3⟩ := Ne.netBox_cells (Ne.netBox_below HN5.out HBW.out (Ne.netBox_lt HN5.out))
    by_cases hlt : k < ml.length
    · have hki : (k : Int) < (ml.length : Int) := by omega
      have hk0 : (0 : Int) ≤ (k : Int) := by omega
      have E0 := Lib.hid (HE0.out k hlt)
      have E1 := Lib.hid (HE1.out k hlt)
      obtain ⟨br, orr, rfl, hbr, e0⟩ := Ne.irow_cell HRM5.out (i := 2 * k) (by rw [HRL.out]; omega)
      obtain ⟨_, _, e, _, e1⟩ := Ne.irow_cell HRM5.out (i := 2 * k + 1) (by rw [HRL.out]; omega)
      cases e
      rw [HRE.out k hlt] at e0
      rw [HRD.out k hlt] at e1
      have HFK := Lib.hid (show ∀ w', Below w5.heap.size w5 w' → w'.cell? ⟨fb, k, none⟩ = some (.int .i64 (Ne.amt f k)) from fun w' h => (HL5.out.kept h).cell (i := k) (by rw [HFLN.out]; exact hlt))
      obtain ⟨b, off, rfl, hba, c0, c1, c2⟩ := Ne.arow_cell HR5.out hlt
      have hcp := HCP.out k hlt
      have hcp0 := HCP0.out k hlt
      obtain ⟨hw0, hw1⟩ := HWI.out k hlt
      generalize Ne.amt f k = x at *
      generalize Ne.arcAt ml k = a at *
      obtain ⟨fr, tq, ca⟩ := a
      simp only at c0 c1 c2 e0 E0 E1 hcp hcp0 hw1
      obtain ⟨y, hy⟩ : ∃ y, ca - x = y := ⟨_, rfl⟩
      rw [hy] at e0
      have hsum : IntKind.i64.wrap (y + x) = ca := by rw [IntKind.wrap_i64]; omega
      clear hy hcp hcp0 hw0 hw1
      go_wp2_with fail
      refine (E0.out _ (HR5.out.kept HBW.out)).mono ?_
      rintro e w6 ⟨rfl, hb⟩
      have HB6 := Lib.hid (HBW.out.trans (hb.mono HBW.out.size))
      clear hb n0 n1 n2 n3
      obtain ⟨n0, n1, n2, n3⟩ := Ne.netBox_cells (Ne.netBox_below HN5.out HB6.out (Ne.netBox_lt HN5.out))
      go_wp2_with fail
      refine (E1.out _ (HR5.out.kept HB6.out)).mono ?_
      rintro e w7 ⟨rfl, hb⟩
      have HB7 := Lib.hid (HB6.out.trans (hb.mono HB6.out.size))
      clear hb n0 n1 n2 n3
      obtain ⟨n0, n1, n2, n3⟩ := Ne.netBox_cells (Ne.netBox_below HN5.out HB7.out (Ne.netBox_lt HN5.out))
      have hf1 := HFK.out w7 HB7.out
      replace e0 := (HB7.out.cell (p := ⟨br, orr + 2 * k, none⟩) hbr).trans e0
      replace e1 := (HB7.out.cell (p := ⟨br, orr + (2 * k + 1), none⟩) hbr).trans e1
      replace c0 := (HB7.out.cell (p := ⟨b, off + k * 3, none⟩) hba).trans c0
      replace c1 := (HB7.out.cell (p := ⟨b, off + k * 3 + 1, none⟩) hba).trans c1
      replace c2 := (HB7.out.cell (p := ⟨b, off + k * 3 + 2, none⟩) hba).trans c2
      obtain ⟨p, hp⟩ : ∃ p, p = 2 * k := ⟨_, rfl⟩
      obtain ⟨p1, hp1⟩ : ∃ p, p = 2 * k + 1 := ⟨_, rfl⟩
      rw [← hp] at e0
      rw [← hp1] at e1
      have hx1 : IntKind.i64.wrap (2 * (k : Int)) = (p : Int) := by rw [IntKind.wrap_i64]; omega
      have hx2 : IntKind.i64.wrap ((p : Int) + 1) = (p1 : Int) := by rw [IntKind.wrap_i64]; omega
      have hx3 : (0 : Int) ≤ (p : Int) := by omega
      have hx4 : (0 : Int) ≤ (p1 : Int) := by omega
      have hx5 : (p : Int) < 2 * (ml.length : Int) := by omega
      have hx6 : (p1 : Int) < 2 * (ml.length : Int) := by omega
      have hx7 : p < 2 * ml.length := by omega
      have hx8 : p1 < 2 * ml.length := by omega
      have HP := Lib.hid hp
      clear hp hp1
      go_wp2
      have hS0 := (show (fun w' => ((w'.cell? ⟨bn, 0, none⟩ = some (.int .i64 (N : Int)) ∧ w'.cell? ⟨bn, 1, none⟩ = some (.int .i64 (S : Int)) ∧ w'.cell? ⟨bn, 2, none⟩ = some (.int .i64 (D : Int)) ∧ w'.cell? ⟨bn, 3, none⟩ = some (.slice (some ⟨b, off, none⟩) ml.length cm)) ∧ w'.cell? ⟨fb, k, none⟩ = some (.int .i64 x)) ∧ (w'.cell? ⟨br, orr + p, none⟩ = some (.int .i64 y) ∧ w'.cell? ⟨br, orr + p1, none⟩ = some (.int .i64 x)) ∧ w'.cell? ⟨b, off + k * 3, none⟩ = some (.int .i64 fr) ∧ w'.cell? ⟨b, off + k * 3 + 1, none⟩ = some (.int .i64 tq) ∧ w'.cell? ⟨b, off + k * 3 + 2, none⟩ = some (.int .i64 ca)) w7.drew from ⟨⟨⟨n0, n1, n2, n3⟩, hf1⟩, ⟨e0, e1⟩, c0, c1, c2⟩)
      refine Rh.start (S := (fun w' => ((w'.cell? ⟨bn, 0, none⟩ = some (.int .i64 (N : Int)) ∧ w'.cell? ⟨bn, 1, none⟩ = some (.int .i64 (S : Int)) ∧ w'.cell? ⟨bn, 2, none⟩ = some (.int .i64 (D : Int)) ∧ w'.cell? ⟨bn, 3, none⟩ = some (.slice (some ⟨b, off, none⟩) ml.length cm)) ∧ w'.cell? ⟨fb, k, none⟩ = some (.int .i64 x)) ∧ (w'.cell? ⟨br, orr + p, none⟩ = some (.int .i64 y) ∧ w'.cell? ⟨br, orr + p1, none⟩ = some (.int .i64 x)) ∧ w'.cell? ⟨b, off + k * 3, none⟩ = some (.int .i64 fr) ∧ w'.cell? ⟨b, off + k * 3 + 1, none⟩ = some (.int .i64 tq) ∧ w'.cell? ⟨b, off + k * 3 + 2, none⟩ = some (.int .i64 ca))) (by kernel_rfl) ?_
      refine Rh.take (some 77) (i := 0) (v := ?_) rfl (by kernel_rfl) (by kernel_rfl) (by kernel_rfl) (by kernel_rfl) (fun _ _ _ h => h) (Or.inl ⟨by rfl, ?_⟩) hS0 ?_
      rotate_left
      · intro w hSw
        go_simp
        try with_reducible rfl
      try simp only [Act.put, List.setIfInBounds_toArray, List.set_cons_zero, List.set_cons_succ]
      refine Rh.take (some 78) (i := 1) (v := ?_) rfl (by kernel_rfl) (by kernel_rfl) (by kernel_rfl) (by kernel_rfl) (fun _ _ _ h => h) (Or.inl ⟨by rfl, ?_⟩) hS0 ?_
      rotate_left
      · intro w hSw
        go_simp
        try with_reducible rfl
      try simp only [Act.put, List.setIfInBounds_toArray, List.set_cons_zero, List.set_cons_succ]
      refine Rh.take (some 79) (i := 2) (v := ?_) rfl (by kernel_rfl) (by kernel_rfl) (by kernel_rfl) (by kernel_rfl) (fun _ _ _ h => h) (Or.inl ⟨by rfl, ?_⟩) hS0 ?_
      rotate_left
      · intro w hSw
        go_simp
        try with_reducible rfl
      try simp only [Act.put, List.setIfInBounds_toArray, List.set_cons_zero, List.set_cons_succ]
      refine Rh.take (some 80) (i := 3) (v := ?_) rfl (by kernel_rfl) (by kernel_rfl) (by kernel_rfl) (by kernel_rfl) (fun _ _ _ h => h) (Or.inl ⟨by rfl, ?_⟩) hS0 ?_
      rotate_left
      · intro w hSw
        go_simp
        try with_reducible rfl
      try simp only [Act.put, List.setIfInBounds_toArray, List.set_cons_zero, List.set_cons_succ]
      refine Rh.take (some 81) (i := 4) (v := ?_) rfl (by kernel_rfl) (by kernel_rfl) (by kernel_rfl) (by kernel_rfl) (fun _ _ _ h => h) (Or.inl ⟨by rfl, ?_⟩) hS0 ?_
      rotate_left
      · intro w hSw
        go_simp
        try with_reducible rfl
      try simp only [Act.put, List.setIfInBounds_toArray, List.set_cons_zero, List.set_cons_succ]
      refine Rh.take (some 82) (i := 5) (v := ?_) rfl (by kernel_rfl) (by kernel_rfl) (by kernel_rfl) (by kernel_rfl) (fun _ _ _ h => h) (Or.inl ⟨by rfl, ?_⟩) hS0 ?_
      rotate_left
      · intro w hSw
        go_simp
        try with_reducible rfl
      try simp only [Act.put, List.setIfInBounds_toArray, List.set_cons_zero, List.set_cons_succ]
      refine Rh.take (some 83) (i := 6) (v := ?_) rfl (by kernel_rfl) (by kernel_rfl) (by kernel_rfl) (by kernel_rfl) (fun _ _ _ h => h) (Or.inl ⟨by rfl, ?_⟩) hS0 ?_
      rotate_left
      · intro w hSw
        go_simp
        try with_reducible rfl
      try simp only [Act.put, List.setIfInBounds_toArray, List.set_cons_zero, List.set_cons_succ]
      refine Rh.take (some 84) (i := 7) (v := ?_) rfl (by kernel_rfl) (by kernel_rfl) (by kernel_rfl) (by kernel_rfl) (fun _ _ _ h => h) (Or.inl ⟨by rfl, ?_⟩) hS0 ?_
      rotate_left
      · intro w hSw
        go_simp
        try with_reducible rfl
      try simp only [Act.put, List.setIfInBounds_toArray, List.set_cons_zero, List.set_cons_succ]
      refine Rh.take (some 85) (i := 8) (v := ?_) rfl (by kernel_rfl) (by kernel_rfl) (by kernel_rfl) (by kernel_rfl) (fun _ _ _ h => h) (Or.inl ⟨by rfl, ?_⟩) hS0 ?_
      rotate_left
      · intro w hSw
        go_simp
        try with_reducible rfl
      try simp only [Act.put, List.setIfInBounds_toArray, List.set_cons_zero, List.set_cons_succ]
      refine Rh.take (some 86) (i := 9) (v := ?_) rfl (by kernel_rfl) (by kernel_rfl) (by kernel_rfl) (by kernel_rfl) (fun _ _ _ h => h) (Or.inl ⟨by rfl, ?_⟩) hS0 ?_
      rotate_left
      · intro w hSw
        go_simp
        try with_reducible rfl
      try simp only [Act.put, List.setIfInBounds_toArray, List.set_cons_zero, List.set_cons_succ]
      refine Rh.take (some 87) (i := 10) (v := ?_) rfl (by kernel_rfl) (by kernel_rfl) (by kernel_rfl) (by kernel_rfl) (fun _ _ _ h => h) (Or.inl ⟨by rfl, ?_⟩) hS0 ?_
      rotate_left
      · intro w hSw
        go_simp
        try with_reducible rfl
      try simp only [Act.put, List.setIfInBounds_toArray, List.set_cons_zero, List.set_cons_succ]
      refine Rh.take (some 88) (i := 11) (v := ?_) rfl (by kernel_rfl) (by kernel_rfl) (by kernel_rfl) (by kernel_rfl) (fun _ _ _ h => h) (Or.inl ⟨by rfl, ?_⟩) hS0 ?_
      rotate_left
      · intro w hSw
        go_simp
        try with_reducible rfl
      try simp only [Act.put, List.setIfInBounds_toArray, List.set_cons_zero, List.set_cons_succ]
      refine Rh.take (some 89) (i := 12) (v := ?_) rfl (by kernel_rfl) (by kernel_rfl) (by kernel_rfl) (by kernel_rfl) (fun _ _ _ h => h) (Or.inl ⟨by rfl, ?_⟩) hS0 ?_
      rotate_left
      · intro w hSw
        go_simp
        try with_reducible rfl
      try simp only [Act.put, List.setIfInBounds_toArray, List.set_cons_zero, List.set_cons_succ]
      refine Rh.take (some 90) (i := 13) (v := ?_) rfl (by kernel_rfl) (by kernel_rfl) (by kernel_rfl) (by kernel_rfl) (fun _ _ _ h => h) (Or.inl ⟨by rfl, ?_⟩) hS0 ?_
      rotate_left
      · intro w hSw
        go_simp
        try with_reducible rfl
      try simp only [Act.put, List.setIfInBounds_toArray, List.set_cons_zero, List.set_cons_succ]
      refine Rh.take (some 91) (i := 14) (v := ?_) rfl (by kernel_rfl) (by kernel_rfl) (by kernel_rfl) (by kernel_rfl) (fun _ _ _ h => h) (Or.inl ⟨by rfl, ?_⟩) hS0 ?_
      rotate_left
      · intro w hSw
        go_simp
        try with_reducible rfl
      try simp only [Act.put, List.setIfInBounds_toArray, List.set_cons_zero, List.set_cons_succ]
      refine Rh.take (some 92) (i := 15) (v := ?_) rfl (by kernel_rfl) (by kernel_rfl) (by kernel_rfl) (by kernel_rfl) (fun _ _ _ h => h) (Or.inl ⟨by rfl, ?_⟩) hS0 ?_
      rotate_left
      · intro w hSw
        go_simp
        try with_reducible rfl
      try simp only [Act.put, List.setIfInBounds_toArray, List.set_cons_zero, List.set_cons_succ]
      refine Rh.take (some 93) (i := 16) (v := ?_) rfl (by kernel_rfl) (by kernel_rfl) (by kernel_rfl) (by kernel_rfl) (fun _ _ _ h => h) (Or.inl ⟨by rfl, ?_⟩) hS0 ?_
      rotate_left
      · intro w hSw
        go_simp
        try with_reducible rfl
      try simp only [Act.put, List.setIfInBounds_toArray, List.set_cons_zero, List.set_cons_succ]
      refine Rh.take (some 94) (i := 17) (v := ?_) rfl (by kernel_rfl) (by kernel_rfl) (by kernel_rfl) (by kernel_rfl) (fun _ _ _ h => h) (Or.inl ⟨by rfl, ?_⟩) hS0 ?_
      rotate_left
      · intro w hSw
        go_simp
        try with_reducible rfl
      try simp only [Act.put, List.setIfInBounds_toArray, List.set_cons_zero, List.set_cons_succ]
      refine Rh.take (some 95) (i := 18) (v := ?_) rfl (by kernel_rfl) (by kernel_rfl) (by kernel_rfl) (by kernel_rfl) (fun _ _ _ h => h) (Or.inl ⟨by rfl, ?_⟩) hS0 ?_
      rotate_left
      · intro w hSw
        go_simp
        try with_reducible rfl
      try simp only [Act.put, List.setIfInBounds_toArray, List.set_cons_zero, List.set_cons_succ]
      refine Rh.take (some 96) (i := 19) (v := ?_) rfl (by kernel_rfl) (by kernel_rfl) (by kernel_rfl) (by kernel_rfl) (fun _ _ _ h => h) (Or.inl ⟨by rfl, ?_⟩) hS0 ?_
      rotate_left
      · intro w hSw
        go_simp
        try with_reducible rfl
      try simp only [Act.put, List.setIfInBounds_toArray, List.set_cons_zero, List.set_cons_succ]
      refine Rh.take (some 97) (i := 20) (v := ?_) rfl (by kernel_rfl) (by kernel_rfl) (by kernel_rfl) (by kernel_rfl) (fun _ _ _ h => h) (Or.inl ⟨by rfl, ?_⟩) hS0 ?_
      rotate_left
      · intro w hSw
        go_simp
        try with_reducible rfl
      try simp only [Act.put, List.setIfInBounds_toArray, List.set_cons_zero, List.set_cons_succ]
      refine Rh.take (some 98) (i := 21) (v := ?_) rfl (by kernel_rfl) (by kernel_rfl) (by kernel_rfl) (by kernel_rfl) (fun _ _ _ h => h) (Or.inl ⟨by rfl, ?_⟩) hS0 ?_
      rotate_left
      · intro w hSw
        go_simp
        try with_reducible rfl
      try simp only [Act.put, List.setIfInBounds_toArray, List.set_cons_zero, List.set_cons_succ]
      refine Rh.take (some 99) (i := 22) (v := ?_) rfl (by kernel_rfl) (by kernel_rfl) (by kernel_rfl) (by kernel_rfl) (fun _ _ _ h => h) (Or.inl ⟨by rfl, ?_⟩) hS0 ?_
      rotate_left
      · intro w hSw
        go_simp
        try with_reducible rfl
      try simp only [Act.put, List.setIfInBounds_toArray, List.set_cons_zero, List.set_cons_succ]
      refine Rh.take (some 100) (i := 23) (v := ?_) rfl (by kernel_rfl) (by kernel_rfl) (by kernel_rfl) (by kernel_rfl) (fun _ _ _ h => h) (Or.inl ⟨by rfl, ?_⟩) hS0 ?_
      rotate_left
      · intro w hSw
        go_simp
        try with_reducible rfl
      try simp only [Act.put, List.setIfInBounds_toArray, List.set_cons_zero, List.set_cons_succ]
      refine Rh.take (some 101) (i := 24) (v := ?_) rfl (by kernel_rfl) (by kernel_rfl) (by kernel_rfl) (by kernel_rfl) (fun _ _ _ h => h) (Or.inl ⟨by rfl, ?_⟩) hS0 ?_
      rotate_left
      · intro w hSw
        go_simp
        try with_reducible rfl
      try simp only [Act.put, List.setIfInBounds_toArray, List.set_cons_zero, List.set_cons_succ]
      refine Rh.take (some 102) (i := 25) (v := ?_) rfl (by kernel_rfl) (by kernel_rfl) (by kernel_rfl) (by kernel_rfl) (fun _ _ _ h => h) (Or.inl ⟨by rfl, ?_⟩) hS0 ?_
      rotate_left
      · intro w hSw
        go_simp
        try with_reducible rfl
      try simp only [Act.put, List.setIfInBounds_toArray, List.set_cons_zero, List.set_cons_succ]
      refine Rh.take (some 103) (i := 26) (v := ?_) rfl (by kernel_rfl) (by kernel_rfl) (by kernel_rfl) (by kernel_rfl) (fun _ _ _ h => h) (Or.inl ⟨by rfl, ?_⟩) hS0 ?_
      rotate_left
      · intro w hSw
        go_simp
        try with_reducible rfl
      try simp only [Act.put, List.setIfInBounds_toArray, List.set_cons_zero, List.set_cons_succ]
      refine Rh.take (some 104) (i := 27) (v := ?_) rfl (by kernel_rfl) (by kernel_rfl) (by kernel_rfl) (by kernel_rfl) (fun _ _ _ h => h) (Or.inl ⟨by rfl, ?_⟩) hS0 ?_
      rotate_left
      · intro w hSw
        go_simp
        try with_reducible rfl
      try simp only [Act.put, List.setIfInBounds_toArray, List.set_cons_zero, List.set_cons_succ]
      refine Rh.take (some 105) (i := 28) (v := ?_) rfl (by kernel_rfl) (by kernel_rfl) (by kernel_rfl) (by kernel_rfl) (fun _ _ _ h => h) (Or.inl ⟨by rfl, ?_⟩) hS0 ?_
      rotate_left
      · intro w hSw
        go_simp
        try with_reducible rfl
      try simp only [Act.put, List.setIfInBounds_toArray, List.set_cons_zero, List.set_cons_succ]
      refine Rh.take (some 106) (i := 29) (v := ?_) rfl (by kernel_rfl) (by kernel_rfl) (by kernel_rfl) (by kernel_rfl) (fun _ _ _ h => h) (Or.inl ⟨by rfl, ?_⟩) hS0 ?_
      rotate_left
      · intro w hSw
        go_simp
        try with_reducible rfl
      try simp only [Act.put, List.setIfInBounds_toArray, List.set_cons_zero, List.set_cons_succ]
      refine Rh.take (some 107) (i := 30) (v := ?_) rfl (by kernel_rfl) (by kernel_rfl) (by kernel_rfl) (by kernel_rfl) (fun _ _ _ h => h) (Or.inl ⟨by rfl, ?_⟩) hS0 ?_
      rotate_left
      · intro w hSw
        go_simp
        try with_reducible rfl
      try simp only [Act.put, List.setIfInBounds_toArray, List.set_cons_zero, List.set_cons_succ]
      refine Rh.take (some 108) (i := 31) (v := ?_) rfl (by kernel_rfl) (by kernel_rfl) (by kernel_rfl) (by kernel_rfl) (fun _ _ _ h => h) (Or.inl ⟨by rfl, ?_⟩) hS0 ?_
      rotate_left
      · intro w hSw
        go_simp
        try with_reducible rfl
      try simp only [Act.put, List.setIfInBounds_toArray, List.set_cons_zero, List.set_cons_succ]
      refine Rh.take (some 109) (i := 32) (v := ?_) rfl (by kernel_rfl) (by kernel_rfl) (by kernel_rfl) (by kernel_rfl) (fun _ _ _ h => h) (Or.inl ⟨by rfl, ?_⟩) hS0 ?_
      rotate_left
      · intro w hSw
        go_simp
        try with_reducible rfl
      try simp only [Act.put, List.setIfInBounds_toArray, List.set_cons_zero, List.set_cons_succ]
      refine Rh.take (some 110) (i := 33) (v := ?_) rfl (by kernel_rfl) (by kernel_rfl) (by kernel_rfl) (by kernel_rfl) (fun _ _ _ h => h) (Or.inl ⟨by rfl, ?_⟩) hS0 ?_
      rotate_left
      · intro w hSw
        go_simp
        try with_reducible rfl
      try simp only [Act.put, List.setIfInBounds_toArray, List.set_cons_zero, List.set_cons_succ]
      refine Rh.take (some 111) (i := 34) (v := ?_) rfl (by kernel_rfl) (by kernel_rfl) (by kernel_rfl) (by kernel_rfl) (fun _ _ _ h => h) (Or.inl ⟨by rfl, ?_⟩) hS0 ?_
      rotate_left
      · intro w hSw
        go_simp
        try with_reducible rfl
      try simp only [Act.put, List.setIfInBounds_toArray, List.set_cons_zero, List.set_cons_succ]
      refine Rh.take (some 112) (i := 35) (v := ?_) rfl (by kernel_rfl) (by kernel_rfl) (by kernel_rfl) (by kernel_rfl) (fun _ _ _ h => h) (Or.inl ⟨by rfl, ?_⟩) hS0 ?_
      rotate_left
      · intro w hSw
        go_simp
        try with_reducible rfl
      try simp only [Act.put, List.setIfInBounds_toArray, List.set_cons_zero, List.set_cons_succ]
      refine Rh.take (some 113) (i := 36) (v := ?_) rfl (by kernel_rfl) (by kernel_rfl) (by kernel_rfl) (by kernel_rfl) (fun _ _ _ h => h) (Or.inl ⟨by rfl, ?_⟩) hS0 ?_
      rotate_left
      · intro w hSw
        go_simp
        try with_reducible rfl
      try simp only [Act.put, List.setIfInBounds_toArray, List.set_cons_zero, List.set_cons_succ]
      refine Rh.take (some 114) (i := 37) (v := ?_) rfl (by kernel_rfl) (by kernel_rfl) (by kernel_rfl) (by kernel_rfl) (fun _ _ _ h => h) (Or.inl ⟨by rfl, ?_⟩) hS0 ?_
      rotate_left
      · intro w hSw
        go_simp
        try with_reducible rfl
      try simp only [Act.put, List.setIfInBounds_toArray, List.set_cons_zero, List.set_cons_succ]
      refine Rh.take (some 115) (i := 38) (v := ?_) rfl (by kernel_rfl) (by kernel_rfl) (by kernel_rfl) (by kernel_rfl) (fun _ _ _ h => h) (Or.inl ⟨by rfl, ?_⟩) hS0 ?_
      rotate_left
      · intro w hSw
        go_simp
        try with_reducible rfl
      try simp only [Act.put, List.setIfInBounds_toArray, List.set_cons_zero, List.set_cons_succ]
      refine Rh.take (some 116) (i := 39) (v := ?_) rfl (by kernel_rfl) (by kernel_rfl) (by kernel_rfl) (by kernel_rfl) (fun _ _ _ h => h) (Or.inl ⟨by rfl, ?_⟩) hS0 ?_
      rotate_left
      · intro w hSw
        go_simp
        try with_reducible rfl
      try simp only [Act.put, List.setIfInBounds_toArray, List.set_cons_zero, List.set_cons_succ]
      refine Rh.take (some 117) (i := 40) (v := ?_) rfl (by kernel_rfl) (by kernel_rfl) (by kernel_rfl) (by kernel_rfl) (fun _ _ _ h => h) (Or.inl ⟨by rfl, ?_⟩) hS0 ?_
      rotate_left
      · intro w hSw
        go_simp
        try with_reducible rfl
      try simp only [Act.put, List.setIfInBounds_toArray, List.set_cons_zero, List.set_cons_succ]
      refine Rh.take (some 118) (i := 41) (v := ?_) rfl (by kernel_rfl) (by kernel_rfl) (by kernel_rfl) (by kernel_rfl) (fun _ _ _ h => h) (Or.inl ⟨by rfl, ?_⟩) hS0 ?_
      rotate_left
      · intro w hSw
        go_simp
        try with_reducible rfl
      try simp only [Act.put, List.setIfInBounds_toArray, List.set_cons_zero, List.set_cons_succ]
      refine Rh.take (some 119) (i := 42) (v := ?_) rfl (by kernel_rfl) (by kernel_rfl) (by kernel_rfl) (by kernel_rfl) (fun _ _ _ h => h) (Or.inl ⟨by rfl, ?_⟩) hS0 ?_
      rotate_left
      · intro w hSw
        go_simp
        try with_reducible rfl
      try simp only [Act.put, List.setIfInBounds_toArray, List.set_cons_zero, List.set_cons_succ]
      refine Rh.take (some 120) (i := 43) (v := ?_) rfl (by kernel_rfl) (by kernel_rfl) (by kernel_rfl) (by kernel_rfl) (fun _ _ _ h => h) (Or.inl ⟨by rfl, ?_⟩) hS0 ?_
      rotate_left
      · intro w hSw
        go_simp
        try with_reducible rfl
      try simp only [Act.put, List.setIfInBounds_toArray, List.set_cons_zero, List.set_cons_succ]
      refine Rh.take (some 121) (i := 44) (v := ?_) rfl (by kernel_rfl) (by kernel_rfl) (by kernel_rfl) (by kernel_rfl) (fun _ _ _ h => h) (Or.inl ⟨by rfl, ?_⟩) hS0 ?_
      rotate_left
      · intro w hSw
        go_simp
        try with_reducible rfl
      try simp only [Act.put, List.setIfInBounds_toArray, List.set_cons_zero, List.set_cons_succ]
      refine Rh.take (some 122) (i := 45) (v := ?_) rfl (by kernel_rfl) (by kernel_rfl) (by kernel_rfl) (by kernel_rfl) (fun _ _ _ h => h) (Or.inl ⟨by rfl, ?_⟩) hS0 ?_
      rotate_left
      · intro w hSw
        go_simp
        try with_reducible rfl
      try simp only [Act.put, List.setIfInBounds_toArray, List.set_cons_zero, List.set_cons_succ]
      refine Rh.take (some 123) (i := 46) (v := ?_) rfl (by kernel_rfl) (by kernel_rfl) (by kernel_rfl) (by kernel_rfl) (fun _ _ _ h => h) (Or.inl ⟨by rfl, ?_⟩) hS0 ?_
      rotate_left
      · intro w hSw
        go_simp
        try with_reducible rfl
      try simp only [Act.put, List.setIfInBounds_toArray, List.set_cons_zero, List.set_cons_succ]
      refine Rh.take (some 124) (i := 47) (v := ?_) rfl (by kernel_rfl) (by kernel_rfl) (by kernel_rfl) (by kernel_rfl) (fun _ _ _ h => h) (Or.inl ⟨by rfl, ?_⟩) hS0 ?_
      rotate_left
      · intro w hSw
        go_simp
        try with_reducible rfl
      try simp only [Act.put, List.setIfInBounds_toArray, List.set_cons_zero, List.set_cons_succ]
      refine Rh.take (some 125) (i := 48) (v := ?_) rfl (by kernel_rfl) (by kernel_rfl) (by kernel_rfl) (by kernel_rfl) (fun _ _ _ h => h) (Or.inl ⟨by rfl, ?_⟩) hS0 ?_
      rotate_left
      · intro w hSw
        go_simp
        try with_reducible rfl
      try simp only [Act.put, List.setIfInBounds_toArray, List.set_cons_zero, List.set_cons_succ]
      refine Rh.take (some 126) (i := 49) (v := ?_) rfl (by kernel_rfl) (by kernel_rfl) (by kernel_rfl) (by kernel_rfl) (fun _ _ _ h => h) (Or.inl ⟨by rfl, ?_⟩) hS0 ?_
      rotate_left
      · intro w hSw
        go_simp
        try with_reducible rfl
      try simp only [Act.put, List.setIfInBounds_toArray, List.set_cons_zero, List.set_cons_succ]
      refine Rh.take (some 127) (i := 50) (v := ?_) rfl (by kernel_rfl) (by kernel_rfl) (by kernel_rfl) (by kernel_rfl) (fun _ _ _ h => h) (Or.inl ⟨by rfl, ?_⟩) hS0 ?_
      rotate_left
      · intro w hSw
        go_simp
        try with_reducible rfl
      try simp only [Act.put, List.setIfInBounds_toArray, List.set_cons_zero, List.set_cons_succ]
      refine Rh.take (some 128) (i := 51) (v := ?_) rfl (by kernel_rfl) (by kernel_rfl) (by kernel_rfl) (by kernel_rfl) (fun _ _ _ h => h) (Or.inl ⟨by rfl, ?_⟩) hS0 ?_
      rotate_left
      · intro w hSw
        go_simp
        try with_reducible rfl
      try simp only [Act.put, List.setIfInBounds_toArray, List.set_cons_zero, List.set_cons_succ]
      refine Rh.take (some 129) (i := 52) (v := ?_) rfl (by kernel_rfl) (by kernel_rfl) (by kernel_rfl) (by kernel_rfl) (fun _ _ _ h => h) (Or.inl ⟨by rfl, ?_⟩) hS0 ?_
      rotate_left
      · intro w hSw
        go_simp
        try with_reducible rfl
      try simp only [Act.put, List.setIfInBounds_toArray, List.set_cons_zero, List.set_cons_succ]
      refine Rh.take (some 130) (i := 53) (v := ?_) rfl (by kernel_rfl) (by kernel_rfl) (by kernel_rfl) (by kernel_rfl) (fun _ _ _ h => h) (Or.inl ⟨by rfl, ?_⟩) hS0 ?_
      rotate_left
      · intro w hSw
        go_simp
        try with_reducible rfl
      try simp only [Act.put, List.setIfInBounds_toArray, List.set_cons_zero, List.set_cons_succ]
      refine Rh.take (some 131) (i := 54) (v := ?_) rfl (by kernel_rfl) (by kernel_rfl) (by kernel_rfl) (by kernel_rfl) (fun _ _ _ h => h) (Or.inl ⟨by rfl, ?_⟩) hS0 ?_
      rotate_left
      · intro w hSw
        go_simp
        try with_reducible rfl
      try simp only [Act.put, List.setIfInBounds_toArray, List.set_cons_zero, List.set_cons_succ]
      refine Rh.take (some 132) (i := 55) (v := ?_) rfl (by kernel_rfl) (by kernel_rfl) (by kernel_rfl) (by kernel_rfl) (fun _ _ _ h => h) (Or.inl ⟨by rfl, ?_⟩) hS0 ?_
      rotate_left
      · intro w hSw
        go_simp
        try with_reducible rfl
      try simp only [Act.put, List.setIfInBounds_toArray, List.set_cons_zero, List.set_cons_succ]
      refine Rh.take (some 133) (i := 56) (v := ?_) rfl (by kernel_rfl) (by kernel_rfl) (by kernel_rfl) (by kernel_rfl) (fun _ _ _ h => h) (Or.inl ⟨by rfl, ?_⟩) hS0 ?_
      rotate_left
      · intro w hSw
        go_simp
        try with_reducible rfl
      try simp only [Act.put, List.setIfInBounds_toArray, List.set_cons_zero, List.set_cons_succ]
      refine Rh.take (some 134) (i := 57) (v := ?_) rfl (by kernel_rfl) (by kernel_rfl) (by kernel_rfl) (by kernel_rfl) (fun _ _ _ h => h) (Or.inl ⟨by rfl, ?_⟩) hS0 ?_
      rotate_left
      · intro w hSw
        go_simp
        try with_reducible rfl
      try simp only [Act.put, List.setIfInBounds_toArray, List.set_cons_zero, List.set_cons_succ]
      refine Rh.take (some 135) (i := 58) (v := ?_) rfl (by kernel_rfl) (by kernel_rfl) (by kernel_rfl) (by kernel_rfl) (fun _ _ _ h => h) (Or.inl ⟨by rfl, ?_⟩) hS0 ?_
      rotate_left
      · intro w hSw
        go_simp
        try with_reducible rfl
      try simp only [Act.put, List.setIfInBounds_toArray, List.set_cons_zero, List.set_cons_succ]
      refine Rh.take (some 136) (i := 59) (v := ?_) rfl (by kernel_rfl) (by kernel_rfl) (by kernel_rfl) (by kernel_rfl) (fun _ _ _ h => h) (Or.inl ⟨by rfl, ?_⟩) hS0 ?_
      rotate_left
      · intro w hSw
        go_simp
        try with_reducible rfl
      try simp only [Act.put, List.setIfInBounds_toArray, List.set_cons_zero, List.set_cons_succ]
      refine Rh.take (some 137) (i := 60) (v := ?_) rfl (by kernel_rfl) (by kernel_rfl) (by kernel_rfl) (by kernel_rfl) (fun _ _ _ h => h) (Or.inl ⟨by rfl, ?_⟩) hS0 ?_
      rotate_left
      · intro w hSw
        go_simp
        try with_reducible rfl
      try simp only [Act.put, List.setIfInBounds_toArray, List.set_cons_zero, List.set_cons_succ]
      refine Rh.take (some 138) (i := 61) (v := ?_) rfl (by kernel_rfl) (by kernel_rfl) (by kernel_rfl) (by kernel_rfl) (fun _ _ _ h => h) (Or.inl ⟨by rfl, ?_⟩) hS0 ?_
      rotate_left
      · intro w hSw
        go_simp
        try with_reducible rfl
      try simp only [Act.put, List.setIfInBounds_toArray, List.set_cons_zero, List.set_cons_succ]
      refine Rh.done (by kernel_rfl) ?_ _
      clear hx1 hx2 hx7 hx8 hsum
      go_wp2
      go_roundg (ml.length - (k + 1))
      case measure => omega
      case rel => exact ⟨k + 1, by go_num, by omega, Lib.hid (Ne.below_drew HB7.out)⟩
    have ek : k = ml.length := by omega
    subst ek
    have HB8 := Lib.hid (HB5.out.trans (HBW.out.mono HB5.out.size))
    clear HE0 HE1 HRE HRD HAB HCP HCP0 HWI
    have HQ0 := Lib.hid (HBW.out.alloc HBW.out.size (.cells (madeCells #[.bool false] (2 * ml.length)) 4))
    have HM0 := Lib.hid (Ne.bbox_made wr (2 * ml.length) (b := wr.heap.size) rfl)
    have hwr := HBW.out.size
    go_wp2
    clear n0 n1 n2 n3 hmk
    obtain ⟨bm, hbm⟩ : ∃ b, b = wr.heap.size := ⟨_, rfl⟩
    rw [← hbm] at HM0 hwr ⊢
    have HQM := Lib.hid (show Below bm wr (wr.alloc (.cells (madeCells #[.bool false] (2 * ml.length)) 4)) by rw [hbm]; exact (Below.refl _ _).alloc (Nat.le_refl _) _)
    clear hbm
    generalize (wr.alloc (.cells (madeCells #[.bool false] (2 * ml.length)) 4)) = W9 at *
    go_loopg [20, 21] N (fun g s i wy => ∃ (v q : Nat) (M : List Bool), s = .int .i64 q ∧ i = .int .i64 v ∧ 1 ≤ v ∧ v + g = N + 1 ∧ Hid (Ne.Marked ml (v : Int) [] M) ∧ Hid (q + Ne.unmet M = 2 * ml.length) ∧ Hid (Ne.BBox wy bm M) ∧ Hid (Below w5.heap.size w5 wy))
    case atStart => exact ⟨1, 0, _, rfl, rfl, Nat.le_refl _, by omega, HMS, Lib.hid (by rw [Ne.unmet_repl]; omega), HM0, HQ0⟩
    case round =>
      obtain ⟨v, q, M, rfl, rfl, hv1, hvg, HMK, HQU, HMB, HQ⟩ := hrel
      obtain ⟨n0, n1, n2, n3⟩ := Ne.netBox_cells (Ne.netBox_below HN5.out HQ.out (Ne.netBox_lt HN5.out))
      by_cases hvn : v < N + 1
      · have hvi : (v : Int) ≤ (N : Int) := by omega
        have FRV := Lib.hid (FR.out (v : Int))
        have HTL := Lib.hid (HFL2.out (v : Int))
        have hq0 := HQU.out
        go_wp2_with fail
        refine (FRV.out _ (HR5.out.kept HQ.out)).mono ?_
        rintro e w10 ⟨bt0, ct, rfl, hft, hbb, hb⟩
        have HBNE := Lib.hid (show ∀ b off, bt0 = some ⟨b, off, none⟩ → bm ≠ b from fun b off e => by have := hbb b off e; have := HMB.out.lt; omega)
        clear hbb
        have HFT := Lib.hid hft
        have HQ10 := Lib.hid (HQ.out.trans (hb.mono HQ.out.size))
        have HMB10 := Lib.hid (HMB.out.kept hb)
        clear hb hft n0 n1 n2 n3
        obtain ⟨TL, hTL⟩ : ∃ TL, TL = Ne.fromL ml (v : Int) (2 * ml.length) := ⟨_, rfl⟩
        have HTE := Lib.hid hTL
        rw [← hTL] at HFT HTL ⊢
        clear hTL
        have hTL2 := HTL.out
        go_wp2
        go_loopg [20, 23] TL.length (fun g s i wz => ∃ (j q : Nat) (M : List Bool), s = .int .i64 q ∧ i = .int .i64 j ∧ j + g = TL.length ∧ Hid (Ne.Marked ml (v : Int) (TL.take j) M) ∧ Hid (q + Ne.unmet M = 2 * ml.length) ∧ Hid (Ne.BBox wz bm M) ∧ Hid (Below w5.heap.size w5 wz) ∧ Hid (Ne.IRow wz bt0 (Ne.encW TL)))
        case atStart => exact ⟨0, q, M, rfl, rfl, by omega, HMK, HQU, HMB10, HQ10, HFT⟩
        case round =>
          obtain ⟨i, q2, M2, rfl, rfl, hig, HMK2, HQU2, HMB2, HQ5, HFT2⟩ := hrel
          have hbl := Ne.netBox_lt (Ne.netBox_below HN5.out HQ5.out (Ne.netBox_lt HN5.out))
          obtain ⟨n0, n1, n2, n3⟩ := Ne.netBox_cells (Ne.netBox_below HN5.out HQ5.out (Ne.netBox_lt HN5.out))
          by_cases hil : i < TL.length
          · obtain ⟨bt, ot, rfl, hbt, d0⟩ := Ne.irow_cell HFT2.out (i := i) (by rw [Ne.encW_len]; exact hil)
            rw [Ne.encW_at hil] at d0
            have hbtl := hbt
            have hrT := Ne.getD_mem hil
            have HSTEP := Lib.hid (HMT.out (v : Int) M2 i (by rw [← HTE.out]; exact HMK2.out) (by rw [← HTE.out]; exact hil))
            rw [← HTE.out] at HSTEP
            have HUP1 := Lib.hid (show ∀ i', i = i' + 1 → TL.getD i' 0 < TL.getD i 0 from fun i' e => by rw [HTE.out]; exact HUP.out (v : Int) i' i (by omega) (by rw [← HTE.out]; exact hil))
            have hmr := HMEM.out (v : Int) (TL.getD i 0) (by rw [← HTE.out]; exact hrT)
            obtain ⟨r, hr⟩ : ∃ r, TL.getD i 0 = r := ⟨_, rfl⟩
            rw [hr] at d0 HSTEP HUP1 hmr
            clear hr hrT
            obtain ⟨hr2, hrv⟩ := hmr
            have EN := Lib.hid (HEN.out r hr2)
            (try simp only at EN)
            rw [hrv] at EN
            clear hrv
            obtain ⟨hs1, hs2, hs3⟩ := HSTEP.out
            have HS2 := Lib.hid hs2
            have HS3 := Lib.hid hs3
            have HS1 := Lib.hid hs1
            clear hs1 hs2 hs3
            have hii : (i : Int) < (TL.length : Int) := by omega
            have hi0 : (0 : Int) ≤ (i : Int) := by omega
            generalize Ne.trT ml r = tt at *
            go_wp2
            have hS0 := (show (fun w' => (w'.cell? ⟨bn, 0, none⟩ = some (.int .i64 (N : Int)) ∧ w'.cell? ⟨bn, 1, none⟩ = some (.int .i64 (S : Int)) ∧ w'.cell? ⟨bn, 2, none⟩ = some (.int .i64 (D : Int)) ∧ w'.cell? ⟨bn, 3, none⟩ = some (.slice om ml.length cm)) ∧ w'.cell? ⟨bt, ot + i, none⟩ = some (.int .i64 (r : Int))) wr.drew from ⟨⟨n0, n1, n2, n3⟩, d0⟩)
            refine Rh.start (S := (fun w' => (w'.cell? ⟨bn, 0, none⟩ = some (.int .i64 (N : Int)) ∧ w'.cell? ⟨bn, 1, none⟩ = some (.int .i64 (S : Int)) ∧ w'.cell? ⟨bn, 2, none⟩ = some (.int .i64 (D : Int)) ∧ w'.cell? ⟨bn, 3, none⟩ = some (.slice om ml.length cm)) ∧ w'.cell? ⟨bt, ot + i, none⟩ = some (.int .i64 (r : Int)))) (by kernel_rfl) ?_
            refine Rh.take (some 158) (i := 0) (v := ?_) rfl (by kernel_rfl) (by kernel_rfl) (by kernel_rfl) (by kernel_rfl) (fun _ _ _ h => h) (Or.inl ⟨by rfl, ?_⟩) hS0 ?_
            rotate_left
            · intro w hSw
              go_simp
              try with_reducible rfl
            try simp only [Act.put, List.setIfInBounds_toArray, List.set_cons_zero, List.set_cons_succ]
            refine Rh.take (some 159) (i := 1) (v := ?_) rfl (by kernel_rfl) (by kernel_rfl) (by kernel_rfl) (by kernel_rfl) (fun _ _ _ h => h) (Or.inl ⟨by rfl, ?_⟩) hS0 ?_
            rotate_left
            · intro w hSw
              go_simp
              try with_reducible rfl
            try simp only [Act.put, List.setIfInBounds_toArray, List.set_cons_zero, List.set_cons_succ]
            refine Rh.take (some 160) (i := 2) (v := ?_) rfl (by kernel_rfl) (by kernel_rfl) (by kernel_rfl) (by kernel_rfl) (fun _ _ _ h => h) (Or.inl ⟨by rfl, ?_⟩) hS0 ?_
            rotate_left
            · intro w hSw
              go_simp
              try with_reducible rfl
            try simp only [Act.put, List.setIfInBounds_toArray, List.set_cons_zero, List.set_cons_succ]
            refine Rh.take (some 161) (i := 3) (v := ?_) rfl (by kernel_rfl) (by kernel_rfl) (by kernel_rfl) (by kernel_rfl) (fun _ _ _ h => h) (Or.inl ⟨by rfl, ?_⟩) hS0 ?_
            rotate_left
            · intro w hSw
              go_simp
              try with_reducible rfl
            try simp only [Act.put, List.setIfInBounds_toArray, List.set_cons_zero, List.set_cons_succ]
            refine Rh.take (some 162) (i := 4) (v := ?_) rfl (by kernel_rfl) (by kernel_rfl) (by kernel_rfl) (by kernel_rfl) (fun _ _ _ h => h) (Or.inl ⟨by rfl, ?_⟩) hS0 ?_
            rotate_left
            · intro w hSw
              go_simp
              try with_reducible rfl
            try simp only [Act.put, List.setIfInBounds_toArray, List.set_cons_zero, List.set_cons_succ]
            refine Rh.step (i := 5) (by kernel_rfl) rfl fun K' hK' => ?_
            have HK := Lib.hid hK'
            clear hK'
            go_simp
            refine (EN.out wr.drew (HR5.out.kept (Ne.below_drew HQ5.out))).mono ?_
            rintro e w12 ⟨rfl, hb⟩
            have hS1 := (show (fun w' => (w'.cell? ⟨bn, 0, none⟩ = some (.int .i64 (N : Int)) ∧ w'.cell? ⟨bn, 1, none⟩ = some (.int .i64 (S : Int)) ∧ w'.cell? ⟨bn, 2, none⟩ = some (.int .i64 (D : Int)) ∧ w'.cell? ⟨bn, 3, none⟩ = some (.slice om ml.length cm)) ∧ w'.cell? ⟨bt, ot + i, none⟩ = some (.int .i64 (r : Int))) w12 from ⟨⟨(hb.cell (p := ⟨bn, 0, none⟩) hbl).trans n0, (hb.cell (p := ⟨bn, 1, none⟩) hbl).trans n1, (hb.cell (p := ⟨bn, 2, none⟩) hbl).trans n2, (hb.cell (p := ⟨bn, 3, none⟩) hbl).trans n3⟩, (hb.cell (p := ⟨bt, ot + i, none⟩) hbtl).trans d0⟩)
            refine HK.out _ _ ⟨hS1, ?_⟩
            clear HK K'
            try simp only [Act.put, List.setIfInBounds_toArray, List.set_cons_zero, List.set_cons_succ]
            refine Rh.take (some 157) (i := 6) (v := ?_) rfl (by kernel_rfl) (by kernel_rfl) (by kernel_rfl) (by kernel_rfl) (fun _ _ _ h => h) (Or.inl ⟨by rfl, ?_⟩) hS1 ?_
            rotate_left
            · intro w hSw
              go_simp
              try with_reducible rfl
            try simp only [Act.put, List.setIfInBounds_toArray, List.set_cons_zero, List.set_cons_succ]
            refine Rh.take (some 164) (i := 7) (v := ?_) rfl (by kernel_rfl) (by kernel_rfl) (by kernel_rfl) (by kernel_rfl) (fun _ _ _ h => h) (Or.inl ⟨by rfl, ?_⟩) hS1 ?_
            rotate_left
            · intro w hSw
              go_simp
              try with_reducible rfl
            try simp only [Act.put, List.setIfInBounds_toArray, List.set_cons_zero, List.set_cons_succ]
            refine Rh.take (some 165) (i := 8) (v := ?_) rfl (by kernel_rfl) (by kernel_rfl) (by kernel_rfl) (by kernel_rfl) (fun _ _ _ h => h) (Or.inl ⟨by rfl, ?_⟩) hS1 ?_
            rotate_left
            · intro w hSw
              go_simp
              try with_reducible rfl
            try simp only [Act.put, List.setIfInBounds_toArray, List.set_cons_zero, List.set_cons_succ]
            refine Rh.take (some 24) (i := 9) (v := ?_) rfl (by kernel_rfl) (by kernel_rfl) (by kernel_rfl) (by kernel_rfl) (fun _ _ _ h => h) (Or.inl ⟨by rfl, ?_⟩) hS1 ?_
            rotate_left
            · intro w hSw
              go_simp
              try with_reducible rfl
            try simp only [Act.put, List.setIfInBounds_toArray, List.set_cons_zero, List.set_cons_succ]
            refine Rh.take (some 25) (i := 10) (v := ?_) rfl (by kernel_rfl) (by kernel_rfl) (by kernel_rfl) (by kernel_rfl) (fun _ _ _ h => h) (Or.inl ⟨by rfl, ?_⟩) hS1 ?_
            rotate_left
            · intro w hSw
              go_simp
              try with_reducible rfl
            try simp only [Act.put, List.setIfInBounds_toArray, List.set_cons_zero, List.set_cons_succ]
            refine Rh.done (by kernel_rfl) ?_ _
            obtain ⟨-, d1⟩ := hS1
            have HQ12 := Lib.hid ((Ne.below_drew HQ5.out).trans (hb.mono HQ5.out.size))
            have HMB12 := Lib.hid (Ne.BBox.kept (w := wr.drew) HMB2.out hb)
            have HFT12 := Lib.hid (Rw.Row.kept (w := wr.drew) (HFT2.out.kept (Ne.below_drewN wr 1)) hb)
            clear hb hS0 n0 n1 n2 n3 d0
            have hri : (r : Int) < 2 * (ml.length : Int) := by omega
            have hr0 : (0 : Int) ≤ (r : Int) := by omega
            have m0 := HMB12.out.cell (i := r) (by rw [HML.out _ _ _ HMK2.out]; exact hr2)
            rw [HS1.out] at m0
            have mf := HMB12.out.frozen r
            have HM14 := Lib.hid (fun nq => Ne.BBox.set (w := w12.drewN nq) HMB12.out (i := r) (by rw [HML.out _ _ _ HMK2.out]; exact hr2) true)
            have hq2 := HQU2.out
            have hq3 := HS3.out
            have HQU3 := Lib.hid (show q2 + 1 + Ne.unmet (M2.set r true) = 2 * ml.length by omega)
            have hq4 : q2 + 1 ≤ 2 * ml.length := by omega
            clear hq2 hq3
            by_cases hiz : i = 0
            · have hgt : decide ((0 : Int) < (i : Int)) = false := decide_eq_false (by omega)
              have hgt2 : decide (0 < i) = false := decide_eq_false (by omega)
              have HIZ := Lib.hid hiz
              clear hiz
              go_wp2
              have hS0 := (show (fun w' => w'.cell? ⟨bt, ot + i, none⟩ = some (.int .i64 (r : Int)) ∧ w'.cell? ⟨bm, r, none⟩ = some (.bool false)) w12.drew from ⟨d1, m0⟩)
              refine Rh.start (S := (fun w' => w'.cell? ⟨bt, ot + i, none⟩ = some (.int .i64 (r : Int)) ∧ w'.cell? ⟨bm, r, none⟩ = some (.bool false))) (by kernel_rfl) ?_
              refine Rh.take (some 166) (i := 0) (v := ?_) rfl (by kernel_rfl) (by kernel_rfl) (by kernel_rfl) (by kernel_rfl) (fun _ _ _ h => h) (Or.inl ⟨by rfl, ?_⟩) hS0 ?_
              rotate_left
              · intro w hSw
                go_simp
                try with_reducible rfl
              try simp only [Act.put, List.setIfInBounds_toArray, List.set_cons_zero, List.set_cons_succ]
              refine Rh.take (some 167) (i := 1) (v := ?_) rfl (by kernel_rfl) (by kernel_rfl) (by kernel_rfl) (by kernel_rfl) (fun _ _ _ h => h) (Or.inl ⟨by rfl, ?_⟩) hS0 ?_
              rotate_left
              · intro w hSw
                go_simp
                try with_reducible rfl
              try simp only [Act.put, List.setIfInBounds_toArray, List.set_cons_zero, List.set_cons_succ]
              refine Rh.take (some 168) (i := 2) (v := ?_) rfl (by kernel_rfl) (by kernel_rfl) (by kernel_rfl) (by kernel_rfl) (fun _ _ _ h => h) (Or.inl ⟨by rfl, ?_⟩) hS0 ?_
              rotate_left
              · intro w hSw
                go_simp
                try with_reducible rfl
              try simp only [Act.put, List.setIfInBounds_toArray, List.set_cons_zero, List.set_cons_succ]
              refine Rh.take (some 169) (i := 3) (v := ?_) rfl (by kernel_rfl) (by kernel_rfl) (by kernel_rfl) (by kernel_rfl) (fun _ _ _ h => h) (Or.inl ⟨by rfl, ?_⟩) hS0 ?_
              rotate_left
              · intro w hSw
                go_simp
                try with_reducible rfl
              try simp only [Act.put, List.setIfInBounds_toArray, List.set_cons_zero, List.set_cons_succ]
              refine Rh.take (some 170) (i := 4) (v := ?_) rfl (by kernel_rfl) (by kernel_rfl) (by kernel_rfl) (by kernel_rfl) (fun _ _ _ h => h) (Or.inl ⟨by rfl, ?_⟩) hS0 ?_
              rotate_left
              · intro w hSw
                go_simp
                try with_reducible rfl
              try simp only [Act.put, List.setIfInBounds_toArray, List.set_cons_zero, List.set_cons_succ]
              refine Rh.take (some 171) (i := 5) (v := ?_) rfl (by kernel_rfl) (by kernel_rfl) (by kernel_rfl) (by kernel_rfl) (fun _ _ _ h => h) (Or.inl ⟨by rfl, ?_⟩) hS0 ?_
              rotate_left
              · intro w hSw
                go_simp
                try with_reducible rfl
              try simp only [Act.put, List.setIfInBounds_toArray, List.set_cons_zero, List.set_cons_succ]
              refine Rh.take (some 172) (i := 6) (v := ?_) rfl (by kernel_rfl) (by kernel_rfl) (by kernel_rfl) (by kernel_rfl) (fun _ _ _ h => h) (Or.inl ⟨by rfl, ?_⟩) hS0 ?_
              rotate_left
              · intro w hSw
                go_simp
                try with_reducible rfl
              try simp only [Act.put, List.setIfInBounds_toArray, List.set_cons_zero, List.set_cons_succ]
              refine Rh.take (some 173) (i := 7) (v := ?_) rfl (by kernel_rfl) (by kernel_rfl) (by kernel_rfl) (by kernel_rfl) (fun _ _ _ h => h) (Or.inl ⟨by rfl, ?_⟩) hS0 ?_
              rotate_left
              · intro w hSw
                go_simp
                try with_reducible rfl
              try simp only [Act.put, List.setIfInBounds_toArray, List.set_cons_zero, List.set_cons_succ]
              refine Rh.take (some 174) (i := 8) (v := ?_) rfl (by kernel_rfl) (by kernel_rfl) (by kernel_rfl) (by kernel_rfl) (fun _ _ _ h => h) (Or.inl ⟨by rfl, ?_⟩) hS0 ?_
              rotate_left
              · intro w hSw
                go_simp
                try with_reducible rfl
              try simp only [Act.put, List.setIfInBounds_toArray, List.set_cons_zero, List.set_cons_succ]
              refine Rh.take (some 175) (i := 9) (v := ?_) rfl (by kernel_rfl) (by kernel_rfl) (by kernel_rfl) (by kernel_rfl) (fun _ _ _ h => h) (Or.inl ⟨by rfl, ?_⟩) hS0 ?_
              rotate_left
              · intro w hSw
                go_simp
                try with_reducible rfl
              try simp only [Act.put, List.setIfInBounds_toArray, List.set_cons_zero, List.set_cons_succ]
              refine Rh.take (some 176) (i := 10) (v := ?_) rfl (by kernel_rfl) (by kernel_rfl) (by kernel_rfl) (by kernel_rfl) (fun _ _ _ h => h) (Or.inl ⟨by rfl, ?_⟩) hS0 ?_
              rotate_left
              · intro w hSw
                go_simp
                try with_reducible rfl
              try simp only [Act.put, List.setIfInBounds_toArray, List.set_cons_zero, List.set_cons_succ]
              refine Rh.take (some 177) (i := 11) (v := ?_) rfl (by kernel_rfl) (by kernel_rfl) (by kernel_rfl) (by kernel_rfl) (fun _ _ _ h => h) (Or.inl ⟨by rfl, ?_⟩) hS0 ?_
              rotate_left
              · intro w hSw
                go_simp
                try with_reducible rfl
              try simp only [Act.put, List.setIfInBounds_toArray, List.set_cons_zero, List.set_cons_succ]
              refine Rh.take (some 178) (i := 12) (v := ?_) rfl (by kernel_rfl) (by kernel_rfl) (by kernel_rfl) (by kernel_rfl) (fun _ _ _ h => h) (Or.inl ⟨by rfl, ?_⟩) hS0 ?_
              rotate_left
              · intro w hSw
                go_simp
                try with_reducible rfl
              try simp only [Act.put, List.setIfInBounds_toArray, List.set_cons_zero, List.set_cons_succ]
              refine Rh.take (some 179) (i := 13) (v := ?_) rfl (by kernel_rfl) (by kernel_rfl) (by kernel_rfl) (by kernel_rfl) (fun _ _ _ h => h) (Or.inl ⟨by rfl, ?_⟩) hS0 ?_
              rotate_left
              · intro w hSw
                go_simp
                try with_reducible rfl
              try simp only [Act.put, List.setIfInBounds_toArray, List.set_cons_zero, List.set_cons_succ]
              refine Rh.take (some 180) (i := 14) (v := ?_) rfl (by kernel_rfl) (by kernel_rfl) (by kernel_rfl) (by kernel_rfl) (fun _ _ _ h => h) (Or.inl ⟨by rfl, ?_⟩) hS0 ?_
              rotate_left
              · intro w hSw
                go_simp
                try with_reducible rfl
              try simp only [Act.put, List.setIfInBounds_toArray, List.set_cons_zero, List.set_cons_succ]
              refine Rh.take (some 181) (i := 15) (v := ?_) rfl (by kernel_rfl) (by kernel_rfl) (by kernel_rfl) (by kernel_rfl) (fun _ _ _ h => h) (Or.inl ⟨by rfl, ?_⟩) hS0 ?_
              rotate_left
              · intro w hSw
                go_simp
                try with_reducible rfl
              try simp only [Act.put, List.setIfInBounds_toArray, List.set_cons_zero, List.set_cons_succ]
              refine Rh.take (some 182) (i := 16) (v := undef) rfl (by kernel_rfl) (by kernel_rfl) (by kernel_rfl) (by kernel_rfl) (fun _ _ _ h => h) (Or.inr ⟨by rfl, rfl⟩) hS0 ?_
              try simp only [Act.put, List.setIfInBounds_toArray, List.set_cons_zero, List.set_cons_succ]
              refine Rh.take (some 183) (i := 17) (v := undef) rfl (by kernel_rfl) (by kernel_rfl) (by kernel_rfl) (by kernel_rfl) (fun _ _ _ h => h) (Or.inr ⟨by rfl, rfl⟩) hS0 ?_
              try simp only [Act.put, List.setIfInBounds_toArray, List.set_cons_zero, List.set_cons_succ]
              refine Rh.take (some 184) (i := 18) (v := undef) rfl (by kernel_rfl) (by kernel_rfl) (by kernel_rfl) (by kernel_rfl) (fun _ _ _ h => h) (Or.inr ⟨by rfl, rfl⟩) hS0 ?_
              try simp only [Act.put, List.setIfInBounds_toArray, List.set_cons_zero, List.set_cons_succ]
              refine Rh.take (some 185) (i := 19) (v := undef) rfl (by kernel_rfl) (by kernel_rfl) (by kernel_rfl) (by kernel_rfl) (fun _ _ _ h => h) (Or.inr ⟨by rfl, rfl⟩) hS0 ?_
              try simp only [Act.put, List.setIfInBounds_toArray, List.set_cons_zero, List.set_cons_succ]
              refine Rh.take (some 186) (i := 20) (v := undef) rfl (by kernel_rfl) (by kernel_rfl) (by kernel_rfl) (by kernel_rfl) (fun _ _ _ h => h) (Or.inr ⟨by rfl, rfl⟩) hS0 ?_
              try simp only [Act.put, List.setIfInBounds_toArray, List.set_cons_zero, List.set_cons_succ]
              refine Rh.take (some 187) (i := 21) (v := undef) rfl (by kernel_rfl) (by kernel_rfl) (by kernel_rfl) (by kernel_rfl) (fun _ _ _ h => h) (Or.inr ⟨by rfl, rfl⟩) hS0 ?_
              try simp only [Act.put, List.setIfInBounds_toArray, List.set_cons_zero, List.set_cons_succ]
              refine Rh.take (some 188) (i := 22) (v := undef) rfl (by kernel_rfl) (by kernel_rfl) (by kernel_rfl) (by kernel_rfl) (fun _ _ _ h => h) (Or.inr ⟨by rfl, rfl⟩) hS0 ?_
              try simp only [Act.put, List.setIfInBounds_toArray, List.set_cons_zero, List.set_cons_succ]
              refine Rh.take (some 189) (i := 23) (v := undef) rfl (by kernel_rfl) (by kernel_rfl) (by kernel_rfl) (by kernel_rfl) (fun _ _ _ h => h) (Or.inr ⟨by rfl, rfl⟩) hS0 ?_
              try simp only [Act.put, List.setIfInBounds_toArray, List.set_cons_zero, List.set_cons_succ]
              refine Rh.take (some 190) (i := 24) (v := undef) rfl (by kernel_rfl) (by kernel_rfl) (by kernel_rfl) (by kernel_rfl) (fun _ _ _ h => h) (Or.inr ⟨by rfl, rfl⟩) hS0 ?_
              try simp only [Act.put, List.setIfInBounds_toArray, List.set_cons_zero, List.set_cons_succ]
              refine Rh.take (some 191) (i := 25) (v := undef) rfl (by kernel_rfl) (by kernel_rfl) (by kernel_rfl) (by kernel_rfl) (fun _ _ _ h => h) (Or.inr ⟨by rfl, rfl⟩) hS0 ?_
              try simp only [Act.put, List.setIfInBounds_toArray, List.set_cons_zero, List.set_cons_succ]
              refine Rh.take (some 192) (i := 26) (v := ?_) rfl (by kernel_rfl) (by kernel_rfl) (by kernel_rfl) (by kernel_rfl) (fun _ _ _ h => h) (Or.inl ⟨by rfl, ?_⟩) hS0 ?_
              rotate_left
              · intro w hSw
                go_simp
                try with_reducible rfl
              try simp only [Act.put, List.setIfInBounds_toArray, List.set_cons_zero, List.set_cons_succ]
              refine Rh.take (some 193) (i := 27) (v := ?_) rfl (by kernel_rfl) (by kernel_rfl) (by kernel_rfl) (by kernel_rfl) (fun _ _ _ h => h) (Or.inl ⟨by rfl, ?_⟩) hS0 ?_
              rotate_left
              · intro w hSw
                go_simp
                try with_reducible rfl
              try simp only [Act.put, List.setIfInBounds_toArray, List.set_cons_zero, List.set_cons_succ]
              refine Rh.done (by kernel_rfl) ?_ _
              go_wp2
              go_roundg (TL.length - (i + 1))
              case measure => omega
              case rel => exact ⟨i + 1, q2 + 1, M2.set r true, by go_num, by go_num, by omega, HS2, HQU3, HM14.out 1, Lib.hid ((Ne.below_dn HQ12.out 1).setCell (p := ⟨bm, r, none⟩) (by show w5.heap.size ≤ bm; omega) (.bool true)), Lib.hid (Ne.irow_far HFT12.out (p := ⟨bm, r, none⟩) HBNE.out)⟩
            · obtain ⟨i1, hi1⟩ : ∃ i1, i = i1 + 1 := ⟨i - 1, by omega⟩
              obtain ⟨_, _, e, _, d2⟩ := Ne.irow_cell HFT12.out (i := i1) (by rw [Ne.encW_len]; omega)
              cases e
              rw [Ne.encW_at (by omega)] at d2
              have hup := HUP1.out i1 hi1
              generalize TL.getD i1 0 = r1 at *
              have hle : decide ((r : Int) ≤ (r1 : Int)) = false := decide_eq_false (by omega)
              have hle2 : decide (r ≤ r1) = false := decide_eq_false (by omega)
              have hgt : decide ((0 : Int) < (i : Int)) = true := decide_eq_true (by omega)
              have hgt2 : decide (0 < i) = true := decide_eq_true (by omega)
              have hx1 : IntKind.i64.wrap ((i : Int) - 1) = (i1 : Int) := by rw [IntKind.wrap_i64]; omega
              have hx2 : (i1 : Int) < (TL.length : Int) := by omega
              have hx3 : (0 : Int) ≤ (i1 : Int) := by omega
              have HI1 := Lib.hid hi1
              clear hi1 hiz
              go_wp2
              have hS0 := (show (fun w' => w'.cell? ⟨bt, ot + i, none⟩ = some (.int .i64 (r : Int)) ∧ w'.cell? ⟨bm, r, none⟩ = some (.bool false) ∧ w'.cell? ⟨bt, ot + i1, none⟩ = some (.int .i64 (r1 : Int))) w12.drew from ⟨d1, m0, d2⟩)
              refine Rh.start (S := (fun w' => w'.cell? ⟨bt, ot + i, none⟩ = some (.int .i64 (r : Int)) ∧ w'.cell? ⟨bm, r, none⟩ = some (.bool false) ∧ w'.cell? ⟨bt, ot + i1, none⟩ = some (.int .i64 (r1 : Int)))) (by kernel_rfl) ?_
              refine Rh.take (some 166) (i := 0) (v := ?_) rfl (by kernel_rfl) (by kernel_rfl) (by kernel_rfl) (by kernel_rfl) (fun _ _ _ h => h) (Or.inl ⟨by rfl, ?_⟩) hS0 ?_
              rotate_left
              · intro w hSw
                go_simp
                try with_reducible rfl
              try simp only [Act.put, List.setIfInBounds_toArray, List.set_cons_zero, List.set_cons_succ]
              refine Rh.take (some 167) (i := 1) (v := ?_) rfl (by kernel_rfl) (by kernel_rfl) (by kernel_rfl) (by kernel_rfl) (fun _ _ _ h => h) (Or.inl ⟨by rfl, ?_⟩) hS0 ?_
              rotate_left
              · intro w hSw
                go_simp
                try with_reducible rfl
              try simp only [Act.put, List.setIfInBounds_toArray, List.set_cons_zero, List.set_cons_succ]
              refine Rh.take (some 168) (i := 2) (v := ?_) rfl (by kernel_rfl) (by kernel_rfl) (by kernel_rfl) (by kernel_rfl) (fun _ _ _ h => h) (Or.inl ⟨by rfl, ?_⟩) hS0 ?_
              rotate_left
              · intro w hSw
                go_simp
                try with_reducible rfl
              try simp only [Act.put, List.setIfInBounds_toArray, List.set_cons_zero, List.set_cons_succ]
              refine Rh.take (some 169) (i := 3) (v := ?_) rfl (by kernel_rfl) (by kernel_rfl) (by kernel_rfl) (by kernel_rfl) (fun _ _ _ h => h) (Or.inl ⟨by rfl, ?_⟩) hS0 ?_
              rotate_left
              · intro w hSw
                go_simp
                try with_reducible rfl
              try simp only [Act.put, List.setIfInBounds_toArray, List.set_cons_zero, List.set_cons_succ]
              refine Rh.take (some 170) (i := 4) (v := ?_) rfl (by kernel_rfl) (by kernel_rfl) (by kernel_rfl) (by kernel_rfl) (fun _ _ _ h => h) (Or.inl ⟨by rfl, ?_⟩) hS0 ?_
              rotate_left
              · intro w hSw
                go_simp
                try with_reducible rfl
              try simp only [Act.put, List.setIfInBounds_toArray, List.set_cons_zero, List.set_cons_succ]
              refine Rh.take (some 171) (i := 5) (v := ?_) rfl (by kernel_rfl) (by kernel_rfl) (by kernel_rfl) (by kernel_rfl) (fun _ _ _ h => h) (Or.inl ⟨by rfl, ?_⟩) hS0 ?_
              rotate_left
              · intro w hSw
                go_simp
                try with_reducible rfl
              try simp only [Act.put, List.setIfInBounds_toArray, List.set_cons_zero, List.set_cons_succ]
              refine Rh.take (some 172) (i := 6) (v := ?_) rfl (by kernel_rfl) (by kernel_rfl) (by kernel_rfl) (by kernel_rfl) (fun _ _ _ h => h) (Or.inl ⟨by rfl, ?_⟩) hS0 ?_
              rotate_left
              · intro w hSw
                go_simp
                try with_reducible rfl
              try simp only [Act.put, List.setIfInBounds_toArray, List.set_cons_zero, List.set_cons_succ]
              refine Rh.take (some 173) (i := 7) (v := ?_) rfl (by kernel_rfl) (by kernel_rfl) (by kernel_rfl) (by kernel_rfl) (fun _ _ _ h => h) (Or.inl ⟨by rfl, ?_⟩) hS0 ?_
              rotate_left
              · intro w hSw
                go_simp
                try with_reducible rfl
              try simp only [Act.put, List.setIfInBounds_toArray, List.set_cons_zero, List.set_cons_succ]
              refine Rh.take (some 174) (i := 8) (v := ?_) rfl (by kernel_rfl) (by kernel_rfl) (by kernel_rfl) (by kernel_rfl) (fun _ _ _ h => h) (Or.inl ⟨by rfl, ?_⟩) hS0 ?_
              rotate_left
              · intro w hSw
                go_simp
                try with_reducible rfl
              try simp only [Act.put, List.setIfInBounds_toArray, List.set_cons_zero, List.set_cons_succ]
              refine Rh.take (some 175) (i := 9) (v := ?_) rfl (by kernel_rfl) (by kernel_rfl) (by kernel_rfl) (by kernel_rfl) (fun _ _ _ h => h) (Or.inl ⟨by rfl, ?_⟩) hS0 ?_
              rotate_left
              · intro w hSw
                go_simp
                try with_reducible rfl
              try simp only [Act.put, List.setIfInBounds_toArray, List.set_cons_zero, List.set_cons_succ]
              refine Rh.take (some 176) (i := 10) (v := ?_) rfl (by kernel_rfl) (by kernel_rfl) (by kernel_rfl) (by kernel_rfl) (fun _ _ _ h => h) (Or.inl ⟨by rfl, ?_⟩) hS0 ?_
              rotate_left
              · intro w hSw
                go_simp
                try with_reducible rfl
              try simp only [Act.put, List.setIfInBounds_toArray, List.set_cons_zero, List.set_cons_succ]
              refine Rh.take (some 177) (i := 11) (v := ?_) rfl (by kernel_rfl) (by kernel_rfl) (by kernel_rfl) (by kernel_rfl) (fun _ _ _ h => h) (Or.inl ⟨by rfl, ?_⟩) hS0 ?_
              rotate_left
              · intro w hSw
                go_simp
                try with_reducible rfl
              try simp only [Act.put, List.setIfInBounds_toArray, List.set_cons_zero, List.set_cons_succ]
              refine Rh.take (some 178) (i := 12) (v := ?_) rfl (by kernel_rfl) (by kernel_rfl) (by kernel_rfl) (by kernel_rfl) (fun _ _ _ h => h) (Or.inl ⟨by rfl, ?_⟩) hS0 ?_
              rotate_left
              · intro w hSw
                go_simp
                try with_reducible rfl
              try simp only [Act.put, List.setIfInBounds_toArray, List.set_cons_zero, List.set_cons_succ]
              refine Rh.take (some 179) (i := 13) (v := ?_) rfl (by kernel_rfl) (by kernel_rfl) (by kernel_rfl) (by kernel_rfl) (fun _ _ _ h => h) (Or.inl ⟨by rfl, ?_⟩) hS0 ?_
              rotate_left
              · intro w hSw
                go_simp
                try with_reducible rfl
              try simp only [Act.put, List.setIfInBounds_toArray, List.set_cons_zero, List.set_cons_succ]
              refine Rh.take (some 180) (i := 14) (v := ?_) rfl (by kernel_rfl) (by kernel_rfl) (by kernel_rfl) (by kernel_rfl) (fun _ _ _ h => h) (Or.inl ⟨by rfl, ?_⟩) hS0 ?_
              rotate_left
              · intro w hSw
                go_simp
                try with_reducible rfl
              try simp only [Act.put, List.setIfInBounds_toArray, List.set_cons_zero, List.set_cons_succ]
              refine Rh.take (some 181) (i := 15) (v := ?_) rfl (by kernel_rfl) (by kernel_rfl) (by kernel_rfl) (by kernel_rfl) (fun _ _ _ h => h) (Or.inl ⟨by rfl, ?_⟩) hS0 ?_
              rotate_left
              · intro w hSw
                go_simp
                try with_reducible rfl
              try simp only [Act.put, List.setIfInBounds_toArray, List.set_cons_zero, List.set_cons_succ]
              refine Rh.take (some 182) (i := 16) (v := ?_) rfl (by kernel_rfl) (by kernel_rfl) (by kernel_rfl) (by kernel_rfl) (fun _ _ _ h => h) (Or.inl ⟨by rfl, ?_⟩) hS0 ?_
              rotate_left
              · intro w hSw
                go_simp
                try with_reducible rfl
              try simp only [Act.put, List.setIfInBounds_toArray, List.set_cons_zero, List.set_cons_succ]
              refine Rh.take (some 183) (i := 17) (v := ?_) rfl (by kernel_rfl) (by kernel_rfl) (by kernel_rfl) (by kernel_rfl) (fun _ _ _ h => h) (Or.inl ⟨by rfl, ?_⟩) hS0 ?_
              rotate_left
              · intro w hSw
                go_simp
                try with_reducible rfl
              try simp only [Act.put, List.setIfInBounds_toArray, List.set_cons_zero, List.set_cons_succ]
              refine Rh.take (some 184) (i := 18) (v := ?_) rfl (by kernel_rfl) (by kernel_rfl) (by kernel_rfl) (by kernel_rfl) (fun _ _ _ h => h) (Or.inl ⟨by rfl, ?_⟩) hS0 ?_
              rotate_left
              · intro w hSw
                go_simp
                try with_reducible rfl
              try simp only [Act.put, List.setIfInBounds_toArray, List.set_cons_zero, List.set_cons_succ]
              refine Rh.take (some 185) (i := 19) (v := ?_) rfl (by kernel_rfl) (by kernel_rfl) (by kernel_rfl) (by kernel_rfl) (fun _ _ _ h => h) (Or.inl ⟨by rfl, ?_⟩) hS0 ?_
              rotate_left
              · intro w hSw
                go_simp
                try with_reducible rfl
              try simp only [Act.put, List.setIfInBounds_toArray, List.set_cons_zero, List.set_cons_succ]
              refine Rh.take (some 186) (i := 20) (v := ?_) rfl (by kernel_rfl) (by kernel_rfl) (by kernel_rfl) (by kernel_rfl) (fun _ _ _ h => h) (Or.inl ⟨by rfl, ?_⟩) hS0 ?_
              rotate_left
              · intro w hSw
                go_simp
                try with_reducible rfl
              try simp only [Act.put, List.setIfInBounds_toArray, List.set_cons_zero, List.set_cons_succ]
              refine Rh.take (some 187) (i := 21) (v := ?_) rfl (by kernel_rfl) (by kernel_rfl) (by kernel_rfl) (by kernel_rfl) (fun _ _ _ h => h) (Or.inl ⟨by rfl, ?_⟩) hS0 ?_
              rotate_left
              · intro w hSw
                go_simp
                try with_reducible rfl
              try simp only [Act.put, List.setIfInBounds_toArray, List.set_cons_zero, List.set_cons_succ]
              refine Rh.take (some 188) (i := 22) (v := ?_) rfl (by kernel_rfl) (by kernel_rfl) (by kernel_rfl) (by kernel_rfl) (fun _ _ _ h => h) (Or.inl ⟨by rfl, ?_⟩) hS0 ?_
              rotate_left
              · intro w hSw
                go_simp
                try with_reducible rfl
              try simp only [Act.put, List.setIfInBounds_toArray, List.set_cons_zero, List.set_cons_succ]
              refine Rh.take (some 189) (i := 23) (v := ?_) rfl (by kernel_rfl) (by kernel_rfl) (by kernel_rfl) (by kernel_rfl) (fun _ _ _ h => h) (Or.inl ⟨by rfl, ?_⟩) hS0 ?_
              rotate_left
              · intro w hSw
                go_simp
                try with_reducible rfl
              try simp only [Act.put, List.setIfInBounds_toArray, List.set_cons_zero, List.set_cons_succ]
              refine Rh.take (some 190) (i := 24) (v := ?_) rfl (by kernel_rfl) (by kernel_rfl) (by kernel_rfl) (by kernel_rfl) (fun _ _ _ h => h) (Or.inl ⟨by rfl, ?_⟩) hS0 ?_
              rotate_left
              · intro w hSw
                go_simp
                try with_reducible rfl
              try simp only [Act.put, List.setIfInBounds_toArray, List.set_cons_zero, List.set_cons_succ]
              refine Rh.take (some 191) (i := 25) (v := ?_) rfl (by kernel_rfl) (by kernel_rfl) (by kernel_rfl) (by kernel_rfl) (fun _ _ _ h => h) (Or.inl ⟨by rfl, ?_⟩) hS0 ?_
              rotate_left
              · intro w hSw
                go_simp
                try with_reducible rfl
              try simp only [Act.put, List.setIfInBounds_toArray, List.set_cons_zero, List.set_cons_succ]
              refine Rh.take (some 192) (i := 26) (v := ?_) rfl (by kernel_rfl) (by kernel_rfl) (by kernel_rfl) (by kernel_rfl) (fun _ _ _ h => h) (Or.inl ⟨by rfl, ?_⟩) hS0 ?_
              rotate_left
              · intro w hSw
                go_simp
                try with_reducible rfl
              try simp only [Act.put, List.setIfInBounds_toArray, List.set_cons_zero, List.set_cons_succ]
              refine Rh.take (some 193) (i := 27) (v := ?_) rfl (by kernel_rfl) (by kernel_rfl) (by kernel_rfl) (by kernel_rfl) (fun _ _ _ h => h) (Or.inl ⟨by rfl, ?_⟩) hS0 ?_
              rotate_left
              · intro w hSw
                go_simp
                try with_reducible rfl
              try simp only [Act.put, List.setIfInBounds_toArray, List.set_cons_zero, List.set_cons_succ]
              refine Rh.done (by kernel_rfl) ?_ _
              clear hx1
              go_wp2
              go_roundg (TL.length - (i + 1))
              case measure => omega
              case rel => exact ⟨i + 1, q2 + 1, M2.set r true, by go_num, by go_num, by omega, HS2, HQU3, HM14.out 1, Lib.hid ((Ne.below_dn HQ12.out 1).setCell (p := ⟨bm, r, none⟩) (by show w5.heap.size ≤ bm; omega) (.bool true)), Lib.hid (Ne.irow_far HFT12.out (p := ⟨bm, r, none⟩) HBNE.out)⟩
          · have ei : i = TL.length := by omega
            subst ei
            have HMK3 := Lib.hid (HMN.out (v : Int) M2 (by have := HMK2.out; rw [List.take_length] at this; rw [← HTE.out]; exact this))
            clear hil
            go_wp2
            go_roundg (N + 1 - (v + 1))
            case measure => omega
            case rel => exact ⟨v + 1, q2, M2, rfl, by go_num, by omega, by omega, by rw [Int.natCast_add, Int.natCast_one]; exact HMK3, HQU2, HMB2, HQ5⟩
      · have ev : v = N + 1 := by omega
        subst ev
        have HU := Lib.hid (HME.out M (by have := HMK.out; rwa [Int.natCast_add, Int.natCast_one] at this))
        have hq : q = 2 * ml.length := by have := HQU.out; have := HU.out; omega
        subst hq
        have E2 := Lib.hid (HE2.out)
        clear hvn
        have hlast : ¬ ((N : Int) + 1 ≤ (N : Int)) := by omega
        go_wp2_with fail
        refine (E2.out _ (HR5.out.kept HQ.out)).mono ?_
        rintro e w20 ⟨rfl, hb⟩
        have HB20 := Lib.hid (HB5.out.trans ((HQ.out.trans (hb.mono HQ.out.size)).mono HB5.out.size))
        clear hb n0 n1 n2 n3
        go_wp2
        go_ret
        exact ⟨rfl, HB20.out⟩

end Go.Proofs.Ythgknkjdidbkdaa.residualRooms
