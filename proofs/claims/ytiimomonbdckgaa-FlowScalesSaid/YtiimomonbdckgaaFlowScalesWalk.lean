/- FlowScales: for every input the law returns true and its arguments read as they did. No condition. -/
import Derived.Test.YtiimomonbdckgaaFls
import Derived.Test.YtiimomonbdckgaaRouted
import Derived.Test.YtiimomonbdckgaaOpenc
import Derived.Test.YtiimomonbdckgaaAppb
import Derived.Test.YtiimomonbdckgaaRows
import Derived.WalkKit
import Derived.ProofKit
import Derived.OpenShut
import Derived.ShutString
import Derived.ChangeOld
import Derived.Below
import Derived.Deep.Strs
namespace Go.Proofs.Ytiimomonbdckgaa.flowScales
open Go.ChangeShapes Go.WideShapes Go.ChangeAt Go.RowKit
open Go.ChangeMaps (open_string shut_string)
set_option linter.unusedVariables false
set_option linter.unusedSimpArgs false

theorem own : ownKnob Try.prog.godebug = none := by kernel_rfl
theorem laidOut : laidOutB Try.prog = true := by kernel_rfl

def IntsIn (k : IntKind) (w : World) (a : Option Addr) (len cap : Nat) (zs : List Int) : Prop :=
  (a = none ∧ len = 0 ∧ cap = 0 ∧ zs = []) ∨
  ∃ x, a = some x ∧ len ≤ cap ∧ cap ≤ maxLen ∧ zs.length = cap ∧ (∀ i, i < zs.length → w.cell? (x.add i) = some (.int k (zs.getD i 0))) ∧ ∀ n ∈ zs, (Lit.int k n).wf = true



set_option maxRecDepth 100000 in
set_option maxHeartbeats 4000000 in
theorem walk (a0 : Int) (a1 : Int) (a2 : List Ne.Arc) (o2 : Option Addr) (c2 : Nat) (a3 : Option Addr) (len3 cap3 : Nat) (l3 : List Int) (a4 : Int) (w : World) (w0 : (Lit.int .i64 a0).wf = true) (w1 : (Lit.int .i64 a1).wf = true) (k2 : ∀ a ∈ a2, Ne.Arc.ok a) (z2 : a2.length ≤ c2) (y2 : c2 ≤ maxLen) (n2 : o2 = none → c2 = 0) (r2 : Ne.ARow w o2 a2) (w3 : IntsIn .i64 w a3 len3 cap3 l3) (w4 : (Lit.int .i64 a4).wf = true) :
    Calls Try.prog 7 #[.int .i64 a0, .int .i64 a1, .slice o2 a2.length c2, .slice a3 len3 cap3, .int .i64 a4] w fun e w' => e = .returned (.bool true) ∧ Below w.heap.size w w' := by
  have HSH := Lib.hid (Ne.shown_any w)
  obtain ⟨mn, hmn⟩ : ∃ x, x = (Ne.madeN a0 a1 a2).n := ⟨_, rfl⟩
  obtain ⟨ms, hms⟩ : ∃ x, x = (Ne.madeN a0 a1 a2).s := ⟨_, rfl⟩
  obtain ⟨mt, hmt⟩ : ∃ x, x = (Ne.madeN a0 a1 a2).t := ⟨_, rfl⟩
  obtain ⟨ml, hml⟩ : ∃ x, x = (Ne.madeN a0 a1 a2).l := ⟨_, rfl⟩
  have em : Ne.madeN a0 a1 a2 = ⟨mn, ms, mt, ml⟩ := by rw [hmn, hms, hmt, hml]
  obtain ⟨f1, f2, f3, f4, f5, f6, f7, f8, f9⟩ := Ne.madeN_fine (nodes := a0) (ends := a1) k2
  have ck := Ne.made_check (nodes := a0) (ends := a1) k2
  have MD := Lib.hid fun w' (h : Ne.ARow w' o2 a2) => Ne.made_s a0 a1 a2 o2 c2 w' (bounds_i64 w0) (bounds_i64 w1) k2 h
  rw [em] at MD f1 f2 f3 f4 f5 f6 f7 f8 f9 ck
  simp only at f1 f2 f3 f4 f5 f6 f7 f8 f9
  clear hmn hms hmt hml em
  have f8' : ml.length ≤ 24 := by omega
  clear f8
  have CK := Lib.hid ck
  have RT := Lib.hid (Ne.right_of ck)
  have FI := Lib.hid f9
  have CAP := Lib.hid (show ∀ a ∈ ml, Ne.in64 a.cap from fun a ha => by have := (f9 a ha).2.2; unfold Ne.in64; omega)
  have hl6 : ml.length ≤ 1000000 := by omega
  have F7 := Lib.hid f7
  have RA := Lib.hid r2
  clear r2 f7 f9 ck
  obtain ⟨ks, hk3, hq3, bq3, _, _, _⟩ := Ne.ints_row w3
  subst hk3
  clear w3
  have BK3 := Lib.hid bq3
  have KR3 := Lib.hid hq3
  clear bq3 hq3
  have b4 := bounds_i64 w4
  have FH := Lib.hid (show Ne.fineH ⟨mn, ms, mt, ml⟩ from ⟨f1, by simp only; omega, f3, f4, f5, f6, F7.out, by simp only; omega⟩)
  obtain ⟨px, hpx⟩ : ∃ x, x = Ne.pickN a4 1000 := ⟨_, rfl⟩
  have bpx := Ne.pickN_bd (c := a4) (n := 1000) (by omega)
  rw [← hpx] at bpx
  have P1 := Lib.hid fun w' => Ne.pick_any a4 1000 w' b4.1 b4.2 (by omega) (by omega)
  rw [← hpx] at P1
  clear hpx
  go_enter Try.func7, Try.ntmps7
  go_wp2_with fail
  refine HSH.out.mono ?_
  rintro e w1 ⟨rfl, hb⟩
  have HB1 := Lib.hid hb
  clear hb
  go_wp2_with fail
  refine (MD.out _ (RA.out.kept HB1.out)).mono ?_
  rintro e w2 ⟨om, cm, rfl, ho, hb⟩
  have HB2 := Lib.hid (HB1.out.trans (hb.mono HB1.out.size))
  have HV2 := Lib.hid (Rw.own_lt ho)
  have HO3 := Lib.hid (Rw.own_base (Rw.own_alloc ho (.cells #[.int .i64 mn, .int .i64 ms, .int .i64 mt, .slice om ml.length cm] 24)) (B' := w.heap.size) HB1.out.size)
  have HN3 := Lib.hid (Ne.netBox_new w2 mn ms mt (.slice om ml.length cm))
  have hz2 : w.heap.size ≤ w2.heap.size := HB2.out.size
  have HB3 := Lib.hid (HB2.out.alloc hz2 (.cells #[.int .i64 mn, .int .i64 ms, .int .i64 mt, .slice om ml.length cm] 24))
  clear ho hb MD RA HSH
  go_wp2_with fail
  obtain ⟨bn, hbn⟩ : ∃ b, b = w2.heap.size := ⟨_, rfl⟩
  have hbn3 : bn < (w2.alloc (.cells #[.int .i64 mn, .int .i64 ms, .int .i64 mt, .slice om ml.length cm] 24)).heap.size := by rw [hbn]; simp
  rw [← hbn] at HN3 HV2 hz2 ⊢
  clear hbn HB2 HB1
  generalize (w2.alloc (.cells #[.int .i64 mn, .int .i64 ms, .int .i64 mt, .slice om ml.length cm] 24)) = W3 at *
  have HR3 := Lib.hid (Ne.arow_ofA HO3.out)
  obtain ⟨f, hf⟩ : ∃ x, x = Ne.routeN ⟨mn, ms, mt, ml⟩ ks := ⟨_, rfl⟩
  have FL := Lib.hid (show Ne.Flow ⟨mn, ms, mt, ml⟩ f by rw [hf]; exact Ne.route_flow RT.out _)
  have RD := Lib.hid fun w' h1 h2 => Ne.routed_any ⟨mn, ms, mt, ml⟩ om cm a3 cap3 ks w' h1 h2 CK.out BK3.out
  rw [← hf] at RD
  refine (RD.out _ HR3.out (KR3.out.kept HB3.out)).mono ?_
  rintro e w4 ⟨fb, rfl, hfb, hl, hb⟩
  have HB4 := Lib.hid (HB3.out.trans (hb.mono HB3.out.size))
  have HN4 := Lib.hid (Ne.netBox_below HN3.out hb (Ne.netBox_lt HN3.out))
  have HO4 := Lib.hid (Rw.own_below HO3.out hb)
  have HR4 := Lib.hid (HR3.out.kept hb)
  have HFB4 := Lib.hid hl
  have hfb2 := hl.lt
  clear hl hb
  have HF4 := Lib.hid HFB4.out
  obtain ⟨n0, n1, n2, n3⟩ := Ne.netBox_cells HN4.out
  go_wp2_with fail
  refine (P1.out _).mono ?_
  rintro e w' ⟨rfl, rfl⟩
  obtain ⟨x, hx⟩ : ∃ u, 1 + px = u := ⟨_, rfl⟩
  have hwx : IntKind.i64.wrap (1 + px) = x := by rw [IntKind.wrap_i64]; omega
  have hx1 : 1 ≤ x := by omega
  have hx2 : x ≤ 1000 := by omega
  have hmk := Ne.make_l ml.length hl6
  have HM5 := Lib.hid (Ne.netBox_alloc (Ne.netBox_new w4 mn ms mt (.slice none 0 0)) (.cells (madeCells #[.int .i64 0] ml.length) 2))
  have HG5 := Lib.hid (Ne.lbox_made (w4.alloc (.cells #[.int .i64 mn, .int .i64 ms, .int .i64 mt, .slice none 0 0] 24)) ml.length (b := w4.heap.size + 1) (by simp))
  rw [← Ne.mulL_zero x f] at HG5
  have HB5 := Lib.hid (show Below w4.heap.size w4 ((w4.alloc (.cells #[.int .i64 mn, .int .i64 ms, .int .i64 mt, .slice none 0 0] 24)).alloc (.cells (madeCells #[.int .i64 0] ml.length) 2)) from ((Below.refl _ _).alloc (Nat.le_refl _) _).alloc (by simp) _)
  have HZ5 : ((w4.alloc (.cells #[.int .i64 mn, .int .i64 ms, .int .i64 mt, .slice none 0 0] 24)).alloc (.cells (madeCells #[.int .i64 0] ml.length) 2)).heap.size = w4.heap.size + 2 := by simp
  go_wp2
  generalize ((w4.alloc (.cells #[.int .i64 mn, .int .i64 ms, .int .i64 mt, .slice none 0 0] 24)).alloc (.cells (madeCells #[.int .i64 0] ml.length) 2)) = W5 at *
  obtain ⟨Z, hZ⟩ : ∃ z, z = W5.heap.size := ⟨_, rfl⟩
  have HZW : Hid (Z ≤ W5.heap.size) := Lib.hid (by omega)
  obtain ⟨bm, hbm⟩ : ∃ z, z = w4.heap.size := ⟨_, rfl⟩
  obtain ⟨bg, hbg⟩ : ∃ z, z = w4.heap.size + 1 := ⟨_, rfl⟩
  rw [← hbg] at HG5 ⊢
  rw [← hbm] at HM5 HB5 ⊢
  have hbmZ : bm < Z := by omega
  have hbgZ : bg < Z := by omega
  have hne : bm ≠ bg := by omega
  have hfbm : fb < bm := by omega
  have hbnm : bn < bm := by omega
  have hwm : w.heap.size ≤ bm := by have := HB4.out.size; omega
  have hbmg : bm ≤ bg := by omega
  have HSX := Lib.hid (show bm = w4.heap.size from hbm)
  clear hmk HZ5 hZ hbm hbg hwx hx P1 bpx n0 n1 n2 n3
  have HVN := Lib.hid (show ∀ i, i < ml.length → 0 ≤ (Ne.arcAt ml i).cap ∧ (Ne.arcAt ml i).cap ≤ 1000000 from fun i hi => (FI.out _ (List.mem_of_getElem? (Ne.at_arc hi))).2.2)
  go_loopw [17] (fun si wr => ∃ (j : Nat) (v : Value), si = .int .i64 j ∧ j ≤ ml.length ∧ Hid (Ne.NetBox wr bm mn ms mt v) ∧ Hid (Ne.OwnA wr Z v ((Ne.scA x ml).take j)) ∧ Hid (Ne.LBox wr bg (Ne.mulL x f ml.length j)) ∧ Hid (Below bm w4 wr) ∧ Hid (Z ≤ wr.heap.size)) (fun si _ => ml.length - (intOf si).toNat)
  case atStart => exact ⟨0, _, rfl, Nat.zero_le _, HM5, Lib.hid (Rw.own_nil _ _), HG5, HB5, HZW⟩
  case round =>
    obtain ⟨j, v, rfl, hj, HM, HO, HG, HBW, HZ⟩ := hrel
    clear HM5 HG5 HB5 HZW
    have HNR := Lib.hid (Ne.netBox_below HN4.out HBW.out hbnm)
    have HBK := Lib.hid (show Below w4.heap.size w4 wr from HSX.out ▸ HBW.out)
    have HRR := Lib.hid (HR4.out.kept HBK.out)
    have HFR := Lib.hid (HF4.out.kept HBK.out)
    by_cases hlt : j < ml.length
    · obtain ⟨b, off, rfl, hbl, c0, c1, c2⟩ := Ne.arow_cell HRR.out hlt
      have f4 := HF4.out.cell (i := j) (by have := FL.out.len; simp only at this; omega)
      obtain ⟨q0, q1⟩ := HVN.out j hlt
      have by_ := FL.out.wi j hlt
      have hb3 : b < bn := (HV2.out b rfl).2
      have h0 := HG.out.cell (i := j) (by rw [Ne.mulL_len]; exact hlt)
      have z0 := HG.out.frozen j
      have HSC := Lib.hid (fun fr to ca e => Ne.scA_take (x := x) (fr := fr) (to := to) (ca := ca) hlt e)
      have HMS := Lib.hid (Ne.mulL_succ (x := x) (f := f) hlt)
      have HLN0 : ((Ne.scA x ml).take j).length ≤ 24 := by rw [List.length_take, Ne.scA_len]; omega
      generalize Ne.amt f j = y at *
      obtain ⟨A0, hq⟩ : ∃ a, Ne.arcAt ml j = a := ⟨_, rfl⟩
      obtain ⟨fr, to, ca⟩ := A0
      simp only [hq] at c0 c1 c2 q0 q1 by_
      have HTK := Lib.hid (HSC.out fr to ca hq)
      have HTL := Lib.hid (show ((Ne.scA x ml).take (j + 1)).length = j + 1 by rw [List.length_take, Ne.scA_len]; omega)
      clear hq HSC
      have hca := Ne.mul_bd hx1 hx2 q0 q1
      have hy := Ne.mul_bd hx1 hx2 by_.1 (Int.le_trans by_.2 q1)
      have hw1 : IntKind.i64.wrap (x * ca) = x * ca := by rw [IntKind.wrap_i64]; omega
      have hw2 : IntKind.i64.wrap (x * y) = x * y := by rw [IntKind.wrap_i64]; omega
      have hi1 : Ne.in64 (x * ca) := by unfold Ne.in64; omega
      have hji : (j : Int) < (ml.length : Int) := by omega
      have hj0 : (0 : Int) ≤ (j : Int) := by omega
      obtain ⟨m0, m1, m2, m3⟩ := Ne.netBox_cells HM.out
      have n3 := (Ne.netBox_cells HNR.out).2.2.2
      have hvb := Rw.own_block HO.out
      have HV1 := Lib.hid (show some bm ≠ v.ownBlock from fun h => by have := hvb _ h.symm; omega)
      have HV2' := Lib.hid (show v.ownBlock ≠ some bn from fun h => by have := hvb _ h; omega)
      have HV3 := Lib.hid (show v.ownBlock ≠ some b from fun h => by have := hvb _ h; omega)
      have HO1 := Lib.hid (show Ne.OwnA (wr.alloc (.cells #[.int .i64 fr, .int .i64 to, .int .i64 (x * ca)] 42)).drew Z v ((Ne.scA x ml).take j) from Rw.own_alloc HO.out _)
      have HNW := Lib.hid (show Ne.ARow (wr.alloc (.cells #[.int .i64 fr, .int .i64 to, .int .i64 (x * ca)] 42)).drew (some ⟨wr.heap.size, 0, none⟩) [⟨fr, to, x * ca⟩] from Ne.arow_at1 wr rfl ⟨fr, to, x * ca⟩)
      have HLN := Lib.hid (show ((Ne.scA x ml).take j).length + ([⟨fr, to, x * ca⟩] : List Ne.Arc).length ≤ 1099511627776 by simp only [List.length_singleton]; omega)
      have hzz := HZ.out
      have HBZ : Z ≤ (wr.alloc (.cells #[.int .i64 fr, .int .i64 to, .int .i64 (x * ca)] 42)).drew.heap.size := by rw [Ne.size_allocd]; omega
      have HMA := Lib.hid (show Ne.NetBox (wr.alloc (.cells #[.int .i64 fr, .int .i64 to, .int .i64 (x * ca)] 42)).drew bm mn ms mt v from Ne.netBox_alloc HM.out _)
      have HGA := Lib.hid (show Ne.LBox (wr.alloc (.cells #[.int .i64 fr, .int .i64 to, .int .i64 (x * ca)] 42)).drew bg (Ne.mulL x f ml.length j) from HG.out.alloc _)
      have HBA := Lib.hid (show Below bm w4 (wr.alloc (.cells #[.int .i64 fr, .int .i64 to, .int .i64 (x * ca)] 42)).drew from Ne.below_drew (HBW.out.alloc (by omega) _))
      go_wp2
      have hS0 := (show (fun w' => w'.cell? ⟨bm, 3, none⟩ = some v ∧ w'.cell? ⟨bn, 3, none⟩ = some (.slice (some ⟨b, off, none⟩) ml.length cm) ∧ w'.cell? ⟨b, off + j * 3, none⟩ = some (.int .i64 fr) ∧ w'.cell? ⟨b, off + j * 3 + 1, none⟩ = some (.int .i64 to) ∧ w'.cell? ⟨b, off + j * 3 + 2, none⟩ = some (.int .i64 ca)) wr.drew from ⟨m3, n3, c0, c1, c2⟩)
      have hS1 := (show (fun w' => w'.cell? ⟨bm, 3, none⟩ = some v ∧ w'.cell? ⟨bn, 3, none⟩ = some (.slice (some ⟨b, off, none⟩) ml.length cm) ∧ w'.cell? ⟨b, off + j * 3, none⟩ = some (.int .i64 fr) ∧ w'.cell? ⟨b, off + j * 3 + 1, none⟩ = some (.int .i64 to) ∧ w'.cell? ⟨b, off + j * 3 + 2, none⟩ = some (.int .i64 ca)) (wr.alloc (.cells #[.int .i64 fr, .int .i64 to, .int .i64 (x * ca)] 42)).drew from ⟨Ne.held_new m3, Ne.held_new n3, Ne.held_new c0, Ne.held_new c1, Ne.held_new c2⟩)
      refine Rg.start (S := (fun w' => w'.cell? ⟨bm, 3, none⟩ = some v ∧ w'.cell? ⟨bn, 3, none⟩ = some (.slice (some ⟨b, off, none⟩) ml.length cm) ∧ w'.cell? ⟨b, off + j * 3, none⟩ = some (.int .i64 fr) ∧ w'.cell? ⟨b, off + j * 3 + 1, none⟩ = some (.int .i64 to) ∧ w'.cell? ⟨b, off + j * 3 + 2, none⟩ = some (.int .i64 ca))) (last := 26) (by kernel_rfl) ?_
      refine Rg.take (i := 0) (v := ?_) 40 rfl (by kernel_rfl) (by kernel_rfl) (by kernel_rfl) (by kernel_rfl) (fun _ _ _ h => h) (Or.inl ⟨by rfl, ?_⟩) hS0 ?_
      rotate_left
      · intro w hSw
        go_simp
        try with_reducible rfl
      try simp only [Act.put, List.setIfInBounds_toArray, List.set_cons_zero, List.set_cons_succ]
      refine Rg.take (i := 1) (v := ?_) 40 rfl (by kernel_rfl) (by kernel_rfl) (by kernel_rfl) (by kernel_rfl) (fun _ _ _ h => h) (Or.inl ⟨by rfl, ?_⟩) hS0 ?_
      rotate_left
      · intro w hSw
        go_simp
        try with_reducible rfl
      try simp only [Act.put, List.setIfInBounds_toArray, List.set_cons_zero, List.set_cons_succ]
      refine Rg.take (i := 2) (v := ?_) 40 rfl (by kernel_rfl) (by kernel_rfl) (by kernel_rfl) (by kernel_rfl) (fun _ _ _ h => h) (Or.inl ⟨by rfl, ?_⟩) hS0 ?_
      rotate_left
      · intro w hSw
        go_simp
        try with_reducible rfl
      try simp only [Act.put, List.setIfInBounds_toArray, List.set_cons_zero, List.set_cons_succ]
      refine Rg.take (i := 3) (v := ?_) 40 rfl (by kernel_rfl) (by kernel_rfl) (by kernel_rfl) (by kernel_rfl) (fun _ _ _ h => h) (Or.inl ⟨by rfl, ?_⟩) hS0 ?_
      rotate_left
      · intro w hSw
        go_simp
        try with_reducible rfl
      try simp only [Act.put, List.setIfInBounds_toArray, List.set_cons_zero, List.set_cons_succ]
      refine Rg.take (i := 4) (v := ?_) 40 rfl (by kernel_rfl) (by kernel_rfl) (by kernel_rfl) (by kernel_rfl) (fun _ _ _ h => h) (Or.inl ⟨by rfl, ?_⟩) hS0 ?_
      rotate_left
      · intro w hSw
        go_simp
        try with_reducible rfl
      try simp only [Act.put, List.setIfInBounds_toArray, List.set_cons_zero, List.set_cons_succ]
      refine Rg.take (i := 5) (v := ?_) 40 rfl (by kernel_rfl) (by kernel_rfl) (by kernel_rfl) (by kernel_rfl) (fun _ _ _ h => h) (Or.inl ⟨by rfl, ?_⟩) hS0 ?_
      rotate_left
      · intro w hSw
        go_simp
        try with_reducible rfl
      try simp only [Act.put, List.setIfInBounds_toArray, List.set_cons_zero, List.set_cons_succ]
      refine Rg.take (i := 6) (v := ?_) 40 rfl (by kernel_rfl) (by kernel_rfl) (by kernel_rfl) (by kernel_rfl) (fun _ _ _ h => h) (Or.inl ⟨by rfl, ?_⟩) hS0 ?_
      rotate_left
      · intro w hSw
        go_simp
        try with_reducible rfl
      try simp only [Act.put, List.setIfInBounds_toArray, List.set_cons_zero, List.set_cons_succ]
      refine Rg.take (i := 7) (v := ?_) 40 rfl (by kernel_rfl) (by kernel_rfl) (by kernel_rfl) (by kernel_rfl) (fun _ _ _ h => h) (Or.inl ⟨by rfl, ?_⟩) hS0 ?_
      rotate_left
      · intro w hSw
        go_simp
        try with_reducible rfl
      try simp only [Act.put, List.setIfInBounds_toArray, List.set_cons_zero, List.set_cons_succ]
      refine Rg.take (i := 8) (v := ?_) 40 rfl (by kernel_rfl) (by kernel_rfl) (by kernel_rfl) (by kernel_rfl) (fun _ _ _ h => h) (Or.inl ⟨by rfl, ?_⟩) hS0 ?_
      rotate_left
      · intro w hSw
        go_simp
        try with_reducible rfl
      try simp only [Act.put, List.setIfInBounds_toArray, List.set_cons_zero, List.set_cons_succ]
      refine Rg.take (i := 9) (v := ?_) 40 rfl (by kernel_rfl) (by kernel_rfl) (by kernel_rfl) (by kernel_rfl) (fun _ _ _ h => h) (Or.inl ⟨by rfl, ?_⟩) hS0 ?_
      rotate_left
      · intro w hSw
        go_simp
        try with_reducible rfl
      try simp only [Act.put, List.setIfInBounds_toArray, List.set_cons_zero, List.set_cons_succ]
      refine Rg.take (i := 10) (v := ?_) 40 rfl (by kernel_rfl) (by kernel_rfl) (by kernel_rfl) (by kernel_rfl) (fun _ _ _ h => h) (Or.inl ⟨by rfl, ?_⟩) hS0 ?_
      rotate_left
      · intro w hSw
        go_simp
        try with_reducible rfl
      try simp only [Act.put, List.setIfInBounds_toArray, List.set_cons_zero, List.set_cons_succ]
      refine Rg.take (i := 11) (v := ?_) 40 rfl (by kernel_rfl) (by kernel_rfl) (by kernel_rfl) (by kernel_rfl) (fun _ _ _ h => h) (Or.inl ⟨by rfl, ?_⟩) hS0 ?_
      rotate_left
      · intro w hSw
        go_simp
        try with_reducible rfl
      try simp only [Act.put, List.setIfInBounds_toArray, List.set_cons_zero, List.set_cons_succ]
      refine Rg.take (i := 12) (v := ?_) 40 rfl (by kernel_rfl) (by kernel_rfl) (by kernel_rfl) (by kernel_rfl) (fun _ _ _ h => h) (Or.inl ⟨by rfl, ?_⟩) hS0 ?_
      rotate_left
      · intro w hSw
        go_simp
        try with_reducible rfl
      try simp only [Act.put, List.setIfInBounds_toArray, List.set_cons_zero, List.set_cons_succ]
      refine Rg.take (i := 13) (v := ?_) 40 rfl (by kernel_rfl) (by kernel_rfl) (by kernel_rfl) (by kernel_rfl) (fun _ _ _ h => h) (Or.inl ⟨by rfl, ?_⟩) hS0 ?_
      rotate_left
      · intro w hSw
        go_simp
        try with_reducible rfl
      try simp only [Act.put, List.setIfInBounds_toArray, List.set_cons_zero, List.set_cons_succ]
      refine Rg.take (i := 14) (v := ?_) 40 rfl (by kernel_rfl) (by kernel_rfl) (by kernel_rfl) (by kernel_rfl) (fun _ _ _ h => h) (Or.inl ⟨by rfl, ?_⟩) hS0 ?_
      rotate_left
      · intro w hSw
        go_simp
        try with_reducible rfl
      try simp only [Act.put, List.setIfInBounds_toArray, List.set_cons_zero, List.set_cons_succ]
      refine Rg.take (i := 15) (v := ?_) 40 rfl (by kernel_rfl) (by kernel_rfl) (by kernel_rfl) (by kernel_rfl) (fun _ _ _ h => h) (Or.inl ⟨by rfl, ?_⟩) hS0 ?_
      rotate_left
      · intro w hSw
        go_simp
        try with_reducible rfl
      try simp only [Act.put, List.setIfInBounds_toArray, List.set_cons_zero, List.set_cons_succ]
      refine Rg.take (i := 16) (v := ?_) 40 rfl (by kernel_rfl) (by kernel_rfl) (by kernel_rfl) (by kernel_rfl) (fun _ _ _ h => h) (Or.inl ⟨by rfl, ?_⟩) hS0 ?_
      rotate_left
      · intro w hSw
        go_simp
        try with_reducible rfl
      try simp only [Act.put, List.setIfInBounds_toArray, List.set_cons_zero, List.set_cons_succ]
      refine Rg.take (i := 17) (v := ?_) 40 rfl (by kernel_rfl) (by kernel_rfl) (by kernel_rfl) (by kernel_rfl) (fun _ _ _ h => h) (Or.inl ⟨by rfl, ?_⟩) hS0 ?_
      rotate_left
      · intro w hSw
        go_simp
        try with_reducible rfl
      try simp only [Act.put, List.setIfInBounds_toArray, List.set_cons_zero, List.set_cons_succ]
      refine Rg.take (i := 18) (v := ?_) 40 rfl (by kernel_rfl) (by kernel_rfl) (by kernel_rfl) (by kernel_rfl) (fun _ _ _ h => h) (Or.inl ⟨by rfl, ?_⟩) hS0 ?_
      rotate_left
      · intro w hSw
        go_simp
        try with_reducible rfl
      try simp only [Act.put, List.setIfInBounds_toArray, List.set_cons_zero, List.set_cons_succ]
      refine Rg.take (i := 19) (v := ?_) 40 rfl (by kernel_rfl) (by kernel_rfl) (by kernel_rfl) (by kernel_rfl) (fun _ _ _ h => h) (Or.inl ⟨by rfl, ?_⟩) hS0 ?_
      rotate_left
      · intro w hSw
        go_simp
        try with_reducible rfl
      try simp only [Act.put, List.setIfInBounds_toArray, List.set_cons_zero, List.set_cons_succ]
      refine Rg.take (i := 20) (v := ?_) 40 rfl (by kernel_rfl) (by kernel_rfl) (by kernel_rfl) (by kernel_rfl) (fun _ _ _ h => h) (Or.inl ⟨by rfl, ?_⟩) hS0 ?_
      rotate_left
      · intro w hSw
        go_simp
        try with_reducible rfl
      try simp only [Act.put, List.setIfInBounds_toArray, List.set_cons_zero, List.set_cons_succ]
      refine Rg.take (i := 21) (v := ?_) 40 rfl (by kernel_rfl) (by kernel_rfl) (by kernel_rfl) (by kernel_rfl) (fun _ _ _ h => h) (Or.inl ⟨by rfl, ?_⟩) hS0 ?_
      rotate_left
      · intro w hSw
        go_simp
        try with_reducible rfl
      try simp only [Act.put, List.setIfInBounds_toArray, List.set_cons_zero, List.set_cons_succ]
      refine Rg.take (i := 22) (v := ?_) 40 rfl (by kernel_rfl) (by kernel_rfl) (by kernel_rfl) (by kernel_rfl) (fun _ _ _ h => h) (Or.inl ⟨by rfl, ?_⟩) hS0 ?_
      rotate_left
      · intro w hSw
        go_simp
        try with_reducible rfl
      try simp only [Act.put, List.setIfInBounds_toArray, List.set_cons_zero, List.set_cons_succ]
      refine Rg.step (i := 23) (by kernel_rfl) rfl fun K' hK' => ?_
      have HK := Lib.hid hK'
      clear hK'
      go_simp
      refine HK.out _ _ ⟨fun _ => hS1, ?_⟩
      clear HK K'
      try simp only [Act.put, List.setIfInBounds_toArray, List.set_cons_zero, List.set_cons_succ]
      refine Rg.step (i := 24) (by kernel_rfl) rfl fun K' hK' => ?_
      refine Rw.stepAt Ne.elemA Ne.encA_len Ne.encA_one (by rfl) (.tmp 54) (.tmp 76) (by rfl) Z v ((Ne.scA x ml).take j) (by rfl) HO1.out ⟨wr.heap.size, 0, none⟩ 1 [⟨fr, to, x * ca⟩] 1 rfl (by rfl) HNW.out HLN.out HBZ ?_
      intro v' w' hown' hgrow _
      rw [← HTK.out] at hown'
      obtain ⟨vo, vc, hv', _⟩ := Rw.own_row Ne.encA_len hown'
      rw [HTL.out] at hv'
      subst hv'
      have HX2 := Lib.hid (Ne.netBox_grown HMA.out hgrow HV1.out)
      have nf := Ne.netBox_frozen HX2.out 3
      have o3 := (Ne.netBox_cells HX2.out).2.2.2
      have hS2 := (show (fun w' => w'.cell? ⟨bm, 3, none⟩ = some v ∧ w'.cell? ⟨bn, 3, none⟩ = some (.slice (some ⟨b, off, none⟩) ml.length cm) ∧ w'.cell? ⟨b, off + j * 3, none⟩ = some (.int .i64 fr) ∧ w'.cell? ⟨b, off + j * 3 + 1, none⟩ = some (.int .i64 to) ∧ w'.cell? ⟨b, off + j * 3 + 2, none⟩ = some (.int .i64 ca)) w' from ⟨o3, Ne.held_grow hgrow HV2'.out n3, Ne.held_grow hgrow HV3.out c0, Ne.held_grow hgrow HV3.out c1, Ne.held_grow hgrow HV3.out c2⟩)
      refine hK' _ _ ⟨fun _ => hS2, ?_⟩
      clear hK' K'
      try simp only [Act.put, List.setIfInBounds_toArray, List.set_cons_zero, List.set_cons_succ]
      refine Rg.take (i := 25) (v := ?_) 40 rfl (by kernel_rfl) (by kernel_rfl) (by kernel_rfl) (by kernel_rfl) (fun _ _ _ h => h) (Or.inl ⟨by rfl, ?_⟩) hS2 ?_
      rotate_left
      · intro w hSw
        go_simp
        try with_reducible rfl
      try simp only [Act.put, List.setIfInBounds_toArray, List.set_cons_zero, List.set_cons_succ]
      refine Rg.step (i := 26) (by kernel_rfl) rfl fun K' hK' => ?_
      have HK := Lib.hid hK'
      clear hK'
      go_simp
      refine HK.out _ _ ⟨fun h => absurd rfl h, ?_⟩
      clear HK K'
      try simp only [Act.put, List.setIfInBounds_toArray, List.set_cons_zero, List.set_cons_succ]
      refine Rg.finished (by kernel_rfl) ?_ _
      have HM2 := Lib.hid (Ne.netBox_set (v2 := .slice vo (j + 1) vc) HX2.out)
      have HO2 := Lib.hid (Rw.own_set hown' (p := ⟨bm, 3, none⟩) (fun h => by have := Rw.own_block hown' _ h; simp only at this; omega) (.slice vo (j + 1) vc))
      have HG2 := Lib.hid ((HGA.out.grown hgrow (fun h => by have := hvb _ h.symm; omega)).far (p := ⟨bm, 3, none⟩) (Ne.symm hne) (.slice vo (j + 1) vc))
      have HB2 := Lib.hid ((HBA.out.grown hgrow (by omega) (fun b hb => by have := hvb _ hb; omega)).setCell (p := ⟨bm, 3, none⟩) (Nat.le_refl bm) (.slice vo (j + 1) vc))
      have HZ2 := Lib.hid (show Z ≤ (w'.setCell ⟨bm, 3, none⟩ (.slice vo (j + 1) vc)).heap.size by have := hgrow.size; simp only [World.setCell, Array.size_modify]; omega)
      clear hS0 hS1 hS2 hown' hgrow HX2 nf o3 HO1 HNW HBZ HMA HGA HBA m0 m1 m2 m3 n3 c0 c1 c2 h0 z0
      generalize (w'.setCell ⟨bm, 3, none⟩ (.slice vo (j + 1) vc)) = W2 at *
      have f0 := (HB2.out.cell (p := ⟨fb, j, none⟩) hfbm).trans f4
      have h0 := HG2.out.cell (i := j) (by rw [Ne.mulL_len]; exact hlt)
      have z0 := HG2.out.frozen j
      have HG3 := Lib.hid (HG2.out.set (i := j) (by rw [Ne.mulL_len]; exact hlt) (x * y))
      rw [HMS.out] at HG3
      have HM3 := Lib.hid (Ne.netBox_other HM2.out (b2 := bg) (o := j) (v2 := .int .i64 (x * y)) hne)
      have HO3 := Lib.hid (Rw.own_set HO2.out (p := ⟨bg, j, none⟩) (fun h => by have := Rw.own_block HO2.out _ h; simp only at this; omega) (.int .i64 (x * y)))
      have HB3 := Lib.hid (HB2.out.setCell (p := ⟨bg, j, none⟩) hbmg (.int .i64 (x * y)))
      have HZ3 := Lib.hid (show Z ≤ (W2.setCell ⟨bg, j, none⟩ (.int .i64 (x * y))).heap.size by have := HZ2.out; simp only [World.setCell, Array.size_modify]; exact this)
      clear HG2 HM2 HO2 HB2 HZ2 HM HO HG HBW
      go_wp2
      go_roundw
      case rel => exact ⟨j + 1, _, by go_num, by omega, HM3, HO3, HG3, HB3, HZ3⟩
      case measure => simp [intOf]; omega
    · have ej : j = ml.length := by omega
      have hjn : ¬ (j : Int) < (ml.length : Int) := by omega
      rw [ej] at HG HO
      have etk : (Ne.scA x ml).take ml.length = Ne.scA x ml := List.take_of_length_le (by rw [Ne.scA_len]; exact Nat.le_refl _)
      rw [etk] at HO
      obtain ⟨mo, mc, hv, _⟩ := Rw.own_row Ne.encA_len HO.out
      rw [Ne.scA_len] at hv
      subst hv
      have CK2 := Lib.hid (Ne.sc_check FH.out FI.out f8' hx1 hx2)
      obtain ⟨hF2, hV2⟩ := Ne.sc_flow FL.out hx1
      have hvs := Ne.val_small RT.out FL.out FI.out f8'
      have hv0 := FL.out.val
      simp only at hv0
      obtain ⟨G, hG⟩ : ∃ z, z = Ne.mulL x f ml.length ml.length := ⟨_, rfl⟩
      obtain ⟨SA, hSA⟩ : ∃ z, z = Ne.scA x ml := ⟨_, rfl⟩
      have hSAl : SA.length = ml.length := by rw [hSA, Ne.scA_len]
      rw [← hG] at HG hF2 hV2
      rw [← hSA] at HO CK2 hF2 hV2
      clear hG hSA ej hlt hj etk
      have HF2 := Lib.hid hF2
      have HSL := Lib.hid hSAl
      have HGL := Lib.hid (show G.length = ml.length by rw [← hSAl]; exact hF2.len)
      obtain ⟨az1, az2⟩ := Ne.add_nought CK2.out hF2
      have VF := Lib.hid fun w' h1 h2 => Ne.val_flow (n := ⟨mn, ms, mt, ml⟩) (f := f) om cm (some ⟨fb, 0, none⟩) ml.length w' CK.out h1 h2 FL.out
      have VM := Lib.hid (show ∀ w', Ne.ARow w' mo SA → Ne.IRow w' (some ⟨bg, 0, none⟩) G → Calls Try.prog 13 #[.agg #[.int .i64 mn, .int .i64 ms, .int .i64 mt, .slice mo ml.length mc], .slice (some ⟨bg, 0, none⟩) ml.length ml.length] w' fun e w2 => e = .returned (.tuple #[.int .i64 (x * Ne.exc ml f mt), .int .i64 0]) ∧ Below w'.heap.size w' w2 from fun w' h1 h2 => by
        have h := Ne.val_flow (n := ⟨mn, ms, mt, SA⟩) (f := G) mo mc (some ⟨bg, 0, none⟩) ml.length w' CK2.out h1 h2 HF2.out
        simp only at h
        rw [hV2, HSL.out] at h
        simp only [Ne.encN, HSL.out] at h
        exact h)
      have AZ := Lib.hid (show ∀ zb w', Ne.ARow w' mo SA → Ne.IRow w' (some ⟨bg, 0, none⟩) G → Ne.IRow w' (some ⟨zb, 0, none⟩) (List.replicate ml.length 0) → Calls Try.prog 15 #[.agg #[.int .i64 mn, .int .i64 ms, .int .i64 mt, .slice mo ml.length mc], .slice (some ⟨bg, 0, none⟩) ml.length ml.length, .slice (some ⟨zb, 0, none⟩) ml.length ml.length] w' fun e w2 => ∃ o c, e = .returned (.tuple #[.slice o ml.length c, .int .i64 0]) ∧ Ne.IRow w2 o G ∧ Below w'.heap.size w' w2 from fun zb w' h1 h2 h3 => by
        have h := Ne.add_ok (n := ⟨mn, ms, mt, SA⟩) (f := G) (g := List.replicate ml.length 0) mo mc (some ⟨bg, 0, none⟩) ml.length w' CK2.out h1 h2 (some ⟨zb, 0, none⟩) ml.length h3 HF2.out.len (by simp only [List.length_replicate]; exact HSL.out.symm)
        simp only [HSL.out] at az1 az2
        rw [az1, az2] at h
        simp only [Ne.encN, HSL.out, HGL.out] at h
        exact h)
      have SM := Lib.hid (show ∀ x1 x2 y1 y2 w', Ne.IRow w' x1 G → Ne.IRow w' x2 G → Calls Try.prog 19 #[.slice x1 ml.length y1, .slice x2 ml.length y2] w' fun e w2 => e = .returned (.bool true) ∧ Below w'.heap.size w' w2 from fun x1 x2 y1 y2 w' h1 h2 => by
        have h := Ne.rsame_l x1 x2 y1 y2 G G w' h1 h2 (by rw [HGL.out]; omega) (by rw [HGL.out]; omega)
        rw [show decide (G = G) = true by simp, HGL.out] at h
        exact h)
      simp only at VF
      clear hF2 hV2 hSAl az1 az2
      generalize Ne.exc ml f mt = V at *
      have hxv := Ne.mul_bd hx1 hx2 hv0 hvs
      have hwv : IntKind.i64.wrap (x * V) = x * V := by rw [IntKind.wrap_i64]; omega
      have HMR := Lib.hid (Ne.arow_ofA HO.out)
      have HBT := Lib.hid (HB4.out.trans (HBK.out.mono HB4.out.size))
      obtain ⟨n0, n1, n2, n3⟩ := Ne.netBox_cells HNR.out
      clear HO HBW HZ RD
      go_wp2_with fail
      refine (VF.out wr HRR.out HFR.out.irow).mono ?_
      rintro e w7 ⟨rfl, hb⟩
      have HB7 := Lib.hid (HBT.out.trans (hb.mono HBT.out.size))
      have HM7 := Lib.hid (Ne.netBox_below HM.out hb (Ne.netBox_lt HM.out))
      have HMR7 := Lib.hid (HMR.out.kept hb)
      have HG7 := Lib.hid (HG.out.kept hb)
      clear hb n0 n1 n2 n3
      obtain ⟨n0, n1, n2, n3⟩ := Ne.netBox_cells HM7.out
      go_wp2_with fail
      refine (VM.out w7 HMR7.out HG7.out.irow).mono ?_
      rintro e w9 ⟨rfl, hb⟩
      have HB9 := Lib.hid (HB7.out.trans (hb.mono HB7.out.size))
      have HM9 := Lib.hid (Ne.netBox_below HM7.out hb (Ne.netBox_lt HM7.out))
      have HMR9 := Lib.hid (HMR7.out.kept hb)
      have HG9 := Lib.hid (HG7.out.kept hb)
      clear hb n0 n1 n2 n3
      obtain ⟨n0, n1, n2, n3⟩ := Ne.netBox_cells HM9.out
      have hmkL := Ne.make_l ml.length hl6
      have HD9 := Lib.hid (show Below w9.heap.size w9 (w9.alloc (.cells (madeCells #[.int .i64 0] ml.length) 2)).drew from Ne.below_drew ((Below.refl _ _).alloc (Nat.le_refl _) _))
      have HZ9 := Lib.hid (show Ne.LBox (w9.alloc (.cells (madeCells #[.int .i64 0] ml.length) 2)).drew w9.heap.size (List.replicate ml.length 0) from Ne.lbox_made w9 ml.length rfl)
      go_wp2
      have hS0 := (show (fun w' => w'.cell? ⟨bm, 0, none⟩ = some (.int .i64 mn) ∧ w'.cell? ⟨bm, 1, none⟩ = some (.int .i64 ms) ∧ w'.cell? ⟨bm, 2, none⟩ = some (.int .i64 mt) ∧ w'.cell? ⟨bm, 3, none⟩ = some (.slice mo ml.length mc)) w9.drew from ⟨n0, n1, n2, n3⟩)
      have hS1 := (show (fun w' => w'.cell? ⟨bm, 0, none⟩ = some (.int .i64 mn) ∧ w'.cell? ⟨bm, 1, none⟩ = some (.int .i64 ms) ∧ w'.cell? ⟨bm, 2, none⟩ = some (.int .i64 mt) ∧ w'.cell? ⟨bm, 3, none⟩ = some (.slice mo ml.length mc)) (w9.alloc (.cells (madeCells #[.int .i64 0] ml.length) 2)).drew from ⟨Ne.held_new n0, Ne.held_new n1, Ne.held_new n2, Ne.held_new n3⟩)
      refine Rh.start (S := (fun w' => w'.cell? ⟨bm, 0, none⟩ = some (.int .i64 mn) ∧ w'.cell? ⟨bm, 1, none⟩ = some (.int .i64 ms) ∧ w'.cell? ⟨bm, 2, none⟩ = some (.int .i64 mt) ∧ w'.cell? ⟨bm, 3, none⟩ = some (.slice mo ml.length mc))) (by kernel_rfl) ?_
      refine Rh.take (some 101) (i := 0) (v := ?_) rfl (by kernel_rfl) (by kernel_rfl) (by kernel_rfl) (by kernel_rfl) (fun _ _ _ h => h) (Or.inl ⟨by rfl, ?_⟩) hS0 ?_
      rotate_left
      · intro w hSw
        go_simp
        try with_reducible rfl
      try simp only [Act.put, List.setIfInBounds_toArray, List.set_cons_zero, List.set_cons_succ]
      refine Rh.take (some 102) (i := 1) (v := ?_) rfl (by kernel_rfl) (by kernel_rfl) (by kernel_rfl) (by kernel_rfl) (fun _ _ _ h => h) (Or.inl ⟨by rfl, ?_⟩) hS0 ?_
      rotate_left
      · intro w hSw
        go_simp
        try with_reducible rfl
      try simp only [Act.put, List.setIfInBounds_toArray, List.set_cons_zero, List.set_cons_succ]
      refine Rh.take (some 103) (i := 2) (v := ?_) rfl (by kernel_rfl) (by kernel_rfl) (by kernel_rfl) (by kernel_rfl) (fun _ _ _ h => h) (Or.inl ⟨by rfl, ?_⟩) hS0 ?_
      rotate_left
      · intro w hSw
        go_simp
        try with_reducible rfl
      try simp only [Act.put, List.setIfInBounds_toArray, List.set_cons_zero, List.set_cons_succ]
      refine Rh.take (some 104) (i := 3) (v := ?_) rfl (by kernel_rfl) (by kernel_rfl) (by kernel_rfl) (by kernel_rfl) (fun _ _ _ h => h) (Or.inl ⟨by rfl, ?_⟩) hS0 ?_
      rotate_left
      · intro w hSw
        go_simp
        try with_reducible rfl
      try simp only [Act.put, List.setIfInBounds_toArray, List.set_cons_zero, List.set_cons_succ]
      refine Rh.step (i := 4) (by kernel_rfl) rfl fun K' hK' => ?_
      have HK := Lib.hid hK'
      clear hK'
      go_simp
      refine HK.out _ _ ⟨hS1, ?_⟩
      clear HK K'
      try simp only [Act.put, List.setIfInBounds_toArray, List.set_cons_zero, List.set_cons_succ]
      refine Rh.step (i := 5) (by kernel_rfl) rfl fun K' hK' => ?_
      have HK := Lib.hid hK'
      clear hK'
      go_simp
      refine (AZ.out _ _ (HMR9.out.kept HD9.out) (HG9.out.kept HD9.out).irow HZ9.out.irow).mono ?_
      rintro e w10 ⟨oo, oc, rfl, ho, hb⟩
      have hS2 := (show (fun w' => w'.cell? ⟨bm, 0, none⟩ = some (.int .i64 mn) ∧ w'.cell? ⟨bm, 1, none⟩ = some (.int .i64 ms) ∧ w'.cell? ⟨bm, 2, none⟩ = some (.int .i64 mt) ∧ w'.cell? ⟨bm, 3, none⟩ = some (.slice mo ml.length mc)) w10 from Ne.netBox_cells (Ne.netBox_below (Ne.netBox_below HM9.out HD9.out (Ne.netBox_lt HM9.out)) hb (Ne.netBox_lt (Ne.netBox_below HM9.out HD9.out (Ne.netBox_lt HM9.out)))))
      refine HK.out _ _ ⟨hS2, ?_⟩
      clear HK K'
      try simp only [Act.put, List.setIfInBounds_toArray, List.set_cons_zero, List.set_cons_succ]
      refine Rh.take (some 100) (i := 6) (v := ?_) rfl (by kernel_rfl) (by kernel_rfl) (by kernel_rfl) (by kernel_rfl) (fun _ _ _ h => h) (Or.inl ⟨by rfl, ?_⟩) hS2 ?_
      rotate_left
      · intro w hSw
        go_simp
        try with_reducible rfl
      try simp only [Act.put, List.setIfInBounds_toArray, List.set_cons_zero, List.set_cons_succ]
      refine Rh.take (some 107) (i := 7) (v := ?_) rfl (by kernel_rfl) (by kernel_rfl) (by kernel_rfl) (by kernel_rfl) (fun _ _ _ h => h) (Or.inl ⟨by rfl, ?_⟩) hS2 ?_
      rotate_left
      · intro w hSw
        go_simp
        try with_reducible rfl
      try simp only [Act.put, List.setIfInBounds_toArray, List.set_cons_zero, List.set_cons_succ]
      refine Rh.take (some 108) (i := 8) (v := ?_) rfl (by kernel_rfl) (by kernel_rfl) (by kernel_rfl) (by kernel_rfl) (fun _ _ _ h => h) (Or.inl ⟨by rfl, ?_⟩) hS2 ?_
      rotate_left
      · intro w hSw
        go_simp
        try with_reducible rfl
      try simp only [Act.put, List.setIfInBounds_toArray, List.set_cons_zero, List.set_cons_succ]
      refine Rh.take (some 22) (i := 9) (v := ?_) rfl (by kernel_rfl) (by kernel_rfl) (by kernel_rfl) (by kernel_rfl) (fun _ _ _ h => h) (Or.inl ⟨by rfl, ?_⟩) hS2 ?_
      rotate_left
      · intro w hSw
        go_simp
        try with_reducible rfl
      try simp only [Act.put, List.setIfInBounds_toArray, List.set_cons_zero, List.set_cons_succ]
      refine Rh.take (some 23) (i := 10) (v := ?_) rfl (by kernel_rfl) (by kernel_rfl) (by kernel_rfl) (by kernel_rfl) (fun _ _ _ h => h) (Or.inl ⟨by rfl, ?_⟩) hS2 ?_
      rotate_left
      · intro w hSw
        go_simp
        try with_reducible rfl
      try simp only [Act.put, List.setIfInBounds_toArray, List.set_cons_zero, List.set_cons_succ]
      refine Rh.done (by kernel_rfl) ?_ _
      have HD10 := Lib.hid (HD9.out.trans (hb.mono HD9.out.size))
      have HB10 := Lib.hid (HB9.out.trans (HD10.out.mono HB9.out.size))
      have HG10 := Lib.hid (HG9.out.kept HD10.out)
      have HO10 := Lib.hid ho
      clear hS0 hS1 hS2 ho hb n0 n1 n2 n3 hmkL
      go_wp2_with fail
      refine (SM.out _ _ _ _ w10 HO10.out HG10.out.irow).mono ?_
      rintro e w11 ⟨rfl, hb⟩
      have HB11 := Lib.hid (HB10.out.trans (hb.mono HB10.out.size))
      clear hb
      go_wp2
      go_ret
      exact ⟨rfl, HB11.out⟩

end Go.Proofs.Ytiimomonbdckgaa.flowScales
