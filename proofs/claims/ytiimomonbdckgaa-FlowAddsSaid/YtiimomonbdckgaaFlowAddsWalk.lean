/- FlowAdds: for every input the law returns true and its arguments read as they did. No condition. -/
import Derived.Test.YtiimomonbdckgaaFla
import Derived.Test.YtiimomonbdckgaaRouted
import Derived.Test.YtiimomonbdckgaaOpenc
import Derived.Test.YtiimomonbdckgaaRows
import Derived.WalkKit
import Derived.ProofKit
import Derived.OpenShut
import Derived.ShutString
import Derived.ChangeOld
import Derived.Below
import Derived.Deep.Strs
namespace Go.Proofs.Ytiimomonbdckgaa.flowAdds
open Go.ChangeShapes Go.WideShapes Go.ChangeAt Go.RowKit
open Go.ChangeMaps (open_string shut_string)
set_option linter.unusedVariables false
set_option linter.unusedSimpArgs false

theorem own : ownKnob Try.prog.godebug = none := by kernel_rfl
theorem laidOut : laidOutB Try.prog = true := by kernel_rfl

def IntsIn (k : IntKind) (w : World) (a : Option Addr) (len cap : Nat) (zs : List Int) : Prop :=
  (a = none ∧ len = 0 ∧ cap = 0 ∧ zs = []) ∨
  ∃ x, a = some x ∧ len ≤ cap ∧ cap ≤ maxLen ∧ zs.length = cap ∧ (∀ i, i < zs.length → w.cell? (x.add i) = some (.int k (zs.getD i 0))) ∧ ∀ n ∈ zs, (Lit.int k n).wf = true



set_option maxRecDepth 100000 in
set_option maxHeartbeats 4000000 in
theorem walk (a0 : Int) (a1 : Int) (a2 : List Ne.Arc) (o2 : Option Addr) (c2 : Nat) (a3 : Option Addr) (len3 cap3 : Nat) (l3 : List Int) (a4 : Option Addr) (len4 cap4 : Nat) (l4 : List Int) (a5 : Int) (w : World) (w0 : (Lit.int .i64 a0).wf = true) (w1 : (Lit.int .i64 a1).wf = true) (k2 : ∀ a ∈ a2, Ne.Arc.ok a) (z2 : a2.length ≤ c2) (y2 : c2 ≤ maxLen) (n2 : o2 = none → c2 = 0) (r2 : Ne.ARow w o2 a2) (w3 : IntsIn .i64 w a3 len3 cap3 l3) (w4 : IntsIn .i64 w a4 len4 cap4 l4) (w5 : (Lit.int .i64 a5).wf = true) :
    Calls Try.prog 5 #[.int .i64 a0, .int .i64 a1, .slice o2 a2.length c2, .slice a3 len3 cap3, .slice a4 len4 cap4, .int .i64 a5] w fun e w' => e = .returned (.bool true) ∧ Below w.heap.size w w' := by
  have HSH := Lib.hid (Ne.shown_any w)
  obtain ⟨mn, hmn⟩ : ∃ x, x = (Ne.madeN a0 a1 a2).n := ⟨_, rfl⟩
  obtain ⟨ms, hms⟩ : ∃ x, x = (Ne.madeN a0 a1 a2).s := ⟨_, rfl⟩
  obtain ⟨mt, hmt⟩ : ∃ x, x = (Ne.madeN a0 a1 a2).t := ⟨_, rfl⟩
  obtain ⟨ml, hml⟩ : ∃ x, x = (Ne.madeN a0 a1 a2).l := ⟨_, rfl⟩
  have em : Ne.madeN a0 a1 a2 = ⟨mn, ms, mt, ml⟩ := by rw [hmn, hms, hmt, hml]
  obtain ⟨f1, f2, f3, f4, f5, f6, f7, f8, f9⟩ := Ne.madeN_fine (nodes := a0) (ends := a1) k2
  have ck := Ne.made_check (nodes := a0) (ends := a1) k2
  have MD := Lib.hid fun w' (h : Ne.ARow w' o2 a2) => Ne.made_s a0 a1 a2 o2 c2 w' (bounds_i64 w0) (bounds_i64 w1) k2 h
  rw [em] at MD f1 f2 f3 f4 f5 f6 f7 f8 f9 ck
  simp only at f1 f2 f3 f4 f5 f6 f7 f8 f9
  clear hmn hms hmt hml em
  have f8' : ml.length ≤ 24 := by omega
  clear f8
  have CK := Lib.hid ck
  have RT := Lib.hid (Ne.right_of ck)
  have FI := Lib.hid f9
  have CAP := Lib.hid (show ∀ a ∈ ml, Ne.in64 a.cap from fun a ha => by have := (f9 a ha).2.2; unfold Ne.in64; omega)
  have hl6 : ml.length ≤ 1000000 := by omega
  have F7 := Lib.hid f7
  have RA := Lib.hid r2
  clear r2 f7 f9 ck
  obtain ⟨ks, hk3, hq3, bq3, _, _, _⟩ := Ne.ints_row w3
  subst hk3
  clear w3
  have BK3 := Lib.hid bq3
  have KR3 := Lib.hid hq3
  clear bq3 hq3
  obtain ⟨js, hk4, hq4, bq4, _, _, _⟩ := Ne.ints_row w4
  subst hk4
  clear w4
  have BK4 := Lib.hid bq4
  have KR4 := Lib.hid hq4
  clear bq4 hq4
  have b5 := bounds_i64 w5
  go_enter Try.func5, Try.ntmps5
  go_wp2_with fail
  refine HSH.out.mono ?_
  rintro e w1 ⟨rfl, hb⟩
  have HB1 := Lib.hid hb
  clear hb
  go_wp2_with fail
  refine (MD.out _ (RA.out.kept HB1.out)).mono ?_
  rintro e w2 ⟨om, cm, rfl, ho, hb⟩
  have HB2 := Lib.hid (HB1.out.trans (hb.mono HB1.out.size))
  have HV2 := Lib.hid (Rw.own_lt ho)
  have HO3 := Lib.hid (Rw.own_base (Rw.own_alloc ho (.cells #[.int .i64 mn, .int .i64 ms, .int .i64 mt, .slice om ml.length cm] 24)) (B' := w.heap.size) HB1.out.size)
  have HN3 := Lib.hid (Ne.netBox_new w2 mn ms mt (.slice om ml.length cm))
  have hz2 : w.heap.size ≤ w2.heap.size := HB2.out.size
  have HB3 := Lib.hid (HB2.out.alloc hz2 (.cells #[.int .i64 mn, .int .i64 ms, .int .i64 mt, .slice om ml.length cm] 24))
  clear ho hb MD RA HSH
  go_wp2_with fail
  obtain ⟨bn, hbn⟩ : ∃ b, b = w2.heap.size := ⟨_, rfl⟩
  have hbn3 : bn < (w2.alloc (.cells #[.int .i64 mn, .int .i64 ms, .int .i64 mt, .slice om ml.length cm] 24)).heap.size := by rw [hbn]; simp
  rw [← hbn] at HN3 HV2 hz2 ⊢
  clear hbn HB2 HB1
  generalize (w2.alloc (.cells #[.int .i64 mn, .int .i64 ms, .int .i64 mt, .slice om ml.length cm] 24)) = W3 at *
  have HR3 := Lib.hid (Ne.arow_ofA HO3.out)
  obtain ⟨f, hf⟩ : ∃ x, x = Ne.routeN ⟨mn, ms, mt, ml⟩ ks := ⟨_, rfl⟩
  have FL := Lib.hid (show Ne.Flow ⟨mn, ms, mt, ml⟩ f by rw [hf]; exact Ne.route_flow RT.out _)
  have RD := Lib.hid fun w' h1 h2 => Ne.routed_any ⟨mn, ms, mt, ml⟩ om cm a3 cap3 ks w' h1 h2 CK.out BK3.out
  rw [← hf] at RD
  refine (RD.out _ HR3.out (KR3.out.kept HB3.out)).mono ?_
  rintro e w4 ⟨fb, rfl, hfb, hl, hb⟩
  have HB4 := Lib.hid (HB3.out.trans (hb.mono HB3.out.size))
  have HN4 := Lib.hid (Ne.netBox_below HN3.out hb (Ne.netBox_lt HN3.out))
  have HO4 := Lib.hid (Rw.own_below HO3.out hb)
  have HR4 := Lib.hid (HR3.out.kept hb)
  have HFB4 := Lib.hid hl
  have hfb2 := hl.lt
  clear hl hb
  obtain ⟨n0, n1, n2, n3⟩ := Ne.netBox_cells HN4.out
  go_wp2_with fail
  obtain ⟨g, hg⟩ : ∃ x, x = Ne.routeN ⟨mn, ms, mt, ml⟩ js := ⟨_, rfl⟩
  have FL2 := Lib.hid (show Ne.Flow ⟨mn, ms, mt, ml⟩ g by rw [hg]; exact Ne.route_flow RT.out _)
  have RD2 := Lib.hid fun w' h1 h2 => Ne.routed_any ⟨mn, ms, mt, ml⟩ om cm a4 cap4 js w' h1 h2 CK.out BK4.out
  rw [← hg] at RD2
  refine (RD2.out _ HR4.out (KR4.out.kept HB4.out)).mono ?_
  rintro e w5 ⟨gb, rfl, hgb, hl, hb⟩
  have HB5 := Lib.hid (HB4.out.trans (hb.mono HB4.out.size))
  have HN5 := Lib.hid (Ne.netBox_below HN4.out hb (Ne.netBox_lt HN4.out))
  have HO5 := Lib.hid (Rw.own_below HO4.out hb)
  have HR5 := Lib.hid (HR4.out.kept hb)
  have HGB5 := Lib.hid hl
  have hgb2 := hl.lt
  have HF5 := Lib.hid (HFB4.out.kept hb)
  clear hl hb n0 n1 n2 n3
  obtain ⟨ac1, ac2⟩ := Ne.add_comm CK.out FL.out FL2.out
  obtain ⟨an1, an2⟩ := Ne.add_nought CK.out FL.out
  have HBO := Lib.hid (Ne.both_flow FL.out FL2.out)
  have AF := Lib.hid fun w' h1 h2 h3 => Ne.add_ok (n := ⟨mn, ms, mt, ml⟩) (f := f) (g := g) om cm (some ⟨fb, 0, none⟩) ml.length w' CK.out h1 h2 (some ⟨gb, 0, none⟩) ml.length h3 FL.out.len FL2.out.len
  have AG := Lib.hid fun w' h1 h2 h3 => Ne.add_ok (n := ⟨mn, ms, mt, ml⟩) (f := g) (g := f) om cm (some ⟨gb, 0, none⟩) ml.length w' CK.out h1 h2 (some ⟨fb, 0, none⟩) ml.length h3 FL2.out.len FL.out.len
  have AZ := Lib.hid fun zb w' h1 h2 h3 => Ne.add_ok (n := ⟨mn, ms, mt, ml⟩) (f := f) (g := List.replicate ml.length 0) om cm (some ⟨fb, 0, none⟩) ml.length w' CK.out h1 h2 (some ⟨zb, 0, none⟩) ml.length h3 FL.out.len (by simp)
  rw [← ac1, ← ac2] at AG
  simp only at an1 an2
  rw [an1, an2] at AZ
  have HFL := Lib.hid (show f.length = ml.length from FL.out.len)
  simp only [HFL.out] at AZ
  have hall := Ne.addL_len ⟨mn, ms, mt, ml⟩ f g
  have HBV := Lib.hid (show ∀ h : Ne.addE ⟨mn, ms, mt, ml⟩ f g = 0, ∀ so sc w', Ne.ARow w' om ml → Ne.IRow w' so (Ne.addL ⟨mn, ms, mt, ml⟩ f g) → Calls Try.prog 13 #[Ne.encN ⟨mn, ms, mt, ml⟩ om cm, .slice so (Ne.addL ⟨mn, ms, mt, ml⟩ f g).length sc] w' fun e w2 => e = .returned (.tuple #[.int .i64 (Ne.exc ml f mt + Ne.exc ml g mt), .int .i64 0]) ∧ Below w'.heap.size w' w2 from fun h so sc w' h1 h2 => by
    obtain ⟨q1, q2⟩ := HBO.out h
    have hv := Ne.fval_any ⟨mn, ms, mt, ml⟩ om cm so sc (Ne.addL ⟨mn, ms, mt, ml⟩ f g) w' h1 h2 hl6 CAP.out
    rw [Ne.flow_vaV CK.out q1, Ne.flow_chkF CK.out q1, q2] at hv
    exact hv)
  have SM2 := Lib.hid fun x1 x2 y1 y2 w' h1 h2 => Ne.rsame_l x1 x2 y1 y2 f f w' h1 h2 (by have := HFL.out; omega) (by have := HFL.out; omega)
  rw [show decide (f = f) = true by simp] at SM2
  simp only [HFL.out] at SM2
  have VF := Lib.hid fun w' h1 h2 => Ne.val_flow (n := ⟨mn, ms, mt, ml⟩) (f := f) om cm (some ⟨fb, 0, none⟩) ml.length w' CK.out h1 h2 FL.out
  have VG := Lib.hid fun w' h1 h2 => Ne.val_flow (n := ⟨mn, ms, mt, ml⟩) (f := g) om cm (some ⟨gb, 0, none⟩) ml.length w' CK.out h1 h2 FL2.out
  have bvf := Ne.exc_bd RT.out FL.out.wi mt
  have bvg := Ne.exc_bd RT.out FL2.out.wi mt
  simp only at bvf bvg VF VG
  have HAE : Hid (∃ x, x = Ne.addE ⟨mn, ms, mt, ml⟩ f g) := Lib.hid ⟨_, rfl⟩
  obtain ⟨AE, hAE⟩ := HAE.out
  obtain ⟨AL, hAL⟩ : ∃ x, x = Ne.addL ⟨mn, ms, mt, ml⟩ f g := ⟨_, rfl⟩
  rw [← hAE, ← hAL] at AF AG
  rw [← hAE, ← hAL] at HBV
  rw [← hAL] at hall
  have HAEQ := Lib.hid hAE
  have SM1 := Lib.hid fun x1 x2 y1 y2 w' h1 h2 => Ne.rsame_l x1 x2 y1 y2 AL AL w' h1 h2 (by have := HFL.out; omega) (by have := HFL.out; omega)
  rw [show decide (AL = AL) = true by simp] at SM1
  generalize Ne.exc ml f mt = vf at *
  generalize Ne.exc ml g mt = vg at *
  clear hAE hAL ac1 ac2 an1 an2 HAE HBO hf hg RD RD2
  have ALN : Hid (AL.length ≤ f.length) := Lib.hid (by assumption)
  clear hall
  obtain ⟨n0, n1, n2, n3⟩ := Ne.netBox_cells HN5.out
  go_wp2_with fail
  refine (AF.out w5 HR5.out HF5.out.irow HGB5.out.irow).mono ?_
  rintro e w6 ⟨so, sc, rfl, hs, hb⟩
  have HB6 := Lib.hid (HB5.out.trans (hb.mono HB5.out.size))
  have HN6 := Lib.hid (Ne.netBox_below HN5.out hb (Ne.netBox_lt HN5.out))
  have HR6 := Lib.hid (HR5.out.kept hb)
  have HF6 := Lib.hid (HF5.out.kept hb)
  have HG6 := Lib.hid (HGB5.out.kept hb)
  have HS6 := Lib.hid hs
  clear hs hb n0 n1 n2 n3
  obtain ⟨n0, n1, n2, n3⟩ := Ne.netBox_cells HN6.out
  go_wp2_with fail
  refine (AG.out w6 HR6.out HG6.out.irow HF6.out.irow).mono ?_
  rintro e w7 ⟨to_, tc, rfl, hs, hb⟩
  have HB7 := Lib.hid (HB6.out.trans (hb.mono HB6.out.size))
  have HN7 := Lib.hid (Ne.netBox_below HN6.out hb (Ne.netBox_lt HN6.out))
  have HR7 := Lib.hid (HR6.out.kept hb)
  have HF7 := Lib.hid (HF6.out.kept hb)
  have HG7 := Lib.hid (HG6.out.kept hb)
  have HS7 := Lib.hid (HS6.out.kept hb)
  have HT7 := Lib.hid hs
  clear hs hb n0 n1 n2 n3
  obtain ⟨n0, n1, n2, n3⟩ := Ne.netBox_cells HN7.out
  have hmkL := Ne.make_l ml.length hl6
  have HD8 := Lib.hid (show Below w7.heap.size w7 (w7.alloc (.cells (madeCells #[.int .i64 0] ml.length) 2)).drew from Ne.below_drew ((Below.refl _ _).alloc (Nat.le_refl _) _))
  have HZ8 := Lib.hid (show Ne.LBox (w7.alloc (.cells (madeCells #[.int .i64 0] ml.length) 2)).drew w7.heap.size (List.replicate ml.length 0) from Ne.lbox_made w7 ml.length rfl)
  go_wp2
  have hS0 := (show (fun w' => w'.cell? ⟨bn, 0, none⟩ = some (.int .i64 mn) ∧ w'.cell? ⟨bn, 1, none⟩ = some (.int .i64 ms) ∧ w'.cell? ⟨bn, 2, none⟩ = some (.int .i64 mt) ∧ w'.cell? ⟨bn, 3, none⟩ = some (.slice om ml.length cm)) w7.drew from ⟨n0, n1, n2, n3⟩)
  have hS1 := (show (fun w' => w'.cell? ⟨bn, 0, none⟩ = some (.int .i64 mn) ∧ w'.cell? ⟨bn, 1, none⟩ = some (.int .i64 ms) ∧ w'.cell? ⟨bn, 2, none⟩ = some (.int .i64 mt) ∧ w'.cell? ⟨bn, 3, none⟩ = some (.slice om ml.length cm)) (w7.alloc (.cells (madeCells #[.int .i64 0] ml.length) 2)).drew from ⟨Ne.held_new n0, Ne.held_new n1, Ne.held_new n2, Ne.held_new n3⟩)
  refine Rh.start (S := (fun w' => w'.cell? ⟨bn, 0, none⟩ = some (.int .i64 mn) ∧ w'.cell? ⟨bn, 1, none⟩ = some (.int .i64 ms) ∧ w'.cell? ⟨bn, 2, none⟩ = some (.int .i64 mt) ∧ w'.cell? ⟨bn, 3, none⟩ = some (.slice om ml.length cm))) (by kernel_rfl) ?_
  refine Rh.take (some 61) (i := 0) (v := ?_) rfl (by kernel_rfl) (by kernel_rfl) (by kernel_rfl) (by kernel_rfl) (fun _ _ _ h => h) (Or.inl ⟨by rfl, ?_⟩) hS0 ?_
  rotate_left
  · intro w hSw
    go_simp
    try with_reducible rfl
  try simp only [Act.put, List.setIfInBounds_toArray, List.set_cons_zero, List.set_cons_succ]
  refine Rh.take (some 62) (i := 1) (v := ?_) rfl (by kernel_rfl) (by kernel_rfl) (by kernel_rfl) (by kernel_rfl) (fun _ _ _ h => h) (Or.inl ⟨by rfl, ?_⟩) hS0 ?_
  rotate_left
  · intro w hSw
    go_simp
    try with_reducible rfl
  try simp only [Act.put, List.setIfInBounds_toArray, List.set_cons_zero, List.set_cons_succ]
  refine Rh.take (some 63) (i := 2) (v := ?_) rfl (by kernel_rfl) (by kernel_rfl) (by kernel_rfl) (by kernel_rfl) (fun _ _ _ h => h) (Or.inl ⟨by rfl, ?_⟩) hS0 ?_
  rotate_left
  · intro w hSw
    go_simp
    try with_reducible rfl
  try simp only [Act.put, List.setIfInBounds_toArray, List.set_cons_zero, List.set_cons_succ]
  refine Rh.take (some 64) (i := 3) (v := ?_) rfl (by kernel_rfl) (by kernel_rfl) (by kernel_rfl) (by kernel_rfl) (fun _ _ _ h => h) (Or.inl ⟨by rfl, ?_⟩) hS0 ?_
  rotate_left
  · intro w hSw
    go_simp
    try with_reducible rfl
  try simp only [Act.put, List.setIfInBounds_toArray, List.set_cons_zero, List.set_cons_succ]
  refine Rh.step (i := 4) (by kernel_rfl) rfl fun K' hK' => ?_
  have HK := Lib.hid hK'
  clear hK'
  go_simp
  refine HK.out _ _ ⟨hS1, ?_⟩
  clear HK K'
  try simp only [Act.put, List.setIfInBounds_toArray, List.set_cons_zero, List.set_cons_succ]
  refine Rh.step (i := 5) (by kernel_rfl) rfl fun K' hK' => ?_
  have HK := Lib.hid hK'
  clear hK'
  go_simp
  refine (AZ.out _ _ (HR7.out.kept HD8.out) (HF7.out.kept HD8.out).irow HZ8.out.irow).mono ?_
  rintro e w9 ⟨oo, oc, rfl, ho, hb⟩
  have hS2 := (show (fun w' => w'.cell? ⟨bn, 0, none⟩ = some (.int .i64 mn) ∧ w'.cell? ⟨bn, 1, none⟩ = some (.int .i64 ms) ∧ w'.cell? ⟨bn, 2, none⟩ = some (.int .i64 mt) ∧ w'.cell? ⟨bn, 3, none⟩ = some (.slice om ml.length cm)) w9 from Ne.netBox_cells (Ne.netBox_below (Ne.netBox_below HN7.out HD8.out (Ne.netBox_lt HN7.out)) hb (Ne.netBox_lt (Ne.netBox_below HN7.out HD8.out (Ne.netBox_lt HN7.out)))))
  refine HK.out _ _ ⟨hS2, ?_⟩
  clear HK K'
  try simp only [Act.put, List.setIfInBounds_toArray, List.set_cons_zero, List.set_cons_succ]
  refine Rh.take (some 60) (i := 6) (v := ?_) rfl (by kernel_rfl) (by kernel_rfl) (by kernel_rfl) (by kernel_rfl) (fun _ _ _ h => h) (Or.inl ⟨by rfl, ?_⟩) hS2 ?_
  rotate_left
  · intro w hSw
    go_simp
    try with_reducible rfl
  try simp only [Act.put, List.setIfInBounds_toArray, List.set_cons_zero, List.set_cons_succ]
  refine Rh.take (some 67) (i := 7) (v := ?_) rfl (by kernel_rfl) (by kernel_rfl) (by kernel_rfl) (by kernel_rfl) (fun _ _ _ h => h) (Or.inl ⟨by rfl, ?_⟩) hS2 ?_
  rotate_left
  · intro w hSw
    go_simp
    try with_reducible rfl
  try simp only [Act.put, List.setIfInBounds_toArray, List.set_cons_zero, List.set_cons_succ]
  refine Rh.take (some 68) (i := 8) (v := ?_) rfl (by kernel_rfl) (by kernel_rfl) (by kernel_rfl) (by kernel_rfl) (fun _ _ _ h => h) (Or.inl ⟨by rfl, ?_⟩) hS2 ?_
  rotate_left
  · intro w hSw
    go_simp
    try with_reducible rfl
  try simp only [Act.put, List.setIfInBounds_toArray, List.set_cons_zero, List.set_cons_succ]
  refine Rh.take (some 21) (i := 9) (v := ?_) rfl (by kernel_rfl) (by kernel_rfl) (by kernel_rfl) (by kernel_rfl) (fun _ _ _ h => h) (Or.inl ⟨by rfl, ?_⟩) hS2 ?_
  rotate_left
  · intro w hSw
    go_simp
    try with_reducible rfl
  try simp only [Act.put, List.setIfInBounds_toArray, List.set_cons_zero, List.set_cons_succ]
  refine Rh.take (some 22) (i := 10) (v := ?_) rfl (by kernel_rfl) (by kernel_rfl) (by kernel_rfl) (by kernel_rfl) (fun _ _ _ h => h) (Or.inl ⟨by rfl, ?_⟩) hS2 ?_
  rotate_left
  · intro w hSw
    go_simp
    try with_reducible rfl
  try simp only [Act.put, List.setIfInBounds_toArray, List.set_cons_zero, List.set_cons_succ]
  refine Rh.done (by kernel_rfl) ?_ _
  have HD9 := Lib.hid (HD8.out.trans (hb.mono HD8.out.size))
  have HB9 := Lib.hid (HB7.out.trans (HD9.out.mono HB7.out.size))
  have HN9 := Lib.hid (Ne.netBox_below HN7.out HD9.out (Ne.netBox_lt HN7.out))
  have HR9 := Lib.hid (HR7.out.kept HD9.out)
  have HF9 := Lib.hid (HF7.out.kept HD9.out)
  have HG9 := Lib.hid (HG7.out.kept HD9.out)
  have HS9 := Lib.hid (HS7.out.kept HD9.out)
  have HT9 := Lib.hid (HT7.out.kept HD9.out)
  have HO9 := Lib.hid ho
  clear hS0 hS1 hS2 ho hb n0 n1 n2 n3 hmkL HO4 HO5
  have hee : (AE == AE) = true := by simp
  have hen : (AE != AE) = false := by simp
  go_wp2_with fail
  refine (SM1.out _ _ _ _ w9 HS9.out HT9.out).mono ?_
  rintro e w10 ⟨rfl, hb⟩
  have HB10 := Lib.hid (HB9.out.trans (hb.mono HB9.out.size))
  have HN10 := Lib.hid (Ne.netBox_below HN9.out hb (Ne.netBox_lt HN9.out))
  have HR10 := Lib.hid (HR9.out.kept hb)
  have HF10 := Lib.hid (HF9.out.kept hb)
  have HG10 := Lib.hid (HG9.out.kept hb)
  have HS10 := Lib.hid (HS9.out.kept hb)
  have HO10 := Lib.hid (HO9.out.kept hb)
  clear hb
  go_wp2_with fail
  refine (SM2.out _ _ _ _ w10 HO10.out HF10.out.irow).mono ?_
  rintro e w11 ⟨rfl, hb⟩
  have HB11 := Lib.hid (HB10.out.trans (hb.mono HB10.out.size))
  have HN11 := Lib.hid (Ne.netBox_below HN10.out hb (Ne.netBox_lt HN10.out))
  have HR11 := Lib.hid (HR10.out.kept hb)
  have HF11 := Lib.hid (HF10.out.kept hb)
  have HG11 := Lib.hid (HG10.out.kept hb)
  have HS11 := Lib.hid (HS10.out.kept hb)
  clear hb hee hen
  by_cases hAE : AE = 0
  case neg =>
    have hA1 : (AE == 0) = false := by simpa using hAE
    by_cases hl0 : ml.length = 0
    · have hA0 := Ne.addE_none CK.out FL.out FL2.out hl0
      rw [← HAEQ.out] at hA0
      have hi0 : ((ml.length : Int) == 0) = true := by simpa using hl0
      exact absurd hA0 hAE
    have hi0 : ((ml.length : Int) == 0) = false := by simpa using hl0
    obtain ⟨pk, hpk⟩ : ∃ x, x = Ne.pickN a5 (ml.length : Int) := ⟨_, rfl⟩
    have bpk := Ne.pickN_bd (c := a5) (n := (ml.length : Int)) (by omega)
    rw [← hpk] at bpk
    obtain ⟨kk, hkk⟩ : ∃ k : Nat, pk = (k : Int) := ⟨pk.toNat, by omega⟩
    subst hkk
    have PK := Lib.hid fun w' => Ne.pick_any a5 (ml.length : Int) w' b5.1 b5.2 (by omega) (by omega)
    rw [← hpk] at PK
    have hk : kk < ml.length := by omega
    have hkI : (kk : Int) < (ml.length : Int) := by omega
    have hk0 : (0 : Int) ≤ (kk : Int) := by omega
    have hkf : kk < f.length := by have := FL.out.len; simp only at this; omega
    obtain ⟨hm1, hm2, hm3⟩ := Ne.more_chk CK.out FL.out hk
    have HAMT := Lib.hid (Ne.amt_bd RT.out FL.out.wi hk)
    obtain ⟨b, off, rfl, hbl, c0, c1, c2⟩ := Ne.arow_cell HR11.out hk
    have f0 := HF11.out.cell hkf
    have z0 := HF11.out.frozen kk
    have HAT := Lib.hid (show Ne.amt (f.set kk (Ne.amt f kk + 1)) kk = Ne.amt f kk + 1 by rw [Ne.amt_set _ hkf, if_pos rfl])
    have HLS := Lib.hid (fun w' (h : Ne.LBox w' fb f) => h.set hkf (Ne.amt f kk + 1))
    have CC := Lib.hid fun w' h1 h2 => Ne.chk_ok (n := ⟨mn, ms, mt, ml⟩) (f := f.set kk (Ne.amt f kk + 1)) (some ⟨b, off, none⟩) cm (some ⟨fb, 0, none⟩) ml.length w' CK.out h1 h2 (by rw [List.length_set]; exact FL.out.len)
    have hkF : kk < (f.set kk (Ne.amt f kk + 1)).length := by rw [List.length_set]; exact hkf
    simp only at hm1 hm2 hm3 CC
    obtain ⟨F2, hF2⟩ : ∃ x, x = f.set kk (Ne.amt f kk + 1) := ⟨_, rfl⟩
    rw [← hF2] at hm1 hm2 hm3 HAT HLS CC hkF
    clear hF2 hpk
    obtain ⟨y, hy⟩ : ∃ y, Ne.amt f kk = y := ⟨_, rfl⟩
    have HYF := Lib.hid hy
    rw [hy] at HAMT f0 HAT HLS hm1 hm2 hm3
    clear hy
    generalize Ne.arcAt ml kk = aa at *
    obtain ⟨fr, to, ca⟩ := aa
    simp only at c0 c1 c2 hm1 hm2 hm3
    have HM1 := Lib.hid hm1
    have HM2 := Lib.hid hm2
    have HM3 := Lib.hid hm3
    obtain ⟨y0, y1⟩ := HAMT.out
    have hwy : IntKind.i64.wrap (y + 1) = y + 1 := by rw [IntKind.wrap_i64]; omega
    clear hm1 hm2 hm3
    have hbfb : fb ≠ b := by have := (HV2.out b rfl).2; omega
    have HNQ := Lib.hid (Ne.netBox_alloc (Ne.netBox_other HN11.out (b2 := fb) (o := kk) (v2 := .int .i64 (y + 1)) (by omega)) (.cells #[.int .i64 fr, .int .i64 to, .int .i64 ca] 42))
    have HFQ := Lib.hid ((HLS.out _ HF11.out).alloc (.cells #[.int .i64 fr, .int .i64 to, .int .i64 ca] 42))
    have HB_ := Lib.hid (HB11.out.setCell (p := ⟨fb, kk, none⟩) (by show w.heap.size ≤ fb; omega) (.int .i64 (y + 1)))
    have HBQ := Lib.hid (HB_.out.alloc HB_.out.size (.cells #[.int .i64 fr, .int .i64 to, .int .i64 ca] 42))
    have HRQ := Lib.hid ((Ne.arow_set (p := ⟨fb, kk, none⟩) (v := .int .i64 (y + 1)) HR11.out hbfb).kept ((Below.refl _ _).alloc (Nat.le_refl _) (.cells #[.int .i64 fr, .int .i64 to, .int .i64 ca] 42)))
    obtain ⟨g0, g1, g2⟩ := Ne.arc_new (w11.setCell ⟨fb, kk, none⟩ (.int .i64 (y + 1))) (b := w11.heap.size) (by simp [World.setCell]) fr to ca
    have HFA := Lib.hid (HF11.out.alloc (.cells #[.int .i64 fr, .int .i64 to, .int .i64 ca] 42))
    have f1 := HFA.out.cell hkf
    rw [HYF.out] at f1
    have z1 := HFA.out.frozen kk
    have hfbl := HF11.out.lt
    obtain ⟨q0, q1, q2, q3⟩ := Ne.netBox_cells HNQ.out
    have hba : w11.heap.size < ((w11.setCell ⟨fb, kk, none⟩ (.int .i64 (y + 1))).alloc (.cells #[.int .i64 fr, .int .i64 to, .int .i64 ca] 42)).heap.size := by simp [World.setCell]
    obtain ⟨n0, n1, n2, n3⟩ := Ne.netBox_cells HN11.out
    go_wp2_with fail
    refine (PK.out _).mono ?_
    rintro e w' ⟨rfl, rfl⟩
    go_wp2_with fail
    generalize ((w11.setCell ⟨fb, kk, none⟩ (.int .i64 (y + 1))).alloc (.cells #[.int .i64 fr, .int .i64 to, .int .i64 ca] 42)) = wq at *
    generalize w11.heap.size = ba at *
    clear n0 n1 n2 n3 q0 q1 q2 q3 c0 c1 c2 f0 z0
    by_cases e1 : ca < y + 1
    · have hC : Ne.chkF ⟨mn, ms, mt, ml⟩ F2 = 3 := HM1.out (by omega)
      rw [hC] at CC
      clear hC HM1 HM2 HM3
      have e1d : decide (ca < y + 1) = true := by simpa using e1
      refine (CC.out _ HRQ.out HFQ.out.irow).mono ?_
      rintro e wz ⟨rfl, hq⟩
      have HBZ := Lib.hid (HBQ.out.trans (hq.mono HBQ.out.size))
      have HNZ := Lib.hid (Ne.netBox_below HNQ.out hq (Ne.netBox_lt HNQ.out))
      have f9 := (HFQ.out.kept hq).cell hkF
      rw [HAT.out] at f9
      have g0' := (hq.cell (p := ⟨ba, 0, none⟩) hba).trans g0
      have g1' := (hq.cell (p := ⟨ba, 1, none⟩) hba).trans g1
      have g2' := (hq.cell (p := ⟨ba, 2, none⟩) hba).trans g2
      clear hq g0 g1 g2
      obtain ⟨n0, n1, n2, n3⟩ := Ne.netBox_cells HNZ.out
      go_wp2
      go_quiet (fail)
      go_wp2
      go_ret
      exact ⟨rfl, (Ne.below_dn HBZ.out _)⟩
    have e1d : decide (ca < y + 1) = false := by simp; omega
    by_cases e2 : fr = to
    · have hC : Ne.chkF ⟨mn, ms, mt, ml⟩ F2 = 0 := HM2.out (by omega) (.inl e2)
      rw [hC] at CC
      clear hC HM1 HM2 HM3
      have e_e2 : (fr == to) = true := by simpa using e2
      clear e2
      refine (CC.out _ HRQ.out HFQ.out.irow).mono ?_
      rintro e wz ⟨rfl, hq⟩
      have HBZ := Lib.hid (HBQ.out.trans (hq.mono HBQ.out.size))
      have HNZ := Lib.hid (Ne.netBox_below HNQ.out hq (Ne.netBox_lt HNQ.out))
      have f9 := (HFQ.out.kept hq).cell hkF
      rw [HAT.out] at f9
      have g0' := (hq.cell (p := ⟨ba, 0, none⟩) hba).trans g0
      have g1' := (hq.cell (p := ⟨ba, 1, none⟩) hba).trans g1
      have g2' := (hq.cell (p := ⟨ba, 2, none⟩) hba).trans g2
      clear hq g0 g1 g2
      obtain ⟨n0, n1, n2, n3⟩ := Ne.netBox_cells HNZ.out
      go_wp2
      go_quiet (fail)
      go_wp2
      go_ret
      exact ⟨rfl, (Ne.below_dn HBZ.out _)⟩
    have e_e2 : (fr == to) = false := by simpa using e2
    by_cases e3 : fr = ms
    · have e_e3 : (fr == ms) = true := by simpa using e3
      by_cases e5 : to = ms
      · exact absurd (e3.trans e5.symm) e2
      have e_e5 : (to == ms) = false := by simpa using e5
      by_cases e6 : to = mt
      · have hC : Ne.chkF ⟨mn, ms, mt, ml⟩ F2 = 0 := HM2.out (by omega) (.inr ⟨.inl e3, .inr e6⟩)
        rw [hC] at CC
        clear hC HM1 HM2 HM3
        have e_e6 : (to == mt) = true := by simpa using e6
        clear e3 e6
        refine (CC.out _ HRQ.out HFQ.out.irow).mono ?_
        rintro e wz ⟨rfl, hq⟩
        have HBZ := Lib.hid (HBQ.out.trans (hq.mono HBQ.out.size))
        have HNZ := Lib.hid (Ne.netBox_below HNQ.out hq (Ne.netBox_lt HNQ.out))
        have f9 := (HFQ.out.kept hq).cell hkF
        rw [HAT.out] at f9
        have g0' := (hq.cell (p := ⟨ba, 0, none⟩) hba).trans g0
        have g1' := (hq.cell (p := ⟨ba, 1, none⟩) hba).trans g1
        have g2' := (hq.cell (p := ⟨ba, 2, none⟩) hba).trans g2
        clear hq g0 g1 g2
        obtain ⟨n0, n1, n2, n3⟩ := Ne.netBox_cells HNZ.out
        go_wp2
        go_quiet (fail)
        go_wp2
        go_ret
        exact ⟨rfl, (Ne.below_dn HBZ.out _)⟩
      have hC : Ne.chkF ⟨mn, ms, mt, ml⟩ F2 = 9 := HM3.out (by omega) (fun h => by unfold Ne.freeA at h; simp only at h; omega)
      rw [hC] at CC
      clear hC HM1 HM2 HM3
      have e_e6 : (to == mt) = false := by simpa using e6
      clear e3
      refine (CC.out _ HRQ.out HFQ.out.irow).mono ?_
      rintro e wz ⟨rfl, hq⟩
      have HBZ := Lib.hid (HBQ.out.trans (hq.mono HBQ.out.size))
      have HNZ := Lib.hid (Ne.netBox_below HNQ.out hq (Ne.netBox_lt HNQ.out))
      have f9 := (HFQ.out.kept hq).cell hkF
      rw [HAT.out] at f9
      have g0' := (hq.cell (p := ⟨ba, 0, none⟩) hba).trans g0
      have g1' := (hq.cell (p := ⟨ba, 1, none⟩) hba).trans g1
      have g2' := (hq.cell (p := ⟨ba, 2, none⟩) hba).trans g2
      clear hq g0 g1 g2
      obtain ⟨n0, n1, n2, n3⟩ := Ne.netBox_cells HNZ.out
      go_wp2
      go_quiet (fail)
      go_wp2
      go_ret
      exact ⟨rfl, (Ne.below_dn HBZ.out _)⟩
    have e_e3 : (fr == ms) = false := by simpa using e3
    by_cases e4 : fr = mt
    · have e_e4 : (fr == mt) = true := by simpa using e4
      by_cases e5 : to = ms
      · have hC : Ne.chkF ⟨mn, ms, mt, ml⟩ F2 = 0 := HM2.out (by omega) (.inr ⟨.inr e4, .inl e5⟩)
        rw [hC] at CC
        clear hC HM1 HM2 HM3
        have e_e5 : (to == ms) = true := by simpa using e5
        clear e4 e5
        refine (CC.out _ HRQ.out HFQ.out.irow).mono ?_
        rintro e wz ⟨rfl, hq⟩
        have HBZ := Lib.hid (HBQ.out.trans (hq.mono HBQ.out.size))
        have HNZ := Lib.hid (Ne.netBox_below HNQ.out hq (Ne.netBox_lt HNQ.out))
        have f9 := (HFQ.out.kept hq).cell hkF
        rw [HAT.out] at f9
        have g0' := (hq.cell (p := ⟨ba, 0, none⟩) hba).trans g0
        have g1' := (hq.cell (p := ⟨ba, 1, none⟩) hba).trans g1
        have g2' := (hq.cell (p := ⟨ba, 2, none⟩) hba).trans g2
        clear hq g0 g1 g2
        obtain ⟨n0, n1, n2, n3⟩ := Ne.netBox_cells HNZ.out
        go_wp2
        go_quiet (fail)
        go_wp2
        go_ret
        exact ⟨rfl, (Ne.below_dn HBZ.out _)⟩
      have e_e5 : (to == ms) = false := by simpa using e5
      by_cases e6 : to = mt
      · exact absurd (e4.trans e6.symm) e2
      have hC : Ne.chkF ⟨mn, ms, mt, ml⟩ F2 = 9 := HM3.out (by omega) (fun h => by unfold Ne.freeA at h; simp only at h; omega)
      rw [hC] at CC
      clear hC HM1 HM2 HM3
      have e_e6 : (to == mt) = false := by simpa using e6
      clear e4
      refine (CC.out _ HRQ.out HFQ.out.irow).mono ?_
      rintro e wz ⟨rfl, hq⟩
      have HBZ := Lib.hid (HBQ.out.trans (hq.mono HBQ.out.size))
      have HNZ := Lib.hid (Ne.netBox_below HNQ.out hq (Ne.netBox_lt HNQ.out))
      have f9 := (HFQ.out.kept hq).cell hkF
      rw [HAT.out] at f9
      have g0' := (hq.cell (p := ⟨ba, 0, none⟩) hba).trans g0
      have g1' := (hq.cell (p := ⟨ba, 1, none⟩) hba).trans g1
      have g2' := (hq.cell (p := ⟨ba, 2, none⟩) hba).trans g2
      clear hq g0 g1 g2
      obtain ⟨n0, n1, n2, n3⟩ := Ne.netBox_cells HNZ.out
      go_wp2
      go_quiet (fail)
      go_wp2
      go_ret
      exact ⟨rfl, (Ne.below_dn HBZ.out _)⟩
    have hC : Ne.chkF ⟨mn, ms, mt, ml⟩ F2 = 9 := HM3.out (by omega) (fun h => by unfold Ne.freeA at h; simp only at h; omega)
    rw [hC] at CC
    clear hC HM1 HM2 HM3
    have e_e4 : (fr == mt) = false := by simpa using e4
    refine (CC.out _ HRQ.out HFQ.out.irow).mono ?_
    rintro e wz ⟨rfl, hq⟩
    have HBZ := Lib.hid (HBQ.out.trans (hq.mono HBQ.out.size))
    have HNZ := Lib.hid (Ne.netBox_below HNQ.out hq (Ne.netBox_lt HNQ.out))
    have f9 := (HFQ.out.kept hq).cell hkF
    rw [HAT.out] at f9
    have g0' := (hq.cell (p := ⟨ba, 0, none⟩) hba).trans g0
    have g1' := (hq.cell (p := ⟨ba, 1, none⟩) hba).trans g1
    have g2' := (hq.cell (p := ⟨ba, 2, none⟩) hba).trans g2
    clear hq g0 g1 g2
    obtain ⟨n0, n1, n2, n3⟩ := Ne.netBox_cells HNZ.out
    go_wp2
    go_quiet (fail)
    go_wp2
    go_ret
    exact ⟨rfl, (Ne.below_dn HBZ.out _)⟩
  have hA1 : (AE == 0) = true := by simpa using hAE
  have VS := Lib.hid (HBV.out hAE)
  obtain ⟨n0, n1, n2, n3⟩ := Ne.netBox_cells HN11.out
  go_wp2_with fail
  refine (VF.out w11 HR11.out HF11.out.irow).mono ?_
  rintro e w12 ⟨rfl, hb⟩
  have HB12 := Lib.hid (HB11.out.trans (hb.mono HB11.out.size))
  have HN12 := Lib.hid (Ne.netBox_below HN11.out hb (Ne.netBox_lt HN11.out))
  have HR12 := Lib.hid (HR11.out.kept hb)
  have HF12 := Lib.hid (HF11.out.kept hb)
  have HG12 := Lib.hid (HG11.out.kept hb)
  have HS12 := Lib.hid (HS11.out.kept hb)
  clear hb n0 n1 n2 n3
  obtain ⟨n0, n1, n2, n3⟩ := Ne.netBox_cells HN12.out
  go_wp2_with fail
  refine (VG.out w12 HR12.out HG12.out.irow).mono ?_
  rintro e w13 ⟨rfl, hb⟩
  have HB13 := Lib.hid (HB12.out.trans (hb.mono HB12.out.size))
  have HN13 := Lib.hid (Ne.netBox_below HN12.out hb (Ne.netBox_lt HN12.out))
  have HR13 := Lib.hid (HR12.out.kept hb)
  have HF13 := Lib.hid (HF12.out.kept hb)
  have HS13 := Lib.hid (HS12.out.kept hb)
  clear hb n0 n1 n2 n3
  obtain ⟨n0, n1, n2, n3⟩ := Ne.netBox_cells HN13.out
  go_wp2_with fail
  refine (VS.out _ _ w13 HR13.out HS13.out).mono ?_
  rintro e w14 ⟨rfl, hb⟩
  have HB14 := Lib.hid (HB13.out.trans (hb.mono HB13.out.size))
  have HN14 := Lib.hid (Ne.netBox_below HN13.out hb (Ne.netBox_lt HN13.out))
  have HR14 := Lib.hid (HR13.out.kept hb)
  have HF14 := Lib.hid (HF13.out.kept hb)
  clear hb n0 n1 n2 n3
  have hwv : IntKind.i64.wrap (vf + vg) = vf + vg := by rw [IntKind.wrap_i64]; omega
  by_cases hl0 : ml.length = 0
  · have hA0 := Ne.addE_none CK.out FL.out FL2.out hl0
    rw [← HAEQ.out] at hA0
    have hi0 : ((ml.length : Int) == 0) = true := by simpa using hl0
    have HL0 := Lib.hid hl0
    clear hl0 hA0
    go_wp2
    go_ret
    exact ⟨rfl, HB14.out⟩
  have hi0 : ((ml.length : Int) == 0) = false := by simpa using hl0
  obtain ⟨pk, hpk⟩ : ∃ x, x = Ne.pickN a5 (ml.length : Int) := ⟨_, rfl⟩
  have bpk := Ne.pickN_bd (c := a5) (n := (ml.length : Int)) (by omega)
  rw [← hpk] at bpk
  obtain ⟨kk, hkk⟩ : ∃ k : Nat, pk = (k : Int) := ⟨pk.toNat, by omega⟩
  subst hkk
  have PK := Lib.hid fun w' => Ne.pick_any a5 (ml.length : Int) w' b5.1 b5.2 (by omega) (by omega)
  rw [← hpk] at PK
  have hk : kk < ml.length := by omega
  have hkI : (kk : Int) < (ml.length : Int) := by omega
  have hk0 : (0 : Int) ≤ (kk : Int) := by omega
  have hkf : kk < f.length := by have := FL.out.len; simp only at this; omega
  obtain ⟨hm1, hm2, hm3⟩ := Ne.more_chk CK.out FL.out hk
  have HAMT := Lib.hid (Ne.amt_bd RT.out FL.out.wi hk)
  obtain ⟨b, off, rfl, hbl, c0, c1, c2⟩ := Ne.arow_cell HR14.out hk
  have f0 := HF14.out.cell hkf
  have z0 := HF14.out.frozen kk
  have HAT := Lib.hid (show Ne.amt (f.set kk (Ne.amt f kk + 1)) kk = Ne.amt f kk + 1 by rw [Ne.amt_set _ hkf, if_pos rfl])
  have HLS := Lib.hid (fun w' (h : Ne.LBox w' fb f) => h.set hkf (Ne.amt f kk + 1))
  have CC := Lib.hid fun w' h1 h2 => Ne.chk_ok (n := ⟨mn, ms, mt, ml⟩) (f := f.set kk (Ne.amt f kk + 1)) (some ⟨b, off, none⟩) cm (some ⟨fb, 0, none⟩) ml.length w' CK.out h1 h2 (by rw [List.length_set]; exact FL.out.len)
  have hkF : kk < (f.set kk (Ne.amt f kk + 1)).length := by rw [List.length_set]; exact hkf
  simp only at hm1 hm2 hm3 CC
  obtain ⟨F2, hF2⟩ : ∃ x, x = f.set kk (Ne.amt f kk + 1) := ⟨_, rfl⟩
  rw [← hF2] at hm1 hm2 hm3 HAT HLS CC hkF
  clear hF2 hpk
  obtain ⟨y, hy⟩ : ∃ y, Ne.amt f kk = y := ⟨_, rfl⟩
  have HYF := Lib.hid hy
  rw [hy] at HAMT f0 HAT HLS hm1 hm2 hm3
  clear hy
  generalize Ne.arcAt ml kk = aa at *
  obtain ⟨fr, to, ca⟩ := aa
  simp only at c0 c1 c2 hm1 hm2 hm3
  have HM1 := Lib.hid hm1
  have HM2 := Lib.hid hm2
  have HM3 := Lib.hid hm3
  obtain ⟨y0, y1⟩ := HAMT.out
  have hwy : IntKind.i64.wrap (y + 1) = y + 1 := by rw [IntKind.wrap_i64]; omega
  clear hm1 hm2 hm3
  have hbfb : fb ≠ b := by have := (HV2.out b rfl).2; omega
  have HNQ := Lib.hid (Ne.netBox_alloc (Ne.netBox_other HN14.out (b2 := fb) (o := kk) (v2 := .int .i64 (y + 1)) (by omega)) (.cells #[.int .i64 fr, .int .i64 to, .int .i64 ca] 42))
  have HFQ := Lib.hid ((HLS.out _ HF14.out).alloc (.cells #[.int .i64 fr, .int .i64 to, .int .i64 ca] 42))
  have HB_ := Lib.hid (HB14.out.setCell (p := ⟨fb, kk, none⟩) (by show w.heap.size ≤ fb; omega) (.int .i64 (y + 1)))
  have HBQ := Lib.hid (HB_.out.alloc HB_.out.size (.cells #[.int .i64 fr, .int .i64 to, .int .i64 ca] 42))
  have HRQ := Lib.hid ((Ne.arow_set (p := ⟨fb, kk, none⟩) (v := .int .i64 (y + 1)) HR14.out hbfb).kept ((Below.refl _ _).alloc (Nat.le_refl _) (.cells #[.int .i64 fr, .int .i64 to, .int .i64 ca] 42)))
  obtain ⟨g0, g1, g2⟩ := Ne.arc_new (w14.setCell ⟨fb, kk, none⟩ (.int .i64 (y + 1))) (b := w14.heap.size) (by simp [World.setCell]) fr to ca
  have HFA := Lib.hid (HF14.out.alloc (.cells #[.int .i64 fr, .int .i64 to, .int .i64 ca] 42))
  have f1 := HFA.out.cell hkf
  rw [HYF.out] at f1
  have z1 := HFA.out.frozen kk
  have hfbl := HF14.out.lt
  obtain ⟨q0, q1, q2, q3⟩ := Ne.netBox_cells HNQ.out
  have hba : w14.heap.size < ((w14.setCell ⟨fb, kk, none⟩ (.int .i64 (y + 1))).alloc (.cells #[.int .i64 fr, .int .i64 to, .int .i64 ca] 42)).heap.size := by simp [World.setCell]
  obtain ⟨n0, n1, n2, n3⟩ := Ne.netBox_cells HN14.out
  go_wp2_with fail
  refine (PK.out _).mono ?_
  rintro e w' ⟨rfl, rfl⟩
  go_wp2_with fail
  generalize ((w14.setCell ⟨fb, kk, none⟩ (.int .i64 (y + 1))).alloc (.cells #[.int .i64 fr, .int .i64 to, .int .i64 ca] 42)) = wq at *
  generalize w14.heap.size = ba at *
  clear n0 n1 n2 n3 q0 q1 q2 q3 c0 c1 c2 f0 z0
  by_cases e1 : ca < y + 1
  · have hC : Ne.chkF ⟨mn, ms, mt, ml⟩ F2 = 3 := HM1.out (by omega)
    rw [hC] at CC
    clear hC HM1 HM2 HM3
    have e1d : decide (ca < y + 1) = true := by simpa using e1
    refine (CC.out _ HRQ.out HFQ.out.irow).mono ?_
    rintro e wz ⟨rfl, hq⟩
    have HBZ := Lib.hid (HBQ.out.trans (hq.mono HBQ.out.size))
    have HNZ := Lib.hid (Ne.netBox_below HNQ.out hq (Ne.netBox_lt HNQ.out))
    have f9 := (HFQ.out.kept hq).cell hkF
    rw [HAT.out] at f9
    have g0' := (hq.cell (p := ⟨ba, 0, none⟩) hba).trans g0
    have g1' := (hq.cell (p := ⟨ba, 1, none⟩) hba).trans g1
    have g2' := (hq.cell (p := ⟨ba, 2, none⟩) hba).trans g2
    clear hq g0 g1 g2
    obtain ⟨n0, n1, n2, n3⟩ := Ne.netBox_cells HNZ.out
    go_wp2
    go_quiet (fail)
    go_wp2
    go_ret
    exact ⟨rfl, (Ne.below_dn HBZ.out _)⟩
  have e1d : decide (ca < y + 1) = false := by simp; omega
  by_cases e2 : fr = to
  · have hC : Ne.chkF ⟨mn, ms, mt, ml⟩ F2 = 0 := HM2.out (by omega) (.inl e2)
    rw [hC] at CC
    clear hC HM1 HM2 HM3
    have e_e2 : (fr == to) = true := by simpa using e2
    clear e2
    refine (CC.out _ HRQ.out HFQ.out.irow).mono ?_
    rintro e wz ⟨rfl, hq⟩
    have HBZ := Lib.hid (HBQ.out.trans (hq.mono HBQ.out.size))
    have HNZ := Lib.hid (Ne.netBox_below HNQ.out hq (Ne.netBox_lt HNQ.out))
    have f9 := (HFQ.out.kept hq).cell hkF
    rw [HAT.out] at f9
    have g0' := (hq.cell (p := ⟨ba, 0, none⟩) hba).trans g0
    have g1' := (hq.cell (p := ⟨ba, 1, none⟩) hba).trans g1
    have g2' := (hq.cell (p := ⟨ba, 2, none⟩) hba).trans g2
    clear hq g0 g1 g2
    obtain ⟨n0, n1, n2, n3⟩ := Ne.netBox_cells HNZ.out
    go_wp2
    go_quiet (fail)
    go_wp2
    go_ret
    exact ⟨rfl, (Ne.below_dn HBZ.out _)⟩
  have e_e2 : (fr == to) = false := by simpa using e2
  by_cases e3 : fr = ms
  · have e_e3 : (fr == ms) = true := by simpa using e3
    by_cases e5 : to = ms
    · exact absurd (e3.trans e5.symm) e2
    have e_e5 : (to == ms) = false := by simpa using e5
    by_cases e6 : to = mt
    · have hC : Ne.chkF ⟨mn, ms, mt, ml⟩ F2 = 0 := HM2.out (by omega) (.inr ⟨.inl e3, .inr e6⟩)
      rw [hC] at CC
      clear hC HM1 HM2 HM3
      have e_e6 : (to == mt) = true := by simpa using e6
      clear e3 e6
      refine (CC.out _ HRQ.out HFQ.out.irow).mono ?_
      rintro e wz ⟨rfl, hq⟩
      have HBZ := Lib.hid (HBQ.out.trans (hq.mono HBQ.out.size))
      have HNZ := Lib.hid (Ne.netBox_below HNQ.out hq (Ne.netBox_lt HNQ.out))
      have f9 := (HFQ.out.kept hq).cell hkF
      rw [HAT.out] at f9
      have g0' := (hq.cell (p := ⟨ba, 0, none⟩) hba).trans g0
      have g1' := (hq.cell (p := ⟨ba, 1, none⟩) hba).trans g1
      have g2' := (hq.cell (p := ⟨ba, 2, none⟩) hba).trans g2
      clear hq g0 g1 g2
      obtain ⟨n0, n1, n2, n3⟩ := Ne.netBox_cells HNZ.out
      go_wp2
      go_quiet (fail)
      go_wp2
      go_ret
      exact ⟨rfl, (Ne.below_dn HBZ.out _)⟩
    have hC : Ne.chkF ⟨mn, ms, mt, ml⟩ F2 = 9 := HM3.out (by omega) (fun h => by unfold Ne.freeA at h; simp only at h; omega)
    rw [hC] at CC
    clear hC HM1 HM2 HM3
    have e_e6 : (to == mt) = false := by simpa using e6
    clear e3
    refine (CC.out _ HRQ.out HFQ.out.irow).mono ?_
    rintro e wz ⟨rfl, hq⟩
    have HBZ := Lib.hid (HBQ.out.trans (hq.mono HBQ.out.size))
    have HNZ := Lib.hid (Ne.netBox_below HNQ.out hq (Ne.netBox_lt HNQ.out))
    have f9 := (HFQ.out.kept hq).cell hkF
    rw [HAT.out] at f9
    have g0' := (hq.cell (p := ⟨ba, 0, none⟩) hba).trans g0
    have g1' := (hq.cell (p := ⟨ba, 1, none⟩) hba).trans g1
    have g2' := (hq.cell (p := ⟨ba, 2, none⟩) hba).trans g2
    clear hq g0 g1 g2
    obtain ⟨n0, n1, n2, n3⟩ := Ne.netBox_cells HNZ.out
    go_wp2
    go_quiet (fail)
    go_wp2
    go_ret
    exact ⟨rfl, (Ne.below_dn HBZ.out _)⟩
  have e_e3 : (fr == ms) = false := by simpa using e3
  by_cases e4 : fr = mt
  · have e_e4 : (fr == mt) = true := by simpa using e4
    by_cases e5 : to = ms
    · have hC : Ne.chkF ⟨mn, ms, mt, ml⟩ F2 = 0 := HM2.out (by omega) (.inr ⟨.inr e4, .inl e5⟩)
      rw [hC] at CC
      clear hC HM1 HM2 HM3
      have e_e5 : (to == ms) = true := by simpa using e5
      clear e4 e5
      refine (CC.out _ HRQ.out HFQ.out.irow).mono ?_
      rintro e wz ⟨rfl, hq⟩
      have HBZ := Lib.hid (HBQ.out.trans (hq.mono HBQ.out.size))
      have HNZ := Lib.hid (Ne.netBox_below HNQ.out hq (Ne.netBox_lt HNQ.out))
      have f9 := (HFQ.out.kept hq).cell hkF
      rw [HAT.out] at f9
      have g0' := (hq.cell (p := ⟨ba, 0, none⟩) hba).trans g0
      have g1' := (hq.cell (p := ⟨ba, 1, none⟩) hba).trans g1
      have g2' := (hq.cell (p := ⟨ba, 2, none⟩) hba).trans g2
      clear hq g0 g1 g2
      obtain ⟨n0, n1, n2, n3⟩ := Ne.netBox_cells HNZ.out
      go_wp2
      go_quiet (fail)
      go_wp2
      go_ret
      exact ⟨rfl, (Ne.below_dn HBZ.out _)⟩
    have e_e5 : (to == ms) = false := by simpa using e5
    by_cases e6 : to = mt
    · exact absurd (e4.trans e6.symm) e2
    have hC : Ne.chkF ⟨mn, ms, mt, ml⟩ F2 = 9 := HM3.out (by omega) (fun h => by unfold Ne.freeA at h; simp only at h; omega)
    rw [hC] at CC
    clear hC HM1 HM2 HM3
    have e_e6 : (to == mt) = false := by simpa using e6
    clear e4
    refine (CC.out _ HRQ.out HFQ.out.irow).mono ?_
    rintro e wz ⟨rfl, hq⟩
    have HBZ := Lib.hid (HBQ.out.trans (hq.mono HBQ.out.size))
    have HNZ := Lib.hid (Ne.netBox_below HNQ.out hq (Ne.netBox_lt HNQ.out))
    have f9 := (HFQ.out.kept hq).cell hkF
    rw [HAT.out] at f9
    have g0' := (hq.cell (p := ⟨ba, 0, none⟩) hba).trans g0
    have g1' := (hq.cell (p := ⟨ba, 1, none⟩) hba).trans g1
    have g2' := (hq.cell (p := ⟨ba, 2, none⟩) hba).trans g2
    clear hq g0 g1 g2
    obtain ⟨n0, n1, n2, n3⟩ := Ne.netBox_cells HNZ.out
    go_wp2
    go_quiet (fail)
    go_wp2
    go_ret
    exact ⟨rfl, (Ne.below_dn HBZ.out _)⟩
  have hC : Ne.chkF ⟨mn, ms, mt, ml⟩ F2 = 9 := HM3.out (by omega) (fun h => by unfold Ne.freeA at h; simp only at h; omega)
  rw [hC] at CC
  clear hC HM1 HM2 HM3
  have e_e4 : (fr == mt) = false := by simpa using e4
  refine (CC.out _ HRQ.out HFQ.out.irow).mono ?_
  rintro e wz ⟨rfl, hq⟩
  have HBZ := Lib.hid (HBQ.out.trans (hq.mono HBQ.out.size))
  have HNZ := Lib.hid (Ne.netBox_below HNQ.out hq (Ne.netBox_lt HNQ.out))
  have f9 := (HFQ.out.kept hq).cell hkF
  rw [HAT.out] at f9
  have g0' := (hq.cell (p := ⟨ba, 0, none⟩) hba).trans g0
  have g1' := (hq.cell (p := ⟨ba, 1, none⟩) hba).trans g1
  have g2' := (hq.cell (p := ⟨ba, 2, none⟩) hba).trans g2
  clear hq g0 g1 g2
  obtain ⟨n0, n1, n2, n3⟩ := Ne.netBox_cells HNZ.out
  go_wp2
  go_quiet (fail)
  go_wp2
  go_ret
  exact ⟨rfl, (Ne.below_dn HBZ.out _)⟩

end Go.Proofs.Ytiimomonbdckgaa.flowAdds
