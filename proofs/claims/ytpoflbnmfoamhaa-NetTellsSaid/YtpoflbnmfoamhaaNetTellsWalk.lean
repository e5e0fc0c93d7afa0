/- NetTells: for every input the law returns true and its arguments read as they did. No condition. -/
import Derived.Test.YtpoflbnmfoamhaaUp3r
import Derived.Outline
import Derived.Test.YtpoflbnmfoamhaaRows
import Derived.WalkKit
import Derived.ProofKit
import Derived.OpenShut
import Derived.ShutString
import Derived.ChangeOld
import Derived.Below
import Derived.Deep.Strs
namespace Go.Proofs.Ytpoflbnmfoamhaa.netTells
open Go.ChangeShapes Go.WideShapes Go.ChangeAt Go.RowKit
open Go.ChangeMaps (open_string shut_string)
set_option linter.unusedVariables false
set_option linter.unusedSimpArgs false

theorem own : ownKnob Try.prog.godebug = none := by kernel_rfl
theorem laidOut : laidOutB Try.prog = true := by kernel_rfl



set_option maxRecDepth 100000 in
set_option maxHeartbeats 4000000 in
theorem walk (a0 : Ne.Net) (o0 : Option Addr) (c0 : Nat) (a1 : Ne.Net) (o1 : Option Addr) (c1 : Nat) (a2 : Int) (w : World) (k0 : a0.ok) (z0 : a0.l.length ≤ c0) (y0 : c0 ≤ maxLen) (n0 : o0 = none → c0 = 0) (r0 : Ne.ARow w o0 a0.l) (k1 : a1.ok) (z1 : a1.l.length ≤ c1) (y1 : c1 ≤ maxLen) (n1 : o1 = none → c1 = 0) (r1 : Ne.ARow w o1 a1.l) (w2 : (Lit.int .i64 a2).wf = true) :
    Calls Try.prog 3 #[Ne.encN a0 o0 c0, Ne.encN a1 o1 c1, .int .i64 a2] w fun e w' => e = .returned (.bool true) ∧ Below w.heap.size w w' := by
  obtain ⟨an, as_, at_, al⟩ := a0
  obtain ⟨bn, bs, bt, bl⟩ := a1
  simp only [Ne.Net.ok] at k0 k1 z0 z1 r0 r1
  obtain ⟨_, _, _, ka⟩ := k0
  obtain ⟨_, _, _, kb⟩ := k1
  have hax : al.length ≤ maxLen := Nat.le_trans z0 y0
  have hbx : bl.length ≤ maxLen := Nat.le_trans z1 y1
  unfold maxLen at hax hbx
  have HSH := Lib.hid (Ne.shown_any ((w.alloc (.cells #[.int .i64 an, .int .i64 as_, .int .i64 at_, .slice o0 al.length c0] 24)).alloc (.cells #[.int .i64 bn, .int .i64 bs, .int .i64 bt, .slice o1 bl.length c1] 24)))
  have HB0 := Lib.hid (show Below w.heap.size w ((w.alloc (.cells #[.int .i64 an, .int .i64 as_, .int .i64 at_, .slice o0 al.length c0] 24)).alloc (.cells #[.int .i64 bn, .int .i64 bs, .int .i64 bt, .slice o1 bl.length c1] 24)) from ((Below.refl _ _).alloc (by simp) _).alloc (by simp) _)
  have NA := Lib.hid (Ne.netBox_alloc (Ne.netBox_new w an as_ at_ (.slice o0 al.length c0)) (.cells #[.int .i64 bn, .int .i64 bs, .int .i64 bt, .slice o1 bl.length c1] 24))
  have NB := Lib.hid (Ne.netBox_at (w.alloc (.cells #[.int .i64 an, .int .i64 as_, .int .i64 at_, .slice o0 al.length c0] 24)) (b := w.heap.size + 1) (by simp) bn bs bt (.slice o1 bl.length c1))
  have RA := Lib.hid (r0.kept HB0.out)
  have RB := Lib.hid (r1.kept HB0.out)
  have HZ : ((w.alloc (.cells #[.int .i64 an, .int .i64 as_, .int .i64 at_, .slice o0 al.length c0] 24)).alloc (.cells #[.int .i64 bn, .int .i64 bs, .int .i64 bt, .slice o1 bl.length c1] 24)).heap.size = w.heap.size + 2 := by simp
  clear r0 r1
  by_cases g1 : 3000 < al.length
  · have g1' : (3000 : Int) < (al.length : Int) := by omega
    go_enter Try.func3, Try.ntmps3
    go_wp2_with fail
    refine HSH.out.mono ?_
    rintro e w1 ⟨rfl, hb⟩
    generalize ((w.alloc (.cells #[.int .i64 an, .int .i64 as_, .int .i64 at_, .slice o0 al.length c0] 24)).alloc (.cells #[.int .i64 bn, .int .i64 bs, .int .i64 bt, .slice o1 bl.length c1] 24)) = WB at *
    have n3 := (Ne.netBox_cells (Ne.netBox_below NA.out hb (by omega))).2.2.2
    have HB1 := Lib.hid (HB0.out.trans (hb.mono (by omega)))
    clear hb
    go_wp2
    go_ret
    exact ⟨rfl, HB1.out⟩
  have g1' : ¬ (3000 : Int) < (al.length : Int) := by omega
  by_cases g2 : 3000 < bl.length
  · have g2' : (3000 : Int) < (bl.length : Int) := by omega
    go_enter Try.func3, Try.ntmps3
    go_wp2_with fail
    refine HSH.out.mono ?_
    rintro e w1 ⟨rfl, hb⟩
    generalize ((w.alloc (.cells #[.int .i64 an, .int .i64 as_, .int .i64 at_, .slice o0 al.length c0] 24)).alloc (.cells #[.int .i64 bn, .int .i64 bs, .int .i64 bt, .slice o1 bl.length c1] 24)) = WB at *
    have n3 := (Ne.netBox_cells (Ne.netBox_below NA.out hb (by omega))).2.2.2
    have m3 := (Ne.netBox_cells (Ne.netBox_below NB.out hb (by omega))).2.2.2
    have HB1 := Lib.hid (HB0.out.trans (hb.mono (by omega)))
    clear hb
    go_wp2
    go_ret
    exact ⟨rfl, HB1.out⟩
  have g2' : ¬ (3000 : Int) < (bl.length : Int) := by omega
  have la : al.length ≤ 1000000 := by omega
  have lb : bl.length ≤ 1000000 := by omega
  obtain ⟨ck, hck⟩ : ∃ c, c = Ne.checkN ⟨an, as_, at_, al⟩ := ⟨_, rfl⟩
  obtain ⟨sm, hsm⟩ : ∃ c, c = Ne.sameN ⟨an, as_, at_, al⟩ ⟨bn, bs, bt, bl⟩ := ⟨_, rfl⟩
  obtain ⟨ol, hol⟩ : ∃ c, c = Ne.outs al a2 al.length := ⟨_, rfl⟩
  obtain ⟨il, hil⟩ : ∃ c, c = Ne.ins al a2 al.length := ⟨_, rfl⟩
  have hol2 : ol.length ≤ 1099511627776 := by have := Ne.outs_len al a2 al.length; rw [← hol] at this; omega
  have hil2 : il.length ≤ 1099511627776 := by have := Ne.ins_len al a2 al.length; rw [← hil] at this; omega
  have CK := Lib.hid fun w' (h : Ne.ARow w' o0 al) => Ne.check_any ⟨an, as_, at_, al⟩ o0 c0 w' h la (fun a ha => (ka a ha).2.2)
  have RCK := Lib.hid fun w' (h : Ne.ARow w' o0 al) => Ne.rcheck_any ⟨an, as_, at_, al⟩ o0 c0 w' h la
  have O1 := Lib.hid fun w' (h : Ne.ARow w' o0 al) => Ne.out_s ⟨an, as_, at_, al⟩ o0 c0 a2 w' h la
  have O2 := Lib.hid fun w' (h : Ne.ARow w' o0 al) => Ne.rout_s ⟨an, as_, at_, al⟩ o0 c0 a2 w' h la
  have I1 := Lib.hid fun w' (h : Ne.ARow w' o0 al) => Ne.in_s ⟨an, as_, at_, al⟩ o0 c0 a2 w' h la
  have I2 := Lib.hid fun w' (h : Ne.ARow w' o0 al) => Ne.rin_s ⟨an, as_, at_, al⟩ o0 c0 a2 w' h la
  have DS := Lib.hid fun w' (h : Ne.ARow w' o0 al) (h2 : Ne.ARow w' o1 bl) => Ne.dsame_any ⟨an, as_, at_, al⟩ ⟨bn, bs, bt, bl⟩ o0 o1 c0 c1 w' h h2 la lb
  have RS := Lib.hid fun w' (h : Ne.ARow w' o0 al) (h2 : Ne.ARow w' o1 bl) => Ne.rsame_any ⟨an, as_, at_, al⟩ ⟨bn, bs, bt, bl⟩ o0 o1 c0 c1 w' h h2 la lb
  have T1 := Lib.hid fun w' (h : Ne.ARow w' o0 al) => Ne.turn_s ⟨an, as_, at_, al⟩ o0 c0 w' n0 h la
  have T2 := Lib.hid fun w' (h : Ne.ARow w' o0 al) => Ne.rturn_any ⟨an, as_, at_, al⟩ o0 c0 w' h la
  have CP := Lib.hid fun w' (h : Ne.ARow w' o0 al) => Ne.copy_s ⟨an, as_, at_, al⟩ o0 c0 w' n0 h la
  have SO := Lib.hid fun a1 a2 c1 c2 w' (h1 : Ne.IRow w' a1 ol) (h2 : Ne.IRow w' a2 ol) => Ne.same_s a1 a2 c1 c2 ol w' h1 h2 hol2
  have SI := Lib.hid fun a1 a2 c1 c2 w' (h1 : Ne.IRow w' a1 il) (h2 : Ne.IRow w' a2 il) => Ne.same_s a1 a2 c1 c2 il w' h1 h2 hil2
  obtain ⟨tl, htl⟩ : ∃ c, c = Ne.turnN ⟨an, as_, at_, al⟩ := ⟨_, rfl⟩
  have htl2 : tl.l.length ≤ 1000000 := by rw [htl]; simpa [Ne.turnN] using la
  have ST := Lib.hid fun a1 a2 c1 c2 w' (h1 : Ne.ARow w' a1 tl.l) (h2 : Ne.ARow w' a2 tl.l) => Ne.rsame_s tl a1 a2 c1 c2 w' h1 h2 htl2
  have SC := Lib.hid fun a1 a2 c1 c2 w' (h1 : Ne.ARow w' a1 al) (h2 : Ne.ARow w' a2 al) => Ne.rsame_s ⟨an, as_, at_, al⟩ a1 a2 c1 c2 w' h1 h2 la
  simp only [← hck, ← hsm, ← hol, ← hil, ← htl] at CK RCK O1 O2 I1 I2 DS RS T1 T2
  obtain ⟨tn, ts, tt, tl⟩ := tl
  clear hck hsm hol hil htl hol2 hil2 htl2 ka kb
  go_enter Try.func3, Try.ntmps3
  go_wp2_with fail
  refine HSH.out.mono ?_
  rintro e w1 ⟨rfl, hb⟩
  generalize ((w.alloc (.cells #[.int .i64 an, .int .i64 as_, .int .i64 at_, .slice o0 al.length c0] 24)).alloc (.cells #[.int .i64 bn, .int .i64 bs, .int .i64 bt, .slice o1 bl.length c1] 24)) = WB at *
  have HB1 := Lib.hid (show Below WB.heap.size WB w1.drew from Ne.below_drew hb)
  have n3 := (Ne.netBox_cells (Ne.netBox_below NA.out hb (by omega))).2.2.2
  have m3 := (Ne.netBox_cells (Ne.netBox_below NB.out hb (by omega))).2.2.2
  have HSB : Hid (∀ w', Below WB.heap.size WB w' → (fun w' => w'.cell? ⟨w.heap.size, 0, none⟩ = some (.int .i64 an) ∧ w'.cell? ⟨w.heap.size, 1, none⟩ = some (.int .i64 as_) ∧ w'.cell? ⟨w.heap.size, 2, none⟩ = some (.int .i64 at_) ∧ w'.cell? ⟨w.heap.size, 3, none⟩ = some (.slice o0 al.length c0) ∧ w'.cell? ⟨w.heap.size + 1, 0, none⟩ = some (.int .i64 bn) ∧ w'.cell? ⟨w.heap.size + 1, 1, none⟩ = some (.int .i64 bs) ∧ w'.cell? ⟨w.heap.size + 1, 2, none⟩ = some (.int .i64 bt) ∧ w'.cell? ⟨w.heap.size + 1, 3, none⟩ = some (.slice o1 bl.length c1)) w') := Lib.hid fun w' h => by
    obtain ⟨x0, x1, x2, x3⟩ := Ne.netBox_cells (Ne.netBox_below NA.out h (by omega))
    obtain ⟨y0, y1, y2, y3⟩ := Ne.netBox_cells (Ne.netBox_below NB.out h (by omega))
    exact ⟨x0, x1, x2, x3, y0, y1, y2, y3⟩
  clear hb
  go_wp2
  clear n3 m3
  have hS1 := HSB.out _ HB1.out
  refine Rh.start (S := (fun w' => w'.cell? ⟨w.heap.size, 0, none⟩ = some (.int .i64 an) ∧ w'.cell? ⟨w.heap.size, 1, none⟩ = some (.int .i64 as_) ∧ w'.cell? ⟨w.heap.size, 2, none⟩ = some (.int .i64 at_) ∧ w'.cell? ⟨w.heap.size, 3, none⟩ = some (.slice o0 al.length c0) ∧ w'.cell? ⟨w.heap.size + 1, 0, none⟩ = some (.int .i64 bn) ∧ w'.cell? ⟨w.heap.size + 1, 1, none⟩ = some (.int .i64 bs) ∧ w'.cell? ⟨w.heap.size + 1, 2, none⟩ = some (.int .i64 bt) ∧ w'.cell? ⟨w.heap.size + 1, 3, none⟩ = some (.slice o1 bl.length c1))) (by kernel_rfl) ?_
  refine Rh.take (some 24) (i := 0) (v := ?_) rfl (by kernel_rfl) (by kernel_rfl) (by kernel_rfl) (by kernel_rfl) (fun _ _ _ h => h) (Or.inl ⟨by rfl, ?_⟩) hS1 ?_
  rotate_left
  · intro w hSw
    go_simp
    try with_reducible rfl
  try simp only [Act.put, List.setIfInBounds_toArray, List.set_cons_zero, List.set_cons_succ]
  refine Rh.take (some 26) (i := 2) (v := ?_) rfl (by kernel_rfl) (by kernel_rfl) (by kernel_rfl) (by kernel_rfl) (fun _ _ _ h => h) (Or.inl ⟨by rfl, ?_⟩) hS1 ?_
  rotate_left
  · intro w hSw
    go_simp
    try with_reducible rfl
  try simp only [Act.put, List.setIfInBounds_toArray, List.set_cons_zero, List.set_cons_succ]
  refine Rh.step (i := 1) (by kernel_rfl) rfl fun K' hK' => ?_
  have HK := Lib.hid hK'
  clear hK'
  go_simp
  refine (CK.out _ (RA.out.kept HB1.out)).mono ?_
  rintro e w2 ⟨rfl, hb⟩
  have HB2 := Lib.hid (HB1.out.trans (hb.mono HB1.out.size))
  clear hb
  have hS2 := HSB.out w2 HB2.out
  refine HK.out _ _ ⟨hS2, ?_⟩
  clear HK K'
  try simp only [Act.put, List.setIfInBounds_toArray, List.set_cons_zero, List.set_cons_succ]
  refine Rh.step (i := 3) (by kernel_rfl) rfl fun K' hK' => ?_
  have HK := Lib.hid hK'
  clear hK'
  go_simp
  refine (RCK.out _ (RA.out.kept HB2.out)).mono ?_
  rintro e w3 ⟨rfl, hb⟩
  have HB3 := Lib.hid (HB2.out.trans (hb.mono HB2.out.size))
  clear hb
  have hS3 := HSB.out w3 HB3.out
  refine HK.out _ _ ⟨hS3, ?_⟩
  clear HK K'
  try simp only [Act.put, List.setIfInBounds_toArray, List.set_cons_zero, List.set_cons_succ]
  refine Rh.take (some 28) (i := 4) (v := ?_) rfl (by kernel_rfl) (by kernel_rfl) (by kernel_rfl) (by kernel_rfl) (fun _ _ _ h => h) (Or.inl ⟨by rfl, ?_⟩) hS3 ?_
  rotate_left
  · intro w hSw
    go_simp
    try with_reducible rfl
  try simp only [Act.put, List.setIfInBounds_toArray, List.set_cons_zero, List.set_cons_succ]
  refine Rh.take (some 29) (i := 5) (v := ?_) rfl (by kernel_rfl) (by kernel_rfl) (by kernel_rfl) (by kernel_rfl) (fun _ _ _ h => h) (Or.inl ⟨by rfl, ?_⟩) hS3 ?_
  rotate_left
  · intro w hSw
    go_simp
    try with_reducible rfl
  try simp only [Act.put, List.setIfInBounds_toArray, List.set_cons_zero, List.set_cons_succ]
  refine Rh.take (some 30) (i := 6) (v := ?_) rfl (by kernel_rfl) (by kernel_rfl) (by kernel_rfl) (by kernel_rfl) (fun _ _ _ h => h) (Or.inl ⟨by rfl, ?_⟩) hS3 ?_
  rotate_left
  · intro w hSw
    go_simp
    try with_reducible rfl
  try simp only [Act.put, List.setIfInBounds_toArray, List.set_cons_zero, List.set_cons_succ]
  refine Rh.take (some 31) (i := 7) (v := ?_) rfl (by kernel_rfl) (by kernel_rfl) (by kernel_rfl) (by kernel_rfl) (fun _ _ _ h => h) (Or.inl ⟨by rfl, ?_⟩) hS3 ?_
  rotate_left
  · intro w hSw
    go_simp
    try with_reducible rfl
  try simp only [Act.put, List.setIfInBounds_toArray, List.set_cons_zero, List.set_cons_succ]
  refine Rh.take (some 33) (i := 9) (v := ?_) rfl (by kernel_rfl) (by kernel_rfl) (by kernel_rfl) (by kernel_rfl) (fun _ _ _ h => h) (Or.inl ⟨by rfl, ?_⟩) hS3 ?_
  rotate_left
  · intro w hSw
    go_simp
    try with_reducible rfl
  try simp only [Act.put, List.setIfInBounds_toArray, List.set_cons_zero, List.set_cons_succ]
  refine Rh.take (some 34) (i := 10) (v := ?_) rfl (by kernel_rfl) (by kernel_rfl) (by kernel_rfl) (by kernel_rfl) (fun _ _ _ h => h) (Or.inl ⟨by rfl, ?_⟩) hS3 ?_
  rotate_left
  · intro w hSw
    go_simp
    try with_reducible rfl
  try simp only [Act.put, List.setIfInBounds_toArray, List.set_cons_zero, List.set_cons_succ]
  refine Rh.step (i := 8) (by kernel_rfl) rfl fun K' hK' => ?_
  have HK := Lib.hid hK'
  clear hK'
  go_simp
  refine (O1.out _ (RA.out.kept HB3.out)).mono ?_
  rintro e w4 ⟨p1, q1, rfl, r1, hb⟩
  have HB4 := Lib.hid (HB3.out.trans (hb.mono HB3.out.size))
  have X1 := Lib.hid (r1)
  clear hb r1
  have hS4 := HSB.out w4 HB4.out
  refine HK.out _ _ ⟨hS4, ?_⟩
  clear HK K'
  try simp only [Act.put, List.setIfInBounds_toArray, List.set_cons_zero, List.set_cons_succ]
  refine Rh.step (i := 11) (by kernel_rfl) rfl fun K' hK' => ?_
  have HK := Lib.hid hK'
  clear hK'
  go_simp
  refine (O2.out _ (RA.out.kept HB4.out)).mono ?_
  rintro e w5 ⟨p2, q2, rfl, r2, hb⟩
  have HB5 := Lib.hid (HB4.out.trans (hb.mono HB4.out.size))
  have X1' := Lib.hid (X1.out.kept hb)
  clear X1
  have X1 := Lib.hid X1'.out
  clear X1'
  have X2 := Lib.hid (r2)
  clear hb r2
  have hS5 := HSB.out w5 HB5.out
  refine HK.out _ _ ⟨hS5, ?_⟩
  clear HK K'
  try simp only [Act.put, List.setIfInBounds_toArray, List.set_cons_zero, List.set_cons_succ]
  refine Rh.step (i := 12) (by kernel_rfl) rfl fun K' hK' => ?_
  have HK := Lib.hid hK'
  clear hK'
  go_simp
  refine (SO.out _ _ _ _ _ X1.out X2.out).mono ?_
  rintro e w6 ⟨rfl, hb⟩
  have HB6 := Lib.hid (HB5.out.trans (hb.mono HB5.out.size))
  clear hb
  have hS6 := HSB.out w6 HB6.out
  refine HK.out _ _ ⟨hS6, ?_⟩
  clear HK K'
  try simp only [Act.put, List.setIfInBounds_toArray, List.set_cons_zero, List.set_cons_succ]
  refine Rh.take (some 37) (i := 13) (v := ?_) rfl (by kernel_rfl) (by kernel_rfl) (by kernel_rfl) (by kernel_rfl) (fun _ _ _ h => h) (Or.inl ⟨by rfl, ?_⟩) hS6 ?_
  rotate_left
  · intro w hSw
    go_simp
    try with_reducible rfl
  try simp only [Act.put, List.setIfInBounds_toArray, List.set_cons_zero, List.set_cons_succ]
  refine Rh.take (some 38) (i := 14) (v := ?_) rfl (by kernel_rfl) (by kernel_rfl) (by kernel_rfl) (by kernel_rfl) (fun _ _ _ h => h) (Or.inl ⟨by rfl, ?_⟩) hS6 ?_
  rotate_left
  · intro w hSw
    go_simp
    try with_reducible rfl
  try simp only [Act.put, List.setIfInBounds_toArray, List.set_cons_zero, List.set_cons_succ]
  refine Rh.take (some 39) (i := 15) (v := ?_) rfl (by kernel_rfl) (by kernel_rfl) (by kernel_rfl) (by kernel_rfl) (fun _ _ _ h => h) (Or.inl ⟨by rfl, ?_⟩) hS6 ?_
  rotate_left
  · intro w hSw
    go_simp
    try with_reducible rfl
  try simp only [Act.put, List.setIfInBounds_toArray, List.set_cons_zero, List.set_cons_succ]
  refine Rh.take (some 40) (i := 16) (v := ?_) rfl (by kernel_rfl) (by kernel_rfl) (by kernel_rfl) (by kernel_rfl) (fun _ _ _ h => h) (Or.inl ⟨by rfl, ?_⟩) hS6 ?_
  rotate_left
  · intro w hSw
    go_simp
    try with_reducible rfl
  try simp only [Act.put, List.setIfInBounds_toArray, List.set_cons_zero, List.set_cons_succ]
  refine Rh.take (some 42) (i := 18) (v := ?_) rfl (by kernel_rfl) (by kernel_rfl) (by kernel_rfl) (by kernel_rfl) (fun _ _ _ h => h) (Or.inl ⟨by rfl, ?_⟩) hS6 ?_
  rotate_left
  · intro w hSw
    go_simp
    try with_reducible rfl
  try simp only [Act.put, List.setIfInBounds_toArray, List.set_cons_zero, List.set_cons_succ]
  refine Rh.take (some 43) (i := 19) (v := ?_) rfl (by kernel_rfl) (by kernel_rfl) (by kernel_rfl) (by kernel_rfl) (fun _ _ _ h => h) (Or.inl ⟨by rfl, ?_⟩) hS6 ?_
  rotate_left
  · intro w hSw
    go_simp
    try with_reducible rfl
  try simp only [Act.put, List.setIfInBounds_toArray, List.set_cons_zero, List.set_cons_succ]
  refine Rh.step (i := 17) (by kernel_rfl) rfl fun K' hK' => ?_
  have HK := Lib.hid hK'
  clear hK'
  go_simp
  refine (I1.out _ (RA.out.kept HB6.out)).mono ?_
  rintro e w7 ⟨p3, q3, rfl, r3, hb⟩
  have HB7 := Lib.hid (HB6.out.trans (hb.mono HB6.out.size))
  have X3 := Lib.hid (r3)
  clear hb r3
  have hS7 := HSB.out w7 HB7.out
  refine HK.out _ _ ⟨hS7, ?_⟩
  clear HK K'
  try simp only [Act.put, List.setIfInBounds_toArray, List.set_cons_zero, List.set_cons_succ]
  refine Rh.step (i := 20) (by kernel_rfl) rfl fun K' hK' => ?_
  have HK := Lib.hid hK'
  clear hK'
  go_simp
  refine (I2.out _ (RA.out.kept HB7.out)).mono ?_
  rintro e w8 ⟨p4, q4, rfl, r4, hb⟩
  have HB8 := Lib.hid (HB7.out.trans (hb.mono HB7.out.size))
  have X3' := Lib.hid (X3.out.kept hb)
  clear X3
  have X3 := Lib.hid X3'.out
  clear X3'
  have X4 := Lib.hid (r4)
  clear hb r4
  have hS8 := HSB.out w8 HB8.out
  refine HK.out _ _ ⟨hS8, ?_⟩
  clear HK K'
  try simp only [Act.put, List.setIfInBounds_toArray, List.set_cons_zero, List.set_cons_succ]
  refine Rh.step (i := 21) (by kernel_rfl) rfl fun K' hK' => ?_
  have HK := Lib.hid hK'
  clear hK'
  go_simp
  refine (SI.out _ _ _ _ _ X3.out X4.out).mono ?_
  rintro e w9 ⟨rfl, hb⟩
  have HB9 := Lib.hid (HB8.out.trans (hb.mono HB8.out.size))
  clear hb
  have hS9 := HSB.out w9 HB9.out
  refine HK.out _ _ ⟨hS9, ?_⟩
  clear HK K'
  try simp only [Act.put, List.setIfInBounds_toArray, List.set_cons_zero, List.set_cons_succ]
  refine Rh.take (some 46) (i := 22) (v := ?_) rfl (by kernel_rfl) (by kernel_rfl) (by kernel_rfl) (by kernel_rfl) (fun _ _ _ h => h) (Or.inl ⟨by rfl, ?_⟩) hS9 ?_
  rotate_left
  · intro w hSw
    go_simp
    try with_reducible rfl
  try simp only [Act.put, List.setIfInBounds_toArray, List.set_cons_zero, List.set_cons_succ]
  refine Rh.take (some 47) (i := 23) (v := ?_) rfl (by kernel_rfl) (by kernel_rfl) (by kernel_rfl) (by kernel_rfl) (fun _ _ _ h => h) (Or.inl ⟨by rfl, ?_⟩) hS9 ?_
  rotate_left
  · intro w hSw
    go_simp
    try with_reducible rfl
  try simp only [Act.put, List.setIfInBounds_toArray, List.set_cons_zero, List.set_cons_succ]
  refine Rh.take (some 48) (i := 24) (v := ?_) rfl (by kernel_rfl) (by kernel_rfl) (by kernel_rfl) (by kernel_rfl) (fun _ _ _ h => h) (Or.inl ⟨by rfl, ?_⟩) hS9 ?_
  rotate_left
  · intro w hSw
    go_simp
    try with_reducible rfl
  try simp only [Act.put, List.setIfInBounds_toArray, List.set_cons_zero, List.set_cons_succ]
  refine Rh.take (some 49) (i := 25) (v := ?_) rfl (by kernel_rfl) (by kernel_rfl) (by kernel_rfl) (by kernel_rfl) (fun _ _ _ h => h) (Or.inl ⟨by rfl, ?_⟩) hS9 ?_
  rotate_left
  · intro w hSw
    go_simp
    try with_reducible rfl
  try simp only [Act.put, List.setIfInBounds_toArray, List.set_cons_zero, List.set_cons_succ]
  refine Rh.take (some 51) (i := 27) (v := ?_) rfl (by kernel_rfl) (by kernel_rfl) (by kernel_rfl) (by kernel_rfl) (fun _ _ _ h => h) (Or.inl ⟨by rfl, ?_⟩) hS9 ?_
  rotate_left
  · intro w hSw
    go_simp
    try with_reducible rfl
  try simp only [Act.put, List.setIfInBounds_toArray, List.set_cons_zero, List.set_cons_succ]
  refine Rh.take (some 52) (i := 28) (v := ?_) rfl (by kernel_rfl) (by kernel_rfl) (by kernel_rfl) (by kernel_rfl) (fun _ _ _ h => h) (Or.inl ⟨by rfl, ?_⟩) hS9 ?_
  rotate_left
  · intro w hSw
    go_simp
    try with_reducible rfl
  try simp only [Act.put, List.setIfInBounds_toArray, List.set_cons_zero, List.set_cons_succ]
  refine Rh.step (i := 26) (by kernel_rfl) rfl fun K' hK' => ?_
  have HK := Lib.hid hK'
  clear hK'
  go_simp
  refine (DS.out _ (RA.out.kept HB9.out) (RB.out.kept HB9.out)).mono ?_
  rintro e w10 ⟨rfl, hb⟩
  have HB10 := Lib.hid (HB9.out.trans (hb.mono HB9.out.size))
  clear hb
  have hS10 := HSB.out w10 HB10.out
  refine HK.out _ _ ⟨hS10, ?_⟩
  clear HK K'
  try simp only [Act.put, List.setIfInBounds_toArray, List.set_cons_zero, List.set_cons_succ]
  refine Rh.step (i := 29) (by kernel_rfl) rfl fun K' hK' => ?_
  have HK := Lib.hid hK'
  clear hK'
  go_simp
  refine (RS.out _ (RA.out.kept HB10.out) (RB.out.kept HB10.out)).mono ?_
  rintro e w11 ⟨rfl, hb⟩
  have HB11 := Lib.hid (HB10.out.trans (hb.mono HB10.out.size))
  clear hb
  have hS11 := HSB.out w11 HB11.out
  refine HK.out _ _ ⟨hS11, ?_⟩
  clear HK K'
  try simp only [Act.put, List.setIfInBounds_toArray, List.set_cons_zero, List.set_cons_succ]
  refine Rh.take (some 54) (i := 30) (v := ?_) rfl (by kernel_rfl) (by kernel_rfl) (by kernel_rfl) (by kernel_rfl) (fun _ _ _ h => h) (Or.inl ⟨by rfl, ?_⟩) hS11 ?_
  rotate_left
  · intro w hSw
    go_simp
    try with_reducible rfl
  try simp only [Act.put, List.setIfInBounds_toArray, List.set_cons_zero, List.set_cons_succ]
  refine Rh.take (some 55) (i := 31) (v := ?_) rfl (by kernel_rfl) (by kernel_rfl) (by kernel_rfl) (by kernel_rfl) (fun _ _ _ h => h) (Or.inl ⟨by rfl, ?_⟩) hS11 ?_
  rotate_left
  · intro w hSw
    go_simp
    try with_reducible rfl
  try simp only [Act.put, List.setIfInBounds_toArray, List.set_cons_zero, List.set_cons_succ]
  refine Rh.take (some 56) (i := 32) (v := ?_) rfl (by kernel_rfl) (by kernel_rfl) (by kernel_rfl) (by kernel_rfl) (fun _ _ _ h => h) (Or.inl ⟨by rfl, ?_⟩) hS11 ?_
  rotate_left
  · intro w hSw
    go_simp
    try with_reducible rfl
  try simp only [Act.put, List.setIfInBounds_toArray, List.set_cons_zero, List.set_cons_succ]
  refine Rh.take (some 57) (i := 33) (v := ?_) rfl (by kernel_rfl) (by kernel_rfl) (by kernel_rfl) (by kernel_rfl) (fun _ _ _ h => h) (Or.inl ⟨by rfl, ?_⟩) hS11 ?_
  rotate_left
  · intro w hSw
    go_simp
    try with_reducible rfl
  try simp only [Act.put, List.setIfInBounds_toArray, List.set_cons_zero, List.set_cons_succ]
  refine Rh.take (some 59) (i := 35) (v := ?_) rfl (by kernel_rfl) (by kernel_rfl) (by kernel_rfl) (by kernel_rfl) (fun _ _ _ h => h) (Or.inl ⟨by rfl, ?_⟩) hS11 ?_
  rotate_left
  · intro w hSw
    go_simp
    try with_reducible rfl
  try simp only [Act.put, List.setIfInBounds_toArray, List.set_cons_zero, List.set_cons_succ]
  refine Rh.step (i := 34) (by kernel_rfl) rfl fun K' hK' => ?_
  have HK := Lib.hid hK'
  clear hK'
  go_simp
  refine (T1.out _ (RA.out.kept HB11.out)).mono ?_
  rintro e w12 ⟨p5, q5, rfl, r5, hb⟩
  have HB12 := Lib.hid (HB11.out.trans (hb.mono HB11.out.size))
  have X5 := Lib.hid (r5)
  clear hb r5
  have hS12 := HSB.out w12 HB12.out
  refine HK.out _ _ ⟨hS12, ?_⟩
  clear HK K'
  try simp only [Act.put, List.setIfInBounds_toArray, List.set_cons_zero, List.set_cons_succ]
  refine Rh.step (i := 36) (by kernel_rfl) rfl fun K' hK' => ?_
  have HK := Lib.hid hK'
  clear hK'
  go_simp
  refine (T2.out _ (RA.out.kept HB12.out)).mono ?_
  rintro e w13 ⟨p6, q6, rfl, r6, hb⟩
  have HB13 := Lib.hid (HB12.out.trans (hb.mono HB12.out.size))
  have X5' := Lib.hid (X5.out.kept hb)
  clear X5
  have X5 := Lib.hid X5'.out
  clear X5'
  have X6 := Lib.hid (r6)
  clear hb r6
  have hS13 := HSB.out w13 HB13.out
  refine HK.out _ _ ⟨hS13, ?_⟩
  clear HK K'
  try simp only [Act.put, List.setIfInBounds_toArray, List.set_cons_zero, List.set_cons_succ]
  refine Rh.step (i := 37) (by kernel_rfl) rfl fun K' hK' => ?_
  have HK := Lib.hid hK'
  clear hK'
  go_simp
  refine (ST.out _ _ _ _ _ X5.out X6.out).mono ?_
  rintro e w14 ⟨rfl, hb⟩
  have HB14 := Lib.hid (HB13.out.trans (hb.mono HB13.out.size))
  clear hb
  have hS14 := HSB.out w14 HB14.out
  refine HK.out _ _ ⟨hS14, ?_⟩
  clear HK K'
  try simp only [Act.put, List.setIfInBounds_toArray, List.set_cons_zero, List.set_cons_succ]
  refine Rh.take (some 62) (i := 38) (v := ?_) rfl (by kernel_rfl) (by kernel_rfl) (by kernel_rfl) (by kernel_rfl) (fun _ _ _ h => h) (Or.inl ⟨by rfl, ?_⟩) hS14 ?_
  rotate_left
  · intro w hSw
    go_simp
    try with_reducible rfl
  try simp only [Act.put, List.setIfInBounds_toArray, List.set_cons_zero, List.set_cons_succ]
  refine Rh.take (some 63) (i := 39) (v := ?_) rfl (by kernel_rfl) (by kernel_rfl) (by kernel_rfl) (by kernel_rfl) (fun _ _ _ h => h) (Or.inl ⟨by rfl, ?_⟩) hS14 ?_
  rotate_left
  · intro w hSw
    go_simp
    try with_reducible rfl
  try simp only [Act.put, List.setIfInBounds_toArray, List.set_cons_zero, List.set_cons_succ]
  refine Rh.take (some 64) (i := 40) (v := ?_) rfl (by kernel_rfl) (by kernel_rfl) (by kernel_rfl) (by kernel_rfl) (fun _ _ _ h => h) (Or.inl ⟨by rfl, ?_⟩) hS14 ?_
  rotate_left
  · intro w hSw
    go_simp
    try with_reducible rfl
  try simp only [Act.put, List.setIfInBounds_toArray, List.set_cons_zero, List.set_cons_succ]
  refine Rh.take (some 66) (i := 42) (v := ?_) rfl (by kernel_rfl) (by kernel_rfl) (by kernel_rfl) (by kernel_rfl) (fun _ _ _ h => h) (Or.inl ⟨by rfl, ?_⟩) hS14 ?_
  rotate_left
  · intro w hSw
    go_simp
    try with_reducible rfl
  try simp only [Act.put, List.setIfInBounds_toArray, List.set_cons_zero, List.set_cons_succ]
  refine Rh.step (i := 41) (by kernel_rfl) rfl fun K' hK' => ?_
  have HK := Lib.hid hK'
  clear hK'
  go_simp
  refine (CP.out _ (RA.out.kept HB14.out)).mono ?_
  rintro e w15 ⟨p7, q7, rfl, r7, hb⟩
  have HB15 := Lib.hid (HB14.out.trans (hb.mono HB14.out.size))
  have X7 := Lib.hid (r7)
  clear hb r7
  have hS15 := HSB.out w15 HB15.out
  refine HK.out _ _ ⟨hS15, ?_⟩
  clear HK K'
  try simp only [Act.put, List.setIfInBounds_toArray, List.set_cons_zero, List.set_cons_succ]
  refine Rh.step (i := 43) (by kernel_rfl) rfl fun K' hK' => ?_
  have HK := Lib.hid hK'
  clear hK'
  go_simp
  refine (SC.out _ _ _ _ _ X7.out (RA.out.kept HB15.out)).mono ?_
  rintro e w16 ⟨rfl, hb⟩
  have HB16 := Lib.hid (HB15.out.trans (hb.mono HB15.out.size))
  clear hb
  have hS16 := HSB.out w16 HB16.out
  refine HK.out _ _ ⟨hS16, ?_⟩
  clear HK K'
  try simp only [Act.put, List.setIfInBounds_toArray, List.set_cons_zero, List.set_cons_succ]
  refine Rh.take (some 68) (i := 44) (v := ?_) rfl (by kernel_rfl) (by kernel_rfl) (by kernel_rfl) (by kernel_rfl) (fun _ _ _ h => h) (Or.inl ⟨by rfl, ?_⟩) hS16 ?_
  rotate_left
  · intro w hSw
    go_simp
    try with_reducible rfl
  try simp only [Act.put, List.setIfInBounds_toArray, List.set_cons_zero, List.set_cons_succ]
  refine Rh.take (some 6) (i := 45) (v := ?_) rfl (by kernel_rfl) (by kernel_rfl) (by kernel_rfl) (by kernel_rfl) (fun _ _ _ h => h) (Or.inl ⟨by rfl, ?_⟩) hS16 ?_
  rotate_left
  · intro w hSw
    go_simp
    try with_reducible rfl
  try simp only [Act.put, List.setIfInBounds_toArray, List.set_cons_zero, List.set_cons_succ]
  refine Rh.done (by kernel_rfl) ?_ _
  go_wp2
  go_ret
  exact ⟨rfl, HB0.out.trans (HB16.out.mono (by omega))⟩

end Go.Proofs.Ytpoflbnmfoamhaa.netTells
