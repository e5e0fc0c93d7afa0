/-
  Stage 9: contracts of the developers' forest: beyond, Add. Condition: the number added is one of 64 bits.
-/
import Derived.Test.YtlkigpmjhojceaaSwe
import Derived.Test.YtlkigpmjhojceaaAdd
namespace Go.Proofs.Ytlkigpmjhojceaa
open Go.ChangeShapes Go.WideShapes Go.ChangeAt Go.RowKit
set_option linter.unusedVariables false
set_option linter.unusedSimpArgs false
namespace Sp
open Sv
set_option maxHeartbeats 1000000 in
theorem beyond_in (x : Int) (hx : -4611686018427387904 ≤ x ∧ x ≤ 4611686018427387904) (w : World) :
    Calls Try.prog 37 #[.int .i64 x] w fun e w' => e = .returned (.bool false) ∧ w = w' := by
  obtain ⟨h1, h2⟩ := hx
  have h3 : ¬ x < -4611686018427387904 := by omega
  have h4 : ¬ 4611686018427387904 < x := by omega
  have h5 : decide (x < -4611686018427387904) = false := by simpa using h3
  have h6 : decide (4611686018427387904 < x) = false := by simpa using h4
  go_enter Try.func37, Try.ntmps37
  go_wp2
  go_ret
  exact ⟨rfl, rfl⟩
set_option maxHeartbeats 1000000 in
theorem beyond_out (x : Int) (hx : x < -4611686018427387904 ∨ 4611686018427387904 < x) (w : World) :
    Calls Try.prog 37 #[.int .i64 x] w fun e w' => e = .returned (.bool true) ∧ w = w' := by
  by_cases h3 : x < -4611686018427387904
  · clear hx
    go_enter Try.func37, Try.ntmps37
    go_wp2
    go_ret
    exact ⟨rfl, rfl⟩
  · have h4 : 4611686018427387904 < x := by omega
    have h5 : decide (x < -4611686018427387904) = false := by simpa using h3
    clear hx
    go_enter Try.func37, Try.ntmps37
    go_wp2
    go_ret
    exact ⟨rfl, rfl⟩
section
variable {w w1 w2 w3 w4 : World} {B p lo hi g c : Nat} {F : Nat → Prop} {s : St} {M : Nat → Nd} {I : Nat → List Nat} {P : Nat → Bool} {D : Nat → Int}
def okA (m d : Int) : Prop := -4611686018427387904 ≤ m + d ∧ m + d ≤ 4611686018427387904
instance (m d : Int) : Decidable (okA m d) := by unfold okA; infer_instance
theorem ok_one {m1 m2 d : Int} (h : okA m1 d) : ∀ k : Nat, k < 1 → if k = 0 then okA m1 d else okA m2 d := fun k hk => by
  obtain rfl : k = 0 := by omega
  exact h
theorem ok_two {m1 m2 d : Int} (h0 : ∀ k : Nat, k < 1 → if k = 0 then okA m1 d else okA m2 d) (h : okA m2 d) : ∀ k : Nat, k < 2 → if k = 0 then okA m1 d else okA m2 d := fun k hk => by
  obtain rfl | rfl : k = 0 ∨ k = 1 := by omega
  · exact h0 0 (by omega)
  · exact h
theorem addS_miss {x d : Int} (h : rowZ s x = []) : addE s x d = 4 ∧ addS s x d = s := by
  have e : addE s x d = 4 := by unfold addE; rw [if_pos h]
  exact ⟨e, by unfold addS; rw [if_neg (by rw [e]; decide)]⟩
section
variable {y c1 : Nat} {M1 : Nat → Nd} {I1 : Nat → List Nat} {P1 : Nat → Bool} {D1 : Nat → Int}
theorem Tp.adds (h : Hd w B F p s lo hi g c M I P D) {n K : Nat} (t : Tp w w1 B p g s.v.length s c K y c1 M1 I1 P1 D1) (d : Int) : addE s (y : Int) d = if okA (M1 y).lo d ∧ okA (M1 y).hi d then 0 else 3 := by
  have hlo := t.inv.lo_at t.lt id t.cl.2.1
  have hhi := t.inv.hi_at t.lt id t.cl.2.1
  rw [← t.inv.root_row t.lt t.up] at hlo hhi
  have hne : rowZ s (y : Int) ≠ [] := fun e => by have := h.row.1 e; have := t.lt; omega
  unfold addE
  rw [if_neg hne, rowZ_nat]
  have hb : ∀ i ∈ s.r y, -big ≤ Ne.amt s.v i ∧ Ne.amt s.v i ≤ big := fun i hi => h.good.bnd i (h.good.lt y i hi)
  congr 1
  apply propext
  constructor
  · intro hf
    obtain ⟨i, hi, ei⟩ := hlo.1
    obtain ⟨j, hj, ej⟩ := hhi.1
    have h1 := (fits_iff _ d (hb i hi)).1 (hf i hi)
    have h2 := (fits_iff _ d (hb j hj)).1 (hf j hj)
    rw [ei] at h1
    rw [ej] at h2
    exact ⟨h1, h2⟩
  · rintro ⟨h1, h2⟩ i hi
    refine (fits_iff _ d (hb i hi)).2 ?_
    have g1 := hlo.2 i hi
    have g2 := hhi.2 i hi
    unfold okA at h1 h2
    unfold big
    omega
theorem Hd.unadded (h : Hd w B F p s lo hi g c M I P D) (hB : B ≤ w.heap.size) (t : Tp w w1 B p g s.v.length s c (c + 6 * pot I s.v.length) y c1 M1 I1 P1 D1) {d : Int} (hM : SpM w2 B p g s.v.length M1 c1) (ho : Off (PG p g) w1 w2) (he : addE s (y : Int) d ≠ 0) :
    SpO w2 B (Ext F w w2) p (addS s (y : Int) d) (lo + it s (y : Int)) (hi + cst s.v.length) ∧ Off F w w2 := by
  have e : addS s (y : Int) d = s := by unfold addS; rw [if_neg he]
  rw [e, it_in h t.lt]
  exact h.to hB hM (off_pg t.off ho) rfl t.inv h.good (by have := t.lo; have := h.lo; omega) (by have := t.hi; omega)
theorem Hd.added (h : Hd w B F p s lo hi g c M I P D) (hB : B ≤ w.heap.size) (t : Tp w w1 B p g s.v.length s c (c + 6 * pot I s.v.length) y c1 M1 I1 P1 D1) {d : Int} (ho : Off (PG p g) w1 w2) (he : addE s (y : Int) d = 0) (hM : SpA w2 w3 B p g s.v.length (upd M1 y (handN (M1 y) false d)) c1) :
    SpO w3 B (Ext F w w3) p (addS s (y : Int) d) (lo + it s (y : Int)) (hi + cst s.v.length) ∧ Off F w w3 := by
  have hG := good_add h.good (y : Int) d
  have e : addS s (y : Int) d = ⟨addL s.v (rowZ s (y : Int)) d, s.r⟩ := by unfold addS; rw [if_pos he]
  rw [e] at hG ⊢
  rw [it_in h t.lt]
  refine h.to hB (s2 := ⟨addL s.v (rowZ s (y : Int)) d, s.r⟩) hM.toSpM (off_pg t.off (off_pg ho hM.off)) (addL_len _ _ _) (add_inv (d := d) t.inv t.lt t.up (fun z hz => ?_) (fun z hz => ?_)) hG (by have := t.lo; have := h.lo; omega) (by have := t.hi; omega)
  · show Ne.amt (addL s.v (rowZ s (y : Int)) d) z = _
    rw [addL_at hz, rowZ_nat]
  · exact hG.bnd z (by show z < (addL s.v (rowZ s (y : Int)) d).length; rw [addL_len]; exact hz)
end
set_option maxHeartbeats 4000000 in
theorem dadd_any (h : SpO w B F p s lo hi) (hBw : B ≤ w.heap.size) (x d : Int) (hd : -9223372036854775808 ≤ d ∧ d ≤ 9223372036854775807) :
    Calls Try.prog 33 #[.pointer (some ⟨p, 0, none⟩), .int .i64 x, .int .i64 d] w fun e w' => e = .returned (.int .i64 (addE s x d)) ∧ SpO w' B (Ext F w w') p (addS s x d) (lo + it s x) (hi + cst s.v.length) ∧ Off F w w' := by
  obtain ⟨g, c, M, I, P, D, h⟩ := h.hd
  by_cases hx : 0 ≤ x ∧ x < (s.v.length : Int)
  case neg =>
    have hm := h.miss hBw hx
    have HE := Lib.hid hm.1
    have HL := Lib.hid (lift_out h.mem hx)
    have hz : addE s x d = 4 := by exact (addS_miss hm.2).1
    rw [hz, (addS_miss hm.2).2]
    clear h hx hm hz
    go_enter Try.func33, Try.ntmps33
    go_wp2_with fail
    refine HL.out.mono ?_
    rintro e w1 ⟨rfl, rfl⟩
    go_wp2
    go_ret
    exact ⟨rfl, HE.out⟩
  obtain ⟨y, rfl⟩ : ∃ y : Nat, x = (y : Int) := ⟨x.toNat, by omega⟩
  have hy : y < s.v.length := by omega
  have hyi : (y : Int) < (s.v.length : Int) := hx.2
  have hy0 : (0 : Int) ≤ (y : Int) := hx.1
  have HL := Lib.hid (h.lift hy)
  clear hx
  have HH := Lib.hid h
  clear h
  go_enter Try.func33, Try.ntmps33
  go_wp2_with fail
  refine HL.out.mono ?_
  rintro e w1 ⟨rfl, c1, M1, I1, P1, D1, t1⟩
  have n0 := t1.mem.head
  have e1 := t1.mem.cells hy 1 _ rfl
  have e2 := t1.mem.cells hy 2 _ rfl
  have hae := t1.adds (n := 0) HH.out d
  obtain ⟨m1, hm1⟩ : ∃ m, m = (M1 y).lo := ⟨_, rfl⟩
  obtain ⟨m2, hm2⟩ : ∃ m, m = (M1 y).hi := ⟨_, rfl⟩
  have hbd : (-4611686018427387904 ≤ m1 ∧ m1 ≤ 4611686018427387904) ∧ (-4611686018427387904 ≤ m2 ∧ m2 ≤ 4611686018427387904) := by
    rw [hm1, hm2]
    exact ⟨min_bnd (t1.inv.lo_at hy id t1.cl.2.1) (t1.inv.lt y hy) t1.inv.bnd, max_bnd (t1.inv.hi_at hy id t1.cl.2.1) (t1.inv.lt y hy) t1.inv.bnd⟩
  rw [← hm1, ← hm2] at hae
  rw [← hm1] at e1
  rw [← hm2] at e2
  have HM := Lib.hid hbd
  have hML := (t1.mem.kept ((Below.refl _ w1).alloc (Nat.le_refl _) (.cells #[.int .i64 m1, .int .i64 m2] 2))).drew
  have hOL : Off (PG p g) w1 (w1.alloc (.cells #[.int .i64 m1, .int .i64 m2] 2)).drew := off_pg ((Off.refl _ w1).alloc _) (off_drew _)
  have hcl : (w1.alloc (.cells #[.int .i64 m1, .int .i64 m2] 2)).drew.cell? ⟨w1.heap.size, 0, none⟩ = some (.int .i64 m1) ∧ (w1.alloc (.cells #[.int .i64 m1, .int .i64 m2] 2)).drew.cell? ⟨w1.heap.size, 1, none⟩ = some (.int .i64 m2) := by
    have e : (w1.alloc (.cells #[.int .i64 m1, .int .i64 m2] 2)).drew.heap[w1.heap.size]? = some (.cells #[.int .i64 m1, .int .i64 m2] 2) := by show (w1.heap.push _)[w1.heap.size]? = _; simp
    refine ⟨?_, ?_⟩
    · simp only [World.cell?]; rw [e]; rfl
    · simp only [World.cell?]; rw [e]; rfl
  have HC := Lib.hid hcl
  have HBAD := Lib.hid (fun (hn : ¬ (okA m1 d ∧ okA m2 d)) => show addE s (y : Int) d = 3 ∧ _ from ⟨by rw [hae, if_neg hn], HH.out.unadded hBw t1 hML hOL (d := d) (by rw [hae, if_neg hn]; decide)⟩)
  have HGOOD := Lib.hid (fun (hn : okA m1 d ∧ okA m2 d) (w3 : World) hM => show addE s (y : Int) d = 0 ∧ _ from ⟨by rw [hae, if_pos hn], HH.out.added (w3 := w3) hBw t1 hOL (d := d) (by rw [hae, if_pos hn]) hM⟩)
  have HBAD2 := Lib.hid (fun (hn : okA m1 d ∧ okA m2 d) => show addE s (y : Int) d = 0 from by rw [hae, if_pos hn])
  have HADD := Lib.hid (Sv.add_any hML hy d)
  clear t1 hae hm1 hm2 hbd hML hOL hcl
  go_wp2_with fail
  have hS0 := (show (fun w' : World => w'.cell? ⟨p, 0, none⟩ = some (.slice (some ⟨g, 0, none⟩) s.v.length s.v.length) ∧ w'.cell? ⟨g, y * 9 + 1, none⟩ = some (.int .i64 m1) ∧ w'.cell? ⟨g, y * 9 + 2, none⟩ = some (.int .i64 m2)) w1.drew from ⟨n0, e1, e2⟩)
  refine Rh.start (S := (fun w' : World => w'.cell? ⟨p, 0, none⟩ = some (.slice (some ⟨g, 0, none⟩) s.v.length s.v.length) ∧ w'.cell? ⟨g, y * 9 + 1, none⟩ = some (.int .i64 m1) ∧ w'.cell? ⟨g, y * 9 + 2, none⟩ = some (.int .i64 m2))) (by kernel_rfl) ?_
  refine Rh.take (some 15) (i := 0) (v := ?_) rfl (by kernel_rfl) (by kernel_rfl) (by kernel_rfl) (by kernel_rfl) (fun _ _ _ h => h) (Or.inl ⟨by rfl, ?_⟩) hS0 ?_
  rotate_left
  · intro w hSw
    go_simp
    try with_reducible rfl
  try simp only [Act.put, List.setIfInBounds_toArray, List.set_cons_zero, List.set_cons_succ]
  refine Rh.take (some 16) (i := 1) (v := ?_) rfl (by kernel_rfl) (by kernel_rfl) (by kernel_rfl) (by kernel_rfl) (fun _ _ _ h => h) (Or.inl ⟨by rfl, ?_⟩) hS0 ?_
  rotate_left
  · intro w hSw
    go_simp
    try with_reducible rfl
  try simp only [Act.put, List.setIfInBounds_toArray, List.set_cons_zero, List.set_cons_succ]
  refine Rh.take (some 17) (i := 2) (v := ?_) rfl (by kernel_rfl) (by kernel_rfl) (by kernel_rfl) (by kernel_rfl) (fun _ _ _ h => h) (Or.inl ⟨by rfl, ?_⟩) hS0 ?_
  rotate_left
  · intro w hSw
    go_simp
    try with_reducible rfl
  try simp only [Act.put, List.setIfInBounds_toArray, List.set_cons_zero, List.set_cons_succ]
  refine Rh.take (some 18) (i := 3) (v := ?_) rfl (by kernel_rfl) (by kernel_rfl) (by kernel_rfl) (by kernel_rfl) (fun _ _ _ h => h) (Or.inl ⟨by rfl, ?_⟩) hS0 ?_
  rotate_left
  · intro w hSw
    go_simp
    try with_reducible rfl
  try simp only [Act.put, List.setIfInBounds_toArray, List.set_cons_zero, List.set_cons_succ]
  refine Rh.take (some 19) (i := 4) (v := ?_) rfl (by kernel_rfl) (by kernel_rfl) (by kernel_rfl) (by kernel_rfl) (fun _ _ _ h => h) (Or.inl ⟨by rfl, ?_⟩) hS0 ?_
  rotate_left
  · intro w hSw
    go_simp
    try with_reducible rfl
  try simp only [Act.put, List.setIfInBounds_toArray, List.set_cons_zero, List.set_cons_succ]
  refine Rh.take (some 20) (i := 5) (v := ?_) rfl (by kernel_rfl) (by kernel_rfl) (by kernel_rfl) (by kernel_rfl) (fun _ _ _ h => h) (Or.inl ⟨by rfl, ?_⟩) hS0 ?_
  rotate_left
  · intro w hSw
    go_simp
    try with_reducible rfl
  try simp only [Act.put, List.setIfInBounds_toArray, List.set_cons_zero, List.set_cons_succ]
  refine Rh.take (some 21) (i := 6) (v := ?_) rfl (by kernel_rfl) (by kernel_rfl) (by kernel_rfl) (by kernel_rfl) (fun _ _ _ h => h) (Or.inl ⟨by rfl, ?_⟩) hS0 ?_
  rotate_left
  · intro w hSw
    go_simp
    try with_reducible rfl
  try simp only [Act.put, List.setIfInBounds_toArray, List.set_cons_zero, List.set_cons_succ]
  refine Rh.take (some 22) (i := 7) (v := ?_) rfl (by kernel_rfl) (by kernel_rfl) (by kernel_rfl) (by kernel_rfl) (fun _ _ _ h => h) (Or.inl ⟨by rfl, ?_⟩) hS0 ?_
  rotate_left
  · intro w hSw
    go_simp
    try with_reducible rfl
  try simp only [Act.put, List.setIfInBounds_toArray, List.set_cons_zero, List.set_cons_succ]
  refine Rh.take (some 23) (i := 8) (v := ?_) rfl (by kernel_rfl) (by kernel_rfl) (by kernel_rfl) (by kernel_rfl) (fun _ _ _ h => h) (Or.inl ⟨by rfl, ?_⟩) hS0 ?_
  rotate_left
  · intro w hSw
    go_simp
    try with_reducible rfl
  try simp only [Act.put, List.setIfInBounds_toArray, List.set_cons_zero, List.set_cons_succ]
  refine Rh.take (some 24) (i := 9) (v := ?_) rfl (by kernel_rfl) (by kernel_rfl) (by kernel_rfl) (by kernel_rfl) (fun _ _ _ h => h) (Or.inl ⟨by rfl, ?_⟩) hS0 ?_
  rotate_left
  · intro w hSw
    go_simp
    try with_reducible rfl
  try simp only [Act.put, List.setIfInBounds_toArray, List.set_cons_zero, List.set_cons_succ]
  refine Rh.take (some 25) (i := 10) (v := ?_) rfl (by kernel_rfl) (by kernel_rfl) (by kernel_rfl) (by kernel_rfl) (fun _ _ _ h => h) (Or.inl ⟨by rfl, ?_⟩) hS0 ?_
  rotate_left
  · intro w hSw
    go_simp
    try with_reducible rfl
  try simp only [Act.put, List.setIfInBounds_toArray, List.set_cons_zero, List.set_cons_succ]
  refine Rh.take (some 26) (i := 11) (v := ?_) rfl (by kernel_rfl) (by kernel_rfl) (by kernel_rfl) (by kernel_rfl) (fun _ _ _ h => h) (Or.inl ⟨by rfl, ?_⟩) hS0 ?_
  rotate_left
  · intro w hSw
    go_simp
    try with_reducible rfl
  try simp only [Act.put, List.setIfInBounds_toArray, List.set_cons_zero, List.set_cons_succ]
  refine Rh.take (some 27) (i := 12) (v := ?_) rfl (by kernel_rfl) (by kernel_rfl) (by kernel_rfl) (by kernel_rfl) (fun _ _ _ h => h) (Or.inl ⟨by rfl, ?_⟩) hS0 ?_
  rotate_left
  · intro w hSw
    go_simp
    try with_reducible rfl
  try simp only [Act.put, List.setIfInBounds_toArray, List.set_cons_zero, List.set_cons_succ]
  refine Rh.take (some 28) (i := 13) (v := ?_) rfl (by kernel_rfl) (by kernel_rfl) (by kernel_rfl) (by kernel_rfl) (fun _ _ _ h => h) (Or.inl ⟨by rfl, ?_⟩) hS0 ?_
  rotate_left
  · intro w hSw
    go_simp
    try with_reducible rfl
  try simp only [Act.put, List.setIfInBounds_toArray, List.set_cons_zero, List.set_cons_succ]
  refine Rh.take (some 29) (i := 14) (v := ?_) rfl (by kernel_rfl) (by kernel_rfl) (by kernel_rfl) (by kernel_rfl) (fun _ _ _ h => h) (Or.inl ⟨by rfl, ?_⟩) hS0 ?_
  rotate_left
  · intro w hSw
    go_simp
    try with_reducible rfl
  try simp only [Act.put, List.setIfInBounds_toArray, List.set_cons_zero, List.set_cons_succ]
  refine Rh.take (some 30) (i := 15) (v := ?_) rfl (by kernel_rfl) (by kernel_rfl) (by kernel_rfl) (by kernel_rfl) (fun _ _ _ h => h) (Or.inl ⟨by rfl, ?_⟩) hS0 ?_
  rotate_left
  · intro w hSw
    go_simp
    try with_reducible rfl
  try simp only [Act.put, List.setIfInBounds_toArray, List.set_cons_zero, List.set_cons_succ]
  refine Rh.take (some 33) (i := 18) (v := ?_) rfl (by kernel_rfl) (by kernel_rfl) (by kernel_rfl) (by kernel_rfl) (fun _ _ _ h => h) (Or.inl ⟨by rfl, ?_⟩) hS0 ?_
  rotate_left
  · intro w hSw
    go_simp
    try with_reducible rfl
  try simp only [Act.put, List.setIfInBounds_toArray, List.set_cons_zero, List.set_cons_succ]
  refine Rh.step (i := 16) (by kernel_rfl) rfl fun K' hK' => ?_
  have HK := Lib.hid hK'
  clear hK'
  go_simp
  refine HK.out _ _ ⟨(show (fun w' : World => w'.cell? ⟨p, 0, none⟩ = some (.slice (some ⟨g, 0, none⟩) s.v.length s.v.length) ∧ w'.cell? ⟨g, y * 9 + 1, none⟩ = some (.int .i64 m1) ∧ w'.cell? ⟨g, y * 9 + 2, none⟩ = some (.int .i64 m2)) (w1.alloc (.cells #[.int .i64 m1, .int .i64 m2] 2)).drew from ⟨Ne.held_new n0, Ne.held_new e1, Ne.held_new e2⟩), ?_⟩
  clear HK K'
  try simp only [Act.put, List.setIfInBounds_toArray, List.set_cons_zero, List.set_cons_succ]
  refine Rh.take (some 32) (i := 17) (v := ?_) rfl (by kernel_rfl) (by kernel_rfl) (by kernel_rfl) (by kernel_rfl) (fun _ _ _ h => h) (Or.inl ⟨by rfl, ?_⟩) (show (fun w' : World => w'.cell? ⟨p, 0, none⟩ = some (.slice (some ⟨g, 0, none⟩) s.v.length s.v.length) ∧ w'.cell? ⟨g, y * 9 + 1, none⟩ = some (.int .i64 m1) ∧ w'.cell? ⟨g, y * 9 + 2, none⟩ = some (.int .i64 m2)) (w1.alloc (.cells #[.int .i64 m1, .int .i64 m2] 2)).drew from ⟨Ne.held_new n0, Ne.held_new e1, Ne.held_new e2⟩) ?_
  rotate_left
  · intro w hSw
    go_simp
    try with_reducible rfl
  try simp only [Act.put, List.setIfInBounds_toArray, List.set_cons_zero, List.set_cons_succ]
  refine Rh.done (by kernel_rfl) ?_ _
  generalize hWL : (w1.alloc (.cells #[.int .i64 m1, .int .i64 m2] 2)).drew = WL at *
  clear n0 e1 e2 hWL
  go_wp2
  go_loopg [33] 2 (fun gg si wr => ∃ i : Nat, si = .int .i64 i ∧ i + gg = 2 ∧ WL = wr ∧ Hid (∀ k, k < i → if k = 0 then okA m1 d else okA m2 d))
  case atStart => exact ⟨0, rfl, by omega, rfl, Lib.hid (fun k hk => absurd hk (by omega))⟩
  case round =>
      obtain ⟨i, rfl, hig, rfl, HOKS⟩ := hrel
      obtain rfl | rfl | rfl : i = 0 ∨ i = 1 ∨ i = 2 := by omega
      · have hcd := HC.out.1
        by_cases hok : okA m1 d
        · have hb := Lib.hid (beyond_in (m1 + d) hok WL)
          have hadd := Num.add_any m1 d WL (by have := HM.out.1; omega) (by have := HM.out.1; omega) hd.1 hd.2
          rw [Num.valV_in (by unfold okA at hok; omega) (by unfold okA at hok; omega), Num.valE_in (by unfold okA at hok; omega) (by unfold okA at hok; omega)] at hadd
          have HAD := Lib.hid hadd
          have HOK := Lib.hid hok
          clear hadd hok
          generalize m1 + d = md at *
          go_wp2_with fail
          refine HAD.out.mono ?_
          rintro e wz ⟨rfl, rfl⟩
          go_wp2_with fail
          refine hb.out.mono ?_
          rintro e wz ⟨rfl, rfl⟩
          go_wp2
          go_roundg 1
          case measure => omega
          case rel => exact ⟨1, by rfl, by omega, rfl, Lib.hid (ok_one HOK.out)⟩
        · have hbad := HBAD.out (fun c => hok c.1)
          have HE := Lib.hid hbad.2
          have HZ := Lib.hid hbad.1
          clear hbad
          by_cases hin : -9223372036854775808 ≤ m1 + d ∧ m1 + d ≤ 9223372036854775807
          · have hb := Lib.hid (beyond_out (m1 + d) (by unfold okA at hok; omega) WL)
            have hadd := Num.add_any m1 d WL (by have := HM.out.1; omega) (by have := HM.out.1; omega) hd.1 hd.2
            rw [Num.valV_in hin.1 hin.2, Num.valE_in hin.1 hin.2] at hadd
            have HAD := Lib.hid hadd
            clear hadd hok hin
            generalize m1 + d = md at *
            go_wp2_with fail
            refine HAD.out.mono ?_
            rintro e wz ⟨rfl, rfl⟩
            go_wp2_with fail
            refine hb.out.mono ?_
            rintro e wz ⟨rfl, rfl⟩
            go_wp2
            go_ret
            exact ⟨by rw [HZ.out]; first | done | rfl, HE.out⟩
          · have hadd := Num.add_any m1 d WL (by have := HM.out.1; omega) (by have := HM.out.1; omega) hd.1 hd.2
            rw [Num.valE_out (by omega)] at hadd
            have HAD := Lib.hid hadd
            clear hadd hok hin
            generalize Num.valV (m1 + d) = md at *
            go_wp2_with fail
            refine HAD.out.mono ?_
            rintro e wz ⟨rfl, rfl⟩
            go_wp2
            go_ret
            exact ⟨by rw [HZ.out]; first | done | rfl, HE.out⟩
      · have hcd := HC.out.2
        by_cases hok : okA m2 d
        · have hb := Lib.hid (beyond_in (m2 + d) hok WL)
          have hadd := Num.add_any m2 d WL (by have := HM.out.2; omega) (by have := HM.out.2; omega) hd.1 hd.2
          rw [Num.valV_in (by unfold okA at hok; omega) (by unfold okA at hok; omega), Num.valE_in (by unfold okA at hok; omega) (by unfold okA at hok; omega)] at hadd
          have HAD := Lib.hid hadd
          have HOK := Lib.hid hok
          clear hadd hok
          generalize m2 + d = md at *
          go_wp2_with fail
          refine HAD.out.mono ?_
          rintro e wz ⟨rfl, rfl⟩
          go_wp2_with fail
          refine hb.out.mono ?_
          rintro e wz ⟨rfl, rfl⟩
          go_wp2
          go_roundg 0
          case measure => omega
          case rel => exact ⟨2, by rfl, by omega, rfl, Lib.hid (ok_two HOKS.out HOK.out)⟩
        · have hbad := HBAD.out (fun c => hok c.2)
          have HE := Lib.hid hbad.2
          have HZ := Lib.hid hbad.1
          clear hbad
          by_cases hin : -9223372036854775808 ≤ m2 + d ∧ m2 + d ≤ 9223372036854775807
          · have hb := Lib.hid (beyond_out (m2 + d) (by unfold okA at hok; omega) WL)
            have hadd := Num.add_any m2 d WL (by have := HM.out.2; omega) (by have := HM.out.2; omega) hd.1 hd.2
            rw [Num.valV_in hin.1 hin.2, Num.valE_in hin.1 hin.2] at hadd
            have HAD := Lib.hid hadd
            clear hadd hok hin
            generalize m2 + d = md at *
            go_wp2_with fail
            refine HAD.out.mono ?_
            rintro e wz ⟨rfl, rfl⟩
            go_wp2_with fail
            refine hb.out.mono ?_
            rintro e wz ⟨rfl, rfl⟩
            go_wp2
            go_ret
            exact ⟨by rw [HZ.out]; first | done | rfl, HE.out⟩
          · have hadd := Num.add_any m2 d WL (by have := HM.out.2; omega) (by have := HM.out.2; omega) hd.1 hd.2
            rw [Num.valE_out (by omega)] at hadd
            have HAD := Lib.hid hadd
            clear hadd hok hin
            generalize Num.valV (m2 + d) = md at *
            go_wp2_with fail
            refine HAD.out.mono ?_
            rintro e wz ⟨rfl, rfl⟩
            go_wp2
            go_ret
            exact ⟨by rw [HZ.out]; first | done | rfl, HE.out⟩
      · have hg : okA m1 d ∧ okA m2 d := ⟨HOKS.out 0 (by omega), HOKS.out 1 (by omega)⟩
        have hz : addE s (y : Int) d = 0 := (HBAD2.out hg)
        have HZ := Lib.hid hz
        clear hz
        go_wp2_with fail
        refine HADD.out.mono ?_
        rintro e w3 ⟨rfl, hA⟩
        have HE := Lib.hid (HGOOD.out hg _ hA).2
        clear hA
        go_wp2
        go_ret
        exact ⟨by rw [HZ.out]; first | done | rfl, HE.out⟩
end
end Sp
end Go.Proofs.Ytlkigpmjhojceaa
