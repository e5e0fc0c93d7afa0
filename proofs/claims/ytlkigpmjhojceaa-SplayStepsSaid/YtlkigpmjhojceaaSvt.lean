/-
  Stage 9: contract of rotate: a knot lifted above the one on which it hangs. No condition.
-/
import Derived.Test.YtlkigpmjhojceaaSvs
import Derived.Test.YtlkigpmjhojceaaEnd
namespace Go.Proofs.Ytlkigpmjhojceaa
open Go.ChangeShapes Go.WideShapes Go.ChangeAt Go.RowKit
set_option linter.unusedVariables false
set_option linter.unusedSimpArgs false
namespace Sv
section
variable {w w0 : World} {B p g n c : Nat} {V : Nat → Int} {r : Nat → List Nat} {M : Nat → Nd} {I : Nat → List Nat} {P : Nat → Bool} {D : Nat → Int}
/-- what refresh wants, at both -/
theorem rot_wants (h : Inv n V r (fun _ => False) M I P D) (hn : n ≤ 3000) {x p : Nat} {s sp : Bool} (hx : x < n) (hp : (M x).up = some p) (hs : (M p).b s = some x) (hsp : ∀ g, (M p).up = some g → (M g).b sp = some p) (hcx : Clear M P D x) (hcp : Clear M P D p) :
    (∀ s' y, (rotL M x p s sp p).b s' = some y → y < n ∧ y ≠ p ∧ (rotL M x p s sp y).c ≤ 1000000) ∧ (∀ s' y, (refM (rotL M x p s sp) p x).b s' = some y → y < n ∧ y ≠ x ∧ (refM (rotL M x p s sp) p y).c ≤ 1000000) := by
  have R := rot_facts (sp := sp) h hx hp hs
  have hpn := (h.up_len hx hp).1
  have h1 := rotL_inv h hx hp hs hsp hcx hcp
  have e := rotL_same M x p s sp
  have hq : ∀ s' y, (rotL M x p s sp p).b s' = some y → y ≠ x ∧ y ≠ p := fun s' y hy => by
    refine ⟨?_, ?_⟩
    · rintro rfl
      have := (h1.ch p s' y hpn hy).2.1
      rw [R.rx] at this
      exact (R.rg p this).2.2.1 rfl
    · rintro rfl
      have := h1.below hpn hy; omega
  have h2 := refM_inv h1 (x := p) hpn hcp.2.1 (by rw [(e p).2.1]; exact hcp.2.2.2) (fun s' y hy => by
    rintro (rfl | rfl)
    · exact (hq s' y hy).1 rfl
    · exact (hq s' y hy).2 rfl)
  refine ⟨fun s' y hy => ?_, fun s' y hy => ?_⟩
  · have g1 := (h1.ch p s' y hpn hy).1
    refine ⟨g1, (hq s' y hy).2, ?_⟩
    rw [(e y).2.2.2.2.2, h.cnt y g1 id]
    have := h.len g1
    omega
  · have g1 := (h2.ch x s' y hx hy).1
    have g2 : y ≠ x := by rintro rfl; have := h2.below hx hy; omega
    refine ⟨g1, g2, ?_⟩
    rw [h2.cnt y g1 (by rintro ⟨rfl | rfl, g3⟩; exact g2 rfl; exact g3 rfl)]
    have := h2.len g1
    omega
set_option maxHeartbeats 4000000 in
theorem rotate_fn (h : SpM w B p g n M c) (hI : Inv n V r (fun _ => False) M I P D) {x u : Nat} (hx : x < n) (hu : (M x).up = some u) (hcx : Clear M P D x) (hcu : Clear M P D u) (hsd : sideM M x = false) (htop : (M u).up = none) :
    Calls Try.prog 66 #[.pointer (some ⟨p, 0, none⟩), .int .i64 (x : Int)] w fun e w' => e = .returned (.tuple #[]) ∧ SpA w w' B p g n (rotM M x u false (sideM M u)) (c + 1) := by
  have hun := (hI.up_len hx hu).1
  have hxl := (hI.up_len hx hu).2
  have hs := hI.side_b hx hu
  rw [hsd] at hs
  have R := rot_facts (sp := sideM M u) hI hx hu hs
  have HW := Lib.hid (rot_wants hI h.small hx hu hs (fun g hg => hI.side_b hun hg) hcx hcu)
  have hbx : (rotT M x u (sideM M u) x).b = (M x).b := by
    unfold rotT
    cases e : (M u).up with
    | none => simp only; rw [upd_self]
    | some g => simp only; rw [hangM_w (Ne.symm (R.rg g e).2.1)]
  have heq := rot_eq R
  rw [hbx] at heq
  have HEQ := Lib.hid (show hangM (hangM (rotT M x u (sideM M u)) u false ((M x).b true)) x true (some u) = rotL M x u false (sideM M u) from heq)
  have HBX := Lib.hid hbx
  have HFIN := Lib.hid (show refM (refM (rotL M x u false (sideM M u)) u) x = rotM M x u false (sideM M u) from (rotM_eq R).symm)
  have hmn : ∀ y, (M x).b true = some y → y < n := fun y hy => (R.ri y hy).1
  have HMN := Lib.hid hmn
  have n1 := h.cnt
  have fp := vblk_frozen h.blk 1
  have hxi : (x : Int) < (n : Int) := by omega
  have hx0 : (0 : Int) ≤ (x : Int) := by omega
  have hui : (u : Int) < (n : Int) := by omega
  have hu0 : (0 : Int) ≤ (u : Int) := by omega
  have HS0 := Lib.hid h.at.stepped.drew
  have hSx := fun (wv : World) (hv : SpM wv B p g n M (c + 1)) => side_any hv hx hun hu
  rw [hsd, show sz false = 0 from rfl] at hSx
  have HSX := Lib.hid hSx
  have HC4 := Lib.hid (fun (wv : World) (hv : SpM wv B p g n M (c + 1)) => show wv.cell? ⟨g, x * 9 + 4, none⟩ = some (.int .i64 (u : Int)) from by
    have := hv.cells hx 4 _ rfl
    rw [hu] at this
    exact this)
  have HD4 := Lib.hid (fun (wv : World) (hv : SpM wv B p g n M (c + 1)) => show wv.cell? ⟨g, u * 9 + 4, none⟩ = some (.int .i64 (oi (none))) from by
    have := hv.cells hun 4 _ rfl
    rw [htop] at this
    exact this)
  have HT := Lib.hid (show rotT M x u (sideM M u) = upd M x { M x with up := none } by unfold rotT; rw [htop])
  have HUX := Lib.hid (show ∀ z, some u = some z → z < n from fun z e => by cases e; exact hun)
  clear h hI hu hcx hcu hsd htop hs R hmn hSx hxl heq hbx
  go_enter Try.func66, Try.ntmps66
  go_wp2
  generalize w.setCell ⟨p, 1, none⟩ (.int .i64 (wr (wr c + 1))) = w1 at *
  clear n1 fp
  have hS0 := (show (fun w' : World => w'.cell? ⟨p, 0, none⟩ = some (.slice (some ⟨g, 0, none⟩) n n) ∧ w'.cell? ⟨g, x * 9 + 4, none⟩ = some (.int .i64 (u : Int)) ∧ Hid (SpA w w' B p g n M (c + 1))) w1.drew from ⟨HS0.out.head, HC4.out _ HS0.out.toSpM, HS0⟩)
  refine Rh.start (S := (fun w' : World => w'.cell? ⟨p, 0, none⟩ = some (.slice (some ⟨g, 0, none⟩) n n) ∧ w'.cell? ⟨g, x * 9 + 4, none⟩ = some (.int .i64 (u : Int)) ∧ Hid (SpA w w' B p g n M (c + 1)))) (by kernel_rfl) ?_
  refine Rh.take (some 14) (i := 0) (v := ?_) rfl (by kernel_rfl) (by kernel_rfl) (by kernel_rfl) (by kernel_rfl) (fun _ _ _ h => h) (Or.inl ⟨by rfl, ?_⟩) hS0 ?_
  rotate_left
  · intro w hSw
    go_simp
    try with_reducible rfl
  try simp only [Act.put, List.setIfInBounds_toArray, List.set_cons_zero, List.set_cons_succ]
  refine Rh.take (some 15) (i := 1) (v := ?_) rfl (by kernel_rfl) (by kernel_rfl) (by kernel_rfl) (by kernel_rfl) (fun _ _ _ h => h) (Or.inl ⟨by rfl, ?_⟩) hS0 ?_
  rotate_left
  · intro w hSw
    go_simp
    try with_reducible rfl
  try simp only [Act.put, List.setIfInBounds_toArray, List.set_cons_zero, List.set_cons_succ]
  refine Rh.take (some 16) (i := 2) (v := ?_) rfl (by kernel_rfl) (by kernel_rfl) (by kernel_rfl) (by kernel_rfl) (fun _ _ _ h => h) (Or.inl ⟨by rfl, ?_⟩) hS0 ?_
  rotate_left
  · intro w hSw
    go_simp
    try with_reducible rfl
  try simp only [Act.put, List.setIfInBounds_toArray, List.set_cons_zero, List.set_cons_succ]
  refine Rh.take (some 17) (i := 3) (v := ?_) rfl (by kernel_rfl) (by kernel_rfl) (by kernel_rfl) (by kernel_rfl) (fun _ _ _ h => h) (Or.inl ⟨by rfl, ?_⟩) hS0 ?_
  rotate_left
  · intro w hSw
    go_simp
    try with_reducible rfl
  try simp only [Act.put, List.setIfInBounds_toArray, List.set_cons_zero, List.set_cons_succ]
  refine Rh.take (some 18) (i := 4) (v := ?_) rfl (by kernel_rfl) (by kernel_rfl) (by kernel_rfl) (by kernel_rfl) (fun _ _ _ h => h) (Or.inl ⟨by rfl, ?_⟩) hS0 ?_
  rotate_left
  · intro w hSw
    go_simp
    try with_reducible rfl
  try simp only [Act.put, List.setIfInBounds_toArray, List.set_cons_zero, List.set_cons_succ]
  refine Rh.take (some 19) (i := 5) (v := ?_) rfl (by kernel_rfl) (by kernel_rfl) (by kernel_rfl) (by kernel_rfl) (fun _ _ _ h => h) (Or.inl ⟨by rfl, ?_⟩) hS0 ?_
  rotate_left
  · intro w hSw
    go_simp
    try with_reducible rfl
  try simp only [Act.put, List.setIfInBounds_toArray, List.set_cons_zero, List.set_cons_succ]
  refine Rh.take (some 20) (i := 6) (v := ?_) rfl (by kernel_rfl) (by kernel_rfl) (by kernel_rfl) (by kernel_rfl) (fun _ _ _ h => h) (Or.inl ⟨by rfl, ?_⟩) hS0 ?_
  rotate_left
  · intro w hSw
    go_simp
    try with_reducible rfl
  try simp only [Act.put, List.setIfInBounds_toArray, List.set_cons_zero, List.set_cons_succ]
  refine Rh.take (some 21) (i := 7) (v := ?_) rfl (by kernel_rfl) (by kernel_rfl) (by kernel_rfl) (by kernel_rfl) (fun _ _ _ h => h) (Or.inl ⟨by rfl, ?_⟩) hS0 ?_
  rotate_left
  · intro w hSw
    go_simp
    try with_reducible rfl
  try simp only [Act.put, List.setIfInBounds_toArray, List.set_cons_zero, List.set_cons_succ]
  refine Rh.take (some 22) (i := 8) (v := ?_) rfl (by kernel_rfl) (by kernel_rfl) (by kernel_rfl) (by kernel_rfl) (fun _ _ _ h => h) (Or.inl ⟨by rfl, ?_⟩) hS0 ?_
  rotate_left
  · intro w hSw
    go_simp
    try with_reducible rfl
  try simp only [Act.put, List.setIfInBounds_toArray, List.set_cons_zero, List.set_cons_succ]
  refine Rh.take (some 23) (i := 9) (v := ?_) rfl (by kernel_rfl) (by kernel_rfl) (by kernel_rfl) (by kernel_rfl) (fun _ _ _ h => h) (Or.inl ⟨by rfl, ?_⟩) hS0 ?_
  rotate_left
  · intro w hSw
    go_simp
    try with_reducible rfl
  try simp only [Act.put, List.setIfInBounds_toArray, List.set_cons_zero, List.set_cons_succ]
  refine Rh.step (i := 10) (by kernel_rfl) rfl fun K' hK' => ?_
  have HK := Lib.hid hK'
  clear hK'
  go_simp
  refine (HSX.out _ HS0.out.toSpM).mono ?_
  rintro e w2 ⟨rfl, hA⟩
  have HS2 := Lib.hid (HS0.out.then hA)
  clear hA
  have hS2 := (show (fun w' : World => w'.cell? ⟨p, 0, none⟩ = some (.slice (some ⟨g, 0, none⟩) n n) ∧ w'.cell? ⟨g, x * 9 + 4, none⟩ = some (.int .i64 (u : Int)) ∧ Hid (SpA w w' B p g n M (c + 1))) w2 from ⟨HS2.out.head, HC4.out _ HS2.out.toSpM, HS2⟩)
  refine HK.out _ _ ⟨hS2, ?_⟩
  clear HK K'
  try simp only [Act.put, List.setIfInBounds_toArray, List.set_cons_zero, List.set_cons_succ]
  refine Rh.take (some 4) (i := 11) (v := ?_) rfl (by kernel_rfl) (by kernel_rfl) (by kernel_rfl) (by kernel_rfl) (fun _ _ _ h => h) (Or.inl ⟨by rfl, ?_⟩) hS2 ?_
  rotate_left
  · intro w hSw
    go_simp
    try with_reducible rfl
  try simp only [Act.put, List.setIfInBounds_toArray, List.set_cons_zero, List.set_cons_succ]
  refine Rh.take (some 5) (i := 12) (v := ?_) rfl (by kernel_rfl) (by kernel_rfl) (by kernel_rfl) (by kernel_rfl) (fun _ _ _ h => h) (Or.inl ⟨by rfl, ?_⟩) hS2 ?_
  rotate_left
  · intro w hSw
    go_simp
    try with_reducible rfl
  try simp only [Act.put, List.setIfInBounds_toArray, List.set_cons_zero, List.set_cons_succ]
  refine Rh.done (by kernel_rfl) ?_ _
  clear hS0 hS2 HS0
  have n0 := HS2.out.head
  have d4 := HD4.out _ HS2.out.toSpM
  have c5 := HS2.out.cells hx 6 _ rfl
  have f4 := HS2.out.froz (x * 9 + 4)
  have c4 := HC4.out _ HS2.out.toSpM
  have HM1 := Lib.hid (show SpA w _ B p g n (rotT M x u (sideM M u)) (c + 1) by rw [HT.out]; exact HS2.out.put hx (j := 4) (k := { M x with up := none }) (by omega) (u := .int .i64 (-1)) rfl)
  simp only [oi] at d4
  generalize rotT M x u (sideM M u) = M1 at *
  go_wp2_with fail
  refine (hang_any HM1.out.toSpM hun false ((M x).b true) HMN.out).mono ?_
  rintro e w5 ⟨rfl, hA⟩
  have HM2 := Lib.hid (HM1.out.then hA)
  clear hA
  try clear n0 c5
  try clear c4 f4 d4
  go_wp2_with fail
  refine (hang_any HM2.out.toSpM hx true (some u) HUX.out).mono ?_
  rintro e w6 ⟨rfl, hA⟩
  have HM3 := Lib.hid (HM2.out.then hA)
  clear hA
  rw [HEQ.out] at HM3
  go_wp2_with fail
  refine (refresh_any HM3.out.toSpM hun HW.out.1).mono ?_
  rintro e w7 ⟨rfl, hA⟩
  have HM4 := Lib.hid (HM3.out.then hA)
  clear hA
  go_wp2_with fail
  refine (refresh_any HM4.out.toSpM hx HW.out.2).mono ?_
  rintro e w8 ⟨rfl, hA⟩
  have HM5 := Lib.hid (HM4.out.then hA)
  clear hA
  rw [HFIN.out] at HM5
  go_wp2
  go_end0
  exact ⟨rfl, HM5.out⟩
set_option maxHeartbeats 4000000 in
theorem rotate_fs (h : SpM w B p g n M c) (hI : Inv n V r (fun _ => False) M I P D) {x u gt : Nat} (hx : x < n) (hu : (M x).up = some u) (hcx : Clear M P D x) (hcu : Clear M P D u) (hsd : sideM M x = false) (htop : (M u).up = some gt) :
    Calls Try.prog 66 #[.pointer (some ⟨p, 0, none⟩), .int .i64 (x : Int)] w fun e w' => e = .returned (.tuple #[]) ∧ SpA w w' B p g n (rotM M x u false (sideM M u)) (c + 1) := by
  have hun := (hI.up_len hx hu).1
  have hxl := (hI.up_len hx hu).2
  have hs := hI.side_b hx hu
  rw [hsd] at hs
  have R := rot_facts (sp := sideM M u) hI hx hu hs
  have HW := Lib.hid (rot_wants hI h.small hx hu hs (fun g hg => hI.side_b hun hg) hcx hcu)
  have hbx : (rotT M x u (sideM M u) x).b = (M x).b := by
    unfold rotT
    cases e : (M u).up with
    | none => simp only; rw [upd_self]
    | some g => simp only; rw [hangM_w (Ne.symm (R.rg g e).2.1)]
  have heq := rot_eq R
  rw [hbx] at heq
  have HEQ := Lib.hid (show hangM (hangM (rotT M x u (sideM M u)) u false ((M x).b true)) x true (some u) = rotL M x u false (sideM M u) from heq)
  have HBX := Lib.hid hbx
  have HFIN := Lib.hid (show refM (refM (rotL M x u false (sideM M u)) u) x = rotM M x u false (sideM M u) from (rotM_eq R).symm)
  have hmn : ∀ y, (M x).b true = some y → y < n := fun y hy => (R.ri y hy).1
  have HMN := Lib.hid hmn
  have n1 := h.cnt
  have fp := vblk_frozen h.blk 1
  have hxi : (x : Int) < (n : Int) := by omega
  have hx0 : (0 : Int) ≤ (x : Int) := by omega
  have hui : (u : Int) < (n : Int) := by omega
  have hu0 : (0 : Int) ≤ (u : Int) := by omega
  have HS0 := Lib.hid h.at.stepped.drew
  have hSx := fun (wv : World) (hv : SpM wv B p g n M (c + 1)) => side_any hv hx hun hu
  rw [hsd, show sz false = 0 from rfl] at hSx
  have HSX := Lib.hid hSx
  have HC4 := Lib.hid (fun (wv : World) (hv : SpM wv B p g n M (c + 1)) => show wv.cell? ⟨g, x * 9 + 4, none⟩ = some (.int .i64 (u : Int)) from by
    have := hv.cells hx 4 _ rfl
    rw [hu] at this
    exact this)
  have HD4 := Lib.hid (fun (wv : World) (hv : SpM wv B p g n M (c + 1)) => show wv.cell? ⟨g, u * 9 + 4, none⟩ = some (.int .i64 (oi (some gt))) from by
    have := hv.cells hun 4 _ rfl
    rw [htop] at this
    exact this)
  have hgn := (hI.up_len hun htop).1
  have hgi : (gt : Int) < (n : Int) := by omega
  have hgm : ¬ (gt : Int) = -1 := by omega
  have HT := Lib.hid (show rotT M x u (sideM M u) = hangM M gt (sideM M u) (some x) by unfold rotT; rw [htop])
  have HSU := Lib.hid (fun (wv : World) (hv : SpM wv B p g n M (c + 1)) => side_any hv hun hgn htop)
  have HGX := Lib.hid (show ∀ z, some x = some z → z < n from fun z e => by cases e; exact hx)
  have HUX := Lib.hid (show ∀ z, some u = some z → z < n from fun z e => by cases e; exact hun)
  clear h hI hu hcx hcu hsd htop hs R hmn hSx hxl heq hbx
  go_enter Try.func66, Try.ntmps66
  go_wp2
  generalize w.setCell ⟨p, 1, none⟩ (.int .i64 (wr (wr c + 1))) = w1 at *
  clear n1 fp
  have hS0 := (show (fun w' : World => w'.cell? ⟨p, 0, none⟩ = some (.slice (some ⟨g, 0, none⟩) n n) ∧ w'.cell? ⟨g, x * 9 + 4, none⟩ = some (.int .i64 (u : Int)) ∧ Hid (SpA w w' B p g n M (c + 1))) w1.drew from ⟨HS0.out.head, HC4.out _ HS0.out.toSpM, HS0⟩)
  refine Rh.start (S := (fun w' : World => w'.cell? ⟨p, 0, none⟩ = some (.slice (some ⟨g, 0, none⟩) n n) ∧ w'.cell? ⟨g, x * 9 + 4, none⟩ = some (.int .i64 (u : Int)) ∧ Hid (SpA w w' B p g n M (c + 1)))) (by kernel_rfl) ?_
  refine Rh.take (some 14) (i := 0) (v := ?_) rfl (by kernel_rfl) (by kernel_rfl) (by kernel_rfl) (by kernel_rfl) (fun _ _ _ h => h) (Or.inl ⟨by rfl, ?_⟩) hS0 ?_
  rotate_left
  · intro w hSw
    go_simp
    try with_reducible rfl
  try simp only [Act.put, List.setIfInBounds_toArray, List.set_cons_zero, List.set_cons_succ]
  refine Rh.take (some 15) (i := 1) (v := ?_) rfl (by kernel_rfl) (by kernel_rfl) (by kernel_rfl) (by kernel_rfl) (fun _ _ _ h => h) (Or.inl ⟨by rfl, ?_⟩) hS0 ?_
  rotate_left
  · intro w hSw
    go_simp
    try with_reducible rfl
  try simp only [Act.put, List.setIfInBounds_toArray, List.set_cons_zero, List.set_cons_succ]
  refine Rh.take (some 16) (i := 2) (v := ?_) rfl (by kernel_rfl) (by kernel_rfl) (by kernel_rfl) (by kernel_rfl) (fun _ _ _ h => h) (Or.inl ⟨by rfl, ?_⟩) hS0 ?_
  rotate_left
  · intro w hSw
    go_simp
    try with_reducible rfl
  try simp only [Act.put, List.setIfInBounds_toArray, List.set_cons_zero, List.set_cons_succ]
  refine Rh.take (some 17) (i := 3) (v := ?_) rfl (by kernel_rfl) (by kernel_rfl) (by kernel_rfl) (by kernel_rfl) (fun _ _ _ h => h) (Or.inl ⟨by rfl, ?_⟩) hS0 ?_
  rotate_left
  · intro w hSw
    go_simp
    try with_reducible rfl
  try simp only [Act.put, List.setIfInBounds_toArray, List.set_cons_zero, List.set_cons_succ]
  refine Rh.take (some 18) (i := 4) (v := ?_) rfl (by kernel_rfl) (by kernel_rfl) (by kernel_rfl) (by kernel_rfl) (fun _ _ _ h => h) (Or.inl ⟨by rfl, ?_⟩) hS0 ?_
  rotate_left
  · intro w hSw
    go_simp
    try with_reducible rfl
  try simp only [Act.put, List.setIfInBounds_toArray, List.set_cons_zero, List.set_cons_succ]
  refine Rh.take (some 19) (i := 5) (v := ?_) rfl (by kernel_rfl) (by kernel_rfl) (by kernel_rfl) (by kernel_rfl) (fun _ _ _ h => h) (Or.inl ⟨by rfl, ?_⟩) hS0 ?_
  rotate_left
  · intro w hSw
    go_simp
    try with_reducible rfl
  try simp only [Act.put, List.setIfInBounds_toArray, List.set_cons_zero, List.set_cons_succ]
  refine Rh.take (some 20) (i := 6) (v := ?_) rfl (by kernel_rfl) (by kernel_rfl) (by kernel_rfl) (by kernel_rfl) (fun _ _ _ h => h) (Or.inl ⟨by rfl, ?_⟩) hS0 ?_
  rotate_left
  · intro w hSw
    go_simp
    try with_reducible rfl
  try simp only [Act.put, List.setIfInBounds_toArray, List.set_cons_zero, List.set_cons_succ]
  refine Rh.take (some 21) (i := 7) (v := ?_) rfl (by kernel_rfl) (by kernel_rfl) (by kernel_rfl) (by kernel_rfl) (fun _ _ _ h => h) (Or.inl ⟨by rfl, ?_⟩) hS0 ?_
  rotate_left
  · intro w hSw
    go_simp
    try with_reducible rfl
  try simp only [Act.put, List.setIfInBounds_toArray, List.set_cons_zero, List.set_cons_succ]
  refine Rh.take (some 22) (i := 8) (v := ?_) rfl (by kernel_rfl) (by kernel_rfl) (by kernel_rfl) (by kernel_rfl) (fun _ _ _ h => h) (Or.inl ⟨by rfl, ?_⟩) hS0 ?_
  rotate_left
  · intro w hSw
    go_simp
    try with_reducible rfl
  try simp only [Act.put, List.setIfInBounds_toArray, List.set_cons_zero, List.set_cons_succ]
  refine Rh.take (some 23) (i := 9) (v := ?_) rfl (by kernel_rfl) (by kernel_rfl) (by kernel_rfl) (by kernel_rfl) (fun _ _ _ h => h) (Or.inl ⟨by rfl, ?_⟩) hS0 ?_
  rotate_left
  · intro w hSw
    go_simp
    try with_reducible rfl
  try simp only [Act.put, List.setIfInBounds_toArray, List.set_cons_zero, List.set_cons_succ]
  refine Rh.step (i := 10) (by kernel_rfl) rfl fun K' hK' => ?_
  have HK := Lib.hid hK'
  clear hK'
  go_simp
  refine (HSX.out _ HS0.out.toSpM).mono ?_
  rintro e w2 ⟨rfl, hA⟩
  have HS2 := Lib.hid (HS0.out.then hA)
  clear hA
  have hS2 := (show (fun w' : World => w'.cell? ⟨p, 0, none⟩ = some (.slice (some ⟨g, 0, none⟩) n n) ∧ w'.cell? ⟨g, x * 9 + 4, none⟩ = some (.int .i64 (u : Int)) ∧ Hid (SpA w w' B p g n M (c + 1))) w2 from ⟨HS2.out.head, HC4.out _ HS2.out.toSpM, HS2⟩)
  refine HK.out _ _ ⟨hS2, ?_⟩
  clear HK K'
  try simp only [Act.put, List.setIfInBounds_toArray, List.set_cons_zero, List.set_cons_succ]
  refine Rh.take (some 4) (i := 11) (v := ?_) rfl (by kernel_rfl) (by kernel_rfl) (by kernel_rfl) (by kernel_rfl) (fun _ _ _ h => h) (Or.inl ⟨by rfl, ?_⟩) hS2 ?_
  rotate_left
  · intro w hSw
    go_simp
    try with_reducible rfl
  try simp only [Act.put, List.setIfInBounds_toArray, List.set_cons_zero, List.set_cons_succ]
  refine Rh.take (some 5) (i := 12) (v := ?_) rfl (by kernel_rfl) (by kernel_rfl) (by kernel_rfl) (by kernel_rfl) (fun _ _ _ h => h) (Or.inl ⟨by rfl, ?_⟩) hS2 ?_
  rotate_left
  · intro w hSw
    go_simp
    try with_reducible rfl
  try simp only [Act.put, List.setIfInBounds_toArray, List.set_cons_zero, List.set_cons_succ]
  refine Rh.done (by kernel_rfl) ?_ _
  clear hS0 hS2 HS0
  have n0 := HS2.out.head
  have d4 := HD4.out _ HS2.out.toSpM
  have c5 := HS2.out.cells hx 6 _ rfl
  simp only [oi] at d4
  go_wp2_with fail
  refine (HSU.out _ HS2.out.toSpM).mono ?_
  rintro e w3 ⟨rfl, hA⟩
  have HS3 := Lib.hid (HS2.out.then hA)
  clear hA n0 d4 c5
  go_wp2_with fail
  refine (hang_any HS3.out.toSpM hgn (sideM M u) (some x) HGX.out).mono ?_
  rintro e w4 ⟨rfl, hA⟩
  have HM1 := Lib.hid (show SpA w w4 B p g n (rotT M x u (sideM M u)) (c + 1) by rw [HT.out]; exact HS3.out.then hA)
  clear hA
  generalize rotT M x u (sideM M u) = M1 at *
  have n0 := HM1.out.head
  have c5 := HM1.out.cells hx 6 _ rfl
  rw [HBX.out] at c5
  go_wp2_with fail
  refine (hang_any HM1.out.toSpM hun false ((M x).b true) HMN.out).mono ?_
  rintro e w5 ⟨rfl, hA⟩
  have HM2 := Lib.hid (HM1.out.then hA)
  clear hA
  try clear n0 c5
  try clear c4 f4 d4
  go_wp2_with fail
  refine (hang_any HM2.out.toSpM hx true (some u) HUX.out).mono ?_
  rintro e w6 ⟨rfl, hA⟩
  have HM3 := Lib.hid (HM2.out.then hA)
  clear hA
  rw [HEQ.out] at HM3
  go_wp2_with fail
  refine (refresh_any HM3.out.toSpM hun HW.out.1).mono ?_
  rintro e w7 ⟨rfl, hA⟩
  have HM4 := Lib.hid (HM3.out.then hA)
  clear hA
  go_wp2_with fail
  refine (refresh_any HM4.out.toSpM hx HW.out.2).mono ?_
  rintro e w8 ⟨rfl, hA⟩
  have HM5 := Lib.hid (HM4.out.then hA)
  clear hA
  rw [HFIN.out] at HM5
  go_wp2
  go_end0
  exact ⟨rfl, HM5.out⟩
set_option maxHeartbeats 4000000 in
theorem rotate_tn (h : SpM w B p g n M c) (hI : Inv n V r (fun _ => False) M I P D) {x u : Nat} (hx : x < n) (hu : (M x).up = some u) (hcx : Clear M P D x) (hcu : Clear M P D u) (hsd : sideM M x = true) (htop : (M u).up = none) :
    Calls Try.prog 66 #[.pointer (some ⟨p, 0, none⟩), .int .i64 (x : Int)] w fun e w' => e = .returned (.tuple #[]) ∧ SpA w w' B p g n (rotM M x u true (sideM M u)) (c + 1) := by
  have hun := (hI.up_len hx hu).1
  have hxl := (hI.up_len hx hu).2
  have hs := hI.side_b hx hu
  rw [hsd] at hs
  have R := rot_facts (sp := sideM M u) hI hx hu hs
  have HW := Lib.hid (rot_wants hI h.small hx hu hs (fun g hg => hI.side_b hun hg) hcx hcu)
  have hbx : (rotT M x u (sideM M u) x).b = (M x).b := by
    unfold rotT
    cases e : (M u).up with
    | none => simp only; rw [upd_self]
    | some g => simp only; rw [hangM_w (Ne.symm (R.rg g e).2.1)]
  have heq := rot_eq R
  rw [hbx] at heq
  have HEQ := Lib.hid (show hangM (hangM (rotT M x u (sideM M u)) u true ((M x).b false)) x false (some u) = rotL M x u true (sideM M u) from heq)
  have HBX := Lib.hid hbx
  have HFIN := Lib.hid (show refM (refM (rotL M x u true (sideM M u)) u) x = rotM M x u true (sideM M u) from (rotM_eq R).symm)
  have hmn : ∀ y, (M x).b false = some y → y < n := fun y hy => (R.ri y hy).1
  have HMN := Lib.hid hmn
  have n1 := h.cnt
  have fp := vblk_frozen h.blk 1
  have hxi : (x : Int) < (n : Int) := by omega
  have hx0 : (0 : Int) ≤ (x : Int) := by omega
  have hui : (u : Int) < (n : Int) := by omega
  have hu0 : (0 : Int) ≤ (u : Int) := by omega
  have HS0 := Lib.hid h.at.stepped.drew
  have hSx := fun (wv : World) (hv : SpM wv B p g n M (c + 1)) => side_any hv hx hun hu
  rw [hsd, show sz true = 1 from rfl] at hSx
  have HSX := Lib.hid hSx
  have HC4 := Lib.hid (fun (wv : World) (hv : SpM wv B p g n M (c + 1)) => show wv.cell? ⟨g, x * 9 + 4, none⟩ = some (.int .i64 (u : Int)) from by
    have := hv.cells hx 4 _ rfl
    rw [hu] at this
    exact this)
  have HD4 := Lib.hid (fun (wv : World) (hv : SpM wv B p g n M (c + 1)) => show wv.cell? ⟨g, u * 9 + 4, none⟩ = some (.int .i64 (oi (none))) from by
    have := hv.cells hun 4 _ rfl
    rw [htop] at this
    exact this)
  have HT := Lib.hid (show rotT M x u (sideM M u) = upd M x { M x with up := none } by unfold rotT; rw [htop])
  have HUX := Lib.hid (show ∀ z, some u = some z → z < n from fun z e => by cases e; exact hun)
  clear h hI hu hcx hcu hsd htop hs R hmn hSx hxl heq hbx
  go_enter Try.func66, Try.ntmps66
  go_wp2
  generalize w.setCell ⟨p, 1, none⟩ (.int .i64 (wr (wr c + 1))) = w1 at *
  clear n1 fp
  have hS0 := (show (fun w' : World => w'.cell? ⟨p, 0, none⟩ = some (.slice (some ⟨g, 0, none⟩) n n) ∧ w'.cell? ⟨g, x * 9 + 4, none⟩ = some (.int .i64 (u : Int)) ∧ Hid (SpA w w' B p g n M (c + 1))) w1.drew from ⟨HS0.out.head, HC4.out _ HS0.out.toSpM, HS0⟩)
  refine Rh.start (S := (fun w' : World => w'.cell? ⟨p, 0, none⟩ = some (.slice (some ⟨g, 0, none⟩) n n) ∧ w'.cell? ⟨g, x * 9 + 4, none⟩ = some (.int .i64 (u : Int)) ∧ Hid (SpA w w' B p g n M (c + 1)))) (by kernel_rfl) ?_
  refine Rh.take (some 14) (i := 0) (v := ?_) rfl (by kernel_rfl) (by kernel_rfl) (by kernel_rfl) (by kernel_rfl) (fun _ _ _ h => h) (Or.inl ⟨by rfl, ?_⟩) hS0 ?_
  rotate_left
  · intro w hSw
    go_simp
    try with_reducible rfl
  try simp only [Act.put, List.setIfInBounds_toArray, List.set_cons_zero, List.set_cons_succ]
  refine Rh.take (some 15) (i := 1) (v := ?_) rfl (by kernel_rfl) (by kernel_rfl) (by kernel_rfl) (by kernel_rfl) (fun _ _ _ h => h) (Or.inl ⟨by rfl, ?_⟩) hS0 ?_
  rotate_left
  · intro w hSw
    go_simp
    try with_reducible rfl
  try simp only [Act.put, List.setIfInBounds_toArray, List.set_cons_zero, List.set_cons_succ]
  refine Rh.take (some 16) (i := 2) (v := ?_) rfl (by kernel_rfl) (by kernel_rfl) (by kernel_rfl) (by kernel_rfl) (fun _ _ _ h => h) (Or.inl ⟨by rfl, ?_⟩) hS0 ?_
  rotate_left
  · intro w hSw
    go_simp
    try with_reducible rfl
  try simp only [Act.put, List.setIfInBounds_toArray, List.set_cons_zero, List.set_cons_succ]
  refine Rh.take (some 17) (i := 3) (v := ?_) rfl (by kernel_rfl) (by kernel_rfl) (by kernel_rfl) (by kernel_rfl) (fun _ _ _ h => h) (Or.inl ⟨by rfl, ?_⟩) hS0 ?_
  rotate_left
  · intro w hSw
    go_simp
    try with_reducible rfl
  try simp only [Act.put, List.setIfInBounds_toArray, List.set_cons_zero, List.set_cons_succ]
  refine Rh.take (some 18) (i := 4) (v := ?_) rfl (by kernel_rfl) (by kernel_rfl) (by kernel_rfl) (by kernel_rfl) (fun _ _ _ h => h) (Or.inl ⟨by rfl, ?_⟩) hS0 ?_
  rotate_left
  · intro w hSw
    go_simp
    try with_reducible rfl
  try simp only [Act.put, List.setIfInBounds_toArray, List.set_cons_zero, List.set_cons_succ]
  refine Rh.take (some 19) (i := 5) (v := ?_) rfl (by kernel_rfl) (by kernel_rfl) (by kernel_rfl) (by kernel_rfl) (fun _ _ _ h => h) (Or.inl ⟨by rfl, ?_⟩) hS0 ?_
  rotate_left
  · intro w hSw
    go_simp
    try with_reducible rfl
  try simp only [Act.put, List.setIfInBounds_toArray, List.set_cons_zero, List.set_cons_succ]
  refine Rh.take (some 20) (i := 6) (v := ?_) rfl (by kernel_rfl) (by kernel_rfl) (by kernel_rfl) (by kernel_rfl) (fun _ _ _ h => h) (Or.inl ⟨by rfl, ?_⟩) hS0 ?_
  rotate_left
  · intro w hSw
    go_simp
    try with_reducible rfl
  try simp only [Act.put, List.setIfInBounds_toArray, List.set_cons_zero, List.set_cons_succ]
  refine Rh.take (some 21) (i := 7) (v := ?_) rfl (by kernel_rfl) (by kernel_rfl) (by kernel_rfl) (by kernel_rfl) (fun _ _ _ h => h) (Or.inl ⟨by rfl, ?_⟩) hS0 ?_
  rotate_left
  · intro w hSw
    go_simp
    try with_reducible rfl
  try simp only [Act.put, List.setIfInBounds_toArray, List.set_cons_zero, List.set_cons_succ]
  refine Rh.take (some 22) (i := 8) (v := ?_) rfl (by kernel_rfl) (by kernel_rfl) (by kernel_rfl) (by kernel_rfl) (fun _ _ _ h => h) (Or.inl ⟨by rfl, ?_⟩) hS0 ?_
  rotate_left
  · intro w hSw
    go_simp
    try with_reducible rfl
  try simp only [Act.put, List.setIfInBounds_toArray, List.set_cons_zero, List.set_cons_succ]
  refine Rh.take (some 23) (i := 9) (v := ?_) rfl (by kernel_rfl) (by kernel_rfl) (by kernel_rfl) (by kernel_rfl) (fun _ _ _ h => h) (Or.inl ⟨by rfl, ?_⟩) hS0 ?_
  rotate_left
  · intro w hSw
    go_simp
    try with_reducible rfl
  try simp only [Act.put, List.setIfInBounds_toArray, List.set_cons_zero, List.set_cons_succ]
  refine Rh.step (i := 10) (by kernel_rfl) rfl fun K' hK' => ?_
  have HK := Lib.hid hK'
  clear hK'
  go_simp
  refine (HSX.out _ HS0.out.toSpM).mono ?_
  rintro e w2 ⟨rfl, hA⟩
  have HS2 := Lib.hid (HS0.out.then hA)
  clear hA
  have hS2 := (show (fun w' : World => w'.cell? ⟨p, 0, none⟩ = some (.slice (some ⟨g, 0, none⟩) n n) ∧ w'.cell? ⟨g, x * 9 + 4, none⟩ = some (.int .i64 (u : Int)) ∧ Hid (SpA w w' B p g n M (c + 1))) w2 from ⟨HS2.out.head, HC4.out _ HS2.out.toSpM, HS2⟩)
  refine HK.out _ _ ⟨hS2, ?_⟩
  clear HK K'
  try simp only [Act.put, List.setIfInBounds_toArray, List.set_cons_zero, List.set_cons_succ]
  refine Rh.take (some 4) (i := 11) (v := ?_) rfl (by kernel_rfl) (by kernel_rfl) (by kernel_rfl) (by kernel_rfl) (fun _ _ _ h => h) (Or.inl ⟨by rfl, ?_⟩) hS2 ?_
  rotate_left
  · intro w hSw
    go_simp
    try with_reducible rfl
  try simp only [Act.put, List.setIfInBounds_toArray, List.set_cons_zero, List.set_cons_succ]
  refine Rh.take (some 5) (i := 12) (v := ?_) rfl (by kernel_rfl) (by kernel_rfl) (by kernel_rfl) (by kernel_rfl) (fun _ _ _ h => h) (Or.inl ⟨by rfl, ?_⟩) hS2 ?_
  rotate_left
  · intro w hSw
    go_simp
    try with_reducible rfl
  try simp only [Act.put, List.setIfInBounds_toArray, List.set_cons_zero, List.set_cons_succ]
  refine Rh.done (by kernel_rfl) ?_ _
  clear hS0 hS2 HS0
  have n0 := HS2.out.head
  have d4 := HD4.out _ HS2.out.toSpM
  have c5 := HS2.out.cells hx 5 _ rfl
  have f4 := HS2.out.froz (x * 9 + 4)
  have c4 := HC4.out _ HS2.out.toSpM
  have HM1 := Lib.hid (show SpA w _ B p g n (rotT M x u (sideM M u)) (c + 1) by rw [HT.out]; exact HS2.out.put hx (j := 4) (k := { M x with up := none }) (by omega) (u := .int .i64 (-1)) rfl)
  simp only [oi] at d4
  generalize rotT M x u (sideM M u) = M1 at *
  go_wp2_with fail
  refine (hang_any HM1.out.toSpM hun true ((M x).b false) HMN.out).mono ?_
  rintro e w5 ⟨rfl, hA⟩
  have HM2 := Lib.hid (HM1.out.then hA)
  clear hA
  try clear n0 c5
  try clear c4 f4 d4
  go_wp2_with fail
  refine (hang_any HM2.out.toSpM hx false (some u) HUX.out).mono ?_
  rintro e w6 ⟨rfl, hA⟩
  have HM3 := Lib.hid (HM2.out.then hA)
  clear hA
  rw [HEQ.out] at HM3
  go_wp2_with fail
  refine (refresh_any HM3.out.toSpM hun HW.out.1).mono ?_
  rintro e w7 ⟨rfl, hA⟩
  have HM4 := Lib.hid (HM3.out.then hA)
  clear hA
  go_wp2_with fail
  refine (refresh_any HM4.out.toSpM hx HW.out.2).mono ?_
  rintro e w8 ⟨rfl, hA⟩
  have HM5 := Lib.hid (HM4.out.then hA)
  clear hA
  rw [HFIN.out] at HM5
  go_wp2
  go_end0
  exact ⟨rfl, HM5.out⟩
set_option maxHeartbeats 4000000 in
theorem rotate_ts (h : SpM w B p g n M c) (hI : Inv n V r (fun _ => False) M I P D) {x u gt : Nat} (hx : x < n) (hu : (M x).up = some u) (hcx : Clear M P D x) (hcu : Clear M P D u) (hsd : sideM M x = true) (htop : (M u).up = some gt) :
    Calls Try.prog 66 #[.pointer (some ⟨p, 0, none⟩), .int .i64 (x : Int)] w fun e w' => e = .returned (.tuple #[]) ∧ SpA w w' B p g n (rotM M x u true (sideM M u)) (c + 1) := by
  have hun := (hI.up_len hx hu).1
  have hxl := (hI.up_len hx hu).2
  have hs := hI.side_b hx hu
  rw [hsd] at hs
  have R := rot_facts (sp := sideM M u) hI hx hu hs
  have HW := Lib.hid (rot_wants hI h.small hx hu hs (fun g hg => hI.side_b hun hg) hcx hcu)
  have hbx : (rotT M x u (sideM M u) x).b = (M x).b := by
    unfold rotT
    cases e : (M u).up with
    | none => simp only; rw [upd_self]
    | some g => simp only; rw [hangM_w (Ne.symm (R.rg g e).2.1)]
  have heq := rot_eq R
  rw [hbx] at heq
  have HEQ := Lib.hid (show hangM (hangM (rotT M x u (sideM M u)) u true ((M x).b false)) x false (some u) = rotL M x u true (sideM M u) from heq)
  have HBX := Lib.hid hbx
  have HFIN := Lib.hid (show refM (refM (rotL M x u true (sideM M u)) u) x = rotM M x u true (sideM M u) from (rotM_eq R).symm)
  have hmn : ∀ y, (M x).b false = some y → y < n := fun y hy => (R.ri y hy).1
  have HMN := Lib.hid hmn
  have n1 := h.cnt
  have fp := vblk_frozen h.blk 1
  have hxi : (x : Int) < (n : Int) := by omega
  have hx0 : (0 : Int) ≤ (x : Int) := by omega
  have hui : (u : Int) < (n : Int) := by omega
  have hu0 : (0 : Int) ≤ (u : Int) := by omega
  have HS0 := Lib.hid h.at.stepped.drew
  have hSx := fun (wv : World) (hv : SpM wv B p g n M (c + 1)) => side_any hv hx hun hu
  rw [hsd, show sz true = 1 from rfl] at hSx
  have HSX := Lib.hid hSx
  have HC4 := Lib.hid (fun (wv : World) (hv : SpM wv B p g n M (c + 1)) => show wv.cell? ⟨g, x * 9 + 4, none⟩ = some (.int .i64 (u : Int)) from by
    have := hv.cells hx 4 _ rfl
    rw [hu] at this
    exact this)
  have HD4 := Lib.hid (fun (wv : World) (hv : SpM wv B p g n M (c + 1)) => show wv.cell? ⟨g, u * 9 + 4, none⟩ = some (.int .i64 (oi (some gt))) from by
    have := hv.cells hun 4 _ rfl
    rw [htop] at this
    exact this)
  have hgn := (hI.up_len hun htop).1
  have hgi : (gt : Int) < (n : Int) := by omega
  have hgm : ¬ (gt : Int) = -1 := by omega
  have HT := Lib.hid (show rotT M x u (sideM M u) = hangM M gt (sideM M u) (some x) by unfold rotT; rw [htop])
  have HSU := Lib.hid (fun (wv : World) (hv : SpM wv B p g n M (c + 1)) => side_any hv hun hgn htop)
  have HGX := Lib.hid (show ∀ z, some x = some z → z < n from fun z e => by cases e; exact hx)
  have HUX := Lib.hid (show ∀ z, some u = some z → z < n from fun z e => by cases e; exact hun)
  clear h hI hu hcx hcu hsd htop hs R hmn hSx hxl heq hbx
  go_enter Try.func66, Try.ntmps66
  go_wp2
  generalize w.setCell ⟨p, 1, none⟩ (.int .i64 (wr (wr c + 1))) = w1 at *
  clear n1 fp
  have hS0 := (show (fun w' : World => w'.cell? ⟨p, 0, none⟩ = some (.slice (some ⟨g, 0, none⟩) n n) ∧ w'.cell? ⟨g, x * 9 + 4, none⟩ = some (.int .i64 (u : Int)) ∧ Hid (SpA w w' B p g n M (c + 1))) w1.drew from ⟨HS0.out.head, HC4.out _ HS0.out.toSpM, HS0⟩)
  refine Rh.start (S := (fun w' : World => w'.cell? ⟨p, 0, none⟩ = some (.slice (some ⟨g, 0, none⟩) n n) ∧ w'.cell? ⟨g, x * 9 + 4, none⟩ = some (.int .i64 (u : Int)) ∧ Hid (SpA w w' B p g n M (c + 1)))) (by kernel_rfl) ?_
  refine Rh.take (some 14) (i := 0) (v := ?_) rfl (by kernel_rfl) (by kernel_rfl) (by kernel_rfl) (by kernel_rfl) (fun _ _ _ h => h) (Or.inl ⟨by rfl, ?_⟩) hS0 ?_
  rotate_left
  · intro w hSw
    go_simp
    try with_reducible rfl
  try simp only [Act.put, List.setIfInBounds_toArray, List.set_cons_zero, List.set_cons_succ]
  refine Rh.take (some 15) (i := 1) (v := ?_) rfl (by kernel_rfl) (by kernel_rfl) (by kernel_rfl) (by kernel_rfl) (fun _ _ _ h => h) (Or.inl ⟨by rfl, ?_⟩) hS0 ?_
  rotate_left
  · intro w hSw
    go_simp
    try with_reducible rfl
  try simp only [Act.put, List.setIfInBounds_toArray, List.set_cons_zero, List.set_cons_succ]
  refine Rh.take (some 16) (i := 2) (v := ?_) rfl (by kernel_rfl) (by kernel_rfl) (by kernel_rfl) (by kernel_rfl) (fun _ _ _ h => h) (Or.inl ⟨by rfl, ?_⟩) hS0 ?_
  rotate_left
  · intro w hSw
    go_simp
    try with_reducible rfl
  try simp only [Act.put, List.setIfInBounds_toArray, List.set_cons_zero, List.set_cons_succ]
  refine Rh.take (some 17) (i := 3) (v := ?_) rfl (by kernel_rfl) (by kernel_rfl) (by kernel_rfl) (by kernel_rfl) (fun _ _ _ h => h) (Or.inl ⟨by rfl, ?_⟩) hS0 ?_
  rotate_left
  · intro w hSw
    go_simp
    try with_reducible rfl
  try simp only [Act.put, List.setIfInBounds_toArray, List.set_cons_zero, List.set_cons_succ]
  refine Rh.take (some 18) (i := 4) (v := ?_) rfl (by kernel_rfl) (by kernel_rfl) (by kernel_rfl) (by kernel_rfl) (fun _ _ _ h => h) (Or.inl ⟨by rfl, ?_⟩) hS0 ?_
  rotate_left
  · intro w hSw
    go_simp
    try with_reducible rfl
  try simp only [Act.put, List.setIfInBounds_toArray, List.set_cons_zero, List.set_cons_succ]
  refine Rh.take (some 19) (i := 5) (v := ?_) rfl (by kernel_rfl) (by kernel_rfl) (by kernel_rfl) (by kernel_rfl) (fun _ _ _ h => h) (Or.inl ⟨by rfl, ?_⟩) hS0 ?_
  rotate_left
  · intro w hSw
    go_simp
    try with_reducible rfl
  try simp only [Act.put, List.setIfInBounds_toArray, List.set_cons_zero, List.set_cons_succ]
  refine Rh.take (some 20) (i := 6) (v := ?_) rfl (by kernel_rfl) (by kernel_rfl) (by kernel_rfl) (by kernel_rfl) (fun _ _ _ h => h) (Or.inl ⟨by rfl, ?_⟩) hS0 ?_
  rotate_left
  · intro w hSw
    go_simp
    try with_reducible rfl
  try simp only [Act.put, List.setIfInBounds_toArray, List.set_cons_zero, List.set_cons_succ]
  refine Rh.take (some 21) (i := 7) (v := ?_) rfl (by kernel_rfl) (by kernel_rfl) (by kernel_rfl) (by kernel_rfl) (fun _ _ _ h => h) (Or.inl ⟨by rfl, ?_⟩) hS0 ?_
  rotate_left
  · intro w hSw
    go_simp
    try with_reducible rfl
  try simp only [Act.put, List.setIfInBounds_toArray, List.set_cons_zero, List.set_cons_succ]
  refine Rh.take (some 22) (i := 8) (v := ?_) rfl (by kernel_rfl) (by kernel_rfl) (by kernel_rfl) (by kernel_rfl) (fun _ _ _ h => h) (Or.inl ⟨by rfl, ?_⟩) hS0 ?_
  rotate_left
  · intro w hSw
    go_simp
    try with_reducible rfl
  try simp only [Act.put, List.setIfInBounds_toArray, List.set_cons_zero, List.set_cons_succ]
  refine Rh.take (some 23) (i := 9) (v := ?_) rfl (by kernel_rfl) (by kernel_rfl) (by kernel_rfl) (by kernel_rfl) (fun _ _ _ h => h) (Or.inl ⟨by rfl, ?_⟩) hS0 ?_
  rotate_left
  · intro w hSw
    go_simp
    try with_reducible rfl
  try simp only [Act.put, List.setIfInBounds_toArray, List.set_cons_zero, List.set_cons_succ]
  refine Rh.step (i := 10) (by kernel_rfl) rfl fun K' hK' => ?_
  have HK := Lib.hid hK'
  clear hK'
  go_simp
  refine (HSX.out _ HS0.out.toSpM).mono ?_
  rintro e w2 ⟨rfl, hA⟩
  have HS2 := Lib.hid (HS0.out.then hA)
  clear hA
  have hS2 := (show (fun w' : World => w'.cell? ⟨p, 0, none⟩ = some (.slice (some ⟨g, 0, none⟩) n n) ∧ w'.cell? ⟨g, x * 9 + 4, none⟩ = some (.int .i64 (u : Int)) ∧ Hid (SpA w w' B p g n M (c + 1))) w2 from ⟨HS2.out.head, HC4.out _ HS2.out.toSpM, HS2⟩)
  refine HK.out _ _ ⟨hS2, ?_⟩
  clear HK K'
  try simp only [Act.put, List.setIfInBounds_toArray, List.set_cons_zero, List.set_cons_succ]
  refine Rh.take (some 4) (i := 11) (v := ?_) rfl (by kernel_rfl) (by kernel_rfl) (by kernel_rfl) (by kernel_rfl) (fun _ _ _ h => h) (Or.inl ⟨by rfl, ?_⟩) hS2 ?_
  rotate_left
  · intro w hSw
    go_simp
    try with_reducible rfl
  try simp only [Act.put, List.setIfInBounds_toArray, List.set_cons_zero, List.set_cons_succ]
  refine Rh.take (some 5) (i := 12) (v := ?_) rfl (by kernel_rfl) (by kernel_rfl) (by kernel_rfl) (by kernel_rfl) (fun _ _ _ h => h) (Or.inl ⟨by rfl, ?_⟩) hS2 ?_
  rotate_left
  · intro w hSw
    go_simp
    try with_reducible rfl
  try simp only [Act.put, List.setIfInBounds_toArray, List.set_cons_zero, List.set_cons_succ]
  refine Rh.done (by kernel_rfl) ?_ _
  clear hS0 hS2 HS0
  have n0 := HS2.out.head
  have d4 := HD4.out _ HS2.out.toSpM
  have c5 := HS2.out.cells hx 5 _ rfl
  simp only [oi] at d4
  go_wp2_with fail
  refine (HSU.out _ HS2.out.toSpM).mono ?_
  rintro e w3 ⟨rfl, hA⟩
  have HS3 := Lib.hid (HS2.out.then hA)
  clear hA n0 d4 c5
  go_wp2_with fail
  refine (hang_any HS3.out.toSpM hgn (sideM M u) (some x) HGX.out).mono ?_
  rintro e w4 ⟨rfl, hA⟩
  have HM1 := Lib.hid (show SpA w w4 B p g n (rotT M x u (sideM M u)) (c + 1) by rw [HT.out]; exact HS3.out.then hA)
  clear hA
  generalize rotT M x u (sideM M u) = M1 at *
  have n0 := HM1.out.head
  have c5 := HM1.out.cells hx 5 _ rfl
  rw [HBX.out] at c5
  go_wp2_with fail
  refine (hang_any HM1.out.toSpM hun true ((M x).b false) HMN.out).mono ?_
  rintro e w5 ⟨rfl, hA⟩
  have HM2 := Lib.hid (HM1.out.then hA)
  clear hA
  try clear n0 c5
  try clear c4 f4 d4
  go_wp2_with fail
  refine (hang_any HM2.out.toSpM hx false (some u) HUX.out).mono ?_
  rintro e w6 ⟨rfl, hA⟩
  have HM3 := Lib.hid (HM2.out.then hA)
  clear hA
  rw [HEQ.out] at HM3
  go_wp2_with fail
  refine (refresh_any HM3.out.toSpM hun HW.out.1).mono ?_
  rintro e w7 ⟨rfl, hA⟩
  have HM4 := Lib.hid (HM3.out.then hA)
  clear hA
  go_wp2_with fail
  refine (refresh_any HM4.out.toSpM hx HW.out.2).mono ?_
  rintro e w8 ⟨rfl, hA⟩
  have HM5 := Lib.hid (HM4.out.then hA)
  clear hA
  rw [HFIN.out] at HM5
  go_wp2
  go_end0
  exact ⟨rfl, HM5.out⟩
theorem rotate_any (h : SpM w B p g n M c) (hI : Inv n V r (fun _ => False) M I P D) {x u : Nat} (hx : x < n) (hu : (M x).up = some u) (hcx : Clear M P D x) (hcu : Clear M P D u) :
    Calls Try.prog 66 #[.pointer (some ⟨p, 0, none⟩), .int .i64 (x : Int)] w fun e w' => e = .returned (.tuple #[]) ∧ SpA w w' B p g n (rotM M x u (sideM M x) (sideM M u)) (c + 1) := by
  cases hs : sideM M x <;> cases ht : (M u).up
  · exact rotate_fn h hI hx hu hcx hcu hs ht
  · exact rotate_fs h hI hx hu hcx hcu hs ht
  · exact rotate_tn h hI hx hu hcx hcu hs ht
  · exact rotate_ts h hI hx hu hcx hcu hs ht
end
end Sv
end Go.Proofs.Ytlkigpmjhojceaa
