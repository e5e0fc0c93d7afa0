/-
  Stage 9: contracts of the developers' forest: Least, At. No condition.
-/
import Derived.Test.YtlkigpmjhojceaaSwd
import Derived.Test.YtlkigpmjhojceaaEnd
namespace Go.Proofs.Ytlkigpmjhojceaa
open Go.ChangeShapes Go.WideShapes Go.ChangeAt Go.RowKit
set_option linter.unusedVariables false
set_option linter.unusedSimpArgs false
namespace Sp
open Sv
section
variable {w w1 w2 w3 w4 : World} {B p lo hi g c : Nat} {F : Nat → Prop} {s : St} {M : Nat → Nd} {I : Nat → List Nat} {P : Nat → Bool} {D : Nat → Int}
theorem lift_tp {n : Nat} (hM : SpM w B p g n M c) (hI : Inv n (Ne.amt s.v) s.r No M I P D) {y : Nat} (hy : y < n) :
    Calls Try.prog 46 #[.pointer (some ⟨p, 0, none⟩), .int .i64 (y : Int)] w fun e w1 => e = .returned (.bool true) ∧ ∃ c1 M1 I1 P1 D1, Tp w w1 B p g n s c (c + 6 * pot I n) y c1 M1 I1 P1 D1 := by
  obtain ⟨k, hk, _⟩ := hI.climb hy
  refine (lift_any hM hI hy hk).mono ?_
  rintro e w1 ⟨rfl, hS⟩
  obtain ⟨c1, M1, I1, P1, D1, h1, _⟩ := tp_of (hS.ended hy)
  exact ⟨rfl, c1, M1, I1, P1, D1, h1⟩
theorem foldl_keep (v : List Int) (x : Nat) : ∀ u : List Nat, (∀ y ∈ u, Ne.amt v x ≤ Ne.amt v y) → u.foldl (fun (b : Int) i => if b < 0 ∨ Ne.amt v i < Ne.amt v b.toNat then (i : Int) else b) (x : Int) = (x : Int) := by
  intro u
  induction u with
  | nil => intro _; rfl
  | cons a u ih =>
    intro h
    rw [List.foldl_cons, if_neg (by have := h a (by simp); simp only [Int.toNat_natCast]; omega)]
    exact ih fun y hy => h y (List.mem_cons_of_mem _ hy)
theorem foldl_reach (v : List Int) (x : Nat) : ∀ (t u : List Nat) (b : Int), (∀ y ∈ t, Ne.amt v x < Ne.amt v y) → (∀ y ∈ u, Ne.amt v x ≤ Ne.amt v y) → (b < 0 ∨ Ne.amt v x < Ne.amt v b.toNat) → (t ++ x :: u).foldl (fun (b : Int) i => if b < 0 ∨ Ne.amt v i < Ne.amt v b.toNat then (i : Int) else b) b = (x : Int) := by
  intro t
  induction t with
  | nil =>
    intro u b _ hu hb
    rw [List.nil_append, List.foldl_cons, if_pos hb]
    exact foldl_keep v x u hu
  | cons a t ih =>
    intro u b ht hu hb
    rw [List.cons_append, List.foldl_cons]
    refine ih u _ (fun y hy => ht y (List.mem_cons_of_mem _ hy)) hu ?_
    have := ht a (by simp)
    split
    · right; simpa using this
    · exact hb
theorem least_dle {x v : Nat} {m : Int} (h : DLe (Ne.amt s.v) m (s.r x) v) (hm : ∀ y ∈ s.r x, m ≤ Ne.amt s.v y) : leastZ s (x : Int) = (v : Int) := by
  obtain ⟨t, u, h1, h2, h3⟩ := h
  unfold leastZ leastL
  rw [rowZ_nat, h1]
  refine foldl_reach s.v v t u (-1) (fun y hy => by rw [h3]; exact h2 y hy) (fun y hy => by rw [h3]; exact hm y (by rw [h1]; simp [hy])) (.inl (by decide))
section
variable {y v c1 c2 n : Nat} {M1 M2 : Nat → Nd} {I1 I2 : Nat → List Nat} {P1 P2 : Nat → Bool} {D1 D2 : Nat → Int}
theorem Hd.two' (h : Hd w B F p s lo hi g c M I P D) (hB : B ≤ w.heap.size) (ho : Off (PG p g) w w1) (t : Tp w1 w2 B p g s.v.length s c (c + 6 * pot I s.v.length) y c1 M1 I1 P1 D1) {FF : Nat → Prop} (ho2 : Off (PG p g) w2 w3) (t2 : ∃ c2 M2 I2 P2 D2, SpM w3 B p g s.v.length M2 c2 ∧ Inv s.v.length (Ne.amt s.v) s.r No M2 I2 P2 D2 ∧ c1 ≤ c2 ∧ c2 + 6 * pot I2 s.v.length ≤ c1 + 6 * pot I1 s.v.length + 18 * lg s.v.length + 4) : SpO w3 B (Ext F w w3) p s (lo + it s (y : Int)) (hi + cst s.v.length) ∧ Off F w w3 := by
  obtain ⟨c2, M2, I2, P2, D2, m2, i2, l2, u2⟩ := t2
  rw [it_in h t.lt]
  exact h.to hB m2 (off_pg ho (off_pg t.off ho2)) rfl i2 h.good (by have := t.lo; have := h.lo; omega) (by have := t.hi; omega)
end
set_option maxHeartbeats 1000000 in
theorem dleast_any (h : SpO w B F p s lo hi) (hBw : B ≤ w.heap.size) (x : Int) :
    Calls Try.prog 22 #[.pointer (some ⟨p, 0, none⟩), .int .i64 x] w fun e w' => e = .returned (.int .i64 (leastZ s x)) ∧ SpO w' B (Ext F w w') p s (lo + it s x) (hi + cst s.v.length) ∧ Off F w w' := by
  obtain ⟨g, c, M, I, P, D, h⟩ := h.hd
  have HM0 := Lib.hid (h.mem.kept ((Below.refl _ w).alloc (Nat.le_refl _) (.cells #[.pointer (some ⟨p, 0, none⟩)] 25)))
  have HO0 := Lib.hid (show Off (PG p g) w (w.alloc (.cells #[.pointer (some ⟨p, 0, none⟩)] 25)) from (Sp.Off.refl _ w).alloc _)
  have HB0 := Lib.hid (bx_new (w := w) rfl (.pointer (some ⟨p, 0, none⟩)) 25)
  have hin := h.mem.in
  by_cases hx : 0 ≤ x ∧ x < (s.v.length : Int)
  case neg =>
    have hr := h.row.2 hx
    have e : it s x = 0 := by unfold it; rw [if_pos hr]
    have HE := Lib.hid (h.to hBw HM0.out HO0.out rfl h.inv h.good (k := 0) (by have := h.lo; omega) (by omega))
    have HL := Lib.hid (lift_out HM0.out hx)
    have hz : leastZ s x = -1 := by unfold leastZ; rw [hr]; rfl
    rw [hz, e]
    have c0 := HB0.out.1
    clear h hx hr hz e hin
    go_enter Try.func22, Try.ntmps22
    go_wp2_with fail
    refine HL.out.mono ?_
    rintro e w1 ⟨rfl, rfl⟩
    go_wp2
    go_ret
    exact ⟨rfl, HE.out⟩
  obtain ⟨y, rfl⟩ : ∃ y : Nat, x = (y : Int) := ⟨x.toNat, by omega⟩
  have hy : y < s.v.length := by omega
  have hyi : (y : Int) < (s.v.length : Int) := hx.2
  have hy0 : (0 : Int) ≤ (y : Int) := hx.1
  have HL := Lib.hid (lift_tp (s := s) HM0.out h.inv hy)
  have HZ := Lib.hid (fun (v : Nat) (m : Int) (hd : DLe (Ne.amt s.v) m (s.r y) v) (hm : ∀ q ∈ s.r y, m ≤ Ne.amt s.v q) => least_dle (s := s) hd hm)
  have HH := Lib.hid (fun w2 w3 c1 M1 I1 P1 D1 t ho2 t2 => h.two' (w2 := w2) (w3 := w3) hBw HO0.out (y := y) (c1 := c1) (M1 := M1) (I1 := I1) (P1 := P1) (D1 := D1) (FF := F) t ho2 t2)
  have HNB := Lib.hid (show w.heap.size ≠ p ∧ w.heap.size ≠ g from ⟨by omega, by omega⟩)
  have c0 := HB0.out.1
  generalize leastZ s (y : Int) = Z at *
  generalize hW0 : (w.alloc (.cells #[.pointer (some ⟨p, 0, none⟩)] 25)) = W0 at *
  have HW0 := Lib.hid hW0
  clear h hx hin hW0 c0
  go_enter Try.func22, Try.ntmps22
  go_wp2_with fail
  rw [HW0.out]
  refine HL.out.mono ?_
  rintro e w1 ⟨rfl, c1, M1, I1, P1, D1, t1⟩
  have HT := Lib.hid t1
  have b1 := HB0.out.off t1.off (by rintro (e | e); exact HNB.out.1 e; exact HNB.out.2 e)
  have d0 := b1.1
  have n0 := t1.mem.head
  have e1 := t1.mem.cells hy 1 _ rfl
  have hmin := t1.inv.lo_at hy id t1.cl.2.1
  have hrow := t1.inv.root_row hy t1.up
  obtain ⟨m, hm⟩ : ∃ m, m = (M1 y).lo := ⟨_, rfl⟩
  rw [← hm] at e1 hmin
  have in1 := t1.mem.in
  have hM2 := t1.mem.kept ((Below.refl _ w1).alloc (Nat.le_refl _) (.cells #[.int .i64 m] 2))
  have ho1 : Off (PG p g) w1 (w1.alloc (.cells #[.int .i64 m] 2)) := (Off.refl _ w1).alloc _
  have b2 := bx_new (w := w1) rfl (.int .i64 m) 2
  have b1' := b1.off ho1 (by rintro (e | e); exact HNB.out.1 e; exact HNB.out.2 e)
  have HD := Lib.hid (descend_least hM2 t1.inv hy t1.up t1.cl (guide_least (V := Ne.amt s.v) (m := m) (top := y) (b1 := w.heap.size) (b2 := w1.heap.size) HNB.out ⟨by omega, by omega⟩) ⟨b1', b2, ⟨[], [], by rw [hrow]; simp, by simp⟩, hmin⟩)
  have HO1 := Lib.hid ho1
  have HMN := Lib.hid (show ∀ q ∈ s.r y, m ≤ Ne.amt s.v q from fun q hq => hmin.2 q (by rw [← hrow]; exact hq))
  have d2 := b1'.1
  clear t1 b1 hm hmin hrow in1 hM2 ho1 b2 b1'
  go_wp2_with fail
  refine HD.out.mono ?_
  rintro e w3 ⟨v, rfl, hdn, hE⟩
  obtain rfl := HZ.out v m hdn HMN.out
  have HE := Lib.hid (HH.out _ w3 _ _ _ _ _ HT.out (off_pg HO1.out (by obtain ⟨c', M', I', P', D', _, ho, _⟩ := hE; exact ho)) (by
    obtain ⟨c2, M2, I2, P2, D2, t2, _⟩ := tp_of hE
    exact ⟨c2, M2, I2, P2, D2, t2.mem, t2.inv, Nat.le_of_lt t2.lo, t2.hi⟩))
  clear hE hdn
  go_wp2
  go_ret
  exact ⟨rfl, HE.out⟩
set_option maxHeartbeats 2000000 in
theorem dat_any (h : SpO w B F p s lo hi) (hBw : B ≤ w.heap.size) (x q : Int) :
    Calls Try.prog 28 #[.pointer (some ⟨p, 0, none⟩), .int .i64 x, .int .i64 q] w fun e w' => e = .returned (.int .i64 (atZ s x q)) ∧ SpO w' B (Ext F w w') p s (lo + it s x) (hi + cst s.v.length) ∧ Off F w w' := by
  obtain ⟨g, c, M, I, P, D, h⟩ := h.hd
  have HM0 := Lib.hid (((h.mem.kept ((Below.refl _ w).alloc (Nat.le_refl _) (.cells #[.pointer (some ⟨p, 0, none⟩)] 25))).kept ((Below.refl _ _).alloc (Nat.le_refl _) (.cells #[.int .i64 q] 3))))
  have HO0 := Lib.hid (show Off (PG p g) w ((w.alloc (.cells #[.pointer (some ⟨p, 0, none⟩)] 25)).alloc (.cells #[.int .i64 q] 3)) from ((Sp.Off.refl _ w).alloc _).alloc _)
  have hsz : (w.alloc (.cells #[.pointer (some ⟨p, 0, none⟩)] 25)).heap.size = w.heap.size + 1 := by show (w.heap.push _).size = _; simp
  have HB1 := Lib.hid (bx_new (w := w.alloc (.cells #[.pointer (some ⟨p, 0, none⟩)] 25)) (b := w.heap.size + 1) hsz.symm (.int .i64 q) 3)
  have HB0 := Lib.hid ((bx_new (w := w) rfl (.pointer (some ⟨p, 0, none⟩)) 25).off (F := fun _ => False) ((Sp.Off.refl _ (w.alloc (.cells #[.pointer (some ⟨p, 0, none⟩)] 25))).alloc (.cells #[.int .i64 q] 3)) id)
  have hin := h.mem.in
  have HNB := Lib.hid (show w.heap.size ≠ p ∧ w.heap.size ≠ g ∧ w.heap.size + 1 ≠ p ∧ w.heap.size + 1 ≠ g from ⟨by omega, by omega, by omega, by omega⟩)
  by_cases hx : 0 ≤ x ∧ x < (s.v.length : Int)
  case neg =>
    as_aux_lemma =>
    have hr := h.row.2 hx
    have e : it s x = 0 := by unfold it; rw [if_pos hr]
    have HE := Lib.hid (h.to hBw (w2 := ((w.alloc (.cells #[.pointer (some ⟨p, 0, none⟩)] 25)).alloc (.cells #[.int .i64 q] 3)).drew) HM0.out.drew (off_pg HO0.out (off_drew _)) rfl h.inv h.good (k := 0) (by have := h.lo; omega) (by omega))
    have HL := Lib.hid (lift_out HM0.out.drew hx)
    have hz : atZ s x q = -1 := by unfold atZ atL; rw [hr]; split <;> simp
    rw [hz, e]
    clear h hx hr hz e hin hsz
    go_enter Try.func28, Try.ntmps28
    go_wp2_with fail
    generalize ((w.alloc (.cells #[.pointer (some ⟨p, 0, none⟩)] 25)).alloc (.cells #[.int .i64 q] 3)) = W0 at *
    have hS0 := (show (fun w' : World => w'.cell? ⟨w.heap.size, 0, none⟩ = some (.pointer (some ⟨p, 0, none⟩)) ∧ w'.cell? ⟨w.heap.size + 1, 0, none⟩ = some (.int .i64 q)) W0.drew from ⟨HB0.out.1, HB1.out.1⟩)
    refine Rh.start (S := (fun w' : World => w'.cell? ⟨w.heap.size, 0, none⟩ = some (.pointer (some ⟨p, 0, none⟩)) ∧ w'.cell? ⟨w.heap.size + 1, 0, none⟩ = some (.int .i64 q))) (by kernel_rfl) ?_
    refine Rh.take (some 7) (i := 0) (v := ?_) rfl (by kernel_rfl) (by kernel_rfl) (by kernel_rfl) (by kernel_rfl) (fun _ _ _ h => h) (Or.inl ⟨by rfl, ?_⟩) hS0 ?_
    rotate_left
    · intro w hSw
      go_simp
      try with_reducible rfl
    try simp only [Act.put, List.setIfInBounds_toArray, List.set_cons_zero, List.set_cons_succ]
    refine Rh.take (some 8) (i := 1) (v := ?_) rfl (by kernel_rfl) (by kernel_rfl) (by kernel_rfl) (by kernel_rfl) (fun _ _ _ h => h) (Or.inl ⟨by rfl, ?_⟩) hS0 ?_
    rotate_left
    · intro w hSw
      go_simp
      try with_reducible rfl
    try simp only [Act.put, List.setIfInBounds_toArray, List.set_cons_zero, List.set_cons_succ]
    refine Rh.step (i := 2) (by kernel_rfl) rfl fun K' hK' => ?_
    have HK := Lib.hid hK'
    clear hK'
    go_simp
    refine HL.out.mono ?_
    rintro e w1 ⟨rfl, rfl⟩
    have hS1 := hS0
    refine HK.out _ _ ⟨hS1, ?_⟩
    clear HK K'
    try simp only [Act.put, List.setIfInBounds_toArray, List.set_cons_zero, List.set_cons_succ]
    refine Rh.take (some 10) (i := 3) (v := ?_) rfl (by kernel_rfl) (by kernel_rfl) (by kernel_rfl) (by kernel_rfl) (fun _ _ _ h => h) (Or.inl ⟨by rfl, ?_⟩) hS1 ?_
    rotate_left
    · intro w hSw
      go_simp
      try with_reducible rfl
    try simp only [Act.put, List.setIfInBounds_toArray, List.set_cons_zero, List.set_cons_succ]
    refine Rh.take (some 11) (i := 4) (v := ?_) rfl (by kernel_rfl) (by kernel_rfl) (by kernel_rfl) (by kernel_rfl) (fun _ _ _ h => h) (Or.inl ⟨by rfl, ?_⟩) hS1 ?_
    rotate_left
    · intro w hSw
      go_simp
      try with_reducible rfl
    try simp only [Act.put, List.setIfInBounds_toArray, List.set_cons_zero, List.set_cons_succ]
    refine Rh.take (some 12) (i := 5) (v := undef) rfl (by kernel_rfl) (by kernel_rfl) (by kernel_rfl) (by kernel_rfl) (fun _ _ _ h => h) (Or.inr ⟨by rfl, rfl⟩) hS1 ?_
    try simp only [Act.put, List.setIfInBounds_toArray, List.set_cons_zero, List.set_cons_succ]
    refine Rh.take (some 13) (i := 6) (v := undef) rfl (by kernel_rfl) (by kernel_rfl) (by kernel_rfl) (by kernel_rfl) (fun _ _ _ h => h) (Or.inr ⟨by rfl, rfl⟩) hS1 ?_
    try simp only [Act.put, List.setIfInBounds_toArray, List.set_cons_zero, List.set_cons_succ]
    refine Rh.take (some 14) (i := 7) (v := ?_) rfl (by kernel_rfl) (by kernel_rfl) (by kernel_rfl) (by kernel_rfl) (fun _ _ _ h => h) (Or.inl ⟨by rfl, ?_⟩) hS1 ?_
    rotate_left
    · intro w hSw
      go_simp
      try with_reducible rfl
    try simp only [Act.put, List.setIfInBounds_toArray, List.set_cons_zero, List.set_cons_succ]
    refine Rh.take (some 15) (i := 8) (v := ?_) rfl (by kernel_rfl) (by kernel_rfl) (by kernel_rfl) (by kernel_rfl) (fun _ _ _ h => h) (Or.inl ⟨by rfl, ?_⟩) hS1 ?_
    rotate_left
    · intro w hSw
      go_simp
      try with_reducible rfl
    try simp only [Act.put, List.setIfInBounds_toArray, List.set_cons_zero, List.set_cons_succ]
    refine Rh.take (some 16) (i := 9) (v := undef) rfl (by kernel_rfl) (by kernel_rfl) (by kernel_rfl) (by kernel_rfl) (fun _ _ _ h => h) (Or.inr ⟨by rfl, rfl⟩) hS1 ?_
    try simp only [Act.put, List.setIfInBounds_toArray, List.set_cons_zero, List.set_cons_succ]
    refine Rh.take (some 17) (i := 10) (v := undef) rfl (by kernel_rfl) (by kernel_rfl) (by kernel_rfl) (by kernel_rfl) (fun _ _ _ h => h) (Or.inr ⟨by rfl, rfl⟩) hS1 ?_
    try simp only [Act.put, List.setIfInBounds_toArray, List.set_cons_zero, List.set_cons_succ]
    refine Rh.take (some 18) (i := 11) (v := undef) rfl (by kernel_rfl) (by kernel_rfl) (by kernel_rfl) (by kernel_rfl) (fun _ _ _ h => h) (Or.inr ⟨by rfl, rfl⟩) hS1 ?_
    try simp only [Act.put, List.setIfInBounds_toArray, List.set_cons_zero, List.set_cons_succ]
    refine Rh.take (some 19) (i := 12) (v := undef) rfl (by kernel_rfl) (by kernel_rfl) (by kernel_rfl) (by kernel_rfl) (fun _ _ _ h => h) (Or.inr ⟨by rfl, rfl⟩) hS1 ?_
    try simp only [Act.put, List.setIfInBounds_toArray, List.set_cons_zero, List.set_cons_succ]
    refine Rh.take (some 20) (i := 13) (v := undef) rfl (by kernel_rfl) (by kernel_rfl) (by kernel_rfl) (by kernel_rfl) (fun _ _ _ h => h) (Or.inr ⟨by rfl, rfl⟩) hS1 ?_
    try simp only [Act.put, List.setIfInBounds_toArray, List.set_cons_zero, List.set_cons_succ]
    refine Rh.take (some 21) (i := 14) (v := undef) rfl (by kernel_rfl) (by kernel_rfl) (by kernel_rfl) (by kernel_rfl) (fun _ _ _ h => h) (Or.inr ⟨by rfl, rfl⟩) hS1 ?_
    try simp only [Act.put, List.setIfInBounds_toArray, List.set_cons_zero, List.set_cons_succ]
    refine Rh.take (some 22) (i := 15) (v := undef) rfl (by kernel_rfl) (by kernel_rfl) (by kernel_rfl) (by kernel_rfl) (fun _ _ _ h => h) (Or.inr ⟨by rfl, rfl⟩) hS1 ?_
    try simp only [Act.put, List.setIfInBounds_toArray, List.set_cons_zero, List.set_cons_succ]
    refine Rh.take (some 23) (i := 16) (v := undef) rfl (by kernel_rfl) (by kernel_rfl) (by kernel_rfl) (by kernel_rfl) (fun _ _ _ h => h) (Or.inr ⟨by rfl, rfl⟩) hS1 ?_
    try simp only [Act.put, List.setIfInBounds_toArray, List.set_cons_zero, List.set_cons_succ]
    refine Rh.take (some 24) (i := 17) (v := undef) rfl (by kernel_rfl) (by kernel_rfl) (by kernel_rfl) (by kernel_rfl) (fun _ _ _ h => h) (Or.inr ⟨by rfl, rfl⟩) hS1 ?_
    try simp only [Act.put, List.setIfInBounds_toArray, List.set_cons_zero, List.set_cons_succ]
    refine Rh.take (some 25) (i := 18) (v := undef) rfl (by kernel_rfl) (by kernel_rfl) (by kernel_rfl) (by kernel_rfl) (fun _ _ _ h => h) (Or.inr ⟨by rfl, rfl⟩) hS1 ?_
    try simp only [Act.put, List.setIfInBounds_toArray, List.set_cons_zero, List.set_cons_succ]
    refine Rh.take (some 26) (i := 19) (v := ?_) rfl (by kernel_rfl) (by kernel_rfl) (by kernel_rfl) (by kernel_rfl) (fun _ _ _ h => h) (Or.inl ⟨by rfl, ?_⟩) hS1 ?_
    rotate_left
    · intro w hSw
      go_simp
      try with_reducible rfl
    try simp only [Act.put, List.setIfInBounds_toArray, List.set_cons_zero, List.set_cons_succ]
    refine Rh.done (by kernel_rfl) ?_ _
    go_wp2
    go_ret
    exact ⟨rfl, HE.out⟩
  obtain ⟨y, rfl⟩ : ∃ y : Nat, x = (y : Int) := ⟨x.toNat, by omega⟩
  have hy : y < s.v.length := by omega
  have hyi : (y : Int) < (s.v.length : Int) := hx.2
  have hy0 : (0 : Int) ≤ (y : Int) := hx.1
  have HL := Lib.hid (lift_tp (s := s) HM0.out.drew h.inv hy)
  obtain ⟨len, hlen⟩ : ∃ len, len = (s.r y).length := ⟨_, rfl⟩
  have HLN := Lib.hid hlen
  have HZ := Lib.hid (show (q < 0 → atZ s (y : Int) q = -1) ∧ ((len : Int) ≤ q → atZ s (y : Int) q = -1) ∧ ∀ (k v : Nat), q = (k : Int) → (s.r y)[k]? = some v → atZ s (y : Int) q = (v : Int) from by
    unfold atZ atL
    rw [rowZ_nat]
    refine ⟨fun hq => if_pos hq, fun hq => ?_, fun k v hq hv => ?_⟩
    · rw [if_neg (by omega), List.getElem?_eq_none (by omega)]
    · subst hq
      rw [if_neg (by omega), Int.toNat_natCast, hv])
  have HH := Lib.hid (fun w2 w3 c1 M1 I1 P1 D1 t ho2 t2 => h.two' (w1 := ((w.alloc (.cells #[.pointer (some ⟨p, 0, none⟩)] 25)).alloc (.cells #[.int .i64 q] 3)).drew) (w2 := w2) (w3 := w3) hBw (off_pg HO0.out (off_drew _)) (y := y) (c1 := c1) (M1 := M1) (I1 := I1) (P1 := P1) (D1 := D1) (FF := F) t ho2 t2)
  have HEND := Lib.hid (fun (w2 w3 : World) c1 M1 I1 P1 D1 (t1 : Tp ((w.alloc (.cells #[.pointer (some ⟨p, 0, none⟩)] 25)).alloc (.cells #[.int .i64 q] 3)).drew w2 B p g s.v.length s c (c + 6 * pot I s.v.length) y c1 M1 I1 P1 D1) (v : Nat) (hE : Ended (FB p g (w.heap.size + 1)) w2 w3 B p g s.v.length (Ne.amt s.v) s.r M1 I1 y c1 v) => show SpO w3 B (Ext F w w3) p s (lo + it s (y : Int)) (hi + cst s.v.length) ∧ Off F w w3 from by
    obtain ⟨c2, M2, I2, P2, D2, m2, o2, i2, u2, k2, R2, v2, r2, l2, h2⟩ := hE
    have hl := log_le (i2.len v2) m2.small
    rw [it_in h t1.lt]
    refine h.to hBw m2 ((off_pg (off_pg HO0.out (off_drew _)) t1.off).trans o2 fun k hk => ?_) rfl i2 h.good (by have := t1.lo; have := h.lo; omega) (by have := t1.hi; unfold lg at *; omega)
    rcases hk with hk | hk
    · exact .inl hk
    · right; omega)
  have hsm := h.mem.small
  have hrl := h.good.len y
  generalize atZ s (y : Int) q = Z at *
  generalize hW0 : ((w.alloc (.cells #[.pointer (some ⟨p, 0, none⟩)] 25)).alloc (.cells #[.int .i64 q] 3)) = W0 at *
  have HW0 := Lib.hid hW0
  have HCN := Lib.hid (fun (w1 : World) (c1 : Nat) (M1 : Nat → Nd) (I1 : Nat → List Nat) (P1 : Nat → Bool) (D1 : Nat → Int) (t1 : Tp W0.drew w1 B p g s.v.length s c (c + 6 * pot I s.v.length) y c1 M1 I1 P1 D1) => show (M1 y).c = len from by rw [t1.inv.cnt y hy id, HLN.out, t1.inv.root_row hy t1.up])
  clear h hx hin hsz hlen hW0
  by_cases hq : q < 0
  · as_aux_lemma =>
    have hz := HZ.out.1 hq
    subst hz
    clear HZ
    go_enter Try.func28, Try.ntmps28
    go_wp2_with fail
    rw [HW0.out]
    have hS0 := (show (fun w' : World => w'.cell? ⟨w.heap.size, 0, none⟩ = some (.pointer (some ⟨p, 0, none⟩)) ∧ w'.cell? ⟨w.heap.size + 1, 0, none⟩ = some (.int .i64 q)) W0.drew from ⟨HB0.out.1, HB1.out.1⟩)
    refine Rh.start (S := (fun w' : World => w'.cell? ⟨w.heap.size, 0, none⟩ = some (.pointer (some ⟨p, 0, none⟩)) ∧ w'.cell? ⟨w.heap.size + 1, 0, none⟩ = some (.int .i64 q))) (by kernel_rfl) ?_
    refine Rh.take (some 7) (i := 0) (v := ?_) rfl (by kernel_rfl) (by kernel_rfl) (by kernel_rfl) (by kernel_rfl) (fun _ _ _ h => h) (Or.inl ⟨by rfl, ?_⟩) hS0 ?_
    rotate_left
    · intro w hSw
      go_simp
      try with_reducible rfl
    try simp only [Act.put, List.setIfInBounds_toArray, List.set_cons_zero, List.set_cons_succ]
    refine Rh.take (some 8) (i := 1) (v := ?_) rfl (by kernel_rfl) (by kernel_rfl) (by kernel_rfl) (by kernel_rfl) (fun _ _ _ h => h) (Or.inl ⟨by rfl, ?_⟩) hS0 ?_
    rotate_left
    · intro w hSw
      go_simp
      try with_reducible rfl
    try simp only [Act.put, List.setIfInBounds_toArray, List.set_cons_zero, List.set_cons_succ]
    refine Rh.step (i := 2) (by kernel_rfl) rfl fun K' hK' => ?_
    have HK := Lib.hid hK'
    clear hK'
    go_simp
    refine HL.out.mono ?_
    rintro e w1 ⟨rfl, c1, M1, I1, P1, D1, t1⟩
    have HT := Lib.hid t1
    have hS1 := (show (fun w' : World => w'.cell? ⟨w.heap.size, 0, none⟩ = some (.pointer (some ⟨p, 0, none⟩)) ∧ w'.cell? ⟨w.heap.size + 1, 0, none⟩ = some (.int .i64 q)) w1 from ⟨(HB0.out.drew.off t1.off (by rintro (e | e); exact HNB.out.1 e; exact HNB.out.2.1 e)).1, (HB1.out.drew.off t1.off (by rintro (e | e); exact HNB.out.2.2.1 e; exact HNB.out.2.2.2 e)).1⟩)
    have n0 := t1.mem.head
    have c3 := t1.mem.cells hy 3 _ rfl
    rw [HCN.out _ _ _ _ _ _ t1] at c3
    clear t1
    refine HK.out _ _ ⟨hS1, ?_⟩
    clear HK K'
    try simp only [Act.put, List.setIfInBounds_toArray, List.set_cons_zero, List.set_cons_succ]
    refine Rh.take (some 10) (i := 3) (v := ?_) rfl (by kernel_rfl) (by kernel_rfl) (by kernel_rfl) (by kernel_rfl) (fun _ _ _ h => h) (Or.inl ⟨by rfl, ?_⟩) hS1 ?_
    rotate_left
    · intro w hSw
      go_simp
      try with_reducible rfl
    try simp only [Act.put, List.setIfInBounds_toArray, List.set_cons_zero, List.set_cons_succ]
    refine Rh.take (some 11) (i := 4) (v := ?_) rfl (by kernel_rfl) (by kernel_rfl) (by kernel_rfl) (by kernel_rfl) (fun _ _ _ h => h) (Or.inl ⟨by rfl, ?_⟩) hS1 ?_
    rotate_left
    · intro w hSw
      go_simp
      try with_reducible rfl
    try simp only [Act.put, List.setIfInBounds_toArray, List.set_cons_zero, List.set_cons_succ]
    refine Rh.take (some 12) (i := 5) (v := ?_) rfl (by kernel_rfl) (by kernel_rfl) (by kernel_rfl) (by kernel_rfl) (fun _ _ _ h => h) (Or.inl ⟨by rfl, ?_⟩) hS1 ?_
    rotate_left
    · intro w hSw
      go_simp
      try with_reducible rfl
    try simp only [Act.put, List.setIfInBounds_toArray, List.set_cons_zero, List.set_cons_succ]
    refine Rh.take (some 13) (i := 6) (v := ?_) rfl (by kernel_rfl) (by kernel_rfl) (by kernel_rfl) (by kernel_rfl) (fun _ _ _ h => h) (Or.inl ⟨by rfl, ?_⟩) hS1 ?_
    rotate_left
    · intro w hSw
      go_simp
      try with_reducible rfl
    try simp only [Act.put, List.setIfInBounds_toArray, List.set_cons_zero, List.set_cons_succ]
    refine Rh.take (some 14) (i := 7) (v := ?_) rfl (by kernel_rfl) (by kernel_rfl) (by kernel_rfl) (by kernel_rfl) (fun _ _ _ h => h) (Or.inl ⟨by rfl, ?_⟩) hS1 ?_
    rotate_left
    · intro w hSw
      go_simp
      try with_reducible rfl
    try simp only [Act.put, List.setIfInBounds_toArray, List.set_cons_zero, List.set_cons_succ]
    refine Rh.take (some 15) (i := 8) (v := ?_) rfl (by kernel_rfl) (by kernel_rfl) (by kernel_rfl) (by kernel_rfl) (fun _ _ _ h => h) (Or.inl ⟨by rfl, ?_⟩) hS1 ?_
    rotate_left
    · intro w hSw
      go_simp
      try with_reducible rfl
    try simp only [Act.put, List.setIfInBounds_toArray, List.set_cons_zero, List.set_cons_succ]
    refine Rh.take (some 16) (i := 9) (v := undef) rfl (by kernel_rfl) (by kernel_rfl) (by kernel_rfl) (by kernel_rfl) (fun _ _ _ h => h) (Or.inr ⟨by rfl, rfl⟩) hS1 ?_
    try simp only [Act.put, List.setIfInBounds_toArray, List.set_cons_zero, List.set_cons_succ]
    refine Rh.take (some 17) (i := 10) (v := undef) rfl (by kernel_rfl) (by kernel_rfl) (by kernel_rfl) (by kernel_rfl) (fun _ _ _ h => h) (Or.inr ⟨by rfl, rfl⟩) hS1 ?_
    try simp only [Act.put, List.setIfInBounds_toArray, List.set_cons_zero, List.set_cons_succ]
    refine Rh.take (some 18) (i := 11) (v := undef) rfl (by kernel_rfl) (by kernel_rfl) (by kernel_rfl) (by kernel_rfl) (fun _ _ _ h => h) (Or.inr ⟨by rfl, rfl⟩) hS1 ?_
    try simp only [Act.put, List.setIfInBounds_toArray, List.set_cons_zero, List.set_cons_succ]
    refine Rh.take (some 19) (i := 12) (v := undef) rfl (by kernel_rfl) (by kernel_rfl) (by kernel_rfl) (by kernel_rfl) (fun _ _ _ h => h) (Or.inr ⟨by rfl, rfl⟩) hS1 ?_
    try simp only [Act.put, List.setIfInBounds_toArray, List.set_cons_zero, List.set_cons_succ]
    refine Rh.take (some 20) (i := 13) (v := undef) rfl (by kernel_rfl) (by kernel_rfl) (by kernel_rfl) (by kernel_rfl) (fun _ _ _ h => h) (Or.inr ⟨by rfl, rfl⟩) hS1 ?_
    try simp only [Act.put, List.setIfInBounds_toArray, List.set_cons_zero, List.set_cons_succ]
    refine Rh.take (some 21) (i := 14) (v := undef) rfl (by kernel_rfl) (by kernel_rfl) (by kernel_rfl) (by kernel_rfl) (fun _ _ _ h => h) (Or.inr ⟨by rfl, rfl⟩) hS1 ?_
    try simp only [Act.put, List.setIfInBounds_toArray, List.set_cons_zero, List.set_cons_succ]
    refine Rh.take (some 22) (i := 15) (v := undef) rfl (by kernel_rfl) (by kernel_rfl) (by kernel_rfl) (by kernel_rfl) (fun _ _ _ h => h) (Or.inr ⟨by rfl, rfl⟩) hS1 ?_
    try simp only [Act.put, List.setIfInBounds_toArray, List.set_cons_zero, List.set_cons_succ]
    refine Rh.take (some 23) (i := 16) (v := undef) rfl (by kernel_rfl) (by kernel_rfl) (by kernel_rfl) (by kernel_rfl) (fun _ _ _ h => h) (Or.inr ⟨by rfl, rfl⟩) hS1 ?_
    try simp only [Act.put, List.setIfInBounds_toArray, List.set_cons_zero, List.set_cons_succ]
    refine Rh.take (some 24) (i := 17) (v := undef) rfl (by kernel_rfl) (by kernel_rfl) (by kernel_rfl) (by kernel_rfl) (fun _ _ _ h => h) (Or.inr ⟨by rfl, rfl⟩) hS1 ?_
    try simp only [Act.put, List.setIfInBounds_toArray, List.set_cons_zero, List.set_cons_succ]
    refine Rh.take (some 25) (i := 18) (v := undef) rfl (by kernel_rfl) (by kernel_rfl) (by kernel_rfl) (by kernel_rfl) (fun _ _ _ h => h) (Or.inr ⟨by rfl, rfl⟩) hS1 ?_
    try simp only [Act.put, List.setIfInBounds_toArray, List.set_cons_zero, List.set_cons_succ]
    refine Rh.take (some 26) (i := 19) (v := ?_) rfl (by kernel_rfl) (by kernel_rfl) (by kernel_rfl) (by kernel_rfl) (fun _ _ _ h => h) (Or.inl ⟨by rfl, ?_⟩) hS1 ?_
    rotate_left
    · intro w hSw
      go_simp
      try with_reducible rfl
    try simp only [Act.put, List.setIfInBounds_toArray, List.set_cons_zero, List.set_cons_succ]
    refine Rh.done (by kernel_rfl) ?_ _
    have HE := Lib.hid (HH.out w1 w1 _ _ _ _ _ HT.out (Off.refl _ _) ⟨_, _, _, _, _, HT.out.mem, HT.out.inv, Nat.le_refl _, by omega⟩)
    go_wp2
    go_ret
    exact ⟨rfl, HE.out⟩
  · have hq0 : (0 : Int) ≤ q := by omega
    have hqd : decide (q < 0) = false := by simpa using hq0
    have hqn : ¬ q < 0 := hq
    clear hq
    by_cases hql : (len : Int) ≤ q
    · as_aux_lemma =>
      have hz := HZ.out.2.1 hql
      subst hz
      clear HZ
      go_enter Try.func28, Try.ntmps28
      go_wp2_with fail
      rw [HW0.out]
      have hS0 := (show (fun w' : World => w'.cell? ⟨w.heap.size, 0, none⟩ = some (.pointer (some ⟨p, 0, none⟩)) ∧ w'.cell? ⟨w.heap.size + 1, 0, none⟩ = some (.int .i64 q)) W0.drew from ⟨HB0.out.1, HB1.out.1⟩)
      refine Rh.start (S := (fun w' : World => w'.cell? ⟨w.heap.size, 0, none⟩ = some (.pointer (some ⟨p, 0, none⟩)) ∧ w'.cell? ⟨w.heap.size + 1, 0, none⟩ = some (.int .i64 q))) (by kernel_rfl) ?_
      refine Rh.take (some 7) (i := 0) (v := ?_) rfl (by kernel_rfl) (by kernel_rfl) (by kernel_rfl) (by kernel_rfl) (fun _ _ _ h => h) (Or.inl ⟨by rfl, ?_⟩) hS0 ?_
      rotate_left
      · intro w hSw
        go_simp
        try with_reducible rfl
      try simp only [Act.put, List.setIfInBounds_toArray, List.set_cons_zero, List.set_cons_succ]
      refine Rh.take (some 8) (i := 1) (v := ?_) rfl (by kernel_rfl) (by kernel_rfl) (by kernel_rfl) (by kernel_rfl) (fun _ _ _ h => h) (Or.inl ⟨by rfl, ?_⟩) hS0 ?_
      rotate_left
      · intro w hSw
        go_simp
        try with_reducible rfl
      try simp only [Act.put, List.setIfInBounds_toArray, List.set_cons_zero, List.set_cons_succ]
      refine Rh.step (i := 2) (by kernel_rfl) rfl fun K' hK' => ?_
      have HK := Lib.hid hK'
      clear hK'
      go_simp
      refine HL.out.mono ?_
      rintro e w1 ⟨rfl, c1, M1, I1, P1, D1, t1⟩
      have HT := Lib.hid t1
      have hS1 := (show (fun w' : World => w'.cell? ⟨w.heap.size, 0, none⟩ = some (.pointer (some ⟨p, 0, none⟩)) ∧ w'.cell? ⟨w.heap.size + 1, 0, none⟩ = some (.int .i64 q)) w1 from ⟨(HB0.out.drew.off t1.off (by rintro (e | e); exact HNB.out.1 e; exact HNB.out.2.1 e)).1, (HB1.out.drew.off t1.off (by rintro (e | e); exact HNB.out.2.2.1 e; exact HNB.out.2.2.2 e)).1⟩)
      have n0 := t1.mem.head
      have c3 := t1.mem.cells hy 3 _ rfl
      rw [HCN.out _ _ _ _ _ _ t1] at c3
      clear t1
      refine HK.out _ _ ⟨hS1, ?_⟩
      clear HK K'
      try simp only [Act.put, List.setIfInBounds_toArray, List.set_cons_zero, List.set_cons_succ]
      refine Rh.take (some 10) (i := 3) (v := ?_) rfl (by kernel_rfl) (by kernel_rfl) (by kernel_rfl) (by kernel_rfl) (fun _ _ _ h => h) (Or.inl ⟨by rfl, ?_⟩) hS1 ?_
      rotate_left
      · intro w hSw
        go_simp
        try with_reducible rfl
      try simp only [Act.put, List.setIfInBounds_toArray, List.set_cons_zero, List.set_cons_succ]
      refine Rh.take (some 11) (i := 4) (v := ?_) rfl (by kernel_rfl) (by kernel_rfl) (by kernel_rfl) (by kernel_rfl) (fun _ _ _ h => h) (Or.inl ⟨by rfl, ?_⟩) hS1 ?_
      rotate_left
      · intro w hSw
        go_simp
        try with_reducible rfl
      try simp only [Act.put, List.setIfInBounds_toArray, List.set_cons_zero, List.set_cons_succ]
      refine Rh.take (some 12) (i := 5) (v := ?_) rfl (by kernel_rfl) (by kernel_rfl) (by kernel_rfl) (by kernel_rfl) (fun _ _ _ h => h) (Or.inl ⟨by rfl, ?_⟩) hS1 ?_
      rotate_left
      · intro w hSw
        go_simp
        try with_reducible rfl
      try simp only [Act.put, List.setIfInBounds_toArray, List.set_cons_zero, List.set_cons_succ]
      refine Rh.take (some 13) (i := 6) (v := ?_) rfl (by kernel_rfl) (by kernel_rfl) (by kernel_rfl) (by kernel_rfl) (fun _ _ _ h => h) (Or.inl ⟨by rfl, ?_⟩) hS1 ?_
      rotate_left
      · intro w hSw
        go_simp
        try with_reducible rfl
      try simp only [Act.put, List.setIfInBounds_toArray, List.set_cons_zero, List.set_cons_succ]
      refine Rh.take (some 14) (i := 7) (v := ?_) rfl (by kernel_rfl) (by kernel_rfl) (by kernel_rfl) (by kernel_rfl) (fun _ _ _ h => h) (Or.inl ⟨by rfl, ?_⟩) hS1 ?_
      rotate_left
      · intro w hSw
        go_simp
        try with_reducible rfl
      try simp only [Act.put, List.setIfInBounds_toArray, List.set_cons_zero, List.set_cons_succ]
      refine Rh.take (some 15) (i := 8) (v := ?_) rfl (by kernel_rfl) (by kernel_rfl) (by kernel_rfl) (by kernel_rfl) (fun _ _ _ h => h) (Or.inl ⟨by rfl, ?_⟩) hS1 ?_
      rotate_left
      · intro w hSw
        go_simp
        try with_reducible rfl
      try simp only [Act.put, List.setIfInBounds_toArray, List.set_cons_zero, List.set_cons_succ]
      refine Rh.take (some 16) (i := 9) (v := ?_) rfl (by kernel_rfl) (by kernel_rfl) (by kernel_rfl) (by kernel_rfl) (fun _ _ _ h => h) (Or.inl ⟨by rfl, ?_⟩) hS1 ?_
      rotate_left
      · intro w hSw
        go_simp
        try with_reducible rfl
      try simp only [Act.put, List.setIfInBounds_toArray, List.set_cons_zero, List.set_cons_succ]
      refine Rh.take (some 17) (i := 10) (v := ?_) rfl (by kernel_rfl) (by kernel_rfl) (by kernel_rfl) (by kernel_rfl) (fun _ _ _ h => h) (Or.inl ⟨by rfl, ?_⟩) hS1 ?_
      rotate_left
      · intro w hSw
        go_simp
        try with_reducible rfl
      try simp only [Act.put, List.setIfInBounds_toArray, List.set_cons_zero, List.set_cons_succ]
      refine Rh.take (some 18) (i := 11) (v := ?_) rfl (by kernel_rfl) (by kernel_rfl) (by kernel_rfl) (by kernel_rfl) (fun _ _ _ h => h) (Or.inl ⟨by rfl, ?_⟩) hS1 ?_
      rotate_left
      · intro w hSw
        go_simp
        try with_reducible rfl
      try simp only [Act.put, List.setIfInBounds_toArray, List.set_cons_zero, List.set_cons_succ]
      refine Rh.take (some 19) (i := 12) (v := ?_) rfl (by kernel_rfl) (by kernel_rfl) (by kernel_rfl) (by kernel_rfl) (fun _ _ _ h => h) (Or.inl ⟨by rfl, ?_⟩) hS1 ?_
      rotate_left
      · intro w hSw
        go_simp
        try with_reducible rfl
      try simp only [Act.put, List.setIfInBounds_toArray, List.set_cons_zero, List.set_cons_succ]
      refine Rh.take (some 21) (i := 14) (v := ?_) rfl (by kernel_rfl) (by kernel_rfl) (by kernel_rfl) (by kernel_rfl) (fun _ _ _ h => h) (Or.inl ⟨by rfl, ?_⟩) hS1 ?_
      rotate_left
      · intro w hSw
        go_simp
        try with_reducible rfl
      try simp only [Act.put, List.setIfInBounds_toArray, List.set_cons_zero, List.set_cons_succ]
      refine Rh.step (i := 13) (by kernel_rfl) rfl fun K' hK' => ?_
      have HK := Lib.hid hK'
      clear hK'
      go_simp
      refine HK.out _ _ ⟨hS1, ?_⟩
      clear HK K'
      try simp only [Act.put, List.setIfInBounds_toArray, List.set_cons_zero, List.set_cons_succ]
      refine Rh.take (some 22) (i := 15) (v := ?_) rfl (by kernel_rfl) (by kernel_rfl) (by kernel_rfl) (by kernel_rfl) (fun _ _ _ h => h) (Or.inl ⟨by rfl, ?_⟩) hS1 ?_
      rotate_left
      · intro w hSw
        go_simp
        try with_reducible rfl
      try simp only [Act.put, List.setIfInBounds_toArray, List.set_cons_zero, List.set_cons_succ]
      refine Rh.take (some 23) (i := 16) (v := ?_) rfl (by kernel_rfl) (by kernel_rfl) (by kernel_rfl) (by kernel_rfl) (fun _ _ _ h => h) (Or.inl ⟨by rfl, ?_⟩) hS1 ?_
      rotate_left
      · intro w hSw
        go_simp
        try with_reducible rfl
      try simp only [Act.put, List.setIfInBounds_toArray, List.set_cons_zero, List.set_cons_succ]
      refine Rh.step (i := 17) (by kernel_rfl) rfl fun K' hK' => ?_
      have HK := Lib.hid hK'
      clear hK'
      go_simp
      refine HK.out _ _ ⟨hS1, ?_⟩
      clear HK K'
      try simp only [Act.put, List.setIfInBounds_toArray, List.set_cons_zero, List.set_cons_succ]
      refine Rh.take (some 25) (i := 18) (v := ?_) rfl (by kernel_rfl) (by kernel_rfl) (by kernel_rfl) (by kernel_rfl) (fun _ _ _ h => h) (Or.inl ⟨by rfl, ?_⟩) hS1 ?_
      rotate_left
      · intro w hSw
        go_simp
        try with_reducible rfl
      try simp only [Act.put, List.setIfInBounds_toArray, List.set_cons_zero, List.set_cons_succ]
      refine Rh.take (some 26) (i := 19) (v := ?_) rfl (by kernel_rfl) (by kernel_rfl) (by kernel_rfl) (by kernel_rfl) (fun _ _ _ h => h) (Or.inl ⟨by rfl, ?_⟩) hS1 ?_
      rotate_left
      · intro w hSw
        go_simp
        try with_reducible rfl
      try simp only [Act.put, List.setIfInBounds_toArray, List.set_cons_zero, List.set_cons_succ]
      refine Rh.done (by kernel_rfl) ?_ _
      have HE := Lib.hid (HH.out w1 w1 _ _ _ _ _ HT.out (Off.refl _ _) ⟨_, _, _, _, _, HT.out.mem, HT.out.inv, Nat.le_refl _, by omega⟩)
      go_wp2
      go_ret
      exact ⟨rfl, HE.out⟩
    · obtain ⟨k, rfl⟩ : ∃ k : Nat, q = (k : Int) := ⟨q.toNat, by omega⟩
      go_enter Try.func28, Try.ntmps28
      go_wp2_with fail
      rw [HW0.out]
      have hS0 := (show (fun w' : World => w'.cell? ⟨w.heap.size, 0, none⟩ = some (.pointer (some ⟨p, 0, none⟩)) ∧ w'.cell? ⟨w.heap.size + 1, 0, none⟩ = some (.int .i64 (k : Int))) W0.drew from ⟨HB0.out.1, HB1.out.1⟩)
      refine Rh.start (S := (fun w' : World => w'.cell? ⟨w.heap.size, 0, none⟩ = some (.pointer (some ⟨p, 0, none⟩)) ∧ w'.cell? ⟨w.heap.size + 1, 0, none⟩ = some (.int .i64 (k : Int)))) (by kernel_rfl) ?_
      refine Rh.take (some 7) (i := 0) (v := ?_) rfl (by kernel_rfl) (by kernel_rfl) (by kernel_rfl) (by kernel_rfl) (fun _ _ _ h => h) (Or.inl ⟨by rfl, ?_⟩) hS0 ?_
      rotate_left
      · intro w hSw
        go_simp
        try with_reducible rfl
      try simp only [Act.put, List.setIfInBounds_toArray, List.set_cons_zero, List.set_cons_succ]
      refine Rh.take (some 8) (i := 1) (v := ?_) rfl (by kernel_rfl) (by kernel_rfl) (by kernel_rfl) (by kernel_rfl) (fun _ _ _ h => h) (Or.inl ⟨by rfl, ?_⟩) hS0 ?_
      rotate_left
      · intro w hSw
        go_simp
        try with_reducible rfl
      try simp only [Act.put, List.setIfInBounds_toArray, List.set_cons_zero, List.set_cons_succ]
      refine Rh.step (i := 2) (by kernel_rfl) rfl fun K' hK' => ?_
      have HK := Lib.hid hK'
      clear hK'
      go_simp
      refine HL.out.mono ?_
      rintro e w1 ⟨rfl, c1, M1, I1, P1, D1, t1⟩
      have HT := Lib.hid t1
      have hS1 := (show (fun w' : World => w'.cell? ⟨w.heap.size, 0, none⟩ = some (.pointer (some ⟨p, 0, none⟩)) ∧ w'.cell? ⟨w.heap.size + 1, 0, none⟩ = some (.int .i64 (k : Int))) w1 from ⟨(HB0.out.drew.off t1.off (by rintro (e | e); exact HNB.out.1 e; exact HNB.out.2.1 e)).1, (HB1.out.drew.off t1.off (by rintro (e | e); exact HNB.out.2.2.1 e; exact HNB.out.2.2.2 e)).1⟩)
      have n0 := t1.mem.head
      have c3 := t1.mem.cells hy 3 _ rfl
      rw [HCN.out _ _ _ _ _ _ t1] at c3
      clear t1
      refine HK.out _ _ ⟨hS1, ?_⟩
      clear HK K'
      try simp only [Act.put, List.setIfInBounds_toArray, List.set_cons_zero, List.set_cons_succ]
      refine Rh.take (some 10) (i := 3) (v := ?_) rfl (by kernel_rfl) (by kernel_rfl) (by kernel_rfl) (by kernel_rfl) (fun _ _ _ h => h) (Or.inl ⟨by rfl, ?_⟩) hS1 ?_
      rotate_left
      · intro w hSw
        go_simp
        try with_reducible rfl
      try simp only [Act.put, List.setIfInBounds_toArray, List.set_cons_zero, List.set_cons_succ]
      refine Rh.take (some 11) (i := 4) (v := ?_) rfl (by kernel_rfl) (by kernel_rfl) (by kernel_rfl) (by kernel_rfl) (fun _ _ _ h => h) (Or.inl ⟨by rfl, ?_⟩) hS1 ?_
      rotate_left
      · intro w hSw
        go_simp
        try with_reducible rfl
      try simp only [Act.put, List.setIfInBounds_toArray, List.set_cons_zero, List.set_cons_succ]
      refine Rh.take (some 12) (i := 5) (v := ?_) rfl (by kernel_rfl) (by kernel_rfl) (by kernel_rfl) (by kernel_rfl) (fun _ _ _ h => h) (Or.inl ⟨by rfl, ?_⟩) hS1 ?_
      rotate_left
      · intro w hSw
        go_simp
        try with_reducible rfl
      try simp only [Act.put, List.setIfInBounds_toArray, List.set_cons_zero, List.set_cons_succ]
      refine Rh.take (some 13) (i := 6) (v := ?_) rfl (by kernel_rfl) (by kernel_rfl) (by kernel_rfl) (by kernel_rfl) (fun _ _ _ h => h) (Or.inl ⟨by rfl, ?_⟩) hS1 ?_
      rotate_left
      · intro w hSw
        go_simp
        try with_reducible rfl
      try simp only [Act.put, List.setIfInBounds_toArray, List.set_cons_zero, List.set_cons_succ]
      refine Rh.take (some 14) (i := 7) (v := ?_) rfl (by kernel_rfl) (by kernel_rfl) (by kernel_rfl) (by kernel_rfl) (fun _ _ _ h => h) (Or.inl ⟨by rfl, ?_⟩) hS1 ?_
      rotate_left
      · intro w hSw
        go_simp
        try with_reducible rfl
      try simp only [Act.put, List.setIfInBounds_toArray, List.set_cons_zero, List.set_cons_succ]
      refine Rh.take (some 15) (i := 8) (v := ?_) rfl (by kernel_rfl) (by kernel_rfl) (by kernel_rfl) (by kernel_rfl) (fun _ _ _ h => h) (Or.inl ⟨by rfl, ?_⟩) hS1 ?_
      rotate_left
      · intro w hSw
        go_simp
        try with_reducible rfl
      try simp only [Act.put, List.setIfInBounds_toArray, List.set_cons_zero, List.set_cons_succ]
      refine Rh.take (some 16) (i := 9) (v := ?_) rfl (by kernel_rfl) (by kernel_rfl) (by kernel_rfl) (by kernel_rfl) (fun _ _ _ h => h) (Or.inl ⟨by rfl, ?_⟩) hS1 ?_
      rotate_left
      · intro w hSw
        go_simp
        try with_reducible rfl
      try simp only [Act.put, List.setIfInBounds_toArray, List.set_cons_zero, List.set_cons_succ]
      refine Rh.take (some 17) (i := 10) (v := ?_) rfl (by kernel_rfl) (by kernel_rfl) (by kernel_rfl) (by kernel_rfl) (fun _ _ _ h => h) (Or.inl ⟨by rfl, ?_⟩) hS1 ?_
      rotate_left
      · intro w hSw
        go_simp
        try with_reducible rfl
      try simp only [Act.put, List.setIfInBounds_toArray, List.set_cons_zero, List.set_cons_succ]
      refine Rh.take (some 18) (i := 11) (v := ?_) rfl (by kernel_rfl) (by kernel_rfl) (by kernel_rfl) (by kernel_rfl) (fun _ _ _ h => h) (Or.inl ⟨by rfl, ?_⟩) hS1 ?_
      rotate_left
      · intro w hSw
        go_simp
        try with_reducible rfl
      try simp only [Act.put, List.setIfInBounds_toArray, List.set_cons_zero, List.set_cons_succ]
      refine Rh.take (some 19) (i := 12) (v := ?_) rfl (by kernel_rfl) (by kernel_rfl) (by kernel_rfl) (by kernel_rfl) (fun _ _ _ h => h) (Or.inl ⟨by rfl, ?_⟩) hS1 ?_
      rotate_left
      · intro w hSw
        go_simp
        try with_reducible rfl
      try simp only [Act.put, List.setIfInBounds_toArray, List.set_cons_zero, List.set_cons_succ]
      refine Rh.take (some 21) (i := 14) (v := ?_) rfl (by kernel_rfl) (by kernel_rfl) (by kernel_rfl) (by kernel_rfl) (fun _ _ _ h => h) (Or.inl ⟨by rfl, ?_⟩) hS1 ?_
      rotate_left
      · intro w hSw
        go_simp
        try with_reducible rfl
      try simp only [Act.put, List.setIfInBounds_toArray, List.set_cons_zero, List.set_cons_succ]
      refine Rh.step (i := 13) (by kernel_rfl) rfl fun K' hK' => ?_
      have HK := Lib.hid hK'
      clear hK'
      go_simp
      refine HK.out _ _ ⟨hS1, ?_⟩
      clear HK K'
      try simp only [Act.put, List.setIfInBounds_toArray, List.set_cons_zero, List.set_cons_succ]
      refine Rh.take (some 22) (i := 15) (v := ?_) rfl (by kernel_rfl) (by kernel_rfl) (by kernel_rfl) (by kernel_rfl) (fun _ _ _ h => h) (Or.inl ⟨by rfl, ?_⟩) hS1 ?_
      rotate_left
      · intro w hSw
        go_simp
        try with_reducible rfl
      try simp only [Act.put, List.setIfInBounds_toArray, List.set_cons_zero, List.set_cons_succ]
      refine Rh.take (some 23) (i := 16) (v := ?_) rfl (by kernel_rfl) (by kernel_rfl) (by kernel_rfl) (by kernel_rfl) (fun _ _ _ h => h) (Or.inl ⟨by rfl, ?_⟩) hS1 ?_
      rotate_left
      · intro w hSw
        go_simp
        try with_reducible rfl
      try simp only [Act.put, List.setIfInBounds_toArray, List.set_cons_zero, List.set_cons_succ]
      refine Rh.step (i := 17) (by kernel_rfl) rfl fun K' hK' => ?_
      have HK := Lib.hid hK'
      clear hK'
      go_simp
      refine HK.out _ _ ⟨hS1, ?_⟩
      clear HK K'
      try simp only [Act.put, List.setIfInBounds_toArray, List.set_cons_zero, List.set_cons_succ]
      refine Rh.take (some 25) (i := 18) (v := ?_) rfl (by kernel_rfl) (by kernel_rfl) (by kernel_rfl) (by kernel_rfl) (fun _ _ _ h => h) (Or.inl ⟨by rfl, ?_⟩) hS1 ?_
      rotate_left
      · intro w hSw
        go_simp
        try with_reducible rfl
      try simp only [Act.put, List.setIfInBounds_toArray, List.set_cons_zero, List.set_cons_succ]
      refine Rh.take (some 26) (i := 19) (v := ?_) rfl (by kernel_rfl) (by kernel_rfl) (by kernel_rfl) (by kernel_rfl) (fun _ _ _ h => h) (Or.inl ⟨by rfl, ?_⟩) hS1 ?_
      rotate_left
      · intro w hSw
        go_simp
        try with_reducible rfl
      try simp only [Act.put, List.setIfInBounds_toArray, List.set_cons_zero, List.set_cons_succ]
      refine Rh.done (by kernel_rfl) ?_ _
      have t1 := HT.out
      have b1 := HB0.out.drew.off t1.off (by rintro (e | e); exact HNB.out.1 e; exact HNB.out.2.1 e)
      have b2 := HB1.out.drew.off t1.off (by rintro (e | e); exact HNB.out.2.2.1 e; exact HNB.out.2.2.2 e)
      have hrow := t1.inv.root_row hy t1.up
      have hlt : k < (I1 y).length := by rw [← hrow, ← HLN.out]; omega
      have HD := Lib.hid (descend_at t1.mem t1.inv hy t1.up t1.cl (guide_at (top := y) (b1 := w.heap.size) (b2 := w.heap.size + 1) (place := k) ⟨HNB.out.1, HNB.out.2.1⟩ ⟨HNB.out.2.2.1, HNB.out.2.2.2⟩ (by omega)) ⟨b1, k, b2, hlt, [], [], by rw [hrow]; simp, by simp⟩)
      have d1 := b1.1
      clear t1 b1 b2 hrow hlt
      go_wp2_with fail
      refine HD.out.mono ?_
      rintro e w3 ⟨v, rfl, hdn, hE⟩
      obtain rfl := HZ.out.2.2 k v rfl hdn
      have HE := Lib.hid (HEND.out _ w3 _ _ _ _ _ HT.out v hE)
      clear hE hdn
      go_wp2
      go_ret
      exact ⟨rfl, HE.out⟩
end
end Sp
end Go.Proofs.Ytlkigpmjhojceaa
