/-
  Stage 9: contracts of the developers' forest: First, Last, Place, Value, Turn, Steps. No condition (Steps: the bound is a number of 63 bits).
-/
import Derived.Test.YtlkigpmjhojceaaSwa
namespace Go.Proofs.Ytlkigpmjhojceaa
open Go.ChangeShapes Go.WideShapes Go.ChangeAt Go.RowKit
set_option linter.unusedVariables false
set_option linter.unusedSimpArgs false
namespace Sp
open Sv
/-- what the developers' forest holds -/
structure Hd (w : World) (B : Nat) (F : Nat → Prop) (p : Nat) (s : St) (lo hi g c : Nat) (M : Nat → Nd) (I : Nat → List Nat) (P : Nat → Bool) (D : Nat → Int) : Prop where
  mem : SpM w B p g s.v.length M c
  inv : Inv s.v.length (Ne.amt s.v) s.r No M I P D
  good : Good s
  pg : ∀ k, PG p g k → F k
  fin : ∀ k, F k → B ≤ k ∧ k < w.heap.size
  lo : lo ≤ c
  hi : c + 6 * pot I s.v.length ≤ hi
def lg (n : Nat) : Nat := (Num.logF (n : Int)).toNat
section
variable {w w1 w2 w3 : World} {B p lo hi g c : Nat} {F : Nat → Prop} {s : St} {M : Nat → Nd} {I : Nat → List Nat} {P : Nat → Bool} {D : Nat → Int}
theorem SpO.hd (h : SpO w B F p s lo hi) : ∃ g c M I P D, Hd w B F p s lo hi g c M I P D := by
  obtain ⟨g, c, M, I, P, D, h1, h2, h3, h4, h5, h6, h7⟩ := h
  exact ⟨g, c, M, I, P, D, h1, h2, h3, h4, h5, h6, h7⟩
theorem Hd.row (h : Hd w B F p s lo hi g c M I P D) {x : Int} : rowZ s x = [] ↔ ¬ (0 ≤ x ∧ x < (s.v.length : Int)) := by rw [rowZ_nil h.good]; omega
/-- behind a call: the forest may have changed to s2 -/
theorem Hd.to (h : Hd w B F p s lo hi g c M I P D) (hB : B ≤ w.heap.size) {s2 : St} {c2 : Nat} {M2 : Nat → Nd} {I2 : Nat → List Nat} {P2 : Nat → Bool} {D2 : Nat → Int} (hM : SpM w2 B p g s.v.length M2 c2) (ho : Off (PG p g) w w2) (hl : s2.v.length = s.v.length) (hI : Inv s.v.length (Ne.amt s2.v) s2.r No M2 I2 P2 D2) (hG : Good s2) {k : Nat} (h1 : lo + k ≤ c2) (h2 : c2 + 6 * pot I2 s.v.length ≤ c + 6 * pot I s.v.length + 100 * (2 + lg s.v.length)) :
    SpO w2 B (Ext F w w2) p s2 (lo + k) (hi + cst s.v.length) ∧ Off F w w2 := by
  refine ⟨⟨g, c2, M2, I2, P2, D2, by rw [hl]; exact hM, by rw [hl]; exact hI, hG, fun k hk => .inl (h.pg k hk), fun k hk => ?_, h1, ?_⟩, ho.mono h.pg⟩
  · rcases hk with hk | hk
    · have := h.fin k hk; have := ho.size; omega
    · omega
  · rw [hl]
    have := h.hi
    show _ ≤ hi + 100 * (2 + lg s.v.length)
    omega
theorem it_in (h : Hd w B F p s lo hi g c M I P D) {y : Nat} (hy : y < s.v.length) : it s (y : Int) = 1 := by
  unfold it
  rw [if_neg (fun e => by have := h.row.1 e; omega)]
theorem Hd.miss (h : Hd w B F p s lo hi g c M I P D) (hB : B ≤ w.heap.size) {x : Int} (hx : ¬ (0 ≤ x ∧ x < (s.v.length : Int))) : (SpO w B (Ext F w w) p s (lo + it s x) (hi + cst s.v.length) ∧ Off F w w) ∧ rowZ s x = [] := by
  have hr := h.row.2 hx
  have e : it s x = 0 := by unfold it; rw [if_pos hr]
  rw [e]
  exact ⟨h.to hB h.mem (Off.refl _ _) rfl h.inv h.good (k := 0) (by have := h.lo; omega) (by omega), hr⟩
/-- an item brought to the top, or where a way down ended -/
structure Tp (w w1 : World) (B p g n : Nat) (s : St) (c K : Nat) (x : Nat) (c1 : Nat) (M1 : Nat → Nd) (I1 : Nat → List Nat) (P1 : Nat → Bool) (D1 : Nat → Int) : Prop where
  mem : SpM w1 B p g n M1 c1
  off : Off (PG p g) w w1
  inv : Inv n (Ne.amt s.v) s.r No M1 I1 P1 D1
  up : (M1 x).up = none
  cl : Clear M1 P1 D1 x
  lt : x < n
  lo : c < c1
  hi : c1 + 6 * pot I1 n ≤ K + 18 * lg n + 4
theorem tp_of {n top v : Nat} (h : Ended (PG p g) w w1 B p g n (Ne.amt s.v) s.r M I top c v) : ∃ c1 M1 I1 P1 D1, Tp w w1 B p g n s c (c + 6 * pot I n) v c1 M1 I1 P1 D1 ∧ s.r v = s.r top ∧ Sv.Rest n s.r top M M1 := by
  obtain ⟨c1, M1, I1, P1, D1, m1, o1, i1, u1, k1, R1, v1, r1, l1, h1⟩ := h
  have := log_le (i1.len v1) m1.small
  exact ⟨c1, M1, I1, P1, D1, ⟨m1, o1, i1, u1, k1, v1, l1, by unfold lg; omega⟩, r1, R1⟩
theorem Hd.lift (h : Hd w B F p s lo hi g c M I P D) {y : Nat} (hy : y < s.v.length) :
    Calls Try.prog 46 #[.pointer (some ⟨p, 0, none⟩), .int .i64 (y : Int)] w fun e w1 => e = .returned (.bool true) ∧ ∃ c1 M1 I1 P1 D1, Tp w w1 B p g s.v.length s c (c + 6 * pot I s.v.length) y c1 M1 I1 P1 D1 := by
  obtain ⟨k, hk, _⟩ := h.inv.climb hy
  refine (lift_any h.mem h.inv hy hk).mono ?_
  rintro e w1 ⟨rfl, hS⟩
  obtain ⟨c1, M1, I1, P1, D1, h1, _⟩ := tp_of (hS.ended hy)
  exact ⟨rfl, c1, M1, I1, P1, D1, h1⟩
theorem Tp.end {n c0 K x c1 : Nat} {M1 : Nat → Nd} {I1 : Nat → List Nat} {P1 : Nat → Bool} {D1 : Nat → Int} (h : Tp w w1 B p g n s c0 K x c1 M1 I1 P1 D1) (sd : Bool) :
    Calls Try.prog 50 #[.pointer (some ⟨p, 0, none⟩), .int .i64 (x : Int), .int .i64 (sz sd)] w1 fun e w2 => ∃ v : Nat, e = .returned (.int .i64 (v : Int)) ∧ endL sd (s.r x) = some v ∧ ∃ c2 M2 I2 P2 D2, Tp w1 w2 B p g n s c1 (c1 + 6 * pot I1 n) v c2 M2 I2 P2 D2 ∧ s.r v = s.r x ∧ Sv.Rest n s.r x M1 M2 := by
  refine (end_any h.mem h.inv h.lt h.up h.cl sd).mono ?_
  rintro e w2 ⟨v, rfl, hv, hE⟩
  exact ⟨v, rfl, hv, tp_of hE⟩
/-- behind one -/
theorem Hd.one (h : Hd w B F p s lo hi g c M I P D) (hB : B ≤ w.heap.size) {y c1 : Nat} {M1 : Nat → Nd} {I1 : Nat → List Nat} {P1 : Nat → Bool} {D1 : Nat → Int} (t : Tp w w1 B p g s.v.length s c (c + 6 * pot I s.v.length) y c1 M1 I1 P1 D1) : SpO w1 B (Ext F w w1) p s (lo + it s (y : Int)) (hi + cst s.v.length) ∧ Off F w w1 := by
  rw [it_in h t.lt]
  exact h.to hB t.mem t.off rfl t.inv h.good (by have := t.lo; have := h.lo; omega) (by have := t.hi; omega)
/-- behind two -/
theorem Hd.two (h : Hd w B F p s lo hi g c M I P D) (hB : B ≤ w.heap.size) {y v c1 c2 : Nat} {M1 M2 : Nat → Nd} {I1 I2 : Nat → List Nat} {P1 P2 : Nat → Bool} {D1 D2 : Nat → Int} (t : Tp w w1 B p g s.v.length s c (c + 6 * pot I s.v.length) y c1 M1 I1 P1 D1) (t2 : Tp w1 w2 B p g s.v.length s c1 (c1 + 6 * pot I1 s.v.length) v c2 M2 I2 P2 D2) : SpO w2 B (Ext F w w2) p s (lo + it s (y : Int)) (hi + cst s.v.length) ∧ Off F w w2 := by
  rw [it_in h t.lt]
  exact h.to hB t2.mem (off_pg t.off t2.off) rfl t2.inv h.good (by have := t.lo; have := t2.lo; have := h.lo; omega) (by have := t.hi; have := t2.hi; omega)
theorem first_end {s : St} {x : Nat} {v : Nat} (h : endL false (s.r x) = some v) : firstZ s (x : Int) = (v : Int) := by
  unfold firstZ
  rw [rowZ_nat]
  cases e : s.r x with
  | nil => rw [e] at h; simp [endL] at h
  | cons a l => rw [e] at h; simp [endL] at h; try simp [h]
theorem last_end {s : St} {x : Nat} {v : Nat} (h : endL true (s.r x) = some v) : lastZ s (x : Int) = (v : Int) := by
  unfold lastZ
  rw [rowZ_nat]
  simp only [endL, if_true] at h
  rw [h]
set_option maxHeartbeats 1000000 in
theorem dfirst_any (h : SpO w B F p s lo hi) (hBw : B ≤ w.heap.size) (x : Int) :
    Calls Try.prog 24 #[.pointer (some ⟨p, 0, none⟩), .int .i64 x] w fun e w' => e = .returned (.int .i64 (firstZ s x)) ∧ SpO w' B (Ext F w w') p s (lo + it s x) (hi + cst s.v.length) ∧ Off F w w' := by
  obtain ⟨g, c, M, I, P, D, h⟩ := h.hd
  by_cases hx : 0 ≤ x ∧ x < (s.v.length : Int)
  case neg =>
    have hm := h.miss hBw hx
    have HE := Lib.hid hm.1
    have HL := Lib.hid (lift_out h.mem hx)
    have hz : firstZ s x = -1 := by unfold firstZ; simp [hm.2]
    rw [hz]
    clear h hx hm hz
    go_enter Try.func24, Try.ntmps24
    go_wp2_with fail
    refine HL.out.mono ?_
    rintro e w1 ⟨rfl, rfl⟩
    go_wp2
    go_ret
    exact ⟨rfl, HE.out⟩
  obtain ⟨y, rfl⟩ : ∃ y : Nat, x = (y : Int) := ⟨x.toNat, by omega⟩
  have hy : y < s.v.length := by omega
  have hyi : (y : Int) < (s.v.length : Int) := hx.2
  have hy0 : (0 : Int) ≤ (y : Int) := hx.1
  have HL := Lib.hid (h.lift hy)
  have HZ := Lib.hid (fun v (hv : endL false (s.r y) = some v) => first_end hv)
  have HH := Lib.hid (fun w1 w2 c1 M1 I1 P1 D1 v c2 M2 I2 P2 D2 t1 t2 => h.two (w1 := w1) (w2 := w2) hBw (y := y) (v := v) (c1 := c1) (c2 := c2) (M1 := M1) (M2 := M2) (I1 := I1) (I2 := I2) (P1 := P1) (P2 := P2) (D1 := D1) (D2 := D2) t1 t2)
  generalize firstZ s (y : Int) = Z at *
  clear h hx
  go_enter Try.func24, Try.ntmps24
  go_wp2_with fail
  refine HL.out.mono ?_
  rintro e w1 ⟨rfl, c1, M1, I1, P1, D1, t1⟩
  have HT := Lib.hid t1
  have HEN := Lib.hid (t1.end false)
  clear t1
  go_wp2_with fail
  refine HEN.out.mono ?_
  rintro e w2 ⟨v, rfl, hv, c2, M2, I2, P2, D2, t2, _, _⟩
  obtain rfl := HZ.out v hv
  have HE := Lib.hid (HH.out _ _ _ _ _ _ _ _ _ _ _ _ _ HT.out t2)
  clear t2 hv
  go_wp2
  go_ret
  exact ⟨rfl, HE.out⟩
set_option maxHeartbeats 1000000 in
theorem dlast_any (h : SpO w B F p s lo hi) (hBw : B ≤ w.heap.size) (x : Int) :
    Calls Try.prog 26 #[.pointer (some ⟨p, 0, none⟩), .int .i64 x] w fun e w' => e = .returned (.int .i64 (lastZ s x)) ∧ SpO w' B (Ext F w w') p s (lo + it s x) (hi + cst s.v.length) ∧ Off F w w' := by
  obtain ⟨g, c, M, I, P, D, h⟩ := h.hd
  by_cases hx : 0 ≤ x ∧ x < (s.v.length : Int)
  case neg =>
    have hm := h.miss hBw hx
    have HE := Lib.hid hm.1
    have HL := Lib.hid (lift_out h.mem hx)
    have hz : lastZ s x = -1 := by unfold lastZ; simp [hm.2]
    rw [hz]
    clear h hx hm hz
    go_enter Try.func26, Try.ntmps26
    go_wp2_with fail
    refine HL.out.mono ?_
    rintro e w1 ⟨rfl, rfl⟩
    go_wp2
    go_ret
    exact ⟨rfl, HE.out⟩
  obtain ⟨y, rfl⟩ : ∃ y : Nat, x = (y : Int) := ⟨x.toNat, by omega⟩
  have hy : y < s.v.length := by omega
  have hyi : (y : Int) < (s.v.length : Int) := hx.2
  have hy0 : (0 : Int) ≤ (y : Int) := hx.1
  have HL := Lib.hid (h.lift hy)
  have HZ := Lib.hid (fun v (hv : endL true (s.r y) = some v) => last_end hv)
  have HH := Lib.hid (fun w1 w2 c1 M1 I1 P1 D1 v c2 M2 I2 P2 D2 t1 t2 => h.two (w1 := w1) (w2 := w2) hBw (y := y) (v := v) (c1 := c1) (c2 := c2) (M1 := M1) (M2 := M2) (I1 := I1) (I2 := I2) (P1 := P1) (P2 := P2) (D1 := D1) (D2 := D2) t1 t2)
  generalize lastZ s (y : Int) = Z at *
  clear h hx
  go_enter Try.func26, Try.ntmps26
  go_wp2_with fail
  refine HL.out.mono ?_
  rintro e w1 ⟨rfl, c1, M1, I1, P1, D1, t1⟩
  have HT := Lib.hid t1
  have HEN := Lib.hid (t1.end true)
  clear t1
  go_wp2_with fail
  refine HEN.out.mono ?_
  rintro e w2 ⟨v, rfl, hv, c2, M2, I2, P2, D2, t2, _, _⟩
  obtain rfl := HZ.out v hv
  have HE := Lib.hid (HH.out _ _ _ _ _ _ _ _ _ _ _ _ _ HT.out t2)
  clear t2 hv
  go_wp2
  go_ret
  exact ⟨rfl, HE.out⟩
set_option maxHeartbeats 1000000 in
theorem dplace_any (h : SpO w B F p s lo hi) (hBw : B ≤ w.heap.size) (x : Int) :
    Calls Try.prog 20 #[.pointer (some ⟨p, 0, none⟩), .int .i64 x] w fun e w' => e = .returned (.int .i64 (placeZ s x)) ∧ SpO w' B (Ext F w w') p s (lo + it s x) (hi + cst s.v.length) ∧ Off F w w' := by
  obtain ⟨g, c, M, I, P, D, h⟩ := h.hd
  by_cases hx : 0 ≤ x ∧ x < (s.v.length : Int)
  case neg =>
    have hm := h.miss hBw hx
    have HE := Lib.hid hm.1
    have HL := Lib.hid (lift_out h.mem hx)
    have hz : placeZ s x = -1 := by unfold placeZ; rw [if_pos hm.2]
    rw [hz]
    clear h hx hm hz
    go_enter Try.func20, Try.ntmps20
    go_wp2_with fail
    refine HL.out.mono ?_
    rintro e w1 ⟨rfl, rfl⟩
    go_wp2
    go_ret
    exact ⟨rfl, HE.out⟩
  obtain ⟨y, rfl⟩ : ∃ y : Nat, x = (y : Int) := ⟨x.toNat, by omega⟩
  have hy : y < s.v.length := by omega
  have hyi : (y : Int) < (s.v.length : Int) := hx.2
  have hy0 : (0 : Int) ≤ (y : Int) := hx.1
  have HL := Lib.hid (h.lift hy)
  have hrow := h.good.mem y hy
  have HZ := Lib.hid (fun (w1 : World) (c1 : Nat) (M1 : Nat → Nd) (I1 : Nat → List Nat) (P1 : Nat → Bool) (D1 : Nat → Int) (t1 : Tp w w1 B p g s.v.length s c (c + 6 * pot I s.v.length) y c1 M1 I1 P1 D1) => show ((cO M1 0 ((M1 y).b false) : Nat) : Int) = placeZ s (y : Int) from by
    have e1 : cO M1 0 ((M1 y).b false) = (IL I1 ((M1 y).b false)).length := by
      cases e : (M1 y).b false with
      | none => rfl
      | some z => simp only [cO, IL]; rw [t1.inv.cnt z (t1.inv.ch y _ z hy e).1 id]; omega
    have e2 := t1.inv.root_row hy t1.up
    have e3 := t1.inv.spl_clear hy t1.cl false
    simp only [ord] at e3
    have e3' : I1 y = IL I1 ((M1 y).b false) ++ y :: IL I1 ((M1 y).b true) := by simpa using e3
    have hnd := t1.inv.nd y hy
    unfold placeZ
    rw [rowZ_nat, e2, if_neg (by rw [e3']; simp), Int.toNat_natCast, e1]
    rw [e3'] at hnd ⊢
    rw [List.idxOf_append, if_neg (fun c => (List.nodup_append.1 hnd).2.2 y c y (by simp) rfl)]
    simp)
  have HH := Lib.hid (fun w1 c1 M1 I1 P1 D1 t1 => h.one (w1 := w1) hBw (y := y) (c1 := c1) (M1 := M1) (I1 := I1) (P1 := P1) (D1 := D1) t1)
  generalize placeZ s (y : Int) = Z at *
  clear h hx hrow
  go_enter Try.func20, Try.ntmps20
  go_wp2_with fail
  refine HL.out.mono ?_
  rintro e w1 ⟨rfl, c1, M1, I1, P1, D1, t1⟩
  have HE := Lib.hid (HH.out _ _ _ _ _ _ t1)
  have HC := Lib.hid (count_any t1.mem ((M1 y).b false) (fun z hz => (t1.inv.ch y _ z hy hz).1))
  rw [HZ.out _ _ _ _ _ _ t1] at HC
  have n0 := t1.mem.head
  have c5 := t1.mem.cells hy 5 _ rfl
  clear t1 HH HZ
  go_wp2_with fail
  refine HC.out.mono ?_
  rintro e w2 ⟨rfl, rfl⟩
  go_wp2
  go_ret
  exact ⟨rfl, HE.out⟩
set_option maxHeartbeats 1000000 in
theorem dvalue_any (h : SpO w B F p s lo hi) (hBw : B ≤ w.heap.size) (x : Int) :
    Calls Try.prog 18 #[.pointer (some ⟨p, 0, none⟩), .int .i64 x] w fun e w' => e = .returned (.int .i64 (valZ s x)) ∧ SpO w' B (Ext F w w') p s (lo + it s x) (hi + cst s.v.length) ∧ Off F w w' := by
  obtain ⟨g, c, M, I, P, D, h⟩ := h.hd
  by_cases hx : 0 ≤ x ∧ x < (s.v.length : Int)
  case neg =>
    have hm := h.miss hBw hx
    have HE := Lib.hid hm.1
    have HL := Lib.hid (lift_out h.mem hx)
    have hz : valZ s x = 0 := by 
      unfold valZ
      split
      · rfl
      · exact Ne.amt_out (by omega)
    rw [hz]
    clear h hx hm hz
    go_enter Try.func18, Try.ntmps18
    go_wp2_with fail
    refine HL.out.mono ?_
    rintro e w1 ⟨rfl, rfl⟩
    go_wp2
    go_ret
    exact ⟨rfl, HE.out⟩
  obtain ⟨y, rfl⟩ : ∃ y : Nat, x = (y : Int) := ⟨x.toNat, by omega⟩
  have hy : y < s.v.length := by omega
  have hyi : (y : Int) < (s.v.length : Int) := hx.2
  have hy0 : (0 : Int) ≤ (y : Int) := hx.1
  have HL := Lib.hid (h.lift hy)
  have hz : valZ s (y : Int) = Ne.amt s.v y := by unfold valZ; rw [if_neg (by omega)]; simp
  rw [hz]
  have HZ := Lib.hid (fun (w1 : World) (c1 : Nat) (M1 : Nat → Nd) (I1 : Nat → List Nat) (P1 : Nat → Bool) (D1 : Nat → Int) (t1 : Tp w w1 B p g s.v.length s c (c + 6 * pot I s.v.length) y c1 M1 I1 P1 D1) => show (M1 y).v = Ne.amt s.v y from t1.inv.v_at hy t1.cl.2.1)
  have HH := Lib.hid (fun w1 c1 M1 I1 P1 D1 t1 => h.one (w1 := w1) hBw (y := y) (c1 := c1) (M1 := M1) (I1 := I1) (P1 := P1) (D1 := D1) t1)
  generalize Ne.amt s.v y = Z at *
  clear h hx hz
  go_enter Try.func18, Try.ntmps18
  go_wp2_with fail
  refine HL.out.mono ?_
  rintro e w1 ⟨rfl, c1, M1, I1, P1, D1, t1⟩
  have HE := Lib.hid (HH.out _ _ _ _ _ _ t1)
  have n0 := t1.mem.head
  have c5 := t1.mem.cells hy 0 _ rfl
  rw [HZ.out _ _ _ _ _ _ t1] at c5
  simp only [Nat.add_zero] at c5
  clear t1 HH HZ
  go_wp2
  go_ret
  exact ⟨rfl, HE.out⟩
set_option maxHeartbeats 1000000 in
theorem dsteps_any (h : SpO w B F p s lo hi) (hh : hi ≤ 9223372036854775807) :
    Calls Try.prog 34 #[.pointer (some ⟨p, 0, none⟩)] w fun e w' => ∃ c : Nat, e = .returned (.int .i64 (c : Int)) ∧ lo ≤ c ∧ c ≤ hi ∧ w = w' := by
  obtain ⟨g, c, M, I, P, D, h⟩ := h.hd
  have n1 := h.mem.cnt
  rw [wr_id (by have := h.hi; omega)] at n1
  have h1 := h.lo
  have h2 : c ≤ hi := by have := h.hi; omega
  have HB := Lib.hid (And.intro h1 h2)
  clear h h1 h2 hh
  go_enter Try.func34, Try.ntmps34
  go_wp2
  go_ret
  exact ⟨c, rfl, HB.out.1, HB.out.2, rfl⟩
end
end Sp
end Go.Proofs.Ytlkigpmjhojceaa
