/-
  Stage 9: contracts of the document's forest: where an item's row is, its row, first, last, place, value, the least one. Condition: fewer than a million rows.
-/
import Derived.Test.YtlkigpmjhojceaaSpo
import Derived.Deep.LoopGhost
import Derived.Deep.DeepCutAuto
import Derived.WalkMore
import Derived.Deep.QuietTactic
import Derived.BigQuiet
namespace Go.Proofs.Ytlkigpmjhojceaa
open Go.ChangeShapes Go.WideShapes Go.ChangeAt Go.RowKit
set_option linter.unusedVariables false
set_option linter.unusedSimpArgs false
namespace Sp
section
variable {w : World} {B p : Nat} {vv rv : Value} {Ks : List RowC} {RS : List (List Nat)} {s : St}
set_option maxRecDepth 100000 in
set_option maxHeartbeats 4000000 in
theorem rat_any (h : RefO w B p vv rv Ks RS s) (hn : RS.length ≤ 1000000) {x i0 : Int} (hA : IsAt RS s x i0) :
    Calls Try.prog 45 #[.pointer (some ⟨p, 0, none⟩), .int .i64 x] w fun e w' => e = .returned (.int .i64 i0) ∧ w = w' := by
  obtain ⟨o, c, hv, hc, hrow⟩ := h.row
  subst hv
  obtain ⟨n0, n1⟩ := fblk_cells h.blk
  have HROW := Lib.hid hrow
  have HHIT := Lib.hid (fun j l hl y hy hx => at_hit h.rep hA (j := j) (l := l) hl (y := y) hy hx)
  have HMIS := Lib.hid (fun hno => at_miss h.rep hA hno)
  have HLEN := Lib.hid (fun (j : Nat) (l : List Nat) (hl : RS[j]? = some l) => show l.length ≤ 3000 from by
    by_cases e : l = []
    · rw [e]; simp
    · obtain ⟨y, r, rfl⟩ : ∃ y r, l = y :: r := by rcases l with _ | ⟨y, r⟩ <;> simp_all
      have h1 := h.rep.of j _ hl y (by simp)
      have h2 := h.rep.good.len y
      rw [h1] at h2
      have := h.rep.good.small
      omega)
  clear hrow hc h hA
  obtain ⟨n, hnn⟩ : ∃ n, n = RS.length := ⟨_, rfl⟩
  rw [← hnn] at n1 hn
  have HNN := Lib.hid hnn
  clear hnn n0
  go_enter Try.func45, Try.ntmps45
  go_wp2
  go_loopg [5, 6] n (fun g si sk wr => ∃ i : Nat, si = .int .i64 i ∧ i + g = n ∧ w = wr ∧ Hid (∀ (j : Nat) (l : List Nat), j < i → RS[j]? = some l → ∀ y ∈ l, (y : Int) ≠ x))
  case atStart => exact ⟨0, rfl, by omega, rfl, Lib.hid (fun j l h => absurd h (by omega))⟩
  case round =>
    obtain ⟨i, rfl, hig, rfl, HNO⟩ := hrel
    by_cases hlt : i < n
    · have hii : (i : Int) < (n : Int) := by omega
      have hi0 : (0 : Int) ≤ (i : Int) := by omega
      obtain ⟨l, hl⟩ : ∃ l, RS[i]? = some l := ⟨_, List.getElem?_eq_getElem (by rw [← HNN.out]; exact hlt)⟩
      obtain ⟨g, k, rfl, hg, hk, hkl, c0, hown⟩ := HROW.out i l hl
      have HL := Lib.hid hl
      have HIR := Lib.hid (Ne.own_irow hown)
      have hll := HLEN.out i l hl
      obtain ⟨m, hm⟩ : ∃ m, m = l.length := ⟨_, rfl⟩
      rw [← hm] at c0 hll
      have HM := Lib.hid hm
      generalize k.o = ko at *
      generalize k.cap = kc at *
      clear hl hk hkl hown hm
      go_wp2
      go_loopg [6] m (fun g2 sk wy => ∃ j : Nat, sk = .int .i64 j ∧ j + g2 = m ∧ w = wy ∧ Hid (∀ y ∈ l.take j, (y : Int) ≠ x))
      case atStart => exact ⟨0, rfl, by omega, rfl, Lib.hid (by simp)⟩
      case round =>
        obtain ⟨j, rfl, hjg, rfl, HNJ⟩ := hrel
        by_cases hj : j < m
        · have hji : (j : Int) < (m : Int) := by omega
          have hj0 : (0 : Int) ≤ (j : Int) := by omega
          obtain ⟨b, off, rfl, hb, d0⟩ := Ne.irow_cell HIR.out (i := j) (by rw [Ne.encW_len, ← HM.out]; exact hj)
          rw [Ne.encW_at (by rw [← HM.out]; exact hj)] at d0
          have hy : l[j]? = some (l.getD j 0) := by rw [List.getD_eq_getElem?_getD, List.getElem?_eq_getElem (by rw [← HM.out]; exact hj)]; rfl
          generalize l.getD j 0 = y at *
          have HY := Lib.hid hy
          clear hy
          by_cases c : (y : Int) = x
          · have c' : ((y : Int) == x) = true := by simpa using c
            have hres := HHIT.out i l HL.out y (List.mem_of_getElem? HY.out) c
            clear c
            go_wp2
            go_ret
            exact ⟨Ne.retI hres.symm, rfl⟩
          · have c' : ((y : Int) == x) = false := by simpa using c
            have HNJ2 := Lib.hid (show ∀ z ∈ l.take (j + 1), (z : Int) ≠ x from by
              intro z hz
              rw [List.take_add_one, HY.out] at hz
              rcases List.mem_append.1 hz with h1 | h1
              · exact HNJ.out z h1
              · simp at h1; subst h1; exact c)
            clear c
            go_wp2
            go_roundg (m - (j + 1))
            case measure => omega
            case rel => exact ⟨j + 1, by go_num, by omega, rfl, HNJ2⟩
        · have hji : ¬ (j : Int) < (m : Int) := by omega
          have HNO2 := Lib.hid (show ∀ (j' : Nat) (l' : List Nat), j' < i + 1 → RS[j']? = some l' → ∀ y ∈ l', (y : Int) ≠ x from by
            intro j' l' h1 h2 y hy
            by_cases e : j' = i
            · subst e
              rw [HL.out] at h2; cases h2
              exact HNJ.out y (by rw [List.take_of_length_le (by rw [← HM.out]; omega)]; exact hy)
            · exact HNO.out j' l' (by omega) h2 y hy)
          go_wp2
          go_roundg (n - (i + 1))
          case measure => omega
          case rel => exact ⟨i + 1, by go_num, by omega, rfl, HNO2⟩
    · have hii : ¬ (i : Int) < (n : Int) := by omega
      have hres := HMIS.out fun j l hl y hy => HNO.out j l (by have := (List.getElem?_eq_some_iff.1 hl).1; have := HNN.out; omega) hl y hy
      go_wp2
      go_ret
      exact ⟨rfl, rfl⟩
/-- a row of items, as a slice -/
def RowV (w : World) (v : Value) (l : List Nat) : Prop := ∃ o c, v = .slice o l.length c ∧ Ne.IRow w o (Ne.encW l)
set_option maxRecDepth 100000 in
set_option maxHeartbeats 4000000 in
theorem rrow_own (h : RefO w B p vv rv Ks RS s) (hn : RS.length ≤ 1000000) (x : Int) :
    Calls Try.prog 17 #[.pointer (some ⟨p, 0, none⟩), .int .i64 x] w fun e w' => ∃ o c, e = .returned (.slice o (rowZ s x).length c) ∧ Ne.OwnI w B (.slice o (rowZ s x).length c) (Ne.encW (rowZ s x)) ∧ w = w' := by
  obtain ⟨i0, hA⟩ := at_exists h.rep x
  have AT := Lib.hid (rat_any h hn hA)
  obtain ⟨o, c, hv, hc, hrow⟩ := h.row
  subst hv
  obtain ⟨n0, n1⟩ := fblk_cells h.blk
  rcases hA with ⟨h1, rfl⟩ | ⟨h1, j, rfl, h2⟩
  · rw [h1]
    clear hrow h
    go_enter Try.func17, Try.ntmps17
    go_wp2_with fail
    refine AT.out.mono ?_
    rintro e w1 ⟨rfl, rfl⟩
    go_wp2
    go_ret
    exact ⟨none, 0, rfl, Rw.own_nil _ _, rfl⟩
  · have hj := (List.getElem?_eq_some_iff.1 h2).1
    obtain ⟨g, k, rfl, hg, hk, hkl, c0, hown⟩ := hrow j _ h2
    have HIR := Lib.hid hown
    have hji : (j : Int) < (RS.length : Int) := by omega
    have hj0 : (0 : Int) ≤ (j : Int) := by omega
    generalize rowZ s x = l at *
    generalize k.o = ko at *
    generalize k.cap = kc at *
    clear hrow h hown hk hkl h1 h2
    have hjn : ¬ (j : Int) < 0 := by omega
    go_enter Try.func17, Try.ntmps17
    go_wp2_with fail
    refine AT.out.mono ?_
    rintro e w1 ⟨rfl, rfl⟩
    go_wp2
    go_ret
    exact ⟨_, _, rfl, HIR.out, rfl⟩
theorem rrow_any (h : RefO w B p vv rv Ks RS s) (hn : RS.length ≤ 1000000) (x : Int) :
    Calls Try.prog 17 #[.pointer (some ⟨p, 0, none⟩), .int .i64 x] w fun e w' => ∃ o c, e = .returned (.slice o (rowZ s x).length c) ∧ Ne.IRow w o (Ne.encW (rowZ s x)) ∧ w = w' := by
  refine (rrow_own h hn x).mono ?_
  rintro e w' ⟨o, c, rfl, h1, rfl⟩
  exact ⟨o, c, rfl, Ne.own_irow h1, rfl⟩
theorem first_nil {s : St} {x : Int} (h : rowZ s x = []) : firstZ s x = -1 := by unfold firstZ; rw [h]
theorem first_cons {s : St} {x : Int} {a : Nat} {l : List Nat} (h : rowZ s x = a :: l) : firstZ s x = (a : Int) := by unfold firstZ; rw [h]
theorem last_nil {s : St} {x : Int} (h : rowZ s x = []) : lastZ s x = -1 := by unfold lastZ; rw [h]; rfl
theorem last_at {s : St} {x : Int} (h : 0 < (rowZ s x).length) : lastZ s x = (((rowZ s x).getD ((rowZ s x).length - 1) 0 : Nat) : Int) := by
  unfold lastZ
  rw [List.getLast?_eq_getElem?, List.getElem?_eq_getElem (by omega), List.getD_eq_getElem?_getD, List.getElem?_eq_getElem (by omega)]
  rfl
set_option maxRecDepth 100000 in
set_option maxHeartbeats 4000000 in
theorem rfirst_any (h : RefO w B p vv rv Ks RS s) (hn : RS.length ≤ 1000000) (x : Int) :
    Calls Try.prog 25 #[.pointer (some ⟨p, 0, none⟩), .int .i64 x] w fun e w' => e = .returned (.int .i64 (firstZ s x)) ∧ w = w' := by
  have RW := Lib.hid (rrow_any h hn x)
  by_cases c : rowZ s x = []
  · rw [first_nil c]
    rw [c] at RW
    clear h
    go_enter Try.func25, Try.ntmps25
    go_wp2_with fail
    refine RW.out.mono ?_
    rintro e w1 ⟨o, cc, rfl, _, rfl⟩
    go_wp2
    go_ret
    exact ⟨rfl, rfl⟩
  · obtain ⟨a, l, hal⟩ : ∃ a l, rowZ s x = a :: l := by
      rcases hr : rowZ s x with _ | ⟨a, l⟩
      · exact absurd hr c
      · exact ⟨a, l, rfl⟩
    rw [first_cons hal]
    obtain ⟨m, hm⟩ : ∃ m, m = (a :: l).length := ⟨_, rfl⟩
    have hm0 : 0 < m := by rw [hm]; simp
    rw [hal, ← hm] at RW
    have HA := Lib.hid (show ∀ (w' : World) o, Ne.IRow w' o (Ne.encW (a :: l)) → ∃ b off, o = some ⟨b, off, none⟩ ∧ w'.cell? ⟨b, off, none⟩ = some (.int .i64 (a : Int)) from fun w' o hi => by
      obtain ⟨b, off, e, _, hc⟩ := Ne.irow_cell hi (i := 0) (by rw [Ne.encW_len]; simp)
      exact ⟨b, off, e, by simpa [Ne.encW_at] using hc⟩)
    have z1 : ((m : Int) == 0) = false := by simp; omega
    have z2 : (m == 0) = false := by simp; omega
    have z3 : (0 : Int) < (m : Int) := by omega
    clear h c hm hal
    go_enter Try.func25, Try.ntmps25
    go_wp2_with fail
    refine RW.out.mono ?_
    rintro e w1 ⟨o, cc, rfl, hi, rfl⟩
    obtain ⟨b, off, rfl, d0⟩ := HA.out _ _ hi
    clear hi
    go_wp2
    go_ret
    exact ⟨rfl, rfl⟩
set_option maxRecDepth 100000 in
set_option maxHeartbeats 4000000 in
theorem rlast_any (h : RefO w B p vv rv Ks RS s) (hn : RS.length ≤ 1000000) (x : Int) :
    Calls Try.prog 27 #[.pointer (some ⟨p, 0, none⟩), .int .i64 x] w fun e w' => e = .returned (.int .i64 (lastZ s x)) ∧ w = w' := by
  have RW := Lib.hid (rrow_any h hn x)
  by_cases c : rowZ s x = []
  · rw [last_nil c]
    rw [c] at RW
    clear h
    go_enter Try.func27, Try.ntmps27
    go_wp2_with fail
    refine RW.out.mono ?_
    rintro e w1 ⟨o, cc, rfl, _, rfl⟩
    go_wp2
    go_ret
    exact ⟨rfl, rfl⟩
  · have hm0 : 0 < (rowZ s x).length := Nat.pos_of_ne_zero fun e => c (List.length_eq_zero_iff.1 e)
    rw [last_at hm0]
    have hll : (rowZ s x).length ≤ 3000 := Nat.le_trans (rowZ_len h.rep.good x) h.rep.good.small
    generalize rowZ s x = l at *
    obtain ⟨m, hm⟩ : ∃ m, m + 1 = l.length := ⟨l.length - 1, by omega⟩
    rw [← hm] at RW hll ⊢
    have HA := Lib.hid (show ∀ (w' : World) o, Ne.IRow w' o (Ne.encW l) → ∃ b off, o = some ⟨b, off, none⟩ ∧ w'.cell? ⟨b, off + m, none⟩ = some (.int .i64 ((l.getD m 0 : Nat) : Int)) from fun w' o hi => by
      obtain ⟨b, off, e, _, hc⟩ := Ne.irow_cell hi (i := m) (by rw [Ne.encW_len]; omega)
      exact ⟨b, off, e, by rw [Ne.encW_at (by omega)] at hc; exact hc⟩)
    obtain ⟨M, hM⟩ : ∃ M, M = m + 1 := ⟨_, rfl⟩
    rw [← hM] at RW ⊢
    have e1 : M - 1 = m := by omega
    rw [e1]
    have z1 : ((M : Int) == 0) = false := by simp; omega
    have z2 : (M == 0) = false := by simp; omega
    have z3 : (m : Int) < (M : Int) := by omega
    have z4 : (0 : Int) ≤ (m : Int) := by omega
    have z5 : IntKind.i64.wrap ((M : Int) - 1) = (m : Int) := by rw [IntKind.wrap_i64]; omega
    generalize l.getD m 0 = a at *
    have HRW := Lib.hid RW.out
    clear h c hm hm0 e1 hM hll
    go_enter Try.func27, Try.ntmps27
    go_wp2_with fail
    refine RW.out.mono ?_
    rintro e w1 ⟨o, cc, rfl, hi, rfl⟩
    obtain ⟨b, off, rfl, d0⟩ := HA.out _ _ hi
    clear hi
    go_wp2
    go_ret
    exact ⟨rfl, rfl⟩
theorem atL_neg {l : List Nat} {q : Int} (h : q < 0) : atL l q = -1 := by unfold atL; rw [if_pos h]
theorem atL_far {l : List Nat} {q : Int} (h : (l.length : Int) ≤ q) : atL l q = -1 := by
  unfold atL
  rw [if_neg (by omega), List.getElem?_eq_none (by omega)]
theorem atL_at {l : List Nat} {k : Nat} (h : k < l.length) : atL l (k : Int) = ((l.getD k 0 : Nat) : Int) := by
  unfold atL
  rw [if_neg (by omega), Int.toNat_natCast, List.getD_eq_getElem?_getD, List.getElem?_eq_getElem h]
  rfl
set_option maxRecDepth 100000 in
set_option maxHeartbeats 4000000 in
theorem rAt_any (h : RefO w B p vv rv Ks RS s) (hn : RS.length ≤ 1000000) (x q : Int) :
    Calls Try.prog 29 #[.pointer (some ⟨p, 0, none⟩), .int .i64 x, .int .i64 q] w fun e w' => e = .returned (.int .i64 (atZ s x q)) ∧ w = w' := by
  have RW := Lib.hid (rrow_any h hn x)
  unfold atZ
  generalize rowZ s x = l at *
  clear h
  by_cases c1 : q < 0
  · rw [atL_neg c1]
    go_enter Try.func29, Try.ntmps29
    go_wp2_with fail
    refine RW.out.mono ?_
    rintro e w1 ⟨o, cc, rfl, _, rfl⟩
    go_wp2
    go_ret
    exact ⟨rfl, rfl⟩
  · by_cases c2 : (l.length : Int) ≤ q
    · rw [atL_far c2]
      go_enter Try.func29, Try.ntmps29
      go_wp2_with fail
      refine RW.out.mono ?_
      rintro e w1 ⟨o, cc, rfl, _, rfl⟩
      go_wp2
      go_ret
      exact ⟨rfl, rfl⟩
    · obtain ⟨k, rfl⟩ : ∃ k : Nat, q = (k : Int) := ⟨q.toNat, by omega⟩
      have hk : k < l.length := by omega
      rw [atL_at hk]
      have HA := Lib.hid (show ∀ (w' : World) o, Ne.IRow w' o (Ne.encW l) → ∃ b off, o = some ⟨b, off, none⟩ ∧ w'.cell? ⟨b, off + k, none⟩ = some (.int .i64 ((l.getD k 0 : Nat) : Int)) from fun w' o hi => by
        obtain ⟨b, off, e, _, hc⟩ := Ne.irow_cell hi (i := k) (by rw [Ne.encW_len]; omega)
        exact ⟨b, off, e, by rw [Ne.encW_at (by omega)] at hc; exact hc⟩)
      generalize l.getD k 0 = a at *
      obtain ⟨M, hM⟩ : ∃ M, M = l.length := ⟨_, rfl⟩
      rw [← hM] at RW c2 hk
      clear hM
      have z3 : (k : Int) < (M : Int) := by omega
      have z4 : (0 : Int) ≤ (k : Int) := by omega
      go_enter Try.func29, Try.ntmps29
      go_wp2_with fail
      refine RW.out.mono ?_
      rintro e w1 ⟨o, cc, rfl, hi, rfl⟩
      obtain ⟨b, off, rfl, d0⟩ := HA.out _ _ hi
      clear hi c1 c2
      go_wp2
      go_ret
      exact ⟨rfl, rfl⟩
theorem idxOf_of {l : List Nat} {x k : Nat} (hk : l[k]? = some x) (hno : x ∉ l.take k) : l.idxOf x = k := by
  induction l generalizing k with
  | nil => simp at hk
  | cons a l ih =>
    rcases k with _ | k
    · simp at hk; subst hk; simp
    · simp at hk hno
      rw [List.idxOf_cons, show (a == x) = false by simp; exact fun e => hno.1 e.symm]
      simp only [cond_false, Bool.false_eq_true, if_false]
      rw [ih hk hno.2]
set_option maxRecDepth 100000 in
set_option maxHeartbeats 4000000 in
theorem rplace_any (h : RefO w B p vv rv Ks RS s) (hn : RS.length ≤ 1000000) (x : Int) :
    Calls Try.prog 21 #[.pointer (some ⟨p, 0, none⟩), .int .i64 x] w fun e w' => e = .returned (.int .i64 (placeZ s x)) ∧ w = w' := by
  have RW := Lib.hid (rrow_any h hn x)
  have hll : (rowZ s x).length ≤ 3000 := Nat.le_trans (rowZ_len h.rep.good x) h.rep.good.small
  have HEND := Lib.hid (show (∀ y ∈ rowZ s x, (y : Int) ≠ x) → placeZ s x = -1 from fun hno => by
    unfold placeZ
    by_cases c : rowZ s x = []
    · rw [if_pos c]
    · obtain ⟨h1, h2, _⟩ := rowZ_self h.rep.good c
      exact absurd (by omega) (hno _ h1))
  have HHIT := Lib.hid (show ∀ (k y : Nat), (rowZ s x)[k]? = some y → (y : Int) = x → (∀ z ∈ (rowZ s x).take k, (z : Int) ≠ x) → placeZ s x = (k : Int) from fun k y hy hx hno => by
    unfold placeZ
    have hne : rowZ s x ≠ [] := fun e => by rw [e] at hy; simp at hy
    rw [if_neg hne, show x.toNat = y by omega, idxOf_of hy fun c => hno y c hx])
  generalize placeZ s x = r at *
  generalize rowZ s x = l at *
  clear h
  obtain ⟨m, hm⟩ : ∃ m, m = l.length := ⟨_, rfl⟩
  rw [← hm] at RW hll
  have HM := Lib.hid hm
  clear hm
  go_enter Try.func21, Try.ntmps21
  go_wp2_with fail
  refine RW.out.mono ?_
  rintro e w1 ⟨o, cc, rfl, hi, rfl⟩
  have HIR := Lib.hid hi
  clear hi
  go_wp2
  go_loopg [6] m (fun g2 sk wy => ∃ j : Nat, sk = .int .i64 j ∧ j + g2 = m ∧ w = wy ∧ Hid (∀ y ∈ l.take j, (y : Int) ≠ x))
  case atStart => exact ⟨0, rfl, by omega, rfl, Lib.hid (by simp)⟩
  case round =>
    obtain ⟨j, rfl, hjg, rfl, HNJ⟩ := hrel
    by_cases hj : j < m
    · have hji : (j : Int) < (m : Int) := by omega
      have hj0 : (0 : Int) ≤ (j : Int) := by omega
      obtain ⟨b, off, rfl, hb, d0⟩ := Ne.irow_cell HIR.out (i := j) (by rw [Ne.encW_len, ← HM.out]; exact hj)
      rw [Ne.encW_at (by rw [← HM.out]; exact hj)] at d0
      have hy : l[j]? = some (l.getD j 0) := by rw [List.getD_eq_getElem?_getD, List.getElem?_eq_getElem (by rw [← HM.out]; exact hj)]; rfl
      generalize l.getD j 0 = y at *
      have HY := Lib.hid hy
      clear hy
      by_cases c : (y : Int) = x
      · have c' : ((y : Int) == x) = true := by simpa using c
        have hres := HHIT.out j y HY.out c HNJ.out
        clear c
        go_wp2
        go_ret
        exact ⟨Ne.retI hres.symm, rfl⟩
      · have c' : ((y : Int) == x) = false := by simpa using c
        have HNJ2 := Lib.hid (show ∀ z ∈ l.take (j + 1), (z : Int) ≠ x from by
          intro z hz
          rw [List.take_add_one, HY.out] at hz
          rcases List.mem_append.1 hz with h1 | h1
          · exact HNJ.out z h1
          · simp at h1; subst h1; exact c)
        clear c
        go_wp2
        go_roundg (m - (j + 1))
        case measure => omega
        case rel => exact ⟨j + 1, by go_num, by omega, rfl, HNJ2⟩
    · have hji : ¬ (j : Int) < (m : Int) := by omega
      have hres := HEND.out fun y hy => HNJ.out y (by rw [List.take_of_length_le (by rw [← HM.out]; omega)]; exact hy)
      go_wp2
      go_ret
      exact ⟨rfl, rfl⟩
theorem val_out {s : St} (h : Good s) {x : Int} (hx : x < 0 ∨ (s.v.length : Int) ≤ x) : valZ s x = 0 := by
  unfold valZ
  split
  · rfl
  · exact Ne.amt_out (by omega)
set_option maxRecDepth 100000 in
set_option maxHeartbeats 4000000 in
theorem rvalue_any (h : RefO w B p vv rv Ks RS s) (x : Int) :
    Calls Try.prog 19 #[.pointer (some ⟨p, 0, none⟩), .int .i64 x] w fun e w' => e = .returned (.int .i64 (valZ s x)) ∧ w = w' := by
  obtain ⟨o, c, hv, hc, _⟩ := Rw.own_row Ne.encI_len h.vals
  subst hv
  obtain ⟨n0, n1⟩ := fblk_cells h.blk
  by_cases c1 : x < 0
  · rw [val_out h.rep.good (.inl c1)]
    have c1' : decide (x < 0) = true := by simpa using c1
    clear h hc
    go_enter Try.func19, Try.ntmps19
    go_wp2
    go_ret
    exact ⟨rfl, rfl⟩
  · have c1' : decide (x < 0) = false := by simpa using c1
    by_cases c2 : (s.v.length : Int) ≤ x
    · rw [val_out h.rep.good (.inr c2)]
      clear h hc
      go_enter Try.func19, Try.ntmps19
      go_wp2
      go_ret
      exact ⟨rfl, rfl⟩
    · obtain ⟨k, rfl⟩ : ∃ k : Nat, x = (k : Int) := ⟨x.toNat, by omega⟩
      have hk : k < s.v.length := by omega
      have e : valZ s (k : Int) = Ne.amt s.v k := by unfold valZ; rw [if_neg (by omega)]; simp
      rw [e]
      have hvr := Ne.own_irow h.vals
      obtain ⟨b, off, rfl, hb, d0⟩ := Ne.irow_cell hvr (i := k) hk
      generalize Ne.amt s.v k = a at *
      generalize s.v.length = M at *
      have z3 : (k : Int) < (M : Int) := by omega
      have z4 : (0 : Int) ≤ (k : Int) := by omega
      clear h hc e hvr
      go_enter Try.func19, Try.ntmps19
      go_wp2
      go_ret
      exact ⟨rfl, rfl⟩
theorem rfits_any (v d : Int) (w : World) (hv : -9223372036854775808 ≤ v ∧ v ≤ 9223372036854775807) (hd : -9223372036854775808 ≤ d ∧ d ≤ 9223372036854775807) :
    Calls Try.prog 59 #[.int .i64 v, .int .i64 d] w fun e w' => e = .returned (.bool (fits v d)) ∧ w = w' := by
  by_cases c : 0 ≤ d
  · have e : fits v d = decide (v ≤ 4611686018427387904 - d) := by unfold fits; rw [if_pos c]
    have e2 : IntKind.i64.wrap (4611686018427387904 - d) = 4611686018427387904 - d := by rw [IntKind.wrap_i64]; omega
    have HE := Lib.hid e
    clear e
    go_enter Try.func59, Try.ntmps59
    go_wp2
    go_ret
    exact ⟨Ne.retB HE.out.symm, rfl⟩
  · have e : fits v d = decide (-4611686018427387904 - d ≤ v) := by unfold fits; rw [if_neg c]
    have e2 : IntKind.i64.wrap (-4611686018427387904 - d) = -4611686018427387904 - d := by rw [IntKind.wrap_i64]; omega
    have HE := Lib.hid e
    clear e
    go_enter Try.func59, Try.ntmps59
    go_wp2
    go_ret
    exact ⟨Ne.retB HE.out.symm, rfl⟩
theorem rwithin_any (v : Int) (w : World) :
    Calls Try.prog 38 #[.int .i64 v] w fun e w' => e = .returned (.bool (decide (-4611686018427387904 ≤ v ∧ v ≤ 4611686018427387904))) ∧ w = w' := by
  by_cases c : -4611686018427387904 ≤ v
  · have c' : decide (-4611686018427387904 ≤ v) = true := by simpa using c
    have HE := Lib.hid (show decide (-4611686018427387904 ≤ v ∧ v ≤ 4611686018427387904) = decide (v ≤ 4611686018427387904) by simp [c])
    clear c
    go_enter Try.func38, Try.ntmps38
    go_wp2
    go_ret
    exact ⟨Ne.retB HE.out.symm, rfl⟩
  · have c' : decide (-4611686018427387904 ≤ v) = false := by simpa using c
    have HE := Lib.hid (show decide (-4611686018427387904 ≤ v ∧ v ≤ 4611686018427387904) = false by simp [c])
    clear c
    go_enter Try.func38, Try.ntmps38
    go_wp2
    go_ret
    exact ⟨Ne.retB HE.out.symm, rfl⟩
theorem leastL_snoc (v : List Int) (l : List Nat) (i : Nat) : leastL v (l ++ [i]) = if leastL v l < 0 ∨ Ne.amt v i < Ne.amt v (leastL v l).toNat then (i : Int) else leastL v l := by
  unfold leastL; rw [List.foldl_append]; rfl
theorem fold_in (v : List Int) (S : Nat → Prop) : ∀ (l : List Nat) (b : Int), (∀ y ∈ l, S y) → (b = -1 ∨ (0 ≤ b ∧ S b.toNat)) →
    (l.foldl (fun (b : Int) i => if b < 0 ∨ Ne.amt v i < Ne.amt v b.toNat then (i : Int) else b) b = -1 ∧ b = -1 ∧ l = []) ∨
    (0 ≤ l.foldl (fun (b : Int) i => if b < 0 ∨ Ne.amt v i < Ne.amt v b.toNat then (i : Int) else b) b ∧ S (l.foldl (fun (b : Int) i => if b < 0 ∨ Ne.amt v i < Ne.amt v b.toNat then (i : Int) else b) b).toNat)
  | [], b, _, h => by
    rcases h with h | h
    · exact .inl ⟨h, h, rfl⟩
    · exact .inr h
  | a :: l, b, hl, h => by
    have hb : 0 ≤ (if b < 0 ∨ Ne.amt v a < Ne.amt v b.toNat then (a : Int) else b) ∧ S (if b < 0 ∨ Ne.amt v a < Ne.amt v b.toNat then (a : Int) else b).toNat := by
      split
      · exact ⟨by omega, by simpa using hl a (by simp)⟩
      · rename_i c
        rcases h with h | h
        · exact absurd (.inl (by omega)) c
        · exact h
    rcases fold_in v S l _ (fun y hy => hl y (List.mem_cons_of_mem _ hy)) (.inr hb) with ⟨_, h2, _⟩ | h2
    · have := hb.1; omega
    · exact .inr h2
theorem leastL_in (v : List Int) {n : Nat} (l : List Nat) (hl : ∀ y ∈ l, y < n) : (leastL v l = -1 ∧ l = []) ∨ (0 ≤ leastL v l ∧ (leastL v l).toNat ∈ l) := by
  rcases fold_in v (· ∈ l) l (-1) (fun y hy => hy) (.inl rfl) with ⟨h1, _, h2⟩ | h
  · exact .inl ⟨h1, h2⟩
  · exact .inr h
set_option maxRecDepth 100000 in
set_option maxHeartbeats 4000000 in
theorem rleast_any (h : RefO w B p vv rv Ks RS s) (hn : RS.length ≤ 1000000) (x : Int) :
    Calls Try.prog 23 #[.pointer (some ⟨p, 0, none⟩), .int .i64 x] w fun e w' => e = .returned (.int .i64 (leastZ s x)) ∧ Below w.heap.size w w' := by
  have RW := Lib.hid (rrow_any h hn x)
  have hll : (rowZ s x).length ≤ 3000 := Nat.le_trans (rowZ_len h.rep.good x) h.rep.good.small
  have HLT := Lib.hid (show ∀ y ∈ rowZ s x, y < s.v.length from fun y hy => rowZ_lt h.rep.good hy)
  obtain ⟨o, c, hv, hc, _⟩ := Rw.own_row Ne.encI_len h.vals
  have hvr := h.vals
  subst hv
  have HVR := Lib.hid (Ne.own_irow hvr)
  obtain ⟨n0, n1⟩ := fblk_cells h.blk
  have HN0 := Lib.hid n0
  have HRV := Lib.hid (fun l => leastL_in s.v (n := s.v.length) l)
  unfold leastZ
  generalize rowZ s x = l at *
  clear h hvr hc n1 n0
  obtain ⟨m, hm⟩ : ∃ m, m = l.length := ⟨_, rfl⟩
  rw [← hm] at RW hll
  have HM := Lib.hid hm
  clear hm
  generalize s.v = vs at *
  obtain ⟨nv, hnv⟩ : ∃ nv, nv = vs.length := ⟨_, rfl⟩
  rw [← hnv] at HN0 HLT HRV
  have HNV := Lib.hid hnv
  clear hnv
  go_enter Try.func23, Try.ntmps23
  go_wp2_with fail
  refine RW.out.mono ?_
  rintro e w1 ⟨o2, cc, rfl, hi, rfl⟩
  have HIR := Lib.hid hi
  clear hi
  go_wp2
  go_loopg [6, 7] m (fun g2 sb sk wy => ∃ (j : Nat) (b : Int), sk = .int .i64 j ∧ sb = .int .i64 b ∧ j + g2 = m ∧ Hid (b = leastL vs (l.take j)) ∧ Hid (Below w.heap.size w wy))
  case atStart => exact ⟨0, -1, rfl, rfl, by omega, Lib.hid (by simp [leastL]), Lib.hid (Below.refl _ _)⟩
  case round =>
    obtain ⟨j, b, rfl, rfl, hjg, HLB, HBW⟩ := hrel
    by_cases hj : j < m
    · have hji : (j : Int) < (m : Int) := by omega
      have hj0 : (0 : Int) ≤ (j : Int) := by omega
      have hjl : j < l.length := by rw [← HM.out]; exact hj
      have hy : l[j]? = some (l.getD j 0) := by rw [List.getD_eq_getElem?_getD, List.getElem?_eq_getElem hjl]; rfl
      obtain ⟨bl, ol, rfl, hbl, d0⟩ := Ne.irow_cell (HIR.out.kept HBW.out) (i := j) (by rw [Ne.encW_len]; exact hjl)
      rw [Ne.encW_at hjl] at d0
      generalize l.getD j 0 = y at *
      have hyn := HLT.out y (List.mem_of_getElem? hy)
      obtain ⟨bv, ov, rfl, hbv, d1⟩ := Ne.irow_cell (HVR.out.kept HBW.out) (i := y) (by rw [← HNV.out]; exact hyn)
      have n0 := (HBW.out.cell (p := ⟨p, 0, none⟩) (World.block_lt_of_cell? _ _ HN0.out)).trans HN0.out
      have hst := leastL_snoc vs (l.take j) y
      rw [show l.take j ++ [y] = l.take (j + 1) by rw [List.take_add_one, hy]; rfl, ← HLB.out] at hst
      have hin := HRV.out (l.take j) (fun z hz => HLT.out z (List.mem_of_mem_take hz))
      rw [← HLB.out] at hin
      have hyi : (y : Int) < (nv : Int) := by omega
      have hy0 : (0 : Int) ≤ (y : Int) := by omega
      have HST := Lib.hid hst
      clear hst hy hyn
      rcases hin with ⟨hb, hnil⟩ | ⟨hb0, hbm⟩
      · have hbneg : decide (b < 0) = true := by rw [hb]; rfl
        have HST2 := Lib.hid (show (y : Int) = leastL vs (l.take (j + 1)) by rw [HST.out, if_pos (.inl (by omega))])
        clear HST hnil
        subst hb
        clear hbneg
        go_wp2
        go_quiet (fail)
        go_wp2
        go_roundg (m - (j + 1))
        case measure => omega
        case rel => exact ⟨j + 1, (y : Int), by go_num, rfl, by omega, HST2, Lib.hid (Ne.below_dn HBW.out _)⟩
      · obtain ⟨z, rfl⟩ : ∃ z : Nat, b = (z : Int) := ⟨b.toNat, by omega⟩
        have hbneg : decide ((z : Int) < 0) = false := by simp
        have hbneg2 : ¬ (z : Int) < 0 := by omega
        rw [Int.toNat_natCast] at hbm
        have hzn := HLT.out z (List.mem_of_mem_take hbm)
        obtain ⟨bv', ov', e', hbv', d2⟩ := Ne.irow_cell (HVR.out.kept HBW.out) (i := z) (by rw [← HNV.out]; exact hzn)
        cases e'
        have hzi : (z : Int) < (nv : Int) := by omega
        have hz0 : (0 : Int) ≤ (z : Int) := by omega
        have HSTE := Lib.hid HST.out
        rw [Int.toNat_natCast] at HSTE
        generalize Ne.amt vs y = ay at *
        generalize Ne.amt vs z = az at *
        clear hbm hzn HST
        by_cases c : ay < az
        · have c' : decide (ay < az) = true := by simpa using c
          have HST2 := Lib.hid (show (y : Int) = leastL vs (l.take (j + 1)) by rw [HSTE.out, if_pos (.inr c)])
          clear c
          go_wp2
          go_quiet (fail)
          go_wp2
          go_roundg (m - (j + 1))
          case measure => omega
          case rel => exact ⟨j + 1, (y : Int), by go_num, rfl, by omega, HST2, Lib.hid (Ne.below_dn HBW.out _)⟩
        · have c' : decide (ay < az) = false := by simpa using c
          have HST2 := Lib.hid (show (z : Int) = leastL vs (l.take (j + 1)) by rw [HSTE.out, if_neg (by omega)])
          clear c
          go_wp2
          go_quiet (fail)
          go_wp2
          go_roundg (m - (j + 1))
          case measure => omega
          case rel => exact ⟨j + 1, (z : Int), by go_num, rfl, by omega, HST2, Lib.hid (Ne.below_dn HBW.out _)⟩
    · have hji : ¬ (j : Int) < (m : Int) := by omega
      have hres : b = leastL vs l := by rw [HLB.out, List.take_of_length_le (by rw [← HM.out]; omega)]
      have HRES := Lib.hid hres
      clear hres
      go_wp2
      go_ret
      exact ⟨Ne.retI HRES.out, HBW.out⟩
end
end Sp
end Go.Proofs.Ytlkigpmjhojceaa
