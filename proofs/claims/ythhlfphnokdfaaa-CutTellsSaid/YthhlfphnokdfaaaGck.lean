/-
  The document's Check of a network. Condition: the row lies in memory.
-/
import Derived.Test.YthhlfphnokdfaaaRcheck
import Derived.Test.YthhlfphnokdfaaaNets
import Derived.LoopTactic
import Derived.Below
namespace Go.Proofs.Ythhlfphnokdfaaa
open Go.ChangeShapes Go.WideShapes Go.ChangeAt Go.RowKit
set_option linter.unusedVariables false
set_option linter.unusedSimpArgs false
namespace Ne
set_option maxHeartbeats 4000000 in
theorem rcheck_any (n : Net) (ao : Option Addr) (cap : Nat) (w : World) (hr : ARow w ao n.l) (hl : n.l.length ≤ 1000000) :
    Calls Try.prog 42 #[encN n ao cap] w fun e w' => e = .returned (.int .i64 (checkN n)) ∧ Below w.heap.size w w' := by
  obtain ⟨nn, ns, nt, l⟩ := n
  simp only at hr hl ⊢
  have HR := Lib.hid (hr.kept ((Below.refl _ _).alloc (Nat.le_refl _) (.cells #[.int .i64 nn, .int .i64 ns, .int .i64 nt, .slice ao l.length cap] 24)))
  have HB0 := Lib.hid ((Below.refl w.heap.size w).alloc (Nat.le_refl _) (.cells #[.int .i64 nn, .int .i64 ns, .int .i64 nt, .slice ao l.length cap] 24))
  clear hr
  by_cases g1 : nn < 2
  · have HE := Lib.hid (show checkN ⟨nn, ns, nt, l⟩ = 3 by unfold checkN; rw [if_pos (.inl g1)])
    go_enter Try.func42, Try.ntmps42
    go_wp2
    go_ret
    exact ⟨retI HE.out.symm, HB0.out⟩
  by_cases g2 : 500 < nn
  · have HE := Lib.hid (show checkN ⟨nn, ns, nt, l⟩ = 3 by unfold checkN; rw [if_pos (.inr g2)])
    go_enter Try.func42, Try.ntmps42
    go_wp2
    go_ret
    exact ⟨retI HE.out.symm, HB0.out⟩
  by_cases g3 : 1 ≤ ns ∧ ns ≤ nn ∧ 1 ≤ nt ∧ nt ≤ nn
  · obtain ⟨g31, g32, g33, g34⟩ := g3
    have HI := Lib.hid (show (isNode nn ns && isNode nn nt) = true by simp [isNode]; omega)
    by_cases g4 : ns = nt
    · have HE := Lib.hid (show checkN ⟨nn, ns, nt, l⟩ = 5 by unfold checkN; rw [if_neg (show ¬ (nn < 2 ∨ 500 < nn) by omega), if_pos HI.out, if_pos g4])
      have g4' : (ns == nt) = true := by simp [g4]
      clear g4
      go_enter Try.func42, Try.ntmps42
      go_wp2
      go_ret
      exact ⟨retI HE.out.symm, HB0.out⟩
    have g4' : (ns == nt) = false := by simp [g4]
    by_cases g5 : 2000 < l.length
    · have HE := Lib.hid (show checkN ⟨nn, ns, nt, l⟩ = 6 by unfold checkN; rw [if_neg (show ¬ (nn < 2 ∨ 500 < nn) by omega), if_pos HI.out, if_neg g4, if_pos g5])
      have g5' : (2000 : Int) < (l.length : Int) := by omega
      clear g4
      go_enter Try.func42, Try.ntmps42
      go_wp2
      go_ret
      exact ⟨retI HE.out.symm, HB0.out⟩
    have HE := Lib.hid (show checkN ⟨nn, ns, nt, l⟩ = checkL nn 4611686018427387903 l by unfold checkN; rw [if_neg (show ¬ (nn < 2 ∨ 500 < nn) by omega), if_pos HI.out, if_neg g4, if_neg g5])
    have g5' : ¬ (2000 : Int) < (l.length : Int) := by omega
    clear g4
    go_enter Try.func42, Try.ntmps42
    go_wp2
    go_loopw [3, 4] (fun lf i wr => ∃ (k : Nat) (left : Int), i = .int .i64 k ∧ lf = .int .i64 left ∧ k ≤ l.length ∧ 0 ≤ left ∧ left ≤ 4611686018427387903 ∧ checkL nn left (l.drop k) = checkL nn 4611686018427387903 l ∧ Below (w.heap.size + 1) (w.alloc (.cells #[.int .i64 nn, .int .i64 ns, .int .i64 nt, .slice ao l.length cap] 24)) wr) (fun _ i _ => l.length - (intOf i).toNat)
    case atStart => exact ⟨0, _, rfl, rfl, Nat.zero_le _, by omega, by omega, rfl, Below.refl _ _⟩
    case round =>
      obtain ⟨k, left, rfl, rfl, hk, hl0, hl1, he, hbel⟩ := hrel
      have HB := Lib.hid hbel
      have HC := Lib.hid he
      have hbox : wr.cell? ⟨w.heap.size, 3, none⟩ = some (.slice ao l.length cap) := by
        rw [hbel.cell (p := ⟨w.heap.size, 3, none⟩) (by simp)]; rw [World.cell?_alloc_new]; rfl
      have hbn : wr.cell? ⟨w.heap.size, 0, none⟩ = some (.int .i64 nn) := by
        rw [hbel.cell (p := ⟨w.heap.size, 0, none⟩) (by simp)]; rw [World.cell?_alloc_new]; rfl
      have hsz : w.heap.size + 1 ≤ wr.heap.size := by have := hbel.size; simpa using this
      have hbn2 : ∀ o : Obj, (wr.alloc o).cell? ⟨w.heap.size, 0, none⟩ = some (.int .i64 nn) := fun o => (World.cell?_alloc_lt wr o _ (by show w.heap.size < _; omega)).trans hbn
      clear hbel he
      by_cases hlt : k < l.length
      · obtain ⟨a, ha⟩ : ∃ a, l[k]? = some a := ⟨_, List.getElem?_eq_getElem hlt⟩
        rcases (HR.out.below (B := w.heap.size + 1) (fun b off h => by rcases HR.out with h2 | ⟨b2, o2, h2, h3, _⟩; (exfalso; rw [h2] at hlt; simp at hlt); (rw [h2] at h; cases h; simpa using h3)) HB.out.size HB.out) with h | ⟨b, off, rfl, hbl, hcell⟩
        · exfalso; rw [h] at hlt; simp at hlt
        obtain ⟨c0, c1, c2⟩ := arow_at hcell ha
        clear hcell
        rw [drop_at ha] at HC
        clear ha
        by_cases ga : 1 ≤ a.fr ∧ a.fr ≤ nn ∧ 1 ≤ a.to ∧ a.to ≤ nn
        · have HX := Lib.hid (show (isNode nn a.fr && isNode nn a.to) = true by simp [isNode]; omega)
          obtain ⟨ga1, ga2, ga3, ga4⟩ := ga
          by_cases gc : a.cap < 0
          · have HV := Lib.hid (show checkL nn left (a :: l.drop (k + 1)) = 3 by unfold checkL; rw [if_pos HX.out, if_pos gc])
            go_wp2
            go_ret
            exact ⟨retI (by rw [HE.out, ← HC.out, HV.out]), HB0.out.trans ((HB.out.mono (by omega)).alloc (by omega) _)⟩
          by_cases gl : left < a.cap
          · have HV := Lib.hid (show checkL nn left (a :: l.drop (k + 1)) = 7 by unfold checkL; rw [if_pos HX.out, if_neg gc, if_pos gl])
            go_wp2
            go_ret
            exact ⟨retI (by rw [HE.out, ← HC.out, HV.out]), HB0.out.trans ((HB.out.mono (by omega)).alloc (by omega) _)⟩
          have HV := Lib.hid (show checkL nn left (a :: l.drop (k + 1)) = checkL nn (left - a.cap) (l.drop (k + 1)) by rw [checkL, if_pos HX.out, if_neg gc, if_neg gl])
          go_wp2
          go_roundw
          case rel => exact ⟨k + 1, left - a.cap, by go_num, by go_num, by omega, by omega, by omega, by rw [← HV.out, HC.out], HB.out.alloc hsz _⟩
          case measure => simp [intOf]; omega
        · have HV := Lib.hid (show checkL nn left (a :: l.drop (k + 1)) = 4 by unfold checkL; rw [if_neg]; simp [isNode]; omega)
          by_cases q1 : a.fr < 1
          · clear ga
            go_wp2
            go_ret
            exact ⟨retI (by rw [HE.out, ← HC.out, HV.out]), HB0.out.trans ((HB.out.mono (by omega)).alloc (by omega) _)⟩
          by_cases q2 : nn < a.fr
          · have q1' : 1 ≤ a.fr := by omega
            clear ga
            go_wp2
            go_ret
            exact ⟨retI (by rw [HE.out, ← HC.out, HV.out]), HB0.out.trans ((HB.out.mono (by omega)).alloc (by omega) _)⟩
          have q1' : 1 ≤ a.fr := by omega
          have q2' : a.fr ≤ nn := by omega
          by_cases q3 : a.to < 1
          · clear ga
            go_wp2
            go_ret
            exact ⟨retI (by rw [HE.out, ← HC.out, HV.out]), HB0.out.trans ((HB.out.mono (by omega)).alloc (by omega) _)⟩
          have q3' : 1 ≤ a.to := by omega
          have q4 : nn < a.to := by omega
          clear ga
          go_wp2
          go_ret
          exact ⟨retI (by rw [HE.out, ← HC.out, HV.out]), HB0.out.trans ((HB.out.mono (by omega)).alloc (by omega) _)⟩
      · have ek : k = l.length := by omega
        subst ek
        rw [List.drop_length] at HC
        go_wp2
        go_ret
        exact ⟨retI (by rw [HE.out, ← HC.out]; rfl), HB0.out.trans (HB.out.mono (by omega))⟩
  · have HE := Lib.hid (show checkN ⟨nn, ns, nt, l⟩ = 4 by unfold checkN; rw [if_neg (show ¬ (nn < 2 ∨ 500 < nn) by omega), if_neg]; simp [isNode]; omega)
    go_enter Try.func42, Try.ntmps42
    by_cases q1 : ns < 1
    · clear g3
      go_wp2
      go_ret
      exact ⟨retI HE.out.symm, HB0.out⟩
    by_cases q2 : nn < ns
    · have q1' : 1 ≤ ns := by omega
      clear g3
      go_wp2
      go_ret
      exact ⟨retI HE.out.symm, HB0.out⟩
    have q1' : 1 ≤ ns := by omega
    have q2' : ns ≤ nn := by omega
    by_cases q3 : nt < 1
    · clear g3
      go_wp2
      go_ret
      exact ⟨retI HE.out.symm, HB0.out⟩
    have q3' : 1 ≤ nt := by omega
    have q4 : nn < nt := by omega
    clear g3
    go_wp2
    go_ret
    exact ⟨retI HE.out.symm, HB0.out⟩
end Ne
end Go.Proofs.Ythhlfphnokdfaaa
