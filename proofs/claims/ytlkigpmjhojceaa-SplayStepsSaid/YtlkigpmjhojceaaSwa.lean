/-
  Stage 9: the developers' forest as the laws take it: what it is, what a call leaves; the end of a row; First, Last, Place, Value, Turn, Steps. No condition (Steps: the bound is a number of 63 bits).
-/
import Derived.Test.YtlkigpmjhojceaaSvz
import Derived.Test.YtlkigpmjhojceaaSpx
import Derived.Test.YtlkigpmjhojceaaLog
namespace Go.Proofs.Ytlkigpmjhojceaa
open Go.ChangeShapes Go.WideShapes Go.ChangeAt Go.RowKit
set_option linter.unusedVariables false
set_option linter.unusedSimpArgs false
namespace Sp
open Sv
/-- the developers' forest, in blocks of F; its steps are at least lo, and with what is still to come at most hi -/
def SpO (w : World) (B : Nat) (F : Nat → Prop) (p : Nat) (s : St) (lo hi : Nat) : Prop :=
  ∃ g c M I P D, SpM w B p g s.v.length M c ∧ Inv s.v.length (Ne.amt s.v) s.r No M I P D ∧ Good s ∧ (∀ k, PG p g k → F k) ∧ (∀ k, F k → B ≤ k ∧ k < w.heap.size) ∧ lo ≤ c ∧ c + 6 * pot I s.v.length ≤ hi
/-- what a call may cost -/
def cst (n : Nat) : Nat := 100 * (2 + (Num.logF (n : Int)).toNat)
def it (s : St) (x : Int) : Nat := if rowZ s x = [] then 0 else 1
theorem log_le {l n : Nat} (h : l ≤ n) (hn : n ≤ 3000) : l.log2 ≤ (Num.logF (n : Int)).toNat := by
  refine Nat.le_trans (St.log_mono h) ?_
  by_cases c : n < 2
  · have : n = 0 ∨ n = 1 := by omega
    have e : n.log2 = 0 := by rcases this with rfl | rfl <;> decide
    rw [e]; exact Nat.zero_le _
  · obtain ⟨k, h1, h2, h3, h4, h5⟩ := Num.logF_spec (n : Int) (by omega) (by omega)
    rw [h1]
    have h6 : n ≤ 2 ^ k := by have : ((n : Nat) : Int) ≤ ((2 ^ k : Nat) : Int) := by rw [Num.pc]; exact h4
                              exact Int.ofNat_le.1 this
    have := St.log_mono h6
    rw [Nat.log2_two_pow] at this
    simpa using this
section
variable {w w2 : World} {B p lo hi : Nat} {F G : Nat → Prop} {s : St}
theorem SpO.good (h : SpO w B F p s lo hi) : Good s := by obtain ⟨g, c, M, I, P, D, h1, h2, h3, _⟩ := h; exact h3
theorem SpO.fin (h : SpO w B F p s lo hi) : ∀ g, F g → B ≤ g ∧ g < w.heap.size := by obtain ⟨g, c, M, I, P, D, h1, h2, h3, h4, h5, _⟩ := h; exact h5
theorem SpO.off (h : SpO w B F p s lo hi) (ho : Off G w w2) (hd : ∀ g, F g → ¬ G g) : SpO w2 B F p s lo hi := by
  obtain ⟨g, c, M, I, P, D, h1, h2, h3, h4, h5, h6, h7⟩ := h
  exact ⟨g, c, M, I, P, D, h1.off ho (hd _ (h4 _ (.inl rfl))) (hd _ (h4 _ (.inr rfl))), h2, h3, h4, fun k hk => ⟨(h5 k hk).1, Nat.lt_of_lt_of_le (h5 k hk).2 ho.size⟩, h6, h7⟩
theorem SpO.base (h : SpO w B F p s lo hi) {B' : Nat} (hB : B' ≤ B) : SpO w B' F p s lo hi := by
  obtain ⟨g, c, M, I, P, D, h1, h2, h3, h4, h5, h6, h7⟩ := h
  exact ⟨g, c, M, I, P, D, h1.base hB, h2, h3, h4, fun k hk => ⟨Nat.le_trans hB (h5 k hk).1, (h5 k hk).2⟩, h6, h7⟩
end
end Sp
namespace Sv
section
variable {w w1 w2 w0 : World} {B p g n c : Nat} {V : Nat → Int} {r : Nat → List Nat} {M : Nat → Nd} {I : Nat → List Nat} {P : Nat → Bool} {D : Nat → Int}
theorem Splayed.ended {y k : Nat} (h : Splayed w w1 B p g n V r M I c y k) (hy : y < n) : Ended (PG p g) w w1 B p g n V r M I y c y := by
  obtain ⟨M', I', P', D', h1, h2, h3, h4, h5, h6⟩ := h
  exact ⟨_, M', I', P', D', h1.toSpM, h1.off, h2, h3, h4, h5, hy, rfl, by omega, by omega⟩
theorem Ended.pre {F : Nat → Prop} {top v : Nat} (h : Ended F w1 w2 B p g n V r M I top c v) (ho : Sp.Off F w w1) : Ended F w w2 B p g n V r M I top c v := by
  obtain ⟨c', M', I', P', D', h1, h2, h3⟩ := h
  exact ⟨c', M', I', P', D', h1, ho.trans h2 fun _ h => .inl h, h3⟩
theorem bx_new {w : World} {b : Nat} (hb : b = w.heap.size) (v : Value) (T : TypeId) : Bx (w.alloc (.cells #[v] T)) b v := by
  subst hb
  have e : (w.alloc (.cells #[v] T)).heap[w.heap.size]? = some (.cells #[v] T) := by show (w.heap.push _)[w.heap.size]? = _; simp
  refine ⟨?_, ?_, ?_⟩
  · simp only [World.cell?]
    rw [e]; rfl
  · show w.heap.size < (w.heap.push _).size
    simp
  · simp only [World.frozen?]
    rw [e]; rfl
set_option maxHeartbeats 1000000 in
theorem end_any (h : SpM w B p g n M c) (hI : Inv n V r No M I P D) {top : Nat} (hx : top < n) (hu : (M top).up = none) (hc : Clear M P D top) (s : Bool) :
    Calls Try.prog 50 #[.pointer (some ⟨p, 0, none⟩), .int .i64 (top : Int), .int .i64 (sz s)] w fun e w' => ∃ v : Nat, e = .returned (.int .i64 (v : Int)) ∧ endL s (r top) = some v ∧ Ended (PG p g) w w' B p g n V r M I top c v := by
  obtain ⟨⟨_, hp⟩, _, hg⟩ := h.in
  have HO := Lib.hid (show Sp.Off (PG p g) w ((w.alloc (.cells #[.pointer (some ⟨p, 0, none⟩)] 25)).alloc (.cells #[.int .i64 (sz s)] 3)) from ((Sp.Off.refl _ w).alloc _).alloc _)
  have hM := (h.kept ((Below.refl _ w).alloc (Nat.le_refl _) (.cells #[.pointer (some ⟨p, 0, none⟩)] 25)))
  have hM2 := (hM.kept ((Below.refl _ _).alloc (Nat.le_refl _) (.cells #[.int .i64 (sz s)] 3)))
  have hz : (w.alloc (.cells #[.pointer (some ⟨p, 0, none⟩)] 25)).heap.size = w.heap.size + 1 := by show (w.heap.push _).size = _; simp
  have b1 := bx_new (w := w) rfl (.pointer (some ⟨p, 0, none⟩)) 25
  have b1' : Bx ((w.alloc (.cells #[.pointer (some ⟨p, 0, none⟩)] 25)).alloc (.cells #[.int .i64 (sz s)] 3)) w.heap.size (.pointer (some ⟨p, 0, none⟩)) :=
    b1.off (F := fun _ => False) ((Sp.Off.refl _ _).alloc _) id
  have b2 := bx_new (w := w.alloc (.cells #[.pointer (some ⟨p, 0, none⟩)] 25)) (b := w.heap.size + 1) hz.symm (.int .i64 (sz s)) 3
  have HD := Lib.hid (descend_end hM2 hI hx hu hc (guide_end s (top := top) (b1 := w.heap.size) (b2 := w.heap.size + 1) ⟨by omega, by omega⟩ ⟨by omega, by omega⟩) ⟨b1', b2, [], by
    rw [hI.root_row hx hu]; cases s <;> simp⟩)
  clear h hI hx hu hc hM hM2 b1 b1' b2
  go_enter Try.func50, Try.ntmps50
  go_wp2_with fail
  refine HD.out.mono ?_
  rintro e w1 ⟨v, rfl, hv, hE⟩
  have HE := Lib.hid (hE.pre HO.out)
  have HV := Lib.hid hv
  clear hE hv
  go_wp2
  go_ret
  exact ⟨v, rfl, HV.out, HE.out⟩
end
end Sv
end Go.Proofs.Ytlkigpmjhojceaa
