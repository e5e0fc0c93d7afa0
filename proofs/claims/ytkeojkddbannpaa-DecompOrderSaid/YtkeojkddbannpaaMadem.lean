/-
  Plain facts on networks: what is made is right; what one wrong arc does. No condition.
-/
import Derived.Test.YtkeojkddbannpaaRmade
import Derived.Test.YtkeojkddbannpaaRcheck
namespace Go.Proofs.Ytkeojkddbannpaa
open Go.ChangeShapes Go.WideShapes Go.ChangeAt Go.RowKit
set_option linter.unusedVariables false
set_option linter.unusedSimpArgs false
namespace Ne
/-- an arc of a network of n nodes, whose capacity is at most a million -/
def fineA (n : Int) (a : Arc) : Prop := isNode n a.fr = true ∧ isNode n a.to = true ∧ 0 ≤ a.cap ∧ a.cap ≤ 1000000
theorem isNode_iff (n v : Int) : isNode n v = true ↔ 1 ≤ v ∧ v ≤ n := by simp [isNode]
theorem checkL_fine {n : Int} (l r : List Arc) : ∀ left : Int, (∀ a ∈ l, fineA n a) → 1000000 * (l.length : Int) ≤ left →
    ∃ left', left - 1000000 * (l.length : Int) ≤ left' ∧ left' ≤ left ∧ checkL n left (l ++ r) = checkL n left' r := by
  induction l with
  | nil => intro left _ _; exact ⟨left, by simp, Int.le_refl _, rfl⟩
  | cons a l ih =>
    intro left h hl
    obtain ⟨h1, h2, h3, h4⟩ := h a (List.mem_cons_self)
    simp only [List.length_cons, Int.natCast_add, Int.natCast_one] at hl ⊢
    obtain ⟨left', g1, g2, g3⟩ := ih (left - a.cap) (fun b hb => h b (List.mem_cons_of_mem _ hb)) (by omega)
    refine ⟨left', by omega, by omega, ?_⟩
    rw [List.cons_append, checkL, h1, h2]
    simp only [Bool.and_true, if_true]
    rw [if_neg (by omega), if_neg (by omega), g3]
theorem checkL_all {n : Int} (l : List Arc) (h : ∀ a ∈ l, fineA n a) (hl : l.length ≤ 1000) : checkL n 4611686018427387903 l = 0 := by
  obtain ⟨left', _, _, h3⟩ := checkL_fine l [] 4611686018427387903 h (by omega)
  rw [List.append_nil] at h3
  rw [h3]; rfl
/-- a network that is right but for its arcs -/
def fineH (n : Net) : Prop := 2 ≤ n.n ∧ n.n ≤ 500 ∧ 1 ≤ n.s ∧ n.s ≤ n.n ∧ 1 ≤ n.t ∧ n.t ≤ n.n ∧ n.s ≠ n.t ∧ n.l.length ≤ 1000
theorem checkN_head {n : Net} (h : fineH n) : checkN n = checkL n.n 4611686018427387903 n.l := by
  obtain ⟨h1, h2, h3, h4, h5, h6, h7, h8⟩ := h
  unfold checkN
  rw [if_neg (by omega), if_pos (by simp [isNode]; omega), if_neg h7, if_neg (by omega)]
theorem checkN_fine {n : Net} (h : fineH n) (hl : ∀ a ∈ n.l, fineA n.n a) : checkN n = 0 := by
  rw [checkN_head h]; exact checkL_all _ hl h.2.2.2.2.2.2.2
theorem checkN_bad {n : Net} (h : fineH n) {l : List Arc} {k : Nat} {b : Arc} (hl : ∀ a ∈ l, fineA n.n a) (hk : k < l.length) (e : n.l = l.set k b) :
    (isNode n.n b.fr = false ∨ isNode n.n b.to = false → checkN n = 4) ∧ (isNode n.n b.fr = true → isNode n.n b.to = true → b.cap < 0 → checkN n = 3) ∧ (isNode n.n b.fr = true → isNode n.n b.to = true → 4611686018427387903 < b.cap → checkN n = 7) := by
  have hlen : l.length ≤ 1000 := by have := h.2.2.2.2.2.2.2; rw [e, List.length_set] at this; exact this
  have es : l.set k b = l.take k ++ b :: l.drop (k + 1) := List.set_eq_take_append_cons_drop .. |>.trans (if_pos hk)
  obtain ⟨left', g1, g2, g3⟩ := checkL_fine (n := n.n) (l.take k) (b :: l.drop (k + 1)) 4611686018427387903 (fun a ha => hl a (List.mem_of_mem_take ha)) (by simp; omega)
  have g4 : checkN n = checkL n.n left' (b :: l.drop (k + 1)) := by rw [checkN_head h, e, es, g3]
  rw [List.length_take, Nat.min_eq_left (by omega)] at g1
  refine ⟨fun hb => ?_, fun h1 h2 h3 => ?_, fun h1 h2 h3 => ?_⟩
  · rw [g4, checkL]
    rcases hb with hb | hb <;> simp [hb]
  · rw [g4, checkL, h1, h2]; simp [h3]
  · rw [g4, checkL, h1, h2]
    simp only [Bool.and_true, if_true]
    rw [if_neg (by omega), if_pos (by omega)]
theorem madeN_fine {nodes ends : Int} {l : List Arc} (h : ∀ a ∈ l, a.ok) :
    2 ≤ (madeN nodes ends l).n ∧ (madeN nodes ends l).n ≤ 9 ∧ 1 ≤ (madeN nodes ends l).s ∧ (madeN nodes ends l).s ≤ (madeN nodes ends l).n ∧ 1 ≤ (madeN nodes ends l).t ∧ (madeN nodes ends l).t ≤ (madeN nodes ends l).n ∧
      (madeN nodes ends l).s ≠ (madeN nodes ends l).t ∧ (madeN nodes ends l).l.length = min 24 l.length ∧ ∀ a ∈ (madeN nodes ends l).l, fineA (madeN nodes ends l).n a := by
  have b1 := pickN_bd (c := nodes) (n := 8) (by omega)
  obtain ⟨p1, hp1⟩ : ∃ p, p = pickN nodes 8 := ⟨_, rfl⟩
  rw [← hp1] at b1
  obtain ⟨p2, hp2⟩ : ∃ p, p = pickN ends (2 + p1) := ⟨_, rfl⟩
  have b2 := pickN_bd (c := ends) (n := 2 + p1) (by omega)
  rw [← hp2] at b2
  obtain ⟨p3, hp3⟩ : ∃ p, p = pickN (ends.tdiv 16) (2 + p1 - 1) := ⟨_, rfl⟩
  have b3 := pickN_bd (c := ends.tdiv 16) (n := 2 + p1 - 1) (by omega)
  rw [← hp3] at b3
  simp only [madeN, ← hp1, ← hp2, ← hp3]
  have q0 := Int.emod_nonneg (1 + p2 + p3) (b := 2 + p1) (by omega)
  have q1 := Int.emod_lt_of_pos (1 + p2 + p3) (b := 2 + p1) (by omega)
  refine ⟨by omega, by omega, by omega, by omega, by omega, by omega, ?_, by simp, ?_⟩
  · intro e
    have hc : (1 + p2 + p3) % (2 + p1) = p2 := by omega
    rcases Int.lt_or_le (1 + p2 + p3) (2 + p1) with hlt | hge
    · rw [Int.emod_eq_of_lt (by omega) hlt] at hc; omega
    · have e2 : (1 + p2 + p3) % (2 + p1) = (1 + p2 + p3 - (2 + p1)) % (2 + p1) := by rw [Int.sub_emod_right]
      rw [e2, Int.emod_eq_of_lt (by omega) (by omega)] at hc; omega
  · intro a ha
    obtain ⟨x, hx, rfl⟩ := List.mem_map.1 ha
    have c1 := pickN_bd (c := x.fr) (n := 2 + p1) (by omega)
    have c2 := pickN_bd (c := x.to) (n := 2 + p1) (by omega)
    have c3 := pickN_bd (c := x.cap) (n := 1000000) (by omega)
    have c4 := pickN_bd (c := x.cap) (n := 21) (by omega)
    refine ⟨(isNode_iff _ _).2 ⟨?_, ?_⟩, (isNode_iff _ _).2 ⟨?_, ?_⟩, ?_, ?_⟩ <;> simp only [madeA] <;> first | omega | (split <;> omega)
theorem madeN_h {nodes ends : Int} {l : List Arc} (h : ∀ a ∈ l, a.ok) : fineH (madeN nodes ends l) := by
  obtain ⟨h1, h2, h3, h4, h5, h6, h7, h8, _⟩ := madeN_fine (nodes := nodes) (ends := ends) h
  exact ⟨h1, by omega, h3, h4, h5, h6, h7, by omega⟩
/-- made, its arcs a slice -/
theorem made_s (nodes ends : Int) (l : List Arc) (ao : Option Addr) (cap : Nat) (w : World) (hn : in64 nodes) (he : in64 ends) (hl : ∀ a ∈ l, a.ok) (hr : ARow w ao l) :
    Calls Try.prog 17 #[.int .i64 nodes, .int .i64 ends, .slice ao l.length cap] w fun e w' =>
      ∃ ao' cap', e = .returned (encN (madeN nodes ends l) ao' cap') ∧ OwnA w' w.heap.size (.slice ao' (madeN nodes ends l).l.length cap') (madeN nodes ends l).l ∧ Below w.heap.size w w' :=
  (made_any nodes ends l ao cap w hn he hl hr).mono fun e w' ⟨v, h1, h2, h3⟩ => by
    obtain ⟨o, c, hv, _⟩ := Rw.own_row encA_len h2
    subst hv
    exact ⟨o, c, h1, h2, h3⟩
end Ne
end Go.Proofs.Ytkeojkddbannpaa
