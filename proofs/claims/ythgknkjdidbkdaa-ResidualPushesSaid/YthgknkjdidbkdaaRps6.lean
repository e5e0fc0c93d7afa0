/-
  ResidualPushes: plain facts on the most that fits along a walk, and on what is pushed back in the network turned. No condition.
-/
import Derived.Test.YthgknkjdidbkdaaRen6
namespace Go.Proofs.Ythgknkjdidbkdaa
open Go.ChangeShapes Go.WideShapes Go.ChangeAt Go.RowKit
set_option linter.unusedVariables false
set_option linter.unusedSimpArgs false
namespace Ne
structure Most (l : List Arc) (f : List Int) (R : List Nat) (m : Int) : Prop where
  all : ∀ r ∈ R, m ≤ roomN l f r
  pos : 1 ≤ m
  top : m ≤ 1099511627776
  one : (R = [] ∧ m = 1099511627776) ∨ ∃ r ∈ R, m = roomN l f r
theorem most_start (l : List Arc) (f : List Int) : Most l f [] 1099511627776 := ⟨fun r hr => by simp at hr, by omega, by omega, .inl ⟨rfl, rfl⟩⟩
theorem most_step {l : List Arc} {f : List Int} {R : List Nat} {m m2 : Int} {r : Nat} (h : Most l f R m) (h1 : 1 ≤ roomN l f r) (h2 : roomN l f r ≤ 1000000) (e : min m (roomN l f r) = m2) : Most l f (R ++ [r]) m2 := by
  have hp := h.pos
  have ht := h.top
  refine ⟨fun q hq => ?_, by omega, by omega, .inr ?_⟩
  · rcases List.mem_append.1 hq with h3 | h3
    · have := h.all q h3; omega
    · simp at h3; subst h3; omega
  · rcases h.one with ⟨_, h3⟩ | ⟨q, h3, h4⟩
    · exact ⟨r, by simp, by omega⟩
    · by_cases c : m ≤ roomN l f r
      · exact ⟨q, List.mem_append_left _ h3, by omega⟩
      · exact ⟨r, by simp, by omega⟩
theorem push_most {n : Net} (ck : checkN n = 0) {f : List Int} (hF : Flow n f) {R : List Nat} {m : Int} (hM : Most n.l f R m) (hn : (R.map (· / 2)).Nodup) (hi : ∀ r ∈ R, r < 2 * n.l.length) (hw : isWalk n (encW R) = true) :
    pushE n f (encW R) m = 0 ∧ pushN n.l f m (encW R) = some (pushV n f (encW R) m) ∧ Flow n (pushV n f (encW R) m) ∧ exc n.l (pushV n f (encW R) m) n.t = exc n.l f n.t + m ∧ pushE n f (encW R) (m + 1) = 9 := by
  have hs := push_simple (x := m) hF.len hn hi
  have hs1 := push_simple (x := m + 1) hF.len hn hi
  have hne : R ≠ [] := fun e => by
    have := (walk_some (right_of ck) hw).1
    rw [e] at this; simp [encW] at this
  have h9 : pushE n f (encW R) (m + 1) = 9 := by
    rcases push_cases ck hF (encW R) (x := m + 1) (by have := hM.pos; omega) with ⟨_, _, h3, _⟩ | ⟨_, h2, _⟩ | ⟨h1, _⟩
    · rcases hM.one with ⟨e, _⟩ | ⟨r, hr, hm⟩
      · exact absurd e hne
      · have := hs1.1 (by rw [h3]; rfl) r hr
        omega
    · rw [hw] at h2; cases h2
    · exact h1
  rcases push_cases ck hF (encW R) (x := m) hM.pos with ⟨h1, _, h3, h4, h5, _⟩ | ⟨_, h2, _⟩ | ⟨_, _, h3, _⟩
  · exact ⟨h1, h3, h4, h5, h9⟩
  · rw [hw] at h2; cases h2
  · have := hs.2 hM.all
    rw [h3] at this; cases this
theorem turned_check {n s t : Int} {l : List Arc} (h : checkN ⟨n, s, t, l⟩ = 0) : checkN ⟨n, t, s, l⟩ = 0 := by
  unfold checkN at h ⊢
  simp only at h ⊢
  by_cases c1 : n < 2 ∨ 500 < n
  · rw [if_pos c1] at h; cases h
  rw [if_neg c1] at h ⊢
  by_cases c2 : (isNode n s && isNode n t) = true
  case neg => rw [if_neg c2] at h; cases h
  rw [if_pos c2] at h
  rw [if_pos (by rw [Bool.and_comm]; exact c2)]
  by_cases c3 : s = t
  · rw [if_pos c3] at h; cases h
  rw [if_neg c3] at h
  rw [if_neg (Ne.symm c3)]
  exact h
theorem push_turned {n s t : Int} {l : List Arc} (ck : checkN ⟨n, s, t, l⟩ = 0) {f g : List Int} (hF : Flow ⟨n, s, t, l⟩ f) (hG : Flow ⟨n, s, t, l⟩ g) {R : List Nat} {m : Int} (hm : 1 ≤ m) (hi : ∀ r ∈ R, r < 2 * l.length)
    (hw : isWalk ⟨n, s, t, l⟩ (encW R) = true) (hp : pushN l f m (encW R) = some g) : pushE ⟨n, t, s, l⟩ g (encW (backR R)) m = 0 ∧ pushV ⟨n, t, s, l⟩ g (encW (backR R)) m = f := by
  have c : chkF ⟨n, t, s, l⟩ g = 0 := chkF_in (chkA_in (turned_check ck) hG.len hG.wi) fun v _ h1 h2 => hG.calm _ h2 h1
  have hw2 : isWalk ⟨n, t, s, l⟩ (encW (backR R)) = true := by
    have := walk_back (l := l) hi (isWalk_at hw)
    unfold isWalk
    simpa using this
  have hb := push_back (by omega) hF.len hF.wi hi hp
  obtain ⟨h1, h2⟩ := pushE_go (n := ⟨n, t, s, l⟩) (f := g) (W := encW (backR R)) (x := m) c hw2 hm
  rw [hb] at h1 h2
  exact ⟨h1, h2⟩
theorem backR_drop {R : List Nat} {q : Nat} (h : q < R.length) : backR (R.drop q) = backR (R.drop (q + 1)) ++ [opp (R.getD q 0)] := by
  have e : R.drop q = R[q] :: R.drop (q + 1) := List.drop_eq_getElem_cons h
  have e2 : R.getD q 0 = R[q] := by rw [List.getD_eq_getElem?_getD, List.getElem?_eq_getElem h]; rfl
  rw [e, e2]
  unfold backR
  rw [List.reverse_cons, List.map_append]
  rfl
theorem backR_bd {R : List Nat} {b : Nat} (h : ∀ r ∈ R, r ≤ b) : ∀ r ∈ backR R, r ≤ b + 1 := by
  intro r hr
  obtain ⟨q, hq, rfl⟩ := List.mem_map.1 hr
  have := h q (by simpa using hq)
  unfold opp; split <;> omega
theorem backR_len (R : List Nat) : (backR R).length = R.length := by simp [backR]
end Ne
end Go.Proofs.Ythgknkjdidbkdaa
