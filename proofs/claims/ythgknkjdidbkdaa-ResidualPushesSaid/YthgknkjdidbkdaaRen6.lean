/-
  ResidualEnds, ResidualSteps, ResidualPushes: plain facts on pushes at a flow, case by case; walks that are chosen. No condition.
-/
import Derived.Test.YthgknkjdidbkdaaRlw6
namespace Go.Proofs.Ythgknkjdidbkdaa
open Go.ChangeShapes Go.WideShapes Go.ChangeAt Go.RowKit
set_option linter.unusedVariables false
set_option linter.unusedSimpArgs false
namespace Ne
theorem push_cases {n : Net} (ck : checkN n = 0) {f : List Int} (hF : Flow n f) (W : List Int) {x : Int} (hx : 1 ≤ x) :
    (pushE n f W x = 0 ∧ isWalk n W = true ∧ pushN n.l f x W = some (pushV n f W x) ∧ Flow n (pushV n f W x) ∧ exc n.l (pushV n f W x) n.t = exc n.l f n.t + x ∧ Rch n f 1 n.t) ∨
    (pushE n f W x = 1 ∧ isWalk n W = false ∧ pushV n f W x = []) ∨ (pushE n f W x = 9 ∧ isWalk n W = true ∧ pushN n.l f x W = none ∧ pushV n f W x = []) := by
  have c := flow_chkF ck hF
  have hR := right_of ck
  rcases h : isWalk n W with _ | _
  · obtain ⟨h1, h2⟩ := pushE_no (x := x) c h
    exact .inr (.inl ⟨h1, rfl, h2⟩)
  · obtain ⟨h1, h2⟩ := pushE_go c h hx
    rcases hp : pushN n.l f x W with _ | g
    · rw [hp] at h1 h2
      exact .inr (.inr ⟨h1, rfl, rfl, h2⟩)
    · rw [hp] at h1 h2
      have e : pushV n f W x = g := h2
      rw [e]
      obtain ⟨h3, h4⟩ := push_flow hR hF (by omega) h hp
      exact .inl ⟨h1, rfl, rfl, h3, h4, push_sink hR hF.len hx h hp⟩
theorem push_nought {n : Net} (ck : checkN n = 0) {f : List Int} (hF : Flow n f) (W : List Int) : (pushE n f W 0 = 1 ∨ pushE n f W 0 = 3) ∧ pushV n f W 0 = [] := by
  have c := flow_chkF ck hF
  rcases h : isWalk n W with _ | _
  · obtain ⟨h1, h2⟩ := pushE_no (x := 0) c h
    exact ⟨.inl h1, h2⟩
  · obtain ⟨h1, h2⟩ := pushE_low (x := 0) c h (by omega)
    exact ⟨.inr h1, h2⟩
theorem far_at {n : Net} (ck : checkN n = 0) {f : List Int} (hF : Flow n f) {M : List Bool} (h : IsReach n f 4611686018427387904 M) {v S : Nat} (hs : n.s = (S : Int)) : M.getD v false = decide (v = S) := by
  have hR := right_of ck
  have hfar : ∀ r, r < 2 * n.l.length → roomN n.l f r < 4611686018427387904 := fun r hr => by
    have h1 := room_nn hF.wi hr
    have h2 := cap_topR hR (i := r / 2) (by omega)
    omega
  by_cases e : v = S
  · subst e
    have := h.at_s
    rw [hs] at this
    simpa using this
  · rcases h2 : M.getD v false with _ | _
    · simp [e]
    · have := rch_far hfar (h.sound v h2)
      omega
/-- tracks that are drawn from raw numbers -/
def trN (L : Nat) (st : List Int) : List Nat := st.map fun c => (pickN c (2 * (L : Int))).toNat
theorem trN_len (L : Nat) (st : List Int) : (trN L st).length = st.length := by simp [trN]
theorem trN_take {L : Nat} {st : List Int} {i : Nat} (h : i < st.length) (hL : 0 < L) : encW (trN L (st.take (i + 1))) = encW (trN L (st.take i)) ++ [pickN (amt st i) (2 * (L : Int))] := by
  have hb := pickN_bd (c := amt st i) (n := 2 * (L : Int)) (by omega)
  rw [take_amt h]
  unfold trN
  rw [List.map_append, encW_app]
  congr 1
  simp only [encW, List.map_cons, List.map_nil]
  rw [show (((pickN (amt st i) (2 * (L : Int))).toNat : Nat) : Int) = pickN (amt st i) (2 * (L : Int)) by omega]
theorem trN_all {L : Nat} {st : List Int} : trN L (st.take st.length) = trN L st := by rw [List.take_length]
theorem encW_64 {l : List Nat} {b : Nat} (h : ∀ r ∈ l, r ≤ b) (hb : b ≤ 1000000) : ∀ x ∈ encW l, in64 x := by
  intro x hx
  obtain ⟨r, hr, rfl⟩ := List.mem_map.1 hx
  have := h r hr
  unfold in64; omega
theorem trN_bd {L : Nat} {st : List Int} (hL : 0 < L) : ∀ r ∈ trN L st, r ≤ 2 * L := by
  intro r hr
  obtain ⟨c, _, rfl⟩ := List.mem_map.1 hr
  have := pickN_bd (c := c) (n := 2 * (L : Int)) (by omega)
  omega
/-- a walk that goes from node to node, each new -/
structure Simple (n : Net) (M : List Bool) (u : Int) (R : List Nat) : Prop where
  len : M.length = n.n.toNat + 1
  ends : walkAt n.l n.s (encW R) = some u
  inn : ∀ r ∈ R, r < 2 * n.l.length
  nodup : (R.map (· / 2)).Nodup
  met : ∀ r ∈ R, M.getD (trF n.l r).toNat false = true ∧ (M.getD (trT n.l r).toNat false = true ∨ trT n.l r = u)
theorem simple_start {n : Net} (M : List Bool) (h : M.length = n.n.toNat + 1) : Simple n M n.s [] :=
  ⟨h, by simp [walkAt, encW], fun r hr => by simp at hr, by simp, fun r hr => by simp at hr⟩
theorem simple_mark {n : Net} {M : List Bool} {u : Nat} {R : List Nat} (h : Simple n M (u : Int) R) (hu : u < n.n.toNat + 1) : Simple n (M.set u true) (u : Int) R ∧ (M.set u true).getD u false = true ∧ ∀ r ∈ R, (M.set u true).getD (trF n.l r).toNat false = true ∧ (M.set u true).getD (trT n.l r).toNat false = true := by
  have hul : u < M.length := by rw [h.len]; exact hu
  have hg := fun j => getD_set M u j hul
  have hup : ∀ j, M.getD j false = true → (M.set u true).getD j false = true := fun j hj => by rw [hg]; split <;> simp_all
  have hb : ∀ r ∈ R, (M.set u true).getD (trF n.l r).toNat false = true ∧ (M.set u true).getD (trT n.l r).toNat false = true := fun r hr => by
    obtain ⟨h1, h2⟩ := h.met r hr
    refine ⟨hup _ h1, ?_⟩
    rcases h2 with h2 | h2
    · exact hup _ h2
    · rw [hg, if_pos (by omega)]
  exact ⟨⟨by simp [h.len], h.ends, h.inn, h.nodup, fun r hr => ⟨(hb r hr).1, .inl (hb r hr).2⟩⟩, by rw [hg, if_pos rfl], hb⟩
theorem simple_step {n : Net} {M : List Bool} {u : Nat} {R : List Nat} (h : Simple n M (u : Int) R) (hm : M.getD u false = true) (hall : ∀ r ∈ R, M.getD (trF n.l r).toNat false = true ∧ M.getD (trT n.l r).toNat false = true)
    {r : Nat} (hr : r < 2 * n.l.length) (hrf : trF n.l r = (u : Int)) (ht : M.getD (trT n.l r).toNat false = false) : Simple n M (trT n.l r) (R ++ [r]) := by
  refine ⟨h.len, ?_, fun q hq => ?_, ?_, fun q hq => ?_⟩
  · rw [encW_app]
    show walkAt n.l n.s (encW R ++ [(r : Int)]) = _
    rw [walkAt_snoc, h.ends]
    unfold stW
    rw [enF_in hr, enT_in hr]
    simp [hrf]
  · rcases List.mem_append.1 hq with h1 | h1
    · exact h.inn q h1
    · simp at h1; subst h1; exact hr
  · rw [List.map_append, List.nodup_append]
    refine ⟨h.nodup, by simp, fun a ha b hb => ?_⟩
    simp at hb; subst hb
    obtain ⟨q, hq, rfl⟩ := List.mem_map.1 ha
    intro e
    obtain ⟨h1, h2⟩ := hall q hq
    -- the arc's ends are those of q
    unfold trF at h1; unfold trT at h2 ht
    rw [e] at h1 h2
    by_cases c1 : q % 2 = 1 <;> by_cases c2 : r % 2 = 1
    all_goals simp only [c1, c2, if_true, if_false] at h1 h2 ht
    all_goals (try rw [ht] at h1)
    all_goals (try rw [ht] at h2)
    all_goals (first | cases h1 | cases h2)
  · rcases List.mem_append.1 hq with h1 | h1
    · obtain ⟨h2, h3⟩ := hall q h1
      exact ⟨h2, .inl h3⟩
    · simp at h1; subst h1
      exact ⟨by rw [hrf]; simpa using hm, .inr rfl⟩
theorem simple_walk {n : Net} {M : List Bool} {u : Int} {R : List Nat} (h : Simple n M u R) : isWalk n (encW R) = decide (u = n.t) := isWalk_end h.ends
theorem simple_few {n : Net} {M : List Bool} {u : Int} {R : List Nat} (h : Simple n M u R) : R.length ≤ n.l.length := by
  have := nodup_len (L := n.l.length) h.nodup fun k hk => by
    obtain ⟨r, hr, rfl⟩ := List.mem_map.1 hk
    have := h.inn r hr
    omega
  simpa using this
/-- what units one by one come to -/
structure Units (n : Net) (f : List Int) (R : List Nat) (j : Nat) (g : List Int) : Prop where
  flow : Flow n g
  at_ : ∀ i, amt g i = amt f i + (j : Int) * sgn R i
  room : ∀ r ∈ R, (j : Int) ≤ roomN n.l f r
theorem units_start {n : Net} {f : List Int} (hF : Flow n f) {R : List Nat} (hi : ∀ r ∈ R, r < 2 * n.l.length) : Units n f R 0 f := ⟨hF, fun i => by simp, fun r hr => (room_nn hF.wi (hi r hr)).1⟩
theorem units_step {n : Net} (ck : checkN n = 0) {f g : List Int} (hF : Flow n f) {R : List Nat} {j : Nat} (h : Units n f R j g) (hn : (R.map (· / 2)).Nodup) (hi : ∀ r ∈ R, r < 2 * n.l.length) (hw : isWalk n (encW R) = true) :
    (pushE n g (encW R) 1 = 0 ∧ Units n f R (j + 1) (pushV n g (encW R) 1)) ∨ (pushE n g (encW R) 1 = 9 ∧ pushV n g (encW R) 1 = [] ∧ ∃ r ∈ R, roomN n.l f r < (j : Int) + 1) := by
  have hs := push_simple (x := 1) h.flow.len hn hi
  have hrm := fun r (hr : r ∈ R) => room_sgn (l := n.l) hn h.at_ hr
  rcases push_cases ck h.flow (encW R) (x := 1) (by omega) with ⟨h1, _, h3, h4, _, _⟩ | ⟨_, h2, _⟩ | ⟨h1, _, h3, h4⟩
  · refine .inl ⟨h1, h4, fun i => ?_, fun r hr => ?_⟩
    · have := (push_sgn h.flow.len hi h3).2 i
      rw [this, h.at_ i, Int.natCast_add, Int.add_mul, Int.natCast_one]; omega
    · have := hs.1 (by rw [h3]; rfl) r hr
      rw [hrm r hr] at this
      rw [Int.natCast_add, Int.natCast_one]; omega
  · rw [hw] at h2; cases h2
  · refine .inr ⟨h1, h4, ?_⟩
    apply Classical.byContradiction
    intro hne
    have : ∀ r ∈ R, 1 ≤ roomN n.l g r := fun r hr => by
      rw [hrm r hr]
      have : ¬ roomN n.l f r < (j : Int) + 1 := fun hlt => hne ⟨r, hr, hlt⟩
      omega
    have := hs.2 this
    rw [h3] at this; cases this
theorem units_end {n : Net} (ck : checkN n = 0) {f g : List Int} (hF : Flow n f) {R : List Nat} {m : Nat} (h : Units n f R m g) (hm : 1 ≤ m) (hn : (R.map (· / 2)).Nodup) (hi : ∀ r ∈ R, r < 2 * n.l.length) (hw : isWalk n (encW R) = true) :
    pushE n f (encW R) (m : Int) = 0 ∧ pushV n f (encW R) (m : Int) = g := by
  have hs := push_simple (x := (m : Int)) hF.len hn hi
  rcases push_cases ck hF (encW R) (x := (m : Int)) (by omega) with ⟨h1, _, h3, h4, _, _⟩ | ⟨_, h2, _⟩ | ⟨h1, _, h3, h4⟩
  · refine ⟨h1, ext_amt (by rw [h4.len, h.flow.len]) fun i _ => ?_⟩
    rw [(push_sgn hF.len hi h3).2 i, h.at_ i]
  · rw [hw] at h2; cases h2
  · have := hs.2 h.room
    rw [h3] at this; cases this
theorem units_fail {n : Net} (ck : checkN n = 0) {f : List Int} (hF : Flow n f) {R : List Nat} {j m : Nat} (hj : j < m) (h : ∃ r ∈ R, roomN n.l f r < (j : Int) + 1) (hn : (R.map (· / 2)).Nodup) (hi : ∀ r ∈ R, r < 2 * n.l.length) (hw : isWalk n (encW R) = true) :
    pushE n f (encW R) (m : Int) = 9 := by
  have hs := push_simple (x := (m : Int)) hF.len hn hi
  rcases push_cases ck hF (encW R) (x := (m : Int)) (by omega) with ⟨h1, _, h3, h4, _, _⟩ | ⟨_, h2, _⟩ | ⟨h1, _, h3, h4⟩
  · obtain ⟨r, hr, hlt⟩ := h
    have := hs.1 (by rw [h3]; rfl) r hr
    omega
  · rw [hw] at h2; cases h2
  · exact h1
theorem pushE_off {n : Net} (ck : checkN n = 0) {f : List Int} (hF : Flow n f) {W : List Int} (hw : isWalk n W = false) (x : Int) : pushE n f W x = 1 ∧ pushV n f W x = [] := pushE_no (flow_chkF ck hF) hw
end Ne
end Go.Proofs.Ythgknkjdidbkdaa
