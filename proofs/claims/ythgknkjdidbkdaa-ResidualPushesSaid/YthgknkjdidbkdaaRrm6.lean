/-
  ResidualRooms: plain facts on tracks that are marked node by node. No condition.
-/
import Derived.Test.YthgknkjdidbkdaaRlw6
namespace Go.Proofs.Ythgknkjdidbkdaa
open Go.ChangeShapes Go.WideShapes Go.ChangeAt Go.RowKit
set_option linter.unusedVariables false
set_option linter.unusedSimpArgs false
namespace Ne
theorem dfrom_b (n : Net) (ao : Option Addr) (cap : Nat) (u : Int) (w : World) (hr : ARow w ao n.l) (hl : n.l.length ≤ 1000000) :
    Calls Try.prog 22 #[encN n ao cap, .int .i64 u] w fun e w' => ∃ o c, e = .returned (.slice o (fromL n.l u (2 * n.l.length)).length c) ∧ IRow w' o (encW (fromL n.l u (2 * n.l.length))) ∧ (∀ b off, o = some ⟨b, off, none⟩ → w.heap.size ≤ b) ∧ Below w.heap.size w w' :=
  (dfrom_any n ao cap u w hr hl).mono fun e w' ⟨v, h1, h2, h3⟩ => by
    obtain ⟨o, c, hx, _, _, _, hi, hb, _⟩ := Rw.own_row encI_len h2
    rw [encW_len] at hx
    exact ⟨o, c, by rw [h1, hx], hi, fun b off e => (hb b off e).1, h3⟩
theorem irow_far {w : World} {o : Option Addr} {l : List Int} {p : Addr} {v : Value} (h : IRow w o l) (hp : ∀ b off, o = some ⟨b, off, none⟩ → p.block ≠ b) : IRow (w.setCell p v) o l := by
  rcases h with h | ⟨b, off, rfl, hlt, hc⟩
  · exact .inl h
  · exact .inr ⟨b, off, rfl, by simpa [World.setCell] using hlt, fun i x hx j u hu => (World.cell?_setCell_far w p ⟨b, off + (i * 1 + j), none⟩ v (hp b off rfl)).trans (hc i x hx j u hu)⟩
structure Marked (l : List Arc) (v : Int) (T : List Nat) (M : List Bool) : Prop where
  len : M.length = 2 * l.length
  here : ∀ r, r < 2 * l.length → (M.getD r false = true ↔ (trF l r < v ∨ r ∈ T))
theorem marked_start {n : Net} (hR : Right n) : Marked n.l 1 [] (List.replicate (2 * n.l.length) false) := by
  refine ⟨by simp, fun r hr => ?_⟩
  rw [replB]
  have := (trF_bd hR hr).1
  constructor
  · intro h; cases h
  · rintro (h | h)
    · omega
    · simp at h
theorem fromL_up {l : List Arc} {v : Int} {k i j : Nat} (h : i < j) (hj : j < (fromL l v k).length) : (fromL l v k).getD i 0 < (fromL l v k).getD j 0 := by
  have hp : (fromL l v k).Pairwise (· < ·) := by unfold fromL; exact List.Pairwise.filter _ List.pairwise_lt_range
  have := List.pairwise_iff_getElem.1 hp i j (by omega) hj h
  rwa [List.getD_eq_getElem?_getD, List.getD_eq_getElem?_getD, List.getElem?_eq_getElem (by omega), List.getElem?_eq_getElem hj]
theorem marked_step {l : List Arc} {v : Int} {M : List Bool} {i : Nat} (h : Marked l v ((fromL l v (2 * l.length)).take i) M) (hi : i < (fromL l v (2 * l.length)).length) :
    M.getD ((fromL l v (2 * l.length)).getD i 0) false = false ∧ Marked l v ((fromL l v (2 * l.length)).take (i + 1)) (M.set ((fromL l v (2 * l.length)).getD i 0) true) ∧ unmet (M.set ((fromL l v (2 * l.length)).getD i 0) true) + 1 = unmet M := by
  have hm := getD_mem hi
  have hup := fun j (hj : j < i) => fromL_up (l := l) (v := v) (k := 2 * l.length) hj hi
  obtain ⟨h1, h2⟩ := fromL_mem.1 hm
  have htk : (fromL l v (2 * l.length)).take (i + 1) = (fromL l v (2 * l.length)).take i ++ [(fromL l v (2 * l.length)).getD i 0] := by
    rw [List.take_add_one, List.getElem?_eq_getElem hi, List.getD_eq_getElem?_getD, List.getElem?_eq_getElem hi]; rfl
  have hni : (fromL l v (2 * l.length)).getD i 0 ∉ (fromL l v (2 * l.length)).take i := by
    intro hin
    obtain ⟨j, hj, he⟩ := List.mem_iff_getElem.1 hin
    rw [List.length_take] at hj
    have hji : j < i := by omega
    have hjl : j < (fromL l v (2 * l.length)).length := by omega
    have := hup j hji
    rw [List.getElem_take] at he
    have e2 : (fromL l v (2 * l.length)).getD j 0 = (fromL l v (2 * l.length))[j] := by rw [List.getD_eq_getElem?_getD, List.getElem?_eq_getElem hjl]; rfl
    omega
  generalize (fromL l v (2 * l.length)).getD i 0 = r at *
  have hf : M.getD r false = false := by
    rcases e : M.getD r false with _ | _
    · rfl
    · rcases (h.here r h1).1 e with h3 | h3
      · omega
      · exact absurd h3 hni
  have hr : r < M.length := by rw [h.len]; exact h1
  refine ⟨hf, ⟨by simp [h.len], fun q hq => ?_⟩, unmet_set hr hf⟩
  rw [getD_set M r q hr, htk, List.mem_append, List.mem_singleton]
  by_cases e : q = r
  · subst e; simp
  · rw [if_neg e, h.here q hq]; simp [e]
theorem marked_next {l : List Arc} {v : Int} {M : List Bool} (h : Marked l v (fromL l v (2 * l.length)) M) : Marked l (v + 1) [] M :=
  ⟨h.len, fun r hr => by
    rw [h.here r hr, fromL_mem]
    constructor
    · rintro (h1 | h1)
      · exact .inl (by omega)
      · exact .inl (by omega)
    · rintro (h1 | h1)
      · by_cases e : trF l r = v
        · exact .inr ⟨hr, e⟩
        · exact .inl (by omega)
      · simp at h1⟩
theorem marked_end {n : Net} (hR : Right n) {M : List Bool} (h : Marked n.l (n.n + 1) [] M) : unmet M = 0 := by
  unfold unmet
  rw [List.countP_eq_zero]
  intro b hb
  obtain ⟨r, hr, rfl⟩ := List.mem_iff_getElem.1 hb
  have hr2 : r < 2 * n.l.length := by rw [← h.len]; exact hr
  have := (h.here r hr2).2 (.inl (by have := (trF_bd hR hr2).2; omega))
  rw [List.getD_eq_getElem?_getD, List.getElem?_eq_getElem hr] at this
  simp at this
  simp [this]
end Ne
end Go.Proofs.Ythgknkjdidbkdaa
