/-
  Plain facts on one walk that is led: what its rounds read and write. No condition.
-/
import Derived.Test.YtcelggfnfnaajaaRtm
namespace Go.Proofs.Ytcelggfnfnaajaa
open Go.ChangeShapes Go.WideShapes Go.ChangeAt Go.RowKit
set_option linter.unusedVariables false
set_option linter.unusedSimpArgs false
namespace Ne
theorem take_getD {R : List Nat} {q : Nat} (h : q < R.length) : R.take (q + 1) = R.take q ++ [R.getD q 0] := by
  rw [List.take_add_one, List.getElem?_eq_getElem h, List.getD_eq_getElem?_getD, List.getElem?_eq_getElem h]; rfl
theorem getD_notin {R : List Nat} {q : Nat} (hn : R.Nodup) (h : q < R.length) : R.getD q 0 ∉ R.take q := by
  have h1 := List.nodup_append.1 (take_getD h ▸ (hn.sublist (List.take_sublist _ _)) : (R.take q ++ [R.getD q 0]).Nodup)
  intro hm
  exact h1.2.2 _ hm _ (by simp) rfl
/-- what stands at the q-th arc of the walk, ahead of what is led and while it is -/
structure Led (n : Net) (F : List Int) (R : List Nat) (m0 : Int) : Prop where
  arc : ∀ q, q < R.length → R.getD q 0 < n.l.length
  amt0 : ∀ q, q < R.length → 0 ≤ amt F (R.getD q 0) ∧ amt F (R.getD q 0) ≤ (arcAt n.l (R.getD q 0)).cap
  most : ∀ q, q ≤ R.length → 0 ≤ mostN n.l F m0 (R.take q) ∧ mostN n.l F m0 (R.take q) ≤ m0
  room : ∀ q, q < R.length → amt F (R.getD q 0) + mostN n.l F m0 R ≤ (arcAt n.l (R.getD q 0)).cap
  now : ∀ (m : Int) q, q < R.length → amt (addN m F (R.take q)) (R.getD q 0) = amt F (R.getD q 0)
  len : R.length ≤ n.l.length
theorem nodup_len : ∀ {L : Nat} {R : List Nat}, R.Nodup → (∀ k ∈ R, k < L) → R.length ≤ L
  | 0, R, _, h => by
    rcases R with _ | ⟨k, R⟩
    · simp
    · exact absurd (h k List.mem_cons_self) (by omega)
  | L + 1, R, hn, h => by
    by_cases hm : L ∈ R
    · have h1 := nodup_len (L := L) (R := R.erase L) (hn.erase L) fun k hk => by
        obtain ⟨h2, h3⟩ := (List.Nodup.mem_erase_iff hn).1 hk
        have := h k h3; omega
      rw [List.length_erase_of_mem hm] at h1; omega
    · have h1 := nodup_len (L := L) hn fun k hk => by
        have := h k hk
        have : k ≠ L := fun e => hm (e ▸ hk)
        omega
      omega
theorem led {n : Net} (hR : Right n) {F : List Int} (hF : Flow n F) (raw m0 : Int) (hm : 0 ≤ m0) : Led n F (walkN n F raw) m0 := by
  rcases walkN_way hR F raw with h | h
  · rw [h]
    exact ⟨fun q hq => by simp at hq, fun q hq => by simp at hq, fun q hq => by simp [mostN]; exact hm, fun q hq => by simp at hq, fun m q hq => by simp at hq, by simp⟩
  · generalize walkN n F raw = R at *
    have hk : ∀ q, q < R.length → R.getD q 0 ∈ R := fun q hq => getD_mem hq
    have hk2 : ∀ k ∈ R, k < F.length := fun k hk => by rw [hF.len]; exact (h.room k hk).1
    refine ⟨fun q hq => (h.room _ (hk q hq)).1, fun q hq => hF.wi _ (h.room _ (hk q hq)).1, fun q hq => ⟨mostN_nn _ _ hm fun k hk' => ?_, (mostN_le _ _).1⟩, fun q hq => ?_, fun m q hq => ?_, nodup_len h.nodup fun k hk => (h.room k hk).1⟩
    · have := h.room k (List.mem_of_mem_take hk'); omega
    · have := (mostN_le (l := n.l) (f := F) R m0).2 _ (hk q hq); omega
    · rw [addN_at _ _ (h.nodup.sublist (List.take_sublist _ _)) (fun k hk' => hk2 k (List.mem_of_mem_take hk')), if_neg (getD_notin h.nodup hq), Int.add_zero]
/-- behind j walks -/
def routeJ (n : Net) (ks : List Int) (j : Nat) : List Int := (ks.take j).foldl (stepR n) (List.replicate n.l.length 0)
theorem routeJ_succ (n : Net) {ks : List Int} {j : Nat} {x : Int} (h : ks[j]? = some x) : routeJ n ks (j + 1) = stepR n (routeJ n ks j) x := by
  unfold routeJ; rw [List.take_add_one, h, List.foldl_append]; rfl
theorem routeJ_flow {n : Net} (hR : Right n) (ks : List Int) (j : Nat) : Flow n (routeJ n ks j) := (fold_flow hR _ (flow_nought hR)).1
theorem routeJ_all {n : Net} {ks : List Int} {j : Nat} (h : j = 8 ∨ (j < 8 ∧ ks.length ≤ j)) : routeJ n ks j = routeN n ks := by
  unfold routeJ routeN
  rcases h with h | ⟨h1, h2⟩
  · rw [h]
  · rw [List.take_of_length_le h2, List.take_of_length_le (by omega)]
end Ne
end Go.Proofs.Ytcelggfnfnaajaa
