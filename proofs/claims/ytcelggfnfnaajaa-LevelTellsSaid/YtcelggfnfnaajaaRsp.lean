/-
  Plain facts on tracks: where they begin and end, their room, walks, what is pushed along them, where one comes. No condition.
-/
import Derived.Test.YtcelggfnfnaajaaRtm
namespace Go.Proofs.Ytcelggfnfnaajaa
open Go.ChangeShapes Go.WideShapes Go.ChangeAt Go.RowKit
set_option linter.unusedVariables false
set_option linter.unusedSimpArgs false
namespace Ne
/-- where a track begins, ends, its room -/
def trF (l : List Arc) (r : Nat) : Int := if r % 2 = 1 then (arcAt l (r / 2)).to else (arcAt l (r / 2)).fr
def trT (l : List Arc) (r : Nat) : Int := if r % 2 = 1 then (arcAt l (r / 2)).fr else (arcAt l (r / 2)).to
def roomN (l : List Arc) (f : List Int) (r : Nat) : Int := if r % 2 = 1 then amt f (r / 2) else (arcAt l (r / 2)).cap - amt f (r / 2)
/-- the same of a number that is no track -/
def enF (l : List Arc) (r : Int) : Int := if 0 ≤ r ∧ r < 2 * (l.length : Int) then trF l r.toNat else 0
def enT (l : List Arc) (r : Int) : Int := if 0 ≤ r ∧ r < 2 * (l.length : Int) then trT l r.toNat else 0
/-- a track's other one -/
def opp (r : Nat) : Nat := if r % 2 = 1 then r - 1 else r + 1
theorem opp_half (r : Nat) : opp r / 2 = r / 2 := by unfold opp; split <;> omega
theorem opp_odd (r : Nat) : opp r % 2 = 1 - r % 2 := by unfold opp; split <;> omega
theorem opp_lt {r L : Nat} (h : r < 2 * L) : opp r < 2 * L := by unfold opp; split <;> omega
theorem opp_opp (r : Nat) : opp (opp r) = r := by unfold opp; split <;> split <;> omega
theorem trF_opp (l : List Arc) (r : Nat) : trF l (opp r) = trT l r := by
  unfold trF trT; rw [opp_half, opp_odd]
  by_cases h : r % 2 = 1
  · rw [h]; simp
  · rw [if_neg h, if_pos (by omega)]
theorem trT_opp (l : List Arc) (r : Nat) : trT l (opp r) = trF l r := by have := trF_opp l (opp r); rw [opp_opp] at this; exact this.symm
theorem room_opp (l : List Arc) (f : List Int) (r : Nat) : roomN l f r + roomN l f (opp r) = (arcAt l (r / 2)).cap := by
  unfold roomN; rw [opp_half, opp_odd]
  by_cases h : r % 2 = 1
  · rw [h]; simp; omega
  · rw [if_neg h, if_pos (by omega)]; omega
theorem room_even (l : List Arc) (f : List Int) (i : Nat) : roomN l f (2 * i) = (arcAt l i).cap - amt f i := by
  unfold roomN; rw [if_neg (by omega), show 2 * i / 2 = i by omega]
theorem room_odd (l : List Arc) (f : List Int) (i : Nat) : roomN l f (2 * i + 1) = amt f i := by
  unfold roomN; rw [if_pos (by omega), show (2 * i + 1) / 2 = i by omega]
theorem trF_even (l : List Arc) (i : Nat) : trF l (2 * i) = (arcAt l i).fr := by unfold trF; rw [if_neg (by omega), show 2 * i / 2 = i by omega]
theorem trT_even (l : List Arc) (i : Nat) : trT l (2 * i) = (arcAt l i).to := by unfold trT; rw [if_neg (by omega), show 2 * i / 2 = i by omega]
theorem trF_odd (l : List Arc) (i : Nat) : trF l (2 * i + 1) = (arcAt l i).to := by unfold trF; rw [if_pos (by omega), show (2 * i + 1) / 2 = i by omega]
theorem trT_odd (l : List Arc) (i : Nat) : trT l (2 * i + 1) = (arcAt l i).fr := by unfold trT; rw [if_pos (by omega), show (2 * i + 1) / 2 = i by omega]
theorem enF_in {l : List Arc} {r : Nat} (h : r < 2 * l.length) : enF l (r : Int) = trF l r := by unfold enF; rw [if_pos (by omega), Int.toNat_natCast]
theorem enT_in {l : List Arc} {r : Nat} (h : r < 2 * l.length) : enT l (r : Int) = trT l r := by unfold enT; rw [if_pos (by omega), Int.toNat_natCast]
theorem enF_out {l : List Arc} {r : Int} (h : r < 0 ∨ 2 * (l.length : Int) ≤ r) : enF l r = 0 := by unfold enF; rw [if_neg (by omega)]
theorem enT_out {l : List Arc} {r : Int} (h : r < 0 ∨ 2 * (l.length : Int) ≤ r) : enT l r = 0 := by unfold enT; rw [if_neg (by omega)]
theorem trF_bd {n : Net} (hR : Right n) {r : Nat} (h : r < 2 * n.l.length) : 1 ≤ trF n.l r ∧ trF n.l r ≤ n.n := by
  have hi : r / 2 < n.l.length := by omega
  have := hR.fr0 _ hi; have := hR.fr1 _ hi; have := hR.to0 _ hi; have := hR.to1 _ hi
  unfold trF; split <;> omega
theorem trT_bd {n : Net} (hR : Right n) {r : Nat} (h : r < 2 * n.l.length) : 1 ≤ trT n.l r ∧ trT n.l r ≤ n.n := by
  rw [← trF_opp]; exact trF_bd hR (opp_lt h)
theorem room_nn {l : List Arc} {f : List Int} (hw : wi l f) {r : Nat} (h : r < 2 * l.length) : 0 ≤ roomN l f r ∧ roomN l f r ≤ (arcAt l (r / 2)).cap := by
  have := hw (r / 2) (by omega)
  unfold roomN; split <;> omega
theorem enF_some {n : Net} (hR : Right n) {r : Int} (h : enF n.l r ≠ 0) : ∃ k : Nat, r = (k : Int) ∧ k < 2 * n.l.length := by
  unfold enF at h
  by_cases c : 0 ≤ r ∧ r < 2 * (n.l.length : Int)
  · exact ⟨r.toNat, by omega, by omega⟩
  · rw [if_neg c] at h; exact absurd rfl h
/-- the room of the first k tracks; the tracks of a node among them -/
def roomL (l : List Arc) (f : List Int) (k : Nat) : List Int := (List.range k).map (roomN l f)
theorem roomL_len (l : List Arc) (f : List Int) (k : Nat) : (roomL l f k).length = k := by simp [roomL]
theorem roomL_succ (l : List Arc) (f : List Int) (k : Nat) : roomL l f (k + 1) = roomL l f k ++ [roomN l f k] := by simp [roomL, List.range_succ]
theorem roomL_at (l : List Arc) (f : List Int) {i k : Nat} (h : i < k) : amt (roomL l f k) i = roomN l f i := by simp [roomL, amt, h]
def fromL (l : List Arc) (v : Int) (k : Nat) : List Nat := (List.range k).filter fun r => decide (trF l r = v)
theorem fromL_zero (l : List Arc) (v : Int) : fromL l v 0 = [] := rfl
theorem fromL_hit {l : List Arc} {v : Int} {k : Nat} (h : trF l k = v) : fromL l v (k + 1) = fromL l v k ++ [k] := by
  unfold fromL; rw [List.range_succ, List.filter_append]; simp [h]
theorem fromL_miss {l : List Arc} {v : Int} {k : Nat} (h : trF l k ≠ v) : fromL l v (k + 1) = fromL l v k := by
  unfold fromL; rw [List.range_succ, List.filter_append]; simp [h]
theorem fromL_len (l : List Arc) (v : Int) (k : Nat) : (fromL l v k).length ≤ k := by
  unfold fromL; exact Nat.le_trans (List.length_filter_le _ _) (by simp)
theorem fromL_mem {l : List Arc} {v : Int} {k r : Nat} : r ∈ fromL l v k ↔ r < k ∧ trF l r = v := by
  unfold fromL; rw [List.mem_filter, List.mem_range, decide_eq_true_eq]
/-- where a walk comes from u on -/
def stW (l : List Arc) (o : Option Int) (r : Int) : Option Int := match o with
  | some u => if enF l r = u then some (enT l r) else none
  | none => none
def walkAt (l : List Arc) (s : Int) (W : List Int) : Option Int := W.foldl (stW l) (some s)
theorem stW_none (l : List Arc) : ∀ W : List Int, W.foldl (stW l) none = none
  | [] => rfl
  | _ :: W => stW_none l W
theorem walkAt_snoc (l : List Arc) (s : Int) (W : List Int) (r : Int) : walkAt l s (W ++ [r]) = stW l (walkAt l s W) r := by unfold walkAt; rw [List.foldl_append]; rfl
theorem walkAt_app (l : List Arc) (s : Int) (W V : List Int) : walkAt l s (W ++ V) = V.foldl (stW l) (walkAt l s W) := by unfold walkAt; rw [List.foldl_append]
theorem take_amt {W : List Int} {k : Nat} (h : k < W.length) : W.take (k + 1) = W.take k ++ [amt W k] := by
  rw [List.take_add_one, at_amt h]; rfl
theorem walkAt_take {l : List Arc} {s : Int} {W : List Int} {k : Nat} (h : k < W.length) : walkAt l s (W.take (k + 1)) = stW l (walkAt l s (W.take k)) (amt W k) := by
  rw [take_amt h, walkAt_snoc]
theorem walkAt_dead {l : List Arc} {s : Int} {W : List Int} {k : Nat} (h : walkAt l s (W.take k) = none) : walkAt l s W = none := by
  have e := walkAt_app l s (W.take k) (W.drop k)
  rw [List.take_append_drop] at e
  rw [e, h, stW_none]
def isWalk (n : Net) (W : List Int) : Bool := decide (walkAt n.l n.s W = some n.t)
theorem isWalk_no {n : Net} {W : List Int} {k : Nat} (h : walkAt n.l n.s (W.take k) = none) : isWalk n W = false := by
  unfold isWalk; rw [walkAt_dead h]; simp
theorem isWalk_end {n : Net} {W : List Int} {u : Int} (h : walkAt n.l n.s W = some u) : isWalk n W = decide (u = n.t) := by
  unfold isWalk; rw [h]; simp
theorem walkAt_pos {n : Net} (hR : Right n) {W : List Int} : ∀ {k : Nat} {u : Int}, k ≤ W.length → walkAt n.l n.s (W.take k) = some u → 1 ≤ u ∧ u ≤ n.n ∧ ∀ i, i < k → ∃ r : Nat, amt W i = (r : Int) ∧ r < 2 * n.l.length
  | 0, u, _, h => by
    simp [walkAt] at h; subst h; exact ⟨hR.s0, hR.s1, fun i hi => absurd hi (by omega)⟩
  | k + 1, u, hk, h => by
    rw [walkAt_take (by omega)] at h
    rcases e : walkAt n.l n.s (W.take k) with _ | u0
    · rw [e] at h; cases h
    · obtain ⟨h1, h2, h3⟩ := walkAt_pos hR (W := W) (k := k) (by omega) e
      rw [e] at h
      unfold stW at h
      by_cases c : enF n.l (amt W k) = u0
      · simp only [if_pos c] at h
        obtain ⟨r, hr, hr2⟩ := enF_some hR (r := amt W k) (by omega)
        have hu := Option.some.inj h
        rw [hr, enT_in hr2] at hu
        have := trT_bd hR hr2
        refine ⟨by omega, by omega, fun i hi => ?_⟩
        by_cases e2 : i = k
        · subst e2; exact ⟨r, hr, hr2⟩
        · exact h3 i (by omega)
      · simp only [if_neg c] at h; cases h
/-- amounts behind x more along a track -/
def put1 (f : List Int) (x : Int) (r : Nat) : List Int := f.set (r / 2) (if r % 2 = 1 then amt f (r / 2) - x else amt f (r / 2) + x)
def stP (l : List Arc) (x : Int) (o : Option (List Int)) (r : Int) : Option (List Int) := match o with
  | some f => if roomN l f r.toNat < x then none else some (put1 f x r.toNat)
  | none => none
def pushN (l : List Arc) (f : List Int) (x : Int) (W : List Int) : Option (List Int) := W.foldl (stP l x) (some f)
theorem stP_none (l : List Arc) (x : Int) : ∀ W : List Int, W.foldl (stP l x) none = none
  | [] => rfl
  | _ :: W => stP_none l x W
theorem pushN_app (l : List Arc) (f : List Int) (x : Int) (W V : List Int) : pushN l f x (W ++ V) = V.foldl (stP l x) (pushN l f x W) := by unfold pushN; rw [List.foldl_append]
theorem pushN_take {l : List Arc} {f : List Int} {x : Int} {W : List Int} {k : Nat} (h : k < W.length) : pushN l f x (W.take (k + 1)) = stP l x (pushN l f x (W.take k)) (amt W k) := by
  rw [take_amt h, pushN_app]; rfl
theorem pushN_dead {l : List Arc} {f : List Int} {x : Int} {W : List Int} {k : Nat} (h : pushN l f x (W.take k) = none) : pushN l f x W = none := by
  have e := pushN_app l f x (W.take k) (W.drop k)
  rw [List.take_append_drop] at e
  rw [e, h, stP_none]
theorem put1_len (f : List Int) (x : Int) (r : Nat) : (put1 f x r).length = f.length := by simp [put1]
theorem put1_at {f : List Int} {x : Int} {r : Nat} (h : r / 2 < f.length) (i : Nat) : amt (put1 f x r) i = if i = r / 2 then (if r % 2 = 1 then amt f i - x else amt f i + x) else amt f i := by
  unfold put1; rw [amt_set _ h]
  by_cases e : i = r / 2
  · subst e; simp
  · rw [if_neg e, if_neg e]
theorem put1_wi {l : List Arc} {f : List Int} {x : Int} {r : Nat} (hl : f.length = l.length) (hw : wi l f) (hx : 0 ≤ x) (hr : r < 2 * l.length) (h : x ≤ roomN l f r) : wi l (put1 f x r) := by
  intro i hi
  rw [put1_at (by omega)]
  have h1 := hw i hi
  unfold roomN at h
  by_cases e : i = r / 2
  · subst e
    rw [if_pos rfl]
    by_cases c : r % 2 = 1
    · rw [if_pos c] at h ⊢; omega
    · rw [if_neg c] at h ⊢; omega
  · rw [if_neg e]; exact h1
/-- what is wrong with a push; what comes of it -/
def pushE (n : Net) (f W : List Int) (x : Int) : Int := if chkF n f ≠ 0 then chkF n f else if isWalk n W = false then 1 else if x < 1 then 3 else if (pushN n.l f x W).isNone then 9 else 0
def pushV (n : Net) (f W : List Int) (x : Int) : List Int := if pushE n f W x ≠ 0 then [] else (pushN n.l f x W).getD []
/-- where one comes over tracks of room x or more -/
inductive Rch (n : Net) (f : List Int) (x : Int) : Int → Prop
  | base : Rch n f x n.s
  | step {r : Nat} : r < 2 * n.l.length → x ≤ roomN n.l f r → Rch n f x (trF n.l r) → Rch n f x (trT n.l r)
structure IsReach (n : Net) (f : List Int) (x : Int) (M : List Bool) : Prop where
  len : M.length = n.n.toNat + 1
  at_s : M.getD n.s.toNat false = true
  sound : ∀ i : Nat, M.getD i false = true → Rch n f x (i : Int)
  closed : ∀ r : Nat, r < 2 * n.l.length → x ≤ roomN n.l f r → M.getD (trF n.l r).toNat false = true → M.getD (trT n.l r).toNat false = true
theorem reach_all {n : Net} (hR : Right n) {f : List Int} {x : Int} {M : List Bool} (h : IsReach n f x M) {v : Int} (hv : Rch n f x v) : M.getD v.toNat false = true := by
  induction hv with
  | base => exact h.at_s
  | step hr hx _ ih => exact h.closed _ hr hx ih
theorem reach_iff {n : Net} (hR : Right n) {f : List Int} {x : Int} {M : List Bool} (h : IsReach n f x M) (i : Nat) : M.getD i false = true ↔ Rch n f x (i : Int) :=
  ⟨h.sound i, fun hv => by have := reach_all hR h hv; simpa using this⟩
theorem reach_one {n : Net} (hR : Right n) {f : List Int} {x : Int} {M1 M2 : List Bool} (h1 : IsReach n f x M1) (h2 : IsReach n f x M2) : M1 = M2 := by
  apply List.ext_getElem (by rw [h1.len, h2.len])
  intro i g1 g2
  have a := reach_iff hR h1 i
  have b := reach_iff hR h2 i
  have c : M1.getD i false = true ↔ M2.getD i false = true := a.trans b.symm
  simp only [List.getD_eq_getElem?_getD, List.getElem?_eq_getElem g1, List.getElem?_eq_getElem g2, Option.getD_some] at c
  exact Bool.eq_iff_iff.2 c
theorem rch_bd {n : Net} (hR : Right n) {f : List Int} {x v : Int} (h : Rch n f x v) : 1 ≤ v ∧ v ≤ n.n := by
  cases h with
  | base => exact ⟨hR.s0, hR.s1⟩
  | step hr _ _ => exact trT_bd hR hr
theorem cap_topR {n : Net} (hR : Right n) {i : Nat} (hi : i < n.l.length) : (arcAt n.l i).cap ≤ 4611686018427387903 := by
  have e : capS n.l (i + 1) ≤ capS n.l n.l.length := sumTo_mono hR.cap0 (by omega)
  have e2 : 0 ≤ capS n.l i := sumTo_nn fun j hj => hR.cap0 j (by omega)
  have e3 : capS n.l (i + 1) = capS n.l i + (arcAt n.l i).cap := rfl
  have := hR.sum
  omega
def reE (n : Net) (f : List Int) (x : Int) : Int := if chkF n f ≠ 0 then chkF n f else if x < 1 then 3 else 0
end Ne
end Go.Proofs.Ytcelggfnfnaajaa
