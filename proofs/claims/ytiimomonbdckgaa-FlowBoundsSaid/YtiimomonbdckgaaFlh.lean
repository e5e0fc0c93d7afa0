/-
  FlowHalves: plain facts on a flow without a part of it. No condition.
-/
import Derived.Test.YtiimomonbdckgaaFl5
namespace Go.Proofs.Ytiimomonbdckgaa
open Go.ChangeShapes Go.WideShapes Go.ChangeAt Go.RowKit
set_option linter.unusedVariables false
set_option linter.unusedSimpArgs false
namespace Ne
theorem irow_take {w : World} {ao : Option Addr} {l : List Int} (h : IRow w ao l) (k : Nat) : IRow w ao (l.take k) := by
  rcases h with h | ⟨b, off, rfl, hlt, hc⟩
  · left; rw [h]; simp
  · exact .inr ⟨b, off, rfl, hlt, fun i x hx j v hv => hc i x (by rw [List.getElem?_take] at hx; split at hx; exact hx; cases hx) j v hv⟩
/-- the first j amounts without those of g, nothing behind them -/
def subL (f g : List Int) (n j : Nat) : List Int := (List.range n).map fun i => if i < j then amt f i - amt g i else 0
theorem subL_len (f g : List Int) (n j : Nat) : (subL f g n j).length = n := by simp [subL]
theorem subL_at {f g : List Int} {n j i : Nat} (h : i < n) : amt (subL f g n j) i = if i < j then amt f i - amt g i else 0 := by simp [subL, amt, h]
theorem subL_zero (f g : List Int) (n : Nat) : subL f g n 0 = List.replicate n 0 := by
  refine ext_amt (by simp [subL]) fun i hi => ?_
  rw [subL_len] at hi
  rw [subL_at hi, if_neg (by omega)]; simp [amt, hi]
theorem subL_succ {f g : List Int} {n j : Nat} (h : j < n) : (subL f g n j).set j (amt f j - amt g j) = subL f g n (j + 1) := by
  refine ext_amt (by simp [subL]) fun i hi => ?_
  rw [List.length_set, subL_len] at hi
  rw [amt_set _ (by rw [subL_len]; exact h), subL_at hi, subL_at hi]
  by_cases e : i = j
  · subst e; rw [if_pos rfl, if_pos (by omega)]
  · rw [if_neg e]
    by_cases c : i < j
    · rw [if_pos c, if_pos (by omega)]
    · rw [if_neg c, if_neg (by omega)]
/-- a flow but for the sign of its value -/
structure Calm (n : Net) (f : List Int) : Prop where
  len : f.length = n.l.length
  wi : wi n.l f
  calm : ∀ v, v ≠ n.s → v ≠ n.t → exc n.l f v = 0
theorem calm_chk {n : Net} {f : List Int} (ck : checkN n = 0) (h : Calm n f) : chkF n f = 0 ∧ vaV n f = exc n.l f n.t := by
  have e : chkF n f = 0 := chkF_in (chkA_in ck h.len h.wi) fun v _ hs ht => h.calm _ hs ht
  exact ⟨e, by unfold vaV; rw [if_neg (by simpa using e)]⟩
theorem flow_calm {n : Net} {f : List Int} (h : Flow n f) : Calm n f := ⟨h.len, h.wi, h.calm⟩
theorem val_calm {n : Net} (ao : Option Addr) (cap : Nat) (fo : Option Addr) (fc : Nat) {f : List Int} (w : World) (ck : checkN n = 0) (hr : ARow w ao n.l) (hf : IRow w fo f) (hF : Calm n f) :
    Calls Try.prog 13 #[encN n ao cap, .slice fo n.l.length fc] w fun e w' => e = .returned (.tuple #[.int .i64 (exc n.l f n.t), .int .i64 0]) ∧ Below w.heap.size w w' := by
  have h := val_ok ao cap fo fc w ck hr hf hF.len
  rw [(calm_chk ck hF).2, (calm_chk ck hF).1] at h; exact h
theorem half_calm {n : Net} {f g : List Int} (hF : Flow n f) (hG : Flow n g) (hle : ∀ i, amt g i ≤ amt f i) : Calm n (subL f g n.l.length n.l.length) ∧ exc n.l (subL f g n.l.length n.l.length) n.t = exc n.l f n.t - exc n.l g n.t := by
  have e : ∀ i, i < n.l.length → amt (subL f g n.l.length n.l.length) i = amt f i - amt g i := fun i hi => by rw [subL_at hi, if_pos hi]
  refine ⟨⟨subL_len _ _ _ _, fun i hi => ?_, fun v hs ht => ?_⟩, exc_less e _⟩
  · have := hF.wi i hi; have := hG.wi i hi; have := hle i; rw [e i hi]; omega
  · rw [exc_less e, hF.calm v hs ht, hG.calm v hs ht]; rfl
theorem half_add {n : Net} {f g : List Int} (ck : checkN n = 0) (hF : Flow n f) (hG : Flow n g) (hle : ∀ i, amt g i ≤ amt f i) : addE n g (subL f g n.l.length n.l.length) = 0 ∧ addL n g (subL f g n.l.length n.l.length) = f := by
  have e : ∀ i, i < n.l.length → amt (subL f g n.l.length n.l.length) i = amt f i - amt g i := fun i hi => by rw [subL_at hi, if_pos hi]
  have h0 : addE n g (subL f g n.l.length n.l.length) = 0 := by
    unfold addE
    rw [if_neg (by simpa using flow_chkF ck hG), if_neg (by simpa using (calm_chk ck (half_calm hF hG hle).1).1), if_pos fun i hi => by rw [e i hi]; have := hF.wi i hi; omega]
  refine ⟨h0, ?_⟩
  unfold addL; rw [if_neg (by simpa using h0)]
  exact sumL_eq (by rw [hG.len, hF.len]) fun i hi => by rw [e i (by rw [← hG.len]; exact hi)]; omega
end Ne
end Go.Proofs.Ytiimomonbdckgaa
