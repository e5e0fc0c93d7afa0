/-
  Stage 5: plain facts on sums of amounts, and the contracts of flow at what is known to be a flow. No condition.
-/
import Derived.Test.YtiimomonbdckgaaShown5
import Derived.Test.YtiimomonbdckgaaRtm
namespace Go.Proofs.Ytiimomonbdckgaa
open Go.ChangeShapes Go.WideShapes Go.ChangeAt Go.RowKit
set_option linter.unusedVariables false
set_option linter.unusedSimpArgs false
namespace Ne
theorem arow_ofA {w : World} {B n cap : Nat} {ao : Option Addr} {l : List Arc} (h : OwnA w B (.slice ao n cap) l) : ARow w ao l := by
  obtain ⟨ao', cap', h1, _, _, h4, h5, _⟩ := Rw.own_row encA_len h
  simp only [Value.slice.injEq] at h1
  obtain ⟨rfl, rfl, rfl⟩ := h1
  exact h5
theorem cap_64 {n : Net} (hR : Right n) : ∀ a ∈ n.l, in64 a.cap := by
  intro a ha
  obtain ⟨i, hi, rfl⟩ := List.mem_iff_getElem.1 ha
  have e : arcAt n.l i = n.l[i] := by simp [arcAt, hi]
  have h0 := hR.cap0 i hi
  have e1 : capS n.l (i + 1) ≤ capS n.l n.l.length := sumTo_mono hR.cap0 (by omega)
  have e2 : 0 ≤ capS n.l i := sumTo_nn fun j hj => hR.cap0 j (by omega)
  have e3 : capS n.l (i + 1) = capS n.l i + (arcAt n.l i).cap := rfl
  have := hR.sum
  rw [e] at h0 e3
  unfold in64; omega
section
variable {n : Net} (ao : Option Addr) (cap : Nat) (fo : Option Addr) (fc : Nat) {f : List Int} (w : World) (ck : checkN n = 0) (hr : ARow w ao n.l) (hf : IRow w fo f)
include ck hr hf
theorem val_ok (hl : f.length = n.l.length) : Calls Try.prog 13 #[encN n ao cap, .slice fo n.l.length fc] w fun e w' => e = .returned (.tuple #[.int .i64 (vaV n f), .int .i64 (chkF n f)]) ∧ Below w.heap.size w w' := by
  have h := fval_any n ao cap fo fc f w hr hf (by have := (right_of ck).len; omega) (cap_64 (right_of ck))
  rw [hl] at h; exact h
theorem val_flow (hF : Flow n f) : Calls Try.prog 13 #[encN n ao cap, .slice fo n.l.length fc] w fun e w' => e = .returned (.tuple #[.int .i64 (exc n.l f n.t), .int .i64 0]) ∧ Below w.heap.size w w' := by
  have h := val_ok ao cap fo fc w ck hr hf hF.len
  rw [flow_vaV ck hF, flow_chkF ck hF] at h; exact h
theorem chk_ok (hl : f.length = n.l.length) : Calls Try.prog 17 #[encN n ao cap, .slice fo n.l.length fc] w fun e w' => e = .returned (.int .i64 (chkF n f)) ∧ Below w.heap.size w w' := by
  have h := fchk_any n ao cap fo fc f w hr hf (by have := (right_of ck).len; omega) (cap_64 (right_of ck))
  rw [hl] at h; exact h
theorem exs_ok (hl : f.length = n.l.length) (v : Int) : Calls Try.prog 11 #[encN n ao cap, .slice fo n.l.length fc, .int .i64 v] w fun e w' => e = .returned (.tuple #[.int .i64 (exV n f v), .int .i64 (exE n f v)]) ∧ Below w.heap.size w w' := by
  have h := fexc_any n ao cap fo fc f w hr hf (by have := (right_of ck).len; omega) (cap_64 (right_of ck)) v
  rw [hl] at h; exact h
theorem exs_in (hl : f.length = n.l.length) (hw : wi n.l f) (v : Int) (h1 : 1 ≤ v) (h2 : v ≤ n.n) : Calls Try.prog 11 #[encN n ao cap, .slice fo n.l.length fc, .int .i64 v] w fun e w' => e = .returned (.tuple #[.int .i64 (exc n.l f v), .int .i64 0]) ∧ Below w.heap.size w w' := by
  have h := exs_ok ao cap fo fc w ck hr hf hl v
  have e : exE n f v = 0 := by unfold exE; rw [if_neg (by simpa using chkA_in ck hl hw), if_neg (by omega)]
  have e2 : exV n f v = exc n.l f v := by unfold exV; rw [if_neg (by simpa using e)]
  rw [e, e2] at h; exact h
theorem add_ok {g : List Int} (go : Option Addr) (gc : Nat) (hg : IRow w go g) (hl : f.length = n.l.length) (hl2 : g.length = n.l.length) : Calls Try.prog 15 #[encN n ao cap, .slice fo n.l.length fc, .slice go n.l.length gc] w fun e w' => ∃ o c, e = .returned (.tuple #[.slice o (addL n f g).length c, .int .i64 (addE n f g)]) ∧ IRow w' o (addL n f g) ∧ Below w.heap.size w w' := by
  have h := fadd_s n ao cap fo fc f go gc g w hr hf hg (by have := (right_of ck).len; omega) (cap_64 (right_of ck))
  rw [hl, hl2] at h; exact h
end
theorem ownL_cell {w : World} {B g n cap : Nat} {l : List Int} (h : OwnL w B (.slice (some ⟨g, 0, none⟩) n cap) l) {i : Nat} (hi : i < l.length) : w.cell? ⟨g, i, none⟩ = some (.int .i64 (amt l i)) ∧ w.frozen? ⟨g, i, none⟩ = false := by
  obtain ⟨g', e, _, _, h1, h2⟩ := own_cells encI_len h (at_amt hi)
  cases e
  exact ⟨by simpa using h1 0 _ rfl, h2 i⟩
theorem ownL_put {w : World} {B g n cap : Nat} {l : List Int} (h : OwnL w B (.slice (some ⟨g, 0, none⟩) n cap) l) {i : Nat} (hi : i < l.length) (y : Int) : OwnL (w.setCell ⟨g, i, none⟩ (.int .i64 y)) B (.slice (some ⟨g, 0, none⟩) n cap) (l.set i y) := by
  have := own_put encI_len h (at_amt hi) (j := 0) (by decide) (u := .int .i64 y) (y := y) rfl
  simpa using this
theorem irow_ofL' {w : World} {B n c : Nat} {o : Option Addr} {l : List Int} (h : OwnL w B (.slice o n c) l) : IRow w o l := by
  obtain ⟨ao, cap, h1, _, _, _, h5, _⟩ := Rw.own_row encI_len h
  simp only [Value.slice.injEq] at h1
  obtain ⟨rfl, _, rfl⟩ := h1
  exact h5
/-- amounts on one arc more -/
theorem excC_snoc (c : Arc → Int) {l : List Arc} {f : List Int} (a : Arc) (x : Int) (hl : f.length = l.length) : excC c (l ++ [a]) (f ++ [x]) = excC c l f + c a * x := by
  unfold excC
  rw [List.length_append, List.length_singleton]
  show sumTo _ l.length + c (arcAt (l ++ [a]) l.length) * amt (f ++ [x]) l.length = _
  have e1 : arcAt (l ++ [a]) l.length = a := by simp [arcAt]
  have e2 : amt (f ++ [x]) l.length = x := by rw [← hl]; simp [amt]
  rw [e1, e2]
  congr 1
  refine sumTo_congr fun i hi => ?_
  have e3 : arcAt (l ++ [a]) i = arcAt l i := by simp [arcAt, List.getElem?_append_left hi]
  have e4 : amt (f ++ [x]) i = amt f i := by simp [amt, List.getElem?_append_left (show i < f.length by omega)]
  rw [e3, e4]
theorem exc_snoc {l : List Arc} {f : List Int} (a : Arc) (x : Int) (hl : f.length = l.length) (v : Int) : exc (l ++ [a]) (f ++ [x]) v = exc l f v + dl v a * x := by rw [exc_eq, exc_eq, excC_snoc _ a x hl]
theorem dl_loop (v u c : Int) : dl v ⟨u, u, c⟩ = 0 := by unfold dl; simp
/-- two rows of amounts together, one without the other, one times a number -/
theorem exc_plus {l : List Arc} {f g h : List Int} (e : ∀ i, i < l.length → amt h i = amt f i + amt g i) (v : Int) : exc l h v = exc l f v + exc l g v := by
  rw [exc_eq, exc_eq, exc_eq]
  unfold excC
  rw [← sumTo_add]
  exact sumTo_congr fun i hi => by rw [e i hi, Int.mul_add]
theorem exc_less {l : List Arc} {f g h : List Int} (e : ∀ i, i < l.length → amt h i = amt f i - amt g i) (v : Int) : exc l h v = exc l f v - exc l g v := by
  rw [exc_eq, exc_eq, exc_eq]
  unfold excC
  rw [← sumTo_sub]
  exact sumTo_congr fun i hi => by rw [e i hi, Int.mul_sub]
theorem exc_times {l k : List Arc} {f g : List Int} (x : Int) (hl : k.length = l.length) (h1 : ∀ i, i < l.length → (arcAt k i).fr = (arcAt l i).fr ∧ (arcAt k i).to = (arcAt l i).to) (e : ∀ i, i < l.length → amt g i = x * amt f i) (v : Int) : exc k g v = x * exc l f v := by
  rw [exc_eq, exc_eq]
  unfold excC
  rw [hl, ← sumTo_mul]
  refine sumTo_congr fun i hi => ?_
  have h2 : dl v (arcAt k i) = dl v (arcAt l i) := by unfold dl; rw [(h1 i hi).1, (h1 i hi).2]
  rw [e i hi, h2, ← Int.mul_assoc, Int.mul_comm (dl v (arcAt l i)) x, Int.mul_assoc]
/-- a sum of flows -/
theorem flow_plus {n : Net} {f g h : List Int} (hF : Flow n f) (hG : Flow n g) (hl : h.length = n.l.length) (e : ∀ i, i < n.l.length → amt h i = amt f i + amt g i) (hc : ∀ i, i < n.l.length → amt f i + amt g i ≤ (arcAt n.l i).cap) : Flow n h := by
  refine ⟨hl, fun i hi => ?_, fun v hs ht => ?_, ?_, ?_⟩
  · have := hF.wi i hi; have := hG.wi i hi; rw [e i hi]; exact ⟨by omega, hc i hi⟩
  · rw [exc_plus e, hF.calm v hs ht, hG.calm v hs ht]; rfl
  · rw [exc_plus e, exc_plus e, hF.ends, hG.ends]; omega
  · rw [exc_plus e]; have := hF.val; have := hG.val; omega
theorem addE_fit {n : Net} {f g : List Int} (ck : checkN n = 0) (hF : Flow n f) (hG : Flow n g) (hc : ∀ i, i < n.l.length → amt f i + amt g i ≤ (arcAt n.l i).cap) : addE n f g = 0 ∧ addL n f g = sumL f g := by
  have e : addE n f g = 0 := by unfold addE; rw [if_neg (by simpa using flow_chkF ck hF), if_neg (by simpa using flow_chkF ck hG), if_pos hc]
  exact ⟨e, by unfold addL; rw [if_neg (by simpa using e)]⟩
theorem sumL_eq {f g h : List Int} (hl : f.length = h.length) (e : ∀ i, i < f.length → amt f i + amt g i = amt h i) : sumL f g = h :=
  ext_amt (by rw [sumL_len, hl]) fun i hi => by rw [sumL_len] at hi; rw [sumL_at hi, e i hi]
end Ne
end Go.Proofs.Ytiimomonbdckgaa
