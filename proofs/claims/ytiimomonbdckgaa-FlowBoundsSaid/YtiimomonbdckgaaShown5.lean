/-
  Stage 5: the head that all laws share; rows of numbers that came in; sums of flows as slices. No condition.
-/
import Derived.Test.YtiimomonbdckgaaFadd
import Derived.Test.YtiimomonbdckgaaFrsm
namespace Go.Proofs.Ytiimomonbdckgaa
open Go.ChangeShapes Go.WideShapes Go.ChangeAt Go.RowKit
set_option linter.unusedVariables false
namespace Ne
theorem arow_at1 (w : World) {b : Nat} (hb : b = w.heap.size) (a : Arc) : ARow (w.alloc (.cells #[.int .i64 a.fr, .int .i64 a.to, .int .i64 a.cap] 42)) (some ⟨b, 0, none⟩) [a] := by
  subst hb
  refine .inr ⟨w.heap.size, 0, rfl, by simp, ?_⟩
  intro i y hi j v hv
  match i, hi with
  | 0, hi =>
    simp at hi; subst hi
    match j, hv with
    | 0, hv => simp [encA] at hv; subst hv; exact World.cell?_alloc_new w _ _ 0
    | 1, hv => simp [encA] at hv; subst hv; exact World.cell?_alloc_new w _ _ 1
    | 2, hv => simp [encA] at hv; subst hv; exact World.cell?_alloc_new w _ _ 2
    | (j + 3), hv => simp [encA] at hv
  | (i + 1), hi => simp at hi
theorem vaV_shown : vaV ⟨2, 1, 2, [⟨1, 2, 5⟩]⟩ [3] = 3 ∧ chkF ⟨2, 1, 2, [⟨1, 2, 5⟩]⟩ [3] = 0 := by decide
set_option maxHeartbeats 1000000 in
theorem shown_any (w : World) : Calls Try.prog 10 #[] w fun e w' => e = .returned (.bool true) ∧ Below w.heap.size w w' := by
  have HB := Lib.hid (((Below.refl w.heap.size w).alloc (Nat.le_refl _) (.cells #[.int .i64 1, .int .i64 2, .int .i64 5] 42)).alloc (by simp) (.cells #[.int .i64 3] 2))
  have c := fval_any ⟨2, 1, 2, [⟨1, 2, 5⟩]⟩ (some ⟨w.heap.size, 0, none⟩) 1 (some ⟨w.heap.size + 1, 0, none⟩) 1 [3] ((w.alloc (.cells #[.int .i64 1, .int .i64 2, .int .i64 5] 42)).alloc (.cells #[.int .i64 3] 2))
    ((arow_at1 w rfl ⟨1, 2, 5⟩).kept ((Below.refl _ _).alloc (Nat.le_refl _) _)) (irow_one' (w.alloc (.cells #[.int .i64 1, .int .i64 2, .int .i64 5] 42)) (b := w.heap.size + 1) (by simp) 3 2) (by simp) (by simp [in64])
  rw [vaV_shown.1, vaV_shown.2] at c
  have C := Lib.hid c
  clear c
  go_enter Try.func10, Try.ntmps10
  go_wp2_with fail
  refine C.out.mono ?_
  rintro e w1 ⟨rfl, hb⟩
  have HB1 := Lib.hid (HB.out.trans (hb.mono (by simp; omega)))
  clear hb
  go_wp2
  go_ret
  exact ⟨rfl, HB1.out⟩
/-- a row of numbers that came in -/
theorem ints_row {w : World} {a : Option Addr} {len cap : Nat} {zs : List Int} (h : (a = none ∧ len = 0 ∧ cap = 0 ∧ zs = []) ∨
    ∃ x, a = some x ∧ len ≤ cap ∧ cap ≤ maxLen ∧ zs.length = cap ∧ (∀ i, i < zs.length → w.cell? (x.add i) = some (.int .i64 (zs.getD i 0))) ∧ ∀ n ∈ zs, (Lit.int .i64 n).wf = true) :
    ∃ l : List Int, l.length = len ∧ IRow w a l ∧ (∀ n ∈ l, -9223372036854775808 ≤ n ∧ n ≤ 9223372036854775807) ∧ len ≤ cap ∧ cap ≤ maxLen ∧ (a = none → cap = 0) := by
  rcases h with ⟨rfl, rfl, rfl, rfl⟩ | ⟨x, rfl, hl, hm, hz, hcell, hwz⟩
  · exact ⟨[], rfl, .inl rfl, by simp, Nat.le_refl _, by unfold maxLen; omega, fun _ => rfl⟩
  · refine ⟨zs.take len, by simp; omega, ?_, ?_, hl, hm, fun h => by cases h⟩
    · by_cases hn : zs.take len = []
      · exact .inl hn
      · right
        have h0 : 0 < zs.length := by
          rcases zs with _ | ⟨z, r⟩
          · simp at hn
          · simp
        obtain ⟨b, off, spot⟩ := x
        have hc := hcell 0 h0
        have hspot : spot = none := by simpa [Addr.add] using World.cell?_spot hc
        subst hspot
        have e0 : (⟨b, off, none⟩ : Addr).add 0 = ⟨b, off, none⟩ := by unfold Addr.add; simp
        rw [e0] at hc
        refine ⟨b, off, rfl, World.block_lt_of_cell? w _ hc, fun i x hi j v hv => ?_⟩
        have hi2 := (List.getElem?_eq_some_iff.1 hi).1
        have hi' : i < len := by simp at hi2; omega
        have hi3 : i < zs.length := by simp at hi2; omega
        have := hcell i hi3
        rw [Rw.add_at] at this
        match j, hv with
        | 0, hv =>
          simp [encI] at hv; subst hv
          rw [show off + (i * 1 + 0) = off + i by omega, this]
          rw [List.getElem?_take, if_pos hi'] at hi
          simp [List.getD, hi]
        | (j + 1), hv => simp [encI] at hv
    · intro n hn
      have := bounds_i64 (hwz n (List.mem_of_mem_take hn))
      omega
theorem fadd_s (n : Net) (ao : Option Addr) (cap : Nat) (fo : Option Addr) (fc : Nat) (f : List Int) (go : Option Addr) (gc : Nat) (g : List Int) (w : World) (hr : ARow w ao n.l) (hf : IRow w fo f) (hg : IRow w go g) (hl : n.l.length ≤ 1000000) (hok : ∀ a ∈ n.l, in64 a.cap) :
    Calls Try.prog 15 #[encN n ao cap, .slice fo f.length fc, .slice go g.length gc] w fun e w' => ∃ o c, e = .returned (.tuple #[.slice o (addL n f g).length c, .int .i64 (addE n f g)]) ∧ IRow w' o (addL n f g) ∧ Below w.heap.size w w' :=
  (fadd_any n ao cap fo fc f go gc g w hr hf hg hl hok).mono fun e w' ⟨v, h1, h2, h3⟩ => by
    obtain ⟨o, c, hx, _, hi⟩ := irow_ofL h2
    exact ⟨o, c, by rw [h1, hx], hi, h3⟩
theorem addL_len (n : Net) (f g : List Int) : (addL n f g).length ≤ f.length := by
  unfold addL; split
  · simp
  · rw [sumL_len]; exact Nat.le_refl _
end Ne
end Go.Proofs.Ytiimomonbdckgaa
