/-
  Stage 6: the contracts of Push and of the document's From as slices. No condition.
-/
import Derived.Test.YtdnchebbdkgccaaRfl6
import Derived.Test.YtdnchebbdkgccaaRes3
import Derived.Test.YtdnchebbdkgccaaFrsm
import Derived.Test.YtdnchebbdkgccaaSamei
namespace Go.Proofs.Ytdnchebbdkgccaa
open Go.ChangeShapes Go.WideShapes Go.ChangeAt Go.RowKit
set_option linter.unusedVariables false
set_option linter.unusedSimpArgs false
namespace Ne
theorem dpush_s (n : Net) (ao : Option Addr) (cap : Nat) (fo : Option Addr) (fc : Nat) (f : List Int) (wo : Option Addr) (wc : Nat) (W : List Int) (x : Int) (w : World) (hr : ARow w ao n.l) (hf : IRow w fo f) (hw : IRow w wo W) (hl : n.l.length ≤ 1000000) (hok : ∀ a ∈ n.l, in64 a.cap) (hW : W.length ≤ 1000000) (h64 : ∀ x ∈ W, in64 x) (hx : in64 x) :
    Calls Try.prog 27 #[encN n ao cap, .slice fo f.length fc, .slice wo W.length wc, .int .i64 x] w fun e w' => ∃ o c, e = .returned (.tuple #[.slice o (pushV n f W x).length c, .int .i64 (pushE n f W x)]) ∧ IRow w' o (pushV n f W x) ∧ Below w.heap.size w w' :=
  (dpush_any n ao cap fo fc f wo wc W x w hr hf hw hl hok hW h64 hx).mono fun e w' ⟨v, h1, h2, h3⟩ => by
    obtain ⟨o, c, hx, _, hi⟩ := irow_ofL h2
    exact ⟨o, c, by rw [h1, hx], hi, h3⟩
theorem rpush_s (n : Net) (ao : Option Addr) (cap : Nat) (fo : Option Addr) (fc : Nat) (f : List Int) (wo : Option Addr) (wc : Nat) (W : List Int) (x : Int) (w : World) (hr : ARow w ao n.l) (hf : IRow w fo f) (hw : IRow w wo W) (hl : n.l.length ≤ 1000000) (hW : W.length ≤ 1000000) (h64 : ∀ x ∈ W, in64 x) (hx : in64 x) :
    Calls Try.prog 36 #[encN n ao cap, .slice fo f.length fc, .slice wo W.length wc, .int .i64 x] w fun e w' => ∃ o c, e = .returned (.tuple #[.slice o (pushV n f W x).length c, .int .i64 (pushE n f W x)]) ∧ IRow w' o (pushV n f W x) ∧ Below w.heap.size w w' :=
  (rpush_any n ao cap fo fc f wo wc W x w hr hf hw hl hW h64 hx).mono fun e w' ⟨v, h1, h2, h3⟩ => by
    obtain ⟨o, c, hx, _, hi⟩ := irow_ofL h2
    exact ⟨o, c, by rw [h1, hx], hi, h3⟩
theorem pushV_len (n : Net) (f W : List Int) (x : Int) : (pushV n f W x).length ≤ 1000000 := by
  by_cases e : pushE n f W x = 0
  · have hc : chkF n f = 0 := by
      by_cases c : chkF n f = 0
      · exact c
      · have := (pushE_bad (W := W) (x := x) c).1; rw [e] at this; exact this.symm
    obtain ⟨-, hR, hfl, hwi⟩ := chkA_ok (chkF_ok hc).1
    have hw : isWalk n W = true := by
      rcases h : isWalk n W with _ | _
      · have := (pushE_no (x := x) hc h).1; rw [e] at this; cases this
      · rfl
    have hx : 1 ≤ x := by
      by_cases h : x < 1
      · have := (pushE_low hc hw h).1; rw [e] at this; cases this
      · omega
    rw [(pushE_go hc hw hx).2]
    rcases hp : pushN n.l f x W with _ | g
    · simp
    · have h1 := push_facts hR hfl hwi (show 0 ≤ x by omega) (W := W) (k := W.length) (Nat.le_refl _) (u := n.t) (g := g) (by rw [List.take_length]; exact isWalk_at hw) (by rw [List.take_length]; exact hp)
      have := hR.len
      simp only [Option.getD_some]
      omega
  · unfold pushV; rw [if_pos e]; simp
section
variable {n : Net} (ao : Option Addr) (cap : Nat) (fo : Option Addr) (fc : Nat) {f : List Int} (w : World) (ck : checkN n = 0) (hr : ARow w ao n.l) (hf : IRow w fo f) (hF : Flow n f)
include ck hr hf hF
theorem push_flowC (wo : Option Addr) (wc : Nat) (W : List Int) (x : Int) (hw : IRow w wo W) (hW : W.length ≤ 1000000) (h64 : ∀ x ∈ W, in64 x) (hx : in64 x) :
    Calls Try.prog 27 #[encN n ao cap, .slice fo n.l.length fc, .slice wo W.length wc, .int .i64 x] w fun e w' => ∃ o c, e = .returned (.tuple #[.slice o (pushV n f W x).length c, .int .i64 (pushE n f W x)]) ∧ IRow w' o (pushV n f W x) ∧ Below w.heap.size w w' := by
  have h := dpush_s n ao cap fo fc f wo wc W x w hr hf hw (by have := (right_of ck).len; omega) (cap_64 (right_of ck)) hW h64 hx
  rw [hF.len] at h
  exact h
end
end Ne
end Go.Proofs.Ytdnchebbdkgccaa
