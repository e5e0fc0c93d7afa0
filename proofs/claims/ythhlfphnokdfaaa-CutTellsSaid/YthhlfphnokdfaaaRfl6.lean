/-
  Stage 6: the contracts of residual as slices; at what is known to be a flow. No condition.
-/
import Derived.Test.YthhlfphnokdfaaaRes7
namespace Go.Proofs.Ythhlfphnokdfaaa
open Go.ChangeShapes Go.WideShapes Go.ChangeAt Go.RowKit
set_option linter.unusedVariables false
set_option linter.unusedSimpArgs false
namespace Ne
theorem irow_ofI2 {w : World} {B : Nat} {x : Value} {l : List Int} (h : OwnI w B x l) : ∃ ao cap, x = .slice ao l.length cap ∧ (ao = none → cap = 0) ∧ IRow w ao l := by
  obtain ⟨ao, cap, h1, _, _, h4, h5, _⟩ := Rw.own_row encI_len h
  exact ⟨ao, cap, h1, h4, h5⟩
theorem droom_s (n : Net) (ao : Option Addr) (cap : Nat) (fo : Option Addr) (fc : Nat) (f : List Int) (w : World) (hr : ARow w ao n.l) (hf : IRow w fo f) (hl : n.l.length ≤ 1000000) (hok : ∀ a ∈ n.l, in64 a.cap) :
    Calls Try.prog 32 #[encN n ao cap, .slice fo f.length fc] w fun e w' => ∃ o c, e = .returned (.tuple #[.slice o (roomV n f).length c, .int .i64 (chkF n f)]) ∧ IRow w' o (roomV n f) ∧ Below w.heap.size w w' :=
  (droom_any n ao cap fo fc f w hr hf hl hok).mono fun e w' ⟨v, h1, h2, h3⟩ => by
    obtain ⟨o, c, hx, _, hi⟩ := irow_ofL h2
    exact ⟨o, c, by rw [h1, hx], hi, h3⟩
theorem ends_at (n : Net) (ao : Option Addr) (cap : Nat) (r : Nat) (w : World) (hr : ARow w ao n.l) (hl : n.l.length ≤ 1000000) (h : r < 2 * n.l.length) :
    Calls Try.prog 51 #[encN n ao cap, .int .i64 (r : Int)] w fun e w' => e = .returned (.tuple #[.int .i64 (trF n.l r), .int .i64 (trT n.l r)]) ∧ Below w.heap.size w w' := by
  have := ends_any n ao cap (r : Int) w hr hl (by unfold in64; omega)
  rwa [enF_in h, enT_in h] at this
theorem roomV_len (n : Net) (f : List Int) : (roomV n f).length ≤ 2 * n.l.length := by
  unfold roomV; split
  · simp
  · rw [roomL_len]; exact Nat.le_refl _
section
variable {n : Net} (ao : Option Addr) (cap : Nat) (fo : Option Addr) (fc : Nat) {f : List Int} (w : World) (ck : checkN n = 0) (hr : ARow w ao n.l) (hf : IRow w fo f) (hF : Flow n f)
include ck hr hf hF
theorem room_flow : Calls Try.prog 32 #[encN n ao cap, .slice fo n.l.length fc] w fun e w' => ∃ o c, e = .returned (.tuple #[.slice o (2 * n.l.length) c, .int .i64 0]) ∧ IRow w' o (roomL n.l f (2 * n.l.length)) ∧ Below w.heap.size w w' := by
  have h := droom_s n ao cap fo fc f w hr hf (by have := (right_of ck).len; omega) (cap_64 (right_of ck))
  have e : roomV n f = roomL n.l f (2 * n.l.length) := by unfold roomV; rw [if_neg (by simpa using flow_chkF ck hF)]
  rw [e, roomL_len, flow_chkF ck hF, hF.len] at h
  exact h
theorem reach_flow (x : Int) (hx : 1 ≤ x) : Calls Try.prog 28 #[encN n ao cap, .slice fo n.l.length fc, .int .i64 x] w fun e w' => ∃ b c M, e = .returned (.tuple #[.slice (some ⟨b, 0, none⟩) (n.n.toNat + 1) c, .int .i64 0]) ∧ IsReach n f x M ∧ BBox w' b M ∧ Below w.heap.size w w' := by
  have h := dreach_any n ao cap fo fc f x w hr hf (by have := (right_of ck).len; omega) (cap_64 (right_of ck))
  have e : reE n f x = 0 := by unfold reE; rw [if_neg (by simpa using flow_chkF ck hF), if_neg (by omega)]
  rw [hF.len, e] at h
  refine h.mono fun e' w' ⟨o, c, M, h1, h2, h3⟩ => ?_
  obtain ⟨hi, b, rfl, hb⟩ := h2.good e
  rw [hi.len] at h1
  exact ⟨b, c, M, h1, hi, hb, h3⟩
theorem reach_low (x : Int) (hx : x < 1) : Calls Try.prog 28 #[encN n ao cap, .slice fo n.l.length fc, .int .i64 x] w fun e w' => ∃ o c, e = .returned (.tuple #[.slice o 0 c, .int .i64 3]) ∧ Below w.heap.size w w' := by
  have h := dreach_any n ao cap fo fc f x w hr hf (by have := (right_of ck).len; omega) (cap_64 (right_of ck))
  have e : reE n f x = 3 := by unfold reE; rw [if_neg (by simpa using flow_chkF ck hF), if_pos hx]
  rw [hF.len, e] at h
  refine h.mono fun e' w' ⟨o, c, M, h1, h2, h3⟩ => ?_
  have := h2.bad (by rw [e]; decide)
  subst this
  exact ⟨o, c, h1, h3⟩
end
end Ne
end Go.Proofs.Ythhlfphnokdfaaa
