/-
  Stage 9: contract of the developers' forest: Row. No condition.
-/
import Derived.Test.YtlkigpmjhojceaaSwi
namespace Go.Proofs.Ytlkigpmjhojceaa
open Go.ChangeShapes Go.WideShapes Go.ChangeAt Go.RowKit Go.Shelf
set_option linter.unusedVariables false
set_option linter.unusedSimpArgs false
attribute [local go_sem] Oper.semAt_some
namespace Sv
section
variable {w : World} {B p g n c : Nat} {V : Nat → Int} {r : Nat → List Nat} {M : Nat → Nd} {I : Nat → List Nat} {P : Nat → Bool} {D : Nat → Int}
set_option maxHeartbeats 1000000 in
theorem row1_in (hI : Inv n V r (fun _ => False) M I P D) {z : Nat} (hz : z < n) (hzu : (M z).up = none) (m l n0 b1 b2 : Nat) (hp0 : p < n0) (hg0 : g < n0) (J Jx : List Nat → World → Prop)
    (hJd : ∀ pre W, J pre W → J pre W.drew)
    (hY : ∀ pre x W, J pre W → pre.length < (I z).length → YieldAt Fence.wide (m - 1) Try.prog l #[.int .i64 ((x : Nat) : Int)] W fun e W' =>
      (e = .returned (.bool true) ∧ J (pre ++ [x]) W' ∧ Below n0 W W') ∨ (e = .returned (.bool false) ∧ Jx (pre ++ [x]) W'))
    (W : World) (h1 : W.cell? ⟨b1, 0, none⟩ = some (.pointer (some ⟨p, 0, none⟩))) (h2 : W.cell? ⟨b2, 0, none⟩ = some (.int .i64 (z : Int))) (hM : SpM W B p g n M c) (h0 : J [] W) :
    CallsIn Fence.wide m Try.prog 60 #[.func (.yield l) #[] #[], .pointer (some ⟨b1, 0, none⟩), .pointer (some ⟨b2, 0, none⟩)] W fun e W' => (∃ v, e = .returned v) ∧
      ((∃ ys, ys = I z ∧ J ys W') ∨ (∃ pre, pre <+: I z ∧ Jx pre W')) := by
  have HT := Lib.hid (callsIn_wide.1 (thr_in hI l n0 (I z).length hp0 hg0 J Jx hJd (fun m' pre x W hj hl => yield_any rfl m' (hY pre x W hj hl)) (I z).length m (some z) false [] W (Nat.le_refl _) (fun y hy => by cases hy; exact ⟨hz, (hI.top z hz hzu).1⟩) hM h0 (by simp [IL])))
  rw [show oi (some z) = (z : Int) from rfl] at HT
  clear hI hz hzu hY hM h0 hJd
  refine callsIn_wide.2 ?_
  go_enter Try.func60, Try.ntmps60
  go_wp2_with fail
  refine HT.out.mono ?_
  rintro e W1 (⟨rfl, hJ1, _⟩ | ⟨rfl, q, hq, hx⟩)
  · have HJ := Lib.hid hJ1
    clear hJ1
    go_wp2
    go_end0
    exact ⟨⟨_, rfl⟩, .inl ⟨_, rfl, by simpa [IL] using HJ.out⟩⟩
  · have HQ := Lib.hid hq
    have HX := Lib.hid hx
    clear hq hx
    go_wp2
    go_end0
    exact ⟨⟨_, rfl⟩, .inr ⟨q, HQ.out, by simpa using HX.out⟩⟩
theorem row_stops (hI : Inv n V r (fun _ => False) M I P D) {z : Nat} (hz : z < n) (hzu : (M z).up = none) (m n0 b1 b2 : Nat) (hp0 : p < n0) (hg0 : g < n0) (w : World) (hn0 : n0 ≤ w.heap.size) (hb1 : b1 < w.heap.size) (hb2 : b2 < w.heap.size)
    (h1 : w.cell? ⟨b1, 0, none⟩ = some (.pointer (some ⟨p, 0, none⟩))) (h2 : w.cell? ⟨b2, 0, none⟩ = some (.int .i64 (z : Int))) (hM : SpM w B p g n M c) :
    SeqStopsK Fence.wide m Try.prog 60 #[.pointer (some ⟨b1, 0, none⟩), .pointer (some ⟨b2, 0, none⟩)] (fun x : Nat => #[Value.int .i64 (x : Int)]) (Below n0) (fun ys => ys = I z) (fun pre => pre <+: I z) (I z).length w := fun l J Jx W hW hJ _ hY h0 =>
  row1_in hI hz hzu m l n0 b1 b2 hp0 hg0 J Jx (fun pre W1 hj => hJ pre W1 W1.drew none hj ⟨rfl, rfl, rfl, Nat.le_refl _, fun _ _ _ => rfl⟩ (fun r e => by cases e)) hY W ((hW.cell (p := ⟨b1, 0, none⟩) hb1).trans h1) ((hW.cell (p := ⟨b2, 0, none⟩) hb2).trans h2) (hM.bel hW (by omega) (by omega)) h0
set_option maxHeartbeats 2000000 in
theorem row_any (hM : SpM w B p g n M c) (hI : Inv n V r (fun _ => False) M I P D) {x : Nat} (hx : x < n) :
    Calls Try.prog 44 #[.pointer (some ⟨p, 0, none⟩), .int .i64 (x : Int)] w fun e w' => e = .returned (.func (.func 60) #[] #[.pointer (some ⟨w.heap.size, 0, none⟩), .pointer (some ⟨w.heap.size + 1, 0, none⟩)]) ∧
      Below w.heap.size w w' ∧ w'.heap.size = w.heap.size + 2 ∧ ∃ z, z < n ∧ (M z).up = none ∧ I z = r x ∧ w'.cell? ⟨w.heap.size, 0, none⟩ = some (.pointer (some ⟨p, 0, none⟩)) ∧ w'.cell? ⟨w.heap.size + 1, 0, none⟩ = some (.int .i64 (z : Int)) := by
  have HI := Lib.hid hI
  have hs1 : (w.alloc (.cells #[.pointer (some ⟨p, 0, none⟩)] 25)).heap.size = w.heap.size + 1 := by show (w.heap.push _).size = _; simp
  have hs2 : ((w.alloc (.cells #[.pointer (some ⟨p, 0, none⟩)] 25)).alloc (.cells #[.int .i64 (x : Int)] 3)).heap.size = w.heap.size + 2 := by show (Array.push _ _).size = _; rw [Array.size_push, hs1]
  have HB := Lib.hid (show Below w.heap.size w ((w.alloc (.cells #[.pointer (some ⟨p, 0, none⟩)] 25)).alloc (.cells #[.int .i64 (x : Int)] 3)) from ((Below.refl _ w).alloc (Nat.le_refl _) _).alloc (by omega) _)
  have HX0 := Lib.hid ((bx_new (w := w) rfl (.pointer (some ⟨p, 0, none⟩)) 25).off (F := fun _ => False) ((Sp.Off.refl _ (w.alloc (.cells #[.pointer (some ⟨p, 0, none⟩)] 25))).alloc (.cells #[.int .i64 (x : Int)] 3)) id)
  have HX1 := Lib.hid (bx_new (w := w.alloc (.cells #[.pointer (some ⟨p, 0, none⟩)] 25)) (b := w.heap.size + 1) hs1.symm (.int .i64 (x : Int)) 3)
  have HSZ := Lib.hid hs2
  have HIN := Lib.hid hM.in
  have HMM := Lib.hid hM
  have hlx := hI.len hx
  clear hs1 hs2 hM hI
  go_enter Try.func44, Try.ntmps44
  go_wp2
  go_loopg [14] (n - (I x).length) (fun gg s14 wr => (∃ q, s14 = q) ∧ ∃ z : Nat, (I z).length + gg = n ∧ z < n ∧ Hid (Below w.heap.size w wr ∧ wr.heap.size = w.heap.size + 2 ∧ Bx wr w.heap.size (.pointer (some ⟨p, 0, none⟩)) ∧ Bx wr (w.heap.size + 1) (.int .i64 (z : Int)) ∧ x ∈ I z))
  case atStart => exact ⟨⟨_, rfl⟩, x, by omega, hx, Lib.hid ⟨HB.out, HSZ.out, HX0.out, HX1.out, HI.out.self hx⟩⟩
  case round =>
    obtain ⟨⟨q, rfl⟩, z, hgz, hz, HH⟩ := hrel
    obtain ⟨hb, hsz, x0, x1, hxz⟩ := HH.out
    have hM := HMM.out.bel hb HIN.out.1.2 HIN.out.2.2
    have n0 := hM.head
    have c4 := hM.cells hz 4 _ rfl
    have d0 := x0.1
    have d1 := x1.1
    have f1 := x1.2.2
    have hzi : (z : Int) < (n : Int) := by omega
    have hz0 : (0 : Int) ≤ (z : Int) := by omega
    cases hu : (M z).up with
    | none =>
      have HE := Lib.hid (show Below w.heap.size w wr.drew ∧ wr.drew.heap.size = w.heap.size + 2 ∧ ∃ z, z < n ∧ (M z).up = none ∧ I z = r x ∧ wr.drew.cell? ⟨w.heap.size, 0, none⟩ = some (.pointer (some ⟨p, 0, none⟩)) ∧ wr.drew.cell? ⟨w.heap.size + 1, 0, none⟩ = some (.int .i64 (z : Int)) from
        ⟨Ne.below_drew hb, hsz, z, hz, hu, (HI.out.row z hz hu x hxz).symm, d0, d1⟩)
      rw [hu] at c4
      simp only [oi] at c4
      clear hM hu hb hsz x0 x1 hxz
      go_wp2
      go_region
      all_goals (try go_wp2)
      all_goals go_ret
      all_goals exact ⟨rfl, HE.out⟩
    | some u =>
      have hul := HI.out.up_len hz hu
      have hun := hul.1
      have hlu := hul.2
      have hln := HI.out.len hun
      obtain ⟨_, sd, hsd⟩ := HI.out.par z u hz hu
      have hum : ¬ (u : Int) = -1 := by omega
      have ho : Sp.Off (fun k => k = w.heap.size + 1) wr ((wr.setCell ⟨w.heap.size + 1, 0, none⟩ (.int .i64 (u : Int))).drew.drew) := ((Sp.Off.refl (fun k => k = w.heap.size + 1) wr).set (p := ⟨w.heap.size + 1, 0, none⟩) (.inl rfl) _).trans ((off_drew _).trans (off_drew _) fun _ h => .inl h) fun _ h => .inl h
      have HE := Lib.hid (show Below w.heap.size w ((wr.setCell ⟨w.heap.size + 1, 0, none⟩ (.int .i64 (u : Int))).drew.drew) ∧ ((wr.setCell ⟨w.heap.size + 1, 0, none⟩ (.int .i64 (u : Int))).drew.drew).heap.size = w.heap.size + 2 ∧ Bx ((wr.setCell ⟨w.heap.size + 1, 0, none⟩ (.int .i64 (u : Int))).drew.drew) w.heap.size (.pointer (some ⟨p, 0, none⟩)) ∧ Bx ((wr.setCell ⟨w.heap.size + 1, 0, none⟩ (.int .i64 (u : Int))).drew.drew) (w.heap.size + 1) (.int .i64 (u : Int)) ∧ x ∈ I u from
        ⟨Ne.below_drew (Ne.below_drew (hb.setCell (p := ⟨w.heap.size + 1, 0, none⟩) (by simp only; omega) _)), by rw [← hsz]; show (World.setCell _ _ _).heap.size = _; simp [World.setCell], x0.off ho (by omega), x1.set.drew.drew, HI.out.sub hun hsd x hxz⟩)
      rw [hu] at c4
      simp only [oi] at c4
      clear hM hu hb hsz x0 x1 hxz ho hul
      go_wp2
      go_region
      all_goals (try go_wp2)
      all_goals (try go_region)
      all_goals (try go_wp2)
      all_goals go_roundg (n - (I u).length)
      case measure => omega
      case rel => exact ⟨⟨_, rfl⟩, u, by omega, hun, HE⟩
end
end Sv
end Go.Proofs.Ytlkigpmjhojceaa
