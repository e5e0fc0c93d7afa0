/-
  Stage 10: the developers' forest of trees in memory: two blocks beside the rows' own; has, part. No condition.
-/
import Derived.Test.YtjhodnpmogkmmaaFpc
import Derived.Test.YtjhodnpmogkmmaaFov
namespace Go.Proofs.Ytjhodnpmogkmmaa
open Go.ChangeShapes Go.WideShapes Go.ChangeAt Go.RowKit
set_option linter.unusedVariables false
set_option linter.unusedSimpArgs false
namespace Fo
open Sp (Off Ext SpO ac jc it)
/-- the developers' forest in memory -/
structure FoH (w : World) (B : Nat) (F : Nat → Prop) (p q go : Nat) (F1 : Nat → Prop) (s : Sp.St) (ov : Nat → Option Nat) (lo hi : Nat) : Prop where
  blk : w.heap[p]? = some (.cells #[.pointer (some ⟨q, 0, none⟩), .slice (some ⟨go, 0, none⟩) s.v.length s.v.length] 59 (0, 0))
  box : Ne.IBox w go (ovL s.v.length ov)
  spo : SpO w B F1 q s lo hi
  sub : ∀ g, F1 g → F g
  pin : F p ∧ F go
  pno : ¬ F1 p ∧ ¬ F1 go ∧ p ≠ go
  fin : ∀ g, F g → B ≤ g ∧ g < w.heap.size
def FoP (w : World) (B : Nat) (F : Nat → Prop) (p q go : Nat) (s : Sp.St) (ov : Nat → Option Nat) (lo hi : Nat) : Prop := ∃ F1, FoH w B F p q go F1 s ov lo hi
/-- behind what was done since w0 -/
def FoA (F : Nat → Prop) (w0 w : World) (B p q go : Nat) (s : Sp.St) (ov : Nat → Option Nat) (lo hi : Nat) : Prop := FoP w B (Ext F w0 w) p q go s ov lo hi ∧ Off F w0 w
section
variable {F F1 G : Nat → Prop} {w w0 w2 : World} {B p q go lo hi : Nat} {s : Sp.St} {ov : Nat → Option Nat}
theorem FoP.good (h : FoP w B F p q go s ov lo hi) : Sp.Good s := by obtain ⟨F1, h⟩ := h; exact h.spo.good
theorem FoP.cells (h : FoP w B F p q go s ov lo hi) : w.cell? ⟨p, 0, none⟩ = some (.pointer (some ⟨q, 0, none⟩)) ∧ w.cell? ⟨p, 1, none⟩ = some (.slice (some ⟨go, 0, none⟩) s.v.length s.v.length) := by
  obtain ⟨F1, h⟩ := h
  have := h.blk
  simp [World.cell?, this]
theorem FoP.over (h : FoP w B F p q go s ov lo hi) {i : Nat} (hi : i < s.v.length) : w.cell? ⟨go, i, none⟩ = some (.int .i64 (oz (ov i))) ∧ w.frozen? ⟨go, i, none⟩ = false := by
  obtain ⟨F1, h⟩ := h
  have h1 := h.box.cell (i := i) (by rw [ovL_len]; exact hi)
  rw [ovL_at ov hi] at h1
  exact ⟨h1, h.box.frozen i⟩
theorem FoP.fin (h : FoP w B F p q go s ov lo hi) : ∀ g, F g → B ≤ g ∧ g < w.heap.size := by obtain ⟨F1, h⟩ := h; exact h.fin
theorem FoP.mono (h : FoP w B F p q go s ov lo hi) (hG : ∀ g, F g → G g) (hf : ∀ g, G g → B ≤ g ∧ g < w.heap.size) : FoP w B G p q go s ov lo hi := by
  obtain ⟨F1, h⟩ := h
  exact ⟨F1, h.blk, h.box, h.spo, fun g hg => hG g (h.sub g hg), ⟨hG _ h.pin.1, hG _ h.pin.2⟩, h.pno, hf⟩
theorem FoP.low {lo2 : Nat} (h : FoP w B F p q go s ov lo hi) (hl : lo2 ≤ lo) : FoP w B F p q go s ov lo2 hi := by
  obtain ⟨F1, h⟩ := h
  exact ⟨F1, h.blk, h.box, h.spo.low hl, h.sub, h.pin, h.pno, h.fin⟩
theorem FoP.grow {hi2 : Nat} (h : FoP w B F p q go s ov lo hi) (hl : hi ≤ hi2) : FoP w B F p q go s ov lo hi2 := by
  obtain ⟨F1, h⟩ := h
  exact ⟨F1, h.blk, h.box, h.spo.grow hl, h.sub, h.pin, h.pno, h.fin⟩
theorem FoP.off (h : FoP w B F p q go s ov lo hi) (ho : Off G w w2) (hd : ∀ g, F g → ¬ G g) : FoP w2 B F p q go s ov lo hi := by
  obtain ⟨F1, h⟩ := h
  have hp := h.fin p h.pin.1
  have hg := h.fin go h.pin.2
  exact ⟨F1, (ho.block p hp.2 (hd p h.pin.1)).trans h.blk, h.box.same (ho.block go hg.2 (hd go h.pin.2)), h.spo.off ho (fun g hg => hd g (h.sub g hg)), h.sub, h.pin, h.pno, fun g hg => ⟨(h.fin g hg).1, Nat.lt_of_lt_of_le (h.fin g hg).2 ho.size⟩⟩
theorem FoP.kept (h : FoP w B F p q go s ov lo hi) (hb : Below w.heap.size w w2) : FoP w2 B F p q go s ov lo hi := h.off (G := fun _ => False) (.of_below hb) fun _ _ c => c
theorem FoP.base (h : FoP w B F p q go s ov lo hi) {B' : Nat} (hB : B' ≤ B) : FoP w B' F p q go s ov lo hi := by
  obtain ⟨F1, h⟩ := h
  exact ⟨F1, h.blk, h.box, h.spo.base hB, h.sub, h.pin, h.pno, fun g hg => ⟨Nat.le_trans hB (h.fin g hg).1, (h.fin g hg).2⟩⟩
theorem FoP.start (h : FoP w B F p q go s ov lo hi) : FoA F w w B p q go s ov lo hi :=
  ⟨h.mono (fun g hg => .inl hg) (fun g hg => by
    rcases hg with hg | hg
    · exact h.fin g hg
    · omega), Off.refl _ _⟩
theorem FoA.low {lo2 : Nat} (h : FoA F w0 w B p q go s ov lo hi) (hl : lo2 ≤ lo) : FoA F w0 w B p q go s ov lo2 hi := ⟨h.1.low hl, h.2⟩
theorem FoA.grow {hi2 : Nat} (h : FoA F w0 w B p q go s ov lo hi) (hl : hi ≤ hi2) : FoA F w0 w B p q go s ov lo hi2 := ⟨h.1.grow hl, h.2⟩
theorem FoA.to {s2 : Sp.St} {ov2 : Nat → Option Nat} {lo2 hi2 : Nat} (h : FoA F w0 w B p q go s ov lo hi) (hB : B ≤ w0.heap.size) (h2 : FoP w2 B (Ext (Ext F w0 w) w w2) p q go s2 ov2 lo2 hi2) (ho : Off (Ext F w0 w) w w2) : FoA F w0 w2 B p q go s2 ov2 lo2 hi2 :=
  ⟨h2.mono (fun g hg => Sp.ext_two hg h.2.size ho.size) (fun g hg => by
    have := ho.size
    rcases hg with hg | hg
    · have := h.1.fin g (.inl hg); omega
    · omega), Sp.off_two h.2 ho⟩
/-- a call of the rows' -/
theorem FoA.call {fn : FuncId} {args : Array Value} {e0 : Ending} {s2 : Sp.St} {lo2 hi2 : Nat} (h : FoA F w0 w B p q go s ov lo hi) (hB : B ≤ w0.heap.size)
    (hc : ∀ F1, SpO w B F1 q s lo hi → B ≤ w.heap.size → Calls Try.prog fn args w fun e w' => e = e0 ∧ SpO w' B (Ext F1 w w') q s2 lo2 hi2 ∧ Off F1 w w') (hl : s2.v.length = s.v.length) :
    Calls Try.prog fn args w fun e w' => e = e0 ∧ FoA F w0 w' B p q go s2 ov lo2 hi2 := by
  obtain ⟨F1, h1⟩ := h.1
  refine (hc F1 h1.spo (Nat.le_trans hB h.2.size)).mono ?_
  rintro e w' ⟨rfl, h2, o2⟩
  refine ⟨rfl, h.to hB ?_ (o2.mono h1.sub)⟩
  have hp := h1.fin p h1.pin.1
  have hg := h1.fin go h1.pin.2
  have hs := o2.size
  refine ⟨Ext F1 w w', ?_, ?_, h2, fun g hg => ?_, ⟨.inl h1.pin.1, .inl h1.pin.2⟩, ⟨fun c => ?_, fun c => ?_, h1.pno.2.2⟩, fun g hg => ?_⟩
  · rw [hl]; exact (o2.block p hp.2 h1.pno.1).trans h1.blk
  · rw [hl]; exact h1.box.same (o2.block go hg.2 h1.pno.2.1)
  · rcases hg with hg | hg
    · exact .inl (h1.sub g hg)
    · exact .inr hg
  · rcases c with c | c
    · exact h1.pno.1 c
    · omega
  · rcases c with c | c
    · exact h1.pno.2.1 c
    · omega
  · rcases hg with hg | hg
    · have := h1.fin g hg; omega
    · have := h.2.size; omega
/-- who is above the first of a row, written -/
theorem FoA.put (h : FoA F w0 w B p q go s ov lo hi) (hB : B ≤ w0.heap.size) {i : Nat} (hi' : i < s.v.length) (y : Option Nat) : FoA F w0 (w.setCell ⟨go, i, none⟩ (.int .i64 (oz y))) B p q go s (fun z => if z = i then y else ov z) lo hi := by
  obtain ⟨F1, h1⟩ := h.1
  have hp := h1.fin p h1.pin.1
  have hg := h1.fin go h1.pin.2
  have ho : Off (fun g => g = go) w (w.setCell ⟨go, i, none⟩ (.int .i64 (oz y))) := (Off.refl (fun g => g = go) w).set (p := ⟨go, i, none⟩) (.inl rfl) _
  have hz : (w.setCell ⟨go, i, none⟩ (.int .i64 (oz y))).heap.size = w.heap.size := by simp [World.setCell]
  refine h.to hB ⟨F1, (ho.block p hp.2 h1.pno.2.2).trans h1.blk, ?_, h1.spo.off ho (fun g hg c => h1.pno.2.1 (by rw [← c]; exact hg)), fun g hg => .inl (h1.sub g hg), ⟨.inl h1.pin.1, .inl h1.pin.2⟩, h1.pno, fun g hg => ?_⟩ (ho.mono fun g hg => by rw [hg]; exact h1.pin.2)
  · have := h1.box.set (i := i) (by rw [ovL_len]; exact hi') (oz y)
    rw [ovL_set ov hi' y] at this
    exact this
  · rcases hg with hg | hg
    · have := h1.fin g hg; omega
    · omega
set_option maxHeartbeats 1000000 in
theorem fhas_any (h : FoP w B F p q go s ov lo hi) (x : Int) :
    Calls Try.prog 44 #[.pointer (some ⟨p, 0, none⟩), .int .i64 x] w fun e w' => e = .returned (.bool (decide (0 ≤ x ∧ x < (s.v.length : Int)))) ∧ w = w' := by
  obtain ⟨_, n1⟩ := h.cells
  clear h
  generalize s.v.length = n at *
  generalize hq : decide (0 ≤ x ∧ x < (n : Int)) = q
  by_cases c1 : 0 ≤ x
  · by_cases c2 : x < (n : Int)
    · obtain rfl : q = true := by rw [← hq]; simp [c1, c2]
      clear hq
      go_enter Try.func44, Try.ntmps44
      go_wp2
      go_ret
      exact ⟨rfl, rfl⟩
    · obtain rfl : q = false := by rw [← hq]; simp; omega
      clear hq
      go_enter Try.func44, Try.ntmps44
      go_wp2
      go_ret
      exact ⟨rfl, rfl⟩
  · obtain rfl : q = false := by rw [← hq]; simp; omega
    clear hq
    go_enter Try.func44, Try.ntmps44
    go_wp2
    go_ret
    exact ⟨rfl, rfl⟩
set_option maxRecDepth 100000 in
set_option maxHeartbeats 2000000 in
theorem part_any (h : FoA F w0 w B p q go s ov lo hi) (hB : B ≤ w0.heap.size) {v : Nat} (hv : v < s.v.length) :
    Calls Try.prog 53 #[.pointer (some ⟨p, 0, none⟩), .int .i64 (v : Int)] w fun e w' => e = .returned (.tuple #[]) ∧ FoA F w0 w' B p q go (partS s v) (partO s ov v) lo (hi + 4 * ac s.v.length) := by
  obtain ⟨n0, n1⟩ := h.1.cells
  have hg := h.1.good
  have HBS := Lib.hid (h.call hB (fn := 42) (args := #[.agg #[.pointer (some ⟨q, 0, none⟩)], .int .i64 (v : Int), .int .i64 1]) (fun F1 h1 hb1 => Sp.beside_any h1 hb1 (v : Int) 1 (by omega)) rfl)
  rw [beside_next hg hv] at HBS
  have hxl : ∀ u, nx s v = some u → u < s.v.length := fun u hu => hg.lt v u (List.mem_of_getElem? hu)
  cases hx : nx s v with
  | none =>
    rw [hx] at HBS
    have e1 : partS s v = s := by unfold partS; rw [hx]
    have e2 : partO s ov v = ov := by unfold partO; rw [hx]
    rw [e1, e2]
    clear e1 e2 hx hxl hg h
    simp only [oz] at HBS
    go_enter Try.func53, Try.ntmps53
    go_wp2_with fail
    refine HBS.out.mono ?_
    rintro e w1 ⟨rfl, h1⟩
    have H1 := Lib.hid (h1.grow (hi2 := hi + 4 * ac s.v.length) (by omega))
    clear h1
    go_wp2
    go_end0
    exact ⟨rfl, H1.out⟩
  | some u =>
    rw [hx] at HBS
    have hu := hxl u hx
    have e1 : partS s v = Sp.splitS s (u : Int) := by unfold partS; rw [hx]
    have e2 : partO s ov v = fun z => if z = u then some v else ov z := by unfold partO; rw [hx]
    rw [e1, e2]
    simp only [oz] at HBS
    have hui : (u : Int) < (s.v.length : Int) := by omega
    have hu0 : (0 : Int) ≤ (u : Int) := by omega
    have hne : (((u : Int) != -1) = true) := by simp <;> omega
    have HCL := Lib.hid (show ∀ (w' : World) (s : Sp.St) (lo hi : Nat), FoA F w0 w' B p q go s ov lo hi → (w'.cell? ⟨p, 0, none⟩ = some (.pointer (some ⟨q, 0, none⟩)) ∧ w'.cell? ⟨p, 1, none⟩ = some (.slice (some ⟨go, 0, none⟩) s.v.length s.v.length)) from fun w' s lo hi hh => hh.1.cells)
    have HSP := Lib.hid (show ∀ (w' : World) (lo hi : Nat), FoA F w0 w' B p q go s ov lo hi → Calls Try.prog 45 #[.pointer (some ⟨q, 0, none⟩), .int .i64 (u : Int)] w' fun e w2 => e = .returned (.int .i64 (Sp.splitE s (u : Int))) ∧ FoA F w0 w2 B p q go (Sp.splitS s (u : Int)) ov (lo + it s (u : Int)) (hi + ac s.v.length) from fun w' lo hi hh => hh.call hB (fun F1 h1 hb1 => Sp.dsplit_c h1 hb1 (u : Int)) rfl)
    have HEND := Lib.hid (show ∀ (w' : World) (lo2 hi2 : Nat), FoA F w0 w' B p q go (Sp.splitS s (u : Int)) ov lo2 hi2 → (w'.frozen? ⟨go, u, none⟩ = false ∧ (∃ x, w'.cell? ⟨go, u, none⟩ = some x)) ∧ (lo ≤ lo2 → hi2 ≤ hi + 4 * ac s.v.length → FoA F w0 (w'.setCell ⟨go, u, none⟩ (.int .i64 (v : Int))) B p q go (Sp.splitS s (u : Int)) (fun z => if z = u then some v else ov z) lo (hi + 4 * ac s.v.length)) from fun w' lo2 hi2 hh => ⟨⟨(hh.1.over hu).2, _, (hh.1.over hu).1⟩, fun g1 g2 => ((hh.put hB (i := u) hu (some v)).low g1).grow g2⟩)
    have hsl : (Sp.splitS s (u : Int)).v = s.v := rfl
    generalize Sp.splitS s (u : Int) = s2 at *
    generalize Sp.splitE s (u : Int) = E2 at *
    clear e1 e2 hx hxl hg h hu
    have hl2 : s2.v.length = s.v.length := by rw [hsl]
    clear hsl
    generalize hn : s.v.length = n at *
    go_enter Try.func53, Try.ntmps53
    go_wp2_with fail
    refine HBS.out.mono ?_
    rintro e w1 ⟨rfl, h1⟩
    obtain ⟨m0, m1⟩ := HCL.out _ _ _ _ h1
    have H1 := Lib.hid h1
    clear h1 n0 n1
    go_wp2_with fail
    refine (HSP.out _ _ _ H1.out).mono ?_
    rintro e w2 ⟨rfl, h2⟩
    obtain ⟨k0, k1⟩ := HCL.out _ _ _ _ h2
    rw [hl2] at k1
    obtain ⟨⟨hf, x0, hx0⟩, hput⟩ := HEND.out _ _ _ h2
    have HP := Lib.hid (hput (by omega) (by omega))
    clear h2 hput m0 m1
    go_wp2
    go_end0
    exact ⟨rfl, HP.out⟩
end
end Fo
end Go.Proofs.Ytjhodnpmogkmmaa
