/-
  Contracts of the developers' kinds of DIMACS lines: kinds, fits, numbers. Condition: rows of at most a million words.
-/
import Derived.Test.YtaepoddmonijkaaDoorRdr
import Derived.Test.YtaepoddmonijkaaDoorWds
namespace Go.Proofs.YtaepoddmonijkaaDoor
open Go.ChangeShapes Go.WideShapes Go.ChangeAt Go.RowKit
set_option linter.unusedVariables false
set_option linter.unusedSimpArgs false
namespace Dm

theorem srow_at (w : World) {b : Nat} (hb : b = w.heap.size) (vs : List Value) (l : List (List UInt8)) (hv : vs = l.map Txt.encS) : Txt.SRow (w.alloc (.cells vs.toArray 9)) (some ⟨b, 0, none⟩) l := by
  subst hb; exact Txt.row_new w l vs hv
theorem cell_at (w : World) {b : Nat} (hb : b = w.heap.size) (cs : Array Value) (T : TypeId) (j : Nat) : (w.alloc (.cells cs T)).cell? ⟨b, j, none⟩ = cs[j]? := by
  subst hb; exact World.cell?_alloc_new w cs T j
def fnA : Nat → Value
  | 0 => .func (.func 55) #[] #[]
  | 1 => .func (.func 57) #[] #[]
  | 2 => .func (.func 59) #[] #[]
  | _ => .func (.func 61) #[] #[]
def fnB : Nat → Value
  | 0 => .func (.func 56) #[] #[]
  | 1 => .func (.func 58) #[] #[]
  | 2 => .func (.func 60) #[] #[]
  | _ => .func (.func 62) #[] #[]
/-- kind i in its row -/
def KindAt (w : World) (a i : Nat) : Prop := ∃ g, w.cell? ⟨a, i * 3, none⟩ = some (.slice (some ⟨g, 0, none⟩) (pat i).length (pat i).length) ∧ w.cell? ⟨a, i * 3 + 1, none⟩ = some (fnA i) ∧ w.cell? ⟨a, i * 3 + 2, none⟩ = some (fnB i) ∧ Txt.SRow w (some ⟨g, 0, none⟩) (pat i)
theorem kindAt_kept {w w2 : World} {a i : Nat} (h : KindAt w a i) (hb : Below w.heap.size w w2) : KindAt w2 a i := by
  obtain ⟨g, h0, h1, h2, h3⟩ := h
  have hlt := World.block_lt_of_cell? w ⟨a, i * 3, none⟩ h0
  exact ⟨g, (hb.cell hlt).trans h0, (hb.cell (p := ⟨a, i * 3 + 1, none⟩) hlt).trans h1, (hb.cell (p := ⟨a, i * 3 + 2, none⟩) hlt).trans h2, h3.below hb⟩

set_option maxHeartbeats 2000000 in
theorem kinds_any (w : World) :
    Calls Tryd.prog 39 #[] w fun e w' => ∃ a, e = .returned (.slice (some ⟨a, 0, none⟩) 4 4) ∧ (∀ i, i < 4 → KindAt w' a i) ∧ Below w.heap.size w w' := by
  have R0 : Txt.SRow (((((w.alloc (.cells #[.string ⟨#[112]⟩, .string ⟨#[109, 97, 120]⟩, .string ⟨#[]⟩, .string ⟨#[]⟩] 9)).alloc (.cells #[.string ⟨#[110]⟩, .string ⟨#[]⟩, .string ⟨#[115]⟩] 9)).alloc (.cells #[.string ⟨#[110]⟩, .string ⟨#[]⟩, .string ⟨#[116]⟩] 9)).alloc (.cells #[.string ⟨#[97]⟩, .string ⟨#[]⟩, .string ⟨#[]⟩, .string ⟨#[]⟩] 9)).alloc (.cells #[.slice (some ⟨w.heap.size, 0, none⟩) 4 4, .func (.func 55) #[] #[], .func (.func 56) #[] #[], .slice (some ⟨w.heap.size + 1, 0, none⟩) 3 3, .func (.func 57) #[] #[], .func (.func 58) #[] #[], .slice (some ⟨w.heap.size + 1 + 1, 0, none⟩) 3 3, .func (.func 59) #[] #[], .func (.func 60) #[] #[], .slice (some ⟨w.heap.size + 1 + 1 + 1, 0, none⟩) 4 4, .func (.func 61) #[] #[], .func (.func 62) #[] #[]] 77)) (some ⟨w.heap.size, 0, none⟩) (pat 0) := (srow_at w (b := w.heap.size) (by simp) [.string ⟨#[112]⟩, .string ⟨#[109, 97, 120]⟩, .string ⟨#[]⟩, .string ⟨#[]⟩] (pat 0) rfl).below (((((Below.refl _ _).alloc (by simp) _).alloc (by simp <;> omega) _).alloc (by simp <;> omega) _).alloc (by simp <;> omega) _)
  have R1 : Txt.SRow (((((w.alloc (.cells #[.string ⟨#[112]⟩, .string ⟨#[109, 97, 120]⟩, .string ⟨#[]⟩, .string ⟨#[]⟩] 9)).alloc (.cells #[.string ⟨#[110]⟩, .string ⟨#[]⟩, .string ⟨#[115]⟩] 9)).alloc (.cells #[.string ⟨#[110]⟩, .string ⟨#[]⟩, .string ⟨#[116]⟩] 9)).alloc (.cells #[.string ⟨#[97]⟩, .string ⟨#[]⟩, .string ⟨#[]⟩, .string ⟨#[]⟩] 9)).alloc (.cells #[.slice (some ⟨w.heap.size, 0, none⟩) 4 4, .func (.func 55) #[] #[], .func (.func 56) #[] #[], .slice (some ⟨w.heap.size + 1, 0, none⟩) 3 3, .func (.func 57) #[] #[], .func (.func 58) #[] #[], .slice (some ⟨w.heap.size + 1 + 1, 0, none⟩) 3 3, .func (.func 59) #[] #[], .func (.func 60) #[] #[], .slice (some ⟨w.heap.size + 1 + 1 + 1, 0, none⟩) 4 4, .func (.func 61) #[] #[], .func (.func 62) #[] #[]] 77)) (some ⟨w.heap.size + 1, 0, none⟩) (pat 1) := (srow_at (w.alloc (.cells #[.string ⟨#[112]⟩, .string ⟨#[109, 97, 120]⟩, .string ⟨#[]⟩, .string ⟨#[]⟩] 9)) (b := w.heap.size + 1) (by simp) [.string ⟨#[110]⟩, .string ⟨#[]⟩, .string ⟨#[115]⟩] (pat 1) rfl).below ((((Below.refl _ _).alloc (by simp) _).alloc (by simp <;> omega) _).alloc (by simp <;> omega) _)
  have R2 : Txt.SRow (((((w.alloc (.cells #[.string ⟨#[112]⟩, .string ⟨#[109, 97, 120]⟩, .string ⟨#[]⟩, .string ⟨#[]⟩] 9)).alloc (.cells #[.string ⟨#[110]⟩, .string ⟨#[]⟩, .string ⟨#[115]⟩] 9)).alloc (.cells #[.string ⟨#[110]⟩, .string ⟨#[]⟩, .string ⟨#[116]⟩] 9)).alloc (.cells #[.string ⟨#[97]⟩, .string ⟨#[]⟩, .string ⟨#[]⟩, .string ⟨#[]⟩] 9)).alloc (.cells #[.slice (some ⟨w.heap.size, 0, none⟩) 4 4, .func (.func 55) #[] #[], .func (.func 56) #[] #[], .slice (some ⟨w.heap.size + 1, 0, none⟩) 3 3, .func (.func 57) #[] #[], .func (.func 58) #[] #[], .slice (some ⟨w.heap.size + 1 + 1, 0, none⟩) 3 3, .func (.func 59) #[] #[], .func (.func 60) #[] #[], .slice (some ⟨w.heap.size + 1 + 1 + 1, 0, none⟩) 4 4, .func (.func 61) #[] #[], .func (.func 62) #[] #[]] 77)) (some ⟨w.heap.size + 1 + 1, 0, none⟩) (pat 2) := (srow_at ((w.alloc (.cells #[.string ⟨#[112]⟩, .string ⟨#[109, 97, 120]⟩, .string ⟨#[]⟩, .string ⟨#[]⟩] 9)).alloc (.cells #[.string ⟨#[110]⟩, .string ⟨#[]⟩, .string ⟨#[115]⟩] 9)) (b := w.heap.size + 1 + 1) (by simp) [.string ⟨#[110]⟩, .string ⟨#[]⟩, .string ⟨#[116]⟩] (pat 2) rfl).below (((Below.refl _ _).alloc (by simp) _).alloc (by simp <;> omega) _)
  have R3 : Txt.SRow (((((w.alloc (.cells #[.string ⟨#[112]⟩, .string ⟨#[109, 97, 120]⟩, .string ⟨#[]⟩, .string ⟨#[]⟩] 9)).alloc (.cells #[.string ⟨#[110]⟩, .string ⟨#[]⟩, .string ⟨#[115]⟩] 9)).alloc (.cells #[.string ⟨#[110]⟩, .string ⟨#[]⟩, .string ⟨#[116]⟩] 9)).alloc (.cells #[.string ⟨#[97]⟩, .string ⟨#[]⟩, .string ⟨#[]⟩, .string ⟨#[]⟩] 9)).alloc (.cells #[.slice (some ⟨w.heap.size, 0, none⟩) 4 4, .func (.func 55) #[] #[], .func (.func 56) #[] #[], .slice (some ⟨w.heap.size + 1, 0, none⟩) 3 3, .func (.func 57) #[] #[], .func (.func 58) #[] #[], .slice (some ⟨w.heap.size + 1 + 1, 0, none⟩) 3 3, .func (.func 59) #[] #[], .func (.func 60) #[] #[], .slice (some ⟨w.heap.size + 1 + 1 + 1, 0, none⟩) 4 4, .func (.func 61) #[] #[], .func (.func 62) #[] #[]] 77)) (some ⟨w.heap.size + 1 + 1 + 1, 0, none⟩) (pat 3) := (srow_at (((w.alloc (.cells #[.string ⟨#[112]⟩, .string ⟨#[109, 97, 120]⟩, .string ⟨#[]⟩, .string ⟨#[]⟩] 9)).alloc (.cells #[.string ⟨#[110]⟩, .string ⟨#[]⟩, .string ⟨#[115]⟩] 9)).alloc (.cells #[.string ⟨#[110]⟩, .string ⟨#[]⟩, .string ⟨#[116]⟩] 9)) (b := w.heap.size + 1 + 1 + 1) (by simp) [.string ⟨#[97]⟩, .string ⟨#[]⟩, .string ⟨#[]⟩, .string ⟨#[]⟩] (pat 3) rfl).below ((Below.refl _ _).alloc (by simp) _)
  have C := fun j => cell_at ((((w.alloc (.cells #[.string ⟨#[112]⟩, .string ⟨#[109, 97, 120]⟩, .string ⟨#[]⟩, .string ⟨#[]⟩] 9)).alloc (.cells #[.string ⟨#[110]⟩, .string ⟨#[]⟩, .string ⟨#[115]⟩] 9)).alloc (.cells #[.string ⟨#[110]⟩, .string ⟨#[]⟩, .string ⟨#[116]⟩] 9)).alloc (.cells #[.string ⟨#[97]⟩, .string ⟨#[]⟩, .string ⟨#[]⟩, .string ⟨#[]⟩] 9)) (b := w.heap.size + 1 + 1 + 1 + 1) (by simp) #[.slice (some ⟨w.heap.size, 0, none⟩) 4 4, .func (.func 55) #[] #[], .func (.func 56) #[] #[], .slice (some ⟨w.heap.size + 1, 0, none⟩) 3 3, .func (.func 57) #[] #[], .func (.func 58) #[] #[], .slice (some ⟨w.heap.size + 1 + 1, 0, none⟩) 3 3, .func (.func 59) #[] #[], .func (.func 60) #[] #[], .slice (some ⟨w.heap.size + 1 + 1 + 1, 0, none⟩) 4 4, .func (.func 61) #[] #[], .func (.func 62) #[] #[]] 77 j
  have HB : Below w.heap.size w (((((w.alloc (.cells #[.string ⟨#[112]⟩, .string ⟨#[109, 97, 120]⟩, .string ⟨#[]⟩, .string ⟨#[]⟩] 9)).alloc (.cells #[.string ⟨#[110]⟩, .string ⟨#[]⟩, .string ⟨#[115]⟩] 9)).alloc (.cells #[.string ⟨#[110]⟩, .string ⟨#[]⟩, .string ⟨#[116]⟩] 9)).alloc (.cells #[.string ⟨#[97]⟩, .string ⟨#[]⟩, .string ⟨#[]⟩, .string ⟨#[]⟩] 9)).alloc (.cells #[.slice (some ⟨w.heap.size, 0, none⟩) 4 4, .func (.func 55) #[] #[], .func (.func 56) #[] #[], .slice (some ⟨w.heap.size + 1, 0, none⟩) 3 3, .func (.func 57) #[] #[], .func (.func 58) #[] #[], .slice (some ⟨w.heap.size + 1 + 1, 0, none⟩) 3 3, .func (.func 59) #[] #[], .func (.func 60) #[] #[], .slice (some ⟨w.heap.size + 1 + 1 + 1, 0, none⟩) 4 4, .func (.func 61) #[] #[], .func (.func 62) #[] #[]] 77)) := (((((Below.refl _ w).alloc (Nat.le_refl _) _).alloc (by simp) _).alloc (by simp <;> omega) _).alloc (by simp <;> omega) _).alloc (by simp <;> omega) _
  have K0 : KindAt (((((w.alloc (.cells #[.string ⟨#[112]⟩, .string ⟨#[109, 97, 120]⟩, .string ⟨#[]⟩, .string ⟨#[]⟩] 9)).alloc (.cells #[.string ⟨#[110]⟩, .string ⟨#[]⟩, .string ⟨#[115]⟩] 9)).alloc (.cells #[.string ⟨#[110]⟩, .string ⟨#[]⟩, .string ⟨#[116]⟩] 9)).alloc (.cells #[.string ⟨#[97]⟩, .string ⟨#[]⟩, .string ⟨#[]⟩, .string ⟨#[]⟩] 9)).alloc (.cells #[.slice (some ⟨w.heap.size, 0, none⟩) 4 4, .func (.func 55) #[] #[], .func (.func 56) #[] #[], .slice (some ⟨w.heap.size + 1, 0, none⟩) 3 3, .func (.func 57) #[] #[], .func (.func 58) #[] #[], .slice (some ⟨w.heap.size + 1 + 1, 0, none⟩) 3 3, .func (.func 59) #[] #[], .func (.func 60) #[] #[], .slice (some ⟨w.heap.size + 1 + 1 + 1, 0, none⟩) 4 4, .func (.func 61) #[] #[], .func (.func 62) #[] #[]] 77)) (w.heap.size + 1 + 1 + 1 + 1) 0 := ⟨w.heap.size, C 0, C 1, C 2, R0⟩
  have K1 : KindAt (((((w.alloc (.cells #[.string ⟨#[112]⟩, .string ⟨#[109, 97, 120]⟩, .string ⟨#[]⟩, .string ⟨#[]⟩] 9)).alloc (.cells #[.string ⟨#[110]⟩, .string ⟨#[]⟩, .string ⟨#[115]⟩] 9)).alloc (.cells #[.string ⟨#[110]⟩, .string ⟨#[]⟩, .string ⟨#[116]⟩] 9)).alloc (.cells #[.string ⟨#[97]⟩, .string ⟨#[]⟩, .string ⟨#[]⟩, .string ⟨#[]⟩] 9)).alloc (.cells #[.slice (some ⟨w.heap.size, 0, none⟩) 4 4, .func (.func 55) #[] #[], .func (.func 56) #[] #[], .slice (some ⟨w.heap.size + 1, 0, none⟩) 3 3, .func (.func 57) #[] #[], .func (.func 58) #[] #[], .slice (some ⟨w.heap.size + 1 + 1, 0, none⟩) 3 3, .func (.func 59) #[] #[], .func (.func 60) #[] #[], .slice (some ⟨w.heap.size + 1 + 1 + 1, 0, none⟩) 4 4, .func (.func 61) #[] #[], .func (.func 62) #[] #[]] 77)) (w.heap.size + 1 + 1 + 1 + 1) 1 := ⟨w.heap.size + 1, C 3, C 4, C 5, R1⟩
  have K2 : KindAt (((((w.alloc (.cells #[.string ⟨#[112]⟩, .string ⟨#[109, 97, 120]⟩, .string ⟨#[]⟩, .string ⟨#[]⟩] 9)).alloc (.cells #[.string ⟨#[110]⟩, .string ⟨#[]⟩, .string ⟨#[115]⟩] 9)).alloc (.cells #[.string ⟨#[110]⟩, .string ⟨#[]⟩, .string ⟨#[116]⟩] 9)).alloc (.cells #[.string ⟨#[97]⟩, .string ⟨#[]⟩, .string ⟨#[]⟩, .string ⟨#[]⟩] 9)).alloc (.cells #[.slice (some ⟨w.heap.size, 0, none⟩) 4 4, .func (.func 55) #[] #[], .func (.func 56) #[] #[], .slice (some ⟨w.heap.size + 1, 0, none⟩) 3 3, .func (.func 57) #[] #[], .func (.func 58) #[] #[], .slice (some ⟨w.heap.size + 1 + 1, 0, none⟩) 3 3, .func (.func 59) #[] #[], .func (.func 60) #[] #[], .slice (some ⟨w.heap.size + 1 + 1 + 1, 0, none⟩) 4 4, .func (.func 61) #[] #[], .func (.func 62) #[] #[]] 77)) (w.heap.size + 1 + 1 + 1 + 1) 2 := ⟨w.heap.size + 1 + 1, C 6, C 7, C 8, R2⟩
  have K3 : KindAt (((((w.alloc (.cells #[.string ⟨#[112]⟩, .string ⟨#[109, 97, 120]⟩, .string ⟨#[]⟩, .string ⟨#[]⟩] 9)).alloc (.cells #[.string ⟨#[110]⟩, .string ⟨#[]⟩, .string ⟨#[115]⟩] 9)).alloc (.cells #[.string ⟨#[110]⟩, .string ⟨#[]⟩, .string ⟨#[116]⟩] 9)).alloc (.cells #[.string ⟨#[97]⟩, .string ⟨#[]⟩, .string ⟨#[]⟩, .string ⟨#[]⟩] 9)).alloc (.cells #[.slice (some ⟨w.heap.size, 0, none⟩) 4 4, .func (.func 55) #[] #[], .func (.func 56) #[] #[], .slice (some ⟨w.heap.size + 1, 0, none⟩) 3 3, .func (.func 57) #[] #[], .func (.func 58) #[] #[], .slice (some ⟨w.heap.size + 1 + 1, 0, none⟩) 3 3, .func (.func 59) #[] #[], .func (.func 60) #[] #[], .slice (some ⟨w.heap.size + 1 + 1 + 1, 0, none⟩) 4 4, .func (.func 61) #[] #[], .func (.func 62) #[] #[]] 77)) (w.heap.size + 1 + 1 + 1 + 1) 3 := ⟨w.heap.size + 1 + 1 + 1, C 9, C 10, C 11, R3⟩
  have HK := Lib.hid (show ∀ i, i < 4 → KindAt (((((w.alloc (.cells #[.string ⟨#[112]⟩, .string ⟨#[109, 97, 120]⟩, .string ⟨#[]⟩, .string ⟨#[]⟩] 9)).alloc (.cells #[.string ⟨#[110]⟩, .string ⟨#[]⟩, .string ⟨#[115]⟩] 9)).alloc (.cells #[.string ⟨#[110]⟩, .string ⟨#[]⟩, .string ⟨#[116]⟩] 9)).alloc (.cells #[.string ⟨#[97]⟩, .string ⟨#[]⟩, .string ⟨#[]⟩, .string ⟨#[]⟩] 9)).alloc (.cells #[.slice (some ⟨w.heap.size, 0, none⟩) 4 4, .func (.func 55) #[] #[], .func (.func 56) #[] #[], .slice (some ⟨w.heap.size + 1, 0, none⟩) 3 3, .func (.func 57) #[] #[], .func (.func 58) #[] #[], .slice (some ⟨w.heap.size + 1 + 1, 0, none⟩) 3 3, .func (.func 59) #[] #[], .func (.func 60) #[] #[], .slice (some ⟨w.heap.size + 1 + 1 + 1, 0, none⟩) 4 4, .func (.func 61) #[] #[], .func (.func 62) #[] #[]] 77)) (w.heap.size + 1 + 1 + 1 + 1) i from fun i hi => by
    match i, hi with
    | 0, _ => exact K0
    | 1, _ => exact K1
    | 2, _ => exact K2
    | 3, _ => exact K3)
  have HB := Lib.hid HB
  clear R0 R1 R2 R3 C K0 K1 K2 K3
  go_enter Tryd.func39, Tryd.ntmps39
  go_wp2
  go_ret
  exact ⟨_, rfl, HK.out, HB.out⟩

set_option maxHeartbeats 4000000 in
theorem fits_any (ap ax : Option Addr) (cp cx j1 j2 : Nat) (P X : List (List UInt8)) (w : World) (hp : Txt.SRow w ap P) (hx : Txt.SRow w ax X) (h1 : P.length ≤ 1000000) (h2 : X.length ≤ 2000000) :
    Calls Tryd.prog 40 #[.agg #[.slice ap P.length cp, .func (.func j1) #[] #[], .func (.func j2) #[] #[]], .slice ax X.length cx] w fun e w' => e = .returned (.bool (fitsL P X)) ∧ Below w.heap.size w w' := by
  have HB0 := Lib.hid ((Below.refl w.heap.size w).alloc (Nat.le_refl _) (.cells #[.slice ap P.length cp, .func (.func j1) #[] #[], .func (.func j2) #[] #[]] 77))
  by_cases hl : X.length = P.length
  case neg =>
    have hne : ((X.length : Int) == (P.length : Int)) = false := by simp; omega
    have HE := Lib.hid (fitsL_ne hl)
    clear hp hx hl
    go_enter Tryd.func40, Tryd.ntmps40
    go_wp2
    go_ret
    exact ⟨Ne.retB HE.out.symm, HB0.out⟩
  have HP := Lib.hid hp
  have HX := Lib.hid hx
  have HL := Lib.hid hl
  rw [hl]
  rw [hl] at h2
  have hne : ((P.length : Int) == (P.length : Int)) = true := by simp
  clear hp hx hl
  go_enter Tryd.func40, Tryd.ntmps40
  go_wp2
  go_loop [16] (fun i => ∃ k : Nat, k ≤ P.length ∧ i = .int .i64 k ∧ fitsL P X = fitsL (P.drop k) (X.drop k)) (fun i => P.length - (intOf i).toNat)
  case atStart => exact ⟨0, Nat.zero_le _, rfl, rfl⟩
  case round =>
    obtain ⟨k, hk, rfl, hf⟩ := hrel
    by_cases hlt : k < P.length
    · obtain ⟨p, g1⟩ : ∃ p, P[k]? = some p := ⟨_, List.getElem?_eq_getElem hlt⟩
      obtain ⟨x, g2⟩ : ∃ x, X[k]? = some x := ⟨_, List.getElem?_eq_getElem (by have := HL.out; omega)⟩
      have hd := fitsL_drop g1 g2
      rcases HP.out with h | ⟨b1, o1, rfl, _, k1⟩
      · rw [h] at hlt; simp at hlt
      rcases HX.out with h | ⟨b2, o2, rfl, _, k2⟩
      · exfalso; have := HL.out; rw [h] at this; rw [← this] at hlt; simp at hlt
      have hc1 := k1 k _ g1
      have hc2 := k2 k _ g2
      unfold Txt.encS at hc1 hc2
      have hki : (k : Int) < (P.length : Int) := by omega
      clear k1 k2 g1 g2
      by_cases f1 : p = []
      · have HN := Lib.hid (show fitsL P X = fitsL (P.drop (k + 1)) (X.drop (k + 1)) by rw [hf, hd]; simp [f1])
        have f1' : p.isEmpty = true := by simp [f1]
        clear f1 hf hd
        go_wp2
        go_round
        case rel => exact ⟨k + 1, by omega, by go_num, HN.out⟩
        case measure => simp [intOf]; omega
      · have f1' : p.isEmpty = false := by simp [f1]
        by_cases f2 : p = x
        · have HN := Lib.hid (show fitsL P X = fitsL (P.drop (k + 1)) (X.drop (k + 1)) by rw [hf, hd]; simp [f2])
          subst f2
          clear f1 hf hd
          go_wp2
          go_round
          case rel => exact ⟨k + 1, by omega, by go_num, HN.out⟩
          case measure => simp [intOf]; omega
        · have HN := Lib.hid (show fitsL P X = false by rw [hf, hd]; simp [f1, f2])
          have f2' : (p == x) = false := by simpa using f2
          clear f1 f2 hf hd
          go_wp2
          go_ret
          exact ⟨Ne.retB HN.out.symm, HB0.out⟩
    · have HN := Lib.hid (show fitsL P X = true by rw [hf]; exact fitsL_end (by omega) (by have := HL.out; omega))
      clear hf
      go_wp2
      go_ret
      exact ⟨Ne.retB HN.out.symm, HB0.out⟩

/-- a row of 64-bit numbers that a call made -/
abbrev OwnJ (w : World) (B : Nat) (v : Value) (l : List Int) : Prop := Rw.Own 2 1 Ne.encI w B v l
theorem elemJ : Rw.Elem 2 79 1 8 (.int .i64 0) := ⟨by kernel_rfl, Tryd.underlying79, rfl, by decide, by decide⟩
theorem jrow_one (w : World) {b : Nat} (hb : b = w.heap.size) (x : Int) : Ne.IRow (w.alloc (.cells #[.int .i64 x] 2)) (some ⟨b, 0, none⟩) [x] := by
  subst hb
  refine .inr ⟨w.heap.size, 0, rfl, by simp, ?_⟩
  intro i y hi j v hv
  match i, hi with
  | 0, hi =>
    simp at hi; subst hi
    match j, hv with
    | 0, hv => simp [Ne.encI] at hv; subst hv; exact World.cell?_alloc_new w _ _ 0
    | (j + 1), hv => simp [Ne.encI] at hv
  | (i + 1), hi => simp at hi
theorem retVI {v : Value} {a b : Int} (h : a = b) : Ending.returned (.tuple #[v, .int .i64 a]) = .returned (.tuple #[v, .int .i64 b]) := by rw [h]
theorem numsE_at {x : List UInt8} {r : List (List UInt8)} (h : Txt.numE x ≠ 0) : numsE (x :: r) = Txt.numE x := by unfold numsE; rw [if_neg h]
theorem numsE_on {x : List UInt8} {r : List (List UInt8)} (h : Txt.numE x = 0) : numsE (x :: r) = numsE r := by conv => lhs; unfold numsE; rw [if_pos h]

set_option maxHeartbeats 4000000 in
theorem knumbers_any (ap ax : Option Addr) (cp cx j1 j2 : Nat) (P X : List (List UInt8)) (w : World) (hv : Txt.Vars w) (hp : Txt.SRow w ap P) (hx : Txt.SRow w ax X) (hl : X.length = P.length) (h1 : P.length ≤ 1000000) (h2 : ∀ x ∈ X, x.length ≤ 1000000) :
    Calls Tryd.prog 41 #[.agg #[.slice ap P.length cp, .func (.func j1) #[] #[], .func (.func j2) #[] #[]], .slice ax X.length cx] w fun e w' =>
      ∃ v, e = .returned (.tuple #[v, .int .i64 (numsE (sel P X))]) ∧ (numsE (sel P X) = 0 → OwnJ w' w.heap.size v ((sel P X).map Txt.numV)) ∧ Below w.heap.size w w' := by
  have HB0 := Lib.hid ((Below.refl w.heap.size w).alloc (Nat.le_refl _) (.cells #[.slice ap P.length cp, .func (.func j1) #[] #[], .func (.func j2) #[] #[]] 77))
  have HP := Lib.hid hp
  have HX := Lib.hid hx
  have HV := Lib.hid hv
  have HL := Lib.hid hl
  have HZ := Lib.hid h2
  rw [hl]
  clear hp hx hl hv h2
  go_enter Tryd.func41, Tryd.ntmps41
  go_wp2
  go_loopw [6, 14] (fun v i wr => ∃ (k : Nat) (xs : List Int), k ≤ P.length ∧ i = .int .i64 k ∧ OwnJ wr w.heap.size v xs ∧ Below w.heap.size w wr ∧ xs.length ≤ k ∧ numsE (sel P X) = numsE (sel (P.drop k) (X.drop k)) ∧ (sel P X).map Txt.numV = xs ++ (sel (P.drop k) (X.drop k)).map Txt.numV) (fun _ i _ => P.length - (intOf i).toNat)
  case atStart => exact ⟨0, [], Nat.zero_le _, rfl, Rw.own_nil _ _, HB0.out, by simp, rfl, rfl⟩
  case round =>
    obtain ⟨k, xs, hk, rfl, hown, hbel, hxl, hE, hM⟩ := hrel
    have HO := Lib.hid hown
    have HB := Lib.hid hbel
    have hsz := HB.out.size
    clear hown hbel
    obtain ⟨ao, cap, rfl, _⟩ := Rw.own_row Ne.encI_len HO.out
    by_cases hlt : k < P.length
    · obtain ⟨p, g1⟩ : ∃ p, P[k]? = some p := ⟨_, List.getElem?_eq_getElem hlt⟩
      obtain ⟨x, g2⟩ : ∃ x, X[k]? = some x := ⟨_, List.getElem?_eq_getElem (by have := HL.out; omega)⟩
      have hd := sel_drop g1 g2
      have HXL := Lib.hid (HZ.out x (List.mem_of_getElem? g2))
      rcases HP.out.below HB.out with h | ⟨b1, o1, rfl, _, k1⟩
      · rw [h] at hlt; simp at hlt
      rcases HX.out.below HB.out with h | ⟨b2, o2, rfl, _, k2⟩
      · exfalso; have := HL.out; rw [h] at this; rw [← this] at hlt; simp at hlt
      have hc1 := k1 k _ g1
      have hc2 := k2 k _ g2
      unfold Txt.encS at hc1 hc2
      have hki : (k : Int) < (P.length : Int) := by omega
      clear k1 k2 g1 g2
      by_cases f1 : p = []
      · have f1' : p.isEmpty = true := by simp [f1]
        rw [if_pos f1] at hd
        rw [hd] at hE hM
        have hN := Txt.number_any ⟨x.toArray⟩ _ (by have := HXL.out; simpa [ByteArray.size] using this) (HV.out.below HB.out)
        rw [show (⟨x.toArray⟩ : ByteArray).data.toList = x from by simp] at hN
        have HN := Lib.hid hN
        by_cases f2 : Txt.numE x = 0
        · have HE2 := Lib.hid (hE.trans (numsE_on f2))
          have HM2 := Lib.hid (show (sel P X).map Txt.numV = (xs ++ [Txt.numV x]) ++ (sel (P.drop (k + 1)) (X.drop (k + 1))).map Txt.numV by rw [hM]; simp)
          have HLN := Lib.hid (show xs.length + [Txt.numV x].length ≤ 1099511627776 by simp; omega)
          clear f1 hE hM hd hN
          rw [f2] at HN
          clear f2
          go_wp2_with fail
          refine HN.out.mono ?_
          rintro e w1 ⟨rfl, hb⟩
          have HB1 := Lib.hid (HB.out.trans (hb.mono hsz))
          have HO1 := Lib.hid (Rw.own_below HO.out hb)
          have hsz1 := HB1.out.size
          clear hb
          go_wp2_with (at_builtin; refine Rw.app elemJ Ne.encI_len Ne.encI_one rfl (.tmp 32) (.tmp 34) rfl w.heap.size (.slice ao xs.length cap) xs rfl ?ho (some ⟨w1.heap.size, 0, none⟩) 1 [Txt.numV x] rfl ?hnn ?hrow HLN.out ?hB ?_; (case ho => exact Rw.own_alloc HO1.out _); (case hnn => (intro h; cases h)); (case hrow => exact jrow_one w1 rfl _); (case hB => (simp; omega)); intro v2 w2 hown2 hgr2; have HO2 := Lib.hid hown2; have HB2 := Lib.hid ((HB1.out.alloc hsz1 _).grown hgr2 (by simp; omega) (Rw.own_block HO1.out)); clear hown2 hgr2)
          go_roundw
          case rel => exact ⟨k + 1, _, by omega, by go_num, HO2.out, HB2.out, by simp; omega, HE2.out, HM2.out⟩
          case measure => simp [intOf]; omega
        · have HE2 := Lib.hid (hE.trans (numsE_at f2))
          have HF := Lib.hid f2
          have f2' : (Txt.numE x != 0) = true := by simpa using f2
          clear f1 hE hM hd hN f2
          go_wp2_with fail
          refine HN.out.mono ?_
          rintro e w1 ⟨rfl, hb⟩
          have HB1 := Lib.hid (HB.out.trans (hb.mono hsz))
          clear hb
          go_wp2
          go_ret2
          exact ⟨_, retVI HE2.out.symm, fun h => by (rw [HE2.out] at h; exact absurd h HF.out), HB1.out⟩
      · have f1' : p.isEmpty = false := by simp [f1]
        rw [if_neg f1] at hd
        rw [hd] at hE hM
        have HE2 := Lib.hid hE
        have HM2 := Lib.hid hM
        clear f1 hE hM hd
        go_wp2
        go_roundw
        case rel => exact ⟨k + 1, xs, by omega, by go_num, HO.out, HB.out, by omega, HE2.out, HM2.out⟩
        case measure => simp [intOf]; omega
    · have hs := sel_end (P := P) (X := X) (k := k) (by omega)
      rw [hs] at hE hM
      have HE2 := Lib.hid (show numsE (sel P X) = 0 from hE)
      have HM2 := Lib.hid (show (sel P X).map Txt.numV = xs by rw [hM]; simp)
      clear hE hM hs
      go_wp2
      go_ret2
      exact ⟨_, retVI HE2.out.symm, fun _ => by (rw [HM2.out]; exact HO.out), HB.out⟩
end Dm
end Go.Proofs.YtaepoddmonijkaaDoor
