/-
  Contract of chapter 4's example. Condition: the library's variables hold what start-up lays (Vars).
-/
import Derived.Test.YtaepoddmonijkaaDoorPars
namespace Go.Proofs.YtaepoddmonijkaaDoor
open Go.ChangeShapes Go.WideShapes Go.ChangeAt Go.RowKit
set_option linter.unusedVariables false
set_option linter.unusedSimpArgs false
namespace Dm

theorem shown_text : parseN (⟨#[112, 32, 109, 97, 120, 32, 50, 32, 49, 10, 110, 32, 49, 32, 115, 10, 110, 32, 50, 32, 116, 10, 97, 32, 49, 32, 50, 32, 53]⟩ : ByteArray).data.toList = ⟨2, 1, 2, [⟨1, 2, 5⟩]⟩ ∧ parseI (⟨#[112, 32, 109, 97, 120, 32, 50, 32, 49, 10, 110, 32, 49, 32, 115, 10, 110, 32, 50, 32, 116, 10, 97, 32, 49, 32, 50, 32, 53]⟩ : ByteArray).data.toList = 0 ∧ parseE (⟨#[112, 32, 109, 97, 120, 32, 50, 32, 49, 10, 110, 32, 49, 32, 115, 10, 110, 32, 50, 32, 116, 10, 97, 32, 49, 32, 50, 32, 53]⟩ : ByteArray).data.toList = 0 := ⟨by kernel_rfl, by kernel_rfl, by kernel_rfl⟩

set_option maxHeartbeats 4000000 in
theorem shown_any (w : World) (hv : Txt.Vars w) : Calls Tryd.prog 11 #[] w fun e w' => e = .returned (.bool true) ∧ Below w.heap.size w w' := by
  have h := parse_any ⟨#[112, 32, 109, 97, 120, 32, 50, 32, 49, 10, 110, 32, 49, 32, 115, 10, 110, 32, 50, 32, 116, 10, 97, 32, 49, 32, 50, 32, 53]⟩ w (by decide) hv
  obtain ⟨e1, e2, e3⟩ := shown_text
  unfold Parsed at h
  rw [e1, e2, e3] at h
  have H := Lib.hid h
  clear h e1 e2 e3
  go_enter Tryd.func11, Tryd.ntmps11
  go_wp2_with fail
  refine H.out.mono ?_
  rintro e w1 ⟨ao, cap, rfl, hc, hm, hn, hr, hb⟩
  rcases hr with h | ⟨g, off, rfl, hg, hce⟩
  · cases h
  have HB := Lib.hid (hb.alloc hb.size (.cells #[.int .i64 2, .int .i64 1, .int .i64 2, .slice (some ⟨g, off, none⟩) 1 cap] 25))
  have c0 : w1.cell? ⟨g, off, none⟩ = some (.int .i64 1) := (Ne.arow_at hce (i := 0) (a := ⟨1, 2, 5⟩) rfl).1
  have c1 : w1.cell? ⟨g, off + 1, none⟩ = some (.int .i64 2) := (Ne.arow_at hce (i := 0) (a := ⟨1, 2, 5⟩) rfl).2.1
  have c2 : w1.cell? ⟨g, off + 2, none⟩ = some (.int .i64 5) := (Ne.arow_at hce (i := 0) (a := ⟨1, 2, 5⟩) rfl).2.2
  clear hce hc hm hn hb
  go_wp2
  go_ret
  exact ⟨rfl, HB.out⟩
end Dm
end Go.Proofs.YtaepoddmonijkaaDoor
