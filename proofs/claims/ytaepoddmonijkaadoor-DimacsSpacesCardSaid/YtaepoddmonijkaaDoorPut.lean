/-
  Contracts of the developers' dimacs.put and dimacs.write; what a builder holds is kept where blocks are laid. Condition: texts of at most a million bytes.
-/
import Derived.Test.YtaepoddmonijkaaDoorBld
import Derived.Test.YtaepoddmonijkaaDoorWds
import Derived.Test.YtaepoddmonijkaaDoorWrit
import Derived.Test.YtaepoddmonijkaaDoorNbox
import Derived.Test.YtaepoddmonijkaaDoorHeld2
import Derived.Test.YtaepoddmonijkaaDoorPrtm
import Derived.Test.YtaepoddmonijkaaDoorKind
namespace Go.Proofs.YtaepoddmonijkaaDoor
open Go.ChangeShapes Go.WideShapes Go.ChangeAt Go.RowKit
set_option linter.unusedVariables false
set_option linter.unusedSimpArgs false
namespace Dm

abbrev TB : TypeId := 61
abbrev TU : TypeId := 5
theorem ownsRow_below {w w2 : World} {B : Nat} {e : TypeId} {k : Nat} {v : Value} {n : Nat} {xs : List Value} (h : w.ownsRow B e k v n xs) (hb : Below w.heap.size w w2) : w2.ownsRow B e k v n xs := by
  obtain ⟨h1, h2⟩ := h
  refine ⟨h1, ?_⟩
  rcases h2 with h2 | ⟨g, cap, cur, hv, hg, hh, r⟩
  · exact .inl h2
  · exact .inr ⟨g, cap, cur, hv, hg, by rw [hb.block g (Rw.lt_of_heap hh)]; exact hh, r⟩
theorem bldAt_kept {w w2 : World} {B b : Nat} {p : Value} {bs : List Value} (h : Lib.BuilderAt TB TU B b p bs w) (hb : Below w.heap.size w w2) : Lib.BuilderAt TB TU B b p bs w2 := by
  obtain ⟨h0, v, h1, h2, h3⟩ := h
  exact ⟨h0, v, by rw [hb.block b (Rw.lt_of_heap h1)]; exact h1, ownsRow_below h2 hb, h3⟩
theorem bld_kept {w w2 : World} {B b : Nat} {bs : List Value} (h : Lib.IsBuilder TB TU B b bs w) (hb : Below w.heap.size w w2) : Lib.IsBuilder TB TU B b bs w2 := by
  rcases h with h | h
  · exact .inl (bldAt_kept h hb)
  · exact .inr (bldAt_kept h hb)
theorem byteCells_app (a b : List UInt8) : Lib.byteCells (a ++ b) = Lib.byteCells a ++ Lib.byteCells b := by unfold Lib.byteCells; rw [List.map_append]
theorem byteCells_len (a : List UInt8) : (Lib.byteCells a).length = a.length := by unfold Lib.byteCells; simp

set_option maxHeartbeats 2000000 in
theorem put_any (B b : Nat) (bs : List UInt8) (ao : Option Addr) (cap : Nat) (ws : List (List UInt8)) (w : World) (h : Lib.IsBuilder TB TU B b (Lib.byteCells bs) w) (hB : B ≤ w.heap.size) (hr : Txt.SRow w ao ws) (hc : ws.length ≤ cap) (hn : ws.length ≤ 1000000) (hl : (Lib.join ws [32]).length ≤ 1000000) (hbs : bs.length ≤ 1000000000) :
    Calls Tryd.prog 28 #[.pointer (some ⟨b, 0, none⟩), .slice ao ws.length cap] w fun e w' => e = .returned (.tuple #[]) ∧ Lib.BuilderAt TB TU B b (.pointer (some ⟨b, 0, none⟩)) (Lib.byteCells (bs ++ lineT ws)) w' ∧ Below B w w' := by
  have HJ := Lib.hid (Txt.join_any ao cap ws w hr hc hn hl)
  have HBL := Lib.hid h
  obtain ⟨J, hJ⟩ : ∃ J, J = Lib.join ws [32] := ⟨_, rfl⟩
  have HJL := Lib.hid (show lineT ws = J ++ [10] by rw [hJ]; rfl)
  rw [← hJ] at HJ hl
  have HL := Lib.hid hl
  have HBS := Lib.hid hbs
  clear h hr hJ hl hbs
  go_enter Tryd.func28, Tryd.ntmps28
  go_wp2_with fail
  refine HJ.out.mono ?_
  rintro e w1 ⟨rfl, hb⟩
  have HB1 := Lib.hid hb
  have HBL1 := Lib.hid (bld_kept HBL.out hb)
  clear hb
  go_wp2_with fail
  refine (Tryd.Builder_WriteString B b (Lib.byteCells bs) ⟨J.toArray⟩ w1 HBL1.out (by have h1 := HL.out; have h2 := HBS.out; rw [byteCells_len]; show _ + J.toArray.size ≤ _; rw [List.size_toArray]; omega) (Nat.le_trans hB HB1.out.size)).mono ?_
  rintro e w2 ⟨rfl, hat, hb⟩
  have HB2 := Lib.hid ((HB1.out.mono hB).trans hb)
  have HAT2 := Lib.hid (show Lib.BuilderAt TB TU B b (.pointer (some ⟨b, 0, none⟩)) (Lib.byteCells (bs ++ J)) w2 by rw [byteCells_app]; exact hat)
  clear hb hat
  go_wp2_with fail
  refine (Tryd.Builder_WriteByte B b (Lib.byteCells (bs ++ J)) 10 w2 (.inr HAT2.out) (by have h1 := HL.out; have h2 := HBS.out; rw [byteCells_len, List.length_append]; omega) (Nat.le_trans hB HB2.out.size)).mono ?_
  rintro e w3 ⟨rfl, hat, hb⟩
  have HB3 := Lib.hid (HB2.out.trans hb)
  have HAT3 := Lib.hid (show Lib.BuilderAt TB TU B b (.pointer (some ⟨b, 0, none⟩)) (Lib.byteCells (bs ++ lineT ws)) w3 by rw [HJL.out, ← List.append_assoc, byteCells_app (bs ++ J)]; exact hat)
  clear hb hat
  go_wp2
  go_end0
  exact ⟨rfl, HAT3.out, HB3.out⟩

theorem dwrite_any (n : Int) (w : World) (h0 : -9223372036854775808 ≤ n) (h1 : n ≤ 9223372036854775807) (hv : Txt.Vars w) :
    Calls Tryd.prog 29 #[.int .i64 n] w fun e w' => e = .returned (.string ⟨(Lib.itoa n).toArray⟩) ∧ Below w.heap.size w w' := by
  have HW := Lib.hid (Txt.write_any n w h0 h1 hv)
  clear hv
  go_enter Tryd.func29, Tryd.ntmps29
  go_wp2_with fail
  refine HW.out.mono ?_
  rintro e w1 ⟨rfl, hb⟩
  have HB := Lib.hid hb
  clear hb
  go_wp2
  go_ret
  exact ⟨rfl, HB.out⟩
end Dm
end Go.Proofs.YtaepoddmonijkaaDoor
