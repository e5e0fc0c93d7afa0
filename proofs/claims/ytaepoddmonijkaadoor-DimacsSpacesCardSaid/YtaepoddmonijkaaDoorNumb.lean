/-
  Contracts of text.Number, text.Write, and of the document's own Number and Write. Conditions: the library's variables hold what start-up lays (Vars), words of at most a million bytes.
-/
import Derived.Test.YtaepoddmonijkaaDoorDig
import Derived.Test.YtaepoddmonijkaaDoorShelf
import Derived.Deep.DeepCutAuto
import Derived.Lib.AppendIntMem
import Derived.Lib.AtoiErrMem
import Derived.WalkSmall
namespace Go.Proofs.YtaepoddmonijkaaDoor
open Go.ChangeShapes Go.WideShapes Go.ChangeAt Go.RowKit
set_option linter.unusedVariables false
namespace Txt

/-- what the library's own variables hold, as far as it is read -/
structure Vars (w : World) : Prop where
  rng : ∃ tp p, w.var? Tryd.prog "strconv.ErrRange" = some #[.iface tp p]
  pow : Lib.TabIs Tryd.prog w "internal/strconv.uint64pow10" .u64 Lib.pow10Tab
  mxl : ∃ m, w.cell? ⟨1, 0, none⟩ = some (.int .i64 m)
  big : 7 < w.heap.size ∧ 0 < w.heap.size ∧ 1 < w.heap.size

theorem Vars.below {w w' : World} (h : Vars w) (hb : Below w.heap.size w w') : Vars w' := by
  obtain ⟨⟨tp, p, h1⟩, h2, ⟨m, h3⟩, b1, b2, b3⟩ := h
  refine ⟨⟨tp, p, ?_⟩, ?_, ⟨m, by rw [hb.cell (p := ⟨1, 0, none⟩) b3]; exact h3⟩, Nat.lt_of_lt_of_le b1 hb.size, Nat.lt_of_lt_of_le b2 hb.size, Nat.lt_of_lt_of_le b3 hb.size⟩
  · exact var?_below hb (g := 7) (by kernel_rfl) b1 h1
  · exact var?_below hb (g := 0) (by kernel_rfl) b2 h2

set_option maxHeartbeats 1000000 in
/-- text.Number -/
theorem number_any (s : ByteArray) (w : World) (hs : s.size ≤ 1000000) (hv : Vars w) :
    Calls Tryd.prog 63 #[.string s] w fun e w' => e = .returned (.tuple #[.int .i64 (numV s.data.toList), .int .i64 (numE s.data.toList)]) ∧ Below w.heap.size w w' := by
  have hT : (Lib.trimPrefix s.data.toList [45]) = body s.data.toList := body_trim _
  have hle := Lib.trimPrefix_le s.data.toList [45]
  have hz : (⟨(body s.data.toList).toArray⟩ : ByteArray).size ≤ 9223372036854775807 := by
    rw [← hT, Lib.size_eq]; rw [Lib.size_eq] at hs; simp only; omega
  have HT : Hid (∀ w, Calls Tryd.prog 79 #[.string s, .string ⟨#[45]⟩] w fun e w' => e = .returned (.string ⟨(body s.data.toList).toArray⟩) ∧ w = w') := by
    intro w
    refine (Tryd.strings_TrimPrefix s ⟨#[45]⟩ w).mono ?_
    rintro e w' ⟨rfl, rfl⟩
    refine ⟨?_, rfl⟩
    rw [show (⟨#[45]⟩ : ByteArray).data.toList = [45] from rfl, hT]
  have HD : Hid (∀ w, Calls Tryd.prog 78 #[.string ⟨(body s.data.toList).toArray⟩] w fun e w' => e = .returned (.bool (okB (body s.data.toList))) ∧ w = w') := fun w => digits_any _ w hz
  clear hT hle hz
  by_cases hok : okB (body s.data.toList) = true
  · by_cases h0 : numE s.data.toList = 0
    · have hp := parseInt_good s.data.toList hok
      rw [if_pos h0] at hp
      have HP := Lib.hid (Tryd.strconv_ParseInt_10_at64_ok s (by omega) _ hp w)
      have H0 := Lib.hid h0
      have HOK := Lib.hid hok
      clear hp h0 hok
      have HD' : Hid (∀ w, Calls Tryd.prog 78 #[.string ⟨(body s.data.toList).toArray⟩] w fun e w' => e = .returned (.bool true) ∧ w = w') := by
        intro w; have := HD.out w; rw [HOK.out] at this; exact this
      go_enter Tryd.func63, Tryd.ntmps63
      go_wp2_with (first | (go_at_call 79; refine (HT.out _).mono ?_; rintro e w' ⟨rfl, rfl⟩) | (go_at_call 78; refine (HD'.out _).mono ?_; rintro e w' ⟨rfl, rfl⟩))
      refine HP.out.mono ?_
      rintro e w1 ⟨rfl, hw1⟩
      have HB := Lib.hid (show Below w.heap.size w w1 by
        rcases hw1 with rfl | ⟨t, rfl⟩
        · exact Below.refl _ _
        · exact Lib.bytesWorld_below _ _ _)
      clear hw1
      go_wp2_with fail
      go_ret2
      exact ⟨retN rfl H0.out.symm, HB.out⟩
    · have hp := parseInt_good s.data.toList hok
      rw [if_neg h0] at hp
      obtain ⟨tp, p, hr⟩ := hv.rng
      have HP := Lib.hid (Tryd.strconv_ParseInt_10_at64_range_var s (by omega) hp tp p w hr)
      have h3 : numE s.data.toList = 3 := by
        rcases numE_cases s.data.toList with h | h | h
        · exact absurd h h0
        · exfalso
          by_cases h4 : mag s.data.toList < 9223372036854775808 + (if neg s.data.toList then 1 else 0)
          · exact h0 (numE_ok hok h4)
          · rw [numE_range hok h4] at h; exact absurd h (by decide)
        · exact h
      have H3 := Lib.hid h3
      have HV := Lib.hid (numV_err h0)
      have HOK := Lib.hid hok
      clear hp h0 hok h3 hr
      have HD' : Hid (∀ w, Calls Tryd.prog 78 #[.string ⟨(body s.data.toList).toArray⟩] w fun e w' => e = .returned (.bool true) ∧ w = w') := by
        intro w; have := HD.out w; rw [HOK.out] at this; exact this
      go_enter Tryd.func63, Tryd.ntmps63
      go_wp2_with (first | (go_at_call 79; refine (HT.out _).mono ?_; rintro e w' ⟨rfl, rfl⟩) | (go_at_call 78; refine (HD'.out _).mono ?_; rintro e w' ⟨rfl, rfl⟩))
      refine HP.out.mono ?_
      rintro e w1 ⟨N, rfl, hN, hh, hb⟩
      have HB := Lib.hid hb
      clear hh hb hN
      go_wp2_with fail
      go_ret2
      exact ⟨retN HV.out.symm H3.out.symm, HB.out⟩
  · have hok : okB (body s.data.toList) = false := by simpa using hok
    have H2 := Lib.hid (numE_form hok)
    have HV := Lib.hid (numV_form hok)
    have HOK := Lib.hid hok
    clear hok
    have HD' : Hid (∀ w, Calls Tryd.prog 78 #[.string ⟨(body s.data.toList).toArray⟩] w fun e w' => e = .returned (.bool false) ∧ w = w') := by
      intro w; have := HD.out w; rw [HOK.out] at this; exact this
    go_enter Tryd.func63, Tryd.ntmps63
    go_wp2_with (first | (go_at_call 79; refine (HT.out _).mono ?_; rintro e w' ⟨rfl, rfl⟩) | (go_at_call 78; refine (HD'.out _).mono ?_; rintro e w' ⟨rfl, rfl⟩))
    go_ret2
    exact ⟨retN HV.out.symm H2.out.symm, Below.refl _ _⟩

/-- text.Write -/
theorem write_any (n : Int) (w : World) (h0 : -9223372036854775808 ≤ n) (h1 : n ≤ 9223372036854775807) (hv : Vars w) :
    Calls Tryd.prog 22 #[.int .i64 n] w fun e w' => e = .returned (.string ⟨(Lib.itoa n).toArray⟩) ∧ Below w.heap.size w w' := by
  have HF := Lib.hid (Tryd.strconv_FormatInt_10 n h0 h1 w hv.pow)
  go_enter Tryd.func22, Tryd.ntmps22
  go_wp2_with (go_at_call 37; refine HF.out.mono ?_; rintro e w' ⟨rfl, k, os, rfl⟩)
  go_ret
  exact ⟨rfl, Lib.below_grow _ _ (Nat.le_refl _) _ _⟩

end Txt
end Go.Proofs.YtaepoddmonijkaaDoor
