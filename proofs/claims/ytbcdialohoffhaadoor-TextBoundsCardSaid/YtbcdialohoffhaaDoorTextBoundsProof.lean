/- TextBounds: for every input the law returns true and its arguments read as they did. No condition. -/
import Derived.Test.YtbcdialohoffhaaDoorVars
import Derived.Test.YtbcdialohoffhaaDoorShown2
import Derived.Test.YtbcdialohoffhaaDoorZerm
import Derived.Test.YtbcdialohoffhaaDoorRows
import Derived.Test.YtbcdialohoffhaaDoorTie
import Derived.Test.YtbcdialohoffhaaDoorCards
import Derived.WalkKit
import Derived.ProofKit
import Derived.OpenShut
import Derived.ShutString
import Derived.ChangeOld
import Derived.Below
import Derived.Deep.Strs
import Derived.LaidMore
import Derived.Lay
import Derived.SevenTiedAt
import Derived.Stop.Joined
namespace Go.Proofs.YtbcdialohoffhaaDoor.textBounds
open Go.ChangeShapes Go.WideShapes Go.ChangeAt Go.RowKit
open Go.ChangeMaps (open_string shut_string)
set_option linter.unusedVariables false

theorem own : ownKnob Tryd.prog.godebug = none := by kernel_rfl
theorem laidOut : laidOutB Tryd.prog = true := by kernel_rfl

theorem tens_more (s : ByteArray) (k : Nat) (h : s.data.toList = 49 :: List.replicate k 48) : (s ++ ⟨#[48]⟩ : ByteArray).data.toList = 49 :: List.replicate (k + 1) 48 := by
  rw [Txt.data_append, h, List.replicate_succ']; rfl
theorem sign_minus (s : ByteArray) : Txt.numE (s ++ ⟨#[45]⟩ : ByteArray).data.toList = 2 := by
  rw [Txt.data_append]
  rcases h : s.data.toList with _ | ⟨c, r⟩
  · rfl
  · refine Txt.num_bad (c := 45) ?_ rfl
    show (45 : UInt8) ∈ Txt.body ((c :: r) ++ [45])
    unfold Txt.body
    split <;> simp
/-- of a sign without digits: is a five behind it a number? -/
theorem sign_five {l : List UInt8} (hd : ∀ c ∈ l, Txt.dig c = false) :
    (l = [] ∧ Txt.numE (l ++ [53]) = 0 ∧ Txt.numV (l ++ [53]) = 5) ∨ (l = [45] ∧ Txt.numE (l ++ [53]) = 0 ∧ Txt.numV (l ++ [53]) = -5) ∨ (l ≠ [] ∧ l ≠ [45] ∧ Txt.numE (l ++ [53]) = 2) := by
  rcases l with _ | ⟨c, r⟩
  · exact .inl ⟨rfl, by kernel_rfl, by kernel_rfl⟩
  · by_cases hc : c = 45
    · subst hc
      rcases r with _ | ⟨x, y⟩
      · exact .inr (.inl ⟨rfl, by kernel_rfl, by kernel_rfl⟩)
      · refine .inr (.inr ⟨by simp, by simp, ?_⟩)
        refine Txt.num_bad (c := x) ?_ (hd x (by simp))
        show x ∈ Txt.body (45 :: (x :: y ++ [53]))
        rw [Txt.body_minus]; simp
    · refine .inr (.inr ⟨by simp, by simp; intro h; exact absurd h hc, ?_⟩)
      exact Txt.num_bad (Txt.mem_body_of_ne (by simp) hc) (hd c (by simp))
theorem five_facts (s : ByteArray) (hd : ∀ c ∈ s.data.toList, Txt.dig c = false) :
    ((s.toList == [45]) = false ∧ s.toList.isEmpty = true ∧ Txt.numE (s.data.toList ++ [53]) = 0 ∧ Txt.numV (s.data.toList ++ [53]) = 5) ∨
    ((s.toList == [45]) = true ∧ s.toList.isEmpty = false ∧ Txt.numE (s.data.toList ++ [53]) = 0 ∧ Txt.numV (s.data.toList ++ [53]) = -5) ∨
    ((s.toList == [45]) = false ∧ s.toList.isEmpty = false ∧ Txt.numE (s.data.toList ++ [53]) = 2 ∧ Txt.numV (s.data.toList ++ [53]) = 0) := by
  rw [Lib.toList_data]
  rcases sign_five hd with ⟨h1, h2, h3⟩ | ⟨h1, h2, h3⟩ | ⟨h1, h2, h3⟩
  · left; rw [h1] at h2 h3 ⊢; exact ⟨rfl, rfl, h2, h3⟩
  · right; left; rw [h1] at h2 h3 ⊢; exact ⟨rfl, rfl, h2, h3⟩
  · right; right; exact ⟨by simpa using h2, by simpa using h1, h3, Txt.numV_err (by rw [h3]; decide)⟩

set_option maxRecDepth 100000 in
set_option maxHeartbeats 4000000 in
theorem walk (a0 : Int) (a1 : ByteArray) (w : World) (w0 : (Lit.int .i64 a0).wf = true) (w1 : a1.size ≤ maxLen) (hv : Txt.Vars w) :
    Calls Tryd.prog 5 #[.int .i64 a0, .string a1] w fun e w' => e = .returned (.bool true) ∧ Below w.heap.size w w' := by
  by_cases hbig : (100 : Int) < a1.size
  · go_enter Tryd.func5, Tryd.ntmps5
    go_wp2_with (go_at_call 10; refine (Txt.shown_any _ hv).mono ?_; rintro e w1 ⟨rfl, hb1⟩)
    go_ret
    exact ⟨rfl, hb1⟩
  · have hs : a1.size ≤ 100 := by omega
    have bm := bounds_i64 w0
    have HS := Lib.hid (Txt.shown_any w hv)
    have HZ := Lib.hid (Lib.size_eq a1)
    clear w0 w1 hbig
    have H1 : Hid (∀ w' : World, Txt.Vars w' → Calls Tryd.prog 11 #[.string ⟨#[57, 50, 50, 51, 51, 55, 50, 48, 51, 54, 56, 53, 52, 55, 55, 53, 56, 48, 55]⟩] w' fun e w2 => e = .returned (.tuple #[.int .i64 9223372036854775807, .int .i64 0]) ∧ Below w'.heap.size w' w2) := by
      intro w' hv'
      have h := Txt.number_any ⟨#[57, 50, 50, 51, 51, 55, 50, 48, 51, 54, 56, 53, 52, 55, 55, 53, 56, 48, 55]⟩ w' (by decide) hv'
      rw [show Txt.numV (⟨#[57, 50, 50, 51, 51, 55, 50, 48, 51, 54, 56, 53, 52, 55, 55, 53, 56, 48, 55]⟩ : ByteArray).data.toList = 9223372036854775807 by kernel_rfl, show Txt.numE (⟨#[57, 50, 50, 51, 51, 55, 50, 48, 51, 54, 56, 53, 52, 55, 55, 53, 56, 48, 55]⟩ : ByteArray).data.toList = 0 by kernel_rfl] at h
      exact h
    have H2 : Hid (∀ w' : World, Txt.Vars w' → Calls Tryd.prog 11 #[.string ⟨#[45, 57, 50, 50, 51, 51, 55, 50, 48, 51, 54, 56, 53, 52, 55, 55, 53, 56, 48, 56]⟩] w' fun e w2 => e = .returned (.tuple #[.int .i64 (-9223372036854775808), .int .i64 0]) ∧ Below w'.heap.size w' w2) := by
      intro w' hv'
      have h := Txt.number_any ⟨#[45, 57, 50, 50, 51, 51, 55, 50, 48, 51, 54, 56, 53, 52, 55, 55, 53, 56, 48, 56]⟩ w' (by decide) hv'
      rw [show Txt.numV (⟨#[45, 57, 50, 50, 51, 51, 55, 50, 48, 51, 54, 56, 53, 52, 55, 55, 53, 56, 48, 56]⟩ : ByteArray).data.toList = -9223372036854775808 by kernel_rfl, show Txt.numE (⟨#[45, 57, 50, 50, 51, 51, 55, 50, 48, 51, 54, 56, 53, 52, 55, 55, 53, 56, 48, 56]⟩ : ByteArray).data.toList = 0 by kernel_rfl] at h
      exact h
    have H3 : Hid (∀ w' : World, Txt.Vars w' → Calls Tryd.prog 11 #[.string ⟨#[57, 50, 50, 51, 51, 55, 50, 48, 51, 54, 56, 53, 52, 55, 55, 53, 56, 48, 56]⟩] w' fun e w2 => e = .returned (.tuple #[.int .i64 0, .int .i64 3]) ∧ Below w'.heap.size w' w2) := by
      intro w' hv'
      have h := Txt.number_any ⟨#[57, 50, 50, 51, 51, 55, 50, 48, 51, 54, 56, 53, 52, 55, 55, 53, 56, 48, 56]⟩ w' (by decide) hv'
      rw [show Txt.numV (⟨#[57, 50, 50, 51, 51, 55, 50, 48, 51, 54, 56, 53, 52, 55, 55, 53, 56, 48, 56]⟩ : ByteArray).data.toList = 0 by kernel_rfl, show Txt.numE (⟨#[57, 50, 50, 51, 51, 55, 50, 48, 51, 54, 56, 53, 52, 55, 55, 53, 56, 48, 56]⟩ : ByteArray).data.toList = 3 by kernel_rfl] at h
      exact h
    have H4 : Hid (∀ w' : World, Txt.Vars w' → Calls Tryd.prog 11 #[.string ⟨#[45, 57, 50, 50, 51, 51, 55, 50, 48, 51, 54, 56, 53, 52, 55, 55, 53, 56, 48, 57]⟩] w' fun e w2 => e = .returned (.tuple #[.int .i64 0, .int .i64 3]) ∧ Below w'.heap.size w' w2) := by
      intro w' hv'
      have h := Txt.number_any ⟨#[45, 57, 50, 50, 51, 51, 55, 50, 48, 51, 54, 56, 53, 52, 55, 55, 53, 56, 48, 57]⟩ w' (by decide) hv'
      rw [show Txt.numV (⟨#[45, 57, 50, 50, 51, 51, 55, 50, 48, 51, 54, 56, 53, 52, 55, 55, 53, 56, 48, 57]⟩ : ByteArray).data.toList = 0 by kernel_rfl, show Txt.numE (⟨#[45, 57, 50, 50, 51, 51, 55, 50, 48, 51, 54, 56, 53, 52, 55, 55, 53, 56, 48, 57]⟩ : ByteArray).data.toList = 3 by kernel_rfl] at h
      exact h
    have HM : Hid (∀ w' : World, Txt.Vars w' → Calls Tryd.prog 11 #[.string (a1 ++ ⟨#[45]⟩ : ByteArray)] w' fun e w2 => e = .returned (.tuple #[.int .i64 0, .int .i64 2]) ∧ Below w'.heap.size w' w2) := by
      intro w' hv'
      have h := Txt.number_any (a1 ++ ⟨#[45]⟩ : ByteArray) w' (by rw [ByteArray.size_append]; show a1.size + 1 ≤ _; omega) hv'
      have ht := sign_minus a1
      rw [ht, Txt.numV_err (by rw [ht]; decide)] at h
      exact h
    have HF : Hid (∀ w' : World, Txt.Vars w' → Calls Tryd.prog 11 #[.string (a1 ++ ⟨#[53]⟩ : ByteArray)] w' fun e w2 => e = .returned (.tuple #[.int .i64 (Txt.numV (a1.data.toList ++ [53])), .int .i64 (Txt.numE (a1.data.toList ++ [53]))]) ∧ Below w'.heap.size w' w2) := by
      intro w' hv'
      have h := Txt.number_any (a1 ++ ⟨#[53]⟩ : ByteArray) w' (by rw [ByteArray.size_append]; show a1.size + 1 ≤ _; omega) hv'
      rw [Txt.data_append] at h
      exact h
    go_enter Tryd.func5, Tryd.ntmps5
    go_wp2_with (go_at_call 10; refine HS.out.mono ?_; rintro e wa ⟨rfl, hba⟩)
    have HB := Lib.hid hba
    clear hba
    refine (H1.out wa (hv.below HB.out)).mono ?_
    rintro e wb ⟨rfl, hb2⟩
    have HB2 := Lib.hid (HB.out.trans (hb2.mono HB.out.size))
    clear hb2
    go_wp2_with fail
    refine (H2.out wb (hv.below HB2.out)).mono ?_
    rintro e wc ⟨rfl, hb2⟩
    have HB3 := Lib.hid (HB2.out.trans (hb2.mono HB2.out.size))
    clear hb2
    go_wp2_with fail
    refine (H3.out wc (hv.below HB3.out)).mono ?_
    rintro e wd ⟨rfl, hb2⟩
    have HB4 := Lib.hid (HB3.out.trans (hb2.mono HB3.out.size))
    clear hb2
    go_wp2_with fail
    refine (H4.out wd (hv.below HB4.out)).mono ?_
    rintro e we ⟨rfl, hb2⟩
    have HB5 := Lib.hid (HB4.out.trans (hb2.mono HB4.out.size))
    clear hb2
    go_wp2_with fail
    go_loop [14, 15] (fun t i => ∃ (k : Nat) (x : ByteArray), i = .int .i64 k ∧ k ≤ 60 ∧ t = .string x ∧ x.data.toList = 49 :: List.replicate k 48) (fun _ i => 60 - (intOf i).toNat)
    case atStart => exact ⟨0, ⟨#[49]⟩, rfl, by omega, rfl, rfl⟩
    case round =>
      obtain ⟨k, x, rfl, hk, rfl, hx⟩ := hrel
      have hxs : x.size = k + 1 := by rw [Lib.size_eq, hx]; simp
      have HX := Lib.hid hx
      have HXS := Lib.hid hxs
      have hx1 : x.size ≤ 61 := by omega
      clear hx hxs
      by_cases hgo : k < 19 ∨ ((k : Int) < a0 ∧ k < 60)
      · have HN := Lib.hid (tens_more x k HX.out)
        have hk2 : k < 60 := by omega
        have ht : (k : Int) < 19 ∨ (¬ (k : Int) < 19 ∧ (k : Int) < a0) := by omega
        clear hgo
        rcases ht with h1 | ⟨h1, h2⟩
        all_goals
          go_wp2
          go_round
          case rel => exact ⟨k + 1, _, by go_num, by omega, rfl, HN.out⟩
          case measure => simp [intOf]; omega
      · have h19 : ¬ (k : Int) < 19 := by omega
        have h2 : (k : Int) < a0 → ¬ (k : Int) < 60 := by omega
        have HT5 : Hid (∀ w' : World, Txt.Vars w' → Calls Tryd.prog 11 #[.string x] w' fun e w2 => e = .returned (.tuple #[.int .i64 0, .int .i64 3]) ∧ Below w'.heap.size w' w2) := by
          intro w' hv'
          have h := Txt.number_any x w' (by omega) hv'
          have ht := Txt.num_tens (by omega) HX.out
          rw [ht, Txt.numV_err (by rw [ht]; decide)] at h
          exact h
        clear hgo
        have hw : decide ((k : Int) < a0) = false ∨ (decide ((k : Int) < a0) = true ∧ decide ((k : Int) < 60) = false) := by simp; omega
        clear h2
        rcases hw with hw | ⟨hw, hw2⟩
        all_goals
          go_wp2_with fail
          refine (HT5.out we (hv.below HB5.out)).mono ?_
          rintro e wf ⟨rfl, hb2⟩
          have HB6 := Lib.hid (HB5.out.trans (hb2.mono HB5.out.size))
          clear hb2
          go_wp2_with fail
          refine (HM.out wf (hv.below HB6.out)).mono ?_
          rintro e wg ⟨rfl, hb2⟩
          have HB7 := Lib.hid (HB6.out.trans (hb2.mono HB6.out.size))
          clear hb2
          go_wp2_with fail
          refine (HF.out wg (hv.below HB7.out)).mono ?_
          rintro e wh ⟨rfl, hb2⟩
          have HB8 := Lib.hid (HB7.out.trans (hb2.mono HB7.out.size))
          clear hb2 HT5
          by_cases hd : ∀ c ∈ a1.data.toList, Txt.dig c = false
          · have HD := Lib.hid hd
            have hff := five_facts a1 hd
            clear hd
            rcases hff with ⟨g1, g2, g3, g4⟩ | ⟨g1, g2, g3, g4⟩ | ⟨g1, g2, g3, g4⟩
            all_goals
              rw [g3, g4]
              clear g3 g4
              go_wp2_with fail
              go_loop [23] (fun i => ∃ k : Nat, i = .int .i64 k ∧ k ≤ a1.size) (fun i => a1.size - (intOf i).toNat)
              case atStart => exact ⟨0, rfl, by omega⟩
              case round =>
                obtain ⟨k, rfl, hk⟩ := hrel
                by_cases hlt : k < a1.size
                · have hnd := HD.out _ (Txt.get_mem a1 k hlt)
                  have hnd' : (a1[k].toNat : Int) < 48 ∨ (¬ (a1[k].toNat : Int) < 48 ∧ 57 < (a1[k].toNat : Int)) := by
                    have : ¬ (48 ≤ a1[k].toNat ∧ a1[k].toNat ≤ 57) := fun h => by rw [(Txt.dig_iff _).2 h] at hnd; cases hnd
                    omega
                  clear hnd
                  rcases hnd' with h1 | ⟨h1, h2⟩
                  all_goals
                    go_wp2
                    go_round
                    case rel => exact ⟨k + 1, by go_num, by omega⟩
                    case measure => simp [intOf]; omega
                · go_wp2
                  go_ret
                  exact ⟨rfl, HB8.out⟩
          · have HD := Lib.hid hd
            clear hd
            go_wp2_with fail
            go_loop [23] (fun i => ∃ k : Nat, i = .int .i64 k ∧ k ≤ a1.size ∧ ∀ c ∈ a1.data.toList.take k, Txt.dig c = false) (fun i => a1.size - (intOf i).toNat)
            case atStart => exact ⟨0, rfl, by omega, by simp⟩
            case round =>
              obtain ⟨k, rfl, hk, hno⟩ := hrel
              have HNO := Lib.hid hno
              clear hno
              have hlt : k < a1.size := by
                rcases Nat.lt_or_ge k a1.size with h | h
                · exact h
                · exfalso; apply HD.out
                  have := HNO.out
                  rw [List.take_of_length_le (by rw [← HZ.out]; exact h)] at this
                  exact this
              by_cases hdg : Txt.dig a1[k] = true
              · have hd' := (Txt.dig_iff _).1 hdg
                have h1 : 48 ≤ (a1[k].toNat : Int) := by omega
                have h2 : (a1[k].toNat : Int) ≤ 57 := by omega
                clear hdg hd'
                go_wp2
                go_ret
                exact ⟨rfl, HB8.out⟩
              · have hdg : Txt.dig a1[k] = false := by simpa using hdg
                have HN := Lib.hid (show ∀ c ∈ a1.data.toList.take (k + 1), Txt.dig c = false by
                  rw [Txt.take_snoc a1 k hlt]; intro c hc
                  rcases List.mem_append.1 hc with h | h
                  · exact HNO.out c h
                  · simp at h; rw [h]; exact hdg)
                have hnd' : (a1[k].toNat : Int) < 48 ∨ (¬ (a1[k].toNat : Int) < 48 ∧ 57 < (a1[k].toNat : Int)) := by
                  have : ¬ (48 ≤ a1[k].toNat ∧ a1[k].toNat ≤ 57) := fun h => by rw [(Txt.dig_iff _).2 h] at hdg; cases hdg
                  omega
                clear hdg
                rcases hnd' with h1 | ⟨h1, h2⟩
                all_goals
                  go_wp2
                  go_round
                  case rel => exact ⟨k + 1, by go_num, by omega, HN.out⟩
                  case measure => simp [intOf]; omega

set_option maxRecDepth 100000 in
theorem lifted (os : Os) (started : os.Started) (H : Type) (enc : TypeId × Value → H) :
    ReturnsInHanded {} Tryd.checked os 5 .any (fun w args => (Rows.textBoundsSpec.pre enc Tryd.prog Tryd.f5 Rows.textBoundsRow.domain false w args ∧ laidMetH Tryd.prog Rows.textBoundsRow.laid w) ∧ sizedMet enc Tryd.prog Tryd.f5 (OpenSpec.ofChange Rows.textBoundsSpec) false w args) (Rows.textBoundsSpec.post enc Tryd.prog Tryd.f5 false true false false) := by
  refine Txt.returnsInHanded_of_change_both (C := Tryd.checked) (X := fun w _ => laidMetH Tryd.prog Rows.textBoundsRow.laid w) (fun _ _ _ hh h => h.of_heap hh) own started (by kernel_rfl) Tryd.func5
    (ChangeSpec.witness_shaped (enc := enc) (C := Tryd.checked) (os := os) (X := fun w _ => laidMetH Tryd.prog Rows.textBoundsRow.laid w) false (World.laidAll Tryd.prog os Rows.textBoundsRow.laid) #[.int .i64 0, .string ⟨#[]⟩] 8 (World.laidAll_os _ _ _)
      (World.shaped_of_ZipB (by kernel_rfl) (by kernel_rfl)) (by kernel_rfl) (by kernel_rfl) (by kernel_rfl)
      (by rw [MakeChecks.laidMetH_plain _ _ _ (by kernel_rfl)]; exact laidMet_laidAll _ (by kernel_rfl) (by kernel_rfl))) ?_
  intro W base args ds gs before hval0 hW hcnd _ hL hsh _
  rw [MakeChecks.laidMetH_plain _ _ _ (by kernel_rfl)] at hL
  have hv : Txt.Vars W := Txt.vars_of (hL.tail.tail) (hL.tail.tail.tail) hsh
  have hval : ∀ (j : Nat) t v, Tryd.f5.params[j]? = some t → args[j]? = some v → Value.okWide Tryd.prog W .any base t v := hval0
  have hW' := hW
  obtain ⟨p, q, hA0, hV, rfl, hfz, hnd⟩ := hW
  have hA : DataW.TrodAll enc Tryd.prog W 0 (fun _ => true) true Tryd.f5.params.toList args.toList ds p := hA0
  rw [Tryd.params5] at hA hval
  obtain ⟨v0, vs0, d0, ds0, p0, q0, hargs, rfl, rfl, h0, r0⟩ := trodAll_cons hA
  obtain ⟨v1, vs1, d1, ds1, p1, q1, rfl, rfl, rfl, h1, r1⟩ := trodAll_cons r0
  obtain ⟨rfl, rfl, rfl⟩ := trodAll_nil r1
  obtain rfl : args = #[v0, v1] := by cases args; simp_all
  obtain ⟨rfl, rfl⟩ := trodVars_none hV
  obtain ⟨a0, rfl, rfl, rfl, w0⟩ := open_int Tryd.underlying3 (hval 0 3 v0 rfl rfl) h0
  obtain ⟨a1, rfl, rfl, rfl, w1⟩ := open_string Tryd.underlying9 (hval 1 9 v1 rfl rfl) h1
  clear hA0 hval0
  refine (walk a0 a1 W w0 w1 hv).mono fun e W' ⟨he, bel⟩ => ?_
  subst he
  exact ⟨_, rfl, _, _, _, [], _, [], hW', trodAll_mk1 (shut_bool Tryd.underlying4 _), (trodAll_cons_mk (shut_int Tryd.underlying3 w0) (trodAll_cons_mk (shut_string Tryd.underlying9 w1) trodAll_mk0)), rfl, bel.frame _, fun h => by cases h⟩

theorem over : Rows.textBoundsRow.holds Tryd.pinned (OpenSpec.ofChange Rows.textBoundsSpec) :=
  OpenClaim.holds_of_wide 5 Tryd.f5 rfl rfl rfl rfl rfl rfl rfl ⟨rfl, rfl, rfl, rfl, rfl⟩ rfl rfl rfl rfl rfl (by kernel_rfl) Tryd.func5 (by kernel_rfl)
    (of_decide_eq_true (by kernel_rfl)) (by unfold Func.isWrapper; first | (rw [if_pos (by decide +kernel)]; kernel_rfl) | (rw [if_neg (by decide +kernel)]; exact ⟨rfl, rfl⟩))
    (fun os started H enc _ => lifted os started H enc)

theorem proved : Rows.TextBoundsCardSaid :=
  Claim7.holds_tied_plain_at .later [] [.data, .data, .data, .sentinel, .sentinel] true (true, "8a32f050c3ed60fb1fbf247f636ac5b6e365116b4483822650375d3ad1931c50") true
    over (fun _ h => by cases h) (by kernel_rfl) (fun _ h => by cases h) textBounds_row_tie rfl ⟨rfl, rfl⟩ (by kernel_rfl) rfl
    (fun f fn hf hfn => by
      obtain rfl : f = 5 := Option.some.inj ((show Tryd.prog.funcNamed "raceway/racewaylaw2.TextBounds" = some 5 by kernel_rfl).symm.trans hf) |>.symm
      obtain rfl : fn = Tryd.f5 := (Option.some.inj (Tryd.func5.symm.trans hfn)).symm
      exact ⟨by kernel_rfl, fun j t ht => by
        rw [Tryd.params5] at ht
        have hm : t ∈ [3, 9] := by simpa using Array.mem_of_getElem? ht
        have hall : ([3, 9].all fun u => !Tryd.prog.wantsStandIn u) = true := by kernel_rfl
        exact (show Tryd.prog.wantsStandIn t = false by simpa using List.all_eq_true.1 hall t hm)⟩)
    (by kernel_rfl)
#print axioms proved
end Go.Proofs.YtbcdialohoffhaaDoor.textBounds
