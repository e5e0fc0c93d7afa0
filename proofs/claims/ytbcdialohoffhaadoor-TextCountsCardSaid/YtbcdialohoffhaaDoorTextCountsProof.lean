/- TextCounts: for every input the law returns true and its arguments read as they did. No condition. -/
import Derived.Lib.ItoaLen
import Derived.Test.YtbcdialohoffhaaDoorVars
import Derived.Test.YtbcdialohoffhaaDoorShown2
import Derived.Test.YtbcdialohoffhaaDoorZerm
import Derived.Test.YtbcdialohoffhaaDoorWds
import Derived.Test.YtbcdialohoffhaaDoorRows
import Derived.Test.YtbcdialohoffhaaDoorTie
import Derived.Test.YtbcdialohoffhaaDoorCards
import Derived.WalkKit
import Derived.ProofKit
import Derived.OpenShut
import Derived.ShutString
import Derived.ChangeOld
import Derived.Below
import Derived.Deep.Strs
import Derived.LaidMore
import Derived.Lay
import Derived.SevenTiedAt
import Derived.Stop.Joined
namespace Go.Proofs.YtbcdialohoffhaaDoor.textCounts
open Go.ChangeShapes Go.WideShapes Go.ChangeAt Go.RowKit
open Go.ChangeMaps (open_string shut_string)
set_option linter.unusedVariables false

theorem own : ownKnob Tryd.prog.godebug = none := by kernel_rfl
theorem laidOut : laidOutB Tryd.prog = true := by kernel_rfl

theorem ba_ext {a b : ByteArray} (h : a.data.toList = b.data.toList) : a = b := by rw [← Lib.mk_data a, ← Lib.mk_data b, h]
theorem two_row (w : World) (S T : ByteArray) : Txt.SRow (w.alloc (.cells #[.string S, .string T] 9)) (some ⟨w.heap.size, 0, none⟩) [S.data.toList, T.data.toList] :=
  Txt.row_new w [S.data.toList, T.data.toList] [.string S, .string T] (by simp [Txt.encS_data])
theorem join_two (S T : ByteArray) : (⟨(Lib.join [S.data.toList, T.data.toList] [32]).toArray⟩ : ByteArray) = (S ++ ⟨#[32]⟩) ++ T := by
  apply ba_ext
  rw [Txt.data_append, Txt.data_append]
  show Lib.join _ _ = _
  rw [Lib.join_cons]; simp [Lib.joinTail]
theorem seg_le (l : List UInt8) (K k : Nat) : Txt.decV 0 (Txt.seg l K k) ≤ Txt.decV 0 (l.drop K) := Txt.decV_take 0 (k - K) (l.drop K)
theorem seg_all {l : List UInt8} {K : Nat} : Txt.seg l K l.length = l.drop K := by unfold Txt.seg; rw [List.take_of_length_le (by simp)]
theorem seg_stepI {s : ByteArray} {K k : Nat} (hK : K ≤ k) (hk : k < s.size) (hd : Txt.dig s[k] = true) :
    (Txt.decV 0 (Txt.seg s.data.toList K (k + 1)) : Int) = 10 * Txt.decV 0 (Txt.seg s.data.toList K k) + ((s[k].toNat : Int) - 48) := by
  rw [Txt.seg_snoc _ _ _ _ hK (Lib.data_getElem? s k hk), Txt.decV_snoc]
  have := (Txt.dig_iff _).1 hd
  omega
theorem byte_at_dig {s : ByteArray} {K k : Nat} (hK : K ≤ k) (hk : k < s.size) (h : (s.data.toList.drop K).all Txt.dig = true) : Txt.dig s[k] = true := by
  refine List.all_eq_true.1 h _ ?_
  have := Lib.data_getElem? s k hk
  have e : (s.data.toList.drop K)[k - K]? = some s[k] := by rw [List.getElem?_drop, show K + (k - K) = k by omega]; exact this
  exact List.mem_of_getElem? e

set_option maxRecDepth 100000 in
set_option maxHeartbeats 4000000 in
theorem walk (a0 : Int) (a1 : Int) (w : World) (w0 : (Lit.int .i64 a0).wf = true) (w1 : (Lit.int .i64 a1).wf = true) (hv : Txt.Vars w) :
    Calls Tryd.prog 7 #[.int .i64 a0, .int .i64 a1] w fun e w' => e = .returned (.bool true) ∧ Below w.heap.size w w' := by
  have ba := bounds_i64 w0
  have bb := bounds_i64 w1
  clear w0 w1
  have HS := Lib.hid (Txt.shown_any w hv)
  obtain ⟨S, hS⟩ : ∃ S : ByteArray, S = ⟨(Lib.itoa a0).toArray⟩ := ⟨_, rfl⟩
  obtain ⟨T, hT⟩ : ∃ T : ByteArray, T = ⟨(Lib.itoa a1).toArray⟩ := ⟨_, rfl⟩
  have hSd : S.data.toList = Lib.itoa a0 := by rw [hS]
  have hTd : T.data.toList = Lib.itoa a1 := by rw [hT]
  have HWa : Hid (∀ w' : World, Txt.Vars w' → Calls Tryd.prog 18 #[.int .i64 a0] w' fun e w2 => e = .returned (.string S) ∧ Below w'.heap.size w' w2) := Lib.hid fun w' hv' => by rw [hS]; exact Txt.write_any a0 w' ba.1 ba.2 hv'
  have HWb : Hid (∀ w' : World, Txt.Vars w' → Calls Tryd.prog 18 #[.int .i64 a1] w' fun e w2 => e = .returned (.string T) ∧ Below w'.heap.size w' w2) := Lib.hid fun w' hv' => by rw [hT]; exact Txt.write_any a1 w' bb.1 bb.2 hv'
  have hSl : S.size ≤ 21 := by rw [Lib.size_eq, hSd]; exact Lib.itoa_length_le a0 ba.1 ba.2
  have hTl : T.size ≤ 21 := by rw [Lib.size_eq, hTd]; exact Lib.itoa_length_le a1 bb.1 bb.2
  have HJ : Hid (∀ wz : World, Calls Tryd.prog 20 #[.slice (some ⟨wz.heap.size, 0, none⟩) 2 2] (wz.alloc (.cells #[.string S, .string T] 9)) fun e w2 => e = .returned (.string ((S ++ ⟨#[32]⟩) ++ T)) ∧ Below wz.heap.size wz w2) := Lib.hid fun wz => by
    have h := Txt.join_any (some ⟨wz.heap.size, 0, none⟩) 2 [S.data.toList, T.data.toList] _ (two_row wz S T) (by simp) (by simp) (by
      rw [Lib.join_cons]; simp only [Lib.joinTail, List.map_cons, List.map_nil, List.flatten_cons, List.flatten_nil, List.length_append, List.length_cons, List.length_nil]
      rw [← Lib.size_eq, ← Lib.size_eq]; omega)
    rw [join_two] at h
    exact h.mono fun e w2 ⟨h1, h2⟩ => ⟨h1, ((Below.refl _ _).alloc (Nat.le_refl _) _).trans (h2.mono (by simp))⟩
  have HLE : Hid ((0 ≤ a0 ∧ a0 ≤ a1) ∨ (a0 < 0 ∧ a1 ≤ a0) → S.size ≤ T.size) := Lib.hid fun h => by rw [Lib.size_eq, Lib.size_eq, hSd, hTd]; exact Txt.itoa_len_le h
  have HEQ : Hid ((S.toList == T.toList) = (a0 == a1)) := Lib.hid (by
    rw [Lib.toList_data, Lib.toList_data, hSd, hTd, Bool.eq_iff_iff]; simp only [beq_iff_eq]
    exact ⟨Txt.itoa_inj ba.1 ba.2 bb.1 bb.2, fun h => by rw [h]⟩)
  have HSZ := Lib.hid (Lib.size_eq S)
  by_cases hneg : a0 < 0
  · have hform : S.data.toList.drop 1 = Lib.decDigits a0.natAbs := by rw [hSd, Txt.itoa_form, if_pos hneg]; rfl
    obtain ⟨hp0, h45⟩ : ∃ h : 0 < S.size, ((S[0].toNat : Int) == 45) = true := by
      have h0 : S.data.toList[0]? = some 45 := by rw [hSd, Txt.itoa_form, if_pos hneg]; rfl
      have hp : 0 < S.size := by rw [Lib.size_eq]; exact (List.getElem?_eq_some_iff.1 h0).1
      exact ⟨hp, by rw [Lib.data_getElem? S 0 hp] at h0; rw [Option.some.inj h0]; rfl⟩
    have HDR := Lib.hid hform
    have HALL := Lib.hid (show (S.data.toList.drop 1).all Txt.dig = true by rw [hform]; exact Txt.decDigits_dig _)
    have HMAG := Lib.hid (show Txt.decV 0 (S.data.toList.drop 1) = a0.natAbs by rw [hform, Txt.decV_decDigits])
    have HKL : Hid (1 < S.size) := Lib.hid (by
      have h := Txt.decDigits_ne a0.natAbs
      rw [← hform] at h
      rw [Lib.size_eq]
      rcases Nat.lt_or_ge 1 S.data.toList.length with h2 | h2
      · exact h2
      · exact absurd (List.drop_eq_nil_of_le h2) h)
    have HONE : Hid (S.size = 1 + 1 ∨ ∃ h : 1 < S.size, S[1] ≠ 48) := Lib.hid (by
      by_cases h10 : a0.natAbs < 10
      · left
        have h := congrArg List.length hform
        rw [Lib.decDigits_one h10, List.length_drop] at h
        rw [Lib.size_eq]
        have := HKL.out; rw [Lib.size_eq] at this
        simp only [List.length_cons, List.length_nil] at h; omega
      · right
        refine ⟨HKL.out, fun e => ?_⟩
        have h := Txt.decDigits_head a0.natAbs (by omega)
        rw [← hform, List.head?_drop, Lib.data_getElem? S 1 HKL.out, e] at h
        exact h rfl)
    have HABS : Hid (a0.natAbs ≤ 9223372036854775808) := Lib.hid (by omega)
    have HVAL : Hid (-(a0.natAbs : Int) = a0) := Lib.hid (by omega)
    have hcmp : decide (a1 ≤ a0) = false ∨ (decide (a1 ≤ a0) = true ∧ ¬ (T.size : Int) < S.size) := by
      by_cases h : a1 ≤ a0
      · right; exact ⟨decide_eq_true h, by have := HLE.out (.inr ⟨by omega, h⟩); omega⟩
      · left; exact decide_eq_false h
    clear hform hSd hTd hS hT HLE
    rcases hcmp with hc1 | ⟨hc1, hc2⟩
    all_goals
      go_enter Tryd.func7, Tryd.ntmps7
      go_wp2_with (go_at_call 10; refine HS.out.mono ?_; rintro e wa ⟨rfl, hba⟩)
      have HB := Lib.hid hba
      clear hba
      refine (HWa.out wa (hv.below HB.out)).mono ?_
      rintro e wb ⟨rfl, hb2⟩
      have HB2 := Lib.hid (HB.out.trans (hb2.mono HB.out.size))
      clear hb2
      go_wp2_with fail
      refine (HWb.out wb (hv.below HB2.out)).mono ?_
      rintro e wc ⟨rfl, hb2⟩
      have HB3 := Lib.hid (HB2.out.trans (hb2.mono HB2.out.size))
      clear hb2
      go_wp2_with fail
      go_loop [8, 10] (fun n i => ∃ k : Nat, i = .int .i64 k ∧ 1 ≤ k ∧ k ≤ S.size ∧ n = .int .i64 (-(Txt.decV 0 (Txt.seg S.data.toList 1 k) : Int))) (fun _ i => S.size - (intOf i).toNat)
      case atStart => exact ⟨1, rfl, Nat.le_refl _, Nat.le_of_lt HKL.out, by rw [Txt.seg_same, Txt.decV_nil]; rfl⟩
      case round =>
        obtain ⟨k, rfl, hKk, hk, rfl⟩ := hrel
        by_cases hlt : k < S.size
        · have hd := byte_at_dig hKk hlt HALL.out
          have hd' := (Txt.dig_iff _).1 hd
          have hS := seg_stepI hKk hlt hd
          have hT := seg_le S.data.toList 1 (k + 1)
          rw [HMAG.out] at hT
          have hA := HABS.out
          clear hd
          generalize Txt.decV 0 (Txt.seg S.data.toList 1 k) = m at *
          have h3 : 48 ≤ (S[k].toNat : Int) := by omega
          have h4 : (S[k].toNat : Int) ≤ 57 := by omega
          clear hd'
          generalize hc : (S[k].toNat : Int) = c at *
          have HN := Lib.hid (show -(Txt.decV 0 (Txt.seg S.data.toList 1 (k + 1)) : Int) = 10 * -(m : Int) - (c - 48) by omega)
          have hb1 : 10 * (m : Int) + (c - 48) ≤ 9223372036854775808 := by omega
          clear hS hT hA
          go_wp2
          go_round
          case rel => exact ⟨k + 1, by go_num, by omega, by omega, by rw [HN.out]⟩
          case measure => simp [intOf]; omega
        · have ek : k = S.size := by omega
          have HN := Lib.hid (show -(Txt.decV 0 (Txt.seg S.data.toList 1 k) : Int) = a0 by rw [ek, HSZ.out, seg_all, HMAG.out]; exact HVAL.out)
          rw [HN.out]
          subst ek
          have hkl := HKL.out
          have hone : ((S.size : Int) == 2) = true ∨ (((S.size : Int) == 2) = false ∧ ((S[1].toNat : Int) != 48) = true) := by
            by_cases h : S.size = 1 + 1
            · left; rw [h]; rfl
            · right
              refine ⟨by simp; omega, ?_⟩
              rcases HONE.out with h2 | ⟨_, h2⟩
              · exact absurd h2 h
              · simp only [bne_iff_ne, ne_eq]; intro e; exact h2 (UInt8.toNat_inj.1 (by simpa using (by omega : S[1].toNat = 48)))
          clear hlt HONE HKL
          rcases hone with ho | ⟨ho, ho2⟩
          all_goals
            go_wp2_with fail
            refine (HJ.out wc).mono ?_
            rintro e wd ⟨rfl, hbj⟩
            have HB4 := Lib.hid (HB3.out.trans (hbj.mono HB3.out.size))
            clear hbj
            go_wp2
            all_goals (go_ret; refine ⟨Txt.retB ?_, HB4.out⟩; rw [HEQ.out]; simp)
  · have hform : S.data.toList.drop 0 = Lib.decDigits a0.natAbs := by rw [hSd, Txt.itoa_form, if_neg hneg]; rfl
    have HDR := Lib.hid hform
    have HALL := Lib.hid (show (S.data.toList.drop 0).all Txt.dig = true by rw [hform]; exact Txt.decDigits_dig _)
    have HMAG := Lib.hid (show Txt.decV 0 (S.data.toList.drop 0) = a0.natAbs by rw [hform, Txt.decV_decDigits])
    have HKL : Hid (0 < S.size) := Lib.hid (by
      have h := Txt.decDigits_ne a0.natAbs
      rw [← hform] at h
      rw [Lib.size_eq]
      rcases Nat.lt_or_ge 0 S.data.toList.length with h2 | h2
      · exact h2
      · exact absurd (List.drop_eq_nil_of_le h2) h)
    have HONE : Hid (S.size = 0 + 1 ∨ ∃ h : 0 < S.size, S[0] ≠ 48) := Lib.hid (by
      by_cases h10 : a0.natAbs < 10
      · left
        have h := congrArg List.length hform
        rw [Lib.decDigits_one h10, List.length_drop] at h
        rw [Lib.size_eq]
        have := HKL.out; rw [Lib.size_eq] at this
        simp only [List.length_cons, List.length_nil] at h; omega
      · right
        refine ⟨HKL.out, fun e => ?_⟩
        have h := Txt.decDigits_head a0.natAbs (by omega)
        rw [← hform, List.head?_drop, Lib.data_getElem? S 0 HKL.out, e] at h
        exact h rfl)
    have HABS : Hid (a0.natAbs ≤ 9223372036854775807) := Lib.hid (by omega)
    have HVAL : Hid ((a0.natAbs : Int) = a0) := Lib.hid (by omega)
    have hcmp : decide (a0 ≤ a1) = false ∨ (decide (a0 ≤ a1) = true ∧ ¬ (T.size : Int) < S.size) := by
      by_cases h : a0 ≤ a1
      · right; exact ⟨decide_eq_true h, by have := HLE.out (.inl ⟨by omega, h⟩); omega⟩
      · left; exact decide_eq_false h
    clear hform hSd hTd hS hT HLE
    rcases hcmp with hc1 | ⟨hc1, hc2⟩
    all_goals
      go_enter Tryd.func7, Tryd.ntmps7
      go_wp2_with (go_at_call 10; refine HS.out.mono ?_; rintro e wa ⟨rfl, hba⟩)
      have HB := Lib.hid hba
      clear hba
      refine (HWa.out wa (hv.below HB.out)).mono ?_
      rintro e wb ⟨rfl, hb2⟩
      have HB2 := Lib.hid (HB.out.trans (hb2.mono HB.out.size))
      clear hb2
      go_wp2_with fail
      refine (HWb.out wb (hv.below HB2.out)).mono ?_
      rintro e wc ⟨rfl, hb2⟩
      have HB3 := Lib.hid (HB2.out.trans (hb2.mono HB2.out.size))
      clear hb2
      go_wp2_with fail
      go_loop [8, 10] (fun n i => ∃ k : Nat, i = .int .i64 k ∧ 0 ≤ k ∧ k ≤ S.size ∧ n = .int .i64 ((Txt.decV 0 (Txt.seg S.data.toList 0 k) : Int))) (fun _ i => S.size - (intOf i).toNat)
      case atStart => exact ⟨0, rfl, Nat.le_refl _, Nat.le_of_lt HKL.out, by rw [Txt.seg_same, Txt.decV_nil]; rfl⟩
      case round =>
        obtain ⟨k, rfl, hKk, hk, rfl⟩ := hrel
        by_cases hlt : k < S.size
        · have hd := byte_at_dig hKk hlt HALL.out
          have hd' := (Txt.dig_iff _).1 hd
          have hS := seg_stepI hKk hlt hd
          have hT := seg_le S.data.toList 0 (k + 1)
          rw [HMAG.out] at hT
          have hA := HABS.out
          clear hd
          generalize Txt.decV 0 (Txt.seg S.data.toList 0 k) = m at *
          have h3 : 48 ≤ (S[k].toNat : Int) := by omega
          have h4 : (S[k].toNat : Int) ≤ 57 := by omega
          clear hd'
          generalize hc : (S[k].toNat : Int) = c at *
          have HN := Lib.hid (show (Txt.decV 0 (Txt.seg S.data.toList 0 (k + 1)) : Int) = 10 * (m : Int) + (c - 48) by omega)
          have hb1 : 10 * (m : Int) + (c - 48) ≤ 9223372036854775807 := by omega
          clear hS hT hA
          go_wp2
          go_round
          case rel => exact ⟨k + 1, by go_num, by omega, by omega, by rw [HN.out]⟩
          case measure => simp [intOf]; omega
        · have ek : k = S.size := by omega
          have HN := Lib.hid (show (Txt.decV 0 (Txt.seg S.data.toList 0 k) : Int) = a0 by rw [ek, HSZ.out, seg_all, HMAG.out]; exact HVAL.out)
          rw [HN.out]
          subst ek
          have hkl := HKL.out
          have hone : ((S.size : Int) == 1) = true ∨ (((S.size : Int) == 1) = false ∧ ((S[0].toNat : Int) != 48) = true) := by
            by_cases h : S.size = 0 + 1
            · left; rw [h]; rfl
            · right
              refine ⟨by simp; omega, ?_⟩
              rcases HONE.out with h2 | ⟨_, h2⟩
              · exact absurd h2 h
              · simp only [bne_iff_ne, ne_eq]; intro e; exact h2 (UInt8.toNat_inj.1 (by simpa using (by omega : S[0].toNat = 48)))
          clear hlt HONE HKL
          rcases hone with ho | ⟨ho, ho2⟩
          all_goals
            go_wp2_with fail
            refine (HJ.out wc).mono ?_
            rintro e wd ⟨rfl, hbj⟩
            have HB4 := Lib.hid (HB3.out.trans (hbj.mono HB3.out.size))
            clear hbj
            go_wp2
            all_goals (go_ret; refine ⟨Txt.retB ?_, HB4.out⟩; rw [HEQ.out]; simp)

set_option maxRecDepth 100000 in
theorem lifted (os : Os) (started : os.Started) (H : Type) (enc : TypeId × Value → H) :
    ReturnsInHanded {} Tryd.checked os 7 .any (fun w args => (Rows.textCountsSpec.pre enc Tryd.prog Tryd.f7 Rows.textCountsRow.domain false w args ∧ laidMetH Tryd.prog Rows.textCountsRow.laid w) ∧ sizedMet enc Tryd.prog Tryd.f7 (OpenSpec.ofChange Rows.textCountsSpec) false w args) (Rows.textCountsSpec.post enc Tryd.prog Tryd.f7 false true false false) := by
  refine Txt.returnsInHanded_of_change_both (C := Tryd.checked) (X := fun w _ => laidMetH Tryd.prog Rows.textCountsRow.laid w) (fun _ _ _ hh h => h.of_heap hh) own started (by kernel_rfl) Tryd.func7
    (ChangeSpec.witness_shaped (enc := enc) (C := Tryd.checked) (os := os) (X := fun w _ => laidMetH Tryd.prog Rows.textCountsRow.laid w) false (World.laidAll Tryd.prog os Rows.textCountsRow.laid) #[.int .i64 0, .int .i64 0] 8 (World.laidAll_os _ _ _)
      (World.shaped_of_ZipB (by kernel_rfl) (by kernel_rfl)) (by kernel_rfl) (by kernel_rfl) (by kernel_rfl)
      (by rw [MakeChecks.laidMetH_plain _ _ _ (by kernel_rfl)]; exact laidMet_laidAll _ (by kernel_rfl) (by kernel_rfl))) ?_
  intro W base args ds gs before hval0 hW hcnd _ hL hsh _
  rw [MakeChecks.laidMetH_plain _ _ _ (by kernel_rfl)] at hL
  have hv : Txt.Vars W := Txt.vars_of (hL.tail.tail) (hL.tail.tail.tail) hsh
  have hval : ∀ (j : Nat) t v, Tryd.f7.params[j]? = some t → args[j]? = some v → Value.okWide Tryd.prog W .any base t v := hval0
  have hW' := hW
  obtain ⟨p, q, hA0, hV, rfl, hfz, hnd⟩ := hW
  have hA : DataW.TrodAll enc Tryd.prog W 0 (fun _ => true) true Tryd.f7.params.toList args.toList ds p := hA0
  rw [Tryd.params7] at hA hval
  obtain ⟨v0, vs0, d0, ds0, p0, q0, hargs, rfl, rfl, h0, r0⟩ := trodAll_cons hA
  obtain ⟨v1, vs1, d1, ds1, p1, q1, rfl, rfl, rfl, h1, r1⟩ := trodAll_cons r0
  obtain ⟨rfl, rfl, rfl⟩ := trodAll_nil r1
  obtain rfl : args = #[v0, v1] := by cases args; simp_all
  obtain ⟨rfl, rfl⟩ := trodVars_none hV
  obtain ⟨a0, rfl, rfl, rfl, w0⟩ := open_int Tryd.underlying2 (hval 0 2 v0 rfl rfl) h0
  obtain ⟨a1, rfl, rfl, rfl, w1⟩ := open_int Tryd.underlying2 (hval 1 2 v1 rfl rfl) h1
  clear hA0 hval0
  refine (walk a0 a1 W w0 w1 hv).mono fun e W' ⟨he, bel⟩ => ?_
  subst he
  exact ⟨_, rfl, _, _, _, [], _, [], hW', trodAll_mk1 (shut_bool Tryd.underlying4 _), (trodAll_cons_mk (shut_int Tryd.underlying2 w0) (trodAll_cons_mk (shut_int Tryd.underlying2 w1) trodAll_mk0)), rfl, bel.frame _, fun h => by cases h⟩

theorem over : Rows.textCountsRow.holds Tryd.pinned (OpenSpec.ofChange Rows.textCountsSpec) :=
  OpenClaim.holds_of_wide 7 Tryd.f7 rfl rfl rfl rfl rfl rfl rfl ⟨rfl, rfl, rfl, rfl, rfl⟩ rfl rfl rfl rfl rfl (by kernel_rfl) Tryd.func7 (by kernel_rfl)
    (of_decide_eq_true (by kernel_rfl)) (by unfold Func.isWrapper; first | (rw [if_pos (by decide +kernel)]; kernel_rfl) | (rw [if_neg (by decide +kernel)]; exact ⟨rfl, rfl⟩))
    (fun os started H enc _ => lifted os started H enc)

theorem proved : Rows.TextCountsCardSaid :=
  Claim7.holds_tied_plain_at .later [] [.data, .data, .data, .sentinel, .sentinel] true (true, "8a32f050c3ed60fb1fbf247f636ac5b6e365116b4483822650375d3ad1931c50") true
    over (fun _ h => by cases h) (by kernel_rfl) (fun _ h => by cases h) textCounts_row_tie rfl ⟨rfl, rfl⟩ (by kernel_rfl) rfl
    (fun f fn hf hfn => by
      obtain rfl : f = 7 := Option.some.inj ((show Tryd.prog.funcNamed "raceway/racewaylaw2.TextCounts" = some 7 by kernel_rfl).symm.trans hf) |>.symm
      obtain rfl : fn = Tryd.f7 := (Option.some.inj (Tryd.func7.symm.trans hfn)).symm
      exact ⟨by kernel_rfl, fun j t ht => by
        rw [Tryd.params7] at ht
        have hm : t ∈ [2, 2] := by simpa using Array.mem_of_getElem? ht
        have hall : ([2, 2].all fun u => !Tryd.prog.wantsStandIn u) = true := by kernel_rfl
        exact (show Tryd.prog.wantsStandIn t = false by simpa using List.all_eq_true.1 hall t hm)⟩)
    (by kernel_rfl)
#print axioms proved
end Go.Proofs.YtbcdialohoffhaaDoor.textCounts
