/- TextZeros: for every input the law returns true and its arguments read as they did. No condition. -/
import Derived.Test.YtbcdialohoffhaaDoorVars
import Derived.Test.YtbcdialohoffhaaDoorShown2
import Derived.Test.YtbcdialohoffhaaDoorZerm
import Derived.Test.YtbcdialohoffhaaDoorRows
import Derived.Test.YtbcdialohoffhaaDoorTie
import Derived.Test.YtbcdialohoffhaaDoorCards
import Derived.WalkKit
import Derived.ProofKit
import Derived.OpenShut
import Derived.ShutString
import Derived.ChangeOld
import Derived.Below
import Derived.Deep.Strs
import Derived.LaidMore
import Derived.Lay
import Derived.SevenTiedAt
import Derived.Stop.Joined
namespace Go.Proofs.YtbcdialohoffhaaDoor.textZeros
open Go.ChangeShapes Go.WideShapes Go.ChangeAt Go.RowKit
open Go.ChangeMaps (open_string shut_string)
set_option linter.unusedVariables false

theorem own : ownKnob Tryd.prog.godebug = none := by kernel_rfl
theorem laidOut : laidOutB Tryd.prog = true := by kernel_rfl

theorem neg_len {l : List UInt8} (h : Txt.neg l = true) : l = 45 :: Txt.body l := by
  rcases l with _ | ⟨c, r⟩
  · cases h
  · have hc : c = 45 := by simpa [Txt.neg] using h
    subst hc; rw [Txt.body_minus]
theorem body_drop (l : List UInt8) : Txt.body l = l.drop (if Txt.neg l then 1 else 0) := by
  unfold Txt.body; split <;> simp
/-- what is left behind k bytes says the same number -/
def Left (l : List UInt8) (k : Nat) : Prop := Txt.decV 0 (l.drop k) = Txt.mag l ∧ (l.drop k).all Txt.dig = true
theorem left_start {l : List UInt8} (h : Txt.okB (Txt.body l) = true) : Left l (if Txt.neg l then 1 else 0) := by
  unfold Left Txt.mag
  rw [← body_drop]
  unfold Txt.okB at h; simp only [Bool.and_eq_true] at h
  exact ⟨rfl, h.2⟩
theorem left_next {l : List UInt8} {k : Nat} (h : Left l k) (h0 : l[k]? = some 48) : Left l (k + 1) := by
  unfold Left at *
  rw [Txt.drop_get h0, Txt.decV_nought] at h
  simp only [List.all_cons, Bool.and_eq_true] at h
  exact ⟨h.1, h.2.2⟩
theorem left_end {l : List UInt8} {k : Nat} (h : Left l k) (hk : k < l.length) (he : k + 1 = l.length ∨ l[k]? ≠ some 48) : Lib.decDigits (Txt.mag l) = l.drop k := by
  rw [← h.1]
  refine Txt.digits_canon h.2 (by simp; omega) ?_
  rcases he with he | he
  · left; simp; omega
  · right; rw [List.head?_drop]; exact he
theorem ok_of {l : List UInt8} (h : Txt.numE l = 0) : Txt.okB (Txt.body l) = true := by
  rcases Bool.eq_false_or_eq_true (Txt.okB (Txt.body l)) with e | e
  · exact e
  · rw [Txt.numE_form e] at h; exact absurd h (by decide)
theorem val_of {l : List UInt8} (h : Txt.numE l = 0) : Txt.numV l = if Txt.neg l then -(Txt.mag l : Int) else Txt.mag l := by unfold Txt.numV; rw [if_pos h]
theorem len_le {l : List UInt8} (h : Txt.numE l = 0) : (Lib.itoa (Txt.numV l)).length ≤ l.length := by
  have hok := ok_of h
  have hm : (Lib.decDigits (Txt.mag l)).length ≤ (Txt.body l).length := by
    have key : ∀ (n : Nat) (r : List UInt8), r.length = n → r.all Txt.dig = true → r ≠ [] → (Lib.decDigits (Txt.decV 0 r)).length ≤ r.length := by
      intro n
      induction n with
      | zero => intro r hl _ hne; exact absurd (List.length_eq_zero_iff.1 hl) hne
      | succ n ih =>
        intro r hl hd hne
        rcases r with _ | ⟨c, r⟩
        · exact absurd rfl hne
        · by_cases hc : c = 48 ∧ r ≠ []
          · obtain ⟨rfl, hr⟩ := hc
            rw [Txt.decV_nought]
            have := ih r (by simpa using hl) (by simp at hd; simpa using hd.2) hr
            simp; omega
          · rw [Txt.digits_canon hd hne ?_]; exact Nat.le_refl _
            by_cases hr : r = []
            · left; rw [hr]; rfl
            · right; rw [List.head?_cons]; intro e; exact hc ⟨Option.some.inj e, hr⟩
    unfold Txt.okB at hok; simp only [Bool.and_eq_true, Bool.not_eq_true'] at hok
    exact key _ _ rfl hok.2 (by intro e; rw [e] at hok; exact absurd hok.1 (by decide))
  rw [val_of h, Txt.itoa_form, List.length_append]
  by_cases hn : Txt.neg l = true
  · have := congrArg List.length (neg_len hn)
    rw [if_pos hn]
    simp only [List.length_cons] at this
    rw [show (-(Txt.mag l : Int)).natAbs = Txt.mag l by omega]
    split <;> simp <;> omega
  · have hb : Txt.body l = l := by unfold Txt.body; rw [if_neg hn]
    rw [if_neg hn, if_neg (by omega), show ((Txt.mag l : Int)).natAbs = Txt.mag l by omega]
    rw [hb] at hm; simpa using hm

set_option maxRecDepth 100000 in
set_option maxHeartbeats 4000000 in
theorem walk (a0 : ByteArray) (w : World) (w0 : a0.size ≤ maxLen) (hv : Txt.Vars w) :
    Calls Tryd.prog 9 #[.string a0] w fun e w' => e = .returned (.bool true) ∧ Below w.heap.size w w' := by
  by_cases hbig : (500 : Int) < a0.size
  · go_enter Tryd.func9, Tryd.ntmps9
    go_wp2_with (go_at_call 10; refine (Txt.shown_any _ hv).mono ?_; rintro e w1 ⟨rfl, hb1⟩)
    go_ret
    exact ⟨rfl, hb1⟩
  · have hs : a0.size ≤ 500 := by omega
    have HS := Lib.hid (Txt.shown_any w hv)
    have HZ := Lib.hid (Lib.size_eq a0)
    have hN : ∀ w' : World, Txt.Vars w' → Calls Tryd.prog 11 #[.string a0] w' fun e w2 => e = .returned (.tuple #[.int .i64 (Txt.numV a0.data.toList), .int .i64 (Txt.numE a0.data.toList)]) ∧ Below w'.heap.size w' w2 := fun w' hv' => Txt.number_any a0 w' (by omega) hv'
    have hbd := Txt.numV_bd a0.data.toList
    by_cases he : Txt.numE a0.data.toList = 0
    · rw [he] at hN
      have HN := Lib.hid hN
      clear hN
      have hit := Txt.num_itoa _ hbd.1 hbd.2
      have hN2 : ∀ w' : World, Txt.Vars w' → Calls Tryd.prog 11 #[.string ⟨(Lib.itoa (Txt.numV a0.data.toList)).toArray⟩] w' fun e w2 => e = .returned (.tuple #[.int .i64 (Txt.numV a0.data.toList), .int .i64 0]) ∧ Below w'.heap.size w' w2 := fun w' hv' => by
        have h := Txt.number_any ⟨(Lib.itoa (Txt.numV a0.data.toList)).toArray⟩ w' (by rw [Lib.size_eq]; have := len_le he; rw [Lib.size_eq] at hs; simp only; omega) hv'
        rw [show (⟨(Lib.itoa (Txt.numV a0.data.toList)).toArray⟩ : ByteArray).data.toList = Lib.itoa (Txt.numV a0.data.toList) from rfl, hit.1, hit.2] at h
        exact h
      have HN2 := Lib.hid hN2
      have hlen : (Lib.itoa (Txt.numV a0.data.toList)).length ≤ a0.size := by
        rw [Lib.size_eq a0]; exact len_le he
      have HE := Lib.hid he
      have HV := Lib.hid (val_of he)
      have hpos : 0 < a0.size := by
        rcases Nat.eq_zero_or_pos a0.size with h | h
        · have h2 := ok_of he
          rw [Lib.size_eq] at h
          rw [List.length_eq_zero_iff.1 h] at h2; exact absurd h2 (by decide)
        · exact h
      have H0 := Lib.hid (Lib.data_getElem? a0 0 hpos)
      have HOK := Lib.hid (ok_of he)
      clear he hN2 hit
      by_cases hn : Txt.neg a0.data.toList = true
      · have h45 : ((a0[0].toNat : Int) == 45) = true := by
          have h := H0.out
          unfold Txt.neg at hn; rw [List.head?_eq_getElem?, h] at hn
          simp at hn; rw [hn]; rfl
        have HP : Hid (1 < a0.size) := Lib.hid (by
          have h2 := HOK.out
          rw [Lib.size_eq]
          have hl := congrArg List.length (neg_len hn)
          rw [hl]
          rcases hb : Txt.body a0.data.toList with _ | ⟨x, y⟩
          · rw [hb] at h2; exact absurd h2 (by decide)
          · simp)
        have HST := Lib.hid (by have := left_start HOK.out; rw [hn] at this; exact this)
        have HV' := Lib.hid (show Txt.numV a0.data.toList = -(Txt.mag a0.data.toList : Int) by have := HV.out; rw [if_pos hn] at this; exact this)
        clear hn HV
        go_enter Tryd.func9, Tryd.ntmps9
        go_wp2_with (go_at_call 10; refine HS.out.mono ?_; rintro e w1 ⟨rfl, hb1⟩)
        have HB1 := Lib.hid hb1
        refine (HN.out w1 (hv.below hb1)).mono ?_
        rintro e w2 ⟨rfl, hb2⟩
        have HB2 := Lib.hid (hb1.trans (hb2.mono hb1.size))
        clear hb1 hb2
        go_wp2_with fail
        refine (Txt.write_any _ w2 hbd.1 hbd.2 (hv.below HB2.out)).mono ?_
        rintro e w3 ⟨rfl, hb3⟩
        have HB3 := Lib.hid (HB2.out.trans (hb3.mono HB2.out.size))
        clear hb3
        go_wp2_with fail
        refine (HN2.out w3 (hv.below HB3.out)).mono ?_
        rintro e w4 ⟨rfl, hb4⟩
        have HB4 := Lib.hid (HB3.out.trans (hb4.mono HB3.out.size))
        clear hb4
        go_wp2_with fail
        go_loop [9] (fun i => ∃ k : Nat, i = .int .i64 k ∧ k < a0.size ∧ Left a0.data.toList k) (fun i => a0.size - (intOf i).toNat)
        case atStart => exact ⟨1, rfl, HP.out, HST.out⟩
        case round =>
          obtain ⟨k, rfl, hk, hL⟩ := hrel
          by_cases hgo : k + 1 < a0.size ∧ a0[k] = 48
          · obtain ⟨hk1, h48⟩ := hgo
            have hc : ((a0[k].toNat : Int) == 48) = true := by rw [h48]; rfl
            have HN' := Lib.hid (left_next hL (by rw [Lib.data_getElem? a0 k hk, h48]))
            clear hL h48
            go_wp2
            go_round
            case rel => exact ⟨k + 1, by go_num, by omega, HN'.out⟩
            case measure => simp [intOf]; omega
          · have HD := Lib.hid (left_end hL (by rw [← HZ.out]; exact hk) (by
              rw [← HZ.out]
              by_cases h : k + 1 = a0.size
              · exact .inl h
              · right; rw [Lib.data_getElem? a0 k hk]; intro e; exact hgo ⟨by omega, Option.some.inj e⟩))
            have ht : ¬ (k : Int) + 1 < a0.size ∨ ((a0[k].toNat : Int) == 48) = false := by
              by_cases h : k + 1 < a0.size
              · right
                have : a0[k] ≠ 48 := fun e => hgo ⟨h, e⟩
                simp only [beq_eq_false_iff_ne, ne_eq]; intro e; exact this (UInt8.toNat_inj.1 (by simpa using (by omega : a0[k].toNat = 48)))
              · left; omega
            clear hL hgo
            have HT := Lib.hid (Lib.extract_to_end a0 k)
            rcases ht with h1 | h1
            all_goals
              by_cases hm : Txt.mag a0.data.toList = 0
              · have hnn : ¬ Txt.numV a0.data.toList < 0 := by have := HV'.out; omega
                have HI := Lib.hid (show Lib.itoa (Txt.numV a0.data.toList) = Lib.decDigits (Txt.mag a0.data.toList) by
                  have := HV'.out
                  rw [Txt.itoa_form, if_neg (by omega), this, hm]; rfl)
                clear hm
                go_wp2
                all_goals (go_ret; refine ⟨Txt.retB ?_, HB4.out⟩; simp only [Lib.toList_data, HT.out, ← HD.out, HI.out, beq_self_eq_true])
              · have hnn : Txt.numV a0.data.toList < 0 := by have := HV'.out; omega
                have HI := Lib.hid (show Lib.itoa (Txt.numV a0.data.toList) = 45 :: Lib.decDigits (Txt.mag a0.data.toList) by
                  have := HV'.out
                  rw [Txt.itoa_form, if_pos (by omega), show (Txt.numV a0.data.toList).natAbs = Txt.mag a0.data.toList by omega]; rfl)
                clear hm
                go_wp2
                all_goals (go_ret; refine ⟨Txt.retB ?_, HB4.out⟩; simp only [Lib.toList_data, Txt.data_append, HT.out, ← HD.out, HI.out, List.cons_append, List.nil_append, beq_self_eq_true])
      · have hn : Txt.neg a0.data.toList = false := by simpa using hn
        have h45 : ((a0[0].toNat : Int) == 45) = false := by
          have h := H0.out
          unfold Txt.neg at hn; rw [List.head?_eq_getElem?, h] at hn
          have h2 : a0[0] ≠ 45 := by intro e; rw [e] at hn; simp at hn
          simp only [beq_eq_false_iff_ne, ne_eq]; intro e; exact h2 (UInt8.toNat_inj.1 (by simpa using (by omega : a0[0].toNat = 45)))
        have HP : Hid (0 < a0.size) := Lib.hid hpos
        have HST := Lib.hid (by have := left_start HOK.out; rw [hn] at this; exact this)
        have HV' := Lib.hid (show Txt.numV a0.data.toList = (Txt.mag a0.data.toList : Int) by have := HV.out; rw [if_neg (by rw [hn]; decide)] at this; exact this)
        clear hn HV
        go_enter Tryd.func9, Tryd.ntmps9
        go_wp2_with (go_at_call 10; refine HS.out.mono ?_; rintro e w1 ⟨rfl, hb1⟩)
        have HB1 := Lib.hid hb1
        refine (HN.out w1 (hv.below hb1)).mono ?_
        rintro e w2 ⟨rfl, hb2⟩
        have HB2 := Lib.hid (hb1.trans (hb2.mono hb1.size))
        clear hb1 hb2
        go_wp2_with fail
        refine (Txt.write_any _ w2 hbd.1 hbd.2 (hv.below HB2.out)).mono ?_
        rintro e w3 ⟨rfl, hb3⟩
        have HB3 := Lib.hid (HB2.out.trans (hb3.mono HB2.out.size))
        clear hb3
        go_wp2_with fail
        refine (HN2.out w3 (hv.below HB3.out)).mono ?_
        rintro e w4 ⟨rfl, hb4⟩
        have HB4 := Lib.hid (HB3.out.trans (hb4.mono HB3.out.size))
        clear hb4
        go_wp2_with fail
        go_loop [9] (fun i => ∃ k : Nat, i = .int .i64 k ∧ k < a0.size ∧ Left a0.data.toList k) (fun i => a0.size - (intOf i).toNat)
        case atStart => exact ⟨0, rfl, HP.out, HST.out⟩
        case round =>
          obtain ⟨k, rfl, hk, hL⟩ := hrel
          by_cases hgo : k + 1 < a0.size ∧ a0[k] = 48
          · obtain ⟨hk1, h48⟩ := hgo
            have hc : ((a0[k].toNat : Int) == 48) = true := by rw [h48]; rfl
            have HN' := Lib.hid (left_next hL (by rw [Lib.data_getElem? a0 k hk, h48]))
            clear hL h48
            go_wp2
            go_round
            case rel => exact ⟨k + 1, by go_num, by omega, HN'.out⟩
            case measure => simp [intOf]; omega
          · have HD := Lib.hid (left_end hL (by rw [← HZ.out]; exact hk) (by
              rw [← HZ.out]
              by_cases h : k + 1 = a0.size
              · exact .inl h
              · right; rw [Lib.data_getElem? a0 k hk]; intro e; exact hgo ⟨by omega, Option.some.inj e⟩))
            have ht : ¬ (k : Int) + 1 < a0.size ∨ ((a0[k].toNat : Int) == 48) = false := by
              by_cases h : k + 1 < a0.size
              · right
                have : a0[k] ≠ 48 := fun e => hgo ⟨h, e⟩
                simp only [beq_eq_false_iff_ne, ne_eq]; intro e; exact this (UInt8.toNat_inj.1 (by simpa using (by omega : a0[k].toNat = 48)))
              · left; omega
            clear hL hgo
            have HT := Lib.hid (Lib.extract_to_end a0 k)
            rcases ht with h1 | h1
            all_goals
              have hnn : ¬ Txt.numV a0.data.toList < 0 := by have := HV'.out; omega
              have HI := Lib.hid (show Lib.itoa (Txt.numV a0.data.toList) = Lib.decDigits (Txt.mag a0.data.toList) by
                have := HV'.out
                rw [Txt.itoa_form, if_neg (by omega), show (Txt.numV a0.data.toList).natAbs = Txt.mag a0.data.toList by omega]; rfl)
              go_wp2
              all_goals (go_ret; refine ⟨Txt.retB ?_, HB4.out⟩; simp only [Lib.toList_data, HT.out, ← HD.out, HI.out, beq_self_eq_true])
    · have hv0 := Txt.numV_err he
      have hcs : Txt.numE a0.data.toList = 2 ∨ Txt.numE a0.data.toList = 3 := by
        rcases Txt.numE_cases a0.data.toList with h | h | h
        · exact absurd h he
        · exact .inl h
        · exact .inr h
      rw [hv0] at hN
      clear he hv0 hbd HZ
      rcases hcs with h | h
      all_goals
        rw [h] at hN
        have HN := Lib.hid hN
        clear hN h
        go_enter Tryd.func9, Tryd.ntmps9
        go_wp2_with (go_at_call 10; refine HS.out.mono ?_; rintro e w1 ⟨rfl, hb1⟩)
        refine (HN.out w1 (hv.below hb1)).mono ?_
        rintro e w2 ⟨rfl, hb2⟩
        have HB2 := Lib.hid (hb1.trans (hb2.mono hb1.size))
        clear hb1 hb2
        go_wp2
        go_ret
        exact ⟨rfl, HB2.out⟩

set_option maxRecDepth 100000 in
theorem lifted (os : Os) (started : os.Started) (H : Type) (enc : TypeId × Value → H) :
    ReturnsInHanded {} Tryd.checked os 9 .any (fun w args => (Rows.textZerosSpec.pre enc Tryd.prog Tryd.f9 Rows.textZerosRow.domain false w args ∧ laidMetH Tryd.prog Rows.textZerosRow.laid w) ∧ sizedMet enc Tryd.prog Tryd.f9 (OpenSpec.ofChange Rows.textZerosSpec) false w args) (Rows.textZerosSpec.post enc Tryd.prog Tryd.f9 false true false false) := by
  refine Txt.returnsInHanded_of_change_both (C := Tryd.checked) (X := fun w _ => laidMetH Tryd.prog Rows.textZerosRow.laid w) (fun _ _ _ hh h => h.of_heap hh) own started (by kernel_rfl) Tryd.func9
    (ChangeSpec.witness_shaped (enc := enc) (C := Tryd.checked) (os := os) (X := fun w _ => laidMetH Tryd.prog Rows.textZerosRow.laid w) false (World.laidAll Tryd.prog os Rows.textZerosRow.laid) #[.string ⟨#[]⟩] 8 (World.laidAll_os _ _ _)
      (World.shaped_of_ZipB (by kernel_rfl) (by kernel_rfl)) (by kernel_rfl) (by kernel_rfl) (by kernel_rfl)
      (by rw [MakeChecks.laidMetH_plain _ _ _ (by kernel_rfl)]; exact laidMet_laidAll _ (by kernel_rfl) (by kernel_rfl))) ?_
  intro W base args ds gs before hval0 hW hcnd _ hL hsh _
  rw [MakeChecks.laidMetH_plain _ _ _ (by kernel_rfl)] at hL
  have hv : Txt.Vars W := Txt.vars_of (hL.tail.tail) (hL.tail.tail.tail) hsh
  have hval : ∀ (j : Nat) t v, Tryd.f9.params[j]? = some t → args[j]? = some v → Value.okWide Tryd.prog W .any base t v := hval0
  have hW' := hW
  obtain ⟨p, q, hA0, hV, rfl, hfz, hnd⟩ := hW
  have hA : DataW.TrodAll enc Tryd.prog W 0 (fun _ => true) true Tryd.f9.params.toList args.toList ds p := hA0
  rw [Tryd.params9] at hA hval
  obtain ⟨v0, vs0, d0, ds0, p0, q0, hargs, rfl, rfl, h0, r0⟩ := trodAll_cons hA
  obtain ⟨rfl, rfl, rfl⟩ := trodAll_nil r0
  obtain rfl : args = #[v0] := by cases args; simp_all
  obtain ⟨rfl, rfl⟩ := trodVars_none hV
  obtain ⟨a0, rfl, rfl, rfl, w0⟩ := open_string Tryd.underlying9 (hval 0 9 v0 rfl rfl) h0
  clear hA0 hval0
  refine (walk a0 W w0 hv).mono fun e W' ⟨he, bel⟩ => ?_
  subst he
  exact ⟨_, rfl, _, _, _, [], _, [], hW', trodAll_mk1 (shut_bool Tryd.underlying4 _), (trodAll_cons_mk (shut_string Tryd.underlying9 w0) trodAll_mk0), rfl, bel.frame _, fun h => by cases h⟩

theorem over : Rows.textZerosRow.holds Tryd.pinned (OpenSpec.ofChange Rows.textZerosSpec) :=
  OpenClaim.holds_of_wide 9 Tryd.f9 rfl rfl rfl rfl rfl rfl rfl ⟨rfl, rfl, rfl, rfl, rfl⟩ rfl rfl rfl rfl rfl (by kernel_rfl) Tryd.func9 (by kernel_rfl)
    (of_decide_eq_true (by kernel_rfl)) (by unfold Func.isWrapper; first | (rw [if_pos (by decide +kernel)]; kernel_rfl) | (rw [if_neg (by decide +kernel)]; exact ⟨rfl, rfl⟩))
    (fun os started H enc _ => lifted os started H enc)

theorem proved : Rows.TextZerosCardSaid :=
  Claim7.holds_tied_plain_at .later [] [.data, .data, .data, .sentinel, .sentinel] true (true, "8a32f050c3ed60fb1fbf247f636ac5b6e365116b4483822650375d3ad1931c50") true
    over (fun _ h => by cases h) (by kernel_rfl) (fun _ h => by cases h) textZeros_row_tie rfl ⟨rfl, rfl⟩ (by kernel_rfl) rfl
    (fun f fn hf hfn => by
      obtain rfl : f = 9 := Option.some.inj ((show Tryd.prog.funcNamed "raceway/racewaylaw2.TextZeros" = some 9 by kernel_rfl).symm.trans hf) |>.symm
      obtain rfl : fn = Tryd.f9 := (Option.some.inj (Tryd.func9.symm.trans hfn)).symm
      exact ⟨by kernel_rfl, fun j t ht => by
        rw [Tryd.params9] at ht
        have hm : t ∈ [9] := by simpa using Array.mem_of_getElem? ht
        have hall : ([9].all fun u => !Tryd.prog.wantsStandIn u) = true := by kernel_rfl
        exact (show Tryd.prog.wantsStandIn t = false by simpa using List.all_eq_true.1 hall t hm)⟩)
    (by kernel_rfl)
#print axioms proved
end Go.Proofs.YtbcdialohoffhaaDoor.textZeros
