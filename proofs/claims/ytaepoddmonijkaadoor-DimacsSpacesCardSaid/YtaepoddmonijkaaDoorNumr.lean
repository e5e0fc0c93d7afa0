/-
  Contracts of the document's own Number and Write. Condition: words of at most a million bytes.
-/
import Derived.Test.YtaepoddmonijkaaDoorNumb
namespace Go.Proofs.YtaepoddmonijkaaDoor
open Go.ChangeShapes Go.WideShapes Go.ChangeAt Go.RowKit
set_option linter.unusedVariables false
namespace Txt

theorem decV_snocI (s : ByteArray) (k : Nat) (h : k < s.size) (hd : dig s[k] = true) :
    (decV 0 (s.data.toList.take (k + 1)) : Int) = 10 * decV 0 (s.data.toList.take k) + ((s[k].toNat : Int) - 48) := by
  rw [take_snoc s k h, decV_snoc]
  have := (dig_iff _).1 hd
  omega

/-- the two loops of the document's Number over what stands behind the sign: what is left of the walk -/
theorem rnum_end (l : List UInt8) (hok : okB (body l) = true) (hle : mag l ≤ 9223372036854775808) :
    (neg l = true → numE l = 0 ∧ numV l = -(mag l : Int)) ∧ (neg l = false → mag l = 9223372036854775808 → numE l = 3 ∧ numV l = 0) ∧ (neg l = false → mag l < 9223372036854775808 → numE l = 0 ∧ numV l = mag l) := by
  refine ⟨fun h => ?_, fun h h2 => ?_, fun h h2 => ?_⟩
  · have h4 : mag l < 9223372036854775808 + (if neg l then 1 else 0) := by rw [h]; simp; omega
    exact ⟨numE_ok hok h4, by rw [numV_ok hok h4, h]; rfl⟩
  · have h4 : ¬ mag l < 9223372036854775808 + (if neg l then 1 else 0) := by rw [h]; simp; omega
    exact ⟨numE_range hok h4, numV_range hok h4⟩
  · have h4 : mag l < 9223372036854775808 + (if neg l then 1 else 0) := by rw [h]; simp; omega
    exact ⟨numE_ok hok h4, by rw [numV_ok hok h4, h]; rfl⟩

theorem tdiv_bound (d : Int) (h0 : 0 ≤ d) (h9 : d ≤ 9) : (-9223372036854775808 + d).tdiv 10 = -((9223372036854775808 - d) / 10) := by
  have h : -9223372036854775808 + d = -(9223372036854775808 - d) := by omega
  rw [h, Int.neg_tdiv, Int.tdiv_eq_ediv_of_nonneg (by omega)]

set_option maxHeartbeats 4000000 in
/-- the document's Number -/
theorem rnumber_any (s : ByteArray) (w : World) (hs : s.size ≤ 1000000) :
    Calls Tryd.prog 81 #[.string s] w fun e w' => e = .returned (.tuple #[.int .i64 (numV s.data.toList), .int .i64 (numE s.data.toList)]) ∧ w = w' := by
  by_cases hn : neg s.data.toList = true
  · have h0 : 0 < s.size := by
      rw [Lib.size_eq]; rcases hd : s.data.toList with _ | ⟨c, r⟩
      · rw [hd] at hn; cases hn
      · simp
    have hs0 : ((s[0].toNat : Nat) : Int) = 45 := by
      have := Lib.data_getElem? s 0 h0
      unfold neg at hn
      rw [List.head?_eq_getElem?, this] at hn
      simp at hn; rw [hn]; rfl
    have hb : (s.extract 1 s.size).data.toList = body s.data.toList := by
      rw [Lib.extract_to_end]; unfold body; rw [if_pos hn, List.drop_one]
    have hts : (s.extract 1 s.size).size ≤ 1000000 := by rw [Lib.size_eq, hb, ← body_trim]; have := Lib.trimPrefix_le s.data.toList [45]; rw [Lib.size_eq] at hs; omega
    have hne : s.toList.isEmpty = false := by rw [Lib.toList_data]; rcases hd : s.data.toList with _ | ⟨c, r⟩ <;> simp_all [neg]
    have HN := Lib.hid hn
    have HB := Lib.hid hb
    clear hn hb
    go_enter Tryd.func81, Tryd.ntmps81
    go_wp2
    clear hs0 hne
    generalize s.extract 1 s.size = t at *

    go_loop [5] (fun i => ∃ k : Nat, k ≤ t.size ∧ i = .int .i64 k ∧ (t.data.toList.take k).all dig = true) (fun i => t.size - (intOf i).toNat)
    case atStart => exact ⟨0, Nat.zero_le _, rfl, by simp⟩
    case round =>
      obtain ⟨k, hk, rfl, hall⟩ := hrel
      by_cases hlt : k < t.size
      · by_cases hd : dig t[k] = true
        · have hd' := (dig_iff _).1 hd
          have h1 : ¬ ((t[k].toNat : Int) < 48) := by omega
          have h2 : ¬ (57 < (t[k].toNat : Int)) := by omega
          have HA := Lib.hid (show (t.data.toList.take (k + 1)).all dig = true by rw [take_snoc t k hlt, List.all_append, hall]; simp [hd])
          clear hall hd hd'
          go_wp2
          go_round
          case rel => exact ⟨k + 1, by omega, by go_num, HA.out⟩
          case measure => simp [intOf]; omega
        · have hd : dig t[k] = false := by simpa using hd
          have HO : okB (body s.data.toList) = false := by rw [← HB.out]; exact not_all t k hlt hd
          have H2 := Lib.hid (numE_form HO)
          have HV := Lib.hid (numV_form HO)
          have hd' : ¬ (48 ≤ t[k].toNat ∧ t[k].toNat ≤ 57) := fun h => by rw [(dig_iff _).2 h] at hd; cases hd
          clear hall hd HO
          by_cases h1 : (t[k].toNat : Int) < 48
          · go_wp2
            go_ret2
            exact ⟨retN HV.out.symm H2.out.symm, rfl⟩
          · have h2 : 57 < (t[k].toNat : Int) := by omega
            go_wp2
            go_ret2
            exact ⟨retN HV.out.symm H2.out.symm, rfl⟩
      · have ek : k = t.size := by omega
        rw [ek, take_all] at hall
        have HA := Lib.hid hall
        clear hall
        subst ek
        by_cases he : t.data.toList.isEmpty = true
        · have HO : okB (body s.data.toList) = false := by rw [← HB.out]; unfold okB; rw [he]; rfl
          have H2 := Lib.hid (numE_form HO)
          have HV := Lib.hid (numV_form HO)
          have he' : t.toList.isEmpty = true := by rw [Lib.toList_data]; exact he
          clear he HO hlt
          go_wp2
          go_ret2
          exact ⟨retN HV.out.symm H2.out.symm, rfl⟩
        · have he' : t.toList.isEmpty = false := by rw [Lib.toList_data]; simpa using he
          have HO := Lib.hid (show okB (body s.data.toList) = true by rw [← HB.out]; unfold okB; rw [HA.out]; simpa using he)
          have HM := Lib.hid (show mag s.data.toList = decV 0 t.data.toList by unfold mag; rw [← HB.out])
          clear he hlt
          go_wp2
          go_loop [6, 8] (fun n i => ∃ k : Nat, k ≤ t.size ∧ i = .int .i64 k ∧ n = .int .i64 (-(decV 0 (t.data.toList.take k) : Int)) ∧ decV 0 (t.data.toList.take k) ≤ 9223372036854775808) (fun _ i => t.size - (intOf i).toNat)
          case atStart => exact ⟨0, Nat.zero_le _, rfl, by simp [decV_nil], by simp [decV_nil]⟩
          case round =>
            obtain ⟨k, hk, rfl, rfl, hle⟩ := hrel
            by_cases hlt : k < t.size
            · have hd : dig t[k] = true := List.all_eq_true.1 HA.out _ (get_mem t k hlt)
              have hd' := (dig_iff _).1 hd
              have hS := decV_snocI t k hlt hd
              have hT := decV_take 0 (k + 1) t.data.toList
              clear hd
              generalize decV 0 (t.data.toList.take k) = m at *
              have h3 : 48 ≤ (t[k].toNat : Int) := by omega
              have h4 : (t[k].toNat : Int) ≤ 57 := by omega
              clear hd'
              generalize hc : (t[k].toNat : Int) = c at *
              have hq := tdiv_bound (c - 48) (by omega) (by omega)
              by_cases hover : 9223372036854775808 < 10 * (m : Int) + (c - 48)
              · have hx : decide (-(m : Int) < -((9223372036854775808 - (c - 48)) / 10)) = true := by simp; omega
                have HR := Lib.hid (show 9223372036854775808 < mag s.data.toList by rw [HM.out]; omega)
                have hR : ¬ mag s.data.toList < 9223372036854775808 + (if neg s.data.toList then 1 else 0) := by have := HR.out; split <;> omega
                have H2 := Lib.hid (numE_range HO.out hR)
                have HV := Lib.hid (numV_range HO.out hR)
                clear hR hS hT
                go_wp2
                go_ret2
                exact ⟨retN HV.out.symm H2.out.symm, rfl⟩
              · have hx : decide (-(m : Int) < -((9223372036854775808 - (c - 48)) / 10)) = false := by simp; omega
                have HS := Lib.hid (show (-(decV 0 (t.data.toList.take (k + 1)) : Int) = 10 * -(m : Int) - (c - 48)) ∧ decV 0 (t.data.toList.take (k + 1)) ≤ 9223372036854775808 by omega)
                clear hS hT
                go_wp2
                go_round
                case rel => exact ⟨k + 1, by omega, by go_num, by rw [HS.out.1], HS.out.2⟩
                case measure => simp [intOf]; omega
            · have ek : k = t.size := by omega
              subst ek
              rw [take_all] at hle ⊢
              have HE := rnum_end s.data.toList HO.out (by rw [HM.out]; exact hle)
              rw [HM.out] at HE
              obtain ⟨e1, e2⟩ := HE.1 HN.out
              have H2 := Lib.hid e1
              have HV := Lib.hid e2
              clear HE e1 e2 hlt
              generalize decV 0 t.data.toList = m at *
              go_wp2
              go_ret2
              exact ⟨retN HV.out.symm H2.out.symm, rfl⟩

  · have hn : neg s.data.toList = false := by simpa using hn
    have HN := Lib.hid hn
    have HB := Lib.hid (show s.data.toList = body s.data.toList by unfold body; rw [if_neg (by rw [hn]; decide)])
    by_cases h0 : 0 < s.size
    · have hs0 : ¬ ((s[0].toNat : Nat) : Int) = 45 := by
        have := Lib.data_getElem? s 0 h0
        unfold neg at hn
        rw [List.head?_eq_getElem?, this] at hn
        intro e
        have : s[0] = 45 := UInt8.toNat_inj.1 (by simpa using (by omega : s[0].toNat = 45))
        simp [this] at hn
      have hne : s.toList.isEmpty = false := by rw [Lib.toList_data]; rw [Lib.size_eq] at h0; rcases hd : s.data.toList with _ | ⟨c, r⟩ <;> simp_all
      clear hn
      go_enter Tryd.func81, Tryd.ntmps81
      go_wp2
      clear hs0 hne

      go_loop [5] (fun i => ∃ k : Nat, k ≤ s.size ∧ i = .int .i64 k ∧ (s.data.toList.take k).all dig = true) (fun i => s.size - (intOf i).toNat)
      case atStart => exact ⟨0, Nat.zero_le _, rfl, by simp⟩
      case round =>
        obtain ⟨k, hk, rfl, hall⟩ := hrel
        by_cases hlt : k < s.size
        · by_cases hd : dig s[k] = true
          · have hd' := (dig_iff _).1 hd
            have h1 : ¬ ((s[k].toNat : Int) < 48) := by omega
            have h2 : ¬ (57 < (s[k].toNat : Int)) := by omega
            have HA := Lib.hid (show (s.data.toList.take (k + 1)).all dig = true by rw [take_snoc s k hlt, List.all_append, hall]; simp [hd])
            clear hall hd hd'
            go_wp2
            go_round
            case rel => exact ⟨k + 1, by omega, by go_num, HA.out⟩
            case measure => simp [intOf]; omega
          · have hd : dig s[k] = false := by simpa using hd
            have HO : okB (body s.data.toList) = false := by rw [← HB.out]; exact not_all s k hlt hd
            have H2 := Lib.hid (numE_form HO)
            have HV := Lib.hid (numV_form HO)
            have hd' : ¬ (48 ≤ s[k].toNat ∧ s[k].toNat ≤ 57) := fun h => by rw [(dig_iff _).2 h] at hd; cases hd
            clear hall hd HO
            by_cases h1 : (s[k].toNat : Int) < 48
            · go_wp2
              go_ret2
              exact ⟨retN HV.out.symm H2.out.symm, rfl⟩
            · have h2 : 57 < (s[k].toNat : Int) := by omega
              go_wp2
              go_ret2
              exact ⟨retN HV.out.symm H2.out.symm, rfl⟩
        · have ek : k = s.size := by omega
          rw [ek, take_all] at hall
          have HA := Lib.hid hall
          clear hall
          subst ek
          by_cases he : s.data.toList.isEmpty = true
          · have HO : okB (body s.data.toList) = false := by rw [← HB.out]; unfold okB; rw [he]; rfl
            have H2 := Lib.hid (numE_form HO)
            have HV := Lib.hid (numV_form HO)
            have he' : s.toList.isEmpty = true := by rw [Lib.toList_data]; exact he
            clear he HO hlt
            go_wp2
            go_ret2
            exact ⟨retN HV.out.symm H2.out.symm, rfl⟩
          · have he' : s.toList.isEmpty = false := by rw [Lib.toList_data]; simpa using he
            have HO := Lib.hid (show okB (body s.data.toList) = true by rw [← HB.out]; unfold okB; rw [HA.out]; simpa using he)
            have HM := Lib.hid (show mag s.data.toList = decV 0 s.data.toList by unfold mag; rw [← HB.out])
            clear he hlt
            go_wp2
            go_loop [6, 8] (fun n i => ∃ k : Nat, k ≤ s.size ∧ i = .int .i64 k ∧ n = .int .i64 (-(decV 0 (s.data.toList.take k) : Int)) ∧ decV 0 (s.data.toList.take k) ≤ 9223372036854775808) (fun _ i => s.size - (intOf i).toNat)
            case atStart => exact ⟨0, Nat.zero_le _, rfl, by simp [decV_nil], by simp [decV_nil]⟩
            case round =>
              obtain ⟨k, hk, rfl, rfl, hle⟩ := hrel
              by_cases hlt : k < s.size
              · have hd : dig s[k] = true := List.all_eq_true.1 HA.out _ (get_mem s k hlt)
                have hd' := (dig_iff _).1 hd
                have hS := decV_snocI s k hlt hd
                have hT := decV_take 0 (k + 1) s.data.toList
                clear hd
                generalize decV 0 (s.data.toList.take k) = m at *
                have h3 : 48 ≤ (s[k].toNat : Int) := by omega
                have h4 : (s[k].toNat : Int) ≤ 57 := by omega
                clear hd'
                generalize hc : (s[k].toNat : Int) = c at *
                have hq := tdiv_bound (c - 48) (by omega) (by omega)
                by_cases hover : 9223372036854775808 < 10 * (m : Int) + (c - 48)
                · have hx : decide (-(m : Int) < -((9223372036854775808 - (c - 48)) / 10)) = true := by simp; omega
                  have HR := Lib.hid (show 9223372036854775808 < mag s.data.toList by rw [HM.out]; omega)
                  have hR : ¬ mag s.data.toList < 9223372036854775808 + (if neg s.data.toList then 1 else 0) := by have := HR.out; split <;> omega
                  have H2 := Lib.hid (numE_range HO.out hR)
                  have HV := Lib.hid (numV_range HO.out hR)
                  clear hR hS hT
                  go_wp2
                  go_ret2
                  exact ⟨retN HV.out.symm H2.out.symm, rfl⟩
                · have hx : decide (-(m : Int) < -((9223372036854775808 - (c - 48)) / 10)) = false := by simp; omega
                  have HS := Lib.hid (show (-(decV 0 (s.data.toList.take (k + 1)) : Int) = 10 * -(m : Int) - (c - 48)) ∧ decV 0 (s.data.toList.take (k + 1)) ≤ 9223372036854775808 by omega)
                  clear hS hT
                  go_wp2
                  go_round
                  case rel => exact ⟨k + 1, by omega, by go_num, by rw [HS.out.1], HS.out.2⟩
                  case measure => simp [intOf]; omega
              · have ek : k = s.size := by omega
                subst ek
                rw [take_all] at hle ⊢
                have HE := rnum_end s.data.toList HO.out (by rw [HM.out]; exact hle)
                rw [HM.out] at HE
                by_cases hm : decV 0 s.data.toList = 9223372036854775808
                · obtain ⟨e1, e2⟩ := HE.2.1 HN.out hm
                  have H2 := Lib.hid e1
                  have HV := Lib.hid e2
                  clear HE e1 e2 hlt
                  have hx : (-(decV 0 s.data.toList : Int) == -9223372036854775808) = true := by simp; omega
                  clear hm
                  generalize decV 0 s.data.toList = m at *
                  go_wp2
                  go_ret2
                  exact ⟨retN HV.out.symm H2.out.symm, rfl⟩
                · obtain ⟨e1, e2⟩ := HE.2.2 HN.out (by omega)
                  have H2 := Lib.hid e1
                  have HV := Lib.hid e2
                  clear HE e1 e2 hlt
                  have hx : (-(decV 0 s.data.toList : Int) == -9223372036854775808) = false := by simp; omega
                  generalize decV 0 s.data.toList = m at *
                  have hle2 : m ≤ 9223372036854775807 := by omega
                  clear hm
                  go_wp2
                  go_ret2
                  exact ⟨retN HV.out.symm H2.out.symm, rfl⟩

    · have hne : s.toList.isEmpty = true := by rw [Lib.toList_data]; rw [Lib.size_eq] at h0; rcases hd : s.data.toList with _ | ⟨c, r⟩ <;> simp_all
      clear hn
      go_enter Tryd.func81, Tryd.ntmps81
      go_wp2
      have HO : okB (body s.data.toList) = false := by rw [← HB.out]; unfold okB; rw [Lib.toList_data] at hne; rw [hne]; rfl
      have H2 := Lib.hid (numE_form HO)
      have HV := Lib.hid (numV_form HO)
      clear HO
      have hz : s.size = 0 := by omega
      go_loop [5] (fun i => i = .int .i64 0) (fun i => 0)
      case atStart => rfl
      case round =>
        subst hrel
        go_wp2
        go_ret2
        exact ⟨retN HV.out.symm H2.out.symm, rfl⟩

end Txt
end Go.Proofs.YtaepoddmonijkaaDoor
