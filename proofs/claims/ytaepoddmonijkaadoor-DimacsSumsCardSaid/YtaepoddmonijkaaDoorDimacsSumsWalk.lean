/- DimacsSums: for every input the law returns true and its arguments read as they did. No condition. -/
import Derived.Test.YtaepoddmonijkaaDoorVars
import Derived.Test.YtaepoddmonijkaaDoorShown4
import Derived.Test.YtaepoddmonijkaaDoorDimq
import Derived.Test.YtaepoddmonijkaaDoorRows
import Derived.Test.YtaepoddmonijkaaDoorTie
import Derived.Test.YtaepoddmonijkaaDoorCards
import Derived.WalkKit
import Derived.ProofKit
import Derived.OpenShut
import Derived.ShutString
import Derived.ChangeOld
import Derived.Below
import Derived.Deep.Strs
import Derived.LaidMore
import Derived.Lay
import Derived.SevenTiedAt
import Derived.Stop.Joined
namespace Go.Proofs.YtaepoddmonijkaaDoor.dimacsSums
open Go.ChangeShapes Go.WideShapes Go.ChangeAt Go.RowKit
open Go.ChangeMaps (open_string shut_string)
set_option linter.unusedVariables false
set_option linter.unusedSimpArgs false

theorem own : ownKnob Tryd.prog.godebug = none := by kernel_rfl
theorem laidOut : laidOutB Tryd.prog = true := by kernel_rfl

theorem mulS (i : Nat) (c : Int) : ((i + 1 : Nat) : Int) * c = (i : Int) * c + c := by
  rw [show ((i + 1 : Nat) : Int) = (i : Int) + 1 by omega, Int.add_mul]; omega

set_option maxRecDepth 100000 in
set_option maxHeartbeats 4000000 in
theorem walk (a0 : Int) (a1 : Int) (w : World) (w0 : (Lit.int .i64 a0).wf = true) (w1 : (Lit.int .i64 a1).wf = true) (hv : Txt.Vars w) :
    Calls Tryd.prog 8 #[.int .i64 a0, .int .i64 a1] w fun e w' => e = .returned (.bool true) ∧ Below w.heap.size w w' := by
  have HSH := Lib.hid (Dm.shown_any w hv)
  have HV := Lib.hid hv
  have b0 := bounds_i64 w0
  have b1 := bounds_i64 w1
  clear hv
  obtain ⟨pk, hpk⟩ : ∃ x, x = Ne.pickN a0 30 := ⟨_, rfl⟩
  have bpk := Ne.pickN_bd (c := a0) (n := 30) (by omega)
  rw [← hpk] at bpk
  have P1 := Lib.hid fun w' => Ne.pick_any a0 30 w' b0.1 b0.2 (by omega) (by omega)
  rw [← hpk] at P1
  obtain ⟨pm, hpm⟩ : ∃ x, x = Ne.pickN a1 30 := ⟨_, rfl⟩
  have bpm := Ne.pickN_bd (c := a1) (n := 30) (by omega)
  rw [← hpm] at bpm
  have P2 := Lib.hid fun w' => Ne.pick_any a1 30 w' b1.1 b1.2 (by omega) (by omega)
  rw [← hpm] at P2
  obtain ⟨K, hK⟩ : ∃ k : Nat, 2 + pk = (k : Int) := ⟨(2 + pk).toNat, by omega⟩
  have hK2 : K ≤ 31 := by omega
  obtain ⟨Q, hQ⟩ : ∃ q, (4611686018427387904 : Int).tdiv (2 + pm) = q := ⟨_, rfl⟩
  have hQb : 0 ≤ Q ∧ Q ≤ 2305843009213693952 := by
    rw [← hQ, Int.tdiv_eq_ediv_of_nonneg (by omega)]
    have h0 := Int.ediv_nonneg (a := 4611686018427387904) (b := 2 + pm) (by omega) (by omega)
    have h1 := Int.ediv_mul_le (4611686018427387904) (b := 2 + pm) (by omega)
    have h2 := Int.mul_le_mul_of_nonneg_left (a := 2) (b := 2 + pm) (by omega) h0
    omega
  have hd0 : (2 + pm == 0) = false := by simp; omega
  obtain ⟨c, hc⟩ : ∃ c, Q + 1 = c := ⟨_, rfl⟩
  have hcb : 1 ≤ c ∧ c ≤ 2305843009213693953 := by omega
  clear hpk hpm
  go_enter Tryd.func8, Tryd.ntmps8
  go_wp2_with fail
  refine HSH.out.mono ?_
  rintro e w1 ⟨rfl, hb⟩
  have HB1 := Lib.hid hb
  clear hb
  go_wp2_with fail
  refine (P1.out _).mono ?_
  rintro e w2 ⟨rfl, rfl⟩
  go_wp2_with fail
  refine (P2.out _).mono ?_
  rintro e w2 ⟨rfl, rfl⟩
  go_wp2_with fail
  have HKC := Lib.hid hK
  have lk := Dm.itoa_len (n := (K : Int)) (by omega) (by omega)
  have lc := Dm.itoa_len (n := c) (by omega) (by omega)
  refine (Txt.write_any (K : Int) _ (by omega) (by omega) (HV.out.below HB1.out)).mono ?_
  rintro e w2 ⟨rfl, hb⟩
  have HB2 := Lib.hid (HB1.out.trans (hb.mono HB1.out.size))
  clear hb hK hQ hc hd0 P1 P2
  go_wp2
  go_loopw [8, 9, 10, 11] (fun s l ln i wr => ∃ (j : Nat) (t : ByteArray) (left line : Int), j ≤ K ∧ i = .int .i64 j ∧ s = .string t ∧ l = .int .i64 left ∧ ln = .int .i64 line ∧ t.data.toList = Dm.sumsT K j c ∧ Below w.heap.size w wr ∧ -1 ≤ left ∧ left ≤ 4611686018427387903 ∧
    ((line = 0 ∧ left = 4611686018427387903 - (j : Int) * c ∧ 0 ≤ left) ∨ (left = -1 ∧ ∃ m : Nat, m < j ∧ line = 4 + (m : Int) ∧ (m : Int) * c ≤ 4611686018427387903 ∧ 4611686018427387903 - (m : Int) * c < c))) (fun _ _ _ i _ => K - (intOf i).toNat)
  case atStart => exact ⟨0, _, 4611686018427387903, 0, Nat.zero_le _, rfl, rfl, rfl, rfl, by simp [Dm.sumsT, Dm.sumsH], HB2.out, by omega, by omega, .inl ⟨rfl, by simp, by omega⟩⟩
  case round =>
    obtain ⟨j, t, left, line, hj, rfl, rfl, rfl, rfl, ht, hbel, hl0, hl1, hcs⟩ := hrel
    have HT := Lib.hid ht
    have HB := Lib.hid hbel
    have hsz := HB.out.size
    have hts : t.size ≤ 1000 := by
      rw [Lib.size_eq, ht]
      have := Dm.sumsT_len (K := K) (i := j) (c := c) (by omega) (by omega)
      omega
    clear ht hbel
    by_cases hlt : j < K
    · have HSC := Lib.hid (Dm.sumsT_succ K j c)
      have HWC := Lib.hid (Txt.write_any c wr (by omega) (by omega) (HV.out.below HB.out))
      have hji : (j : Int) < (K : Int) := by omega
      rcases hcs with ⟨rfl, hleft, h0⟩ | ⟨rfl, m, hm, hline, hm1, hm2⟩
      · have HLF := Lib.hid hleft
        have HMS := Lib.hid (mulS j c)
        have hw : IntKind.i64.wrap (left - c) = left - c := by rw [IntKind.wrap_i64]; omega
        clear hleft
        by_cases hneg : left - c < 0
        · go_wp2_with fail
          refine HWC.out.mono ?_
          rintro e w3 ⟨rfl, hb⟩
          have HB3 := Lib.hid (HB.out.trans (hb.mono hsz))
          clear hb
          go_wp2
          go_roundw
          case rel => exact ⟨j + 1, _, -1, 4 + (j : Int), by omega, by go_num, rfl, rfl, by go_num, by rw [HSC.out, ← HT.out]; simp, HB3.out, by omega, by omega, .inr ⟨rfl, j, by omega, rfl, by have := HLF.out; omega, by have := HLF.out; omega⟩⟩
          case measure => simp [intOf]; omega
        · go_wp2_with fail
          refine HWC.out.mono ?_
          rintro e w3 ⟨rfl, hb⟩
          have HB3 := Lib.hid (HB.out.trans (hb.mono hsz))
          clear hb
          go_wp2
          go_roundw
          case rel => exact ⟨j + 1, _, left - c, 0, by omega, by go_num, rfl, rfl, rfl, by rw [HSC.out, ← HT.out]; simp, HB3.out, by omega, by omega, .inl ⟨rfl, by rw [HMS.out]; have := HLF.out; omega, by omega⟩⟩
          case measure => simp [intOf]; omega
      · have hw : IntKind.i64.wrap (-1 - c) = -1 - c := by rw [IntKind.wrap_i64]; omega
        have hneg : (-1 : Int) - c < 0 := by omega
        have hl3 : (line == 0) = false := by simp; omega
        have HM := Lib.hid (And.intro hm (And.intro hline (And.intro hm1 hm2)))
        clear hm1 hm2 hline hm
        go_wp2_with fail
        refine HWC.out.mono ?_
        rintro e w3 ⟨rfl, hb⟩
        have HB3 := Lib.hid (HB.out.trans (hb.mono hsz))
        clear hb
        go_wp2
        go_roundw
        case rel => exact ⟨j + 1, _, -1, line, by omega, by go_num, rfl, rfl, rfl, by rw [HSC.out, ← HT.out]; simp, HB3.out, by omega, by omega, .inr ⟨rfl, m, by have := HM.out.1; omega, HM.out.2.1, HM.out.2.2.1, HM.out.2.2.2⟩⟩
        case measure => simp [intOf]; omega
    · have ej : j = K := by omega
      subst ej
      have HP := Lib.hid (Dm.parse_any t wr (by omega) (HV.out.below HB.out))
      unfold Dm.Parsed at HP
      rw [HT.out] at HP
      rcases hcs with ⟨rfl, hleft, h0⟩ | ⟨rfl, m, hm, hline, hm1, hm2⟩
      · obtain ⟨e1, e2, e3⟩ := Dm.sums_parse_ok (K := j) (c := c) (by omega) (by omega) (by simp only [Dm.top]; omega)
        rw [e1, e2, e3] at HP
        clear e1 e2 e3 hleft
        have hll : ((List.replicate j (Dm.ac c)).length : Int) = (j : Int) := by simp
        go_wp2_with fail
        refine HP.out.mono ?_
        rintro e w3 ⟨o3, c3, rfl, _, _, _, _, hb⟩
        have HB3 := Lib.hid (HB.out.trans (hb.mono hsz))
        have HB4 := Lib.hid (HB3.out.alloc HB3.out.size (.cells #[.int .i64 2, .int .i64 2, .int .i64 1, .slice o3 j c3] 25))
        have hjj : ((j : Int) == (j : Int)) = true := by simp
        clear hb
        go_wp2
        go_ret
        exact ⟨rfl, HB4.out⟩
      · obtain ⟨e1, e2, e3⟩ := Dm.sums_parse_err (K := j) (j := m) (c := c) (by omega) hm (by omega) (by simp only [Dm.top]; omega) (by simp only [Dm.top]; omega)
        rw [e1, e2, e3] at HP
        have hl3 : (line == 0) = false := by simp; omega
        have HLN := Lib.hid hline
        have hlq : ((4 + m : Nat) : Int) = line := by omega
        clear e1 e2 e3 hm1 hm2 hline
        rw [hlq] at HP
        clear hlq
        go_wp2_with fail
        refine HP.out.mono ?_
        rintro e w3 ⟨o3, c3, rfl, _, _, _, _, hb⟩
        have HB3 := Lib.hid (HB.out.trans (hb.mono hsz))
        have HB4 := Lib.hid (HB3.out.alloc HB3.out.size (.cells #[.int .i64 0, .int .i64 0, .int .i64 0, .slice o3 0 c3] 25))
        have hll : (line == line) = true := by simp
        clear hb
        go_wp2
        go_ret
        exact ⟨rfl, HB4.out⟩

end Go.Proofs.YtaepoddmonijkaaDoor.dimacsSums
