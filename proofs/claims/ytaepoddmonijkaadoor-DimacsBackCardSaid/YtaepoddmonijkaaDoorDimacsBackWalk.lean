/- DimacsBack: for every input the law returns true and its arguments read as they did. No condition. -/
import Derived.Test.YtaepoddmonijkaaDoorVars
import Derived.Test.YtaepoddmonijkaaDoorShown4
import Derived.Test.YtaepoddmonijkaaDoorPrt
import Derived.Test.YtaepoddmonijkaaDoorOpen
import Derived.Test.YtaepoddmonijkaaDoorBk4
import Derived.Test.YtaepoddmonijkaaDoorDimn
import Derived.Test.YtaepoddmonijkaaDoorDsame
import Derived.Test.YtaepoddmonijkaaDoorLin
import Derived.Test.YtaepoddmonijkaaDoorRows
import Derived.Test.YtaepoddmonijkaaDoorTie
import Derived.Test.YtaepoddmonijkaaDoorCards
import Derived.WalkKit
import Derived.ProofKit
import Derived.OpenShut
import Derived.ShutString
import Derived.ChangeOld
import Derived.Below
import Derived.Deep.Strs
import Derived.LaidMore
import Derived.Lay
import Derived.SevenTiedAt
import Derived.Stop.Joined
namespace Go.Proofs.YtaepoddmonijkaaDoor.dimacsBack
open Go.ChangeShapes Go.WideShapes Go.ChangeAt Go.RowKit
open Go.ChangeMaps (open_string shut_string)
set_option linter.unusedVariables false
set_option linter.unusedSimpArgs false

theorem own : ownKnob Tryd.prog.godebug = none := by kernel_rfl
theorem laidOut : laidOutB Tryd.prog = true := by kernel_rfl



set_option maxRecDepth 100000 in
set_option maxHeartbeats 4000000 in
theorem walk (a0 : Ne.Net) (o0 : Option Addr) (c0 : Nat) (a1 : ByteArray) (a2 : ByteArray) (w : World) (k0 : a0.ok) (z0 : a0.l.length ≤ c0) (y0 : c0 ≤ maxLen) (n0 : o0 = none → c0 = 0) (r0 : Ne.ARow w o0 a0.l) (w1 : a1.size ≤ maxLen) (w2 : a2.size ≤ maxLen) (s1 : a1.data.toList.length ≤ 140737488351232) (s2 : a2.data.toList.length ≤ 140737488351232) (hv : Txt.Vars w) :
    Calls Tryd.prog 5 #[Ne.encN a0 o0 c0, .string a1, .string a2] w fun e w' => e = .returned (.bool true) ∧ Below w.heap.size w w' := by
  have HBA := Lib.hid (show Below w.heap.size w (w.alloc (.cells #[.int .i64 a0.n, .int .i64 a0.s, .int .i64 a0.t, .slice o0 a0.l.length c0] 25)) from (Below.refl _ _).alloc (Nat.le_refl _) _)
  have HNA := Lib.hid (Ne.netBox_new w a0.n a0.s a0.t (.slice o0 a0.l.length c0))
  have HSH := Lib.hid fun w' (h : Txt.Vars w') => Dm.shown_any w' h
  have HV := Lib.hid hv
  have HR := Lib.hid r0
  have HOK := Lib.hid k0
  have HZ2 := Lib.hid (Lib.size_eq a2)
  have HZ1 := Lib.hid (Lib.size_eq a1)
  have hz1 := HZ1.out
  have hz2 := HZ2.out
  have hws : IntKind.i64.wrap ((a1.size : Int) + (a2.size : Int)) = (a1.size : Int) + (a2.size : Int) := by rw [IntKind.wrap_i64]; omega
  clear hv r0 k0 hz1 hz2
  by_cases hl : a0.l.length ≤ 300
  case neg =>
    have hl' : (300 : Int) < (a0.l.length : Int) := by omega
    clear hl
    go_enter Tryd.func5, Tryd.ntmps5
    go_wp2_with fail
    refine (HSH.out _ (HV.out.below HBA.out)).mono ?_
    rintro e w1 ⟨rfl, hb⟩
    have HB1 := Lib.hid (HBA.out.trans (hb.mono HBA.out.size))
    have HN1 := Lib.hid (Ne.netBox_below HNA.out hb (Ne.netBox_lt HNA.out))
    obtain ⟨m0, m1, m2, m3⟩ := Ne.netBox_cells HN1.out
    clear hb
    go_wp2
    go_ret
    exact ⟨rfl, HB1.out⟩
  have hl' : ¬ (300 : Int) < (a0.l.length : Int) := by omega
  by_cases h3 : a1.size + a2.size ≤ 3000
  case neg =>
    have h3' : (3000 : Int) < (a1.size : Int) + (a2.size : Int) := by omega
    clear h3
    go_enter Tryd.func5, Tryd.ntmps5
    go_wp2_with fail
    refine (HSH.out _ (HV.out.below HBA.out)).mono ?_
    rintro e w1 ⟨rfl, hb⟩
    have HB1 := Lib.hid (HBA.out.trans (hb.mono HBA.out.size))
    have HN1 := Lib.hid (Ne.netBox_below HNA.out hb (Ne.netBox_lt HNA.out))
    obtain ⟨m0, m1, m2, m3⟩ := Ne.netBox_cells HN1.out
    clear hb
    go_wp2
    go_ret
    exact ⟨rfl, HB1.out⟩
  have h3' : ¬ (3000 : Int) < (a1.size : Int) + (a2.size : Int) := by omega
  have PA := Lib.hid fun w' (h : Txt.Vars w') => Dm.parse_any a1 w' (by omega) h
  have PTL := Lib.hid (Dm.parse_tells a1.data.toList)
  have LNS := Lib.hid fun w' (h : Txt.Vars w') => Txt.lines_any a1 w' (by omega) h
  have HLL1 := Lib.hid (show (Txt.lin [] a1.data.toList).length ≤ 3001 by have := Txt.lin_len a1.data.toList []; have := HZ1.out; omega)
  unfold Dm.Parsed at PA
  generalize Dm.parseE a1.data.toList = E1 at PA PTL
  generalize Dm.parseI a1.data.toList = I1 at PA PTL
  obtain ⟨N, hN⟩ : ∃ N, N = Dm.parseN a1.data.toList := ⟨_, rfl⟩
  have HNL := Lib.hid (show N.l.length ≤ 3000 by rw [hN]; have := Dm.parseN_le a1.data.toList; have := HZ1.out; omega)
  rw [← hN] at PA PTL
  clear hN
  have PR := Lib.hid fun w' (h : Ne.ARow w' o0 a0.l) (h2 : Txt.Vars w') => Dm.print_any a0 o0 c0 w' h (by omega) HOK.out h2
  have CK := Lib.hid fun w' (h : Ne.ARow w' o0 a0.l) => Ne.check_any a0 o0 c0 w' h (by omega) (fun a ha => (HOK.out.2.2.2 a ha).2.2)
  go_enter Tryd.func5, Tryd.ntmps5
  go_wp2_with fail
  refine (HSH.out _ (HV.out.below HBA.out)).mono ?_
  rintro e w1 ⟨rfl, hb⟩
  have HB1 := Lib.hid (HBA.out.trans (hb.mono HBA.out.size))
  have HN1 := Lib.hid (Ne.netBox_below HNA.out hb (Ne.netBox_lt HNA.out))
  obtain ⟨m0, m1, m2, m3⟩ := Ne.netBox_cells HN1.out
  clear hb
  go_wp2_with fail
  refine (PR.out _ (HR.out.kept HB1.out) (HV.out.below HB1.out)).mono ?_
  rintro e w2 ⟨rfl, hb⟩
  have HB2 := Lib.hid (HB1.out.trans (hb.mono HB1.out.size))
  have HN2 := Lib.hid (Ne.netBox_below HN1.out hb (Ne.netBox_lt HN1.out))
  clear hb m0 m1 m2 m3
  obtain ⟨m0, m1, m2, m3⟩ := Ne.netBox_cells HN2.out
  go_wp2_with fail
  refine (CK.out _ (HR.out.kept HB2.out)).mono ?_
  rintro e w3 ⟨rfl, hb⟩
  have HB3 := Lib.hid (HB2.out.trans (hb.mono HB2.out.size))
  have HN3 := Lib.hid (Ne.netBox_below HN2.out hb (Ne.netBox_lt HN2.out))
  clear hb m0 m1 m2 m3
  by_cases hc : Ne.checkN a0 = 0
  case neg =>
    have HC := Lib.hid hc
    have hpE : Dm.prtE a0 = 1 := by unfold Dm.prtE; rw [if_neg hc]
    have hcE : (Ne.checkN a0 == 0) = false := by simpa using hc
    clear hc
    rcases PTL.out with ⟨hE, hI, hF⟩ | ⟨hE, hI1, hI2, hN⟩
    case inr =>
      have e1 : (E1 != 0) = true := by simpa using hE
      have i1 : (1 : Int) ≤ (I1 : Int) := by omega
      have i2 : (I1 : Int) ≤ ((Txt.lin [] a1.data.toList).length : Int) + 1 := by omega
      have hlw : ((Txt.lin [] a1.data.toList).length : Int) ≤ 3001 := by have := HLL1.out; omega
      rw [hN] at PA
      have HI := Lib.hid (And.intro hI1 hI2)
      clear hE hI1 hI2 hN
      go_wp2_with fail
      refine (PA.out _ (HV.out.below HB3.out)).mono ?_
      rintro e t1 ⟨p1, d1, rfl, _, _, _, _, hb⟩
      have HT1 := Lib.hid (HB3.out.trans (hb.mono HB3.out.size))
      have HBX := Lib.hid (show Below t1.heap.size t1 (t1.alloc (.cells #[.int .i64 0, .int .i64 0, .int .i64 0, .slice p1 0 d1] 25)) from (Below.refl _ _).alloc (Nat.le_refl _) _)
      have HNX := Lib.hid (Ne.netBox_new t1 0 0 0 (.slice p1 0 d1))
      have HT2 := Lib.hid (HT1.out.trans (HBX.out.mono HT1.out.size))
      clear hb
      go_wp2_with fail
      refine (LNS.out _ (HV.out.below HT2.out)).mono ?_
      rintro e t3 ⟨p3, d3, rfl, _, _, _, hb⟩
      have HT3 := Lib.hid (HT2.out.trans (hb.mono HT2.out.size))
      obtain ⟨x0, x1, x2, x3⟩ := Ne.netBox_cells (Ne.netBox_below HNX.out hb (Ne.netBox_lt HNX.out))
      clear hb
      go_wp2
      go_ret
      exact ⟨rfl, HT3.out⟩
    subst hE
    subst hI
    have HFN := Lib.hid hF
    obtain ⟨q1, q2⟩ := Dm.prt_fine hF
    obtain ⟨r1, r2, r3⟩ := Dm.parse_print hF
    have hNok := Dm.fine_net_ok hF
    have hNl := hF.len
    have PRN := Lib.hid fun w' o c (h : Ne.ARow w' o N.l) (h2 : Txt.Vars w') => Dm.print_any N o c w' h (by omega) hNok h2
    rw [q1, q2] at PRN
    have hpz : (⟨(Dm.printT N).toArray⟩ : ByteArray).size ≤ 1000000 := by
      show (Dm.printT N).toArray.size ≤ _
      rw [List.size_toArray]; have := Dm.printT_len hNok (by omega); omega
    have PB := Lib.hid fun w' (h : Txt.Vars w') => Dm.parse_any ⟨(Dm.printT N).toArray⟩ w' hpz h
    unfold Dm.Parsed at PB
    rw [show (⟨(Dm.printT N).toArray⟩ : ByteArray).data.toList = Dm.printT N from by simp, r1, r2, r3] at PB
    have CKN := Lib.hid fun w' o c (h : Ne.ARow w' o N.l) => Ne.check_any N o c w' h (by omega) (fun a ha => (hNok.2.2.2 a ha).2.2)
    rw [Dm.check_of hF] at CKN
    have SMN := Lib.hid fun w' o c o' c' (h1 : Ne.ARow w' o N.l) (h2 : Ne.ARow w' o' N.l) => Ne.dsame_any N N o o' c c' w' h1 h2 (by omega) (by omega)
    rw [show Ne.sameN N N = true from by simp [Ne.sameN]] at SMN
    clear q1 q2 r1 r2 r3 hNok hF
    go_wp2_with fail
    refine (PA.out _ (HV.out.below HB3.out)).mono ?_
    rintro e t1 ⟨p1, d1, rfl, _, _, _, hr1, hb⟩
    have HT1 := Lib.hid (HB3.out.trans (hb.mono HB3.out.size))
    have HRX := Lib.hid hr1
    have HBX := Lib.hid (show Below t1.heap.size t1 (t1.alloc (.cells #[.int .i64 N.n, .int .i64 N.s, .int .i64 N.t, .slice p1 N.l.length d1] 25)) from (Below.refl _ _).alloc (Nat.le_refl _) _)
    have HNX := Lib.hid (Ne.netBox_new t1 N.n N.s N.t (.slice p1 N.l.length d1))
    have HT2 := Lib.hid (HT1.out.trans (HBX.out.mono HT1.out.size))
    have HRX2 := Lib.hid (HRX.out.kept HBX.out)
    obtain ⟨x0, x1, x2, x3⟩ := Ne.netBox_cells HNX.out
    clear hb hr1
    go_wp2_with fail
    refine (PRN.out _ _ _ HRX2.out (HV.out.below HT2.out)).mono ?_
    rintro e t3 ⟨rfl, hb⟩
    have HT3 := Lib.hid (HT2.out.trans (hb.mono HT2.out.size))
    have HNX3 := Lib.hid (Ne.netBox_below HNX.out hb (Ne.netBox_lt HNX.out))
    have HRX3 := Lib.hid (HRX2.out.kept hb)
    clear hb x0 x1 x2 x3
    go_wp2_with fail
    refine (PB.out _ (HV.out.below HT3.out)).mono ?_
    rintro e t4 ⟨p4, d4, rfl, _, _, _, hr4, hb⟩
    have HT4 := Lib.hid (HT3.out.trans (hb.mono HT3.out.size))
    have HNX4 := Lib.hid (Ne.netBox_below HNX3.out hb (Ne.netBox_lt HNX3.out))
    have HRX4 := Lib.hid (HRX3.out.kept hb)
    have HRY4 := Lib.hid hr4
    have HBY := Lib.hid (show Below t4.heap.size t4 (t4.alloc (.cells #[.int .i64 N.n, .int .i64 N.s, .int .i64 N.t, .slice p4 N.l.length d4] 25)) from (Below.refl _ _).alloc (Nat.le_refl _) _)
    have HNY := Lib.hid (Ne.netBox_new t4 N.n N.s N.t (.slice p4 N.l.length d4))
    have HT5 := Lib.hid (HT4.out.trans (HBY.out.mono HT4.out.size))
    have HNX5 := Lib.hid (Ne.netBox_below HNX4.out HBY.out (Ne.netBox_lt HNX4.out))
    have HRX5 := Lib.hid (HRX4.out.kept HBY.out)
    have HRY5 := Lib.hid (HRY4.out.kept HBY.out)
    obtain ⟨x0, x1, x2, x3⟩ := Ne.netBox_cells HNX4.out
    have hz14 : t1.heap.size < t4.heap.size := Ne.netBox_lt HNX4.out
    clear hb hr4
    go_wp2_with fail
    refine (CKN.out _ _ _ HRX5.out).mono ?_
    rintro e t6 ⟨rfl, hb⟩
    have HT6 := Lib.hid (HT5.out.trans (hb.mono HT5.out.size))
    have HNX6 := Lib.hid (Ne.netBox_below HNX5.out hb (Ne.netBox_lt HNX5.out))
    have HNY6 := Lib.hid (Ne.netBox_below HNY.out hb (Ne.netBox_lt HNY.out))
    have HRX6 := Lib.hid (HRX5.out.kept hb)
    have HRY6 := Lib.hid (HRY5.out.kept hb)
    clear hb x0 x1 x2 x3
    obtain ⟨x0, x1, x2, x3⟩ := Ne.netBox_cells HNX6.out
    obtain ⟨y0, y1, y2, y3⟩ := Ne.netBox_cells HNY6.out
    go_wp2_with fail
    refine (SMN.out _ _ _ _ _ HRX6.out HRY6.out).mono ?_
    rintro e t7 ⟨rfl, hb⟩
    have HT7 := Lib.hid (HT6.out.trans (hb.mono HT6.out.size))
    clear hb
    go_wp2
    go_ret
    exact ⟨rfl, HT7.out⟩
  have hF0 := Dm.fine_of hc
  obtain ⟨g1, g2⟩ := Dm.prt_fine hF0
  rw [g1, g2, hc]
  have HF0 := Lib.hid hF0
  have HPL := Lib.hid (show (Dm.printT a0).length ≤ 20502 by have := Dm.printT_len HOK.out (by omega); omega)
  have HLT := Lib.hid (Dm.linesT_len a0)
  have LN := Lib.hid fun w' (h : Txt.Vars w') => Txt.lines_any ⟨(Dm.printT a0).toArray⟩ w' (by show (Dm.printT a0).toArray.size ≤ _; rw [List.size_toArray]; have := HPL.out; omega) h
  rw [show (⟨(Dm.printT a0).toArray⟩ : ByteArray).data.toList = Dm.printT a0 from by simp, Dm.lin_print] at LN
  obtain ⟨r1, r2, r3⟩ := Dm.parse_print hF0
  have PO := Lib.hid fun w' (h : Txt.Vars w') => Dm.parse_any ⟨(Dm.printT a0).toArray⟩ w' (by show (Dm.printT a0).toArray.size ≤ _; rw [List.size_toArray]; have := HPL.out; omega) h
  unfold Dm.Parsed at PO
  rw [show (⟨(Dm.printT a0).toArray⟩ : ByteArray).data.toList = Dm.printT a0 from by simp, r1, r2, r3] at PO
  have SM := Lib.hid fun w' o c (h1 : Ne.ARow w' o a0.l) (h2 : Ne.ARow w' o0 a0.l) => Ne.dsame_any a0 a0 o o0 c c0 w' h1 h2 (by omega) (by omega)
  rw [show Ne.sameN a0 a0 = true from by simp [Ne.sameN]] at SM
  clear hc hF0 g1 g2 r1 r2 r3
  go_wp2
  go_loop [10] (fun i => ∃ k : Nat, k ≤ a2.size ∧ i = .int .i64 k ∧ ∀ c ∈ a2.data.toList.take k, c ≠ 10) (fun i => a2.size - (intOf i).toNat)
  case atStart => exact ⟨0, Nat.zero_le _, rfl, by simp⟩
  case round =>
    obtain ⟨k, hk, rfl, hno⟩ := hrel
    by_cases hlt : k < a2.size
    · have hget := Lib.data_getElem? a2 k hlt
      have HNO := Lib.hid hno
      by_cases h10 : a2[k] = 10
      · have hq : ((a2[k].toNat : Int) == 10) = true := by rw [h10]; rfl
        clear hget hno h10
        go_wp2
        go_ret
        exact ⟨rfl, HB3.out⟩
      · have hq : ((a2[k].toNat : Int) == 10) = false := Txt.byte_ne (n := 10) (by decide) h10
        have HN2' := Lib.hid (show ∀ c ∈ a2.data.toList.take (k + 1), c ≠ 10 by
          intro c hc
          rw [List.take_add_one, hget] at hc
          rcases List.mem_append.1 hc with h | h
          · exact HNO.out c h
          · simp at h; subst h; exact h10)
        clear hget hno h10
        go_wp2
        go_round
        case rel => exact ⟨k + 1, by omega, by go_num, HN2'.out⟩
        case measure => simp [intOf]; omega
    have ek : k = a2.size := by omega
    subst ek
    have HX10 := Lib.hid (show ∀ c ∈ a2.data.toList, c ≠ 10 by
      have := hno
      rw [List.take_of_length_le (by rw [← HZ2.out]; exact Nat.le_refl _)] at this; exact this)
    clear hno
    go_wp2_with fail
    refine (LN.out _ (HV.out.below HB3.out)).mono ?_
    rintro e w4 ⟨ok, ck, rfl, hck, hnk, hrk, hb⟩
    have HB4 := Lib.hid (HB3.out.trans (hb.mono HB3.out.size))
    have HN4 := Lib.hid (Ne.netBox_below HN3.out hb (Ne.netBox_lt HN3.out))
    have HRK := Lib.hid hrk
    clear hb hrk hck hnk
    obtain ⟨LT, hLT⟩ : ∃ X, X = Dm.linesT a0 := ⟨_, rfl⟩
    rw [← hLT] at HRK HLT ⊢
    have HLD := Lib.hid hLT
    have HE := Lib.hid (show ∀ y ∈ LT, y.length ≤ 67 by rw [hLT]; exact Dm.linesT_elem HOK.out (by omega))
    have hLL : LT.length = 3 + a0.l.length := HLT.out
    have hLb : LT.length ≤ 303 := by omega
    clear hLL hLT
    go_wp2
    go_loop [12, 13] (fun t i => ∃ (j : Nat) (s : ByteArray), j ≤ LT.length ∧ i = .int .i64 j ∧ t = .string s ∧ s.data.toList = Txt.ends (([99, 32] ++ a2.data.toList) :: (LT.take j).flatMap (Dm.blkT a2.data.toList)) ∧ s.size ≤ 3003 + 3075 * j) (fun _ i => LT.length - (intOf i).toNat)
    case atStart => exact ⟨0, _, Nat.zero_le _, rfl, rfl, by rw [List.take_zero, List.flatMap_nil, Dm.ends_one]; simp, by rw [Lib.size_eq] at h3 ⊢; simp at h3 ⊢; omega⟩
    case round =>
      obtain ⟨j, s, hj, rfl, rfl, hs, hsz⟩ := hrel
      have HSs := Lib.hid hs
      clear hs
      by_cases hlt : j < LT.length
      · obtain ⟨y, hy⟩ : ∃ y, LT[j]? = some y := ⟨_, List.getElem?_eq_getElem hlt⟩
        have hyl := HE.out y (List.mem_of_getElem? hy)
        rcases HRK.out with h | ⟨g, off, rfl, hg, hc⟩
        · rw [h] at hlt; simp at hlt
        have c0 : w4.cell? ⟨g, off + j, none⟩ = some (.string ⟨y.toArray⟩) := hc j _ hy
        have hji : (j : Int) < (LT.length : Int) := by omega
        have HD := Lib.hid (show (LT.take (j + 1)).flatMap (Dm.blkT a2.data.toList) = (LT.take j).flatMap (Dm.blkT a2.data.toList) ++ Dm.blkT a2.data.toList y by rw [List.take_add_one, hy]; simp)
        clear hc hy
        go_wp2
        go_round
        case rel => exact ⟨j + 1, _, by omega, by go_num, rfl, by rw [HD.out, ← List.cons_append, Dm.ends_append, Dm.ends_blk, ← HSs.out]; simp, by rw [Lib.size_eq] at hsz h3 ⊢; simp at hsz h3 ⊢; omega⟩
        case measure => simp [intOf]; omega
      have ej : j = LT.length := by omega
      subst ej
      rw [List.take_length] at HSs
      have HTX := Lib.hid (show s.data.toList = Txt.ends (Dm.allX a0 a2.data.toList) by rw [HSs.out]; unfold Dm.allX; rw [← HLD.out])
      obtain ⟨q1, q2, q3⟩ := Dm.all_parse HF0.out HX10.out HTX.out
      have hs2 : s.size ≤ 1000000 := by omega
      have PS := Lib.hid fun w' (h : Txt.Vars w') => Dm.parse_any s w' hs2 h
      unfold Dm.Parsed at PS
      rw [q1, q2, q3] at PS
      clear q1 q2 q3
      go_wp2_with fail
      refine (PO.out _ (HV.out.below HB4.out)).mono ?_
      rintro e w5 ⟨p5, d5, rfl, _, _, _, hr5, hb⟩
      have HB5 := Lib.hid (HB4.out.trans (hb.mono HB4.out.size))
      have HN5 := Lib.hid (Ne.netBox_below HN4.out hb (Ne.netBox_lt HN4.out))
      have HR5 := Lib.hid hr5
      have HBP := Lib.hid (show Below w5.heap.size w5 (w5.alloc (.cells #[.int .i64 a0.n, .int .i64 a0.s, .int .i64 a0.t, .slice p5 a0.l.length d5] 25)) from (Below.refl _ _).alloc (Nat.le_refl _) _)
      have HNP := Lib.hid (Ne.netBox_new w5 a0.n a0.s a0.t (.slice p5 a0.l.length d5))
      have HB6 := Lib.hid (HB5.out.trans (HBP.out.mono HB5.out.size))
      clear hb hr5
      go_wp2_with fail
      refine (PS.out _ (HV.out.below HB6.out)).mono ?_
      rintro e w7 ⟨p7, d7, rfl, _, _, _, hr7, hb⟩
      have HB7 := Lib.hid (HB6.out.trans (hb.mono HB6.out.size))
      have HN7 := Lib.hid (Ne.netBox_below (Ne.netBox_below HN5.out HBP.out (Ne.netBox_lt HN5.out)) hb (Nat.lt_of_lt_of_le (Ne.netBox_lt HN5.out) HBP.out.size))
      have HNP7 := Lib.hid (Ne.netBox_below HNP.out hb (Ne.netBox_lt HNP.out))
      have HR57 := Lib.hid ((HR5.out.kept HBP.out).kept hb)
      have HR7 := Lib.hid hr7
      have HBQ := Lib.hid (show Below w7.heap.size w7 (w7.alloc (.cells #[.int .i64 a0.n, .int .i64 a0.s, .int .i64 a0.t, .slice p7 a0.l.length d7] 25)) from (Below.refl _ _).alloc (Nat.le_refl _) _)
      have HNQ := Lib.hid (Ne.netBox_new w7 a0.n a0.s a0.t (.slice p7 a0.l.length d7))
      have HB8 := Lib.hid (HB7.out.trans (HBQ.out.mono HB7.out.size))
      have HR58 := Lib.hid (HR57.out.kept HBQ.out)
      have HR78 := Lib.hid (HR7.out.kept HBQ.out)
      have HN8 := Lib.hid (Ne.netBox_below HN7.out HBQ.out (Ne.netBox_lt HN7.out))
      have hzp : w5.heap.size < w7.heap.size := Ne.netBox_lt HNP7.out
      have hzn : w.heap.size < w7.heap.size := Ne.netBox_lt HN7.out
      obtain ⟨n0, n1, n2, n3⟩ := Ne.netBox_cells HN7.out
      obtain ⟨m0, m1, m2, m3⟩ := Ne.netBox_cells HNP7.out
      clear hb hr7
      go_wp2_with fail
      refine (SM.out _ _ _ HR58.out (HR.out.kept HB8.out)).mono ?_
      rintro e w9 ⟨rfl, hb⟩
      have HB9 := Lib.hid (HB8.out.trans (hb.mono HB8.out.size))
      have HN9 := Lib.hid (Ne.netBox_below HN8.out hb (Ne.netBox_lt HN8.out))
      have HNQ9 := Lib.hid (Ne.netBox_below HNQ.out hb (Ne.netBox_lt HNQ.out))
      have HR79 := Lib.hid (HR78.out.kept hb)
      clear hb n0 n1 n2 n3 m0 m1 m2 m3
      obtain ⟨n0, n1, n2, n3⟩ := Ne.netBox_cells HN9.out
      obtain ⟨m0, m1, m2, m3⟩ := Ne.netBox_cells HNQ9.out
      go_wp2_with fail
      refine (SM.out _ _ _ HR79.out (HR.out.kept HB9.out)).mono ?_
      rintro e wa ⟨rfl, hb⟩
      have HBa := Lib.hid (HB9.out.trans (hb.mono HB9.out.size))
      clear hb n0 n1 n2 n3 m0 m1 m2 m3
      rcases PTL.out with ⟨hE, hI, hF⟩ | ⟨hE, hI1, hI2, hN⟩
      case inr =>
        have e1 : (E1 != 0) = true := by simpa using hE
        have i1 : (1 : Int) ≤ (I1 : Int) := by omega
        have i2 : (I1 : Int) ≤ ((Txt.lin [] a1.data.toList).length : Int) + 1 := by omega
        have hlw : ((Txt.lin [] a1.data.toList).length : Int) ≤ 3001 := by have := HLL1.out; omega
        rw [hN] at PA
        have HI := Lib.hid (And.intro hI1 hI2)
        clear hE hI1 hI2 hN
        go_wp2_with fail
        refine (PA.out _ (HV.out.below HBa.out)).mono ?_
        rintro e t1 ⟨p1, d1, rfl, _, _, _, _, hb⟩
        have HT1 := Lib.hid (HBa.out.trans (hb.mono HBa.out.size))
        have HBX := Lib.hid (show Below t1.heap.size t1 (t1.alloc (.cells #[.int .i64 0, .int .i64 0, .int .i64 0, .slice p1 0 d1] 25)) from (Below.refl _ _).alloc (Nat.le_refl _) _)
        have HNX := Lib.hid (Ne.netBox_new t1 0 0 0 (.slice p1 0 d1))
        have HT2 := Lib.hid (HT1.out.trans (HBX.out.mono HT1.out.size))
        clear hb
        go_wp2_with fail
        refine (LNS.out _ (HV.out.below HT2.out)).mono ?_
        rintro e t3 ⟨p3, d3, rfl, _, _, _, hb⟩
        have HT3 := Lib.hid (HT2.out.trans (hb.mono HT2.out.size))
        obtain ⟨x0, x1, x2, x3⟩ := Ne.netBox_cells (Ne.netBox_below HNX.out hb (Ne.netBox_lt HNX.out))
        clear hb
        go_wp2
        go_ret
        exact ⟨rfl, HT3.out⟩
      subst hE
      subst hI
      have HFN := Lib.hid hF
      obtain ⟨q1, q2⟩ := Dm.prt_fine hF
      obtain ⟨r1, r2, r3⟩ := Dm.parse_print hF
      have hNok := Dm.fine_net_ok hF
      have hNl := hF.len
      have PRN := Lib.hid fun w' o c (h : Ne.ARow w' o N.l) (h2 : Txt.Vars w') => Dm.print_any N o c w' h (by omega) hNok h2
      rw [q1, q2] at PRN
      have hpz : (⟨(Dm.printT N).toArray⟩ : ByteArray).size ≤ 1000000 := by
        show (Dm.printT N).toArray.size ≤ _
        rw [List.size_toArray]; have := Dm.printT_len hNok (by omega); omega
      have PB := Lib.hid fun w' (h : Txt.Vars w') => Dm.parse_any ⟨(Dm.printT N).toArray⟩ w' hpz h
      unfold Dm.Parsed at PB
      rw [show (⟨(Dm.printT N).toArray⟩ : ByteArray).data.toList = Dm.printT N from by simp, r1, r2, r3] at PB
      have CKN := Lib.hid fun w' o c (h : Ne.ARow w' o N.l) => Ne.check_any N o c w' h (by omega) (fun a ha => (hNok.2.2.2 a ha).2.2)
      rw [Dm.check_of hF] at CKN
      have SMN := Lib.hid fun w' o c o' c' (h1 : Ne.ARow w' o N.l) (h2 : Ne.ARow w' o' N.l) => Ne.dsame_any N N o o' c c' w' h1 h2 (by omega) (by omega)
      rw [show Ne.sameN N N = true from by simp [Ne.sameN]] at SMN
      clear q1 q2 r1 r2 r3 hNok hF
      go_wp2_with fail
      refine (PA.out _ (HV.out.below HBa.out)).mono ?_
      rintro e t1 ⟨p1, d1, rfl, _, _, _, hr1, hb⟩
      have HT1 := Lib.hid (HBa.out.trans (hb.mono HBa.out.size))
      have HRX := Lib.hid hr1
      have HBX := Lib.hid (show Below t1.heap.size t1 (t1.alloc (.cells #[.int .i64 N.n, .int .i64 N.s, .int .i64 N.t, .slice p1 N.l.length d1] 25)) from (Below.refl _ _).alloc (Nat.le_refl _) _)
      have HNX := Lib.hid (Ne.netBox_new t1 N.n N.s N.t (.slice p1 N.l.length d1))
      have HT2 := Lib.hid (HT1.out.trans (HBX.out.mono HT1.out.size))
      have HRX2 := Lib.hid (HRX.out.kept HBX.out)
      obtain ⟨x0, x1, x2, x3⟩ := Ne.netBox_cells HNX.out
      clear hb hr1
      go_wp2_with fail
      refine (PRN.out _ _ _ HRX2.out (HV.out.below HT2.out)).mono ?_
      rintro e t3 ⟨rfl, hb⟩
      have HT3 := Lib.hid (HT2.out.trans (hb.mono HT2.out.size))
      have HNX3 := Lib.hid (Ne.netBox_below HNX.out hb (Ne.netBox_lt HNX.out))
      have HRX3 := Lib.hid (HRX2.out.kept hb)
      clear hb x0 x1 x2 x3
      go_wp2_with fail
      refine (PB.out _ (HV.out.below HT3.out)).mono ?_
      rintro e t4 ⟨p4, d4, rfl, _, _, _, hr4, hb⟩
      have HT4 := Lib.hid (HT3.out.trans (hb.mono HT3.out.size))
      have HNX4 := Lib.hid (Ne.netBox_below HNX3.out hb (Ne.netBox_lt HNX3.out))
      have HRX4 := Lib.hid (HRX3.out.kept hb)
      have HRY4 := Lib.hid hr4
      have HBY := Lib.hid (show Below t4.heap.size t4 (t4.alloc (.cells #[.int .i64 N.n, .int .i64 N.s, .int .i64 N.t, .slice p4 N.l.length d4] 25)) from (Below.refl _ _).alloc (Nat.le_refl _) _)
      have HNY := Lib.hid (Ne.netBox_new t4 N.n N.s N.t (.slice p4 N.l.length d4))
      have HT5 := Lib.hid (HT4.out.trans (HBY.out.mono HT4.out.size))
      have HNX5 := Lib.hid (Ne.netBox_below HNX4.out HBY.out (Ne.netBox_lt HNX4.out))
      have HRX5 := Lib.hid (HRX4.out.kept HBY.out)
      have HRY5 := Lib.hid (HRY4.out.kept HBY.out)
      obtain ⟨x0, x1, x2, x3⟩ := Ne.netBox_cells HNX4.out
      have hz14 : t1.heap.size < t4.heap.size := Ne.netBox_lt HNX4.out
      clear hb hr4
      go_wp2_with fail
      refine (CKN.out _ _ _ HRX5.out).mono ?_
      rintro e t6 ⟨rfl, hb⟩
      have HT6 := Lib.hid (HT5.out.trans (hb.mono HT5.out.size))
      have HNX6 := Lib.hid (Ne.netBox_below HNX5.out hb (Ne.netBox_lt HNX5.out))
      have HNY6 := Lib.hid (Ne.netBox_below HNY.out hb (Ne.netBox_lt HNY.out))
      have HRX6 := Lib.hid (HRX5.out.kept hb)
      have HRY6 := Lib.hid (HRY5.out.kept hb)
      clear hb x0 x1 x2 x3
      obtain ⟨x0, x1, x2, x3⟩ := Ne.netBox_cells HNX6.out
      obtain ⟨y0, y1, y2, y3⟩ := Ne.netBox_cells HNY6.out
      go_wp2_with fail
      refine (SMN.out _ _ _ _ _ HRX6.out HRY6.out).mono ?_
      rintro e t7 ⟨rfl, hb⟩
      have HT7 := Lib.hid (HT6.out.trans (hb.mono HT6.out.size))
      clear hb
      go_wp2
      go_ret
      exact ⟨rfl, HT7.out⟩

end Go.Proofs.YtaepoddmonijkaaDoor.dimacsBack
