/- DimacsCounts: for every input the law returns true and its arguments read as they did. No condition. -/
import Derived.Test.YtaepoddmonijkaaDoorVars
import Derived.Test.YtaepoddmonijkaaDoorShown4
import Derived.Test.YtaepoddmonijkaaDoorPrt
import Derived.Test.YtaepoddmonijkaaDoorOpenc
import Derived.Test.YtaepoddmonijkaaDoorMk4
import Derived.Test.YtaepoddmonijkaaDoorDsame
import Derived.Test.YtaepoddmonijkaaDoorRows
import Derived.Test.YtaepoddmonijkaaDoorTie
import Derived.Test.YtaepoddmonijkaaDoorCards
import Derived.WalkKit
import Derived.ProofKit
import Derived.OpenShut
import Derived.ShutString
import Derived.ChangeOld
import Derived.Below
import Derived.Deep.Strs
import Derived.LaidMore
import Derived.Lay
import Derived.SevenTiedAt
import Derived.Stop.Joined
namespace Go.Proofs.YtaepoddmonijkaaDoor.dimacsCounts
open Go.ChangeShapes Go.WideShapes Go.ChangeAt Go.RowKit
open Go.ChangeMaps (open_string shut_string)
set_option linter.unusedVariables false
set_option linter.unusedSimpArgs false

theorem own : ownKnob Tryd.prog.godebug = none := by kernel_rfl
theorem laidOut : laidOutB Tryd.prog = true := by kernel_rfl



set_option maxRecDepth 100000 in
set_option maxHeartbeats 4000000 in
theorem walk (a0 : Int) (a1 : Int) (a2 : List Ne.Arc) (o2 : Option Addr) (c2 : Nat) (a3 : Int) (w : World) (w0 : (Lit.int .i64 a0).wf = true) (w1 : (Lit.int .i64 a1).wf = true) (k2 : ∀ a ∈ a2, Ne.Arc.ok a) (z2 : a2.length ≤ c2) (y2 : c2 ≤ maxLen) (n2 : o2 = none → c2 = 0) (r2 : Ne.ARow w o2 a2) (w3 : (Lit.int .i64 a3).wf = true) (hv : Txt.Vars w) :
    Calls Tryd.prog 10 #[.int .i64 a0, .int .i64 a1, .slice o2 a2.length c2, .int .i64 a3] w fun e w' => e = .returned (.bool true) ∧ Below w.heap.size w w' := by
  have HSH := Lib.hid (Dm.shown_any w hv)
  have HV := Lib.hid hv
  have b0 := bounds_i64 w0
  have b1 := bounds_i64 w1
  obtain ⟨M, hM⟩ : ∃ x, x = Ne.madeN a0 a1 a2 := ⟨_, rfl⟩
  obtain ⟨hF, hlen, hok⟩ := Dm.made_fine (nodes := a0) (nds := a1) k2
  have MD := Lib.hid fun w' (h : Ne.ARow w' o2 a2) => Ne.made_s a0 a1 a2 o2 c2 w' b0 b1 k2 h
  rw [← hM] at MD hF hlen hok
  clear hM
  obtain ⟨hps, hpe⟩ := Dm.prt_fine hF
  have PR := Lib.hid fun w' om cm (h : Ne.ARow w' om M.l) (h2 : Txt.Vars w') => Dm.print_any M om cm w' h (by omega) hok h2
  rw [hps, hpe] at PR
  have HF := Lib.hid hF
  have HOK := Lib.hid hok
  have HPL := Lib.hid (show (Dm.printT M).length ≤ 1734 by have := Dm.printT_len hok (by omega); omega)
  have HLT := Lib.hid (Dm.linesT_len M)
  have LN := Lib.hid fun w' (h : Txt.Vars w') => Txt.lines_any ⟨(Dm.printT M).toArray⟩ w' (by show (Dm.printT M).toArray.size ≤ _; rw [List.size_toArray]; have := HPL.out; omega) h
  rw [show (⟨(Dm.printT M).toArray⟩ : ByteArray).data.toList = Dm.printT M from by simp, Dm.lin_print] at LN
  have RA := Lib.hid r2
  clear hv hps hpe hF hok r2
  have b3 := bounds_i64 w3
  obtain ⟨pm, hpm⟩ : ∃ x, x = Ne.pickN a3 40 := ⟨_, rfl⟩
  have bpm := Ne.pickN_bd (c := a3) (n := 40) (by omega)
  rw [← hpm] at bpm
  have P1 := Lib.hid fun w' => Ne.pick_any a3 40 w' b3.1 b3.2 (by omega) (by omega)
  rw [← hpm] at P1
  clear hpm
  obtain ⟨m, hm⟩ : ∃ k : Nat, pm = (k : Int) := ⟨pm.toNat, by omega⟩
  subst hm
  have hm40 : m < 40 := by omega
  have hlt3 : ¬ ((Dm.linesT M).length : Int) < 3 := by rw [HLT.out]; omega
  go_enter Tryd.func10, Tryd.ntmps10
  go_wp2_with fail
  refine HSH.out.mono ?_
  rintro e w1 ⟨rfl, hb⟩
  have HB1 := Lib.hid hb
  clear hb
  go_wp2_with fail
  refine (MD.out _ (RA.out.kept HB1.out)).mono ?_
  rintro e w2 ⟨om, cm, rfl, hown, hb⟩
  have HB2 := Lib.hid (HB1.out.trans (hb.mono HB1.out.size))
  obtain ⟨om', cm', hv', hcm, hcx, hnm, hrm, _⟩ := Rw.own_row Ne.encA_len hown
  cases hv'
  have HRM := Lib.hid hrm
  have HBA := Lib.hid (show Below w2.heap.size w2 (w2.alloc (.cells #[.int .i64 M.n, .int .i64 M.s, .int .i64 M.t, .slice om M.l.length cm] 25)) from (Below.refl _ _).alloc (Nat.le_refl _) _)
  have HNB := Lib.hid (Ne.netBox_new w2 M.n M.s M.t (.slice om M.l.length cm))
  obtain ⟨m0, m1, m2, m3⟩ := Ne.netBox_cells HNB.out
  have HB2A := Lib.hid (HB2.out.trans (HBA.out.mono HB2.out.size))
  clear hown hb hrm hcm hcx hnm
  go_wp2_with fail
  refine (PR.out _ om cm (HRM.out.kept HBA.out) (HV.out.below HB2A.out)).mono ?_
  rintro e w3 ⟨rfl, hb⟩
  have HB3 := Lib.hid (HB2A.out.trans (hb.mono HB2A.out.size))
  have HN3 := Lib.hid (Ne.netBox_below HNB.out hb (Ne.netBox_lt HNB.out))
  have HR3 := Lib.hid ((HRM.out.kept HBA.out).kept hb)
  clear hb m0 m1 m2 m3
  obtain ⟨m0, m1, m2, m3⟩ := Ne.netBox_cells HN3.out
  go_wp2_with fail
  refine (LN.out _ (HV.out.below HB3.out)).mono ?_
  rintro e w4 ⟨ok, ck, rfl, hck, hnk, hrk, hb⟩
  have HB4 := Lib.hid (HB3.out.trans (hb.mono HB3.out.size))
  have HN4 := Lib.hid (Ne.netBox_below HN3.out hb (Ne.netBox_lt HN3.out))
  have HR4 := Lib.hid (HR3.out.kept hb)
  have HRK := Lib.hid hrk
  have HCK := Lib.hid (And.intro hck hnk)
  clear hb m0 m1 m2 m3 hrk hck hnk
  obtain ⟨m0, m1, m2, m3⟩ := Ne.netBox_cells HN4.out
  go_wp2_with fail
  refine (P1.out _).mono ?_
  rintro e w' ⟨rfl, rfl⟩
  have lN : -9223372036854775808 ≤ M.n ∧ M.n ≤ 9223372036854775807 := HOK.out.1
  have l1 := Dm.itoa_len lN.1 lN.2
  have l2 := Dm.itoa_len (n := (m : Int)) (by omega) (by omega)
  go_wp2_with fail
  refine (Txt.write_any M.n _ lN.1 lN.2 (HV.out.below HB4.out)).mono ?_
  rintro e w5 ⟨rfl, hb⟩
  have HB5 := Lib.hid (HB4.out.trans (hb.mono HB4.out.size))
  have HN5 := Lib.hid (Ne.netBox_below HN4.out hb (Ne.netBox_lt HN4.out))
  have HR5 := Lib.hid (HR4.out.kept hb)
  have HRK5 := Lib.hid (HRK.out.below hb)
  clear hb
  go_wp2_with fail
  refine (Txt.write_any (m : Int) _ (by omega) (by omega) (HV.out.below HB5.out)).mono ?_
  rintro e w6 ⟨rfl, hb⟩
  have HB6 := Lib.hid (HB5.out.trans (hb.mono HB5.out.size))
  have HN6 := Lib.hid (Ne.netBox_below HN5.out hb (Ne.netBox_lt HN5.out))
  have HR6 := Lib.hid (HR5.out.kept hb)
  have HRK6 := Lib.hid (HRK5.out.below hb)
  clear hb m0 m1 m2 m3 HN4 HN5 HR4 HR5 HRK HRK5 HN3 HR3 HB4 HB5
  obtain ⟨m0, m1, m2, m3⟩ := Ne.netBox_cells HN6.out
  obtain ⟨LT, hLT⟩ : ∃ X, X = Dm.linesT M := ⟨_, rfl⟩
  rw [← hLT] at HRK6 HLT HCK ⊢
  have HE := Lib.hid (show ∀ y ∈ LT, y.length ≤ 67 by rw [hLT]; exact Dm.linesT_elem HOK.out (by omega))
  have HLD := Lib.hid hLT
  have hLL : LT.length = 3 + M.l.length := HLT.out
  have hLb : LT.length ≤ 27 := by omega
  have HLL := Lib.hid hLL
  clear hLL hlt3 hLT
  go_wp2
  go_loop [15, 16] (fun t i => ∃ (j : Nat) (x : ByteArray), 1 ≤ j ∧ j ≤ LT.length ∧ i = .int .i64 j ∧ t = .string x ∧ x.data.toList = Dm.lineT (Dm.wPr M.n m) ++ Txt.ends ((LT.take j).drop 1) ∧ x.size ≤ 60 + 68 * j) (fun _ i => LT.length - (intOf i).toNat)
  case atStart => exact ⟨1, _, Nat.le_refl _, by have := HLL.out; omega, rfl, rfl, by
      rw [show (LT.take 1).drop 1 = [] from by rw [List.drop_eq_nil_iff, List.length_take]; omega]
      unfold Dm.lineT Dm.wPr; rw [Dm.join4]; simp [Txt.ends], by rw [Lib.size_eq]; simp; omega⟩
  case round =>
    obtain ⟨j, x, hj1, hj2, rfl, rfl, hx, hxs⟩ := hrel
    have HX := Lib.hid hx
    clear hx
    by_cases hlt : j < LT.length
    · obtain ⟨y, hy⟩ : ∃ y, LT[j]? = some y := ⟨_, List.getElem?_eq_getElem hlt⟩
      have hyl := HE.out y (List.mem_of_getElem? hy)
      have HTD := Lib.hid (Dm.take_drop1 hy hj1)
      rcases HRK6.out with h | ⟨g, off, rfl, hg, hc⟩
      · rw [h] at hlt; simp at hlt
      have c0 : w6.cell? ⟨g, off + j, none⟩ = some (.string ⟨y.toArray⟩) := hc j _ hy
      have hji : (j : Int) < (LT.length : Int) := by omega
      clear hc hy
      go_wp2
      go_round
      case rel => exact ⟨j + 1, _, by omega, by omega, by go_num, rfl, by rw [HTD.out, Dm.ends_append, Dm.ends_one, ← List.append_assoc, ← HX.out]; simp, by rw [Lib.size_eq] at hxs ⊢; simp at hxs ⊢; omega⟩
      case measure => simp [intOf]; omega
    · have ej : j = LT.length := by omega
      subst ej
      rw [List.take_length] at HX
      have HTX := Lib.hid (show x.data.toList = Txt.ends (Dm.cntX M m) by
        rw [HX.out, Dm.cntX_cons, ← HLD.out, Txt.ends_cons]; unfold Dm.lineT; simp)
      have hxs2 : x.size ≤ 1000000 := by omega
      have HP := Lib.hid (Dm.parse_any x w6 hxs2 (HV.out.below HB6.out))
      obtain ⟨q1, q2, q3⟩ := Dm.cnt_parse HTX.out
      unfold Dm.Parsed at HP
      rw [q1, q2, q3] at HP
      clear q1 q2 q3
      by_cases hmm : m = M.l.length
      · have hr : Dm.runL 0 Dm.st0 (Dm.cntX M (m : Int)) = (0, 0, ⟨M.n, M.s, M.t, M.l.length, Dm.capsum M.l, M.l⟩) := by rw [hmm]; exact Dm.res_lines HF.out
        rw [hr] at HP
        have hq : ((m : Int) == (M.l.length : Int)) = true := by simp; omega
        clear hr
        have HSM := Lib.hid fun w' o c (h1 : Ne.ARow w' o M.l) (h2 : Ne.ARow w' om M.l) => Ne.dsame_any M M o om c cm w' h1 h2 (by omega) (by omega)
        rw [show Ne.sameN M M = true from by simp [Ne.sameN]] at HSM
        clear hmm
        go_wp2_with fail
        refine HP.out.mono ?_
        rintro e w7 ⟨o7, c7, rfl, _, _, _, hr7, hb⟩
        have HR7 := Lib.hid (show Ne.ARow w7 o7 M.l from hr7)
        have HB7 := Lib.hid (HB6.out.trans (hb.mono HB6.out.size))
        have HN7 := Lib.hid (Ne.netBox_below HN6.out hb (Ne.netBox_lt HN6.out))
        have HBQ := Lib.hid (show Below w7.heap.size w7 (w7.alloc (.cells #[.int .i64 M.n, .int .i64 M.s, .int .i64 M.t, .slice o7 M.l.length c7] 25)) from (Below.refl _ _).alloc (Nat.le_refl _) _)
        have HRM7 := Lib.hid ((HR6.out.kept hb).kept HBQ.out)
        have HN8 := Lib.hid (Ne.netBox_below HN7.out HBQ.out (Ne.netBox_lt HN7.out))
        have HB8 := Lib.hid (HB7.out.trans (HBQ.out.mono HB7.out.size))
        have HR8 := Lib.hid (HR7.out.kept HBQ.out)
        have hz2 : w2.heap.size < w7.heap.size := Ne.netBox_lt HN7.out
        clear hb hr7 m0 m1 m2 m3
        obtain ⟨m0, m1, m2, m3⟩ := Ne.netBox_cells HN8.out
        obtain ⟨p0, p1, p2, p3⟩ := Ne.netBox_cells HN7.out
        go_wp2_with fail
        refine (HSM.out _ _ _ HR8.out HRM7.out).mono ?_
        rintro e w9 ⟨rfl, hb⟩
        have HB9 := Lib.hid (HB8.out.trans (hb.mono HB8.out.size))
        clear hb
        go_wp2
        go_ret
        exact ⟨rfl, HB9.out⟩
      have hq : ((m : Int) == (M.l.length : Int)) = false := by simp; omega
      by_cases hgt : M.l.length < m
      · obtain ⟨st, hr⟩ := Dm.cnt_more HF.out (m := (m : Int)) (by omega) (by omega)
        rw [hr] at HP
        have hg : (M.l.length : Int) < (m : Int) := by omega
        have HLI := Lib.hid (show ((4 + M.l.length : Nat) : Int) = (LT.length : Int) + 1 by have := HLL.out; omega)
        rw [HLI.out] at HP
        clear hr hmm
        go_wp2_with fail
        refine HP.out.mono ?_
        rintro e w7 ⟨o7, c7, rfl, _, _, _, _, hb⟩
        have HB7 := Lib.hid (HB6.out.trans (hb.mono HB6.out.size))
        have HN7 := Lib.hid (Ne.netBox_below HN6.out hb (Ne.netBox_lt HN6.out))
        have HB8 := Lib.hid (HB7.out.alloc HB7.out.size (.cells #[.int .i64 0, .int .i64 0, .int .i64 0, .slice o7 0 c7] 25))
        have hz2 : w2.heap.size < w7.heap.size := Ne.netBox_lt HN7.out
        clear hb m0 m1 m2 m3
        obtain ⟨m0, m1, m2, m3⟩ := Ne.netBox_cells HN7.out
        have hll : (((LT.length : Int) + 1) == ((LT.length : Int) + 1)) = true := by simp
        go_wp2
        go_ret
        exact ⟨rfl, HB8.out⟩
      · obtain ⟨st, hr⟩ := Dm.cnt_less HF.out (m := m) (by omega)
        rw [hr] at HP
        have hg : ¬ (M.l.length : Int) < (m : Int) := by omega
        have HLI := Lib.hid (show ((4 + m : Nat) : Int) = 4 + (m : Int) by omega)
        rw [HLI.out] at HP
        clear hr hmm hgt
        go_wp2_with fail
        refine HP.out.mono ?_
        rintro e w7 ⟨o7, c7, rfl, _, _, _, _, hb⟩
        have HB7 := Lib.hid (HB6.out.trans (hb.mono HB6.out.size))
        have HN7 := Lib.hid (Ne.netBox_below HN6.out hb (Ne.netBox_lt HN6.out))
        have HB8 := Lib.hid (HB7.out.alloc HB7.out.size (.cells #[.int .i64 0, .int .i64 0, .int .i64 0, .slice o7 0 c7] 25))
        have hz2 : w2.heap.size < w7.heap.size := Ne.netBox_lt HN7.out
        clear hb m0 m1 m2 m3
        obtain ⟨m0, m1, m2, m3⟩ := Ne.netBox_cells HN7.out
        have hll : ((4 + (m : Int)) == (4 + (m : Int))) = true := by simp
        go_wp2
        go_ret
        exact ⟨rfl, HB8.out⟩

end Go.Proofs.YtaepoddmonijkaaDoor.dimacsCounts
