/- DimacsPlaces: for every input the law returns true and its arguments read as they did. No condition. -/
import Derived.Test.YtaepoddmonijkaaDoorVars
import Derived.Test.YtaepoddmonijkaaDoorShown4
import Derived.Test.YtaepoddmonijkaaDoorPrt
import Derived.Test.YtaepoddmonijkaaDoorOpenc
import Derived.Test.YtaepoddmonijkaaDoorPlc
import Derived.Test.YtaepoddmonijkaaDoorDsame
import Derived.Test.YtaepoddmonijkaaDoorRows
import Derived.Test.YtaepoddmonijkaaDoorTie
import Derived.Test.YtaepoddmonijkaaDoorCards
import Derived.WalkKit
import Derived.ProofKit
import Derived.OpenShut
import Derived.ShutString
import Derived.ChangeOld
import Derived.Below
import Derived.Deep.Strs
import Derived.LaidMore
import Derived.Lay
import Derived.SevenTiedAt
import Derived.Stop.Joined
namespace Go.Proofs.YtaepoddmonijkaaDoor.dimacsPlaces
open Go.ChangeShapes Go.WideShapes Go.ChangeAt Go.RowKit
open Go.ChangeMaps (open_string shut_string)
set_option linter.unusedVariables false
set_option linter.unusedSimpArgs false

theorem own : ownKnob Tryd.prog.godebug = none := by kernel_rfl
theorem laidOut : laidOutB Tryd.prog = true := by kernel_rfl



set_option maxRecDepth 100000 in
set_option maxHeartbeats 4000000 in
theorem walk (a0 : Int) (a1 : Int) (a2 : List Ne.Arc) (o2 : Option Addr) (c2 : Nat) (a3 : Int) (a4 : Int) (w : World) (w0 : (Lit.int .i64 a0).wf = true) (w1 : (Lit.int .i64 a1).wf = true) (k2 : ∀ a ∈ a2, Ne.Arc.ok a) (z2 : a2.length ≤ c2) (y2 : c2 ≤ maxLen) (n2 : o2 = none → c2 = 0) (r2 : Ne.ARow w o2 a2) (w3 : (Lit.int .i64 a3).wf = true) (w4 : (Lit.int .i64 a4).wf = true) (hv : Txt.Vars w) :
    Calls Tryd.prog 9 #[.int .i64 a0, .int .i64 a1, .slice o2 a2.length c2, .int .i64 a3, .int .i64 a4] w fun e w' => e = .returned (.bool true) ∧ Below w.heap.size w w' := by
  have HSH := Lib.hid (Dm.shown_any w hv)
  have HV := Lib.hid hv
  have b0 := bounds_i64 w0
  have b1 := bounds_i64 w1
  obtain ⟨M, hM⟩ : ∃ x, x = Ne.madeN a0 a1 a2 := ⟨_, rfl⟩
  obtain ⟨hF, hlen, hok⟩ := Dm.made_fine (nodes := a0) (nds := a1) k2
  have MD := Lib.hid fun w' (h : Ne.ARow w' o2 a2) => Ne.made_s a0 a1 a2 o2 c2 w' b0 b1 k2 h
  rw [← hM] at MD hF hlen hok
  clear hM
  obtain ⟨hps, hpe⟩ := Dm.prt_fine hF
  have PR := Lib.hid fun w' om cm (h : Ne.ARow w' om M.l) (h2 : Txt.Vars w') => Dm.print_any M om cm w' h (by omega) hok h2
  rw [hps, hpe] at PR
  have HF := Lib.hid hF
  have HOK := Lib.hid hok
  have HPL := Lib.hid (show (Dm.printT M).length ≤ 1734 by have := Dm.printT_len hok (by omega); omega)
  have HLT := Lib.hid (Dm.linesT_len M)
  have LN := Lib.hid fun w' (h : Txt.Vars w') => Txt.lines_any ⟨(Dm.printT M).toArray⟩ w' (by show (Dm.printT M).toArray.size ≤ _; rw [List.size_toArray]; have := HPL.out; omega) h
  rw [show (⟨(Dm.printT M).toArray⟩ : ByteArray).data.toList = Dm.printT M from by simp, Dm.lin_print] at LN
  have RA := Lib.hid r2
  clear hv hps hpe hF hok r2
  have b3 := bounds_i64 w3
  have b4 := bounds_i64 w4
  obtain ⟨pq, hpi⟩ : ∃ x, x = Ne.pickN a3 3 := ⟨_, rfl⟩
  have bpi := Ne.pickN_bd (c := a3) (n := 3) (by omega)
  rw [← hpi] at bpi
  have P1 := Lib.hid fun w' => Ne.pick_any a3 3 w' b3.1 b3.2 (by omega) (by omega)
  rw [← hpi] at P1
  clear hpi
  obtain ⟨ii, hii⟩ : ∃ k : Nat, pq = (k : Int) := ⟨pq.toNat, by omega⟩
  subst hii
  have hi3 : ii < 3 := by omega
  obtain ⟨pa, hpa⟩ : ∃ x, x = Ne.pickN a4 (((Dm.linesT M).length : Int) - ii) := ⟨_, rfl⟩
  have bpa := Ne.pickN_bd (c := a4) (n := ((Dm.linesT M).length : Int) - ii) (by rw [HLT.out]; omega)
  rw [← hpa] at bpa
  have P2 := Lib.hid fun w' => Ne.pick_any a4 (((Dm.linesT M).length : Int) - ii) w' b4.1 b4.2 (by rw [HLT.out]; omega) (by rw [HLT.out]; omega)
  rw [← hpa] at P2
  obtain ⟨aa, haa⟩ : ∃ k : Nat, (ii : Int) + pa = (k : Int) := ⟨((ii : Int) + pa).toNat, by omega⟩
  have ha0 : ii ≤ aa := by omega
  have ha1 : aa < (Dm.linesT M).length := by omega
  clear hpa
  go_enter Tryd.func9, Tryd.ntmps9
  go_wp2_with fail
  refine HSH.out.mono ?_
  rintro e w1 ⟨rfl, hb⟩
  have HB1 := Lib.hid hb
  clear hb
  go_wp2_with fail
  refine (MD.out _ (RA.out.kept HB1.out)).mono ?_
  rintro e w2 ⟨om, cm, rfl, hown, hb⟩
  have HB2 := Lib.hid (HB1.out.trans (hb.mono HB1.out.size))
  obtain ⟨om', cm', hv', hcm, hcx, hnm, hrm, _⟩ := Rw.own_row Ne.encA_len hown
  cases hv'
  have HRM := Lib.hid hrm
  have HBA := Lib.hid (show Below w2.heap.size w2 (w2.alloc (.cells #[.int .i64 M.n, .int .i64 M.s, .int .i64 M.t, .slice om M.l.length cm] 25)) from (Below.refl _ _).alloc (Nat.le_refl _) _)
  have HNB := Lib.hid (Ne.netBox_new w2 M.n M.s M.t (.slice om M.l.length cm))
  obtain ⟨m0, m1, m2, m3⟩ := Ne.netBox_cells HNB.out
  have HB2A := Lib.hid (HB2.out.trans (HBA.out.mono HB2.out.size))
  clear hown hb hrm hcm hcx hnm
  go_wp2_with fail
  refine (PR.out _ om cm (HRM.out.kept HBA.out) (HV.out.below HB2A.out)).mono ?_
  rintro e w3 ⟨rfl, hb⟩
  have HB3 := Lib.hid (HB2A.out.trans (hb.mono HB2A.out.size))
  have HN3 := Lib.hid (Ne.netBox_below HNB.out hb (Ne.netBox_lt HNB.out))
  have HR3 := Lib.hid ((HRM.out.kept HBA.out).kept hb)
  clear hb m0 m1 m2 m3
  obtain ⟨m0, m1, m2, m3⟩ := Ne.netBox_cells HN3.out
  go_wp2_with fail
  refine (LN.out _ (HV.out.below HB3.out)).mono ?_
  rintro e w4 ⟨ok, ck, rfl, hck, hnk, hrk, hb⟩
  have HB4 := Lib.hid (HB3.out.trans (hb.mono HB3.out.size))
  have HN4 := Lib.hid (Ne.netBox_below HN3.out hb (Ne.netBox_lt HN3.out))
  have HR4 := Lib.hid (HR3.out.kept hb)
  have HRK := Lib.hid hrk
  have HCK := Lib.hid (And.intro hck hnk)
  clear hb m0 m1 m2 m3 hrk hck hnk
  obtain ⟨m0, m1, m2, m3⟩ := Ne.netBox_cells HN4.out
  obtain ⟨LT, hLT⟩ : ∃ X, X = Dm.linesT M := ⟨_, rfl⟩
  rw [← hLT] at HRK HLT HCK P2 ha1 bpa ⊢
  have HLD := Lib.hid hLT
  have HE := Lib.hid (show ∀ y ∈ LT, y.length ≤ 67 by rw [hLT]; exact Dm.linesT_elem HOK.out (by omega))
  have hLL : LT.length = 3 + M.l.length := HLT.out
  have hLb : LT.length ≤ 27 := by omega
  have hLc : 3 ≤ LT.length := by omega
  have HLL := Lib.hid hLL
  clear hLL hLT
  obtain ⟨x, hx⟩ : ∃ x, LT[ii]? = some x := ⟨_, List.getElem?_eq_getElem (by omega)⟩
  obtain ⟨x1, hx1⟩ : ∃ x, LT[1]? = some x := ⟨_, List.getElem?_eq_getElem (by omega)⟩
  have hxl := HE.out x (List.mem_of_getElem? hx)
  have hx1l := HE.out x1 (List.mem_of_getElem? hx1)
  have HXX := Lib.hid hx
  have HX1 := Lib.hid hx1
  have hw1 : IntKind.i64.wrap ((LT.length : Int) - (ii : Int)) = (LT.length : Int) - (ii : Int) := by rw [IntKind.wrap_i64]; omega
  have hw2 : IntKind.i64.wrap ((ii : Int) + pa) = (aa : Int) := by rw [IntKind.wrap_i64]; omega
  have HAA := Lib.hid haa
  clear hx hx1 haa
  go_wp2_with fail
  refine (P1.out _).mono ?_
  rintro e w' ⟨rfl, rfl⟩
  go_wp2_with fail
  refine (P2.out _).mono ?_
  rintro e w' ⟨rfl, rfl⟩
  go_wp2
  go_loop [18, 19] (fun t i => ∃ (j : Nat) (s : ByteArray), j ≤ LT.length ∧ i = .int .i64 j ∧ t = .string s ∧ s.data.toList = Txt.ends (Dm.dupT LT x aa j) ∧ s.size ≤ 136 + 136 * j) (fun _ i => LT.length - (intOf i).toNat)
  case atStart => exact ⟨0, _, Nat.zero_le _, rfl, rfl, by rw [Dm.dupT_zero]; simp [Txt.ends], by rw [Lib.size_eq]; simp⟩
  case round =>
    obtain ⟨j, s, hj, rfl, rfl, hs, hsz⟩ := hrel
    have HSs := Lib.hid hs
    clear hs
    by_cases hlt : j < LT.length
    · obtain ⟨y, hy⟩ : ∃ y, LT[j]? = some y := ⟨_, List.getElem?_eq_getElem hlt⟩
      have hyl := HE.out y (List.mem_of_getElem? hy)
      rcases HRK.out with h | ⟨g, off, rfl, hg, hc⟩
      · rw [h] at hlt; simp at hlt
      have c0 : w4.cell? ⟨g, off + j, none⟩ = some (.string ⟨y.toArray⟩) := hc j _ hy
      have cx : w4.cell? ⟨g, off + ii, none⟩ = some (.string ⟨x.toArray⟩) := hc ii _ HXX.out
      have hji : (j : Int) < (LT.length : Int) := by omega
      have hii : (ii : Int) < (LT.length : Int) := by omega
      by_cases hja : j = aa
      · have HD := Lib.hid (Dm.dupT_at (x := x) hy)
        subst hja
        have hq : ((j : Int) == (j : Int)) = true := by simp
        clear hc hy
        go_wp2
        go_round
        case rel => exact ⟨j + 1, _, by omega, by go_num, rfl, by rw [HD.out, Dm.ends_append, Dm.ends_append, Dm.ends_one, Dm.ends_one, ← HSs.out]; simp, by rw [Lib.size_eq] at hsz ⊢; simp at hsz ⊢; omega⟩
        case measure => simp [intOf]; omega
      · have HD := Lib.hid (Dm.dupT_on (x := x) hy hja)
        have hq : ((j : Int) == (aa : Int)) = false := by simp; omega
        clear hc hy hja
        go_wp2
        go_round
        case rel => exact ⟨j + 1, _, by omega, by go_num, rfl, by rw [HD.out, Dm.ends_append, Dm.ends_one, ← HSs.out]; simp, by rw [Lib.size_eq] at hsz ⊢; simp at hsz ⊢; omega⟩
        case measure => simp [intOf]; omega
    · have ej : j = LT.length := by omega
      subst ej
      have HTX := Lib.hid (show s.data.toList = Txt.ends ((Dm.linesT M).take (aa + 1) ++ x :: (Dm.linesT M).drop (aa + 1)) by rw [HSs.out, Dm.dupT_end ha1, HLD.out])
      obtain ⟨q1, q2, q3⟩ := Dm.plc_parse HF.out hi3 ha0 (by rw [← HLD.out]; exact ha1) (by rw [← HLD.out]; exact HXX.out) HTX.out
      have hs2 : s.size ≤ 1000000 := by omega
      have HP := Lib.hid (Dm.parse_any s w4 hs2 (HV.out.below HB4.out))
      unfold Dm.Parsed at HP
      rw [q1, q2, q3, show ((aa + 2 : Nat) : Int) = (aa : Int) + 2 by omega] at HP
      have hpl := HPL.out
      have zp : (⟨(Dm.printT M).toArray⟩ : ByteArray).size ≤ 1734 := by show (Dm.printT M).toArray.size ≤ _; rw [List.size_toArray]; exact hpl
      have hu : (⟨#[97, 32, 49, 32, 50, 32, 51, 10]⟩ ++ ⟨(Dm.printT M).toArray⟩ : ByteArray).size ≤ 1000000 := by
        rw [Lib.size_eq]; simp; omega
      have hv' : ((⟨x1.toArray⟩ ++ ⟨#[10]⟩) ++ ⟨(Dm.printT M).toArray⟩ : ByteArray).size ≤ 1000000 := by
        rw [Lib.size_eq]; simp; omega
      have HU := Lib.hid fun w' (h : Txt.Vars w') => Dm.parse_any (⟨#[97, 32, 49, 32, 50, 32, 51, 10]⟩ ++ ⟨(Dm.printT M).toArray⟩) w' hu h
      have HW := Lib.hid fun w' (h : Txt.Vars w') => Dm.parse_any ((⟨x1.toArray⟩ ++ ⟨#[10]⟩) ++ ⟨(Dm.printT M).toArray⟩) w' hv' h
      obtain ⟨u1, u2, u3⟩ := Dm.arc_first (M := M) (s := (⟨#[97, 32, 49, 32, 50, 32, 51, 10]⟩ ++ ⟨(Dm.printT M).toArray⟩ : ByteArray).data.toList) (by simp)
      obtain ⟨v1, v2, v3⟩ := Dm.src_first HF.out (x := x1) (s := ((⟨x1.toArray⟩ ++ ⟨#[10]⟩) ++ ⟨(Dm.printT M).toArray⟩ : ByteArray).data.toList) (by rw [← HLD.out]; exact HX1.out) (by simp)
      unfold Dm.Parsed at HU HW
      simp only [u1, u2, u3] at HU
      simp only [v1, v2, v3] at HW
      clear q1 q2 q3 u1 u2 u3 v1 v2 v3 hu hv'
      have h1L : (1 : Int) < (LT.length : Int) := by omega
      go_wp2_with fail
      refine HP.out.mono ?_
      rintro e w7 ⟨o7, c7, rfl, _, _, _, _, hb⟩
      have HB7 := Lib.hid (HB4.out.trans (hb.mono HB4.out.size))
      have HK7 := Lib.hid (HRK.out.below hb)
      have HBQ := Lib.hid (show Below w7.heap.size w7 (w7.alloc (.cells #[.int .i64 0, .int .i64 0, .int .i64 0, .slice o7 0 c7] 25)) from (Below.refl _ _).alloc (Nat.le_refl _) _)
      have HNA := Lib.hid (Ne.netBox_new w7 0 0 0 (.slice o7 0 c7))
      have HB8 := Lib.hid (HB7.out.trans (HBQ.out.mono HB7.out.size))
      have HK8 := Lib.hid (HK7.out.below HBQ.out)
      clear hb m0 m1 m2 m3
      go_wp2_with fail
      refine (HU.out _ (HV.out.below HB8.out)).mono ?_
      rintro e w9 ⟨o9, c9, rfl, _, _, _, _, hb⟩
      have HB9 := Lib.hid (HB8.out.trans (hb.mono HB8.out.size))
      have HNB9 := Lib.hid (Ne.netBox_below HNA.out hb (Ne.netBox_lt HNA.out))
      have HBR := Lib.hid (show Below w9.heap.size w9 (w9.alloc (.cells #[.int .i64 0, .int .i64 0, .int .i64 0, .slice o9 0 c9] 25)) from (Below.refl _ _).alloc (Nat.le_refl _) _)
      have HBA2 := Lib.hid (HB9.out.trans (HBR.out.mono HB9.out.size))
      have HNBA := Lib.hid (Ne.netBox_below HNB9.out HBR.out (Ne.netBox_lt HNB9.out))
      rcases HK8.out.below hb with h | ⟨g, off, hgo, hg, hc⟩
      · rw [h] at h1L; simp at h1L
      subst hgo
      have c1 : w9.cell? ⟨g, off + 1, none⟩ = some (.string ⟨x1.toArray⟩) := hc 1 _ HX1.out
      clear hb hc
      go_wp2_with fail
      refine (HW.out _ (HV.out.below HBA2.out)).mono ?_
      rintro e wb ⟨ob, cb, rfl, _, _, _, _, hb⟩
      have HBB := Lib.hid (HBA2.out.trans (hb.mono HBA2.out.size))
      have HNBB := Lib.hid (Ne.netBox_below HNBA.out hb (Ne.netBox_lt HNBA.out))
      have HBC := Lib.hid (show Below wb.heap.size wb (wb.alloc (.cells #[.int .i64 0, .int .i64 0, .int .i64 0, .slice ob 0 cb] 25)) from (Below.refl _ _).alloc (Nat.le_refl _) _)
      have HBD := Lib.hid (HBB.out.trans (HBC.out.mono HBB.out.size))
      obtain ⟨p0, p1, p2, p3⟩ := Ne.netBox_cells HNBB.out
      have hzb : w7.heap.size < wb.heap.size := Ne.netBox_lt HNBB.out
      have hll : (((aa : Int) + 2) == ((aa : Int) + 2)) = true := by simp
      clear hb c1
      go_wp2
      go_ret
      exact ⟨rfl, HBD.out⟩

end Go.Proofs.YtaepoddmonijkaaDoor.dimacsPlaces
