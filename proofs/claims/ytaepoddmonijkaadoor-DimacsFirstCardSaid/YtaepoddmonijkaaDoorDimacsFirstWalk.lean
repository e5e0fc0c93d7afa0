/- DimacsFirst: for every input the law returns true and its arguments read as they did. No condition. -/
import Derived.Test.YtaepoddmonijkaaDoorLin
import Derived.Test.YtaepoddmonijkaaDoorVars
import Derived.Test.YtaepoddmonijkaaDoorShown4
import Derived.Test.YtaepoddmonijkaaDoorPrt
import Derived.Test.YtaepoddmonijkaaDoorOpenc
import Derived.Test.YtaepoddmonijkaaDoorFst
import Derived.Test.YtaepoddmonijkaaDoorDsame
import Derived.Test.YtaepoddmonijkaaDoorRows
import Derived.Test.YtaepoddmonijkaaDoorTie
import Derived.Test.YtaepoddmonijkaaDoorCards
import Derived.WalkKit
import Derived.ProofKit
import Derived.OpenShut
import Derived.ShutString
import Derived.ChangeOld
import Derived.Below
import Derived.Deep.Strs
import Derived.LaidMore
import Derived.Lay
import Derived.SevenTiedAt
import Derived.Stop.Joined
namespace Go.Proofs.YtaepoddmonijkaaDoor.dimacsFirst
open Go.ChangeShapes Go.WideShapes Go.ChangeAt Go.RowKit
open Go.ChangeMaps (open_string shut_string)
set_option linter.unusedVariables false
set_option linter.unusedSimpArgs false

theorem own : ownKnob Tryd.prog.godebug = none := by kernel_rfl
theorem laidOut : laidOutB Tryd.prog = true := by kernel_rfl



set_option maxRecDepth 100000 in
set_option maxHeartbeats 4000000 in
theorem walk (a0 : Int) (a1 : Int) (a2 : List Ne.Arc) (o2 : Option Addr) (c2 : Nat) (a3 : Int) (a4 : ByteArray) (w : World) (w0 : (Lit.int .i64 a0).wf = true) (w1 : (Lit.int .i64 a1).wf = true) (k2 : ∀ a ∈ a2, Ne.Arc.ok a) (z2 : a2.length ≤ c2) (y2 : c2 ≤ maxLen) (n2 : o2 = none → c2 = 0) (r2 : Ne.ARow w o2 a2) (w3 : (Lit.int .i64 a3).wf = true) (w4 : a4.size ≤ maxLen) (hv : Txt.Vars w) :
    Calls Tryd.prog 6 #[.int .i64 a0, .int .i64 a1, .slice o2 a2.length c2, .int .i64 a3, .string a4] w fun e w' => e = .returned (.bool true) ∧ Below w.heap.size w w' := by
  have HSH := Lib.hid (Dm.shown_any w hv)
  have HV := Lib.hid hv
  have b0 := bounds_i64 w0
  have b1 := bounds_i64 w1
  obtain ⟨M, hM⟩ : ∃ x, x = Ne.madeN a0 a1 a2 := ⟨_, rfl⟩
  obtain ⟨hF, hlen, hok⟩ := Dm.made_fine (nodes := a0) (nds := a1) k2
  have MD := Lib.hid fun w' (h : Ne.ARow w' o2 a2) => Ne.made_s a0 a1 a2 o2 c2 w' b0 b1 k2 h
  rw [← hM] at MD hF hlen hok
  clear hM
  obtain ⟨hps, hpe⟩ := Dm.prt_fine hF
  have PR := Lib.hid fun w' om cm (h : Ne.ARow w' om M.l) (h2 : Txt.Vars w') => Dm.print_any M om cm w' h (by omega) hok h2
  rw [hps, hpe] at PR
  have HF := Lib.hid hF
  have HOK := Lib.hid hok
  have HPL := Lib.hid (show (Dm.printT M).length ≤ 1734 by have := Dm.printT_len hok (by omega); omega)
  have HLT := Lib.hid (Dm.linesT_len M)
  have LN := Lib.hid fun w' (h : Txt.Vars w') => Txt.lines_any ⟨(Dm.printT M).toArray⟩ w' (by show (Dm.printT M).toArray.size ≤ _; rw [List.size_toArray]; have := HPL.out; omega) h
  rw [show (⟨(Dm.printT M).toArray⟩ : ByteArray).data.toList = Dm.printT M from by simp, Dm.lin_print] at LN
  have RA := Lib.hid r2
  clear hv hps hpe hF hok r2
  have b3 := bounds_i64 w3
  obtain ⟨pq, hpi⟩ : ∃ x, x = Ne.pickN a3 ((Dm.linesT M).length : Int) := ⟨_, rfl⟩
  have bpi := Ne.pickN_bd (c := a3) (n := ((Dm.linesT M).length : Int)) (by rw [HLT.out]; omega)
  rw [← hpi] at bpi
  have P1 := Lib.hid fun w' => Ne.pick_any a3 ((Dm.linesT M).length : Int) w' b3.1 b3.2 (by rw [HLT.out]; omega) (by rw [HLT.out]; omega)
  rw [← hpi] at P1
  clear hpi
  obtain ⟨ii, hii⟩ : ∃ k : Nat, pq = (k : Int) := ⟨pq.toNat, by omega⟩
  subst hii
  have hi3 : ii < (Dm.linesT M).length := by omega
  have HSZ := Lib.hid (Lib.size_eq a4)
  by_cases h200 : a4.size ≤ 200
  case neg =>
    have h2 : (200 : Int) < (a4.size : Int) := by omega
    clear h200
    go_enter Tryd.func6, Tryd.ntmps6
    go_wp2_with fail
    refine HSH.out.mono ?_
    rintro e w1 ⟨rfl, hb⟩
    have HB1 := Lib.hid hb
    clear hb
    go_wp2
    go_ret
    exact ⟨rfl, HB1.out⟩
  have h2 : ¬ (200 : Int) < (a4.size : Int) := by omega
  go_enter Tryd.func6, Tryd.ntmps6
  go_wp2_with fail
  refine HSH.out.mono ?_
  rintro e w1 ⟨rfl, hb⟩
  have HB1 := Lib.hid hb
  clear hb
  go_wp2
  go_loop [12] (fun i => ∃ k : Nat, k ≤ a4.size ∧ i = .int .i64 k ∧ ∀ c ∈ a4.data.toList.take k, c ≠ 10) (fun i => a4.size - (intOf i).toNat)
  case atStart => exact ⟨0, Nat.zero_le _, rfl, by simp⟩
  case round =>
    obtain ⟨k, hk, rfl, hno⟩ := hrel
    by_cases hlt : k < a4.size
    · have hget := Lib.data_getElem? a4 k hlt
      have HNO := Lib.hid hno
      by_cases h10 : a4[k] = 10
      · have hq : ((a4[k].toNat : Int) == 10) = true := by rw [h10]; rfl
        clear hget hno h10
        go_wp2
        go_ret
        exact ⟨rfl, HB1.out⟩
      · have hq : ((a4[k].toNat : Int) == 10) = false := Txt.byte_ne (n := 10) (by decide) h10
        have HN2 := Lib.hid (show ∀ c ∈ a4.data.toList.take (k + 1), c ≠ 10 by
          intro c hc
          rw [List.take_add_one, hget] at hc
          rcases List.mem_append.1 hc with h | h
          · exact HNO.out c h
          · simp at h; subst h; exact h10)
        clear hget hno h10
        go_wp2
        go_round
        case rel => exact ⟨k + 1, by omega, by go_num, HN2.out⟩
        case measure => simp [intOf]; omega
    have ek : k = a4.size := by omega
    subst ek
    have HX10 := Lib.hid (show ∀ c ∈ a4.data.toList, c ≠ 10 by
      have := hno
      rw [List.take_of_length_le (by rw [← HSZ.out]; exact Nat.le_refl _)] at this; exact this)
    clear hno
    go_wp2_with fail
    refine (MD.out _ (RA.out.kept HB1.out)).mono ?_
    rintro e w2 ⟨om, cm, rfl, hown, hb⟩
    have HB2 := Lib.hid (HB1.out.trans (hb.mono HB1.out.size))
    obtain ⟨om', cm', hv', hcm, hcx, hnm, hrm, _⟩ := Rw.own_row Ne.encA_len hown
    cases hv'
    have HRM := Lib.hid hrm
    have HBA := Lib.hid (show Below w2.heap.size w2 (w2.alloc (.cells #[.int .i64 M.n, .int .i64 M.s, .int .i64 M.t, .slice om M.l.length cm] 25)) from (Below.refl _ _).alloc (Nat.le_refl _) _)
    have HNB := Lib.hid (Ne.netBox_new w2 M.n M.s M.t (.slice om M.l.length cm))
    obtain ⟨m0, m1, m2, m3⟩ := Ne.netBox_cells HNB.out
    have HB2A := Lib.hid (HB2.out.trans (HBA.out.mono HB2.out.size))
    clear hown hb hrm hcm hcx hnm
    go_wp2_with fail
    refine (PR.out _ om cm (HRM.out.kept HBA.out) (HV.out.below HB2A.out)).mono ?_
    rintro e w3 ⟨rfl, hb⟩
    have HB3 := Lib.hid (HB2A.out.trans (hb.mono HB2A.out.size))
    have HN3 := Lib.hid (Ne.netBox_below HNB.out hb (Ne.netBox_lt HNB.out))
    have HR3 := Lib.hid ((HRM.out.kept HBA.out).kept hb)
    clear hb m0 m1 m2 m3
    obtain ⟨m0, m1, m2, m3⟩ := Ne.netBox_cells HN3.out
    go_wp2_with fail
    refine (LN.out _ (HV.out.below HB3.out)).mono ?_
    rintro e w4 ⟨ok, ck, rfl, hck, hnk, hrk, hb⟩
    have HB4 := Lib.hid (HB3.out.trans (hb.mono HB3.out.size))
    have HN4 := Lib.hid (Ne.netBox_below HN3.out hb (Ne.netBox_lt HN3.out))
    have HR4 := Lib.hid (HR3.out.kept hb)
    have HRK := Lib.hid hrk
    have HCK := Lib.hid (And.intro hck hnk)
    clear hb m0 m1 m2 m3 hrk hck hnk
    obtain ⟨m0, m1, m2, m3⟩ := Ne.netBox_cells HN4.out
    obtain ⟨LT, hLT⟩ : ∃ X, X = Dm.linesT M := ⟨_, rfl⟩
    rw [← hLT] at HRK HLT HCK P1 hi3 bpi ⊢
    have HLD := Lib.hid hLT
    have HE := Lib.hid (show ∀ y ∈ LT, y.length ≤ 67 by rw [hLT]; exact Dm.linesT_elem HOK.out (by omega))
    have hLL : LT.length = 3 + M.l.length := HLT.out
    have hLb : LT.length ≤ 27 := by omega
    have hLc : 3 ≤ LT.length := by omega
    have HLL := Lib.hid hLL
    clear hLL hLT
    go_wp2_with fail
    refine (P1.out _).mono ?_
    rintro e w' ⟨rfl, rfl⟩
    go_wp2
    go_loop [18, 19] (fun t i => ∃ (j : Nat) (s : ByteArray), j ≤ LT.length ∧ i = .int .i64 j ∧ t = .string s ∧ s.data.toList = Txt.ends ((LT.set ii a4.data.toList).take j) ∧ s.size ≤ 201 * j) (fun _ i => LT.length - (intOf i).toNat)
    case atStart => exact ⟨0, _, Nat.zero_le _, rfl, rfl, by simp [Txt.ends], by rw [Lib.size_eq]; simp⟩
    case round =>
      obtain ⟨j, s, hj, rfl, rfl, hs, hsz⟩ := hrel
      have HSs := Lib.hid hs
      clear hs
      by_cases hlt : j < LT.length
      · obtain ⟨y, hy⟩ : ∃ y, LT[j]? = some y := ⟨_, List.getElem?_eq_getElem hlt⟩
        have hyl := HE.out y (List.mem_of_getElem? hy)
        rcases HRK.out with h | ⟨g, off, rfl, hg, hc⟩
        · rw [h] at hlt; simp at hlt
        have c0 : w4.cell? ⟨g, off + j, none⟩ = some (.string ⟨y.toArray⟩) := hc j _ hy
        have hji : (j : Int) < (LT.length : Int) := by omega
        by_cases hja : j = ii
        · have HD := Lib.hid (Dm.set_at (x := a4.data.toList) hlt)
          subst hja
          have hq : ((j : Int) == (j : Int)) = true := by simp
          clear hc hy
          go_wp2
          go_round
          case rel => exact ⟨j + 1, _, by omega, by go_num, rfl, by rw [HD.out, Dm.ends_append, Dm.ends_one, ← HSs.out]; simp, by rw [Lib.size_eq] at hsz h200 ⊢; simp at hsz h200 ⊢; omega⟩
          case measure => simp [intOf]; omega
        · have HD := Lib.hid (Dm.set_on (x := a4.data.toList) hy hja)
          have hq : ((j : Int) == (ii : Int)) = false := by simp; omega
          clear hc hy hja
          go_wp2
          go_round
          case rel => exact ⟨j + 1, _, by omega, by go_num, rfl, by rw [HD.out, Dm.ends_append, Dm.ends_one, ← HSs.out]; simp, by rw [Lib.size_eq] at hsz ⊢; simp at hsz ⊢; omega⟩
          case measure => simp [intOf]; omega
      have ej : j = LT.length := by omega
      subst ej
      have HTX := Lib.hid (show s.data.toList = Txt.ends ((Dm.linesT M).set ii a4.data.toList) by
        rw [HSs.out, ← HLD.out, List.take_of_length_le (by simp)])
      have hfst := Dm.fst_parse HF.out (by rw [← HLD.out]; exact hi3) HX10.out HTX.out
      have hs2 : s.size ≤ 1000000 := by omega
      have HP := Lib.hid (Dm.parse_any s w4 hs2 (HV.out.below HB4.out))
      unfold Dm.Parsed at HP
      generalize Dm.parseN s.data.toList = N1 at HP
      generalize Dm.parseE s.data.toList = E1 at HP hfst
      generalize Dm.parseI s.data.toList = I1 at HP hfst
      obtain ⟨n1, s1, t1, l1⟩ := N1
      go_wp2_with fail
      refine HP.out.mono ?_
      rintro e w7 ⟨o7, c7, rfl, _, _, _, _, hb⟩
      have HB7 := Lib.hid (HB4.out.trans (hb.mono HB4.out.size))
      have HK7 := Lib.hid (HRK.out.below hb)
      have HN7 := Lib.hid (Ne.netBox_below HN4.out hb (Ne.netBox_lt HN4.out))
      have HBQ := Lib.hid (show Below w7.heap.size w7 (w7.alloc (.cells #[.int .i64 n1, .int .i64 s1, .int .i64 t1, .slice o7 l1.length c7] 25)) from (Below.refl _ _).alloc (Nat.le_refl _) _)
      have HB8 := Lib.hid (HB7.out.trans (HBQ.out.mono HB7.out.size))
      have HK8 := Lib.hid (HK7.out.below HBQ.out)
      have hz2 : w2.heap.size < w7.heap.size := Ne.netBox_lt HN7.out
      clear hb m0 m1 m2 m3
      obtain ⟨m0, m1, m2, m3⟩ := Ne.netBox_cells HN7.out
      rcases hfst with ⟨rfl, rfl⟩ | ⟨hE1, hI1⟩
      · have hi0 : ((0 : Nat) : Int) = 0 := rfl
        by_cases hl0 : M.l = []
        · have m3' : w7.cell? ⟨w2.heap.size, 3, none⟩ = some (.slice om 0 cm) := by rw [m3, hl0]; rfl
          clear m3 hl0
          go_wp2
          go_ret
          exact ⟨rfl, HB8.out⟩
        have hlp : 0 < M.l.length := by
          rcases hx : M.l with _ | ⟨a, r⟩
          · exact absurd hx hl0
          · simp
        have t0 : ((M.l.length : Int) == 0) = false := by simp; omega
        have t1 : (M.l.length == 0) = false := by simp; omega
        have HLP := Lib.hid hlp
        go_wp2
        go_loop [23, 24] (fun t i => ∃ (j : Nat) (s : ByteArray), j + 1 ≤ LT.length ∧ i = .int .i64 j ∧ t = .string s ∧ s.data.toList = Txt.ends (LT.take j) ∧ s.size ≤ 68 * j) (fun _ i => LT.length - (intOf i).toNat)
        case atStart => exact ⟨0, _, by omega, rfl, rfl, by simp [Txt.ends], by rw [Lib.size_eq]; simp⟩
        case round =>
          obtain ⟨j, z, hj, rfl, rfl, hs, hsz2⟩ := hrel
          have HSz := Lib.hid hs
          clear hs
          rcases HK7.out with h | ⟨g, off, rfl, hg, hc⟩
          · rw [h] at hLc; simp at hLc
          by_cases hlt : j + 1 < LT.length
          · obtain ⟨y, hy⟩ : ∃ y, LT[j]? = some y := ⟨_, List.getElem?_eq_getElem (by omega)⟩
            have hyl := HE.out y (List.mem_of_getElem? hy)
            have c0 : w7.cell? ⟨g, off + j, none⟩ = some (.string ⟨y.toArray⟩) := hc j _ hy
            have hji : (j : Int) + 1 < (LT.length : Int) := by omega
            have hjj : (j : Int) < (LT.length : Int) := by omega
            have HD := Lib.hid (Dm.take_on hy)
            clear hc hy
            go_wp2
            go_round
            case rel => exact ⟨j + 1, _, by omega, by go_num, rfl, by rw [HD.out, Dm.ends_append, Dm.ends_one, ← HSz.out]; simp, by rw [Lib.size_eq] at hsz2 ⊢; simp at hsz2 ⊢; omega⟩
            case measure => simp [intOf]; omega
          have ej : j = LT.length - 1 := by omega
          have hji : ¬ (j : Int) + 1 < (LT.length : Int) := by omega
          obtain ⟨x, hx⟩ : ∃ x, LT[LT.length - 1]? = some x := ⟨_, List.getElem?_eq_getElem (by omega)⟩
          have hxl := HE.out x (List.mem_of_getElem? hx)
          have c0 : w7.cell? ⟨g, off + j, none⟩ = some (.string ⟨x.toArray⟩) := hc j _ (by rw [ej]; exact hx)
          have HXX := Lib.hid hx
          obtain ⟨q1, q2⟩ := Dm.short_parse HF.out HLP.out (s := z.data.toList) (by rw [HSz.out, HLD.out, ej, HLD.out])
          have hz3 : z.size ≤ 1000000 := by omega
          have HP2 := Lib.hid (Dm.parse_any z _ hz3 (HV.out.below HB8.out))
          unfold Dm.Parsed at HP2
          rw [q1, q2, ← HLD.out] at HP2
          have hpl := HPL.out
          have zp : (⟨(Dm.printT M).toArray⟩ : ByteArray).size ≤ 1734 := by show (Dm.printT M).toArray.size ≤ _; rw [List.size_toArray]; exact hpl
          have hv' : (⟨(Dm.printT M).toArray⟩ ++ ⟨x.toArray⟩ : ByteArray).size ≤ 1000000 := by rw [Lib.size_eq]; simp; omega
          have HW := Lib.hid fun w' (h : Txt.Vars w') => Dm.parse_any (⟨(Dm.printT M).toArray⟩ ++ ⟨x.toArray⟩) w' hv' h
          obtain ⟨v1, v2⟩ := Dm.more_parse HF.out HLP.out (x := x) (s := (⟨(Dm.printT M).toArray⟩ ++ ⟨x.toArray⟩ : ByteArray).data.toList) (by rw [← HLD.out]; exact hx) (by simp)
          unfold Dm.Parsed at HW
          simp only [v1, v2, ← HLD.out] at HW
          have HLI := Lib.hid (show ((LT.length + 1 : Nat) : Int) = (LT.length : Int) + 1 by omega)
          simp only [HLI.out] at HW
          generalize Dm.parseN z.data.toList = N2 at HP2
          generalize Dm.parseN (⟨(Dm.printT M).toArray⟩ ++ ⟨x.toArray⟩ : ByteArray).data.toList = N3 at HW
          obtain ⟨n2, s2, t2, l2⟩ := N2
          obtain ⟨n3, s3, t3, l3⟩ := N3
          have hw1 : IntKind.i64.wrap ((LT.length : Int) - 1) = (j : Int) := by rw [IntKind.wrap_i64]; omega
          have hjL : (j : Int) < (LT.length : Int) := by omega
          have hc7 := Lib.hid hc
          clear q1 q2 v1 v2 hv' hc hx ej
          go_wp2_with fail
          refine HP2.out.mono ?_
          rintro e w9 ⟨o9, c9, rfl, _, _, _, _, hb⟩
          have HB9 := Lib.hid (HB8.out.trans (hb.mono HB8.out.size))
          have c1 : w9.cell? ⟨g, off + j, none⟩ = some (.string ⟨x.toArray⟩) := (hb.cell (Nat.lt_of_lt_of_le hg HBQ.out.size)).trans ((HBQ.out.cell hg).trans c0)
          clear hb c0
          go_wp2_with fail
          refine (HW.out _ (HV.out.below HB9.out)).mono ?_
          rintro e wb ⟨ob, cb, rfl, _, _, _, _, hb⟩
          have HBB := Lib.hid (HB9.out.trans (hb.mono HB9.out.size))
          have HBC := Lib.hid (HBB.out.alloc HBB.out.size (.cells #[.int .i64 n3, .int .i64 s3, .int .i64 t3, .slice ob l3.length cb] 25))
          have hll : ((LT.length : Int) == (LT.length : Int)) = true := by simp
          have hll2 : (((LT.length : Int) + 1) == ((LT.length : Int) + 1)) = true := by simp
          clear hb c1
          go_wp2
          go_ret
          exact ⟨rfl, HBC.out⟩
      · have e1 : (E1 != 0) = true := by simpa using hE1
        have e2 : (E1 == 0) = false := by simpa using hE1
        have e3 : ¬ (I1 : Int) ≤ (ii : Int) := by omega
        clear hE1
        by_cases hl0 : M.l = []
        · have m3' : w7.cell? ⟨w2.heap.size, 3, none⟩ = some (.slice om 0 cm) := by rw [m3, hl0]; rfl
          clear m3 hl0
          go_wp2
          go_ret
          exact ⟨rfl, HB8.out⟩
        have hlp : 0 < M.l.length := by
          rcases hx : M.l with _ | ⟨a, r⟩
          · exact absurd hx hl0
          · simp
        have t0 : ((M.l.length : Int) == 0) = false := by simp; omega
        have t1 : (M.l.length == 0) = false := by simp; omega
        have HLP := Lib.hid hlp
        go_wp2
        go_loop [23, 24] (fun t i => ∃ (j : Nat) (s : ByteArray), j + 1 ≤ LT.length ∧ i = .int .i64 j ∧ t = .string s ∧ s.data.toList = Txt.ends (LT.take j) ∧ s.size ≤ 68 * j) (fun _ i => LT.length - (intOf i).toNat)
        case atStart => exact ⟨0, _, by omega, rfl, rfl, by simp [Txt.ends], by rw [Lib.size_eq]; simp⟩
        case round =>
          obtain ⟨j, z, hj, rfl, rfl, hs, hsz2⟩ := hrel
          have HSz := Lib.hid hs
          clear hs
          rcases HK7.out with h | ⟨g, off, rfl, hg, hc⟩
          · rw [h] at hLc; simp at hLc
          by_cases hlt : j + 1 < LT.length
          · obtain ⟨y, hy⟩ : ∃ y, LT[j]? = some y := ⟨_, List.getElem?_eq_getElem (by omega)⟩
            have hyl := HE.out y (List.mem_of_getElem? hy)
            have c0 : w7.cell? ⟨g, off + j, none⟩ = some (.string ⟨y.toArray⟩) := hc j _ hy
            have hji : (j : Int) + 1 < (LT.length : Int) := by omega
            have hjj : (j : Int) < (LT.length : Int) := by omega
            have HD := Lib.hid (Dm.take_on hy)
            clear hc hy
            go_wp2
            go_round
            case rel => exact ⟨j + 1, _, by omega, by go_num, rfl, by rw [HD.out, Dm.ends_append, Dm.ends_one, ← HSz.out]; simp, by rw [Lib.size_eq] at hsz2 ⊢; simp at hsz2 ⊢; omega⟩
            case measure => simp [intOf]; omega
          have ej : j = LT.length - 1 := by omega
          have hji : ¬ (j : Int) + 1 < (LT.length : Int) := by omega
          obtain ⟨x, hx⟩ : ∃ x, LT[LT.length - 1]? = some x := ⟨_, List.getElem?_eq_getElem (by omega)⟩
          have hxl := HE.out x (List.mem_of_getElem? hx)
          have c0 : w7.cell? ⟨g, off + j, none⟩ = some (.string ⟨x.toArray⟩) := hc j _ (by rw [ej]; exact hx)
          have HXX := Lib.hid hx
          obtain ⟨q1, q2⟩ := Dm.short_parse HF.out HLP.out (s := z.data.toList) (by rw [HSz.out, HLD.out, ej, HLD.out])
          have hz3 : z.size ≤ 1000000 := by omega
          have HP2 := Lib.hid (Dm.parse_any z _ hz3 (HV.out.below HB8.out))
          unfold Dm.Parsed at HP2
          rw [q1, q2, ← HLD.out] at HP2
          have hpl := HPL.out
          have zp : (⟨(Dm.printT M).toArray⟩ : ByteArray).size ≤ 1734 := by show (Dm.printT M).toArray.size ≤ _; rw [List.size_toArray]; exact hpl
          have hv' : (⟨(Dm.printT M).toArray⟩ ++ ⟨x.toArray⟩ : ByteArray).size ≤ 1000000 := by rw [Lib.size_eq]; simp; omega
          have HW := Lib.hid fun w' (h : Txt.Vars w') => Dm.parse_any (⟨(Dm.printT M).toArray⟩ ++ ⟨x.toArray⟩) w' hv' h
          obtain ⟨v1, v2⟩ := Dm.more_parse HF.out HLP.out (x := x) (s := (⟨(Dm.printT M).toArray⟩ ++ ⟨x.toArray⟩ : ByteArray).data.toList) (by rw [← HLD.out]; exact hx) (by simp)
          unfold Dm.Parsed at HW
          simp only [v1, v2, ← HLD.out] at HW
          have HLI := Lib.hid (show ((LT.length + 1 : Nat) : Int) = (LT.length : Int) + 1 by omega)
          simp only [HLI.out] at HW
          generalize Dm.parseN z.data.toList = N2 at HP2
          generalize Dm.parseN (⟨(Dm.printT M).toArray⟩ ++ ⟨x.toArray⟩ : ByteArray).data.toList = N3 at HW
          obtain ⟨n2, s2, t2, l2⟩ := N2
          obtain ⟨n3, s3, t3, l3⟩ := N3
          have hw1 : IntKind.i64.wrap ((LT.length : Int) - 1) = (j : Int) := by rw [IntKind.wrap_i64]; omega
          have hjL : (j : Int) < (LT.length : Int) := by omega
          have hc7 := Lib.hid hc
          clear q1 q2 v1 v2 hv' hc hx ej
          go_wp2_with fail
          refine HP2.out.mono ?_
          rintro e w9 ⟨o9, c9, rfl, _, _, _, _, hb⟩
          have HB9 := Lib.hid (HB8.out.trans (hb.mono HB8.out.size))
          have c1 : w9.cell? ⟨g, off + j, none⟩ = some (.string ⟨x.toArray⟩) := (hb.cell (Nat.lt_of_lt_of_le hg HBQ.out.size)).trans ((HBQ.out.cell hg).trans c0)
          clear hb c0
          go_wp2_with fail
          refine (HW.out _ (HV.out.below HB9.out)).mono ?_
          rintro e wb ⟨ob, cb, rfl, _, _, _, _, hb⟩
          have HBB := Lib.hid (HB9.out.trans (hb.mono HB9.out.size))
          have HBC := Lib.hid (HBB.out.alloc HBB.out.size (.cells #[.int .i64 n3, .int .i64 s3, .int .i64 t3, .slice ob l3.length cb] 25))
          have hll : ((LT.length : Int) == (LT.length : Int)) = true := by simp
          have hll2 : (((LT.length : Int) + 1) == ((LT.length : Int) + 1)) = true := by simp
          clear hb c1
          go_wp2
          go_ret
          exact ⟨rfl, HBC.out⟩

end Go.Proofs.YtaepoddmonijkaaDoor.dimacsFirst
