/- DimacsSpaces: for every input the law returns true and its arguments read as they did. No condition. -/
import Derived.Test.YtaepoddmonijkaaDoorVars
import Derived.Test.YtaepoddmonijkaaDoorShown4
import Derived.Test.YtaepoddmonijkaaDoorPrt
import Derived.Test.YtaepoddmonijkaaDoorOpenc
import Derived.Test.YtaepoddmonijkaaDoorSpc
import Derived.Test.YtaepoddmonijkaaDoorDsame
import Derived.Test.YtaepoddmonijkaaDoorLin
import Derived.Test.YtaepoddmonijkaaDoorKind
import Derived.Test.YtaepoddmonijkaaDoorRows
import Derived.Test.YtaepoddmonijkaaDoorTie
import Derived.Test.YtaepoddmonijkaaDoorCards
import Derived.WalkKit
import Derived.ProofKit
import Derived.OpenShut
import Derived.ShutString
import Derived.ChangeOld
import Derived.Below
import Derived.Deep.Strs
import Derived.LaidMore
import Derived.Lay
import Derived.SevenTiedAt
import Derived.Stop.Joined
namespace Go.Proofs.YtaepoddmonijkaaDoor.dimacsSpaces
open Go.ChangeShapes Go.WideShapes Go.ChangeAt Go.RowKit
open Go.ChangeMaps (open_string shut_string)
set_option linter.unusedVariables false
set_option linter.unusedSimpArgs false

theorem own : ownKnob Tryd.prog.godebug = none := by kernel_rfl
theorem laidOut : laidOutB Tryd.prog = true := by kernel_rfl

def IntsIn (k : IntKind) (w : World) (a : Option Addr) (len cap : Nat) (zs : List Int) : Prop :=
  (a = none ∧ len = 0 ∧ cap = 0 ∧ zs = []) ∨
  ∃ x, a = some x ∧ len ≤ cap ∧ cap ≤ maxLen ∧ zs.length = cap ∧ (∀ i, i < zs.length → w.cell? (x.add i) = some (.int k (zs.getD i 0))) ∧ ∀ n ∈ zs, (Lit.int k n).wf = true

theorem dig_not {c : UInt8} (h : Txt.dig c = false) : ((c.toNat : Int) < 48) ∨ (¬ ((c.toNat : Int) < 48) ∧ (57 : Int) < (c.toNat : Int)) := by
  by_cases h1 : c.toNat < 48
  · exact .inl (by omega)
  · by_cases h2 : 57 < c.toNat
    · exact .inr ⟨by omega, by omega⟩
    · exact absurd ((Txt.dig_iff c).2 ⟨by omega, by omega⟩) (by rw [h]; simp)
def encI (x : Int) : Value := .int .i64 x
theorem ints_row {w : World} {a : Option Addr} {len cap : Nat} {zs : List Int} (h : IntsIn .i64 w a len cap zs) :
    ∃ l : List Int, l.length = len ∧ Txt.Row1 encI w a l ∧ ∀ n ∈ l, -9223372036854775808 ≤ n ∧ n ≤ 9223372036854775807 := by
  rcases h with ⟨rfl, rfl, rfl, rfl⟩ | ⟨x, rfl, hl, hm, hz, hcell, hwz⟩
  · exact ⟨[], rfl, .inl rfl, by simp⟩
  · refine ⟨zs.take len, by simp; omega, ?_, ?_⟩
    · by_cases hn : zs.take len = []
      · exact .inl hn
      · right
        have h0 : 0 < zs.length := by
          rcases zs with _ | ⟨z, r⟩
          · simp at hn
          · simp
        obtain ⟨b, off, spot⟩ := x
        have hc := hcell 0 h0
        have hspot : spot = none := by simpa [Addr.add] using World.cell?_spot hc
        subst hspot
        have e0 : (⟨b, off, none⟩ : Addr).add 0 = ⟨b, off, none⟩ := by unfold Addr.add; simp
        rw [e0] at hc
        refine ⟨b, off, rfl, World.block_lt_of_cell? w _ hc, fun i x hi => ?_⟩
        have hi2 := (List.getElem?_eq_some_iff.1 hi).1
        have hi' : i < len := by simp at hi2; omega
        have hi3 : i < zs.length := by simp at hi2; omega
        have := hcell i hi3
        have ea : (⟨b, off, none⟩ : Addr).add i = ⟨b, off + i, none⟩ := by
          unfold Addr.add; by_cases h : i = 0
          · subst h; simp
          · simp [h]
        rw [ea] at this
        rw [this]
        rw [List.getElem?_take, if_pos hi'] at hi
        simp [List.getD, hi, encI]
    · intro n hn
      have := bounds_i64 (hwz n (List.mem_of_mem_take hn))
      omega
theorem seg_one (X : ByteArray) (j : Nat) (h : j < X.size) : (X.extract j (j + 1)).data.toList = [X[j]] := by
  rw [Txt.extract_seg]
  have := Lib.data_getElem? X j h
  rw [List.getElem?_eq_some_iff] at this
  obtain ⟨h1, h2⟩ := this
  show (Txt.seg X.data.toList j (j + 1)) = [X[j]]
  unfold Txt.seg
  rw [show j + 1 - j = 1 by omega, List.drop_eq_getElem_cons h1, h2]; rfl

set_option maxRecDepth 100000 in
set_option maxHeartbeats 4000000 in
theorem walk (a0 : Int) (a1 : Int) (a2 : List Ne.Arc) (o2 : Option Addr) (c2 : Nat) (a3 : Option Addr) (len3 cap3 : Nat) (l3 : List Int) (w : World) (w0 : (Lit.int .i64 a0).wf = true) (w1 : (Lit.int .i64 a1).wf = true) (k2 : ∀ a ∈ a2, Ne.Arc.ok a) (z2 : a2.length ≤ c2) (y2 : c2 ≤ maxLen) (n2 : o2 = none → c2 = 0) (r2 : Ne.ARow w o2 a2) (w3 : IntsIn .i64 w a3 len3 cap3 l3) (hv : Txt.Vars w) :
    Calls Tryd.prog 7 #[.int .i64 a0, .int .i64 a1, .slice o2 a2.length c2, .slice a3 len3 cap3] w fun e w' => e = .returned (.bool true) ∧ Below w.heap.size w w' := by
  have HSH := Lib.hid (Dm.shown_any w hv)
  have HV := Lib.hid hv
  have b0 := bounds_i64 w0
  have b1 := bounds_i64 w1
  obtain ⟨M, hM⟩ : ∃ x, x = Ne.madeN a0 a1 a2 := ⟨_, rfl⟩
  obtain ⟨hF, hlen, hok⟩ := Dm.made_fine (nodes := a0) (nds := a1) k2
  have MD := Lib.hid fun w' (h : Ne.ARow w' o2 a2) => Ne.made_s a0 a1 a2 o2 c2 w' b0 b1 k2 h
  rw [← hM] at MD hF hlen hok
  clear hM
  obtain ⟨hps, hpe⟩ := Dm.prt_fine hF
  have PR := Lib.hid fun w' om cm (h : Ne.ARow w' om M.l) (h2 : Txt.Vars w') => Dm.print_any M om cm w' h (by omega) hok h2
  rw [hps, hpe] at PR
  have HF := Lib.hid hF
  have HOK := Lib.hid hok
  have HPL := Lib.hid (show (Dm.printT M).length ≤ 1734 by have := Dm.printT_len hok (by omega); omega)
  have HLT := Lib.hid (Dm.linesT_len M)
  have LN := Lib.hid fun w' (h : Txt.Vars w') => Txt.lines_any ⟨(Dm.printT M).toArray⟩ w' (by show (Dm.printT M).toArray.size ≤ _; rw [List.size_toArray]; have := HPL.out; omega) h
  rw [show (⟨(Dm.printT M).toArray⟩ : ByteArray).data.toList = Dm.printT M from by simp, Dm.lin_print] at LN
  have RA := Lib.hid r2
  clear hv hps hpe hF hok r2
  obtain ⟨l, rfl, r3, bz⟩ := ints_row w3
  clear w3
  have HI := Lib.hid r3
  have HZ := Lib.hid bz
  clear r3 bz
  obtain ⟨X, hX⟩ : ∃ X : ByteArray, X = ⟨(Dm.printT M).toArray⟩ := ⟨_, rfl⟩
  rw [← hX] at PR
  have HXD := Lib.hid (show X.data.toList = Dm.printT M by rw [hX])
  have hXs : X.size ≤ 1734 := by rw [Lib.size_eq, HXD.out]; exact HPL.out
  clear hX
  by_cases h200 : l.length ≤ 200
  case neg =>
    have h2 : (200 : Int) < (l.length : Int) := by omega
    clear h200
    go_enter Tryd.func7, Tryd.ntmps7
    go_wp2_with fail
    refine HSH.out.mono ?_
    rintro e w1 ⟨rfl, hb⟩
    have HB1 := Lib.hid hb
    clear hb
    go_wp2
    go_ret
    exact ⟨rfl, HB1.out⟩
  have h2 : ¬ (200 : Int) < (l.length : Int) := by omega
  go_enter Tryd.func7, Tryd.ntmps7
  go_wp2_with fail
  refine HSH.out.mono ?_
  rintro e w1 ⟨rfl, hb⟩
  have HB1 := Lib.hid hb
  clear hb
  go_wp2_with fail
  refine (MD.out _ (RA.out.kept HB1.out)).mono ?_
  rintro e w2 ⟨om, cm, rfl, hown, hb⟩
  have HB2 := Lib.hid (HB1.out.trans (hb.mono HB1.out.size))
  obtain ⟨om', cm', hv', hcm, hcx, hnm, hrm, _⟩ := Rw.own_row Ne.encA_len hown
  cases hv'
  have HRM := Lib.hid hrm
  have HBA := Lib.hid (show Below w2.heap.size w2 (w2.alloc (.cells #[.int .i64 M.n, .int .i64 M.s, .int .i64 M.t, .slice om M.l.length cm] 25)) from (Below.refl _ _).alloc (Nat.le_refl _) _)
  have HNB := Lib.hid (Ne.netBox_new w2 M.n M.s M.t (.slice om M.l.length cm))
  obtain ⟨m0, m1, m2, m3⟩ := Ne.netBox_cells HNB.out
  have HB2A := Lib.hid (HB2.out.trans (HBA.out.mono HB2.out.size))
  clear hown hb hrm hcm hcx hnm
  go_wp2_with fail
  refine (PR.out _ om cm (HRM.out.kept HBA.out) (HV.out.below HB2A.out)).mono ?_
  rintro e w3 ⟨rfl, hb⟩
  have HB3 := Lib.hid (HB2A.out.trans (hb.mono HB2A.out.size))
  have HN3 := Lib.hid (Ne.netBox_below HNB.out hb (Ne.netBox_lt HNB.out))
  have HR3 := Lib.hid ((HRM.out.kept HBA.out).kept hb)
  clear hb m0 m1 m2 m3
  obtain ⟨m0, m1, m2, m3⟩ := Ne.netBox_cells HN3.out
  have HBQ := Lib.hid (show Below w3.heap.size w3 (w3.alloc (.cells #[.string ⟨#[32]⟩, .string ⟨#[9]⟩, .string ⟨#[32, 32]⟩, .string ⟨#[32, 13, 32]⟩, .string ⟨#[9, 9, 32, 48]⟩, .string ⟨#[32, 48, 48]⟩] 9)) from (Below.refl _ _).alloc (Nat.le_refl _) _)
  have HK3 := Lib.hid (show Txt.SRow (w3.alloc (.cells #[.string ⟨#[32]⟩, .string ⟨#[9]⟩, .string ⟨#[32, 32]⟩, .string ⟨#[32, 13, 32]⟩, .string ⟨#[9, 9, 32, 48]⟩, .string ⟨#[32, 48, 48]⟩] 9)) (some ⟨w3.heap.size, 0, none⟩) Dm.kindsL from Dm.srow_at w3 rfl [.string ⟨#[32]⟩, .string ⟨#[9]⟩, .string ⟨#[32, 32]⟩, .string ⟨#[32, 13, 32]⟩, .string ⟨#[9, 9, 32, 48]⟩, .string ⟨#[32, 48, 48]⟩] Dm.kindsL rfl)
  have HN3b := Lib.hid (Ne.netBox_below HN3.out HBQ.out (Ne.netBox_lt HN3.out))
  have HR3b := Lib.hid (HR3.out.kept HBQ.out)
  have HI3 := Lib.hid ((HI.out.below HB3.out).below HBQ.out)
  have HB3b := Lib.hid (HB3.out.trans (HBQ.out.mono HB3.out.size))
  go_wp2
  go_loopw [14, 15, 16] (fun t k i wr => ∃ (j kk : Nat) (s : ByteArray), j ≤ X.size ∧ i = .int .i64 j ∧ kk ≤ l.length ∧ k = .int .i64 kk ∧ t = .string s ∧ s.size ≤ 15 * j ∧ Hid (Dm.Sim X.data.toList j s.data.toList) ∧ Hid (Below w.heap.size w wr) ∧ Hid (Txt.SRow wr (some ⟨w3.heap.size, 0, none⟩) Dm.kindsL) ∧ Hid (Ne.NetBox wr w2.heap.size M.n M.s M.t (.slice om M.l.length cm)) ∧ Hid (Ne.ARow wr om M.l) ∧ Hid (Txt.Row1 encI wr a3 l)) (fun _ _ i _ => X.size - (intOf i).toNat)
  case atStart => exact ⟨0, 0, _, Nat.zero_le _, rfl, Nat.zero_le _, rfl, rfl, by rw [Lib.size_eq]; simp, Lib.hid (by simpa using Dm.sim_zero X.data.toList), HB3b, HK3, HN3b, HR3b, HI3⟩
  case round =>
    obtain ⟨j, kk, s, hj, rfl, hk, rfl, rfl, hsz, HSim, HBw, HKr, HNr, HRr, HIr⟩ := hrel
    clear HBQ HK3 HN3b HR3b HI3 HB3b m0 m1 m2 m3
    by_cases hlt : j < X.size
    · have hget := Lib.data_getElem? X j hlt
      have HGET := Lib.hid hget
      by_cases h32 : X[j] = 32
      · have hq : ((X[j].toNat : Int) == 32) = true := by rw [h32]; rfl
        have hq2 : ((X[j].toNat : Int) == 10) = false := by rw [h32]; rfl
        have H32 := Lib.hid (show X.data.toList[j]? = some 32 by rw [hget, h32])
        by_cases hkl : kk < l.length
        · have hkI : (kk : Int) < (l.length : Int) := by omega
          have hn1 : j + 1 < X.size := by
            have := Dm.print_next (M := M) (j := j) (by rw [← HXD.out]; exact H32.out)
            rw [← HXD.out] at this
            rw [Lib.size_eq]; exact this
          have hn1I : (j : Int) + 1 < (X.size : Int) := by omega
          have hget2 := Lib.data_getElem? X (j + 1) hn1
          rcases HIr.out with h | ⟨g, off, rfl, hg, hc⟩
          · rw [h] at hkl; simp at hkl
          rcases HKr.out with h | ⟨g2, off2, e, hg2, hc2⟩
          · exact absurd h (by unfold Dm.kindsL; simp)
          cases e
          obtain ⟨z, hz⟩ : ∃ z, l[kk]? = some z := ⟨_, List.getElem?_eq_getElem hkl⟩
          have bz := HZ.out z (List.mem_of_getElem? hz)
          have c0 : wr.cell? ⟨g, off + kk, none⟩ = some (.int .i64 z) := hc kk _ hz
          have b6 := Ne.pickN_bd (c := z) (n := 6) (by omega)
          have P6 := Lib.hid fun w' => Ne.pick_any z 6 w' bz.1 bz.2 (by omega) (by omega)
          generalize Ne.pickN z 6 = p6 at b6 P6
          obtain ⟨q6, hq6⟩ : ∃ k : Nat, p6 = (k : Int) := ⟨p6.toNat, by omega⟩
          subst hq6
          have hq6 : q6 < 6 := by omega
          obtain ⟨y6, hy6⟩ : ∃ y, Dm.kindsL[q6]? = some y := ⟨_, List.getElem?_eq_getElem (by show q6 < 6; exact hq6)⟩
          have c6 : wr.cell? ⟨w3.heap.size, 0 + q6, none⟩ = some (.string ⟨y6.toArray⟩) := hc2 q6 _ hy6
          have c6b : wr.cell? ⟨w3.heap.size, q6, none⟩ = some (.string ⟨y6.toArray⟩) := by rw [Nat.zero_add] at c6; exact c6
          have HY6 := Lib.hid (Dm.kinds_all hq6 hy6)
          by_cases hdg : Txt.dig X[j + 1] = true
          · have HND := Lib.hid (show Dm.ndg X.data.toList (j + 1) from ⟨_, hget2, hdg⟩)
            obtain ⟨d1, d2⟩ := (Txt.dig_iff _).1 hdg
            have d1' : ¬ ((X[j + 1].toNat : Int) < 48) := by omega
            have d2' : ¬ ((57 : Int) < (X[j + 1].toNat : Int)) := by omega
            have HS2 := Lib.hid (show Dm.Sim X.data.toList (j + 1) (s.data.toList ++ y6) ∧ y6.length ≤ 4 by
              obtain ⟨a, k, e, ha, hne, hl4⟩ := HY6.out
              exact ⟨by rw [e]; exact Dm.sim_blank HSim.out H32.out ha hne (.inr HND.out), hl4⟩)
            have hy6l : y6.length ≤ 4 := HS2.out.2
            clear hget hget2 h32 hc hc2 hz hy6 hdg d1 d2
            go_wp2_with fail
            refine (P6.out _).mono ?_
            rintro e w' ⟨rfl, rfl⟩
            go_wp2
            go_roundw
            case rel => exact ⟨j + 1, kk + 1, _, by omega, by go_num, by omega, by go_num, rfl, by have := HS2.out.2; rw [Lib.size_eq] at hsz ⊢; simp at hsz ⊢; omega, Lib.hid (by have := HS2.out.1; simpa using this), HBw, HKr, HNr, HRr, HIr⟩
            case measure => simp [intOf]; omega
          · have hd' : Txt.dig X[j + 1] = false := by simpa using hdg
            have hdd := dig_not hd'
            have b4 := Ne.pickN_bd (c := z) (n := 4) (by omega)
            have P4 := Lib.hid fun w' => Ne.pick_any z 4 w' bz.1 bz.2 (by omega) (by omega)
            generalize Ne.pickN z 4 = p4 at b4 P4
            obtain ⟨q4, hq4⟩ : ∃ k : Nat, p4 = (k : Int) := ⟨p4.toNat, by omega⟩
            subst hq4
            have hq4 : q4 < 4 := by omega
            obtain ⟨y4, hy4⟩ : ∃ y, Dm.kindsL[q4]? = some y := ⟨_, List.getElem?_eq_getElem (by show q4 < 6; omega)⟩
            have c4 : wr.cell? ⟨w3.heap.size, 0 + q4, none⟩ = some (.string ⟨y4.toArray⟩) := hc2 q4 _ hy4
            have c4b : wr.cell? ⟨w3.heap.size, q4, none⟩ = some (.string ⟨y4.toArray⟩) := by rw [Nat.zero_add] at c4; exact c4
            have HS2 := Lib.hid (show Dm.Sim X.data.toList (j + 1) (s.data.toList ++ y4) ∧ y4.length ≤ 4 by
              obtain ⟨ha, hne, hl4⟩ := Dm.kinds_few hq4 hy4
              exact ⟨by have := Dm.sim_blank (k := 0) HSim.out H32.out ha hne (.inl rfl); simpa [Dm.zs] using this, hl4⟩)
            have hy4l : y4.length ≤ 4 := HS2.out.2
            clear hget hget2 h32 hc hc2 hz hy6 hy4 hdg hd'
            rcases hdd with d1' | ⟨d1', d2'⟩
            · go_wp2_with fail
              refine (P6.out _).mono ?_
              rintro e w' ⟨rfl, rfl⟩
              go_wp2_with fail
              refine (P4.out _).mono ?_
              rintro e w' ⟨rfl, rfl⟩
              go_wp2
              go_roundw
              case rel => exact ⟨j + 1, kk + 1, _, by omega, by go_num, by omega, by go_num, rfl, by have := HS2.out.2; rw [Lib.size_eq] at hsz ⊢; simp at hsz ⊢; omega, Lib.hid (by have := HS2.out.1; simpa using this), HBw, HKr, HNr, HRr, HIr⟩
              case measure => simp [intOf]; omega
            · go_wp2_with fail
              refine (P6.out _).mono ?_
              rintro e w' ⟨rfl, rfl⟩
              go_wp2_with fail
              refine (P4.out _).mono ?_
              rintro e w' ⟨rfl, rfl⟩
              go_wp2
              go_roundw
              case rel => exact ⟨j + 1, kk + 1, _, by omega, by go_num, by omega, by go_num, rfl, by have := HS2.out.2; rw [Lib.size_eq] at hsz ⊢; simp at hsz ⊢; omega, Lib.hid (by have := HS2.out.1; simpa using this), HBw, HKr, HNr, HRr, HIr⟩
              case measure => simp [intOf]; omega
        · have hkI : ¬ (kk : Int) < (l.length : Int) := by omega
          have HS2 := Lib.hid (Dm.sim_copy HSim.out HGET.out)
          have HSEG := Lib.hid (seg_one X j hlt)
          clear hget h32
          go_wp2
          go_roundw
          case rel => exact ⟨j + 1, kk, _, by omega, by go_num, by omega, rfl, rfl, by rw [Lib.size_eq] at hsz ⊢; simp [HSEG.out] at hsz ⊢; omega, Lib.hid (by have := HS2.out; rw [← HSEG.out] at this; simpa using this), HBw, HKr, HNr, HRr, HIr⟩
          case measure => simp [intOf]; omega
      · have hq : ((X[j].toNat : Int) == 32) = false := Txt.byte_ne (n := 32) (by decide) h32
        by_cases h10 : X[j] = 10
        · have hq2 : ((X[j].toNat : Int) == 10) = true := by rw [h10]; rfl
          have H10 := Lib.hid (show X.data.toList[j]? = some 10 by rw [hget, h10])
          by_cases hkl : kk < l.length
          · have hkI : (kk : Int) < (l.length : Int) := by omega
            rcases HIr.out with h | ⟨g, off, rfl, hg, hc⟩
            · rw [h] at hkl; simp at hkl
            obtain ⟨z, hz⟩ : ∃ z, l[kk]? = some z := ⟨_, List.getElem?_eq_getElem hkl⟩
            have bz := HZ.out z (List.mem_of_getElem? hz)
            have c0 : wr.cell? ⟨g, off + kk, none⟩ = some (.int .i64 z) := hc kk _ hz
            have b3 := Ne.pickN_bd (c := z) (n := 3) (by omega)
            have P3 := Lib.hid fun w' => Ne.pick_any z 3 w' bz.1 bz.2 (by omega) (by omega)
            generalize Ne.pickN z 3 = p3 at b3 P3
            by_cases hp0 : p3 = 0
            · have hz0 : (p3 == 0) = true := by rw [hp0]; rfl
              have HS2 := Lib.hid (Dm.sim_note HSim.out H10.out)
              have HSEG := Lib.hid (show (X.extract j (j + 1)).data.toList = [10] by rw [seg_one X j hlt, h10])
              clear hget h32 h10 hc hz hp0
              go_wp2_with fail
              refine (P3.out _).mono ?_
              rintro e w' ⟨rfl, rfl⟩
              go_wp2
              go_roundw
              case rel => exact ⟨j + 1, kk, _, by omega, by go_num, by omega, rfl, rfl, by rw [Lib.size_eq] at hsz ⊢; simp [HSEG.out] at hsz ⊢; omega, Lib.hid (by have := HS2.out; rw [← HSEG.out] at this; simpa [Dm.noteT] using this), HBw, HKr, HNr, HRr, HIr⟩
              case measure => simp [intOf]; omega
            · have hz0 : (p3 == 0) = false := by simpa using hp0
              have HS2 := Lib.hid (Dm.sim_copy HSim.out HGET.out)
              have HSEG := Lib.hid (seg_one X j hlt)
              clear hget h32 h10 hc hz hp0
              go_wp2_with fail
              refine (P3.out _).mono ?_
              rintro e w' ⟨rfl, rfl⟩
              go_wp2
              go_roundw
              case rel => exact ⟨j + 1, kk, _, by omega, by go_num, by omega, rfl, rfl, by rw [Lib.size_eq] at hsz ⊢; simp [HSEG.out] at hsz ⊢; omega, Lib.hid (by have := HS2.out; rw [← HSEG.out] at this; simpa using this), HBw, HKr, HNr, HRr, HIr⟩
              case measure => simp [intOf]; omega
          · have hkI : ¬ (kk : Int) < (l.length : Int) := by omega
            have HS2 := Lib.hid (Dm.sim_copy HSim.out HGET.out)
            have HSEG := Lib.hid (seg_one X j hlt)
            clear hget h32 h10
            go_wp2
            go_roundw
            case rel => exact ⟨j + 1, kk, _, by omega, by go_num, by omega, rfl, rfl, by rw [Lib.size_eq] at hsz ⊢; simp [HSEG.out] at hsz ⊢; omega, Lib.hid (by have := HS2.out; rw [← HSEG.out] at this; simpa using this), HBw, HKr, HNr, HRr, HIr⟩
            case measure => simp [intOf]; omega
        · have hq2 : ((X[j].toNat : Int) == 10) = false := Txt.byte_ne (n := 10) (by decide) h10
          have HS2 := Lib.hid (Dm.sim_copy HSim.out HGET.out)
          have HSEG := Lib.hid (seg_one X j hlt)
          clear hget h32 h10
          go_wp2
          go_roundw
          case rel => exact ⟨j + 1, kk, _, by omega, by go_num, by omega, rfl, rfl, by rw [Lib.size_eq] at hsz ⊢; simp [HSEG.out] at hsz ⊢; omega, Lib.hid (by have := HS2.out; rw [← HSEG.out] at this; simpa using this), HBw, HKr, HNr, HRr, HIr⟩
          case measure => simp [intOf]; omega
    have ej : j = X.size := by omega
    subst ej
    have hs2 : s.size ≤ 1000000 := by omega
    have HP := Lib.hid (Dm.parse_any s wr hs2 (HV.out.below HBw.out))
    obtain ⟨q1, q2, q3⟩ := Dm.sim_end HF.out (t := s.data.toList) (by have := HSim.out; rw [Lib.size_eq, HXD.out] at this; exact this)
    unfold Dm.Parsed at HP
    rw [q1, q2, q3] at HP
    clear q1 q2 q3
    have HSM := Lib.hid fun w' o c (h1 : Ne.ARow w' o M.l) (h2 : Ne.ARow w' om M.l) => Ne.dsame_any M M o om c cm w' h1 h2 (by omega) (by omega)
    rw [show Ne.sameN M M = true from by simp [Ne.sameN]] at HSM
    obtain ⟨m0, m1, m2, m3⟩ := Ne.netBox_cells HNr.out
    go_wp2_with fail
    refine HP.out.mono ?_
    rintro e w7 ⟨o7, c7, rfl, _, _, _, hr7, hb⟩
    have HR7 := Lib.hid (show Ne.ARow w7 o7 M.l from hr7)
    have HB7 := Lib.hid (HBw.out.trans (hb.mono HBw.out.size))
    have HN7 := Lib.hid (Ne.netBox_below HNr.out hb (Ne.netBox_lt HNr.out))
    have HBQ := Lib.hid (show Below w7.heap.size w7 (w7.alloc (.cells #[.int .i64 M.n, .int .i64 M.s, .int .i64 M.t, .slice o7 M.l.length c7] 25)) from (Below.refl _ _).alloc (Nat.le_refl _) _)
    have HRM7 := Lib.hid ((HRr.out.kept hb).kept HBQ.out)
    have HN8 := Lib.hid (Ne.netBox_below HN7.out HBQ.out (Ne.netBox_lt HN7.out))
    have HB8 := Lib.hid (HB7.out.trans (HBQ.out.mono HB7.out.size))
    have HR8 := Lib.hid (HR7.out.kept HBQ.out)
    have hz2 : w2.heap.size < w7.heap.size := Ne.netBox_lt HN7.out
    clear hb hr7 m0 m1 m2 m3
    obtain ⟨m0, m1, m2, m3⟩ := Ne.netBox_cells HN8.out
    obtain ⟨p0, p1, p2, p3⟩ := Ne.netBox_cells HN7.out
    go_wp2_with fail
    refine (HSM.out _ _ _ HR8.out HRM7.out).mono ?_
    rintro e w9 ⟨rfl, hb⟩
    have HB9 := Lib.hid (HB8.out.trans (hb.mono HB8.out.size))
    clear hb
    go_wp2
    go_ret
    exact ⟨rfl, HB9.out⟩

end Go.Proofs.YtaepoddmonijkaaDoor.dimacsSpaces
