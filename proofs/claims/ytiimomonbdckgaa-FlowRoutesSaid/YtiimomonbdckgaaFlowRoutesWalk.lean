/- FlowRoutes: for every input the law returns true and its arguments read as they did. No condition. -/
import Derived.Test.YtiimomonbdckgaaFln
import Derived.Test.YtiimomonbdckgaaRouted
import Derived.Test.YtiimomonbdckgaaOpenc
import Derived.Test.YtiimomonbdckgaaDturn
import Derived.Test.YtiimomonbdckgaaRows
import Derived.WalkKit
import Derived.ProofKit
import Derived.OpenShut
import Derived.ShutString
import Derived.ChangeOld
import Derived.Below
import Derived.Deep.Strs
namespace Go.Proofs.Ytiimomonbdckgaa.flowRoutes
open Go.ChangeShapes Go.WideShapes Go.ChangeAt Go.RowKit
open Go.ChangeMaps (open_string shut_string)
set_option linter.unusedVariables false
set_option linter.unusedSimpArgs false

theorem own : ownKnob Try.prog.godebug = none := by kernel_rfl
theorem laidOut : laidOutB Try.prog = true := by kernel_rfl

def IntsIn (k : IntKind) (w : World) (a : Option Addr) (len cap : Nat) (zs : List Int) : Prop :=
  (a = none ∧ len = 0 ∧ cap = 0 ∧ zs = []) ∨
  ∃ x, a = some x ∧ len ≤ cap ∧ cap ≤ maxLen ∧ zs.length = cap ∧ (∀ i, i < zs.length → w.cell? (x.add i) = some (.int k (zs.getD i 0))) ∧ ∀ n ∈ zs, (Lit.int k n).wf = true

theorem own_none {w : World} {B n c : Nat} {o : Option Addr} {l : List Ne.Arc} (h : Ne.OwnA w B (.slice o n c) l) : o = none → c = 0 := by
  obtain ⟨ao', cap', h1, _, _, h4, _⟩ := Rw.own_row Ne.encA_len h
  simp only [Value.slice.injEq] at h1
  obtain ⟨rfl, rfl, rfl⟩ := h1
  exact h4

set_option maxRecDepth 100000 in
set_option maxHeartbeats 4000000 in
theorem walk (a0 : Int) (a1 : Int) (a2 : List Ne.Arc) (o2 : Option Addr) (c2 : Nat) (a3 : Option Addr) (len3 cap3 : Nat) (l3 : List Int) (w : World) (w0 : (Lit.int .i64 a0).wf = true) (w1 : (Lit.int .i64 a1).wf = true) (k2 : ∀ a ∈ a2, Ne.Arc.ok a) (z2 : a2.length ≤ c2) (y2 : c2 ≤ maxLen) (n2 : o2 = none → c2 = 0) (r2 : Ne.ARow w o2 a2) (w3 : IntsIn .i64 w a3 len3 cap3 l3) :
    Calls Try.prog 4 #[.int .i64 a0, .int .i64 a1, .slice o2 a2.length c2, .slice a3 len3 cap3] w fun e w' => e = .returned (.bool true) ∧ Below w.heap.size w w' := by
  have HSH := Lib.hid (Ne.shown_any w)
  obtain ⟨mn, hmn⟩ : ∃ x, x = (Ne.madeN a0 a1 a2).n := ⟨_, rfl⟩
  obtain ⟨ms, hms⟩ : ∃ x, x = (Ne.madeN a0 a1 a2).s := ⟨_, rfl⟩
  obtain ⟨mt, hmt⟩ : ∃ x, x = (Ne.madeN a0 a1 a2).t := ⟨_, rfl⟩
  obtain ⟨ml, hml⟩ : ∃ x, x = (Ne.madeN a0 a1 a2).l := ⟨_, rfl⟩
  have em : Ne.madeN a0 a1 a2 = ⟨mn, ms, mt, ml⟩ := by rw [hmn, hms, hmt, hml]
  obtain ⟨f1, f2, f3, f4, f5, f6, f7, f8, f9⟩ := Ne.madeN_fine (nodes := a0) (ends := a1) k2
  have ck := Ne.made_check (nodes := a0) (ends := a1) k2
  have MD := Lib.hid fun w' (h : Ne.ARow w' o2 a2) => Ne.made_s a0 a1 a2 o2 c2 w' (bounds_i64 w0) (bounds_i64 w1) k2 h
  rw [em] at MD f1 f2 f3 f4 f5 f6 f7 f8 f9 ck
  simp only at f1 f2 f3 f4 f5 f6 f7 f8 f9
  clear hmn hms hmt hml em
  have f8' : ml.length ≤ 24 := by omega
  clear f8
  have CK := Lib.hid ck
  have RT := Lib.hid (Ne.right_of ck)
  have FI := Lib.hid f9
  have CAP := Lib.hid (show ∀ a ∈ ml, Ne.in64 a.cap from fun a ha => by have := (f9 a ha).2.2; unfold Ne.in64; omega)
  have hl6 : ml.length ≤ 1000000 := by omega
  have F7 := Lib.hid f7
  have RA := Lib.hid r2
  clear r2 f7 f9 ck
  obtain ⟨ks, hk3, hq3, bq3, _, _, _⟩ := Ne.ints_row w3
  subst hk3
  clear w3
  have BK3 := Lib.hid bq3
  have KR3 := Lib.hid hq3
  clear bq3 hq3
  have FH := Lib.hid (show Ne.fineH ⟨mn, ms, mt, ml⟩ from ⟨f1, by simp only; omega, f3, f4, f5, f6, F7.out, by simp only; omega⟩)
  go_enter Try.func4, Try.ntmps4
  go_wp2_with fail
  refine HSH.out.mono ?_
  rintro e w1 ⟨rfl, hb⟩
  have HB1 := Lib.hid hb
  clear hb
  go_wp2_with fail
  refine (MD.out _ (RA.out.kept HB1.out)).mono ?_
  rintro e w2 ⟨om, cm, rfl, ho, hb⟩
  have HB2 := Lib.hid (HB1.out.trans (hb.mono HB1.out.size))
  have HV2 := Lib.hid (Rw.own_lt ho)
  have HO3 := Lib.hid (Rw.own_base (Rw.own_alloc ho (.cells #[.int .i64 mn, .int .i64 ms, .int .i64 mt, .slice om ml.length cm] 24)) (B' := w.heap.size) HB1.out.size)
  have HN3 := Lib.hid (Ne.netBox_new w2 mn ms mt (.slice om ml.length cm))
  have hz2 : w.heap.size ≤ w2.heap.size := HB2.out.size
  have HB3 := Lib.hid (HB2.out.alloc hz2 (.cells #[.int .i64 mn, .int .i64 ms, .int .i64 mt, .slice om ml.length cm] 24))
  clear ho hb MD RA HSH
  go_wp2_with fail
  obtain ⟨bn, hbn⟩ : ∃ b, b = w2.heap.size := ⟨_, rfl⟩
  have hbn3 : bn < (w2.alloc (.cells #[.int .i64 mn, .int .i64 ms, .int .i64 mt, .slice om ml.length cm] 24)).heap.size := by rw [hbn]; simp
  rw [← hbn] at HN3 HV2 hz2 ⊢
  clear hbn HB2 HB1
  generalize (w2.alloc (.cells #[.int .i64 mn, .int .i64 ms, .int .i64 mt, .slice om ml.length cm] 24)) = W3 at *
  have HR3 := Lib.hid (Ne.arow_ofA HO3.out)
  obtain ⟨f, hf⟩ : ∃ x, x = Ne.routeN ⟨mn, ms, mt, ml⟩ ks := ⟨_, rfl⟩
  have FL := Lib.hid (show Ne.Flow ⟨mn, ms, mt, ml⟩ f by rw [hf]; exact Ne.route_flow RT.out _)
  have RD := Lib.hid fun w' h1 h2 => Ne.routed_any ⟨mn, ms, mt, ml⟩ om cm a3 cap3 ks w' h1 h2 CK.out BK3.out
  rw [← hf] at RD
  refine (RD.out _ HR3.out (KR3.out.kept HB3.out)).mono ?_
  rintro e w4 ⟨fb, rfl, hfb, hl, hb⟩
  have HB4 := Lib.hid (HB3.out.trans (hb.mono HB3.out.size))
  have HN4 := Lib.hid (Ne.netBox_below HN3.out hb (Ne.netBox_lt HN3.out))
  have HO4 := Lib.hid (Rw.own_below HO3.out hb)
  have HR4 := Lib.hid (HR3.out.kept hb)
  have HFB4 := Lib.hid hl
  have hfb2 := hl.lt
  clear hl hb
  have HF4 := Lib.hid HFB4.out
  have HNC := Lib.hid (own_none HO4.out)
  have hval := FL.out.val
  have hcalm := FL.out.calm
  have hends := FL.out.ends
  have bv := Ne.exc_bd RT.out FL.out.wi mt
  simp only at hval hcalm hends bv
  have VF := Lib.hid fun w' h1 h2 => Ne.val_flow (n := ⟨mn, ms, mt, ml⟩) (f := f) om cm (some ⟨fb, 0, none⟩) ml.length w' CK.out h1 h2 FL.out
  have CF := Lib.hid fun w' h1 h2 => Ne.chk_ok (n := ⟨mn, ms, mt, ml⟩) (f := f) om cm (some ⟨fb, 0, none⟩) ml.length w' CK.out h1 h2 FL.out.len
  rw [Ne.flow_chkF CK.out FL.out] at CF
  have XF := Lib.hid fun v g1 g2 w' h1 h2 => Ne.exs_in (n := ⟨mn, ms, mt, ml⟩) (f := f) om cm (some ⟨fb, 0, none⟩) ml.length w' CK.out h1 h2 FL.out.len FL.out.wi v g1 g2
  have XS := Lib.hid (XF.out ms f3 f4)
  simp only at XS
  rw [hends] at XS
  have TN := Lib.hid (show ∀ w', Ne.ARow w' om ml → Calls Try.prog 22 #[Ne.encN ⟨mn, ms, mt, ml⟩ om cm] w' fun e w2 => ∃ o c, e = .returned (.agg #[.int .i64 mn, .int .i64 mt, .int .i64 ms, .slice o ml.length c]) ∧ Ne.ARow w2 o (ml.map Ne.turnA) ∧ Below w'.heap.size w' w2 from fun w' h =>
    (Ne.turn_any ⟨mn, ms, mt, ml⟩ om cm w' HNC.out h hl6).mono fun e w2 ⟨o, c, h1, h2, h3⟩ => ⟨o, c, by rw [h1]; simp [Ne.encN, Ne.turnN], Ne.arow_ofA h2, h3⟩)
  have VT := Lib.hid (show ∀ o c w', Ne.ARow w' o (ml.map Ne.turnA) → Ne.IRow w' (some ⟨fb, 0, none⟩) f → Calls Try.prog 13 #[.agg #[.int .i64 mn, .int .i64 mt, .int .i64 ms, .slice o ml.length c], .slice (some ⟨fb, 0, none⟩) ml.length ml.length] w' fun e w2 => e = .returned (.tuple #[.int .i64 (Ne.exc ml f mt), .int .i64 0]) ∧ Below w'.heap.size w' w2 from fun o c w' h1 h2 => by
    have h := Ne.val_calm (n := Ne.turnN ⟨mn, ms, mt, ml⟩) (f := f) o c (some ⟨fb, 0, none⟩) ml.length w' (Ne.turn_check FH.out FI.out) h1 h2 (Ne.turn_calm FL.out)
    have e : Ne.exc (Ne.turnN ⟨mn, ms, mt, ml⟩).l f (Ne.turnN ⟨mn, ms, mt, ml⟩).t = Ne.exc ml f mt := by
      show Ne.exc (ml.map Ne.turnA) f ms = _
      rw [Ne.exc_turn, hends]; omega
    rw [e] at h
    simpa [Ne.encN, Ne.turnN] using h)
  have HIN := Lib.hid (Ne.exc_inC (l := ml) FL.out.wi mt)
  simp only at VF
  have HCM := Lib.hid hcalm
  have HFW := Lib.hid (show Ne.wi ml f from FL.out.wi)
  generalize Ne.exc ml f mt = V at *
  clear hcalm hends
  have hwn : IntKind.i64.wrap (-V) = -V := by rw [IntKind.wrap_i64]; omega
  have hvn : ¬ V < 0 := by omega
  obtain ⟨n0, n1, n2, n3⟩ := Ne.netBox_cells HN4.out
  go_wp2_with fail
  refine (VF.out w4 HR4.out HF4.out.irow).mono ?_
  rintro e w5 ⟨rfl, hb⟩
  have HB5 := Lib.hid (HB4.out.trans (hb.mono HB4.out.size))
  have HN5 := Lib.hid (Ne.netBox_below HN4.out hb (Ne.netBox_lt HN4.out))
  have HR5 := Lib.hid (HR4.out.kept hb)
  have HF5 := Lib.hid (HF4.out.kept hb)
  clear hb n0 n1 n2 n3
  obtain ⟨n0, n1, n2, n3⟩ := Ne.netBox_cells HN5.out
  go_wp2_with fail
  refine (XS.out w5 HR5.out HF5.out.irow).mono ?_
  rintro e w6 ⟨rfl, hb⟩
  have HB6 := Lib.hid (HB5.out.trans (hb.mono HB5.out.size))
  have HN6 := Lib.hid (Ne.netBox_below HN5.out hb (Ne.netBox_lt HN5.out))
  have HR6 := Lib.hid (HR5.out.kept hb)
  have HF6 := Lib.hid (HF5.out.kept hb)
  clear hb n0 n1 n2 n3
  obtain ⟨n0, n1, n2, n3⟩ := Ne.netBox_cells HN6.out
  go_wp2_with fail
  refine (TN.out w6 HR6.out).mono ?_
  rintro e w7 ⟨to_, tc, rfl, ht, hb⟩
  have HT7 := Lib.hid ht
  clear ht
  have HB7 := Lib.hid (HB6.out.trans (hb.mono HB6.out.size))
  have HN7 := Lib.hid (Ne.netBox_below HN6.out hb (Ne.netBox_lt HN6.out))
  have HR7 := Lib.hid (HR6.out.kept hb)
  have HF7 := Lib.hid (HF6.out.kept hb)
  clear hb n0 n1 n2 n3
  obtain ⟨n0, n1, n2, n3⟩ := Ne.netBox_cells HN7.out
  go_wp2_with fail
  refine (VT.out _ _ w7 HT7.out HF7.out.irow).mono ?_
  rintro e w8 ⟨rfl, hb⟩
  have HB8 := Lib.hid (HB7.out.trans (hb.mono HB7.out.size))
  have HN8 := Lib.hid (Ne.netBox_below HN7.out hb (Ne.netBox_lt HN7.out))
  have HR8 := Lib.hid (HR7.out.kept hb)
  have HF8 := Lib.hid (HF7.out.kept hb)
  clear hb n0 n1 n2 n3
  obtain ⟨n0, n1, n2, n3⟩ := Ne.netBox_cells HN8.out
  go_wp2_with fail
  refine (CF.out w8 HR8.out HF8.out.irow).mono ?_
  rintro e w9 ⟨rfl, hb⟩
  have HB9 := Lib.hid (HB8.out.trans (hb.mono HB8.out.size))
  have HN9 := Lib.hid (Ne.netBox_below HN8.out hb (Ne.netBox_lt HN8.out))
  have HR9 := Lib.hid (HR8.out.kept hb)
  have HF9 := Lib.hid (HF8.out.kept hb)
  clear hb n0 n1 n2 n3
  obtain ⟨n0, n1, n2, n3⟩ := Ne.netBox_cells HN9.out
  clear HB5 HB6 HB7 HB8 HN5 HN6 HN7 HN8 HR5 HR6 HR7 HR8 HF5 HF6 HF7 HF8 HT7 VF CF XS TN VT hwn hvn
  go_wp2
  clear n0 n1 n2 n3
  have HS0 := Lib.hid (show (0 : Int) = Ne.nodS ml f ((1 : Int).toNat - 1) from rfl)
  have HW0 := Lib.hid (Below.refl w9.heap.size w9)
  go_loopw [18, 19] (fun ss su wr => ∃ (u s : Int), ss = .int .i64 s ∧ su = .int .i64 u ∧ 1 ≤ u ∧ u ≤ mn + 1 ∧ Hid (s = Ne.nodS ml f (u.toNat - 1)) ∧ Hid (Below w9.heap.size w9 wr)) (fun _ su _ => (mn + 1 - intOf su).toNat)
  case atStart => exact ⟨1, 0, rfl, rfl, by omega, by omega, HS0, HW0⟩
  case round =>
    obtain ⟨u, s, rfl, rfl, hu1, hu2, HS, HW⟩ := hrel
    clear HS0 HW0
    have HNU := Lib.hid (Ne.netBox_below HN9.out HW.out (Ne.netBox_lt HN9.out))
    obtain ⟨n0, n1, n2, n3⟩ := Ne.netBox_cells HNU.out
    by_cases hlt : u ≤ mn
    · have XU := Lib.hid (XF.out u hu1 hlt wr (HR9.out.kept HW.out) (HF9.out.kept HW.out).irow)
      have HS2 := Lib.hid (show s + Ne.exc ml f u = Ne.nodS ml f ((u + 1).toNat - 1) by
        obtain ⟨j, rfl⟩ : ∃ j : Nat, u = (j : Int) + 1 := ⟨(u - 1).toNat, by omega⟩
        rw [show ((j : Int) + 1 + 1).toNat - 1 = j + 1 by omega, HS.out, show ((j : Int) + 1).toNat - 1 = j by omega]; rfl)
      have hb1 := Ne.nodS_bd RT.out FL.out.wi (u.toNat - 1)
      have hb2 := Ne.nodS_bd RT.out FL.out.wi ((u + 1).toNat - 1)
      simp only at hb1 hb2 XU
      rw [← HS.out] at hb1
      rw [← HS2.out] at hb2
      have HCU := Lib.hid (HCM.out u)
      generalize Ne.exc ml f u = E at *
      have hw1 : IntKind.i64.wrap (s + E) = s + E := by rw [IntKind.wrap_i64]; omega
      by_cases p1 : u = ms
      · have p1' : (u == ms) = true := by simpa using p1
        have p1n : (u != ms) = false := by simpa using p1
        clear p1
        go_wp2_with fail
        refine XU.out.mono ?_
        rintro e wx ⟨rfl, hb⟩
        obtain ⟨m0, m1, m2, m3⟩ := Ne.netBox_cells (Ne.netBox_below HNU.out hb (Ne.netBox_lt HNU.out))
        have HW2 := Lib.hid (HW.out.trans (hb.mono HW.out.size))
        clear hb n0 n1 n2 n3
        go_wp2
        go_roundw
        case rel => exact ⟨u + 1, s + E, rfl, rfl, by omega, by omega, HS2, HW2⟩
        case measure => simp [intOf]; omega
      have p1' : (u == ms) = false := by simpa using p1
      have p1n : (u != ms) = true := by simpa using p1
      by_cases p2 : u = mt
      · have p2' : (u == mt) = true := by simpa using p2
        have p2n : (u != mt) = false := by simpa using p2
        clear p2
        go_wp2_with fail
        refine XU.out.mono ?_
        rintro e wx ⟨rfl, hb⟩
        obtain ⟨m0, m1, m2, m3⟩ := Ne.netBox_cells (Ne.netBox_below HNU.out hb (Ne.netBox_lt HNU.out))
        have HW2 := Lib.hid (HW.out.trans (hb.mono HW.out.size))
        clear hb n0 n1 n2 n3
        go_wp2
        go_roundw
        case rel => exact ⟨u + 1, s + E, rfl, rfl, by omega, by omega, HS2, HW2⟩
        case measure => simp [intOf]; omega
      have p2' : (u == mt) = false := by simpa using p2
      have p2n : (u != mt) = true := by simpa using p2
      have hE0 : E = 0 := HCU.out p1 p2
      subst hE0
      go_wp2_with fail
      refine XU.out.mono ?_
      rintro e wx ⟨rfl, hb⟩
      obtain ⟨m0, m1, m2, m3⟩ := Ne.netBox_cells (Ne.netBox_below HNU.out hb (Ne.netBox_lt HNU.out))
      have HW2 := Lib.hid (HW.out.trans (hb.mono HW.out.size))
      clear hb n0 n1 n2 n3
      go_wp2
      go_roundw
      case rel => exact ⟨u + 1, s, rfl, rfl, by omega, by omega, Lib.hid (by have := HS2.out; rw [Int.add_zero] at this; exact this), HW2⟩
      case measure => simp [intOf]; omega
    · have hs0 : s = 0 := by
        rw [HS.out]
        refine Ne.nodS_all (n := ⟨mn, ms, mt, ml⟩) RT.out f ?_
        simp only; omega
      subst hs0
      clear HS HCM
      have HI0 := Lib.hid (show (0 : Int) = Ne.inC ml mt 0 from rfl)
      have HWU := Lib.hid HW.out
      go_wp2
      clear n0 n1 n2 n3
      go_loopw [22, 23] (fun ss sj wr => ∃ (j : Nat) (s : Int), ss = .int .i64 s ∧ sj = .int .i64 j ∧ j ≤ ml.length ∧ Hid (s = Ne.inC ml mt j) ∧ Hid (Below w9.heap.size w9 wr)) (fun _ sj _ => ml.length - (intOf sj).toNat)
      case atStart => exact ⟨0, 0, rfl, rfl, Nat.zero_le _, HI0, HWU⟩
      case round =>
        obtain ⟨j, s, rfl, rfl, hj, HI, HW⟩ := hrel
        clear HI0 HWU
        obtain ⟨n0, n1, n2, n3⟩ := Ne.netBox_cells (Ne.netBox_below HN9.out HW.out (Ne.netBox_lt HN9.out))
        have hb1 := Ne.inC_bd RT.out mt (k := j) hj
        simp only at hb1
        rw [← HI.out] at hb1
        by_cases hlt : j < ml.length
        · obtain ⟨b, off, rfl, hbl, c0, c1, c2⟩ := Ne.arow_cell (HR9.out.kept HW.out) hlt
          have hb2 := Ne.inC_bd RT.out mt (k := j + 1) (by simp only; omega)
          have HIS := Lib.hid (Ne.inC_succ ml mt j)
          simp only at hb2
          rw [HIS.out, ← HI.out] at hb2
          have HIT := Lib.hid (show Ne.inC ml mt (j + 1) = s + if (Ne.arcAt ml j).to = mt then (Ne.arcAt ml j).cap else 0 by rw [HIS.out, ← HI.out])
          clear HIS
          generalize (Ne.arcAt ml j).to = tt at *
          generalize (Ne.arcAt ml j).cap = ca at *
          have hji : (j : Int) < (ml.length : Int) := by omega
          have hj0 : (0 : Int) ≤ (j : Int) := by omega
          by_cases p : tt = mt
          · rw [if_pos p] at hb2 HIT
            have p' : (tt == mt) = true := by simpa using p
            have hw1 : IntKind.i64.wrap (s + ca) = s + ca := by rw [IntKind.wrap_i64]; omega
            have HI2 := Lib.hid HIT.out.symm
            clear p HIT
            go_wp2
            go_quiet (fail)
            go_wp2
            go_roundw
            case rel => exact ⟨j + 1, s + ca, rfl, by go_num, by omega, HI2, Lib.hid (Ne.below_dn HW.out _)⟩
            case measure => simp [intOf]; omega
          · rw [if_neg p, Int.add_zero] at hb2 HIT
            have p' : (tt == mt) = false := by simpa using p
            have HI2 := Lib.hid HIT.out.symm
            clear p HIT
            go_wp2
            go_quiet (fail)
            go_wp2
            go_roundw
            case rel => exact ⟨j + 1, s, rfl, by go_num, by omega, HI2, Lib.hid (Ne.below_dn HW.out _)⟩
            case measure => simp [intOf]; omega
        · have ej : j = ml.length := by omega
          have hjn : ¬ (j : Int) < (ml.length : Int) := by omega
          have hVs : V ≤ s := by rw [HI.out, ej]; exact HIN.out
          have HBE := Lib.hid (HB9.out.trans (HW.out.mono HB9.out.size))
          clear ej hlt
          go_wp2
          go_ret
          exact ⟨rfl, HBE.out⟩

end Go.Proofs.Ytiimomonbdckgaa.flowRoutes
