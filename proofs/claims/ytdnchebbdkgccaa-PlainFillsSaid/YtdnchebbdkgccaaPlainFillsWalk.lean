/- PlainFills: for every input the law returns true and its arguments read as they did. No condition. -/
import Derived.Test.YtdnchebbdkgccaaLw8
import Derived.Test.YtdnchebbdkgccaaShown8
import Derived.Test.YtdnchebbdkgccaaRouted
import Derived.Test.YtdnchebbdkgccaaOpenc
import Derived.Test.YtdnchebbdkgccaaFil8
import Derived.Test.YtdnchebbdkgccaaFrsm
import Derived.Test.YtdnchebbdkgccaaSamei
import Derived.Deep.LoopGhost
import Derived.Deep.DeepCutAuto
import Derived.Test.YtdnchebbdkgccaaRows
import Derived.WalkKit
import Derived.ProofKit
import Derived.OpenShut
import Derived.ShutString
import Derived.ChangeOld
import Derived.Below
import Derived.Deep.Strs
namespace Go.Proofs.Ytdnchebbdkgccaa.plainFills
open Go.ChangeShapes Go.WideShapes Go.ChangeAt Go.RowKit
open Go.ChangeMaps (open_string shut_string)
set_option linter.unusedVariables false
set_option linter.unusedSimpArgs false

theorem own : ownKnob Try.prog.godebug = none := by kernel_rfl
theorem laidOut : laidOutB Try.prog = true := by kernel_rfl

def IntsIn (k : IntKind) (w : World) (a : Option Addr) (len cap : Nat) (zs : List Int) : Prop :=
  (a = none ∧ len = 0 ∧ cap = 0 ∧ zs = []) ∨
  ∃ x, a = some x ∧ len ≤ cap ∧ cap ≤ maxLen ∧ zs.length = cap ∧ (∀ i, i < zs.length → w.cell? (x.add i) = some (.int k (zs.getD i 0))) ∧ ∀ n ∈ zs, (Lit.int k n).wf = true

theorem row_nat2 {w : World} {o : Option Addr} {R : List Nat} (h : Ne.IRow w o (Ne.encW R)) (hR : 0 < R.length) : ∃ b off, o = some ⟨b, off, none⟩ ∧ b < w.heap.size ∧ ∀ i, i < R.length → w.cell? ⟨b, off + i, none⟩ = some (.int .i64 ((R.getD i 0 : Nat) : Int)) := by
  obtain ⟨b, off, rfl, hb, _⟩ := Ne.irow_cell h (i := 0) (by rw [Ne.encW_len]; exact hR)
  refine ⟨b, off, rfl, hb, fun i hi => ?_⟩
  obtain ⟨b', off', e, _, hc⟩ := Ne.irow_cell h (i := i) (by rw [Ne.encW_len]; exact hi)
  cases e
  rw [Ne.encW_at hi] at hc
  exact hc

set_option maxRecDepth 100000 in
set_option maxHeartbeats 4000000 in
theorem walk (a0 : Int) (a1 : Int) (a2 : List Ne.Arc) (o2 : Option Addr) (c2 : Nat) (a3 : Option Addr) (len3 cap3 : Nat) (l3 : List Int) (a4 : Int) (w : World) (w0 : (Lit.int .i64 a0).wf = true) (w1 : (Lit.int .i64 a1).wf = true) (k2 : ∀ a ∈ a2, Ne.Arc.ok a) (z2 : a2.length ≤ c2) (y2 : c2 ≤ maxLen) (n2 : o2 = none → c2 = 0) (r2 : Ne.ARow w o2 a2) (w3 : IntsIn .i64 w a3 len3 cap3 l3) (w4 : (Lit.int .i64 a4).wf = true) :
    Calls Try.prog 7 #[.int .i64 a0, .int .i64 a1, .slice o2 a2.length c2, .slice a3 len3 cap3, .int .i64 a4] w fun e w' => e = .returned (.bool true) ∧ Below w.heap.size w w' := by
  have HSH := Lib.hid (Ne.shown_any w)
  obtain ⟨mn, hmn⟩ : ∃ x, x = (Ne.madeN a0 a1 a2).n := ⟨_, rfl⟩
  obtain ⟨ms, hms⟩ : ∃ x, x = (Ne.madeN a0 a1 a2).s := ⟨_, rfl⟩
  obtain ⟨mt, hmt⟩ : ∃ x, x = (Ne.madeN a0 a1 a2).t := ⟨_, rfl⟩
  obtain ⟨ml, hml⟩ : ∃ x, x = (Ne.madeN a0 a1 a2).l := ⟨_, rfl⟩
  have em : Ne.madeN a0 a1 a2 = ⟨mn, ms, mt, ml⟩ := by rw [hmn, hms, hmt, hml]
  obtain ⟨f1, f2, f3, f4, f5, f6, f7, f8, f9⟩ := Ne.madeN_fine (nodes := a0) (ends := a1) k2
  have ck := Ne.made_check (nodes := a0) (ends := a1) k2
  have MD := Lib.hid fun w' (h : Ne.ARow w' o2 a2) => Ne.made_s a0 a1 a2 o2 c2 w' (bounds_i64 w0) (bounds_i64 w1) k2 h
  rw [em] at MD f1 f2 f3 f4 f5 f6 f7 f8 f9 ck
  simp only at f1 f2 f3 f4 f5 f6 f7 f8 f9
  clear hmn hms hmt hml em
  have f8' : ml.length ≤ 24 := by omega
  clear f8
  have CK := Lib.hid ck
  have RT := Lib.hid (Ne.right_of ck)
  have FI := Lib.hid f9
  have CAP := Lib.hid (show ∀ a ∈ ml, Ne.in64 a.cap from fun a ha => by have := (f9 a ha).2.2; unfold Ne.in64; omega)
  have hl6 : ml.length ≤ 1000000 := by omega
  have F7 := Lib.hid f7
  have RA := Lib.hid r2
  clear r2 f7 f9 ck
  obtain ⟨N, rfl⟩ : ∃ N : Nat, mn = (N : Int) := ⟨mn.toNat, by omega⟩
  obtain ⟨S, rfl⟩ : ∃ S : Nat, ms = (S : Int) := ⟨ms.toNat, by omega⟩
  obtain ⟨D, rfl⟩ : ∃ D : Nat, mt = (D : Int) := ⟨mt.toNat, by omega⟩
  obtain ⟨ks, hk3, hq3, bq3, _, _, _⟩ := Ne.ints_row w3
  subst hk3
  clear w3
  have BK3 := Lib.hid bq3
  have KR3 := Lib.hid hq3
  clear bq3 hq3
  have b4 := bounds_i64 w4
  have bpa := Ne.pickN_bd (c := a4) (n := 10) (by omega)
  have PA := Lib.hid fun w' => Ne.pick_any a4 10 w' b4.1 b4.2 (by omega) (by omega)
  generalize Ne.pickN a4 10 = pa at *
  clear b4 w4
  go_enter Try.func7, Try.ntmps7
  go_wp2_with fail
  refine HSH.out.mono ?_
  rintro e w1 ⟨rfl, hb⟩
  have HB1 := Lib.hid hb
  clear hb
  go_wp2_with fail
  refine (MD.out _ (RA.out.kept HB1.out)).mono ?_
  rintro e w2 ⟨om, cm, rfl, ho, hb⟩
  have HB2 := Lib.hid (HB1.out.trans (hb.mono HB1.out.size))
  have HV2 := Lib.hid (Rw.own_lt ho)
  have HO3 := Lib.hid (Rw.own_base (Rw.own_alloc ho (.cells #[.int .i64 (N : Int), .int .i64 (S : Int), .int .i64 (D : Int), .slice om ml.length cm] 24)) (B' := w.heap.size) HB1.out.size)
  have HN3 := Lib.hid (Ne.netBox_new w2 (N : Int) (S : Int) (D : Int) (.slice om ml.length cm))
  have hz2 : w.heap.size ≤ w2.heap.size := HB2.out.size
  have HB3 := Lib.hid (HB2.out.alloc hz2 (.cells #[.int .i64 (N : Int), .int .i64 (S : Int), .int .i64 (D : Int), .slice om ml.length cm] 24))
  clear ho hb MD RA HSH
  go_wp2_with fail
  obtain ⟨bn, hbn⟩ : ∃ b, b = w2.heap.size := ⟨_, rfl⟩
  have hbn3 : bn < (w2.alloc (.cells #[.int .i64 (N : Int), .int .i64 (S : Int), .int .i64 (D : Int), .slice om ml.length cm] 24)).heap.size := by rw [hbn]; simp
  rw [← hbn] at HN3 HV2 hz2 ⊢
  clear hbn HB2 HB1
  generalize (w2.alloc (.cells #[.int .i64 (N : Int), .int .i64 (S : Int), .int .i64 (D : Int), .slice om ml.length cm] 24)) = W3 at *
  have HR3 := Lib.hid (Ne.arow_ofA HO3.out)
  obtain ⟨f, hf⟩ : ∃ x, x = Ne.routeN ⟨(N : Int), (S : Int), (D : Int), ml⟩ ks := ⟨_, rfl⟩
  have FL := Lib.hid (show Ne.Flow ⟨(N : Int), (S : Int), (D : Int), ml⟩ f by rw [hf]; exact Ne.route_flow RT.out _)
  have RD := Lib.hid fun w' h1 h2 => Ne.routed_any ⟨(N : Int), (S : Int), (D : Int), ml⟩ om cm a3 cap3 ks w' h1 h2 CK.out BK3.out
  rw [← hf] at RD
  refine (RD.out _ HR3.out (KR3.out.kept HB3.out)).mono ?_
  rintro e w4 ⟨fb, rfl, hfb, hl, hb⟩
  have HB4 := Lib.hid (HB3.out.trans (hb.mono HB3.out.size))
  have HN4 := Lib.hid (Ne.netBox_below HN3.out hb (Ne.netBox_lt HN3.out))
  have HO4 := Lib.hid (Rw.own_below HO3.out hb)
  have HR4 := Lib.hid (HR3.out.kept hb)
  have HFB4 := Lib.hid hl
  have hfb2 := hl.lt
  clear hl hb
  have HL4 := Lib.hid HFB4.out
  have HFB := Lib.hid hfb
  have hN1 := RT.out.n1
  simp only at hN1
  obtain ⟨x, hx⟩ : ∃ x, x = 1 + pa := ⟨_, rfl⟩
  have hx1 : 1 ≤ x := by omega
  have hx10 : x ≤ 10 := by omega
  obtain ⟨L1, hl1⟩ := Ne.lev_exists RT.out f x
  obtain ⟨W, g, hB⟩ := Ne.blk_of RT.out FL.out.okf hx1 L1
  have hlen := Ne.blk_len FL.out.okf hx1 hB
  have hTL := Ne.leadL_len ml f x L1 (2 * ml.length)
  have hLd := Ne.lds_of ml f x L1
  have HRISE := Lib.hid (Ne.blk_rise (n := (⟨(N : Int), (S : Int), (D : Int), ml⟩ : Ne.Net)) RT.out hl1 hx1 FL.out hB)
  have BX := Lib.hid fun w' h1 h2 => Ne.block_flow (n := (⟨(N : Int), (S : Int), (D : Int), ml⟩ : Ne.Net)) (f := f) om cm (some ⟨fb, 0, none⟩) ml.length w' CK.out h1 h2 FL.out.okf x hx1 hl1 hB
  have HSR0 := Lib.hid (Ne.srch_start (n := (⟨(N : Int), (S : Int), (D : Int), ml⟩ : Ne.Net)) RT.out hLd f x)
  simp only at hlen hTL
  generalize hTLd : Ne.leadL ml f x L1 (2 * ml.length) = TL at *
  clear hTLd
  have HWL := Lib.hid (show W.length ≤ 1000000 by have := hlen.2; omega)
  have RM := Lib.hid fun w' h1 h2 => show Calls Try.prog 26 #[Ne.encN (⟨(N : Int), (S : Int), (D : Int), ml⟩ : Ne.Net) om cm, .slice (some ⟨fb, 0, none⟩) ml.length ml.length] w' fun e w2 => ∃ v, e = .returned (.tuple #[v, .int .i64 0]) ∧ Ne.OwnL w2 w'.heap.size v (Ne.roomL ml f (2 * ml.length)) ∧ Below w'.heap.size w' w2 from by
    have h := Ne.droom_any (⟨(N : Int), (S : Int), (D : Int), ml⟩ : Ne.Net) om cm (some ⟨fb, 0, none⟩) ml.length f w' h1 h2 hl6 CAP.out
    have e : Ne.roomV (⟨(N : Int), (S : Int), (D : Int), ml⟩ : Ne.Net) f = Ne.roomL ml f (2 * ml.length) := by unfold Ne.roomV; rw [if_neg (by simpa using Ne.flow_chkF CK.out FL.out)]
    have e2 : f.length = ml.length := FL.out.len
    rw [e, Ne.flow_chkF CK.out FL.out, e2] at h
    exact h
  have ST := Lib.hid (fun gl RM U q (hq : q < W.length) (h0 : Ne.Flow (⟨(N : Int), (S : Int), (D : Int), ml⟩ : Ne.Net) gl) (hS : Ne.Srch (⟨(N : Int), (S : Int), (D : Int), ml⟩ : Ne.Net) TL gl x RM U) (b : Ne.BlkW ml TL x (S : Int) (D : Int) gl (W.drop q) g) => Ne.fill_step (n := (⟨(N : Int), (S : Int), (D : Int), ml⟩ : Ne.Net)) CK.out hLd hx1 hq h0 hS b)
  have HBK0 := Lib.hid (show Ne.BlkW ml TL x (S : Int) (D : Int) f (W.drop 0) g from hB.1)
  have HFLO := Lib.hid FL.out
  obtain ⟨U0, hU0⟩ : ∃ U, U = (fun v => TL.filter fun r => decide ((Ne.trF ml r).toNat = v)) := ⟨_, rfl⟩
  simp only at HSR0
  rw [← hU0] at HSR0
  clear hl1 hB hlen hTL hLd hU0
  obtain ⟨n0, n1, n2, n3⟩ := Ne.netBox_cells HN4.out
  go_wp2_with fail
  refine (PA.out _).mono ?_
  rintro e w' ⟨rfl, rfl⟩
  subst hx
  go_wp2_with fail
  refine (BX.out w4 HR4.out HL4.out.irow).mono ?_
  rintro e w5 ⟨o5, c5, v5, rfl, hi, hv, hb⟩
  have HB5 := Lib.hid (HB4.out.trans (hb.mono HB4.out.size))
  have HN5 := Lib.hid (Ne.netBox_below HN4.out hb (Ne.netBox_lt HN4.out))
  have HR5 := Lib.hid (HR4.out.kept hb)
  have HL5 := Lib.hid (HL4.out.kept hb)
  obtain ⟨pw, qw, rfl, _, _, _⟩ := hv.val
  have HV5 := Lib.hid hv
  clear hi hv
  clear hb n0 n1 n2 n3
  obtain ⟨n0, n1, n2, n3⟩ := Ne.netBox_cells HN5.out
  go_wp2_with fail
  refine (RM.out w5 HR5.out HL5.out.irow).mono ?_
  rintro e w6 ⟨v6, rfl, hown, hb⟩
  obtain ⟨KW, hKW⟩ : ∃ K, K = W.length := ⟨_, rfl⟩
  rw [← hKW] at HWL ⊢
  have HKW := Lib.hid hKW
  have HB6 := Lib.hid hb
  have HOW6 := Lib.hid hown
  obtain ⟨ro, rc, hv6, _, _, _, _, _, _⟩ := Rw.own_row Ne.encI_len hown
  subst hv6
  rw [Ne.roomL_len] at HOW6 ⊢
  generalize Ne.roomL ml f (2 * ml.length) = RM0 at *
  clear hKW BX PA RM hown hb n0 n1 n2 n3 HN5 HR5 HL5 HN4 HR4 HL4 HFB4
  go_wp2
  go_loopg [20] KW (fun g0 s20 wr => ∃ (gl RML : List Int) (q : Nat), s20 = .int .i64 (q : Int) ∧ q + g0 = KW ∧ Hid (Ne.Flow (⟨(N : Int), (S : Int), (D : Int), ml⟩ : Ne.Net) gl) ∧ Hid (Ne.Srch (⟨(N : Int), (S : Int), (D : Int), ml⟩ : Ne.Net) TL gl (1 + pa) RML U0) ∧ Hid (Ne.BlkW ml TL (1 + pa) (S : Int) (D : Int) gl (W.drop q) g) ∧ Hid (Ne.OwnL wr w5.heap.size (.slice ro (2 * ml.length) rc) RML) ∧ Hid (Below w5.heap.size w5 wr))
  case atStart => exact ⟨f, RM0, 0, rfl, by omega, HFLO, HSR0, HBK0, HOW6, HB6⟩
  case round =>
    obtain ⟨gl, RML, q, rfl, hq0, HFW, HSR, HBK, HOR, HBW⟩ := hrel
    by_cases hq : q < KW
    · obtain ⟨g1, R, a, hR, ha, hR0, hRl, hxa, ha62, hF1, hb1, hs1, hany, hst⟩ := ST.out gl RML U0 q (by rw [← HKW.out]; exact hq) HFW.out HSR.out HBK.out
      obtain ⟨gw, cc, ot, mt2, am, e1, _, hgw, d0, d1, ham, hown⟩ := (HV5.out.kept HBW.out).at (i := q) (by rw [← HKW.out]; exact hq)
      simp only [Value.slice.injEq] at e1
      obtain ⟨rfl, _, rfl⟩ := e1
      rw [← ha] at ham
      have ham2 := ham.symm
      subst ham2
      rw [← hR] at d0 hown
      have hml : 0 < RML.length := by
        obtain ⟨rm, h⟩ := hst 0 hR0
        have := h.lt
        have := HSR.out.len
        simp only at this
        omega
      obtain ⟨rb, rc2, hv, hrb1, hrb2⟩ := Ne.ownL_row' HOR.out hml
      simp only [Value.slice.injEq] at hv
      obtain ⟨hro, hrx, hrc⟩ := hv
      clear hrx
      have HRO := Lib.hid hro
      have HRB1 := Lib.hid hrb1
      have HRB2 := Lib.hid hrb2
      obtain ⟨K, hK⟩ : ∃ K, K = R.length := ⟨_, rfl⟩
      rw [← hK] at d0 hown hR0 hRl
      have HK := Lib.hid hK
      have hrL : RML.length = 2 * ml.length := HSR.out.len
      obtain ⟨bt, offt, hot, hbt, hct⟩ := row_nat2 (Ne.own_irow hown) (by rw [← hK]; exact hR0)
      subst hot
      rw [← hK] at hct hst
      have hbtl := (Rw.own_row Ne.encI_len hown)
      have HBT : Hid (bt < w5.heap.size) := Lib.hid (by
        obtain ⟨gw', cc', ot', mt2', am', e1', _, _, d0', _, _, hown'⟩ := HV5.out.at (i := q) (by rw [← HKW.out]; exact hq)
        simp only [Value.slice.injEq] at e1'
        obtain ⟨e1', _, e2'⟩ := e1'
        cases e1'
        have hgw5 : gw < w5.heap.size := World.block_lt_of_cell? w5 _ d0'
        have e3 := (HBW.out.cell (p := ⟨gw, q * 2, none⟩) hgw5).symm.trans d0
        rw [d0'] at e3
        simp only [Option.some.injEq, Value.slice.injEq] at e3
        rw [e3.1] at hown'
        obtain ⟨_, _, e4, _, _, _, _, h7, _⟩ := Rw.own_row Ne.encI_len hown'
        simp only [Value.slice.injEq] at e4
        exact (h7 bt offt e4.1.symm).2)
      have HGW : Hid (gw < w5.heap.size) := Lib.hid (by
        obtain ⟨gw', cc', ot', mt2', am', e1', _, _, d0', _, _, _⟩ := HV5.out.at (i := q) (by rw [← HKW.out]; exact hq)
        simp only [Value.slice.injEq] at e1'
        obtain ⟨e1', _, _⟩ := e1'
        cases e1'
        exact World.block_lt_of_cell? w5 _ d0')
      have HD0 := Lib.hid ((HBW.out.cell (p := ⟨gw, q * 2, none⟩) HGW.out).symm.trans d0)
      have HD1 := Lib.hid ((HBW.out.cell (p := ⟨gw, q * 2 + 1, none⟩) HGW.out).symm.trans d1)
      have HCT := Lib.hid (show ∀ i, i < K → w5.cell? ⟨bt, offt + i, none⟩ = some (.int .i64 ((R.getD i 0 : Nat) : Int)) from fun i hi => (HBW.out.cell (p := ⟨bt, offt + i, none⟩) HBT.out).symm.trans (hct i hi))
      have HST := Lib.hid hst
      have HANY := Lib.hid (show (R.take K).any (fun r => decide (Ne.amt RML r - a < 1 + pa)) = true by rw [hK, List.take_length]; exact hany)
      have HS1 := Lib.hid hs1
      have HF1 := Lib.hid hF1
      have HB1 := Lib.hid hb1
      have HTA := Lib.hid (show R.take K = R by rw [hK]; exact List.take_length)
      have HRR := Lib.hid hR
      have HOR0 := Lib.hid (show Ne.OwnL wr w5.heap.size (.slice (some ⟨rb, 0, none⟩) (2 * ml.length) rc) (Ne.lessL RML a (R.take 0)) by rw [← hro]; exact HOR.out)
      have HRL := Lib.hid hrL
      have hqi : (q : Int) < (KW : Int) := by omega
      have hq1 : (0 : Int) ≤ (q : Int) := by omega
      have hqw : IntKind.i64.wrap ((q : Int) + 1) = (q : Int) + 1 := by have := HWL.out; rw [IntKind.wrap_i64]; omega
      subst hro
      clear hR ha hown hct hst hany hs1 hF1 hb1 hK hrb1 hrb2 hrc hml hbtl hgw hbt hrL
      go_wp2
      go_loopw [22, 23] (fun s22 s23 wy => ∃ (fb : Bool) (j : Nat), s22 = .bool fb ∧ s23 = .int .i64 j ∧ j ≤ K ∧ Hid (fb = (R.take j).any (fun r => decide (Ne.amt RML r - a < 1 + pa))) ∧ Hid (Ne.OwnL wy w5.heap.size (.slice (some ⟨rb, 0, none⟩) (2 * ml.length) rc) (Ne.lessL RML a (R.take j))) ∧ Hid (Below w5.heap.size w5 wy)) (fun _ i _ => K - (intOf i).toNat)
      case atStart => exact ⟨false, 0, rfl, rfl, Nat.zero_le _, rfl, HOR0, HBW⟩
      case round =>
        obtain ⟨fb, j, rfl, rfl, hj, HFB', HOJ, HBY⟩ := hrel
        obtain ⟨wy, hwy⟩ : ∃ wy, wy = wr := ⟨_, rfl⟩
        subst hwy
        have d0 := (HBY.out.cell (p := ⟨gw, q * 2, none⟩) HGW.out).trans HD0.out
        have d1 := (HBY.out.cell (p := ⟨gw, q * 2 + 1, none⟩) HGW.out).trans HD1.out
        by_cases hlt : j < K
        · have t0 := (HBY.out.cell (p := ⟨bt, offt + j, none⟩) HBT.out).trans (HCT.out j hlt)
          obtain ⟨rm, hS⟩ := HST.out j hlt
          have hrl := hS.lt
          have hle := hS.le
          have hbig := hS.big
          obtain ⟨c0, c1⟩ := Ne.ownL_cell HOJ.out (i := R.getD j 0) (by rw [Ne.lessL_len, HRL.out]; exact hrl)
          rw [hS.at'] at c0
          have HPUT := Lib.hid (Ne.ownL_put HOJ.out (i := R.getD j 0) (by rw [Ne.lessL_len, HRL.out]; exact hrl) (rm - a))
          have HC := Lib.hid (Ne.ownL_put_cell HOJ.out (i := R.getD j 0) (by rw [Ne.lessL_len, HRL.out]; exact hrl) (rm - a))
          rw [← hS.set] at HPUT
          have HANS := Lib.hid (show (fb || decide (rm - a < 1 + pa)) = (R.take (j + 1)).any (fun r => decide (Ne.amt RML r - a < 1 + pa)) by rw [hS.any, HFB'.out])
          have HBZ := Lib.hid (HBY.out.setCell (p := ⟨rb, R.getD j 0, none⟩) HRB1.out (.int .i64 (rm - a)))
          have HNE1 : rb ≠ gw := fun e => by have h1 := HRB1.out; have h2 := HGW.out; omega
          have HNE2 : rb ≠ bt := fun e => by have h1 := HRB1.out; have h2 := HBT.out; omega
          clear hS
          have HTR := Lib.hid (HCT.out j hlt)
          generalize R.getD j 0 = r at *
          have hji : (j : Int) < (K : Int) := by omega
          have hj0 : (0 : Int) ≤ (j : Int) := by omega
          have hjw : IntKind.i64.wrap ((j : Int) + 1) = (j : Int) + 1 := by rw [IntKind.wrap_i64]; omega
          have hri : (r : Int) < 2 * (ml.length : Int) := by omega
          have hri2 : (r : Int) < ((2 * ml.length : Nat) : Int) := by omega
          have hr0 : (0 : Int) ≤ (r : Int) := by omega
          have hrw : IntKind.i64.wrap (rm - a) = rm - a := by rw [IntKind.wrap_i64]; omega
          have hneg : decide (rm - a < 0) = false := by simp; omega
          have hneg2 : ¬ rm - a < 0 := by omega
          go_wp2
          go_region
          clear d0 d1 t0 c0 c1
          generalize wy.setCell ⟨rb, r, none⟩ (.int .i64 (rm - a)) = wz at *
          have d0 := (HBZ.out.cell (p := ⟨gw, q * 2, none⟩) HGW.out).trans HD0.out
          have t0 := (HBZ.out.cell (p := ⟨bt, offt + j, none⟩) HBT.out).trans (HTR.out)
          have c0 := HC.out
          have HBZ2 := Lib.hid (HBZ.out.trans ((Ne.below_drew (Below.refl wz.heap.size wz)).mono HBZ.out.size))
          have HPU2 := Lib.hid (Rw.own_below HPUT.out (Ne.below_drew (Below.refl wz.heap.size wz)))
          rcases fb with _ | _
          · have HAN2 := Lib.hid (show decide (rm - a < 1 + pa) = (R.take (j + 1)).any (fun r => decide (Ne.amt RML r - a < 1 + pa)) by simpa using HANS.out)
            go_wp2
            refine ⟨?rel, ?measure⟩
            case rel => exact ⟨_, j + 1, rfl, by go_num, by omega, HAN2, HPU2, HBZ2⟩
            case measure => simp [intOf]; omega
          · have HAN2 := Lib.hid (show true = (R.take (j + 1)).any (fun r => decide (Ne.amt RML r - a < 1 + pa)) by simpa using HANS.out)
            go_wp2
            refine ⟨?rel, ?measure⟩
            case rel => exact ⟨_, j + 1, rfl, by go_num, by omega, HAN2, HPU2, HBZ2⟩
            case measure => simp [intOf]; omega
        · have ek : K = j := by omega
          subst ek
          have hfb : fb = true := HFB'.out.trans HANY.out
          subst hfb
          have HOE := Lib.hid (show Ne.OwnL wy w5.heap.size (.slice (some ⟨rb, 0, none⟩) (2 * ml.length) rc) (Ne.lessL RML a R) by have h := HOJ.out; rw [HTA.out] at h; exact h)
          have hax : decide (a < 1 + pa) = false := by simp; omega
          have hax2 : ¬ a < 1 + pa := by omega
          clear hlt hj
          rcases Nat.eq_zero_or_pos q with hqz | hqp
          · have z1 : ((q : Int) == 0) = true := by simp; omega
            have z2 : (q == 0) = true := by simp; omega
            have z3 : decide (0 < (q : Int)) = false := by simp; omega
            have z4 : decide (0 < q) = false := by simp; omega
            have z5 : ¬ (0 : Int) < (q : Int) := by omega
            clear hqz
            go_wp2
            go_loopw [24, 25] (fun s24 s25 wz => s24 = .bool true ∧ s25 = .int .i64 0 ∧ Hid (wy = wz)) (fun _ _ _ => 0)
            case atStart => exact ⟨rfl, rfl, Lib.hid rfl⟩
            case round =>
              obtain ⟨rfl, rfl, HWE⟩ := hrel
              obtain rfl := HWE.out
              go_wp2
              go_roundg (KW - (q + 1))
              case measure => omega
              case rel => exact ⟨g1, _, q + 1, by go_num, by omega, HF1, HS1, HB1, HOE, HBY⟩
          · obtain ⟨p, hp⟩ : ∃ p, q = p + 1 := ⟨q - 1, by omega⟩
            obtain ⟨j0, hjl, hll, heq, hrise⟩ := HRISE.out p (by have := HKW.out; omega)
            rw [← hp, ← HRR.out] at hjl hll heq hrise
            obtain ⟨gw', cc', op, mp, am', e1, _, _, dp, _, _, hownp⟩ := HV5.out.at (i := p) (by rw [← HKW.out]; omega)
            simp only [Value.slice.injEq] at e1
            obtain ⟨e1, e8, e9⟩ := e1
            clear e8 e9
            cases e1
            obtain ⟨R2, hR2⟩ : ∃ R2, R2 = (W.getD p ([], 0)).1 := ⟨_, rfl⟩
            rw [← hR2] at hll heq hrise dp hownp
            obtain ⟨bp, offp, hop, hbp, hcp⟩ := row_nat2 (Ne.own_irow hownp) (by omega)
            subst hop
            rw [hll, ← HK.out] at dp hcp
            rw [← HK.out] at hjl
            have DP := Lib.hid ((HBY.out.cell (p := ⟨gw, p * 2, none⟩) HGW.out).trans dp)
            have HCP := Lib.hid (show ∀ i, i < K → wy.cell? ⟨bp, offp + i, none⟩ = some (.int .i64 ((R2.getD i 0 : Nat) : Int)) from fun i hi => (HBY.out.cell (p := ⟨bp, offp + i, none⟩) hbp).trans (hcp i hi))
            have HCY := Lib.hid (show ∀ i, i < K → wy.cell? ⟨bt, offt + i, none⟩ = some (.int .i64 ((R.getD i 0 : Nat) : Int)) from fun i hi => (HBY.out.cell (p := ⟨bt, offt + i, none⟩) HBT.out).trans (HCT.out i hi))
            have HEQ := Lib.hid heq
            have HRS := Lib.hid hrise
            have z1 : ((q : Int) == 0) = false := by simp; omega
            have z2 : (q == 0) = false := by simp; omega
            have z3 : decide (0 < (q : Int)) = true := by simp; omega
            have z4 : decide (0 < q) = true := by simp; omega
            have z5 : (0 : Int) < (q : Int) := by omega
            have hqm : IntKind.i64.wrap ((q : Int) - 1) = (p : Int) := by have := HWL.out; rw [IntKind.wrap_i64]; omega
            have hpi : (p : Int) < (KW : Int) := by omega
            have hp0 : (0 : Int) ≤ (p : Int) := by omega
            clear hll heq hrise hcp hbp hownp hR2 dp hp
            go_wp2
            have d2 := DP.out
            go_loopw [24, 25] (fun s24 s25 wz => ∃ (ab : Bool) (k : Nat), s24 = .bool ab ∧ s25 = .int .i64 (k : Int) ∧ Hid (wy = wz) ∧ ((ab = false ∧ k ≤ j0) ∨ (ab = true ∧ k = j0 + 1))) (fun _ i _ => j0 + 1 - (intOf i).toNat)
            case atStart => exact ⟨false, 0, rfl, rfl, Lib.hid rfl, .inl ⟨rfl, by omega⟩⟩
            case round =>
              obtain ⟨ab, k, rfl, rfl, HWE, hab⟩ := hrel
              obtain rfl := HWE.out
              rcases hab with ⟨rfl, hk⟩ | ⟨rfl, hk⟩
              · have hkK : k < K := by omega
                have t1 := HCY.out k hkK
                have t2 := HCP.out k hkK
                have hki : (k : Int) < (K : Int) := by omega
                have hk0 : (0 : Int) ≤ (k : Int) := by omega
                have hkw : IntKind.i64.wrap ((k : Int) + 1) = (k : Int) + 1 := by rw [IntKind.wrap_i64]; omega
                have hkd : decide ((k : Int) < (K : Int)) = true := by simpa using hkK
                have hkd2 : decide (k < K) = true := by simpa using hkK
                by_cases hkj : k = j0
                · have hr := HRS.out
                  rw [← hkj] at hr
                  have HKJ := Lib.hid hkj
                  clear hkj
                  generalize R.getD k 0 = r1 at *
                  generalize R2.getD k 0 = r2 at *
                  have y1 : decide ((r1 : Int) < (r2 : Int)) = false := by simp; omega
                  have y2 : decide (r1 < r2) = false := by simp; omega
                  have y3 : decide ((r2 : Int) < (r1 : Int)) = true := by simp; omega
                  have y4 : decide (r2 < r1) = true := by simp; omega
                  have y5 : ¬ (r1 : Int) < (r2 : Int) := by omega
                  have y6 : (r2 : Int) < (r1 : Int) := by omega
                  go_wp2
                  refine ⟨?rel, ?measure⟩
                  case rel => exact ⟨true, k + 1, by simp [y3, y4, y6], by go_num, Lib.hid (by first | rfl | trivial), .inr ⟨rfl, by have := HKJ.out; omega⟩⟩
                  case measure => simp [intOf]; omega
                · have hr := HEQ.out k (by omega)
                  rw [hr] at t2
                  generalize R.getD k 0 = r1 at *
                  have y1 : decide ((r1 : Int) < (r1 : Int)) = false := by simp
                  go_wp2
                  refine ⟨?rel, ?measure⟩
                  case rel => exact ⟨false, k + 1, by simp, by go_num, Lib.hid (by first | rfl | trivial), .inl ⟨rfl, by omega⟩⟩
                  case measure => simp [intOf]; omega
              · have hk0 : (0 : Int) ≤ (k : Int) := by omega
                by_cases hkK : k < K
                · have hki : (k : Int) < (K : Int) := by omega
                  have hkd : decide ((k : Int) < (K : Int)) = true := by simpa using hkK
                  have hkd2 : decide (k < K) = true := by simpa using hkK
                  go_wp2
                  go_roundg (KW - (q + 1))
                  case measure => omega
                  case rel => exact ⟨g1, _, q + 1, by go_num, by omega, HF1, HS1, HB1, HOE, HBY⟩
                · have hki : ¬ (k : Int) < (K : Int) := by omega
                  have hkd : decide ((k : Int) < (K : Int)) = false := by simpa using hkK
                  have hkd2 : decide (k < K) = false := by simpa using hkK
                  go_wp2
                  go_roundg (KW - (q + 1))
                  case measure => omega
                  case rel => exact ⟨g1, _, q + 1, by go_num, by omega, HF1, HS1, HB1, HOE, HBY⟩
    · have ek : KW = q := by omega
      subst ek
      clear hq
      go_wp2
      go_ret
      exact ⟨rfl, HB5.out.trans (HBW.out.mono HB5.out.size)⟩

end Go.Proofs.Ytdnchebbdkgccaa.plainFills
