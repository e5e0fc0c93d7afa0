/- LevelTurned: for every input the law returns true and its arguments read as they did. No condition. -/
import Derived.Test.YtcelggfnfnaajaaRfl7
import Derived.Test.YtcelggfnfnaajaaDturn
import Derived.Test.YtcelggfnfnaajaaOpenc
import Derived.Test.YtcelggfnfnaajaaRows
import Derived.WalkKit
import Derived.ProofKit
import Derived.OpenShut
import Derived.ShutString
import Derived.ChangeOld
import Derived.Below
import Derived.Deep.Strs
namespace Go.Proofs.Ytcelggfnfnaajaa.levelTurned
open Go.ChangeShapes Go.WideShapes Go.ChangeAt Go.RowKit
open Go.ChangeMaps (open_string shut_string)
set_option linter.unusedVariables false
set_option linter.unusedSimpArgs false

theorem own : ownKnob Try.prog.godebug = none := by kernel_rfl
theorem laidOut : laidOutB Try.prog = true := by kernel_rfl

def IntsIn (k : IntKind) (w : World) (a : Option Addr) (len cap : Nat) (zs : List Int) : Prop :=
  (a = none ∧ len = 0 ∧ cap = 0 ∧ zs = []) ∨
  ∃ x, a = some x ∧ len ≤ cap ∧ cap ≤ maxLen ∧ zs.length = cap ∧ (∀ i, i < zs.length → w.cell? (x.add i) = some (.int k (zs.getD i 0))) ∧ ∀ n ∈ zs, (Lit.int k n).wf = true



set_option maxRecDepth 100000 in
set_option maxHeartbeats 4000000 in
theorem walk (a0 : Int) (a1 : Int) (a2 : List Ne.Arc) (o2 : Option Addr) (c2 : Nat) (a3 : Option Addr) (len3 cap3 : Nat) (l3 : List Int) (a4 : Int) (w : World) (w0 : (Lit.int .i64 a0).wf = true) (w1 : (Lit.int .i64 a1).wf = true) (k2 : ∀ a ∈ a2, Ne.Arc.ok a) (z2 : a2.length ≤ c2) (y2 : c2 ≤ maxLen) (n2 : o2 = none → c2 = 0) (r2 : Ne.ARow w o2 a2) (w3 : IntsIn .i64 w a3 len3 cap3 l3) (w4 : (Lit.int .i64 a4).wf = true) :
    Calls Try.prog 8 #[.int .i64 a0, .int .i64 a1, .slice o2 a2.length c2, .slice a3 len3 cap3, .int .i64 a4] w fun e w' => e = .returned (.bool true) ∧ Below w.heap.size w w' := by
  have HSH := Lib.hid (Ne.shown_any w)
  obtain ⟨mn, hmn⟩ : ∃ x, x = (Ne.madeN a0 a1 a2).n := ⟨_, rfl⟩
  obtain ⟨ms, hms⟩ : ∃ x, x = (Ne.madeN a0 a1 a2).s := ⟨_, rfl⟩
  obtain ⟨mt, hmt⟩ : ∃ x, x = (Ne.madeN a0 a1 a2).t := ⟨_, rfl⟩
  obtain ⟨ml, hml⟩ : ∃ x, x = (Ne.madeN a0 a1 a2).l := ⟨_, rfl⟩
  have em : Ne.madeN a0 a1 a2 = ⟨mn, ms, mt, ml⟩ := by rw [hmn, hms, hmt, hml]
  obtain ⟨f1, f2, f3, f4, f5, f6, f7, f8, f9⟩ := Ne.madeN_fine (nodes := a0) (ends := a1) k2
  have ck := Ne.made_check (nodes := a0) (ends := a1) k2
  have MD := Lib.hid fun w' (h : Ne.ARow w' o2 a2) => Ne.made_s a0 a1 a2 o2 c2 w' (bounds_i64 w0) (bounds_i64 w1) k2 h
  rw [em] at MD f1 f2 f3 f4 f5 f6 f7 f8 f9 ck
  simp only at f1 f2 f3 f4 f5 f6 f7 f8 f9
  clear hmn hms hmt hml em
  have f8' : ml.length ≤ 24 := by omega
  clear f8
  have CK := Lib.hid ck
  have RT := Lib.hid (Ne.right_of ck)
  have FI := Lib.hid f9
  have CAP := Lib.hid (show ∀ a ∈ ml, Ne.in64 a.cap from fun a ha => by have := (f9 a ha).2.2; unfold Ne.in64; omega)
  have hl6 : ml.length ≤ 1000000 := by omega
  have F7 := Lib.hid f7
  have RA := Lib.hid r2
  clear r2 f7 f9 ck
  obtain ⟨N, rfl⟩ : ∃ N : Nat, mn = (N : Int) := ⟨mn.toNat, by omega⟩
  obtain ⟨S, rfl⟩ : ∃ S : Nat, ms = (S : Int) := ⟨ms.toNat, by omega⟩
  obtain ⟨D, rfl⟩ : ∃ D : Nat, mt = (D : Int) := ⟨mt.toNat, by omega⟩
  obtain ⟨ks, hk3, hq3, bq3, _, _, _⟩ := Ne.ints_row w3
  subst hk3
  clear w3
  have BK3 := Lib.hid bq3
  have KR3 := Lib.hid hq3
  clear bq3 hq3
  have b4 := bounds_i64 w4
  have bpa := Ne.pickN_bd (c := a4) (n := 10) (by omega)
  have PA := Lib.hid fun w' => Ne.pick_any a4 10 w' b4.1 b4.2 (by omega) (by omega)
  generalize Ne.pickN a4 10 = z at *
  clear b4
  have hz0 : 0 ≤ z := by omega
  have hz10 : z ≤ 10 := by omega
  clear bpa
  have hck2 : Ne.checkN (Ne.turnN ⟨(N : Int), (S : Int), (D : Int), ml⟩) = 0 := Ne.turn_check (n := ⟨(N : Int), (S : Int), (D : Int), ml⟩) ⟨f1, by show (N : Int) ≤ 500; omega, f3, f4, f5, f6, F7.out, by show ml.length ≤ 1000; omega⟩ FI.out
  have CK2 := Lib.hid hck2
  clear hck2
  go_enter Try.func8, Try.ntmps8
  go_wp2_with fail
  refine HSH.out.mono ?_
  rintro e w1 ⟨rfl, hb⟩
  have HB1 := Lib.hid hb
  clear hb
  go_wp2_with fail
  refine (MD.out _ (RA.out.kept HB1.out)).mono ?_
  rintro e w2 ⟨om, cm, rfl, ho, hb⟩
  have HB2 := Lib.hid (HB1.out.trans (hb.mono HB1.out.size))
  have HV2 := Lib.hid (Rw.own_lt ho)
  have HO3 := Lib.hid (Rw.own_base (Rw.own_alloc ho (.cells #[.int .i64 (N : Int), .int .i64 (S : Int), .int .i64 (D : Int), .slice om ml.length cm] 24)) (B' := w.heap.size) HB1.out.size)
  have HN3 := Lib.hid (Ne.netBox_new w2 (N : Int) (S : Int) (D : Int) (.slice om ml.length cm))
  have hz2 : w.heap.size ≤ w2.heap.size := HB2.out.size
  have HB3 := Lib.hid (HB2.out.alloc hz2 (.cells #[.int .i64 (N : Int), .int .i64 (S : Int), .int .i64 (D : Int), .slice om ml.length cm] 24))
  clear ho hb MD RA HSH
  go_wp2_with fail
  obtain ⟨bn, hbn⟩ : ∃ b, b = w2.heap.size := ⟨_, rfl⟩
  have hbn3 : bn < (w2.alloc (.cells #[.int .i64 (N : Int), .int .i64 (S : Int), .int .i64 (D : Int), .slice om ml.length cm] 24)).heap.size := by rw [hbn]; simp
  rw [← hbn] at HN3 HV2 hz2 ⊢
  clear hbn HB2 HB1
  generalize (w2.alloc (.cells #[.int .i64 (N : Int), .int .i64 (S : Int), .int .i64 (D : Int), .slice om ml.length cm] 24)) = W3 at *
  have HR3 := Lib.hid (Ne.arow_ofA HO3.out)
  obtain ⟨f, hf⟩ : ∃ x, x = Ne.routeN ⟨(N : Int), (S : Int), (D : Int), ml⟩ ks := ⟨_, rfl⟩
  have FL := Lib.hid (show Ne.Flow ⟨(N : Int), (S : Int), (D : Int), ml⟩ f by rw [hf]; exact Ne.route_flow RT.out _)
  have RD := Lib.hid fun w' h1 h2 => Ne.routed_any ⟨(N : Int), (S : Int), (D : Int), ml⟩ om cm a3 cap3 ks w' h1 h2 CK.out BK3.out
  rw [← hf] at RD
  refine (RD.out _ HR3.out (KR3.out.kept HB3.out)).mono ?_
  rintro e w4 ⟨fb, rfl, hfb, hl, hb⟩
  have HB4 := Lib.hid (HB3.out.trans (hb.mono HB3.out.size))
  have HN4 := Lib.hid (Ne.netBox_below HN3.out hb (Ne.netBox_lt HN3.out))
  have HO4 := Lib.hid (Rw.own_below HO3.out hb)
  have HR4 := Lib.hid (HR3.out.kept hb)
  have HFB4 := Lib.hid hl
  have hfb2 := hl.lt
  clear hl hb
  have HL4 := Lib.hid HFB4.out
  have HFB := Lib.hid hfb
  obtain ⟨L1, hl1⟩ := Ne.lev_exists RT.out f (1 + z)
  obtain ⟨L2, hl2⟩ := Ne.lev_exists (Ne.right_of CK2.out) f (1 + z)
  have hfl := FL.out.len
  simp only at hfl
  have hre2 := Ne.reE_turned (n := ⟨(N : Int), (S : Int), (D : Int), ml⟩) (x := 1 + z) CK2.out FL.out (by omega)
  have hCK2 : Ne.checkN ⟨(N : Int), (D : Int), (S : Int), ml.map Ne.turnA⟩ = 0 := CK2.out
  have hle2 : Ne.IsLev ⟨(N : Int), (D : Int), (S : Int), ml.map Ne.turnA⟩ f (1 + z) L2 := hl2
  have DA := Lib.hid fun w' h1 h2 => Ne.deep_flow (n := ⟨(N : Int), (S : Int), (D : Int), ml⟩) (f := f) om cm (some ⟨fb, 0, none⟩) ml.length w' CK.out h1 h2 FL.out (1 + z) (by omega) hl1
  have DB := Lib.hid fun ao' cap' w' h1 h2 => Ne.ddeep_any ⟨(N : Int), (D : Int), (S : Int), ml.map Ne.turnA⟩ ao' cap' (some ⟨fb, 0, none⟩) ml.length f (1 + z) L2 w' h1 h2 (by simp; omega) (Ne.cap_64 (n := ⟨(N : Int), (D : Int), (S : Int), ml.map Ne.turnA⟩) (Ne.right_of hCK2)) (fun _ => hle2)
  rw [show Ne.reE ⟨(N : Int), (D : Int), (S : Int), ml.map Ne.turnA⟩ f (1 + z) = 0 from hre2, (Ne.lvV_ok (n := ⟨(N : Int), (D : Int), (S : Int), ml.map Ne.turnA⟩) hre2).2.2, hfl] at DB
  have TU := Lib.hid fun w' h0 h1 => Ne.turn_any ⟨(N : Int), (S : Int), (D : Int), ml⟩ om cm w' h0 h1 hl6
  have RX := Lib.hid fun w' h1 h2 => Ne.reach_flow (n := ⟨(N : Int), (S : Int), (D : Int), ml⟩) (f := f) om cm (some ⟨fb, 0, none⟩) ml.length w' CK.out h1 h2 FL.out (1 + z) (by omega)
  have HSK := Lib.hid (fun M (h : Ne.IsReach ⟨(N : Int), (S : Int), (D : Int), ml⟩ f (1 + z) M) => Ne.sink_says RT.out hl1 h)
  have HML := Lib.hid (fun M (h : Ne.IsReach ⟨(N : Int), (S : Int), (D : Int), ml⟩ f (1 + z) M) => show M.length = N + 1 by have := h.len; simpa using this)
  have HTE := Ne.lev_turned RT.out (Ne.right_of CK2.out) hl1 hl2
  clear hl1 hl2 hle2 hre2 hfl hCK2 CK2
  generalize hIR : Ne.IsReach ⟨(N : Int), (S : Int), (D : Int), ml⟩ f (1 + z) = IR at *
  clear hIR
  simp only [Int.toNat_natCast, Ne.turnN] at DA DB TU RX HSK HTE
  rw [← HTE] at DB
  clear HTE
  obtain ⟨d, hd⟩ : ∃ d, Ne.amt L1 D = d := ⟨_, rfl⟩
  simp only [hd] at DA DB HSK
  clear hd
  obtain ⟨n0, n1, n2, n3⟩ := Ne.netBox_cells HN4.out
  have HOM := Lib.hid (show om = none → cm = 0 by
    obtain ⟨ao', cap', h1, _, _, h4, _⟩ := Rw.own_row Ne.encA_len HO4.out
    simp only [Value.slice.injEq] at h1
    obtain ⟨rfl, _, rfl⟩ := h1
    exact h4)
  go_wp2_with fail
  refine (PA.out _).mono ?_
  rintro e w' ⟨rfl, rfl⟩
  go_wp2_with fail
  refine (DA.out w4 HR4.out HL4.out.irow).mono ?_
  rintro e w5 ⟨rfl, hb⟩
  have HB5 := Lib.hid (HB4.out.trans (hb.mono HB4.out.size))
  have HN5 := Lib.hid (Ne.netBox_below HN4.out hb (Ne.netBox_lt HN4.out))
  have HR5 := Lib.hid (HR4.out.kept hb)
  have HL5 := Lib.hid (HL4.out.kept hb)
  clear hb n0 n1 n2 n3
  obtain ⟨n0, n1, n2, n3⟩ := Ne.netBox_cells HN5.out
  go_wp2_with fail
  refine (TU.out w5 HOM.out HR5.out).mono ?_
  rintro e w6 ⟨ao6, cap6, rfl, ho6, hb⟩
  have HT6 := Lib.hid (Ne.arow_ofA ho6)
  clear ho6
  have HB6 := Lib.hid (HB5.out.trans (hb.mono HB5.out.size))
  have HN6 := Lib.hid (Ne.netBox_below HN5.out hb (Ne.netBox_lt HN5.out))
  have HR6 := Lib.hid (HR5.out.kept hb)
  have HL6 := Lib.hid (HL5.out.kept hb)
  clear hb n0 n1 n2 n3
  obtain ⟨n0, n1, n2, n3⟩ := Ne.netBox_cells HN6.out
  go_wp2_with fail
  refine (DB.out ao6 cap6 w6 HT6.out HL6.out.irow).mono ?_
  rintro e w7 ⟨rfl, hb⟩
  have HB7 := Lib.hid (HB6.out.trans (hb.mono HB6.out.size))
  have HN7 := Lib.hid (Ne.netBox_below HN6.out hb (Ne.netBox_lt HN6.out))
  have HR7 := Lib.hid (HR6.out.kept hb)
  have HL7 := Lib.hid (HL6.out.kept hb)
  clear hb n0 n1 n2 n3
  obtain ⟨n0, n1, n2, n3⟩ := Ne.netBox_cells HN7.out
  go_wp2_with fail
  refine (RX.out w7 HR7.out HL7.out.irow).mono ?_
  rintro e w8 ⟨b8, c8, M, rfl, hi, hm, hb⟩
  obtain ⟨s1, s2, s3⟩ := HSK.out M hi
  have HMLM := HML.out M hi
  have HB8 := Lib.hid (HB7.out.trans (hb.mono HB7.out.size))
  have HN8 := Lib.hid (Ne.netBox_below HN7.out hb (Ne.netBox_lt HN7.out))
  have HR8 := Lib.hid (HR7.out.kept hb)
  have HL8 := Lib.hid (HL7.out.kept hb)
  have HM8 := Lib.hid hm
  clear hm hi
  clear hb n0 n1 n2 n3
  obtain ⟨n0, n1, n2, n3⟩ := Ne.netBox_cells HN8.out
  have q0 := HM8.out.cell (i := D) (by rw [HMLM]; omega)
  rw [s1] at q0
  have hdi : (D : Int) < (N : Int) + 1 := by omega
  have hd0 : (0 : Int) ≤ (D : Int) := by omega
  have t1 : decide (d < (N : Int)) = true := by simpa using s2
  have t2 : (d != 0) = true := by simpa using s3
  have t3 : (d == d) = true := by simp
  clear s1 s2 s3 HMLM HSK HML RX DB DA TU PA
  by_cases c : 0 ≤ d
  · have c' : decide (0 ≤ d) = true := by simpa using c
    rw [c'] at q0
    go_wp2
    go_ret
    exact ⟨rfl, HB8.out⟩
  · have c' : decide (0 ≤ d) = false := by simpa using c
    rw [c'] at q0
    go_wp2
    go_ret
    exact ⟨rfl, HB8.out⟩

end Go.Proofs.Ytcelggfnfnaajaa.levelTurned
