/- LevelRooms: for every input the law returns true and its arguments read as they did. No condition. -/
import Derived.Test.YtcelggfnfnaajaaLw7
import Derived.Test.YtcelggfnfnaajaaOpenc
import Derived.Deep.LoopGhost
import Derived.Deep.DeepCutAuto
import Derived.Test.YtcelggfnfnaajaaRows
import Derived.WalkKit
import Derived.ProofKit
import Derived.OpenShut
import Derived.ShutString
import Derived.ChangeOld
import Derived.Below
import Derived.Deep.Strs
namespace Go.Proofs.Ytcelggfnfnaajaa.levelRooms
open Go.ChangeShapes Go.WideShapes Go.ChangeAt Go.RowKit
open Go.ChangeMaps (open_string shut_string)
set_option linter.unusedVariables false
set_option linter.unusedSimpArgs false

theorem own : ownKnob Try.prog.godebug = none := by kernel_rfl
theorem laidOut : laidOutB Try.prog = true := by kernel_rfl

def IntsIn (k : IntKind) (w : World) (a : Option Addr) (len cap : Nat) (zs : List Int) : Prop :=
  (a = none ∧ len = 0 ∧ cap = 0 ∧ zs = []) ∨
  ∃ x, a = some x ∧ len ≤ cap ∧ cap ≤ maxLen ∧ zs.length = cap ∧ (∀ i, i < zs.length → w.cell? (x.add i) = some (.int k (zs.getD i 0))) ∧ ∀ n ∈ zs, (Lit.int k n).wf = true



set_option maxRecDepth 100000 in
set_option maxHeartbeats 4000000 in
theorem walk (a0 : Int) (a1 : Int) (a2 : List Ne.Arc) (o2 : Option Addr) (c2 : Nat) (a3 : Option Addr) (len3 cap3 : Nat) (l3 : List Int) (a4 : Int) (a5 : Int) (w : World) (w0 : (Lit.int .i64 a0).wf = true) (w1 : (Lit.int .i64 a1).wf = true) (k2 : ∀ a ∈ a2, Ne.Arc.ok a) (z2 : a2.length ≤ c2) (y2 : c2 ≤ maxLen) (n2 : o2 = none → c2 = 0) (r2 : Ne.ARow w o2 a2) (w3 : IntsIn .i64 w a3 len3 cap3 l3) (w4 : (Lit.int .i64 a4).wf = true) (w5 : (Lit.int .i64 a5).wf = true) :
    Calls Try.prog 6 #[.int .i64 a0, .int .i64 a1, .slice o2 a2.length c2, .slice a3 len3 cap3, .int .i64 a4, .int .i64 a5] w fun e w' => e = .returned (.bool true) ∧ Below w.heap.size w w' := by
  have HSH := Lib.hid (Ne.shown_any w)
  obtain ⟨mn, hmn⟩ : ∃ x, x = (Ne.madeN a0 a1 a2).n := ⟨_, rfl⟩
  obtain ⟨ms, hms⟩ : ∃ x, x = (Ne.madeN a0 a1 a2).s := ⟨_, rfl⟩
  obtain ⟨mt, hmt⟩ : ∃ x, x = (Ne.madeN a0 a1 a2).t := ⟨_, rfl⟩
  obtain ⟨ml, hml⟩ : ∃ x, x = (Ne.madeN a0 a1 a2).l := ⟨_, rfl⟩
  have em : Ne.madeN a0 a1 a2 = ⟨mn, ms, mt, ml⟩ := by rw [hmn, hms, hmt, hml]
  obtain ⟨f1, f2, f3, f4, f5, f6, f7, f8, f9⟩ := Ne.madeN_fine (nodes := a0) (ends := a1) k2
  have ck := Ne.made_check (nodes := a0) (ends := a1) k2
  have MD := Lib.hid fun w' (h : Ne.ARow w' o2 a2) => Ne.made_s a0 a1 a2 o2 c2 w' (bounds_i64 w0) (bounds_i64 w1) k2 h
  rw [em] at MD f1 f2 f3 f4 f5 f6 f7 f8 f9 ck
  simp only at f1 f2 f3 f4 f5 f6 f7 f8 f9
  clear hmn hms hmt hml em
  have f8' : ml.length ≤ 24 := by omega
  clear f8
  have CK := Lib.hid ck
  have RT := Lib.hid (Ne.right_of ck)
  have FI := Lib.hid f9
  have CAP := Lib.hid (show ∀ a ∈ ml, Ne.in64 a.cap from fun a ha => by have := (f9 a ha).2.2; unfold Ne.in64; omega)
  have hl6 : ml.length ≤ 1000000 := by omega
  have F7 := Lib.hid f7
  have RA := Lib.hid r2
  clear r2 f7 f9 ck
  obtain ⟨N, rfl⟩ : ∃ N : Nat, mn = (N : Int) := ⟨mn.toNat, by omega⟩
  obtain ⟨S, rfl⟩ : ∃ S : Nat, ms = (S : Int) := ⟨ms.toNat, by omega⟩
  obtain ⟨D, rfl⟩ : ∃ D : Nat, mt = (D : Int) := ⟨mt.toNat, by omega⟩
  obtain ⟨ks, hk3, hq3, bq3, _, _, _⟩ := Ne.ints_row w3
  subst hk3
  clear w3
  have BK3 := Lib.hid bq3
  have KR3 := Lib.hid hq3
  clear bq3 hq3
  have b4 := bounds_i64 w4
  have b5 := bounds_i64 w5
  have bpa := Ne.pickN_bd (c := a4) (n := 30) (by omega)
  have bpb := Ne.pickN_bd (c := a5) (n := 30) (by omega)
  have PA := Lib.hid fun w' => Ne.pick_any a4 30 w' b4.1 b4.2 (by omega) (by omega)
  have PB := Lib.hid fun w' => Ne.pick_any a5 30 w' b5.1 b5.2 (by omega) (by omega)
  generalize Ne.pickN a4 30 = pa at *
  generalize Ne.pickN a5 30 = pb at *
  obtain ⟨z, u, hmin, hmax, hz0, hzu, hu30⟩ := Ne.min_max_pick pa pb bpa bpb
  clear bpa bpb b4 b5
  go_enter Try.func6, Try.ntmps6
  go_wp2_with fail
  refine HSH.out.mono ?_
  rintro e w1 ⟨rfl, hb⟩
  have HB1 := Lib.hid hb
  clear hb
  go_wp2_with fail
  refine (MD.out _ (RA.out.kept HB1.out)).mono ?_
  rintro e w2 ⟨om, cm, rfl, ho, hb⟩
  have HB2 := Lib.hid (HB1.out.trans (hb.mono HB1.out.size))
  have HV2 := Lib.hid (Rw.own_lt ho)
  have HO3 := Lib.hid (Rw.own_base (Rw.own_alloc ho (.cells #[.int .i64 (N : Int), .int .i64 (S : Int), .int .i64 (D : Int), .slice om ml.length cm] 24)) (B' := w.heap.size) HB1.out.size)
  have HN3 := Lib.hid (Ne.netBox_new w2 (N : Int) (S : Int) (D : Int) (.slice om ml.length cm))
  have hz2 : w.heap.size ≤ w2.heap.size := HB2.out.size
  have HB3 := Lib.hid (HB2.out.alloc hz2 (.cells #[.int .i64 (N : Int), .int .i64 (S : Int), .int .i64 (D : Int), .slice om ml.length cm] 24))
  clear ho hb MD RA HSH
  go_wp2_with fail
  obtain ⟨bn, hbn⟩ : ∃ b, b = w2.heap.size := ⟨_, rfl⟩
  have hbn3 : bn < (w2.alloc (.cells #[.int .i64 (N : Int), .int .i64 (S : Int), .int .i64 (D : Int), .slice om ml.length cm] 24)).heap.size := by rw [hbn]; simp
  rw [← hbn] at HN3 HV2 hz2 ⊢
  clear hbn HB2 HB1
  generalize (w2.alloc (.cells #[.int .i64 (N : Int), .int .i64 (S : Int), .int .i64 (D : Int), .slice om ml.length cm] 24)) = W3 at *
  have HR3 := Lib.hid (Ne.arow_ofA HO3.out)
  obtain ⟨f, hf⟩ : ∃ x, x = Ne.routeN ⟨(N : Int), (S : Int), (D : Int), ml⟩ ks := ⟨_, rfl⟩
  have FL := Lib.hid (show Ne.Flow ⟨(N : Int), (S : Int), (D : Int), ml⟩ f by rw [hf]; exact Ne.route_flow RT.out _)
  have RD := Lib.hid fun w' h1 h2 => Ne.routed_any ⟨(N : Int), (S : Int), (D : Int), ml⟩ om cm a3 cap3 ks w' h1 h2 CK.out BK3.out
  rw [← hf] at RD
  refine (RD.out _ HR3.out (KR3.out.kept HB3.out)).mono ?_
  rintro e w4 ⟨fb, rfl, hfb, hl, hb⟩
  have HB4 := Lib.hid (HB3.out.trans (hb.mono HB3.out.size))
  have HN4 := Lib.hid (Ne.netBox_below HN3.out hb (Ne.netBox_lt HN3.out))
  have HO4 := Lib.hid (Rw.own_below HO3.out hb)
  have HR4 := Lib.hid (HR3.out.kept hb)
  have HFB4 := Lib.hid hl
  have hfb2 := hl.lt
  clear hl hb
  have HL4 := Lib.hid HFB4.out
  have HFB := Lib.hid hfb
  obtain ⟨L1, hl1⟩ := Ne.lev_exists RT.out f (1 + z)
  obtain ⟨L2, hl2⟩ := Ne.lev_exists RT.out f (1 + u)
  obtain ⟨L3, hl3⟩ := Ne.lev_exists RT.out f 4611686018427387904
  have hrf := Ne.room_far RT.out FL.out.wi
  have LX := Lib.hid fun w' h1 h2 => Ne.levels_flow (n := ⟨(N : Int), (S : Int), (D : Int), ml⟩) (f := f) om cm (some ⟨fb, 0, none⟩) ml.length w' CK.out h1 h2 FL.out (1 + z) (by omega) hl1
  have LY := Lib.hid fun w' h1 h2 => Ne.levels_flow (n := ⟨(N : Int), (S : Int), (D : Int), ml⟩) (f := f) om cm (some ⟨fb, 0, none⟩) ml.length w' CK.out h1 h2 FL.out (1 + u) (by omega) hl2
  have LZ := Lib.hid fun w' h1 h2 => Ne.levels_flow (n := ⟨(N : Int), (S : Int), (D : Int), ml⟩) (f := f) om cm (some ⟨fb, 0, none⟩) ml.length w' CK.out h1 h2 FL.out 4611686018427387904 (by omega) hl3
  have LD := Lib.hid fun w' h1 h2 => Ne.leads_flow (n := ⟨(N : Int), (S : Int), (D : Int), ml⟩) (f := f) om cm (some ⟨fb, 0, none⟩) ml.length w' CK.out h1 h2 FL.out 4611686018427387904 (by omega) hl3
  rw [Ne.lead_far (n := ⟨(N : Int), (S : Int), (D : Int), ml⟩) hrf] at LD
  have HAB := Lib.hid (fun (i : Nat) (h : i < N + 1) => Ne.lev_rooms RT.out hl1 hl2 (by omega) (i := i) (by simpa using h))
  have HFA := Lib.hid (fun (i : Nat) (h : i < N + 1) => Ne.lev_far RT.out hl3 hrf (i := i) (by simpa using h))
  have HL1 := Lib.hid (show L1.length = N + 1 by have := hl1.len; simpa using this)
  have HL2 := Lib.hid (show L2.length = N + 1 by have := hl2.len; simpa using this)
  have HL3 := Lib.hid (show L3.length = N + 1 by have := hl3.len; simpa using this)
  clear hl1 hl2 hl3 hrf
  simp only [Int.toNat_natCast, List.length_nil] at LX LY LZ LD HFA
  obtain ⟨n0, n1, n2, n3⟩ := Ne.netBox_cells HN4.out
  go_wp2_with fail
  refine (PA.out _).mono ?_
  rintro e w' ⟨rfl, rfl⟩
  go_wp2_with fail
  refine (PB.out _).mono ?_
  rintro e w' ⟨rfl, rfl⟩
  go_wp2_with fail
  refine (PA.out _).mono ?_
  rintro e w' ⟨rfl, rfl⟩
  go_wp2_with fail
  refine (PB.out _).mono ?_
  rintro e w' ⟨rfl, rfl⟩
  go_wp2_with fail
  refine (LX.out w4 HR4.out HL4.out.irow).mono ?_
  rintro e w5 ⟨o5, c5, rfl, hi, hb⟩
  have HB5 := Lib.hid (HB4.out.trans (hb.mono HB4.out.size))
  have HN5 := Lib.hid (Ne.netBox_below HN4.out hb (Ne.netBox_lt HN4.out))
  have HR5 := Lib.hid (HR4.out.kept hb)
  have HL5 := Lib.hid (HL4.out.kept hb)
  have HX5 := Lib.hid hi
  clear hi
  clear hb n0 n1 n2 n3
  obtain ⟨n0, n1, n2, n3⟩ := Ne.netBox_cells HN5.out
  go_wp2_with fail
  refine (LY.out w5 HR5.out HL5.out.irow).mono ?_
  rintro e w6 ⟨o6, c6, rfl, hi, hb⟩
  have HB6 := Lib.hid (HB5.out.trans (hb.mono HB5.out.size))
  have HN6 := Lib.hid (Ne.netBox_below HN5.out hb (Ne.netBox_lt HN5.out))
  have HR6 := Lib.hid (HR5.out.kept hb)
  have HL6 := Lib.hid (HL5.out.kept hb)
  have HX6 := Lib.hid (HX5.out.kept hb)
  have HY6 := Lib.hid hi
  clear hi HX5
  clear hb n0 n1 n2 n3
  obtain ⟨n0, n1, n2, n3⟩ := Ne.netBox_cells HN6.out
  go_wp2_with fail
  refine (LZ.out w6 HR6.out HL6.out.irow).mono ?_
  rintro e w7 ⟨o7, c7, rfl, hi, hb⟩
  have HB7 := Lib.hid (HB6.out.trans (hb.mono HB6.out.size))
  have HN7 := Lib.hid (Ne.netBox_below HN6.out hb (Ne.netBox_lt HN6.out))
  have HR7 := Lib.hid (HR6.out.kept hb)
  have HL7 := Lib.hid (HL6.out.kept hb)
  have HX7 := Lib.hid (HX6.out.kept hb)
  have HY7 := Lib.hid (HY6.out.kept hb)
  have HZ7 := Lib.hid hi
  clear hi HX6 HY6
  clear hb n0 n1 n2 n3
  obtain ⟨n0, n1, n2, n3⟩ := Ne.netBox_cells HN7.out
  go_wp2_with fail
  refine (LD.out w7 HR7.out HL7.out.irow).mono ?_
  rintro e w8 ⟨o8, c8, rfl, -, hb⟩
  have HB8 := Lib.hid (HB7.out.trans (hb.mono HB7.out.size))
  have HN8 := Lib.hid (Ne.netBox_below HN7.out hb (Ne.netBox_lt HN7.out))
  have HR8 := Lib.hid (HR7.out.kept hb)
  have HL8 := Lib.hid (HL7.out.kept hb)
  have HX8 := Lib.hid (HX7.out.kept hb)
  have HY8 := Lib.hid (HY7.out.kept hb)
  have HZ8 := Lib.hid (HZ7.out.kept hb)
  clear HX7 HY7 HZ7
  clear hb n0 n1 n2 n3
  obtain ⟨n0, n1, n2, n3⟩ := Ne.netBox_cells HN8.out
  clear LX LY LZ LD PA PB hmin hmax hz0 hzu hu30
  go_wp2
  clear n0 n1 n2 n3
  go_loopg [26] N (fun g i wr => ∃ k : Nat, i = .int .i64 k ∧ 1 ≤ k ∧ k + g = N + 1 ∧ Hid (Below w8.heap.size w8 wr))
  case atStart => exact ⟨1, rfl, Nat.le_refl _, by omega, Lib.hid (Below.refl _ _)⟩
  case round =>
    obtain ⟨k, rfl, hk1, hk, HBW⟩ := hrel
    obtain ⟨n0, n1, n2, n3⟩ := Ne.netBox_cells (Ne.netBox_below HN8.out HBW.out (Ne.netBox_lt HN8.out))
    by_cases hlt : k < N + 1
    · have hki : (k : Int) < (N : Int) + 1 := by omega
      have hki2 : (k : Int) ≤ (N : Int) := by omega
      have hk0 : (0 : Int) ≤ (k : Int) := by omega
      obtain ⟨b1, o1, rfl, _, p1⟩ := Ne.irow_cell (HX8.out.kept HBW.out) (i := k) (by rw [HL1.out]; exact hlt)
      obtain ⟨b2, o2, rfl, _, p2⟩ := Ne.irow_cell (HY8.out.kept HBW.out) (i := k) (by rw [HL2.out]; exact hlt)
      obtain ⟨b3, o3, rfl, _, p3⟩ := Ne.irow_cell (HZ8.out.kept HBW.out) (i := k) (by rw [HL3.out]; exact hlt)
      have HAK := HAB.out k hlt
      have hf := HFA.out k hlt
      generalize Ne.amt L1 k = P at *
      generalize Ne.amt L2 k = Q at *
      generalize Ne.amt L3 k = F at *
      go_wp2
      go_upto_region 17 with fail
      go_cut [141] (fun s wc => s = .bool false ∧ Hid (Below w8.heap.size w8 wc))
      case first =>
        by_cases hS : (k : Int) = (S : Int)
        · rw [if_pos hS] at hf
          subst hf
          have hS' : ((k : Int) == (S : Int)) = true := by simpa using hS
          by_cases hQ : 0 ≤ Q
          · obtain ⟨h1, h2⟩ := HAK hQ
            have q1 : decide (0 ≤ Q) = true := by simpa using hQ
            have q2 : decide (P < 0) = false := by simpa using h1
            have q3 : decide (Q < P) = false := by simpa using h2
            clear HAK hQ h1 h2 hS
            go_quiet (fail)
            go_wp2_with fail
            go_meet
            case rel => exact ⟨rfl, Lib.hid (Ne.below_dn HBW.out _)⟩
          · have q1 : decide (0 ≤ Q) = false := by simpa using hQ
            clear HAK hQ hS
            go_quiet (fail)
            go_wp2_with fail
            go_meet
            case rel => exact ⟨rfl, Lib.hid (Ne.below_dn HBW.out _)⟩
        · rw [if_neg hS] at hf
          subst hf
          have hS' : ((k : Int) == (S : Int)) = false := by simpa using hS
          by_cases hQ : 0 ≤ Q
          · obtain ⟨h1, h2⟩ := HAK hQ
            have q1 : decide (0 ≤ Q) = true := by simpa using hQ
            have q2 : decide (P < 0) = false := by simpa using h1
            have q3 : decide (Q < P) = false := by simpa using h2
            clear HAK hQ h1 h2 hS
            go_quiet (fail)
            go_wp2_with fail
            go_meet
            case rel => exact ⟨rfl, Lib.hid (Ne.below_dn HBW.out _)⟩
          · have q1 : decide (0 ≤ Q) = false := by simpa using hQ
            clear HAK hQ hS
            go_quiet (fail)
            go_wp2_with fail
            go_meet
            case rel => exact ⟨rfl, Lib.hid (Ne.below_dn HBW.out _)⟩
      case rest =>
      obtain ⟨rfl, HBC⟩ := hcut
      clear HAK hf n0 n1 n2 n3 p1 p2 p3
      go_wp2
      go_roundg (N + 1 - (k + 1))
      case measure => omega
      case rel => exact ⟨k + 1, by go_num, by omega, by omega, HBC⟩
    · have ek : k = N + 1 := by omega
      subst ek
      have hlast : ¬ ((N : Int) + 1 ≤ (N : Int)) := by omega
      go_wp2
      go_ret
      exact ⟨rfl, (HB8.out.trans (HBW.out.mono HB8.out.size))⟩

end Go.Proofs.Ytcelggfnfnaajaa.levelRooms
