/- TreeWide: for every input the law returns true and its arguments read as they did. No condition. -/
import Derived.Test.YtiaddfmgkcebnaaBunA41
import Derived.Test.YtiaddfmgkcebnaaBunA16
import Derived.Test.YtiaddfmgkcebnaaBunA39
import Derived.Test.YtiaddfmgkcebnaaBunA40
import Derived.Test.YtiaddfmgkcebnaaBunA4
import Derived.Deep.LoopGhost
import Derived.Deep.DeepCutAuto
import Derived.RegionTactic
import Derived.BigRegion
import Derived.Test.YtiaddfmgkcebnaaRows
import Derived.WalkKit
import Derived.ProofKit
import Derived.OpenShut
import Derived.ShutString
import Derived.ChangeOld
import Derived.Below
import Derived.Deep.Strs
namespace Go.Proofs.Ytiaddfmgkcebnaa.treeWide
open Go.ChangeShapes Go.WideShapes Go.ChangeAt Go.RowKit
open Go.ChangeMaps (open_string shut_string)
set_option linter.unusedVariables false
set_option linter.unusedSimpArgs false

theorem own : ownKnob Try.prog.godebug = none := by kernel_rfl
theorem laidOut : laidOutB Try.prog = true := by kernel_rfl

def IntsIn (k : IntKind) (w : World) (a : Option Addr) (len cap : Nat) (zs : List Int) : Prop :=
  (a = none ∧ len = 0 ∧ cap = 0 ∧ zs = []) ∨
  ∃ x, a = some x ∧ len ≤ cap ∧ cap ≤ maxLen ∧ zs.length = cap ∧ (∀ i, i < zs.length → w.cell? (x.add i) = some (.int k (zs.getD i 0))) ∧ ∀ n ∈ zs, (Lit.int k n).wf = true



set_option maxRecDepth 100000 in
set_option maxHeartbeats 4000000 in
theorem walk (a0 : Option Addr) (len0 cap0 : Nat) (l0 : List Int) (w : World) (w0 : IntsIn .i64 w a0 len0 cap0 l0) :
    Calls Try.prog 6 #[.slice a0 len0 cap0] w fun e w' => e = .returned (.bool true) ∧ Below w.heap.size w w' := by
  have HSH := Lib.hid (Ne.shown_any w)
  obtain ⟨cs, hk0, hq0, bq0, hcc, hcm, _⟩ := Ne.ints_row w0
  subst hk0
  clear w0
  have BK0 := Lib.hid bq0
  have KR0 := Lib.hid hq0
  clear bq0 hq0
  obtain ⟨m, hm⟩ : ∃ m, m = cs.length := ⟨_, rfl⟩
  rw [← hm]
  have HMM := Lib.hid hm
  have hm63 : m ≤ 9223372036854775807 := by unfold maxLen at hcm; omega
  clear hm hcc hcm
  by_cases g1 : 60 < m
  · have g1' : (60 : Int) < (m : Int) := by omega
    go_enter Try.func6, Try.ntmps6
    go_wp2_with fail
    refine HSH.out.mono ?_
    rintro e w1 ⟨rfl, hb⟩
    have HB1 := Lib.hid hb
    clear hb
    go_wp2
    go_ret
    exact ⟨rfl, HB1.out⟩
  have g1' : ¬ (60 : Int) < (m : Int) := by omega
  have hm2 : m ≤ 60 := by omega
  obtain ⟨M, hM⟩ : ∃ M, 2 * m = M := ⟨_, rfl⟩
  have hM2 : M ≤ 120 := by omega
  clear g1
  have CK := Lib.hid (Tw.check (cs := cs) hm2)
  have hR := Ne.right_of CK.out
  have hFL : Ne.Flow (⟨(m : Int) + 2, 1, 2, Tw.arcsL cs (2 * m)⟩ : Ne.Net) (List.replicate (2 * m) 0) := by
    have := Ne.flow_nought hR
    simp only [Tw.arcs_len] at this
    exact this
  obtain ⟨L1, hl1⟩ := Ne.lev_exists hR (List.replicate (2 * m) 0) 1
  obtain ⟨hB, hWl, hF2, hex⟩ := Tw.blk hm2 hl1
  have TB := Lib.hid fun (o9 : Option Addr) (c9 : Nat) w' (b : Nat) h1 h2 => show Calls Try.prog 10 #[.agg #[.int .i64 ((m : Int) + 2), .int .i64 1, .int .i64 2, .slice o9 M c9], .slice (some ⟨b, 0, none⟩) M M, .int .i64 1] w' fun e w2 => ∃ o c st, e = .returned (.tuple #[.slice o M c, .int .i64 (Tw.manyC cs m : Int), .int .i64 st, .int .i64 0]) ∧ Ne.IRow w2 o (Tw.flowL cs m m) ∧ st ≤ Ne.mostV (⟨(m : Int) + 2, 1, 2, Tw.arcsL cs (2 * m)⟩ : Ne.Net) ∧ Below w'.heap.size w' w2 from by
    have h := Ne.tblock_flow (n := (⟨(m : Int) + 2, 1, 2, Tw.arcsL cs (2 * m)⟩ : Ne.Net)) (f := List.replicate (2 * m) 0) o9 c9 (some ⟨b, 0, none⟩) M w' CK.out h1 (by rw [hM]; exact h2) hFL.okf (by omega) hl1 (by simp only [Tw.arcs_len, show 2 * (2 * m) = 4 * m by omega]; exact hB)
    simp only [Ne.encN, Tw.arcs_len, hWl, hM] at h
    refine h.mono ?_
    rintro e w2 ⟨o, c, st, h3, h4, h6, h5⟩
    exact ⟨o, c, st, h3, h4, by have := h6.2.2.2; simpa only [hM] using this, h5⟩
  have VA := Lib.hid fun (o9 : Option Addr) (c9 : Nat) (o5 : Option Addr) (c5 : Nat) w' h1 h2 => show Calls Try.prog 20 #[.agg #[.int .i64 ((m : Int) + 2), .int .i64 1, .int .i64 2, .slice o9 M c9], .slice o5 M c5] w' fun e w2 => e = .returned (.tuple #[.int .i64 (Tw.sumC cs m), .int .i64 0]) ∧ Below w'.heap.size w' w2 from by
    have h := Ne.val_flow (n := (⟨(m : Int) + 2, 1, 2, Tw.arcsL cs (2 * m)⟩ : Ne.Net)) o9 c9 o5 c5 w' CK.out h1 h2 hF2
    simp only [Ne.encN, Tw.arcs_len] at h
    rw [hex, hM] at h
    exact h
  have MO := Lib.hid fun (o9 : Option Addr) (c9 : Nat) w' => show Calls Try.prog 13 #[.agg #[.int .i64 ((m : Int) + 2), .int .i64 1, .int .i64 2, .slice o9 M c9]] w' fun e w2 => e = .returned (.int .i64 (Ne.mostV (⟨(m : Int) + 2, 1, 2, Tw.arcsL cs (2 * m)⟩ : Ne.Net))) ∧ Below w'.heap.size w' w2 from by
    have h := Ne.tmost_any (⟨(m : Int) + 2, 1, 2, Tw.arcsL cs (2 * m)⟩ : Ne.Net) o9 c9 w' hR
    simp only [Ne.encN, Tw.arcs_len, hM] at h
    simp only [hM]
    exact h
  have hsb := Tw.sum_bd cs
  have HSB := Lib.hid hsb
  have HAS1 := Lib.hid (fun k : Nat => show Tw.arcsL cs (2 * k + 1) = Tw.arcsL cs (2 * k) ++ [⟨1, 3 + (k : Int), Ne.pickN (Ne.amt cs k) 10⟩] from by rw [Tw.arcs_one, Int.add_comm 3 (k : Int)]; rfl)
  have HAS2 := Lib.hid (fun k : Nat => show Tw.arcsL cs (2 * (k + 1)) = Tw.arcsL cs (2 * k + 1) ++ [⟨3 + (k : Int), 2, Ne.pickN ((Ne.amt cs k).tdiv 10) 10⟩] from by rw [Tw.arcs_two, Int.add_comm 3 (k : Int)]; rfl)
  have HA0 := Lib.hid (show Tw.arcsL cs (2 * 0) = [] from rfl)
  have HAN := Lib.hid (fun k => Tw.arcs_len cs k)
  have HSS := Lib.hid (fun k => show Tw.sumC cs (k + 1) = Tw.sumC cs k + min (Ne.pickN (Ne.amt cs k) 10) (Ne.pickN ((Ne.amt cs k).tdiv 10) 10) from rfl)
  have HS0 := Lib.hid (show Tw.sumC cs 0 = 0 from rfl)
  have HMS := Lib.hid (fun k => show Tw.manyC cs (k + 1) = if 0 < min (Ne.pickN (Ne.amt cs k) 10) (Ne.pickN ((Ne.amt cs k).tdiv 10) 10) then Tw.manyC cs k + 1 else Tw.manyC cs k from rfl)
  have HM0 := Lib.hid (show Tw.manyC cs 0 = 0 from rfl)
  have HMB := Lib.hid (fun k => Tw.many_bd cs k)
  clear hl1 hB hWl hF2 hex hFL hR hsb L1
  generalize Ne.mostV (⟨(m : Int) + 2, 1, 2, Tw.arcsL cs (2 * m)⟩ : Ne.Net) = mv at *
  generalize Tw.flowL cs m m = GF at *
  generalize Tw.sumC cs = SC at *
  generalize Tw.manyC cs = MN at *
  generalize Tw.arcsL cs = CA at *
  have hmk := Ne.make_l M (by omega)
  go_enter Try.func6, Try.ntmps6
  go_wp2_with fail
  refine HSH.out.mono ?_
  rintro e w1 ⟨rfl, hb⟩
  have HB1 := Lib.hid hb
  clear hb HSH
  have HN2 := Lib.hid (Ne.netBox_new w1 (2 + (m : Int)) 1 2 (.slice none 0 0))
  have HB2 := Lib.hid (HB1.out.alloc HB1.out.size (.cells #[.int .i64 (2 + (m : Int)), .int .i64 1, .int .i64 2, .slice none 0 0] 24))
  go_upto_region 5 with fail
  obtain ⟨bn, hbn⟩ : ∃ b, b = w1.heap.size := ⟨_, rfl⟩
  have HBN := Lib.hid (show w.heap.size ≤ bn by have := HB1.out.size; omega)
  rw [← hbn] at HN2 ⊢
  clear hbn
  generalize (w1.alloc (.cells #[.int .i64 (2 + (m : Int)), .int .i64 1, .int .i64 2, .slice none 0 0] 24)) = W2 at *
  rw [Int.add_comm 2 (m : Int)] at HN2
  go_wp2
  go_loopg [5, 6, 7, 8, 9] m (fun g s5 s6 i ia ib wr => ∃ (k mc : Nat) (ss : Int) (v : Value), s5 = .int .i64 ss ∧ s6 = .int .i64 (mc : Int) ∧ i = .int .i64 k ∧ k + g = m ∧ 0 ≤ ss ∧ ss ≤ 10 * (k : Int) ∧ mc ≤ k ∧ Hid (ss = SC k) ∧ Hid (mc = MN k) ∧ Hid (Ne.NetBox wr bn ((m : Int) + 2) 1 2 v) ∧ Hid (Ne.OwnA wr (bn + 1) v (CA (2 * k))) ∧ Hid (Below w.heap.size w wr))
  case atStart => exact ⟨0, 0, _, _, rfl, rfl, rfl, by omega, by omega, by omega, by omega, Lib.hid HS0.out.symm, Lib.hid HM0.out.symm, HN2, Lib.hid (by rw [HA0.out]; exact Rw.own_nil _ _), HB2⟩
  case round =>
    obtain ⟨k, mc, ss, v, rfl, rfl, rfl, hkg, hs0, hs1, hmc, HSK, HMK, HNW, HOW, HBW⟩ := hrel
    obtain ⟨o9, c9, hv9, _, _, hn9, hr9, hb9, _⟩ := Rw.own_row Ne.encA_len HOW.out
    rw [HAN.out] at hv9
    subst hv9
    have hbl := Ne.netBox_lt HNW.out
    by_cases hlt : k < m
    · have hki : (k : Int) < (m : Int) := by omega
      have hk0 : (0 : Int) ≤ (k : Int) := by omega
      obtain ⟨b0, o0, e0, hb0, d0⟩ := Ne.irow_cell (KR0.out.kept HBW.out) (i := k) (by rw [← HMM.out]; exact hlt)
      subst e0
      have hraw := BK0.out (Ne.amt cs k) (by have := Ne.at_amt (f := cs) (i := k) (by rw [← HMM.out]; exact hlt); exact List.mem_of_getElem? this)
      have HAK1 := Lib.hid (HAS1.out k)
      have HAK2 := Lib.hid (HAS2.out k)
      have HSK1 := Lib.hid (HSS.out k)
      have HMK1 := Lib.hid (HMS.out k)
      generalize Ne.amt cs k = raw at *
      have hrq := Ne.in64_tdiv (c := raw) hraw (k := 10) (by omega)
      obtain ⟨hrq0, hrq1⟩ := hrq
      have hwq : IntKind.i64.wrap (raw.tdiv 10) = raw.tdiv 10 := by rw [IntKind.wrap_i64]; omega
      have PK := Lib.hid fun w' => Ne.pick_any raw 10 w' hraw.1 hraw.2 (by omega) (by omega)
      have PQ := Lib.hid fun w' => Ne.pick_any (raw.tdiv 10) 10 w' hrq0 hrq1 (by omega) (by omega)
      have bpa := Ne.pickN_bd (c := raw) (n := 10) (by omega)
      have bpb := Ne.pickN_bd (c := raw.tdiv 10) (n := 10) (by omega)
      generalize Ne.pickN (raw.tdiv 10) 10 = pb at *
      generalize Ne.pickN raw 10 = pa at *
      obtain ⟨mn, hmn⟩ : ∃ mn, min pa pb = mn := ⟨_, rfl⟩
      have hmn0 : 0 ≤ mn ∧ mn < 10 := by omega
      have hws : IntKind.i64.wrap (ss + mn) = ss + mn := by rw [IntKind.wrap_i64]; omega
      have HSN := Lib.hid (show ss + mn = SC (k + 1) by rw [HSK1.out, ← HSK.out, hmn])
      have HMN := Lib.hid (show MN (k + 1) = if 0 < mn then mc + 1 else mc by rw [HMK1.out, ← HMK.out, hmn])
      have HBNN := HBN.out
      clear hrq0 hrq1 HSK1 HMK1 hr9 hb9 hn9
      have HNA1 := Lib.hid (Ne.netBox_alloc HNW.out (.cells #[.int .i64 1, .int .i64 (3 + (k : Int)), .int .i64 pa] 46))
      have HOA1 := Lib.hid (Rw.own_alloc HOW.out (.cells #[.int .i64 1, .int .i64 (3 + (k : Int)), .int .i64 pa] 46))
      have HAR1 := Lib.hid (Ne.arow_at1 wr rfl (⟨1, 3 + (k : Int), pa⟩ : Ne.Arc))
      have HLN1 := Lib.hid (show (CA (2 * k)).length + ([(⟨1, 3 + (k : Int), pa⟩ : Ne.Arc)] : List Ne.Arc).length ≤ 1099511627776 by rw [HAN.out]; simp; omega)
      have HVB1 := Lib.hid (Rw.own_block HOW.out)
      have HBA1 := Lib.hid (HBW.out.alloc HBW.out.size (.cells #[.int .i64 1, .int .i64 (3 + (k : Int)), .int .i64 pa] 46))
      have HZA1 := Lib.hid (show bn + 1 ≤ (wr.alloc (.cells #[.int .i64 1, .int .i64 (3 + (k : Int)), .int .i64 pa] 46)).heap.size by have := Ne.netBox_lt HNW.out; simp; omega)
      obtain ⟨n0, n1, n2, n3⟩ := Ne.netBox_cells HNW.out
      go_wp2_with fail
      refine (PK.out _).mono ?_
      rintro e w' ⟨rfl, rfl⟩
      go_wp2_with fail
      refine (PQ.out _).mono ?_
      rintro e w' ⟨rfl, rfl⟩
      clear d0 hwq PK PQ
      go_upto_region 13 with (at_builtin; refine Rw.app Ne.elemA Ne.encA_len Ne.encA_one rfl (.tmp 47) (.tmp 52) rfl (bn + 1) _ (CA (2 * k)) rfl HOA1.out (some ⟨wr.heap.size, 0, none⟩) 1 [(⟨1, 3 + (k : Int), pa⟩ : Ne.Arc)] rfl ?hnn HAR1.out HLN1.out ?hB ?_; (case hnn => (intro h; cases h)); (case hB => (exact HZA1.out)); intro v8 w8 hown8 hgr8; rw [← HAK1.out] at hown8; obtain ⟨o8, c8, hv8, _⟩ := Rw.own_row Ne.encA_len hown8; rw [HAN.out] at hv8; subst hv8; have HN8 := Lib.hid (Ne.netBox_grown HNA1.out hgr8 (fun h => by have := HVB1.out _ h.symm; omega)); have HO8 := Lib.hid hown8; have HB8 := Lib.hid (HBA1.out.grown hgr8 HBA1.out.size (fun b hb => by have := HVB1.out b hb; omega)); have m3 := (Ne.netBox_cells HN8.out).2.2.2; have mf := Ne.netBox_frozen HN8.out 3; clear hown8 hgr8)
      have HN9 := Lib.hid (Ne.netBox_set (v2 := .slice o8 (2 * k + 1) c8) HN8.out)
      have HO9 := Lib.hid (Rw.own_set HO8.out (p := ⟨bn, 3, none⟩) (fun h => by have := Rw.own_block HO8.out _ h; simp only at this; omega) (.slice o8 (2 * k + 1) c8))
      have HB9 := Lib.hid (HB8.out.setCell (p := ⟨bn, 3, none⟩) HBNN (.slice o8 (2 * k + 1) c8))
      generalize (w8.setCell ⟨bn, 3, none⟩ (.slice o8 (2 * k + 1) c8)) = W9 at *
      clear n0 n1 n2 n3 m3 mf HB8 HO8 HN8 HOA1 HNA1 HBA1 HZA1 HAR1 HLN1 HVB1
      have HNA2 := Lib.hid (Ne.netBox_alloc HN9.out (.cells #[.int .i64 (3 + (k : Int)), .int .i64 2, .int .i64 pb] 46))
      have HOA2 := Lib.hid (Rw.own_alloc HO9.out (.cells #[.int .i64 (3 + (k : Int)), .int .i64 2, .int .i64 pb] 46))
      have HAR2 := Lib.hid (Ne.arow_at1 W9 rfl (⟨3 + (k : Int), 2, pb⟩ : Ne.Arc))
      have HLN2 := Lib.hid (show (CA (2 * k + 1)).length + ([(⟨3 + (k : Int), 2, pb⟩ : Ne.Arc)] : List Ne.Arc).length ≤ 1099511627776 by rw [HAN.out]; simp; omega)
      have HVB2 := Lib.hid (Rw.own_block HO9.out)
      have HBA2 := Lib.hid (HB9.out.alloc HB9.out.size (.cells #[.int .i64 (3 + (k : Int)), .int .i64 2, .int .i64 pb] 46))
      have HZA2 := Lib.hid (show bn + 1 ≤ (W9.alloc (.cells #[.int .i64 (3 + (k : Int)), .int .i64 2, .int .i64 pb] 46)).heap.size by have := Ne.netBox_lt HN9.out; simp; omega)
      obtain ⟨n0, n1, n2, n3⟩ := Ne.netBox_cells HN9.out
      go_upto_region 14 with (at_builtin; refine Rw.app Ne.elemA Ne.encA_len Ne.encA_one rfl (.tmp 56) (.tmp 61) rfl (bn + 1) _ (CA (2 * k + 1)) rfl HOA2.out (some ⟨W9.heap.size, 0, none⟩) 1 [(⟨3 + (k : Int), 2, pb⟩ : Ne.Arc)] rfl ?hnn HAR2.out HLN2.out ?hB ?_; (case hnn => (intro h; cases h)); (case hB => (exact HZA2.out)); intro v8 w8 hown8 hgr8; rw [← HAK2.out] at hown8; obtain ⟨o8, c8, hv8, _⟩ := Rw.own_row Ne.encA_len hown8; rw [HAN.out] at hv8; subst hv8; have HN8 := Lib.hid (Ne.netBox_grown HNA2.out hgr8 (fun h => by have := HVB2.out _ h.symm; omega)); have HO8 := Lib.hid hown8; have HB8 := Lib.hid (HBA2.out.grown hgr8 HBA2.out.size (fun b hb => by have := HVB2.out b hb; omega)); have m3 := (Ne.netBox_cells HN8.out).2.2.2; have mf := Ne.netBox_frozen HN8.out 3; clear hown8 hgr8)
      clear HN9 HO9 HB9
      have HN9 := Lib.hid (Ne.netBox_set (v2 := .slice o8 (2 * (k + 1)) c8) HN8.out)
      have HO9 := Lib.hid (Rw.own_set HO8.out (p := ⟨bn, 3, none⟩) (fun h => by have := Rw.own_block HO8.out _ h; simp only at this; omega) (.slice o8 (2 * (k + 1)) c8))
      have HB9 := Lib.hid (HB8.out.setCell (p := ⟨bn, 3, none⟩) HBNN (.slice o8 (2 * (k + 1)) c8))
      generalize (w8.setCell ⟨bn, 3, none⟩ (.slice o8 (2 * (k + 1)) c8)) = W10 at *
      clear n0 n1 n2 n3 m3 mf HB8 HO8 HN8 HOA2 HNA2 HBA2 HZA2 HAR2 HLN2 HVB2
      by_cases c : 0 < mn
      · have c' : decide (0 < mn) = true := by simpa using c
        have HMN2 := Lib.hid (show mc + 1 = MN (k + 1) by rw [HMN.out, if_pos c])
        go_wp2
        go_roundg (m - (k + 1))
        case measure => omega
        case rel => exact ⟨k + 1, mc + 1, ss + mn, _, rfl, by go_num, by go_num, by omega, by omega, by omega, by omega, HSN, HMN2, HN9, HO9, HB9⟩
      · have c' : decide (0 < mn) = false := by simpa using c
        have HMN2 := Lib.hid (show mc = MN (k + 1) by rw [HMN.out, if_neg c])
        go_wp2
        go_roundg (m - (k + 1))
        case measure => omega
        case rel => exact ⟨k + 1, mc, ss + mn, _, rfl, rfl, by go_num, by omega, by omega, by omega, by omega, HSN, HMN2, HN9, HO9, HB9⟩
    · have ek : k = m := by omega
      subst k
      rw [hM] at hr9 HNW
      have HRW := Lib.hid (show Ne.ARow wr.drew o9 (CA M) from hr9)
      have hbz := HBN.out
      rw [← HSK.out] at VA
      rw [← HMK.out] at TB
      rw [hM] at TB VA
      obtain ⟨n0, n1, n2, n3⟩ := Ne.netBox_cells HNW.out
      have hS0 := (show (fun w' : World => w'.cell? ⟨bn, 0, none⟩ = some (.int .i64 ((m : Int) + 2)) ∧ w'.cell? ⟨bn, 1, none⟩ = some (.int .i64 1) ∧ w'.cell? ⟨bn, 2, none⟩ = some (.int .i64 2) ∧ w'.cell? ⟨bn, 3, none⟩ = some (.slice o9 M c9)) wr.drew from ⟨n0, n1, n2, n3⟩)
      clear hlt hr9 hb9 hkg HSK HMK HSS HS0 HMS HM0 HAS1 HAS2 HA0 n0 n1 n2 n3
      go_wp2
      refine Rh.start (S := (fun w' : World => w'.cell? ⟨bn, 0, none⟩ = some (.int .i64 ((m : Int) + 2)) ∧ w'.cell? ⟨bn, 1, none⟩ = some (.int .i64 1) ∧ w'.cell? ⟨bn, 2, none⟩ = some (.int .i64 2) ∧ w'.cell? ⟨bn, 3, none⟩ = some (.slice o9 M c9))) (by kernel_rfl) ?_
      refine Rh.take (some 76) (i := 0) (v := ?_) rfl (by kernel_rfl) (by kernel_rfl) (by kernel_rfl) (by kernel_rfl) (fun _ _ _ h => h) (Or.inl ⟨by rfl, ?_⟩) hS0 ?_
      rotate_left
      · intro w hSw
        go_simp
        try with_reducible rfl
      try simp only [Act.put, List.setIfInBounds_toArray, List.set_cons_zero, List.set_cons_succ]
      refine Rh.take (some 77) (i := 1) (v := ?_) rfl (by kernel_rfl) (by kernel_rfl) (by kernel_rfl) (by kernel_rfl) (fun _ _ _ h => h) (Or.inl ⟨by rfl, ?_⟩) hS0 ?_
      rotate_left
      · intro w hSw
        go_simp
        try with_reducible rfl
      try simp only [Act.put, List.setIfInBounds_toArray, List.set_cons_zero, List.set_cons_succ]
      refine Rh.take (some 78) (i := 2) (v := ?_) rfl (by kernel_rfl) (by kernel_rfl) (by kernel_rfl) (by kernel_rfl) (fun _ _ _ h => h) (Or.inl ⟨by rfl, ?_⟩) hS0 ?_
      rotate_left
      · intro w hSw
        go_simp
        try with_reducible rfl
      try simp only [Act.put, List.setIfInBounds_toArray, List.set_cons_zero, List.set_cons_succ]
      refine Rh.take (some 79) (i := 3) (v := ?_) rfl (by kernel_rfl) (by kernel_rfl) (by kernel_rfl) (by kernel_rfl) (fun _ _ _ h => h) (Or.inl ⟨by rfl, ?_⟩) hS0 ?_
      rotate_left
      · intro w hSw
        go_simp
        try with_reducible rfl
      try simp only [Act.put, List.setIfInBounds_toArray, List.set_cons_zero, List.set_cons_succ]
      refine Rh.step (i := 4) (by kernel_rfl) rfl fun K' hK' => ?_
      have HK := Lib.hid hK'
      clear hK'
      go_simp
      have hbA := (Below.refl wr.drew.heap.size wr.drew).alloc (Nat.le_refl _) (.cells (madeCells #[.int .i64 0] M) 2)
      have HLA := Lib.hid (Ne.lbox_made wr.drew M (b := wr.heap.size) rfl)
      have hS1 := (show (fun w' : World => w'.cell? ⟨bn, 0, none⟩ = some (.int .i64 ((m : Int) + 2)) ∧ w'.cell? ⟨bn, 1, none⟩ = some (.int .i64 1) ∧ w'.cell? ⟨bn, 2, none⟩ = some (.int .i64 2) ∧ w'.cell? ⟨bn, 3, none⟩ = some (.slice o9 M c9)) (wr.drew.alloc (.cells (madeCells #[.int .i64 0] M) 2)) from ⟨(hbA.cell (p := ⟨bn, 0, none⟩) hbl).trans hS0.1, (hbA.cell (p := ⟨bn, 1, none⟩) hbl).trans hS0.2.1, (hbA.cell (p := ⟨bn, 2, none⟩) hbl).trans hS0.2.2.1, (hbA.cell (p := ⟨bn, 3, none⟩) hbl).trans hS0.2.2.2⟩)
      refine HK.out _ _ ⟨hS1, ?_⟩
      clear HK K'
      try simp only [Act.put, List.setIfInBounds_toArray, List.set_cons_zero, List.set_cons_succ]
      refine Rh.step (i := 5) (by kernel_rfl) rfl fun K' hK' => ?_
      have HK := Lib.hid hK'
      clear hK'
      go_simp
      refine (TB.out o9 c9 _ wr.heap.size (HRW.out.kept hbA) HLA.out.irow).mono ?_
      rintro e w5 ⟨o5, c5, st5, rfl, hi5, hst5, hb⟩
      have hbAB := hbA.trans (hb.mono hbA.size)
      have hS2 := (show (fun w' : World => w'.cell? ⟨bn, 0, none⟩ = some (.int .i64 ((m : Int) + 2)) ∧ w'.cell? ⟨bn, 1, none⟩ = some (.int .i64 1) ∧ w'.cell? ⟨bn, 2, none⟩ = some (.int .i64 2) ∧ w'.cell? ⟨bn, 3, none⟩ = some (.slice o9 M c9)) w5 from ⟨(hbAB.cell (p := ⟨bn, 0, none⟩) hbl).trans hS0.1, (hbAB.cell (p := ⟨bn, 1, none⟩) hbl).trans hS0.2.1, (hbAB.cell (p := ⟨bn, 2, none⟩) hbl).trans hS0.2.2.1, (hbAB.cell (p := ⟨bn, 3, none⟩) hbl).trans hS0.2.2.2⟩)
      refine HK.out _ _ ⟨hS2, ?_⟩
      clear HK K'
      try simp only [Act.put, List.setIfInBounds_toArray, List.set_cons_zero, List.set_cons_succ]
      refine Rh.take (some 75) (i := 6) (v := ?_) rfl (by kernel_rfl) (by kernel_rfl) (by kernel_rfl) (by kernel_rfl) (fun _ _ _ h => h) (Or.inl ⟨by rfl, ?_⟩) hS2 ?_
      rotate_left
      · intro w hSw
        go_simp
        try with_reducible rfl
      try simp only [Act.put, List.setIfInBounds_toArray, List.set_cons_zero, List.set_cons_succ]
      refine Rh.take (some 82) (i := 7) (v := ?_) rfl (by kernel_rfl) (by kernel_rfl) (by kernel_rfl) (by kernel_rfl) (fun _ _ _ h => h) (Or.inl ⟨by rfl, ?_⟩) hS2 ?_
      rotate_left
      · intro w hSw
        go_simp
        try with_reducible rfl
      try simp only [Act.put, List.setIfInBounds_toArray, List.set_cons_zero, List.set_cons_succ]
      refine Rh.take (some 83) (i := 8) (v := ?_) rfl (by kernel_rfl) (by kernel_rfl) (by kernel_rfl) (by kernel_rfl) (fun _ _ _ h => h) (Or.inl ⟨by rfl, ?_⟩) hS2 ?_
      rotate_left
      · intro w hSw
        go_simp
        try with_reducible rfl
      try simp only [Act.put, List.setIfInBounds_toArray, List.set_cons_zero, List.set_cons_succ]
      refine Rh.take (some 84) (i := 9) (v := ?_) rfl (by kernel_rfl) (by kernel_rfl) (by kernel_rfl) (by kernel_rfl) (fun _ _ _ h => h) (Or.inl ⟨by rfl, ?_⟩) hS2 ?_
      rotate_left
      · intro w hSw
        go_simp
        try with_reducible rfl
      try simp only [Act.put, List.setIfInBounds_toArray, List.set_cons_zero, List.set_cons_succ]
      refine Rh.take (some 85) (i := 10) (v := ?_) rfl (by kernel_rfl) (by kernel_rfl) (by kernel_rfl) (by kernel_rfl) (fun _ _ _ h => h) (Or.inl ⟨by rfl, ?_⟩) hS2 ?_
      rotate_left
      · intro w hSw
        go_simp
        try with_reducible rfl
      try simp only [Act.put, List.setIfInBounds_toArray, List.set_cons_zero, List.set_cons_succ]
      refine Rh.take (some 10) (i := 11) (v := ?_) rfl (by kernel_rfl) (by kernel_rfl) (by kernel_rfl) (by kernel_rfl) (fun _ _ _ h => h) (Or.inl ⟨by rfl, ?_⟩) hS2 ?_
      rotate_left
      · intro w hSw
        go_simp
        try with_reducible rfl
      try simp only [Act.put, List.setIfInBounds_toArray, List.set_cons_zero, List.set_cons_succ]
      refine Rh.take (some 11) (i := 12) (v := ?_) rfl (by kernel_rfl) (by kernel_rfl) (by kernel_rfl) (by kernel_rfl) (fun _ _ _ h => h) (Or.inl ⟨by rfl, ?_⟩) hS2 ?_
      rotate_left
      · intro w hSw
        go_simp
        try with_reducible rfl
      try simp only [Act.put, List.setIfInBounds_toArray, List.set_cons_zero, List.set_cons_succ]
      refine Rh.take (some 12) (i := 13) (v := ?_) rfl (by kernel_rfl) (by kernel_rfl) (by kernel_rfl) (by kernel_rfl) (fun _ _ _ h => h) (Or.inl ⟨by rfl, ?_⟩) hS2 ?_
      rotate_left
      · intro w hSw
        go_simp
        try with_reducible rfl
      try simp only [Act.put, List.setIfInBounds_toArray, List.set_cons_zero, List.set_cons_succ]
      refine Rh.take (some 13) (i := 14) (v := ?_) rfl (by kernel_rfl) (by kernel_rfl) (by kernel_rfl) (by kernel_rfl) (fun _ _ _ h => h) (Or.inl ⟨by rfl, ?_⟩) hS2 ?_
      rotate_left
      · intro w hSw
        go_simp
        try with_reducible rfl
      try simp only [Act.put, List.setIfInBounds_toArray, List.set_cons_zero, List.set_cons_succ]
      refine Rh.done (by kernel_rfl) ?_ _
      have HI5 := Lib.hid hi5
      have HB5 := Lib.hid ((Ne.below_drew HBW.out).trans (hbAB.mono HBW.out.size))
      have HR5 := Lib.hid (show Ne.ARow w5 o9 (CA M) from (HRW.out.kept hbAB))
      have hbl5 : bn < w5.heap.size := Nat.lt_of_lt_of_le hbl hbAB.size
      have HN5 := Lib.hid (Ne.netBox_below HNW.out ((Ne.below_drew (Below.refl _ _)).trans (hbAB.mono (Nat.le_refl _))) hbl)
      clear hi5 hb hbA HLA hS0 hS1 HRW
      obtain ⟨n0, n1, n2, n3⟩ := hS2
      clear hbAB
      have hss : (ss == ss) = true := by simp
      have hmm : ((mc : Int) == (mc : Int)) = true := by simp
      have hst : decide (st5 ≤ mv) = true := decide_eq_true hst5
      go_wp2_with (first
        | (go_at_call 20; refine (VA.out o9 c9 o5 c5 _ HR5.out HI5.out).mono ?_; rintro e w6 ⟨rfl, hb⟩; have HB6 := Lib.hid (HB5.out.trans (hb.mono HB5.out.size)); have HN6 := Lib.hid (Ne.netBox_below HN5.out hb (Ne.netBox_lt HN5.out)); clear hb n0 n1 n2 n3; obtain ⟨n0, n1, n2, n3⟩ := Ne.netBox_cells HN6.out)
        | (go_at_call 13; refine (MO.out o9 c9 _).mono ?_; rintro e w7 ⟨rfl, hb⟩; have HB7 := Lib.hid (HB6.out.trans (hb.mono HB6.out.size)); clear hb))
      go_ret
      exact ⟨rfl, HB7.out⟩

end Go.Proofs.Ytiaddfmgkcebnaa.treeWide
