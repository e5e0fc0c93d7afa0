/- DecompLoops: for every input the law returns true and its arguments read as they did. No condition. -/
import Derived.Test.YtkeojkddbannpaaSwp
import Derived.Test.YtkeojkddbannpaaShownU
import Derived.Test.YtkeojkddbannpaaDck
import Derived.Deep.LoopGhost
import Derived.Deep.DeepCutAuto
import Derived.Deep.QuietTactic
import Derived.Test.YtkeojkddbannpaaRows
import Derived.WalkKit
import Derived.ProofKit
import Derived.OpenShut
import Derived.ShutString
import Derived.ChangeOld
import Derived.Below
import Derived.Deep.Strs
namespace Go.Proofs.Ytkeojkddbannpaa.decompLoops
open Go.ChangeShapes Go.WideShapes Go.ChangeAt Go.RowKit
open Go.ChangeMaps (open_string shut_string)
set_option linter.unusedVariables false
set_option linter.unusedSimpArgs false

theorem own : ownKnob Try.prog.godebug = none := by kernel_rfl
theorem laidOut : laidOutB Try.prog = true := by kernel_rfl

def IntsIn (k : IntKind) (w : World) (a : Option Addr) (len cap : Nat) (zs : List Int) : Prop :=
  (a = none ∧ len = 0 ∧ cap = 0 ∧ zs = []) ∨
  ∃ x, a = some x ∧ len ≤ cap ∧ cap ≤ maxLen ∧ zs.length = cap ∧ (∀ i, i < zs.length → w.cell? (x.add i) = some (.int k (zs.getD i 0))) ∧ ∀ n ∈ zs, (Lit.int k n).wf = true

/-- how many of the first j are above nothing -/
def cntO (X : Nat → Int) : Nat → Nat
  | 0 => 0
  | j + 1 => cntO X j + if 0 < X j then 1 else 0
theorem itemsO_len {X : Nat → Int} (hX : ∀ i, 0 ≤ X i) : ∀ (d p : Nat), cntO X p + (Dc.itemsO X d p).length = cntO X (p + d)
  | 0, p => by simp [Dc.itemsO]
  | d + 1, p => by
    have ih := itemsO_len hX d (p + 1)
    have h0 := hX p
    rw [show p + (d + 1) = p + 1 + d by omega]
    by_cases c : X p = 0
    · have e : Dc.itemsO X (d + 1) p = Dc.itemsO X d (p + 1) := by simp only [Dc.itemsO]; rw [if_pos c]
      have e2 : cntO X (p + 1) = cntO X p := by simp only [cntO]; rw [if_neg (by omega)]; rfl
      rw [e, ← ih, e2]
    · have e : (Dc.itemsO X (d + 1) p).length = (Dc.itemsO X d (p + 1)).length + 1 := by simp only [Dc.itemsO]; rw [if_neg c]; rfl
      have e2 : cntO X (p + 1) = cntO X p + 1 := by simp only [cntO]; rw [if_pos (by omega)]
      rw [e, ← ih, e2]; omega
theorem amtO_succ (X : Nat → Int) (j : Nat) : Dc.amtO X (j + 1) 0 = Dc.amtO X j 0 ++ [X j] ++ [X j] := by
  unfold Dc.amtO
  rw [show 2 * (j + 1) = 2 * j + 1 + 1 by omega, List.range_succ, List.range_succ, List.map_append, List.map_append]
  simp only [List.map_cons, List.map_nil]
  rw [if_neg (by omega), if_neg (by omega), show 2 * j / 2 = j by omega, show (2 * j + 1) / 2 = j by omega]
theorem cntO_le (X : Nat → Int) : ∀ j, cntO X j ≤ j
  | 0 => Nat.le_refl _
  | j + 1 => by have := cntO_le X j; simp only [cntO]; split <;> omega

set_option maxRecDepth 100000 in
set_option maxHeartbeats 4000000 in
theorem walk (a0 : Option Addr) (len0 cap0 : Nat) (l0 : List Int) (w : World) (w0 : IntsIn .i64 w a0 len0 cap0 l0) :
    Calls Try.prog 5 #[.slice a0 len0 cap0] w fun e w' => e = .returned (.bool true) ∧ Below w.heap.size w w' := by
  have HSH := Lib.hid (Dc.shown_any w)
  obtain ⟨cs, hk0, hq0, bq0, hcc, hcm, _⟩ := Ne.ints_row w0
  subst hk0
  clear w0
  have BK0 := Lib.hid bq0
  have KR0 := Lib.hid hq0
  clear bq0 hq0
  obtain ⟨c, hc⟩ : ∃ c, c = cs.length := ⟨_, rfl⟩
  rw [← hc]
  have HCS := Lib.hid hc
  have hc63 : c ≤ 9223372036854775807 := by unfold maxLen at hcm; omega
  clear hc hcc hcm
  by_cases g1 : 60 < c
  · have g1' : (60 : Int) < (c : Int) := by omega
    go_enter Try.func5, Try.ntmps5
    go_wp2_with fail
    refine HSH.out.mono ?_
    rintro e w1 ⟨rfl, hb⟩
    have HB1 := Lib.hid hb
    clear hb
    go_wp2
    go_ret
    exact ⟨rfl, HB1.out⟩
  have g1' : ¬ (60 : Int) < (c : Int) := by omega
  have h60 : c ≤ 60 := by omega
  obtain ⟨X, hXd⟩ : ∃ X : Nat → Int, X = fun i => Ne.pickN (Ne.amt cs i) 5 := ⟨_, rfl⟩
  have hX : ∀ i, 0 ≤ X i ∧ X i ≤ 5 := fun i => by
    rw [hXd]
    have := Ne.pickN_bd (c := Ne.amt cs i) (n := 5) (by omega)
    exact ⟨this.1, by have := this.2; show Ne.pickN (Ne.amt cs i) 5 ≤ 5; omega⟩
  have HPK := Lib.hid (show ∀ i, i < c → ∀ w', Calls Try.prog 21 #[.int .i64 (Ne.amt cs i), .int .i64 5] w' fun e w2 => e = .returned (.int .i64 (X i)) ∧ w' = w2 from fun i hi w' => by
    have hb := BK0.out (Ne.amt cs i) (List.mem_of_getElem? (Ne.at_amt (f := cs) (i := i) (by rw [← HCS.out]; exact hi)))
    rw [hXd]
    exact Ne.pick_any (Ne.amt cs i) 5 w' hb.1 hb.2 (by omega) (by omega))
  clear hXd g1
  have HX := Lib.hid hX
  have ck := Dc.netO_check (c := c) h60
  have hLf := Dc.lfO hX c 0
  have hit := Dc.loops_items hX h60 c 0 (by omega)
  have hlen := itemsO_len (X := X) (fun i => (hX i).1) c 0
  have hlen2 : (Dc.itemsO X c 0).length = cntO X c := by
    rw [Nat.zero_add] at hlen
    have : cntO X 0 = 0 := rfl
    omega
  have S1 := Lib.hid (fun (p : Option Addr × Nat) (q : Option Addr × Nat) w' h1 h2 => Dc.split_flow ck hLf p.1 p.2 q.1 q.2 w' h1 h2)
  rw [hit, hlen2] at S1
  have hal : (Dc.netO c).l.length = 2 * c := Dc.arcsO_len c
  rw [hal] at S1
  unfold Dc.netO at S1
  simp only [Ne.encN, Dc.arcsO_len] at S1
  have HAS := Lib.hid (fun j => Dc.arcsO_succ j)
  have HAN := Lib.hid (fun j => Dc.arcsO_len j)
  have HA0 := Lib.hid (show Dc.arcsO 0 = [] from rfl)
  have HFS := Lib.hid (fun j => amtO_succ X j)
  have HFN := Lib.hid (fun j => Dc.amtO_len X j 0)
  have HF0 := Lib.hid (show Dc.amtO X 0 0 = [] from rfl)
  have HFA := Lib.hid (fun j i (h : i < 2 * j) => Dc.amtO_at X (c := j) (p := 0) (j := i) h)
  have HCN := Lib.hid (show ∀ j, cntO X (j + 1) = cntO X j + if 0 < X j then 1 else 0 from fun _ => rfl)
  have HC0 := Lib.hid (show cntO X 0 = 0 from rfl)
  have HCL := Lib.hid (cntO_le X)
  have HLEN := Lib.hid hlen2
  generalize hAR : Dc.arcsO = AR at *
  generalize hAM : (fun j => Dc.amtO X j 0) = AMF at *
  obtain ⟨AM, hAMe⟩ : ∃ AM : Nat → List Int, ∀ j, Dc.amtO X j 0 = AM j := ⟨_, fun _ => rfl⟩
  simp only [hAMe] at S1 HFS HFN HF0 HFA
  generalize cntO X = CN at *
  clear hAR hAM hAMe hal hit hlen hlen2 ck hLf hX AMF
  have hw1 : IntKind.i64.wrap (2 * (c : Int)) = 2 * (c : Int) := by rw [IntKind.wrap_i64]; omega
  have hw2 : IntKind.i64.wrap (2 + 2 * (c : Int)) = 2 + 2 * (c : Int) := by rw [IntKind.wrap_i64]; omega
  go_enter Try.func5, Try.ntmps5
  go_wp2_with fail
  refine HSH.out.mono ?_
  rintro e w1 ⟨rfl, hb⟩
  have HB0 := Lib.hid hb
  have HN2 := Lib.hid (Ne.netBox_new w1 (2 + 2 * (c : Int)) 1 2 (.slice none 0 0))
  have HB2 := Lib.hid (HB0.out.alloc HB0.out.size (.cells #[.int .i64 (2 + 2 * (c : Int)), .int .i64 1, .int .i64 2, .slice none 0 0] 24))
  clear hb HSH
  go_wp2
  obtain ⟨bn, hbn⟩ : ∃ b, b = w1.heap.size := ⟨_, rfl⟩
  have HBN := Lib.hid (show w.heap.size ≤ bn by have := HB0.out.size; omega)
  rw [← hbn] at HN2 ⊢
  clear hbn
  generalize (w1.alloc (.cells #[.int .i64 (2 + 2 * (c : Int)), .int .i64 1, .int .i64 2, .slice none 0 0] 24)) = W2 at *
  clear hw1 hw2
  go_loopw [5, 6, 7] (fun s m i wr => ∃ (j : Nat) (v u : Value), s = u ∧ m = .int .i64 ((CN j : Nat) : Int) ∧ i = .int .i64 j ∧ j ≤ c ∧ Hid (Ne.NetBox wr bn (2 + 2 * (c : Int)) 1 2 v) ∧ Hid (Ne.OwnA wr (bn + 1) v (AR j)) ∧ Hid (Ne.OwnL wr (bn + 1) u (AM j)) ∧ Hid (Below w.heap.size w wr)) (fun _ _ i _ => c - (intOf i).toNat)
  case atStart => exact ⟨0, _, _, rfl, by rw [HC0.out]; rfl, rfl, Nat.zero_le _, HN2, Lib.hid (by rw [HA0.out]; exact Rw.own_nil _ _), Lib.hid (by rw [HF0.out]; exact Rw.own_nil _ _), HB2⟩
  case round =>
    obtain ⟨j, v, u, rfl, rfl, rfl, hj, HN1, HO1, HF1, HB1⟩ := hrel
    obtain ⟨oa, ca, hva, _, _, _, hra, _⟩ := Rw.own_row Ne.encA_len HO1.out
    rw [HAN.out] at hva
    subst hva
    obtain ⟨of, cf, hvf, _, _, _, hrf, _⟩ := Rw.own_row Ne.encI_len HF1.out
    rw [HFN.out] at hvf
    subst hvf
    have HBNN := HBN.out
    by_cases hlt : j < c
    · have hji : (j : Int) < (c : Int) := by omega
      have hj0 : (0 : Int) ≤ (j : Int) := by omega
      obtain ⟨b0, o0, e0, hb0, d0⟩ := Ne.irow_cell (KR0.out.kept HB1.out) (i := j) (by rw [← HCS.out]; exact hlt)
      subst e0
      have PJ := Lib.hid (HPK.out j hlt)
      have hXj := HX.out j
      have HCJ := Lib.hid (HCN.out j)
      have hcl := HCL.out j
      have HASJ := Lib.hid (HAS.out j)
      have HFSJ := Lib.hid (HFS.out j)
      have HAN1 := Lib.hid (show (AR j ++ [(⟨3 + 2 * (j : Int), 4 + 2 * (j : Int), 5⟩ : Ne.Arc)]).length = 2 * j + 1 by rw [List.length_append, HAN.out]; rfl)
      have HAN2 := Lib.hid (show (AR (j + 1)).length = 2 * j + 2 by rw [HAN.out]; omega)
      have HALN := Lib.hid (show (AR j).length ≤ 1000 by rw [HAN.out]; omega)
      have HFLN := Lib.hid (show (AM j).length ≤ 1000 by rw [HFN.out]; omega)
      generalize X j = x at *
      have HFN1 := Lib.hid (show (AM j ++ [x]).length = 2 * j + 1 by rw [List.length_append, HFN.out]; rfl)
      have HFN2 := Lib.hid (show (AM (j + 1)).length = 2 * j + 2 by rw [HFN.out]; omega)
      obtain ⟨n0, n1, n2, m3⟩ := Ne.netBox_cells HN1.out
      have hwa : IntKind.i64.wrap (2 * (j : Int)) = 2 * (j : Int) := by rw [IntKind.wrap_i64]; omega
      have hwb : IntKind.i64.wrap (3 + 2 * (j : Int)) = 3 + 2 * (j : Int) := by rw [IntKind.wrap_i64]; omega
      have hwc : IntKind.i64.wrap (4 + 2 * (j : Int)) = 4 + 2 * (j : Int) := by rw [IntKind.wrap_i64]; omega
      have hwd : IntKind.i64.wrap (((CN j : Nat) : Int) + 1) = ((CN j : Nat) : Int) + 1 := by rw [IntKind.wrap_i64]; omega
      clear hra hrf n0 n1 n2
      go_wp2_with fail
      refine (PJ.out _).mono ?_
      rintro e w' ⟨rfl, rfl⟩
      have HNA1 := Lib.hid (Ne.netBox_alloc HN1.out (.cells #[.int .i64 (3 + 2 * (j : Int)), .int .i64 (4 + 2 * (j : Int)), .int .i64 5] 53))
      have HOA1 := Lib.hid (Rw.own_alloc HO1.out (.cells #[.int .i64 (3 + 2 * (j : Int)), .int .i64 (4 + 2 * (j : Int)), .int .i64 5] 53))
      have HFA1 := Lib.hid (Rw.own_alloc HF1.out (.cells #[.int .i64 (3 + 2 * (j : Int)), .int .i64 (4 + 2 * (j : Int)), .int .i64 5] 53))
      have HBA1 := Lib.hid (HB1.out.alloc HB1.out.size (.cells #[.int .i64 (3 + 2 * (j : Int)), .int .i64 (4 + 2 * (j : Int)), .int .i64 5] 53))
      have HZA1 := Lib.hid (show bn + 1 ≤ (wr.alloc (.cells #[.int .i64 (3 + 2 * (j : Int)), .int .i64 (4 + 2 * (j : Int)), .int .i64 5] 53)).heap.size from Ne.netBox_lt HNA1.out)
      have HAR1 := Lib.hid (Ne.arow_at1 wr rfl (⟨3 + 2 * (j : Int), 4 + 2 * (j : Int), 5⟩ : Ne.Arc))
      have HLN1 := Lib.hid (show (AR j).length + ([(⟨3 + 2 * (j : Int), 4 + 2 * (j : Int), 5⟩ : Ne.Arc)] : List Ne.Arc).length ≤ 1099511627776 by have := HALN.out; simp; omega)
      have HDT1 := Lib.hid (Ne.own_types (by decide) HFA1.out HOA1.out)
      have HVA1 := Lib.hid (Rw.own_block HOA1.out)
      by_cases hx : 0 < x
      · have hx1 : decide (0 < x) = true := by simpa using hx
        have HCX := Lib.hid (show CN (j + 1) = CN j + 1 by rw [HCJ.out, if_pos hx])
        clear hx
        go_upto_region 14 with (at_builtin; refine Rw.app Ne.elemA Ne.encA_len Ne.encA_one rfl (.tmp 43) (.tmp 51) rfl (bn + 1) _ (AR j) rfl HOA1.out (some ⟨wr.heap.size, 0, none⟩) 1 [(⟨3 + 2 * (j : Int), 4 + 2 * (j : Int), 5⟩ : Ne.Arc)] rfl ?hnn HAR1.out HLN1.out ?hB ?_; (case hnn => (intro h; cases h)); (case hB => (exact HZA1.out)); intro vv1 wv1 hown hgr; obtain ⟨ov1, cv1, hv, _⟩ := Rw.own_row Ne.encA_len hown; rw [HAN1.out] at hv; subst hv; have HN8 := Lib.hid (Ne.netBox_grown HNA1.out hgr (fun h => by have := HVA1.out _ h.symm; omega)); have HO8 := Lib.hid hown; have HF8 := Lib.hid (Rw.own_grown HFA1.out hgr (fun q h1 h2 => HDT1.out q h1 h2.symm)); have HB8 := Lib.hid (HBA1.out.grown hgr HBA1.out.size (fun b hb => by have := HVA1.out b hb; omega)); have m3 := (Ne.netBox_cells HN8.out).2.2.2; have mf := Ne.netBox_frozen HN8.out 3; have HN2 := Lib.hid (Ne.netBox_set (v2 := .slice ov1 (2 * j + 1) cv1) HN8.out); have m3n := (Ne.netBox_cells HN2.out).2.2.2; have HO2 := Lib.hid (Rw.own_set HO8.out (p := ⟨bn, 3, none⟩) (fun h => by have := Rw.own_block HO8.out _ h; simp only at this; omega) (.slice ov1 (2 * j + 1) cv1)); have HF2 := Lib.hid (Rw.own_set HF8.out (p := ⟨bn, 3, none⟩) (fun h => by have := Rw.own_block HF8.out _ h; simp only at this; omega) (.slice ov1 (2 * j + 1) cv1)); have HB2 := Lib.hid (HB8.out.setCell (p := ⟨bn, 3, none⟩) HBNN (.slice ov1 (2 * j + 1) cv1)); have HSZ1 := Lib.hid (show (wv1.setCell ⟨bn, 3, none⟩ (.slice ov1 (2 * j + 1) cv1)).heap.size = wv1.heap.size by simp [World.setCell]); clear hown hgr HNA1 HOA1 HFA1 HBA1 HZA1 HAR1 HLN1 HDT1 HVA1 HN8 HO8 HF8 HB8; have HNA2 := Lib.hid (Ne.netBox_alloc HN2.out (.cells #[.int .i64 (4 + 2 * (j : Int)), .int .i64 (3 + 2 * (j : Int)), .int .i64 5] 53)); have HOA2 := Lib.hid (Rw.own_alloc HO2.out (.cells #[.int .i64 (4 + 2 * (j : Int)), .int .i64 (3 + 2 * (j : Int)), .int .i64 5] 53)); have HFA2 := Lib.hid (Rw.own_alloc HF2.out (.cells #[.int .i64 (4 + 2 * (j : Int)), .int .i64 (3 + 2 * (j : Int)), .int .i64 5] 53)); have HBA2 := Lib.hid (HB2.out.alloc HB2.out.size (.cells #[.int .i64 (4 + 2 * (j : Int)), .int .i64 (3 + 2 * (j : Int)), .int .i64 5] 53)); have HZA2 := Lib.hid (show bn + 1 ≤ ((wv1.setCell ⟨bn, 3, none⟩ (.slice ov1 (2 * j + 1) cv1)).alloc (.cells #[.int .i64 (4 + 2 * (j : Int)), .int .i64 (3 + 2 * (j : Int)), .int .i64 5] 53)).heap.size from Ne.netBox_lt HNA2.out); have HAR2 := Lib.hid (Ne.arow_at1 (wv1.setCell ⟨bn, 3, none⟩ (.slice ov1 (2 * j + 1) cv1)) rfl (⟨4 + 2 * (j : Int), 3 + 2 * (j : Int), 5⟩ : Ne.Arc)); have HLN2 := Lib.hid (show (AR j ++ [(⟨3 + 2 * (j : Int), 4 + 2 * (j : Int), 5⟩ : Ne.Arc)]).length + ([(⟨4 + 2 * (j : Int), 3 + 2 * (j : Int), 5⟩ : Ne.Arc)] : List Ne.Arc).length ≤ 1099511627776 by have := HALN.out; simp; omega); have HDT2 := Lib.hid (Ne.own_types (by decide) HFA2.out HOA2.out); have HVA2 := Lib.hid (Rw.own_block HOA2.out); rw [HSZ1.out] at HAR2)
        go_upto_region 15 with (at_builtin; refine Rw.app Ne.elemA Ne.encA_len Ne.encA_one rfl (.tmp 55) (.tmp 63) rfl (bn + 1) _ (AR j ++ [(⟨3 + 2 * (j : Int), 4 + 2 * (j : Int), 5⟩ : Ne.Arc)]) rfl HOA2.out (some ⟨_, 0, none⟩) 1 [(⟨4 + 2 * (j : Int), 3 + 2 * (j : Int), 5⟩ : Ne.Arc)] rfl ?hnn HAR2.out HLN2.out ?hB ?_; (case hnn => (intro h; cases h)); (case hB => (exact HZA2.out)); intro vv2 wv2 hown hgr; rw [← HASJ.out] at hown; obtain ⟨ov2, cv2, hv, _⟩ := Rw.own_row Ne.encA_len hown; rw [HAN2.out] at hv; subst hv; have HN8 := Lib.hid (Ne.netBox_grown HNA2.out hgr (fun h => by have := HVA2.out _ h.symm; omega)); have HO8 := Lib.hid hown; have HF8 := Lib.hid (Rw.own_grown HFA2.out hgr (fun q h1 h2 => HDT2.out q h1 h2.symm)); have HB8 := Lib.hid (HBA2.out.grown hgr HBA2.out.size (fun b hb => by have := HVA2.out b hb; omega)); have m3 := (Ne.netBox_cells HN8.out).2.2.2; have mf := Ne.netBox_frozen HN8.out 3; have HN3 := Lib.hid (Ne.netBox_set (v2 := .slice ov2 (2 * j + 2) cv2) HN8.out); have m3n := (Ne.netBox_cells HN3.out).2.2.2; have HO3 := Lib.hid (Rw.own_set HO8.out (p := ⟨bn, 3, none⟩) (fun h => by have := Rw.own_block HO8.out _ h; simp only at this; omega) (.slice ov2 (2 * j + 2) cv2)); have HF3 := Lib.hid (Rw.own_set HF8.out (p := ⟨bn, 3, none⟩) (fun h => by have := Rw.own_block HF8.out _ h; simp only at this; omega) (.slice ov2 (2 * j + 2) cv2)); have HB3 := Lib.hid (HB8.out.setCell (p := ⟨bn, 3, none⟩) HBNN (.slice ov2 (2 * j + 2) cv2)); have HSZ2 := Lib.hid (show (wv2.setCell ⟨bn, 3, none⟩ (.slice ov2 (2 * j + 2) cv2)).heap.size = wv2.heap.size by simp [World.setCell]); clear hown hgr HNA2 HOA2 HFA2 HBA2 HZA2 HAR2 HLN2 HDT2 HVA2 HN8 HO8 HF8 HB8; have HNA3 := Lib.hid (Ne.netBox_alloc HN3.out (.cells #[.int .i64 x] 2)); have HOA3 := Lib.hid (Rw.own_alloc HO3.out (.cells #[.int .i64 x] 2)); have HFA3 := Lib.hid (Rw.own_alloc HF3.out (.cells #[.int .i64 x] 2)); have HBA3 := Lib.hid (HB3.out.alloc HB3.out.size (.cells #[.int .i64 x] 2)); have HZA3 := Lib.hid (show bn + 1 ≤ ((wv2.setCell ⟨bn, 3, none⟩ (.slice ov2 (2 * j + 2) cv2)).alloc (.cells #[.int .i64 x] 2)).heap.size from Ne.netBox_lt HNA3.out); have HAR3 := Lib.hid (Ne.irow_one' (wv2.setCell ⟨bn, 3, none⟩ (.slice ov2 (2 * j + 2) cv2)) rfl x 2); have HLN3 := Lib.hid (show (AM j).length + ([x] : List Int).length ≤ 1099511627776 by have := HFLN.out; simp; omega); have HDT3 := Lib.hid (Ne.own_types (by decide) HOA3.out HFA3.out); have HVA3 := Lib.hid (Rw.own_block HFA3.out); rw [HSZ2.out] at HAR3)
        go_upto_region 16 with (at_builtin; refine Rw.app Ne.elemL Ne.encI_len Ne.encI_one rfl (.tmp 66) (.tmp 68) rfl (bn + 1) _ (AM j) rfl HFA3.out (some ⟨_, 0, none⟩) 1 [x] rfl ?hnn HAR3.out HLN3.out ?hB ?_; (case hnn => (intro h; cases h)); (case hB => (exact HZA3.out)); intro vv3 wv3 hown hgr; obtain ⟨ov3, cv3, hv, _⟩ := Rw.own_row Ne.encI_len hown; rw [HFN1.out] at hv; subst hv; have HN4 := Lib.hid (Ne.netBox_grown HNA3.out hgr (fun h => by have := HVA3.out _ h.symm; omega)); have HF4 := Lib.hid hown; have HO4 := Lib.hid (Rw.own_grown HOA3.out hgr (fun q h1 h2 => HDT3.out q h1 h2.symm)); have HB4 := Lib.hid (HBA3.out.grown hgr HBA3.out.size (fun b hb => by have := HVA3.out b hb; omega)); clear hown hgr HNA3 HOA3 HFA3 HBA3 HZA3 HAR3 HLN3 HDT3 HVA3; have HNA4 := Lib.hid (Ne.netBox_alloc HN4.out (.cells #[.int .i64 x] 2)); have HOA4 := Lib.hid (Rw.own_alloc HO4.out (.cells #[.int .i64 x] 2)); have HFA4 := Lib.hid (Rw.own_alloc HF4.out (.cells #[.int .i64 x] 2)); have HBA4 := Lib.hid (HB4.out.alloc HB4.out.size (.cells #[.int .i64 x] 2)); have HZA4 := Lib.hid (show bn + 1 ≤ (wv3.alloc (.cells #[.int .i64 x] 2)).heap.size from Ne.netBox_lt HNA4.out); have HAR4 := Lib.hid (Ne.irow_one' wv3 rfl x 2); have HLN4 := Lib.hid (show (AM j ++ [x]).length + ([x] : List Int).length ≤ 1099511627776 by have := HFLN.out; simp; omega); have HDT4 := Lib.hid (Ne.own_types (by decide) HOA4.out HFA4.out); have HVA4 := Lib.hid (Rw.own_block HFA4.out))
        go_wp2_with (at_builtin; refine Rw.app Ne.elemL Ne.encI_len Ne.encI_one rfl (.tmp 70) (.tmp 72) rfl (bn + 1) _ (AM j ++ [x]) rfl HFA4.out (some ⟨_, 0, none⟩) 1 [x] rfl ?hnn HAR4.out HLN4.out ?hB ?_; (case hnn => (intro h; cases h)); (case hB => (exact HZA4.out)); intro vv4 wv4 hown hgr; rw [← HFSJ.out] at hown; obtain ⟨ov4, cv4, hv, _⟩ := Rw.own_row Ne.encI_len hown; rw [HFN2.out] at hv; subst hv; have HN5 := Lib.hid (Ne.netBox_grown HNA4.out hgr (fun h => by have := HVA4.out _ h.symm; omega)); have HF5 := Lib.hid hown; have HO5 := Lib.hid (Rw.own_grown HOA4.out hgr (fun q h1 h2 => HDT4.out q h1 h2.symm)); have HB5 := Lib.hid (HBA4.out.grown hgr HBA4.out.size (fun b hb => by have := HVA4.out b hb; omega)); clear hown hgr HNA4 HOA4 HFA4 HBA4 HZA4 HAR4 HLN4 HDT4 HVA4; skip)
        clear HX HPK HCN HC0 HAS HFS HA0 HF0
        refine ⟨?rel, ?measure⟩
        case rel => exact ⟨j + 1, _, _, rfl, by rw [HCX.out]; go_num, by go_num, by omega, HN5, HO5, HF5, HB5⟩
        case measure => simp [intOf]; omega
      · have hx1 : decide (0 < x) = false := by simpa using hx
        have HCX := Lib.hid (show CN (j + 1) = CN j by rw [HCJ.out, if_neg hx]; rfl)
        clear hx
        go_upto_region 14 with (at_builtin; refine Rw.app Ne.elemA Ne.encA_len Ne.encA_one rfl (.tmp 43) (.tmp 51) rfl (bn + 1) _ (AR j) rfl HOA1.out (some ⟨wr.heap.size, 0, none⟩) 1 [(⟨3 + 2 * (j : Int), 4 + 2 * (j : Int), 5⟩ : Ne.Arc)] rfl ?hnn HAR1.out HLN1.out ?hB ?_; (case hnn => (intro h; cases h)); (case hB => (exact HZA1.out)); intro vv1 wv1 hown hgr; obtain ⟨ov1, cv1, hv, _⟩ := Rw.own_row Ne.encA_len hown; rw [HAN1.out] at hv; subst hv; have HN8 := Lib.hid (Ne.netBox_grown HNA1.out hgr (fun h => by have := HVA1.out _ h.symm; omega)); have HO8 := Lib.hid hown; have HF8 := Lib.hid (Rw.own_grown HFA1.out hgr (fun q h1 h2 => HDT1.out q h1 h2.symm)); have HB8 := Lib.hid (HBA1.out.grown hgr HBA1.out.size (fun b hb => by have := HVA1.out b hb; omega)); have m3 := (Ne.netBox_cells HN8.out).2.2.2; have mf := Ne.netBox_frozen HN8.out 3; have HN2 := Lib.hid (Ne.netBox_set (v2 := .slice ov1 (2 * j + 1) cv1) HN8.out); have m3n := (Ne.netBox_cells HN2.out).2.2.2; have HO2 := Lib.hid (Rw.own_set HO8.out (p := ⟨bn, 3, none⟩) (fun h => by have := Rw.own_block HO8.out _ h; simp only at this; omega) (.slice ov1 (2 * j + 1) cv1)); have HF2 := Lib.hid (Rw.own_set HF8.out (p := ⟨bn, 3, none⟩) (fun h => by have := Rw.own_block HF8.out _ h; simp only at this; omega) (.slice ov1 (2 * j + 1) cv1)); have HB2 := Lib.hid (HB8.out.setCell (p := ⟨bn, 3, none⟩) HBNN (.slice ov1 (2 * j + 1) cv1)); have HSZ1 := Lib.hid (show (wv1.setCell ⟨bn, 3, none⟩ (.slice ov1 (2 * j + 1) cv1)).heap.size = wv1.heap.size by simp [World.setCell]); clear hown hgr HNA1 HOA1 HFA1 HBA1 HZA1 HAR1 HLN1 HDT1 HVA1 HN8 HO8 HF8 HB8; have HNA2 := Lib.hid (Ne.netBox_alloc HN2.out (.cells #[.int .i64 (4 + 2 * (j : Int)), .int .i64 (3 + 2 * (j : Int)), .int .i64 5] 53)); have HOA2 := Lib.hid (Rw.own_alloc HO2.out (.cells #[.int .i64 (4 + 2 * (j : Int)), .int .i64 (3 + 2 * (j : Int)), .int .i64 5] 53)); have HFA2 := Lib.hid (Rw.own_alloc HF2.out (.cells #[.int .i64 (4 + 2 * (j : Int)), .int .i64 (3 + 2 * (j : Int)), .int .i64 5] 53)); have HBA2 := Lib.hid (HB2.out.alloc HB2.out.size (.cells #[.int .i64 (4 + 2 * (j : Int)), .int .i64 (3 + 2 * (j : Int)), .int .i64 5] 53)); have HZA2 := Lib.hid (show bn + 1 ≤ ((wv1.setCell ⟨bn, 3, none⟩ (.slice ov1 (2 * j + 1) cv1)).alloc (.cells #[.int .i64 (4 + 2 * (j : Int)), .int .i64 (3 + 2 * (j : Int)), .int .i64 5] 53)).heap.size from Ne.netBox_lt HNA2.out); have HAR2 := Lib.hid (Ne.arow_at1 (wv1.setCell ⟨bn, 3, none⟩ (.slice ov1 (2 * j + 1) cv1)) rfl (⟨4 + 2 * (j : Int), 3 + 2 * (j : Int), 5⟩ : Ne.Arc)); have HLN2 := Lib.hid (show (AR j ++ [(⟨3 + 2 * (j : Int), 4 + 2 * (j : Int), 5⟩ : Ne.Arc)]).length + ([(⟨4 + 2 * (j : Int), 3 + 2 * (j : Int), 5⟩ : Ne.Arc)] : List Ne.Arc).length ≤ 1099511627776 by have := HALN.out; simp; omega); have HDT2 := Lib.hid (Ne.own_types (by decide) HFA2.out HOA2.out); have HVA2 := Lib.hid (Rw.own_block HOA2.out); rw [HSZ1.out] at HAR2)
        go_upto_region 15 with (at_builtin; refine Rw.app Ne.elemA Ne.encA_len Ne.encA_one rfl (.tmp 55) (.tmp 63) rfl (bn + 1) _ (AR j ++ [(⟨3 + 2 * (j : Int), 4 + 2 * (j : Int), 5⟩ : Ne.Arc)]) rfl HOA2.out (some ⟨_, 0, none⟩) 1 [(⟨4 + 2 * (j : Int), 3 + 2 * (j : Int), 5⟩ : Ne.Arc)] rfl ?hnn HAR2.out HLN2.out ?hB ?_; (case hnn => (intro h; cases h)); (case hB => (exact HZA2.out)); intro vv2 wv2 hown hgr; rw [← HASJ.out] at hown; obtain ⟨ov2, cv2, hv, _⟩ := Rw.own_row Ne.encA_len hown; rw [HAN2.out] at hv; subst hv; have HN8 := Lib.hid (Ne.netBox_grown HNA2.out hgr (fun h => by have := HVA2.out _ h.symm; omega)); have HO8 := Lib.hid hown; have HF8 := Lib.hid (Rw.own_grown HFA2.out hgr (fun q h1 h2 => HDT2.out q h1 h2.symm)); have HB8 := Lib.hid (HBA2.out.grown hgr HBA2.out.size (fun b hb => by have := HVA2.out b hb; omega)); have m3 := (Ne.netBox_cells HN8.out).2.2.2; have mf := Ne.netBox_frozen HN8.out 3; have HN3 := Lib.hid (Ne.netBox_set (v2 := .slice ov2 (2 * j + 2) cv2) HN8.out); have m3n := (Ne.netBox_cells HN3.out).2.2.2; have HO3 := Lib.hid (Rw.own_set HO8.out (p := ⟨bn, 3, none⟩) (fun h => by have := Rw.own_block HO8.out _ h; simp only at this; omega) (.slice ov2 (2 * j + 2) cv2)); have HF3 := Lib.hid (Rw.own_set HF8.out (p := ⟨bn, 3, none⟩) (fun h => by have := Rw.own_block HF8.out _ h; simp only at this; omega) (.slice ov2 (2 * j + 2) cv2)); have HB3 := Lib.hid (HB8.out.setCell (p := ⟨bn, 3, none⟩) HBNN (.slice ov2 (2 * j + 2) cv2)); have HSZ2 := Lib.hid (show (wv2.setCell ⟨bn, 3, none⟩ (.slice ov2 (2 * j + 2) cv2)).heap.size = wv2.heap.size by simp [World.setCell]); clear hown hgr HNA2 HOA2 HFA2 HBA2 HZA2 HAR2 HLN2 HDT2 HVA2 HN8 HO8 HF8 HB8; have HNA3 := Lib.hid (Ne.netBox_alloc HN3.out (.cells #[.int .i64 x] 2)); have HOA3 := Lib.hid (Rw.own_alloc HO3.out (.cells #[.int .i64 x] 2)); have HFA3 := Lib.hid (Rw.own_alloc HF3.out (.cells #[.int .i64 x] 2)); have HBA3 := Lib.hid (HB3.out.alloc HB3.out.size (.cells #[.int .i64 x] 2)); have HZA3 := Lib.hid (show bn + 1 ≤ ((wv2.setCell ⟨bn, 3, none⟩ (.slice ov2 (2 * j + 2) cv2)).alloc (.cells #[.int .i64 x] 2)).heap.size from Ne.netBox_lt HNA3.out); have HAR3 := Lib.hid (Ne.irow_one' (wv2.setCell ⟨bn, 3, none⟩ (.slice ov2 (2 * j + 2) cv2)) rfl x 2); have HLN3 := Lib.hid (show (AM j).length + ([x] : List Int).length ≤ 1099511627776 by have := HFLN.out; simp; omega); have HDT3 := Lib.hid (Ne.own_types (by decide) HOA3.out HFA3.out); have HVA3 := Lib.hid (Rw.own_block HFA3.out); rw [HSZ2.out] at HAR3)
        go_upto_region 16 with (at_builtin; refine Rw.app Ne.elemL Ne.encI_len Ne.encI_one rfl (.tmp 66) (.tmp 68) rfl (bn + 1) _ (AM j) rfl HFA3.out (some ⟨_, 0, none⟩) 1 [x] rfl ?hnn HAR3.out HLN3.out ?hB ?_; (case hnn => (intro h; cases h)); (case hB => (exact HZA3.out)); intro vv3 wv3 hown hgr; obtain ⟨ov3, cv3, hv, _⟩ := Rw.own_row Ne.encI_len hown; rw [HFN1.out] at hv; subst hv; have HN4 := Lib.hid (Ne.netBox_grown HNA3.out hgr (fun h => by have := HVA3.out _ h.symm; omega)); have HF4 := Lib.hid hown; have HO4 := Lib.hid (Rw.own_grown HOA3.out hgr (fun q h1 h2 => HDT3.out q h1 h2.symm)); have HB4 := Lib.hid (HBA3.out.grown hgr HBA3.out.size (fun b hb => by have := HVA3.out b hb; omega)); clear hown hgr HNA3 HOA3 HFA3 HBA3 HZA3 HAR3 HLN3 HDT3 HVA3; have HNA4 := Lib.hid (Ne.netBox_alloc HN4.out (.cells #[.int .i64 x] 2)); have HOA4 := Lib.hid (Rw.own_alloc HO4.out (.cells #[.int .i64 x] 2)); have HFA4 := Lib.hid (Rw.own_alloc HF4.out (.cells #[.int .i64 x] 2)); have HBA4 := Lib.hid (HB4.out.alloc HB4.out.size (.cells #[.int .i64 x] 2)); have HZA4 := Lib.hid (show bn + 1 ≤ (wv3.alloc (.cells #[.int .i64 x] 2)).heap.size from Ne.netBox_lt HNA4.out); have HAR4 := Lib.hid (Ne.irow_one' wv3 rfl x 2); have HLN4 := Lib.hid (show (AM j ++ [x]).length + ([x] : List Int).length ≤ 1099511627776 by have := HFLN.out; simp; omega); have HDT4 := Lib.hid (Ne.own_types (by decide) HOA4.out HFA4.out); have HVA4 := Lib.hid (Rw.own_block HFA4.out))
        go_wp2_with (at_builtin; refine Rw.app Ne.elemL Ne.encI_len Ne.encI_one rfl (.tmp 70) (.tmp 72) rfl (bn + 1) _ (AM j ++ [x]) rfl HFA4.out (some ⟨_, 0, none⟩) 1 [x] rfl ?hnn HAR4.out HLN4.out ?hB ?_; (case hnn => (intro h; cases h)); (case hB => (exact HZA4.out)); intro vv4 wv4 hown hgr; rw [← HFSJ.out] at hown; obtain ⟨ov4, cv4, hv, _⟩ := Rw.own_row Ne.encI_len hown; rw [HFN2.out] at hv; subst hv; have HN5 := Lib.hid (Ne.netBox_grown HNA4.out hgr (fun h => by have := HVA4.out _ h.symm; omega)); have HF5 := Lib.hid hown; have HO5 := Lib.hid (Rw.own_grown HOA4.out hgr (fun q h1 h2 => HDT4.out q h1 h2.symm)); have HB5 := Lib.hid (HBA4.out.grown hgr HBA4.out.size (fun b hb => by have := HVA4.out b hb; omega)); clear hown hgr HNA4 HOA4 HFA4 HBA4 HZA4 HAR4 HLN4 HDT4 HVA4; skip)
        clear HX HPK HCN HC0 HAS HFS HA0 HF0
        refine ⟨?rel, ?measure⟩
        case rel => exact ⟨j + 1, _, _, rfl, by rw [HCX.out], by go_num, by omega, HN5, HO5, HF5, HB5⟩
        case measure => simp [intOf]; omega
    · have ej : j = c := by omega
      subst ej
      clear hlt hj HN2 HB2 HPK HCN HC0 HAS HFS HA0 HF0
      have HRA := Lib.hid (show Ne.ARow wr oa (AR j) from hra)
      have HRFF := Lib.hid (show Ne.IRow wr of (AM j) from hrf)
      obtain ⟨n0, n1, n2, n3⟩ := Ne.netBox_cells HN1.out
      have C1 := Lib.hid (S1.out (oa, ca) (of, cf) wr (by simpa only [Dc.netO] using HRA.out) HRFF.out)
      simp only at C1
      clear hra hrf S1 HO1 HF1
      have hcl := HCL.out j
      obtain ⟨K, hK⟩ : ∃ K, K = CN j := ⟨_, rfl⟩
      rw [← hK] at C1 hcl ⊢
      have HKL := Lib.hid (show (Dc.itemsO X j 0).length = K by rw [hK]; exact HLEN.out)
      clear hK HLEN
      have HFJ := Lib.hid (fun i (h : i < 2 * j) => HFA.out j i h)
      have HFL := Lib.hid (HFN.out j)
      generalize AM j = F at *
      have HIS := Lib.hid (show ∀ d p, X p = 0 → Dc.itemsO X (d + 1) p = Dc.itemsO X d (p + 1) from fun d p h => by simp only [Dc.itemsO]; rw [if_pos h])
      have HIN := Lib.hid (show ∀ d p, X p ≠ 0 → Dc.itemsO X (d + 1) p = ⟨99, [2 * p, 2 * p + 1], X p⟩ :: Dc.itemsO X d (p + 1) from fun d p h => by simp only [Dc.itemsO]; rw [if_neg h])
      have HI0 := Lib.hid (show ∀ p, Dc.itemsO X 0 p = [] from fun _ => rfl)
      have HD0 := Lib.hid (show (Dc.itemsO X j 0).drop 0 = Dc.itemsO X j 0 from rfl)
      generalize hLL : Dc.itemsO X j 0 = LL at HKL C1 HD0
      have HD1 := Lib.hid (show LL.drop 0 = Dc.itemsO X j 0 by rw [hLL]; rfl)
      clear hLL HD0
      generalize Dc.itemsO X = IO at *
      have hKK : ((K : Int) == (K : Int)) = true := by simp
      go_wp2_with fail
      refine C1.out.mono ?_
      rintro e w5 ⟨o5, c5, rfl, hr5, -, hb5⟩
      have HB5 := Lib.hid (HB1.out.trans (hb5.mono HB1.out.size))
      have HF5 := Lib.hid (HRFF.out.kept hb5)
      have HI5 := Lib.hid hr5
      clear hr5 hb5 n0 n1 n2 n3 C1 HRA HRFF HN1 HB1
      go_wp2
      go_loopw [11, 12] (fun a i wr => ∃ (i' p d : Nat), a = .int .i64 ((2 * p : Nat) : Int) ∧ i = .int .i64 i' ∧ i' ≤ K ∧ p + d = j ∧ Hid (LL.drop i' = IO d p) ∧ Hid (Below w5.heap.size w5 wr)) (fun _ i _ => K - (intOf i).toNat)
      case atStart => exact ⟨0, 0, j, rfl, rfl, Nat.zero_le _, by omega, HD1, Lib.hid (Below.refl _ _)⟩
      case round =>
        obtain ⟨i, p, d, rfl, rfl, hi, hpd, HDR, HBW⟩ := hrel
        by_cases hlt : i < K
        · have hil : i < LL.length := by rw [HKL.out]; exact hlt
          have HNE := Lib.hid (show LL.drop i ≠ [] from fun h => by have := congrArg List.length h; simp at this; omega)
          have HIT := Lib.hid (HI5.out.kept HBW.out)
          have HFW := Lib.hid (HF5.out.kept HBW.out)
          have hii : (i : Int) < (K : Int) := by omega
          have hi0 : (0 : Int) ≤ (i : Int) := by omega
          go_wp2
          go_loop [11] (fun a => ∃ (p d : Nat), a = .int .i64 ((2 * p : Nat) : Int) ∧ p + d = j ∧ Hid (LL.drop i = IO d p)) (fun a => 2 * j - (intOf a).toNat)
          case atStart => exact ⟨p, d, rfl, hpd, HDR⟩
          case round =>
            obtain ⟨p, d, rfl, hpd, HDR⟩ := hrel
            have hd : d ≠ 0 := fun h => by
              subst h
              exact HNE.out (by rw [HDR.out, HI0.out])
            obtain ⟨d, rfl⟩ : ∃ d', d = d' + 1 := ⟨d - 1, by omega⟩
            obtain ⟨b9, o9, rfl, _, f0⟩ := Ne.irow_cell HFW.out (i := 2 * p) (by rw [HFL.out]; omega)
            have hfv := HFJ.out (2 * p) (by omega)
            rw [if_neg (by omega), show 2 * p / 2 = p by omega] at hfv
            rw [hfv] at f0
            have hXp := HX.out p
            have hpi : ((2 * p : Nat) : Int) < ((2 * j : Nat) : Int) := by omega
            have hpj : 2 * (p : Int) < 2 * (j : Int) := by omega
            have hp0 : (0 : Int) ≤ 2 * (p : Int) := by omega
            have hwp : IntKind.i64.wrap (2 * (p : Int) + 2) = 2 * (p : Int) + 2 := by rw [IntKind.wrap_i64]; omega
            by_cases hx : X p = 0
            · have HDN := Lib.hid (show LL.drop i = IO d (p + 1) by rw [HDR.out, HIS.out d p hx])
              have hx1 : (X p == 0) = true := by simpa using hx
              generalize X p = x at *
              clear hx
              go_wp2
              go_round
              case rel => exact ⟨p + 1, d, by go_num, by omega, HDN⟩
              case measure => simp [intOf]; omega
            · have HDN := HIN.out d p hx
              have hx1 : (X p == 0) = false := by simpa using hx
              have HDE := Lib.hid (show LL.drop (i + 1) = IO d (p + 1) by
                have h1 := HDR.out
                rw [HDN] at h1
                rw [← List.drop_drop, h1]; rfl)
              have hat : Dc.itAt (LL.map Dc.Itm.z) i = ⟨99, Ne.encW [2 * p, 2 * p + 1], X p⟩ := by
                have h1 := HDR.out
                rw [HDN] at h1
                have h2 : LL[i]? = some ⟨99, [2 * p, 2 * p + 1], X p⟩ := by
                  have := congrArg (fun l => l[0]?) h1
                  simpa using this
                unfold Dc.itAt
                rw [List.getD_eq_getElem?_getD, List.getElem?_map, h2]; rfl
              obtain ⟨bi, offi, ai, ci, e5, _, d0, d1, d2, hra⟩ := HIT.out.at (i := i) (by rw [List.length_map]; exact hil)
              rw [hat] at d0 d1 d2 hra
              simp only [Ne.encW_len, List.length_cons, List.length_nil] at d0 d1 d2 hra
              obtain ⟨br, offr, e6, _, g0⟩ := Ne.irow_cell hra (i := 0) (by rw [Ne.encW_len]; simp)
              obtain ⟨br', offr', e7, _, g1⟩ := Ne.irow_cell hra (i := 1) (by rw [Ne.encW_len]; simp)
              rw [e6] at e7
              simp only [Option.some.injEq, Addr.mk.injEq, and_true] at e7
              obtain ⟨rfl, rfl⟩ := e7
              subst e6
              rw [Ne.encW_at (by simp)] at g0 g1
              simp only [List.getD_cons_zero, List.getD_cons_succ, Nat.add_zero] at g0 g1
              subst e5
              have HFX := Lib.hid hx
              clear hx hra hat HDN hfv
              generalize X p = x at *
              have hxx : (x == x) = true := by simp
              have hwq : IntKind.i64.wrap (2 * (p : Int) + 1) = 2 * (p : Int) + 1 := by rw [IntKind.wrap_i64]; omega
              have hpp : (2 * (p : Int) == 2 * (p : Int)) = true := by simp
              have hqq : (2 * (p : Int) + 1 == 2 * (p : Int) + 1) = true := by simp
              go_wp2
              go_quiet (fail)
              go_wp2
              refine ⟨?rel, ?measure⟩
              case rel => exact ⟨i + 1, p + 1, d, by go_num, by go_num, by omega, by omega, HDE, Lib.hid (Ne.below_dn HBW.out _)⟩
              case measure => simp [intOf]; omega
        · have ei : i = K := by omega
          subst ei
          have HBE := Lib.hid (HB5.out.trans (HBW.out.mono HB5.out.size))
          clear hlt hi
          go_wp2
          go_ret
          exact ⟨rfl, HBE.out⟩

end Go.Proofs.Ytkeojkddbannpaa.decompLoops
