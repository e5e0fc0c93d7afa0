/- DecompChain: for every input the law returns true and its arguments read as they did. No condition. -/
import Derived.Test.YtkeojkddbannpaaSwp
import Derived.Test.YtkeojkddbannpaaShownU
import Derived.Test.YtkeojkddbannpaaDck
import Derived.Deep.LoopGhost
import Derived.Deep.DeepCutAuto
import Derived.Test.YtkeojkddbannpaaRows
import Derived.WalkKit
import Derived.ProofKit
import Derived.OpenShut
import Derived.ShutString
import Derived.ChangeOld
import Derived.Below
import Derived.Deep.Strs
namespace Go.Proofs.Ytkeojkddbannpaa.decompChain
open Go.ChangeShapes Go.WideShapes Go.ChangeAt Go.RowKit
open Go.ChangeMaps (open_string shut_string)
set_option linter.unusedVariables false
set_option linter.unusedSimpArgs false

theorem own : ownKnob Try.prog.godebug = none := by kernel_rfl
theorem laidOut : laidOutB Try.prog = true := by kernel_rfl

theorem ch_list {k : Nat} {x : Int} (hx : x ≠ 0) (h : Dc.splA (Dc.netK k) (List.replicate k x) = if x = 0 then [] else [⟨112, List.range k, x⟩]) : (Dc.splA (Dc.netK k) (List.replicate k x)).map Dc.Itm.z = [⟨112, Ne.encW (List.range k), x⟩] := by
  rw [h, if_neg hx]; rfl
theorem ch_back {k : Nat} {x : Int} (hx : x ≠ 0) (h : Dc.splA (Dc.swpN (Dc.netK k)) (List.replicate k x) = (Dc.splA (Dc.netK k) (List.replicate k x)).map Dc.swp) (h2 : Dc.splA (Dc.netK k) (List.replicate k x) = if x = 0 then [] else [⟨112, List.range k, x⟩]) : (Dc.splA (Dc.swpN (Dc.netK k)) (List.replicate k x)).map Dc.Itm.z = [⟨98, Ne.encW (List.range k), x⟩] := by
  rw [h, h2, if_neg hx]; rfl
theorem range_first {k : Nat} (h : 1 ≤ k) : Ne.amt (Ne.encW (List.range k)) 0 = 0 := by
  rw [Ne.encW_at (by simp; omega)]
  rw [List.getD_eq_getElem?_getD, List.getElem?_range (by omega)]; rfl

set_option maxRecDepth 100000 in
set_option maxHeartbeats 4000000 in
theorem walk (a0 : Int) (a1 : Int) (w : World) (w0 : (Lit.int .i64 a0).wf = true) (w1 : (Lit.int .i64 a1).wf = true) :
    Calls Try.prog 8 #[.int .i64 a0, .int .i64 a1] w fun e w' => e = .returned (.bool true) ∧ Below w.heap.size w w' := by
  have HSH := Lib.hid (Dc.shown_any w)
  have b0 := bounds_i64 w0
  have b1 := bounds_i64 w1
  clear w0 w1
  have bp0 := Ne.pickN_bd (c := a0) (n := 60) (by omega)
  have bp1 := Ne.pickN_bd (c := a1) (n := 9) (by omega)
  have P0 := Lib.hid fun w' => Ne.pick_any a0 60 w' b0.1 b0.2 (by omega) (by omega)
  have P1 := Lib.hid fun w' => Ne.pick_any a1 9 w' b1.1 b1.2 (by omega) (by omega)
  generalize Ne.pickN a1 9 = x at *
  generalize Ne.pickN a0 60 = z at *
  obtain ⟨k, hk⟩ : ∃ k : Nat, 1 + z = (k : Int) := ⟨(1 + z).toNat, by omega⟩
  have hwk : IntKind.i64.wrap (1 + z) = (k : Int) := by rw [IntKind.wrap_i64]; omega
  have hk1 : 1 ≤ k := by omega
  have hk2 : k ≤ 60 := by omega
  clear hk b0 b1
  have ck := Dc.netK_check hk1 hk2
  have hLf := Dc.lfK (k := k) hk1 (x := x) (by omega) (by omega)
  have ck2 := Dc.swp_check ck
  have hLf2 := Dc.swp_lf hLf
  have hci := Dc.chain_items hk1 hk2 (x := x) (by omega) (by omega)
  have hsw := Dc.splA_swp (Ne.right_of ck) hLf
  have S1 := Lib.hid (fun (p : Option Addr × Nat) (q : Option Addr × Nat) w' h1 h2 => Dc.split_flow ck hLf p.1 p.2 q.1 q.2 w' h1 h2)
  have S2 := Lib.hid (fun (p : Option Addr × Nat) (q : Option Addr × Nat) w' h1 h2 => Dc.split_flow ck2 hLf2 p.1 p.2 q.1 q.2 w' h1 h2)
  have hlen : Dc.splA (Dc.netK k) (List.replicate k x) = [] ↔ x = 0 := by
    rw [hci]
    by_cases c : x = 0
    · simp [c]
    · simp [c]
  have hl1 : (Dc.splA (Dc.netK k) (List.replicate k x)).length = if x = 0 then 0 else 1 := by
    rw [hci]; split <;> rfl
  have hl2 : (Dc.splA (Dc.swpN (Dc.netK k)) (List.replicate k x)).length = if x = 0 then 0 else 1 := by
    rw [hsw, List.length_map]; exact hl1
  have HL1 := Lib.hid (fun hx => ch_list (k := k) (x := x) hx hci)
  have HL2 := Lib.hid (fun hx => ch_back (k := k) (x := x) hx hsw hci)
  have hal : (Dc.netK k).l.length = k := Dc.arcsK_len k
  have hal2 : (Dc.swpN (Dc.netK k)).l.length = k := Dc.arcsK_len k
  have HRF := Lib.hid (range_first hk1)
  clear hci hsw ck hLf ck2 hLf2 hlen
  rw [hal, hl1] at S1
  rw [hal2, hl2] at S2
  generalize Dc.splA (Dc.netK k) (List.replicate k x) = L1 at *
  generalize Dc.splA (Dc.swpN (Dc.netK k)) (List.replicate k x) = L2 at *
  unfold Dc.swpN at S2
  unfold Dc.netK at S1 S2
  simp only [Ne.encN, Dc.arcsK_len] at S1 S2
  have HAS := Lib.hid (fun j => Dc.arcsK_succ j)
  have HAN := Lib.hid (fun j => Dc.arcsK_len j)
  have HA0 := Lib.hid (show Dc.arcsK 0 = [] from rfl)
  generalize hAK : Dc.arcsK = AK at *
  clear hAK hal hal2 hl1 hl2
  go_enter Try.func8, Try.ntmps8
  go_wp2_with fail
  refine HSH.out.mono ?_
  rintro e w1 ⟨rfl, hb⟩
  have HB1 := Lib.hid hb
  clear hb HSH
  go_wp2_with fail
  refine (P0.out _).mono ?_
  rintro e w' ⟨rfl, rfl⟩
  have HN2 := Lib.hid (Ne.netBox_new w1 ((k : Int) + 1) 1 ((k : Int) + 1) (.slice none 0 0))
  have HB2 := Lib.hid (HB1.out.alloc HB1.out.size (.cells #[.int .i64 ((k : Int) + 1), .int .i64 1, .int .i64 ((k : Int) + 1), .slice none 0 0] 24))
  go_wp2_with fail
  obtain ⟨bn, hbn⟩ : ∃ b, b = w1.heap.size := ⟨_, rfl⟩
  have HBN := Lib.hid (show w.heap.size ≤ bn by have := HB1.out.size; omega)
  rw [← hbn] at HN2 ⊢
  clear hbn
  generalize (w1.alloc (.cells #[.int .i64 ((k : Int) + 1), .int .i64 1, .int .i64 ((k : Int) + 1), .slice none 0 0] 24)) = W2 at *
  refine (P1.out _).mono ?_
  rintro e w' ⟨rfl, rfl⟩
  go_wp2
  go_loopw [9, 10] (fun s i wr => ∃ (j : Nat) (v u : Value), s = u ∧ i = .int .i64 j ∧ j ≤ k ∧ Hid (Ne.NetBox wr bn ((k : Int) + 1) 1 ((k : Int) + 1) v) ∧ Hid (Ne.OwnA wr (bn + 1) v (AK j)) ∧ Hid (Ne.OwnL wr (bn + 1) u (List.replicate j x)) ∧ Hid (Below w.heap.size w wr)) (fun _ i _ => k - (intOf i).toNat)
  case atStart => exact ⟨0, _, _, rfl, rfl, Nat.zero_le _, HN2, Lib.hid (by rw [HA0.out]; exact Rw.own_nil _ _), Lib.hid (Rw.own_nil _ _), HB2⟩
  case round =>
    obtain ⟨j, v, u, rfl, rfl, hj, HN, HOA, HOF, HB⟩ := hrel
    obtain ⟨oa, ca, hva, _, _, _, hra, _⟩ := Rw.own_row Ne.encA_len HOA.out
    rw [HAN.out] at hva
    subst hva
    obtain ⟨of, cf, hvf, _, _, _, hrf, _⟩ := Rw.own_row Ne.encI_len HOF.out
    rw [List.length_replicate] at hvf
    subst hvf
    have HBNN := HBN.out
    by_cases hlt : j < k
    · have hji : (j : Int) < (k : Int) := by omega
      obtain ⟨n0, n1, n2, n3⟩ := Ne.netBox_cells HN.out
      have hbl := Ne.netBox_lt HN.out
      have HAJ := Lib.hid (HAS.out j)
      have HRS := Lib.hid (show List.replicate j x ++ [x] = List.replicate (j + 1) x from (List.replicate_succ' ..).symm)
      have HNA := Lib.hid (Ne.netBox_alloc HN.out (.cells #[.int .i64 ((j : Int) + 1), .int .i64 ((j : Int) + 2), .int .i64 9] 53))
      have HOA1 := Lib.hid (Rw.own_alloc HOA.out (.cells #[.int .i64 ((j : Int) + 1), .int .i64 ((j : Int) + 2), .int .i64 9] 53))
      have HOF1 := Lib.hid (Rw.own_alloc HOF.out (.cells #[.int .i64 ((j : Int) + 1), .int .i64 ((j : Int) + 2), .int .i64 9] 53))
      have HAR := Lib.hid (Ne.arow_at1 wr rfl ⟨(j : Int) + 1, (j : Int) + 2, 9⟩)
      have HLN := Lib.hid (show (AK j).length + ([⟨(j : Int) + 1, (j : Int) + 2, 9⟩] : List Ne.Arc).length ≤ 1099511627776 by rw [HAN.out]; simp; omega)
      have HLF := Lib.hid (show (List.replicate j x).length + ([x] : List Int).length ≤ 1099511627776 by rw [List.length_replicate]; simp; omega)
      have HVA := Lib.hid (Rw.own_block HOA.out)
      have HVF := Lib.hid (Rw.own_block HOF.out)
      have HBA := Lib.hid (HB.out.alloc HB.out.size (.cells #[.int .i64 ((j : Int) + 1), .int .i64 ((j : Int) + 2), .int .i64 9] 53))
      have HZA := Lib.hid (show bn + 1 ≤ (wr.alloc (.cells #[.int .i64 ((j : Int) + 1), .int .i64 ((j : Int) + 2), .int .i64 9] 53)).heap.size by simp; omega)
      have HDT := Lib.hid (Ne.own_types (by decide) HOF1.out HOA1.out)
      clear hra hrf n0 n1 n2
      go_wp2_with (first
        | (at_builtin; refine Rw.app Ne.elemA Ne.encA_len Ne.encA_one rfl (.tmp 35) (.tmp 41) rfl (bn + 1) _ (AK j) rfl HOA1.out (some ⟨wr.heap.size, 0, none⟩) 1 [⟨(j : Int) + 1, (j : Int) + 2, 9⟩] rfl ?hnn HAR.out HLN.out ?hB ?_; (case hnn => (intro h; cases h)); (case hB => (exact HZA.out)); intro v8 w8 hown8 hgr8; rw [← HAJ.out] at hown8; obtain ⟨o8, c8, hv8, _⟩ := Rw.own_row Ne.encA_len hown8; rw [HAN.out] at hv8; subst hv8; have HN8 := Lib.hid (Ne.netBox_grown HNA.out hgr8 (fun h => by have := HVA.out _ h.symm; omega)); have HO8 := Lib.hid hown8; have HF8 := Lib.hid (Rw.own_grown HOF1.out hgr8 (fun q h1 h2 => HDT.out q h1 h2.symm)); have HB8 := Lib.hid (HBA.out.grown hgr8 HBA.out.size (fun b hb => by have := HVA.out b hb; omega)); have m3 := (Ne.netBox_cells HN8.out).2.2.2; have mf := Ne.netBox_frozen HN8.out 3; have HN9 := Lib.hid (Ne.netBox_set (v2 := .slice o8 (j + 1) c8) HN8.out); have HO9 := Lib.hid (Rw.own_alloc (Rw.own_set HO8.out (p := ⟨bn, 3, none⟩) (fun h => by have := Rw.own_block HO8.out _ h; simp only at this; omega) (.slice o8 (j + 1) c8)) (.cells #[.int .i64 x] 2)); have HF9 := Lib.hid (Rw.own_alloc (Rw.own_set HF8.out (p := ⟨bn, 3, none⟩) (fun h => by have := Rw.own_block HF8.out _ h; simp only at this; omega) (.slice o8 (j + 1) c8)) (.cells #[.int .i64 x] 2)); have HB9 := Lib.hid ((HB8.out.setCell (p := ⟨bn, 3, none⟩) HBNN (.slice o8 (j + 1) c8)).alloc (HB8.out.setCell (p := ⟨bn, 3, none⟩) HBNN (.slice o8 (j + 1) c8)).size (.cells #[.int .i64 x] 2)); have HN9b := Lib.hid (Ne.netBox_alloc HN9.out (.cells #[.int .i64 x] 2)); have HR9 := Lib.hid (Ne.irow_one' (w8.setCell ⟨bn, 3, none⟩ (.slice o8 (j + 1) c8)) rfl x 2); have HD9 := Lib.hid (Ne.own_types (by decide) HO9.out HF9.out); have HZ9 := Lib.hid (show bn + 1 ≤ ((w8.setCell ⟨bn, 3, none⟩ (.slice o8 (j + 1) c8)).alloc (.cells #[.int .i64 x] 2)).heap.size from Ne.netBox_lt HN9b.out); have HSZ := Lib.hid (show (w8.setCell ⟨bn, 3, none⟩ (.slice o8 (j + 1) c8)).heap.size = w8.heap.size by simp [World.setCell]); rw [HSZ.out] at HR9; clear hown8 hgr8)
        | (at_builtin; refine Rw.app Ne.elemL Ne.encI_len Ne.encI_one rfl (.tmp 44) (.tmp 46) rfl (bn + 1) _ (List.replicate j x) rfl HF9.out (some ⟨_, 0, none⟩) 1 [x] rfl ?hnn HR9.out HLF.out ?hB ?_; (case hnn => (intro h; cases h)); (case hB => (exact HZ9.out)); intro v7 w7 hown7 hgr7; rw [HRS.out] at hown7; have HF7 := Lib.hid hown7; have HG7 := Lib.hid (show World.grownBy _ w7 (Value.slice of j cf).ownBlock from hgr7); clear hown7 hgr7))
      have HVF9 := Lib.hid (Rw.own_block HF9.out)
      have HNE := Lib.hid (Ne.netBox_grown HN9b.out HG7.out (fun h => by have := HVF9.out _ h.symm; omega))
      have HOE := Lib.hid (Rw.own_grown HO9.out HG7.out (fun q h1 h2 => HD9.out q h1 h2.symm))
      have HBE := Lib.hid (HB9.out.grown HG7.out HB9.out.size (fun b hb => by have := HVF9.out b hb; omega))
      refine ⟨?rel, ?measure⟩
      case rel => exact ⟨j + 1, _, v7, rfl, by go_num, by omega, HNE, HOE, HF7, HBE⟩
      case measure => simp [intOf]; omega
    · have ej : j = k := by omega
      subst ej
      clear hlt hj HN2 HB2
      have HRA := Lib.hid (show Ne.ARow wr oa (AK j) from hra)
      have HRFF := Lib.hid (show Ne.IRow wr of (List.replicate j x) from hrf)
      obtain ⟨n0, n1, n2, n3⟩ := Ne.netBox_cells HN.out
      clear hra hrf HOA HOF
      have C1 := Lib.hid (S1.out (oa, ca) (of, cf) wr HRA.out HRFF.out)
      have C2 := Lib.hid (fun w' h1 h2 => S2.out (oa, ca) (of, cf) w' h1 h2)
      simp only at C1 C2
      clear S1 S2
      by_cases hx : x = 0
      · have hx1 : (x == 0) = true := by simpa using hx
        rw [if_pos hx] at C1 C2
        subst hx
        go_wp2_with fail
        refine C1.out.mono ?_
        rintro e w5 ⟨o5, c5, rfl, hr5, -, hb5⟩
        have HN5 := Lib.hid (Ne.netBox_below HN.out hb5 (Ne.netBox_lt HN.out))
        have HB5 := Lib.hid (HB.out.trans (hb5.mono HB.out.size))
        have HRA5 := Lib.hid (HRA.out.kept hb5)
        have HRF5 := Lib.hid (HRFF.out.kept hb5)
        clear hr5 hb5 n0 n1 n2 n3 C1
        obtain ⟨n0, n1, n2, n3⟩ := Ne.netBox_cells HN5.out
        have hb6 := (Below.refl w5.heap.size w5).alloc (Nat.le_refl _) (.cells #[.int .i64 ((j : Int) + 1), .int .i64 ((j : Int) + 1), .int .i64 1, .slice oa j ca] 24)
        have HB6 := Lib.hid (HB5.out.trans (hb6.mono HB5.out.size))
        have HRA6 := Lib.hid (HRA5.out.kept hb6)
        have HRF6 := Lib.hid (HRF5.out.kept hb6)
        have HN6 := Lib.hid (Ne.netBox_new w5 ((j : Int) + 1) ((j : Int) + 1) 1 (.slice oa j ca))
        clear hb6
        go_wp2_with fail
        refine (C2.out _ HRA6.out HRF6.out).mono ?_
        rintro e w7 ⟨o7, c7, rfl, hr7, -, hb7⟩
        have HB7 := Lib.hid (HB6.out.trans (hb7.mono HB6.out.size))
        clear hr7 hb7 n0 n1 n2 n3
        go_upto_region 18 with fail
        simp only [List.append]
        go_wp2
        go_ret
        exact ⟨rfl, HB7.out⟩
      · have hx1 : (x == 0) = false := by simpa using hx
        rw [if_neg hx] at C1 C2
        have e1 := HL1.out hx
        have e2 := HL2.out hx
        rw [e1] at C1
        rw [e2] at C2
        clear e1 e2 HL1 HL2
        go_wp2_with fail
        refine C1.out.mono ?_
        rintro e w5 ⟨o5, c5, rfl, hr5, -, hb5⟩
        have HN5 := Lib.hid (Ne.netBox_below HN.out hb5 (Ne.netBox_lt HN.out))
        have HB5 := Lib.hid (HB.out.trans (hb5.mono HB.out.size))
        have HRA5 := Lib.hid (HRA.out.kept hb5)
        have HRF5 := Lib.hid (HRFF.out.kept hb5)
        have HI5 := Lib.hid hr5
        clear hr5 hb5 n0 n1 n2 n3 C1
        obtain ⟨n0, n1, n2, n3⟩ := Ne.netBox_cells HN5.out
        have hb6 := (Below.refl w5.heap.size w5).alloc (Nat.le_refl _) (.cells #[.int .i64 ((j : Int) + 1), .int .i64 ((j : Int) + 1), .int .i64 1, .slice oa j ca] 24)
        have HB6 := Lib.hid (HB5.out.trans (hb6.mono HB5.out.size))
        have HRA6 := Lib.hid (HRA5.out.kept hb6)
        have HRF6 := Lib.hid (HRF5.out.kept hb6)
        have HI6 := Lib.hid (HI5.out.kept hb6)
        have HN6 := Lib.hid (Ne.netBox_new w5 ((j : Int) + 1) ((j : Int) + 1) 1 (.slice oa j ca))
        clear hb6
        go_wp2_with fail
        refine (C2.out _ HRA6.out HRF6.out).mono ?_
        rintro e w7 ⟨o7, c7, rfl, hr7, -, hb7⟩
        have HB7 := Lib.hid (HB6.out.trans (hb7.mono HB6.out.size))
        obtain ⟨ba, offa, aoa, ca1, rfl, _, d0, d1, d2, _⟩ := (HI6.out.kept hb7).at (i := 0) (by simp)
        obtain ⟨bb, offb, aob, cb1, rfl, _, e0, e1, e2, hrb⟩ := hr7.at (i := 0) (by simp)
        simp [Dc.itAt, Ne.encW_len] at d0 d1 d2 e0 e1 e2 hrb
        obtain ⟨b9, off9, rfl, _, f0⟩ := Ne.irow_cell hrb (i := 0) (by rw [Ne.encW_len]; simp; omega)
        rw [HRF.out] at f0
        simp only [Nat.add_zero] at f0
        clear hr7 hb7 n0 n1 n2 n3 hrb HI5 HI6
        have hxx : (x == x) = true := by simp
        go_upto_region 18 with fail
        simp only [List.append]
        go_wp2
        go_ret
        exact ⟨rfl, HB7.out⟩

end Go.Proofs.Ytkeojkddbannpaa.decompChain
