/-
  The laws' walked. Condition: the network is right.
-/
import Derived.Test.YtkeojkddbannpaaWalkd
import Derived.Test.YtkeojkddbannpaaFexs
import Derived.Test.YtkeojkddbannpaaRtm
import Derived.Test.YtkeojkddbannpaaIrow
namespace Go.Proofs.Ytkeojkddbannpaa
open Go.ChangeShapes Go.WideShapes Go.ChangeAt Go.RowKit
set_option linter.unusedVariables false
set_option linter.unusedSimpArgs false
namespace Ne
set_option maxRecDepth 100000 in
set_option maxHeartbeats 1000000 in
theorem walked_any (n : Net) (ao : Option Addr) (cap : Nat) (fo : Option Addr) (fc : Nat) (f : List Int) (raw : Int) (w : World) (hr : ARow w ao n.l) (hf : IRow w fo f) (hc : checkN n = 0) (hfl : f.length = n.l.length) (hraw : in64 raw) :
    Calls Try.prog 33 #[encN n ao cap, .slice fo f.length fc, .int .i64 raw] w fun e w' => ∃ v, e = .returned v ∧ OwnI w' w.heap.size v (encW (walkN n f raw)) ∧ Below w.heap.size w w' := by
  have RT := right_of hc
  have A1 := Lib.hid RT.fr0
  have A2 := Lib.hid RT.fr1
  have A3 := Lib.hid RT.to0
  have A4 := Lib.hid RT.to1
  have hN0 := RT.n0
  have hN1 := RT.n1
  have hL := RT.len
  have hs0 := RT.s0
  have hs1 := RT.s1
  have HWN := Lib.hid (show walkN n f raw = goN n.l f raw n.t (n.n.toNat + 2) ((List.replicate (n.n.toNat + 1) false).set n.s.toNat true) n.s [] from rfl)
  generalize walkN n f raw = R at *
  clear RT hc
  obtain ⟨nn, ns, nt, l⟩ := n
  simp only at hr hfl A1 A2 A3 A4 hN0 hN1 hL hs0 hs1 HWN ⊢
  obtain ⟨N, rfl⟩ : ∃ N : Nat, nn = (N : Int) := ⟨nn.toNat, by omega⟩
  obtain ⟨sn, rfl⟩ : ∃ s : Nat, ns = (s : Int) := ⟨ns.toNat, by omega⟩
  rw [Int.toNat_natCast, Int.toNat_natCast] at HWN
  have HLE := Lib.hid hfl
  rw [hfl]
  have HR := Lib.hid hr
  have HF := Lib.hid hf
  have HRW := Lib.hid hraw
  obtain ⟨hraw0, hraw1⟩ := hraw
  clear hr hf hfl
  have hmk := make_b (N + 1) (by omega)
  rw [show ((N + 1 : Nat) : Int) = (N : Int) + 1 by omega] at hmk
  have hsl : sn < N + 1 := by omega
  have hsI : (sn : Int) < (N : Int) + 1 := by omega
  have HN0 := Lib.hid (netBox_new w N sn nt (.slice ao l.length cap))
  have HB0 := Lib.hid ((Below.refl w.heap.size w).alloc (Nat.le_refl _) (.cells #[.int .i64 (N : Int), .int .i64 (sn : Int), .int .i64 nt, .slice ao l.length cap] 24))
  have HZ0 : (w.alloc (.cells #[.int .i64 (N : Int), .int .i64 (sn : Int), .int .i64 nt, .slice ao l.length cap] 24)).heap.size = w.heap.size + 1 := by simp
  have HM0 := Lib.hid (bbox_made (w.alloc (.cells #[.int .i64 (N : Int), .int .i64 (sn : Int), .int .i64 nt, .slice ao l.length cap] 24)) (N + 1) (b := w.heap.size + 1) HZ0.symm)
  obtain ⟨n0, n1, n2, n3⟩ := netBox_cells HN0.out
  obtain ⟨m0, m1, m2, m3⟩ := netBox_cells (netBox_alloc HN0.out (.cells (madeCells #[.bool false] (N + 1)) 4))
  have e0 := HM0.out.cell (i := sn) (by simp; omega)
  rw [replB_false] at e0
  have z0 := HM0.out.frozen sn
  have HM1 := Lib.hid (HM0.out.set (i := sn) (by simp; omega) true)
  have HN1 := Lib.hid (netBox_other (netBox_alloc HN0.out (.cells (madeCells #[.bool false] (N + 1)) 4)) (b2 := w.heap.size + 1) (o := sn) (v2 := .bool true) (by omega))
  have HB1 := Lib.hid ((HB0.out.alloc (by omega) (.cells (madeCells #[.bool false] (N + 1)) 4)).setCell (p := ⟨w.heap.size + 1, sn, none⟩) (by simp) (.bool true))
  have HZ1 := Lib.hid (show w.heap.size + 2 ≤ (((w.alloc (.cells #[.int .i64 (N : Int), .int .i64 (sn : Int), .int .i64 nt, .slice ao l.length cap] 24)).alloc (.cells (madeCells #[.bool false] (N + 1)) 4)).setCell ⟨w.heap.size + 1, sn, none⟩ (.bool true)).heap.size by simp [World.setCell])
  have HML := Lib.hid (show ((List.replicate (N + 1) false).set sn true).length = N + 1 by simp)
  have HUN := Lib.hid (show unmet ((List.replicate (N + 1) false).set sn true) ≤ N by
    have := unmet_set (met := List.replicate (N + 1) false) (i := sn) (by simp; omega) (replB_false _ _)
    have h2 : unmet (List.replicate (N + 1) false) = N + 1 := by unfold unmet; rw [List.countP_replicate]; simp
    omega)
  generalize (List.replicate (N + 1) false).set sn true = met0 at *
  rw [World.setCell_alloc_at (w := w.alloc (.cells #[.int .i64 (N : Int), .int .i64 (sn : Int), .int .i64 nt, .slice ao l.length cap] 24)) (madeCells #[.bool false] (N + 1)) 4 (w.heap.size + 1) sn (.bool true) HZ0.symm] at HM1 HN1 HB1 HZ1
  clear HM0 HN0 HB0
  go_enter Try.func33, Try.ntmps33
  go_wp2
  generalize ((w.alloc (.cells #[.int .i64 (N : Int), .int .i64 (sn : Int), .int .i64 nt, .slice ao l.length cap] 24)).alloc (.cells ((madeCells #[.bool false] (N + 1)).setIfInBounds sn (.bool true)) 4)) = W1 at *
  clear n0 n1 n2 n3 m0 m1 m2 m3 e0 z0 HZ0 hmk
  obtain ⟨bm, hbm⟩ : ∃ b, b = w.heap.size + 1 := ⟨_, rfl⟩
  rw [← hbm] at HM1 ⊢
  have hbm0 : w.heap.size < bm := by omega
  have HZM : Hid (bm < W1.heap.size) := Lib.hid (by have := HZ1.out; omega)
  clear hbm HZ1
  go_loopw [8, 9] (fun su sv wr => ∃ (u : Int) (wk : List Nat) (met : List Bool) (fuel : Nat) (v : Value), su = .int .i64 u ∧ v = sv ∧ 1 ≤ u ∧ u ≤ N ∧ met.length = N + 1 ∧ unmet met < fuel ∧ wk.length + unmet met ≤ N + 1 ∧
    Hid (OwnI wr (bm + 1) v (encW wk)) ∧ Hid (BBox wr bm met) ∧ Hid (NetBox wr w.heap.size N sn nt (.slice ao l.length cap)) ∧ Hid (Below w.heap.size w wr) ∧ Hid (bm < wr.heap.size) ∧ Hid (R = goN l f raw nt fuel met u wk)) (fun _ sv _ => N + 1 - lenOf sv)
  case atStart => exact ⟨(sn : Int), [], met0, N + 2, _, rfl, rfl, hs0, hs1, HML.out, by have := HUN.out; omega, by have := HUN.out; simp; omega, Lib.hid (Rw.own_nil _ _), HM1, HN1, HB1, HZM, HWN⟩
  case round =>
    obtain ⟨u, wk, met, fuel, v, rfl, rfl, hu0, hu1, hml, hun, hwl, HO, HM, HN, HB, HZ, HG⟩ := hrel
    clear HM1 HN1 HB1 HZM HWN HML HUN hs0 hs1
    obtain ⟨ow, cw, hv, _, _, _, _⟩ := Rw.own_row encI_len HO.out
    rw [encW_len] at hv
    subst hv
    have HMLN := Lib.hid hml
    have HUM := Lib.hid hun
    have HWL := Lib.hid hwl
    have hwN : wk.length ≤ N + 1 := by omega
    clear hml hun hwl
    obtain ⟨n0, n1, n2, n3⟩ := netBox_cells HN.out
    by_cases c : u = nt
    · have c' : (u == nt) = true := by simpa using c
      have cn : (u != nt) = false := by simpa using c
      have HE := Lib.hid (show R = wk by
        rw [HG.out]
        obtain ⟨fu, rfl⟩ : ∃ k, fuel = k + 1 := ⟨fuel - 1, by have := HUM.out; omega⟩
        unfold goN; rw [if_pos c])
      have HOE := Lib.hid (Rw.own_base HO.out (B' := w.heap.size) (by omega))
      clear c
      go_wp2
      go_ret
      exact ⟨_, rfl, by rw [HE.out]; exact HOE.out, HB.out⟩
    have c' : (u == nt) = false := by simpa using c
    have cn : (u != nt) = true := by simpa using c
    obtain ⟨WX, hWX⟩ : ∃ x, x = wr := ⟨_, rfl⟩
    have HOX := Lib.hid (show OwnI WX (bm + 1) (.slice ow wk.length cw) (encW wk) from hWX ▸ HO.out)
    have HMX := Lib.hid (show BBox WX bm met from hWX ▸ HM.out)
    have HNX := Lib.hid (show NetBox WX w.heap.size N sn nt (.slice ao l.length cap) from hWX ▸ HN.out)
    have HBX := Lib.hid (show Below w.heap.size w WX from hWX ▸ HB.out)
    have HZX := Lib.hid (show bm < WX.heap.size from hWX ▸ HZ.out)
    have HST0 := Lib.hid (show Below WX.heap.size WX wr from hWX ▸ Below.refl _ _)
    have HC := Lib.hid c
    clear hWX HO HM HN HB HZ c
    go_wp2
    clear n0 n1 n2 n3
    go_loopw [10, 11] (fun sf si wr => ∃ (j : Nat) (v : Value), si = .int .i64 j ∧ v = sf ∧ j ≤ l.length ∧ Hid (OwnI wr WX.heap.size v (encW (fitL l f met u j))) ∧ Hid (Below WX.heap.size WX wr)) (fun _ si _ => l.length - (intOf si).toNat)
    case atStart => exact ⟨0, _, rfl, rfl, Nat.zero_le _, Lib.hid (by rw [fitL_zero]; exact Rw.own_nil _ _), HST0⟩
    case round =>
      obtain ⟨j, v, rfl, rfl, hj, HOF, HBW⟩ := hrel
      clear HST0
      have HNJ := Lib.hid (netBox_below HNX.out HBW.out (netBox_lt HNX.out))
      obtain ⟨n0, n1, n2, n3⟩ := netBox_cells HNJ.out
      have hszx := HBW.out.size
      have hzx := HZX.out
      by_cases hlt : j < l.length
      · have HRJ := Lib.hid ((HR.out.kept HBX.out).kept HBW.out)
        have HFJ := Lib.hid ((HF.out.kept HBX.out).kept HBW.out)
        obtain ⟨b, off, rfl, hbl, c0, c1, c2⟩ := arow_cell HRJ.out hlt
        obtain ⟨b2, off2, rfl, hbl2, d0⟩ := irow_cell HFJ.out (i := j) (by have := HLE.out; omega)
        have q3 := A3.out j hlt
        have q4 := A4.out j hlt
        obtain ⟨tn, htn⟩ : ∃ t : Nat, (arcAt l j).to = (t : Int) := ⟨(arcAt l j).to.toNat, by omega⟩
        have htl : tn < met.length := by have := HMLN.out; omega
        have htI : (tn : Int) < (N : Int) + 1 := by omega
        have e0 := (HMX.out.kept HBW.out).cell htl
        have HFS := Lib.hid (fitL_succ l f met u j)
        rw [htn, Int.toNat_natCast] at HFS
        rw [htn] at c1
        have hji : (j : Int) < (l.length : Int) := by omega
        have hj0 : (0 : Int) ≤ (j : Int) := by omega
        have HFL := Lib.hid (fitL_len l f met u j)
        generalize met.getD tn false = mb at *
        generalize amt f j = x at *
        generalize (arcAt l j).cap = ca at *
        generalize (arcAt l j).fr = fr at *
        clear q3 q4 htn
        by_cases p1 : fr = u
        case neg =>
          have p1' : (fr == u) = false := by simpa using p1
          have HS2 := Lib.hid (show fitL l f met u (j + 1) = fitL l f met u j by rw [HFS.out]; simp [p1])
          clear p1
          go_wp2
          go_quiet (fail)
          go_wp2
          go_roundw
          case rel => exact ⟨j + 1, _, by go_num, rfl, by omega, Lib.hid (by rw [HS2.out]; exact Rw.own_drewN HOF.out _), Lib.hid (below_dn HBW.out _)⟩
          case measure => simp [intOf]; omega
        have p1' : (fr == u) = true := by simpa using p1
        have HP1 := Lib.hid p1
        clear p1
        cases mb
        case true =>
          have HS2 := Lib.hid (show fitL l f met u (j + 1) = fitL l f met u j by rw [HFS.out]; simp)
          go_wp2
          go_quiet (fail)
          go_wp2
          go_roundw
          case rel => exact ⟨j + 1, _, by go_num, rfl, by omega, Lib.hid (by rw [HS2.out]; exact Rw.own_drewN HOF.out _), Lib.hid (below_dn HBW.out _)⟩
          case measure => simp [intOf]; omega
        by_cases p2 : x < ca
        case neg =>
          have p2' : decide (x < ca) = false := by simpa using p2
          have HS2 := Lib.hid (show fitL l f met u (j + 1) = fitL l f met u j by rw [HFS.out]; simp [p2])
          go_wp2
          go_quiet (fail)
          go_wp2
          go_roundw
          case rel => exact ⟨j + 1, _, by go_num, rfl, by omega, Lib.hid (by rw [HS2.out]; exact Rw.own_drewN HOF.out _), Lib.hid (below_dn HBW.out _)⟩
          case measure => simp [intOf]; omega
        have p2' : decide (x < ca) = true := by simpa using p2
        have HS2 := Lib.hid (show encW (fitL l f met u (j + 1)) = encW (fitL l f met u j) ++ [(j : Int)] by rw [HFS.out, ← encW_snoc]; simp [p2, HP1.out])
        go_wp2
        go_quiet (fail)
        have HO3 := Lib.hid (Rw.own_alloc (Rw.own_drewN HOF.out nq) (.cells #[.int .i64 (j : Int)] 3))
        have HR3 := Lib.hid (irow_one' (wr.drewN nq) rfl (j : Int) 3)
        have HLN3 := Lib.hid (show (encW (fitL l f met u j)).length + ([(j : Int)] : List Int).length ≤ 1099511627776 by rw [encW_len]; have := HFL.out; simp; omega)
        have HB3 := Lib.hid (show Below WX.heap.size WX ((wr.drewN nq).alloc (.cells #[.int .i64 (j : Int)] 3)) from (below_dn HBW.out nq).alloc hszx _)
        have hvb := Rw.own_block HOF.out
        go_wp2_with (at_builtin; refine Rw.app elemI encI_len encI_one rfl (.tmp 66) (.tmp 68) rfl WX.heap.size _ (encW (fitL l f met u j)) rfl HO3.out (some ⟨wr.heap.size, 0, none⟩) 1 [(j : Int)] rfl ?hnn HR3.out HLN3.out ?hB ?_; (case hnn => (intro h; cases h)); (case hB => (simp; omega)); intro v4 w4 hown4 hgr4; rw [← HS2.out] at hown4; have HB4 := Lib.hid (HB3.out.grown hgr4 (by simp; omega) hvb); have HO4 := Lib.hid hown4; clear hown4 hgr4)
        go_roundw
        case rel => exact ⟨j + 1, _, by go_num, rfl, by omega, HO4, HB4⟩
        case measure => simp [intOf]; omega
      · have ej : j = l.length := by omega
        subst ej
        obtain ⟨of, cf, hv, _, _, _, hrf, _⟩ := Rw.own_row encI_len HOF.out
        rw [encW_len] at hv
        subst hv
        have HRF := Lib.hid hrf
        have HBE := Lib.hid (HBX.out.trans (HBW.out.mono HBX.out.size))
        clear hrf hlt
        by_cases d : fitL l f met u l.length = []
        · have HE := Lib.hid (show R = [] by
            rw [HG.out]
            obtain ⟨fu, rfl⟩ : ∃ k, fuel = k + 1 := ⟨fuel - 1, by have := HUM.out; omega⟩
            unfold goN; rw [if_neg HC.out, if_pos d])
          have d0 : (fitL l f met u l.length).length = 0 := by rw [d]; rfl
          generalize (fitL l f met u l.length).length = fl at *
          subst d0
          clear d
          go_wp2
          go_ret
          exact ⟨_, rfl, by rw [HE.out]; exact Rw.own_nil _ _, HBE.out⟩
        have hfl0 : 0 < (fitL l f met u l.length).length := List.length_pos_iff.2 d
        have hfl1 := fitL_len l f met u l.length
        have hix := pickIx_lt raw wk.length hfl0
        have hmem := next_arc (raw := raw) (w := wk.length) d
        obtain ⟨K, hK⟩ : ∃ k, (fitL l f met u l.length).getD (pickIx raw wk.length (fitL l f met u l.length).length) 0 = k := ⟨_, rfl⟩
        rw [hK] at hmem
        obtain ⟨k1, k2, k3, k4⟩ := fitL_mem hmem
        have q3 := A3.out K k1
        have q4 := A4.out K k1
        obtain ⟨tn, htn⟩ : ∃ t : Nat, (arcAt l K).to = (t : Int) := ⟨(arcAt l K).to.toNat, by omega⟩
        rw [htn] at q3 q4 k3
        rw [Int.toNat_natCast] at k3
        have htl : tn < met.length := by have := HMLN.out; omega
        have htI : (tn : Int) < (N : Int) + 1 := by omega
        have HUS := Lib.hid (unmet_set htl k3)
        have HG2 := Lib.hid (show R = goN l f raw nt (fuel - 1) (met.set tn true) (tn : Int) (wk ++ [K]) by
          rw [HG.out]
          obtain ⟨fu, rfl⟩ : ∃ k, fuel = k + 1 := ⟨fuel - 1, by have := HUM.out; omega⟩
          rw [goN_step HC.out d hK, htn, Int.toNat_natCast, Nat.add_sub_cancel])
        obtain ⟨bf, offf, rfl, hbf, f0⟩ := irow_cell HRF.out (i := pickIx raw wk.length (fitL l f met u l.length).length) (by rw [encW_len]; exact hix)
        rw [encW_at hix, hK] at f0
        obtain ⟨b, off, rfl, hbl, c0, c1, c2⟩ := arow_cell ((HR.out.kept HBX.out).kept HBW.out) k1
        rw [htn] at c1
        have hpk : pickN (raw.tdiv ((wk.length : Int) + 1)) ((fitL l f met u l.length).length : Int) = ((pickIx raw wk.length (fitL l f met u l.length).length : Nat) : Int) := by
          unfold pickIx
          have := pickN_bd (c := raw.tdiv ((wk.length : Int) + 1)) (n := ((fitL l f met u l.length).length : Int)) (by omega)
          omega
        obtain ⟨q, hq⟩ : ∃ q, raw.tdiv ((wk.length : Int) + 1) = q := ⟨_, rfl⟩
        have hq64 : in64 q := by rw [← hq]; exact in64_tdiv HRW.out (by omega)
        obtain ⟨hq0, hq1⟩ := hq64
        have hwq : IntKind.i64.wrap q = q := by rw [IntKind.wrap_i64]; omega
        have hd0 : ¬ ((wk.length : Int) + 1 = 0) := by omega
        have hd1 : (((wk.length : Int) + 1) == 0) = false := by simp; omega
        have hww : IntKind.i64.wrap ((wk.length : Int) + 1) = (wk.length : Int) + 1 := by rw [IntKind.wrap_i64]; omega
        rw [hq] at hpk
        have PK := Lib.hid fun w' => pick_any q ((fitL l f met u l.length).length : Int) w' hq0 hq1 (by omega) (by omega)
        rw [hpk] at PK
        generalize (fitL l f met u l.length).length = fl at *
        generalize pickIx raw wk.length fl = ix at *
        have hixI : (ix : Int) < (fl : Int) := by omega
        have hix0 : (0 : Int) ≤ (ix : Int) := by omega
        have hKI : (K : Int) < (l.length : Int) := by omega
        have hK0 : (0 : Int) ≤ (K : Int) := by omega
        clear k2 k3 k4 hmem hK d hpk
        have HOW := Lib.hid (Rw.own_below HOX.out HBW.out)
        have HO3 := Lib.hid (Rw.own_alloc HOW.out (.cells #[.int .i64 (K : Int)] 3))
        have HR3 := Lib.hid (irow_one' wr rfl (K : Int) 3)
        have HLN3 := Lib.hid (show (encW wk).length + ([(K : Int)] : List Int).length ≤ 1099511627776 by rw [encW_len]; simp; omega)
        have HVB := Lib.hid (Rw.own_block HOW.out)
        have HMJ := Lib.hid ((HMX.out.kept HBW.out).alloc (.cells #[.int .i64 (K : Int)] 3))
        have HNA := Lib.hid (netBox_alloc HNJ.out (.cells #[.int .i64 (K : Int)] 3))
        have HBA := Lib.hid (HBE.out.alloc HBE.out.size (.cells #[.int .i64 (K : Int)] 3))
        have HZA := Lib.hid (show bm < (wr.alloc (.cells #[.int .i64 (K : Int)] 3)).heap.size by simp; omega)
        have HK1 := Lib.hid k1
        have HTN := Lib.hid htl
        have HT1 := Lib.hid (show (arcAt l K).to = (tn : Int) from htn)
        clear htn
        go_wp2_with fail
        refine (PK.out _).mono ?_
        rintro e w' ⟨rfl, rfl⟩
        go_wp2_with (at_builtin; refine Rw.app elemI encI_len encI_one rfl (.tmp 84) (.tmp 86) rfl (bm + 1) _ (encW wk) rfl HO3.out (some ⟨wr.heap.size, 0, none⟩) 1 [(K : Int)] rfl ?hnn HR3.out HLN3.out ?hB ?_; (case hnn => (intro h; cases h)); (case hB => (exact HZA.out)); intro v4 w4 hown4 hgr4; rw [← encW_snoc] at hown4; have HM4 := Lib.hid (HMJ.out.grown hgr4 (fun h => by have := HVB.out _ h.symm; omega)); have HN4 := Lib.hid (netBox_grown HNA.out hgr4 (fun h => by have := HVB.out _ h.symm; omega)); have HB4 := Lib.hid (HBA.out.grown hgr4 (Nat.le_trans HBE.out.size (by simp)) (fun b hb => by have := HVB.out _ hb; omega)); have HZ4 := Lib.hid (Nat.lt_of_lt_of_le HZA.out hgr4.size); have HO4 := Lib.hid hown4; clear hown4 hgr4; obtain ⟨n0, n1, n2, n3⟩ := netBox_cells HN4.out; obtain ⟨_, _, e4, _, g0, g1, g2⟩ := arow_cell (HR.out.kept HB4.out) HK1.out; cases e4; rw [HT1.out] at g1; have m0 := HM4.out.cell HTN.out; have z0 := HM4.out.frozen tn)
        have HM5 := Lib.hid (HM4.out.set HTN.out true)
        have HN5 := Lib.hid (netBox_other HN4.out (b2 := bm) (o := tn) (v2 := .bool true) (by omega))
        have HB5 := Lib.hid (HB4.out.setCell (p := ⟨bm, tn, none⟩) (by show w.heap.size ≤ bm; omega) (.bool true))
        have HO5 := Lib.hid (Rw.own_set HO4.out (p := ⟨bm, tn, none⟩) (fun h => by have := Rw.own_block HO4.out _ h; simp only at this; omega) (.bool true))
        have HZ5 := Lib.hid (show bm < (w4.setCell ⟨bm, tn, none⟩ (.bool true)).heap.size by have := HZ4.out; simpa [World.setCell] using this)
        have hlen5 : lenOf v4 = wk.length + 1 := by
          obtain ⟨_, _, hv4, _⟩ := Rw.own_row encI_len HO4.out
          rw [hv4]; simp [lenOf, encW_len]
        have HU5 := Lib.hid (show unmet (met.set tn true) < fuel - 1 by have := HUS.out; have := HUM.out; omega)
        have HW5 := Lib.hid (show (wk ++ [K]).length + unmet (met.set tn true) ≤ N + 1 by have := HUS.out; have := HWL.out; simp; omega)
        have HL5 := Lib.hid (show (met.set tn true).length = N + 1 by simpa using HMLN.out)
        have hw6 : wk.length + 1 ≤ N + 1 := by have := HUS.out; have := HWL.out; omega
        clear m0 z0 g0 g1 g2 n0 n1 n2 n3
        go_roundw
        case rel => exact ⟨(tn : Int), wk ++ [K], met.set tn true, fuel - 1, v4, rfl, rfl, by omega, by omega, HL5.out, HU5.out, HW5.out, HO5, HM5, HN5, HB5, HZ5, HG2⟩
        case measure => simp only [lenOf] at hlen5 ⊢; omega
end Ne
end Go.Proofs.Ytkeojkddbannpaa
