/- CutMoves: for every input the law returns true and its arguments read as they did. No condition. -/
import Derived.Test.YthhlfphnokdfaaaShownC
import Derived.Test.YthhlfphnokdfaaaHas
import Derived.Test.YthhlfphnokdfaaaSom
import Derived.Test.YthhlfphnokdfaaaCtm
import Derived.Test.YthhlfphnokdfaaaOpenc
import Derived.Test.YthhlfphnokdfaaaRmade
import Derived.Test.YthhlfphnokdfaaaMadem
import Derived.Deep.LoopGhost
import Derived.Deep.DeepCutAuto
import Derived.RegionTactic
import Derived.BigRegion
import Derived.Test.YthhlfphnokdfaaaRows
import Derived.WalkKit
import Derived.ProofKit
import Derived.OpenShut
import Derived.ShutString
import Derived.ChangeOld
import Derived.Below
import Derived.Deep.Strs
namespace Go.Proofs.Ythhlfphnokdfaaa.cutMoves
open Go.ChangeShapes Go.WideShapes Go.ChangeAt Go.RowKit
open Go.ChangeMaps (open_string shut_string)
set_option linter.unusedVariables false
set_option linter.unusedSimpArgs false

theorem own : ownKnob Try.prog.godebug = none := by kernel_rfl
theorem laidOut : laidOutB Try.prog = true := by kernel_rfl



set_option maxRecDepth 100000 in
set_option maxHeartbeats 4000000 in
theorem walk (a0 : Int) (a1 : Int) (a2 : List Ne.Arc) (o2 : Option Addr) (c2 : Nat) (a3 : Int) (a4 : Int) (w : World) (w0 : (Lit.int .i64 a0).wf = true) (w1 : (Lit.int .i64 a1).wf = true) (k2 : ∀ a ∈ a2, Ne.Arc.ok a) (z2 : a2.length ≤ c2) (y2 : c2 ≤ maxLen) (n2 : o2 = none → c2 = 0) (r2 : Ne.ARow w o2 a2) (w3 : (Lit.int .i64 a3).wf = true) (w4 : (Lit.int .i64 a4).wf = true) :
    Calls Try.prog 6 #[.int .i64 a0, .int .i64 a1, .slice o2 a2.length c2, .int .i64 a3, .int .i64 a4] w fun e w' => e = .returned (.bool true) ∧ Below w.heap.size w w' := by
  have HSH := Lib.hid (Ne.shown_any w)
  obtain ⟨mn, hmn⟩ : ∃ x, x = (Ne.madeN a0 a1 a2).n := ⟨_, rfl⟩
  obtain ⟨ms, hms⟩ : ∃ x, x = (Ne.madeN a0 a1 a2).s := ⟨_, rfl⟩
  obtain ⟨mt, hmt⟩ : ∃ x, x = (Ne.madeN a0 a1 a2).t := ⟨_, rfl⟩
  obtain ⟨ml, hml⟩ : ∃ x, x = (Ne.madeN a0 a1 a2).l := ⟨_, rfl⟩
  have em : Ne.madeN a0 a1 a2 = ⟨mn, ms, mt, ml⟩ := by rw [hmn, hms, hmt, hml]
  obtain ⟨f1, f2, f3, f4, f5, f6, f7, f8, f9⟩ := Ne.madeN_fine (nodes := a0) (ends := a1) k2
  have ck := Ne.made_check (nodes := a0) (ends := a1) k2
  have MD := Lib.hid fun w' (h : Ne.ARow w' o2 a2) => Ne.made_s a0 a1 a2 o2 c2 w' (bounds_i64 w0) (bounds_i64 w1) k2 h
  rw [em] at MD f1 f2 f3 f4 f5 f6 f7 f8 f9 ck
  simp only at f1 f2 f3 f4 f5 f6 f7 f8 f9
  clear hmn hms hmt hml em
  have f8' : ml.length ≤ 24 := by omega
  clear f8
  have CK := Lib.hid ck
  have RT := Lib.hid (Ne.right_of ck)
  have FI := Lib.hid f9
  have CAP := Lib.hid (show ∀ a ∈ ml, Ne.in64 a.cap from fun a ha => by have := (f9 a ha).2.2; unfold Ne.in64; omega)
  have hl6 : ml.length ≤ 1000000 := by omega
  have F7 := Lib.hid f7
  have RA := Lib.hid r2
  clear r2 f7 f9 ck
  obtain ⟨N, rfl⟩ : ∃ N : Nat, mn = (N : Int) := ⟨mn.toNat, by omega⟩
  obtain ⟨S, rfl⟩ : ∃ S : Nat, ms = (S : Int) := ⟨ms.toNat, by omega⟩
  obtain ⟨D, rfl⟩ : ∃ D : Nat, mt = (D : Int) := ⟨mt.toNat, by omega⟩
  have A3 := Lib.hid (show Ne.in64 a3 from bounds_i64 w3)
  clear w3
  have A4 := Lib.hid (show Ne.in64 a4 from bounds_i64 w4)
  clear w4
  have SM := Lib.hid fun ao cap x w' h => Ne.some_any ⟨(N : Int), (S : Int), (D : Int), ml⟩ ao cap x w' RT.out h
  simp only [Int.toNat_natCast] at SM
  have PK := Lib.hid fun w' => Ne.pick_any a4 (N : Int) w' A4.out.1 A4.out.2 (by omega) (by omega)
  have PB := Lib.hid (Ne.pickN_bd (c := a4) (n := (N : Int)) (by omega))
  have CP := Lib.hid fun ao cap so sc Q w' (h1 : Ne.ARow w' ao ml) h2 => Ne.capacity_any ⟨(N : Int), (S : Int), (D : Int), ml⟩ ao cap so sc Q w' h1 h2 hl6 CAP.out
  have MV := Lib.hid fun p (hs : p S = true) (ht : p D = false) (u : Nat) h1 h2 h3 h4 => Ne.cut_moved (n := ⟨(N : Int), (S : Int), (D : Int), ml⟩) CK.out (p := p) hs ht (u := u) h1 h2 h3 h4
  have NC := Lib.hid fun p (hs : p S = true) (ht : p D = false) => Ne.nodes_cut (n := ⟨(N : Int), (S : Int), (D : Int), ml⟩) CK.out (p := p) hs ht
  simp only [Int.toNat_natCast] at MV NC
  have CB := Lib.hid fun Q => Ne.capV_bd ⟨(N : Int), (S : Int), (D : Int), ml⟩ Q
  have FB := Lib.hid (show ∀ j, j < ml.length → (1 ≤ (Ne.arcAt ml j).fr ∧ (Ne.arcAt ml j).fr ≤ (N : Int)) ∧ (1 ≤ (Ne.arcAt ml j).to ∧ (Ne.arcAt ml j).to ≤ (N : Int)) ∧ 0 ≤ (Ne.arcAt ml j).cap ∧ (Ne.arcAt ml j).cap ≤ 1000000 from fun j hj => by
    obtain ⟨g1, g2, g3, g4⟩ := FI.out _ (List.mem_of_getElem? (Ne.at_arc hj))
    exact ⟨(Ne.isNode_iff _ _).1 g1, (Ne.isNode_iff _ _).1 g2, g3, g4⟩)
  generalize Ne.pickN a4 (N : Int) = pk at *
  have hPB := PB.out
  obtain ⟨u0, rfl⟩ : ∃ u0 : Nat, pk = (u0 : Int) := ⟨pk.toNat, by omega⟩
  go_enter Try.func6, Try.ntmps6
  go_wp2_with fail
  refine HSH.out.mono ?_
  rintro e w1 ⟨rfl, hb⟩
  have HB1 := Lib.hid hb
  clear hb
  go_wp2_with fail
  refine (MD.out _ (RA.out.kept HB1.out)).mono ?_
  rintro e w2 ⟨om, cm, rfl, ho, hb⟩
  have HB2 := Lib.hid (HB1.out.trans (hb.mono HB1.out.size))
  have HV2 := Lib.hid (Rw.own_lt ho)
  have HO3 := Lib.hid (Rw.own_base (Rw.own_alloc ho (.cells #[.int .i64 (N : Int), .int .i64 (S : Int), .int .i64 (D : Int), .slice om ml.length cm] 24)) (B' := w.heap.size) HB1.out.size)
  have HN3 := Lib.hid (Ne.netBox_new w2 (N : Int) (S : Int) (D : Int) (.slice om ml.length cm))
  have hz2 : w.heap.size ≤ w2.heap.size := HB2.out.size
  have HB3 := Lib.hid (HB2.out.alloc hz2 (.cells #[.int .i64 (N : Int), .int .i64 (S : Int), .int .i64 (D : Int), .slice om ml.length cm] 24))
  clear ho hb MD RA HSH
  go_wp2_with fail
  obtain ⟨bn, hbn⟩ : ∃ b, b = w2.heap.size := ⟨_, rfl⟩
  have hbn3 : bn < (w2.alloc (.cells #[.int .i64 (N : Int), .int .i64 (S : Int), .int .i64 (D : Int), .slice om ml.length cm] 24)).heap.size := by rw [hbn]; simp
  rw [← hbn] at HN3 HV2 hz2 ⊢
  clear hbn HB2 HB1
  generalize (w2.alloc (.cells #[.int .i64 (N : Int), .int .i64 (S : Int), .int .i64 (D : Int), .slice om ml.length cm] 24)) = W3 at *
  have HR3 := Lib.hid (Ne.arow_ofA HO3.out)
  refine (SM.out om cm a3 W3 A3.out).mono ?_
  rintro e v4 ⟨so, sc, p, rfl, hps, hpt, ho, hb⟩
  have HB4 := Lib.hid (HB3.out.trans (hb.mono HB3.out.size))
  have HN4 := Lib.hid (Ne.netBox_below HN3.out hb (Ne.netBox_lt HN3.out))
  have HR4 := Lib.hid (HR3.out.kept hb)
  have HX4 := Lib.hid (Ne.own_irow ho)
  have Pp := Lib.hid (And.intro hps hpt)
  have LNp := Lib.hid (Ne.nodes_len p N)
  clear hb ho hps hpt 
  obtain ⟨n0, n1, n2, n3⟩ := Ne.netBox_cells HN4.out
  go_wp2_with fail
  refine (PK.out _).mono ?_
  rintro e v5 ⟨rfl, rfl⟩
  obtain ⟨u, hu⟩ : ∃ u, u = u0 + 1 := ⟨_, rfl⟩
  have hui : (1 : Int) + (u0 : Int) = (u : Int) := by omega
  have hu1 : 1 ≤ u := by omega
  have hu2 : u ≤ N := by omega
  have HUI := Lib.hid hui
  clear hu hPB PB PK
  have HH := Lib.hid fun w' h1 => Ne.rhas_any so sc (Ne.nodesTo p N) (u : Int) w' h1 (by have := LNp.out; omega)
  have HHE := Lib.hid (Ne.nodes_has (p := p) (k := N) (v := (u : Int)) (by omega) (by omega))
  rw [Int.toNat_natCast] at HHE
  rw [HHE.out] at HH
  by_cases eS : u = S
  · have e1 : ((u : Int) == (S : Int)) = true := by simp [eS]
    have e2 : (u == S) = true := by simp [eS]
    clear eS
    go_wp2
    go_ret
    exact ⟨rfl, HB4.out⟩
  by_cases eD : u = D
  · have e1 : ((u : Int) == (S : Int)) = false := by simp; omega
    have e2 : (u == S) = false := by simp; omega
    have d1 : ((u : Int) == (D : Int)) = true := by simp [eD]
    have d2 : (u == D) = true := by simp [eD]
    clear eS eD
    go_wp2
    go_ret
    exact ⟨rfl, HB4.out⟩
  have e1 : ((u : Int) == (S : Int)) = false := by simp; omega
  have e2 : (u == S) = false := by simp; omega
  have d1 : ((u : Int) == (D : Int)) = false := by simp; omega
  have d2 : (u == D) = false := by simp; omega
  have HUD := Lib.hid (show (u : Int) ≠ (D : Int) by omega)
  clear eS eD
  cases hpu : p u
  case true =>
    rw [hpu] at HH
    go_wp2_with fail
    refine (HH.out _ HX4.out).mono ?_
    rintro e v5 ⟨rfl, rfl⟩
    go_wp2
    go_ret
    exact ⟨rfl, HB4.out⟩
  rw [hpu] at HH
  go_wp2_with fail
  refine (HH.out _ HX4.out).mono ?_
  rintro e v5 ⟨rfl, rfl⟩
  have HMV := Lib.hid (MV.out p Pp.out.1 Pp.out.2 u hu1 (by omega) hpu HUD.out)
  have HNC := Lib.hid (NC.out p Pp.out.1 Pp.out.2)
  clear HH HHE hpu MV NC hui e1 e2 d1 d2
  go_wp2
  obtain ⟨q, hq⟩ : ∃ q : Nat → Bool, q = fun v => v == u || p v := ⟨_, rfl⟩
  rw [← hq] at HMV
  have HQU := Lib.hid (show q u = true by rw [hq]; simp)
  have HQE := Lib.hid (show ∀ j, j ≠ u → q j = p j from fun j hj => by rw [hq]; simp [hj])
  clear hq n0 n1 n2 n3
  have HPE := Lib.hid (fun j (h1 : 1 ≤ j) (h2 : j ≤ N) => show Ne.hasL (Ne.nodesTo p N) (j : Int) = p j by rw [Ne.nodes_has (by omega) (by omega), Int.toNat_natCast])
  have HH := Lib.hid fun (x : Int) w' h1 => Ne.rhas_any so sc (Ne.nodesTo p N) x w' h1 (by have := LNp.out; omega)
  have HQ0 := Lib.hid (show Ne.nodesTo q 0 = [] from rfl)
  have HQS := Lib.hid (show ∀ k, Ne.nodesTo q (k + 1) = Ne.nodesTo q k ++ if q (k + 1) then [((k + 1 : Nat) : Int)] else [] from fun _ => rfl)
  go_loopw [15, 16] (fun y i wr => ∃ k : Nat, i = .int .i64 ((k + 1 : Nat) : Int) ∧ k ≤ N ∧ Hid (Ne.OwnI wr v4.heap.size y (Ne.nodesTo q k)) ∧ Hid (Below v4.heap.size v4 wr)) (fun _ i _ => N + 1 - (intOf i).toNat)
  case atStart => exact ⟨0, rfl, Nat.zero_le _, Lib.hid (by rw [HQ0.out]; exact Rw.own_nil _ _), Lib.hid (Below.refl _ _)⟩
  case round =>
    obtain ⟨k, rfl, hk, HO, HBV⟩ := hrel
    obtain ⟨n0, n1, n2, n3⟩ := Ne.netBox_cells (Ne.netBox_below HN4.out HBV.out (Ne.netBox_lt HN4.out))
    by_cases hlt : k < N
    · obtain ⟨J, hJ⟩ : ∃ J, J = k + 1 := ⟨_, rfl⟩
      have HSJ := Lib.hid (HQS.out k)
      rw [← hJ] at HSJ ⊢
      have HJ := Lib.hid hJ
      have hJN : J ≤ N := by omega
      have hJ1 : 1 ≤ J := by omega
      have hJi : (J : Int) ≤ (N : Int) := by omega
      clear hJ
      by_cases eu : J = u
      · have HS := Lib.hid (show Ne.nodesTo q J = Ne.nodesTo q k ++ [(J : Int)] by rw [HSJ.out, eu, HQU.out]; rfl)
        have u1 : ((J : Int) == (u : Int)) = true := by simp [eu]
        have u2 : (J == u) = true := by simp [eu]
        clear eu HSJ
        have HO7 := Lib.hid (Rw.own_alloc HO.out (.cells #[.int .i64 (J : Int)] 3))
        have HV7 := Lib.hid (HBV.out.alloc HBV.out.size (.cells #[.int .i64 (J : Int)] 3))
        have HR7 := Lib.hid (Ne.irow_one' wr rfl (J : Int) 3)
        have HLN := Lib.hid (show (Ne.nodesTo q k).length + [(J : Int)].length ≤ 1099511627776 by have := Ne.nodes_len q k; simp; omega)
        have HVB := Lib.hid (Rw.own_block HO7.out)
        go_wp2_with (at_builtin; refine Rw.app Ne.elemI Ne.encI_len Ne.encI_one rfl (.tmp 67) (.tmp 69) rfl v4.heap.size _ (Ne.nodesTo q k) rfl HO7.out (some ⟨wr.heap.size, 0, none⟩) 1 [(J : Int)] rfl ?hnn HR7.out HLN.out ?hB ?_; (case hnn => (intro h; cases h)); (case hB => (exact HV7.out.size)); intro v8 w8 hown8 hgr8; rw [← HS.out] at hown8; have HO8 := Lib.hid hown8; have HV8 := Lib.hid (HV7.out.grown hgr8 HV7.out.size HVB.out); clear hown8 hgr8)
        clear HO7 HV7 HR7 HLN HVB
        go_roundw
        case rel => exact ⟨J, by go_num, hJN, HO8, HV8⟩
        case measure => have := HJ.out; simp [intOf]; omega
      have u1 : ((J : Int) == (u : Int)) = false := by simp; omega
      have u2 : (J == u) = false := by simp; omega
      have HHJ := Lib.hid (HH.out (J : Int) _ (HX4.out.kept HBV.out))
      rw [HPE.out J hJ1 hJN] at HHJ
      rw [HQE.out J eu] at HSJ
      clear eu
      cases hpj : p J
      · rw [hpj] at HHJ HSJ
        have HS := Lib.hid (show Ne.nodesTo q J = Ne.nodesTo q k by rw [HSJ.out]; simp)
        clear hpj HSJ
        go_wp2_with fail
        refine HHJ.out.mono ?_
        rintro e w6 ⟨rfl, rfl⟩
        go_wp2
        go_roundw
        case rel => exact ⟨J, by go_num, hJN, Lib.hid (by rw [HS.out]; exact HO.out), HBV⟩
        case measure => have := HJ.out; simp [intOf]; omega
      · rw [hpj] at HHJ HSJ
        have HS := Lib.hid (show Ne.nodesTo q J = Ne.nodesTo q k ++ [(J : Int)] by rw [HSJ.out]; rfl)
        clear hpj HSJ
        go_wp2_with fail
        refine HHJ.out.mono ?_
        rintro e w6 ⟨rfl, rfl⟩
        have HO7 := Lib.hid (Rw.own_alloc HO.out (.cells #[.int .i64 (J : Int)] 3))
        have HV7 := Lib.hid (HBV.out.alloc HBV.out.size (.cells #[.int .i64 (J : Int)] 3))
        have HR7 := Lib.hid (Ne.irow_one' wr rfl (J : Int) 3)
        have HLN := Lib.hid (show (Ne.nodesTo q k).length + [(J : Int)].length ≤ 1099511627776 by have := Ne.nodes_len q k; simp; omega)
        have HVB := Lib.hid (Rw.own_block HO7.out)
        go_wp2_with (at_builtin; refine Rw.app Ne.elemI Ne.encI_len Ne.encI_one rfl (.tmp 67) (.tmp 69) rfl v4.heap.size _ (Ne.nodesTo q k) rfl HO7.out (some ⟨wr.heap.size, 0, none⟩) 1 [(J : Int)] rfl ?hnn HR7.out HLN.out ?hB ?_; (case hnn => (intro h; cases h)); (case hB => (exact HV7.out.size)); intro v8 w8 hown8 hgr8; rw [← HS.out] at hown8; have HO8 := Lib.hid hown8; have HV8 := Lib.hid (HV7.out.grown hgr8 HV7.out.size HVB.out); clear hown8 hgr8)
        clear HO7 HV7 HR7 HLN HVB
        go_roundw
        case rel => exact ⟨J, by go_num, hJN, HO8, HV8⟩
        case measure => have := HJ.out; simp [intOf]; omega
    · have ek : N = k := by omega
      subst ek
      obtain ⟨o5, c5, hy, -⟩ := Rw.own_row Ne.encI_len HO.out
      subst hy
      clear HQ0 HQS hlt hk n0 n1 n2 n3
      have HB5 := Lib.hid (HB4.out.trans (HBV.out.mono HB4.out.size))
      have HN5 := Lib.hid (Ne.netBox_below HN4.out HBV.out (Ne.netBox_lt HN4.out))
      have HX5 := Lib.hid (HX4.out.kept HBV.out)
      have HR5 := Lib.hid (HR4.out.kept HBV.out)
      have HM5 := Lib.hid (Ne.own_irow HO.out)
      clear HQE HQU HBV HO
      obtain ⟨n0, n1, n2, n3⟩ := Ne.netBox_cells HN5.out
      go_wp2_with fail
      refine (CP.out _ _ _ _ (Ne.nodesTo p N) _ HR5.out HX5.out).mono ?_
      rintro e v6 ⟨rfl, hb⟩
      have HB6 := Lib.hid (HB5.out.trans (hb.mono HB5.out.size))
      have HN6 := Lib.hid (Ne.netBox_below HN5.out hb (Ne.netBox_lt HN5.out))
      have HR6 := Lib.hid (HR5.out.kept hb)
      have HX6 := Lib.hid (HX5.out.kept hb)
      have HM6 := Lib.hid (HM5.out.kept hb)
      clear hb n0 n1 n2 n3 HB5 HN5 HR5 HX5 HM5
      obtain ⟨n0, n1, n2, n3⟩ := Ne.netBox_cells HN6.out
      go_wp2_with fail
      refine (CP.out _ _ _ _ (Ne.nodesTo q N) _ HR6.out HM6.out).mono ?_
      rintro e v7 ⟨rfl, hb⟩
      have HB7 := Lib.hid (HB6.out.trans (hb.mono HB6.out.size))
      have HN7 := Lib.hid (Ne.netBox_below HN6.out hb (Ne.netBox_lt HN6.out))
      have HR7 := Lib.hid (HR6.out.kept hb)
      have HX7 := Lib.hid (HX6.out.kept hb)
      clear hb n0 n1 n2 n3 HB6 HN6 HR6 HX6 HM6
      have HC1 := Lib.hid HMV.out.1
      have HC2 := Lib.hid HMV.out.2
      have HCB := Lib.hid (CB.out (Ne.nodesTo p N))
      rw [HC2.out, HNC.out]
      generalize Ne.capV ⟨(N : Int), (S : Int), (D : Int), ml⟩ (Ne.nodesTo p N) = c1 at *
      generalize Ne.capV ⟨(N : Int), (S : Int), (D : Int), ml⟩ (Ne.nodesTo q N) = c2' at *
      obtain ⟨g, hg⟩ : ∃ g, g = fun i => Ne.movS (Ne.nodesTo p N) (u : Int) (Ne.arcAt ml i) := ⟨_, rfl⟩
      rw [← hg] at HC1
      have HGE := Lib.hid (show ∀ i, Ne.movS (Ne.nodesTo p N) (u : Int) (Ne.arcAt ml i) = g i from fun i => by rw [hg])
      have HGB := Lib.hid (show ∀ j, j ≤ ml.length → -24000000 ≤ Ne.sumTo g j ∧ Ne.sumTo g j ≤ 24000000 from fun j hj => by
        have := Ne.sumTo_small (g := g) (M := 1000000) j fun i hi => by
          rw [hg]; have := FB.out i (by omega); exact Ne.movS_small this.2.2.1 this.2.2.2
        omega)
      have HGS := Lib.hid (show ∀ j, Ne.sumTo g (j + 1) = Ne.sumTo g j + g j from fun _ => rfl)
      have HG0 := Lib.hid (show Ne.sumTo g 0 = 0 from rfl)
      generalize hSG : Ne.sumTo g = G at *
      clear hg hSG
      go_wp2
      go_loopw [17, 21] (fun y i wr => ∃ j : Nat, i = .int .i64 j ∧ j ≤ ml.length ∧ y = .int .i64 (c1 + G j) ∧ Hid (Below v7.heap.size v7 wr)) (fun _ i _ => ml.length - (intOf i).toNat)
      case atStart => exact ⟨0, rfl, Nat.zero_le _, by rw [HG0.out, Int.add_zero], Lib.hid (Below.refl _ _)⟩
      case round =>
        obtain ⟨j, rfl, hj, rfl, HBV⟩ := hrel
        obtain ⟨n0, n1, n2, n3⟩ := Ne.netBox_cells (Ne.netBox_below HN7.out HBV.out (Ne.netBox_lt HN7.out))
        by_cases hlt : j < ml.length
        · obtain ⟨b9, off, rfl, hb9, d0, d1, d2⟩ := Ne.arow_cell (HR7.out.kept HBV.out) hlt
          have HGJ := Lib.hid (HGS.out j)
          have HGG := Lib.hid (HGE.out j)
          obtain ⟨⟨g1, g2⟩, ⟨g3, g4⟩, g5, g6⟩ := FB.out j hlt
          obtain ⟨g7, g8⟩ := HGB.out j (by omega)
          obtain ⟨h7, h8⟩ := HGB.out (j + 1) (by omega)
          obtain ⟨h9, h10⟩ := HCB.out
          rcases hda : Ne.arcAt ml j with ⟨fr, tu, ca⟩
          rw [hda] at d0 d1 d2 HGG g1 g2 g3 g4 g5 g6
          simp only at d0 d1 d2 g1 g2 g3 g4 g5 g6
          obtain ⟨fa, rfl⟩ : ∃ fa : Nat, fr = (fa : Int) := ⟨fr.toNat, by omega⟩
          obtain ⟨tb, rfl⟩ : ∃ tb : Nat, tu = (tb : Int) := ⟨tu.toNat, by omega⟩
          clear hda
          have hji : (j : Int) < (ml.length : Int) := by omega
          have hj0 : (0 : Int) ≤ (j : Int) := by omega
          have HV8 := Lib.hid (HBV.out.alloc HBV.out.size (.cells #[.int .i64 (fa : Int), .int .i64 (tb : Int), .int .i64 ca] 43))
          have HX8 := Lib.hid (HX7.out.kept HV8.out)
          by_cases et : tb = u
          · by_cases ef : fa = u
            · have HD := Lib.hid (show g j = 0 by rw [← HGG.out]; exact Ne.movS_else (.inl ⟨by simp [ef], by simp [et]⟩))
              have ta1 : (((tb : Int) == (u : Int))) = true := by simp [et]
              have tb1 : ((tb == u)) = true := by simp [et]
              have tc1 : (((tb : Int) != (u : Int))) = false := by simp [et]
              have td1 : ((tb != u)) = false := by simp [et]
              have ta2 : (((fa : Int) == (u : Int))) = true := by simp [ef]
              have tb2 : ((fa == u)) = true := by simp [ef]
              have tc2 : (((fa : Int) != (u : Int))) = false := by simp [ef]
              have td2 : ((fa != u)) = false := by simp [ef]
              clear et ef
              go_wp2
              go_roundw
              case rel => exact ⟨j + 1, by go_num, by omega, by rw [HGJ.out, HD.out]; simp, HV8⟩
              case measure => simp [intOf]; omega
            have HHA := Lib.hid (HH.out (fa : Int) _ HX8.out)
            rw [HPE.out fa (by omega) (by omega)] at HHA
            have HDI := Lib.hid (show g j = if p fa = true then -ca else 0 by rw [← HGG.out, Ne.movS_in (by simp; omega) (by simp [et])]; show (if Ne.hasL _ (fa : Int) = true then _ else _) = _; rw [HPE.out fa (by omega) (by omega)])
            have ta1 : (((tb : Int) == (u : Int))) = true := by simp [et]
            have tb1 : ((tb == u)) = true := by simp [et]
            have tc1 : (((tb : Int) != (u : Int))) = false := by simp [et]
            have td1 : ((tb != u)) = false := by simp [et]
            have ta2 : (((fa : Int) == (u : Int))) = false := by simp; omega
            have tb2 : ((fa == u)) = false := by simp; omega
            have tc2 : (((fa : Int) != (u : Int))) = true := by simp; omega
            have td2 : ((fa != u)) = true := by simp; omega
            clear et ef
            cases hpa : p fa
            · rw [hpa] at HHA HDI
              have HD := Lib.hid (show g j = 0 from HDI.out)
              clear hpa HDI
              go_wp2_with fail
              refine HHA.out.mono ?_
              rintro e w9 ⟨rfl, rfl⟩
              go_wp2
              go_roundw
              case rel => exact ⟨j + 1, by go_num, by omega, by rw [HGJ.out, HD.out]; simp, HV8⟩
              case measure => simp [intOf]; omega
            · rw [hpa] at HHA HDI
              have HD := Lib.hid (show g j = -ca from HDI.out)
              have hw : IntKind.i64.wrap (c1 + G j - ca) = c1 + G j - ca := by rw [IntKind.wrap_i64]; omega
              clear hpa HDI
              go_wp2_with fail
              refine HHA.out.mono ?_
              rintro e w9 ⟨rfl, rfl⟩
              go_wp2
              go_roundw
              case rel => exact ⟨j + 1, by go_num, by omega, by rw [HGJ.out, HD.out]; congr 1; omega, HV8⟩
              case measure => simp [intOf]; omega
          · by_cases ef : fa = u
            · have HHA := Lib.hid (HH.out (tb : Int) _ HX8.out)
              rw [HPE.out tb (by omega) (by omega)] at HHA
              have HDI := Lib.hid (show g j = if p tb = false then ca else 0 by rw [← HGG.out, Ne.movS_out (by simp [ef]) (by simp; omega)]; show (if Ne.hasL _ (tb : Int) = false then _ else _) = _; rw [HPE.out tb (by omega) (by omega)])
              have ta1 : (((tb : Int) == (u : Int))) = false := by simp; omega
              have tb1 : ((tb == u)) = false := by simp; omega
              have tc1 : (((tb : Int) != (u : Int))) = true := by simp; omega
              have td1 : ((tb != u)) = true := by simp; omega
              have ta2 : (((fa : Int) == (u : Int))) = true := by simp [ef]
              have tb2 : ((fa == u)) = true := by simp [ef]
              have tc2 : (((fa : Int) != (u : Int))) = false := by simp [ef]
              have td2 : ((fa != u)) = false := by simp [ef]
              clear et ef
              cases hpa : p tb
              · rw [hpa] at HHA HDI
                have HD := Lib.hid (show g j = ca from HDI.out)
                have hw : IntKind.i64.wrap (c1 + G j + ca) = c1 + G j + ca := by rw [IntKind.wrap_i64]; omega
                clear hpa HDI
                go_wp2_with fail
                refine HHA.out.mono ?_
                rintro e w9 ⟨rfl, rfl⟩
                go_wp2
                go_roundw
                case rel => exact ⟨j + 1, by go_num, by omega, by rw [HGJ.out, HD.out]; congr 1; omega, HV8⟩
                case measure => simp [intOf]; omega
              · rw [hpa] at HHA HDI
                have HD := Lib.hid (show g j = 0 from HDI.out)
                clear hpa HDI
                go_wp2_with fail
                refine HHA.out.mono ?_
                rintro e w9 ⟨rfl, rfl⟩
                go_wp2
                go_roundw
                case rel => exact ⟨j + 1, by go_num, by omega, by rw [HGJ.out, HD.out]; simp, HV8⟩
                case measure => simp [intOf]; omega
            have HD := Lib.hid (show g j = 0 by rw [← HGG.out]; exact Ne.movS_else (.inr ⟨by simp; omega, by simp; omega⟩))
            have ta1 : (((tb : Int) == (u : Int))) = false := by simp; omega
            have tb1 : ((tb == u)) = false := by simp; omega
            have tc1 : (((tb : Int) != (u : Int))) = true := by simp; omega
            have td1 : ((tb != u)) = true := by simp; omega
            have ta2 : (((fa : Int) == (u : Int))) = false := by simp; omega
            have tb2 : ((fa == u)) = false := by simp; omega
            have tc2 : (((fa : Int) != (u : Int))) = true := by simp; omega
            have td2 : ((fa != u)) = true := by simp; omega
            clear et ef
            go_wp2
            go_roundw
            case rel => exact ⟨j + 1, by go_num, by omega, by rw [HGJ.out, HD.out]; simp, HV8⟩
            case measure => simp [intOf]; omega
        · have ej : j = ml.length := by omega
          subst ej
          have HB8 := Lib.hid (HB7.out.trans (HBV.out.mono HB7.out.size))
          have he : (c1 + G ml.length == c2') = true := by rw [HC1.out]; simp
          clear hlt hj
          go_wp2
          go_ret
          exact ⟨rfl, HB8.out⟩

end Go.Proofs.Ythhlfphnokdfaaa.cutMoves
