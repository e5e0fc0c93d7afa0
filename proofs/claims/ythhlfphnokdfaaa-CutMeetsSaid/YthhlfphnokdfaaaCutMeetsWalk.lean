/- CutMeets: for every input the law returns true and its arguments read as they did. No condition. -/
import Derived.Test.YthhlfphnokdfaaaShownC
import Derived.Test.YthhlfphnokdfaaaHas
import Derived.Test.YthhlfphnokdfaaaSom
import Derived.Test.YthhlfphnokdfaaaCtm
import Derived.Test.YthhlfphnokdfaaaOpenc
import Derived.Test.YthhlfphnokdfaaaRmade
import Derived.Test.YthhlfphnokdfaaaMadem
import Derived.Deep.LoopGhost
import Derived.Deep.DeepCutAuto
import Derived.RegionTactic
import Derived.BigRegion
import Derived.Test.YthhlfphnokdfaaaTwi
import Derived.Test.YthhlfphnokdfaaaRows
import Derived.WalkKit
import Derived.ProofKit
import Derived.OpenShut
import Derived.ShutString
import Derived.ChangeOld
import Derived.Below
import Derived.Deep.Strs
namespace Go.Proofs.Ythhlfphnokdfaaa.cutMeets
open Go.ChangeShapes Go.WideShapes Go.ChangeAt Go.RowKit
open Go.ChangeMaps (open_string shut_string)
set_option linter.unusedVariables false
set_option linter.unusedSimpArgs false

theorem own : ownKnob Try.prog.godebug = none := by kernel_rfl
theorem laidOut : laidOutB Try.prog = true := by kernel_rfl



set_option maxRecDepth 100000 in
set_option maxHeartbeats 4000000 in
theorem walk (a0 : Int) (a1 : Int) (a2 : List Ne.Arc) (o2 : Option Addr) (c2 : Nat) (a3 : Int) (a4 : Int) (w : World) (w0 : (Lit.int .i64 a0).wf = true) (w1 : (Lit.int .i64 a1).wf = true) (k2 : ∀ a ∈ a2, Ne.Arc.ok a) (z2 : a2.length ≤ c2) (y2 : c2 ≤ maxLen) (n2 : o2 = none → c2 = 0) (r2 : Ne.ARow w o2 a2) (w3 : (Lit.int .i64 a3).wf = true) (w4 : (Lit.int .i64 a4).wf = true) :
    Calls Try.prog 5 #[.int .i64 a0, .int .i64 a1, .slice o2 a2.length c2, .int .i64 a3, .int .i64 a4] w fun e w' => e = .returned (.bool true) ∧ Below w.heap.size w w' := by
  have HSH := Lib.hid (Ne.shown_any w)
  obtain ⟨mn, hmn⟩ : ∃ x, x = (Ne.madeN a0 a1 a2).n := ⟨_, rfl⟩
  obtain ⟨ms, hms⟩ : ∃ x, x = (Ne.madeN a0 a1 a2).s := ⟨_, rfl⟩
  obtain ⟨mt, hmt⟩ : ∃ x, x = (Ne.madeN a0 a1 a2).t := ⟨_, rfl⟩
  obtain ⟨ml, hml⟩ : ∃ x, x = (Ne.madeN a0 a1 a2).l := ⟨_, rfl⟩
  have em : Ne.madeN a0 a1 a2 = ⟨mn, ms, mt, ml⟩ := by rw [hmn, hms, hmt, hml]
  obtain ⟨f1, f2, f3, f4, f5, f6, f7, f8, f9⟩ := Ne.madeN_fine (nodes := a0) (ends := a1) k2
  have ck := Ne.made_check (nodes := a0) (ends := a1) k2
  have MD := Lib.hid fun w' (h : Ne.ARow w' o2 a2) => Ne.made_s a0 a1 a2 o2 c2 w' (bounds_i64 w0) (bounds_i64 w1) k2 h
  rw [em] at MD f1 f2 f3 f4 f5 f6 f7 f8 f9 ck
  simp only at f1 f2 f3 f4 f5 f6 f7 f8 f9
  clear hmn hms hmt hml em
  have f8' : ml.length ≤ 24 := by omega
  clear f8
  have CK := Lib.hid ck
  have RT := Lib.hid (Ne.right_of ck)
  have FI := Lib.hid f9
  have CAP := Lib.hid (show ∀ a ∈ ml, Ne.in64 a.cap from fun a ha => by have := (f9 a ha).2.2; unfold Ne.in64; omega)
  have hl6 : ml.length ≤ 1000000 := by omega
  have F7 := Lib.hid f7
  have RA := Lib.hid r2
  clear r2 f7 f9 ck
  obtain ⟨N, rfl⟩ : ∃ N : Nat, mn = (N : Int) := ⟨mn.toNat, by omega⟩
  obtain ⟨S, rfl⟩ : ∃ S : Nat, ms = (S : Int) := ⟨ms.toNat, by omega⟩
  obtain ⟨D, rfl⟩ : ∃ D : Nat, mt = (D : Int) := ⟨mt.toNat, by omega⟩
  have A3 := Lib.hid (show Ne.in64 a3 from bounds_i64 w3)
  clear w3
  have A4 := Lib.hid (show Ne.in64 a4 from bounds_i64 w4)
  clear w4
  have SM := Lib.hid fun ao cap x w' h => Ne.some_any ⟨(N : Int), (S : Int), (D : Int), ml⟩ ao cap x w' RT.out h
  simp only [Int.toNat_natCast] at SM
  have CP := Lib.hid fun ao cap so sc Q w' (h1 : Ne.ARow w' ao ml) h2 => Ne.capacity_any ⟨(N : Int), (S : Int), (D : Int), ml⟩ ao cap so sc Q w' h1 h2 hl6 CAP.out
  have MT := Lib.hid fun p q (hs : p S = true) (ht : p D = false) (gs : q S = true) (gt : q D = false) => Ne.cut_meets (n := ⟨(N : Int), (S : Int), (D : Int), ml⟩) CK.out (p := p) (q := q) hs ht gs gt
  have NC := Lib.hid fun p (hs : p S = true) (ht : p D = false) => Ne.nodes_cut (n := ⟨(N : Int), (S : Int), (D : Int), ml⟩) CK.out (p := p) hs ht
  simp only [Int.toNat_natCast] at MT NC
  have CB := Lib.hid fun Q => Ne.capV_bd ⟨(N : Int), (S : Int), (D : Int), ml⟩ Q
  go_enter Try.func5, Try.ntmps5
  go_wp2_with fail
  refine HSH.out.mono ?_
  rintro e w1 ⟨rfl, hb⟩
  have HB1 := Lib.hid hb
  clear hb
  go_wp2_with fail
  refine (MD.out _ (RA.out.kept HB1.out)).mono ?_
  rintro e w2 ⟨om, cm, rfl, ho, hb⟩
  have HB2 := Lib.hid (HB1.out.trans (hb.mono HB1.out.size))
  have HV2 := Lib.hid (Rw.own_lt ho)
  have HO3 := Lib.hid (Rw.own_base (Rw.own_alloc ho (.cells #[.int .i64 (N : Int), .int .i64 (S : Int), .int .i64 (D : Int), .slice om ml.length cm] 24)) (B' := w.heap.size) HB1.out.size)
  have HN3 := Lib.hid (Ne.netBox_new w2 (N : Int) (S : Int) (D : Int) (.slice om ml.length cm))
  have hz2 : w.heap.size ≤ w2.heap.size := HB2.out.size
  have HB3 := Lib.hid (HB2.out.alloc hz2 (.cells #[.int .i64 (N : Int), .int .i64 (S : Int), .int .i64 (D : Int), .slice om ml.length cm] 24))
  clear ho hb MD RA HSH
  go_wp2_with fail
  obtain ⟨bn, hbn⟩ : ∃ b, b = w2.heap.size := ⟨_, rfl⟩
  have hbn3 : bn < (w2.alloc (.cells #[.int .i64 (N : Int), .int .i64 (S : Int), .int .i64 (D : Int), .slice om ml.length cm] 24)).heap.size := by rw [hbn]; simp
  rw [← hbn] at HN3 HV2 hz2 ⊢
  clear hbn HB2 HB1
  generalize (w2.alloc (.cells #[.int .i64 (N : Int), .int .i64 (S : Int), .int .i64 (D : Int), .slice om ml.length cm] 24)) = W3 at *
  have HR3 := Lib.hid (Ne.arow_ofA HO3.out)
  refine (SM.out om cm a3 W3 A3.out).mono ?_
  rintro e v4 ⟨so, sc, p, rfl, hps, hpt, ho, hb⟩
  have HB4 := Lib.hid (HB3.out.trans (hb.mono HB3.out.size))
  have HN4 := Lib.hid (Ne.netBox_below HN3.out hb (Ne.netBox_lt HN3.out))
  have HR4 := Lib.hid (HR3.out.kept hb)
  have HX4 := Lib.hid (Ne.own_irow ho)
  have Pp := Lib.hid (And.intro hps hpt)
  have LNp := Lib.hid (Ne.nodes_len p N)
  clear hb ho hps hpt 
  obtain ⟨n0, n1, n2, n3⟩ := Ne.netBox_cells HN4.out
  go_wp2_with fail
  refine (SM.out om cm a4 v4 A4.out).mono ?_
  rintro e v5 ⟨sp, sd, q, rfl, hps, hpt, ho, hb⟩
  have HB5 := Lib.hid (HB4.out.trans (hb.mono HB4.out.size))
  have HN5 := Lib.hid (Ne.netBox_below HN4.out hb (Ne.netBox_lt HN4.out))
  have HR5 := Lib.hid (HR4.out.kept hb)
  have HX5 := Lib.hid (HX4.out.kept hb)
  have HY5 := Lib.hid (Ne.own_irow ho)
  have Pq := Lib.hid (And.intro hps hpt)
  have LNq := Lib.hid (Ne.nodes_len q N)
  clear hb ho hps hpt n0 n1 n2 n3
  obtain ⟨n0, n1, n2, n3⟩ := Ne.netBox_cells HN5.out
  have HMT := Lib.hid (MT.out p q Pp.out.1 Pp.out.2 Pq.out.1 Pq.out.2)
  obtain ⟨c1, hc1⟩ : ∃ c1 : Nat → Bool, c1 = fun v => p v && q v := ⟨_, rfl⟩
  obtain ⟨c2, hc2⟩ : ∃ c2 : Nat → Bool, c2 = fun v => p v || q v := ⟨_, rfl⟩
  rw [← hc1, ← hc2] at HMT
  have H1E := Lib.hid (show ∀ v, c1 v = (p v && q v) from fun v => by rw [hc1])
  have H2E := Lib.hid (show ∀ v, c2 v = (p v || q v) from fun v => by rw [hc2])
  have E1 := Lib.hid (NC.out p Pp.out.1 Pp.out.2)
  have E2 := Lib.hid (NC.out q Pq.out.1 Pq.out.2)
  have E3 := Lib.hid (NC.out c1 (by rw [hc1]; simp [Pp.out.1, Pq.out.1]) (by rw [hc1]; simp [Pp.out.2]))
  have E4 := Lib.hid (NC.out c2 (by rw [hc2]; simp [Pp.out.1]) (by rw [hc2]; simp [Pp.out.2, Pq.out.2]))
  clear hc1 hc2 MT NC
  have HPE := Lib.hid (fun (p : Nat → Bool) j (h1 : 1 ≤ j) (h2 : j ≤ N) => show Ne.hasL (Ne.nodesTo p N) (j : Int) = p j by rw [Ne.nodes_has (by omega) (by omega), Int.toNat_natCast])
  have HHp := Lib.hid fun (x : Int) w' h1 => Ne.rhas_any so sc (Ne.nodesTo p N) x w' h1 (by have := LNp.out; omega)
  have HHq := Lib.hid fun (x : Int) w' h1 => Ne.rhas_any sp sd (Ne.nodesTo q N) x w' h1 (by have := LNq.out; omega)
  have HQ0 := Lib.hid (show ∀ c, Ne.nodesTo c 0 = [] from fun _ => rfl)
  have HQS := Lib.hid (show ∀ c k, Ne.nodesTo c (k + 1) = Ne.nodesTo c k ++ if c (k + 1) then [((k + 1 : Nat) : Int)] else [] from fun _ _ => rfl)
  go_wp2
  clear n0 n1 n2 n3
  go_loopw [15, 16, 17] (fun y z i wr => ∃ k : Nat, i = .int .i64 ((k + 1 : Nat) : Int) ∧ k ≤ N ∧ Hid (Ne.TwoI wr v5.heap.size y (Ne.nodesTo c1 k) z (Ne.nodesTo c2 k)) ∧ Hid (Below v5.heap.size v5 wr)) (fun _ _ i _ => N + 1 - (intOf i).toNat)
  case atStart => exact ⟨0, rfl, Nat.zero_le _, Lib.hid (by rw [HQ0.out, HQ0.out]; exact Ne.two_nil _ _), Lib.hid (Below.refl _ _)⟩
  case round =>
    obtain ⟨k, rfl, hk, HT, HBV⟩ := hrel
    obtain ⟨n0, n1, n2, n3⟩ := Ne.netBox_cells (Ne.netBox_below HN5.out HBV.out (Ne.netBox_lt HN5.out))
    by_cases hlt : k < N
    · obtain ⟨J, hJ⟩ : ∃ J, J = k + 1 := ⟨_, rfl⟩
      have HS1 := Lib.hid (HQS.out c1 k)
      have HS2 := Lib.hid (HQS.out c2 k)
      rw [← hJ] at HS1 HS2 ⊢
      rw [H1E.out] at HS1
      rw [H2E.out] at HS2
      have HJ := Lib.hid hJ
      have hJN : J ≤ N := by omega
      have hJ1 : 1 ≤ J := by omega
      have hJi : (J : Int) ≤ (N : Int) := by omega
      have HHP := Lib.hid (HHp.out (J : Int) _ (HX5.out.kept HBV.out))
      have HHQ := Lib.hid (HHq.out (J : Int) _ (HY5.out.kept HBV.out))
      rw [HPE.out p J hJ1 hJN] at HHP
      rw [HPE.out q J hJ1 hJN] at HHQ
      clear hJ
      cases hp : p J <;> cases hq : q J
      · simp only [hp, hq, Bool.and_true, Bool.and_false, Bool.or_true, Bool.or_false, Bool.true_and, Bool.false_and, Bool.true_or, Bool.false_or, if_true, if_false, Bool.false_eq_true, List.append_nil] at HS1
        simp only [hp, hq, Bool.and_true, Bool.and_false, Bool.or_true, Bool.or_false, Bool.true_and, Bool.false_and, Bool.true_or, Bool.false_or, if_true, if_false, Bool.false_eq_true, List.append_nil] at HS2
        rw [hp] at HHP
        rw [hq] at HHQ
        clear hp hq
        go_wp2_with fail
        refine HHP.out.mono ?_
        rintro e w6 ⟨rfl, rfl⟩
        go_wp2_with fail
        refine HHQ.out.mono ?_
        rintro e w6 ⟨rfl, rfl⟩
        go_wp2
        go_roundw
        case rel => exact ⟨J, by go_num, hJN, Lib.hid (by rw [HS1.out, HS2.out]; exact HT.out), HBV⟩
        case measure => have := HJ.out; simp [intOf]; omega
      · simp only [hp, hq, Bool.and_true, Bool.and_false, Bool.or_true, Bool.or_false, Bool.true_and, Bool.false_and, Bool.true_or, Bool.false_or, if_true, if_false, Bool.false_eq_true, List.append_nil] at HS1
        simp only [hp, hq, Bool.and_true, Bool.and_false, Bool.or_true, Bool.or_false, Bool.true_and, Bool.false_and, Bool.true_or, Bool.false_or, if_true, if_false, Bool.false_eq_true, List.append_nil] at HS2
        rw [hp] at HHP
        rw [hq] at HHQ
        clear hp hq
        go_wp2_with fail
        refine HHP.out.mono ?_
        rintro e w6 ⟨rfl, rfl⟩
        go_wp2_with fail
        refine HHQ.out.mono ?_
        rintro e w6 ⟨rfl, rfl⟩
        have HTab := Lib.hid ((HT.out.swap).alloc (.cells #[.int .i64 (J : Int)] 3))
        have HVab := Lib.hid (HBV.out.alloc HBV.out.size (.cells #[.int .i64 (J : Int)] 3))
        have HRab := Lib.hid (Ne.irow_one' wr rfl (J : Int) 3)
        have HLab := Lib.hid (show (Ne.nodesTo c2 k).length + [(J : Int)].length ≤ 1099511627776 by have := Ne.nodes_len c2 k; simp; omega)
        go_wp2_with (at_builtin; refine Rw.appAt Ne.elemI Ne.encI_len Ne.encI_one rfl (.tmp 65) (.tmp 67) rfl v5.heap.size _ (Ne.nodesTo c2 k) rfl HTab.out.l ⟨wr.heap.size, 0, none⟩ 1 [(J : Int)] rfl HRab.out HLab.out ?hBb ?_; (case hBb => (exact HVab.out.size)); intro vab w8 hown8 hgr8 hat8; have HTb := Lib.hid (HTab.out.put hown8 hgr8 hat8); have HVb := Lib.hid (HVab.out.grown hgr8 HVab.out.size (Rw.own_block HTab.out.l)); clear hown8 hgr8 hat8)
        go_roundw
        case rel => exact ⟨J, by go_num, hJN, Lib.hid (by rw [HS1.out, HS2.out]; exact HTb.out.swap), HVb⟩
        case measure => have := HJ.out; simp [intOf]; omega
      · simp only [hp, hq, Bool.and_true, Bool.and_false, Bool.or_true, Bool.or_false, Bool.true_and, Bool.false_and, Bool.true_or, Bool.false_or, if_true, if_false, Bool.false_eq_true, List.append_nil] at HS1
        simp only [hp, hq, Bool.and_true, Bool.and_false, Bool.or_true, Bool.or_false, Bool.true_and, Bool.false_and, Bool.true_or, Bool.false_or, if_true, if_false, Bool.false_eq_true, List.append_nil] at HS2
        rw [hp] at HHP
        rw [hq] at HHQ
        clear hp hq
        go_wp2_with fail
        refine HHP.out.mono ?_
        rintro e w6 ⟨rfl, rfl⟩
        go_wp2_with fail
        refine HHQ.out.mono ?_
        rintro e w6 ⟨rfl, rfl⟩
        have HTab := Lib.hid ((HT.out.swap).alloc (.cells #[.int .i64 (J : Int)] 3))
        have HVab := Lib.hid (HBV.out.alloc HBV.out.size (.cells #[.int .i64 (J : Int)] 3))
        have HRab := Lib.hid (Ne.irow_one' wr rfl (J : Int) 3)
        have HLab := Lib.hid (show (Ne.nodesTo c2 k).length + [(J : Int)].length ≤ 1099511627776 by have := Ne.nodes_len c2 k; simp; omega)
        go_wp2_with (at_builtin; refine Rw.appAt Ne.elemI Ne.encI_len Ne.encI_one rfl (.tmp 65) (.tmp 67) rfl v5.heap.size _ (Ne.nodesTo c2 k) rfl HTab.out.l ⟨wr.heap.size, 0, none⟩ 1 [(J : Int)] rfl HRab.out HLab.out ?hBb ?_; (case hBb => (exact HVab.out.size)); intro vab w8 hown8 hgr8 hat8; have HTb := Lib.hid (HTab.out.put hown8 hgr8 hat8); have HVb := Lib.hid (HVab.out.grown hgr8 HVab.out.size (Rw.own_block HTab.out.l)); clear hown8 hgr8 hat8)
        go_roundw
        case rel => exact ⟨J, by go_num, hJN, Lib.hid (by rw [HS1.out, HS2.out]; exact HTb.out.swap), HVb⟩
        case measure => have := HJ.out; simp [intOf]; omega
      · simp only [hp, hq, Bool.and_true, Bool.and_false, Bool.or_true, Bool.or_false, Bool.true_and, Bool.false_and, Bool.true_or, Bool.false_or, if_true, if_false, Bool.false_eq_true, List.append_nil] at HS1
        simp only [hp, hq, Bool.and_true, Bool.and_false, Bool.or_true, Bool.or_false, Bool.true_and, Bool.false_and, Bool.true_or, Bool.false_or, if_true, if_false, Bool.false_eq_true, List.append_nil] at HS2
        rw [hp] at HHP
        rw [hq] at HHQ
        clear hp hq
        go_wp2_with fail
        refine HHP.out.mono ?_
        rintro e w6 ⟨rfl, rfl⟩
        go_wp2_with fail
        refine HHQ.out.mono ?_
        rintro e w6 ⟨rfl, rfl⟩
        have HTab := Lib.hid ((HT.out).alloc (.cells #[.int .i64 (J : Int)] 3))
        have HVab := Lib.hid (HBV.out.alloc HBV.out.size (.cells #[.int .i64 (J : Int)] 3))
        have HRab := Lib.hid (Ne.irow_one' wr rfl (J : Int) 3)
        have HLab := Lib.hid (show (Ne.nodesTo c1 k).length + [(J : Int)].length ≤ 1099511627776 by have := Ne.nodes_len c1 k; simp; omega)
        go_wp2_with (first | (at_builtin; refine Rw.appAt Ne.elemI Ne.encI_len Ne.encI_one rfl (.tmp 57) (.tmp 59) rfl v5.heap.size _ (Ne.nodesTo c1 k) rfl HTab.out.l ⟨wr.heap.size, 0, none⟩ 1 [(J : Int)] rfl HRab.out HLab.out ?hBb ?_; (case hBb => (exact HVab.out.size)); intro vab w8 hown8 hgr8 hat8; have HTb := Lib.hid (HTab.out.put hown8 hgr8 hat8); have HVb := Lib.hid (HVab.out.grown hgr8 HVab.out.size (Rw.own_block HTab.out.l)); clear hown8 hgr8 hat8; have HTac := Lib.hid ((HTb.out.swap).alloc (.cells #[.int .i64 (J : Int)] 3)); have HVac := Lib.hid (HVb.out.alloc HVb.out.size (.cells #[.int .i64 (J : Int)] 3)); have HRac := Lib.hid (Ne.irow_one' w8 rfl (J : Int) 3); have HLac := Lib.hid (show (Ne.nodesTo c2 k).length + [(J : Int)].length ≤ 1099511627776 by have := Ne.nodes_len c2 k; simp; omega)) | (at_builtin; refine Rw.appAt Ne.elemI Ne.encI_len Ne.encI_one rfl (.tmp 65) (.tmp 67) rfl v5.heap.size _ (Ne.nodesTo c2 k) rfl HTac.out.l ⟨w8.heap.size, 0, none⟩ 1 [(J : Int)] rfl HRac.out HLac.out ?hBc ?_; (case hBc => (exact HVac.out.size)); intro vac w9 hown8 hgr8 hat8; have HTc := Lib.hid (HTac.out.put hown8 hgr8 hat8); have HVc := Lib.hid (HVac.out.grown hgr8 HVac.out.size (Rw.own_block HTac.out.l)); clear hown8 hgr8 hat8))
        go_roundw
        case rel => exact ⟨J, by go_num, hJN, Lib.hid (by rw [HS1.out, HS2.out]; exact HTc.out.swap), HVc⟩
        case measure => have := HJ.out; simp [intOf]; omega
    · have ek : N = k := by omega
      subst ek
      obtain ⟨o6, c6, hy, -⟩ := Rw.own_row Ne.encI_len HT.out.l
      subst hy
      obtain ⟨o7, c7, hy, -⟩ := Rw.own_row Ne.encI_len HT.out.r
      subst hy
      have HU6 := Lib.hid (Ne.own_irow HT.out.l)
      have HZ6 := Lib.hid (Ne.own_irow HT.out.r)
      have HB6 := Lib.hid (HB5.out.trans (HBV.out.mono HB5.out.size))
      have HN6 := Lib.hid (Ne.netBox_below HN5.out HBV.out (Ne.netBox_lt HN5.out))
      have HX6 := Lib.hid (HX5.out.kept HBV.out)
      have HY6 := Lib.hid (HY5.out.kept HBV.out)
      have HR6 := Lib.hid (HR5.out.kept HBV.out)
      clear HT HQ0 HQS H1E H2E HPE HHp HHq hlt hk HBV
      obtain ⟨n0, n1, n2, n3⟩ := Ne.netBox_cells HN6.out
      go_wp2_with fail
      refine (CP.out _ _ _ _ (Ne.nodesTo p N) _ HR6.out HX6.out).mono ?_
      rintro e v7 ⟨rfl, hb⟩
      have HB7 := Lib.hid (HB6.out.trans (hb.mono HB6.out.size))
      have HN7 := Lib.hid (Ne.netBox_below HN6.out hb (Ne.netBox_lt HN6.out))
      have HR7 := Lib.hid (HR6.out.kept hb)
      have HY7 := Lib.hid (HY6.out.kept hb)
      have HU7 := Lib.hid (HU6.out.kept hb)
      have HZ7 := Lib.hid (HZ6.out.kept hb)
      clear hb n0 n1 n2 n3
      obtain ⟨n0, n1, n2, n3⟩ := Ne.netBox_cells HN7.out
      go_wp2_with fail
      refine (CP.out _ _ _ _ (Ne.nodesTo q N) _ HR7.out HY7.out).mono ?_
      rintro e v8 ⟨rfl, hb⟩
      have HB8 := Lib.hid (HB7.out.trans (hb.mono HB7.out.size))
      have HN8 := Lib.hid (Ne.netBox_below HN7.out hb (Ne.netBox_lt HN7.out))
      have HR8 := Lib.hid (HR7.out.kept hb)
      have HU8 := Lib.hid (HU7.out.kept hb)
      have HZ8 := Lib.hid (HZ7.out.kept hb)
      clear hb n0 n1 n2 n3
      obtain ⟨n0, n1, n2, n3⟩ := Ne.netBox_cells HN8.out
      go_wp2_with fail
      refine (CP.out _ _ _ _ (Ne.nodesTo c1 N) _ HR8.out HU8.out).mono ?_
      rintro e v9 ⟨rfl, hb⟩
      have HB9 := Lib.hid (HB8.out.trans (hb.mono HB8.out.size))
      have HN9 := Lib.hid (Ne.netBox_below HN8.out hb (Ne.netBox_lt HN8.out))
      have HR9 := Lib.hid (HR8.out.kept hb)
      have HZ9 := Lib.hid (HZ8.out.kept hb)
      clear hb n0 n1 n2 n3
      obtain ⟨n0, n1, n2, n3⟩ := Ne.netBox_cells HN9.out
      go_wp2_with fail
      refine (CP.out _ _ _ _ (Ne.nodesTo c2 N) _ HR9.out HZ9.out).mono ?_
      rintro e v10 ⟨rfl, hb⟩
      have HB10 := Lib.hid (HB9.out.trans (hb.mono HB9.out.size))
      have HN10 := Lib.hid (Ne.netBox_below HN9.out hb (Ne.netBox_lt HN9.out))
      have HR10 := Lib.hid (HR9.out.kept hb)
      clear hb n0 n1 n2 n3
      have HCA := Lib.hid (CB.out (Ne.nodesTo p N))
      have HCB := Lib.hid (CB.out (Ne.nodesTo q N))
      have HCC := Lib.hid (CB.out (Ne.nodesTo c1 N))
      have HCD := Lib.hid (CB.out (Ne.nodesTo c2 N))
      rw [E1.out, E2.out, E3.out, E4.out]
      generalize Ne.capV ⟨(N : Int), (S : Int), (D : Int), ml⟩ (Ne.nodesTo p N) = x1 at *
      generalize Ne.capV ⟨(N : Int), (S : Int), (D : Int), ml⟩ (Ne.nodesTo q N) = x2 at *
      generalize Ne.capV ⟨(N : Int), (S : Int), (D : Int), ml⟩ (Ne.nodesTo c1 N) = x3 at *
      generalize Ne.capV ⟨(N : Int), (S : Int), (D : Int), ml⟩ (Ne.nodesTo c2 N) = x4 at *
      obtain ⟨g1, g2⟩ := HCA.out
      obtain ⟨g3, g4⟩ := HCB.out
      obtain ⟨g5, g6⟩ := HCC.out
      obtain ⟨g7, g8⟩ := HCD.out
      have hw1 : IntKind.i64.wrap (x1 + x2) = x1 + x2 := by rw [IntKind.wrap_i64]; omega
      have hw2 : IntKind.i64.wrap (x3 + x4) = x3 + x4 := by rw [IntKind.wrap_i64]; omega
      have hge : decide (x1 + x2 ≥ x3 + x4) = true := by have := HMT.out; simp only [decide_eq_true_eq]; omega
      have hge2 : decide (x3 + x4 ≤ x1 + x2) = true := hge
      go_wp2
      go_ret
      exact ⟨rfl, HB10.out⟩

end Go.Proofs.Ythhlfphnokdfaaa.cutMeets
