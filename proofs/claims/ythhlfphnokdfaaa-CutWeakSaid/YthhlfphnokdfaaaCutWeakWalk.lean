/- CutWeak: for every input the law returns true and its arguments read as they did. No condition. -/
import Derived.Test.YthhlfphnokdfaaaShownC
import Derived.Test.YthhlfphnokdfaaaHas
import Derived.Test.YthhlfphnokdfaaaSom
import Derived.Test.YthhlfphnokdfaaaCtm
import Derived.Test.YthhlfphnokdfaaaOpenc
import Derived.Test.YthhlfphnokdfaaaRmade
import Derived.Test.YthhlfphnokdfaaaMadem
import Derived.Deep.LoopGhost
import Derived.Deep.DeepCutAuto
import Derived.RegionTactic
import Derived.BigRegion
import Derived.Test.YthhlfphnokdfaaaRouted
import Derived.Test.YthhlfphnokdfaaaFlv
import Derived.Test.YthhlfphnokdfaaaCtw
import Derived.Test.YthhlfphnokdfaaaRows
import Derived.WalkKit
import Derived.ProofKit
import Derived.OpenShut
import Derived.ShutString
import Derived.ChangeOld
import Derived.Below
import Derived.Deep.Strs
namespace Go.Proofs.Ythhlfphnokdfaaa.cutWeak
open Go.ChangeShapes Go.WideShapes Go.ChangeAt Go.RowKit
open Go.ChangeMaps (open_string shut_string)
set_option linter.unusedVariables false
set_option linter.unusedSimpArgs false

theorem own : ownKnob Try.prog.godebug = none := by kernel_rfl
theorem laidOut : laidOutB Try.prog = true := by kernel_rfl

def IntsIn (k : IntKind) (w : World) (a : Option Addr) (len cap : Nat) (zs : List Int) : Prop :=
  (a = none ∧ len = 0 ∧ cap = 0 ∧ zs = []) ∨
  ∃ x, a = some x ∧ len ≤ cap ∧ cap ≤ maxLen ∧ zs.length = cap ∧ (∀ i, i < zs.length → w.cell? (x.add i) = some (.int k (zs.getD i 0))) ∧ ∀ n ∈ zs, (Lit.int k n).wf = true



set_option maxRecDepth 100000 in
set_option maxHeartbeats 4000000 in
theorem walk (a0 : Int) (a1 : Int) (a2 : List Ne.Arc) (o2 : Option Addr) (c2 : Nat) (a3 : Option Addr) (len3 cap3 : Nat) (l3 : List Int) (a4 : Int) (w : World) (w0 : (Lit.int .i64 a0).wf = true) (w1 : (Lit.int .i64 a1).wf = true) (k2 : ∀ a ∈ a2, Ne.Arc.ok a) (z2 : a2.length ≤ c2) (y2 : c2 ≤ maxLen) (n2 : o2 = none → c2 = 0) (r2 : Ne.ARow w o2 a2) (w3 : IntsIn .i64 w a3 len3 cap3 l3) (w4 : (Lit.int .i64 a4).wf = true) :
    Calls Try.prog 4 #[.int .i64 a0, .int .i64 a1, .slice o2 a2.length c2, .slice a3 len3 cap3, .int .i64 a4] w fun e w' => e = .returned (.bool true) ∧ Below w.heap.size w w' := by
  have HSH := Lib.hid (Ne.shown_any w)
  obtain ⟨mn, hmn⟩ : ∃ x, x = (Ne.madeN a0 a1 a2).n := ⟨_, rfl⟩
  obtain ⟨ms, hms⟩ : ∃ x, x = (Ne.madeN a0 a1 a2).s := ⟨_, rfl⟩
  obtain ⟨mt, hmt⟩ : ∃ x, x = (Ne.madeN a0 a1 a2).t := ⟨_, rfl⟩
  obtain ⟨ml, hml⟩ : ∃ x, x = (Ne.madeN a0 a1 a2).l := ⟨_, rfl⟩
  have em : Ne.madeN a0 a1 a2 = ⟨mn, ms, mt, ml⟩ := by rw [hmn, hms, hmt, hml]
  obtain ⟨f1, f2, f3, f4, f5, f6, f7, f8, f9⟩ := Ne.madeN_fine (nodes := a0) (ends := a1) k2
  have ck := Ne.made_check (nodes := a0) (ends := a1) k2
  have MD := Lib.hid fun w' (h : Ne.ARow w' o2 a2) => Ne.made_s a0 a1 a2 o2 c2 w' (bounds_i64 w0) (bounds_i64 w1) k2 h
  rw [em] at MD f1 f2 f3 f4 f5 f6 f7 f8 f9 ck
  simp only at f1 f2 f3 f4 f5 f6 f7 f8 f9
  clear hmn hms hmt hml em
  have f8' : ml.length ≤ 24 := by omega
  clear f8
  have CK := Lib.hid ck
  have RT := Lib.hid (Ne.right_of ck)
  have FI := Lib.hid f9
  have CAP := Lib.hid (show ∀ a ∈ ml, Ne.in64 a.cap from fun a ha => by have := (f9 a ha).2.2; unfold Ne.in64; omega)
  have hl6 : ml.length ≤ 1000000 := by omega
  have F7 := Lib.hid f7
  have RA := Lib.hid r2
  clear r2 f7 f9 ck
  obtain ⟨N, rfl⟩ : ∃ N : Nat, mn = (N : Int) := ⟨mn.toNat, by omega⟩
  obtain ⟨S, rfl⟩ : ∃ S : Nat, ms = (S : Int) := ⟨ms.toNat, by omega⟩
  obtain ⟨D, rfl⟩ : ∃ D : Nat, mt = (D : Int) := ⟨mt.toNat, by omega⟩
  obtain ⟨ks, hk3, hq3, bq3, _, _, _⟩ := Ne.ints_row w3
  subst hk3
  clear w3
  have BK3 := Lib.hid bq3
  have KR3 := Lib.hid hq3
  clear bq3 hq3
  have A4 := Lib.hid (show Ne.in64 a4 from bounds_i64 w4)
  clear w4
  have SM := Lib.hid fun ao cap x w' h => Ne.some_any ⟨(N : Int), (S : Int), (D : Int), ml⟩ ao cap x w' RT.out h
  simp only [Int.toNat_natCast] at SM
  have CP := Lib.hid fun ao cap so sc Q w' (h1 : Ne.ARow w' ao ml) h2 => Ne.capacity_any ⟨(N : Int), (S : Int), (D : Int), ml⟩ ao cap so sc Q w' h1 h2 hl6 CAP.out
  have AC := Lib.hid fun ao cap so sc Q w' (h1 : Ne.ARow w' ao ml) h2 => Ne.arcs_any ⟨(N : Int), (S : Int), (D : Int), ml⟩ ao cap so sc Q w' h1 h2 hl6 CAP.out
  have FB := Lib.hid (show ∀ j, j < ml.length → (1 ≤ (Ne.arcAt ml j).fr ∧ (Ne.arcAt ml j).fr ≤ (N : Int)) ∧ (1 ≤ (Ne.arcAt ml j).to ∧ (Ne.arcAt ml j).to ≤ (N : Int)) ∧ 0 ≤ (Ne.arcAt ml j).cap ∧ (Ne.arcAt ml j).cap ≤ 1000000 from fun j hj => by
    obtain ⟨g1, g2, g3, g4⟩ := FI.out _ (List.mem_of_getElem? (Ne.at_arc hj))
    exact ⟨(Ne.isNode_iff _ _).1 g1, (Ne.isNode_iff _ _).1 g2, g3, g4⟩)
  go_enter Try.func4, Try.ntmps4
  go_wp2_with fail
  refine HSH.out.mono ?_
  rintro e w1 ⟨rfl, hb⟩
  have HB1 := Lib.hid hb
  clear hb
  go_wp2_with fail
  refine (MD.out _ (RA.out.kept HB1.out)).mono ?_
  rintro e w2 ⟨om, cm, rfl, ho, hb⟩
  have HB2 := Lib.hid (HB1.out.trans (hb.mono HB1.out.size))
  have HV2 := Lib.hid (Rw.own_lt ho)
  have HO3 := Lib.hid (Rw.own_base (Rw.own_alloc ho (.cells #[.int .i64 (N : Int), .int .i64 (S : Int), .int .i64 (D : Int), .slice om ml.length cm] 24)) (B' := w.heap.size) HB1.out.size)
  have HN3 := Lib.hid (Ne.netBox_new w2 (N : Int) (S : Int) (D : Int) (.slice om ml.length cm))
  have hz2 : w.heap.size ≤ w2.heap.size := HB2.out.size
  have HB3 := Lib.hid (HB2.out.alloc hz2 (.cells #[.int .i64 (N : Int), .int .i64 (S : Int), .int .i64 (D : Int), .slice om ml.length cm] 24))
  clear ho hb MD RA HSH
  go_wp2_with fail
  obtain ⟨bn, hbn⟩ : ∃ b, b = w2.heap.size := ⟨_, rfl⟩
  have hbn3 : bn < (w2.alloc (.cells #[.int .i64 (N : Int), .int .i64 (S : Int), .int .i64 (D : Int), .slice om ml.length cm] 24)).heap.size := by rw [hbn]; simp
  rw [← hbn] at HN3 HV2 hz2 ⊢
  clear hbn HB2 HB1
  generalize (w2.alloc (.cells #[.int .i64 (N : Int), .int .i64 (S : Int), .int .i64 (D : Int), .slice om ml.length cm] 24)) = W3 at *
  have HR3 := Lib.hid (Ne.arow_ofA HO3.out)
  obtain ⟨f, hf⟩ : ∃ x, x = Ne.routeN ⟨(N : Int), (S : Int), (D : Int), ml⟩ ks := ⟨_, rfl⟩
  have FL := Lib.hid (show Ne.Flow ⟨(N : Int), (S : Int), (D : Int), ml⟩ f by rw [hf]; exact Ne.route_flow RT.out _)
  have RD := Lib.hid fun w' h1 h2 => Ne.routed_any ⟨(N : Int), (S : Int), (D : Int), ml⟩ om cm a3 cap3 ks w' h1 h2 CK.out BK3.out
  rw [← hf] at RD
  refine (RD.out _ HR3.out (KR3.out.kept HB3.out)).mono ?_
  rintro e w4 ⟨fb, rfl, hfb, hl, hb⟩
  have HB4 := Lib.hid (HB3.out.trans (hb.mono HB3.out.size))
  have HN4 := Lib.hid (Ne.netBox_below HN3.out hb (Ne.netBox_lt HN3.out))
  have HO4 := Lib.hid (Rw.own_below HO3.out hb)
  have HR4 := Lib.hid (HR3.out.kept hb)
  have HFB4 := Lib.hid hl
  have hfb2 := hl.lt
  clear hl hb
  have HL4 := Lib.hid HFB4.out
  have HFB := Lib.hid hfb
  obtain ⟨n0, n1, n2, n3⟩ := Ne.netBox_cells HN4.out
  go_wp2_with fail
  refine (SM.out om cm a4 w4 A4.out).mono ?_
  rintro e v5 ⟨so, sc, p, rfl, hps, hpt, ho, hb⟩
  have HB5 := Lib.hid (HB4.out.trans (hb.mono HB4.out.size))
  have HN5 := Lib.hid (Ne.netBox_below HN4.out hb (Ne.netBox_lt HN4.out))
  have HR5 := Lib.hid (HR4.out.kept hb)
  have HL5 := Lib.hid (HL4.out.kept hb)
  have HX5 := Lib.hid (Ne.own_irow ho)
  have Pp := Lib.hid (And.intro hps hpt)
  have LNp := Lib.hid (Ne.nodes_len p N)
  have E0 := Lib.hid (Ne.nodes_cut (n := ⟨(N : Int), (S : Int), (D : Int), ml⟩) CK.out (p := p) hps hpt)
  obtain ⟨wf1, wf2, wf3, wf4⟩ := Ne.weak_facts (n := ⟨(N : Int), (S : Int), (D : Int), ml⟩) CK.out FL.out (p := p) hps hpt
  simp only [Int.toNat_natCast] at E0 wf1 wf2 wf3 wf4
  have WF1 := Lib.hid wf1
  have WF2 := Lib.hid wf2
  have WF3 := Lib.hid wf3
  have WF4 := Lib.hid wf4
  clear hb ho hps hpt wf1 wf2 wf3 wf4 n0 n1 n2 n3
  obtain ⟨V, hV⟩ : ∃ V, V = Ne.arcsV ⟨(N : Int), (S : Int), (D : Int), ml⟩ (Ne.nodesTo p N) := ⟨_, rfl⟩
  rw [← hV] at WF2 WF3 WF4
  have HVM := Lib.hid (show ∀ k, k < V.length → ∃ r : Nat, Ne.amt V k = (r : Int) ∧ r < ml.length from fun k h => by
    have hm : Ne.amt V k ∈ V := by rw [show Ne.amt V k = V[k] by simp [Ne.amt, h]]; exact List.getElem_mem h
    rw [hV] at hm
    have := Ne.arcsV_mem hm
    rw [← hV] at this
    exact ⟨(Ne.amt V k).toNat, by omega, by simp only at this; omega⟩)
  have HVL := Lib.hid (show V.length ≤ ml.length by rw [hV]; exact Ne.arcsV_len _ _)
  have HSB := Lib.hid (show ∀ k, 0 ≤ Ne.sumV ml V k ∧ Ne.sumV ml V k ≤ 4611686018427387903 from fun k => by rw [hV]; exact Ne.sumV_bd ⟨(N : Int), (S : Int), (D : Int), ml⟩ _ k)
  have ACp := Lib.hid (fun ao cap w' h1 h2 => AC.out ao cap so sc (Ne.nodesTo p N) w' h1 h2)
  rw [← hV, E0.out] at ACp
  have CPp := Lib.hid (fun ao cap w' h1 h2 => CP.out ao cap so sc (Ne.nodesTo p N) w' h1 h2)
  rw [E0.out] at CPp
  have hfl : f.length = ml.length := FL.out.len
  have VL := Lib.hid (fun ao cap w' h1 h2 => Ne.val_flow (n := ⟨(N : Int), (S : Int), (D : Int), ml⟩) (f := f) ao cap (some ⟨fb, 0, none⟩) ml.length w' CK.out h1 h2 FL.out)
  have PV := Lib.hid (fun ao cap w' h1 h2 h3 => Ne.prove_any ⟨(N : Int), (S : Int), (D : Int), ml⟩ ao cap (some ⟨fb, 0, none⟩) ml.length so sc f (Ne.nodesTo p N) w' h1 h2 h3 hl6 CAP.out)
  rw [hfl] at PV
  have HFL := Lib.hid hfl
  have HPE := Lib.hid (show Ne.proE ⟨(N : Int), (S : Int), (D : Int), ml⟩ f (Ne.nodesTo p N) = if Ne.exc ml f (D : Int) = Ne.capV ⟨(N : Int), (S : Int), (D : Int), ml⟩ (Ne.nodesTo p N) then 0 else 8 by
    have hF0 := Ne.flow_chkF CK.out FL.out
    have hv := Ne.flow_vaV CK.out FL.out
    by_cases e : Ne.exc ml f (D : Int) = Ne.capV ⟨(N : Int), (S : Int), (D : Int), ml⟩ (Ne.nodesTo p N)
    · rw [if_pos e]; exact Ne.proE_ok hF0 E0.out (by rw [hv]; exact e)
    · rw [if_neg e]; exact Ne.proE_none hF0 E0.out (by rw [hv]; exact e))
  rw [HPE.out] at PV
  have HAB := Lib.hid (show ∀ i, i < ml.length → 0 ≤ Ne.amt f i ∧ Ne.amt f i ≤ (Ne.arcAt ml i).cap from FL.out.wi)
  have HBB := Lib.hid (show ∀ j, j ≤ ml.length → 0 ≤ Ne.sumTo (Ne.bkT ml (Ne.nodesTo p N) f) j ∧ Ne.sumTo (Ne.bkT ml (Ne.nodesTo p N) f) j ≤ 4611686018427387903 from fun j hj => Ne.bkT_bd (n := ⟨(N : Int), (S : Int), (D : Int), ml⟩) RT.out FL.out _ hj)
  clear hV hfl AC CP
  generalize Ne.exc ml f (D : Int) = ev at *
  generalize Ne.capV ⟨(N : Int), (S : Int), (D : Int), ml⟩ (Ne.nodesTo p N) = cv at *
  obtain ⟨n0, n1, n2, n3⟩ := Ne.netBox_cells HN5.out
  go_wp2_with fail
  refine (CPp.out _ _ _ HR5.out HX5.out).mono ?_
  rintro e v6 ⟨rfl, hb⟩
  have HB6 := Lib.hid (HB5.out.trans (hb.mono HB5.out.size))
  have HN6 := Lib.hid (Ne.netBox_below HN5.out hb (Ne.netBox_lt HN5.out))
  have HR6 := Lib.hid (HR5.out.kept hb)
  have HL6 := Lib.hid (HL5.out.kept hb)
  have HX6 := Lib.hid (HX5.out.kept hb)
  clear hb n0 n1 n2 n3
  obtain ⟨n0, n1, n2, n3⟩ := Ne.netBox_cells HN6.out
  go_wp2_with fail
  refine (ACp.out _ _ _ HR6.out HX6.out).mono ?_
  rintro e v7 ⟨ov, cvv, rfl, ho, hb⟩
  have HB7 := Lib.hid (HB6.out.trans (hb.mono HB6.out.size))
  have HN7 := Lib.hid (Ne.netBox_below HN6.out hb (Ne.netBox_lt HN6.out))
  have HR7 := Lib.hid (HR6.out.kept hb)
  have HL7 := Lib.hid (HL6.out.kept hb)
  have HX7 := Lib.hid (HX6.out.kept hb)
  have HV7 := Lib.hid (Ne.own_irow ho)
  clear hb ho n0 n1 n2 n3
  obtain ⟨n0, n1, n2, n3⟩ := Ne.netBox_cells HN7.out
  go_wp2_with fail
  refine (VL.out _ _ _ HR7.out HL7.out.irow).mono ?_
  rintro e v8 ⟨rfl, hb⟩
  have HB8 := Lib.hid (HB7.out.trans (hb.mono HB7.out.size))
  have HN8 := Lib.hid (Ne.netBox_below HN7.out hb (Ne.netBox_lt HN7.out))
  have HR8 := Lib.hid (HR7.out.kept hb)
  have HL8 := Lib.hid (HL7.out.kept hb)
  have HX8 := Lib.hid (HX7.out.kept hb)
  have HV8 := Lib.hid (HV7.out.kept hb)
  clear hb n0 n1 n2 n3
  obtain ⟨n0, n1, n2, n3⟩ := Ne.netBox_cells HN8.out
  have hle : decide (ev > cv) = false := by have := WF1.out; simp; omega
  have hle2 : decide (cv < ev) = false := by have := WF1.out; simp; omega
  go_wp2
  clear n0 n1 n2 n3
  have HF0 := Lib.hid (Ne.sumF_zero f V)
  have HG0 := Lib.hid (Ne.sumV_zero ml V)
  go_loopw [21, 22, 23] (fun x y i wr => ∃ k : Nat, i = .int .i64 k ∧ k ≤ V.length ∧ x = .int .i64 (Ne.sumF f V k) ∧ y = .int .i64 (Ne.sumV ml V k) ∧ Hid (Below v8.heap.size v8 wr)) (fun _ _ i _ => V.length - (intOf i).toNat)
  case atStart => exact ⟨0, rfl, Nat.zero_le _, by rw [HF0.out], by rw [HG0.out], Lib.hid (Below.refl _ _)⟩
  case round =>
    obtain ⟨k, rfl, hk, rfl, rfl, HBV⟩ := hrel
    have hvl := HVL.out
    obtain ⟨n0, n1, n2, n3⟩ := Ne.netBox_cells (Ne.netBox_below HN8.out HBV.out (Ne.netBox_lt HN8.out))
    by_cases hlt : k < V.length
    · obtain ⟨b8, off8, rfl, hb8, d0⟩ := Ne.irow_cell (HV8.out.kept HBV.out) hlt
      obtain ⟨r, hr, hrl⟩ := HVM.out k hlt
      obtain ⟨b9, off9, rfl, hb9, c0, c1, c2'⟩ := Ne.arow_cell (HR8.out.kept HBV.out) hrl
      have fc := (HL8.out.kept HBV.out).cell (i := r) (by rw [HFL.out]; exact hrl)
      have HSK := Lib.hid (Ne.sumV_succ (l := ml) hlt)
      have HFK := Lib.hid (Ne.sumF_succ (f := f) hlt)
      rw [hr] at d0 HSK HFK
      rw [Int.toNat_natCast] at HSK HFK
      obtain ⟨s0, s1⟩ := HSB.out k
      obtain ⟨s2, s3⟩ := HSB.out (k + 1)
      obtain ⟨s4, s5⟩ := WF4.out k
      obtain ⟨s6, s7⟩ := WF4.out (k + 1)
      rw [HSK.out] at s2 s3
      rw [HFK.out] at s6 s7
      clear hr c0 c1
      generalize (Ne.arcAt ml r).cap = ca at *
      generalize Ne.amt f r = fa at *
      generalize hsm : Ne.sumV ml V k = sm at *
      have HSM := Lib.hid hsm
      generalize hfm : Ne.sumF f V k = fm at *
      have HFM := Lib.hid hfm
      clear hsm hfm
      have hki : (k : Int) < (V.length : Int) := by omega
      have hk0 : (0 : Int) ≤ (k : Int) := by omega
      have hri : (r : Int) < (ml.length : Int) := by omega
      have hr0 : (0 : Int) ≤ (r : Int) := by omega
      have hw1 : IntKind.i64.wrap (sm + ca) = sm + ca := by rw [IntKind.wrap_i64]; omega
      have hw2 : IntKind.i64.wrap (fm + fa) = fm + fa := by rw [IntKind.wrap_i64]; omega
      have hw3 : IntKind.i64.wrap ((k : Int) + 1) = ((k + 1 : Nat) : Int) := by rw [IntKind.wrap_i64]; omega
      have HBD := Lib.hid (HBV.out.trans ((Ne.below_drew (Below.refl wr.heap.size wr)).mono HBV.out.size))
      have HJJ := Lib.hid (show k + 1 ≤ V.length by omega)
      have HMM := Lib.hid (show V.length - (k + 1) < V.length - k by omega)
      have hS0 := (show (fun w' : World => w'.cell? ⟨bn, 3, none⟩ = some (.slice (some ⟨b9, off9, none⟩) ml.length cm) ∧ w'.cell? ⟨b8, off8 + k, none⟩ = some (.int .i64 (r : Int)) ∧ w'.cell? ⟨b9, off9 + r * 3 + 2, none⟩ = some (.int .i64 ca)) wr.drew from ⟨n3, d0, c2'⟩)
      go_wp2
      refine Rh.start (S := (fun w' : World => w'.cell? ⟨bn, 3, none⟩ = some (.slice (some ⟨b9, off9, none⟩) ml.length cm) ∧ w'.cell? ⟨b8, off8 + k, none⟩ = some (.int .i64 (r : Int)) ∧ w'.cell? ⟨b9, off9 + r * 3 + 2, none⟩ = some (.int .i64 ca))) (by kernel_rfl) ?_
      refine Rh.take (some 87) (i := 0) (v := ?_) rfl (by kernel_rfl) (by kernel_rfl) (by kernel_rfl) (by kernel_rfl) (fun _ _ _ h => h) (Or.inl ⟨by rfl, ?_⟩) hS0 ?_
      rotate_left
      · intro w hSw
        go_simp
        try with_reducible rfl
      try simp only [Act.put, List.setIfInBounds_toArray, List.set_cons_zero, List.set_cons_succ]
      refine Rh.take (some 88) (i := 1) (v := ?_) rfl (by kernel_rfl) (by kernel_rfl) (by kernel_rfl) (by kernel_rfl) (fun _ _ _ h => h) (Or.inl ⟨by rfl, ?_⟩) hS0 ?_
      rotate_left
      · intro w hSw
        go_simp
        try with_reducible rfl
      try simp only [Act.put, List.setIfInBounds_toArray, List.set_cons_zero, List.set_cons_succ]
      refine Rh.take (some 89) (i := 2) (v := ?_) rfl (by kernel_rfl) (by kernel_rfl) (by kernel_rfl) (by kernel_rfl) (fun _ _ _ h => h) (Or.inl ⟨by rfl, ?_⟩) hS0 ?_
      rotate_left
      · intro w hSw
        go_simp
        try with_reducible rfl
      try simp only [Act.put, List.setIfInBounds_toArray, List.set_cons_zero, List.set_cons_succ]
      refine Rh.take (some 90) (i := 3) (v := ?_) rfl (by kernel_rfl) (by kernel_rfl) (by kernel_rfl) (by kernel_rfl) (fun _ _ _ h => h) (Or.inl ⟨by rfl, ?_⟩) hS0 ?_
      rotate_left
      · intro w hSw
        go_simp
        try with_reducible rfl
      try simp only [Act.put, List.setIfInBounds_toArray, List.set_cons_zero, List.set_cons_succ]
      refine Rh.take (some 91) (i := 4) (v := ?_) rfl (by kernel_rfl) (by kernel_rfl) (by kernel_rfl) (by kernel_rfl) (fun _ _ _ h => h) (Or.inl ⟨by rfl, ?_⟩) hS0 ?_
      rotate_left
      · intro w hSw
        go_simp
        try with_reducible rfl
      try simp only [Act.put, List.setIfInBounds_toArray, List.set_cons_zero, List.set_cons_succ]
      refine Rh.take (some 92) (i := 5) (v := ?_) rfl (by kernel_rfl) (by kernel_rfl) (by kernel_rfl) (by kernel_rfl) (fun _ _ _ h => h) (Or.inl ⟨by rfl, ?_⟩) hS0 ?_
      rotate_left
      · intro w hSw
        go_simp
        try with_reducible rfl
      try simp only [Act.put, List.setIfInBounds_toArray, List.set_cons_zero, List.set_cons_succ]
      refine Rh.take (some 93) (i := 6) (v := ?_) rfl (by kernel_rfl) (by kernel_rfl) (by kernel_rfl) (by kernel_rfl) (fun _ _ _ h => h) (Or.inl ⟨by rfl, ?_⟩) hS0 ?_
      rotate_left
      · intro w hSw
        go_simp
        try with_reducible rfl
      try simp only [Act.put, List.setIfInBounds_toArray, List.set_cons_zero, List.set_cons_succ]
      refine Rh.take (some 94) (i := 7) (v := ?_) rfl (by kernel_rfl) (by kernel_rfl) (by kernel_rfl) (by kernel_rfl) (fun _ _ _ h => h) (Or.inl ⟨by rfl, ?_⟩) hS0 ?_
      rotate_left
      · intro w hSw
        go_simp
        try with_reducible rfl
      try simp only [Act.put, List.setIfInBounds_toArray, List.set_cons_zero, List.set_cons_succ]
      refine Rh.take (some 95) (i := 8) (v := ?_) rfl (by kernel_rfl) (by kernel_rfl) (by kernel_rfl) (by kernel_rfl) (fun _ _ _ h => h) (Or.inl ⟨by rfl, ?_⟩) hS0 ?_
      rotate_left
      · intro w hSw
        go_simp
        try with_reducible rfl
      try simp only [Act.put, List.setIfInBounds_toArray, List.set_cons_zero, List.set_cons_succ]
      refine Rh.take (some 96) (i := 9) (v := ?_) rfl (by kernel_rfl) (by kernel_rfl) (by kernel_rfl) (by kernel_rfl) (fun _ _ _ h => h) (Or.inl ⟨by rfl, ?_⟩) hS0 ?_
      rotate_left
      · intro w hSw
        go_simp
        try with_reducible rfl
      try simp only [Act.put, List.setIfInBounds_toArray, List.set_cons_zero, List.set_cons_succ]
      refine Rh.take (some 97) (i := 10) (v := ?_) rfl (by kernel_rfl) (by kernel_rfl) (by kernel_rfl) (by kernel_rfl) (fun _ _ _ h => h) (Or.inl ⟨by rfl, ?_⟩) hS0 ?_
      rotate_left
      · intro w hSw
        go_simp
        try with_reducible rfl
      try simp only [Act.put, List.setIfInBounds_toArray, List.set_cons_zero, List.set_cons_succ]
      refine Rh.take (some 22) (i := 11) (v := ?_) rfl (by kernel_rfl) (by kernel_rfl) (by kernel_rfl) (by kernel_rfl) (fun _ _ _ h => h) (Or.inl ⟨by rfl, ?_⟩) hS0 ?_
      rotate_left
      · intro w hSw
        go_simp
        try with_reducible rfl
      try simp only [Act.put, List.setIfInBounds_toArray, List.set_cons_zero, List.set_cons_succ]
      refine Rh.done (by kernel_rfl) ?_ _
      go_wp2
      go_roundw
      case rel => exact ⟨k + 1, rfl, HJJ.out, by rw [HFK.out], by rw [HSK.out], HBD⟩
      case measure => first | exact HMM.out | (simp [intOf]; exact HMM.out)
    · have ek : k = V.length := by omega
      subst ek
      rw [WF3.out]
      have hvl1 : decide ((V.length : Int) < (V.length : Int)) = false := by simp
      have HB9 := Lib.hid (HB8.out.trans (HBV.out.mono HB8.out.size))
      have HN9 := Lib.hid (Ne.netBox_below HN8.out HBV.out (Ne.netBox_lt HN8.out))
      have HR9 := Lib.hid (HR8.out.kept HBV.out)
      have HL9 := Lib.hid (HL8.out.kept HBV.out)
      have HX9 := Lib.hid (HX8.out.kept HBV.out)
      obtain ⟨fs, hfs⟩ : ∃ fs, fs = Ne.sumF f V V.length := ⟨_, rfl⟩
      obtain ⟨s4, s5⟩ := WF4.out V.length
      rw [← hfs] at WF2 s4 s5 ⊢
      clear hlt hk hfs n0 n1 n2 n3
      have HB0 := Lib.hid (show Ne.sumTo (Ne.bkT ml (Ne.nodesTo p N) f) 0 = 0 from rfl)
      have HBS := Lib.hid (show ∀ j, Ne.sumTo (Ne.bkT ml (Ne.nodesTo p N) f) (j + 1) = Ne.sumTo (Ne.bkT ml (Ne.nodesTo p N) f) j + Ne.bkT ml (Ne.nodesTo p N) f j from fun _ => rfl)
      have HH := Lib.hid fun (x : Int) w' h1 => Ne.rhas_any so sc (Ne.nodesTo p N) x w' h1 (by have := LNp.out; omega)
      have HBK := Lib.hid (show ∀ i, Ne.bkT ml (Ne.nodesTo p N) f i = if Ne.hasL (Ne.nodesTo p N) (Ne.arcAt ml i).fr = false ∧ Ne.hasL (Ne.nodesTo p N) (Ne.arcAt ml i).to = true then Ne.amt f i else 0 from fun _ => rfl)
      generalize hBT : Ne.sumTo (Ne.bkT ml (Ne.nodesTo p N) f) = G at *
      generalize hBG : Ne.bkT ml (Ne.nodesTo p N) f = g at *
      generalize hHS : Ne.hasL (Ne.nodesTo p N) = hs at *
      clear hBT hBG hHS
      go_wp2
      go_loopw [21, 24] (fun x i wy => ∃ j : Nat, i = .int .i64 j ∧ j ≤ ml.length ∧ x = .int .i64 (fs - G j) ∧ Hid (Below wr.heap.size wr wy)) (fun _ i _ => ml.length - (intOf i).toNat)
      case atStart => exact ⟨0, rfl, Nat.zero_le _, by rw [HB0.out, Int.sub_zero], Lib.hid (Below.refl _ _)⟩
      case round =>
        obtain ⟨j, rfl, hj, rfl, HBY⟩ := hrel
        obtain ⟨n0, n1, n2, n3⟩ := Ne.netBox_cells (Ne.netBox_below HN9.out HBY.out (Ne.netBox_lt HN9.out))
        by_cases hlt : j < ml.length
        · obtain ⟨b9, off9, rfl, hb9, c0, c1, c2'⟩ := Ne.arow_cell (HR9.out.kept HBY.out) hlt
          have fc := (HL9.out.kept HBY.out).cell (i := j) (by rw [HFL.out]; exact hlt)
          obtain ⟨q0, q1⟩ := HBB.out j (by omega)
          obtain ⟨q2, q3⟩ := HBB.out (j + 1) (by omega)
          have HGJ := Lib.hid (HBS.out j)
          have HGI := Lib.hid (HBK.out j)
          rw [HGJ.out] at q2 q3
          have HHF := Lib.hid (HH.out (Ne.arcAt ml j).fr _ (HX9.out.kept HBY.out))
          have HHT := Lib.hid (HH.out (Ne.arcAt ml j).to _ (HX9.out.kept HBY.out))
          generalize Ne.arcAt ml j = aj at *
          obtain ⟨fr, tu, ca⟩ := aj
          simp only at c0 c1 c2' HHF HHT HGI
          generalize Ne.amt f j = fa at *
          have hji : (j : Int) < (ml.length : Int) := by omega
          have hj0 : (0 : Int) ≤ (j : Int) := by omega
          clear HH HBK HBS HBB HAB FB WF4 HSB HVM
          cases hfr : hs fr
          · rw [hfr] at HHF HGI
            go_wp2_with fail
            refine HHF.out.mono ?_
            rintro e w6 ⟨rfl, rfl⟩
            cases htu : hs tu
            · rw [htu] at HHT HGI
              have HD := Lib.hid (show g j = 0 from HGI.out)
              clear hfr htu HGI
              go_wp2_with fail
              refine HHT.out.mono ?_
              rintro e w6 ⟨rfl, rfl⟩
              go_wp2
              go_roundw
              case rel => exact ⟨j + 1, by go_num, by omega, by rw [HGJ.out, HD.out]; simp, HBY⟩
              case measure => simp [intOf]; omega
            · rw [htu] at HHT HGI
              have HD := Lib.hid (show g j = fa from HGI.out)
              rw [HD.out] at q2 q3
              have hw : IntKind.i64.wrap (fs - G j - fa) = fs - G j - fa := by rw [IntKind.wrap_i64]; omega
              clear hfr htu HGI
              go_wp2_with fail
              refine HHT.out.mono ?_
              rintro e w6 ⟨rfl, rfl⟩
              go_wp2
              go_roundw
              case rel => exact ⟨j + 1, by go_num, by omega, by rw [HGJ.out, HD.out]; congr 1; omega, HBY⟩
              case measure => simp [intOf]; omega
          · rw [hfr] at HHF HGI
            have HD := Lib.hid (show g j = 0 from by rw [HGI.out]; simp)
            clear hfr HGI
            go_wp2_with fail
            refine HHF.out.mono ?_
            rintro e w6 ⟨rfl, rfl⟩
            go_wp2
            go_roundw
            case rel => exact ⟨j + 1, by go_num, by omega, by rw [HGJ.out, HD.out]; simp, HBY⟩
            case measure => simp [intOf]; omega
        · have ej : j = ml.length := by omega
          subst ej
          rw [show fs - G ml.length = ev from WF2.out]
          have HB10 := Lib.hid (HB9.out.trans (HBY.out.mono HB9.out.size))
          have HR10 := Lib.hid (HR9.out.kept HBY.out)
          have HL10 := Lib.hid (HL9.out.kept HBY.out)
          have HX10 := Lib.hid (HX9.out.kept HBY.out)
          clear hlt hj HH HBK HBS HBB HAB FB WF4 HSB HVM HB0 s4 s5 WF2 WF3 WF1
          by_cases ec : ev = cv
          · have HP := Lib.hid (PV.out om cm _ HR10.out HL10.out.irow HX10.out)
            rw [if_pos ec] at HP
            have ec1 : (ev == cv) = true := by simp [ec]
            clear ec PV HPE
            go_wp2_with fail
            refine HP.out.mono ?_
            rintro e v11 ⟨rfl, hb⟩
            have HB11 := Lib.hid (HB10.out.trans (hb.mono HB10.out.size))
            clear hb n0 n1 n2 n3
            go_wp2
            go_ret
            exact ⟨rfl, HB11.out⟩
          · have HP := Lib.hid (PV.out om cm _ HR10.out HL10.out.irow HX10.out)
            rw [if_neg ec] at HP
            have ec1 : (ev == cv) = false := by simp [ec]
            clear ec PV HPE
            go_wp2_with fail
            refine HP.out.mono ?_
            rintro e v11 ⟨rfl, hb⟩
            have HB11 := Lib.hid (HB10.out.trans (hb.mono HB10.out.size))
            clear hb n0 n1 n2 n3
            go_wp2
            go_ret
            exact ⟨rfl, HB11.out⟩

end Go.Proofs.Ythhlfphnokdfaaa.cutWeak
