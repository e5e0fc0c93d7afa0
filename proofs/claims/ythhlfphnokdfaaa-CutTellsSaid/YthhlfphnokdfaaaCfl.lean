/-
  Contracts of the developers' First, Last and Prove. Condition: at most a million arcs.
-/
import Derived.Test.YthhlfphnokdfaaaCar
import Derived.Test.YthhlfphnokdfaaaCbk
import Derived.Test.YthhlfphnokdfaaaNds
import Derived.Test.YthhlfphnokdfaaaCfp
import Derived.Test.YthhlfphnokdfaaaRes7
import Derived.Test.YthhlfphnokdfaaaRfl6
import Derived.Test.YthhlfphnokdfaaaFval
namespace Go.Proofs.Ythhlfphnokdfaaa
open Go.ChangeShapes Go.WideShapes Go.ChangeAt Go.RowKit
set_option linter.unusedVariables false
set_option linter.unusedSimpArgs false
namespace Ne
theorem varcell (w : World) (v : Value) (t : TypeId) : (w.alloc (.cells #[v] t)).cell? ⟨w.heap.size, 0, none⟩ = some v := by
  have h : (w.alloc (.cells #[v] t)).heap[w.heap.size]? = some (.cells #[v] t (0, 0)) := by show (w.heap.push _)[w.heap.size]? = _; simp
  unfold World.cell?; rw [h]; rfl
theorem varbox {w w2 : World} {v : Value} {t : TypeId} (hb : Below (w.alloc (.cells #[v] t)).heap.size (w.alloc (.cells #[v] t)) w2) : w2.cell? ⟨w.heap.size, 0, none⟩ = some v := by
  rw [hb.cell (p := ⟨w.heap.size, 0, none⟩) (by simp)]
  exact varcell w v t
set_option maxRecDepth 100000 in
set_option maxHeartbeats 4000000 in
theorem first_any (n : Net) (ao : Option Addr) (cap : Nat) (fo : Option Addr) (fc : Nat) (f : List Int) (w : World) (hr : ARow w ao n.l) (hf : IRow w fo f) (hl : n.l.length ≤ 1000000) (hok : ∀ a ∈ n.l, in64 a.cap)
    (M : List Bool) (hM : chkF n f = 0 → IsReach n f 1 M) :
    Calls Try.prog 12 #[encN n ao cap, .slice fo f.length fc] w fun e w' => ∃ o c, e = .returned (.tuple #[.slice o (firV n f M).length c, .int .i64 (firE n f M)]) ∧ OwnI w' w.heap.size (.slice o (firV n f M).length c) (firV n f M) ∧ Below w.heap.size w w' := by
  have RC := Lib.hid (fun w' h1 h2 => show Calls Try.prog 28 #[encN n ao cap, .slice fo f.length fc, .int .i64 1] w' fun e w2 => ∃ o c K, e = .returned (.tuple #[.slice o K c, .int .i64 (chkF n f)]) ∧ (Hid (chkF n f = 0) → K = n.n.toNat + 1 ∧ ∃ b, o = some ⟨b, 0, none⟩ ∧ BBox w2 b M) ∧ Below w'.heap.size w' w2 from by
    have he : reE n f 1 = chkF n f := by unfold reE; split <;> simp_all
    refine (dreach_any n ao cap fo fc f 1 w' h1 h2 hl hok).mono ?_
    rintro e w2 ⟨o, c, M2, h1, h2, h3⟩
    rw [he] at h1
    refine ⟨o, c, M2.length, h1, fun h => ?_, h3⟩
    have h := h.out
    obtain ⟨hi, b, hb1, hb2⟩ := h2.good (by rw [he]; exact h)
    have hR := right_of (chkA_ok (chkF_ok h).1).1
    have := reach_one hR hi (hM h)
    subst this
    exact ⟨hi.len, b, hb1, hb2⟩)
  by_cases c0 : chkF n f = 0
  case neg =>
    have HE := Lib.hid (firE_bad M c0)
    have HV := Lib.hid (firV_bad (M := M) (by rw [HE.out]; exact c0))
    generalize firV n f M = V at *
    generalize firE n f M = E at *
    clear hM
    generalize chkF n f = c at *
    generalize f.length = fl at *
    obtain ⟨nn, ns, nt, l⟩ := n
    simp only at hr RC ⊢
    have HB0 := Lib.hid ((Below.refl w.heap.size w).alloc (Nat.le_refl _) (.cells #[.int .i64 nn, .int .i64 ns, .int .i64 nt, .slice ao l.length cap] 24))
    have c1' : (c == 0) = false := by simpa using c0
    have c1n : (c != 0) = true := by simpa using c0
    have HR := Lib.hid (hr.kept HB0.out)
    have HF := Lib.hid (hf.kept HB0.out)
    clear hr hf c0 hok
    go_enter Try.func12, Try.ntmps12
    go_wp2_with fail
    refine (RC.out _ HR.out HF.out).mono ?_
    rintro e w1 ⟨o, c, K, rfl, -, hb⟩
    have HB1 := Lib.hid ((HB0.out.trans (hb.mono (by simp))).alloc (Nat.le_trans (by simp) hb.size) (.cells #[.slice o K c] 54))
    clear hb
    go_wp2
    go_ret2
    exact ⟨none, 0, by rw [HV.out, HE.out]; rfl, by rw [HV.out]; exact Rw.own_nil _ _, HB1.out⟩
  have hI := hM c0
  have hR := right_of (chkA_ok (chkF_ok c0).1).1
  have hN0 := hR.n0
  have hN1 := hR.n1
  have hT0 := hR.t0
  have hT1 := hR.t1
  have HLM := Lib.hid hI.len
  have H8 := Lib.hid (show M.getD n.t.toNat false = true → firE n f M = 8 from fun h => firE_none c0 h)
  have H0 := Lib.hid (show M.getD n.t.toNat false = false → firE n f M = 0 from fun h => firE_ok c0 h)
  have HV8 := Lib.hid (show firE n f M ≠ 0 → firV n f M = [] from fun h => firV_bad h)
  have HV0 := Lib.hid (show firE n f M = 0 → firV n f M = nodesTo (fun v => M.getD v false) n.n.toNat from fun h => firV_ok h)
  generalize firV n f M = V at *
  generalize firE n f M = E at *
  rw [c0] at RC
  clear hM hI hR c0 hok
  generalize f.length = fl at *
  obtain ⟨nn, ns, nt, l⟩ := n
  simp only at hr RC hN0 hN1 hT0 hT1 HLM H8 H0 HV0 ⊢
  obtain ⟨N, rfl⟩ : ∃ N : Nat, nn = (N : Int) := ⟨nn.toNat, by omega⟩
  obtain ⟨t, rfl⟩ : ∃ t : Nat, nt = (t : Int) := ⟨nt.toNat, by omega⟩
  simp only [Int.toNat_natCast] at RC HLM H8 H0 HV0
  have HB0 := Lib.hid ((Below.refl w.heap.size w).alloc (Nat.le_refl _) (.cells #[.int .i64 (N : Int), .int .i64 ns, .int .i64 (t : Int), .slice ao l.length cap] 24))
  have HN0 := Lib.hid (netBox_new w (N : Int) ns (t : Int) (.slice ao l.length cap))
  have HR := Lib.hid (hr.kept HB0.out)
  have HF := Lib.hid (hf.kept HB0.out)
  clear hr hf
  have hmf : ∀ (fn : Fn) (first cap : Array Value) (w : World), (Instr.makeFunc fn first cap).run Try.prog w = .ok (.func fn first cap) w := fun _ _ _ _ => rfl
  go_enter Try.func12, Try.ntmps12
  go_wp2_with fail
  refine (RC.out _ HR.out HF.out).mono ?_
  rintro e w1 ⟨o, c, K, rfl, hg, hb⟩
  obtain ⟨rfl, b, rfl, hm⟩ := hg (Lib.hid trivial)
  have HB1 := Lib.hid ((HB0.out.trans (hb.mono (by simp))).alloc (Nat.le_trans (by simp) hb.size) (.cells #[.slice (some ⟨b, 0, none⟩) (N + 1) c] 54))
  have HN1 := Lib.hid (netBox_alloc (netBox_below HN0.out hb (by simp)) (.cells #[.slice (some ⟨b, 0, none⟩) (N + 1) c] 54))
  have HM1 := Lib.hid (hm.alloc (.cells #[.slice (some ⟨b, 0, none⟩) (N + 1) c] 54))
  have HC1 := Lib.hid (varcell w1 (.slice (some ⟨b, 0, none⟩) (N + 1) c) 54)
  clear hb hm HB0 HN0 HR HF RC
  obtain ⟨n0, n1, n2, n3⟩ := netBox_cells HN1.out
  have hti : (t : Int) < (N : Int) + 1 := by omega
  have ht0 : (0 : Int) ≤ (t : Int) := by omega
  have m0 := HM1.out.cell (i := t) (by rw [HLM.out]; omega)
  cases ht : M.getD t false
  · rw [ht] at m0
    have HE := Lib.hid (H0.out ht)
    have HVE := Lib.hid (HV0.out HE.out)
    have ND := Lib.hid (nodes_any ⟨(N : Int), ns, (t : Int), l⟩ ao cap 30 (.pointer (some ⟨w1.heap.size, 0, none⟩)) (fun v => M.getD v false) (w1.alloc (.cells #[.slice (some ⟨b, 0, none⟩) (N + 1) c] 54)) (by simp) (by simp; omega) (fun _ _ => by kernel_rfl) (fun v w' h1 h2 hb => by
      refine firstfn_any w' w1.heap.size b c M v ?_ (HM1.out.kept hb) (by rw [HLM.out]; simp at h2; omega)
      rw [HLM.out]; exact varbox hb))
    clear ht H8 H0 HV8 HV0
    go_wp2_with fail
    refine ND.out.mono ?_
    rintro e w2 ⟨y, rfl, ho, hb⟩
    have HB2 := Lib.hid (HB1.out.trans (hb.mono HB1.out.size))
    have HO2 := Lib.hid (Rw.own_base ho (B' := w.heap.size) HB1.out.size)
    clear hb ho n0 n1 n2 n3 m0
    simp only [Int.toNat_natCast] at HO2
    rw [← HVE.out] at HO2
    obtain ⟨o, c, hy, -⟩ := Rw.own_row encI_len HO2.out
    subst hy
    go_wp2
    go_ret2
    exact ⟨o, c, ret2w HE.out.symm, HO2.out, HB2.out⟩
  · rw [ht] at m0
    have HE := Lib.hid (H8.out ht)
    have HVE := Lib.hid (HV8.out (by rw [HE.out]; decide))
    clear ht H8 H0 HV8 HV0
    go_wp2
    go_ret2
    exact ⟨none, 0, by rw [HVE.out, HE.out]; rfl, by rw [HVE.out]; exact Rw.own_nil _ _, HB1.out⟩
set_option maxRecDepth 100000 in
set_option maxHeartbeats 4000000 in
theorem last_any (n : Net) (ao : Option Addr) (cap : Nat) (fo : Option Addr) (fc : Nat) (f : List Int) (w : World) (hr : ARow w ao n.l) (hf : IRow w fo f) (hl : n.l.length ≤ 1000000) (hok : ∀ a ∈ n.l, in64 a.cap)
    (M : List Bool) (hM : chkF n f = 0 → IsReach (turnN n) f 1 M) :
    Calls Try.prog 14 #[encN n ao cap, .slice fo f.length fc] w fun e w' => ∃ o c, e = .returned (.tuple #[.slice o (lasV n f M).length c, .int .i64 (lasE n f M)]) ∧ OwnI w' w.heap.size (.slice o (lasV n f M).length c) (lasV n f M) ∧ Below w.heap.size w w' := by
  have RC := Lib.hid (fun w' h1 h2 => droom_s n ao cap fo fc f w' h1 h2 hl hok)
  by_cases c0 : chkF n f = 0
  case neg =>
    have HE := Lib.hid (lasE_bad M c0)
    have HV := Lib.hid (lasV_bad (M := M) (by rw [HE.out]; exact c0))
    generalize lasV n f M = V at *
    generalize lasE n f M = E at *
    clear hM
    generalize chkF n f = c at *
    generalize roomV n f = RV at *
    generalize f.length = fl at *
    obtain ⟨nn, ns, nt, l⟩ := n
    simp only at hr RC ⊢
    have HB0 := Lib.hid ((Below.refl w.heap.size w).alloc (Nat.le_refl _) (.cells #[.int .i64 nn, .int .i64 ns, .int .i64 nt, .slice ao l.length cap] 24))
    have c1' : (c == 0) = false := by simpa using c0
    have c1n : (c != 0) = true := by simpa using c0
    have HR := Lib.hid (hr.kept HB0.out)
    have HF := Lib.hid (hf.kept HB0.out)
    clear hr hf c0 hok
    go_enter Try.func14, Try.ntmps14
    go_wp2_with fail
    refine (RC.out _ HR.out HF.out).mono ?_
    rintro e w1 ⟨o, c, rfl, -, hb⟩
    have HB1 := Lib.hid (HB0.out.trans (hb.mono (by simp)))
    clear hb
    go_wp2
    go_ret2
    exact ⟨none, 0, by rw [HV.out, HE.out]; rfl, by rw [HV.out]; exact Rw.own_nil _ _, HB1.out⟩
  have hI := hM c0
  have hR := right_of (chkA_ok (chkF_ok c0).1).1
  have hN0 := hR.n0
  have hN1 := hR.n1
  have hS0 := hR.s0
  have hS1 := hR.s1
  have hrv : roomV n f = roomL n.l f (2 * n.l.length) := by unfold roomV; rw [if_neg (by simpa using c0)]
  rw [hrv, roomL_len, c0] at RC
  have TS := Lib.hid (fun w' ro rc h1 h2 => show Calls Try.prog 33 #[encN n ao cap, .slice ro (2 * n.l.length) rc] w' fun e w2 => ∃ b k, e = .returned (.map (some b)) ∧ MkBox w2 b k (fun v => M.getD v false) ∧ w'.heap.size ≤ b ∧ Below w'.heap.size w' w2 from by
    refine (tosink_any n ao cap ro rc f w' h1 h2 hR).mono ?_
    rintro e w2 ⟨b, k, B, h1, h2, h3, h4, h5⟩
    have := reach_one (right_back hR) h2 hI
    subst this
    exact ⟨b, k, h1, h3, h4, h5⟩)
  have H8 := Lib.hid (show M.getD n.s.toNat false = true → lasE n f M = 8 from fun h => lasE_none c0 h)
  have H0 := Lib.hid (show M.getD n.s.toNat false = false → lasE n f M = 0 from fun h => lasE_ok c0 h)
  have HV8 := Lib.hid (show lasE n f M ≠ 0 → lasV n f M = [] from fun h => lasV_bad h)
  have HV0 := Lib.hid (show lasE n f M = 0 → lasV n f M = nodesTo (fun v => !(M.getD v false)) n.n.toNat from fun h => lasV_ok h)
  generalize lasV n f M = V at *
  generalize lasE n f M = E at *
  clear hM hI hR c0 hok hrv
  generalize f.length = fl at *
  generalize roomL n.l f (2 * n.l.length) = RL at *
  obtain ⟨nn, ns, nt, l⟩ := n
  simp only at hr RC TS hN0 hN1 hS0 hS1 H8 H0 HV0 ⊢
  obtain ⟨N, rfl⟩ : ∃ N : Nat, nn = (N : Int) := ⟨nn.toNat, by omega⟩
  obtain ⟨s, rfl⟩ : ∃ s : Nat, ns = (s : Int) := ⟨ns.toNat, by omega⟩
  simp only [Int.toNat_natCast] at H8 H0 HV0
  have HB0 := Lib.hid ((Below.refl w.heap.size w).alloc (Nat.le_refl _) (.cells #[.int .i64 (N : Int), .int .i64 (s : Int), .int .i64 nt, .slice ao l.length cap] 24))
  have HN0 := Lib.hid (netBox_new w (N : Int) (s : Int) nt (.slice ao l.length cap))
  have HR := Lib.hid (hr.kept HB0.out)
  have HF := Lib.hid (hf.kept HB0.out)
  clear hr hf
  have hmf : ∀ (fn : Fn) (first cap : Array Value) (w : World), (Instr.makeFunc fn first cap).run Try.prog w = .ok (.func fn first cap) w := fun _ _ _ _ => rfl
  go_enter Try.func14, Try.ntmps14
  go_wp2_with fail
  refine (RC.out _ HR.out HF.out).mono ?_
  rintro e w1 ⟨ro, rc, rfl, hrl, hb⟩
  have HB1 := Lib.hid (HB0.out.trans (hb.mono (by simp)))
  have HN1 := Lib.hid (netBox_below HN0.out hb (by simp))
  have HR1 := Lib.hid (HR.out.kept hb)
  have HRL := Lib.hid hrl
  obtain ⟨n0, n1, n2, n3⟩ := netBox_cells HN1.out
  clear hb hrl HB0 HN0 HR HF RC
  go_wp2_with fail
  refine (TS.out _ _ _ HR1.out HRL.out).mono ?_
  rintro e w2 ⟨b, k, rfl, hm, hbb, hb⟩
  have HB2 := Lib.hid ((HB1.out.trans (hb.mono HB1.out.size)).alloc (Nat.le_trans HB1.out.size hb.size) (.cells #[.map (some b)] 49))
  have HN2 := Lib.hid (netBox_alloc (netBox_below HN1.out hb (netBox_lt HN1.out)) (.cells #[.map (some b)] 49))
  have HM2 := Lib.hid (hm.alloc (.cells #[.map (some b)] 49))
  have HC2 := Lib.hid (varcell w2 (.map (some b)) 49)
  clear hb hm n0 n1 n2 n3 HB1 HN1 HR1 HRL TS
  obtain ⟨n0, n1, n2, n3⟩ := netBox_cells HN2.out
  have HH := Lib.hid (has_any _ b k (fun v => M.getD v false) s HM2.out (by omega))
  cases hs : M.getD s false
  · rw [hs] at HH
    have HE := Lib.hid (H0.out hs)
    have HVE := Lib.hid (HV0.out HE.out)
    clear hs H8 H0 HV8 HV0
    go_wp2_with fail
    refine HH.out.mono ?_
    rintro e w3 ⟨rfl, hb⟩
    have HB3 := Lib.hid (HB2.out.trans (hb.mono HB2.out.size))
    have HN3 := Lib.hid (netBox_below HN2.out hb (netBox_lt HN2.out))
    have HM3 := Lib.hid (HM2.out.below hb)
    have HC3 := Lib.hid (varbox hb)
    clear hb n0 n1 n2 n3 HH
    obtain ⟨n0, n1, n2, n3⟩ := netBox_cells HN3.out
    have ND := Lib.hid (nodes_any ⟨(N : Int), (s : Int), nt, l⟩ ao cap 34 (.pointer (some ⟨w2.heap.size, 0, none⟩)) (fun v => !(M.getD v false)) w3 (by simp) (by simp; omega) (fun _ _ => by kernel_rfl) (fun v w' h1 h2 hb => by
      refine lastfn_any w' w2.heap.size b k (fun v => M.getD v false) v ?_ (HM3.out.below hb) (by simp at h2; omega)
      rw [hb.cell (p := ⟨w2.heap.size, 0, none⟩) (Rw.heap_lt_of_cell HC3.out)]; exact HC3.out))
    go_wp2_with fail
    refine ND.out.mono ?_
    rintro e w4 ⟨y, rfl, ho, hb⟩
    have HB4 := Lib.hid (HB3.out.trans (hb.mono HB3.out.size))
    have HO4 := Lib.hid (Rw.own_base ho (B' := w.heap.size) HB3.out.size)
    clear hb ho n0 n1 n2 n3
    simp only [Int.toNat_natCast] at HO4
    rw [← HVE.out] at HO4
    obtain ⟨o, c, hy, -⟩ := Rw.own_row encI_len HO4.out
    subst hy
    go_wp2
    go_ret2
    exact ⟨o, c, ret2w HE.out.symm, HO4.out, HB4.out⟩
  · rw [hs] at HH
    have HE := Lib.hid (H8.out hs)
    have HVE := Lib.hid (HV8.out (by rw [HE.out]; decide))
    clear hs H8 H0 HV8 HV0
    go_wp2_with fail
    refine HH.out.mono ?_
    rintro e w3 ⟨rfl, hb⟩
    have HB3 := Lib.hid (HB2.out.trans (hb.mono HB2.out.size))
    clear hb
    go_wp2
    go_ret2
    exact ⟨none, 0, by rw [HVE.out, HE.out]; rfl, by rw [HVE.out]; exact Rw.own_nil _ _, HB3.out⟩
set_option maxRecDepth 100000 in
set_option maxHeartbeats 4000000 in
theorem prove_any (n : Net) (ao : Option Addr) (cap : Nat) (fo : Option Addr) (fc : Nat) (so : Option Addr) (sc : Nat) (f S : List Int) (w : World) (hr : ARow w ao n.l) (hf : IRow w fo f) (hs : IRow w so S) (hl : n.l.length ≤ 1000000) (hok : ∀ a ∈ n.l, in64 a.cap) :
    Calls Try.prog 17 #[encN n ao cap, .slice fo f.length fc, .slice so S.length sc] w fun e w' => e = .returned (.int .i64 (proE n f S)) ∧ Below w.heap.size w w' := by
  have VC := Lib.hid (fun w' h1 h2 => fval_any n ao cap fo fc f w' h1 h2 hl hok)
  have CC := Lib.hid (fun w' h1 h2 => capacity_any n ao cap so sc S w' h1 h2 hl hok)
  have H1 := Lib.hid (show chkF n f ≠ 0 → proE n f S = chkF n f from fun h => proE_flow S h)
  have H2 := Lib.hid (show chkF n f = 0 → cutE n S ≠ 0 → proE n f S = cutE n S from fun h h2 => proE_cut h h2)
  have H3 := Lib.hid (show chkF n f = 0 → cutE n S = 0 → vaV n f ≠ capV n S → proE n f S = 8 from fun h h2 h3 => proE_none h h2 h3)
  have H4 := Lib.hid (show chkF n f = 0 → cutE n S = 0 → vaV n f = capV n S → proE n f S = 0 from fun h h2 h3 => proE_ok h h2 h3)
  generalize proE n f S = E at *
  generalize chkF n f = c at *
  generalize cutE n S = d at *
  generalize vaV n f = x at *
  generalize capV n S = y at *
  generalize f.length = fl at *
  generalize S.length = sl at *
  obtain ⟨nn, ns, nt, l⟩ := n
  simp only at hr VC CC ⊢
  have HB0 := Lib.hid ((Below.refl w.heap.size w).alloc (Nat.le_refl _) (.cells #[.int .i64 nn, .int .i64 ns, .int .i64 nt, .slice ao l.length cap] 24))
  have HN0 := Lib.hid (netBox_new w nn ns nt (.slice ao l.length cap))
  have HR := Lib.hid (hr.kept HB0.out)
  have HF := Lib.hid (hf.kept HB0.out)
  have HS := Lib.hid (hs.kept HB0.out)
  clear hr hf hs hok
  go_enter Try.func17, Try.ntmps17
  go_wp2_with fail
  refine (VC.out _ HR.out HF.out).mono ?_
  rintro e w1 ⟨rfl, hb⟩
  have HB1 := Lib.hid (HB0.out.trans (hb.mono (by simp)))
  have HN1 := Lib.hid (netBox_below HN0.out hb (by simp))
  have HR1 := Lib.hid (HR.out.kept hb)
  have HS1 := Lib.hid (HS.out.kept hb)
  obtain ⟨n0, n1, n2, n3⟩ := netBox_cells HN1.out
  clear hb HB0 HN0 HR HF HS VC
  by_cases c0 : c = 0
  case neg =>
    have HE := Lib.hid (H1.out c0)
    have c1' : (c == 0) = false := by simpa using c0
    have c1n : (c != 0) = true := by simpa using c0
    clear c0 H1 H2 H3 H4
    go_wp2
    go_ret
    exact ⟨retI HE.out.symm, HB1.out⟩
  subst c0
  go_wp2_with fail
  refine (CC.out _ HR1.out HS1.out).mono ?_
  rintro e w2 ⟨rfl, hb⟩
  have HB2 := Lib.hid (HB1.out.trans (hb.mono HB1.out.size))
  clear hb n0 n1 n2 n3 CC
  by_cases d0 : d = 0
  case neg =>
    have HE := Lib.hid (H2.out trivial d0)
    have c1' : (d == 0) = false := by simpa using d0
    have c1n : (d != 0) = true := by simpa using d0
    clear d0 H1 H2 H3 H4
    go_wp2
    go_ret
    exact ⟨retI HE.out.symm, HB2.out⟩
  subst d0
  by_cases e0 : x = y
  · have HE := Lib.hid (H4.out trivial rfl e0)
    have e1 : (x != y) = false := by simpa using e0
    clear e0 H1 H2 H3 H4
    go_wp2
    go_ret
    exact ⟨retI HE.out.symm, HB2.out⟩
  · have HE := Lib.hid (H3.out trivial rfl e0)
    have e1 : (x != y) = true := by simpa using e0
    clear e0 H1 H2 H3 H4
    go_wp2
    go_ret
    exact ⟨retI HE.out.symm, HB2.out⟩
end Ne
end Go.Proofs.Ythhlfphnokdfaaa
