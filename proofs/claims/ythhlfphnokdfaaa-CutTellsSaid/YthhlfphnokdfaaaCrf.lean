/-
  Contracts of the document's First, Last and Prove. Condition: at most a million arcs. (Written by wip/tools/gen-Crf.py.)
-/
import Derived.Test.YthhlfphnokdfaaaCrc
import Derived.Test.YthhlfphnokdfaaaCfp
import Derived.Test.YthhlfphnokdfaaaGre
import Derived.Test.YthhlfphnokdfaaaFrxv
namespace Go.Proofs.Ythhlfphnokdfaaa
open Go.ChangeShapes Go.WideShapes Go.ChangeAt Go.RowKit
set_option linter.unusedVariables false
set_option linter.unusedSimpArgs false
namespace Ne
set_option maxRecDepth 100000 in
set_option maxHeartbeats 4000000 in
theorem cfirst_any (n : Net) (ao : Option Addr) (cap : Nat) (fo : Option Addr) (fc : Nat) (f : List Int) (w : World) (hr : ARow w ao n.l) (hf : IRow w fo f) (hl : n.l.length ≤ 1000000)
    (M : List Bool) (hM : chkF n f = 0 → IsReach n f 1 M) :
    Calls Try.prog 13 #[encN n ao cap, .slice fo f.length fc] w fun e w' => ∃ o c, e = .returned (.tuple #[.slice o (firV n f M).length c, .int .i64 (firE n f M)]) ∧ OwnI w' w.heap.size (.slice o (firV n f M).length c) (firV n f M) ∧ Below w.heap.size w w' := by
  have RC := Lib.hid (fun w' h1 h2 => show Calls Try.prog 31 #[encN n ao cap, .slice fo f.length fc, .int .i64 1] w' fun e w2 => ∃ o c K, e = .returned (.tuple #[.slice o K c, .int .i64 (chkF n f)]) ∧ (Hid (chkF n f = 0) → K = n.n.toNat + 1 ∧ ∃ b, o = some ⟨b, 0, none⟩ ∧ BBox w2 b M) ∧ Below w'.heap.size w' w2 from by
    have he : reE n f 1 = chkF n f := by unfold reE; split <;> simp_all
    refine (rreach_any n ao cap fo fc f 1 w' h1 h2 hl).mono ?_
    rintro e w2 ⟨o, c, M2, h1, h2, h3⟩
    rw [he] at h1
    refine ⟨o, c, M2.length, h1, fun h => ?_, h3⟩
    have h := h.out
    obtain ⟨hi, b, hb1, hb2⟩ := h2.good (by rw [he]; exact h)
    have hR := right_of (chkA_ok (chkF_ok h).1).1
    have := reach_one hR hi (hM h)
    subst this
    exact ⟨hi.len, b, hb1, hb2⟩)
  by_cases c0 : chkF n f = 0
  case neg =>
    have HE := Lib.hid (firE_bad M c0)
    have HV := Lib.hid (firV_bad (M := M) (by rw [HE.out]; exact c0))
    generalize firV n f M = V at *
    generalize firE n f M = E at *
    clear hM
    generalize chkF n f = c at *
    generalize f.length = fl at *
    obtain ⟨nn, ns, nt, l⟩ := n
    simp only at hr RC ⊢
    have HB0 := Lib.hid ((Below.refl w.heap.size w).alloc (Nat.le_refl _) (.cells #[.int .i64 nn, .int .i64 ns, .int .i64 nt, .slice ao l.length cap] 24))
    have c1' : (c == 0) = false := by simpa using c0
    have c1n : (c != 0) = true := by simpa using c0
    have HR := Lib.hid (hr.kept HB0.out)
    have HF := Lib.hid (hf.kept HB0.out)
    clear hr hf c0
    go_enter Try.func13, Try.ntmps13
    go_wp2_with fail
    refine (RC.out _ HR.out HF.out).mono ?_
    rintro e w1 ⟨o, c, K, rfl, -, hb⟩
    have HB1 := Lib.hid (HB0.out.trans (hb.mono (by simp)))
    clear hb
    go_wp2
    go_ret2
    exact ⟨none, 0, by rw [HV.out, HE.out]; rfl, by rw [HV.out]; exact Rw.own_nil _ _, HB1.out⟩
  have hI := hM c0
  have hR := right_of (chkA_ok (chkF_ok c0).1).1
  have hN0 := hR.n0
  have hN1 := hR.n1
  have hT0 := hR.t0
  have hT1 := hR.t1
  have HLM := Lib.hid hI.len
  have H8 := Lib.hid (show M.getD n.t.toNat false = true → firE n f M = 8 from fun h => firE_none c0 h)
  have H0 := Lib.hid (show M.getD n.t.toNat false = false → firE n f M = 0 from fun h => firE_ok c0 h)
  have HV8 := Lib.hid (show firE n f M ≠ 0 → firV n f M = [] from fun h => firV_bad h)
  have HV0 := Lib.hid (show firE n f M = 0 → firV n f M = nodesTo (fun v => M.getD v false) n.n.toNat from fun h => firV_ok h)
  generalize firV n f M = V at *
  generalize firE n f M = E at *
  rw [c0] at RC
  clear hM hI hR c0
  generalize f.length = fl at *
  obtain ⟨nn, ns, nt, l⟩ := n
  simp only at hr RC hN0 hN1 hT0 hT1 HLM H8 H0 HV0 ⊢
  obtain ⟨N, rfl⟩ : ∃ N : Nat, nn = (N : Int) := ⟨nn.toNat, by omega⟩
  obtain ⟨t, rfl⟩ : ∃ t : Nat, nt = (t : Int) := ⟨nt.toNat, by omega⟩
  simp only [Int.toNat_natCast] at RC HLM H8 H0 HV0
  have HB0 := Lib.hid ((Below.refl w.heap.size w).alloc (Nat.le_refl _) (.cells #[.int .i64 (N : Int), .int .i64 ns, .int .i64 (t : Int), .slice ao l.length cap] 24))
  have HN0 := Lib.hid (netBox_new w (N : Int) ns (t : Int) (.slice ao l.length cap))
  have HR := Lib.hid (hr.kept HB0.out)
  have HF := Lib.hid (hf.kept HB0.out)
  clear hr hf
  go_enter Try.func13, Try.ntmps13
  go_wp2_with fail
  refine (RC.out _ HR.out HF.out).mono ?_
  rintro e w1 ⟨o, c, K, rfl, hg, hb⟩
  obtain ⟨rfl, b, rfl, hm⟩ := hg (Lib.hid trivial)
  have HB1 := Lib.hid (HB0.out.trans (hb.mono (by simp)))
  have HN1 := Lib.hid (netBox_below HN0.out hb (by simp))
  have HM1 := Lib.hid hm
  clear hb hm hg HB0 HN0 HR HF RC
  obtain ⟨n0, n1, n2, n3⟩ := netBox_cells HN1.out
  have hti : (t : Int) < (N : Int) + 1 := by omega
  have ht0 : (0 : Int) ≤ (t : Int) := by omega
  have m0 := HM1.out.cell (i := t) (by rw [HLM.out]; omega)
  cases ht : M.getD t false
  · rw [ht] at m0
    have HE := Lib.hid (H0.out ht)
    have HVE := Lib.hid (HV0.out HE.out)
    obtain ⟨p, hp⟩ : ∃ p : Nat → Bool, p = fun v => M.getD v false := ⟨_, rfl⟩
    rw [← hp] at HVE
    have HPE := Lib.hid (show ∀ v, p v = M.getD v false from fun v => by rw [hp])
    clear ht H8 H0 HV8 HV0 hp
    go_wp2
    clear n0 n1 n2 n3 m0
    have HQ0 := Lib.hid (show nodesTo p 0 = [] from rfl)
    have HQS := Lib.hid (show ∀ k, nodesTo p (k + 1) = nodesTo p k ++ if p (k + 1) then [((k + 1 : Nat) : Int)] else [] from fun _ => rfl)
    go_loopw [8, 9] (fun y i wr => ∃ k : Nat, i = .int .i64 ((k + 1 : Nat) : Int) ∧ k ≤ N ∧ Hid (OwnI wr w1.heap.size y (nodesTo p k)) ∧ Hid (Below w1.heap.size w1 wr)) (fun _ i _ => N + 1 - (intOf i).toNat)
    case atStart => exact ⟨0, rfl, Nat.zero_le _, Lib.hid (by rw [HQ0.out]; exact Rw.own_nil _ _), Lib.hid (Below.refl _ _)⟩
    case round =>
      obtain ⟨k, rfl, hk, HO, HBV⟩ := hrel
      obtain ⟨n0, n1, n2, n3⟩ := netBox_cells (netBox_below HN1.out HBV.out (netBox_lt HN1.out))
      by_cases hlt : k < N
      · obtain ⟨J, hJ⟩ : ∃ J, J = k + 1 := ⟨_, rfl⟩
        have HSJ := Lib.hid (HQS.out k)
        rw [← hJ] at HSJ ⊢
        have HJ := Lib.hid hJ
        have hJN : J ≤ N := by omega
        have hJ1 : 1 ≤ J := by omega
        have hJi : (J : Int) ≤ (N : Int) := by omega
        have hJi2 : (J : Int) < (N : Int) + 1 := by omega
        have hJ0 : (0 : Int) ≤ (J : Int) := by omega
        have d0 := (HM1.out.kept HBV.out).cell (i := J) (by rw [HLM.out]; omega)
        clear hJ
        cases hp : M.getD J false
        · have HS := Lib.hid (show nodesTo p J = nodesTo p k by rw [HSJ.out]; rw [HPE.out, hp]; simp)
          rw [hp] at d0
          clear hp HSJ
          go_wp2
          go_roundw
          case rel => exact ⟨J, by go_num, hJN, Lib.hid (by rw [HS.out]; exact HO.out), HBV⟩
          case measure => have := HJ.out; simp [intOf]; omega
        · have HS := Lib.hid (show nodesTo p J = nodesTo p k ++ [(J : Int)] by rw [HSJ.out]; rw [HPE.out, hp]; simp)
          rw [hp] at d0
          clear hp HSJ
          have HO7 := Lib.hid (Rw.own_alloc HO.out (.cells #[.int .i64 (J : Int)] 3))
          have HV7 := Lib.hid (HBV.out.alloc HBV.out.size (.cells #[.int .i64 (J : Int)] 3))
          have HR7 := Lib.hid (irow_one' wr rfl (J : Int) 3)
          have HLN := Lib.hid (show (nodesTo p k).length + [(J : Int)].length ≤ 1099511627776 by have := nodes_len p k; simp; omega)
          have HVB := Lib.hid (Rw.own_block HO7.out)
          go_wp2_with (at_builtin; refine Rw.app elemI encI_len encI_one rfl (.tmp 34) (.tmp 36) rfl w1.heap.size _ (nodesTo p k) rfl HO7.out (some ⟨wr.heap.size, 0, none⟩) 1 [(J : Int)] rfl ?hnn HR7.out HLN.out ?hB ?_; (case hnn => (intro h; cases h)); (case hB => (exact HV7.out.size)); intro v8 w8 hown8 hgr8; rw [← HS.out] at hown8; have HO8 := Lib.hid hown8; have HV8 := Lib.hid (HV7.out.grown hgr8 HV7.out.size HVB.out); clear hown8 hgr8)
          go_roundw
          case rel => exact ⟨J, by go_num, hJN, HO8, HV8⟩
          case measure => have := HJ.out; simp [intOf]; omega
      · have ek : N = k := by omega
        subst ek
        obtain ⟨o, c, hy, -⟩ := Rw.own_row encI_len HO.out
        subst hy
        clear HQ0 HQS hlt hk
        go_wp2
        go_ret2
        exact ⟨o, c, by rw [HVE.out]; exact ret2w HE.out.symm, by rw [HVE.out]; exact Rw.own_base HO.out HB1.out.size, HB1.out.trans (HBV.out.mono HB1.out.size)⟩
  · rw [ht] at m0
    have HE := Lib.hid (H8.out ht)
    have HVE := Lib.hid (HV8.out (by rw [HE.out]; decide))
    clear ht H8 H0 HV8 HV0
    go_wp2
    go_ret2
    exact ⟨none, 0, by rw [HVE.out, HE.out]; rfl, by rw [HVE.out]; exact Rw.own_nil _ _, HB1.out⟩
theorem back_step {n : Net} (hR : Right n) {f : List Int} {B : List Bool} (h : Fix (turnN n) f 1 B) {r : Nat} (hr : r < 2 * n.l.length) (hx : 1 ≤ roomN n.l f r) (h1 : B.getD (trT n.l r).toNat false = true) (h2 : B.getD (trF n.l r).toNat false = false) :
    Fix (turnN n) f 1 (B.set (trF n.l r).toNat true) ∧ unmet (B.set (trF n.l r).toNat true) + 1 = unmet B := by
  obtain ⟨e1, e2, e3⟩ := tr_turn (f := f) hr
  have h := fix_step (right_back hR) h (r := r) (by simpa [turnN] using hr) (by show 1 ≤ roomN (n.l.map turnA) f r; rw [e3]; exact hx) (by show B.getD (trF (n.l.map turnA) r).toNat false = true; rw [e1]; exact h1) (by show B.getD (trT (n.l.map turnA) r).toNat false = false; rw [e2]; exact h2)
  rwa [show trT (turnN n).l r = trF n.l r from e2] at h
theorem back_end {n : Net} {f : List Int} {B : List Bool} (h : Fix (turnN n) f 1 B) (hc : ∀ r, r < 2 * n.l.length → 1 ≤ roomN n.l f r → B.getD (trT n.l r).toNat false = true → B.getD (trF n.l r).toNat false = true) : IsReach (turnN n) f 1 B :=
  fix_end h fun r hr hx h1 => by
    have hr' : r < 2 * n.l.length := by simpa [turnN] using hr
    obtain ⟨e1, e2, e3⟩ := tr_turn (f := f) hr'
    rw [show trT (turnN n).l r = trF n.l r from e2]
    exact hc r hr' (by rw [← e3]; exact hx) (by rw [← e1]; exact h1)
set_option maxRecDepth 100000 in
set_option maxHeartbeats 8000000 in
theorem clast_any (n : Net) (ao : Option Addr) (cap : Nat) (fo : Option Addr) (fc : Nat) (f : List Int) (w : World) (hr : ARow w ao n.l) (hf : IRow w fo f) (hl : n.l.length ≤ 1000000)
    (M B : List Bool) (hM : chkF n f = 0 → IsReach n f 1 M) (hB : chkF n f = 0 → IsReach (turnN n) f 1 B) :
    Calls Try.prog 15 #[encN n ao cap, .slice fo f.length fc] w fun e w' => ∃ o c, e = .returned (.tuple #[.slice o (lasV n f B).length c, .int .i64 (lasE n f B)]) ∧ OwnI w' w.heap.size (.slice o (lasV n f B).length c) (lasV n f B) ∧ Below w.heap.size w w' := by
  have FC := Lib.hid (fun w' h1 h2 => cfirst_any n ao cap fo fc f w' h1 h2 hl M hM)
  have HFE := Lib.hid (show lasE n f B = firE n f M by
    by_cases c : chkF n f = 0
    · exact las_fir (right_of (chkA_ok (chkF_ok c).1).1) (hM c) (hB c)
    · rw [lasE_bad B c, firE_bad M c])
  rw [HFE.out]
  by_cases c0 : firE n f M = 0
  case neg =>
    have HV := Lib.hid (lasV_bad (M := B) (n := n) (f := f) (by rw [HFE.out]; exact c0))
    generalize lasV n f B = V at *
    generalize firV n f M = V2 at *
    generalize firE n f M = E at *
    clear hM hB HFE
    generalize f.length = fl at *
    obtain ⟨nn, ns, nt, l⟩ := n
    simp only at hr FC ⊢
    have HB0 := Lib.hid ((Below.refl w.heap.size w).alloc (Nat.le_refl _) (.cells #[.int .i64 nn, .int .i64 ns, .int .i64 nt, .slice ao l.length cap] 24))
    have c1' : (E == 0) = false := by simpa using c0
    have c1n : (E != 0) = true := by simpa using c0
    have HR := Lib.hid (hr.kept HB0.out)
    have HF := Lib.hid (hf.kept HB0.out)
    clear hr hf c0
    go_enter Try.func15, Try.ntmps15
    go_wp2_with fail
    refine (FC.out _ HR.out HF.out).mono ?_
    rintro e w1 ⟨o, c, rfl, -, hb⟩
    have HB1 := Lib.hid (HB0.out.trans (hb.mono (by simp)))
    clear hb
    go_wp2
    go_ret2
    exact ⟨none, 0, by rw [HV.out]; rfl, by rw [HV.out]; exact Rw.own_nil _ _, HB1.out⟩
  have hck : chkF n f = 0 := by
    by_cases c : chkF n f = 0
    · exact c
    · rw [firE_bad M c] at c0; exact absurd c0 c
  have hIB := hB hck
  obtain ⟨-, hR, hfl, hwi⟩ := chkA_ok (chkF_ok hck).1
  have HVE := Lib.hid (show lasV n f B = nodesTo (fun v => !(B.getD v false)) n.n.toNat from lasV_ok (by rw [HFE.out]; exact c0))
  have RC := Lib.hid (fun w' (h1 : ARow w' ao n.l) (h2 : IRow w' fo f) => rroom_any n ao cap fo fc f w' h1 h2 hl)
  rw [hck] at RC
  have HRV := Lib.hid (show roomV n f = roomL n.l f (2 * n.l.length) by unfold roomV; rw [if_neg (by simpa using hck)])
  rw [HRV.out] at RC
  rw [c0] at FC ⊢
  rw [HVE.out]
  obtain ⟨p, hp⟩ : ∃ p : Nat → Bool, p = fun v => !(B.getD v false) := ⟨_, rfl⟩
  rw [← hp]
  have HPE := Lib.hid (show ∀ v, p v = !(B.getD v false) from fun v => by rw [hp])
  clear hp
  have hLL := hR.len
  have hN0 := hR.n0
  have hN1 := hR.n1
  have hT0 := hR.t0
  have hT1 := hR.t1
  have HEN := Lib.hid (fun (j : Nat) (h : j < 2 * n.l.length) w' h1 => show Calls Try.prog 36 #[encN n ao cap, .int .i64 (j : Int)] w' fun e w2 => e = .returned (.tuple #[.int .i64 (((trF n.l j).toNat : Nat) : Int), .int .i64 (((trT n.l j).toNat : Nat) : Int)]) ∧ Below w'.heap.size w' w2 by
    have := rends_any n ao cap (j : Int) w' h1 hl (by unfold in64; omega)
    rw [enF_in h, enT_in h] at this
    have hb := trT_bd hR h
    have hb2 := trF_bd hR h
    rwa [show (((trT n.l j).toNat : Nat) : Int) = trT n.l j by omega, show (((trF n.l j).toNat : Nat) : Int) = trF n.l j by omega])
  have HTB := Lib.hid (fun (j : Nat) (h : j < 2 * n.l.length) => show (trT n.l j).toNat < n.n.toNat + 1 ∧ (trF n.l j).toNat < n.n.toNat + 1 by have := trT_bd hR h; have := trF_bd hR h; omega)
  have HRA := Lib.hid (fun i (h : i < 2 * n.l.length) => roomL_at n.l f h)
  have HRN := Lib.hid (roomL_len n.l f (2 * n.l.length))
  have HF0 := Lib.hid (show Fix (turnN n) f 1 ((List.replicate (n.n.toNat + 1) false).set n.t.toNat true) from fix_start (right_back hR) f 1)
  have HFS := Lib.hid (fun K (h : Fix (turnN n) f 1 K) r (hr : r < 2 * n.l.length) h1 h2 h3 => back_step hR h hr h1 h2 h3)
  have HFX := Lib.hid (fun K (h : Fix (turnN n) f 1 K) hc => show K = B from reach_one (right_back hR) (back_end h hc) hIB)
  have HFN := Lib.hid (fun K (h : Fix (turnN n) f 1 K) => show K.length = n.n.toNat + 1 from h.len)
  clear HVE HFE HRV hM hB
  generalize hFX : Fix (turnN n) f 1 = FX at *
  generalize roomL n.l f (2 * n.l.length) = RL at *
  generalize roomN n.l f = RO at *
  generalize hTT : (fun j => (trF n.l j).toNat) = TT at *
  generalize hTF : (fun j => (trT n.l j).toNat) = TF at *
  have HTE := Lib.hid (show ∀ j, (trF n.l j).toNat = TT j from fun j => by rw [← hTT])
  have HTG := Lib.hid (show ∀ j, (trT n.l j).toNat = TF j from fun j => by rw [← hTF])
  clear hTT hTF hFX
  simp only [HTE.out, HTG.out] at HEN HTB HFS HFX
  clear HTE HTG hR hfl hwi hck c0 hIB
  generalize firV n f M = V2 at *
  generalize f.length = fl at *
  obtain ⟨nn, ns, nt, l⟩ := n
  simp only at hr hl RC FC hLL hN0 hN1 hT0 hT1 HEN HTB HRA HRN HF0 HFS HFX HFN ⊢
  obtain ⟨N, rfl⟩ : ∃ N : Nat, nn = (N : Int) := ⟨nn.toNat, by omega⟩
  obtain ⟨S, rfl⟩ : ∃ S : Nat, nt = (S : Int) := ⟨nt.toNat, by omega⟩
  simp only [Int.toNat_natCast] at HTB HF0 HFN ⊢
  have hmk := make_b (N + 1) (by omega)
  simp only [Int.natCast_add, Int.natCast_one] at hmk
  have HB0 := Lib.hid ((Below.refl w.heap.size w).alloc (Nat.le_refl _) (.cells #[.int .i64 (N : Int), .int .i64 ns, .int .i64 (S : Int), .slice ao l.length cap] 24))
  have HN0 := Lib.hid (netBox_new w (N : Int) ns (S : Int) (.slice ao l.length cap))
  have HR := Lib.hid (hr.kept HB0.out)
  have HF := Lib.hid (hf.kept HB0.out)
  clear hr hf
  go_enter Try.func15, Try.ntmps15
  go_wp2_with fail
  refine (FC.out _ HR.out HF.out).mono ?_
  rintro e wf ⟨of, cf, rfl, -, hb⟩
  have HBf := Lib.hid (HB0.out.trans (hb.mono (by simp)))
  have HNf := Lib.hid (netBox_below HN0.out hb (by simp))
  have HRf := Lib.hid (HR.out.kept hb)
  have HFf := Lib.hid (HF.out.kept hb)
  clear hb HB0 HN0 HR HF FC
  obtain ⟨n0, n1, n2, n3⟩ := netBox_cells HNf.out
  go_wp2_with fail
  refine (RC.out _ HRf.out HFf.out).mono ?_
  rintro e w1 ⟨v, rfl, ho, hb⟩
  have HB1 := Lib.hid (HBf.out.trans (hb.mono HBf.out.size))
  have HN1 := Lib.hid (netBox_below HNf.out hb (netBox_lt HNf.out))
  have HR1 := Lib.hid (HRf.out.kept hb)
  obtain ⟨ro, rc, hv, _, _, _, hri, _, _⟩ := Rw.own_row encI_len ho
  rw [HRN.out] at hv
  subst hv
  have HRI := Lib.hid hri
  clear hb ho hri HBf HNf HRf HFf RC n0 n1 n2 n3
  obtain ⟨n0, n1, n2, n3⟩ := netBox_cells HN1.out
  have hsi : (S : Int) < (N : Int) + 1 := by omega
  have hs0 : (0 : Int) ≤ (S : Int) := by omega
  have HM1 := Lib.hid (bbox_made w1 (N + 1) (b := w1.heap.size) rfl)
  have hm1 := HM1.out.cell (i := S) (by simp; omega)
  have hf1 := HM1.out.frozen S
  have HN2 := Lib.hid (netBox_alloc HN1.out (.cells (madeCells #[.bool false] (N + 1)) 4))
  obtain ⟨m0, m1, m2, m3⟩ := netBox_cells HN2.out
  have HM2 := Lib.hid (HM1.out.set (i := S) (by simp; omega) true)
  have HB2 := Lib.hid ((((Below.refl w1.heap.size w1).alloc (Nat.le_refl _) (.cells (madeCells #[.bool false] (N + 1)) 4))).setCell (p := ⟨w1.heap.size, S, none⟩) (Nat.le_refl _) (.bool true))
  have HSN := Lib.hid (set_new w1 (madeCells #[.bool false] (N + 1)) 4 S (.bool true))
  rw [HSN.out] at HM2 HB2
  go_wp2
  clear hm1 hf1 m0 m1 m2 m3 n0 n1 n2 n3 hmk HM1 HN2 HSN
  obtain ⟨bm, hbm⟩ : ∃ b, b = w1.heap.size := ⟨_, rfl⟩
  rw [← hbm] at HM2 HB2 ⊢
  have HBM := Lib.hid hbm
  clear hbm
  generalize (w1.alloc (.cells ((madeCells #[.bool false] (N + 1)).setIfInBounds S (.bool true)) 4)) = W2 at *
  go_loopg [11] (2 * unmet ((List.replicate (N + 1) false).set S true) + 1) (fun g s wr => ∃ (M : List Bool) (mo : Bool), s = .bool mo ∧ g = 2 * unmet M + BOn mo ∧ Hid (FX M) ∧ Hid (BBox wr bm M) ∧ Hid (Below bm w1 wr) ∧ Hid (mo = false → ∀ r, r < 2 * l.length → 1 ≤ RO r → M.getD (TF r) false = true → M.getD (TT r) false = true))
  case atStart => exact ⟨_, true, rfl, rfl, HF0, HM2, HB2, Lib.hid (fun h => by cases h)⟩
  case round =>
    obtain ⟨M, mo, rfl, hgk, HFX1, HMW, HBW, HCL⟩ := hrel
    have HGK := Lib.hid hgk
    clear hgk
    rcases mo with _ | _
    · obtain rfl := HFX.out M HFX1.out (HCL.out rfl)
      have HLN := Lib.hid (HFN.out M HFX1.out)
      have HBE := Lib.hid (HB1.out.trans (HBW.out.mono (by rw [HBM.out]; exact HB1.out.size)))
      have HNE := Lib.hid (netBox_below HN1.out HBW.out (by rw [HBM.out]; exact netBox_lt HN1.out))
      go_wp2
      obtain ⟨wq, hwq⟩ : ∃ wq, wq = wr := ⟨_, rfl⟩
      subst hwq
      have HQ0 := Lib.hid (show nodesTo p 0 = [] from rfl)
      have HQS := Lib.hid (show ∀ k, nodesTo p (k + 1) = nodesTo p k ++ if p (k + 1) then [((k + 1 : Nat) : Int)] else [] from fun _ => rfl)
      go_loopw [15, 16] (fun y i wr => ∃ k : Nat, i = .int .i64 ((k + 1 : Nat) : Int) ∧ k ≤ N ∧ Hid (OwnI wr wq.heap.size y (nodesTo p k)) ∧ Hid (Below wq.heap.size wq wr)) (fun _ i _ => N + 1 - (intOf i).toNat)
      case atStart => exact ⟨0, rfl, Nat.zero_le _, Lib.hid (by rw [HQ0.out]; exact Rw.own_nil _ _), Lib.hid (Below.refl _ _)⟩
      case round =>
        obtain ⟨k, rfl, hk, HO, HBV⟩ := hrel
        obtain ⟨n0, n1, n2, n3⟩ := netBox_cells (netBox_below HNE.out HBV.out (netBox_lt HNE.out))
        by_cases hlt : k < N
        · obtain ⟨J, hJ⟩ : ∃ J, J = k + 1 := ⟨_, rfl⟩
          have HSJ := Lib.hid (HQS.out k)
          rw [← hJ] at HSJ ⊢
          have HJ := Lib.hid hJ
          have hJN : J ≤ N := by omega
          have hJ1 : 1 ≤ J := by omega
          have hJi : (J : Int) ≤ (N : Int) := by omega
          have hJi2 : (J : Int) < (N : Int) + 1 := by omega
          have hJ0 : (0 : Int) ≤ (J : Int) := by omega
          have d0 := (HMW.out.kept HBV.out).cell (i := J) (by rw [HLN.out]; omega)
          clear hJ
          cases hp : M.getD J false
          · have HS := Lib.hid (show nodesTo p J = nodesTo p k ++ [(J : Int)] by rw [HSJ.out]; rw [HPE.out, hp]; simp)
            rw [hp] at d0
            clear hp HSJ
            have HO7 := Lib.hid (Rw.own_alloc HO.out (.cells #[.int .i64 (J : Int)] 3))
            have HV7 := Lib.hid (HBV.out.alloc HBV.out.size (.cells #[.int .i64 (J : Int)] 3))
            have HR7 := Lib.hid (irow_one' wr rfl (J : Int) 3)
            have HLN := Lib.hid (show (nodesTo p k).length + [(J : Int)].length ≤ 1099511627776 by have := nodes_len p k; simp; omega)
            have HVB := Lib.hid (Rw.own_block HO7.out)
            go_wp2_with (at_builtin; refine Rw.app elemI encI_len encI_one rfl (.tmp 85) (.tmp 87) rfl wq.heap.size _ (nodesTo p k) rfl HO7.out (some ⟨wr.heap.size, 0, none⟩) 1 [(J : Int)] rfl ?hnn HR7.out HLN.out ?hB ?_; (case hnn => (intro h; cases h)); (case hB => (exact HV7.out.size)); intro v8 w8 hown8 hgr8; rw [← HS.out] at hown8; have HO8 := Lib.hid hown8; have HV8 := Lib.hid (HV7.out.grown hgr8 HV7.out.size HVB.out); clear hown8 hgr8)
            go_roundw
            case rel => exact ⟨J, by go_num, hJN, HO8, HV8⟩
            case measure => have := HJ.out; simp [intOf]; omega
          · have HS := Lib.hid (show nodesTo p J = nodesTo p k by rw [HSJ.out]; rw [HPE.out, hp]; simp)
            rw [hp] at d0
            clear hp HSJ
            go_wp2
            go_roundw
            case rel => exact ⟨J, by go_num, hJN, Lib.hid (by rw [HS.out]; exact HO.out), HBV⟩
            case measure => have := HJ.out; simp [intOf]; omega
        · have ek : N = k := by omega
          subst ek
          obtain ⟨o, c, hy, -⟩ := Rw.own_row encI_len HO.out
          subst hy
          clear HQ0 HQS hlt hk
          go_wp2
          go_ret2
          exact ⟨o, c, rfl, Rw.own_base HO.out HBE.out.size, HBE.out.trans (HBV.out.mono HBE.out.size)⟩
    go_wp2
    go_loopg [11, 12] (2 * l.length) (fun g2 s i wy => ∃ (r : Nat) (M2 : List Bool) (m2 : Bool), s = .bool m2 ∧ i = .int .i64 r ∧ r + g2 = 2 * l.length ∧ Hid (FX M2) ∧ Hid (BBox wy bm M2) ∧ Hid (Below bm w1 wy) ∧ Hid (m2 = false → ∀ q, q < r → 1 ≤ RO q → M2.getD (TF q) false = true → M2.getD (TT q) false = true) ∧ Hid (2 * unmet M2 + BOn m2 < 2 * unmet M + 1))
    case atStart => exact ⟨0, M, false, rfl, rfl, by omega, HFX1, HMW, HBW, Lib.hid (fun _ q hq => absurd hq (by omega)), Lib.hid (by simp [BOn])⟩
    case round =>
      obtain ⟨r, M2, m2, rfl, rfl, hrg, HFX2, HM2, HBY, HC2, HUN⟩ := hrel
      by_cases hlt : r < 2 * l.length
      · have hri : (r : Int) < 2 * (l.length : Int) := by omega
        have hr0 : (0 : Int) ≤ (r : Int) := by omega
        have HN3 := Lib.hid (netBox_below HN1.out HBY.out (by rw [HBM.out]; exact netBox_lt HN1.out))
        obtain ⟨n0, n1, n2, n3⟩ := netBox_cells HN3.out
        have EN := Lib.hid (fun w' => HEN.out r hlt w')
        obtain ⟨hta, htb⟩ := HTB.out r hlt
        have HRr := Lib.hid (HRA.out r hlt)
        have HST := Lib.hid (HFS.out M2 HFX2.out r hlt)
        have HC3 := Lib.hid (show (1 ≤ RO r → M2.getD (TF r) false = true → M2.getD (TT r) false = true) → m2 = false → ∀ q, q < r + 1 → 1 ≤ RO q → M2.getD (TF q) false = true → M2.getD (TT q) false = true from fun h hm q hq => by
          by_cases e : q = r
          · subst e; exact h
          · exact HC2.out hm q (by omega))
        have HLN := Lib.hid (HFN.out M2 HFX2.out)
        generalize TF r = a at *
        generalize TT r = b at *
        have hai : (a : Int) < (N : Int) + 1 := by omega
        have ha0 : (0 : Int) ≤ (a : Int) := by omega
        have hbi : (b : Int) < (N : Int) + 1 := by omega
        have hb0 : (0 : Int) ≤ (b : Int) := by omega
        have hrl : r < RL.length := by rw [HRN.out]; exact hlt
        go_wp2_with fail
        refine (EN.out _ (HR1.out.kept (by have := HBY.out; rwa [HBM.out] at this))).mono ?_
        rintro e w3 ⟨rfl, hb⟩
        have HB3 := Lib.hid (HBY.out.trans (hb.mono (by have := HBY.out.size; have := HM2.out.lt; omega)))
        have HM3 := Lib.hid (HM2.out.kept hb)
        have HI3 := Lib.hid (HRI.out.kept (by have := HB3.out; rwa [HBM.out] at this))
        obtain ⟨b5, o5, rfl, _, d0⟩ := irow_cell HI3.out hrl
        rw [HRr.out] at d0
        generalize RO r = rr at *
        have ma := HM3.out.cell (i := a) (by rw [HLN.out]; exact hta)
        have mb := HM3.out.cell (i := b) (by rw [HLN.out]; exact htb)
        have mf := HM3.out.frozen b
        clear hb n0 n1 n2 n3
        by_cases p1 : 1 ≤ rr
        · have p1' : decide (1 ≤ rr) = true := by simpa using p1
          rcases hA : M2.getD a false with _ | _
          · rw [hA] at ma
            have HC := Lib.hid (HC3.out (fun _ h => by rw [hA] at h; cases h))
            clear hA p1
            go_wp2
            go_roundg (2 * l.length - (r + 1))
            case measure => omega
            case rel => exact ⟨r + 1, M2, m2, rfl, by go_num, by omega, HFX2, HM3, HB3, HC, HUN⟩
          · rw [hA] at ma
            rcases hB : M2.getD b false with _ | _
            · rw [hB] at mb
              obtain ⟨k1, k2⟩ := HST.out p1 hA hB
              have K1 := Lib.hid k1
              have K2 := Lib.hid k2
              have HM4 := Lib.hid (HM3.out.set (i := b) (by rw [HLN.out]; exact htb) true)
              have HB4 := Lib.hid (HB3.out.setCell (p := ⟨bm, b, none⟩) (Nat.le_refl _) (.bool true))
              have HU4 := Lib.hid (show 2 * unmet (M2.set b true) + BOn true < 2 * unmet M + 1 by have := K2.out; have := HUN.out; unfold BOn at *; simp only [if_true]; split at this <;> omega)
              clear k1 k2 hA hB p1
              go_wp2
              go_roundg (2 * l.length - (r + 1))
              case measure => omega
              case rel => exact ⟨r + 1, M2.set b true, true, rfl, by go_num, by omega, K1, HM4, HB4, Lib.hid (fun h => by cases h), HU4⟩
            · rw [hB] at mb
              have HC := Lib.hid (HC3.out (fun _ _ => hB))
              clear hA hB p1
              go_wp2
              go_roundg (2 * l.length - (r + 1))
              case measure => omega
              case rel => exact ⟨r + 1, M2, m2, rfl, by go_num, by omega, HFX2, HM3, HB3, HC, HUN⟩
        · have p1' : decide (1 ≤ rr) = false := by simpa using p1
          have HC := Lib.hid (HC3.out (fun h => absurd h p1))
          clear p1
          go_wp2
          go_roundg (2 * l.length - (r + 1))
          case measure => omega
          case rel => exact ⟨r + 1, M2, m2, rfl, by go_num, by omega, HFX2, HM3, HB3, HC, HUN⟩
      · have er : r = 2 * l.length := by omega
        subst er
        have HBM2 := Lib.hid (HM2.out)
        have hlt2 : ¬ (2 * (l.length : Int) < 2 * (l.length : Int)) := by omega
        go_wp2
        go_roundg (2 * unmet M2 + BOn m2)
        case measure => have := HGK.out; have := HUN.out; simp only [BOn, if_true] at *; omega
        case rel => exact ⟨M2, m2, rfl, rfl, HFX2, HM2, HBY, Lib.hid (fun h q hq => HC2.out h q hq)⟩
set_option maxRecDepth 100000 in
set_option maxHeartbeats 4000000 in
theorem cprove_any (n : Net) (ao : Option Addr) (cap : Nat) (fo : Option Addr) (fc : Nat) (so : Option Addr) (sc : Nat) (f S : List Int) (w : World) (hr : ARow w ao n.l) (hf : IRow w fo f) (hs : IRow w so S) (hl : n.l.length ≤ 1000000) (hsl : S.length ≤ 1000000) (hok : ∀ a ∈ n.l, in64 a.cap) :
    Calls Try.prog 18 #[encN n ao cap, .slice fo f.length fc, .slice so S.length sc] w fun e w' => e = .returned (.int .i64 (proE n f S)) ∧ Below w.heap.size w w' := by
  have VC := Lib.hid (fun w' h1 h2 => rval_any n ao cap fo fc f w' h1 h2 hl)
  have CC := Lib.hid (fun w' h1 h2 => ccapacity_any n ao cap so sc S w' h1 h2 hl hsl)
  have H1 := Lib.hid (show chkF n f ≠ 0 → proE n f S = chkF n f from fun h => proE_flow S h)
  have H2 := Lib.hid (show chkF n f = 0 → cutE n S ≠ 0 → proE n f S = cutE n S from fun h h2 => proE_cut h h2)
  have H3 := Lib.hid (show chkF n f = 0 → cutE n S = 0 → vaV n f ≠ capV n S → proE n f S = 8 from fun h h2 h3 => proE_none h h2 h3)
  have H4 := Lib.hid (show chkF n f = 0 → cutE n S = 0 → vaV n f = capV n S → proE n f S = 0 from fun h h2 h3 => proE_ok h h2 h3)
  generalize proE n f S = E at *
  generalize chkF n f = c at *
  generalize cutE n S = d at *
  generalize vaV n f = x at *
  generalize capV n S = y at *
  generalize f.length = fl at *
  generalize S.length = sl at *
  obtain ⟨nn, ns, nt, l⟩ := n
  simp only at hr VC CC ⊢
  have HB0 := Lib.hid ((Below.refl w.heap.size w).alloc (Nat.le_refl _) (.cells #[.int .i64 nn, .int .i64 ns, .int .i64 nt, .slice ao l.length cap] 24))
  have HN0 := Lib.hid (netBox_new w nn ns nt (.slice ao l.length cap))
  have HR := Lib.hid (hr.kept HB0.out)
  have HF := Lib.hid (hf.kept HB0.out)
  have HS := Lib.hid (hs.kept HB0.out)
  clear hr hf hs hok
  go_enter Try.func18, Try.ntmps18
  go_wp2_with fail
  refine (VC.out _ HR.out HF.out).mono ?_
  rintro e w1 ⟨rfl, hb⟩
  have HB1 := Lib.hid (HB0.out.trans (hb.mono (by simp)))
  have HN1 := Lib.hid (netBox_below HN0.out hb (by simp))
  have HR1 := Lib.hid (HR.out.kept hb)
  have HS1 := Lib.hid (HS.out.kept hb)
  obtain ⟨n0, n1, n2, n3⟩ := netBox_cells HN1.out
  clear hb HB0 HN0 HR HF HS VC
  by_cases c0 : c = 0
  case neg =>
    have HE := Lib.hid (H1.out c0)
    have c1' : (c == 0) = false := by simpa using c0
    have c1n : (c != 0) = true := by simpa using c0
    clear c0 H1 H2 H3 H4
    go_wp2
    go_ret
    exact ⟨retI HE.out.symm, HB1.out⟩
  subst c0
  go_wp2_with fail
  refine (CC.out _ HR1.out HS1.out).mono ?_
  rintro e w2 ⟨rfl, hb⟩
  have HB2 := Lib.hid (HB1.out.trans (hb.mono HB1.out.size))
  clear hb n0 n1 n2 n3 CC
  by_cases d0 : d = 0
  case neg =>
    have HE := Lib.hid (H2.out trivial d0)
    have c1' : (d == 0) = false := by simpa using d0
    have c1n : (d != 0) = true := by simpa using d0
    clear d0 H1 H2 H3 H4
    go_wp2
    go_ret
    exact ⟨retI HE.out.symm, HB2.out⟩
  subst d0
  by_cases e0 : x = y
  · have HE := Lib.hid (H4.out trivial rfl e0)
    have e1 : (x != y) = false := by simpa using e0
    clear e0 H1 H2 H3 H4
    go_wp2
    go_ret
    exact ⟨retI HE.out.symm, HB2.out⟩
  · have HE := Lib.hid (H3.out trivial rfl e0)
    have e1 : (x != y) = true := by simpa using e0
    clear e0 H1 H2 H3 H4
    go_wp2
    go_ret
    exact ⟨retI HE.out.symm, HB2.out⟩
end Ne
end Go.Proofs.Ythhlfphnokdfaaa
