/-
  Contract of the developers' Add. Condition: at most a million arcs, capacities of 64 bits.
-/
import Derived.Test.YtiimomonbdckgaaFchk
import Derived.Test.YtiimomonbdckgaaAppb
import Derived.Test.YtiimomonbdckgaaAdd
namespace Go.Proofs.Ytiimomonbdckgaa
open Go.ChangeShapes Go.WideShapes Go.ChangeAt Go.RowKit
set_option linter.unusedVariables false
set_option linter.unusedSimpArgs false
namespace Ne
theorem sumL_take {f g : List Int} {k : Nat} (hk : k < f.length) : (sumL f g).take (k + 1) = (sumL f g).take k ++ [amt f k + amt g k] := by
  have h : (sumL f g)[k]? = some (amt f k + amt g k) := by simp [sumL, hk]
  rw [List.take_add_one, h]; rfl
theorem retV {v : Value} {b d : Int} (h2 : b = d) : Ending.returned (.tuple #[v, .int .i64 b]) = .returned (.tuple #[v, .int .i64 d]) := by rw [h2]
theorem two_cells (w : World) {b : Nat} (hb : b = w.heap.size) (x y : Value) (T : TypeId) : (w.alloc (.cells #[x, y] T)).cell? ⟨b, 0, none⟩ = some x ∧ (w.alloc (.cells #[x, y] T)).cell? ⟨b, 1, none⟩ = some y := by
  subst hb
  exact ⟨World.cell?_alloc_new w _ _ 0, World.cell?_alloc_new w _ _ 1⟩
theorem add_q (x y : Int) (w : World) (hx : 0 ≤ x ∧ x ≤ 4611686018427387903) (hy : 0 ≤ y ∧ y ≤ 4611686018427387903) : Calls Try.prog 28 #[.int .i64 x, .int .i64 y] w fun e w2 => e = .returned (.tuple #[.int .i64 (x + y), .int .i64 0]) ∧ w2 = w := by
  have c4 := Num.add_any x y w (by omega) (by omega) (by omega) (by omega)
  rw [Num.valV_in (by omega) (by omega), Num.valE_in (by omega) (by omega)] at c4
  exact c4.mono (by rintro e w2 ⟨rfl, rfl⟩; exact ⟨rfl, rfl⟩)
set_option maxRecDepth 100000 in
set_option maxHeartbeats 1000000 in
theorem fadd_any (n : Net) (ao : Option Addr) (cap : Nat) (fo : Option Addr) (fc : Nat) (f : List Int) (go : Option Addr) (gc : Nat) (g : List Int) (w : World) (hr : ARow w ao n.l) (hf : IRow w fo f) (hg : IRow w go g) (hl : n.l.length ≤ 1000000) (hok : ∀ a ∈ n.l, in64 a.cap) :
    Calls Try.prog 15 #[encN n ao cap, .slice fo f.length fc, .slice go g.length gc] w fun e w' => ∃ v, e = .returned (.tuple #[v, .int .i64 (addE n f g)]) ∧ OwnL w' w.heap.size v (addL n f g) ∧ Below w.heap.size w w' := by
  have CF := Lib.hid (fun w' (h1 : ARow w' ao n.l) (h2 : IRow w' fo f) => fchk_any n ao cap fo fc f w' h1 h2 hl hok)
  have CG := Lib.hid (fun w' (h1 : ARow w' ao n.l) (h2 : IRow w' go g) => fchk_any n ao cap go gc g w' h1 h2 hl hok)
  have E1 := Lib.hid (show chkF n f ≠ 0 → addE n f g = chkF n f from fun h => by unfold addE; rw [if_pos h])
  have E2 := Lib.hid (show chkF n f = 0 → chkF n g ≠ 0 → addE n f g = chkF n g from fun h h2 => by unfold addE; rw [if_neg (by simpa using h), if_pos h2])
  have E3 := Lib.hid (show chkF n f = 0 → chkF n g = 0 → (∀ i, i < n.l.length → amt f i + amt g i ≤ (arcAt n.l i).cap) → addE n f g = 0 from fun h h2 h3 => by unfold addE; rw [if_neg (by simpa using h), if_neg (by simpa using h2), if_pos h3])
  have E4 := Lib.hid (show chkF n f = 0 → chkF n g = 0 → ¬ (∀ i, i < n.l.length → amt f i + amt g i ≤ (arcAt n.l i).cap) → addE n f g = 3 from fun h h2 h3 => by unfold addE; rw [if_neg (by simpa using h), if_neg (by simpa using h2), if_neg h3])
  have F1 := Lib.hid (show addE n f g ≠ 0 → addL n f g = [] from fun h => by unfold addL; rw [if_pos h])
  have F2 := Lib.hid (show addE n f g = 0 → addL n f g = sumL f g from fun h => by unfold addL; rw [if_neg (by simpa using h)])
  have KF := Lib.hid (show chkF n f = 0 → f.length = n.l.length ∧ n.l.length ≤ 2000 ∧ ∀ i, i < n.l.length → 0 ≤ amt f i ∧ amt f i ≤ 4611686018427387903 from fun h => by
    obtain ⟨_, RT, h1, h2⟩ := chkA_ok (chkF_ok h).1; exact ⟨h1, RT.len, fun i hi => amt_bd RT h2 hi⟩)
  have KG := Lib.hid (show chkF n g = 0 → g.length = n.l.length ∧ ∀ i, i < n.l.length → 0 ≤ amt g i ∧ amt g i ≤ 4611686018427387903 from fun h => by
    obtain ⟨_, RT, h1, h2⟩ := chkA_ok (chkF_ok h).1; exact ⟨h1, fun i hi => amt_bd RT h2 hi⟩)
  generalize addE n f g = R at *
  generalize addL n f g = L at *
  generalize chkF n f = cf at *
  generalize chkF n g = cg at *
  obtain ⟨fl, hfl⟩ : ∃ x, x = f.length := ⟨_, rfl⟩
  obtain ⟨gl, hgl⟩ : ∃ x, x = g.length := ⟨_, rfl⟩
  rw [← hfl, ← hgl]
  rw [← hfl] at CF
  rw [← hgl] at CG
  have HFL := Lib.hid hfl
  have HGL := Lib.hid hgl
  clear hfl hgl
  obtain ⟨nn, ns, nt, l⟩ := n
  simp only at hr hl CF CG E3 E4 KF KG ⊢
  have HB0 := Lib.hid (((Below.refl w.heap.size w).alloc (Nat.le_refl _) (.cells #[.int .i64 nn, .int .i64 ns, .int .i64 nt, .slice ao l.length cap] 24)).alloc (by simp) (.cells #[.slice fo fl fc, .slice go gl gc] 25))
  have HN0 := Lib.hid (netBox_alloc (netBox_new w nn ns nt (.slice ao l.length cap)) (.cells #[.slice fo fl fc, .slice go gl gc] 25))
  have HQ0 := Lib.hid (two_cells (w.alloc (.cells #[.int .i64 nn, .int .i64 ns, .int .i64 nt, .slice ao l.length cap] 24)) (b := w.heap.size + 1) (by simp) (.slice fo fl fc) (.slice go gl gc) 25)
  have HS0 := Lib.hid (show w.heap.size + 2 ≤ ((w.alloc (.cells #[.int .i64 nn, .int .i64 ns, .int .i64 nt, .slice ao l.length cap] 24)).alloc (.cells #[.slice fo fl fc, .slice go gl gc] 25)).heap.size by simp)
  have HR := Lib.hid (hr.kept HB0.out)
  have HF := Lib.hid (hf.kept HB0.out)
  have HG := Lib.hid (hg.kept HB0.out)
  clear hr hf hg hok
  go_enter Try.func15, Try.ntmps15
  go_wp2
  generalize ((w.alloc (.cells #[.int .i64 nn, .int .i64 ns, .int .i64 nt, .slice ao l.length cap] 24)).alloc (.cells #[.slice fo fl fc, .slice go gl gc] 25)) = W0 at *
  go_loopw [20] (fun i wr => ∃ k : Nat, i = .int .i64 k ∧ k ≤ 2 ∧ Hid (Below w.heap.size w wr) ∧ Hid (Below W0.heap.size W0 wr) ∧ Hid (1 ≤ k → cf = 0) ∧ Hid (2 ≤ k → cg = 0)) (fun i _ => 2 - (intOf i).toNat)
  case atStart => exact ⟨0, rfl, by omega, HB0, Lib.hid (Below.refl _ _), Lib.hid (fun h => absurd h (by omega)), Lib.hid (fun h => absurd h (by omega))⟩
  case round =>
    obtain ⟨k, rfl, hk, HB, HW, H1, H2⟩ := hrel
    have HN1 := Lib.hid (netBox_below HN0.out HW.out (netBox_lt HN0.out))
    obtain ⟨n0, n1, n2, n3⟩ := netBox_cells HN1.out
    have hs0 := HS0.out
    have hs1 := HW.out.size
    by_cases k0 : k = 0
    · subst k0
      have q0 := (HW.out.cell (p := ⟨w.heap.size + 1, 0, none⟩) (show w.heap.size + 1 < W0.heap.size by omega)).trans HQ0.out.1
      by_cases p : cf = 0
      · have HP := Lib.hid p
        have p' : (cf == 0) = true := by simpa using p
        have pn : (cf != 0) = false := by simpa using p
        clear p
        go_wp2_with fail
        refine (CF.out _ (HR.out.kept HW.out) (HF.out.kept HW.out)).mono ?_
        rintro e w1 ⟨rfl, hb⟩
        have HB1 := Lib.hid (HB.out.trans (hb.mono HB.out.size))
        have HW1 := Lib.hid (HW.out.trans (hb.mono hs1))
        clear hb
        go_wp2
        go_roundw
        case rel => exact ⟨1, by go_num, by omega, HB1, HW1, Lib.hid (fun _ => HP.out), Lib.hid (fun h => absurd h (by omega))⟩
        case measure => simp [intOf]
      · have HE := Lib.hid (E1.out p)
        have HL0 := Lib.hid (F1.out (by rw [HE.out]; exact p))
        have p' : (cf == 0) = false := by simpa using p
        have pn : (cf != 0) = true := by simpa using p
        clear p
        go_wp2_with fail
        refine (CF.out _ (HR.out.kept HW.out) (HF.out.kept HW.out)).mono ?_
        rintro e w1 ⟨rfl, hb⟩
        have HB1 := Lib.hid (HB.out.trans (hb.mono HB.out.size))
        clear hb
        go_wp2
        go_ret2
        exact ⟨_, retV HE.out.symm, by rw [HL0.out]; exact Rw.own_nil _ _, HB1.out⟩
    by_cases k1 : k = 1
    · subst k1
      have q0 := (HW.out.cell (p := ⟨w.heap.size + 1, 1, none⟩) (show w.heap.size + 1 < W0.heap.size by omega)).trans HQ0.out.2
      have HC := Lib.hid (H1.out (by omega))
      by_cases p : cg = 0
      · have HP := Lib.hid p
        have p' : (cg == 0) = true := by simpa using p
        have pn : (cg != 0) = false := by simpa using p
        clear p
        go_wp2_with fail
        refine (CG.out _ (HR.out.kept HW.out) (HG.out.kept HW.out)).mono ?_
        rintro e w1 ⟨rfl, hb⟩
        have HB1 := Lib.hid (HB.out.trans (hb.mono HB.out.size))
        have HW1 := Lib.hid (HW.out.trans (hb.mono hs1))
        clear hb
        go_wp2
        go_roundw
        case rel => exact ⟨2, by go_num, by omega, HB1, HW1, Lib.hid (fun _ => HC.out), Lib.hid (fun _ => HP.out)⟩
        case measure => simp [intOf]
      · have HE := Lib.hid (E2.out HC.out p)
        have HL0 := Lib.hid (F1.out (by rw [HE.out]; exact p))
        have p' : (cg == 0) = false := by simpa using p
        have pn : (cg != 0) = true := by simpa using p
        clear p
        go_wp2_with fail
        refine (CG.out _ (HR.out.kept HW.out) (HG.out.kept HW.out)).mono ?_
        rintro e w1 ⟨rfl, hb⟩
        have HB1 := Lib.hid (HB.out.trans (hb.mono HB.out.size))
        clear hb
        go_wp2
        go_ret2
        exact ⟨_, retV HE.out.symm, by rw [HL0.out]; exact Rw.own_nil _ _, HB1.out⟩
    have hk2 : ¬ (k : Int) < 2 := by omega
    have HC := Lib.hid (H1.out (by omega))
    have HD := Lib.hid (H2.out (by omega))
    obtain ⟨hf1, hl2, hf3⟩ := KF.out HC.out
    obtain ⟨hg1, hg3⟩ := KG.out HD.out
    have HFB := Lib.hid hf3
    have HGB := Lib.hid hg3
    have HF1 := Lib.hid hf1
    have HG1 := Lib.hid hg1
    have efl : fl = l.length := by rw [HFL.out]; exact hf1
    have egl : gl = l.length := by rw [HGL.out]; exact hg1
    subst efl egl
    have HRX := Lib.hid (HR.out.kept HW.out)
    have HFX := Lib.hid (HF.out.kept HW.out)
    have HGX := Lib.hid (HG.out.kept HW.out)
    obtain ⟨WX, hWX⟩ : ∃ x, x = wr := ⟨_, rfl⟩
    have HBX := Lib.hid (show Below w.heap.size w WX from hWX ▸ HB.out)
    have HST0 := Lib.hid (show Below WX.heap.size WX wr from hWX ▸ Below.refl _ _)
    have HZ0 : Hid (w.heap.size ≤ WX.heap.size) := Lib.hid HBX.out.size
    rw [← hWX] at HRX HFX HGX
    clear hWX HB HW HN0 HN1 HQ0 HS0 HR HF HG CF CG H1 H2 hs0 hs1 k0 k1 hk hf1 hf3 hg1 hg3 E1 E2 KF KG HB0
    go_wp2
    clear n0 n1 n2 n3
    go_loopw [11, 34] (fun s i wr => ∃ (v : Value) (j : Nat), v = s ∧ i = .int .i64 j ∧ j ≤ l.length ∧ Hid (OwnL wr WX.heap.size v ((sumL f g).take j)) ∧ Hid (Below WX.heap.size WX wr) ∧ Hid (∀ i, i < j → amt f i + amt g i ≤ (arcAt l i).cap)) (fun _ i _ => l.length - (intOf i).toNat)
    case atStart => exact ⟨_, 0, rfl, rfl, Nat.zero_le _, Lib.hid (Rw.own_nil _ _), HST0, Lib.hid (fun i hi => absurd hi (by omega))⟩
    case round =>
      obtain ⟨v, j, rfl, rfl, hj, HOW, HBW, HLQ⟩ := hrel
      clear HST0
      by_cases hlt : j < l.length
      · obtain ⟨b, off, rfl, hbl, c0, c1, c2⟩ := arow_cell (HRX.out.kept HBW.out) hlt
        obtain ⟨b2, off2, rfl, hbl2, d0⟩ := irow_cell (HFX.out.kept HBW.out) (i := j) (by have := HF1.out; omega)
        obtain ⟨b3, off3, rfl, hbl3, e0⟩ := irow_cell (HGX.out.kept HBW.out) (i := j) (by have := HG1.out; omega)
        obtain ⟨x0, x1⟩ := HFB.out j hlt
        obtain ⟨y0, y1⟩ := HGB.out j hlt
        have HTK := Lib.hid (sumL_take (f := f) (g := g) (k := j) (by have := HF1.out; omega))
        have HBD := Lib.hid (show ¬ amt f j + amt g j ≤ (arcAt l j).cap → ¬ (∀ i, i < l.length → amt f i + amt g i ≤ (arcAt l i).cap) from fun h h2 => h (h2 j hlt))
        have HST := Lib.hid (show amt f j + amt g j ≤ (arcAt l j).cap → ∀ i, i < j + 1 → amt f i + amt g i ≤ (arcAt l i).cap from fun h i hi => by
          by_cases e : i = j
          · subst e; exact h
          · exact HLQ.out i (by omega))
        have HLN : ((sumL f g).take j).length ≤ 2000 := by rw [List.length_take]; omega
        generalize amt f j = x at *
        generalize amt g j = y at *
        generalize arcAt l j = a at *
        obtain ⟨fr, to, ca⟩ := a
        simp only at c0 c1 c2 HBD HST
        have hjj : (j : Int) < (l.length : Int) := by omega
        have hj0 : (0 : Int) ≤ (j : Int) := by omega
        obtain ⟨g0, g1, g2⟩ := arc_new wr rfl fr to ca
        have hsz := HBW.out.size
        have HB2 := Lib.hid (HBW.out.alloc hsz (.cells #[.int .i64 fr, .int .i64 to, .int .i64 ca] 42))
        have HO2 := Lib.hid (Rw.own_alloc HOW.out (.cells #[.int .i64 fr, .int .i64 to, .int .i64 ca] 42))
        have d1 := held_alloc (o := .cells #[.int .i64 fr, .int .i64 to, .int .i64 ca] 42) d0
        have e1 := held_alloc (o := .cells #[.int .i64 fr, .int .i64 to, .int .i64 ca] 42) e0
        have hZ2 : WX.heap.size ≤ (wr.alloc (.cells #[.int .i64 fr, .int .i64 to, .int .i64 ca] 42)).heap.size := by simp; omega
        have C4 := Lib.hid (fun w' => add_q x y w' (by omega) (by omega))
        by_cases p : x + y ≤ ca
        · have p' : decide (ca < x + y) = false := by simp; omega
          have HS2 := Lib.hid (HST.out p)
          go_wp2
          clear d0 e0 c0 c1 c2
          generalize (wr.alloc (.cells #[.int .i64 fr, .int .i64 to, .int .i64 ca] 42)) = W2 at *
          go_quiet ((go_at_call 28; exact Calls.quiet_of_same (C4.out _)))
          have HO3 := Lib.hid (Rw.own_alloc (Rw.own_drewN HO2.out nq) (.cells #[.int .i64 (x + y)] 2))
          have HR3 := Lib.hid (irow_one' (W2.drewN nq) rfl (x + y) 2)
          have HLN3 := Lib.hid (show ((sumL f g).take j).length + ([x + y] : List Int).length ≤ 1099511627776 by simp; omega)
          have HB3 := Lib.hid (show Below WX.heap.size WX ((W2.drewN nq).alloc (.cells #[.int .i64 (x + y)] 2)) from (below_dn HB2.out nq).alloc hZ2 _)
          have hvb := Rw.own_block HO2.out
          go_wp2_with (at_builtin; refine Rw.app elemL encI_len encI_one rfl (.tmp 59) (.tmp 61) rfl WX.heap.size _ ((sumL f g).take j) rfl HO3.out (some ⟨W2.heap.size, 0, none⟩) 1 [x + y] rfl ?hnn HR3.out HLN3.out ?hB ?_; (case hnn => (intro h; cases h)); (case hB => (simp; omega)); intro v4 w4 hown4 hgr4; rw [← HTK.out] at hown4; have HB4 := Lib.hid (HB3.out.grown hgr4 (by simp; omega) hvb); have HO4 := Lib.hid hown4; clear hown4 hgr4)
          go_roundw
          case rel => exact ⟨_, j + 1, rfl, by go_num, by omega, HO4, HB4, HS2⟩
          case measure => simp [intOf]; omega
        · have p' : decide (ca < x + y) = true := by simp; omega
          have HE := Lib.hid (E4.out HC.out HD.out (HBD.out p))
          have HL0 := Lib.hid (F1.out (by rw [HE.out]; decide))
          go_wp2
          clear d0 e0 c0 c1 c2
          generalize (wr.alloc (.cells #[.int .i64 fr, .int .i64 to, .int .i64 ca] 42)) = W2 at *
          go_quiet ((go_at_call 28; exact Calls.quiet_of_same (C4.out _)))
          have HB3 := Lib.hid (HBX.out.trans ((below_dn HB2.out nq).mono HZ0.out))
          go_wp2
          go_ret2
          exact ⟨_, retV HE.out.symm, by rw [HL0.out]; exact Rw.own_nil _ _, HB3.out⟩
      · have ej : j = l.length := by omega
        subst ej
        have HE := Lib.hid (E3.out HC.out HD.out HLQ.out)
        have HL0 := Lib.hid (F2.out HE.out)
        have HTE := Lib.hid (show (sumL f g).take l.length = sumL f g from List.take_of_length_le (by rw [sumL_len]; exact Nat.le_of_eq HF1.out))
        rw [HTE.out] at HOW
        have HBE := Lib.hid (HBX.out.trans (HBW.out.mono HZ0.out))
        have HOE := Lib.hid (Rw.own_base HOW.out (B' := w.heap.size) HZ0.out)
        clear hlt hj
        go_wp2
        go_ret2
        exact ⟨_, retV HE.out.symm, by rw [HL0.out]; exact HOE.out, HBE.out⟩
end Ne
end Go.Proofs.Ytiimomonbdckgaa
