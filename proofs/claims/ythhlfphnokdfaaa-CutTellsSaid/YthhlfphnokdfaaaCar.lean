/-
  Contracts of the developers' Arcs and Capacity. Condition: at most a million arcs.
-/
import Derived.Test.YthhlfphnokdfaaaMct
namespace Go.Proofs.Ythhlfphnokdfaaa
open Go.ChangeShapes Go.WideShapes Go.ChangeAt Go.RowKit
set_option linter.unusedVariables false
set_option linter.unusedSimpArgs false
namespace Ne
theorem arcbox_new (w : World) (fr tu ca : Int) : (w.alloc (.cells #[.int .i64 fr, .int .i64 tu, .int .i64 ca] 43)).heap[w.heap.size]? = some (.cells #[.int .i64 fr, .int .i64 tu, .int .i64 ca] 43 (0, 0)) := by
  show (w.heap.push _)[w.heap.size]? = _; simp
theorem arcbox_cells {w w2 : World} {b : Nat} {fr tu ca : Int} (h : w.heap[b]? = some (.cells #[.int .i64 fr, .int .i64 tu, .int .i64 ca] 43 (0, 0))) (hb : Below w.heap.size w w2) :
    w2.cell? ⟨b, 0, none⟩ = some (.int .i64 fr) ∧ w2.cell? ⟨b, 1, none⟩ = some (.int .i64 tu) ∧ w2.cell? ⟨b, 2, none⟩ = some (.int .i64 ca) := by
  have h2 := hb.block b (Rw.lt_of_heap h)
  rw [h] at h2
  simp [World.cell?, h2]
set_option maxRecDepth 100000 in
set_option maxHeartbeats 4000000 in
theorem arcs_any (n : Net) (ao : Option Addr) (cap : Nat) (so : Option Addr) (sc : Nat) (S : List Int) (w : World) (hr : ARow w ao n.l) (hs : IRow w so S) (hl : n.l.length ≤ 1000000) (hok : ∀ a ∈ n.l, in64 a.cap) :
    Calls Try.prog 10 #[encN n ao cap, .slice so S.length sc] w fun e w' => ∃ o c, e = .returned (.tuple #[.slice o (arcsV n S).length c, .int .i64 (cutE n S)]) ∧ OwnI w' w.heap.size (.slice o (arcsV n S).length c) (arcsV n S) ∧ Below w.heap.size w w' := by
  have MC := Lib.hid (fun w' h1 h2 => mark_any n ao cap so sc S w' h1 h2 hl hok)
  have HB0 := Lib.hid ((Below.refl w.heap.size w).alloc (Nat.le_refl _) (.cells #[.int .i64 n.n, .int .i64 n.s, .int .i64 n.t, .slice ao n.l.length cap] 24))
  have HN0 := Lib.hid (netBox_new w n.n n.s n.t (.slice ao n.l.length cap))
  have HR := Lib.hid (hr.kept HB0.out)
  have HS := Lib.hid (hs.kept HB0.out)
  clear hs
  by_cases c0 : cutE n S = 0
  case neg =>
    have HV := Lib.hid (arcsV_bad c0)
    have HBAD := Lib.hid (show ∀ B w' v, Marked n S B w' v → v = .map none from fun B w' v h => h.bad c0)
    generalize arcsV n S = V at *
    generalize hMK : Marked n S = MK at *
    clear hMK
    generalize cutE n S = ce at *
    obtain ⟨nn, ns, nt, l⟩ := n
    simp only at hr MC HB0 HR HN0 HS ⊢
    have c1' : (ce == 0) = false := by simpa using c0
    have c1n : (ce != 0) = true := by simpa using c0
    obtain ⟨n0, n1, n2, n3⟩ := netBox_cells HN0.out
    clear hr c0 hok
    go_enter Try.func10, Try.ntmps10
    go_wp2_with fail
    refine (MC.out _ HR.out HS.out).mono ?_
    rintro e w1 ⟨v, rfl, hm, hb⟩
    obtain rfl := HBAD.out _ _ _ hm
    have HB1 := Lib.hid (HB0.out.trans (hb.mono HB0.out.size))
    clear hb hm
    go_wp2
    go_ret2
    exact ⟨none, 0, by rw [HV.out]; rfl, by rw [HV.out]; exact Rw.own_nil _ _, HB1.out⟩
  obtain ⟨ck, -, -, -⟩ := cutE_ok c0
  have hR := right_of ck
  have HV := Lib.hid (arcsV_ok c0)
  have HGOOD := Lib.hid (show ∀ B w' v, Marked n S B w' v → ∃ b k, v = .map (some b) ∧ B ≤ b ∧ MkBox w' b k fun x => hasL S (x : Int) from fun B w' v h => h.good c0)
  rw [c0] at MC ⊢
  rw [HV.out]
  have HEND := Lib.hid (fun (j : Nat) (h : j < n.l.length) => show (1 ≤ (arcAt n.l j).fr ∧ (arcAt n.l j).fr ≤ 500) ∧ 1 ≤ (arcAt n.l j).to ∧ (arcAt n.l j).to ≤ 500 by
    have h1 := hR.fr0 j h; have h2 := hR.fr1 j h; have h3 := hR.to0 j h; have h4 := hR.to1 j h; have := hR.n1; omega)
  clear HV c0 ck hR
  generalize hMK : Marked n S = MK at *
  clear hMK
  have HOL := Lib.hid (over_len n.l S)
  have HO0 := Lib.hid (show overTo n.l S 0 = [] from rfl)
  have HOS := Lib.hid (show ∀ j, overTo n.l S (j + 1) = overTo n.l S j ++ if hasL S (arcAt n.l j).fr = true ∧ hasL S (arcAt n.l j).to = false then [(j : Int)] else [] from fun _ => rfl)
  generalize overTo n.l S = OV at *
  obtain ⟨nn, ns, nt, l⟩ := n
  simp only at hr MC HB0 HR HN0 HS HEND HOL HOS hl ⊢
  have HR0 := Lib.hid hr
  clear hr hok
  obtain ⟨n0, n1, n2, n3⟩ := netBox_cells HN0.out
  go_enter Try.func10, Try.ntmps10
  go_wp2_with fail
  refine (MC.out _ HR.out HS.out).mono ?_
  rintro e w1 ⟨v, rfl, hm, hb⟩
  obtain ⟨b, k, rfl, hbb, hmk⟩ := HGOOD.out _ _ _ hm
  have HB1 := Lib.hid (HB0.out.trans (hb.mono HB0.out.size))
  have HM1 := Lib.hid hmk
  have HN1 := Lib.hid (netBox_below HN0.out hb (netBox_lt HN0.out))
  clear hb hm hmk n0 n1 n2 n3 MC HN0 HR
  obtain ⟨n0, n1, n2, n3⟩ := netBox_cells HN1.out
  go_wp2
  clear n0 n1 n2 n3
  go_loopw [8, 23] (fun y i wr => ∃ j : Nat, i = .int .i64 j ∧ j ≤ l.length ∧ Hid (OwnI wr w.heap.size y (OV j)) ∧ Hid (MkBox wr b k fun x => hasL S (x : Int)) ∧ Hid (Below w.heap.size w wr)) (fun _ i _ => l.length - (intOf i).toNat)
  case atStart => exact ⟨0, rfl, Nat.zero_le _, Lib.hid (by rw [HO0.out]; exact Rw.own_nil _ _), HM1, HB1⟩
  case round =>
    obtain ⟨j, rfl, hj, HO, HMW, HBW⟩ := hrel
    by_cases hlt : j < l.length
    · obtain ⟨b9, off, rfl, hb9, c0, c1, c2⟩ := arow_cell (HR0.out.kept HBW.out) hlt
      obtain ⟨⟨f0, f1⟩, t0, t1⟩ := HEND.out j hlt
      have HSJ := Lib.hid (HOS.out j)
      obtain ⟨u, hu⟩ : ∃ u : Nat, (arcAt l j).fr = (u : Int) := ⟨(arcAt l j).fr.toNat, by omega⟩
      obtain ⟨v, hv⟩ : ∃ v : Nat, (arcAt l j).to = (v : Int) := ⟨(arcAt l j).to.toNat, by omega⟩
      rw [hu] at c0 HSJ f0 f1
      rw [hv] at c1 HSJ t0 t1
      clear hu hv
      generalize (arcAt l j).cap = ca at *
      have hji : (j : Int) < (l.length : Int) := by omega
      have hj0 : (0 : Int) ≤ (j : Int) := by omega
      have HB2 := Lib.hid (HBW.out.alloc HBW.out.size (.cells #[.int .i64 (u : Int), .int .i64 (v : Int), .int .i64 ca] 43))
      have HM2 := Lib.hid (HMW.out.alloc (.cells #[.int .i64 (u : Int), .int .i64 (v : Int), .int .i64 ca] 43))
      have HO2 := Lib.hid (Rw.own_alloc HO.out (.cells #[.int .i64 (u : Int), .int .i64 (v : Int), .int .i64 ca] 43))
      have HH1 := Lib.hid (has_any _ b k (fun x => hasL S (x : Int)) u HM2.out (by omega))
      have HAB := Lib.hid (arcbox_new wr (u : Int) (v : Int) ca)
      cases hfr : hasL S (u : Int)
      · rw [hfr] at HH1
        have HSE := Lib.hid (show OV (j + 1) = OV j by rw [HSJ.out, if_neg (by simp [hfr]), List.append_nil])
        clear hfr HOS HSJ HEND
        go_wp2_with fail
        refine HH1.out.mono ?_
        rintro e w5 ⟨rfl, hb⟩
        have HB5 := Lib.hid (HB2.out.trans (hb.mono HB2.out.size))
        have HM5 := Lib.hid (HM2.out.below hb)
        have HO5 := Lib.hid (Rw.own_below HO2.out hb)
        clear hb c0 c1 c2
        go_wp2
        go_roundw
        case rel => exact ⟨j + 1, by go_num, by omega, Lib.hid (by rw [HSE.out]; exact HO5.out), HM5, HB5⟩
        case measure => simp [intOf]; omega
      · rw [hfr] at HH1
        go_wp2_with fail
        refine HH1.out.mono ?_
        rintro e w5 ⟨rfl, hb⟩
        have HB5 := Lib.hid (HB2.out.trans (hb.mono HB2.out.size))
        have HM5 := Lib.hid (HM2.out.below hb)
        have HO5 := Lib.hid (Rw.own_below HO2.out hb)
        obtain ⟨a0, a1, a2⟩ := arcbox_cells HAB.out hb
        have HH2 := Lib.hid (has_any _ b k (fun x => hasL S (x : Int)) v HM5.out (by omega))
        clear hb c0 c1 c2
        cases hto : hasL S (v : Int)
        · rw [hto] at HH2
          have HSE := Lib.hid (show OV (j + 1) = OV j ++ [(j : Int)] by rw [HSJ.out, if_pos ⟨hfr, hto⟩])
          clear hfr hto HOS HSJ HEND
          go_wp2_with fail
          refine HH2.out.mono ?_
          rintro e w6 ⟨rfl, hb⟩
          have HB6 := Lib.hid (HB5.out.trans (hb.mono HB5.out.size))
          have HM6 := Lib.hid (HM5.out.below hb)
          have HO6 := Lib.hid (Rw.own_alloc (Rw.own_below HO5.out hb) (.cells #[.int .i64 (j : Int)] 3))
          have HR6 := Lib.hid (irow_one' w6 rfl (j : Int) 3)
          have HB7 := Lib.hid (HB6.out.alloc HB6.out.size (.cells #[.int .i64 (j : Int)] 3))
          have HM7 := Lib.hid (HM6.out.alloc (.cells #[.int .i64 (j : Int)] 3))
          have HLN := Lib.hid (show (OV j).length + [(j : Int)].length ≤ 1099511627776 by have := HOL.out j; simp; omega)
          have HMB := Lib.hid (ownI_map HO6.out HM7.out)
          clear hb a0 a1 a2
          go_wp2_with (at_builtin; refine Rw.app elemI encI_len encI_one rfl (.tmp 39) (.tmp 41) rfl w.heap.size _ (OV j) rfl HO6.out (some ⟨w6.heap.size, 0, none⟩) 1 [(j : Int)] rfl ?hnn HR6.out HLN.out ?hB ?_; (case hnn => (intro h; cases h)); (case hB => (exact HB7.out.size)); intro v8 w8 hown8 hgr8; rw [← HSE.out] at hown8; have HO8 := Lib.hid hown8; have HB8 := Lib.hid (HB7.out.grown hgr8 HB7.out.size (Rw.own_block HO6.out)); have HM8 := Lib.hid (HM7.out.kept hgr8 HMB.out); clear hown8 hgr8)
          go_roundw
          case rel => exact ⟨j + 1, by go_num, by omega, HO8, HM8, HB8⟩
          case measure => simp [intOf]; omega
        · rw [hto] at HH2
          have HSE := Lib.hid (show OV (j + 1) = OV j by rw [HSJ.out, if_neg (by simp [hto]), List.append_nil])
          clear hfr hto HOS HSJ HEND
          go_wp2_with fail
          refine HH2.out.mono ?_
          rintro e w6 ⟨rfl, hb⟩
          have HB6 := Lib.hid (HB5.out.trans (hb.mono HB5.out.size))
          have HM6 := Lib.hid (HM5.out.below hb)
          have HO6 := Lib.hid (Rw.own_below HO5.out hb)
          clear hb a0 a1 a2
          go_wp2
          go_roundw
          case rel => exact ⟨j + 1, by go_num, by omega, Lib.hid (by rw [HSE.out]; exact HO6.out), HM6, HB6⟩
          case measure => simp [intOf]; omega
    · have ej : j = l.length := by omega
      subst ej
      obtain ⟨o, c, hv, -⟩ := Rw.own_row encI_len HO.out
      subst hv
      clear hlt hj
      go_wp2
      go_ret2
      exact ⟨o, c, rfl, HO.out, HBW.out⟩
set_option maxRecDepth 100000 in
set_option maxHeartbeats 4000000 in
theorem capacity_any (n : Net) (ao : Option Addr) (cap : Nat) (so : Option Addr) (sc : Nat) (S : List Int) (w : World) (hr : ARow w ao n.l) (hs : IRow w so S) (hl : n.l.length ≤ 1000000) (hok : ∀ a ∈ n.l, in64 a.cap) :
    Calls Try.prog 8 #[encN n ao cap, .slice so S.length sc] w fun e w' => e = .returned (.tuple #[.int .i64 (capV n S), .int .i64 (cutE n S)]) ∧ Below w.heap.size w w' := by
  have AC := Lib.hid (fun w' h1 h2 => arcs_any n ao cap so sc S w' h1 h2 hl hok)
  have HB0 := Lib.hid ((Below.refl w.heap.size w).alloc (Nat.le_refl _) (.cells #[.int .i64 n.n, .int .i64 n.s, .int .i64 n.t, .slice ao n.l.length cap] 24))
  have HN0 := Lib.hid (netBox_new w n.n n.s n.t (.slice ao n.l.length cap))
  have HR := Lib.hid (hr.kept HB0.out)
  have HS := Lib.hid (hs.kept HB0.out)
  have HVM := Lib.hid (fun (k : Nat) (h : k < (arcsV n S).length) => show ∃ r : Nat, amt (arcsV n S) k = (r : Int) ∧ r < n.l.length by
    have hm : amt (arcsV n S) k ∈ arcsV n S := by rw [show amt (arcsV n S) k = (arcsV n S)[k] by simp [amt, h]]; exact List.getElem_mem h
    have := arcsV_mem hm
    exact ⟨(amt (arcsV n S) k).toNat, by omega, by omega⟩)
  have HVL := Lib.hid (show (arcsV n S).length ≤ 1000000 by have := arcsV_len n S; omega)
  have HSU := Lib.hid (fun (k : Nat) (h : k < (arcsV n S).length) => sumV_succ (l := n.l) h)
  have HSB := Lib.hid (fun (k : Nat) => sumV_bd n S k)
  have HS0 := Lib.hid (sumV_zero n.l (arcsV n S))
  have HSE := Lib.hid (capV_sum n S)
  clear hs hr hok
  generalize capV n S = cv at *
  generalize hSM : sumV n.l (arcsV n S) = SM at *
  clear hSM
  generalize arcsV n S = V at *
  generalize cutE n S = ce at *
  obtain ⟨nn, ns, nt, l⟩ := n
  simp only at AC HB0 HR HN0 HS HVM HSU hl ⊢
  obtain ⟨n0, n1, n2, n3⟩ := netBox_cells HN0.out
  go_enter Try.func8, Try.ntmps8
  go_wp2_with fail
  refine (AC.out _ HR.out HS.out).mono ?_
  rintro e w1 ⟨o, c, rfl, ho, hb⟩
  have HB1 := Lib.hid (HB0.out.trans (hb.mono HB0.out.size))
  have HN1 := Lib.hid (netBox_below HN0.out hb (netBox_lt HN0.out))
  have HR1 := Lib.hid (HR.out.kept hb)
  have HO1 := Lib.hid (own_irow ho)
  clear hb ho n0 n1 n2 n3 AC HN0 HR HB0
  obtain ⟨n0, n1, n2, n3⟩ := netBox_cells HN1.out
  go_wp2
  go_loop [8, 19] (fun y i => ∃ k : Nat, i = .int .i64 k ∧ k ≤ V.length ∧ y = .int .i64 (SM k)) (fun _ i => V.length - (intOf i).toNat)
  case atStart => exact ⟨0, rfl, Nat.zero_le _, by rw [HS0.out]⟩
  case round =>
    obtain ⟨k, rfl, hk, rfl⟩ := hrel
    have hvl := HVL.out
    by_cases hlt : k < V.length
    · obtain ⟨b8, off8, rfl, hb8, d0⟩ := irow_cell HO1.out hlt
      obtain ⟨r, hr, hrl⟩ := HVM.out k hlt
      obtain ⟨b9, off9, rfl, hb9, c0, c1, c2⟩ := arow_cell HR1.out hrl
      have HSK := Lib.hid (HSU.out k hlt)
      rw [hr] at d0 HSK
      rw [Int.toNat_natCast] at HSK
      obtain ⟨s0, s1⟩ := HSB.out k
      obtain ⟨t0, t1⟩ := HSB.out (k + 1)
      rw [HSK.out] at t0 t1
      clear hr c0 c1
      generalize (arcAt l r).cap = ca at *
      generalize hsm : SM k = sm at *
      have HSM := Lib.hid hsm
      clear hsm
      have hki : (k : Int) < (V.length : Int) := by omega
      have hk0 : (0 : Int) ≤ (k : Int) := by omega
      have hri : (r : Int) < (l.length : Int) := by omega
      have hr0 : (0 : Int) ≤ (r : Int) := by omega
      have hw : IntKind.i64.wrap (sm + ca) = sm + ca := by rw [IntKind.wrap_i64]; omega
      go_wp2
      go_round
      case rel => exact ⟨k + 1, by go_num, by omega, by rw [HSK.out]⟩
      case measure => simp [intOf]; omega
    · have ek : k = V.length := by omega
      subst ek
      rw [HSE.out]
      clear hlt hk
      go_wp2
      go_ret2
      exact ⟨rfl, HB1.out⟩
end Ne
end Go.Proofs.Ythhlfphnokdfaaa
