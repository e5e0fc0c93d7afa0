/-
  Contracts of the document's own reader of DIMACS lines (line), and of its Parse. Condition: a text of at most a million bytes.
-/
import Derived.Test.YtaepoddmonijkaaDoorRrd2
import Derived.Test.YtaepoddmonijkaaDoorRarc
namespace Go.Proofs.YtaepoddmonijkaaDoor
open Go.ChangeShapes Go.WideShapes Go.ChangeAt Go.RowKit
set_option linter.unusedVariables false
set_option linter.unusedSimpArgs false
namespace Dm

theorem fitsL_head {p : List UInt8} {P ws : List (List UInt8)} (h : fitsL (p :: P) ws = true) (hp : p ≠ []) : ws[0]? = some p := by
  rcases ws with _ | ⟨x, X⟩
  · simp [fitsL] at h
  · simp [fitsL, hp] at h; simp [h.1]
theorem fitsL_not {p h : List UInt8} {P ws : List (List UInt8)} (hp : p ≠ []) (h0 : ws[0]? = some h) (hne : h ≠ p) : fitsL (p :: P) ws = false := by
  rcases hf : fitsL (p :: P) ws with _ | _
  · rfl
  · exact absurd (Option.some.inj (h0.symm.trans (fitsL_head hf hp))) hne
theorem says_head {ws : List (List UInt8)} {h : List UInt8} (h0 : ws[0]? = some h) (hc : h ≠ [99]) : says ws = true := by
  have : ws ≠ [] := by intro e; rw [e] at h0; simp at h0
  simp [says, this, h0, hc]
theorem stepW_p {st : St} {ws : List (List UInt8)} (h0 : ws[0]? = some [112]) : stepW st ws = stepP st ws := by
  have e1 : fitsL (pat 1) ws = false := fitsL_not (by decide) h0 (by decide)
  have e2 : fitsL (pat 2) ws = false := fitsL_not (by decide) h0 (by decide)
  have e3 : fitsL (pat 3) ws = false := fitsL_not (by decide) h0 (by decide)
  unfold stepW stepP
  rw [if_neg (by simp [says_head h0 (by decide)]), e1, e2, e3]
  simp
theorem stepW_n {st : St} {ws : List (List UInt8)} (h0 : ws[0]? = some [110]) : stepW st ws = stepN st ws := by
  have e1 : fitsL (pat 0) ws = false := fitsL_not (by decide) h0 (by decide)
  have e3 : fitsL (pat 3) ws = false := fitsL_not (by decide) h0 (by decide)
  unfold stepW stepN
  rw [if_neg (by simp [says_head h0 (by decide)]), e1, e3]
  simp
theorem stepW_a {st : St} {ws : List (List UInt8)} (h0 : ws[0]? = some [97]) : stepW st ws = stepA st ws := by
  have e0 : fitsL (pat 0) ws = false := fitsL_not (by decide) h0 (by decide)
  have e1 : fitsL (pat 1) ws = false := fitsL_not (by decide) h0 (by decide)
  have e2 : fitsL (pat 2) ws = false := fitsL_not (by decide) h0 (by decide)
  unfold stepW stepA
  rw [if_neg (by simp [says_head h0 (by decide)]), e0, e1, e2]
  simp
theorem stepW_o {st : St} {ws : List (List UInt8)} {h : List UInt8} (h0 : ws[0]? = some h) (h1 : h ≠ [99]) (h2 : h ≠ [112]) (h3 : h ≠ [110]) (h4 : h ≠ [97]) : stepW st ws = (2, st) :=
  stepW_none (says_head h0 h1) fun j hj => by
    match j, hj with
    | 0, _ => exact fitsL_not (by decide) h0 h2
    | 1, _ => exact fitsL_not (by decide) h0 h3
    | 2, _ => exact fitsL_not (by decide) h0 h3
    | 3, _ => exact fitsL_not (by decide) h0 h4
theorem afterR_trans {w w2 w' : World} {B b : Nat} {r : Int × St} {e : Ending} (h : AfterR w2 B b r e w') (hb : But B b w w2) : AfterR w B b r e w' := ⟨h.1, h.2.1, hb.trans h.2.2⟩

set_option maxHeartbeats 4000000 in
theorem rline_any (B b : Nat) (st : St) (w : World) (h : RfIs w B b st) (hok : st.ok) (hB : B ≤ w.heap.size) (ao : Option Addr) (cap : Nat) (ws : List (List UInt8)) (hr : Txt.SRow w ao ws) (hcap : ws.length ≤ cap) (h2 : ∀ x ∈ ws, x.length ≤ 1000000) (hl2 : ws.length ≤ 2000000) :
    Calls Tryd.prog 26 #[.pointer (some ⟨b, 0, none⟩), .slice ao ws.length cap] w (AfterR w B b (stepW st ws)) := by
  have HR := Lib.hid h
  have HS := Lib.hid hr
  have HOK := Lib.hid hok
  have HZ := Lib.hid h2
  clear h hok h2
  by_cases he : ws = []
  · have HE := Lib.hid (stepW_quiet (st := st) (ws := ws) (by simp [says, he]))
    subst he
    show Calls _ _ #[_, .slice _ 0 cap] w _
    clear hr
    go_enter Tryd.func26, Tryd.ntmps26
    go_wp2
    go_ret
    exact afterR_ok HE.out rfl HR.out (But.refl _ _ _)
  have hl0 : 0 < ws.length := by rcases ws with _ | ⟨y, r⟩; exact absurd rfl he; simp
  obtain ⟨y, hy⟩ : ∃ y, ws[0]? = some y := ⟨_, List.getElem?_eq_getElem hl0⟩
  have hl1 : ((ws.length : Int) == 0) = false := by simp; omega
  rcases hr with h | ⟨g0, off0, rfl, hg0, hc⟩
  · exact absurd h he
  have c0 : w.cell? ⟨g0, off0, none⟩ = some (.string ⟨y.toArray⟩) := hc 0 _ hy
  have HY := Lib.hid hy
  clear hc hy he
  by_cases q1 : y = [99]
  · have HE := Lib.hid (stepW_quiet (st := st) (ws := ws) (by simp [says, HY.out, q1]))
    subst q1
    go_enter Tryd.func26, Tryd.ntmps26
    go_wp2
    go_ret
    exact afterR_ok HE.out rfl HR.out (But.refl _ _ _)
  by_cases q2 : y = [112]
  · subst q2
    have HE := Lib.hid (stepW_p (st := st) HY.out)
    have HC := Lib.hid (rproblem_any B b st w HR.out HOK.out hB _ cap ws HS.out hcap HY.out HZ.out hl2)
    clear q1
    go_enter Tryd.func26, Tryd.ntmps26
    go_wp2_with fail
    refine HC.out.mono ?_
    rintro e w2 ⟨rfl, h3, h4⟩
    have H3 := Lib.hid h3
    have H4 := Lib.hid h4
    clear h3 h4
    go_wp2
    go_ret
    rw [HE.out]
    exact ⟨rfl, H3.out, H4.out⟩
  by_cases q3 : y = [110]
  · subst q3
    have HE := Lib.hid (stepW_n (st := st) HY.out)
    have HC := Lib.hid (rend_any B b st w HR.out HOK.out hB _ cap ws HS.out hcap HY.out HZ.out hl2)
    clear q1 q2
    go_enter Tryd.func26, Tryd.ntmps26
    go_wp2_with fail
    refine HC.out.mono ?_
    rintro e w2 ⟨rfl, h3, h4⟩
    have H3 := Lib.hid h3
    have H4 := Lib.hid h4
    clear h3 h4
    go_wp2
    go_ret
    rw [HE.out]
    exact ⟨rfl, H3.out, H4.out⟩
  by_cases q4 : y = [97]
  · subst q4
    have HE := Lib.hid (stepW_a (st := st) HY.out)
    have HC := Lib.hid (rarc_any B b st w HR.out HOK.out hB _ cap ws HS.out hcap HY.out HZ.out hl2)
    clear q1 q2 q3
    go_enter Tryd.func26, Tryd.ntmps26
    go_wp2_with fail
    refine HC.out.mono ?_
    rintro e w2 ⟨rfl, h3, h4⟩
    have H3 := Lib.hid h3
    have H4 := Lib.hid h4
    clear h3 h4
    go_wp2
    go_ret
    rw [HE.out]
    exact ⟨rfl, H3.out, H4.out⟩
  have HE := Lib.hid (stepW_o (st := st) HY.out q1 q2 q3 q4)
  have n1 : (y == [99]) = false := by simpa using q1
  have n2 : (y == [112]) = false := by simpa using q2
  have n3 : (y == [110]) = false := by simpa using q3
  have n4 : (y == [97]) = false := by simpa using q4
  clear q1 q2 q3 q4
  go_enter Tryd.func26, Tryd.ntmps26
  go_wp2
  go_ret
  exact afterR_err HE.out (by decide) rfl (But.refl _ _ _)

set_option maxRecDepth 100000 in
set_option maxHeartbeats 8000000 in
theorem rparse_any (s : ByteArray) (w : World) (hs : s.size ≤ 1000000) :
    Calls Tryd.prog 13 #[.string s] w (Parsed s.data.toList w) := by
  have HBA := Lib.hid (((Below.refl w.heap.size w).alloc (Nat.le_refl _) (.cells #[.int .i64 0, .int .i64 0, .int .i64 0, .slice none 0 0] 25)).alloc (by simp) (.cells #[.int .i64 0, .int .i64 0, .int .i64 0, .slice none 0 0, .int .i64 (-1), .int .i64 4611686018427387903] 56))
  have HNB := Lib.hid (Ne.netBox_alloc (Ne.netBox_new w 0 0 0 (.slice none 0 0)) (.cells #[.int .i64 0, .int .i64 0, .int .i64 0, .slice none 0 0, .int .i64 (-1), .int .i64 4611686018427387903] 56))
  have HBX := Lib.hid (box6_at 56 (w.alloc (.cells #[.int .i64 0, .int .i64 0, .int .i64 0, .slice none 0 0] 25)) (b := w.heap.size + 1) (by simp) 0 0 0 (-1) 4611686018427387903 (.slice none 0 0))
  have HL := Lib.hid (Txt.rlines_any s ((w.alloc (.cells #[.int .i64 0, .int .i64 0, .int .i64 0, .slice none 0 0] 25)).alloc (.cells #[.int .i64 0, .int .i64 0, .int .i64 0, .slice none 0 0, .int .i64 (-1), .int .i64 4611686018427387903] 56)) hs)
  have hle := lin_elem s.data.toList []
  have hll := Txt.lin_len s.data.toList []
  have HSZ := Lib.hid (show s.data.toList.length ≤ 1000000 by rw [← Lib.size_eq]; exact hs)
  obtain ⟨L, hL⟩ : ∃ L, L = Txt.lin [] s.data.toList := ⟨_, rfl⟩
  rw [← hL] at HL hle hll
  have HLD := Lib.hid (show res s.data.toList = runL 0 st0 L by unfold res; rw [hL])
  have HLE := Lib.hid (show ∀ y ∈ L, y.length ≤ 1000000 from fun y hy => by have h1 := hle y hy; have h2 := HSZ.out; simp at h1; simp at h2; omega)
  have HLL := Lib.hid (show L.length ≤ 1000001 by have h2 := HSZ.out; omega)
  clear hL hle hll
  go_enter Tryd.func13, Tryd.ntmps13
  go_wp2_with fail
  refine HL.out.mono ?_
  rintro e w2 ⟨vl, rfl, hown, hb⟩
  obtain ⟨ao, cap, rfl, _, _, hr⟩ := Txt.ownS_row hown
  have HB2 := Lib.hid (HBA.out.trans (hb.mono HBA.out.size))
  have HN2 := Lib.hid (Ne.netBox_below HNB.out hb (Ne.netBox_lt HNB.out))
  have HX2 := Lib.hid (box6_below HBX.out hb (box6_lt HBX.out))
  have HR2 := Lib.hid hr
  have hz2 : w.heap.size + 1 < w2.heap.size := box6_lt HX2.out
  clear hr hb HBA HNB HBX HL hown
  go_wp2
  go_loopw [7] (fun i wr => ∃ (k : Nat) (st : St), k ≤ L.length ∧ i = .int .i64 k ∧ RfIs wr w2.heap.size (w.heap.size + 1) st ∧ st.ok ∧ But w2.heap.size (w.heap.size + 1) w2 wr ∧ runL 0 st0 L = runL k st (L.drop k)) (fun i _ => L.length - (intOf i).toNat)
  case atStart => exact ⟨0, st0, Nat.zero_le _, rfl, ⟨_, HX2.out, Rw.own_nil _ _⟩, st0_ok, But.refl _ _ _, rfl⟩
  case round =>
    obtain ⟨k, st, hk, rfl, hrd, hok, hbut, hrun⟩ := hrel
    have hLl := HLL.out
    have HRD := Lib.hid hrd
    have HOK := Lib.hid hok
    have HBT := Lib.hid hbut
    have HBW := Lib.hid (HB2.out.trans (hbut.below (B0 := w.heap.size) (by omega) (by omega)))
    have HNR := Lib.hid (show Ne.NetBox wr w.heap.size 0 0 0 (.slice none 0 0) by unfold Ne.NetBox; rw [hbut.block _ (by omega) (by omega)]; exact HN2.out)
    have hzr : w2.heap.size ≤ wr.heap.size := hbut.size
    clear hrd hok
    by_cases hlt : k < L.length
    · obtain ⟨x, g1⟩ : ∃ x, L[k]? = some x := ⟨_, List.getElem?_eq_getElem hlt⟩
      have HST := Lib.hid (hrun.trans (runL_drop g1))
      have hxl := HLE.out x (List.mem_of_getElem? g1)
      rcases HR2.out with h | ⟨g, off, rfl, hg, hc⟩
      · rw [h] at hlt; simp at hlt
      have hgb : g ≠ w.heap.size + 1 := by intro h; subst h; exact box6_nostr HX2.out (hc 0 _ (List.getElem?_eq_getElem (by omega : 0 < L.length)))
      have c0 : wr.cell? ⟨g, off + k, none⟩ = some (.string ⟨x.toArray⟩) := (World.cell?_of_block (w := w2) (hbut.block g hg hgb)).trans (hc k _ g1)
      have hwd := Txt.rwords_any ⟨x.toArray⟩ wr (by simpa [ByteArray.size] using hxl)
      rw [show (⟨x.toArray⟩ : ByteArray).data.toList = x from by simp] at hwd
      have hwl := Txt.wrd_len x []
      have hwe := wrd_elem x []
      obtain ⟨ws, hws⟩ : ∃ ws, ws = Txt.wrd [] x := ⟨_, rfl⟩
      rw [← hws] at hwd hwl hwe HST
      have HWD := Lib.hid hwd
      have HWE := Lib.hid (show ∀ y ∈ ws, y.length ≤ 1000000 from fun y hy => by have h1 := hwe y hy; simp at h1; omega)
      have HWL := Lib.hid (show ws.length ≤ 2000000 by omega)
      have hki : (k : Int) < (L.length : Int) := by omega
      clear hc g1 hrun hbut hxl hwd hwl hwe hws
      go_wp2_with fail
      refine HWD.out.mono ?_
      rintro e w3 ⟨v3, rfl, hown3, hb3⟩
      obtain ⟨ao3, cap3, rfl, hcap3, _, hr3⟩ := Txt.ownS_row hown3
      have HRD3 := Lib.hid (rfIs_kept HRD.out hb3)
      have HNR3 := Lib.hid (Ne.netBox_below HNR.out hb3 (Ne.netBox_lt HNR.out))
      have HBT3 := Lib.hid (HBT.out.trans (But.of_below (hb3.mono hzr)))
      have HBW3 := Lib.hid (HBW.out.trans (hb3.mono HBW.out.size))
      have hz3 : w2.heap.size ≤ w3.heap.size := HBT3.out.size
      have HLI := Lib.hid (rline_any w2.heap.size (w.heap.size + 1) st w3 HRD3.out HOK.out hz3 ao3 cap3 ws hr3 hcap3 HWE.out HWL.out)
      clear hown3 hb3 hr3
      by_cases he : (stepW st ws).1 = 0
      · have HE := Lib.hid he
        have HST2 := Lib.hid (show runL 0 st0 L = runL (k + 1) (stepW st ws).2 (L.drop (k + 1)) by rw [HST.out, if_pos he])
        have HOK2 := Lib.hid (stepW_ok HOK.out ws)
        go_wp2_with fail
        refine HLI.out.mono ?_
        rintro e w4 ⟨rfl, h2, h3⟩
        have H2 := Lib.hid (h2 HE.out)
        have H3 := Lib.hid h3
        clear h2 h3
        go_wp2
        go_roundw
        case rel => exact ⟨k + 1, _, by omega, by go_num, H2.out, HOK2.out, HBT3.out.trans H3.out, HST2.out⟩
        case measure => simp [intOf]; omega
      · have HE := Lib.hid he
        have he' : ((stepW st ws).1 != 0) = true := by simpa using he
        have HST2 := Lib.hid (show res s.data.toList = ((stepW st ws).1, k + 1, st) by rw [HLD.out, HST.out, if_neg he])
        clear he
        go_wp2_with fail
        refine HLI.out.mono ?_
        rintro e w4 ⟨rfl, h2, h3⟩
        have H3 := Lib.hid h3
        have HN3 := Lib.hid (show Ne.NetBox w4 w.heap.size 0 0 0 (.slice none 0 0) by unfold Ne.NetBox; rw [h3.block _ (by omega) (by omega)]; exact HNR3.out)
        obtain ⟨m0, m1, m2, m3⟩ := Ne.netBox_cells HN3.out
        have f0 := Ne.netBox_frozen HN3.out 0
        have f1 := Ne.netBox_frozen HN3.out 1
        have f2 := Ne.netBox_frozen HN3.out 2
        have f3 := Ne.netBox_frozen HN3.out 3
        clear h2 h3
        have HW := Lib.hid (Ne.netBox_all (n2 := 0) (s2 := 0) (t2 := 0) (v2 := .slice none 0 0) HN3.out)
        go_wp2
        refine bodyPost_ret_by (results_cell_two rfl _ _ w.heap.size 25 _ (0, 0) _ rfl HW.out Tryd.underlying25 rfl (by kernel_rfl)) rfl ?_
        exact parsed_err HST2.out HE.out rfl (((((HBW3.out.trans (H3.out.below (B0 := w.heap.size) (by omega) (by omega))).setCell (p := ⟨w.heap.size, 0, none⟩) (Nat.le_refl _) _).setCell (p := ⟨w.heap.size, 1, none⟩) (Nat.le_refl _) _).setCell (p := ⟨w.heap.size, 2, none⟩) (Nat.le_refl _) _).setCell (p := ⟨w.heap.size, 3, none⟩) (Nat.le_refl _) _)
    · have ek : k = L.length := by omega
      subst ek
      have HST := Lib.hid (hrun.trans (runL_end (Nat.le_refl _)))
      obtain ⟨v, hx3, ho3⟩ := HRD.out
      obtain ⟨ao3, cap3, rfl, hc3, hm3, hn3, hr3, _⟩ := Rw.own_row Ne.encA_len ho3
      obtain ⟨x0, x1, x2, x3, x4, x5⟩ := box6_cells hx3
      have HO3 := Lib.hid (Rw.own_set (Rw.own_set (Rw.own_set (Rw.own_set ho3 (p := ⟨w.heap.size, 0, none⟩) (fun h => by have h2 := Rw.own_block ho3 _ h; simp only at h2; omega) (.int .i64 st.n)) (p := ⟨w.heap.size, 1, none⟩) (fun h => by have h2 := Rw.own_block ho3 _ h; simp only at h2; omega) (.int .i64 st.s)) (p := ⟨w.heap.size, 2, none⟩) (fun h => by have h2 := Rw.own_block ho3 _ h; simp only at h2; omega) (.int .i64 st.t)) (p := ⟨w.heap.size, 3, none⟩) (fun h => by have h2 := Rw.own_block ho3 _ h; simp only at h2; omega) (.slice ao3 st.l.length cap3))
      obtain ⟨m0, m1, m2, m3⟩ := Ne.netBox_cells HNR.out
      have f0 := Ne.netBox_frozen HNR.out 0
      have f1 := Ne.netBox_frozen HNR.out 1
      have f2 := Ne.netBox_frozen HNR.out 2
      have f3 := Ne.netBox_frozen HNR.out 3
      have HWZ := Lib.hid (Ne.netBox_all (n2 := 0) (s2 := 0) (t2 := 0) (v2 := .slice none 0 0) HNR.out)
      have HBE := Lib.hid ((((HBW.out.setCell (p := ⟨w.heap.size, 0, none⟩) (Nat.le_refl _) (.int .i64 0)).setCell (p := ⟨w.heap.size, 1, none⟩) (Nat.le_refl _) (.int .i64 0)).setCell (p := ⟨w.heap.size, 2, none⟩) (Nat.le_refl _) (.int .i64 0)).setCell (p := ⟨w.heap.size, 3, none⟩) (Nat.le_refl _) (.slice none 0 0))
      have hkn := HOK.out.n
      have hks := HOK.out.s
      have hkt := HOK.out.t
      have hka := HOK.out.arcs
      clear hrun hbut hx3 ho3 hc3 hm3 hn3 hr3
      by_cases z1 : st.s = 0 ∨ st.t = 0
      · have HST2 := Lib.hid (show res s.data.toList = (2, L.length + 1, st) by
          have e1 : endE st = 2 := by unfold endE; rw [if_pos z1]
          rw [HLD.out, HST.out, e1]; rfl)
        by_cases zn : st.n = 0
        · rw [show most st = -1 by simp [most, zn]] at x4
          clear z1 zn
          go_wp2
          refine bodyPost_ret_by (results_cell_two rfl _ _ w.heap.size 25 _ (0, 0) _ rfl HWZ.out Tryd.underlying25 rfl (by kernel_rfl)) rfl ?_
          exact parsed_err HST2.out (by decide) rfl HBE.out
        rw [show most st = st.arcs by simp [most, zn]] at x4
        have za : ¬ st.arcs < 0 := by omega
        by_cases zs : st.s = 0
        · have zs' : (st.s == 0) = true := by simp [zs]
          clear z1 zs zn
          go_wp2
          refine bodyPost_ret_by (results_cell_two rfl _ _ w.heap.size 25 _ (0, 0) _ rfl HWZ.out Tryd.underlying25 rfl (by kernel_rfl)) rfl ?_
          exact parsed_err HST2.out (by decide) rfl HBE.out
        · have zs' : (st.s == 0) = false := by simp [zs]
          have zt' : (st.t == 0) = true := by simp; omega
          clear z1 zs zn
          go_wp2
          refine bodyPost_ret_by (results_cell_two rfl _ _ w.heap.size 25 _ (0, 0) _ rfl HWZ.out Tryd.underlying25 rfl (by kernel_rfl)) rfl ?_
          exact parsed_err HST2.out (by decide) rfl HBE.out
      have zs' : (st.s == 0) = false := by simp; omega
      have zt' : (st.t == 0) = false := by simp; omega
      have zn : st.n ≠ 0 := by omega
      rw [show most st = st.arcs by simp [most, zn]] at x4
      have za : ¬ st.arcs < 0 := by omega
      by_cases z2 : (st.l.length : Int) < st.arcs
      · have HST2 := Lib.hid (show res s.data.toList = (6, L.length + 1, st) by
          have e1 : endE st = 6 := by unfold endE; rw [if_neg z1, if_pos z2]
          rw [HLD.out, HST.out, e1]; rfl)
        clear z1 zn
        go_wp2
        go_quiet (fail)
        go_wp2
        refine bodyPost_ret_by (results_cell_two rfl _ _ w.heap.size 25 _ (0, 0) _ rfl HWZ.out Tryd.underlying25 rfl (by kernel_rfl)) rfl ?_
        exact parsed_err HST2.out (by decide) rfl (HBE.out.trans (Rw.below_drewN _ _ |>.mono (Below.size HBE.out)))
      · have HST2 := Lib.hid (show res s.data.toList = (0, 0, st) by
          have e1 : endE st = 0 := by unfold endE; rw [if_neg z1, if_neg z2]
          rw [HLD.out, HST.out, e1]; rfl)
        have HW := Lib.hid (Ne.netBox_all (n2 := st.n) (s2 := st.s) (t2 := st.t) (v2 := .slice ao3 st.l.length cap3) HNR.out)
        clear z1 zn
        go_wp2
        go_quiet (fail)
        go_wp2
        refine bodyPost_ret_by (results_cell_two rfl _ _ w.heap.size 25 _ (0, 0) _ rfl HW.out Tryd.underlying25 rfl (by kernel_rfl)) rfl ?_
        obtain ⟨o4, c4, hv4, hc4, hm4, hn4, hr4, _⟩ := Rw.own_row Ne.encA_len HO3.out
        cases hv4
        exact parsed_ok HST2.out rfl hc4 hm4 hn4 hr4 ((((((HBW.out.trans (Rw.below_drewN _ _ |>.mono HBW.out.size)).setCell (p := ⟨w.heap.size, 0, none⟩) (Nat.le_refl _) _).setCell (p := ⟨w.heap.size, 1, none⟩) (Nat.le_refl _) _).setCell (p := ⟨w.heap.size, 2, none⟩) (Nat.le_refl _) _).setCell (p := ⟨w.heap.size, 3, none⟩) (Nat.le_refl _) _))
end Dm
end Go.Proofs.YtaepoddmonijkaaDoor
