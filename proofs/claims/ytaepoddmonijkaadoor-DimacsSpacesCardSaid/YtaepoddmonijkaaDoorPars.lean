/-
  Contract of the developers' dimacs.Parse. Condition: a text of at most a million bytes.
-/
import Derived.Test.YtaepoddmonijkaaDoorLine
namespace Go.Proofs.YtaepoddmonijkaaDoor
open Go.ChangeShapes Go.WideShapes Go.ChangeAt Go.RowKit
set_option linter.unusedVariables false
set_option linter.unusedSimpArgs false
namespace Dm

theorem results_cell_two {P : Program} {fn : Func} {p u v : Tmp} {ty : TypeId} (h : fn.results = #[.cell p ty, .tmp u, .tmp v]) (tmps : Array Value) (w : World) (g : Nat) (t : TypeId) (cs : Array Value) (fr : Nat × Nat) (d : TypeDesc)
    (hp : tmps.getD p undef = .pointer (some ⟨g, 0, none⟩)) (hg : w.heap[g]? = some (.cells cs t fr))
    (hu : P.underlying ty = some d) (hd : (match d with | .struct _ | .array _ _ => true | _ => false) = true) (hi : (P.info? ty).map (·.size) = some cs.size) :
    (results fn tmps).run P w = .ok (.tuple #[.agg cs, tmps.getD u undef, tmps.getD v undef]) w := by
  have hp' : tmps[p]?.getD undef = .pointer (some ⟨g, 0, none⟩) := by simpa using hp
  simp [results, h, hp', asAddr, run_loadVar_row w g t ty cs fr d hg hu hd hi]
theorem lin_elem (r : List UInt8) : ∀ (cur y : List UInt8), y ∈ Txt.lin cur r → y.length ≤ cur.length + r.length := by
  induction r with
  | nil => intro cur y h; rw [Txt.lin_nil] at h; split at h <;> simp at h; subst h; simp
  | cons c r ih =>
    intro cur y h
    rw [Txt.lin_cons] at h
    split at h
    · rcases List.mem_cons.1 h with h | h
      · subst h; simp
      · have := ih _ _ h; simp at this ⊢; omega
    · have := ih _ _ h; simp at this ⊢; omega
theorem runL_drop {i : Nat} {st : St} {X : List (List UInt8)} {x : List UInt8} (h : X[i]? = some x) :
    runL i st (X.drop i) = if (stepW st (Txt.wrd [] x)).1 = 0 then runL (i + 1) (stepW st (Txt.wrd [] x)).2 (X.drop (i + 1)) else ((stepW st (Txt.wrd [] x)).1, i + 1, st) := by
  obtain ⟨h1, e⟩ := List.getElem?_eq_some_iff.1 h
  rw [List.drop_eq_getElem_cons h1, e]; rfl
theorem runL_end {i : Nat} {st : St} {X : List (List UInt8)} (h : X.length ≤ i) : runL i st (X.drop i) = if endE st = 0 then (0, 0, st) else (endE st, i + 1, st) := by
  rw [List.drop_eq_nil_of_le h]; rfl
theorem box6_nostr {T : TypeId} {w : World} {b o : Nat} {n s t x y : Int} {s0 : ByteArray} (h : Box6 T w b n s t (.slice none 0 0) x y) : w.cell? ⟨b, o, none⟩ ≠ some (.string s0) := by
  obtain ⟨h0, h1, h2, h3, h4, h5⟩ := box6_cells h
  intro hc
  match o, hc with
  | 0, hc => rw [h0] at hc; cases hc
  | 1, hc => rw [h1] at hc; cases hc
  | 2, hc => rw [h2] at hc; cases hc
  | 3, hc => rw [h3] at hc; cases hc
  | 4, hc => rw [h4] at hc; cases hc
  | 5, hc => rw [h5] at hc; cases hc
  | (o + 6), hc => unfold Box6 at h; simp [World.cell?, h] at hc
/-- what Parse hands back -/
def Parsed (s : List UInt8) (w : World) (e : Ending) (w' : World) : Prop :=
  ∃ ao cap, e = .returned (.tuple #[Ne.encN (parseN s) ao cap, .int .i64 (parseI s : Int), .int .i64 (parseE s)]) ∧ (parseN s).l.length ≤ cap ∧ cap ≤ maxLen ∧ (ao = none → cap = 0) ∧ Ne.ARow w' ao (parseN s).l ∧ Below w.heap.size w w'
theorem parsed_err {s : List UInt8} {w w' : World} {c : Int} {i : Nat} {st : St} {e : Ending} (h : res s = (c, i, st)) (hc : c ≠ 0) (he : e = .returned (.tuple #[.agg #[.int .i64 0, .int .i64 0, .int .i64 0, .slice none 0 0], .int .i64 (i : Int), .int .i64 c])) (hb : Below w.heap.size w w') : Parsed s w e w' := by
  have e1 : parseE s = c := by unfold parseE; rw [h]
  have e2 : parseI s = i := by unfold parseI; rw [h]
  have e3 : parseN s = zeroN := by unfold parseN; rw [if_neg (by rw [e1]; exact hc)]
  exact ⟨none, 0, by rw [he, e1, e2, e3]; rfl, by rw [e3]; exact Nat.le_refl _, by decide, fun _ => rfl, by rw [e3]; exact .inl rfl, hb⟩
theorem parsed_ok {s : List UInt8} {w w' : World} {st : St} {e : Ending} {ao : Option Addr} {cap : Nat} (h : res s = (0, 0, st)) (he : e = .returned (.tuple #[.agg #[.int .i64 st.n, .int .i64 st.s, .int .i64 st.t, .slice ao st.l.length cap], .int .i64 0, .int .i64 0])) (hc : st.l.length ≤ cap) (hm : cap ≤ maxLen) (hn : ao = none → cap = 0) (hr : Ne.ARow w' ao st.l) (hb : Below w.heap.size w w') : Parsed s w e w' := by
  have e1 : parseE s = 0 := by unfold parseE; rw [h]
  have e2 : parseI s = 0 := by unfold parseI; rw [h]
  have e3 : parseN s = st.net := by unfold parseN; rw [if_pos e1, h]
  exact ⟨ao, cap, by rw [he, e1, e2, e3]; rfl, by rw [e3]; exact hc, hm, hn, by rw [e3]; exact hr, hb⟩

set_option maxRecDepth 100000 in
set_option maxHeartbeats 8000000 in
theorem parse_any (s : ByteArray) (w : World) (hs : s.size ≤ 1000000) (hv : Txt.Vars w) :
    Calls Tryd.prog 12 #[.string s] w (Parsed s.data.toList w) := by
  have HBA := Lib.hid (((Below.refl w.heap.size w).alloc (Nat.le_refl _) (.cells #[.int .i64 0, .int .i64 0, .int .i64 0, .slice none 0 0] 25)).alloc (by simp) (.cells #[.int .i64 0, .int .i64 0, .int .i64 0, .slice none 0 0, .int .i64 0, .int .i64 0] 51))
  have HNB := Lib.hid (Ne.netBox_alloc (Ne.netBox_new w 0 0 0 (.slice none 0 0)) (.cells #[.int .i64 0, .int .i64 0, .int .i64 0, .slice none 0 0, .int .i64 0, .int .i64 0] 51))
  have HBX := Lib.hid (box6_at 51 (w.alloc (.cells #[.int .i64 0, .int .i64 0, .int .i64 0, .slice none 0 0] 25)) (b := w.heap.size + 1) (by simp) 0 0 0 0 0 (.slice none 0 0))
  have HL := Lib.hid (Txt.lines_any s ((w.alloc (.cells #[.int .i64 0, .int .i64 0, .int .i64 0, .slice none 0 0] 25)).alloc (.cells #[.int .i64 0, .int .i64 0, .int .i64 0, .slice none 0 0, .int .i64 0, .int .i64 0] 51)) hs (hv.below HBA.out))
  have hle := lin_elem s.data.toList []
  have hll := Txt.lin_len s.data.toList []
  have HSZ := Lib.hid (show s.data.toList.length ≤ 1000000 by rw [← Lib.size_eq]; exact hs)
  obtain ⟨L, hL⟩ : ∃ L, L = Txt.lin [] s.data.toList := ⟨_, rfl⟩
  rw [← hL] at HL hle hll
  have HLD := Lib.hid (show res s.data.toList = runL 0 st0 L by unfold res; rw [hL])
  have HLE := Lib.hid (show ∀ y ∈ L, y.length ≤ 1000000 from fun y hy => by have h1 := hle y hy; have h2 := HSZ.out; simp at h1; simp at h2; omega)
  have HLL := Lib.hid (show L.length ≤ 1000001 by have h2 := HSZ.out; omega)
  have HV := Lib.hid hv
  clear hL hle hll hv
  go_enter Tryd.func12, Tryd.ntmps12
  go_wp2_with fail
  refine HL.out.mono ?_
  rintro e w2 ⟨ao, cap, rfl, _, _, hr, hb⟩
  have HB2 := Lib.hid (HBA.out.trans (hb.mono HBA.out.size))
  have HN2 := Lib.hid (Ne.netBox_below HNB.out hb (Ne.netBox_lt HNB.out))
  have HX2 := Lib.hid (box6_below HBX.out hb (box6_lt HBX.out))
  have HR2 := Lib.hid hr
  have hz2 : w.heap.size + 1 < w2.heap.size := box6_lt HX2.out
  clear hr hb HBA HNB HBX HL
  go_wp2
  go_loopw [15] (fun i wr => ∃ (k : Nat) (st : St), k ≤ L.length ∧ i = .int .i64 k ∧ RdIs wr w2.heap.size (w.heap.size + 1) st ∧ st.ok ∧ But w2.heap.size (w.heap.size + 1) w2 wr ∧ runL 0 st0 L = runL k st (L.drop k)) (fun i _ => L.length - (intOf i).toNat)
  case atStart => exact ⟨0, st0, Nat.zero_le _, rfl, ⟨_, HX2.out, Rw.own_nil _ _⟩, st0_ok, But.refl _ _ _, rfl⟩
  case round =>
    obtain ⟨k, st, hk, rfl, hrd, hok, hbut, hrun⟩ := hrel
    have hLl := HLL.out
    have HRD := Lib.hid hrd
    have HOK := Lib.hid hok
    have HBT := Lib.hid hbut
    have HBW := Lib.hid (HB2.out.trans (hbut.below (B0 := w.heap.size) (by omega) (by omega)))
    have HVR := Lib.hid (HV.out.below HBW.out)
    have HNR := Lib.hid (show Ne.NetBox wr w.heap.size 0 0 0 (.slice none 0 0) by unfold Ne.NetBox; rw [hbut.block _ (by omega) (by omega)]; exact HN2.out)
    have hzr : w2.heap.size ≤ wr.heap.size := hbut.size
    clear hrd hok
    by_cases hlt : k < L.length
    · obtain ⟨x, g1⟩ : ∃ x, L[k]? = some x := ⟨_, List.getElem?_eq_getElem hlt⟩
      have HST := Lib.hid (hrun.trans (runL_drop g1))
      have hxl := HLE.out x (List.mem_of_getElem? g1)
      rcases HR2.out with h | ⟨g, off, rfl, hg, hc⟩
      · rw [h] at hlt; simp at hlt
      have hgb : g ≠ w.heap.size + 1 := by intro h; subst h; exact box6_nostr HX2.out (hc 0 _ (List.getElem?_eq_getElem (by omega : 0 < L.length)))
      have c0 : wr.cell? ⟨g, off + k, none⟩ = some (.string ⟨x.toArray⟩) := (World.cell?_of_block (w := w2) (hbut.block g hg hgb)).trans (hc k _ g1)
      have hli := line_any w2.heap.size (w.heap.size + 1) st wr HRD.out HOK.out HVR.out ⟨x.toArray⟩ (by simpa [ByteArray.size] using hxl) hzr
      rw [show (⟨x.toArray⟩ : ByteArray).data.toList = x from by simp] at hli
      have HLI := Lib.hid hli
      have hki : (k : Int) < (L.length : Int) := by omega
      clear hc g1 hrun hli hbut hxl
      by_cases he : (stepW st (Txt.wrd [] x)).1 = 0
      · have HE := Lib.hid he
        have HST2 := Lib.hid (show runL 0 st0 L = runL (k + 1) (stepW st (Txt.wrd [] x)).2 (L.drop (k + 1)) by rw [HST.out, if_pos he])
        have HOK2 := Lib.hid (stepW_ok HOK.out (Txt.wrd [] x))
        go_wp2_with fail
        refine HLI.out.mono ?_
        rintro e w3 ⟨rfl, h2, h3⟩
        have H2 := Lib.hid (h2 HE.out)
        have H3 := Lib.hid h3
        clear h2 h3
        go_wp2
        go_roundw
        case rel => exact ⟨k + 1, _, by omega, by go_num, H2.out, HOK2.out, HBT.out.trans H3.out, HST2.out⟩
        case measure => simp [intOf]; omega
      · have HE := Lib.hid he
        have he' : ((stepW st (Txt.wrd [] x)).1 != 0) = true := by simpa using he
        have HST2 := Lib.hid (show res s.data.toList = ((stepW st (Txt.wrd [] x)).1, k + 1, st) by rw [HLD.out, HST.out, if_neg he])
        clear he
        go_wp2_with fail
        refine HLI.out.mono ?_
        rintro e w3 ⟨rfl, h2, h3⟩
        have H3 := Lib.hid h3
        have HN3 := Lib.hid (show Ne.NetBox w3 w.heap.size 0 0 0 (.slice none 0 0) by unfold Ne.NetBox; rw [h3.block _ (by omega) (by omega)]; exact HNR.out)
        obtain ⟨m0, m1, m2, m3⟩ := Ne.netBox_cells HN3.out
        have f0 := Ne.netBox_frozen HN3.out 0
        have f1 := Ne.netBox_frozen HN3.out 1
        have f2 := Ne.netBox_frozen HN3.out 2
        have f3 := Ne.netBox_frozen HN3.out 3
        have hz3 : w.heap.size < w3.heap.size := Ne.netBox_lt HN3.out
        clear h2 h3
        have HW := Lib.hid (Ne.netBox_all (n2 := 0) (s2 := 0) (t2 := 0) (v2 := .slice none 0 0) HN3.out)
        go_wp2
        refine bodyPost_ret_by (results_cell_two rfl _ _ w.heap.size 25 _ (0, 0) _ rfl HW.out Tryd.underlying25 rfl (by kernel_rfl)) rfl ?_
        exact parsed_err HST2.out HE.out rfl (((((HBW.out.trans (H3.out.below (B0 := w.heap.size) (by omega) (by omega))).setCell (p := ⟨w.heap.size, 0, none⟩) (Nat.le_refl _) _).setCell (p := ⟨w.heap.size, 1, none⟩) (Nat.le_refl _) _).setCell (p := ⟨w.heap.size, 2, none⟩) (Nat.le_refl _) _).setCell (p := ⟨w.heap.size, 3, none⟩) (Nat.le_refl _) _)
    · have ek : k = L.length := by omega
      subst ek
      have HST := Lib.hid (hrun.trans (runL_end (Nat.le_refl _)))
      have HEN := Lib.hid (end_any w2.heap.size (w.heap.size + 1) st wr HRD.out)
      clear hrun hbut
      by_cases he : endE st = 0
      · have HST2 := Lib.hid (show res s.data.toList = (0, 0, st) by rw [HLD.out, HST.out, if_pos he])
        rw [he] at HEN
        clear he
        go_wp2_with fail
        refine HEN.out.mono ?_
        rintro e w3 ⟨rfl, hb⟩
        have HB3 := Lib.hid (HBW.out.trans (hb.mono HBW.out.size))
        have HN3 := Lib.hid (Ne.netBox_below HNR.out hb (Ne.netBox_lt HNR.out))
        obtain ⟨v, hx3, ho3⟩ := rdIs_kept HRD.out hb
        obtain ⟨ao3, cap3, rfl, hc3, hm3, hn3, hr3, _⟩ := Rw.own_row Ne.encA_len ho3
        obtain ⟨x0, x1, x2, x3, x4, x5⟩ := box6_cells hx3
        have HO3 := Lib.hid (Rw.own_set (Rw.own_set (Rw.own_set (Rw.own_set ho3 (p := ⟨w.heap.size, 0, none⟩) (fun h => by have h2 := Rw.own_block ho3 _ h; simp only at h2; omega) (.int .i64 st.n)) (p := ⟨w.heap.size, 1, none⟩) (fun h => by have h2 := Rw.own_block ho3 _ h; simp only at h2; omega) (.int .i64 st.s)) (p := ⟨w.heap.size, 2, none⟩) (fun h => by have h2 := Rw.own_block ho3 _ h; simp only at h2; omega) (.int .i64 st.t)) (p := ⟨w.heap.size, 3, none⟩) (fun h => by have h2 := Rw.own_block ho3 _ h; simp only at h2; omega) (.slice ao3 st.l.length cap3))
        have HC3 := Lib.hid (And.intro hc3 (And.intro hm3 hn3))
        obtain ⟨m0, m1, m2, m3⟩ := Ne.netBox_cells HN3.out
        have f0 := Ne.netBox_frozen HN3.out 0
        have f1 := Ne.netBox_frozen HN3.out 1
        have f2 := Ne.netBox_frozen HN3.out 2
        have f3 := Ne.netBox_frozen HN3.out 3
        have HW := Lib.hid (Ne.netBox_all (n2 := st.n) (s2 := st.s) (t2 := st.t) (v2 := .slice ao3 st.l.length cap3) HN3.out)
        clear hb hx3 ho3 hc3 hm3 hn3 hr3
        go_wp2
        refine bodyPost_ret_by (results_cell_two rfl _ _ w.heap.size 25 _ (0, 0) _ rfl HW.out Tryd.underlying25 rfl (by kernel_rfl)) rfl ?_
        obtain ⟨o4, c4, hv4, hc4, hm4, hn4, hr4, _⟩ := Rw.own_row Ne.encA_len HO3.out
        cases hv4
        exact parsed_ok HST2.out rfl hc4 hm4 hn4 hr4 ((((HB3.out.setCell (p := ⟨w.heap.size, 0, none⟩) (Nat.le_refl _) _).setCell (p := ⟨w.heap.size, 1, none⟩) (Nat.le_refl _) _).setCell (p := ⟨w.heap.size, 2, none⟩) (Nat.le_refl _) _).setCell (p := ⟨w.heap.size, 3, none⟩) (Nat.le_refl _) _)
      · have HE := Lib.hid he
        have he' : (endE st != 0) = true := by simpa using he
        have HST2 := Lib.hid (show res s.data.toList = (endE st, L.length + 1, st) by rw [HLD.out, HST.out, if_neg he])
        clear he
        go_wp2_with fail
        refine HEN.out.mono ?_
        rintro e w3 ⟨rfl, hb⟩
        have HB3 := Lib.hid (HBW.out.trans (hb.mono HBW.out.size))
        have HN3 := Lib.hid (Ne.netBox_below HNR.out hb (Ne.netBox_lt HNR.out))
        obtain ⟨m0, m1, m2, m3⟩ := Ne.netBox_cells HN3.out
        have f0 := Ne.netBox_frozen HN3.out 0
        have f1 := Ne.netBox_frozen HN3.out 1
        have f2 := Ne.netBox_frozen HN3.out 2
        have f3 := Ne.netBox_frozen HN3.out 3
        have HW := Lib.hid (Ne.netBox_all (n2 := 0) (s2 := 0) (t2 := 0) (v2 := .slice none 0 0) HN3.out)
        clear hb
        go_wp2
        refine bodyPost_ret_by (results_cell_two rfl _ _ w.heap.size 25 _ (0, 0) _ rfl HW.out Tryd.underlying25 rfl (by kernel_rfl)) rfl ?_
        exact parsed_err HST2.out HE.out rfl ((((HB3.out.setCell (p := ⟨w.heap.size, 0, none⟩) (Nat.le_refl _) _).setCell (p := ⟨w.heap.size, 1, none⟩) (Nat.le_refl _) _).setCell (p := ⟨w.heap.size, 2, none⟩) (Nat.le_refl _) _).setCell (p := ⟨w.heap.size, 3, none⟩) (Nat.le_refl _) _)
end Dm
end Go.Proofs.YtaepoddmonijkaaDoor
