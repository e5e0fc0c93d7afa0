/- NetSames: for every input the law returns true and its arguments read as they did. No condition. -/
import Derived.Test.YtpoflbnmfoamhaaNetm
import Derived.Test.YtpoflbnmfoamhaaOpenc
import Derived.Outline
import Derived.Test.YtpoflbnmfoamhaaRows
import Derived.WalkKit
import Derived.ProofKit
import Derived.OpenShut
import Derived.ShutString
import Derived.ChangeOld
import Derived.Below
import Derived.Deep.Strs
namespace Go.Proofs.Ytpoflbnmfoamhaa.netSames
open Go.ChangeShapes Go.WideShapes Go.ChangeAt Go.RowKit
open Go.ChangeMaps (open_string shut_string)
set_option linter.unusedVariables false
set_option linter.unusedSimpArgs false

theorem own : ownKnob Try.prog.godebug = none := by kernel_rfl
theorem laidOut : laidOutB Try.prog = true := by kernel_rfl

set_option maxRecDepth 100000
theorem in64_fine {n : Int} {a : Ne.Arc} (h : Ne.fineA n a) : Ne.in64 a.cap := by unfold Ne.in64; have := h.2.2; omega
theorem set_ne {l : List Ne.Arc} {k : Nat} {a b : Ne.Arc} (h : l[k]? = some a) (hb : b ≠ a) : l.set k b ≠ l := by
  intro e
  have h2 : (l.set k b)[k]? = some a := by rw [e]; exact h
  have hk : k < l.length := (List.getElem?_eq_some_iff.1 h).1
  rw [List.getElem?_set_self hk] at h2
  exact hb (Option.some.inj h2)
theorem same_not {a b : Ne.Net} (h : a.n ≠ b.n ∨ a.s ≠ b.s ∨ a.t ≠ b.t ∨ a.l ≠ b.l) : Ne.sameN a b = false ∧ Ne.sameN b a = false := by
  unfold Ne.sameN
  rcases h with h | h | h | h
  · rw [decide_eq_false h, decide_eq_false (Ne.symm h)]; simp
  · rw [decide_eq_false h, decide_eq_false (Ne.symm h)]; simp
  · rw [decide_eq_false h, decide_eq_false (Ne.symm h)]; simp
  · rw [decide_eq_false h, decide_eq_false (Ne.symm h)]; simp
/-- the row from the second arc on -/
theorem arow_tail {w : World} {g cap : Nat} {B n : Nat} {l : List Ne.Arc} (h : Ne.OwnA w B (.slice (some ⟨g, 0, none⟩) n cap) l) : Ne.ARow w (some ⟨g, 3, none⟩) (l.drop 1) := by
  obtain ⟨_, _, hr⟩ := Ne.arow_of h
  rcases hr with h0 | ⟨b, off, e, hlt, hc⟩
  · left; rw [h0]; rfl
  · cases e
    refine .inr ⟨g, 3, rfl, hlt, fun i x hx j v hv => ?_⟩
    rw [List.getElem?_drop] at hx
    have := hc (1 + i) x hx j v hv
    rw [show 0 + ((1 + i) * 3 + j) = 3 + (i * 3 + j) by omega] at this
    exact this

set_option maxRecDepth 100000 in
set_option maxHeartbeats 4000000 in
theorem walk (a0 : Int) (a1 : Int) (a2 : List Ne.Arc) (o2 : Option Addr) (c2 : Nat) (a3 : Int) (a4 : Int) (w : World) (w0 : (Lit.int .i64 a0).wf = true) (w1 : (Lit.int .i64 a1).wf = true) (k2 : ∀ a ∈ a2, Ne.Arc.ok a) (z2 : a2.length ≤ c2) (y2 : c2 ≤ maxLen) (n2 : o2 = none → c2 = 0) (r2 : Ne.ARow w o2 a2) (w3 : (Lit.int .i64 a3).wf = true) (w4 : (Lit.int .i64 a4).wf = true) :
    Calls Try.prog 8 #[.int .i64 a0, .int .i64 a1, .slice o2 a2.length c2, .int .i64 a3, .int .i64 a4] w fun e w' => e = .returned (.bool true) ∧ Below w.heap.size w w' := by
  have HSH := Lib.hid (Ne.shown_any w)
  obtain ⟨mn, hmn⟩ : ∃ x, x = (Ne.madeN a0 a1 a2).n := ⟨_, rfl⟩
  obtain ⟨ms, hms⟩ : ∃ x, x = (Ne.madeN a0 a1 a2).s := ⟨_, rfl⟩
  obtain ⟨mt, hmt⟩ : ∃ x, x = (Ne.madeN a0 a1 a2).t := ⟨_, rfl⟩
  obtain ⟨ml, hml⟩ : ∃ x, x = (Ne.madeN a0 a1 a2).l := ⟨_, rfl⟩
  have em : Ne.madeN a0 a1 a2 = ⟨mn, ms, mt, ml⟩ := by rw [hmn, hms, hmt, hml]
  obtain ⟨f1, f2, f3, f4, f5, f6, f7, f8, f9⟩ := Ne.madeN_fine (nodes := a0) (ends := a1) k2
  have MD := Lib.hid fun w' (h : Ne.ARow w' o2 a2) => Ne.made_s a0 a1 a2 o2 c2 w' (bounds_i64 w0) (bounds_i64 w1) k2 h
  rw [em] at MD f1 f2 f3 f4 f5 f6 f7 f8 f9
  simp only at f1 f2 f3 f4 f5 f6 f7 f8 f9
  clear hmn hms hmt hml em
  have f8' : ml.length ≤ 24 := by omega
  clear f8
  have b3 := bounds_i64 w3
  have b4 := bounds_i64 w4
  obtain ⟨fl, hfl⟩ : ∃ x, x = ml ++ [⟨1, 2, 1⟩] := ⟨_, rfl⟩
  have ffl : ∀ a ∈ fl, Ne.fineA mn a := by
    rw [hfl]; intro a ha
    rcases List.mem_append.1 ha with h | h
    · exact f9 a h
    · simp at h; subst h
      refine ⟨(Ne.isNode_iff _ _).2 ⟨?_, ?_⟩, (Ne.isNode_iff _ _).2 ⟨?_, ?_⟩, ?_, ?_⟩ <;> simp only <;> omega
  have lfl : fl.length = ml.length + 1 := by rw [hfl]; simp
  have lf1 : fl.length ≤ 25 := by omega
  have lf2 : 1 ≤ fl.length := by omega
  clear lfl
  obtain ⟨pk, hpk⟩ : ∃ x, x = Ne.pickN a3 (fl.length : Int) := ⟨_, rfl⟩
  have bpk := Ne.pickN_bd (c := a3) (n := (fl.length : Int)) (by omega)
  rw [← hpk] at bpk
  obtain ⟨kk, hkk⟩ : ∃ k : Nat, pk = (k : Int) := ⟨pk.toNat, by omega⟩
  subst hkk
  have P1 := Lib.hid fun w' => Ne.pick_any a3 (fl.length : Int) w' b3.1 b3.2 (by omega) (by omega)
  rw [← hpk] at P1
  obtain ⟨pw, hpw⟩ : ∃ x, x = Ne.pickN a4 7 := ⟨_, rfl⟩
  have bpw := Ne.pickN_bd (c := a4) (n := 7) (by omega)
  rw [← hpw] at bpw
  have P2 := Lib.hid fun w' => Ne.pick_any a4 7 w' b4.1 b4.2 (by omega) (by omega)
  rw [← hpw] at P2
  have hkl : kk < fl.length := by omega
  obtain ⟨ak, hak⟩ : ∃ a, fl[kk]? = some a := ⟨_, List.getElem?_eq_getElem hkl⟩
  have fak := ffl ak (List.mem_of_getElem? hak)
  have HAPP := Lib.hid hfl
  clear hpk hpw hfl
  have RA := Lib.hid r2
  clear r2
  go_enter Try.func8, Try.ntmps8
  go_wp2_with fail
  refine HSH.out.mono ?_
  rintro e w1 ⟨rfl, hb⟩
  have HB1 := Lib.hid hb
  clear hb
  go_wp2_with fail
  refine (MD.out _ (RA.out.kept HB1.out)).mono ?_
  rintro e w2 ⟨om, cm, rfl, ho, hb⟩
  have HB2 := Lib.hid (HB1.out.trans (hb.mono HB1.out.size))
  have HF2 := Lib.hid (Ne.own_far ho)
  have HO2 := Lib.hid (Rw.own_base ho (B' := w.heap.size) HB1.out.size)
  have hz2 : w.heap.size ≤ w2.heap.size := HB2.out.size
  clear ho hb
  have HN3 := Lib.hid (Ne.netBox_new w2 mn ms mt (.slice om ml.length cm))
  have HO3 := Lib.hid (Rw.own_alloc (Rw.own_alloc HO2.out (.cells #[.int .i64 mn, .int .i64 ms, .int .i64 mt, .slice om ml.length cm] 24)) (.cells #[.int .i64 1, .int .i64 2, .int .i64 1] 35))
  have HB3 := Lib.hid ((HB2.out.alloc hz2 (.cells #[.int .i64 mn, .int .i64 ms, .int .i64 mt, .slice om ml.length cm] 24)).alloc (by simp; omega) (.cells #[.int .i64 1, .int .i64 2, .int .i64 1] 35))
  have HN3' := Lib.hid (Ne.netBox_alloc HN3.out (.cells #[.int .i64 1, .int .i64 2, .int .i64 1] 35))
  have HLN := Lib.hid (show ml.length + ([⟨1, 2, 1⟩] : List Ne.Arc).length ≤ 1099511627776 by simp; omega)
  have HZ3 : ((w2.alloc (.cells #[.int .i64 mn, .int .i64 ms, .int .i64 mt, .slice om ml.length cm] 24)).alloc (.cells #[.int .i64 1, .int .i64 2, .int .i64 1] 35)).heap.size = w2.heap.size + 2 := by simp
  have HAR := Lib.hid (Ne.arow_at1 (w2.alloc (.cells #[.int .i64 mn, .int .i64 ms, .int .i64 mt, .slice om ml.length cm] 24)) (b := w2.heap.size + 1) (by simp) ⟨1, 2, 1⟩)
  obtain ⟨n0, n1, n2, n3⟩ := Ne.netBox_cells HN3'.out
  have nf := Ne.netBox_frozen HN3'.out 3
  go_wp2_with (at_builtin; refine Rw.app Ne.elemA Ne.encA_len Ne.encA_one rfl (.tmp 23) (.tmp 25) rfl w.heap.size _ ml rfl HO3.out (some ⟨w2.heap.size + 1, 0, none⟩) 1 [⟨1, 2, 1⟩] rfl ?hnn HAR.out HLN.out ?hB ?_; (case hnn => (intro h; cases h)); (case hB => (simp; omega)); intro v4 w4 hown4 hgr4; rw [← HAPP.out] at hown4; obtain ⟨o4, c4, hv4, _, _, hc4, _⟩ := Rw.own_row Ne.encA_len hown4; subst hv4; have HX4 := Lib.hid (Ne.netBox_grown HN3'.out hgr4 (fun h => by have := HF2.out _ h.symm; omega)); have HB4 := Lib.hid (HB3.out.grown hgr4 (by omega) (fun b hb => Nat.le_trans HB1.out.size (HF2.out b hb).1)); have HO4 := Lib.hid hown4; obtain ⟨n0, n1, n2, n3⟩ := Ne.netBox_cells HX4.out; have nf := Ne.netBox_frozen HX4.out 3; clear hown4 hgr4)
  have HX5 := Lib.hid (Ne.netBox_set (v2 := .slice o4 fl.length c4) HX4.out)
  have HO5 := Lib.hid (Rw.own_set HO4.out (p := ⟨w2.heap.size, 3, none⟩) (Ne.own_ne_box HO4.out HX4.out) (.slice o4 fl.length c4))
  have HB5 := Lib.hid (HB4.out.setCell (p := ⟨w2.heap.size, 3, none⟩) hz2 (.slice o4 fl.length c4))
  clear n0 n1 n2 n3 nf
  clear HO4 HX4 HB4 HO3 HB3 HN3 HN3' HAR HLN HO2 HB2 HZ3
  generalize (w4.setCell ⟨w2.heap.size, 3, none⟩ (.slice o4 fl.length c4)) = W5 at *
  generalize w2.heap.size = bb at *
  obtain ⟨n0, n1, n2, n3⟩ := Ne.netBox_cells HX5.out
  have nf0 := Ne.netBox_frozen HX5.out 0
  have nf1 := Ne.netBox_frozen HX5.out 1
  have nf2 := Ne.netBox_frozen HX5.out 2
  obtain ⟨g, rfl, hgB, hgs, hcell, hfz⟩ := Ne.own_cells Ne.encA_len HO5.out hak
  have c0' := hcell 0 _ rfl
  have c1' := hcell 1 _ rfl
  have c2' := hcell 2 _ rfl
  rw [Nat.add_zero] at c0'
  have z0' := hfz (kk * 3)
  have z1' := hfz (kk * 3 + 1)
  have z2' := hfz (kk * 3 + 2)
  have hgb : g ≠ bb := fun h => Ne.own_ne_box HO5.out HX5.out (by rw [← h]; rfl)
  have hki : (kk : Int) < (fl.length : Int) := by omega
  have HAK := Lib.hid hak
  clear hcell hfz hak hc4 c0' c1' c2' z0' z1' z2'
  clear nf0 nf1 nf2
  go_wp2_with fail
  have CP0 := Lib.hid fun w' (h : Ne.ARow w' (some ⟨g, 0, none⟩) fl) => Ne.copy_any ⟨mn, ms, mt, fl⟩ (some ⟨g, 0, none⟩) c4 w' (fun h => by cases h) h (by simp only; omega)
  have HRf := Lib.hid (Ne.arow_of HO5.out).2.2
  refine (CP0.out _ HRf.out).mono ?_
  rintro e w6 ⟨o6, c6, rfl, ho, hb⟩
  have hbb := Ne.netBox_lt HX5.out
  have HX6 := Lib.hid (Ne.netBox_alloc (Ne.netBox_below HX5.out hb hbb) (.cells #[.int .i64 mn, .int .i64 ms, .int .i64 mt, .slice o6 fl.length c6] 24))
  have HB6 := Lib.hid ((HB5.out.trans (hb.mono HB5.out.size)).alloc (HB5.out.trans (hb.mono HB5.out.size)).size (.cells #[.int .i64 mn, .int .i64 ms, .int .i64 mt, .slice o6 fl.length c6] 24))
  have HR6 := Lib.hid ((HRf.out.kept hb).kept ((Below.refl _ _).alloc (Nat.le_refl _) (.cells #[.int .i64 mn, .int .i64 ms, .int .i64 mt, .slice o6 fl.length c6] 24)))
  have HF6 := Ne.own_far ho
  have HM6 := Lib.hid (Ne.netBox_new w6 mn ms mt (.slice o6 fl.length c6))
  have HO6 := Lib.hid (Rw.own_alloc ho (.cells #[.int .i64 mn, .int .i64 ms, .int .i64 mt, .slice o6 fl.length c6] 24))
  have hz6 : W5.heap.size ≤ w6.heap.size := hb.size
  have hzw : w.heap.size ≤ W5.heap.size := HB5.out.size
  have hbm : bb ≠ w6.heap.size := by omega
  clear ho hb n0 n1 n2 n3
  go_wp2_with fail
  generalize (w6.alloc (.cells #[.int .i64 mn, .int .i64 ms, .int .i64 mt, .slice o6 fl.length c6] 24)) = W7 at *
  generalize hbmm : w6.heap.size = bm at *
  clear hbmm
  obtain ⟨n0, n1, n2, n3⟩ := Ne.netBox_cells HM6.out
  have nf0 := Ne.netBox_frozen HM6.out 0
  have nf1 := Ne.netBox_frozen HM6.out 1
  have nf2 := Ne.netBox_frozen HM6.out 2
  have nf3 := Ne.netBox_frozen HM6.out 3
  obtain ⟨g6, rfl, hgB6, hgs6, hcell6, hfz6⟩ := Ne.own_cells Ne.encA_len HO6.out HAK.out
  have c0' := hcell6 0 _ rfl
  have c1' := hcell6 1 _ rfl
  have c2' := hcell6 2 _ rfl
  rw [Nat.add_zero] at c0'
  have z0' := hfz6 (kk * 3)
  have z1' := hfz6 (kk * 3 + 1)
  have z2' := hfz6 (kk * 3 + 2)
  have hgm : g6 ≠ bm := fun h => Ne.own_ne_box HO6.out HM6.out (by rw [← h]; rfl)
  have hgb6 : g6 ≠ bb := by omega
  have hgg6 : g6 ≠ g := by omega
  obtain ⟨fk1, fk2, fk3, fk4⟩ := fak
  obtain ⟨fk11, fk12⟩ := (Ne.isNode_iff _ _).1 fk1
  obtain ⟨fk21, fk22⟩ := (Ne.isNode_iff _ _).1 fk2
  clear hcell6 hfz6 HF6 CP0 HRf fk1 fk2
  refine (P1.out _).mono ?_
  rintro e w8 ⟨rfl, rfl⟩
  go_wp2_with fail
  refine (P2.out _).mono ?_
  rintro e w8 ⟨rfl, rfl⟩
  clear P1 P2
  have SN := Lib.hid fun x1 x2 c1 c2 w' (h1 : Ne.ARow w' x1 fl) (h2 : Ne.ARow w' x2 fl) => Ne.dsame_s ⟨mn, ms, mt, fl⟩ x1 x2 c1 c2 w' h1 h2 (by simp only; omega)
  have h9 : pw = 0 ∨ pw = 1 ∨ pw = 2 ∨ pw = 3 ∨ pw = 4 ∨ pw = 5 ∨ pw = 6 := by omega
  clear HSH MD f9 ffl
  have hl1 : (1 : Int) ≤ (fl.length : Int) := by omega
  rcases h9 with h9 | h9 | h9 | h9 | h9 | h9 | h9
  · subst h9
    have HD := same_not (a := ⟨mn, ms, mt, fl⟩) (b := ⟨(mn + 1), ms, mt, fl⟩) (.inl (by simp only; omega))
    have HXn := Lib.hid (Ne.netBox_other HX6.out (b2 := bm) (o := 0) (v2 := .int .i64 (mn + 1)) hbm)
    have HXm := Lib.hid (Ne.netBox_set0 (n2 := mn + 1) HM6.out)
    have HRm := Lib.hid (Ne.arow_of (Rw.own_set HO6.out (p := ⟨bm, 0, none⟩) (Ne.own_ne_box HO6.out HM6.out) (.int .i64 (mn + 1)))).2.2
    have HBs := Lib.hid (HB6.out.setCell (p := ⟨bm, 0, none⟩) (by have := HB6.out.size; simp only; omega) (.int .i64 (mn + 1)))
    have HRn := Lib.hid (show Ne.ARow (W7.setCell ⟨bm, 0, none⟩ (.int .i64 (mn + 1))) (some ⟨g, 0, none⟩) fl from by
      rcases HR6.out with h | ⟨b, off, e, hlt, hc⟩
      · exact .inl h
      · cases e
        refine .inr ⟨g, 0, rfl, by simpa [World.setCell] using hlt, fun i x hx j v hv => ?_⟩
        rw [World.cell?_setCell_far _ _ _ _ (show (⟨bm, 0, none⟩ : Addr).block ≠ g by simp only; omega)]
        exact hc i x hx j v hv)
    have S1 := Lib.hid fun w' (h1 : Ne.ARow w' (some ⟨g, 0, none⟩) fl) (h2 : Ne.ARow w' (some ⟨g6, 0, none⟩) fl) => Ne.dsame_any ⟨mn, ms, mt, fl⟩ ⟨(mn + 1), ms, mt, fl⟩ (some ⟨g, 0, none⟩) (some ⟨g6, 0, none⟩) c4 c6 w' h1 h2 (by simp only; omega) (by simp; omega)
    have S2 := Lib.hid fun w' (h1 : Ne.ARow w' (some ⟨g6, 0, none⟩) fl) (h2 : Ne.ARow w' (some ⟨g, 0, none⟩) fl) => Ne.dsame_any ⟨(mn + 1), ms, mt, fl⟩ ⟨mn, ms, mt, fl⟩ (some ⟨g6, 0, none⟩) (some ⟨g, 0, none⟩) c6 c4 w' h1 h2 (by simp; omega) (by simp only; omega)
    have CPm := Lib.hid fun w' (h : Ne.ARow w' (some ⟨g6, 0, none⟩) fl) => Ne.copy_s ⟨(mn + 1), ms, mt, fl⟩ (some ⟨g6, 0, none⟩) c6 w' (fun h => by cases h) h (by simp; omega)
    have SM := Lib.hid fun w' x q (h1 : Ne.ARow w' x fl) (h2 : Ne.ARow w' (some ⟨g6, 0, none⟩) fl) => Ne.dsame_s ⟨(mn + 1), ms, mt, fl⟩ x (some ⟨g6, 0, none⟩) q c6 w' h1 h2 (by simp; omega)
    rw [HD.1] at S1
    rw [HD.2] at S2
    simp only [Ne.encN, List.length_set, List.length_drop] at S1 S2 CPm SM SN
    clear HD
    go_wp2_with fail
    generalize (W7.setCell ⟨bm, 0, none⟩ (.int .i64 (mn + 1))) = WE at *
    clear n0 n1 n2 n3 nf0 nf1 nf2 nf3 c0' c1' c2' z0' z1' z2'
    have hbe := Ne.netBox_lt HXn.out
    have hbf := Ne.netBox_lt HXm.out
    have HSB : Hid (∀ w', Below WE.heap.size WE w' → (fun w' => w'.cell? ⟨bb, 0, none⟩ = some (.int .i64 mn) ∧ w'.cell? ⟨bb, 1, none⟩ = some (.int .i64 ms) ∧ w'.cell? ⟨bb, 2, none⟩ = some (.int .i64 mt) ∧ w'.cell? ⟨bb, 3, none⟩ = some (.slice (some ⟨g, 0, none⟩) fl.length c4) ∧ w'.cell? ⟨bm, 0, none⟩ = some (.int .i64 (mn + 1)) ∧ w'.cell? ⟨bm, 1, none⟩ = some (.int .i64 ms) ∧ w'.cell? ⟨bm, 2, none⟩ = some (.int .i64 mt) ∧ w'.cell? ⟨bm, 3, none⟩ = some (.slice (some ⟨g6, 0, none⟩) fl.length c6)) w') := Lib.hid fun w' h => by
      obtain ⟨x0, x1, x2, x3⟩ := Ne.netBox_cells (Ne.netBox_below HXn.out h hbe)
      obtain ⟨y0, y1, y2, y3⟩ := Ne.netBox_cells (Ne.netBox_below HXm.out h hbf)
      try simp only [List.length_set, List.length_drop] at y3
      exact ⟨x0, x1, x2, x3, y0, y1, y2, y3⟩
    have HB1 := Lib.hid (show Below WE.heap.size WE WE.drew from Ne.below_drew (Below.refl _ _))
    have hS1 := HSB.out _ HB1.out
    refine Rh.start (S := (fun w' => w'.cell? ⟨bb, 0, none⟩ = some (.int .i64 mn) ∧ w'.cell? ⟨bb, 1, none⟩ = some (.int .i64 ms) ∧ w'.cell? ⟨bb, 2, none⟩ = some (.int .i64 mt) ∧ w'.cell? ⟨bb, 3, none⟩ = some (.slice (some ⟨g, 0, none⟩) fl.length c4) ∧ w'.cell? ⟨bm, 0, none⟩ = some (.int .i64 (mn + 1)) ∧ w'.cell? ⟨bm, 1, none⟩ = some (.int .i64 ms) ∧ w'.cell? ⟨bm, 2, none⟩ = some (.int .i64 mt) ∧ w'.cell? ⟨bm, 3, none⟩ = some (.slice (some ⟨g6, 0, none⟩) fl.length c6))) (by kernel_rfl) ?_
    refine Rh.take (some 92) (i := 0) (v := ?_) rfl (by kernel_rfl) (by kernel_rfl) (by kernel_rfl) (by kernel_rfl) (fun _ _ _ h => h) (Or.inl ⟨by rfl, ?_⟩) hS1 ?_
    rotate_left
    · intro w hSw
      go_simp
      try with_reducible rfl
    try simp only [Act.put, List.setIfInBounds_toArray, List.set_cons_zero, List.set_cons_succ]
    refine Rh.take (some 93) (i := 1) (v := ?_) rfl (by kernel_rfl) (by kernel_rfl) (by kernel_rfl) (by kernel_rfl) (fun _ _ _ h => h) (Or.inl ⟨by rfl, ?_⟩) hS1 ?_
    rotate_left
    · intro w hSw
      go_simp
      try with_reducible rfl
    try simp only [Act.put, List.setIfInBounds_toArray, List.set_cons_zero, List.set_cons_succ]
    refine Rh.step (i := 2) (by kernel_rfl) rfl fun K' hK' => ?_
    have HK := Lib.hid hK'
    clear hK'
    go_simp
    refine (SN.out _ _ _ _ _ (HRn.out.kept HB1.out) (HRn.out.kept HB1.out)).mono ?_
    rintro e w2 ⟨rfl, hb⟩
    have HB2 := Lib.hid (HB1.out.trans (hb.mono HB1.out.size))
    clear hb
    have hS2 := HSB.out w2 HB2.out
    refine HK.out _ _ ⟨hS2, ?_⟩
    clear HK K'
    try simp only [Act.put, List.setIfInBounds_toArray, List.set_cons_zero, List.set_cons_succ]
    refine Rh.take (some 95) (i := 3) (v := ?_) rfl (by kernel_rfl) (by kernel_rfl) (by kernel_rfl) (by kernel_rfl) (fun _ _ _ h => h) (Or.inl ⟨by rfl, ?_⟩) hS2 ?_
    rotate_left
    · intro w hSw
      go_simp
      try with_reducible rfl
    try simp only [Act.put, List.setIfInBounds_toArray, List.set_cons_zero, List.set_cons_succ]
    refine Rh.take (some 96) (i := 4) (v := ?_) rfl (by kernel_rfl) (by kernel_rfl) (by kernel_rfl) (by kernel_rfl) (fun _ _ _ h => h) (Or.inl ⟨by rfl, ?_⟩) hS2 ?_
    rotate_left
    · intro w hSw
      go_simp
      try with_reducible rfl
    try simp only [Act.put, List.setIfInBounds_toArray, List.set_cons_zero, List.set_cons_succ]
    refine Rh.take (some 97) (i := 5) (v := ?_) rfl (by kernel_rfl) (by kernel_rfl) (by kernel_rfl) (by kernel_rfl) (fun _ _ _ h => h) (Or.inl ⟨by rfl, ?_⟩) hS2 ?_
    rotate_left
    · intro w hSw
      go_simp
      try with_reducible rfl
    try simp only [Act.put, List.setIfInBounds_toArray, List.set_cons_zero, List.set_cons_succ]
    refine Rh.step (i := 6) (by kernel_rfl) rfl fun K' hK' => ?_
    have HK := Lib.hid hK'
    clear hK'
    go_simp
    refine (S1.out _ (HRn.out.kept HB2.out) (HRm.out.kept HB2.out)).mono ?_
    rintro e w3 ⟨rfl, hb⟩
    have HB3 := Lib.hid (HB2.out.trans (hb.mono HB2.out.size))
    clear hb
    have hS3 := HSB.out w3 HB3.out
    refine HK.out _ _ ⟨hS3, ?_⟩
    clear HK K'
    try simp only [Act.put, List.setIfInBounds_toArray, List.set_cons_zero, List.set_cons_succ]
    refine Rh.take (some 99) (i := 7) (v := ?_) rfl (by kernel_rfl) (by kernel_rfl) (by kernel_rfl) (by kernel_rfl) (fun _ _ _ h => h) (Or.inl ⟨by rfl, ?_⟩) hS3 ?_
    rotate_left
    · intro w hSw
      go_simp
      try with_reducible rfl
    try simp only [Act.put, List.setIfInBounds_toArray, List.set_cons_zero, List.set_cons_succ]
    refine Rh.take (some 100) (i := 8) (v := ?_) rfl (by kernel_rfl) (by kernel_rfl) (by kernel_rfl) (by kernel_rfl) (fun _ _ _ h => h) (Or.inl ⟨by rfl, ?_⟩) hS3 ?_
    rotate_left
    · intro w hSw
      go_simp
      try with_reducible rfl
    try simp only [Act.put, List.setIfInBounds_toArray, List.set_cons_zero, List.set_cons_succ]
    refine Rh.take (some 101) (i := 9) (v := ?_) rfl (by kernel_rfl) (by kernel_rfl) (by kernel_rfl) (by kernel_rfl) (fun _ _ _ h => h) (Or.inl ⟨by rfl, ?_⟩) hS3 ?_
    rotate_left
    · intro w hSw
      go_simp
      try with_reducible rfl
    try simp only [Act.put, List.setIfInBounds_toArray, List.set_cons_zero, List.set_cons_succ]
    refine Rh.take (some 102) (i := 10) (v := ?_) rfl (by kernel_rfl) (by kernel_rfl) (by kernel_rfl) (by kernel_rfl) (fun _ _ _ h => h) (Or.inl ⟨by rfl, ?_⟩) hS3 ?_
    rotate_left
    · intro w hSw
      go_simp
      try with_reducible rfl
    try simp only [Act.put, List.setIfInBounds_toArray, List.set_cons_zero, List.set_cons_succ]
    refine Rh.take (some 103) (i := 11) (v := ?_) rfl (by kernel_rfl) (by kernel_rfl) (by kernel_rfl) (by kernel_rfl) (fun _ _ _ h => h) (Or.inl ⟨by rfl, ?_⟩) hS3 ?_
    rotate_left
    · intro w hSw
      go_simp
      try with_reducible rfl
    try simp only [Act.put, List.setIfInBounds_toArray, List.set_cons_zero, List.set_cons_succ]
    refine Rh.step (i := 12) (by kernel_rfl) rfl fun K' hK' => ?_
    have HK := Lib.hid hK'
    clear hK'
    go_simp
    refine (S2.out _ (HRm.out.kept HB3.out) (HRn.out.kept HB3.out)).mono ?_
    rintro e w4 ⟨rfl, hb⟩
    have HB4 := Lib.hid (HB3.out.trans (hb.mono HB3.out.size))
    clear hb
    have hS4 := HSB.out w4 HB4.out
    refine HK.out _ _ ⟨hS4, ?_⟩
    clear HK K'
    try simp only [Act.put, List.setIfInBounds_toArray, List.set_cons_zero, List.set_cons_succ]
    refine Rh.take (some 105) (i := 13) (v := ?_) rfl (by kernel_rfl) (by kernel_rfl) (by kernel_rfl) (by kernel_rfl) (fun _ _ _ h => h) (Or.inl ⟨by rfl, ?_⟩) hS4 ?_
    rotate_left
    · intro w hSw
      go_simp
      try with_reducible rfl
    try simp only [Act.put, List.setIfInBounds_toArray, List.set_cons_zero, List.set_cons_succ]
    refine Rh.take (some 106) (i := 14) (v := ?_) rfl (by kernel_rfl) (by kernel_rfl) (by kernel_rfl) (by kernel_rfl) (fun _ _ _ h => h) (Or.inl ⟨by rfl, ?_⟩) hS4 ?_
    rotate_left
    · intro w hSw
      go_simp
      try with_reducible rfl
    try simp only [Act.put, List.setIfInBounds_toArray, List.set_cons_zero, List.set_cons_succ]
    refine Rh.take (some 107) (i := 15) (v := ?_) rfl (by kernel_rfl) (by kernel_rfl) (by kernel_rfl) (by kernel_rfl) (fun _ _ _ h => h) (Or.inl ⟨by rfl, ?_⟩) hS4 ?_
    rotate_left
    · intro w hSw
      go_simp
      try with_reducible rfl
    try simp only [Act.put, List.setIfInBounds_toArray, List.set_cons_zero, List.set_cons_succ]
    refine Rh.take (some 108) (i := 16) (v := ?_) rfl (by kernel_rfl) (by kernel_rfl) (by kernel_rfl) (by kernel_rfl) (fun _ _ _ h => h) (Or.inl ⟨by rfl, ?_⟩) hS4 ?_
    rotate_left
    · intro w hSw
      go_simp
      try with_reducible rfl
    try simp only [Act.put, List.setIfInBounds_toArray, List.set_cons_zero, List.set_cons_succ]
    refine Rh.take (some 110) (i := 18) (v := ?_) rfl (by kernel_rfl) (by kernel_rfl) (by kernel_rfl) (by kernel_rfl) (fun _ _ _ h => h) (Or.inl ⟨by rfl, ?_⟩) hS4 ?_
    rotate_left
    · intro w hSw
      go_simp
      try with_reducible rfl
    try simp only [Act.put, List.setIfInBounds_toArray, List.set_cons_zero, List.set_cons_succ]
    refine Rh.step (i := 17) (by kernel_rfl) rfl fun K' hK' => ?_
    have HK := Lib.hid hK'
    clear hK'
    go_simp
    refine (CPm.out _ (HRm.out.kept HB4.out)).mono ?_
    rintro e w5 ⟨p1, q1, rfl, r1, hb⟩
    have HB5 := Lib.hid (HB4.out.trans (hb.mono HB4.out.size))
    have X1 := Lib.hid (r1)
    clear hb r1
    have hS5 := HSB.out w5 HB5.out
    refine HK.out _ _ ⟨hS5, ?_⟩
    clear HK K'
    try simp only [Act.put, List.setIfInBounds_toArray, List.set_cons_zero, List.set_cons_succ]
    refine Rh.step (i := 19) (by kernel_rfl) rfl fun K' hK' => ?_
    have HK := Lib.hid hK'
    clear hK'
    go_simp
    refine (SM.out _ p1 q1 X1.out (HRm.out.kept HB5.out)).mono ?_
    rintro e w6 ⟨rfl, hb⟩
    have HB6 := Lib.hid (HB5.out.trans (hb.mono HB5.out.size))
    clear hb
    have hS6 := HSB.out w6 HB6.out
    refine HK.out _ _ ⟨hS6, ?_⟩
    clear HK K'
    try simp only [Act.put, List.setIfInBounds_toArray, List.set_cons_zero, List.set_cons_succ]
    refine Rh.take (some 112) (i := 20) (v := ?_) rfl (by kernel_rfl) (by kernel_rfl) (by kernel_rfl) (by kernel_rfl) (fun _ _ _ h => h) (Or.inl ⟨by rfl, ?_⟩) hS6 ?_
    rotate_left
    · intro w hSw
      go_simp
      try with_reducible rfl
    try simp only [Act.put, List.setIfInBounds_toArray, List.set_cons_zero, List.set_cons_succ]
    refine Rh.take (some 10) (i := 21) (v := ?_) rfl (by kernel_rfl) (by kernel_rfl) (by kernel_rfl) (by kernel_rfl) (fun _ _ _ h => h) (Or.inl ⟨by rfl, ?_⟩) hS6 ?_
    rotate_left
    · intro w hSw
      go_simp
      try with_reducible rfl
    try simp only [Act.put, List.setIfInBounds_toArray, List.set_cons_zero, List.set_cons_succ]
    refine Rh.done (by kernel_rfl) ?_ _
    go_wp2
    go_ret
    exact ⟨rfl, HBs.out.trans (HB6.out.mono HBs.out.size)⟩
  · subst h9
    have HD := same_not (a := ⟨mn, ms, mt, fl⟩) (b := ⟨mn, (ms + 1), mt, fl⟩) (.inr (.inl (by simp only; omega)))
    have HXn := Lib.hid (Ne.netBox_other HX6.out (b2 := bm) (o := 1) (v2 := .int .i64 (ms + 1)) hbm)
    have HXm := Lib.hid (Ne.netBox_set1 (s2 := ms + 1) HM6.out)
    have HRm := Lib.hid (Ne.arow_of (Rw.own_set HO6.out (p := ⟨bm, 1, none⟩) (Ne.own_ne_box HO6.out HM6.out) (.int .i64 (ms + 1)))).2.2
    have HBs := Lib.hid (HB6.out.setCell (p := ⟨bm, 1, none⟩) (by have := HB6.out.size; simp only; omega) (.int .i64 (ms + 1)))
    have HRn := Lib.hid (show Ne.ARow (W7.setCell ⟨bm, 1, none⟩ (.int .i64 (ms + 1))) (some ⟨g, 0, none⟩) fl from by
      rcases HR6.out with h | ⟨b, off, e, hlt, hc⟩
      · exact .inl h
      · cases e
        refine .inr ⟨g, 0, rfl, by simpa [World.setCell] using hlt, fun i x hx j v hv => ?_⟩
        rw [World.cell?_setCell_far _ _ _ _ (show (⟨bm, 1, none⟩ : Addr).block ≠ g by simp only; omega)]
        exact hc i x hx j v hv)
    have S1 := Lib.hid fun w' (h1 : Ne.ARow w' (some ⟨g, 0, none⟩) fl) (h2 : Ne.ARow w' (some ⟨g6, 0, none⟩) fl) => Ne.dsame_any ⟨mn, ms, mt, fl⟩ ⟨mn, (ms + 1), mt, fl⟩ (some ⟨g, 0, none⟩) (some ⟨g6, 0, none⟩) c4 c6 w' h1 h2 (by simp only; omega) (by simp; omega)
    have S2 := Lib.hid fun w' (h1 : Ne.ARow w' (some ⟨g6, 0, none⟩) fl) (h2 : Ne.ARow w' (some ⟨g, 0, none⟩) fl) => Ne.dsame_any ⟨mn, (ms + 1), mt, fl⟩ ⟨mn, ms, mt, fl⟩ (some ⟨g6, 0, none⟩) (some ⟨g, 0, none⟩) c6 c4 w' h1 h2 (by simp; omega) (by simp only; omega)
    have CPm := Lib.hid fun w' (h : Ne.ARow w' (some ⟨g6, 0, none⟩) fl) => Ne.copy_s ⟨mn, (ms + 1), mt, fl⟩ (some ⟨g6, 0, none⟩) c6 w' (fun h => by cases h) h (by simp; omega)
    have SM := Lib.hid fun w' x q (h1 : Ne.ARow w' x fl) (h2 : Ne.ARow w' (some ⟨g6, 0, none⟩) fl) => Ne.dsame_s ⟨mn, (ms + 1), mt, fl⟩ x (some ⟨g6, 0, none⟩) q c6 w' h1 h2 (by simp; omega)
    rw [HD.1] at S1
    rw [HD.2] at S2
    simp only [Ne.encN, List.length_set, List.length_drop] at S1 S2 CPm SM SN
    clear HD
    go_wp2_with fail
    generalize (W7.setCell ⟨bm, 1, none⟩ (.int .i64 (ms + 1))) = WE at *
    clear n0 n1 n2 n3 nf0 nf1 nf2 nf3 c0' c1' c2' z0' z1' z2'
    have hbe := Ne.netBox_lt HXn.out
    have hbf := Ne.netBox_lt HXm.out
    have HSB : Hid (∀ w', Below WE.heap.size WE w' → (fun w' => w'.cell? ⟨bb, 0, none⟩ = some (.int .i64 mn) ∧ w'.cell? ⟨bb, 1, none⟩ = some (.int .i64 ms) ∧ w'.cell? ⟨bb, 2, none⟩ = some (.int .i64 mt) ∧ w'.cell? ⟨bb, 3, none⟩ = some (.slice (some ⟨g, 0, none⟩) fl.length c4) ∧ w'.cell? ⟨bm, 0, none⟩ = some (.int .i64 mn) ∧ w'.cell? ⟨bm, 1, none⟩ = some (.int .i64 (ms + 1)) ∧ w'.cell? ⟨bm, 2, none⟩ = some (.int .i64 mt) ∧ w'.cell? ⟨bm, 3, none⟩ = some (.slice (some ⟨g6, 0, none⟩) fl.length c6)) w') := Lib.hid fun w' h => by
      obtain ⟨x0, x1, x2, x3⟩ := Ne.netBox_cells (Ne.netBox_below HXn.out h hbe)
      obtain ⟨y0, y1, y2, y3⟩ := Ne.netBox_cells (Ne.netBox_below HXm.out h hbf)
      try simp only [List.length_set, List.length_drop] at y3
      exact ⟨x0, x1, x2, x3, y0, y1, y2, y3⟩
    have HB1 := Lib.hid (show Below WE.heap.size WE WE.drew from Ne.below_drew (Below.refl _ _))
    have hS1 := HSB.out _ HB1.out
    refine Rh.start (S := (fun w' => w'.cell? ⟨bb, 0, none⟩ = some (.int .i64 mn) ∧ w'.cell? ⟨bb, 1, none⟩ = some (.int .i64 ms) ∧ w'.cell? ⟨bb, 2, none⟩ = some (.int .i64 mt) ∧ w'.cell? ⟨bb, 3, none⟩ = some (.slice (some ⟨g, 0, none⟩) fl.length c4) ∧ w'.cell? ⟨bm, 0, none⟩ = some (.int .i64 mn) ∧ w'.cell? ⟨bm, 1, none⟩ = some (.int .i64 (ms + 1)) ∧ w'.cell? ⟨bm, 2, none⟩ = some (.int .i64 mt) ∧ w'.cell? ⟨bm, 3, none⟩ = some (.slice (some ⟨g6, 0, none⟩) fl.length c6))) (by kernel_rfl) ?_
    refine Rh.take (some 92) (i := 0) (v := ?_) rfl (by kernel_rfl) (by kernel_rfl) (by kernel_rfl) (by kernel_rfl) (fun _ _ _ h => h) (Or.inl ⟨by rfl, ?_⟩) hS1 ?_
    rotate_left
    · intro w hSw
      go_simp
      try with_reducible rfl
    try simp only [Act.put, List.setIfInBounds_toArray, List.set_cons_zero, List.set_cons_succ]
    refine Rh.take (some 93) (i := 1) (v := ?_) rfl (by kernel_rfl) (by kernel_rfl) (by kernel_rfl) (by kernel_rfl) (fun _ _ _ h => h) (Or.inl ⟨by rfl, ?_⟩) hS1 ?_
    rotate_left
    · intro w hSw
      go_simp
      try with_reducible rfl
    try simp only [Act.put, List.setIfInBounds_toArray, List.set_cons_zero, List.set_cons_succ]
    refine Rh.step (i := 2) (by kernel_rfl) rfl fun K' hK' => ?_
    have HK := Lib.hid hK'
    clear hK'
    go_simp
    refine (SN.out _ _ _ _ _ (HRn.out.kept HB1.out) (HRn.out.kept HB1.out)).mono ?_
    rintro e w2 ⟨rfl, hb⟩
    have HB2 := Lib.hid (HB1.out.trans (hb.mono HB1.out.size))
    clear hb
    have hS2 := HSB.out w2 HB2.out
    refine HK.out _ _ ⟨hS2, ?_⟩
    clear HK K'
    try simp only [Act.put, List.setIfInBounds_toArray, List.set_cons_zero, List.set_cons_succ]
    refine Rh.take (some 95) (i := 3) (v := ?_) rfl (by kernel_rfl) (by kernel_rfl) (by kernel_rfl) (by kernel_rfl) (fun _ _ _ h => h) (Or.inl ⟨by rfl, ?_⟩) hS2 ?_
    rotate_left
    · intro w hSw
      go_simp
      try with_reducible rfl
    try simp only [Act.put, List.setIfInBounds_toArray, List.set_cons_zero, List.set_cons_succ]
    refine Rh.take (some 96) (i := 4) (v := ?_) rfl (by kernel_rfl) (by kernel_rfl) (by kernel_rfl) (by kernel_rfl) (fun _ _ _ h => h) (Or.inl ⟨by rfl, ?_⟩) hS2 ?_
    rotate_left
    · intro w hSw
      go_simp
      try with_reducible rfl
    try simp only [Act.put, List.setIfInBounds_toArray, List.set_cons_zero, List.set_cons_succ]
    refine Rh.take (some 97) (i := 5) (v := ?_) rfl (by kernel_rfl) (by kernel_rfl) (by kernel_rfl) (by kernel_rfl) (fun _ _ _ h => h) (Or.inl ⟨by rfl, ?_⟩) hS2 ?_
    rotate_left
    · intro w hSw
      go_simp
      try with_reducible rfl
    try simp only [Act.put, List.setIfInBounds_toArray, List.set_cons_zero, List.set_cons_succ]
    refine Rh.step (i := 6) (by kernel_rfl) rfl fun K' hK' => ?_
    have HK := Lib.hid hK'
    clear hK'
    go_simp
    refine (S1.out _ (HRn.out.kept HB2.out) (HRm.out.kept HB2.out)).mono ?_
    rintro e w3 ⟨rfl, hb⟩
    have HB3 := Lib.hid (HB2.out.trans (hb.mono HB2.out.size))
    clear hb
    have hS3 := HSB.out w3 HB3.out
    refine HK.out _ _ ⟨hS3, ?_⟩
    clear HK K'
    try simp only [Act.put, List.setIfInBounds_toArray, List.set_cons_zero, List.set_cons_succ]
    refine Rh.take (some 99) (i := 7) (v := ?_) rfl (by kernel_rfl) (by kernel_rfl) (by kernel_rfl) (by kernel_rfl) (fun _ _ _ h => h) (Or.inl ⟨by rfl, ?_⟩) hS3 ?_
    rotate_left
    · intro w hSw
      go_simp
      try with_reducible rfl
    try simp only [Act.put, List.setIfInBounds_toArray, List.set_cons_zero, List.set_cons_succ]
    refine Rh.take (some 100) (i := 8) (v := ?_) rfl (by kernel_rfl) (by kernel_rfl) (by kernel_rfl) (by kernel_rfl) (fun _ _ _ h => h) (Or.inl ⟨by rfl, ?_⟩) hS3 ?_
    rotate_left
    · intro w hSw
      go_simp
      try with_reducible rfl
    try simp only [Act.put, List.setIfInBounds_toArray, List.set_cons_zero, List.set_cons_succ]
    refine Rh.take (some 101) (i := 9) (v := ?_) rfl (by kernel_rfl) (by kernel_rfl) (by kernel_rfl) (by kernel_rfl) (fun _ _ _ h => h) (Or.inl ⟨by rfl, ?_⟩) hS3 ?_
    rotate_left
    · intro w hSw
      go_simp
      try with_reducible rfl
    try simp only [Act.put, List.setIfInBounds_toArray, List.set_cons_zero, List.set_cons_succ]
    refine Rh.take (some 102) (i := 10) (v := ?_) rfl (by kernel_rfl) (by kernel_rfl) (by kernel_rfl) (by kernel_rfl) (fun _ _ _ h => h) (Or.inl ⟨by rfl, ?_⟩) hS3 ?_
    rotate_left
    · intro w hSw
      go_simp
      try with_reducible rfl
    try simp only [Act.put, List.setIfInBounds_toArray, List.set_cons_zero, List.set_cons_succ]
    refine Rh.take (some 103) (i := 11) (v := ?_) rfl (by kernel_rfl) (by kernel_rfl) (by kernel_rfl) (by kernel_rfl) (fun _ _ _ h => h) (Or.inl ⟨by rfl, ?_⟩) hS3 ?_
    rotate_left
    · intro w hSw
      go_simp
      try with_reducible rfl
    try simp only [Act.put, List.setIfInBounds_toArray, List.set_cons_zero, List.set_cons_succ]
    refine Rh.step (i := 12) (by kernel_rfl) rfl fun K' hK' => ?_
    have HK := Lib.hid hK'
    clear hK'
    go_simp
    refine (S2.out _ (HRm.out.kept HB3.out) (HRn.out.kept HB3.out)).mono ?_
    rintro e w4 ⟨rfl, hb⟩
    have HB4 := Lib.hid (HB3.out.trans (hb.mono HB3.out.size))
    clear hb
    have hS4 := HSB.out w4 HB4.out
    refine HK.out _ _ ⟨hS4, ?_⟩
    clear HK K'
    try simp only [Act.put, List.setIfInBounds_toArray, List.set_cons_zero, List.set_cons_succ]
    refine Rh.take (some 105) (i := 13) (v := ?_) rfl (by kernel_rfl) (by kernel_rfl) (by kernel_rfl) (by kernel_rfl) (fun _ _ _ h => h) (Or.inl ⟨by rfl, ?_⟩) hS4 ?_
    rotate_left
    · intro w hSw
      go_simp
      try with_reducible rfl
    try simp only [Act.put, List.setIfInBounds_toArray, List.set_cons_zero, List.set_cons_succ]
    refine Rh.take (some 106) (i := 14) (v := ?_) rfl (by kernel_rfl) (by kernel_rfl) (by kernel_rfl) (by kernel_rfl) (fun _ _ _ h => h) (Or.inl ⟨by rfl, ?_⟩) hS4 ?_
    rotate_left
    · intro w hSw
      go_simp
      try with_reducible rfl
    try simp only [Act.put, List.setIfInBounds_toArray, List.set_cons_zero, List.set_cons_succ]
    refine Rh.take (some 107) (i := 15) (v := ?_) rfl (by kernel_rfl) (by kernel_rfl) (by kernel_rfl) (by kernel_rfl) (fun _ _ _ h => h) (Or.inl ⟨by rfl, ?_⟩) hS4 ?_
    rotate_left
    · intro w hSw
      go_simp
      try with_reducible rfl
    try simp only [Act.put, List.setIfInBounds_toArray, List.set_cons_zero, List.set_cons_succ]
    refine Rh.take (some 108) (i := 16) (v := ?_) rfl (by kernel_rfl) (by kernel_rfl) (by kernel_rfl) (by kernel_rfl) (fun _ _ _ h => h) (Or.inl ⟨by rfl, ?_⟩) hS4 ?_
    rotate_left
    · intro w hSw
      go_simp
      try with_reducible rfl
    try simp only [Act.put, List.setIfInBounds_toArray, List.set_cons_zero, List.set_cons_succ]
    refine Rh.take (some 110) (i := 18) (v := ?_) rfl (by kernel_rfl) (by kernel_rfl) (by kernel_rfl) (by kernel_rfl) (fun _ _ _ h => h) (Or.inl ⟨by rfl, ?_⟩) hS4 ?_
    rotate_left
    · intro w hSw
      go_simp
      try with_reducible rfl
    try simp only [Act.put, List.setIfInBounds_toArray, List.set_cons_zero, List.set_cons_succ]
    refine Rh.step (i := 17) (by kernel_rfl) rfl fun K' hK' => ?_
    have HK := Lib.hid hK'
    clear hK'
    go_simp
    refine (CPm.out _ (HRm.out.kept HB4.out)).mono ?_
    rintro e w5 ⟨p1, q1, rfl, r1, hb⟩
    have HB5 := Lib.hid (HB4.out.trans (hb.mono HB4.out.size))
    have X1 := Lib.hid (r1)
    clear hb r1
    have hS5 := HSB.out w5 HB5.out
    refine HK.out _ _ ⟨hS5, ?_⟩
    clear HK K'
    try simp only [Act.put, List.setIfInBounds_toArray, List.set_cons_zero, List.set_cons_succ]
    refine Rh.step (i := 19) (by kernel_rfl) rfl fun K' hK' => ?_
    have HK := Lib.hid hK'
    clear hK'
    go_simp
    refine (SM.out _ p1 q1 X1.out (HRm.out.kept HB5.out)).mono ?_
    rintro e w6 ⟨rfl, hb⟩
    have HB6 := Lib.hid (HB5.out.trans (hb.mono HB5.out.size))
    clear hb
    have hS6 := HSB.out w6 HB6.out
    refine HK.out _ _ ⟨hS6, ?_⟩
    clear HK K'
    try simp only [Act.put, List.setIfInBounds_toArray, List.set_cons_zero, List.set_cons_succ]
    refine Rh.take (some 112) (i := 20) (v := ?_) rfl (by kernel_rfl) (by kernel_rfl) (by kernel_rfl) (by kernel_rfl) (fun _ _ _ h => h) (Or.inl ⟨by rfl, ?_⟩) hS6 ?_
    rotate_left
    · intro w hSw
      go_simp
      try with_reducible rfl
    try simp only [Act.put, List.setIfInBounds_toArray, List.set_cons_zero, List.set_cons_succ]
    refine Rh.take (some 10) (i := 21) (v := ?_) rfl (by kernel_rfl) (by kernel_rfl) (by kernel_rfl) (by kernel_rfl) (fun _ _ _ h => h) (Or.inl ⟨by rfl, ?_⟩) hS6 ?_
    rotate_left
    · intro w hSw
      go_simp
      try with_reducible rfl
    try simp only [Act.put, List.setIfInBounds_toArray, List.set_cons_zero, List.set_cons_succ]
    refine Rh.done (by kernel_rfl) ?_ _
    go_wp2
    go_ret
    exact ⟨rfl, HBs.out.trans (HB6.out.mono HBs.out.size)⟩
  · subst h9
    have HD := same_not (a := ⟨mn, ms, mt, fl⟩) (b := ⟨mn, ms, (mt - 1), fl⟩) (.inr (.inr (.inl (by simp only; omega))))
    have HXn := Lib.hid (Ne.netBox_other HX6.out (b2 := bm) (o := 2) (v2 := .int .i64 (mt - 1)) hbm)
    have HXm := Lib.hid (Ne.netBox_set2' (t2 := mt - 1) HM6.out)
    have HRm := Lib.hid (Ne.arow_of (Rw.own_set HO6.out (p := ⟨bm, 2, none⟩) (Ne.own_ne_box HO6.out HM6.out) (.int .i64 (mt - 1)))).2.2
    have HBs := Lib.hid (HB6.out.setCell (p := ⟨bm, 2, none⟩) (by have := HB6.out.size; simp only; omega) (.int .i64 (mt - 1)))
    have HRn := Lib.hid (show Ne.ARow (W7.setCell ⟨bm, 2, none⟩ (.int .i64 (mt - 1))) (some ⟨g, 0, none⟩) fl from by
      rcases HR6.out with h | ⟨b, off, e, hlt, hc⟩
      · exact .inl h
      · cases e
        refine .inr ⟨g, 0, rfl, by simpa [World.setCell] using hlt, fun i x hx j v hv => ?_⟩
        rw [World.cell?_setCell_far _ _ _ _ (show (⟨bm, 2, none⟩ : Addr).block ≠ g by simp only; omega)]
        exact hc i x hx j v hv)
    have S1 := Lib.hid fun w' (h1 : Ne.ARow w' (some ⟨g, 0, none⟩) fl) (h2 : Ne.ARow w' (some ⟨g6, 0, none⟩) fl) => Ne.dsame_any ⟨mn, ms, mt, fl⟩ ⟨mn, ms, (mt - 1), fl⟩ (some ⟨g, 0, none⟩) (some ⟨g6, 0, none⟩) c4 c6 w' h1 h2 (by simp only; omega) (by simp; omega)
    have S2 := Lib.hid fun w' (h1 : Ne.ARow w' (some ⟨g6, 0, none⟩) fl) (h2 : Ne.ARow w' (some ⟨g, 0, none⟩) fl) => Ne.dsame_any ⟨mn, ms, (mt - 1), fl⟩ ⟨mn, ms, mt, fl⟩ (some ⟨g6, 0, none⟩) (some ⟨g, 0, none⟩) c6 c4 w' h1 h2 (by simp; omega) (by simp only; omega)
    have CPm := Lib.hid fun w' (h : Ne.ARow w' (some ⟨g6, 0, none⟩) fl) => Ne.copy_s ⟨mn, ms, (mt - 1), fl⟩ (some ⟨g6, 0, none⟩) c6 w' (fun h => by cases h) h (by simp; omega)
    have SM := Lib.hid fun w' x q (h1 : Ne.ARow w' x fl) (h2 : Ne.ARow w' (some ⟨g6, 0, none⟩) fl) => Ne.dsame_s ⟨mn, ms, (mt - 1), fl⟩ x (some ⟨g6, 0, none⟩) q c6 w' h1 h2 (by simp; omega)
    rw [HD.1] at S1
    rw [HD.2] at S2
    simp only [Ne.encN, List.length_set, List.length_drop] at S1 S2 CPm SM SN
    clear HD
    go_wp2_with fail
    generalize (W7.setCell ⟨bm, 2, none⟩ (.int .i64 (mt - 1))) = WE at *
    clear n0 n1 n2 n3 nf0 nf1 nf2 nf3 c0' c1' c2' z0' z1' z2'
    have hbe := Ne.netBox_lt HXn.out
    have hbf := Ne.netBox_lt HXm.out
    have HSB : Hid (∀ w', Below WE.heap.size WE w' → (fun w' => w'.cell? ⟨bb, 0, none⟩ = some (.int .i64 mn) ∧ w'.cell? ⟨bb, 1, none⟩ = some (.int .i64 ms) ∧ w'.cell? ⟨bb, 2, none⟩ = some (.int .i64 mt) ∧ w'.cell? ⟨bb, 3, none⟩ = some (.slice (some ⟨g, 0, none⟩) fl.length c4) ∧ w'.cell? ⟨bm, 0, none⟩ = some (.int .i64 mn) ∧ w'.cell? ⟨bm, 1, none⟩ = some (.int .i64 ms) ∧ w'.cell? ⟨bm, 2, none⟩ = some (.int .i64 (mt - 1)) ∧ w'.cell? ⟨bm, 3, none⟩ = some (.slice (some ⟨g6, 0, none⟩) fl.length c6)) w') := Lib.hid fun w' h => by
      obtain ⟨x0, x1, x2, x3⟩ := Ne.netBox_cells (Ne.netBox_below HXn.out h hbe)
      obtain ⟨y0, y1, y2, y3⟩ := Ne.netBox_cells (Ne.netBox_below HXm.out h hbf)
      try simp only [List.length_set, List.length_drop] at y3
      exact ⟨x0, x1, x2, x3, y0, y1, y2, y3⟩
    have HB1 := Lib.hid (show Below WE.heap.size WE WE.drew from Ne.below_drew (Below.refl _ _))
    have hS1 := HSB.out _ HB1.out
    refine Rh.start (S := (fun w' => w'.cell? ⟨bb, 0, none⟩ = some (.int .i64 mn) ∧ w'.cell? ⟨bb, 1, none⟩ = some (.int .i64 ms) ∧ w'.cell? ⟨bb, 2, none⟩ = some (.int .i64 mt) ∧ w'.cell? ⟨bb, 3, none⟩ = some (.slice (some ⟨g, 0, none⟩) fl.length c4) ∧ w'.cell? ⟨bm, 0, none⟩ = some (.int .i64 mn) ∧ w'.cell? ⟨bm, 1, none⟩ = some (.int .i64 ms) ∧ w'.cell? ⟨bm, 2, none⟩ = some (.int .i64 (mt - 1)) ∧ w'.cell? ⟨bm, 3, none⟩ = some (.slice (some ⟨g6, 0, none⟩) fl.length c6))) (by kernel_rfl) ?_
    refine Rh.take (some 92) (i := 0) (v := ?_) rfl (by kernel_rfl) (by kernel_rfl) (by kernel_rfl) (by kernel_rfl) (fun _ _ _ h => h) (Or.inl ⟨by rfl, ?_⟩) hS1 ?_
    rotate_left
    · intro w hSw
      go_simp
      try with_reducible rfl
    try simp only [Act.put, List.setIfInBounds_toArray, List.set_cons_zero, List.set_cons_succ]
    refine Rh.take (some 93) (i := 1) (v := ?_) rfl (by kernel_rfl) (by kernel_rfl) (by kernel_rfl) (by kernel_rfl) (fun _ _ _ h => h) (Or.inl ⟨by rfl, ?_⟩) hS1 ?_
    rotate_left
    · intro w hSw
      go_simp
      try with_reducible rfl
    try simp only [Act.put, List.setIfInBounds_toArray, List.set_cons_zero, List.set_cons_succ]
    refine Rh.step (i := 2) (by kernel_rfl) rfl fun K' hK' => ?_
    have HK := Lib.hid hK'
    clear hK'
    go_simp
    refine (SN.out _ _ _ _ _ (HRn.out.kept HB1.out) (HRn.out.kept HB1.out)).mono ?_
    rintro e w2 ⟨rfl, hb⟩
    have HB2 := Lib.hid (HB1.out.trans (hb.mono HB1.out.size))
    clear hb
    have hS2 := HSB.out w2 HB2.out
    refine HK.out _ _ ⟨hS2, ?_⟩
    clear HK K'
    try simp only [Act.put, List.setIfInBounds_toArray, List.set_cons_zero, List.set_cons_succ]
    refine Rh.take (some 95) (i := 3) (v := ?_) rfl (by kernel_rfl) (by kernel_rfl) (by kernel_rfl) (by kernel_rfl) (fun _ _ _ h => h) (Or.inl ⟨by rfl, ?_⟩) hS2 ?_
    rotate_left
    · intro w hSw
      go_simp
      try with_reducible rfl
    try simp only [Act.put, List.setIfInBounds_toArray, List.set_cons_zero, List.set_cons_succ]
    refine Rh.take (some 96) (i := 4) (v := ?_) rfl (by kernel_rfl) (by kernel_rfl) (by kernel_rfl) (by kernel_rfl) (fun _ _ _ h => h) (Or.inl ⟨by rfl, ?_⟩) hS2 ?_
    rotate_left
    · intro w hSw
      go_simp
      try with_reducible rfl
    try simp only [Act.put, List.setIfInBounds_toArray, List.set_cons_zero, List.set_cons_succ]
    refine Rh.take (some 97) (i := 5) (v := ?_) rfl (by kernel_rfl) (by kernel_rfl) (by kernel_rfl) (by kernel_rfl) (fun _ _ _ h => h) (Or.inl ⟨by rfl, ?_⟩) hS2 ?_
    rotate_left
    · intro w hSw
      go_simp
      try with_reducible rfl
    try simp only [Act.put, List.setIfInBounds_toArray, List.set_cons_zero, List.set_cons_succ]
    refine Rh.step (i := 6) (by kernel_rfl) rfl fun K' hK' => ?_
    have HK := Lib.hid hK'
    clear hK'
    go_simp
    refine (S1.out _ (HRn.out.kept HB2.out) (HRm.out.kept HB2.out)).mono ?_
    rintro e w3 ⟨rfl, hb⟩
    have HB3 := Lib.hid (HB2.out.trans (hb.mono HB2.out.size))
    clear hb
    have hS3 := HSB.out w3 HB3.out
    refine HK.out _ _ ⟨hS3, ?_⟩
    clear HK K'
    try simp only [Act.put, List.setIfInBounds_toArray, List.set_cons_zero, List.set_cons_succ]
    refine Rh.take (some 99) (i := 7) (v := ?_) rfl (by kernel_rfl) (by kernel_rfl) (by kernel_rfl) (by kernel_rfl) (fun _ _ _ h => h) (Or.inl ⟨by rfl, ?_⟩) hS3 ?_
    rotate_left
    · intro w hSw
      go_simp
      try with_reducible rfl
    try simp only [Act.put, List.setIfInBounds_toArray, List.set_cons_zero, List.set_cons_succ]
    refine Rh.take (some 100) (i := 8) (v := ?_) rfl (by kernel_rfl) (by kernel_rfl) (by kernel_rfl) (by kernel_rfl) (fun _ _ _ h => h) (Or.inl ⟨by rfl, ?_⟩) hS3 ?_
    rotate_left
    · intro w hSw
      go_simp
      try with_reducible rfl
    try simp only [Act.put, List.setIfInBounds_toArray, List.set_cons_zero, List.set_cons_succ]
    refine Rh.take (some 101) (i := 9) (v := ?_) rfl (by kernel_rfl) (by kernel_rfl) (by kernel_rfl) (by kernel_rfl) (fun _ _ _ h => h) (Or.inl ⟨by rfl, ?_⟩) hS3 ?_
    rotate_left
    · intro w hSw
      go_simp
      try with_reducible rfl
    try simp only [Act.put, List.setIfInBounds_toArray, List.set_cons_zero, List.set_cons_succ]
    refine Rh.take (some 102) (i := 10) (v := ?_) rfl (by kernel_rfl) (by kernel_rfl) (by kernel_rfl) (by kernel_rfl) (fun _ _ _ h => h) (Or.inl ⟨by rfl, ?_⟩) hS3 ?_
    rotate_left
    · intro w hSw
      go_simp
      try with_reducible rfl
    try simp only [Act.put, List.setIfInBounds_toArray, List.set_cons_zero, List.set_cons_succ]
    refine Rh.take (some 103) (i := 11) (v := ?_) rfl (by kernel_rfl) (by kernel_rfl) (by kernel_rfl) (by kernel_rfl) (fun _ _ _ h => h) (Or.inl ⟨by rfl, ?_⟩) hS3 ?_
    rotate_left
    · intro w hSw
      go_simp
      try with_reducible rfl
    try simp only [Act.put, List.setIfInBounds_toArray, List.set_cons_zero, List.set_cons_succ]
    refine Rh.step (i := 12) (by kernel_rfl) rfl fun K' hK' => ?_
    have HK := Lib.hid hK'
    clear hK'
    go_simp
    refine (S2.out _ (HRm.out.kept HB3.out) (HRn.out.kept HB3.out)).mono ?_
    rintro e w4 ⟨rfl, hb⟩
    have HB4 := Lib.hid (HB3.out.trans (hb.mono HB3.out.size))
    clear hb
    have hS4 := HSB.out w4 HB4.out
    refine HK.out _ _ ⟨hS4, ?_⟩
    clear HK K'
    try simp only [Act.put, List.setIfInBounds_toArray, List.set_cons_zero, List.set_cons_succ]
    refine Rh.take (some 105) (i := 13) (v := ?_) rfl (by kernel_rfl) (by kernel_rfl) (by kernel_rfl) (by kernel_rfl) (fun _ _ _ h => h) (Or.inl ⟨by rfl, ?_⟩) hS4 ?_
    rotate_left
    · intro w hSw
      go_simp
      try with_reducible rfl
    try simp only [Act.put, List.setIfInBounds_toArray, List.set_cons_zero, List.set_cons_succ]
    refine Rh.take (some 106) (i := 14) (v := ?_) rfl (by kernel_rfl) (by kernel_rfl) (by kernel_rfl) (by kernel_rfl) (fun _ _ _ h => h) (Or.inl ⟨by rfl, ?_⟩) hS4 ?_
    rotate_left
    · intro w hSw
      go_simp
      try with_reducible rfl
    try simp only [Act.put, List.setIfInBounds_toArray, List.set_cons_zero, List.set_cons_succ]
    refine Rh.take (some 107) (i := 15) (v := ?_) rfl (by kernel_rfl) (by kernel_rfl) (by kernel_rfl) (by kernel_rfl) (fun _ _ _ h => h) (Or.inl ⟨by rfl, ?_⟩) hS4 ?_
    rotate_left
    · intro w hSw
      go_simp
      try with_reducible rfl
    try simp only [Act.put, List.setIfInBounds_toArray, List.set_cons_zero, List.set_cons_succ]
    refine Rh.take (some 108) (i := 16) (v := ?_) rfl (by kernel_rfl) (by kernel_rfl) (by kernel_rfl) (by kernel_rfl) (fun _ _ _ h => h) (Or.inl ⟨by rfl, ?_⟩) hS4 ?_
    rotate_left
    · intro w hSw
      go_simp
      try with_reducible rfl
    try simp only [Act.put, List.setIfInBounds_toArray, List.set_cons_zero, List.set_cons_succ]
    refine Rh.take (some 110) (i := 18) (v := ?_) rfl (by kernel_rfl) (by kernel_rfl) (by kernel_rfl) (by kernel_rfl) (fun _ _ _ h => h) (Or.inl ⟨by rfl, ?_⟩) hS4 ?_
    rotate_left
    · intro w hSw
      go_simp
      try with_reducible rfl
    try simp only [Act.put, List.setIfInBounds_toArray, List.set_cons_zero, List.set_cons_succ]
    refine Rh.step (i := 17) (by kernel_rfl) rfl fun K' hK' => ?_
    have HK := Lib.hid hK'
    clear hK'
    go_simp
    refine (CPm.out _ (HRm.out.kept HB4.out)).mono ?_
    rintro e w5 ⟨p1, q1, rfl, r1, hb⟩
    have HB5 := Lib.hid (HB4.out.trans (hb.mono HB4.out.size))
    have X1 := Lib.hid (r1)
    clear hb r1
    have hS5 := HSB.out w5 HB5.out
    refine HK.out _ _ ⟨hS5, ?_⟩
    clear HK K'
    try simp only [Act.put, List.setIfInBounds_toArray, List.set_cons_zero, List.set_cons_succ]
    refine Rh.step (i := 19) (by kernel_rfl) rfl fun K' hK' => ?_
    have HK := Lib.hid hK'
    clear hK'
    go_simp
    refine (SM.out _ p1 q1 X1.out (HRm.out.kept HB5.out)).mono ?_
    rintro e w6 ⟨rfl, hb⟩
    have HB6 := Lib.hid (HB5.out.trans (hb.mono HB5.out.size))
    clear hb
    have hS6 := HSB.out w6 HB6.out
    refine HK.out _ _ ⟨hS6, ?_⟩
    clear HK K'
    try simp only [Act.put, List.setIfInBounds_toArray, List.set_cons_zero, List.set_cons_succ]
    refine Rh.take (some 112) (i := 20) (v := ?_) rfl (by kernel_rfl) (by kernel_rfl) (by kernel_rfl) (by kernel_rfl) (fun _ _ _ h => h) (Or.inl ⟨by rfl, ?_⟩) hS6 ?_
    rotate_left
    · intro w hSw
      go_simp
      try with_reducible rfl
    try simp only [Act.put, List.setIfInBounds_toArray, List.set_cons_zero, List.set_cons_succ]
    refine Rh.take (some 10) (i := 21) (v := ?_) rfl (by kernel_rfl) (by kernel_rfl) (by kernel_rfl) (by kernel_rfl) (fun _ _ _ h => h) (Or.inl ⟨by rfl, ?_⟩) hS6 ?_
    rotate_left
    · intro w hSw
      go_simp
      try with_reducible rfl
    try simp only [Act.put, List.setIfInBounds_toArray, List.set_cons_zero, List.set_cons_succ]
    refine Rh.done (by kernel_rfl) ?_ _
    go_wp2
    go_ret
    exact ⟨rfl, HBs.out.trans (HB6.out.mono HBs.out.size)⟩
  · subst h9
    have HD := same_not (a := ⟨mn, ms, mt, fl⟩) (b := ⟨mn, ms, mt, (fl.set kk ⟨ak.fr + 1, ak.to, ak.cap⟩)⟩) (.inr (.inr (.inr (Ne.symm (set_ne HAK.out (fun e => by have := congrArg Ne.Arc.fr e; simp only at this; omega))))))
    have HXn := Lib.hid (Ne.netBox_other HX6.out (b2 := g6) (o := kk * 3) (v2 := .int .i64 (ak.fr + 1)) (Ne.symm hgb6))
    have HXm := Lib.hid (Ne.netBox_other HM6.out (b2 := g6) (o := kk * 3) (v2 := .int .i64 (ak.fr + 1)) (Ne.symm hgm))
    have HRm := Lib.hid (Ne.arow_of (Ne.own_put Ne.encA_len HO6.out (i := kk) (x := ak) (y := ⟨ak.fr + 1, ak.to, ak.cap⟩) HAK.out (j := 0) (by omega) (u := .int .i64 (ak.fr + 1)) rfl)).2.2
    have HBs := Lib.hid (HB6.out.setCell (p := ⟨g6, kk * 3, none⟩) (by have := HB6.out.size; simp only; omega) (.int .i64 (ak.fr + 1)))
    have HRn := Lib.hid (show Ne.ARow (W7.setCell ⟨g6, kk * 3, none⟩ (.int .i64 (ak.fr + 1))) (some ⟨g, 0, none⟩) fl from by
      rcases HR6.out with h | ⟨b, off, e, hlt, hc⟩
      · exact .inl h
      · cases e
        refine .inr ⟨g, 0, rfl, by simpa [World.setCell] using hlt, fun i x hx j v hv => ?_⟩
        rw [World.cell?_setCell_far _ _ _ _ (show (⟨g6, kk * 3, none⟩ : Addr).block ≠ g by simp only; omega)]
        exact hc i x hx j v hv)
    have S1 := Lib.hid fun w' (h1 : Ne.ARow w' (some ⟨g, 0, none⟩) fl) (h2 : Ne.ARow w' (some ⟨g6, 0, none⟩) (fl.set kk ⟨ak.fr + 1, ak.to, ak.cap⟩)) => Ne.dsame_any ⟨mn, ms, mt, fl⟩ ⟨mn, ms, mt, (fl.set kk ⟨ak.fr + 1, ak.to, ak.cap⟩)⟩ (some ⟨g, 0, none⟩) (some ⟨g6, 0, none⟩) c4 c6 w' h1 h2 (by simp only; omega) (by simp; omega)
    have S2 := Lib.hid fun w' (h1 : Ne.ARow w' (some ⟨g6, 0, none⟩) (fl.set kk ⟨ak.fr + 1, ak.to, ak.cap⟩)) (h2 : Ne.ARow w' (some ⟨g, 0, none⟩) fl) => Ne.dsame_any ⟨mn, ms, mt, (fl.set kk ⟨ak.fr + 1, ak.to, ak.cap⟩)⟩ ⟨mn, ms, mt, fl⟩ (some ⟨g6, 0, none⟩) (some ⟨g, 0, none⟩) c6 c4 w' h1 h2 (by simp; omega) (by simp only; omega)
    have CPm := Lib.hid fun w' (h : Ne.ARow w' (some ⟨g6, 0, none⟩) (fl.set kk ⟨ak.fr + 1, ak.to, ak.cap⟩)) => Ne.copy_s ⟨mn, ms, mt, (fl.set kk ⟨ak.fr + 1, ak.to, ak.cap⟩)⟩ (some ⟨g6, 0, none⟩) c6 w' (fun h => by cases h) h (by simp; omega)
    have SM := Lib.hid fun w' x q (h1 : Ne.ARow w' x (fl.set kk ⟨ak.fr + 1, ak.to, ak.cap⟩)) (h2 : Ne.ARow w' (some ⟨g6, 0, none⟩) (fl.set kk ⟨ak.fr + 1, ak.to, ak.cap⟩)) => Ne.dsame_s ⟨mn, ms, mt, (fl.set kk ⟨ak.fr + 1, ak.to, ak.cap⟩)⟩ x (some ⟨g6, 0, none⟩) q c6 w' h1 h2 (by simp; omega)
    rw [HD.1] at S1
    rw [HD.2] at S2
    simp only [Ne.encN, List.length_set, List.length_drop] at S1 S2 CPm SM SN
    clear HD
    go_wp2_with fail
    generalize (W7.setCell ⟨g6, kk * 3, none⟩ (.int .i64 (ak.fr + 1))) = WE at *
    clear n0 n1 n2 n3 nf0 nf1 nf2 nf3 c0' c1' c2' z0' z1' z2'
    have hbe := Ne.netBox_lt HXn.out
    have hbf := Ne.netBox_lt HXm.out
    have HSB : Hid (∀ w', Below WE.heap.size WE w' → (fun w' => w'.cell? ⟨bb, 0, none⟩ = some (.int .i64 mn) ∧ w'.cell? ⟨bb, 1, none⟩ = some (.int .i64 ms) ∧ w'.cell? ⟨bb, 2, none⟩ = some (.int .i64 mt) ∧ w'.cell? ⟨bb, 3, none⟩ = some (.slice (some ⟨g, 0, none⟩) fl.length c4) ∧ w'.cell? ⟨bm, 0, none⟩ = some (.int .i64 mn) ∧ w'.cell? ⟨bm, 1, none⟩ = some (.int .i64 ms) ∧ w'.cell? ⟨bm, 2, none⟩ = some (.int .i64 mt) ∧ w'.cell? ⟨bm, 3, none⟩ = some (.slice (some ⟨g6, 0, none⟩) fl.length c6)) w') := Lib.hid fun w' h => by
      obtain ⟨x0, x1, x2, x3⟩ := Ne.netBox_cells (Ne.netBox_below HXn.out h hbe)
      obtain ⟨y0, y1, y2, y3⟩ := Ne.netBox_cells (Ne.netBox_below HXm.out h hbf)
      try simp only [List.length_set, List.length_drop] at y3
      exact ⟨x0, x1, x2, x3, y0, y1, y2, y3⟩
    have HB1 := Lib.hid (show Below WE.heap.size WE WE.drew from Ne.below_drew (Below.refl _ _))
    have hS1 := HSB.out _ HB1.out
    refine Rh.start (S := (fun w' => w'.cell? ⟨bb, 0, none⟩ = some (.int .i64 mn) ∧ w'.cell? ⟨bb, 1, none⟩ = some (.int .i64 ms) ∧ w'.cell? ⟨bb, 2, none⟩ = some (.int .i64 mt) ∧ w'.cell? ⟨bb, 3, none⟩ = some (.slice (some ⟨g, 0, none⟩) fl.length c4) ∧ w'.cell? ⟨bm, 0, none⟩ = some (.int .i64 mn) ∧ w'.cell? ⟨bm, 1, none⟩ = some (.int .i64 ms) ∧ w'.cell? ⟨bm, 2, none⟩ = some (.int .i64 mt) ∧ w'.cell? ⟨bm, 3, none⟩ = some (.slice (some ⟨g6, 0, none⟩) fl.length c6))) (by kernel_rfl) ?_
    refine Rh.take (some 92) (i := 0) (v := ?_) rfl (by kernel_rfl) (by kernel_rfl) (by kernel_rfl) (by kernel_rfl) (fun _ _ _ h => h) (Or.inl ⟨by rfl, ?_⟩) hS1 ?_
    rotate_left
    · intro w hSw
      go_simp
      try with_reducible rfl
    try simp only [Act.put, List.setIfInBounds_toArray, List.set_cons_zero, List.set_cons_succ]
    refine Rh.take (some 93) (i := 1) (v := ?_) rfl (by kernel_rfl) (by kernel_rfl) (by kernel_rfl) (by kernel_rfl) (fun _ _ _ h => h) (Or.inl ⟨by rfl, ?_⟩) hS1 ?_
    rotate_left
    · intro w hSw
      go_simp
      try with_reducible rfl
    try simp only [Act.put, List.setIfInBounds_toArray, List.set_cons_zero, List.set_cons_succ]
    refine Rh.step (i := 2) (by kernel_rfl) rfl fun K' hK' => ?_
    have HK := Lib.hid hK'
    clear hK'
    go_simp
    refine (SN.out _ _ _ _ _ (HRn.out.kept HB1.out) (HRn.out.kept HB1.out)).mono ?_
    rintro e w2 ⟨rfl, hb⟩
    have HB2 := Lib.hid (HB1.out.trans (hb.mono HB1.out.size))
    clear hb
    have hS2 := HSB.out w2 HB2.out
    refine HK.out _ _ ⟨hS2, ?_⟩
    clear HK K'
    try simp only [Act.put, List.setIfInBounds_toArray, List.set_cons_zero, List.set_cons_succ]
    refine Rh.take (some 95) (i := 3) (v := ?_) rfl (by kernel_rfl) (by kernel_rfl) (by kernel_rfl) (by kernel_rfl) (fun _ _ _ h => h) (Or.inl ⟨by rfl, ?_⟩) hS2 ?_
    rotate_left
    · intro w hSw
      go_simp
      try with_reducible rfl
    try simp only [Act.put, List.setIfInBounds_toArray, List.set_cons_zero, List.set_cons_succ]
    refine Rh.take (some 96) (i := 4) (v := ?_) rfl (by kernel_rfl) (by kernel_rfl) (by kernel_rfl) (by kernel_rfl) (fun _ _ _ h => h) (Or.inl ⟨by rfl, ?_⟩) hS2 ?_
    rotate_left
    · intro w hSw
      go_simp
      try with_reducible rfl
    try simp only [Act.put, List.setIfInBounds_toArray, List.set_cons_zero, List.set_cons_succ]
    refine Rh.take (some 97) (i := 5) (v := ?_) rfl (by kernel_rfl) (by kernel_rfl) (by kernel_rfl) (by kernel_rfl) (fun _ _ _ h => h) (Or.inl ⟨by rfl, ?_⟩) hS2 ?_
    rotate_left
    · intro w hSw
      go_simp
      try with_reducible rfl
    try simp only [Act.put, List.setIfInBounds_toArray, List.set_cons_zero, List.set_cons_succ]
    refine Rh.step (i := 6) (by kernel_rfl) rfl fun K' hK' => ?_
    have HK := Lib.hid hK'
    clear hK'
    go_simp
    refine (S1.out _ (HRn.out.kept HB2.out) (HRm.out.kept HB2.out)).mono ?_
    rintro e w3 ⟨rfl, hb⟩
    have HB3 := Lib.hid (HB2.out.trans (hb.mono HB2.out.size))
    clear hb
    have hS3 := HSB.out w3 HB3.out
    refine HK.out _ _ ⟨hS3, ?_⟩
    clear HK K'
    try simp only [Act.put, List.setIfInBounds_toArray, List.set_cons_zero, List.set_cons_succ]
    refine Rh.take (some 99) (i := 7) (v := ?_) rfl (by kernel_rfl) (by kernel_rfl) (by kernel_rfl) (by kernel_rfl) (fun _ _ _ h => h) (Or.inl ⟨by rfl, ?_⟩) hS3 ?_
    rotate_left
    · intro w hSw
      go_simp
      try with_reducible rfl
    try simp only [Act.put, List.setIfInBounds_toArray, List.set_cons_zero, List.set_cons_succ]
    refine Rh.take (some 100) (i := 8) (v := ?_) rfl (by kernel_rfl) (by kernel_rfl) (by kernel_rfl) (by kernel_rfl) (fun _ _ _ h => h) (Or.inl ⟨by rfl, ?_⟩) hS3 ?_
    rotate_left
    · intro w hSw
      go_simp
      try with_reducible rfl
    try simp only [Act.put, List.setIfInBounds_toArray, List.set_cons_zero, List.set_cons_succ]
    refine Rh.take (some 101) (i := 9) (v := ?_) rfl (by kernel_rfl) (by kernel_rfl) (by kernel_rfl) (by kernel_rfl) (fun _ _ _ h => h) (Or.inl ⟨by rfl, ?_⟩) hS3 ?_
    rotate_left
    · intro w hSw
      go_simp
      try with_reducible rfl
    try simp only [Act.put, List.setIfInBounds_toArray, List.set_cons_zero, List.set_cons_succ]
    refine Rh.take (some 102) (i := 10) (v := ?_) rfl (by kernel_rfl) (by kernel_rfl) (by kernel_rfl) (by kernel_rfl) (fun _ _ _ h => h) (Or.inl ⟨by rfl, ?_⟩) hS3 ?_
    rotate_left
    · intro w hSw
      go_simp
      try with_reducible rfl
    try simp only [Act.put, List.setIfInBounds_toArray, List.set_cons_zero, List.set_cons_succ]
    refine Rh.take (some 103) (i := 11) (v := ?_) rfl (by kernel_rfl) (by kernel_rfl) (by kernel_rfl) (by kernel_rfl) (fun _ _ _ h => h) (Or.inl ⟨by rfl, ?_⟩) hS3 ?_
    rotate_left
    · intro w hSw
      go_simp
      try with_reducible rfl
    try simp only [Act.put, List.setIfInBounds_toArray, List.set_cons_zero, List.set_cons_succ]
    refine Rh.step (i := 12) (by kernel_rfl) rfl fun K' hK' => ?_
    have HK := Lib.hid hK'
    clear hK'
    go_simp
    refine (S2.out _ (HRm.out.kept HB3.out) (HRn.out.kept HB3.out)).mono ?_
    rintro e w4 ⟨rfl, hb⟩
    have HB4 := Lib.hid (HB3.out.trans (hb.mono HB3.out.size))
    clear hb
    have hS4 := HSB.out w4 HB4.out
    refine HK.out _ _ ⟨hS4, ?_⟩
    clear HK K'
    try simp only [Act.put, List.setIfInBounds_toArray, List.set_cons_zero, List.set_cons_succ]
    refine Rh.take (some 105) (i := 13) (v := ?_) rfl (by kernel_rfl) (by kernel_rfl) (by kernel_rfl) (by kernel_rfl) (fun _ _ _ h => h) (Or.inl ⟨by rfl, ?_⟩) hS4 ?_
    rotate_left
    · intro w hSw
      go_simp
      try with_reducible rfl
    try simp only [Act.put, List.setIfInBounds_toArray, List.set_cons_zero, List.set_cons_succ]
    refine Rh.take (some 106) (i := 14) (v := ?_) rfl (by kernel_rfl) (by kernel_rfl) (by kernel_rfl) (by kernel_rfl) (fun _ _ _ h => h) (Or.inl ⟨by rfl, ?_⟩) hS4 ?_
    rotate_left
    · intro w hSw
      go_simp
      try with_reducible rfl
    try simp only [Act.put, List.setIfInBounds_toArray, List.set_cons_zero, List.set_cons_succ]
    refine Rh.take (some 107) (i := 15) (v := ?_) rfl (by kernel_rfl) (by kernel_rfl) (by kernel_rfl) (by kernel_rfl) (fun _ _ _ h => h) (Or.inl ⟨by rfl, ?_⟩) hS4 ?_
    rotate_left
    · intro w hSw
      go_simp
      try with_reducible rfl
    try simp only [Act.put, List.setIfInBounds_toArray, List.set_cons_zero, List.set_cons_succ]
    refine Rh.take (some 108) (i := 16) (v := ?_) rfl (by kernel_rfl) (by kernel_rfl) (by kernel_rfl) (by kernel_rfl) (fun _ _ _ h => h) (Or.inl ⟨by rfl, ?_⟩) hS4 ?_
    rotate_left
    · intro w hSw
      go_simp
      try with_reducible rfl
    try simp only [Act.put, List.setIfInBounds_toArray, List.set_cons_zero, List.set_cons_succ]
    refine Rh.take (some 110) (i := 18) (v := ?_) rfl (by kernel_rfl) (by kernel_rfl) (by kernel_rfl) (by kernel_rfl) (fun _ _ _ h => h) (Or.inl ⟨by rfl, ?_⟩) hS4 ?_
    rotate_left
    · intro w hSw
      go_simp
      try with_reducible rfl
    try simp only [Act.put, List.setIfInBounds_toArray, List.set_cons_zero, List.set_cons_succ]
    refine Rh.step (i := 17) (by kernel_rfl) rfl fun K' hK' => ?_
    have HK := Lib.hid hK'
    clear hK'
    go_simp
    refine (CPm.out _ (HRm.out.kept HB4.out)).mono ?_
    rintro e w5 ⟨p1, q1, rfl, r1, hb⟩
    have HB5 := Lib.hid (HB4.out.trans (hb.mono HB4.out.size))
    have X1 := Lib.hid (r1)
    clear hb r1
    have hS5 := HSB.out w5 HB5.out
    refine HK.out _ _ ⟨hS5, ?_⟩
    clear HK K'
    try simp only [Act.put, List.setIfInBounds_toArray, List.set_cons_zero, List.set_cons_succ]
    refine Rh.step (i := 19) (by kernel_rfl) rfl fun K' hK' => ?_
    have HK := Lib.hid hK'
    clear hK'
    go_simp
    refine (SM.out _ p1 q1 X1.out (HRm.out.kept HB5.out)).mono ?_
    rintro e w6 ⟨rfl, hb⟩
    have HB6 := Lib.hid (HB5.out.trans (hb.mono HB5.out.size))
    clear hb
    have hS6 := HSB.out w6 HB6.out
    refine HK.out _ _ ⟨hS6, ?_⟩
    clear HK K'
    try simp only [Act.put, List.setIfInBounds_toArray, List.set_cons_zero, List.set_cons_succ]
    refine Rh.take (some 112) (i := 20) (v := ?_) rfl (by kernel_rfl) (by kernel_rfl) (by kernel_rfl) (by kernel_rfl) (fun _ _ _ h => h) (Or.inl ⟨by rfl, ?_⟩) hS6 ?_
    rotate_left
    · intro w hSw
      go_simp
      try with_reducible rfl
    try simp only [Act.put, List.setIfInBounds_toArray, List.set_cons_zero, List.set_cons_succ]
    refine Rh.take (some 10) (i := 21) (v := ?_) rfl (by kernel_rfl) (by kernel_rfl) (by kernel_rfl) (by kernel_rfl) (fun _ _ _ h => h) (Or.inl ⟨by rfl, ?_⟩) hS6 ?_
    rotate_left
    · intro w hSw
      go_simp
      try with_reducible rfl
    try simp only [Act.put, List.setIfInBounds_toArray, List.set_cons_zero, List.set_cons_succ]
    refine Rh.done (by kernel_rfl) ?_ _
    go_wp2
    go_ret
    exact ⟨rfl, HBs.out.trans (HB6.out.mono HBs.out.size)⟩
  · subst h9
    have HD := same_not (a := ⟨mn, ms, mt, fl⟩) (b := ⟨mn, ms, mt, (fl.set kk ⟨ak.fr, ak.to - 1, ak.cap⟩)⟩) (.inr (.inr (.inr (Ne.symm (set_ne HAK.out (fun e => by have := congrArg Ne.Arc.to e; simp only at this; omega))))))
    have HXn := Lib.hid (Ne.netBox_other HX6.out (b2 := g6) (o := kk * 3 + 1) (v2 := .int .i64 (ak.to - 1)) (Ne.symm hgb6))
    have HXm := Lib.hid (Ne.netBox_other HM6.out (b2 := g6) (o := kk * 3 + 1) (v2 := .int .i64 (ak.to - 1)) (Ne.symm hgm))
    have HRm := Lib.hid (Ne.arow_of (Ne.own_put Ne.encA_len HO6.out (i := kk) (x := ak) (y := ⟨ak.fr, ak.to - 1, ak.cap⟩) HAK.out (j := 1) (by omega) (u := .int .i64 (ak.to - 1)) rfl)).2.2
    have HBs := Lib.hid (HB6.out.setCell (p := ⟨g6, kk * 3 + 1, none⟩) (by have := HB6.out.size; simp only; omega) (.int .i64 (ak.to - 1)))
    have HRn := Lib.hid (show Ne.ARow (W7.setCell ⟨g6, kk * 3 + 1, none⟩ (.int .i64 (ak.to - 1))) (some ⟨g, 0, none⟩) fl from by
      rcases HR6.out with h | ⟨b, off, e, hlt, hc⟩
      · exact .inl h
      · cases e
        refine .inr ⟨g, 0, rfl, by simpa [World.setCell] using hlt, fun i x hx j v hv => ?_⟩
        rw [World.cell?_setCell_far _ _ _ _ (show (⟨g6, kk * 3 + 1, none⟩ : Addr).block ≠ g by simp only; omega)]
        exact hc i x hx j v hv)
    have S1 := Lib.hid fun w' (h1 : Ne.ARow w' (some ⟨g, 0, none⟩) fl) (h2 : Ne.ARow w' (some ⟨g6, 0, none⟩) (fl.set kk ⟨ak.fr, ak.to - 1, ak.cap⟩)) => Ne.dsame_any ⟨mn, ms, mt, fl⟩ ⟨mn, ms, mt, (fl.set kk ⟨ak.fr, ak.to - 1, ak.cap⟩)⟩ (some ⟨g, 0, none⟩) (some ⟨g6, 0, none⟩) c4 c6 w' h1 h2 (by simp only; omega) (by simp; omega)
    have S2 := Lib.hid fun w' (h1 : Ne.ARow w' (some ⟨g6, 0, none⟩) (fl.set kk ⟨ak.fr, ak.to - 1, ak.cap⟩)) (h2 : Ne.ARow w' (some ⟨g, 0, none⟩) fl) => Ne.dsame_any ⟨mn, ms, mt, (fl.set kk ⟨ak.fr, ak.to - 1, ak.cap⟩)⟩ ⟨mn, ms, mt, fl⟩ (some ⟨g6, 0, none⟩) (some ⟨g, 0, none⟩) c6 c4 w' h1 h2 (by simp; omega) (by simp only; omega)
    have CPm := Lib.hid fun w' (h : Ne.ARow w' (some ⟨g6, 0, none⟩) (fl.set kk ⟨ak.fr, ak.to - 1, ak.cap⟩)) => Ne.copy_s ⟨mn, ms, mt, (fl.set kk ⟨ak.fr, ak.to - 1, ak.cap⟩)⟩ (some ⟨g6, 0, none⟩) c6 w' (fun h => by cases h) h (by simp; omega)
    have SM := Lib.hid fun w' x q (h1 : Ne.ARow w' x (fl.set kk ⟨ak.fr, ak.to - 1, ak.cap⟩)) (h2 : Ne.ARow w' (some ⟨g6, 0, none⟩) (fl.set kk ⟨ak.fr, ak.to - 1, ak.cap⟩)) => Ne.dsame_s ⟨mn, ms, mt, (fl.set kk ⟨ak.fr, ak.to - 1, ak.cap⟩)⟩ x (some ⟨g6, 0, none⟩) q c6 w' h1 h2 (by simp; omega)
    rw [HD.1] at S1
    rw [HD.2] at S2
    simp only [Ne.encN, List.length_set, List.length_drop] at S1 S2 CPm SM SN
    clear HD
    go_wp2_with fail
    generalize (W7.setCell ⟨g6, kk * 3 + 1, none⟩ (.int .i64 (ak.to - 1))) = WE at *
    clear n0 n1 n2 n3 nf0 nf1 nf2 nf3 c0' c1' c2' z0' z1' z2'
    have hbe := Ne.netBox_lt HXn.out
    have hbf := Ne.netBox_lt HXm.out
    have HSB : Hid (∀ w', Below WE.heap.size WE w' → (fun w' => w'.cell? ⟨bb, 0, none⟩ = some (.int .i64 mn) ∧ w'.cell? ⟨bb, 1, none⟩ = some (.int .i64 ms) ∧ w'.cell? ⟨bb, 2, none⟩ = some (.int .i64 mt) ∧ w'.cell? ⟨bb, 3, none⟩ = some (.slice (some ⟨g, 0, none⟩) fl.length c4) ∧ w'.cell? ⟨bm, 0, none⟩ = some (.int .i64 mn) ∧ w'.cell? ⟨bm, 1, none⟩ = some (.int .i64 ms) ∧ w'.cell? ⟨bm, 2, none⟩ = some (.int .i64 mt) ∧ w'.cell? ⟨bm, 3, none⟩ = some (.slice (some ⟨g6, 0, none⟩) fl.length c6)) w') := Lib.hid fun w' h => by
      obtain ⟨x0, x1, x2, x3⟩ := Ne.netBox_cells (Ne.netBox_below HXn.out h hbe)
      obtain ⟨y0, y1, y2, y3⟩ := Ne.netBox_cells (Ne.netBox_below HXm.out h hbf)
      try simp only [List.length_set, List.length_drop] at y3
      exact ⟨x0, x1, x2, x3, y0, y1, y2, y3⟩
    have HB1 := Lib.hid (show Below WE.heap.size WE WE.drew from Ne.below_drew (Below.refl _ _))
    have hS1 := HSB.out _ HB1.out
    refine Rh.start (S := (fun w' => w'.cell? ⟨bb, 0, none⟩ = some (.int .i64 mn) ∧ w'.cell? ⟨bb, 1, none⟩ = some (.int .i64 ms) ∧ w'.cell? ⟨bb, 2, none⟩ = some (.int .i64 mt) ∧ w'.cell? ⟨bb, 3, none⟩ = some (.slice (some ⟨g, 0, none⟩) fl.length c4) ∧ w'.cell? ⟨bm, 0, none⟩ = some (.int .i64 mn) ∧ w'.cell? ⟨bm, 1, none⟩ = some (.int .i64 ms) ∧ w'.cell? ⟨bm, 2, none⟩ = some (.int .i64 mt) ∧ w'.cell? ⟨bm, 3, none⟩ = some (.slice (some ⟨g6, 0, none⟩) fl.length c6))) (by kernel_rfl) ?_
    refine Rh.take (some 92) (i := 0) (v := ?_) rfl (by kernel_rfl) (by kernel_rfl) (by kernel_rfl) (by kernel_rfl) (fun _ _ _ h => h) (Or.inl ⟨by rfl, ?_⟩) hS1 ?_
    rotate_left
    · intro w hSw
      go_simp
      try with_reducible rfl
    try simp only [Act.put, List.setIfInBounds_toArray, List.set_cons_zero, List.set_cons_succ]
    refine Rh.take (some 93) (i := 1) (v := ?_) rfl (by kernel_rfl) (by kernel_rfl) (by kernel_rfl) (by kernel_rfl) (fun _ _ _ h => h) (Or.inl ⟨by rfl, ?_⟩) hS1 ?_
    rotate_left
    · intro w hSw
      go_simp
      try with_reducible rfl
    try simp only [Act.put, List.setIfInBounds_toArray, List.set_cons_zero, List.set_cons_succ]
    refine Rh.step (i := 2) (by kernel_rfl) rfl fun K' hK' => ?_
    have HK := Lib.hid hK'
    clear hK'
    go_simp
    refine (SN.out _ _ _ _ _ (HRn.out.kept HB1.out) (HRn.out.kept HB1.out)).mono ?_
    rintro e w2 ⟨rfl, hb⟩
    have HB2 := Lib.hid (HB1.out.trans (hb.mono HB1.out.size))
    clear hb
    have hS2 := HSB.out w2 HB2.out
    refine HK.out _ _ ⟨hS2, ?_⟩
    clear HK K'
    try simp only [Act.put, List.setIfInBounds_toArray, List.set_cons_zero, List.set_cons_succ]
    refine Rh.take (some 95) (i := 3) (v := ?_) rfl (by kernel_rfl) (by kernel_rfl) (by kernel_rfl) (by kernel_rfl) (fun _ _ _ h => h) (Or.inl ⟨by rfl, ?_⟩) hS2 ?_
    rotate_left
    · intro w hSw
      go_simp
      try with_reducible rfl
    try simp only [Act.put, List.setIfInBounds_toArray, List.set_cons_zero, List.set_cons_succ]
    refine Rh.take (some 96) (i := 4) (v := ?_) rfl (by kernel_rfl) (by kernel_rfl) (by kernel_rfl) (by kernel_rfl) (fun _ _ _ h => h) (Or.inl ⟨by rfl, ?_⟩) hS2 ?_
    rotate_left
    · intro w hSw
      go_simp
      try with_reducible rfl
    try simp only [Act.put, List.setIfInBounds_toArray, List.set_cons_zero, List.set_cons_succ]
    refine Rh.take (some 97) (i := 5) (v := ?_) rfl (by kernel_rfl) (by kernel_rfl) (by kernel_rfl) (by kernel_rfl) (fun _ _ _ h => h) (Or.inl ⟨by rfl, ?_⟩) hS2 ?_
    rotate_left
    · intro w hSw
      go_simp
      try with_reducible rfl
    try simp only [Act.put, List.setIfInBounds_toArray, List.set_cons_zero, List.set_cons_succ]
    refine Rh.step (i := 6) (by kernel_rfl) rfl fun K' hK' => ?_
    have HK := Lib.hid hK'
    clear hK'
    go_simp
    refine (S1.out _ (HRn.out.kept HB2.out) (HRm.out.kept HB2.out)).mono ?_
    rintro e w3 ⟨rfl, hb⟩
    have HB3 := Lib.hid (HB2.out.trans (hb.mono HB2.out.size))
    clear hb
    have hS3 := HSB.out w3 HB3.out
    refine HK.out _ _ ⟨hS3, ?_⟩
    clear HK K'
    try simp only [Act.put, List.setIfInBounds_toArray, List.set_cons_zero, List.set_cons_succ]
    refine Rh.take (some 99) (i := 7) (v := ?_) rfl (by kernel_rfl) (by kernel_rfl) (by kernel_rfl) (by kernel_rfl) (fun _ _ _ h => h) (Or.inl ⟨by rfl, ?_⟩) hS3 ?_
    rotate_left
    · intro w hSw
      go_simp
      try with_reducible rfl
    try simp only [Act.put, List.setIfInBounds_toArray, List.set_cons_zero, List.set_cons_succ]
    refine Rh.take (some 100) (i := 8) (v := ?_) rfl (by kernel_rfl) (by kernel_rfl) (by kernel_rfl) (by kernel_rfl) (fun _ _ _ h => h) (Or.inl ⟨by rfl, ?_⟩) hS3 ?_
    rotate_left
    · intro w hSw
      go_simp
      try with_reducible rfl
    try simp only [Act.put, List.setIfInBounds_toArray, List.set_cons_zero, List.set_cons_succ]
    refine Rh.take (some 101) (i := 9) (v := ?_) rfl (by kernel_rfl) (by kernel_rfl) (by kernel_rfl) (by kernel_rfl) (fun _ _ _ h => h) (Or.inl ⟨by rfl, ?_⟩) hS3 ?_
    rotate_left
    · intro w hSw
      go_simp
      try with_reducible rfl
    try simp only [Act.put, List.setIfInBounds_toArray, List.set_cons_zero, List.set_cons_succ]
    refine Rh.take (some 102) (i := 10) (v := ?_) rfl (by kernel_rfl) (by kernel_rfl) (by kernel_rfl) (by kernel_rfl) (fun _ _ _ h => h) (Or.inl ⟨by rfl, ?_⟩) hS3 ?_
    rotate_left
    · intro w hSw
      go_simp
      try with_reducible rfl
    try simp only [Act.put, List.setIfInBounds_toArray, List.set_cons_zero, List.set_cons_succ]
    refine Rh.take (some 103) (i := 11) (v := ?_) rfl (by kernel_rfl) (by kernel_rfl) (by kernel_rfl) (by kernel_rfl) (fun _ _ _ h => h) (Or.inl ⟨by rfl, ?_⟩) hS3 ?_
    rotate_left
    · intro w hSw
      go_simp
      try with_reducible rfl
    try simp only [Act.put, List.setIfInBounds_toArray, List.set_cons_zero, List.set_cons_succ]
    refine Rh.step (i := 12) (by kernel_rfl) rfl fun K' hK' => ?_
    have HK := Lib.hid hK'
    clear hK'
    go_simp
    refine (S2.out _ (HRm.out.kept HB3.out) (HRn.out.kept HB3.out)).mono ?_
    rintro e w4 ⟨rfl, hb⟩
    have HB4 := Lib.hid (HB3.out.trans (hb.mono HB3.out.size))
    clear hb
    have hS4 := HSB.out w4 HB4.out
    refine HK.out _ _ ⟨hS4, ?_⟩
    clear HK K'
    try simp only [Act.put, List.setIfInBounds_toArray, List.set_cons_zero, List.set_cons_succ]
    refine Rh.take (some 105) (i := 13) (v := ?_) rfl (by kernel_rfl) (by kernel_rfl) (by kernel_rfl) (by kernel_rfl) (fun _ _ _ h => h) (Or.inl ⟨by rfl, ?_⟩) hS4 ?_
    rotate_left
    · intro w hSw
      go_simp
      try with_reducible rfl
    try simp only [Act.put, List.setIfInBounds_toArray, List.set_cons_zero, List.set_cons_succ]
    refine Rh.take (some 106) (i := 14) (v := ?_) rfl (by kernel_rfl) (by kernel_rfl) (by kernel_rfl) (by kernel_rfl) (fun _ _ _ h => h) (Or.inl ⟨by rfl, ?_⟩) hS4 ?_
    rotate_left
    · intro w hSw
      go_simp
      try with_reducible rfl
    try simp only [Act.put, List.setIfInBounds_toArray, List.set_cons_zero, List.set_cons_succ]
    refine Rh.take (some 107) (i := 15) (v := ?_) rfl (by kernel_rfl) (by kernel_rfl) (by kernel_rfl) (by kernel_rfl) (fun _ _ _ h => h) (Or.inl ⟨by rfl, ?_⟩) hS4 ?_
    rotate_left
    · intro w hSw
      go_simp
      try with_reducible rfl
    try simp only [Act.put, List.setIfInBounds_toArray, List.set_cons_zero, List.set_cons_succ]
    refine Rh.take (some 108) (i := 16) (v := ?_) rfl (by kernel_rfl) (by kernel_rfl) (by kernel_rfl) (by kernel_rfl) (fun _ _ _ h => h) (Or.inl ⟨by rfl, ?_⟩) hS4 ?_
    rotate_left
    · intro w hSw
      go_simp
      try with_reducible rfl
    try simp only [Act.put, List.setIfInBounds_toArray, List.set_cons_zero, List.set_cons_succ]
    refine Rh.take (some 110) (i := 18) (v := ?_) rfl (by kernel_rfl) (by kernel_rfl) (by kernel_rfl) (by kernel_rfl) (fun _ _ _ h => h) (Or.inl ⟨by rfl, ?_⟩) hS4 ?_
    rotate_left
    · intro w hSw
      go_simp
      try with_reducible rfl
    try simp only [Act.put, List.setIfInBounds_toArray, List.set_cons_zero, List.set_cons_succ]
    refine Rh.step (i := 17) (by kernel_rfl) rfl fun K' hK' => ?_
    have HK := Lib.hid hK'
    clear hK'
    go_simp
    refine (CPm.out _ (HRm.out.kept HB4.out)).mono ?_
    rintro e w5 ⟨p1, q1, rfl, r1, hb⟩
    have HB5 := Lib.hid (HB4.out.trans (hb.mono HB4.out.size))
    have X1 := Lib.hid (r1)
    clear hb r1
    have hS5 := HSB.out w5 HB5.out
    refine HK.out _ _ ⟨hS5, ?_⟩
    clear HK K'
    try simp only [Act.put, List.setIfInBounds_toArray, List.set_cons_zero, List.set_cons_succ]
    refine Rh.step (i := 19) (by kernel_rfl) rfl fun K' hK' => ?_
    have HK := Lib.hid hK'
    clear hK'
    go_simp
    refine (SM.out _ p1 q1 X1.out (HRm.out.kept HB5.out)).mono ?_
    rintro e w6 ⟨rfl, hb⟩
    have HB6 := Lib.hid (HB5.out.trans (hb.mono HB5.out.size))
    clear hb
    have hS6 := HSB.out w6 HB6.out
    refine HK.out _ _ ⟨hS6, ?_⟩
    clear HK K'
    try simp only [Act.put, List.setIfInBounds_toArray, List.set_cons_zero, List.set_cons_succ]
    refine Rh.take (some 112) (i := 20) (v := ?_) rfl (by kernel_rfl) (by kernel_rfl) (by kernel_rfl) (by kernel_rfl) (fun _ _ _ h => h) (Or.inl ⟨by rfl, ?_⟩) hS6 ?_
    rotate_left
    · intro w hSw
      go_simp
      try with_reducible rfl
    try simp only [Act.put, List.setIfInBounds_toArray, List.set_cons_zero, List.set_cons_succ]
    refine Rh.take (some 10) (i := 21) (v := ?_) rfl (by kernel_rfl) (by kernel_rfl) (by kernel_rfl) (by kernel_rfl) (fun _ _ _ h => h) (Or.inl ⟨by rfl, ?_⟩) hS6 ?_
    rotate_left
    · intro w hSw
      go_simp
      try with_reducible rfl
    try simp only [Act.put, List.setIfInBounds_toArray, List.set_cons_zero, List.set_cons_succ]
    refine Rh.done (by kernel_rfl) ?_ _
    go_wp2
    go_ret
    exact ⟨rfl, HBs.out.trans (HB6.out.mono HBs.out.size)⟩
  · subst h9
    have HD := same_not (a := ⟨mn, ms, mt, fl⟩) (b := ⟨mn, ms, mt, (fl.set kk ⟨ak.fr, ak.to, ak.cap + 1⟩)⟩) (.inr (.inr (.inr (Ne.symm (set_ne HAK.out (fun e => by have := congrArg Ne.Arc.cap e; simp only at this; omega))))))
    have HXn := Lib.hid (Ne.netBox_other HX6.out (b2 := g6) (o := kk * 3 + 2) (v2 := .int .i64 (ak.cap + 1)) (Ne.symm hgb6))
    have HXm := Lib.hid (Ne.netBox_other HM6.out (b2 := g6) (o := kk * 3 + 2) (v2 := .int .i64 (ak.cap + 1)) (Ne.symm hgm))
    have HRm := Lib.hid (Ne.arow_of (Ne.own_put Ne.encA_len HO6.out (i := kk) (x := ak) (y := ⟨ak.fr, ak.to, ak.cap + 1⟩) HAK.out (j := 2) (by omega) (u := .int .i64 (ak.cap + 1)) rfl)).2.2
    have HBs := Lib.hid (HB6.out.setCell (p := ⟨g6, kk * 3 + 2, none⟩) (by have := HB6.out.size; simp only; omega) (.int .i64 (ak.cap + 1)))
    have HRn := Lib.hid (show Ne.ARow (W7.setCell ⟨g6, kk * 3 + 2, none⟩ (.int .i64 (ak.cap + 1))) (some ⟨g, 0, none⟩) fl from by
      rcases HR6.out with h | ⟨b, off, e, hlt, hc⟩
      · exact .inl h
      · cases e
        refine .inr ⟨g, 0, rfl, by simpa [World.setCell] using hlt, fun i x hx j v hv => ?_⟩
        rw [World.cell?_setCell_far _ _ _ _ (show (⟨g6, kk * 3 + 2, none⟩ : Addr).block ≠ g by simp only; omega)]
        exact hc i x hx j v hv)
    have S1 := Lib.hid fun w' (h1 : Ne.ARow w' (some ⟨g, 0, none⟩) fl) (h2 : Ne.ARow w' (some ⟨g6, 0, none⟩) (fl.set kk ⟨ak.fr, ak.to, ak.cap + 1⟩)) => Ne.dsame_any ⟨mn, ms, mt, fl⟩ ⟨mn, ms, mt, (fl.set kk ⟨ak.fr, ak.to, ak.cap + 1⟩)⟩ (some ⟨g, 0, none⟩) (some ⟨g6, 0, none⟩) c4 c6 w' h1 h2 (by simp only; omega) (by simp; omega)
    have S2 := Lib.hid fun w' (h1 : Ne.ARow w' (some ⟨g6, 0, none⟩) (fl.set kk ⟨ak.fr, ak.to, ak.cap + 1⟩)) (h2 : Ne.ARow w' (some ⟨g, 0, none⟩) fl) => Ne.dsame_any ⟨mn, ms, mt, (fl.set kk ⟨ak.fr, ak.to, ak.cap + 1⟩)⟩ ⟨mn, ms, mt, fl⟩ (some ⟨g6, 0, none⟩) (some ⟨g, 0, none⟩) c6 c4 w' h1 h2 (by simp; omega) (by simp only; omega)
    have CPm := Lib.hid fun w' (h : Ne.ARow w' (some ⟨g6, 0, none⟩) (fl.set kk ⟨ak.fr, ak.to, ak.cap + 1⟩)) => Ne.copy_s ⟨mn, ms, mt, (fl.set kk ⟨ak.fr, ak.to, ak.cap + 1⟩)⟩ (some ⟨g6, 0, none⟩) c6 w' (fun h => by cases h) h (by simp; omega)
    have SM := Lib.hid fun w' x q (h1 : Ne.ARow w' x (fl.set kk ⟨ak.fr, ak.to, ak.cap + 1⟩)) (h2 : Ne.ARow w' (some ⟨g6, 0, none⟩) (fl.set kk ⟨ak.fr, ak.to, ak.cap + 1⟩)) => Ne.dsame_s ⟨mn, ms, mt, (fl.set kk ⟨ak.fr, ak.to, ak.cap + 1⟩)⟩ x (some ⟨g6, 0, none⟩) q c6 w' h1 h2 (by simp; omega)
    rw [HD.1] at S1
    rw [HD.2] at S2
    simp only [Ne.encN, List.length_set, List.length_drop] at S1 S2 CPm SM SN
    clear HD
    go_wp2_with fail
    generalize (W7.setCell ⟨g6, kk * 3 + 2, none⟩ (.int .i64 (ak.cap + 1))) = WE at *
    clear n0 n1 n2 n3 nf0 nf1 nf2 nf3 c0' c1' c2' z0' z1' z2'
    have hbe := Ne.netBox_lt HXn.out
    have hbf := Ne.netBox_lt HXm.out
    have HSB : Hid (∀ w', Below WE.heap.size WE w' → (fun w' => w'.cell? ⟨bb, 0, none⟩ = some (.int .i64 mn) ∧ w'.cell? ⟨bb, 1, none⟩ = some (.int .i64 ms) ∧ w'.cell? ⟨bb, 2, none⟩ = some (.int .i64 mt) ∧ w'.cell? ⟨bb, 3, none⟩ = some (.slice (some ⟨g, 0, none⟩) fl.length c4) ∧ w'.cell? ⟨bm, 0, none⟩ = some (.int .i64 mn) ∧ w'.cell? ⟨bm, 1, none⟩ = some (.int .i64 ms) ∧ w'.cell? ⟨bm, 2, none⟩ = some (.int .i64 mt) ∧ w'.cell? ⟨bm, 3, none⟩ = some (.slice (some ⟨g6, 0, none⟩) fl.length c6)) w') := Lib.hid fun w' h => by
      obtain ⟨x0, x1, x2, x3⟩ := Ne.netBox_cells (Ne.netBox_below HXn.out h hbe)
      obtain ⟨y0, y1, y2, y3⟩ := Ne.netBox_cells (Ne.netBox_below HXm.out h hbf)
      try simp only [List.length_set, List.length_drop] at y3
      exact ⟨x0, x1, x2, x3, y0, y1, y2, y3⟩
    have HB1 := Lib.hid (show Below WE.heap.size WE WE.drew from Ne.below_drew (Below.refl _ _))
    have hS1 := HSB.out _ HB1.out
    refine Rh.start (S := (fun w' => w'.cell? ⟨bb, 0, none⟩ = some (.int .i64 mn) ∧ w'.cell? ⟨bb, 1, none⟩ = some (.int .i64 ms) ∧ w'.cell? ⟨bb, 2, none⟩ = some (.int .i64 mt) ∧ w'.cell? ⟨bb, 3, none⟩ = some (.slice (some ⟨g, 0, none⟩) fl.length c4) ∧ w'.cell? ⟨bm, 0, none⟩ = some (.int .i64 mn) ∧ w'.cell? ⟨bm, 1, none⟩ = some (.int .i64 ms) ∧ w'.cell? ⟨bm, 2, none⟩ = some (.int .i64 mt) ∧ w'.cell? ⟨bm, 3, none⟩ = some (.slice (some ⟨g6, 0, none⟩) fl.length c6))) (by kernel_rfl) ?_
    refine Rh.take (some 92) (i := 0) (v := ?_) rfl (by kernel_rfl) (by kernel_rfl) (by kernel_rfl) (by kernel_rfl) (fun _ _ _ h => h) (Or.inl ⟨by rfl, ?_⟩) hS1 ?_
    rotate_left
    · intro w hSw
      go_simp
      try with_reducible rfl
    try simp only [Act.put, List.setIfInBounds_toArray, List.set_cons_zero, List.set_cons_succ]
    refine Rh.take (some 93) (i := 1) (v := ?_) rfl (by kernel_rfl) (by kernel_rfl) (by kernel_rfl) (by kernel_rfl) (fun _ _ _ h => h) (Or.inl ⟨by rfl, ?_⟩) hS1 ?_
    rotate_left
    · intro w hSw
      go_simp
      try with_reducible rfl
    try simp only [Act.put, List.setIfInBounds_toArray, List.set_cons_zero, List.set_cons_succ]
    refine Rh.step (i := 2) (by kernel_rfl) rfl fun K' hK' => ?_
    have HK := Lib.hid hK'
    clear hK'
    go_simp
    refine (SN.out _ _ _ _ _ (HRn.out.kept HB1.out) (HRn.out.kept HB1.out)).mono ?_
    rintro e w2 ⟨rfl, hb⟩
    have HB2 := Lib.hid (HB1.out.trans (hb.mono HB1.out.size))
    clear hb
    have hS2 := HSB.out w2 HB2.out
    refine HK.out _ _ ⟨hS2, ?_⟩
    clear HK K'
    try simp only [Act.put, List.setIfInBounds_toArray, List.set_cons_zero, List.set_cons_succ]
    refine Rh.take (some 95) (i := 3) (v := ?_) rfl (by kernel_rfl) (by kernel_rfl) (by kernel_rfl) (by kernel_rfl) (fun _ _ _ h => h) (Or.inl ⟨by rfl, ?_⟩) hS2 ?_
    rotate_left
    · intro w hSw
      go_simp
      try with_reducible rfl
    try simp only [Act.put, List.setIfInBounds_toArray, List.set_cons_zero, List.set_cons_succ]
    refine Rh.take (some 96) (i := 4) (v := ?_) rfl (by kernel_rfl) (by kernel_rfl) (by kernel_rfl) (by kernel_rfl) (fun _ _ _ h => h) (Or.inl ⟨by rfl, ?_⟩) hS2 ?_
    rotate_left
    · intro w hSw
      go_simp
      try with_reducible rfl
    try simp only [Act.put, List.setIfInBounds_toArray, List.set_cons_zero, List.set_cons_succ]
    refine Rh.take (some 97) (i := 5) (v := ?_) rfl (by kernel_rfl) (by kernel_rfl) (by kernel_rfl) (by kernel_rfl) (fun _ _ _ h => h) (Or.inl ⟨by rfl, ?_⟩) hS2 ?_
    rotate_left
    · intro w hSw
      go_simp
      try with_reducible rfl
    try simp only [Act.put, List.setIfInBounds_toArray, List.set_cons_zero, List.set_cons_succ]
    refine Rh.step (i := 6) (by kernel_rfl) rfl fun K' hK' => ?_
    have HK := Lib.hid hK'
    clear hK'
    go_simp
    refine (S1.out _ (HRn.out.kept HB2.out) (HRm.out.kept HB2.out)).mono ?_
    rintro e w3 ⟨rfl, hb⟩
    have HB3 := Lib.hid (HB2.out.trans (hb.mono HB2.out.size))
    clear hb
    have hS3 := HSB.out w3 HB3.out
    refine HK.out _ _ ⟨hS3, ?_⟩
    clear HK K'
    try simp only [Act.put, List.setIfInBounds_toArray, List.set_cons_zero, List.set_cons_succ]
    refine Rh.take (some 99) (i := 7) (v := ?_) rfl (by kernel_rfl) (by kernel_rfl) (by kernel_rfl) (by kernel_rfl) (fun _ _ _ h => h) (Or.inl ⟨by rfl, ?_⟩) hS3 ?_
    rotate_left
    · intro w hSw
      go_simp
      try with_reducible rfl
    try simp only [Act.put, List.setIfInBounds_toArray, List.set_cons_zero, List.set_cons_succ]
    refine Rh.take (some 100) (i := 8) (v := ?_) rfl (by kernel_rfl) (by kernel_rfl) (by kernel_rfl) (by kernel_rfl) (fun _ _ _ h => h) (Or.inl ⟨by rfl, ?_⟩) hS3 ?_
    rotate_left
    · intro w hSw
      go_simp
      try with_reducible rfl
    try simp only [Act.put, List.setIfInBounds_toArray, List.set_cons_zero, List.set_cons_succ]
    refine Rh.take (some 101) (i := 9) (v := ?_) rfl (by kernel_rfl) (by kernel_rfl) (by kernel_rfl) (by kernel_rfl) (fun _ _ _ h => h) (Or.inl ⟨by rfl, ?_⟩) hS3 ?_
    rotate_left
    · intro w hSw
      go_simp
      try with_reducible rfl
    try simp only [Act.put, List.setIfInBounds_toArray, List.set_cons_zero, List.set_cons_succ]
    refine Rh.take (some 102) (i := 10) (v := ?_) rfl (by kernel_rfl) (by kernel_rfl) (by kernel_rfl) (by kernel_rfl) (fun _ _ _ h => h) (Or.inl ⟨by rfl, ?_⟩) hS3 ?_
    rotate_left
    · intro w hSw
      go_simp
      try with_reducible rfl
    try simp only [Act.put, List.setIfInBounds_toArray, List.set_cons_zero, List.set_cons_succ]
    refine Rh.take (some 103) (i := 11) (v := ?_) rfl (by kernel_rfl) (by kernel_rfl) (by kernel_rfl) (by kernel_rfl) (fun _ _ _ h => h) (Or.inl ⟨by rfl, ?_⟩) hS3 ?_
    rotate_left
    · intro w hSw
      go_simp
      try with_reducible rfl
    try simp only [Act.put, List.setIfInBounds_toArray, List.set_cons_zero, List.set_cons_succ]
    refine Rh.step (i := 12) (by kernel_rfl) rfl fun K' hK' => ?_
    have HK := Lib.hid hK'
    clear hK'
    go_simp
    refine (S2.out _ (HRm.out.kept HB3.out) (HRn.out.kept HB3.out)).mono ?_
    rintro e w4 ⟨rfl, hb⟩
    have HB4 := Lib.hid (HB3.out.trans (hb.mono HB3.out.size))
    clear hb
    have hS4 := HSB.out w4 HB4.out
    refine HK.out _ _ ⟨hS4, ?_⟩
    clear HK K'
    try simp only [Act.put, List.setIfInBounds_toArray, List.set_cons_zero, List.set_cons_succ]
    refine Rh.take (some 105) (i := 13) (v := ?_) rfl (by kernel_rfl) (by kernel_rfl) (by kernel_rfl) (by kernel_rfl) (fun _ _ _ h => h) (Or.inl ⟨by rfl, ?_⟩) hS4 ?_
    rotate_left
    · intro w hSw
      go_simp
      try with_reducible rfl
    try simp only [Act.put, List.setIfInBounds_toArray, List.set_cons_zero, List.set_cons_succ]
    refine Rh.take (some 106) (i := 14) (v := ?_) rfl (by kernel_rfl) (by kernel_rfl) (by kernel_rfl) (by kernel_rfl) (fun _ _ _ h => h) (Or.inl ⟨by rfl, ?_⟩) hS4 ?_
    rotate_left
    · intro w hSw
      go_simp
      try with_reducible rfl
    try simp only [Act.put, List.setIfInBounds_toArray, List.set_cons_zero, List.set_cons_succ]
    refine Rh.take (some 107) (i := 15) (v := ?_) rfl (by kernel_rfl) (by kernel_rfl) (by kernel_rfl) (by kernel_rfl) (fun _ _ _ h => h) (Or.inl ⟨by rfl, ?_⟩) hS4 ?_
    rotate_left
    · intro w hSw
      go_simp
      try with_reducible rfl
    try simp only [Act.put, List.setIfInBounds_toArray, List.set_cons_zero, List.set_cons_succ]
    refine Rh.take (some 108) (i := 16) (v := ?_) rfl (by kernel_rfl) (by kernel_rfl) (by kernel_rfl) (by kernel_rfl) (fun _ _ _ h => h) (Or.inl ⟨by rfl, ?_⟩) hS4 ?_
    rotate_left
    · intro w hSw
      go_simp
      try with_reducible rfl
    try simp only [Act.put, List.setIfInBounds_toArray, List.set_cons_zero, List.set_cons_succ]
    refine Rh.take (some 110) (i := 18) (v := ?_) rfl (by kernel_rfl) (by kernel_rfl) (by kernel_rfl) (by kernel_rfl) (fun _ _ _ h => h) (Or.inl ⟨by rfl, ?_⟩) hS4 ?_
    rotate_left
    · intro w hSw
      go_simp
      try with_reducible rfl
    try simp only [Act.put, List.setIfInBounds_toArray, List.set_cons_zero, List.set_cons_succ]
    refine Rh.step (i := 17) (by kernel_rfl) rfl fun K' hK' => ?_
    have HK := Lib.hid hK'
    clear hK'
    go_simp
    refine (CPm.out _ (HRm.out.kept HB4.out)).mono ?_
    rintro e w5 ⟨p1, q1, rfl, r1, hb⟩
    have HB5 := Lib.hid (HB4.out.trans (hb.mono HB4.out.size))
    have X1 := Lib.hid (r1)
    clear hb r1
    have hS5 := HSB.out w5 HB5.out
    refine HK.out _ _ ⟨hS5, ?_⟩
    clear HK K'
    try simp only [Act.put, List.setIfInBounds_toArray, List.set_cons_zero, List.set_cons_succ]
    refine Rh.step (i := 19) (by kernel_rfl) rfl fun K' hK' => ?_
    have HK := Lib.hid hK'
    clear hK'
    go_simp
    refine (SM.out _ p1 q1 X1.out (HRm.out.kept HB5.out)).mono ?_
    rintro e w6 ⟨rfl, hb⟩
    have HB6 := Lib.hid (HB5.out.trans (hb.mono HB5.out.size))
    clear hb
    have hS6 := HSB.out w6 HB6.out
    refine HK.out _ _ ⟨hS6, ?_⟩
    clear HK K'
    try simp only [Act.put, List.setIfInBounds_toArray, List.set_cons_zero, List.set_cons_succ]
    refine Rh.take (some 112) (i := 20) (v := ?_) rfl (by kernel_rfl) (by kernel_rfl) (by kernel_rfl) (by kernel_rfl) (fun _ _ _ h => h) (Or.inl ⟨by rfl, ?_⟩) hS6 ?_
    rotate_left
    · intro w hSw
      go_simp
      try with_reducible rfl
    try simp only [Act.put, List.setIfInBounds_toArray, List.set_cons_zero, List.set_cons_succ]
    refine Rh.take (some 10) (i := 21) (v := ?_) rfl (by kernel_rfl) (by kernel_rfl) (by kernel_rfl) (by kernel_rfl) (fun _ _ _ h => h) (Or.inl ⟨by rfl, ?_⟩) hS6 ?_
    rotate_left
    · intro w hSw
      go_simp
      try with_reducible rfl
    try simp only [Act.put, List.setIfInBounds_toArray, List.set_cons_zero, List.set_cons_succ]
    refine Rh.done (by kernel_rfl) ?_ _
    go_wp2
    go_ret
    exact ⟨rfl, HBs.out.trans (HB6.out.mono HBs.out.size)⟩
  · subst h9
    by_cases hc1 : c6 = 1
    · subst hc1
      have HD := same_not (a := ⟨mn, ms, mt, fl⟩) (b := ⟨mn, ms, mt, (fl.drop 1)⟩) (.inr (.inr (.inr (fun e => by have := congrArg List.length e; simp only [List.length_drop] at this; omega))))
      have HXn := Lib.hid (Ne.netBox_other HX6.out (b2 := bm) (o := 3) (v2 := .slice (some ⟨g6, 0, none⟩) (fl.length - 1) 0) hbm)
      have HXm := Lib.hid (Ne.netBox_set (v2 := .slice (some ⟨g6, 0, none⟩) (fl.length - 1) 0) HM6.out)
      have HCL := Lib.hid (show fl.length ≤ 1 by obtain ⟨_, _, hv, hcc, _⟩ := Rw.own_row Ne.encA_len HO6.out; simp only [Value.slice.injEq] at hv; omega)
      have HRm := Lib.hid (show Ne.ARow (W7.setCell ⟨bm, 3, none⟩ (.slice (some ⟨g6, 0, none⟩) (fl.length - 1) 0)) (some ⟨g6, 0, none⟩) (fl.drop 1) from Or.inl (by have := HCL.out; apply List.drop_eq_nil_of_le; omega))
      have HBs := Lib.hid (HB6.out.setCell (p := ⟨bm, 3, none⟩) (by have := HB6.out.size; simp only; omega) (.slice (some ⟨g6, 0, none⟩) (fl.length - 1) 0))
      have HRn := Lib.hid (show Ne.ARow (W7.setCell ⟨bm, 3, none⟩ (.slice (some ⟨g6, 0, none⟩) (fl.length - 1) 0)) (some ⟨g, 0, none⟩) fl from by
        rcases HR6.out with h | ⟨b, off, e, hlt, hc⟩
        · exact .inl h
        · cases e
          refine .inr ⟨g, 0, rfl, by simpa [World.setCell] using hlt, fun i x hx j v hv => ?_⟩
          rw [World.cell?_setCell_far _ _ _ _ (show (⟨bm, 3, none⟩ : Addr).block ≠ g by simp only; omega)]
          exact hc i x hx j v hv)
      have S1 := Lib.hid fun w' (h1 : Ne.ARow w' (some ⟨g, 0, none⟩) fl) (h2 : Ne.ARow w' (some ⟨g6, 0, none⟩) (fl.drop 1)) => Ne.dsame_any ⟨mn, ms, mt, fl⟩ ⟨mn, ms, mt, (fl.drop 1)⟩ (some ⟨g, 0, none⟩) (some ⟨g6, 0, none⟩) c4 0 w' h1 h2 (by simp only; omega) (by simp; omega)
      have S2 := Lib.hid fun w' (h1 : Ne.ARow w' (some ⟨g6, 0, none⟩) (fl.drop 1)) (h2 : Ne.ARow w' (some ⟨g, 0, none⟩) fl) => Ne.dsame_any ⟨mn, ms, mt, (fl.drop 1)⟩ ⟨mn, ms, mt, fl⟩ (some ⟨g6, 0, none⟩) (some ⟨g, 0, none⟩) 0 c4 w' h1 h2 (by simp; omega) (by simp only; omega)
      have CPm := Lib.hid fun w' (h : Ne.ARow w' (some ⟨g6, 0, none⟩) (fl.drop 1)) => Ne.copy_s ⟨mn, ms, mt, (fl.drop 1)⟩ (some ⟨g6, 0, none⟩) 0 w' (fun h => by cases h) h (by simp; omega)
      have SM := Lib.hid fun w' x q (h1 : Ne.ARow w' x (fl.drop 1)) (h2 : Ne.ARow w' (some ⟨g6, 0, none⟩) (fl.drop 1)) => Ne.dsame_s ⟨mn, ms, mt, (fl.drop 1)⟩ x (some ⟨g6, 0, none⟩) q 0 w' h1 h2 (by simp; omega)
      rw [HD.1] at S1
      rw [HD.2] at S2
      simp only [Ne.encN, List.length_set, List.length_drop] at S1 S2 CPm SM SN
      clear HD
      go_wp2_with fail
      generalize (W7.setCell ⟨bm, 3, none⟩ (.slice (some ⟨g6, 0, none⟩) (fl.length - 1) 0)) = WE at *
      clear n0 n1 n2 n3 nf0 nf1 nf2 nf3 c0' c1' c2' z0' z1' z2'
      have hbe := Ne.netBox_lt HXn.out
      have hbf := Ne.netBox_lt HXm.out
      have HSB : Hid (∀ w', Below WE.heap.size WE w' → (fun w' => w'.cell? ⟨bb, 0, none⟩ = some (.int .i64 mn) ∧ w'.cell? ⟨bb, 1, none⟩ = some (.int .i64 ms) ∧ w'.cell? ⟨bb, 2, none⟩ = some (.int .i64 mt) ∧ w'.cell? ⟨bb, 3, none⟩ = some (.slice (some ⟨g, 0, none⟩) fl.length c4) ∧ w'.cell? ⟨bm, 0, none⟩ = some (.int .i64 mn) ∧ w'.cell? ⟨bm, 1, none⟩ = some (.int .i64 ms) ∧ w'.cell? ⟨bm, 2, none⟩ = some (.int .i64 mt) ∧ w'.cell? ⟨bm, 3, none⟩ = some (.slice (some ⟨g6, 0, none⟩) (fl.length - 1) 0)) w') := Lib.hid fun w' h => by
        obtain ⟨x0, x1, x2, x3⟩ := Ne.netBox_cells (Ne.netBox_below HXn.out h hbe)
        obtain ⟨y0, y1, y2, y3⟩ := Ne.netBox_cells (Ne.netBox_below HXm.out h hbf)
        exact ⟨x0, x1, x2, x3, y0, y1, y2, y3⟩
      have HB1 := Lib.hid (show Below WE.heap.size WE WE.drew from Ne.below_drew (Below.refl _ _))
      have hS1 := HSB.out _ HB1.out
      refine Rh.start (S := (fun w' => w'.cell? ⟨bb, 0, none⟩ = some (.int .i64 mn) ∧ w'.cell? ⟨bb, 1, none⟩ = some (.int .i64 ms) ∧ w'.cell? ⟨bb, 2, none⟩ = some (.int .i64 mt) ∧ w'.cell? ⟨bb, 3, none⟩ = some (.slice (some ⟨g, 0, none⟩) fl.length c4) ∧ w'.cell? ⟨bm, 0, none⟩ = some (.int .i64 mn) ∧ w'.cell? ⟨bm, 1, none⟩ = some (.int .i64 ms) ∧ w'.cell? ⟨bm, 2, none⟩ = some (.int .i64 mt) ∧ w'.cell? ⟨bm, 3, none⟩ = some (.slice (some ⟨g6, 0, none⟩) (fl.length - 1) 0))) (by kernel_rfl) ?_
      refine Rh.take (some 92) (i := 0) (v := ?_) rfl (by kernel_rfl) (by kernel_rfl) (by kernel_rfl) (by kernel_rfl) (fun _ _ _ h => h) (Or.inl ⟨by rfl, ?_⟩) hS1 ?_
      rotate_left
      · intro w hSw
        go_simp
        try with_reducible rfl
      try simp only [Act.put, List.setIfInBounds_toArray, List.set_cons_zero, List.set_cons_succ]
      refine Rh.take (some 93) (i := 1) (v := ?_) rfl (by kernel_rfl) (by kernel_rfl) (by kernel_rfl) (by kernel_rfl) (fun _ _ _ h => h) (Or.inl ⟨by rfl, ?_⟩) hS1 ?_
      rotate_left
      · intro w hSw
        go_simp
        try with_reducible rfl
      try simp only [Act.put, List.setIfInBounds_toArray, List.set_cons_zero, List.set_cons_succ]
      refine Rh.step (i := 2) (by kernel_rfl) rfl fun K' hK' => ?_
      have HK := Lib.hid hK'
      clear hK'
      go_simp
      refine (SN.out _ _ _ _ _ (HRn.out.kept HB1.out) (HRn.out.kept HB1.out)).mono ?_
      rintro e w2 ⟨rfl, hb⟩
      have HB2 := Lib.hid (HB1.out.trans (hb.mono HB1.out.size))
      clear hb
      have hS2 := HSB.out w2 HB2.out
      refine HK.out _ _ ⟨hS2, ?_⟩
      clear HK K'
      try simp only [Act.put, List.setIfInBounds_toArray, List.set_cons_zero, List.set_cons_succ]
      refine Rh.take (some 95) (i := 3) (v := ?_) rfl (by kernel_rfl) (by kernel_rfl) (by kernel_rfl) (by kernel_rfl) (fun _ _ _ h => h) (Or.inl ⟨by rfl, ?_⟩) hS2 ?_
      rotate_left
      · intro w hSw
        go_simp
        try with_reducible rfl
      try simp only [Act.put, List.setIfInBounds_toArray, List.set_cons_zero, List.set_cons_succ]
      refine Rh.take (some 96) (i := 4) (v := ?_) rfl (by kernel_rfl) (by kernel_rfl) (by kernel_rfl) (by kernel_rfl) (fun _ _ _ h => h) (Or.inl ⟨by rfl, ?_⟩) hS2 ?_
      rotate_left
      · intro w hSw
        go_simp
        try with_reducible rfl
      try simp only [Act.put, List.setIfInBounds_toArray, List.set_cons_zero, List.set_cons_succ]
      refine Rh.take (some 97) (i := 5) (v := ?_) rfl (by kernel_rfl) (by kernel_rfl) (by kernel_rfl) (by kernel_rfl) (fun _ _ _ h => h) (Or.inl ⟨by rfl, ?_⟩) hS2 ?_
      rotate_left
      · intro w hSw
        go_simp
        try with_reducible rfl
      try simp only [Act.put, List.setIfInBounds_toArray, List.set_cons_zero, List.set_cons_succ]
      refine Rh.step (i := 6) (by kernel_rfl) rfl fun K' hK' => ?_
      have HK := Lib.hid hK'
      clear hK'
      go_simp
      refine (S1.out _ (HRn.out.kept HB2.out) (HRm.out.kept HB2.out)).mono ?_
      rintro e w3 ⟨rfl, hb⟩
      have HB3 := Lib.hid (HB2.out.trans (hb.mono HB2.out.size))
      clear hb
      have hS3 := HSB.out w3 HB3.out
      refine HK.out _ _ ⟨hS3, ?_⟩
      clear HK K'
      try simp only [Act.put, List.setIfInBounds_toArray, List.set_cons_zero, List.set_cons_succ]
      refine Rh.take (some 99) (i := 7) (v := ?_) rfl (by kernel_rfl) (by kernel_rfl) (by kernel_rfl) (by kernel_rfl) (fun _ _ _ h => h) (Or.inl ⟨by rfl, ?_⟩) hS3 ?_
      rotate_left
      · intro w hSw
        go_simp
        try with_reducible rfl
      try simp only [Act.put, List.setIfInBounds_toArray, List.set_cons_zero, List.set_cons_succ]
      refine Rh.take (some 100) (i := 8) (v := ?_) rfl (by kernel_rfl) (by kernel_rfl) (by kernel_rfl) (by kernel_rfl) (fun _ _ _ h => h) (Or.inl ⟨by rfl, ?_⟩) hS3 ?_
      rotate_left
      · intro w hSw
        go_simp
        try with_reducible rfl
      try simp only [Act.put, List.setIfInBounds_toArray, List.set_cons_zero, List.set_cons_succ]
      refine Rh.take (some 101) (i := 9) (v := ?_) rfl (by kernel_rfl) (by kernel_rfl) (by kernel_rfl) (by kernel_rfl) (fun _ _ _ h => h) (Or.inl ⟨by rfl, ?_⟩) hS3 ?_
      rotate_left
      · intro w hSw
        go_simp
        try with_reducible rfl
      try simp only [Act.put, List.setIfInBounds_toArray, List.set_cons_zero, List.set_cons_succ]
      refine Rh.take (some 102) (i := 10) (v := ?_) rfl (by kernel_rfl) (by kernel_rfl) (by kernel_rfl) (by kernel_rfl) (fun _ _ _ h => h) (Or.inl ⟨by rfl, ?_⟩) hS3 ?_
      rotate_left
      · intro w hSw
        go_simp
        try with_reducible rfl
      try simp only [Act.put, List.setIfInBounds_toArray, List.set_cons_zero, List.set_cons_succ]
      refine Rh.take (some 103) (i := 11) (v := ?_) rfl (by kernel_rfl) (by kernel_rfl) (by kernel_rfl) (by kernel_rfl) (fun _ _ _ h => h) (Or.inl ⟨by rfl, ?_⟩) hS3 ?_
      rotate_left
      · intro w hSw
        go_simp
        try with_reducible rfl
      try simp only [Act.put, List.setIfInBounds_toArray, List.set_cons_zero, List.set_cons_succ]
      refine Rh.step (i := 12) (by kernel_rfl) rfl fun K' hK' => ?_
      have HK := Lib.hid hK'
      clear hK'
      go_simp
      refine (S2.out _ (HRm.out.kept HB3.out) (HRn.out.kept HB3.out)).mono ?_
      rintro e w4 ⟨rfl, hb⟩
      have HB4 := Lib.hid (HB3.out.trans (hb.mono HB3.out.size))
      clear hb
      have hS4 := HSB.out w4 HB4.out
      refine HK.out _ _ ⟨hS4, ?_⟩
      clear HK K'
      try simp only [Act.put, List.setIfInBounds_toArray, List.set_cons_zero, List.set_cons_succ]
      refine Rh.take (some 105) (i := 13) (v := ?_) rfl (by kernel_rfl) (by kernel_rfl) (by kernel_rfl) (by kernel_rfl) (fun _ _ _ h => h) (Or.inl ⟨by rfl, ?_⟩) hS4 ?_
      rotate_left
      · intro w hSw
        go_simp
        try with_reducible rfl
      try simp only [Act.put, List.setIfInBounds_toArray, List.set_cons_zero, List.set_cons_succ]
      refine Rh.take (some 106) (i := 14) (v := ?_) rfl (by kernel_rfl) (by kernel_rfl) (by kernel_rfl) (by kernel_rfl) (fun _ _ _ h => h) (Or.inl ⟨by rfl, ?_⟩) hS4 ?_
      rotate_left
      · intro w hSw
        go_simp
        try with_reducible rfl
      try simp only [Act.put, List.setIfInBounds_toArray, List.set_cons_zero, List.set_cons_succ]
      refine Rh.take (some 107) (i := 15) (v := ?_) rfl (by kernel_rfl) (by kernel_rfl) (by kernel_rfl) (by kernel_rfl) (fun _ _ _ h => h) (Or.inl ⟨by rfl, ?_⟩) hS4 ?_
      rotate_left
      · intro w hSw
        go_simp
        try with_reducible rfl
      try simp only [Act.put, List.setIfInBounds_toArray, List.set_cons_zero, List.set_cons_succ]
      refine Rh.take (some 108) (i := 16) (v := ?_) rfl (by kernel_rfl) (by kernel_rfl) (by kernel_rfl) (by kernel_rfl) (fun _ _ _ h => h) (Or.inl ⟨by rfl, ?_⟩) hS4 ?_
      rotate_left
      · intro w hSw
        go_simp
        try with_reducible rfl
      try simp only [Act.put, List.setIfInBounds_toArray, List.set_cons_zero, List.set_cons_succ]
      refine Rh.take (some 110) (i := 18) (v := ?_) rfl (by kernel_rfl) (by kernel_rfl) (by kernel_rfl) (by kernel_rfl) (fun _ _ _ h => h) (Or.inl ⟨by rfl, ?_⟩) hS4 ?_
      rotate_left
      · intro w hSw
        go_simp
        try with_reducible rfl
      try simp only [Act.put, List.setIfInBounds_toArray, List.set_cons_zero, List.set_cons_succ]
      refine Rh.step (i := 17) (by kernel_rfl) rfl fun K' hK' => ?_
      have HK := Lib.hid hK'
      clear hK'
      go_simp
      refine (CPm.out _ (HRm.out.kept HB4.out)).mono ?_
      rintro e w5 ⟨p1, q1, rfl, r1, hb⟩
      have HB5 := Lib.hid (HB4.out.trans (hb.mono HB4.out.size))
      have X1 := Lib.hid (r1)
      clear hb r1
      have hS5 := HSB.out w5 HB5.out
      refine HK.out _ _ ⟨hS5, ?_⟩
      clear HK K'
      try simp only [Act.put, List.setIfInBounds_toArray, List.set_cons_zero, List.set_cons_succ]
      refine Rh.step (i := 19) (by kernel_rfl) rfl fun K' hK' => ?_
      have HK := Lib.hid hK'
      clear hK'
      go_simp
      refine (SM.out _ p1 q1 X1.out (HRm.out.kept HB5.out)).mono ?_
      rintro e w6 ⟨rfl, hb⟩
      have HB6 := Lib.hid (HB5.out.trans (hb.mono HB5.out.size))
      clear hb
      have hS6 := HSB.out w6 HB6.out
      refine HK.out _ _ ⟨hS6, ?_⟩
      clear HK K'
      try simp only [Act.put, List.setIfInBounds_toArray, List.set_cons_zero, List.set_cons_succ]
      refine Rh.take (some 112) (i := 20) (v := ?_) rfl (by kernel_rfl) (by kernel_rfl) (by kernel_rfl) (by kernel_rfl) (fun _ _ _ h => h) (Or.inl ⟨by rfl, ?_⟩) hS6 ?_
      rotate_left
      · intro w hSw
        go_simp
        try with_reducible rfl
      try simp only [Act.put, List.setIfInBounds_toArray, List.set_cons_zero, List.set_cons_succ]
      refine Rh.take (some 10) (i := 21) (v := ?_) rfl (by kernel_rfl) (by kernel_rfl) (by kernel_rfl) (by kernel_rfl) (fun _ _ _ h => h) (Or.inl ⟨by rfl, ?_⟩) hS6 ?_
      rotate_left
      · intro w hSw
        go_simp
        try with_reducible rfl
      try simp only [Act.put, List.setIfInBounds_toArray, List.set_cons_zero, List.set_cons_succ]
      refine Rh.done (by kernel_rfl) ?_ _
      go_wp2
      go_ret
      exact ⟨rfl, HBs.out.trans (HB6.out.mono HBs.out.size)⟩
    · have HD := same_not (a := ⟨mn, ms, mt, fl⟩) (b := ⟨mn, ms, mt, (fl.drop 1)⟩) (.inr (.inr (.inr (fun e => by have := congrArg List.length e; simp only [List.length_drop] at this; omega))))
      have HXn := Lib.hid (Ne.netBox_other HX6.out (b2 := bm) (o := 3) (v2 := .slice (some ⟨g6, 3, none⟩) (fl.length - 1) (c6 - 1)) hbm)
      have HXm := Lib.hid (Ne.netBox_set (v2 := .slice (some ⟨g6, 3, none⟩) (fl.length - 1) (c6 - 1)) HM6.out)
      have HCL := Lib.hid (show fl.length ≤ c6 by obtain ⟨_, _, hv, hcc, _⟩ := Rw.own_row Ne.encA_len HO6.out; simp only [Value.slice.injEq] at hv; omega)
      have HRm := Lib.hid (show Ne.ARow (W7.setCell ⟨bm, 3, none⟩ (.slice (some ⟨g6, 3, none⟩) (fl.length - 1) (c6 - 1))) (some ⟨g6, 3, none⟩) (fl.drop 1) from arow_tail (Rw.own_set HO6.out (p := ⟨bm, 3, none⟩) (Ne.own_ne_box HO6.out HM6.out) (.slice (some ⟨g6, 3, none⟩) (fl.length - 1) (c6 - 1))))
      have HBs := Lib.hid (HB6.out.setCell (p := ⟨bm, 3, none⟩) (by have := HB6.out.size; simp only; omega) (.slice (some ⟨g6, 3, none⟩) (fl.length - 1) (c6 - 1)))
      have HRn := Lib.hid (show Ne.ARow (W7.setCell ⟨bm, 3, none⟩ (.slice (some ⟨g6, 3, none⟩) (fl.length - 1) (c6 - 1))) (some ⟨g, 0, none⟩) fl from by
        rcases HR6.out with h | ⟨b, off, e, hlt, hc⟩
        · exact .inl h
        · cases e
          refine .inr ⟨g, 0, rfl, by simpa [World.setCell] using hlt, fun i x hx j v hv => ?_⟩
          rw [World.cell?_setCell_far _ _ _ _ (show (⟨bm, 3, none⟩ : Addr).block ≠ g by simp only; omega)]
          exact hc i x hx j v hv)
      have S1 := Lib.hid fun w' (h1 : Ne.ARow w' (some ⟨g, 0, none⟩) fl) (h2 : Ne.ARow w' (some ⟨g6, 3, none⟩) (fl.drop 1)) => Ne.dsame_any ⟨mn, ms, mt, fl⟩ ⟨mn, ms, mt, (fl.drop 1)⟩ (some ⟨g, 0, none⟩) (some ⟨g6, 3, none⟩) c4 (c6 - 1) w' h1 h2 (by simp only; omega) (by simp; omega)
      have S2 := Lib.hid fun w' (h1 : Ne.ARow w' (some ⟨g6, 3, none⟩) (fl.drop 1)) (h2 : Ne.ARow w' (some ⟨g, 0, none⟩) fl) => Ne.dsame_any ⟨mn, ms, mt, (fl.drop 1)⟩ ⟨mn, ms, mt, fl⟩ (some ⟨g6, 3, none⟩) (some ⟨g, 0, none⟩) (c6 - 1) c4 w' h1 h2 (by simp; omega) (by simp only; omega)
      have CPm := Lib.hid fun w' (h : Ne.ARow w' (some ⟨g6, 3, none⟩) (fl.drop 1)) => Ne.copy_s ⟨mn, ms, mt, (fl.drop 1)⟩ (some ⟨g6, 3, none⟩) (c6 - 1) w' (fun h => by cases h) h (by simp; omega)
      have SM := Lib.hid fun w' x q (h1 : Ne.ARow w' x (fl.drop 1)) (h2 : Ne.ARow w' (some ⟨g6, 3, none⟩) (fl.drop 1)) => Ne.dsame_s ⟨mn, ms, mt, (fl.drop 1)⟩ x (some ⟨g6, 3, none⟩) q (c6 - 1) w' h1 h2 (by simp; omega)
      rw [HD.1] at S1
      rw [HD.2] at S2
      simp only [Ne.encN, List.length_set, List.length_drop] at S1 S2 CPm SM SN
      clear HD
      go_wp2_with fail
      generalize (W7.setCell ⟨bm, 3, none⟩ (.slice (some ⟨g6, 3, none⟩) (fl.length - 1) (c6 - 1))) = WE at *
      clear n0 n1 n2 n3 nf0 nf1 nf2 nf3 c0' c1' c2' z0' z1' z2'
      have hbe := Ne.netBox_lt HXn.out
      have hbf := Ne.netBox_lt HXm.out
      have HSB : Hid (∀ w', Below WE.heap.size WE w' → (fun w' => w'.cell? ⟨bb, 0, none⟩ = some (.int .i64 mn) ∧ w'.cell? ⟨bb, 1, none⟩ = some (.int .i64 ms) ∧ w'.cell? ⟨bb, 2, none⟩ = some (.int .i64 mt) ∧ w'.cell? ⟨bb, 3, none⟩ = some (.slice (some ⟨g, 0, none⟩) fl.length c4) ∧ w'.cell? ⟨bm, 0, none⟩ = some (.int .i64 mn) ∧ w'.cell? ⟨bm, 1, none⟩ = some (.int .i64 ms) ∧ w'.cell? ⟨bm, 2, none⟩ = some (.int .i64 mt) ∧ w'.cell? ⟨bm, 3, none⟩ = some (.slice (some ⟨g6, 3, none⟩) (fl.length - 1) (c6 - 1))) w') := Lib.hid fun w' h => by
        obtain ⟨x0, x1, x2, x3⟩ := Ne.netBox_cells (Ne.netBox_below HXn.out h hbe)
        obtain ⟨y0, y1, y2, y3⟩ := Ne.netBox_cells (Ne.netBox_below HXm.out h hbf)
        exact ⟨x0, x1, x2, x3, y0, y1, y2, y3⟩
      have HB1 := Lib.hid (show Below WE.heap.size WE WE.drew from Ne.below_drew (Below.refl _ _))
      have hS1 := HSB.out _ HB1.out
      refine Rh.start (S := (fun w' => w'.cell? ⟨bb, 0, none⟩ = some (.int .i64 mn) ∧ w'.cell? ⟨bb, 1, none⟩ = some (.int .i64 ms) ∧ w'.cell? ⟨bb, 2, none⟩ = some (.int .i64 mt) ∧ w'.cell? ⟨bb, 3, none⟩ = some (.slice (some ⟨g, 0, none⟩) fl.length c4) ∧ w'.cell? ⟨bm, 0, none⟩ = some (.int .i64 mn) ∧ w'.cell? ⟨bm, 1, none⟩ = some (.int .i64 ms) ∧ w'.cell? ⟨bm, 2, none⟩ = some (.int .i64 mt) ∧ w'.cell? ⟨bm, 3, none⟩ = some (.slice (some ⟨g6, 3, none⟩) (fl.length - 1) (c6 - 1)))) (by kernel_rfl) ?_
      refine Rh.take (some 92) (i := 0) (v := ?_) rfl (by kernel_rfl) (by kernel_rfl) (by kernel_rfl) (by kernel_rfl) (fun _ _ _ h => h) (Or.inl ⟨by rfl, ?_⟩) hS1 ?_
      rotate_left
      · intro w hSw
        go_simp
        try with_reducible rfl
      try simp only [Act.put, List.setIfInBounds_toArray, List.set_cons_zero, List.set_cons_succ]
      refine Rh.take (some 93) (i := 1) (v := ?_) rfl (by kernel_rfl) (by kernel_rfl) (by kernel_rfl) (by kernel_rfl) (fun _ _ _ h => h) (Or.inl ⟨by rfl, ?_⟩) hS1 ?_
      rotate_left
      · intro w hSw
        go_simp
        try with_reducible rfl
      try simp only [Act.put, List.setIfInBounds_toArray, List.set_cons_zero, List.set_cons_succ]
      refine Rh.step (i := 2) (by kernel_rfl) rfl fun K' hK' => ?_
      have HK := Lib.hid hK'
      clear hK'
      go_simp
      refine (SN.out _ _ _ _ _ (HRn.out.kept HB1.out) (HRn.out.kept HB1.out)).mono ?_
      rintro e w2 ⟨rfl, hb⟩
      have HB2 := Lib.hid (HB1.out.trans (hb.mono HB1.out.size))
      clear hb
      have hS2 := HSB.out w2 HB2.out
      refine HK.out _ _ ⟨hS2, ?_⟩
      clear HK K'
      try simp only [Act.put, List.setIfInBounds_toArray, List.set_cons_zero, List.set_cons_succ]
      refine Rh.take (some 95) (i := 3) (v := ?_) rfl (by kernel_rfl) (by kernel_rfl) (by kernel_rfl) (by kernel_rfl) (fun _ _ _ h => h) (Or.inl ⟨by rfl, ?_⟩) hS2 ?_
      rotate_left
      · intro w hSw
        go_simp
        try with_reducible rfl
      try simp only [Act.put, List.setIfInBounds_toArray, List.set_cons_zero, List.set_cons_succ]
      refine Rh.take (some 96) (i := 4) (v := ?_) rfl (by kernel_rfl) (by kernel_rfl) (by kernel_rfl) (by kernel_rfl) (fun _ _ _ h => h) (Or.inl ⟨by rfl, ?_⟩) hS2 ?_
      rotate_left
      · intro w hSw
        go_simp
        try with_reducible rfl
      try simp only [Act.put, List.setIfInBounds_toArray, List.set_cons_zero, List.set_cons_succ]
      refine Rh.take (some 97) (i := 5) (v := ?_) rfl (by kernel_rfl) (by kernel_rfl) (by kernel_rfl) (by kernel_rfl) (fun _ _ _ h => h) (Or.inl ⟨by rfl, ?_⟩) hS2 ?_
      rotate_left
      · intro w hSw
        go_simp
        try with_reducible rfl
      try simp only [Act.put, List.setIfInBounds_toArray, List.set_cons_zero, List.set_cons_succ]
      refine Rh.step (i := 6) (by kernel_rfl) rfl fun K' hK' => ?_
      have HK := Lib.hid hK'
      clear hK'
      go_simp
      refine (S1.out _ (HRn.out.kept HB2.out) (HRm.out.kept HB2.out)).mono ?_
      rintro e w3 ⟨rfl, hb⟩
      have HB3 := Lib.hid (HB2.out.trans (hb.mono HB2.out.size))
      clear hb
      have hS3 := HSB.out w3 HB3.out
      refine HK.out _ _ ⟨hS3, ?_⟩
      clear HK K'
      try simp only [Act.put, List.setIfInBounds_toArray, List.set_cons_zero, List.set_cons_succ]
      refine Rh.take (some 99) (i := 7) (v := ?_) rfl (by kernel_rfl) (by kernel_rfl) (by kernel_rfl) (by kernel_rfl) (fun _ _ _ h => h) (Or.inl ⟨by rfl, ?_⟩) hS3 ?_
      rotate_left
      · intro w hSw
        go_simp
        try with_reducible rfl
      try simp only [Act.put, List.setIfInBounds_toArray, List.set_cons_zero, List.set_cons_succ]
      refine Rh.take (some 100) (i := 8) (v := ?_) rfl (by kernel_rfl) (by kernel_rfl) (by kernel_rfl) (by kernel_rfl) (fun _ _ _ h => h) (Or.inl ⟨by rfl, ?_⟩) hS3 ?_
      rotate_left
      · intro w hSw
        go_simp
        try with_reducible rfl
      try simp only [Act.put, List.setIfInBounds_toArray, List.set_cons_zero, List.set_cons_succ]
      refine Rh.take (some 101) (i := 9) (v := ?_) rfl (by kernel_rfl) (by kernel_rfl) (by kernel_rfl) (by kernel_rfl) (fun _ _ _ h => h) (Or.inl ⟨by rfl, ?_⟩) hS3 ?_
      rotate_left
      · intro w hSw
        go_simp
        try with_reducible rfl
      try simp only [Act.put, List.setIfInBounds_toArray, List.set_cons_zero, List.set_cons_succ]
      refine Rh.take (some 102) (i := 10) (v := ?_) rfl (by kernel_rfl) (by kernel_rfl) (by kernel_rfl) (by kernel_rfl) (fun _ _ _ h => h) (Or.inl ⟨by rfl, ?_⟩) hS3 ?_
      rotate_left
      · intro w hSw
        go_simp
        try with_reducible rfl
      try simp only [Act.put, List.setIfInBounds_toArray, List.set_cons_zero, List.set_cons_succ]
      refine Rh.take (some 103) (i := 11) (v := ?_) rfl (by kernel_rfl) (by kernel_rfl) (by kernel_rfl) (by kernel_rfl) (fun _ _ _ h => h) (Or.inl ⟨by rfl, ?_⟩) hS3 ?_
      rotate_left
      · intro w hSw
        go_simp
        try with_reducible rfl
      try simp only [Act.put, List.setIfInBounds_toArray, List.set_cons_zero, List.set_cons_succ]
      refine Rh.step (i := 12) (by kernel_rfl) rfl fun K' hK' => ?_
      have HK := Lib.hid hK'
      clear hK'
      go_simp
      refine (S2.out _ (HRm.out.kept HB3.out) (HRn.out.kept HB3.out)).mono ?_
      rintro e w4 ⟨rfl, hb⟩
      have HB4 := Lib.hid (HB3.out.trans (hb.mono HB3.out.size))
      clear hb
      have hS4 := HSB.out w4 HB4.out
      refine HK.out _ _ ⟨hS4, ?_⟩
      clear HK K'
      try simp only [Act.put, List.setIfInBounds_toArray, List.set_cons_zero, List.set_cons_succ]
      refine Rh.take (some 105) (i := 13) (v := ?_) rfl (by kernel_rfl) (by kernel_rfl) (by kernel_rfl) (by kernel_rfl) (fun _ _ _ h => h) (Or.inl ⟨by rfl, ?_⟩) hS4 ?_
      rotate_left
      · intro w hSw
        go_simp
        try with_reducible rfl
      try simp only [Act.put, List.setIfInBounds_toArray, List.set_cons_zero, List.set_cons_succ]
      refine Rh.take (some 106) (i := 14) (v := ?_) rfl (by kernel_rfl) (by kernel_rfl) (by kernel_rfl) (by kernel_rfl) (fun _ _ _ h => h) (Or.inl ⟨by rfl, ?_⟩) hS4 ?_
      rotate_left
      · intro w hSw
        go_simp
        try with_reducible rfl
      try simp only [Act.put, List.setIfInBounds_toArray, List.set_cons_zero, List.set_cons_succ]
      refine Rh.take (some 107) (i := 15) (v := ?_) rfl (by kernel_rfl) (by kernel_rfl) (by kernel_rfl) (by kernel_rfl) (fun _ _ _ h => h) (Or.inl ⟨by rfl, ?_⟩) hS4 ?_
      rotate_left
      · intro w hSw
        go_simp
        try with_reducible rfl
      try simp only [Act.put, List.setIfInBounds_toArray, List.set_cons_zero, List.set_cons_succ]
      refine Rh.take (some 108) (i := 16) (v := ?_) rfl (by kernel_rfl) (by kernel_rfl) (by kernel_rfl) (by kernel_rfl) (fun _ _ _ h => h) (Or.inl ⟨by rfl, ?_⟩) hS4 ?_
      rotate_left
      · intro w hSw
        go_simp
        try with_reducible rfl
      try simp only [Act.put, List.setIfInBounds_toArray, List.set_cons_zero, List.set_cons_succ]
      refine Rh.take (some 110) (i := 18) (v := ?_) rfl (by kernel_rfl) (by kernel_rfl) (by kernel_rfl) (by kernel_rfl) (fun _ _ _ h => h) (Or.inl ⟨by rfl, ?_⟩) hS4 ?_
      rotate_left
      · intro w hSw
        go_simp
        try with_reducible rfl
      try simp only [Act.put, List.setIfInBounds_toArray, List.set_cons_zero, List.set_cons_succ]
      refine Rh.step (i := 17) (by kernel_rfl) rfl fun K' hK' => ?_
      have HK := Lib.hid hK'
      clear hK'
      go_simp
      refine (CPm.out _ (HRm.out.kept HB4.out)).mono ?_
      rintro e w5 ⟨p1, q1, rfl, r1, hb⟩
      have HB5 := Lib.hid (HB4.out.trans (hb.mono HB4.out.size))
      have X1 := Lib.hid (r1)
      clear hb r1
      have hS5 := HSB.out w5 HB5.out
      refine HK.out _ _ ⟨hS5, ?_⟩
      clear HK K'
      try simp only [Act.put, List.setIfInBounds_toArray, List.set_cons_zero, List.set_cons_succ]
      refine Rh.step (i := 19) (by kernel_rfl) rfl fun K' hK' => ?_
      have HK := Lib.hid hK'
      clear hK'
      go_simp
      refine (SM.out _ p1 q1 X1.out (HRm.out.kept HB5.out)).mono ?_
      rintro e w6 ⟨rfl, hb⟩
      have HB6 := Lib.hid (HB5.out.trans (hb.mono HB5.out.size))
      clear hb
      have hS6 := HSB.out w6 HB6.out
      refine HK.out _ _ ⟨hS6, ?_⟩
      clear HK K'
      try simp only [Act.put, List.setIfInBounds_toArray, List.set_cons_zero, List.set_cons_succ]
      refine Rh.take (some 112) (i := 20) (v := ?_) rfl (by kernel_rfl) (by kernel_rfl) (by kernel_rfl) (by kernel_rfl) (fun _ _ _ h => h) (Or.inl ⟨by rfl, ?_⟩) hS6 ?_
      rotate_left
      · intro w hSw
        go_simp
        try with_reducible rfl
      try simp only [Act.put, List.setIfInBounds_toArray, List.set_cons_zero, List.set_cons_succ]
      refine Rh.take (some 10) (i := 21) (v := ?_) rfl (by kernel_rfl) (by kernel_rfl) (by kernel_rfl) (by kernel_rfl) (fun _ _ _ h => h) (Or.inl ⟨by rfl, ?_⟩) hS6 ?_
      rotate_left
      · intro w hSw
        go_simp
        try with_reducible rfl
      try simp only [Act.put, List.setIfInBounds_toArray, List.set_cons_zero, List.set_cons_succ]
      refine Rh.done (by kernel_rfl) ?_ _
      go_wp2
      go_ret
      exact ⟨rfl, HBs.out.trans (HB6.out.mono HBs.out.size)⟩

end Go.Proofs.Ytpoflbnmfoamhaa.netSames
