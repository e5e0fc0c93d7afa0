/- NetOrder: for every input the law returns true and its arguments read as they did. No condition. -/
import Derived.Test.YtpoflbnmfoamhaaNetm
import Derived.Test.YtpoflbnmfoamhaaOpenc
import Derived.Outline
import Derived.Test.YtpoflbnmfoamhaaRows
import Derived.WalkKit
import Derived.ProofKit
import Derived.OpenShut
import Derived.ShutString
import Derived.ChangeOld
import Derived.Below
import Derived.Deep.Strs
namespace Go.Proofs.Ytpoflbnmfoamhaa.netOrder
open Go.ChangeShapes Go.WideShapes Go.ChangeAt Go.RowKit
open Go.ChangeMaps (open_string shut_string)
set_option linter.unusedVariables false
set_option linter.unusedSimpArgs false

theorem own : ownKnob Try.prog.godebug = none := by kernel_rfl
theorem laidOut : laidOutB Try.prog = true := by kernel_rfl

set_option maxRecDepth 100000
/-- what stands before the three tests: a network in its block, its arcs the call's own, and what Check says of it -/
def Pre (w W : World) (b : Nat) (want : Int) (n : Ne.Net) (o : Option Addr) (c : Nat) : Prop :=
  Ne.NetBox W b n.n n.s n.t (.slice o n.l.length c) ∧ (∃ B, Ne.OwnA W B (.slice o n.l.length c) n.l) ∧ Below w.heap.size w W ∧ n.l.length ≤ 1000 ∧ (∀ a ∈ n.l, Ne.in64 a.cap) ∧ Ne.checkN n = want
theorem in64_fine {n : Int} {a : Ne.Arc} (h : Ne.fineA n a) : Ne.in64 a.cap := by unfold Ne.in64; have := h.2.2; omega

set_option maxRecDepth 100000 in
set_option maxHeartbeats 4000000 in
theorem walk (a0 : Int) (a1 : Int) (a2 : List Ne.Arc) (o2 : Option Addr) (c2 : Nat) (a3 : Int) (a4 : Int) (w : World) (w0 : (Lit.int .i64 a0).wf = true) (w1 : (Lit.int .i64 a1).wf = true) (k2 : ∀ a ∈ a2, Ne.Arc.ok a) (z2 : a2.length ≤ c2) (y2 : c2 ≤ maxLen) (n2 : o2 = none → c2 = 0) (r2 : Ne.ARow w o2 a2) (w3 : (Lit.int .i64 a3).wf = true) (w4 : (Lit.int .i64 a4).wf = true) :
    Calls Try.prog 6 #[.int .i64 a0, .int .i64 a1, .slice o2 a2.length c2, .int .i64 a3, .int .i64 a4] w fun e w' => e = .returned (.bool true) ∧ Below w.heap.size w w' := by
  have HSH := Lib.hid (Ne.shown_any w)
  obtain ⟨mn, hmn⟩ : ∃ x, x = (Ne.madeN a0 a1 a2).n := ⟨_, rfl⟩
  obtain ⟨ms, hms⟩ : ∃ x, x = (Ne.madeN a0 a1 a2).s := ⟨_, rfl⟩
  obtain ⟨mt, hmt⟩ : ∃ x, x = (Ne.madeN a0 a1 a2).t := ⟨_, rfl⟩
  obtain ⟨ml, hml⟩ : ∃ x, x = (Ne.madeN a0 a1 a2).l := ⟨_, rfl⟩
  have em : Ne.madeN a0 a1 a2 = ⟨mn, ms, mt, ml⟩ := by rw [hmn, hms, hmt, hml]
  obtain ⟨f1, f2, f3, f4, f5, f6, f7, f8, f9⟩ := Ne.madeN_fine (nodes := a0) (ends := a1) k2
  have MD := Lib.hid fun w' (h : Ne.ARow w' o2 a2) => Ne.made_s a0 a1 a2 o2 c2 w' (bounds_i64 w0) (bounds_i64 w1) k2 h
  rw [em] at MD f1 f2 f3 f4 f5 f6 f7 f8 f9
  simp only at f1 f2 f3 f4 f5 f6 f7 f8 f9
  clear hmn hms hmt hml em
  have f8' : ml.length ≤ 24 := by omega
  clear f8
  have b3 := bounds_i64 w3
  have b4 := bounds_i64 w4
  obtain ⟨fl, hfl⟩ : ∃ x, x = ml ++ [⟨1, 2, 1⟩] := ⟨_, rfl⟩
  have ffl : ∀ a ∈ fl, Ne.fineA mn a := by
    rw [hfl]; intro a ha
    rcases List.mem_append.1 ha with h | h
    · exact f9 a h
    · simp at h; subst h
      refine ⟨(Ne.isNode_iff _ _).2 ⟨?_, ?_⟩, (Ne.isNode_iff _ _).2 ⟨?_, ?_⟩, ?_, ?_⟩ <;> simp only <;> omega
  have lfl : fl.length = ml.length + 1 := by rw [hfl]; simp
  have lf1 : fl.length ≤ 25 := by omega
  have lf2 : 1 ≤ fl.length := by omega
  clear lfl
  obtain ⟨pk, hpk⟩ : ∃ x, x = Ne.pickN a3 (fl.length : Int) := ⟨_, rfl⟩
  have bpk := Ne.pickN_bd (c := a3) (n := (fl.length : Int)) (by omega)
  rw [← hpk] at bpk
  obtain ⟨kk, hkk⟩ : ∃ k : Nat, pk = (k : Int) := ⟨pk.toNat, by omega⟩
  subst hkk
  have P1 := Lib.hid fun w' => Ne.pick_any a3 (fl.length : Int) w' b3.1 b3.2 (by omega) (by omega)
  rw [← hpk] at P1
  obtain ⟨pw, hpw⟩ : ∃ x, x = Ne.pickN a4 9 := ⟨_, rfl⟩
  have bpw := Ne.pickN_bd (c := a4) (n := 9) (by omega)
  rw [← hpw] at bpw
  have P2 := Lib.hid fun w' => Ne.pick_any a4 9 w' b4.1 b4.2 (by omega) (by omega)
  rw [← hpw] at P2
  have hkl : kk < fl.length := by omega
  obtain ⟨ak, hak⟩ : ∃ a, fl[kk]? = some a := ⟨_, List.getElem?_eq_getElem hkl⟩
  have fak := ffl ak (List.mem_of_getElem? hak)
  have HAPP := Lib.hid hfl
  clear hpk hpw hfl
  have RA := Lib.hid r2
  clear r2
  go_enter Try.func6, Try.ntmps6
  go_wp2_with fail
  refine HSH.out.mono ?_
  rintro e w1 ⟨rfl, hb⟩
  have HB1 := Lib.hid hb
  clear hb
  go_wp2_with fail
  refine (MD.out _ (RA.out.kept HB1.out)).mono ?_
  rintro e w2 ⟨om, cm, rfl, ho, hb⟩
  have HB2 := Lib.hid (HB1.out.trans (hb.mono HB1.out.size))
  have HF2 := Lib.hid (Ne.own_far ho)
  have HO2 := Lib.hid (Rw.own_base ho (B' := w.heap.size) HB1.out.size)
  have hz2 : w.heap.size ≤ w2.heap.size := HB2.out.size
  clear ho hb
  have HN3 := Lib.hid (Ne.netBox_new w2 mn ms mt (.slice om ml.length cm))
  have HO3 := Lib.hid (Rw.own_alloc (Rw.own_alloc HO2.out (.cells #[.int .i64 mn, .int .i64 ms, .int .i64 mt, .slice om ml.length cm] 24)) (.cells #[.int .i64 1, .int .i64 2, .int .i64 1] 35))
  have HB3 := Lib.hid ((HB2.out.alloc hz2 (.cells #[.int .i64 mn, .int .i64 ms, .int .i64 mt, .slice om ml.length cm] 24)).alloc (by simp; omega) (.cells #[.int .i64 1, .int .i64 2, .int .i64 1] 35))
  have HN3' := Lib.hid (Ne.netBox_alloc HN3.out (.cells #[.int .i64 1, .int .i64 2, .int .i64 1] 35))
  have HLN := Lib.hid (show ml.length + ([⟨1, 2, 1⟩] : List Ne.Arc).length ≤ 1099511627776 by simp; omega)
  have HZ3 : ((w2.alloc (.cells #[.int .i64 mn, .int .i64 ms, .int .i64 mt, .slice om ml.length cm] 24)).alloc (.cells #[.int .i64 1, .int .i64 2, .int .i64 1] 35)).heap.size = w2.heap.size + 2 := by simp
  have HAR := Lib.hid (Ne.arow_at1 (w2.alloc (.cells #[.int .i64 mn, .int .i64 ms, .int .i64 mt, .slice om ml.length cm] 24)) (b := w2.heap.size + 1) (by simp) ⟨1, 2, 1⟩)
  obtain ⟨n0, n1, n2, n3⟩ := Ne.netBox_cells HN3'.out
  have nf := Ne.netBox_frozen HN3'.out 3
  go_wp2_with (at_builtin; refine Rw.app Ne.elemA Ne.encA_len Ne.encA_one rfl (.tmp 23) (.tmp 25) rfl w.heap.size _ ml rfl HO3.out (some ⟨w2.heap.size + 1, 0, none⟩) 1 [⟨1, 2, 1⟩] rfl ?hnn HAR.out HLN.out ?hB ?_; (case hnn => (intro h; cases h)); (case hB => (simp; omega)); intro v4 w4 hown4 hgr4; rw [← HAPP.out] at hown4; obtain ⟨o4, c4, hv4, _, _, hc4, _⟩ := Rw.own_row Ne.encA_len hown4; subst hv4; have HX4 := Lib.hid (Ne.netBox_grown HN3'.out hgr4 (fun h => by have := HF2.out _ h.symm; omega)); have HB4 := Lib.hid (HB3.out.grown hgr4 (by omega) (fun b hb => Nat.le_trans HB1.out.size (HF2.out b hb).1)); have HO4 := Lib.hid hown4; obtain ⟨n0, n1, n2, n3⟩ := Ne.netBox_cells HX4.out; have nf := Ne.netBox_frozen HX4.out 3; clear hown4 hgr4)
  have HX5 := Lib.hid (Ne.netBox_set (v2 := .slice o4 fl.length c4) HX4.out)
  have HO5 := Lib.hid (Rw.own_set HO4.out (p := ⟨w2.heap.size, 3, none⟩) (Ne.own_ne_box HO4.out HX4.out) (.slice o4 fl.length c4))
  have HB5 := Lib.hid (HB4.out.setCell (p := ⟨w2.heap.size, 3, none⟩) hz2 (.slice o4 fl.length c4))
  clear n0 n1 n2 n3 nf
  clear HO4 HX4 HB4 HO3 HB3 HN3 HN3' HAR HLN HO2 HB2 HZ3
  generalize (w4.setCell ⟨w2.heap.size, 3, none⟩ (.slice o4 fl.length c4)) = W5 at *
  generalize w2.heap.size = bb at *
  obtain ⟨n0, n1, n2, n3⟩ := Ne.netBox_cells HX5.out
  have nf0 := Ne.netBox_frozen HX5.out 0
  have nf1 := Ne.netBox_frozen HX5.out 1
  have nf2 := Ne.netBox_frozen HX5.out 2
  obtain ⟨g, rfl, hgB, hgs, hcell, hfz⟩ := Ne.own_cells Ne.encA_len HO5.out hak
  have c0' := hcell 0 _ rfl
  have c1' := hcell 1 _ rfl
  have c2' := hcell 2 _ rfl
  rw [Nat.add_zero] at c0'
  have z0' := hfz (kk * 3)
  have z1' := hfz (kk * 3 + 1)
  have z2' := hfz (kk * 3 + 2)
  have hgb : g ≠ bb := fun h => Ne.own_ne_box HO5.out HX5.out (by rw [← h]; rfl)
  have hki : (kk : Int) < (fl.length : Int) := by omega
  have HAK := Lib.hid hak
  clear hcell hfz hak hc4
  go_wp2_with fail
  refine (P1.out _).mono ?_
  rintro e w6 ⟨rfl, rfl⟩
  go_wp2_with fail
  refine (P2.out _).mono ?_
  rintro e w6 ⟨rfl, rfl⟩
  clear P1 P2
  have hlf : fl.length ≤ 1000 := by omega
  have h9 : pw = 0 ∨ pw = 1 ∨ pw = 2 ∨ pw = 3 ∨ pw = 4 ∨ pw = 5 ∨ pw = 6 ∨ pw = 7 ∨ pw = 8 := by omega
  have HCB := Lib.hid fun b => Ne.checkN_bad (n := ⟨mn, ms, mt, fl.set kk b⟩) (by refine ⟨?_, ?_, ?_, ?_, ?_, ?_, ?_, ?_⟩ <;> simp only [List.length_set] <;> omega) ffl hkl (b := b) rfl
  have FFL := Lib.hid ffl
  have F9 := Lib.hid f9
  have F7 := Lib.hid f7
  obtain ⟨fk1, fk2, fk3, fk4⟩ := fak
  clear ffl f9 f7
  clear HSH MD
  rcases h9 with h9 | h9 | h9 | h9 | h9 | h9 | h9 | h9 | h9
  · subst h9
    have HE := Lib.hid (show Ne.checkN ⟨501, ms, mt, fl⟩ = 3 by unfold Ne.checkN; rw [if_pos (Or.inr (by simp only; omega))])
    have HXe := Lib.hid (Ne.netBox_set0 (n2 := 501) HX5.out)
    have HOe := Lib.hid (Rw.own_set HO5.out (p := ⟨bb, 0, none⟩) (Ne.own_ne_box HO5.out HX5.out) (.int .i64 501))
    have HBe := Lib.hid (HB5.out.setCell (p := ⟨bb, 0, none⟩) hz2 (.int .i64 501))
    have HRe := Lib.hid (Ne.arow_of HOe.out).2.2
    have HIN : ∀ a ∈ (fl : List Ne.Arc), Ne.in64 a.cap := fun a ha => by
      exact in64_fine (FFL.out a ha)
    have HLE : (fl : List Ne.Arc).length ≤ 1000000 := by first | omega | (simp; omega)
    have CK := Lib.hid fun w' (h : Ne.ARow w' (some ⟨g, 0, none⟩) fl) => Ne.check_any ⟨501, ms, mt, fl⟩ (some ⟨g, 0, none⟩) c4 w' h HLE HIN
    have TN := Lib.hid fun w' (h : Ne.ARow w' (some ⟨g, 0, none⟩) fl) => Ne.turn_s ⟨501, ms, mt, fl⟩ (some ⟨g, 0, none⟩) c4 w' (fun h => by cases h) h HLE
    have CP := Lib.hid fun w' (h : Ne.ARow w' (some ⟨g, 0, none⟩) fl) => Ne.copy_s ⟨501, ms, mt, fl⟩ (some ⟨g, 0, none⟩) c4 w' (fun h => by cases h) h HLE
    have CT := Lib.hid fun w' o c (h : Ne.ARow w' o (Ne.turnN ⟨501, ms, mt, fl⟩).l) => Ne.check_any (Ne.turnN ⟨501, ms, mt, fl⟩) o c w' h (by simpa [Ne.turnN] using HLE) (fun a ha => by
      obtain ⟨x, hx, rfl⟩ := List.mem_map.1 ha
      exact HIN x hx)
    have CC := Lib.hid fun w' o c (h : Ne.ARow w' o fl) => Ne.check_any ⟨501, ms, mt, fl⟩ o c w' h HLE HIN
    rw [Ne.checkN_turn] at CT
    rw [HE.out] at CK CT CC
    simp only [Ne.encN, Ne.turnN, List.length_map, List.length_set] at CK TN CP CT CC
    have LL := Lib.hid (show True from trivial)
    clear HIN HLE
    go_wp2_with fail
    generalize (W5.setCell ⟨bb, 0, none⟩ (.int .i64 501)) = WE at *
    obtain ⟨m0, m1, m2, m3⟩ := Ne.netBox_cells HXe.out
    have hbe := Ne.netBox_lt HXe.out
    clear n0 n1 n2 n3 nf0 nf1 nf2 c0' c1' c2' z0' z1' z2'
    refine (CK.out _ HRe.out).mono ?_
    rintro e x1 ⟨rfl, hb⟩
    have D1 := Lib.hid hb
    obtain ⟨m0, m1, m2, m3⟩ := Ne.netBox_cells (Ne.netBox_below HXe.out hb hbe)
    clear hb
    go_wp2_with fail
    refine (TN.out _ (HRe.out.kept D1.out)).mono ?_
    rintro e x2 ⟨o2', q2, rfl, r2, hb⟩
    have D2 := Lib.hid (D1.out.trans (hb.mono D1.out.size))
    have R2 := Lib.hid r2
    obtain ⟨m0, m1, m2, m3⟩ := Ne.netBox_cells (Ne.netBox_below HXe.out D2.out hbe)
    clear hb r2
    go_wp2_with fail
    refine (CT.out _ o2' q2 R2.out).mono ?_
    rintro e x3 ⟨rfl, hb⟩
    have D3 := Lib.hid (D2.out.trans (hb.mono D2.out.size))
    obtain ⟨m0, m1, m2, m3⟩ := Ne.netBox_cells (Ne.netBox_below HXe.out D3.out hbe)
    clear hb
    go_wp2_with fail
    refine (CP.out _ (HRe.out.kept D3.out)).mono ?_
    rintro e x4 ⟨o4', q4, rfl, r4, hb⟩
    have D4 := Lib.hid (D3.out.trans (hb.mono D3.out.size))
    have R4 := Lib.hid r4
    obtain ⟨m0, m1, m2, m3⟩ := Ne.netBox_cells (Ne.netBox_below HXe.out D4.out hbe)
    clear hb r4
    go_wp2_with fail
    refine (CC.out _ o4' q4 R4.out).mono ?_
    rintro e x5 ⟨rfl, hb⟩
    have D5 := Lib.hid (D4.out.trans (hb.mono D4.out.size))
    clear hb
    go_wp2
    go_ret
    exact ⟨rfl, HBe.out.trans (D5.out.mono HBe.out.size)⟩
  · subst h9
    have HE := Lib.hid (show Ne.checkN ⟨1, ms, mt, fl⟩ = 3 by unfold Ne.checkN; rw [if_pos (Or.inl (by simp only; omega))])
    have HXe := Lib.hid (Ne.netBox_set0 (n2 := 1) HX5.out)
    have HOe := Lib.hid (Rw.own_set HO5.out (p := ⟨bb, 0, none⟩) (Ne.own_ne_box HO5.out HX5.out) (.int .i64 1))
    have HBe := Lib.hid (HB5.out.setCell (p := ⟨bb, 0, none⟩) hz2 (.int .i64 1))
    have HRe := Lib.hid (Ne.arow_of HOe.out).2.2
    have HIN : ∀ a ∈ (fl : List Ne.Arc), Ne.in64 a.cap := fun a ha => by
      exact in64_fine (FFL.out a ha)
    have HLE : (fl : List Ne.Arc).length ≤ 1000000 := by first | omega | (simp; omega)
    have CK := Lib.hid fun w' (h : Ne.ARow w' (some ⟨g, 0, none⟩) fl) => Ne.check_any ⟨1, ms, mt, fl⟩ (some ⟨g, 0, none⟩) c4 w' h HLE HIN
    have TN := Lib.hid fun w' (h : Ne.ARow w' (some ⟨g, 0, none⟩) fl) => Ne.turn_s ⟨1, ms, mt, fl⟩ (some ⟨g, 0, none⟩) c4 w' (fun h => by cases h) h HLE
    have CP := Lib.hid fun w' (h : Ne.ARow w' (some ⟨g, 0, none⟩) fl) => Ne.copy_s ⟨1, ms, mt, fl⟩ (some ⟨g, 0, none⟩) c4 w' (fun h => by cases h) h HLE
    have CT := Lib.hid fun w' o c (h : Ne.ARow w' o (Ne.turnN ⟨1, ms, mt, fl⟩).l) => Ne.check_any (Ne.turnN ⟨1, ms, mt, fl⟩) o c w' h (by simpa [Ne.turnN] using HLE) (fun a ha => by
      obtain ⟨x, hx, rfl⟩ := List.mem_map.1 ha
      exact HIN x hx)
    have CC := Lib.hid fun w' o c (h : Ne.ARow w' o fl) => Ne.check_any ⟨1, ms, mt, fl⟩ o c w' h HLE HIN
    rw [Ne.checkN_turn] at CT
    rw [HE.out] at CK CT CC
    simp only [Ne.encN, Ne.turnN, List.length_map, List.length_set] at CK TN CP CT CC
    have LL := Lib.hid (show True from trivial)
    clear HIN HLE
    go_wp2_with fail
    generalize (W5.setCell ⟨bb, 0, none⟩ (.int .i64 1)) = WE at *
    obtain ⟨m0, m1, m2, m3⟩ := Ne.netBox_cells HXe.out
    have hbe := Ne.netBox_lt HXe.out
    clear n0 n1 n2 n3 nf0 nf1 nf2 c0' c1' c2' z0' z1' z2'
    refine (CK.out _ HRe.out).mono ?_
    rintro e x1 ⟨rfl, hb⟩
    have D1 := Lib.hid hb
    obtain ⟨m0, m1, m2, m3⟩ := Ne.netBox_cells (Ne.netBox_below HXe.out hb hbe)
    clear hb
    go_wp2_with fail
    refine (TN.out _ (HRe.out.kept D1.out)).mono ?_
    rintro e x2 ⟨o2', q2, rfl, r2, hb⟩
    have D2 := Lib.hid (D1.out.trans (hb.mono D1.out.size))
    have R2 := Lib.hid r2
    obtain ⟨m0, m1, m2, m3⟩ := Ne.netBox_cells (Ne.netBox_below HXe.out D2.out hbe)
    clear hb r2
    go_wp2_with fail
    refine (CT.out _ o2' q2 R2.out).mono ?_
    rintro e x3 ⟨rfl, hb⟩
    have D3 := Lib.hid (D2.out.trans (hb.mono D2.out.size))
    obtain ⟨m0, m1, m2, m3⟩ := Ne.netBox_cells (Ne.netBox_below HXe.out D3.out hbe)
    clear hb
    go_wp2_with fail
    refine (CP.out _ (HRe.out.kept D3.out)).mono ?_
    rintro e x4 ⟨o4', q4, rfl, r4, hb⟩
    have D4 := Lib.hid (D3.out.trans (hb.mono D3.out.size))
    have R4 := Lib.hid r4
    obtain ⟨m0, m1, m2, m3⟩ := Ne.netBox_cells (Ne.netBox_below HXe.out D4.out hbe)
    clear hb r4
    go_wp2_with fail
    refine (CC.out _ o4' q4 R4.out).mono ?_
    rintro e x5 ⟨rfl, hb⟩
    have D5 := Lib.hid (D4.out.trans (hb.mono D4.out.size))
    clear hb
    go_wp2
    go_ret
    exact ⟨rfl, HBe.out.trans (D5.out.mono HBe.out.size)⟩
  · subst h9
    have e1 : IntKind.i64.wrap (mn + 1) = mn + 1 := Ne.wrap_in (by unfold Ne.in64; omega)
    have HE := Lib.hid (show Ne.checkN ⟨mn, ms, (mn + 1), fl⟩ = 4 by unfold Ne.checkN; rw [if_neg (by simp only; omega), if_neg (by simp [Ne.isNode]; omega)])
    have HXe := Lib.hid (Ne.netBox_set2' (t2 := mn + 1) HX5.out)
    have HOe := Lib.hid (Rw.own_set HO5.out (p := ⟨bb, 2, none⟩) (Ne.own_ne_box HO5.out HX5.out) (.int .i64 (mn + 1)))
    have HBe := Lib.hid (HB5.out.setCell (p := ⟨bb, 2, none⟩) hz2 (.int .i64 (mn + 1)))
    have HRe := Lib.hid (Ne.arow_of HOe.out).2.2
    have HIN : ∀ a ∈ (fl : List Ne.Arc), Ne.in64 a.cap := fun a ha => by
      exact in64_fine (FFL.out a ha)
    have HLE : (fl : List Ne.Arc).length ≤ 1000000 := by first | omega | (simp; omega)
    have CK := Lib.hid fun w' (h : Ne.ARow w' (some ⟨g, 0, none⟩) fl) => Ne.check_any ⟨mn, ms, (mn + 1), fl⟩ (some ⟨g, 0, none⟩) c4 w' h HLE HIN
    have TN := Lib.hid fun w' (h : Ne.ARow w' (some ⟨g, 0, none⟩) fl) => Ne.turn_s ⟨mn, ms, (mn + 1), fl⟩ (some ⟨g, 0, none⟩) c4 w' (fun h => by cases h) h HLE
    have CP := Lib.hid fun w' (h : Ne.ARow w' (some ⟨g, 0, none⟩) fl) => Ne.copy_s ⟨mn, ms, (mn + 1), fl⟩ (some ⟨g, 0, none⟩) c4 w' (fun h => by cases h) h HLE
    have CT := Lib.hid fun w' o c (h : Ne.ARow w' o (Ne.turnN ⟨mn, ms, (mn + 1), fl⟩).l) => Ne.check_any (Ne.turnN ⟨mn, ms, (mn + 1), fl⟩) o c w' h (by simpa [Ne.turnN] using HLE) (fun a ha => by
      obtain ⟨x, hx, rfl⟩ := List.mem_map.1 ha
      exact HIN x hx)
    have CC := Lib.hid fun w' o c (h : Ne.ARow w' o fl) => Ne.check_any ⟨mn, ms, (mn + 1), fl⟩ o c w' h HLE HIN
    rw [Ne.checkN_turn] at CT
    rw [HE.out] at CK CT CC
    simp only [Ne.encN, Ne.turnN, List.length_map, List.length_set] at CK TN CP CT CC
    have LL := Lib.hid (show True from trivial)
    clear HIN HLE
    go_wp2_with fail
    generalize (W5.setCell ⟨bb, 2, none⟩ (.int .i64 (mn + 1))) = WE at *
    obtain ⟨m0, m1, m2, m3⟩ := Ne.netBox_cells HXe.out
    have hbe := Ne.netBox_lt HXe.out
    clear n0 n1 n2 n3 nf0 nf1 nf2 c0' c1' c2' z0' z1' z2'
    refine (CK.out _ HRe.out).mono ?_
    rintro e x1 ⟨rfl, hb⟩
    have D1 := Lib.hid hb
    obtain ⟨m0, m1, m2, m3⟩ := Ne.netBox_cells (Ne.netBox_below HXe.out hb hbe)
    clear hb
    go_wp2_with fail
    refine (TN.out _ (HRe.out.kept D1.out)).mono ?_
    rintro e x2 ⟨o2', q2, rfl, r2, hb⟩
    have D2 := Lib.hid (D1.out.trans (hb.mono D1.out.size))
    have R2 := Lib.hid r2
    obtain ⟨m0, m1, m2, m3⟩ := Ne.netBox_cells (Ne.netBox_below HXe.out D2.out hbe)
    clear hb r2
    go_wp2_with fail
    refine (CT.out _ o2' q2 R2.out).mono ?_
    rintro e x3 ⟨rfl, hb⟩
    have D3 := Lib.hid (D2.out.trans (hb.mono D2.out.size))
    obtain ⟨m0, m1, m2, m3⟩ := Ne.netBox_cells (Ne.netBox_below HXe.out D3.out hbe)
    clear hb
    go_wp2_with fail
    refine (CP.out _ (HRe.out.kept D3.out)).mono ?_
    rintro e x4 ⟨o4', q4, rfl, r4, hb⟩
    have D4 := Lib.hid (D3.out.trans (hb.mono D3.out.size))
    have R4 := Lib.hid r4
    obtain ⟨m0, m1, m2, m3⟩ := Ne.netBox_cells (Ne.netBox_below HXe.out D4.out hbe)
    clear hb r4
    go_wp2_with fail
    refine (CC.out _ o4' q4 R4.out).mono ?_
    rintro e x5 ⟨rfl, hb⟩
    have D5 := Lib.hid (D4.out.trans (hb.mono D4.out.size))
    clear hb
    go_wp2
    go_ret
    exact ⟨rfl, HBe.out.trans (D5.out.mono HBe.out.size)⟩
  · subst h9
    have HE := Lib.hid (show Ne.checkN ⟨mn, 0, mt, fl⟩ = 4 by unfold Ne.checkN; rw [if_neg (by simp only; omega), if_neg (by simp [Ne.isNode])])
    have HXe := Lib.hid (Ne.netBox_set1 (s2 := 0) HX5.out)
    have HOe := Lib.hid (Rw.own_set HO5.out (p := ⟨bb, 1, none⟩) (Ne.own_ne_box HO5.out HX5.out) (.int .i64 0))
    have HBe := Lib.hid (HB5.out.setCell (p := ⟨bb, 1, none⟩) hz2 (.int .i64 0))
    have HRe := Lib.hid (Ne.arow_of HOe.out).2.2
    have HIN : ∀ a ∈ (fl : List Ne.Arc), Ne.in64 a.cap := fun a ha => by
      exact in64_fine (FFL.out a ha)
    have HLE : (fl : List Ne.Arc).length ≤ 1000000 := by first | omega | (simp; omega)
    have CK := Lib.hid fun w' (h : Ne.ARow w' (some ⟨g, 0, none⟩) fl) => Ne.check_any ⟨mn, 0, mt, fl⟩ (some ⟨g, 0, none⟩) c4 w' h HLE HIN
    have TN := Lib.hid fun w' (h : Ne.ARow w' (some ⟨g, 0, none⟩) fl) => Ne.turn_s ⟨mn, 0, mt, fl⟩ (some ⟨g, 0, none⟩) c4 w' (fun h => by cases h) h HLE
    have CP := Lib.hid fun w' (h : Ne.ARow w' (some ⟨g, 0, none⟩) fl) => Ne.copy_s ⟨mn, 0, mt, fl⟩ (some ⟨g, 0, none⟩) c4 w' (fun h => by cases h) h HLE
    have CT := Lib.hid fun w' o c (h : Ne.ARow w' o (Ne.turnN ⟨mn, 0, mt, fl⟩).l) => Ne.check_any (Ne.turnN ⟨mn, 0, mt, fl⟩) o c w' h (by simpa [Ne.turnN] using HLE) (fun a ha => by
      obtain ⟨x, hx, rfl⟩ := List.mem_map.1 ha
      exact HIN x hx)
    have CC := Lib.hid fun w' o c (h : Ne.ARow w' o fl) => Ne.check_any ⟨mn, 0, mt, fl⟩ o c w' h HLE HIN
    rw [Ne.checkN_turn] at CT
    rw [HE.out] at CK CT CC
    simp only [Ne.encN, Ne.turnN, List.length_map, List.length_set] at CK TN CP CT CC
    have LL := Lib.hid (show True from trivial)
    clear HIN HLE
    go_wp2_with fail
    generalize (W5.setCell ⟨bb, 1, none⟩ (.int .i64 0)) = WE at *
    obtain ⟨m0, m1, m2, m3⟩ := Ne.netBox_cells HXe.out
    have hbe := Ne.netBox_lt HXe.out
    clear n0 n1 n2 n3 nf0 nf1 nf2 c0' c1' c2' z0' z1' z2'
    refine (CK.out _ HRe.out).mono ?_
    rintro e x1 ⟨rfl, hb⟩
    have D1 := Lib.hid hb
    obtain ⟨m0, m1, m2, m3⟩ := Ne.netBox_cells (Ne.netBox_below HXe.out hb hbe)
    clear hb
    go_wp2_with fail
    refine (TN.out _ (HRe.out.kept D1.out)).mono ?_
    rintro e x2 ⟨o2', q2, rfl, r2, hb⟩
    have D2 := Lib.hid (D1.out.trans (hb.mono D1.out.size))
    have R2 := Lib.hid r2
    obtain ⟨m0, m1, m2, m3⟩ := Ne.netBox_cells (Ne.netBox_below HXe.out D2.out hbe)
    clear hb r2
    go_wp2_with fail
    refine (CT.out _ o2' q2 R2.out).mono ?_
    rintro e x3 ⟨rfl, hb⟩
    have D3 := Lib.hid (D2.out.trans (hb.mono D2.out.size))
    obtain ⟨m0, m1, m2, m3⟩ := Ne.netBox_cells (Ne.netBox_below HXe.out D3.out hbe)
    clear hb
    go_wp2_with fail
    refine (CP.out _ (HRe.out.kept D3.out)).mono ?_
    rintro e x4 ⟨o4', q4, rfl, r4, hb⟩
    have D4 := Lib.hid (D3.out.trans (hb.mono D3.out.size))
    have R4 := Lib.hid r4
    obtain ⟨m0, m1, m2, m3⟩ := Ne.netBox_cells (Ne.netBox_below HXe.out D4.out hbe)
    clear hb r4
    go_wp2_with fail
    refine (CC.out _ o4' q4 R4.out).mono ?_
    rintro e x5 ⟨rfl, hb⟩
    have D5 := Lib.hid (D4.out.trans (hb.mono D4.out.size))
    clear hb
    go_wp2
    go_ret
    exact ⟨rfl, HBe.out.trans (D5.out.mono HBe.out.size)⟩
  · subst h9
    have HE := Lib.hid (show Ne.checkN ⟨mn, ms, ms, fl⟩ = 5 by unfold Ne.checkN; rw [if_neg (by simp only; omega), if_pos (by simp [Ne.isNode]; omega), if_pos rfl])
    have HXe := Lib.hid (Ne.netBox_set2' (t2 := ms) HX5.out)
    have HOe := Lib.hid (Rw.own_set HO5.out (p := ⟨bb, 2, none⟩) (Ne.own_ne_box HO5.out HX5.out) (.int .i64 ms))
    have HBe := Lib.hid (HB5.out.setCell (p := ⟨bb, 2, none⟩) hz2 (.int .i64 ms))
    have HRe := Lib.hid (Ne.arow_of HOe.out).2.2
    have HIN : ∀ a ∈ (fl : List Ne.Arc), Ne.in64 a.cap := fun a ha => by
      exact in64_fine (FFL.out a ha)
    have HLE : (fl : List Ne.Arc).length ≤ 1000000 := by first | omega | (simp; omega)
    have CK := Lib.hid fun w' (h : Ne.ARow w' (some ⟨g, 0, none⟩) fl) => Ne.check_any ⟨mn, ms, ms, fl⟩ (some ⟨g, 0, none⟩) c4 w' h HLE HIN
    have TN := Lib.hid fun w' (h : Ne.ARow w' (some ⟨g, 0, none⟩) fl) => Ne.turn_s ⟨mn, ms, ms, fl⟩ (some ⟨g, 0, none⟩) c4 w' (fun h => by cases h) h HLE
    have CP := Lib.hid fun w' (h : Ne.ARow w' (some ⟨g, 0, none⟩) fl) => Ne.copy_s ⟨mn, ms, ms, fl⟩ (some ⟨g, 0, none⟩) c4 w' (fun h => by cases h) h HLE
    have CT := Lib.hid fun w' o c (h : Ne.ARow w' o (Ne.turnN ⟨mn, ms, ms, fl⟩).l) => Ne.check_any (Ne.turnN ⟨mn, ms, ms, fl⟩) o c w' h (by simpa [Ne.turnN] using HLE) (fun a ha => by
      obtain ⟨x, hx, rfl⟩ := List.mem_map.1 ha
      exact HIN x hx)
    have CC := Lib.hid fun w' o c (h : Ne.ARow w' o fl) => Ne.check_any ⟨mn, ms, ms, fl⟩ o c w' h HLE HIN
    rw [Ne.checkN_turn] at CT
    rw [HE.out] at CK CT CC
    simp only [Ne.encN, Ne.turnN, List.length_map, List.length_set] at CK TN CP CT CC
    have LL := Lib.hid (show True from trivial)
    clear HIN HLE
    go_wp2_with fail
    generalize (W5.setCell ⟨bb, 2, none⟩ (.int .i64 ms)) = WE at *
    obtain ⟨m0, m1, m2, m3⟩ := Ne.netBox_cells HXe.out
    have hbe := Ne.netBox_lt HXe.out
    clear n0 n1 n2 n3 nf0 nf1 nf2 c0' c1' c2' z0' z1' z2'
    refine (CK.out _ HRe.out).mono ?_
    rintro e x1 ⟨rfl, hb⟩
    have D1 := Lib.hid hb
    obtain ⟨m0, m1, m2, m3⟩ := Ne.netBox_cells (Ne.netBox_below HXe.out hb hbe)
    clear hb
    go_wp2_with fail
    refine (TN.out _ (HRe.out.kept D1.out)).mono ?_
    rintro e x2 ⟨o2', q2, rfl, r2, hb⟩
    have D2 := Lib.hid (D1.out.trans (hb.mono D1.out.size))
    have R2 := Lib.hid r2
    obtain ⟨m0, m1, m2, m3⟩ := Ne.netBox_cells (Ne.netBox_below HXe.out D2.out hbe)
    clear hb r2
    go_wp2_with fail
    refine (CT.out _ o2' q2 R2.out).mono ?_
    rintro e x3 ⟨rfl, hb⟩
    have D3 := Lib.hid (D2.out.trans (hb.mono D2.out.size))
    obtain ⟨m0, m1, m2, m3⟩ := Ne.netBox_cells (Ne.netBox_below HXe.out D3.out hbe)
    clear hb
    go_wp2_with fail
    refine (CP.out _ (HRe.out.kept D3.out)).mono ?_
    rintro e x4 ⟨o4', q4, rfl, r4, hb⟩
    have D4 := Lib.hid (D3.out.trans (hb.mono D3.out.size))
    have R4 := Lib.hid r4
    obtain ⟨m0, m1, m2, m3⟩ := Ne.netBox_cells (Ne.netBox_below HXe.out D4.out hbe)
    clear hb r4
    go_wp2_with fail
    refine (CC.out _ o4' q4 R4.out).mono ?_
    rintro e x5 ⟨rfl, hb⟩
    have D5 := Lib.hid (D4.out.trans (hb.mono D4.out.size))
    clear hb
    go_wp2
    go_ret
    exact ⟨rfl, HBe.out.trans (D5.out.mono HBe.out.size)⟩
  · subst h9
    have HE := Lib.hid (show Ne.checkN ⟨mn, ms, mt, (fl.set kk ⟨0, ak.to, -1⟩)⟩ = 4 by exact (HCB.out _).1 (.inl (by simp [Ne.isNode])))
    have HXe := Lib.hid (Ne.netBox_other (Ne.netBox_other HX5.out (b2 := g) (o := kk * 3) (v2 := .int .i64 0) (Ne.symm hgb)) (b2 := g) (o := kk * 3 + 2) (v2 := .int .i64 (-1)) (Ne.symm hgb))
    have HOe := Lib.hid (show Ne.OwnA ((W5.setCell ⟨g, kk * 3, none⟩ (.int .i64 0)).setCell ⟨g, kk * 3 + 2, none⟩ (.int .i64 (-1))) w.heap.size (.slice (some ⟨g, 0, none⟩) fl.length c4) (fl.set kk ⟨0, ak.to, -1⟩) from by have h := (Ne.own_put Ne.encA_len (Ne.own_put Ne.encA_len HO5.out (i := kk) (x := ak) (y := ⟨0, ak.to, ak.cap⟩) HAK.out (j := 0) (by omega) (u := .int .i64 0) rfl) (i := kk) (x := ⟨0, ak.to, ak.cap⟩) (y := ⟨0, ak.to, -1⟩) (by rw [List.getElem?_set_self hkl]) (j := 2) (by omega) (u := .int .i64 (-1)) rfl); rw [List.set_set] at h; exact h)
    have HBe := Lib.hid ((HB5.out.setCell (p := ⟨g, kk * 3, none⟩) hgB (.int .i64 0)).setCell (p := ⟨g, kk * 3 + 2, none⟩) hgB (.int .i64 (-1)))
    have HRe := Lib.hid (Ne.arow_of HOe.out).2.2
    have HIN : ∀ a ∈ ((fl.set kk ⟨0, ak.to, -1⟩) : List Ne.Arc), Ne.in64 a.cap := fun a ha => by
      rcases List.mem_or_eq_of_mem_set ha with h | h
      · exact in64_fine (FFL.out a h)
      · subst h; unfold Ne.in64; simp only; omega
    have HLE : ((fl.set kk ⟨0, ak.to, -1⟩) : List Ne.Arc).length ≤ 1000000 := by first | omega | (simp; omega)
    have CK := Lib.hid fun w' (h : Ne.ARow w' (some ⟨g, 0, none⟩) (fl.set kk ⟨0, ak.to, -1⟩)) => Ne.check_any ⟨mn, ms, mt, (fl.set kk ⟨0, ak.to, -1⟩)⟩ (some ⟨g, 0, none⟩) c4 w' h HLE HIN
    have TN := Lib.hid fun w' (h : Ne.ARow w' (some ⟨g, 0, none⟩) (fl.set kk ⟨0, ak.to, -1⟩)) => Ne.turn_s ⟨mn, ms, mt, (fl.set kk ⟨0, ak.to, -1⟩)⟩ (some ⟨g, 0, none⟩) c4 w' (fun h => by cases h) h HLE
    have CP := Lib.hid fun w' (h : Ne.ARow w' (some ⟨g, 0, none⟩) (fl.set kk ⟨0, ak.to, -1⟩)) => Ne.copy_s ⟨mn, ms, mt, (fl.set kk ⟨0, ak.to, -1⟩)⟩ (some ⟨g, 0, none⟩) c4 w' (fun h => by cases h) h HLE
    have CT := Lib.hid fun w' o c (h : Ne.ARow w' o (Ne.turnN ⟨mn, ms, mt, (fl.set kk ⟨0, ak.to, -1⟩)⟩).l) => Ne.check_any (Ne.turnN ⟨mn, ms, mt, (fl.set kk ⟨0, ak.to, -1⟩)⟩) o c w' h (by simpa [Ne.turnN] using HLE) (fun a ha => by
      obtain ⟨x, hx, rfl⟩ := List.mem_map.1 ha
      exact HIN x hx)
    have CC := Lib.hid fun w' o c (h : Ne.ARow w' o (fl.set kk ⟨0, ak.to, -1⟩)) => Ne.check_any ⟨mn, ms, mt, (fl.set kk ⟨0, ak.to, -1⟩)⟩ o c w' h HLE HIN
    rw [Ne.checkN_turn] at CT
    rw [HE.out] at CK CT CC
    simp only [Ne.encN, Ne.turnN, List.length_map, List.length_set] at CK TN CP CT CC
    have LL := Lib.hid (show True from trivial)
    clear HIN HLE
    go_wp2_with fail
    generalize ((W5.setCell ⟨g, kk * 3, none⟩ (.int .i64 0)).setCell ⟨g, kk * 3 + 2, none⟩ (.int .i64 (-1))) = WE at *
    obtain ⟨m0, m1, m2, m3⟩ := Ne.netBox_cells HXe.out
    have hbe := Ne.netBox_lt HXe.out
    clear n0 n1 n2 n3 nf0 nf1 nf2 c0' c1' c2' z0' z1' z2'
    refine (CK.out _ HRe.out).mono ?_
    rintro e x1 ⟨rfl, hb⟩
    have D1 := Lib.hid hb
    obtain ⟨m0, m1, m2, m3⟩ := Ne.netBox_cells (Ne.netBox_below HXe.out hb hbe)
    clear hb
    go_wp2_with fail
    refine (TN.out _ (HRe.out.kept D1.out)).mono ?_
    rintro e x2 ⟨o2', q2, rfl, r2, hb⟩
    have D2 := Lib.hid (D1.out.trans (hb.mono D1.out.size))
    have R2 := Lib.hid r2
    obtain ⟨m0, m1, m2, m3⟩ := Ne.netBox_cells (Ne.netBox_below HXe.out D2.out hbe)
    clear hb r2
    go_wp2_with fail
    refine (CT.out _ o2' q2 R2.out).mono ?_
    rintro e x3 ⟨rfl, hb⟩
    have D3 := Lib.hid (D2.out.trans (hb.mono D2.out.size))
    obtain ⟨m0, m1, m2, m3⟩ := Ne.netBox_cells (Ne.netBox_below HXe.out D3.out hbe)
    clear hb
    go_wp2_with fail
    refine (CP.out _ (HRe.out.kept D3.out)).mono ?_
    rintro e x4 ⟨o4', q4, rfl, r4, hb⟩
    have D4 := Lib.hid (D3.out.trans (hb.mono D3.out.size))
    have R4 := Lib.hid r4
    obtain ⟨m0, m1, m2, m3⟩ := Ne.netBox_cells (Ne.netBox_below HXe.out D4.out hbe)
    clear hb r4
    go_wp2_with fail
    refine (CC.out _ o4' q4 R4.out).mono ?_
    rintro e x5 ⟨rfl, hb⟩
    have D5 := Lib.hid (D4.out.trans (hb.mono D4.out.size))
    clear hb
    go_wp2
    go_ret
    exact ⟨rfl, HBe.out.trans (D5.out.mono HBe.out.size)⟩
  · subst h9
    have e1 : IntKind.i64.wrap (mn + 1) = mn + 1 := Ne.wrap_in (by unfold Ne.in64; omega)
    have HE := Lib.hid (show Ne.checkN ⟨mn, ms, mt, (fl.set kk ⟨ak.fr, mn + 1, ak.cap⟩)⟩ = 4 by exact (HCB.out _).1 (.inr (by simp [Ne.isNode]; omega)))
    have HXe := Lib.hid (Ne.netBox_other HX5.out (b2 := g) (o := kk * 3 + 1) (v2 := .int .i64 (mn + 1)) (Ne.symm hgb))
    have HOe := Lib.hid (Ne.own_put Ne.encA_len HO5.out (i := kk) (x := ak) (y := ⟨ak.fr, mn + 1, ak.cap⟩) HAK.out (j := 1) (by omega) (u := .int .i64 (mn + 1)) rfl)
    have HBe := Lib.hid (HB5.out.setCell (p := ⟨g, kk * 3 + 1, none⟩) hgB (.int .i64 (mn + 1)))
    have HRe := Lib.hid (Ne.arow_of HOe.out).2.2
    have HIN : ∀ a ∈ ((fl.set kk ⟨ak.fr, mn + 1, ak.cap⟩) : List Ne.Arc), Ne.in64 a.cap := fun a ha => by
      rcases List.mem_or_eq_of_mem_set ha with h | h
      · exact in64_fine (FFL.out a h)
      · subst h; unfold Ne.in64; simp only; omega
    have HLE : ((fl.set kk ⟨ak.fr, mn + 1, ak.cap⟩) : List Ne.Arc).length ≤ 1000000 := by first | omega | (simp; omega)
    have CK := Lib.hid fun w' (h : Ne.ARow w' (some ⟨g, 0, none⟩) (fl.set kk ⟨ak.fr, mn + 1, ak.cap⟩)) => Ne.check_any ⟨mn, ms, mt, (fl.set kk ⟨ak.fr, mn + 1, ak.cap⟩)⟩ (some ⟨g, 0, none⟩) c4 w' h HLE HIN
    have TN := Lib.hid fun w' (h : Ne.ARow w' (some ⟨g, 0, none⟩) (fl.set kk ⟨ak.fr, mn + 1, ak.cap⟩)) => Ne.turn_s ⟨mn, ms, mt, (fl.set kk ⟨ak.fr, mn + 1, ak.cap⟩)⟩ (some ⟨g, 0, none⟩) c4 w' (fun h => by cases h) h HLE
    have CP := Lib.hid fun w' (h : Ne.ARow w' (some ⟨g, 0, none⟩) (fl.set kk ⟨ak.fr, mn + 1, ak.cap⟩)) => Ne.copy_s ⟨mn, ms, mt, (fl.set kk ⟨ak.fr, mn + 1, ak.cap⟩)⟩ (some ⟨g, 0, none⟩) c4 w' (fun h => by cases h) h HLE
    have CT := Lib.hid fun w' o c (h : Ne.ARow w' o (Ne.turnN ⟨mn, ms, mt, (fl.set kk ⟨ak.fr, mn + 1, ak.cap⟩)⟩).l) => Ne.check_any (Ne.turnN ⟨mn, ms, mt, (fl.set kk ⟨ak.fr, mn + 1, ak.cap⟩)⟩) o c w' h (by simpa [Ne.turnN] using HLE) (fun a ha => by
      obtain ⟨x, hx, rfl⟩ := List.mem_map.1 ha
      exact HIN x hx)
    have CC := Lib.hid fun w' o c (h : Ne.ARow w' o (fl.set kk ⟨ak.fr, mn + 1, ak.cap⟩)) => Ne.check_any ⟨mn, ms, mt, (fl.set kk ⟨ak.fr, mn + 1, ak.cap⟩)⟩ o c w' h HLE HIN
    rw [Ne.checkN_turn] at CT
    rw [HE.out] at CK CT CC
    simp only [Ne.encN, Ne.turnN, List.length_map, List.length_set] at CK TN CP CT CC
    have LL := Lib.hid (show True from trivial)
    clear HIN HLE
    go_wp2_with fail
    generalize (W5.setCell ⟨g, kk * 3 + 1, none⟩ (.int .i64 (mn + 1))) = WE at *
    obtain ⟨m0, m1, m2, m3⟩ := Ne.netBox_cells HXe.out
    have hbe := Ne.netBox_lt HXe.out
    clear n0 n1 n2 n3 nf0 nf1 nf2 c0' c1' c2' z0' z1' z2'
    refine (CK.out _ HRe.out).mono ?_
    rintro e x1 ⟨rfl, hb⟩
    have D1 := Lib.hid hb
    obtain ⟨m0, m1, m2, m3⟩ := Ne.netBox_cells (Ne.netBox_below HXe.out hb hbe)
    clear hb
    go_wp2_with fail
    refine (TN.out _ (HRe.out.kept D1.out)).mono ?_
    rintro e x2 ⟨o2', q2, rfl, r2, hb⟩
    have D2 := Lib.hid (D1.out.trans (hb.mono D1.out.size))
    have R2 := Lib.hid r2
    obtain ⟨m0, m1, m2, m3⟩ := Ne.netBox_cells (Ne.netBox_below HXe.out D2.out hbe)
    clear hb r2
    go_wp2_with fail
    refine (CT.out _ o2' q2 R2.out).mono ?_
    rintro e x3 ⟨rfl, hb⟩
    have D3 := Lib.hid (D2.out.trans (hb.mono D2.out.size))
    obtain ⟨m0, m1, m2, m3⟩ := Ne.netBox_cells (Ne.netBox_below HXe.out D3.out hbe)
    clear hb
    go_wp2_with fail
    refine (CP.out _ (HRe.out.kept D3.out)).mono ?_
    rintro e x4 ⟨o4', q4, rfl, r4, hb⟩
    have D4 := Lib.hid (D3.out.trans (hb.mono D3.out.size))
    have R4 := Lib.hid r4
    obtain ⟨m0, m1, m2, m3⟩ := Ne.netBox_cells (Ne.netBox_below HXe.out D4.out hbe)
    clear hb r4
    go_wp2_with fail
    refine (CC.out _ o4' q4 R4.out).mono ?_
    rintro e x5 ⟨rfl, hb⟩
    have D5 := Lib.hid (D4.out.trans (hb.mono D4.out.size))
    clear hb
    go_wp2
    go_ret
    exact ⟨rfl, HBe.out.trans (D5.out.mono HBe.out.size)⟩
  · subst h9
    have HE := Lib.hid (show Ne.checkN ⟨mn, ms, mt, (fl.set kk ⟨ak.fr, ak.to, -1⟩)⟩ = 3 by exact (HCB.out _).2.1 fk1 fk2 (by simp only; omega))
    have HXe := Lib.hid (Ne.netBox_other HX5.out (b2 := g) (o := kk * 3 + 2) (v2 := .int .i64 (-1)) (Ne.symm hgb))
    have HOe := Lib.hid (Ne.own_put Ne.encA_len HO5.out (i := kk) (x := ak) (y := ⟨ak.fr, ak.to, -1⟩) HAK.out (j := 2) (by omega) (u := .int .i64 (-1)) rfl)
    have HBe := Lib.hid (HB5.out.setCell (p := ⟨g, kk * 3 + 2, none⟩) hgB (.int .i64 (-1)))
    have HRe := Lib.hid (Ne.arow_of HOe.out).2.2
    have HIN : ∀ a ∈ ((fl.set kk ⟨ak.fr, ak.to, -1⟩) : List Ne.Arc), Ne.in64 a.cap := fun a ha => by
      rcases List.mem_or_eq_of_mem_set ha with h | h
      · exact in64_fine (FFL.out a h)
      · subst h; unfold Ne.in64; simp only; omega
    have HLE : ((fl.set kk ⟨ak.fr, ak.to, -1⟩) : List Ne.Arc).length ≤ 1000000 := by first | omega | (simp; omega)
    have CK := Lib.hid fun w' (h : Ne.ARow w' (some ⟨g, 0, none⟩) (fl.set kk ⟨ak.fr, ak.to, -1⟩)) => Ne.check_any ⟨mn, ms, mt, (fl.set kk ⟨ak.fr, ak.to, -1⟩)⟩ (some ⟨g, 0, none⟩) c4 w' h HLE HIN
    have TN := Lib.hid fun w' (h : Ne.ARow w' (some ⟨g, 0, none⟩) (fl.set kk ⟨ak.fr, ak.to, -1⟩)) => Ne.turn_s ⟨mn, ms, mt, (fl.set kk ⟨ak.fr, ak.to, -1⟩)⟩ (some ⟨g, 0, none⟩) c4 w' (fun h => by cases h) h HLE
    have CP := Lib.hid fun w' (h : Ne.ARow w' (some ⟨g, 0, none⟩) (fl.set kk ⟨ak.fr, ak.to, -1⟩)) => Ne.copy_s ⟨mn, ms, mt, (fl.set kk ⟨ak.fr, ak.to, -1⟩)⟩ (some ⟨g, 0, none⟩) c4 w' (fun h => by cases h) h HLE
    have CT := Lib.hid fun w' o c (h : Ne.ARow w' o (Ne.turnN ⟨mn, ms, mt, (fl.set kk ⟨ak.fr, ak.to, -1⟩)⟩).l) => Ne.check_any (Ne.turnN ⟨mn, ms, mt, (fl.set kk ⟨ak.fr, ak.to, -1⟩)⟩) o c w' h (by simpa [Ne.turnN] using HLE) (fun a ha => by
      obtain ⟨x, hx, rfl⟩ := List.mem_map.1 ha
      exact HIN x hx)
    have CC := Lib.hid fun w' o c (h : Ne.ARow w' o (fl.set kk ⟨ak.fr, ak.to, -1⟩)) => Ne.check_any ⟨mn, ms, mt, (fl.set kk ⟨ak.fr, ak.to, -1⟩)⟩ o c w' h HLE HIN
    rw [Ne.checkN_turn] at CT
    rw [HE.out] at CK CT CC
    simp only [Ne.encN, Ne.turnN, List.length_map, List.length_set] at CK TN CP CT CC
    have LL := Lib.hid (show True from trivial)
    clear HIN HLE
    go_wp2_with fail
    generalize (W5.setCell ⟨g, kk * 3 + 2, none⟩ (.int .i64 (-1))) = WE at *
    obtain ⟨m0, m1, m2, m3⟩ := Ne.netBox_cells HXe.out
    have hbe := Ne.netBox_lt HXe.out
    clear n0 n1 n2 n3 nf0 nf1 nf2 c0' c1' c2' z0' z1' z2'
    refine (CK.out _ HRe.out).mono ?_
    rintro e x1 ⟨rfl, hb⟩
    have D1 := Lib.hid hb
    obtain ⟨m0, m1, m2, m3⟩ := Ne.netBox_cells (Ne.netBox_below HXe.out hb hbe)
    clear hb
    go_wp2_with fail
    refine (TN.out _ (HRe.out.kept D1.out)).mono ?_
    rintro e x2 ⟨o2', q2, rfl, r2, hb⟩
    have D2 := Lib.hid (D1.out.trans (hb.mono D1.out.size))
    have R2 := Lib.hid r2
    obtain ⟨m0, m1, m2, m3⟩ := Ne.netBox_cells (Ne.netBox_below HXe.out D2.out hbe)
    clear hb r2
    go_wp2_with fail
    refine (CT.out _ o2' q2 R2.out).mono ?_
    rintro e x3 ⟨rfl, hb⟩
    have D3 := Lib.hid (D2.out.trans (hb.mono D2.out.size))
    obtain ⟨m0, m1, m2, m3⟩ := Ne.netBox_cells (Ne.netBox_below HXe.out D3.out hbe)
    clear hb
    go_wp2_with fail
    refine (CP.out _ (HRe.out.kept D3.out)).mono ?_
    rintro e x4 ⟨o4', q4, rfl, r4, hb⟩
    have D4 := Lib.hid (D3.out.trans (hb.mono D3.out.size))
    have R4 := Lib.hid r4
    obtain ⟨m0, m1, m2, m3⟩ := Ne.netBox_cells (Ne.netBox_below HXe.out D4.out hbe)
    clear hb r4
    go_wp2_with fail
    refine (CC.out _ o4' q4 R4.out).mono ?_
    rintro e x5 ⟨rfl, hb⟩
    have D5 := Lib.hid (D4.out.trans (hb.mono D4.out.size))
    clear hb
    go_wp2
    go_ret
    exact ⟨rfl, HBe.out.trans (D5.out.mono HBe.out.size)⟩
  · subst h9
    have HE := Lib.hid (show Ne.checkN ⟨mn, ms, mt, (fl.set kk ⟨ak.fr, ak.to, 4611686018427387904⟩)⟩ = 7 by exact (HCB.out _).2.2 fk1 fk2 (by simp only; omega))
    have HXe := Lib.hid (Ne.netBox_other HX5.out (b2 := g) (o := kk * 3 + 2) (v2 := .int .i64 4611686018427387904) (Ne.symm hgb))
    have HOe := Lib.hid (Ne.own_put Ne.encA_len HO5.out (i := kk) (x := ak) (y := ⟨ak.fr, ak.to, 4611686018427387904⟩) HAK.out (j := 2) (by omega) (u := .int .i64 4611686018427387904) rfl)
    have HBe := Lib.hid (HB5.out.setCell (p := ⟨g, kk * 3 + 2, none⟩) hgB (.int .i64 4611686018427387904))
    have HRe := Lib.hid (Ne.arow_of HOe.out).2.2
    have HIN : ∀ a ∈ ((fl.set kk ⟨ak.fr, ak.to, 4611686018427387904⟩) : List Ne.Arc), Ne.in64 a.cap := fun a ha => by
      rcases List.mem_or_eq_of_mem_set ha with h | h
      · exact in64_fine (FFL.out a h)
      · subst h; unfold Ne.in64; simp only; omega
    have HLE : ((fl.set kk ⟨ak.fr, ak.to, 4611686018427387904⟩) : List Ne.Arc).length ≤ 1000000 := by first | omega | (simp; omega)
    have CK := Lib.hid fun w' (h : Ne.ARow w' (some ⟨g, 0, none⟩) (fl.set kk ⟨ak.fr, ak.to, 4611686018427387904⟩)) => Ne.check_any ⟨mn, ms, mt, (fl.set kk ⟨ak.fr, ak.to, 4611686018427387904⟩)⟩ (some ⟨g, 0, none⟩) c4 w' h HLE HIN
    have TN := Lib.hid fun w' (h : Ne.ARow w' (some ⟨g, 0, none⟩) (fl.set kk ⟨ak.fr, ak.to, 4611686018427387904⟩)) => Ne.turn_s ⟨mn, ms, mt, (fl.set kk ⟨ak.fr, ak.to, 4611686018427387904⟩)⟩ (some ⟨g, 0, none⟩) c4 w' (fun h => by cases h) h HLE
    have CP := Lib.hid fun w' (h : Ne.ARow w' (some ⟨g, 0, none⟩) (fl.set kk ⟨ak.fr, ak.to, 4611686018427387904⟩)) => Ne.copy_s ⟨mn, ms, mt, (fl.set kk ⟨ak.fr, ak.to, 4611686018427387904⟩)⟩ (some ⟨g, 0, none⟩) c4 w' (fun h => by cases h) h HLE
    have CT := Lib.hid fun w' o c (h : Ne.ARow w' o (Ne.turnN ⟨mn, ms, mt, (fl.set kk ⟨ak.fr, ak.to, 4611686018427387904⟩)⟩).l) => Ne.check_any (Ne.turnN ⟨mn, ms, mt, (fl.set kk ⟨ak.fr, ak.to, 4611686018427387904⟩)⟩) o c w' h (by simpa [Ne.turnN] using HLE) (fun a ha => by
      obtain ⟨x, hx, rfl⟩ := List.mem_map.1 ha
      exact HIN x hx)
    have CC := Lib.hid fun w' o c (h : Ne.ARow w' o (fl.set kk ⟨ak.fr, ak.to, 4611686018427387904⟩)) => Ne.check_any ⟨mn, ms, mt, (fl.set kk ⟨ak.fr, ak.to, 4611686018427387904⟩)⟩ o c w' h HLE HIN
    rw [Ne.checkN_turn] at CT
    rw [HE.out] at CK CT CC
    simp only [Ne.encN, Ne.turnN, List.length_map, List.length_set] at CK TN CP CT CC
    have LL := Lib.hid (show True from trivial)
    clear HIN HLE
    go_wp2_with fail
    generalize (W5.setCell ⟨g, kk * 3 + 2, none⟩ (.int .i64 4611686018427387904)) = WE at *
    obtain ⟨m0, m1, m2, m3⟩ := Ne.netBox_cells HXe.out
    have hbe := Ne.netBox_lt HXe.out
    clear n0 n1 n2 n3 nf0 nf1 nf2 c0' c1' c2' z0' z1' z2'
    refine (CK.out _ HRe.out).mono ?_
    rintro e x1 ⟨rfl, hb⟩
    have D1 := Lib.hid hb
    obtain ⟨m0, m1, m2, m3⟩ := Ne.netBox_cells (Ne.netBox_below HXe.out hb hbe)
    clear hb
    go_wp2_with fail
    refine (TN.out _ (HRe.out.kept D1.out)).mono ?_
    rintro e x2 ⟨o2', q2, rfl, r2, hb⟩
    have D2 := Lib.hid (D1.out.trans (hb.mono D1.out.size))
    have R2 := Lib.hid r2
    obtain ⟨m0, m1, m2, m3⟩ := Ne.netBox_cells (Ne.netBox_below HXe.out D2.out hbe)
    clear hb r2
    go_wp2_with fail
    refine (CT.out _ o2' q2 R2.out).mono ?_
    rintro e x3 ⟨rfl, hb⟩
    have D3 := Lib.hid (D2.out.trans (hb.mono D2.out.size))
    obtain ⟨m0, m1, m2, m3⟩ := Ne.netBox_cells (Ne.netBox_below HXe.out D3.out hbe)
    clear hb
    go_wp2_with fail
    refine (CP.out _ (HRe.out.kept D3.out)).mono ?_
    rintro e x4 ⟨o4', q4, rfl, r4, hb⟩
    have D4 := Lib.hid (D3.out.trans (hb.mono D3.out.size))
    have R4 := Lib.hid r4
    obtain ⟨m0, m1, m2, m3⟩ := Ne.netBox_cells (Ne.netBox_below HXe.out D4.out hbe)
    clear hb r4
    go_wp2_with fail
    refine (CC.out _ o4' q4 R4.out).mono ?_
    rintro e x5 ⟨rfl, hb⟩
    have D5 := Lib.hid (D4.out.trans (hb.mono D4.out.size))
    clear hb
    go_wp2
    go_ret
    exact ⟨rfl, HBe.out.trans (D5.out.mono HBe.out.size)⟩

end Go.Proofs.Ytpoflbnmfoamhaa.netOrder
