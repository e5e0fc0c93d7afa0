/- NetSums: for every input the law returns true and its arguments read as they did. No condition. -/
import Derived.Test.YtpoflbnmfoamhaaNetm
import Derived.Test.YtpoflbnmfoamhaaOpenc
import Derived.Outline
import Derived.Deep.AppendLies
import Derived.Test.YtpoflbnmfoamhaaRows
import Derived.WalkKit
import Derived.ProofKit
import Derived.OpenShut
import Derived.ShutString
import Derived.ChangeOld
import Derived.Below
import Derived.Deep.Strs
namespace Go.Proofs.Ytpoflbnmfoamhaa.netSums
open Go.ChangeShapes Go.WideShapes Go.ChangeAt Go.RowKit
open Go.ChangeMaps (open_string shut_string)
set_option linter.unusedVariables false
set_option linter.unusedSimpArgs false

theorem own : ownKnob Try.prog.godebug = none := by kernel_rfl
theorem laidOut : laidOutB Try.prog = true := by kernel_rfl

set_option maxRecDepth 100000
theorem held_cell {w : World} {b : Nat} {n s t : Int} {v : Value} (h : Ne.NetBox w b n s t v) (o : Obj) : (w.alloc o).drew.cell? ⟨b, 3, none⟩ = some v := (Ne.netBox_cells (Ne.netBox_alloc h o)).2.2.2
theorem caps_step {l : List Ne.Arc} {x y c : Int} (h : ∀ a ∈ l, Ne.in64 a.cap) (hc : Ne.in64 c) : ∀ a ∈ l ++ [(⟨x, y, c⟩ : Ne.Arc)], Ne.in64 a.cap := by
  intro a ha
  rcases List.mem_append.1 ha with h2 | h2
  · exact h a h2
  · simp at h2; subst h2; exact hc
/-- what the arcs so far leave for those behind them -/
def Left (l : List Ne.Arc) (left : Int) : Prop := ∀ r, Ne.checkL 2 4611686018427387903 (l ++ r) = Ne.checkL 2 left r
theorem left_step {l : List Ne.Arc} {left c : Int} {i : Nat} (h : Left l left) (h0 : 0 ≤ c) (h1 : c ≤ left) : Left (l ++ [⟨1 + (i : Int) % 2, 1 + (i : Int) / 2 % 2, c⟩]) (left - c) := by
  intro r
  rw [List.append_assoc, h, List.cons_append, List.nil_append, Ne.checkL]
  have e1 : Ne.isNode 2 (1 + (i : Int) % 2) = true := (Ne.isNode_iff _ _).2 (by omega)
  have e2 : Ne.isNode 2 (1 + (i : Int) / 2 % 2) = true := (Ne.isNode_iff _ _).2 (by omega)
  rw [e1, e2]
  simp only [Bool.and_true, if_true]
  rw [if_neg (by omega), if_neg (by omega)]
theorem check_left {l : List Ne.Arc} {left : Int} (h : Left l left) (hl : l.length ≤ 100) : Ne.checkN ⟨2, 2, 1, l⟩ = 0 := by
  rw [Ne.checkN_head ⟨by simp, by simp, by simp, by simp, by simp, by simp, by simp, by simp; omega⟩]
  have := h []
  rw [List.append_nil] at this
  simp only [this]; rfl
theorem check_more {l : List Ne.Arc} (h : Left l 0) (hl : l.length ≤ 100) (p : Int) (hp : 0 ≤ p) : Ne.checkN ⟨2, 2, 1, l ++ [⟨1, 1, p⟩]⟩ = if p = 0 then 0 else 7 := by
  rw [Ne.checkN_head ⟨by simp, by simp, by simp, by simp, by simp, by simp, by simp, by simp; omega⟩]
  have h2 := h [⟨1, 1, p⟩]
  simp only [h2, Ne.checkL, show Ne.isNode 2 1 = true from rfl, Bool.and_true, if_true]
  rw [if_neg (by omega)]
  by_cases e : p = 0
  · rw [if_neg (by omega), if_pos e]
  · rw [if_pos (by omega), if_neg e]

set_option maxRecDepth 100000 in
set_option maxHeartbeats 4000000 in
theorem walk (a0 : Int) (a1 : Int) (w : World) (w0 : (Lit.int .i64 a0).wf = true) (w1 : (Lit.int .i64 a1).wf = true) :
    Calls Try.prog 7 #[.int .i64 a0, .int .i64 a1] w fun e w' => e = .returned (.bool true) ∧ Below w.heap.size w w' := by
  have HSH := Lib.hid (Ne.shown_any w)
  have b0 := bounds_i64 w0
  have b1 := bounds_i64 w1
  obtain ⟨pk, hpk⟩ : ∃ x, x = Ne.pickN a0 50 := ⟨_, rfl⟩
  have bpk := Ne.pickN_bd (c := a0) (n := 50) (by omega)
  rw [← hpk] at bpk
  obtain ⟨K, hK⟩ : ∃ k : Nat, pk = (k : Int) := ⟨pk.toNat, by omega⟩
  subst hK
  have P1 := Lib.hid fun w' => Ne.pick_any a0 50 w' b0.1 b0.2 (by omega) (by omega)
  rw [← hpk] at P1
  obtain ⟨pm, hpm⟩ : ∃ x, x = Ne.pickN a1 3 := ⟨_, rfl⟩
  have bpm := Ne.pickN_bd (c := a1) (n := 3) (by omega)
  rw [← hpm] at bpm
  have P2 := Lib.hid fun w' => Ne.pick_any a1 3 w' b1.1 b1.2 (by omega) (by omega)
  rw [← hpm] at P2
  clear hpk hpm
  obtain ⟨bk0, bk1⟩ := bpk
  obtain ⟨bm0, bm1⟩ := bpm
  have hK : K < 50 := by omega
  go_enter Try.func7, Try.ntmps7
  go_wp2_with fail
  refine HSH.out.mono ?_
  rintro e w1 ⟨rfl, hb⟩
  have HB1 := Lib.hid hb
  have hz1 : w.heap.size ≤ w1.heap.size := hb.size
  clear hb
  go_wp2_with fail
  refine (P1.out _).mono ?_
  rintro e w2 ⟨rfl, rfl⟩
  clear P1 HSH
  have HN0 := Lib.hid (Ne.netBox_new w1 2 2 1 (.slice none 0 0))
  have HB0 := Lib.hid (HB1.out.alloc hz1 (.cells #[.int .i64 2, .int .i64 2, .int .i64 1, .slice none 0 0] 24))
  go_wp2_with fail
  go_loopw [8, 9] (fun s t wr => ∃ (i : Nat) (left : Int) (l : List Ne.Arc) (o : Option Addr) (c : Nat), s = .int .i64 left ∧ t = .int .i64 i ∧ i ≤ 1 + K ∧ l.length = i ∧ 0 ≤ left ∧ left ≤ 4611686018427387903 ∧ (i = 1 + K → left = 0) ∧ Hid (Left l left) ∧ Hid (Ne.NetBox wr w1.heap.size 2 2 1 (.slice o l.length c)) ∧ Hid (Ne.OwnA wr w.heap.size (.slice o l.length c) l) ∧ Hid (Below w.heap.size w wr) ∧ Hid (∀ a ∈ l, Ne.in64 a.cap)) (fun _ t _ => 1 + K - (intOf t).toNat)
  case atStart => exact ⟨0, 4611686018427387903, [], none, 0, rfl, rfl, by omega, rfl, by omega, by omega, by omega, Lib.hid (fun _ => rfl), HN0, Lib.hid (Rw.own_nil _ _), HB0, Lib.hid (by simp)⟩
  case round =>
    obtain ⟨i, left, l, o, c, rfl, rfl, hi, hli, hl0, hl1, hlz, HJ, HX, HO, HB, HCA⟩ := hrel
    have HLI := Lib.hid hli
    clear hli
    obtain ⟨n0, n1, n2, n3⟩ := Ne.netBox_cells HX.out
    have nf := Ne.netBox_frozen HX.out 3
    have hwb := Ne.netBox_lt HX.out
    have hz : w.heap.size ≤ wr.heap.size := HB.out.size
    by_cases hlt : i < 1 + K
    · have hlt' : (i : Int) < 1 + (K : Int) := by omega
      have hi0 : (0 : Int) ≤ (i : Int) := by omega
      by_cases hla : i = K
      · have hla' : ((i : Int) == 1 + (K : Int) - 1) = true := beq_iff_eq.2 (by omega)
        have HLA := Lib.hid hla
        clear hla
        have HAR := Lib.hid (Ne.arow_at1 wr (b := wr.heap.size) rfl ⟨1 + (i : Int) % 2, 1 + (i : Int) / 2 % 2, left⟩)
        have HLN := Lib.hid (show l.length + ([⟨1 + (i : Int) % 2, 1 + (i : Int) / 2 % 2, left⟩] : List Ne.Arc).length ≤ 1099511627776 by have := HLI.out; simp; omega)
        have HOA := Lib.hid (Rw.own_alloc HO.out (.cells #[.int .i64 (1 + (i : Int) % 2), .int .i64 (1 + (i : Int) / 2 % 2), .int .i64 left] 35))
        have HXA := Lib.hid (Ne.netBox_alloc HX.out (.cells #[.int .i64 (1 + (i : Int) % 2), .int .i64 (1 + (i : Int) / 2 % 2), .int .i64 left] 35))
        have HNE := Lib.hid (Ne.own_ne_box HO.out HX.out)
        have HBA := Lib.hid (HB.out.alloc hz (.cells #[.int .i64 (1 + (i : Int) % 2), .int .i64 (1 + (i : Int) / 2 % 2), .int .i64 left] 35))
        have HOB := Lib.hid (Rw.own_block HO.out)
        have HJ2 := Lib.hid (left_step (i := i) HJ.out (c := left) (by omega) (by omega))
        have hza : wr.heap.size + 1 = (wr.alloc (.cells #[.int .i64 (1 + (i : Int) % 2), .int .i64 (1 + (i : Int) / 2 % 2), .int .i64 left] 35)).heap.size := by simp
        have HZA := Lib.hid hza
        clear hza
        go_wp2_with (at_builtin; refine Rw.app Ne.elemA Ne.encA_len Ne.encA_one rfl (.tmp 34) (.tmp 44) rfl w.heap.size _ l rfl HOA.out (some ⟨wr.heap.size, 0, none⟩) 1 [⟨1 + (i : Int) % 2, 1 + (i : Int) / 2 % 2, left⟩] rfl ?hnn HAR.out HLN.out ?hB ?_; (case hnn => (intro h; cases h)); (case hB => (have := HZA.out; omega)); intro v4 w4 hown4 hgr4; obtain ⟨o4, c4, hv4, _⟩ := Rw.own_row Ne.encA_len hown4; subst hv4; have HX4 := Lib.hid (Ne.netBox_grown HXA.out hgr4 (fun h => HNE.out h.symm)); have HB4 := Lib.hid (HBA.out.grown hgr4 (by have := HZA.out; omega) HOB.out); have HO4 := Lib.hid hown4; clear hown4 hgr4; obtain ⟨n0, n1, n2, n3⟩ := Ne.netBox_cells HX4.out; have nf := Ne.netBox_frozen HX4.out 3)
        have eln : (l ++ [(⟨1 + (i : Int) % 2, 1 + (i : Int) / 2 % 2, left⟩ : Ne.Arc)]).length = l.length + 1 := by simp
        have HX5 := Lib.hid (show Ne.NetBox (w4.setCell ⟨w1.heap.size, 3, none⟩ (.slice o4 (l.length + 1) c4)) w1.heap.size 2 2 1 (.slice o4 (l ++ [(⟨1 + (i : Int) % 2, 1 + (i : Int) / 2 % 2, left⟩ : Ne.Arc)]).length c4) from by rw [eln]; exact Ne.netBox_set HX4.out)
        have HO5 := Lib.hid (Rw.own_set HO4.out (p := ⟨w1.heap.size, 3, none⟩) (Ne.own_ne_box HO4.out HX4.out) (.slice o4 (l.length + 1) c4))
        have HB5 := Lib.hid (HB4.out.setCell (p := ⟨w1.heap.size, 3, none⟩) hz1 (.slice o4 (l.length + 1) c4))
        clear eln
        go_wp2
        go_roundw
        case rel => exact ⟨i + 1, left - left, _, o4, c4, by go_num, by go_num, by omega, by have := HLI.out; simp; omega, by omega, by omega, by have := HLA.out; omega, Lib.hid HJ2.out, Lib.hid HX5.out, Lib.hid HO5.out, Lib.hid HB5.out, Lib.hid (caps_step HCA.out (by unfold Ne.in64; omega))⟩
        case measure => simp [intOf]; omega
      · have hla' : ((i : Int) == 1 + (K : Int) - 1) = false := beq_eq_false_iff_ne.2 (by omega)
        have HLA := Lib.hid hla
        clear hla
        have HAR := Lib.hid (Ne.arow_at1 wr (b := wr.heap.size) rfl ⟨1 + (i : Int) % 2, 1 + (i : Int) / 2 % 2, (left / 2)⟩)
        have HLN := Lib.hid (show l.length + ([⟨1 + (i : Int) % 2, 1 + (i : Int) / 2 % 2, (left / 2)⟩] : List Ne.Arc).length ≤ 1099511627776 by have := HLI.out; simp; omega)
        have HOA := Lib.hid (Rw.own_alloc HO.out (.cells #[.int .i64 (1 + (i : Int) % 2), .int .i64 (1 + (i : Int) / 2 % 2), .int .i64 (left / 2)] 35))
        have HXA := Lib.hid (Ne.netBox_alloc HX.out (.cells #[.int .i64 (1 + (i : Int) % 2), .int .i64 (1 + (i : Int) / 2 % 2), .int .i64 (left / 2)] 35))
        have HNE := Lib.hid (Ne.own_ne_box HO.out HX.out)
        have HBA := Lib.hid (HB.out.alloc hz (.cells #[.int .i64 (1 + (i : Int) % 2), .int .i64 (1 + (i : Int) / 2 % 2), .int .i64 (left / 2)] 35))
        have HOB := Lib.hid (Rw.own_block HO.out)
        have HJ2 := Lib.hid (left_step (i := i) HJ.out (c := (left / 2)) (by omega) (by omega))
        have hza : wr.heap.size + 1 = (wr.alloc (.cells #[.int .i64 (1 + (i : Int) % 2), .int .i64 (1 + (i : Int) / 2 % 2), .int .i64 (left / 2)] 35)).heap.size := by simp
        have HZA := Lib.hid hza
        clear hza
        go_wp2_with (at_builtin; refine Rw.app Ne.elemA Ne.encA_len Ne.encA_one rfl (.tmp 34) (.tmp 44) rfl w.heap.size _ l rfl HOA.out (some ⟨wr.heap.size, 0, none⟩) 1 [⟨1 + (i : Int) % 2, 1 + (i : Int) / 2 % 2, (left / 2)⟩] rfl ?hnn HAR.out HLN.out ?hB ?_; (case hnn => (intro h; cases h)); (case hB => (have := HZA.out; omega)); intro v4 w4 hown4 hgr4; obtain ⟨o4, c4, hv4, _⟩ := Rw.own_row Ne.encA_len hown4; subst hv4; have HX4 := Lib.hid (Ne.netBox_grown HXA.out hgr4 (fun h => HNE.out h.symm)); have HB4 := Lib.hid (HBA.out.grown hgr4 (by have := HZA.out; omega) HOB.out); have HO4 := Lib.hid hown4; clear hown4 hgr4; obtain ⟨n0, n1, n2, n3⟩ := Ne.netBox_cells HX4.out; have nf := Ne.netBox_frozen HX4.out 3)
        have eln : (l ++ [(⟨1 + (i : Int) % 2, 1 + (i : Int) / 2 % 2, (left / 2)⟩ : Ne.Arc)]).length = l.length + 1 := by simp
        have HX5 := Lib.hid (show Ne.NetBox (w4.setCell ⟨w1.heap.size, 3, none⟩ (.slice o4 (l.length + 1) c4)) w1.heap.size 2 2 1 (.slice o4 (l ++ [(⟨1 + (i : Int) % 2, 1 + (i : Int) / 2 % 2, (left / 2)⟩ : Ne.Arc)]).length c4) from by rw [eln]; exact Ne.netBox_set HX4.out)
        have HO5 := Lib.hid (Rw.own_set HO4.out (p := ⟨w1.heap.size, 3, none⟩) (Ne.own_ne_box HO4.out HX4.out) (.slice o4 (l.length + 1) c4))
        have HB5 := Lib.hid (HB4.out.setCell (p := ⟨w1.heap.size, 3, none⟩) hz1 (.slice o4 (l.length + 1) c4))
        clear eln
        go_wp2
        go_roundw
        case rel => exact ⟨i + 1, left - (left / 2), _, o4, c4, by go_num, by go_num, by omega, by have := HLI.out; simp; omega, by omega, by omega, by have := HLA.out; omega, Lib.hid HJ2.out, Lib.hid HX5.out, Lib.hid HO5.out, Lib.hid HB5.out, Lib.hid (caps_step HCA.out (by unfold Ne.in64; omega))⟩
        case measure => simp [intOf]; omega
    · have ei : i = 1 + K := by omega
      have HL0 := Lib.hid (hlz ei)
      have HLE := Lib.hid (show l.length ≤ 51 by have := HLI.out; omega)
      have HC0 := Lib.hid (check_left HJ.out (by have := HLE.out; omega))
      have HJ0 := Lib.hid (show Left l 0 by have h := HJ.out; rw [HL0.out] at h; exact h)
      have HCM := Lib.hid (check_more HJ0.out (by have := HLE.out; omega) pm bm0)
      have hnt : ¬ (i : Int) < 1 + (K : Int) := by omega
      have HR := Lib.hid (Ne.arow_of HO.out).2.2
      have hcap := HCA.out
      have CK := Lib.hid fun w' (h : Ne.ARow w' o l) => Ne.check_any ⟨2, 2, 1, l⟩ o c w' h (by simp only; have := HLE.out; omega) hcap
      rw [HC0.out] at CK
      clear ei hlz hlt
      go_wp2_with fail
      refine (CK.out _ HR.out).mono ?_
      rintro e x1 ⟨rfl, hb⟩
      have HXb := Lib.hid (Ne.netBox_below HX.out hb hwb)
      have HOb := Lib.hid (Rw.own_below HO.out hb)
      have HBb := Lib.hid (HB.out.trans (hb.mono hz))
      obtain ⟨n0, n1, n2, n3⟩ := Ne.netBox_cells HXb.out
      clear hb
      go_wp2_with fail
      obtain ⟨i0, hi0, iz0, iz1, iz2⟩ := info_parts Ne.elemA.info
      have hle := HLE.out
      have hk1 : l.length + 1 ≤ maxLen := by unfold maxLen; omega
      have hk2 : (l.length + 1) * 24 ≤ 140737488355328 := by omega
      have hzx : w.heap.size ≤ x1.heap.size := HBb.out.size
      have hbs : w.heap.size ≤ (x1.alloc (.cells #[.int .i64 1, .int .i64 1, .int .i64 pm] 35)).drew.heap.size := by show _ ≤ (x1.heap.push _).size; simp; omega
      have hhs : (x1.alloc (.cells #[.int .i64 1, .int .i64 1, .int .i64 pm] 35)).drew.heap.size = x1.heap.size + 1 := by show (x1.heap.push _).size = _; simp
      have hne := Ne.own_ne_box HOb.out HXb.out
      have hS0 := (show (fun w' => w'.cell? ⟨w1.heap.size, 3, none⟩ = some (.slice o l.length c)) x1.drew from n3)
      refine Rg.start (S := (fun w' => w'.cell? ⟨w1.heap.size, 3, none⟩ = some (.slice o l.length c))) (last := 8) (by kernel_rfl) ?_
      refine Rg.take (i := 0) (v := ?_) 30 rfl (by kernel_rfl) (by kernel_rfl) (by kernel_rfl) (by kernel_rfl) (fun _ _ _ h => h) (Or.inl ⟨by rfl, ?_⟩) hS0 ?_
      rotate_left
      · intro w hSw
        go_simp
        try with_reducible rfl
      try simp only [Act.put, List.setIfInBounds_toArray, List.set_cons_zero, List.set_cons_succ]
      refine Rg.take (i := 1) (v := ?_) 30 rfl (by kernel_rfl) (by kernel_rfl) (by kernel_rfl) (by kernel_rfl) (fun _ _ _ h => h) (Or.inl ⟨by rfl, ?_⟩) hS0 ?_
      rotate_left
      · intro w hSw
        go_simp
        try with_reducible rfl
      try simp only [Act.put, List.setIfInBounds_toArray, List.set_cons_zero, List.set_cons_succ]
      refine Rg.take (i := 2) (v := ?_) 30 rfl (by kernel_rfl) (by kernel_rfl) (by kernel_rfl) (by kernel_rfl) (fun _ _ _ h => h) (Or.inl ⟨by rfl, ?_⟩) hS0 ?_
      rotate_left
      · intro w hSw
        go_simp
        try with_reducible rfl
      try simp only [Act.put, List.setIfInBounds_toArray, List.set_cons_zero, List.set_cons_succ]
      refine Rg.step (i := 3) (by kernel_rfl) rfl fun K' hK' => ?_
      have HK := Lib.hid hK'
      clear hK'
      go_simp
      refine (P2.out _).mono ?_
      rintro e w' ⟨rfl, rfl⟩
      refine HK.out _ _ ⟨fun _ => hS0, ?_⟩
      clear HK K'
      try simp only [Act.put, List.setIfInBounds_toArray, List.set_cons_zero, List.set_cons_succ]
      refine Rg.take (i := 4) (v := ?_) 30 rfl (by kernel_rfl) (by kernel_rfl) (by kernel_rfl) (by kernel_rfl) (fun _ _ _ h => h) (Or.inl ⟨by rfl, ?_⟩) hS0 ?_
      rotate_left
      · intro w hSw
        go_simp
        try with_reducible rfl
      try simp only [Act.put, List.setIfInBounds_toArray, List.set_cons_zero, List.set_cons_succ]
      refine Rg.step (i := 5) (by kernel_rfl) rfl fun K' hK' => ?_
      have HK := Lib.hid hK'
      clear hK'
      go_simp
      refine HK.out _ _ ⟨fun _ => (show (fun w' => w'.cell? ⟨w1.heap.size, 3, none⟩ = some (.slice o l.length c)) (x1.alloc (.cells #[.int .i64 1, .int .i64 1, .int .i64 pm] 35)).drew from held_cell HXb.out _), ?_⟩
      clear HK K'
      try simp only [Act.put, List.setIfInBounds_toArray, List.set_cons_zero, List.set_cons_succ]
      refine Rg.step (i := 6) (by kernel_rfl) rfl fun K' hK' => ?_
      refine step_append_lies _ (by rfl) (.tmp 51) (.tmp 55) 22 (by rfl) w.heap.size 35 i0 _ 3 24 Try.underlying22 hi0 iz0 iz1 iz2 rfl (Nat.zero_lt_succ 2) (.slice o l.length c) l.length (l.flatMap Ne.encA) (by rfl) ((show World.ownsRow _ _ _ _ _ _ _ from HOb.out).alloc (.cells #[.int .i64 1, .int .i64 1, .int .i64 pm] 35)).drew
        ⟨x1.heap.size, 0, none⟩ 1 1 [.int .i64 1, .int .i64 1, .int .i64 pm] (by rfl) rfl (World.news_of_block (w := (x1.alloc (.cells #[.int .i64 1, .int .i64 1, .int .i64 pm] 35)).drew) (cs := #[Value.int .i64 1, .int .i64 1, .int .i64 pm]) (heap_alloc_new x1 _)) (Ne.encA_one ⟨1, 1, pm⟩) (Nat.zero_lt_succ 0) hk1 hk2 hbs (x1.heap.size + 1) hhs ?_
      intro gg cap2 w5 hown5 hgrow hat hltg
      have hX5 := Ne.netBox_grown (w := (x1.alloc (.cells #[.int .i64 1, .int .i64 1, .int .i64 pm] 35)).drew) (Ne.netBox_alloc HXb.out _) hgrow (fun h => hne h.symm)
      have hS5 := (show (fun w' => w'.cell? ⟨w1.heap.size, 3, none⟩ = some (.slice o l.length c)) w5 from (Ne.netBox_cells hX5).2.2.2)
      have nf5 := Ne.netBox_frozen hX5 3
      refine hK' _ _ ⟨fun _ => hS5, ?_⟩
      clear hK' K'
      try simp only [Act.put, List.setIfInBounds_toArray, List.set_cons_zero, List.set_cons_succ]
      refine Rg.take (i := 7) (v := ?_) 30 rfl (by kernel_rfl) (by kernel_rfl) (by kernel_rfl) (by kernel_rfl) (fun _ _ _ h => h) (Or.inl ⟨by rfl, ?_⟩) hS5 ?_
      rotate_left
      · intro w hSw
        go_simp
        try with_reducible rfl
      try simp only [Act.put, List.setIfInBounds_toArray, List.set_cons_zero, List.set_cons_succ]
      refine Rg.step (i := 8) (by kernel_rfl) rfl fun K' hK' => ?_
      have HK := Lib.hid hK'
      clear hK'
      go_simp
      refine HK.out _ _ ⟨fun h => absurd rfl h, ?_⟩
      clear HK K'
      try simp only [Act.put, List.setIfInBounds_toArray, List.set_cons_zero, List.set_cons_succ]
      refine Rg.finished (by kernel_rfl) ?_ _
      have HX9 := Lib.hid (Ne.netBox_set (v2 := .slice (some ⟨gg, 0, none⟩) (l.length + 1) cap2) hX5)
      have hO5 : Ne.OwnA w5 w.heap.size (.slice (some ⟨gg, 0, none⟩) (l.length + 1) cap2) (l ++ [⟨1, 1, pm⟩]) := by
        unfold Ne.OwnA Rw.Own
        rw [List.length_append, List.flatMap_append]
        exact hown5
      have HO9 := Lib.hid (Rw.own_set hO5 (p := ⟨w1.heap.size, 3, none⟩) (Ne.own_ne_box hO5 hX5) (.slice (some ⟨gg, 0, none⟩) (l.length + 1) cap2))
      have HB9 := Lib.hid ((((HBb.out.alloc hzx (.cells #[.int .i64 1, .int .i64 1, .int .i64 pm] 35)).drew).grown hgrow hbs (Rw.own_block HOb.out)).setCell (p := ⟨w1.heap.size, 3, none⟩) hz1 (.slice (some ⟨gg, 0, none⟩) (l.length + 1) cap2))
      have HR9 := Lib.hid (Ne.arow_of HO9.out).2.2
      have hcap2 := caps_step (x := 1) (y := 1) (c := pm) HCA.out (by unfold Ne.in64; omega)
      have C9 := Lib.hid fun w' (h : Ne.ARow w' (some ⟨gg, 0, none⟩) (l ++ [⟨1, 1, pm⟩])) => Ne.check_any ⟨2, 2, 1, l ++ [⟨1, 1, pm⟩]⟩ (some ⟨gg, 0, none⟩) cap2 w' h (by simp; omega) hcap2
      rw [HCM.out] at C9
      simp only [Ne.encN, List.length_append, List.length_singleton] at C9
      clear hown5 hgrow hat hltg hX5 hS5 nf5 hO5 hcap2 hcap hS0 hk1 hk2 hbs hhs hne CK n0 n1 n2 n3 hle
      obtain ⟨n0, n1, n2, n3⟩ := Ne.netBox_cells HX9.out
      go_wp2_with fail
      generalize (w5.setCell ⟨w1.heap.size, 3, none⟩ (.slice (some ⟨gg, 0, none⟩) (l.length + 1) cap2)) = W9 at *
      have hwb9 := Ne.netBox_lt HX9.out
      by_cases hp : pm = 0
      · have hp0 := Lib.hid hp
        subst hp
        rw [if_pos rfl] at C9
        refine (C9.out _ (HR9.out)).mono ?_
        rintro e y1 ⟨rfl, hb⟩
        have D1 := Lib.hid (hb)
        obtain ⟨n0, n1, n2, n3⟩ := Ne.netBox_cells (Ne.netBox_below HX9.out D1.out hwb9)
        clear hb
        go_wp2_with fail
        refine (P2.out _).mono ?_
        rintro e y ⟨rfl, rfl⟩
        go_wp2_with fail
        refine (C9.out _ (HR9.out.kept D1.out)).mono ?_
        rintro e y2 ⟨rfl, hb⟩
        have D2 := Lib.hid (D1.out.trans (hb.mono D1.out.size))
        obtain ⟨n0, n1, n2, n3⟩ := Ne.netBox_cells (Ne.netBox_below HX9.out D2.out hwb9)
        clear hb
        go_wp2
        go_ret
        exact ⟨rfl, HB9.out.trans (D2.out.mono HB9.out.size)⟩
      · have hpf : (pm == 0) = false := by simp [hp]
        rw [if_neg hp] at C9
        clear hp
        refine (C9.out _ (HR9.out)).mono ?_
        rintro e y1 ⟨rfl, hb⟩
        have D1 := Lib.hid (hb)
        obtain ⟨n0, n1, n2, n3⟩ := Ne.netBox_cells (Ne.netBox_below HX9.out D1.out hwb9)
        clear hb
        go_wp2_with fail
        refine (P2.out _).mono ?_
        rintro e y ⟨rfl, rfl⟩
        go_wp2_with fail
        refine (C9.out _ (HR9.out.kept D1.out)).mono ?_
        rintro e y2 ⟨rfl, hb⟩
        have D2 := Lib.hid (D1.out.trans (hb.mono D1.out.size))
        obtain ⟨n0, n1, n2, n3⟩ := Ne.netBox_cells (Ne.netBox_below HX9.out D2.out hwb9)
        clear hb
        go_wp2_with fail
        refine (C9.out _ (HR9.out.kept D2.out)).mono ?_
        rintro e y3 ⟨rfl, hb⟩
        have D3 := Lib.hid (D2.out.trans (hb.mono D2.out.size))
        obtain ⟨n0, n1, n2, n3⟩ := Ne.netBox_cells (Ne.netBox_below HX9.out D3.out hwb9)
        clear hb
        go_wp2
        go_ret
        exact ⟨rfl, HB9.out.trans (D3.out.mono HB9.out.size)⟩

end Go.Proofs.Ytpoflbnmfoamhaa.netSums
