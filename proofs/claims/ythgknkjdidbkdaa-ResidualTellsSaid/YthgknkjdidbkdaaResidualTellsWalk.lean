/- ResidualTells: for every input the law returns true and its arguments read as they did. No condition. -/
import Derived.Test.YthgknkjdidbkdaaRfl6
import Derived.Test.YthgknkjdidbkdaaOpenc
import Derived.Test.YthgknkjdidbkdaaRows
import Derived.WalkKit
import Derived.ProofKit
import Derived.OpenShut
import Derived.ShutString
import Derived.ChangeOld
import Derived.Below
import Derived.Deep.Strs
namespace Go.Proofs.Ythgknkjdidbkdaa.residualTells
open Go.ChangeShapes Go.WideShapes Go.ChangeAt Go.RowKit
open Go.ChangeMaps (open_string shut_string)
set_option linter.unusedVariables false
set_option linter.unusedSimpArgs false

theorem own : ownKnob Try.prog.godebug = none := by kernel_rfl
theorem laidOut : laidOutB Try.prog = true := by kernel_rfl

def IntsIn (k : IntKind) (w : World) (a : Option Addr) (len cap : Nat) (zs : List Int) : Prop :=
  (a = none ∧ len = 0 ∧ cap = 0 ∧ zs = []) ∨
  ∃ x, a = some x ∧ len ≤ cap ∧ cap ≤ maxLen ∧ zs.length = cap ∧ (∀ i, i < zs.length → w.cell? (x.add i) = some (.int k (zs.getD i 0))) ∧ ∀ n ∈ zs, (Lit.int k n).wf = true



set_option maxRecDepth 100000 in
set_option maxHeartbeats 4000000 in
theorem walk (a0 : Ne.Net) (o0 : Option Addr) (c0 : Nat) (a1 : Option Addr) (len1 cap1 : Nat) (l1 : List Int) (a2 : Option Addr) (len2 cap2 : Nat) (l2 : List Int) (a3 : Int) (a4 : Int) (w : World) (k0 : a0.ok) (z0 : a0.l.length ≤ c0) (y0 : c0 ≤ maxLen) (n0 : o0 = none → c0 = 0) (r0 : Ne.ARow w o0 a0.l) (w1 : IntsIn .i64 w a1 len1 cap1 l1) (w2 : IntsIn .i64 w a2 len2 cap2 l2) (w3 : (Lit.int .i64 a3).wf = true) (w4 : (Lit.int .i64 a4).wf = true) :
    Calls Try.prog 3 #[Ne.encN a0 o0 c0, .slice a1 len1 cap1, .slice a2 len2 cap2, .int .i64 a3, .int .i64 a4] w fun e w' => e = .returned (.bool true) ∧ Below w.heap.size w w' := by
  obtain ⟨an, as_, at_, al⟩ := a0
  simp only [Ne.Net.ok] at k0 z0 r0
  obtain ⟨_, _, _, ka⟩ := k0
  obtain ⟨f, hfl, hf, _, hfc, hfm, _⟩ := Ne.ints_row w1
  obtain ⟨W, hwl, hw, hw64, _, hwm, _⟩ := Ne.ints_row w2
  subst hfl hwl
  have hf63 : f.length ≤ 9223372036854775807 := by unfold maxLen at hfm; omega
  have hw63 : W.length ≤ 9223372036854775807 := by unfold maxLen at hwm; omega
  have b3 := bounds_i64 w3
  have b4 := bounds_i64 w4
  clear w1 w2
  have HSH := Lib.hid (Ne.shown_any (w.alloc (.cells #[.int .i64 an, .int .i64 as_, .int .i64 at_, .slice o0 al.length c0] 24)))
  have HB0 := Lib.hid (show Below w.heap.size w (w.alloc (.cells #[.int .i64 an, .int .i64 as_, .int .i64 at_, .slice o0 al.length c0] 24)) from (Below.refl _ _).alloc (Nat.le_refl _) _)
  have HN0 := Lib.hid (Ne.netBox_new w an as_ at_ (.slice o0 al.length c0))
  have HR0 := Lib.hid (r0.kept HB0.out)
  have HF0 := Lib.hid (hf.kept HB0.out)
  have HW0 := Lib.hid (hw.kept HB0.out)
  clear r0 hf hw
  by_cases g1 : 200 < al.length
  · have g1' : (200 : Int) < (al.length : Int) := by omega
    go_enter Try.func3, Try.ntmps3
    go_wp2_with fail
    refine HSH.out.mono ?_
    rintro e w1 ⟨rfl, hb⟩
    obtain ⟨n0, n1, n2, n3⟩ := Ne.netBox_cells (Ne.netBox_below HN0.out hb (by simp))
    have HB1 := Lib.hid (HB0.out.trans (hb.mono (by simp)))
    clear hb
    go_wp2
    go_ret
    exact ⟨rfl, HB1.out⟩
  have g1' : ¬ (200 : Int) < (al.length : Int) := by omega
  by_cases g2 : 60 < an
  · go_enter Try.func3, Try.ntmps3
    go_wp2_with fail
    refine HSH.out.mono ?_
    rintro e w1 ⟨rfl, hb⟩
    obtain ⟨n0, n1, n2, n3⟩ := Ne.netBox_cells (Ne.netBox_below HN0.out hb (by simp))
    have HB1 := Lib.hid (HB0.out.trans (hb.mono (by simp)))
    clear hb
    go_wp2
    go_ret
    exact ⟨rfl, HB1.out⟩
  by_cases g3 : 100 < W.length
  · have g3' : (100 : Int) < (W.length : Int) := by omega
    go_enter Try.func3, Try.ntmps3
    go_wp2_with fail
    refine HSH.out.mono ?_
    rintro e w1 ⟨rfl, hb⟩
    obtain ⟨n0, n1, n2, n3⟩ := Ne.netBox_cells (Ne.netBox_below HN0.out hb (by simp))
    have HB1 := Lib.hid (HB0.out.trans (hb.mono (by simp)))
    clear hb
    go_wp2
    go_ret
    exact ⟨rfl, HB1.out⟩
  have g3' : ¬ (100 : Int) < (W.length : Int) := by omega
  have la : al.length ≤ 1000000 := by omega
  have lw : W.length ≤ 1000000 := by omega
  have kc : ∀ a ∈ al, Ne.in64 a.cap := fun a ha => (ka a ha).2.2
  have h64 : ∀ x ∈ W, Ne.in64 x := fun x hx => hw64 x hx
  have DR := Lib.hid fun w' h1 h2 => Ne.droom_s ⟨an, as_, at_, al⟩ o0 c0 a1 cap1 f w' h1 h2 la kc
  have RR := Lib.hid fun w' h1 h2 => Ne.rroom_s ⟨an, as_, at_, al⟩ o0 c0 a1 cap1 f w' h1 h2 la
  have DP := Lib.hid fun w' h1 h2 h3 => Ne.dpush_s ⟨an, as_, at_, al⟩ o0 c0 a1 cap1 f a2 cap2 W a3 w' h1 h2 h3 la kc lw h64 ⟨b3.1, b3.2⟩
  have RP := Lib.hid fun w' h1 h2 h3 => Ne.rpush_s ⟨an, as_, at_, al⟩ o0 c0 a1 cap1 f a2 cap2 W a3 w' h1 h2 h3 la lw h64 ⟨b3.1, b3.2⟩
  have DX := Lib.hid fun w' h1 h2 => Ne.dreach_any ⟨an, as_, at_, al⟩ o0 c0 a1 cap1 f a4 w' h1 h2 la kc
  have RX := Lib.hid fun w' h1 h2 => Ne.rreach_any ⟨an, as_, at_, al⟩ o0 c0 a1 cap1 f a4 w' h1 h2 la
  have DE := Lib.hid fun (x : Int) (h : Ne.in64 x) w' h1 => Ne.ends_any ⟨an, as_, at_, al⟩ o0 c0 x w' h1 la h
  have RE := Lib.hid fun (x : Int) (h : Ne.in64 x) w' h1 => Ne.rends_any ⟨an, as_, at_, al⟩ o0 c0 x w' h1 la h
  have DF := Lib.hid fun (u : Int) w' h1 => Ne.dfrom_s ⟨an, as_, at_, al⟩ o0 c0 u w' h1 la
  have RF := Lib.hid fun (u : Int) w' h1 => Ne.rfrom_s ⟨an, as_, at_, al⟩ o0 c0 u w' h1 la
  have HFR := Lib.hid fun (u : Int) => Ne.fromL_len al u (2 * al.length)
  have H64 := Lib.hid (show ∀ k, k < W.length → Ne.in64 (Ne.amt W k) from fun k hk => h64 _ (by have := Ne.at_amt hk; exact List.mem_of_getElem? this))
  have hrv := Ne.roomV_len ⟨an, as_, at_, al⟩ f
  have hpv := Ne.pushV_len ⟨an, as_, at_, al⟩ f W a3
  simp only at hrv
  generalize Ne.roomV ⟨an, as_, at_, al⟩ f = rv at *
  generalize Ne.chkF ⟨an, as_, at_, al⟩ f = cf at *
  generalize Ne.pushV ⟨an, as_, at_, al⟩ f W a3 = pv at *
  generalize Ne.pushE ⟨an, as_, at_, al⟩ f W a3 = pe at *
  generalize Ne.fromL al = FL at *
  generalize Ne.enF al = EF at *
  generalize Ne.enT al = ET at *
  have SMR := Lib.hid fun x1 x2 y1 y2 w' h1 h2 => Ne.rsame_l x1 x2 y1 y2 rv rv w' h1 h2 (by omega) (by omega)
  rw [show decide (rv = rv) = true by simp] at SMR
  have SMP := Lib.hid fun x1 x2 y1 y2 w' h1 h2 => Ne.rsame_l x1 x2 y1 y2 pv pv w' h1 h2 (by omega) (by omega)
  rw [show decide (pv = pv) = true by simp] at SMP
  have SMI := Lib.hid fun (fl : List Nat) (hfl : fl.length ≤ 1099511627776) x1 x2 y1 y2 w' h1 h2 => show Calls Try.prog 21 #[.slice x1 fl.length y1, .slice x2 fl.length y2] w' fun e w2 => e = .returned (.bool true) ∧ Below w'.heap.size w' w2 by
    have := Ne.same_any x1 x2 y1 y2 (Ne.encW fl) (Ne.encW fl) w' h1 h2 (by rw [Ne.encW_len]; exact hfl) (by rw [Ne.encW_len]; exact hfl)
    rwa [Ne.encW_len, show decide (Ne.encW fl = Ne.encW fl) = true by simp] at this
  clear ka kc h64 hw64 hfc hfm hwm hrv hpv b3 b4
  obtain ⟨fl, hfl⟩ : ∃ x, x = f.length := ⟨_, rfl⟩
  rw [← hfl]
  simp only [← hfl] at DR RR DP RP DX RX
  clear hfl hf63
  go_enter Try.func3, Try.ntmps3
  go_wp2_with fail
  refine HSH.out.mono ?_
  rintro e w1 ⟨rfl, hb⟩
  generalize (w.alloc (.cells #[.int .i64 an, .int .i64 as_, .int .i64 at_, .slice o0 al.length c0] 24)) = W0 at *
  have hw0 := Ne.netBox_lt HN0.out
  have HB1 := Lib.hid hb
  obtain ⟨n0, n1, n2, n3⟩ := Ne.netBox_cells (Ne.netBox_below HN0.out HB1.out hw0)
  clear hb
  go_wp2_with fail
  refine (DR.out _ (HR0.out.kept HB1.out) (HF0.out.kept HB1.out)).mono ?_
  rintro e w2 ⟨x2, y2, rfl, hx2, hb⟩
  have HB2 := Lib.hid (HB1.out.trans (hb.mono HB1.out.size))
  clear n0 n1 n2 n3
  obtain ⟨n0, n1, n2, n3⟩ := Ne.netBox_cells (Ne.netBox_below HN0.out HB2.out hw0)
  have HX2 := Lib.hid hx2
  clear hb hx2
  go_wp2_with fail
  refine (RR.out _ (HR0.out.kept HB2.out) (HF0.out.kept HB2.out)).mono ?_
  rintro e w3 ⟨x3, y3, rfl, hx3, hb⟩
  have HB3 := Lib.hid (HB2.out.trans (hb.mono HB2.out.size))
  clear n0 n1 n2 n3
  obtain ⟨n0, n1, n2, n3⟩ := Ne.netBox_cells (Ne.netBox_below HN0.out HB3.out hw0)
  have HX23 := Lib.hid (HX2.out.kept hb)
  have HX3 := Lib.hid hx3
  clear hb hx3 HX2
  go_wp2_with fail
  refine (DP.out _ (HR0.out.kept HB3.out) (HF0.out.kept HB3.out) (HW0.out.kept HB3.out)).mono ?_
  rintro e w4 ⟨x4, y4, rfl, hx4, hb⟩
  have HB4 := Lib.hid (HB3.out.trans (hb.mono HB3.out.size))
  clear n0 n1 n2 n3
  obtain ⟨n0, n1, n2, n3⟩ := Ne.netBox_cells (Ne.netBox_below HN0.out HB4.out hw0)
  have HX24 := Lib.hid (HX23.out.kept hb)
  have HX34 := Lib.hid (HX3.out.kept hb)
  have HX4 := Lib.hid hx4
  clear hb hx4 HX23 HX3
  go_wp2_with fail
  refine (RP.out _ (HR0.out.kept HB4.out) (HF0.out.kept HB4.out) (HW0.out.kept HB4.out)).mono ?_
  rintro e w5 ⟨x5, y5, rfl, hx5, hb⟩
  have HB5 := Lib.hid (HB4.out.trans (hb.mono HB4.out.size))
  clear n0 n1 n2 n3
  obtain ⟨n0, n1, n2, n3⟩ := Ne.netBox_cells (Ne.netBox_below HN0.out HB5.out hw0)
  have HX25 := Lib.hid (HX24.out.kept hb)
  have HX35 := Lib.hid (HX34.out.kept hb)
  have HX45 := Lib.hid (HX4.out.kept hb)
  have HX5 := Lib.hid hx5
  clear hb hx5 HX24 HX34 HX4
  go_wp2_with fail
  refine (DX.out _ (HR0.out.kept HB5.out) (HF0.out.kept HB5.out)).mono ?_
  rintro e w6 ⟨x6, y6, M, rfl, hx6, hb⟩
  have HB6 := Lib.hid (HB5.out.trans (hb.mono HB5.out.size))
  clear n0 n1 n2 n3
  obtain ⟨n0, n1, n2, n3⟩ := Ne.netBox_cells (Ne.netBox_below HN0.out HB6.out hw0)
  have HX26 := Lib.hid (HX25.out.kept hb)
  have HX36 := Lib.hid (HX35.out.kept hb)
  have HX46 := Lib.hid (HX45.out.kept hb)
  have HX56 := Lib.hid (HX5.out.kept hb)
  have HX6 := Lib.hid hx6
  clear hb hx6 HX25 HX35 HX45 HX5
  go_wp2_with fail
  refine (RX.out _ (HR0.out.kept HB6.out) (HF0.out.kept HB6.out)).mono ?_
  rintro e w7 ⟨x7, y7, M', rfl, hx7, hb⟩
  have HB7 := Lib.hid (HB6.out.trans (hb.mono HB6.out.size))
  clear n0 n1 n2 n3
  obtain ⟨n0, n1, n2, n3⟩ := Ne.netBox_cells (Ne.netBox_below HN0.out HB7.out hw0)
  have HX27 := Lib.hid (HX26.out.kept hb)
  have HX37 := Lib.hid (HX36.out.kept hb)
  have HX47 := Lib.hid (HX46.out.kept hb)
  have HX57 := Lib.hid (HX56.out.kept hb)
  obtain rfl := HX6.out.same hx7
  have HM6 := Lib.hid (HX6.out.brow.kept hb)
  have HM7 := Lib.hid hx7.brow
  have hml := hx7.len
  have SB := Lib.hid fun x1 x2 y1 y2 w' h1 h2 => Ne.sameb_any x1 x2 y1 y2 M M w' h1 h2 (by omega) (by omega)
  rw [show decide (M = M) = true by simp] at SB
  clear hb hx7 hml HX26 HX36 HX46 HX56 HX6
  go_wp2_with fail
  refine (SMR.out _ _ _ _ _ HX27.out HX37.out).mono ?_
  rintro e w8 ⟨rfl, hb⟩
  have HB8 := Lib.hid (HB7.out.trans (hb.mono HB7.out.size))
  clear n0 n1 n2 n3
  obtain ⟨n0, n1, n2, n3⟩ := Ne.netBox_cells (Ne.netBox_below HN0.out HB8.out hw0)
  have HX48 := Lib.hid (HX47.out.kept hb)
  have HX58 := Lib.hid (HX57.out.kept hb)
  have HM68 := Lib.hid (HM6.out.kept hb)
  have HM78 := Lib.hid (HM7.out.kept hb)
  clear hb HX27 HX37 HX47 HX57 HM6 HM7
  go_wp2_with fail
  refine (SMP.out _ _ _ _ _ HX48.out HX58.out).mono ?_
  rintro e w9 ⟨rfl, hb⟩
  have HB9 := Lib.hid (HB8.out.trans (hb.mono HB8.out.size))
  clear n0 n1 n2 n3
  obtain ⟨n0, n1, n2, n3⟩ := Ne.netBox_cells (Ne.netBox_below HN0.out HB9.out hw0)
  have HM69 := Lib.hid (HM68.out.kept hb)
  have HM79 := Lib.hid (HM78.out.kept hb)
  clear hb HX48 HX58 HM68 HM78
  go_wp2_with fail
  refine (SB.out _ _ _ _ _ HM69.out HM79.out).mono ?_
  rintro e w10 ⟨rfl, hb⟩
  have HB10 := Lib.hid (HB9.out.trans (hb.mono HB9.out.size))
  clear n0 n1 n2 n3
  obtain ⟨n0, n1, n2, n3⟩ := Ne.netBox_cells (Ne.netBox_below HN0.out HB10.out hw0)
  clear hb HM69 HM79
  have HSB : Hid (∀ w', Below W0.heap.size W0 w' → (fun w' => w'.cell? ⟨w.heap.size, 0, none⟩ = some (.int .i64 an) ∧ w'.cell? ⟨w.heap.size, 1, none⟩ = some (.int .i64 as_) ∧ w'.cell? ⟨w.heap.size, 2, none⟩ = some (.int .i64 at_) ∧ w'.cell? ⟨w.heap.size, 3, none⟩ = some (.slice o0 al.length c0)) w') := Lib.hid fun w' h => Ne.netBox_cells (Ne.netBox_below HN0.out h hw0)
  go_wp2
  clear n0 n1 n2 n3 DR RR DP RP DX RX SMR SMP SB
  go_loopw [24] (fun i wr => ∃ k : Nat, i = .int .i64 k ∧ k ≤ W.length ∧ Hid (Below W0.heap.size W0 wr)) (fun i _ => W.length - (intOf i).toNat)
  case atStart => exact ⟨0, rfl, Nat.zero_le _, HB10⟩
  case round =>
    obtain ⟨k, rfl, hk, HBW⟩ := hrel
    by_cases hlt : k < W.length
    · obtain ⟨b, off, rfl, hbk, d0⟩ := Ne.irow_cell HW0.out hlt
      have h64 := H64.out k hlt
      have DEK := Lib.hid (DE.out _ h64)
      have REK := Lib.hid (RE.out _ h64)
      clear h64
      generalize Ne.amt W k = x at *
      have hfe := HFR.out (EF x)
      have DFK := Lib.hid (DF.out (EF x))
      have RFK := Lib.hid (RF.out (EF x))
      have SMK := Lib.hid (SMI.out (FL (EF x) (2 * al.length)) (by omega))
      generalize FL (EF x) (2 * al.length) = fe at *
      generalize EF x = p at *
      generalize ET x = q at *
      have HSW := Lib.hid (show ∀ w', Below W0.heap.size W0 w' → (fun w' => (w'.cell? ⟨w.heap.size, 0, none⟩ = some (.int .i64 an) ∧ w'.cell? ⟨w.heap.size, 1, none⟩ = some (.int .i64 as_) ∧ w'.cell? ⟨w.heap.size, 2, none⟩ = some (.int .i64 at_) ∧ w'.cell? ⟨w.heap.size, 3, none⟩ = some (.slice o0 al.length c0)) ∧ w'.cell? ⟨b, off + k, none⟩ = some (.int .i64 x)) w' from fun w' h => ⟨HSB.out w' h, (h.cell (p := ⟨b, off + k, none⟩) hbk).trans d0⟩)
      have hki : (k : Int) < (W.length : Int) := by omega
      have hk0 : (0 : Int) ≤ (k : Int) := by omega
      clear d0
      go_wp2
      have HD0 := Lib.hid (Ne.below_drew HBW.out)
      have hS0 := HSW.out _ HD0.out
      refine Rh.start (S := (fun w' => (w'.cell? ⟨w.heap.size, 0, none⟩ = some (.int .i64 an) ∧ w'.cell? ⟨w.heap.size, 1, none⟩ = some (.int .i64 as_) ∧ w'.cell? ⟨w.heap.size, 2, none⟩ = some (.int .i64 at_) ∧ w'.cell? ⟨w.heap.size, 3, none⟩ = some (.slice o0 al.length c0)) ∧ w'.cell? ⟨b, off + k, none⟩ = some (.int .i64 x))) (by kernel_rfl) ?_
      refine Rh.take (some 129) (i := 0) (v := ?_) rfl (by kernel_rfl) (by kernel_rfl) (by kernel_rfl) (by kernel_rfl) (fun _ _ _ h => h) (Or.inl ⟨by rfl, ?_⟩) hS0 ?_
      rotate_left
      · intro w hSw
        go_simp
        try with_reducible rfl
      try simp only [Act.put, List.setIfInBounds_toArray, List.set_cons_zero, List.set_cons_succ]
      refine Rh.take (some 130) (i := 1) (v := ?_) rfl (by kernel_rfl) (by kernel_rfl) (by kernel_rfl) (by kernel_rfl) (fun _ _ _ h => h) (Or.inl ⟨by rfl, ?_⟩) hS0 ?_
      rotate_left
      · intro w hSw
        go_simp
        try with_reducible rfl
      try simp only [Act.put, List.setIfInBounds_toArray, List.set_cons_zero, List.set_cons_succ]
      refine Rh.take (some 131) (i := 2) (v := ?_) rfl (by kernel_rfl) (by kernel_rfl) (by kernel_rfl) (by kernel_rfl) (fun _ _ _ h => h) (Or.inl ⟨by rfl, ?_⟩) hS0 ?_
      rotate_left
      · intro w hSw
        go_simp
        try with_reducible rfl
      try simp only [Act.put, List.setIfInBounds_toArray, List.set_cons_zero, List.set_cons_succ]
      refine Rh.take (some 132) (i := 3) (v := ?_) rfl (by kernel_rfl) (by kernel_rfl) (by kernel_rfl) (by kernel_rfl) (fun _ _ _ h => h) (Or.inl ⟨by rfl, ?_⟩) hS0 ?_
      rotate_left
      · intro w hSw
        go_simp
        try with_reducible rfl
      try simp only [Act.put, List.setIfInBounds_toArray, List.set_cons_zero, List.set_cons_succ]
      refine Rh.take (some 133) (i := 4) (v := ?_) rfl (by kernel_rfl) (by kernel_rfl) (by kernel_rfl) (by kernel_rfl) (fun _ _ _ h => h) (Or.inl ⟨by rfl, ?_⟩) hS0 ?_
      rotate_left
      · intro w hSw
        go_simp
        try with_reducible rfl
      try simp only [Act.put, List.setIfInBounds_toArray, List.set_cons_zero, List.set_cons_succ]
      refine Rh.step (i := 5) (by kernel_rfl) rfl fun K' hK' => ?_
      have HK := Lib.hid hK'
      clear hK'
      go_simp
      refine (DEK.out wr.drew (HR0.out.kept HD0.out)).mono ?_
      rintro e w11 ⟨rfl, hb⟩
      have HD1 := Lib.hid (HD0.out.trans (hb.mono HD0.out.size))
      have hS1 := HSW.out _ HD1.out
      clear hb
      refine HK.out _ _ ⟨hS1, ?_⟩
      clear HK K'
      try simp only [Act.put, List.setIfInBounds_toArray, List.set_cons_zero, List.set_cons_succ]
      refine Rh.take (some 128) (i := 6) (v := ?_) rfl (by kernel_rfl) (by kernel_rfl) (by kernel_rfl) (by kernel_rfl) (fun _ _ _ h => h) (Or.inl ⟨by rfl, ?_⟩) hS1 ?_
      rotate_left
      · intro w hSw
        go_simp
        try with_reducible rfl
      try simp only [Act.put, List.setIfInBounds_toArray, List.set_cons_zero, List.set_cons_succ]
      refine Rh.take (some 135) (i := 7) (v := ?_) rfl (by kernel_rfl) (by kernel_rfl) (by kernel_rfl) (by kernel_rfl) (fun _ _ _ h => h) (Or.inl ⟨by rfl, ?_⟩) hS1 ?_
      rotate_left
      · intro w hSw
        go_simp
        try with_reducible rfl
      try simp only [Act.put, List.setIfInBounds_toArray, List.set_cons_zero, List.set_cons_succ]
      refine Rh.take (some 136) (i := 8) (v := ?_) rfl (by kernel_rfl) (by kernel_rfl) (by kernel_rfl) (by kernel_rfl) (fun _ _ _ h => h) (Or.inl ⟨by rfl, ?_⟩) hS1 ?_
      rotate_left
      · intro w hSw
        go_simp
        try with_reducible rfl
      try simp only [Act.put, List.setIfInBounds_toArray, List.set_cons_zero, List.set_cons_succ]
      refine Rh.take (some 25) (i := 9) (v := ?_) rfl (by kernel_rfl) (by kernel_rfl) (by kernel_rfl) (by kernel_rfl) (fun _ _ _ h => h) (Or.inl ⟨by rfl, ?_⟩) hS1 ?_
      rotate_left
      · intro w hSw
        go_simp
        try with_reducible rfl
      try simp only [Act.put, List.setIfInBounds_toArray, List.set_cons_zero, List.set_cons_succ]
      refine Rh.take (some 26) (i := 10) (v := ?_) rfl (by kernel_rfl) (by kernel_rfl) (by kernel_rfl) (by kernel_rfl) (fun _ _ _ h => h) (Or.inl ⟨by rfl, ?_⟩) hS1 ?_
      rotate_left
      · intro w hSw
        go_simp
        try with_reducible rfl
      try simp only [Act.put, List.setIfInBounds_toArray, List.set_cons_zero, List.set_cons_succ]
      refine Rh.done (by kernel_rfl) ?_ _
      go_wp2
      have HD2 := Lib.hid (Ne.below_drew HD1.out)
      have hS0 := HSW.out _ HD2.out
      refine Rh.start (S := (fun w' => (w'.cell? ⟨w.heap.size, 0, none⟩ = some (.int .i64 an) ∧ w'.cell? ⟨w.heap.size, 1, none⟩ = some (.int .i64 as_) ∧ w'.cell? ⟨w.heap.size, 2, none⟩ = some (.int .i64 at_) ∧ w'.cell? ⟨w.heap.size, 3, none⟩ = some (.slice o0 al.length c0)) ∧ w'.cell? ⟨b, off + k, none⟩ = some (.int .i64 x))) (by kernel_rfl) ?_
      refine Rh.take (some 138) (i := 0) (v := ?_) rfl (by kernel_rfl) (by kernel_rfl) (by kernel_rfl) (by kernel_rfl) (fun _ _ _ h => h) (Or.inl ⟨by rfl, ?_⟩) hS0 ?_
      rotate_left
      · intro w hSw
        go_simp
        try with_reducible rfl
      try simp only [Act.put, List.setIfInBounds_toArray, List.set_cons_zero, List.set_cons_succ]
      refine Rh.take (some 139) (i := 1) (v := ?_) rfl (by kernel_rfl) (by kernel_rfl) (by kernel_rfl) (by kernel_rfl) (fun _ _ _ h => h) (Or.inl ⟨by rfl, ?_⟩) hS0 ?_
      rotate_left
      · intro w hSw
        go_simp
        try with_reducible rfl
      try simp only [Act.put, List.setIfInBounds_toArray, List.set_cons_zero, List.set_cons_succ]
      refine Rh.take (some 140) (i := 2) (v := ?_) rfl (by kernel_rfl) (by kernel_rfl) (by kernel_rfl) (by kernel_rfl) (fun _ _ _ h => h) (Or.inl ⟨by rfl, ?_⟩) hS0 ?_
      rotate_left
      · intro w hSw
        go_simp
        try with_reducible rfl
      try simp only [Act.put, List.setIfInBounds_toArray, List.set_cons_zero, List.set_cons_succ]
      refine Rh.take (some 141) (i := 3) (v := ?_) rfl (by kernel_rfl) (by kernel_rfl) (by kernel_rfl) (by kernel_rfl) (fun _ _ _ h => h) (Or.inl ⟨by rfl, ?_⟩) hS0 ?_
      rotate_left
      · intro w hSw
        go_simp
        try with_reducible rfl
      try simp only [Act.put, List.setIfInBounds_toArray, List.set_cons_zero, List.set_cons_succ]
      refine Rh.take (some 142) (i := 4) (v := ?_) rfl (by kernel_rfl) (by kernel_rfl) (by kernel_rfl) (by kernel_rfl) (fun _ _ _ h => h) (Or.inl ⟨by rfl, ?_⟩) hS0 ?_
      rotate_left
      · intro w hSw
        go_simp
        try with_reducible rfl
      try simp only [Act.put, List.setIfInBounds_toArray, List.set_cons_zero, List.set_cons_succ]
      refine Rh.step (i := 5) (by kernel_rfl) rfl fun K' hK' => ?_
      have HK := Lib.hid hK'
      clear hK'
      go_simp
      refine (REK.out w11.drew (HR0.out.kept HD2.out)).mono ?_
      rintro e w12 ⟨rfl, hb⟩
      have HD3 := Lib.hid (HD2.out.trans (hb.mono HD2.out.size))
      have hS1 := HSW.out _ HD3.out
      clear hb
      refine HK.out _ _ ⟨hS1, ?_⟩
      clear HK K'
      try simp only [Act.put, List.setIfInBounds_toArray, List.set_cons_zero, List.set_cons_succ]
      refine Rh.take (some 137) (i := 6) (v := ?_) rfl (by kernel_rfl) (by kernel_rfl) (by kernel_rfl) (by kernel_rfl) (fun _ _ _ h => h) (Or.inl ⟨by rfl, ?_⟩) hS1 ?_
      rotate_left
      · intro w hSw
        go_simp
        try with_reducible rfl
      try simp only [Act.put, List.setIfInBounds_toArray, List.set_cons_zero, List.set_cons_succ]
      refine Rh.take (some 144) (i := 7) (v := ?_) rfl (by kernel_rfl) (by kernel_rfl) (by kernel_rfl) (by kernel_rfl) (fun _ _ _ h => h) (Or.inl ⟨by rfl, ?_⟩) hS1 ?_
      rotate_left
      · intro w hSw
        go_simp
        try with_reducible rfl
      try simp only [Act.put, List.setIfInBounds_toArray, List.set_cons_zero, List.set_cons_succ]
      refine Rh.take (some 145) (i := 8) (v := ?_) rfl (by kernel_rfl) (by kernel_rfl) (by kernel_rfl) (by kernel_rfl) (fun _ _ _ h => h) (Or.inl ⟨by rfl, ?_⟩) hS1 ?_
      rotate_left
      · intro w hSw
        go_simp
        try with_reducible rfl
      try simp only [Act.put, List.setIfInBounds_toArray, List.set_cons_zero, List.set_cons_succ]
      refine Rh.take (some 27) (i := 9) (v := ?_) rfl (by kernel_rfl) (by kernel_rfl) (by kernel_rfl) (by kernel_rfl) (fun _ _ _ h => h) (Or.inl ⟨by rfl, ?_⟩) hS1 ?_
      rotate_left
      · intro w hSw
        go_simp
        try with_reducible rfl
      try simp only [Act.put, List.setIfInBounds_toArray, List.set_cons_zero, List.set_cons_succ]
      refine Rh.take (some 28) (i := 10) (v := ?_) rfl (by kernel_rfl) (by kernel_rfl) (by kernel_rfl) (by kernel_rfl) (fun _ _ _ h => h) (Or.inl ⟨by rfl, ?_⟩) hS1 ?_
      rotate_left
      · intro w hSw
        go_simp
        try with_reducible rfl
      try simp only [Act.put, List.setIfInBounds_toArray, List.set_cons_zero, List.set_cons_succ]
      refine Rh.done (by kernel_rfl) ?_ _
      go_wp2
      have HD4 := Lib.hid (Ne.below_drew HD3.out)
      have hS0 := HSB.out _ HD4.out
      refine Rh.start (S := (fun w' => w'.cell? ⟨w.heap.size, 0, none⟩ = some (.int .i64 an) ∧ w'.cell? ⟨w.heap.size, 1, none⟩ = some (.int .i64 as_) ∧ w'.cell? ⟨w.heap.size, 2, none⟩ = some (.int .i64 at_) ∧ w'.cell? ⟨w.heap.size, 3, none⟩ = some (.slice o0 al.length c0))) (by kernel_rfl) ?_
      refine Rh.take (some 146) (i := 0) (v := ?_) rfl (by kernel_rfl) (by kernel_rfl) (by kernel_rfl) (by kernel_rfl) (fun _ _ _ h => h) (Or.inl ⟨by rfl, ?_⟩) hS0 ?_
      rotate_left
      · intro w hSw
        go_simp
        try with_reducible rfl
      try simp only [Act.put, List.setIfInBounds_toArray, List.set_cons_zero, List.set_cons_succ]
      refine Rh.take (some 147) (i := 1) (v := ?_) rfl (by kernel_rfl) (by kernel_rfl) (by kernel_rfl) (by kernel_rfl) (fun _ _ _ h => h) (Or.inl ⟨by rfl, ?_⟩) hS0 ?_
      rotate_left
      · intro w hSw
        go_simp
        try with_reducible rfl
      try simp only [Act.put, List.setIfInBounds_toArray, List.set_cons_zero, List.set_cons_succ]
      refine Rh.take (some 148) (i := 2) (v := ?_) rfl (by kernel_rfl) (by kernel_rfl) (by kernel_rfl) (by kernel_rfl) (fun _ _ _ h => h) (Or.inl ⟨by rfl, ?_⟩) hS0 ?_
      rotate_left
      · intro w hSw
        go_simp
        try with_reducible rfl
      try simp only [Act.put, List.setIfInBounds_toArray, List.set_cons_zero, List.set_cons_succ]
      refine Rh.take (some 149) (i := 3) (v := ?_) rfl (by kernel_rfl) (by kernel_rfl) (by kernel_rfl) (by kernel_rfl) (fun _ _ _ h => h) (Or.inl ⟨by rfl, ?_⟩) hS0 ?_
      rotate_left
      · intro w hSw
        go_simp
        try with_reducible rfl
      try simp only [Act.put, List.setIfInBounds_toArray, List.set_cons_zero, List.set_cons_succ]
      refine Rh.take (some 150) (i := 4) (v := ?_) rfl (by kernel_rfl) (by kernel_rfl) (by kernel_rfl) (by kernel_rfl) (fun _ _ _ h => h) (Or.inl ⟨by rfl, ?_⟩) hS0 ?_
      rotate_left
      · intro w hSw
        go_simp
        try with_reducible rfl
      try simp only [Act.put, List.setIfInBounds_toArray, List.set_cons_zero, List.set_cons_succ]
      refine Rh.take (some 151) (i := 5) (v := ?_) rfl (by kernel_rfl) (by kernel_rfl) (by kernel_rfl) (by kernel_rfl) (fun _ _ _ h => h) (Or.inl ⟨by rfl, ?_⟩) hS0 ?_
      rotate_left
      · intro w hSw
        go_simp
        try with_reducible rfl
      try simp only [Act.put, List.setIfInBounds_toArray, List.set_cons_zero, List.set_cons_succ]
      refine Rh.take (some 152) (i := 6) (v := ?_) rfl (by kernel_rfl) (by kernel_rfl) (by kernel_rfl) (by kernel_rfl) (fun _ _ _ h => h) (Or.inl ⟨by rfl, ?_⟩) hS0 ?_
      rotate_left
      · intro w hSw
        go_simp
        try with_reducible rfl
      try simp only [Act.put, List.setIfInBounds_toArray, List.set_cons_zero, List.set_cons_succ]
      refine Rh.take (some 153) (i := 7) (v := ?_) rfl (by kernel_rfl) (by kernel_rfl) (by kernel_rfl) (by kernel_rfl) (fun _ _ _ h => h) (Or.inl ⟨by rfl, ?_⟩) hS0 ?_
      rotate_left
      · intro w hSw
        go_simp
        try with_reducible rfl
      try simp only [Act.put, List.setIfInBounds_toArray, List.set_cons_zero, List.set_cons_succ]
      refine Rh.take (some 154) (i := 8) (v := ?_) rfl (by kernel_rfl) (by kernel_rfl) (by kernel_rfl) (by kernel_rfl) (fun _ _ _ h => h) (Or.inl ⟨by rfl, ?_⟩) hS0 ?_
      rotate_left
      · intro w hSw
        go_simp
        try with_reducible rfl
      try simp only [Act.put, List.setIfInBounds_toArray, List.set_cons_zero, List.set_cons_succ]
      refine Rh.take (some 155) (i := 9) (v := ?_) rfl (by kernel_rfl) (by kernel_rfl) (by kernel_rfl) (by kernel_rfl) (fun _ _ _ h => h) (Or.inl ⟨by rfl, ?_⟩) hS0 ?_
      rotate_left
      · intro w hSw
        go_simp
        try with_reducible rfl
      try simp only [Act.put, List.setIfInBounds_toArray, List.set_cons_zero, List.set_cons_succ]
      refine Rh.take (some 156) (i := 10) (v := ?_) rfl (by kernel_rfl) (by kernel_rfl) (by kernel_rfl) (by kernel_rfl) (fun _ _ _ h => h) (Or.inl ⟨by rfl, ?_⟩) hS0 ?_
      rotate_left
      · intro w hSw
        go_simp
        try with_reducible rfl
      try simp only [Act.put, List.setIfInBounds_toArray, List.set_cons_zero, List.set_cons_succ]
      refine Rh.take (some 158) (i := 12) (v := ?_) rfl (by kernel_rfl) (by kernel_rfl) (by kernel_rfl) (by kernel_rfl) (fun _ _ _ h => h) (Or.inl ⟨by rfl, ?_⟩) hS0 ?_
      rotate_left
      · intro w hSw
        go_simp
        try with_reducible rfl
      try simp only [Act.put, List.setIfInBounds_toArray, List.set_cons_zero, List.set_cons_succ]
      refine Rh.take (some 159) (i := 13) (v := ?_) rfl (by kernel_rfl) (by kernel_rfl) (by kernel_rfl) (by kernel_rfl) (fun _ _ _ h => h) (Or.inl ⟨by rfl, ?_⟩) hS0 ?_
      rotate_left
      · intro w hSw
        go_simp
        try with_reducible rfl
      try simp only [Act.put, List.setIfInBounds_toArray, List.set_cons_zero, List.set_cons_succ]
      refine Rh.step (i := 11) (by kernel_rfl) rfl fun K' hK' => ?_
      have HK := Lib.hid hK'
      clear hK'
      go_simp
      refine (DFK.out w12.drew (HR0.out.kept HD4.out)).mono ?_
      rintro e w13 ⟨x13, y13, rfl, h13, hb⟩
      have HD5 := Lib.hid (HD4.out.trans (hb.mono HD4.out.size))
      have HX13 := Lib.hid h13
      have hS1 := HSB.out _ HD5.out
      clear hb h13
      refine HK.out _ _ ⟨hS1, ?_⟩
      clear HK K'
      try simp only [Act.put, List.setIfInBounds_toArray, List.set_cons_zero, List.set_cons_succ]
      refine Rh.step (i := 14) (by kernel_rfl) rfl fun K' hK' => ?_
      have HK := Lib.hid hK'
      clear hK'
      go_simp
      refine (RFK.out w13 (HR0.out.kept HD5.out)).mono ?_
      rintro e w14 ⟨x14, y14, rfl, h14, hb⟩
      have HD6 := Lib.hid (HD5.out.trans (hb.mono HD5.out.size))
      have HX134 := Lib.hid (HX13.out.kept hb)
      have HX14 := Lib.hid h14
      have hS2 := HSB.out _ HD6.out
      clear hb h14
      refine HK.out _ _ ⟨hS2, ?_⟩
      clear HK K'
      try simp only [Act.put, List.setIfInBounds_toArray, List.set_cons_zero, List.set_cons_succ]
      refine Rh.step (i := 15) (by kernel_rfl) rfl fun K' hK' => ?_
      have HK := Lib.hid hK'
      clear hK'
      go_simp
      refine (SMK.out _ _ _ _ w14 HX134.out HX14.out).mono ?_
      rintro e w15 ⟨rfl, hb⟩
      have HD7 := Lib.hid (HD6.out.trans (hb.mono HD6.out.size))
      have hS3 := HSB.out _ HD7.out
      clear hb
      refine HK.out _ _ ⟨hS3, ?_⟩
      clear HK K'
      try simp only [Act.put, List.setIfInBounds_toArray, List.set_cons_zero, List.set_cons_succ]
      refine Rh.take (some 162) (i := 16) (v := ?_) rfl (by kernel_rfl) (by kernel_rfl) (by kernel_rfl) (by kernel_rfl) (fun _ _ _ h => h) (Or.inl ⟨by rfl, ?_⟩) hS3 ?_
      rotate_left
      · intro w hSw
        go_simp
        try with_reducible rfl
      try simp only [Act.put, List.setIfInBounds_toArray, List.set_cons_zero, List.set_cons_succ]
      refine Rh.take (some 163) (i := 17) (v := ?_) rfl (by kernel_rfl) (by kernel_rfl) (by kernel_rfl) (by kernel_rfl) (fun _ _ _ h => h) (Or.inl ⟨by rfl, ?_⟩) hS3 ?_
      rotate_left
      · intro w hSw
        go_simp
        try with_reducible rfl
      try simp only [Act.put, List.setIfInBounds_toArray, List.set_cons_zero, List.set_cons_succ]
      refine Rh.done (by kernel_rfl) ?_ _
      go_wp2
      go_roundw
      case rel => exact ⟨k + 1, by go_num, by omega, HD7⟩
      case measure => simp [intOf]; omega
    · have ek : k = W.length := by omega
      subst ek
      clear hlt hk
      go_wp2
      go_ret
      exact ⟨rfl, HB0.out.trans (HBW.out.mono (by omega))⟩

end Go.Proofs.Ythgknkjdidbkdaa.residualTells
