/- ForestCuts: for every input the law returns true and its arguments read as they did. No condition. -/
import Derived.Test.YtjhodnpmogkmmaaFlk
import Derived.Test.YtjhodnpmogkmmaaFlc
import Derived.Test.YtjhodnpmogkmmaaEnd
import Derived.Deep.LoopGhost
import Derived.Deep.DeepCutAuto
import Derived.Test.YtjhodnpmogkmmaaRows
import Derived.WalkKit
import Derived.ProofKit
import Derived.OpenShut
import Derived.ShutString
import Derived.ChangeOld
import Derived.Below
import Derived.Deep.Strs
namespace Go.Proofs.Ytjhodnpmogkmmaa.forestCuts
open Go.ChangeShapes Go.WideShapes Go.ChangeAt Go.RowKit
open Go.ChangeMaps (open_string shut_string)
set_option linter.unusedVariables false
set_option linter.unusedSimpArgs false

theorem own : ownKnob Try.prog.godebug = none := by kernel_rfl
theorem laidOut : laidOutB Try.prog = true := by kernel_rfl

def IntsIn (k : IntKind) (w : World) (a : Option Addr) (len cap : Nat) (zs : List Int) : Prop :=
  (a = none ∧ len = 0 ∧ cap = 0 ∧ zs = []) ∨
  ∃ x, a = some x ∧ len ≤ cap ∧ cap ≤ maxLen ∧ zs.length = cap ∧ (∀ i, i < zs.length → w.cell? (x.add i) = some (.int k (zs.getD i 0))) ∧ ∀ n ∈ zs, (Lit.int k n).wf = true

open Fo
theorem infoB : (Try.prog.info? 4).map (fun i => (i.zero, i.size, i.bytes)) = some (some (.bool false), 1, 1) := by kernel_rfl
theorem make_b (n : Nat) (h : n ≤ 1000000) (w : World) : (Instr.makeSlice 51 (.int .i64 (n : Int)) (.int .i64 (n : Int))).run Try.prog w = .ok (.slice (some ⟨w.heap.size, 0, none⟩) n n) (w.alloc (.cells (madeCells #[.bool false] n) 4)) :=
  run_make_row' 51 4 (.bool false) 1 Try.underlying51 infoB rfl .i64 .i64 n (by omega) (by omega) w
/-- a row of truths -/
def BB (w : World) (g n : Nat) (φ : Nat → Bool) : Prop := w.rowIs g 4 n fun i => .bool (φ i)
theorem BB.set {w : World} {g n : Nat} {φ : Nat → Bool} (h : BB w g n φ) (i : Nat) (x : Bool) : BB (w.setCell ⟨g, i, none⟩ (.bool x)) g n fun z => if z = i then x else φ z :=
  World.rowIs.congr (World.rowIs.set h i (.bool x)) fun j hj => by
    show (if j = i then Value.bool x else Value.bool (φ j)) = Value.bool (if j = i then x else φ j)
    by_cases c : j = i
    · rw [if_pos c, if_pos c]
    · rw [if_neg c, if_neg c]
theorem kp_bb {K : List Nat} {B : Nat} {w w2 : World} {g n : Nat} {φ : Nat → Bool} (h : Kp K B w w2) (hb : BB w g n φ) (hg : g ∈ K) : BB w2 g n φ := World.rowIs.of_block hb (h.same hg (World.rowIs.lt hb))
theorem kp_ib {K : List Nat} {B : Nat} {w w2 : World} {g : Nat} {l : List Int} (h : Kp K B w w2) (hb : Ne.IBox w g l) (hg : g ∈ K) : Ne.IBox w2 g l := h.ibox hb hg
def preC (u : Nat → Nat) (n i : Nat) : List Int := (List.range n).map fun j => if 1 ≤ j ∧ j < i then (u j : Int) else 0
theorem preC_len (u : Nat → Nat) (n i : Nat) : (preC u n i).length = n := by simp [preC]
theorem preC_1 (u : Nat → Nat) (n : Nat) : preC u n 1 = List.replicate n 0 := by
  refine List.ext_getElem (by simp [preC]) fun k h1 h2 => ?_
  simp only [preC, List.getElem_map, List.getElem_range, List.getElem_replicate]
  rw [if_neg (by omega)]
theorem preC_at {u : Nat → Nat} {n i j : Nat} (h : j < n) (h1 : 1 ≤ j) (h2 : j < i) : Ne.amt (preC u n i) j = (u j : Int) := by
  simp [preC, Ne.amt, h, h1, h2]
theorem preC_set {u : Nat → Nat} {n i : Nat} (h1 : 1 ≤ i) : (preC u n i).set i (u i : Int) = preC u n (i + 1) := by
  refine List.ext_getElem (by simp [preC]) fun k h1' h2 => ?_
  simp only [preC, List.getElem_set, List.getElem_map, List.getElem_range]
  by_cases c : i = k
  · subst c; rw [if_pos rfl, if_pos (by omega)]
  · rw [if_neg c]
    by_cases c2 : 1 ≤ k ∧ k < i
    · rw [if_pos c2, if_pos (by omega)]
    · rw [if_neg c2, if_neg (by omega)]
def upN (vs : List Int) (x : Nat) : Nat := (Ne.pickN (Ne.amt vs (x - 1)) (x : Int)).toNat
theorem upN_lt (vs : List Int) (x : Nat) (h : 1 ≤ x) : upN vs x < x := by
  have := Ne.pickN_bd (c := Ne.amt vs (x - 1)) (n := (x : Int)) (by omega)
  unfold upN; omega
theorem upN_eq (vs : List Int) (x : Nat) (h : 1 ≤ x) : Ne.pickN (Ne.amt vs (x - 1)) (x : Int) = (upN vs x : Int) := by
  have := Ne.pickN_bd (c := Ne.amt vs (x - 1)) (n := (x : Int)) (by omega)
  unfold upN; omega
def phi (n : Nat) (u : Nat → Nat) (k i x : Nat) : Bool := decide (x = k) || (decide (x < i) && belB n u k x)

set_option maxRecDepth 100000 in
set_option maxHeartbeats 4000000 in
theorem walk (a0 : Option Addr) (len0 cap0 : Nat) (l0 : List Int) (a1 : Int) (w : World) (w0 : IntsIn .i64 w a0 len0 cap0 l0) (w1 : (Lit.int .i64 a1).wf = true) :
    Calls Try.prog 9 #[.slice a0 len0 cap0, .int .i64 a1] w fun e w' => e = .returned (.bool true) ∧ Below w.heap.size w w' := by
  have HSH := Lib.hid (shown_any w)
  obtain ⟨vs, hk0, hq0, bq0, hcc, hcm, hnone⟩ := Ne.ints_row w0
  subst hk0
  clear w0
  have KR0 := Lib.hid hq0
  have BQ := Lib.hid bq0
  clear hq0 hnone bq0
  have b1 := bounds_i64 w1
  clear w1
  obtain ⟨n0, hn0⟩ : ∃ n0, n0 = vs.length := ⟨_, rfl⟩
  rw [← hn0]
  have HNV := Lib.hid hn0
  have hm63 : n0 ≤ 9223372036854775807 := by unfold maxLen at hcm; omega
  clear hcc hcm hn0
  by_cases g0 : n0 = 0
  · have g0' : ((n0 : Int) == 0) = true := by simp; omega
    have g0'' : (n0 == 0) = true := by simp; omega
    go_enter Try.func9, Try.ntmps9
    go_wp2_with fail
    refine HSH.out.mono ?_
    rintro e w1 ⟨rfl, hb⟩
    have HB1 := Lib.hid hb
    clear hb
    go_wp2
    go_ret
    exact ⟨rfl, HB1.out⟩
  have g0' : ((n0 : Int) == 0) = false := by simp; omega
  have g0'' : (n0 == 0) = false := by simp; omega
  have h0p : 1 ≤ n0 := by omega
  clear g0
  by_cases g1 : 60 < n0
  · have g1' : (60 : Int) < (n0 : Int) := by omega
    go_enter Try.func9, Try.ntmps9
    go_wp2_with fail
    refine HSH.out.mono ?_
    rintro e w1 ⟨rfl, hb⟩
    have HB1 := Lib.hid hb
    clear hb
    go_wp2
    go_ret
    exact ⟨rfl, HB1.out⟩
  have g1' : ¬ (60 : Int) < (n0 : Int) := by omega
  have hm2 : n0 ≤ 60 := by omega
  clear g1
  obtain ⟨n, hn⟩ : ∃ n, n = n0 + 1 := ⟨_, rfl⟩
  have hn1 : n ≤ n0 + 1 := by omega
  have hn2 : n0 + 1 ≤ n := by omega
  have hw0 : IntKind.i64.wrap ((n0 : Int) + 1) = (n : Int) := by rw [IntKind.wrap_i64]; omega
  have hwn : IntKind.i64.wrap ((n : Int) - 1) = (n0 : Int) := by rw [IntKind.wrap_i64]; omega
  clear hn
  have bpX := Ne.pickN_bd (c := a1) (n := (n0 : Int)) (by omega)
  have PK := Lib.hid fun w' => Ne.pick_any a1 (n0 : Int) w' b1.1 b1.2 (by omega) (by omega)
  generalize Ne.pickN a1 (n0 : Int) = X at *
  obtain ⟨k, hk⟩ : ∃ k : Nat, 1 + X = (k : Int) := ⟨(1 + X).toNat, by omega⟩
  have hkn : k < n := by omega
  have hk1 : 1 ≤ k := by omega
  have hki : (k : Int) < (n : Int) := by omega
  have hk0' : (0 : Int) ≤ (k : Int) := by omega
  clear b1 bpX
  have NW := Lib.hid (fun w' : World => hd_zero n (by omega) w')
  have hmk := Ne.make_l n (by omega)
  have hmk2 := Ne.make_i n (by omega)
  have hmk3 := make_b n (by omega)
  obtain ⟨u, hu⟩ : ∃ u, u = upN vs := ⟨_, rfl⟩
  have HU := Lib.hid (show ∀ x, 1 ≤ x → u x < x by rw [hu]; exact upN_lt vs)
  have HPU := Lib.hid (show ∀ i0, i0 < n0 → ∀ w' : World, Calls Try.prog 13 #[.int .i64 (Ne.amt vs i0), .int .i64 ((i0 + 1 : Nat) : Int)] w' fun e w'' => e = .returned (.int .i64 (u (i0 + 1) : Int)) ∧ w' = w'' from fun i0 hi w' => by
    have hb := BQ.out (Ne.amt vs i0) (List.mem_of_getElem? (Ne.at_amt (by rw [← HNV.out]; exact hi)))
    have := Ne.pick_any (Ne.amt vs i0) ((i0 + 1 : Nat) : Int) w' hb.1 hb.2 (by omega) (by omega)
    have e := upN_eq vs (i0 + 1) (by omega)
    rw [show i0 + 1 - 1 = i0 by omega] at e
    rw [e, ← hu] at this
    exact this)
  clear hu BQ
  go_enter Try.func9, Try.ntmps9
  go_wp2_with fail
  refine HSH.out.mono ?_
  rintro e w1 ⟨rfl, hb⟩
  have HB1 := Lib.hid hb
  clear hb HSH
  go_wp2_with fail
  refine (NW.out w1).mono ?_
  rintro e w2 ⟨p, rfl, h2, hb⟩
  have HB2 := Lib.hid (HB1.out.trans (hb.mono HB1.out.size))
  have H2 := Lib.hid h2
  have hbs : w.heap.size ≤ w1.heap.size + 1 := by have := HB1.out.size; omega
  clear hb h2 NW hmk HB1
  generalize w1.heap.size + 1 = b at *
  have hbw := H2.out.size
  have HW0 := Lib.hid (show Hd (w2.alloc (.cells (madeCells #[.int .i64 0] n) 3)) b p (ctF n u 1) [w2.heap.size] by rw [← ctF_1]; exact H2.out.alloc _)
  have HX0 := Lib.hid (show Ne.IBox (w2.alloc (.cells (madeCells #[.int .i64 0] n) 3)) w2.heap.size (preC u n 1) by rw [preC_1]; exact Ne.ibox_made w2 n rfl)
  have HB0 := Lib.hid (HB2.out.alloc HB2.out.size (.cells (madeCells #[.int .i64 0] n) 3))
  clear H2 HB2
  generalize hgu : w2.heap.size = gu at *
  have HGU := Lib.hid hgu
  go_wp2
  clear hmk2 hgu
  go_loopg [10] n0 (fun gg si wz => ∃ i0 : Nat, si = .int .i64 ((i0 + 1 : Nat) : Int) ∧ i0 + gg = n0 ∧ Hid (Hd wz b p (ctF n u (i0 + 1)) [gu]) ∧ Hid (Ne.IBox wz gu (preC u n (i0 + 1))) ∧ Hid (Below w.heap.size w wz))
  case atStart => exact ⟨0, rfl, by omega, HW0, HX0, HB0⟩
  case round =>
    obtain ⟨i0, rfl, hig, HW, HX, HBX⟩ := hrel
    by_cases hi : i0 < n0
    · have hii : ((i0 + 1 : Nat) : Int) < (n : Int) := by omega
      have hii0 : (i0 : Int) < (n0 : Int) := by omega
      have hi0 : (0 : Int) ≤ (i0 : Int) := by omega
      have hi00 : (0 : Int) ≤ ((i0 + 1 : Nat) : Int) := by omega
      have hin1 : i0 + 1 < n := by omega
      have hw1 : IntKind.i64.wrap (((i0 + 1 : Nat) : Int) - 1) = (i0 : Int) := by rw [IntKind.wrap_i64]; omega
      have hw2 : IntKind.i64.wrap (((i0 + 1 : Nat) : Int) + 1) = ((i0 + 1 + 1 : Nat) : Int) := by rw [IntKind.wrap_i64]; omega
      obtain ⟨bv, ov, rfl, hbv, dv⟩ := Ne.irow_cell (KR0.out.kept HBX.out) (i := i0) (by rw [← HNV.out]; exact hi)
      have PU := Lib.hid (HPU.out i0 hi)
      have c0 := HX.out.cell (i := i0 + 1) (by rw [preC_len]; exact hin1)
      have f0 := HX.out.frozen (i0 + 1)
      obtain ⟨l1, l2⟩ := ct_link HU.out HW.out.good (by omega) hin1
      obtain ⟨WS, hWS⟩ : ∃ WS, WS = wr.setCell ⟨gu, i0 + 1, none⟩ (.int .i64 (u (i0 + 1) : Int)) := ⟨_, rfl⟩
      have HS6 := Lib.hid (show Hd WS b p (ctF n u (i0 + 1)) [gu] by rw [hWS]; exact HW.out.set List.mem_cons_self _)
      have HU6 := Lib.hid (show Ne.IBox WS gu (preC u n (i0 + 1 + 1)) by
        rw [hWS]
        have := HX.out.set (i := i0 + 1) (by rw [preC_len]; exact hin1) (u (i0 + 1) : Int)
        rw [preC_set (by omega)] at this
        exact this)
      have HB6 := Lib.hid (show Below w.heap.size w WS by rw [hWS]; exact HBX.out.setCell (p := ⟨gu, i0 + 1, none⟩) (Nat.le_trans hbs hbw) _)
      have c6 := HU6.out.cell (i := i0 + 1) (by rw [preC_len]; exact hin1)
      rw [preC_at hin1 (by omega) (by omega)] at c6
      obtain ⟨uu, huu⟩ : ∃ uu, uu = u (i0 + 1) := ⟨_, rfl⟩
      rw [← huu] at c6 l1 l2 PU hWS
      generalize Ne.amt vs i0 = av at *
      generalize Ne.amt (preC u n (i0 + 1)) (i0 + 1) = ov0 at *
      clear huu
      go_wp2_with fail
      refine (PU.out _).mono ?_
      rintro e w' ⟨rfl, rfl⟩
      go_upto_region 13 with fail
      rw [← hWS]
      clear hWS c0 f0 dv
      go_wp2_with fail
      refine (hd_link HS6.out ((i0 + 1 : Nat) : Int) (uu : Int)).mono ?_
      rintro e w21 ⟨he, h21, k21⟩
      rw [l1] at he
      rw [l2] at h21
      subst he
      have H21 := Lib.hid h21
      have HB21 := Lib.hid (HB6.out.trans ((k21.below HS6.out.size).mono hbs))
      have HU6_21 := Lib.hid (k21.ibox HU6.out List.mem_cons_self)
      clear h21 k21
      go_wp2
      go_roundg (n0 - (i0 + 1))
      case measure => omega
      case rel => exact ⟨i0 + 1, by rfl, by omega, H21, HU6_21, HB21⟩
    · have hii : ¬ ((i0 + 1 : Nat) : Int) < (n : Int) := by omega
      have hei : i0 + 1 = n := by omega
      have HWN := Lib.hid (show Hd wr b p (ctF n u n) [gu] from by have h := HW.out; rw [hei] at h; exact h)
      have HXN := Lib.hid (show Ne.IBox wr gu (preC u n n) from by have h := HX.out; rw [hei] at h; exact h)
      obtain ⟨v1, v2⟩ := ct_cut (n := n) HU.out hk1 hkn
      have hgc : Fo.Good (ctC n u k) := by rw [← v2]; exact good_cutS HWN.out.good _
      obtain ⟨s1, s2, s3, s4, s5, s6⟩ := ct_says HU.out hgc hk1 hkn
      have HS := Lib.hid (And.intro s3 s4)
      have hr0 : rootZ (ctC n u k) 0 = if belB n u k 0 = true then (k : Int) else 0 := s4 0 (by omega)
      rw [s2, if_neg (by simp)] at hr0
      have hc2 : cutS (ctC n u k) (k : Int) = ctC n u k := by unfold cutS; rw [s5]; rfl
      have HQ := Lib.hid (And.intro s1 (And.intro hr0 (And.intro s5 (And.intro s6 hc2))))
      clear hig hei HW HX HW0 HX0 HB0 hgc s1 s2 s3 s4 s5 s6 hr0 hc2
      go_wp2_with fail
      refine (PK.out _).mono ?_
      rintro e w' ⟨rfl, rfl⟩
      go_wp2_with fail
      refine (hd_cut HWN.out (k : Int)).mono ?_
      rintro e w22 ⟨he, h22, k22⟩
      rw [v1] at he
      rw [v2] at h22
      subst he
      have H22 := Lib.hid h22
      have HB22 := Lib.hid (HBX.out.trans ((k22.below HWN.out.size).mono hbs))
      have HXN_22 := Lib.hid (k22.ibox HXN.out List.mem_cons_self)
      clear h22 k22
      clear v1 v2 HWN HXN HBX
      have HWB := Lib.hid (H22.out.alloc (.cells (madeCells #[.bool false] n) 4))
      have HXB := Lib.hid (HXN_22.out.alloc (.cells (madeCells #[.bool false] n) 4))
      have HBB0 := Lib.hid (show BB (w22.alloc (.cells (madeCells #[.bool false] n) 4)) w22.heap.size n (fun _ => false) from (World.rowIs_made w22 (.bool false) n 4).congr fun i hi => by simp)
      have HBC := Lib.hid (HB22.out.alloc HB22.out.size (.cells (madeCells #[.bool false] n) 4))
      have hbw2 := H22.out.size
      have hgg : gu ≠ w22.heap.size := by have := HXN_22.out.lt; omega
      generalize hgb : w22.heap.size = gb at *
      generalize hWA : w22.alloc (.cells (madeCells #[.bool false] n) 4) = WA at *
      obtain ⟨WS, hWS⟩ : ∃ WS, WS = WA.setCell ⟨gb, k, none⟩ (.bool true) := ⟨_, rfl⟩
      have HS6 := Lib.hid (show Hd WS b p (ctC n u k) [gb, gu] by rw [hWS]; exact HWB.out.set List.mem_cons_self _)
      have HX6 := Lib.hid (show Ne.IBox WS gu (preC u n n) by rw [hWS]; exact HXB.out.far (p := ⟨gb, k, none⟩) hgg _)
      have HP6 := Lib.hid (show BB WS gb n (phi n u k 1) by
        rw [hWS]
        refine World.rowIs.congr (HBB0.out.set k true) fun j hj => ?_
        congr 1
        show (if j = k then true else false) = phi n u k 1 j
        unfold phi
        by_cases c : j = k
        · simp [c]
        · rw [if_neg c]
          have h9 : belB n u k 0 = false := by
            have := HQ.out.2.1
            cases e : belB n u k 0 with
            | false => rfl
            | true => have h8 := HS.out.2 0 (by omega); rw [e, if_pos rfl] at h8; have h7 : rootZ (ctC n u k) ((0 : Nat) : Int) = 0 := this; rw [h7] at h8; omega
          by_cases c2 : j < 1
          · have : j = 0 := by omega
            subst this
            simp [c, h9]
          · simp [c, c2])
      have HB6 := Lib.hid (show Below w.heap.size w WS by rw [hWS]; exact HBC.out.setCell (p := ⟨gb, k, none⟩) (Nat.le_trans hbs hbw2) _)
      have cb := World.rowIs.cell HBB0.out hkn
      have fb := World.rowIs.frozen HBB0.out k
      clear HWB HXB HBC
      go_upto_region 20 with fail
      rw [← hWS]
      clear hWS hWA cb fb HBB0 hmk3
      go_wp2
      go_loopg [13] n0 (fun gg si wz => ∃ i0 : Nat, si = .int .i64 ((i0 + 1 : Nat) : Int) ∧ i0 + gg = n0 ∧ Hid (Hd wz b p (ctC n u k) [gb, gu]) ∧ Hid (Ne.IBox wz gu (preC u n n)) ∧ Hid (BB wz gb n (phi n u k (i0 + 1))) ∧ Hid (Below w.heap.size w wz))
      case atStart => exact ⟨0, rfl, by omega, HS6, HX6, HP6, HB6⟩
      case round =>
        obtain ⟨i0, rfl, hig, HW, HX, HP, HBX⟩ := hrel
        generalize hgi : i0 + 1 = J at *
        have HGI := Lib.hid hgi
        have hJ1 : J ≤ i0 + 1 := by omega
        have hJ2 : i0 + 1 ≤ J := by omega
        clear hgi
        have hw2 : IntKind.i64.wrap (((J : Nat) : Int) + 1) = ((J + 1 : Nat) : Int) := by rw [IntKind.wrap_i64]; omega
        by_cases hi : i0 < n0
        · have hii : ((J : Nat) : Int) < (n : Int) := by omega
          have hi00 : (0 : Int) ≤ ((J : Nat) : Int) := by omega
          have hin1 : J < n := by omega
          have hrt := HS.out.2 (J) hin1
          have cu := HX.out.cell (i := J) (by rw [preC_len]; exact hin1)
          rw [preC_at hin1 (by omega) hin1] at cu
          have cb := World.rowIs.cell HP.out hin1
          have fb := World.rowIs.frozen HP.out (J)
          by_cases hik : J = k
          · have hph : phi n u k (J) (J) = true := by simp [phi, hik]
            have HP2 := Lib.hid (show BB wr gb n (phi n u k (J + 1)) from World.rowIs.congr HP.out fun j hj => by
              congr 1
              unfold phi
              by_cases c : j = J
              · simp [c, hik]
              · have : decide (j < J) = decide (j < J + 1) := by simp only [decide_eq_decide]; omega
                rw [this])
            rw [hph] at cb
            rw [hik, HQ.out.1, if_pos rfl] at hrt
            obtain ⟨ui, hui⟩ : ∃ ui, ui = u (J) := ⟨_, rfl⟩
            rw [← hui] at cu
            have hrt' := hrt
            clear hph hrt hui HP
            subst hik
            have tkk : ((J : Int) != (J : Int)) = false := by simp
            go_upto_region 28 with fail
            have hS0 := (show (fun w' : World => w'.cell? ⟨gu, J, none⟩ = some (.int .i64 (ui : Int))) wr.drew from cu)
            clear cu cb
            refine Rh.start (S := (fun w' : World => w'.cell? ⟨gu, J, none⟩ = some (.int .i64 (ui : Int)))) (by kernel_rfl) ?_
            refine Rh.take (some 108) (i := 0) (v := ?_) rfl (by kernel_rfl) (by kernel_rfl) (by kernel_rfl) (by kernel_rfl) (fun _ _ _ h => h) (Or.inl ⟨by rfl, ?_⟩) hS0 ?_
            rotate_left
            · intro w hSw
              go_simp
              try with_reducible rfl
            try simp only [Act.put, List.setIfInBounds_toArray, List.set_cons_zero, List.set_cons_succ]
            refine Rh.take (some 109) (i := 1) (v := ?_) rfl (by kernel_rfl) (by kernel_rfl) (by kernel_rfl) (by kernel_rfl) (fun _ _ _ h => h) (Or.inl ⟨by rfl, ?_⟩) hS0 ?_
            rotate_left
            · intro w hSw
              go_simp
              try with_reducible rfl
            try simp only [Act.put, List.setIfInBounds_toArray, List.set_cons_zero, List.set_cons_succ]
            refine Rh.take (some 111) (i := 3) (v := ?_) rfl (by kernel_rfl) (by kernel_rfl) (by kernel_rfl) (by kernel_rfl) (fun _ _ _ h => h) (Or.inl ⟨by rfl, ?_⟩) hS0 ?_
            rotate_left
            · intro w hSw
              go_simp
              try with_reducible rfl
            try simp only [Act.put, List.setIfInBounds_toArray, List.set_cons_zero, List.set_cons_succ]
            refine Rh.step (i := 2) (by kernel_rfl) rfl fun K' hK' => ?_
            have HK := Lib.hid hK'
            clear hK'
            go_simp
            refine (hd_root (HW.out.kept (Ne.below_drew (Below.refl _ _))) (J : Int)).mono ?_
            rintro e w23 ⟨he, h23, k23⟩
            rw [hrt'] at he
            subst he
            have H23 := Lib.hid h23
            have HB23 := Lib.hid ((Ne.below_drew HBX.out).trans ((k23.below (HW.out.kept (Ne.below_drew (Below.refl _ _))).size).mono hbs))
            have HX_23 := Lib.hid (k23.ibox (Ne.IBox.drewN HX.out _) (List.mem_cons_of_mem _ List.mem_cons_self))
            have HP_23 := Lib.hid (kp_bb k23 (show BB _ gb n _ from World.rowIs.of_block HP2.out rfl) List.mem_cons_self)
            have hS23 := (show (fun w' : World => w'.cell? ⟨gu, J, none⟩ = some (.int .i64 (ui : Int))) w23 from k23.cell (List.mem_cons_of_mem _ List.mem_cons_self) hS0)
            clear h23 k23
            refine HK.out _ _ ⟨hS23, ?_⟩
            clear HK K'
            try simp only [Act.put, List.setIfInBounds_toArray, List.set_cons_zero, List.set_cons_succ]
            refine Rh.take (some 112) (i := 4) (v := ?_) rfl (by kernel_rfl) (by kernel_rfl) (by kernel_rfl) (by kernel_rfl) (fun _ _ _ h => h) (Or.inl ⟨by rfl, ?_⟩) hS23 ?_
            rotate_left
            · intro w hSw
              go_simp
              try with_reducible rfl
            try simp only [Act.put, List.setIfInBounds_toArray, List.set_cons_zero, List.set_cons_succ]
            refine Rh.take (some 113) (i := 5) (v := ?_) rfl (by kernel_rfl) (by kernel_rfl) (by kernel_rfl) (by kernel_rfl) (fun _ _ _ h => h) (Or.inl ⟨by rfl, ?_⟩) hS23 ?_
            rotate_left
            · intro w hSw
              go_simp
              try with_reducible rfl
            try simp only [Act.put, List.setIfInBounds_toArray, List.set_cons_zero, List.set_cons_succ]
            refine Rh.take (some 114) (i := 6) (v := ?_) rfl (by kernel_rfl) (by kernel_rfl) (by kernel_rfl) (by kernel_rfl) (fun _ _ _ h => h) (Or.inl ⟨by rfl, ?_⟩) hS23 ?_
            rotate_left
            · intro w hSw
              go_simp
              try with_reducible rfl
            try simp only [Act.put, List.setIfInBounds_toArray, List.set_cons_zero, List.set_cons_succ]
            refine Rh.take (some 115) (i := 7) (v := ?_) rfl (by kernel_rfl) (by kernel_rfl) (by kernel_rfl) (by kernel_rfl) (fun _ _ _ h => h) (Or.inl ⟨by rfl, ?_⟩) hS23 ?_
            rotate_left
            · intro w hSw
              go_simp
              try with_reducible rfl
            try simp only [Act.put, List.setIfInBounds_toArray, List.set_cons_zero, List.set_cons_succ]
            refine Rh.take (some 116) (i := 8) (v := ?_) rfl (by kernel_rfl) (by kernel_rfl) (by kernel_rfl) (by kernel_rfl) (fun _ _ _ h => h) (Or.inl ⟨by rfl, ?_⟩) hS23 ?_
            rotate_left
            · intro w hSw
              go_simp
              try with_reducible rfl
            try simp only [Act.put, List.setIfInBounds_toArray, List.set_cons_zero, List.set_cons_succ]
            refine Rh.take (some 117) (i := 9) (v := ?_) rfl (by kernel_rfl) (by kernel_rfl) (by kernel_rfl) (by kernel_rfl) (fun _ _ _ h => h) (Or.inl ⟨by rfl, ?_⟩) hS23 ?_
            rotate_left
            · intro w hSw
              go_simp
              try with_reducible rfl
            try simp only [Act.put, List.setIfInBounds_toArray, List.set_cons_zero, List.set_cons_succ]
            refine Rh.take (some 118) (i := 10) (v := undef) rfl (by kernel_rfl) (by kernel_rfl) (by kernel_rfl) (by kernel_rfl) (fun _ _ _ h => h) (Or.inr ⟨by rfl, rfl⟩) hS23 ?_
            try simp only [Act.put, List.setIfInBounds_toArray, List.set_cons_zero, List.set_cons_succ]
            refine Rh.take (some 119) (i := 11) (v := undef) rfl (by kernel_rfl) (by kernel_rfl) (by kernel_rfl) (by kernel_rfl) (fun _ _ _ h => h) (Or.inr ⟨by rfl, rfl⟩) hS23 ?_
            try simp only [Act.put, List.setIfInBounds_toArray, List.set_cons_zero, List.set_cons_succ]
            refine Rh.take (some 120) (i := 12) (v := undef) rfl (by kernel_rfl) (by kernel_rfl) (by kernel_rfl) (by kernel_rfl) (fun _ _ _ h => h) (Or.inr ⟨by rfl, rfl⟩) hS23 ?_
            try simp only [Act.put, List.setIfInBounds_toArray, List.set_cons_zero, List.set_cons_succ]
            refine Rh.take (some 121) (i := 13) (v := undef) rfl (by kernel_rfl) (by kernel_rfl) (by kernel_rfl) (by kernel_rfl) (fun _ _ _ h => h) (Or.inr ⟨by rfl, rfl⟩) hS23 ?_
            try simp only [Act.put, List.setIfInBounds_toArray, List.set_cons_zero, List.set_cons_succ]
            refine Rh.take (some 122) (i := 14) (v := undef) rfl (by kernel_rfl) (by kernel_rfl) (by kernel_rfl) (by kernel_rfl) (fun _ _ _ h => h) (Or.inr ⟨by rfl, rfl⟩) hS23 ?_
            try simp only [Act.put, List.setIfInBounds_toArray, List.set_cons_zero, List.set_cons_succ]
            refine Rh.take (some 123) (i := 15) (v := undef) rfl (by kernel_rfl) (by kernel_rfl) (by kernel_rfl) (by kernel_rfl) (fun _ _ _ h => h) (Or.inr ⟨by rfl, rfl⟩) hS23 ?_
            try simp only [Act.put, List.setIfInBounds_toArray, List.set_cons_zero, List.set_cons_succ]
            refine Rh.take (some 124) (i := 16) (v := undef) rfl (by kernel_rfl) (by kernel_rfl) (by kernel_rfl) (by kernel_rfl) (fun _ _ _ h => h) (Or.inr ⟨by rfl, rfl⟩) hS23 ?_
            try simp only [Act.put, List.setIfInBounds_toArray, List.set_cons_zero, List.set_cons_succ]
            refine Rh.take (some 125) (i := 17) (v := undef) rfl (by kernel_rfl) (by kernel_rfl) (by kernel_rfl) (by kernel_rfl) (fun _ _ _ h => h) (Or.inr ⟨by rfl, rfl⟩) hS23 ?_
            try simp only [Act.put, List.setIfInBounds_toArray, List.set_cons_zero, List.set_cons_succ]
            refine Rh.take (some 126) (i := 18) (v := ?_) rfl (by kernel_rfl) (by kernel_rfl) (by kernel_rfl) (by kernel_rfl) (fun _ _ _ h => h) (Or.inl ⟨by rfl, ?_⟩) hS23 ?_
            rotate_left
            · intro w hSw
              go_simp
              try with_reducible rfl
            try simp only [Act.put, List.setIfInBounds_toArray, List.set_cons_zero, List.set_cons_succ]
            refine Rh.take (some 127) (i := 19) (v := ?_) rfl (by kernel_rfl) (by kernel_rfl) (by kernel_rfl) (by kernel_rfl) (fun _ _ _ h => h) (Or.inl ⟨by rfl, ?_⟩) hS23 ?_
            rotate_left
            · intro w hSw
              go_simp
              try with_reducible rfl
            try simp only [Act.put, List.setIfInBounds_toArray, List.set_cons_zero, List.set_cons_succ]
            refine Rh.done (by kernel_rfl) ?_ _
            go_wp2
            go_roundg (n0 - (i0 + 1))
            case measure => omega
            case rel => exact ⟨i0 + 1, by rw [HGI.out]; rfl, by omega, H23, HX_23, Lib.hid (by rw [HGI.out]; exact HP_23.out), HB23⟩
          · have tik : (((J : Nat) : Int) != (k : Int)) = true := by simp; omega
            obtain ⟨hbe, hab⟩ := HS.out.1 (J) (by omega) hin1 hik
            have hun := HU.out (J) (by omega)
            have cbu := World.rowIs.cell HP.out (show u (J) < n by omega)
            have hph : phi n u k (J) (J) = false := by simp [phi, hik]
            rw [hph] at cb
            have hpu : phi n u k (J) (u (J)) = belB n u k (J) := by
              unfold phi
              rw [hbe]
              by_cases c : u (J) = k
              · rw [c, HQ.out.1]; simp
              · simp [c, hun]
            rw [hpu] at cbu
            obtain ⟨ui, hui⟩ : ∃ ui, ui = u (J) := ⟨_, rfl⟩
            rw [← hui] at cu cbu hab
            have huii : (ui : Int) < (n : Int) := by omega
            have hui0 : (0 : Int) ≤ (ui : Int) := by omega
            have tuu : ((ui : Int) != (ui : Int)) = false := by simp
            cases hbl : belB n u k (J) with
            | true =>
              rw [hbl] at cbu hrt
              rw [if_pos rfl] at hrt
              have tkk : ((k : Int) != (k : Int)) = false := by simp
              obtain ⟨WS, hWS⟩ : ∃ WS, WS = wr.setCell ⟨gb, J, none⟩ (.bool true) := ⟨_, rfl⟩
              have HS7 := Lib.hid (show Hd WS b p (ctC n u k) [gb, gu] by rw [hWS]; exact HW.out.set List.mem_cons_self _)
              have HX7 := Lib.hid (show Ne.IBox WS gu (preC u n n) by rw [hWS]; exact HX.out.far (p := ⟨gb, J, none⟩) hgg _)
              have HP7 := Lib.hid (show BB WS gb n (phi n u k (J + 1)) by
                rw [hWS]
                refine World.rowIs.congr (HP.out.set (J) true) fun j hj => ?_
                congr 1
                show (if j = J then true else phi n u k (J) j) = phi n u k (J + 1) j
                by_cases c : j = J
                · rw [if_pos c, c]; simp [phi, hbl]
                · rw [if_neg c]
                  unfold phi
                  have : decide (j < J) = decide (j < J + 1) := by simp only [decide_eq_decide]; omega
                  rw [this])
              have HB7 := Lib.hid (show Below w.heap.size w WS by rw [hWS]; exact HBX.out.setCell (p := ⟨gb, J, none⟩) (Nat.le_trans hbs hbw2) _)
              have HBL := Lib.hid hbl
              have HUI := Lib.hid hui
              clear hph hpu hbe hbl hui
              go_upto_region 25 with fail
              rw [← hWS]
              clear hWS cb fb cu cbu
              have cu := HX7.out.cell (i := J) (by rw [preC_len]; exact hin1)
              rw [preC_at hin1 (by omega) hin1] at cu
              have cb := World.rowIs.cell HP7.out hin1
              rw [show phi n u k (J + 1) (J) = true by simp [phi]; right; exact HBL.out] at cb
              go_upto_region 28 with fail
              have hS0 := (show (fun w' : World => w'.cell? ⟨gu, J, none⟩ = some (.int .i64 (ui : Int))) WS.drew from (by rw [HUI.out]; exact cu))
              clear cu cb
              refine Rh.start (S := (fun w' : World => w'.cell? ⟨gu, J, none⟩ = some (.int .i64 (ui : Int)))) (by kernel_rfl) ?_
              refine Rh.take (some 108) (i := 0) (v := ?_) rfl (by kernel_rfl) (by kernel_rfl) (by kernel_rfl) (by kernel_rfl) (fun _ _ _ h => h) (Or.inl ⟨by rfl, ?_⟩) hS0 ?_
              rotate_left
              · intro w hSw
                go_simp
                try with_reducible rfl
              try simp only [Act.put, List.setIfInBounds_toArray, List.set_cons_zero, List.set_cons_succ]
              refine Rh.take (some 109) (i := 1) (v := ?_) rfl (by kernel_rfl) (by kernel_rfl) (by kernel_rfl) (by kernel_rfl) (fun _ _ _ h => h) (Or.inl ⟨by rfl, ?_⟩) hS0 ?_
              rotate_left
              · intro w hSw
                go_simp
                try with_reducible rfl
              try simp only [Act.put, List.setIfInBounds_toArray, List.set_cons_zero, List.set_cons_succ]
              refine Rh.take (some 111) (i := 3) (v := ?_) rfl (by kernel_rfl) (by kernel_rfl) (by kernel_rfl) (by kernel_rfl) (fun _ _ _ h => h) (Or.inl ⟨by rfl, ?_⟩) hS0 ?_
              rotate_left
              · intro w hSw
                go_simp
                try with_reducible rfl
              try simp only [Act.put, List.setIfInBounds_toArray, List.set_cons_zero, List.set_cons_succ]
              refine Rh.step (i := 2) (by kernel_rfl) rfl fun K' hK' => ?_
              have HK := Lib.hid hK'
              clear hK'
              go_simp
              refine (hd_root (HS7.out.kept (Ne.below_drew (Below.refl _ _))) (J : Int)).mono ?_
              rintro e w24 ⟨he, h24, k24⟩
              rw [hrt] at he
              subst he
              have H24 := Lib.hid h24
              have HB24 := Lib.hid ((Ne.below_drew HB7.out).trans ((k24.below (HS7.out.kept (Ne.below_drew (Below.refl _ _))).size).mono hbs))
              have HX_24 := Lib.hid (k24.ibox (Ne.IBox.drewN HX7.out _) (List.mem_cons_of_mem _ List.mem_cons_self))
              have HP_24 := Lib.hid (kp_bb k24 (show BB _ gb n _ from World.rowIs.of_block HP7.out rfl) List.mem_cons_self)
              have hS24 := (show (fun w' : World => w'.cell? ⟨gu, J, none⟩ = some (.int .i64 (ui : Int))) w24 from k24.cell (List.mem_cons_of_mem _ List.mem_cons_self) hS0)
              clear h24 k24
              refine HK.out _ _ ⟨hS24, ?_⟩
              clear HK K'
              try simp only [Act.put, List.setIfInBounds_toArray, List.set_cons_zero, List.set_cons_succ]
              refine Rh.take (some 112) (i := 4) (v := ?_) rfl (by kernel_rfl) (by kernel_rfl) (by kernel_rfl) (by kernel_rfl) (fun _ _ _ h => h) (Or.inl ⟨by rfl, ?_⟩) hS24 ?_
              rotate_left
              · intro w hSw
                go_simp
                try with_reducible rfl
              try simp only [Act.put, List.setIfInBounds_toArray, List.set_cons_zero, List.set_cons_succ]
              refine Rh.take (some 113) (i := 5) (v := ?_) rfl (by kernel_rfl) (by kernel_rfl) (by kernel_rfl) (by kernel_rfl) (fun _ _ _ h => h) (Or.inl ⟨by rfl, ?_⟩) hS24 ?_
              rotate_left
              · intro w hSw
                go_simp
                try with_reducible rfl
              try simp only [Act.put, List.setIfInBounds_toArray, List.set_cons_zero, List.set_cons_succ]
              refine Rh.take (some 114) (i := 6) (v := ?_) rfl (by kernel_rfl) (by kernel_rfl) (by kernel_rfl) (by kernel_rfl) (fun _ _ _ h => h) (Or.inl ⟨by rfl, ?_⟩) hS24 ?_
              rotate_left
              · intro w hSw
                go_simp
                try with_reducible rfl
              try simp only [Act.put, List.setIfInBounds_toArray, List.set_cons_zero, List.set_cons_succ]
              refine Rh.take (some 115) (i := 7) (v := ?_) rfl (by kernel_rfl) (by kernel_rfl) (by kernel_rfl) (by kernel_rfl) (fun _ _ _ h => h) (Or.inl ⟨by rfl, ?_⟩) hS24 ?_
              rotate_left
              · intro w hSw
                go_simp
                try with_reducible rfl
              try simp only [Act.put, List.setIfInBounds_toArray, List.set_cons_zero, List.set_cons_succ]
              refine Rh.take (some 116) (i := 8) (v := ?_) rfl (by kernel_rfl) (by kernel_rfl) (by kernel_rfl) (by kernel_rfl) (fun _ _ _ h => h) (Or.inl ⟨by rfl, ?_⟩) hS24 ?_
              rotate_left
              · intro w hSw
                go_simp
                try with_reducible rfl
              try simp only [Act.put, List.setIfInBounds_toArray, List.set_cons_zero, List.set_cons_succ]
              refine Rh.take (some 117) (i := 9) (v := ?_) rfl (by kernel_rfl) (by kernel_rfl) (by kernel_rfl) (by kernel_rfl) (fun _ _ _ h => h) (Or.inl ⟨by rfl, ?_⟩) hS24 ?_
              rotate_left
              · intro w hSw
                go_simp
                try with_reducible rfl
              try simp only [Act.put, List.setIfInBounds_toArray, List.set_cons_zero, List.set_cons_succ]
              refine Rh.take (some 118) (i := 10) (v := ?_) rfl (by kernel_rfl) (by kernel_rfl) (by kernel_rfl) (by kernel_rfl) (fun _ _ _ h => h) (Or.inl ⟨by rfl, ?_⟩) hS24 ?_
              rotate_left
              · intro w hSw
                go_simp
                try with_reducible rfl
              try simp only [Act.put, List.setIfInBounds_toArray, List.set_cons_zero, List.set_cons_succ]
              refine Rh.take (some 119) (i := 11) (v := ?_) rfl (by kernel_rfl) (by kernel_rfl) (by kernel_rfl) (by kernel_rfl) (fun _ _ _ h => h) (Or.inl ⟨by rfl, ?_⟩) hS24 ?_
              rotate_left
              · intro w hSw
                go_simp
                try with_reducible rfl
              try simp only [Act.put, List.setIfInBounds_toArray, List.set_cons_zero, List.set_cons_succ]
              refine Rh.take (some 121) (i := 13) (v := ?_) rfl (by kernel_rfl) (by kernel_rfl) (by kernel_rfl) (by kernel_rfl) (fun _ _ _ h => h) (Or.inl ⟨by rfl, ?_⟩) hS24 ?_
              rotate_left
              · intro w hSw
                go_simp
                try with_reducible rfl
              try simp only [Act.put, List.setIfInBounds_toArray, List.set_cons_zero, List.set_cons_succ]
              refine Rh.take (some 122) (i := 14) (v := ?_) rfl (by kernel_rfl) (by kernel_rfl) (by kernel_rfl) (by kernel_rfl) (fun _ _ _ h => h) (Or.inl ⟨by rfl, ?_⟩) hS24 ?_
              rotate_left
              · intro w hSw
                go_simp
                try with_reducible rfl
              try simp only [Act.put, List.setIfInBounds_toArray, List.set_cons_zero, List.set_cons_succ]
              refine Rh.take (some 123) (i := 15) (v := ?_) rfl (by kernel_rfl) (by kernel_rfl) (by kernel_rfl) (by kernel_rfl) (fun _ _ _ h => h) (Or.inl ⟨by rfl, ?_⟩) hS24 ?_
              rotate_left
              · intro w hSw
                go_simp
                try with_reducible rfl
              try simp only [Act.put, List.setIfInBounds_toArray, List.set_cons_zero, List.set_cons_succ]
              refine Rh.take (some 124) (i := 16) (v := ?_) rfl (by kernel_rfl) (by kernel_rfl) (by kernel_rfl) (by kernel_rfl) (fun _ _ _ h => h) (Or.inl ⟨by rfl, ?_⟩) hS24 ?_
              rotate_left
              · intro w hSw
                go_simp
                try with_reducible rfl
              try simp only [Act.put, List.setIfInBounds_toArray, List.set_cons_zero, List.set_cons_succ]
              refine Rh.step (i := 12) (by kernel_rfl) rfl fun K' hK' => ?_
              have HK := Lib.hid hK'
              clear hK'
              go_simp
              refine (hd_above H24.out (J : Int)).mono ?_
              rintro e w25 ⟨he, h25, k25⟩
              rw [hab] at he
              subst he
              have H25 := Lib.hid h25
              have HB25 := Lib.hid (HB24.out.trans ((k25.below H24.out.size).mono hbs))
              have HX_25 := Lib.hid (k25.ibox HX_24.out (List.mem_cons_of_mem _ List.mem_cons_self))
              have HP_25 := Lib.hid (kp_bb k25 HP_24.out List.mem_cons_self)
              have hS25 := (show (fun w' : World => w'.cell? ⟨gu, J, none⟩ = some (.int .i64 (ui : Int))) w25 from k25.cell (List.mem_cons_of_mem _ List.mem_cons_self) hS24)
              clear h25 k25
              refine HK.out _ _ ⟨hS25, ?_⟩
              clear HK K'
              try simp only [Act.put, List.setIfInBounds_toArray, List.set_cons_zero, List.set_cons_succ]
              refine Rh.take (some 125) (i := 17) (v := ?_) rfl (by kernel_rfl) (by kernel_rfl) (by kernel_rfl) (by kernel_rfl) (fun _ _ _ h => h) (Or.inl ⟨by rfl, ?_⟩) hS25 ?_
              rotate_left
              · intro w hSw
                go_simp
                try with_reducible rfl
              try simp only [Act.put, List.setIfInBounds_toArray, List.set_cons_zero, List.set_cons_succ]
              refine Rh.take (some 126) (i := 18) (v := ?_) rfl (by kernel_rfl) (by kernel_rfl) (by kernel_rfl) (by kernel_rfl) (fun _ _ _ h => h) (Or.inl ⟨by rfl, ?_⟩) hS25 ?_
              rotate_left
              · intro w hSw
                go_simp
                try with_reducible rfl
              try simp only [Act.put, List.setIfInBounds_toArray, List.set_cons_zero, List.set_cons_succ]
              refine Rh.take (some 127) (i := 19) (v := ?_) rfl (by kernel_rfl) (by kernel_rfl) (by kernel_rfl) (by kernel_rfl) (fun _ _ _ h => h) (Or.inl ⟨by rfl, ?_⟩) hS25 ?_
              rotate_left
              · intro w hSw
                go_simp
                try with_reducible rfl
              try simp only [Act.put, List.setIfInBounds_toArray, List.set_cons_zero, List.set_cons_succ]
              refine Rh.done (by kernel_rfl) ?_ _
              go_wp2
              go_roundg (n0 - (i0 + 1))
              case measure => omega
              case rel => exact ⟨i0 + 1, by rw [HGI.out]; rfl, by omega, H25, HX_25, Lib.hid (by rw [HGI.out]; exact HP_25.out), HB25⟩
            | false =>
              rw [hbl] at cbu hrt
              rw [if_neg (by simp)] at hrt
              have HP2 := Lib.hid (show BB wr gb n (phi n u k (J + 1)) from World.rowIs.congr HP.out fun j hj => by
                congr 1
                unfold phi
                by_cases c : j = J
                · simp [c, hik, hbl]
                · have : decide (j < J) = decide (j < J + 1) := by simp only [decide_eq_decide]; omega
                  rw [this])
              clear hph hpu hbe hbl hui
              go_upto_region 28 with fail
              have hS0 := (show (fun w' : World => w'.cell? ⟨gu, J, none⟩ = some (.int .i64 (ui : Int))) wr.drew from cu)
              clear cu cb cbu
              refine Rh.start (S := (fun w' : World => w'.cell? ⟨gu, J, none⟩ = some (.int .i64 (ui : Int)))) (by kernel_rfl) ?_
              refine Rh.take (some 108) (i := 0) (v := ?_) rfl (by kernel_rfl) (by kernel_rfl) (by kernel_rfl) (by kernel_rfl) (fun _ _ _ h => h) (Or.inl ⟨by rfl, ?_⟩) hS0 ?_
              rotate_left
              · intro w hSw
                go_simp
                try with_reducible rfl
              try simp only [Act.put, List.setIfInBounds_toArray, List.set_cons_zero, List.set_cons_succ]
              refine Rh.take (some 109) (i := 1) (v := ?_) rfl (by kernel_rfl) (by kernel_rfl) (by kernel_rfl) (by kernel_rfl) (fun _ _ _ h => h) (Or.inl ⟨by rfl, ?_⟩) hS0 ?_
              rotate_left
              · intro w hSw
                go_simp
                try with_reducible rfl
              try simp only [Act.put, List.setIfInBounds_toArray, List.set_cons_zero, List.set_cons_succ]
              refine Rh.take (some 111) (i := 3) (v := ?_) rfl (by kernel_rfl) (by kernel_rfl) (by kernel_rfl) (by kernel_rfl) (fun _ _ _ h => h) (Or.inl ⟨by rfl, ?_⟩) hS0 ?_
              rotate_left
              · intro w hSw
                go_simp
                try with_reducible rfl
              try simp only [Act.put, List.setIfInBounds_toArray, List.set_cons_zero, List.set_cons_succ]
              refine Rh.step (i := 2) (by kernel_rfl) rfl fun K' hK' => ?_
              have HK := Lib.hid hK'
              clear hK'
              go_simp
              refine (hd_root (HW.out.kept (Ne.below_drew (Below.refl _ _))) (J : Int)).mono ?_
              rintro e w26 ⟨he, h26, k26⟩
              rw [hrt] at he
              subst he
              have H26 := Lib.hid h26
              have HB26 := Lib.hid ((Ne.below_drew HBX.out).trans ((k26.below (HW.out.kept (Ne.below_drew (Below.refl _ _))).size).mono hbs))
              have HX_26 := Lib.hid (k26.ibox (Ne.IBox.drewN HX.out _) (List.mem_cons_of_mem _ List.mem_cons_self))
              have HP_26 := Lib.hid (kp_bb k26 (show BB _ gb n _ from World.rowIs.of_block HP2.out rfl) List.mem_cons_self)
              have hS26 := (show (fun w' : World => w'.cell? ⟨gu, J, none⟩ = some (.int .i64 (ui : Int))) w26 from k26.cell (List.mem_cons_of_mem _ List.mem_cons_self) hS0)
              clear h26 k26
              refine HK.out _ _ ⟨hS26, ?_⟩
              clear HK K'
              try simp only [Act.put, List.setIfInBounds_toArray, List.set_cons_zero, List.set_cons_succ]
              refine Rh.take (some 112) (i := 4) (v := ?_) rfl (by kernel_rfl) (by kernel_rfl) (by kernel_rfl) (by kernel_rfl) (fun _ _ _ h => h) (Or.inl ⟨by rfl, ?_⟩) hS26 ?_
              rotate_left
              · intro w hSw
                go_simp
                try with_reducible rfl
              try simp only [Act.put, List.setIfInBounds_toArray, List.set_cons_zero, List.set_cons_succ]
              refine Rh.take (some 113) (i := 5) (v := ?_) rfl (by kernel_rfl) (by kernel_rfl) (by kernel_rfl) (by kernel_rfl) (fun _ _ _ h => h) (Or.inl ⟨by rfl, ?_⟩) hS26 ?_
              rotate_left
              · intro w hSw
                go_simp
                try with_reducible rfl
              try simp only [Act.put, List.setIfInBounds_toArray, List.set_cons_zero, List.set_cons_succ]
              refine Rh.take (some 114) (i := 6) (v := ?_) rfl (by kernel_rfl) (by kernel_rfl) (by kernel_rfl) (by kernel_rfl) (fun _ _ _ h => h) (Or.inl ⟨by rfl, ?_⟩) hS26 ?_
              rotate_left
              · intro w hSw
                go_simp
                try with_reducible rfl
              try simp only [Act.put, List.setIfInBounds_toArray, List.set_cons_zero, List.set_cons_succ]
              refine Rh.take (some 115) (i := 7) (v := ?_) rfl (by kernel_rfl) (by kernel_rfl) (by kernel_rfl) (by kernel_rfl) (fun _ _ _ h => h) (Or.inl ⟨by rfl, ?_⟩) hS26 ?_
              rotate_left
              · intro w hSw
                go_simp
                try with_reducible rfl
              try simp only [Act.put, List.setIfInBounds_toArray, List.set_cons_zero, List.set_cons_succ]
              refine Rh.take (some 116) (i := 8) (v := ?_) rfl (by kernel_rfl) (by kernel_rfl) (by kernel_rfl) (by kernel_rfl) (fun _ _ _ h => h) (Or.inl ⟨by rfl, ?_⟩) hS26 ?_
              rotate_left
              · intro w hSw
                go_simp
                try with_reducible rfl
              try simp only [Act.put, List.setIfInBounds_toArray, List.set_cons_zero, List.set_cons_succ]
              refine Rh.take (some 117) (i := 9) (v := ?_) rfl (by kernel_rfl) (by kernel_rfl) (by kernel_rfl) (by kernel_rfl) (fun _ _ _ h => h) (Or.inl ⟨by rfl, ?_⟩) hS26 ?_
              rotate_left
              · intro w hSw
                go_simp
                try with_reducible rfl
              try simp only [Act.put, List.setIfInBounds_toArray, List.set_cons_zero, List.set_cons_succ]
              refine Rh.take (some 118) (i := 10) (v := ?_) rfl (by kernel_rfl) (by kernel_rfl) (by kernel_rfl) (by kernel_rfl) (fun _ _ _ h => h) (Or.inl ⟨by rfl, ?_⟩) hS26 ?_
              rotate_left
              · intro w hSw
                go_simp
                try with_reducible rfl
              try simp only [Act.put, List.setIfInBounds_toArray, List.set_cons_zero, List.set_cons_succ]
              refine Rh.take (some 119) (i := 11) (v := ?_) rfl (by kernel_rfl) (by kernel_rfl) (by kernel_rfl) (by kernel_rfl) (fun _ _ _ h => h) (Or.inl ⟨by rfl, ?_⟩) hS26 ?_
              rotate_left
              · intro w hSw
                go_simp
                try with_reducible rfl
              try simp only [Act.put, List.setIfInBounds_toArray, List.set_cons_zero, List.set_cons_succ]
              refine Rh.take (some 121) (i := 13) (v := ?_) rfl (by kernel_rfl) (by kernel_rfl) (by kernel_rfl) (by kernel_rfl) (fun _ _ _ h => h) (Or.inl ⟨by rfl, ?_⟩) hS26 ?_
              rotate_left
              · intro w hSw
                go_simp
                try with_reducible rfl
              try simp only [Act.put, List.setIfInBounds_toArray, List.set_cons_zero, List.set_cons_succ]
              refine Rh.take (some 122) (i := 14) (v := ?_) rfl (by kernel_rfl) (by kernel_rfl) (by kernel_rfl) (by kernel_rfl) (fun _ _ _ h => h) (Or.inl ⟨by rfl, ?_⟩) hS26 ?_
              rotate_left
              · intro w hSw
                go_simp
                try with_reducible rfl
              try simp only [Act.put, List.setIfInBounds_toArray, List.set_cons_zero, List.set_cons_succ]
              refine Rh.take (some 123) (i := 15) (v := ?_) rfl (by kernel_rfl) (by kernel_rfl) (by kernel_rfl) (by kernel_rfl) (fun _ _ _ h => h) (Or.inl ⟨by rfl, ?_⟩) hS26 ?_
              rotate_left
              · intro w hSw
                go_simp
                try with_reducible rfl
              try simp only [Act.put, List.setIfInBounds_toArray, List.set_cons_zero, List.set_cons_succ]
              refine Rh.take (some 124) (i := 16) (v := ?_) rfl (by kernel_rfl) (by kernel_rfl) (by kernel_rfl) (by kernel_rfl) (fun _ _ _ h => h) (Or.inl ⟨by rfl, ?_⟩) hS26 ?_
              rotate_left
              · intro w hSw
                go_simp
                try with_reducible rfl
              try simp only [Act.put, List.setIfInBounds_toArray, List.set_cons_zero, List.set_cons_succ]
              refine Rh.step (i := 12) (by kernel_rfl) rfl fun K' hK' => ?_
              have HK := Lib.hid hK'
              clear hK'
              go_simp
              refine (hd_above H26.out (J : Int)).mono ?_
              rintro e w27 ⟨he, h27, k27⟩
              rw [hab] at he
              subst he
              have H27 := Lib.hid h27
              have HB27 := Lib.hid (HB26.out.trans ((k27.below H26.out.size).mono hbs))
              have HX_27 := Lib.hid (k27.ibox HX_26.out (List.mem_cons_of_mem _ List.mem_cons_self))
              have HP_27 := Lib.hid (kp_bb k27 HP_26.out List.mem_cons_self)
              have hS27 := (show (fun w' : World => w'.cell? ⟨gu, J, none⟩ = some (.int .i64 (ui : Int))) w27 from k27.cell (List.mem_cons_of_mem _ List.mem_cons_self) hS26)
              clear h27 k27
              refine HK.out _ _ ⟨hS27, ?_⟩
              clear HK K'
              try simp only [Act.put, List.setIfInBounds_toArray, List.set_cons_zero, List.set_cons_succ]
              refine Rh.take (some 125) (i := 17) (v := ?_) rfl (by kernel_rfl) (by kernel_rfl) (by kernel_rfl) (by kernel_rfl) (fun _ _ _ h => h) (Or.inl ⟨by rfl, ?_⟩) hS27 ?_
              rotate_left
              · intro w hSw
                go_simp
                try with_reducible rfl
              try simp only [Act.put, List.setIfInBounds_toArray, List.set_cons_zero, List.set_cons_succ]
              refine Rh.take (some 126) (i := 18) (v := ?_) rfl (by kernel_rfl) (by kernel_rfl) (by kernel_rfl) (by kernel_rfl) (fun _ _ _ h => h) (Or.inl ⟨by rfl, ?_⟩) hS27 ?_
              rotate_left
              · intro w hSw
                go_simp
                try with_reducible rfl
              try simp only [Act.put, List.setIfInBounds_toArray, List.set_cons_zero, List.set_cons_succ]
              refine Rh.take (some 127) (i := 19) (v := ?_) rfl (by kernel_rfl) (by kernel_rfl) (by kernel_rfl) (by kernel_rfl) (fun _ _ _ h => h) (Or.inl ⟨by rfl, ?_⟩) hS27 ?_
              rotate_left
              · intro w hSw
                go_simp
                try with_reducible rfl
              try simp only [Act.put, List.setIfInBounds_toArray, List.set_cons_zero, List.set_cons_succ]
              refine Rh.done (by kernel_rfl) ?_ _
              go_wp2
              go_roundg (n0 - (i0 + 1))
              case measure => omega
              case rel => exact ⟨i0 + 1, by rw [HGI.out]; rfl, by omega, H27, HX_27, Lib.hid (by rw [HGI.out]; exact HP_27.out), HB27⟩
        · have hii : ¬ ((J : Nat) : Int) < (n : Int) := by omega
          have hQ1 := HQ.out.2.1
          have hQ2 := HQ.out.2.2.1
          have hQ3 := HQ.out.2.2.2.1
          have hQ4 := HQ.out.2.2.2.2
          go_wp2_with fail
          refine (hd_root HW.out 0).mono ?_
          rintro e w28 ⟨he, h28, k28⟩
          rw [hQ1] at he
          subst he
          have H28 := Lib.hid h28
          have HB28 := Lib.hid (HBX.out.trans ((k28.below HW.out.size).mono hbs))
          clear h28 k28
          go_wp2_with fail
          refine (hd_cut H28.out (k : Int)).mono ?_
          rintro e w29 ⟨he, h29, k29⟩
          rw [hQ2] at he
          rw [hQ4] at h29
          subst he
          have H29 := Lib.hid h29
          have HB29 := Lib.hid (HB28.out.trans ((k29.below H28.out.size).mono hbs))
          clear h29 k29
          go_wp2_with fail
          refine (hd_cut H29.out 0).mono ?_
          rintro e w30 ⟨he, h30, k30⟩
          rw [hQ3] at he
          subst he
          have H30 := Lib.hid h30
          have HB30 := Lib.hid (HB29.out.trans ((k30.below H29.out.size).mono hbs))
          clear h30 k30
          go_wp2
          go_ret
          exact ⟨rfl, HB30.out⟩

end Go.Proofs.Ytjhodnpmogkmmaa.forestCuts
