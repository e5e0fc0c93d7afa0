/-
  Stage 10: contracts of the document's forest of trees: Root, Least, Cut, Link, Evert, Add. Condition: the number added is one of 64 bits. (Written by wip/tools/gen-Frr.py.)
-/
import Derived.Test.YtjhodnpmogkmmaaFrq
namespace Go.Proofs.Ytjhodnpmogkmmaa
open Go.ChangeShapes Go.WideShapes Go.ChangeAt Go.RowKit
set_option linter.unusedVariables false
set_option linter.unusedSimpArgs false
namespace Fo
open Sp (Off Ext)
section
variable {w w2 : World} {B p : Nat} {vv uv : Value} {F G : Nat → Prop} {f : Ft}
theorem QM.path_len (h : QM w B p vv uv f) (x : Int) : (pathZ f x).length ≤ 3000 := by
  unfold pathZ
  split
  · simp
  · exact Nat.le_trans (Sp.len_le (h.good.path_nodup _) (fun y hy => h.good.path_lt hy)) h.good.small
theorem pathZ_lt (h : Good f) {x : Int} {y : Nat} (hy : y ∈ pathZ f x) : y < f.v.length := by
  unfold pathZ at hy
  split at hy
  · simp at hy
  · exact h.path_lt hy
theorem pathZ_nodup (h : Good f) (x : Int) : (pathZ f x).Nodup := by
  unfold pathZ
  split
  · simp
  · exact h.path_nodup _
set_option maxHeartbeats 1000000 in
theorem qroot_any (h : QM w B p vv uv f) (x : Int) :
    Calls Try.prog 23 #[.pointer (some ⟨p, 0, none⟩), .int .i64 x] w fun e w' => e = .returned (.int .i64 (rootZ f x)) ∧ Below w.heap.size w w' := by
  have RW := Lib.hid (qpath_any h x)
  have hz : rootZ f x = match pathZ f x with | [] => -1 | a :: _ => (a : Int) := rfl
  generalize rootZ f x = Z at *
  generalize pathZ f x = l at *
  clear h
  cases l with
  | nil =>
    subst hz
    go_enter Try.func23, Try.ntmps23
    go_wp2_with fail
    refine RW.out.mono ?_
    rintro e w1 ⟨o, c, rfl, _, hb⟩
    have HB := Lib.hid hb
    clear hb
    go_wp2
    go_ret
    exact ⟨rfl, HB.out⟩
  | cons a l =>
    subst hz
    obtain ⟨m, hm⟩ : ∃ m, m = (a :: l).length := ⟨_, rfl⟩
    have hm0 : 0 < m := by rw [hm]; simp
    rw [← hm] at RW
    have HM := Lib.hid hm
    have z1 : ((m : Int) == 0) = false := by simp; omega
    have z2 : (m == 0) = false := by simp; omega
    have z3 : (0 : Int) < (m : Int) := by omega
    clear hm
    go_enter Try.func23, Try.ntmps23
    go_wp2_with fail
    refine RW.out.mono ?_
    rintro e w1 ⟨o, c, rfl, hi, hb⟩
    have HB := Lib.hid hb
    obtain ⟨b, off, rfl, hb2, d0⟩ := Ne.irow_cell (Ne.own_irow hi) (i := 0) (by rw [Ne.encW_len]; simp)
    rw [Ne.encW_at (by simp)] at d0
    simp only [List.getD_cons_zero, Nat.add_zero] at d0
    clear hb hi
    go_wp2
    go_ret
    exact ⟨rfl, HB.out⟩
set_option maxRecDepth 100000 in
set_option maxHeartbeats 4000000 in
theorem qleast_any (h : QM w B p vv uv f) (x : Int) :
    Calls Try.prog 25 #[.pointer (some ⟨p, 0, none⟩), .int .i64 x] w fun e w' => e = .returned (.int .i64 (leastZ f x)) ∧ Below w.heap.size w w' := by
  have RW := Lib.hid (qpath_any h x)
  have hll := h.path_len x
  have HLT := Lib.hid (show ∀ y ∈ pathZ f x, y < f.v.length from fun y hy => pathZ_lt h.good hy)
  obtain ⟨o, c, hv, hc, _⟩ := Rw.own_row Ne.encI_len h.vals
  have hvr := h.vals
  subst hv
  have HVR := Lib.hid (Ne.own_irow hvr)
  obtain ⟨n0, n1⟩ := qblk_cells h.blk
  have HN0 := Lib.hid n0
  have HRV := Lib.hid (fun l => Sp.leastL_in f.v (n := f.v.length) l)
  unfold leastZ
  generalize pathZ f x = l at *
  clear h hvr hc n1 n0
  obtain ⟨m, hm⟩ : ∃ m, m = l.length := ⟨_, rfl⟩
  rw [← hm] at RW hll
  have HM := Lib.hid hm
  clear hm
  generalize f.v = vs at *
  obtain ⟨nv, hnv⟩ : ∃ nv, nv = vs.length := ⟨_, rfl⟩
  rw [← hnv] at HN0 HLT HRV
  have HNV := Lib.hid hnv
  clear hnv
  go_enter Try.func25, Try.ntmps25
  go_wp2_with fail
  refine RW.out.mono ?_
  rintro e w1 ⟨o2, cc, rfl, hi, hb1⟩
  have HIR := Lib.hid (Ne.own_irow hi)
  have HB1 := Lib.hid hb1
  have HVR1 := Lib.hid (HVR.out.kept hb1)
  have HN1 := Lib.hid ((hb1.cell (p := ⟨p, 0, none⟩) (World.block_lt_of_cell? _ _ HN0.out)).trans HN0.out)
  clear hi hb1
  go_wp2
  go_loopg [6, 7] m (fun g2 sb sk wy => ∃ (j : Nat) (b : Int), sk = .int .i64 j ∧ sb = .int .i64 b ∧ j + g2 = m ∧ Hid (b = Sp.leastL vs (l.take j)) ∧ Hid (Below w1.heap.size w1 wy))
  case atStart => exact ⟨0, -1, rfl, rfl, by omega, Lib.hid (by simp [Sp.leastL]), Lib.hid (Below.refl _ _)⟩
  case round =>
    obtain ⟨j, b, rfl, rfl, hjg, HLB, HBW⟩ := hrel
    by_cases hj : j < m
    · have hji : (j : Int) < (m : Int) := by omega
      have hj0 : (0 : Int) ≤ (j : Int) := by omega
      have hjl : j < l.length := by rw [← HM.out]; exact hj
      have hy : l[j]? = some (l.getD j 0) := by rw [List.getD_eq_getElem?_getD, List.getElem?_eq_getElem hjl]; rfl
      obtain ⟨bl, ol, rfl, hbl, d0⟩ := Ne.irow_cell (HIR.out.kept HBW.out) (i := j) (by rw [Ne.encW_len]; exact hjl)
      rw [Ne.encW_at hjl] at d0
      generalize l.getD j 0 = y at *
      have hyn := HLT.out y (List.mem_of_getElem? hy)
      obtain ⟨bv, ov, rfl, hbv, d1⟩ := Ne.irow_cell (HVR1.out.kept HBW.out) (i := y) (by rw [← HNV.out]; exact hyn)
      have n0 := (HBW.out.cell (p := ⟨p, 0, none⟩) (World.block_lt_of_cell? _ _ HN1.out)).trans HN1.out
      have hst := Sp.leastL_snoc vs (l.take j) y
      rw [show l.take j ++ [y] = l.take (j + 1) by rw [List.take_add_one, hy]; rfl, ← HLB.out] at hst
      have hin := HRV.out (l.take j) (fun z hz => HLT.out z (List.mem_of_mem_take hz))
      rw [← HLB.out] at hin
      have hyi : (y : Int) < (nv : Int) := by omega
      have hy0 : (0 : Int) ≤ (y : Int) := by omega
      have HST := Lib.hid hst
      clear hst hy hyn
      rcases hin with ⟨hb, hnil⟩ | ⟨hb0, hbm⟩
      · have hbneg : decide (b < 0) = true := by rw [hb]; rfl
        have HST2 := Lib.hid (show (y : Int) = Sp.leastL vs (l.take (j + 1)) by rw [HST.out, if_pos (.inl (by omega))])
        clear HST hnil
        subst hb
        clear hbneg
        go_wp2
        go_quiet (fail)
        go_wp2
        go_roundg (m - (j + 1))
        case measure => omega
        case rel => exact ⟨j + 1, (y : Int), by go_num, rfl, by omega, HST2, Lib.hid (Ne.below_dn HBW.out _)⟩
      · obtain ⟨z, rfl⟩ : ∃ z : Nat, b = (z : Int) := ⟨b.toNat, by omega⟩
        have hbneg : decide ((z : Int) < 0) = false := by simp
        have hbneg2 : ¬ (z : Int) < 0 := by omega
        rw [Int.toNat_natCast] at hbm
        have hzn := HLT.out z (List.mem_of_mem_take hbm)
        obtain ⟨bv', ov', e', hbv', d2⟩ := Ne.irow_cell (HVR1.out.kept HBW.out) (i := z) (by rw [← HNV.out]; exact hzn)
        cases e'
        have hzi : (z : Int) < (nv : Int) := by omega
        have hz0 : (0 : Int) ≤ (z : Int) := by omega
        have HSTE := Lib.hid HST.out
        rw [Int.toNat_natCast] at HSTE
        generalize Ne.amt vs y = ay at *
        generalize Ne.amt vs z = az at *
        clear hbm hzn HST
        by_cases c : ay < az
        · have c' : decide (ay < az) = true := by simpa using c
          have HST2 := Lib.hid (show (y : Int) = Sp.leastL vs (l.take (j + 1)) by rw [HSTE.out, if_pos (.inr c)])
          clear c
          go_wp2
          go_quiet (fail)
          go_wp2
          go_roundg (m - (j + 1))
          case measure => omega
          case rel => exact ⟨j + 1, (y : Int), by go_num, rfl, by omega, HST2, Lib.hid (Ne.below_dn HBW.out _)⟩
        · have c' : decide (ay < az) = false := by simpa using c
          have HST2 := Lib.hid (show (z : Int) = Sp.leastL vs (l.take (j + 1)) by rw [HSTE.out, if_neg (by omega)])
          clear c
          go_wp2
          go_quiet (fail)
          go_wp2
          go_roundg (m - (j + 1))
          case measure => omega
          case rel => exact ⟨j + 1, (z : Int), by go_num, rfl, by omega, HST2, Lib.hid (Ne.below_dn HBW.out _)⟩
    · have hji : ¬ (j : Int) < (m : Int) := by omega
      have hres : b = Sp.leastL vs l := by rw [HLB.out, List.take_of_length_le (by rw [← HM.out]; omega)]
      have HRES := Lib.hid hres
      clear hres
      go_wp2
      go_ret
      exact ⟨Ne.retI HRES.out, HB1.out.trans (HBW.out.mono HB1.out.size)⟩
/-- unchanged -/
theorem QP.held (h : QP w B F p f) (hBw : B ≤ w.heap.size) : ∀ w' : World, Below w.heap.size w w' → QP w' B (Ext F w w') p f ∧ Off F w w' := fun w' hb =>
  ⟨(h.kept hb).mono (fun g hg => .inl hg) fun g hg => by
    rcases hg with c | c
    · have := h.fin g c; have := hb.size; omega
    · omega, .of_below hb⟩
/-- who is above whom written anew -/
theorem QM.upped {gu c : Nat} (h : QM w B p vv (.slice (some ⟨gu, 0, none⟩) f.v.length c) f) (hF : ∀ g, QF p vv (.slice (some ⟨gu, 0, none⟩) f.v.length c) g → F g) (hf : ∀ g, F g → B ≤ g ∧ g < w.heap.size) (hBw : B ≤ w.heap.size) {w2 : World} {up : Nat → Option Nat} (hg : Good ⟨f.v, up⟩) (ho : Ne.OwnI w2 B (.slice (some ⟨gu, 0, none⟩) f.v.length c) (ovL f.v.length up)) (hb : Ne.But gu w w2) : QP w2 B (Ext F w w2) p ⟨f.v, up⟩ ∧ Off F w w2 := by
  have hpg : p ≠ gu := fun e => qblk_own h.blk (by decide) h.ups (by show some gu = some p; rw [e])
  refine ⟨⟨vv, .slice (some ⟨gu, 0, none⟩) f.v.length c, ⟨qblk_same h.blk (hb.block p (qblk_lt h.blk) hpg), h.low, Ne.own_same h.vals fun g hg => hb.block g (Rw.own_lt h.vals g hg).2 fun e => Ne.own_types (by decide) h.vals h.ups g hg (by show some gu = some g; rw [e]), ho, hg⟩, fun g hg => .inl (hF g hg), fun g hg => ?_⟩, ⟨hb.os, hb.tape, hb.output, hb.size, fun k h1 h2 => hb.block k h1 fun e => h2 (hF k (.inr (.inr (by rw [e]; rfl))))⟩⟩
  rcases hg with c | c
  · have := hf g c; have := hb.size; omega
  · omega
/-- the row in which it stands -/
theorem QM.upat (h : QM w B p vv uv f) {v : Nat} (hv : v < f.v.length) : ∃ gu c, uv = .slice (some ⟨gu, 0, none⟩) f.v.length c ∧ p ≠ gu ∧ gu < w.heap.size ∧ (∀ o, w.frozen? ⟨gu, o, none⟩ = false) ∧ ∀ i, i < f.v.length → w.cell? ⟨gu, i, none⟩ = some (.int .i64 (oz (f.up i))) := by
  obtain ⟨o, c, rfl⟩ := h.uval
  have hu := h.ups
  obtain ⟨gu, e, h1, h2, _, h3⟩ := Ne.own_cells Ne.encI_len hu (Ne.at_amt (f := ovL f.v.length f.up) (i := v) (by rw [ovL_len]; exact hv))
  subst e
  refine ⟨gu, c, rfl, fun e => qblk_own h.blk (by decide) h.ups (by show some gu = some p; rw [e]), h2, h3, fun i hi => ?_⟩
  obtain ⟨b, off, e, _, hc⟩ := Ne.irow_cell (Ne.own_irow hu) (i := i) (by rw [ovL_len]; exact hi)
  cases e
  rw [ovL_at _ hi, Nat.zero_add] at hc
  exact hc
theorem own_up {gu c n : Nat} {up : Nat → Option Nat} (h : Ne.OwnI w B (.slice (some ⟨gu, 0, none⟩) n c) (ovL n up)) {i : Nat} (hi : i < n) (y : Option Nat) : Ne.OwnI (w.setCell ⟨gu, i, none⟩ (.int .i64 (oz y))) B (.slice (some ⟨gu, 0, none⟩) n c) (ovL n fun z => if z = i then y else up z) := by
  have hput := Ne.own_put Ne.encI_len h (i := i) (x := oz (up i)) (y := oz y) (by
    have := Ne.at_amt (f := ovL n up) (i := i) (by rw [ovL_len]; exact hi)
    rwa [ovL_at _ hi] at this) (j := 0) (by omega) (u := .int .i64 (oz y)) rfl
  rw [Nat.mul_one, Nat.add_zero, ovL_set up hi y] at hput
  exact hput
theorem oz_lt (u : Option Nat) : (oz u < 0) ↔ u = none := by
  cases u with
  | none => simp [oz]
  | some y => simp [oz]
set_option maxHeartbeats 2000000 in
theorem qcut_any (h : QP w B F p f) (hBw : B ≤ w.heap.size) (x : Int) :
    Calls Try.prog 35 #[.pointer (some ⟨p, 0, none⟩), .int .i64 x] w fun e w' => e = .returned (.int .i64 (cutE f x)) ∧ QP w' B (Ext F w w') p (cutS f x) ∧ Off F w w' := by
  have HS := Lib.hid (h.held hBw)
  obtain ⟨vv, uv, h1, h2, h3⟩ := h
  by_cases hx : there f x
  case neg =>
    have HT := Lib.hid (qthere_out h1 hx)
    have hz : cutE f x = 4 := by unfold cutE; rw [if_pos hx]
    have hz2 : cutS f x = f := by unfold cutS; rw [hz]; rfl
    rw [hz, hz2]
    clear h1 h2 h3 hx hz hz2
    go_enter Try.func35, Try.ntmps35
    go_wp2_with fail
    refine HT.out.mono ?_
    rintro e w1 ⟨rfl, rfl⟩
    go_wp2
    go_ret
    exact ⟨rfl, HS.out _ (Below.refl _ _)⟩
  obtain ⟨v, rfl⟩ : ∃ v : Nat, x = (v : Int) := ⟨x.toNat, by obtain ⟨a, b⟩ := hx; omega⟩
  have hv : v < f.v.length := by obtain ⟨a, b⟩ := hx; omega
  have HT := Lib.hid (qthere_in h1 hv)
  obtain ⟨gu, c, rfl, hpg, hgu, hfz, hcs⟩ := h1.upat hv
  obtain ⟨n0, n1⟩ := qblk_cells h1.blk
  have d0 := hcs v hv
  have f0 := hfz v
  have z1 : (v : Int) < (f.v.length : Int) := by omega
  have z2 : (0 : Int) ≤ (v : Int) := by omega
  cases hu : f.up v with
  | none =>
    have hz : cutE f (v : Int) = 9 := by unfold cutE; rw [if_neg (by simp [hx]), Int.toNat_natCast, if_pos hu]
    have hz2 : cutS f (v : Int) = f := by unfold cutS; rw [hz]; rfl
    rw [hz, hz2]
    rw [hu] at d0
    simp only [oz] at d0
    clear h1 h2 h3 hx hz hz2 hcs hfz
    go_enter Try.func35, Try.ntmps35
    go_wp2_with fail
    refine HT.out.mono ?_
    rintro e w1 ⟨rfl, rfl⟩
    go_wp2
    go_ret
    exact ⟨rfl, HS.out _ (Below.refl _ _)⟩
  | some u =>
    have hz : cutE f (v : Int) = 0 := by unfold cutE; rw [if_neg (by simp [hx]), Int.toNat_natCast, if_neg (by rw [hu]; simp)]
    have hz2 : cutS f (v : Int) = cutF f v := by unfold cutS; rw [hz, if_pos rfl, Int.toNat_natCast]
    rw [hz, hz2]
    rw [hu] at d0
    simp only [oz] at d0
    have z3 : decide ((u : Int) < 0) = false := by simp
    have z4 : ¬ (u : Int) < 0 := by omega
    have HE := Lib.hid (show QP (w.setCell ⟨gu, v, none⟩ (.int .i64 (-1))) B (Ext F w (w.setCell ⟨gu, v, none⟩ (.int .i64 (-1)))) p (cutF f v) ∧ Off F w (w.setCell ⟨gu, v, none⟩ (.int .i64 (-1))) from
      h1.upped h2 h3 hBw (good_cut h1.good v) (own_up h1.ups hv none) ((Ne.But.of_below (Below.refl _ _)).set v _))
    clear h1 h2 h3 hx hz hz2 hcs hfz
    go_enter Try.func35, Try.ntmps35
    go_wp2_with fail
    refine HT.out.mono ?_
    rintro e w1 ⟨rfl, rfl⟩
    go_wp2
    go_ret
    exact ⟨rfl, HE.out⟩
set_option maxHeartbeats 2000000 in
theorem qlink_any (h : QP w B F p f) (hBw : B ≤ w.heap.size) (x z : Int) :
    Calls Try.prog 34 #[.pointer (some ⟨p, 0, none⟩), .int .i64 x, .int .i64 z] w fun e w' => e = .returned (.int .i64 (linkE f x z)) ∧ QP w' B (Ext F w w') p (linkS f x z) ∧ Off F w w' := by
  have HS := Lib.hid (h.held hBw)
  obtain ⟨vv, uv, h1, h2, h3⟩ := h
  by_cases hx : there f x
  case neg =>
    have HT := Lib.hid (qthere_out h1 hx)
    have hz : linkE f x z = 4 := by unfold linkE; rw [if_pos (.inl hx)]
    have hz2 : linkS f x z = f := by unfold linkS; rw [hz]; rfl
    rw [hz, hz2]
    clear h1 h2 h3 hx hz hz2
    go_enter Try.func34, Try.ntmps34
    go_wp2_with fail
    refine HT.out.mono ?_
    rintro e w1 ⟨rfl, rfl⟩
    go_wp2
    go_ret
    exact ⟨rfl, HS.out _ (Below.refl _ _)⟩
  obtain ⟨v, rfl⟩ : ∃ v : Nat, x = (v : Int) := ⟨x.toNat, by obtain ⟨a, b⟩ := hx; omega⟩
  have hv : v < f.v.length := by obtain ⟨a, b⟩ := hx; omega
  have HT := Lib.hid (qthere_in h1 hv)
  by_cases hx2 : there f z
  case neg =>
    have HT2 := Lib.hid (qthere_out h1 hx2)
    have hz : linkE f (v : Int) z = 4 := by unfold linkE; rw [if_pos (.inr hx2)]
    have hz2 : linkS f (v : Int) z = f := by unfold linkS; rw [hz]; rfl
    rw [hz, hz2]
    clear h1 h2 h3 hx hx2 hz hz2
    go_enter Try.func34, Try.ntmps34
    go_wp2_with fail
    refine HT.out.mono ?_
    rintro e w1 ⟨rfl, rfl⟩
    go_wp2_with fail
    refine HT2.out.mono ?_
    rintro e w1 ⟨rfl, rfl⟩
    go_wp2
    go_ret
    exact ⟨rfl, HS.out _ (Below.refl _ _)⟩
  obtain ⟨u, rfl⟩ : ∃ u : Nat, z = (u : Int) := ⟨z.toNat, by obtain ⟨a, b⟩ := hx2; omega⟩
  have hu : u < f.v.length := by obtain ⟨a, b⟩ := hx2; omega
  have HT2 := Lib.hid (qthere_in h1 hu)
  have hth : ¬ (¬ there f (v : Int) ∨ ¬ there f (u : Int)) := by simp [hx, hx2]
  obtain ⟨gu, c, rfl, hpg, hgu, hfz, hcs⟩ := h1.upat hv
  obtain ⟨n0, n1⟩ := qblk_cells h1.blk
  have hpl := qblk_lt h1.blk
  have d0 := hcs v hv
  have f0 := hfz v
  have z1 : (v : Int) < (f.v.length : Int) := by omega
  have z2 : (0 : Int) ≤ (v : Int) := by omega
  cases hup : f.up v with
  | some a =>
    have hz : linkE f (v : Int) (u : Int) = 9 := by unfold linkE; rw [if_neg hth, Int.toNat_natCast, hup]; rfl
    have hz2 : linkS f (v : Int) (u : Int) = f := by unfold linkS; rw [hz]; rfl
    rw [hz, hz2]
    rw [hup] at d0
    simp only [oz] at d0
    have z3 : (0 : Int) ≤ (a : Int) := by omega
    clear h1 h2 h3 hx hx2 hz hz2 hcs hfz hth
    go_enter Try.func34, Try.ntmps34
    go_wp2_with fail
    refine HT.out.mono ?_
    rintro e w1 ⟨rfl, rfl⟩
    go_wp2_with fail
    refine HT2.out.mono ?_
    rintro e w1 ⟨rfl, rfl⟩
    go_wp2
    go_ret
    exact ⟨rfl, HS.out _ (Below.refl _ _)⟩
  | none =>
    rw [hup] at d0
    simp only [oz] at d0
    have HR := Lib.hid (qroot_any h1 (u : Int))
    obtain ⟨rt, hrt1, hrt2, hrt3, hrt4⟩ := h1.good.rootZ_eq hu
    rw [hrt2] at HR
    by_cases hrv : rt = v
    · have hz : linkE f (v : Int) (u : Int) = 5 := by unfold linkE; rw [if_neg hth, Int.toNat_natCast, hup, if_neg (by simp), if_pos (by rw [hrt2, hrv])]
      have hz2 : linkS f (v : Int) (u : Int) = f := by unfold linkS; rw [hz]; rfl
      rw [hz, hz2]
      subst hrv
      clear h1 h2 h3 hx hx2 hz hz2 hcs hfz hth hrt1 hrt2 hrt3 hrt4
      go_enter Try.func34, Try.ntmps34
      go_wp2_with fail
      refine HT.out.mono ?_
      rintro e w1 ⟨rfl, rfl⟩
      go_wp2_with fail
      refine HT2.out.mono ?_
      rintro e w1 ⟨rfl, rfl⟩
      go_wp2_with fail
      refine HR.out.mono ?_
      rintro e w1 ⟨rfl, hb⟩
      have HB := Lib.hid hb
      clear hb
      go_wp2
      go_ret
      exact ⟨rfl, HS.out _ HB.out⟩
    · have hne : root f u ≠ some v := fun c => by rw [hrt1] at c; cases c; exact hrv rfl
      have hz : linkE f (v : Int) (u : Int) = 0 := by unfold linkE; rw [if_neg hth, Int.toNat_natCast, hup, if_neg (by simp), if_neg (by rw [hrt2]; omega)]
      have hz2 : linkS f (v : Int) (u : Int) = linkF f v u := by unfold linkS; rw [hz, if_pos rfl, Int.toNat_natCast, Int.toNat_natCast]
      rw [hz, hz2]
      have hr2 : (((rt : Int) == (v : Int)) = false) := by simp <;> omega
      have HE := Lib.hid (show ∀ w2 : World, Below w.heap.size w w2 → (w2.cell? ⟨p, 1, none⟩ = some (.slice (some ⟨gu, 0, none⟩) f.v.length c) ∧ w2.cell? ⟨gu, v, none⟩ = some (.int .i64 (-1)) ∧ w2.frozen? ⟨gu, v, none⟩ = false) ∧ QP (w2.setCell ⟨gu, v, none⟩ (.int .i64 (u : Int))) B (Ext F w (w2.setCell ⟨gu, v, none⟩ (.int .i64 (u : Int)))) p (linkF f v u) ∧ Off F w (w2.setCell ⟨gu, v, none⟩ (.int .i64 (u : Int))) from fun w2 hb =>
        ⟨⟨(hb.cell (p := ⟨p, 1, none⟩) hpl).trans n1, (hb.cell (p := ⟨gu, v, none⟩) hgu).trans d0, (hb.frozen (p := ⟨gu, v, none⟩) hgu).trans f0⟩, h1.upped h2 h3 hBw (good_link h1.good hv hu hup hne) (own_up (Rw.own_below h1.ups hb) hv (some u)) ((Ne.But.of_below hb).set v _)⟩)
      clear h1 h2 h3 hx hx2 hz hz2 hcs hfz hth hrt1 hrt2 hrt3 hrt4 hne hrv
      go_enter Try.func34, Try.ntmps34
      go_wp2_with fail
      refine HT.out.mono ?_
      rintro e w1 ⟨rfl, rfl⟩
      go_wp2_with fail
      refine HT2.out.mono ?_
      rintro e w1 ⟨rfl, rfl⟩
      go_wp2_with fail
      refine HR.out.mono ?_
      rintro e w1 ⟨rfl, hb⟩
      obtain ⟨⟨k1, k2, k3⟩, hE⟩ := HE.out _ hb
      have HE2 := Lib.hid hE
      clear hb hE n0 n1 d0 f0
      go_wp2
      go_ret
      exact ⟨rfl, HE2.out⟩
/-- the path turned so far -/
def evU (f : Ft) (l : List Nat) (j : Nat) : Nat → Option Nat := fun x => if x ∈ l.take j then nextL l x else f.up x
theorem evU_0 (f : Ft) (l : List Nat) : evU f l 0 = f.up := by funext x; simp [evU]
theorem evU_step {l : List Nat} (hn : l.Nodup) {j y z : Nat} (hy : l[j]? = some y) (hz : l[j + 1]? = some z) : (fun x => if x = y then some z else evU f l j x) = evU f l (j + 1) := by
  funext x
  have hnx : nextL l y = some z := by
    have h1 := (List.getElem?_eq_some_iff.1 hy)
    have h2 := (List.getElem?_eq_some_iff.1 hz)
    have e : l = l.take j ++ y :: z :: l.drop (j + 2) := by
      obtain ⟨a1, a2⟩ := h1
      obtain ⟨b1, b2⟩ := h2
      have e1 := (List.take_append_drop j l).symm
      rw [List.drop_eq_getElem_cons a1, List.drop_eq_getElem_cons b1, a2, b2] at e1
      exact e1
    rw [e] at hn
    have := nextL_app hn
    rwa [← e] at this
  unfold evU
  rw [List.take_add_one, hy]
  by_cases c : x = y
  · subst c
    rw [if_pos rfl, if_pos (by simp), hnx]
  · rw [if_neg c]
    by_cases c2 : x ∈ l.take j
    · rw [if_pos c2, if_pos (by simp [c2])]
    · rw [if_neg c2, if_neg (by simp [c2, c])]
theorem evU_last {l : List Nat} (hn : l.Nodup) {j y : Nat} (hy : l[j]? = some y) (hj : l.length = j + 1) : (fun x => if x = y then none else evU f l j x) = fun x => if x ∈ l then nextL l x else f.up x := by
  funext x
  have e : l = l.take j ++ [y] := by
    have := List.take_add_one (l := l) (i := j)
    rw [hy, List.take_of_length_le (by omega)] at this
    exact this
  have hnx : nextL l y = none := by
    have hn' := hn
    rw [e] at hn'
    have := nextL_last hn'
    rwa [← e] at this
  unfold evU
  by_cases c : x = y
  · subst c
    rw [if_pos rfl, if_pos (List.mem_of_getElem? hy), hnx]
  · rw [if_neg c]
    have : x ∈ l ↔ x ∈ l.take j := by
      conv => lhs; rw [e]
      simp [c]
    by_cases c2 : x ∈ l.take j
    · rw [if_pos c2, if_pos (this.2 c2)]
    · rw [if_neg c2, if_neg (fun c3 => c2 (this.1 c3))]
set_option maxRecDepth 100000 in
set_option maxHeartbeats 8000000 in
theorem qevert_any (h : QP w B F p f) (hBw : B ≤ w.heap.size) (x : Int) :
    Calls Try.prog 36 #[.pointer (some ⟨p, 0, none⟩), .int .i64 x] w fun e w' => e = .returned (.int .i64 (evertE f x)) ∧ QP w' B (Ext F w w') p (evertS f x) ∧ Off F w w' := by
  have HS := Lib.hid (h.held hBw)
  obtain ⟨vv, uv, h1, h2, h3⟩ := h
  by_cases hx : there f x
  case neg =>
    have HT := Lib.hid (qthere_out h1 hx)
    have hz : evertE f x = 4 := by unfold evertE; rw [if_pos hx]
    have hz2 : evertS f x = f := by unfold evertS; rw [if_neg hx]
    rw [hz, hz2]
    clear h1 h2 h3 hx hz hz2
    go_enter Try.func36, Try.ntmps36
    go_wp2_with fail
    refine HT.out.mono ?_
    rintro e w1 ⟨rfl, rfl⟩
    go_wp2
    go_ret
    exact ⟨rfl, HS.out _ (Below.refl _ _)⟩
  obtain ⟨v, rfl⟩ : ∃ v : Nat, x = (v : Int) := ⟨x.toNat, by obtain ⟨a, b⟩ := hx; omega⟩
  have hv : v < f.v.length := by obtain ⟨a, b⟩ := hx; omega
  have HT := Lib.hid (qthere_in h1 hv)
  have hz : evertE f (v : Int) = 0 := by unfold evertE; rw [if_neg (by simp [hx])]
  have hz2 : evertS f (v : Int) = evertF f v := by unfold evertS; rw [if_pos hx, Int.toNat_natCast]
  rw [hz, hz2]
  obtain ⟨gu, c, rfl, hpg, hgu, hfz, hcs⟩ := h1.upat hv
  obtain ⟨n0, n1⟩ := qblk_cells h1.blk
  have hpl := qblk_lt h1.blk
  have HN1 := Lib.hid n1
  have z1 : (v : Int) < (f.v.length : Int) := by omega
  have z2 : (0 : Int) ≤ (v : Int) := by omega
  have RW := Lib.hid (qpath_any h1 (v : Int))
  have hpz := pathZ_nat f v
  rw [hpz] at RW
  have hnd := h1.good.path_nodup v
  have HUP := Lib.hid h1.ups
  have hlast : ∀ M, (path f v).length = M + 1 → (path f v)[M]? = some v := fun M hM => by
    have e := path_cz h1.good hv
    rw [e] at hM ⊢
    simp at hM
    rw [List.getElem?_append_right (by omega), show M - (cz f (f.up v)).length = 0 by omega]
    rfl
  have HFINAL := Lib.hid (show ∀ w2 : World, Ne.OwnI w2 B (.slice (some ⟨gu, 0, none⟩) f.v.length c) (ovL f.v.length fun x => if x ∈ path f v then nextL (path f v) x else f.up x) → Ne.But gu w w2 → QP w2 B (Ext F w w2) p (evertF f v) ∧ Off F w w2 from fun w2 ho hb => h1.upped h2 h3 hBw (good_evert h1.good v) ho hb)
  have hlp := h1.good.path_self hv
  have HLT := Lib.hid (show ∀ y ∈ path f v, y < f.v.length from fun y hy => h1.good.path_lt hy)
  have HLL := Lib.hid (h1.path_len (v : Int))
  rw [hpz] at HLL
  have HSTEP := Lib.hid (fun (j y z : Nat) h1 h2 => evU_step (f := f) hnd (j := j) (y := y) (z := z) h1 h2)
  have HEND := Lib.hid (fun (j y : Nat) h1 h2 => evU_last (f := f) hnd (j := j) (y := y) h1 h2)
  have HU0 := Lib.hid (show Ne.OwnI w B (.slice (some ⟨gu, 0, none⟩) f.v.length c) (ovL f.v.length (evU f (path f v) 0)) by rw [evU_0]; exact h1.ups)
  generalize hL : path f v = L at *
  obtain ⟨M, hM⟩ : ∃ M, M + 1 = L.length := ⟨L.length - 1, by
    have : 0 < L.length := List.length_pos_of_mem hlp
    omega⟩
  have HLAST := Lib.hid (hlast M hM.symm)
  rw [← hM] at RW HLL
  have HM := Lib.hid hM
  obtain ⟨n, hn⟩ : ∃ n, n = f.v.length := ⟨_, rfl⟩
  rw [← hn] at z1 n1 HN1 HFINAL HLT HU0
  obtain ⟨M1, hM1⟩ : ∃ M1, M1 = M + 1 := ⟨_, rfl⟩
  rw [← hM1] at RW HLL
  have HM1 := Lib.hid hM1
  have HVN := Lib.hid (show v < n by rw [hn]; exact hv)
  clear h1 h2 h3 hx hz hz2 hcs hfz hnd hlast hlp hL hpz hM hM1 hn hv HUP n0
  go_enter Try.func36, Try.ntmps36
  go_wp2_with fail
  refine HT.out.mono ?_
  rintro e w1 ⟨rfl, rfl⟩
  go_wp2_with fail
  refine RW.out.mono ?_
  rintro e w1 ⟨ol, cl, rfl, hi, hb1⟩
  have HB1 := Lib.hid hb1
  have HI := Lib.hid hi
  have HIB := Lib.hid (show ∀ wz, Ne.But gu w1 wz → Ne.IRow wz ol (Ne.encW L) from fun wz hb => Ne.own_irow (Ne.own_same hi fun g hg => hb.block g (Rw.own_lt hi g hg).2 fun e => by have := (Rw.own_lt hi g hg).1; omega))
  have HU1 := Lib.hid (Rw.own_below HU0.out hb1)
  have HN2 := Lib.hid ((hb1.cell (p := ⟨p, 1, none⟩) hpl).trans HN1.out)
  have hpl1 : p < w1.heap.size := Nat.lt_of_lt_of_le hpl hb1.size
  clear hi hb1 n1
  go_wp2
  go_loopg [6] M (fun gg sk wz => ∃ j : Nat, sk = .int .i64 j ∧ j + gg = M ∧ Hid (Ne.OwnI wz B (.slice (some ⟨gu, 0, none⟩) n c) (ovL n (evU f L j))) ∧ Hid (Ne.But gu w1 wz))
  case atStart => exact ⟨0, rfl, by omega, HU1, Lib.hid (Ne.But.of_below (Below.refl _ _))⟩
  case round =>
    obtain ⟨j, rfl, hjg, HVZ, HBZ⟩ := hrel
    have hw0 : IntKind.i64.wrap ((j : Int) + 1) = ((j + 1 : Nat) : Int) := by have := HLL.out; have := HM1.out; rw [IntKind.wrap_i64]; omega
    have n1 := (World.cell?_of_block (w := w1) (HBZ.out.block p hpl1 hpg)).trans HN2.out
    by_cases hj : j < M
    · have hji : ((j + 1 : Nat) : Int) < (M1 : Int) := by have := HM1.out; omega
      have hji0 : (j : Int) < (M1 : Int) := by have := HM1.out; omega
      have hj0 : (0 : Int) ≤ (j : Int) := by omega
      have hj1 : (0 : Int) ≤ ((j + 1 : Nat) : Int) := by omega
      have hjl : j < L.length := by have := HM.out; omega
      have hjl2 : j + 1 < L.length := by have := HM.out; omega
      have hy : L[j]? = some (L.getD j 0) := by rw [List.getD_eq_getElem?_getD, List.getElem?_eq_getElem hjl]; rfl
      have hz : L[j + 1]? = some (L.getD (j + 1) 0) := by rw [List.getD_eq_getElem?_getD, List.getElem?_eq_getElem hjl2]; rfl
      obtain ⟨bl, olf, rfl, hbl, d0⟩ := Ne.irow_cell (HIB.out _ HBZ.out) (i := j) (by rw [Ne.encW_len]; exact hjl)
      rw [Ne.encW_at hjl] at d0
      obtain ⟨bl2, olf2, e2, hbl2, d1⟩ := Ne.irow_cell (HIB.out _ HBZ.out) (i := j + 1) (by rw [Ne.encW_len]; exact hjl2)
      cases e2
      rw [Ne.encW_at hjl2] at d1
      generalize L.getD j 0 = y at *
      generalize L.getD (j + 1) 0 = z at *
      have hyn := HLT.out y (List.mem_of_getElem? hy)
      have hyi : (y : Int) < (n : Int) := by omega
      have hy0 : (0 : Int) ≤ (y : Int) := by omega
      have hst := HSTEP.out j y z hy hz
      have hput := own_up HVZ.out hyn (some z)
      rw [hst] at hput
      have HPUT := Lib.hid hput
      have HBS := Lib.hid (HBZ.out.set y (.int .i64 (z : Int)))
      have hfz := Sp.own_free HVZ.out y
      obtain ⟨bq, oq, e3, hbq, d2⟩ := Ne.irow_cell (Ne.own_irow HVZ.out) (i := y) (by rw [ovL_len]; exact hyn)
      cases e3
      rw [Nat.zero_add] at d2
      clear hput hst hy hz hyn hjl hjl2
      go_wp2
      go_region
      all_goals (go_wp2; go_roundg (M - (j + 1)); (case measure => omega); (case rel => exact ⟨j + 1, by go_num, by omega, Lib.hid (Rw.own_below HPUT.out (Ne.below_drew (Below.refl _ _))), Lib.hid (HBS.out.then (Ne.below_drew (Below.refl _ _)))⟩))
    · have hji : ¬ ((j + 1 : Nat) : Int) < (M1 : Int) := by have := HM1.out; omega
      obtain rfl : j = M := by omega
      have hput := own_up HVZ.out HVN.out none
      rw [HEND.out j v HLAST.out (by have := HM.out; omega)] at hput
      have hfz := Sp.own_free HVZ.out v
      obtain ⟨bq, oq, e3, hbq, d2⟩ := Ne.irow_cell (Ne.own_irow HVZ.out) (i := v) (by rw [ovL_len]; exact HVN.out)
      cases e3
      rw [Nat.zero_add] at d2
      have HFIN := Lib.hid (HFINAL.out _ hput (((Ne.But.of_below HB1.out).trans HBZ.out).set v _))
      clear hput
      go_wp2
      go_ret
      exact ⟨rfl, HFIN.out⟩
set_option maxRecDepth 100000 in
set_option maxHeartbeats 8000000 in
theorem qadd_any (h : QP w B F p f) (hBw : B ≤ w.heap.size) (x d : Int) (hd : -9223372036854775808 ≤ d ∧ d ≤ 9223372036854775807) :
    Calls Try.prog 37 #[.pointer (some ⟨p, 0, none⟩), .int .i64 x, .int .i64 d] w fun e w' => e = .returned (.int .i64 (addE f x d)) ∧ QP w' B (Ext F w w') p (addS f x d) ∧ Off F w w' := by
  have hP := h
  have HSAME := Lib.hid (h.held hBw)
  obtain ⟨vv, uv, h, hF, hf⟩ := h
  have RW := Lib.hid (qpath_any h x)
  by_cases c0 : pathZ f x = []
  · have e1 : addE f x d = 4 := by unfold addE; rw [if_pos c0]
    have e2 : addS f x d = f := by unfold addS; rw [if_neg (by rw [e1]; decide)]
    rw [e1, e2]
    rw [c0] at RW
    clear h hP hF hf
    go_enter Try.func37, Try.ntmps37
    go_wp2_with fail
    refine RW.out.mono ?_
    rintro e w1 ⟨o, cc, rfl, _, hb⟩
    have HB := Lib.hid hb
    clear hb
    go_wp2
    go_ret
    exact ⟨rfl, HSAME.out _ HB.out⟩
  · have hx3 : x.toNat < f.v.length := by
      have : there f x := Classical.byContradiction fun c => c0 (h.good.pathZ_nil.2 c)
      obtain ⟨a, b⟩ := this
      omega
    have hx1 := hx3
    obtain ⟨o, c, hv, hc, _⟩ := Rw.own_row Ne.encI_len h.vals
    subst hv
    have hvals := h.vals
    obtain ⟨gv, e, hgv1, hgv2, _, hgv3⟩ := Ne.own_cells Ne.encI_len hvals (Ne.at_amt hx3)
    subst e
    have HFZ := Lib.hid hgv3
    have HN0 := Lib.hid (qblk_cells h.blk).1
    have hpl := qblk_lt h.blk
    have hpg : p ≠ gv := fun e => qblk_own h.blk (by decide) h.vals (by show some gv = some p; rw [e])
    have hll := h.path_len x
    have hnd := pathZ_nodup h.good x
    have HLT := Lib.hid (show ∀ y ∈ pathZ f x, y < f.v.length from fun y hy => pathZ_lt h.good hy)
    have HBD := Lib.hid h.good.bnd
    have HSTEP := Lib.hid (fun (j y : Nat) hy hv => Sp.addL_step (v := f.v) (l := pathZ f x) (d := d) (j := j) (y := y) hnd hy hv)
    have HE3 := Lib.hid (show (∃ i ∈ pathZ f x, Sp.fits (Ne.amt f.v i) d = false) → addE f x d = 3 ∧ addS f x d = f from fun ⟨i, h1, h2⟩ => by
      have e1 : addE f x d = 3 := by
        unfold addE; rw [if_neg c0, if_neg fun c => by have := c i h1; rw [this] at h2; cases h2]
      exact ⟨e1, by unfold addS; rw [if_neg (by rw [e1]; decide)]⟩)
    have HE0 := Lib.hid (show (∀ i ∈ pathZ f x, Sp.fits (Ne.amt f.v i) d = true) → addE f x d = 0 ∧ addS f x d = ⟨Sp.addL f.v (pathZ f x) d, f.up⟩ from fun h1 => by
      have e1 : addE f x d = 0 := by unfold addE; rw [if_neg c0, if_pos h1]
      exact ⟨e1, by unfold addS; rw [if_pos e1]⟩)
    have HFINAL := Lib.hid (show ∀ w2 : World, addS f x d = ⟨Sp.addL f.v (pathZ f x) d, f.up⟩ → Ne.OwnL w2 B (.slice (some ⟨gv, 0, none⟩) f.v.length c) (Sp.addL f.v (pathZ f x) d) → Ne.But gv w w2 → QP w2 B (Ext F w w2) p (addS f x d) ∧ Off F w w2 from fun w2 e hv hb => by
      have hg := good_addS h.good x d
      rw [e] at hg ⊢
      refine ⟨⟨_, uv, ⟨qblk_same h.blk (hb.block p hpl hpg), h.low, hv, ?_, hg⟩, fun g hg => .inl (hF g hg), fun g hg => ?_⟩, ⟨hb.os, hb.tape, hb.output, hb.size, fun k h1 h2 => hb.block k h1 fun e => h2 (hF k (.inr (.inl (by rw [e]; rfl))))⟩⟩
      · show Ne.OwnI w2 B uv (ovL (Sp.addL f.v (pathZ f x) d).length f.up)
        rw [Sp.addL_len]
        exact Ne.own_same h.ups fun g hg => hb.block g (Rw.own_lt h.ups g hg).2 fun e => Ne.own_types (by decide) h.ups h.vals g hg (by show some gv = some g; rw [e])
      · rcases hg with c | c
        · have := hf g c; have := hb.size; omega
        · omega)
    have HV0 := Lib.hid (show Ne.OwnL w B (.slice (some ⟨gv, 0, none⟩) f.v.length c) (Sp.addL f.v ((pathZ f x).take 0) d) from by
      have : Sp.addL f.v ((pathZ f x).take 0) d = f.v := Ne.ext_amt (by simp [Sp.addL_len]) fun i hi => by rw [Sp.addL_at (by simpa [Sp.addL_len] using hi)]; simp
      rw [this]; exact hvals)
    generalize addE f x d = er at *
    generalize addS f x d = f2 at *
    generalize hLL : pathZ f x = L at *
    clear h hP hF hf hc hvals hLL hnd hgv3
    obtain ⟨M, hM⟩ : ∃ M, M = L.length := ⟨_, rfl⟩
    have hM0 : 0 < M := by rw [hM]; exact Nat.pos_of_ne_zero fun e => c0 (List.length_eq_zero_iff.1 e)
    rw [← hM] at RW hll
    have HM := Lib.hid hM
    have z1 : ((M : Int) == 0) = false := by simp; omega
    have z2 : (M == 0) = false := by simp; omega
    generalize hvs : f.v = vs at *
    clear hvs
    obtain ⟨nv, hnv⟩ : ∃ nv, nv = vs.length := ⟨_, rfl⟩
    rw [← hnv] at HN0 HLT HBD HFINAL HV0 hx3
    have HNV := Lib.hid hnv
    clear hM hnv c0 hx1
    go_enter Try.func37, Try.ntmps37
    go_wp2_with fail
    refine RW.out.mono ?_
    rintro e w1 ⟨ol, cl, rfl, hi, hb1⟩
    have HB1W := Lib.hid hb1
    have HIR := Lib.hid (Ne.own_irow hi)
    have HIB := Lib.hid (show ∀ wz, Ne.But gv w1 wz → Ne.IRow wz ol (Ne.encW L) from fun wz hb => Ne.own_irow (Ne.own_same hi fun g hg => hb.block g (Rw.own_lt hi g hg).2 fun e => by have := (Rw.own_lt hi g hg).1; omega))
    have HV01 := Lib.hid (Rw.own_below HV0.out hb1)
    have HN01 := Lib.hid ((hb1.cell (p := ⟨p, 0, none⟩) hpl).trans HN0.out)
    have hpl1 : p < w1.heap.size := Nat.lt_of_lt_of_le hpl hb1.size
    have hgv21 : gv < w1.heap.size := Nat.lt_of_lt_of_le hgv2 hb1.size
    clear hi hb1
    go_wp2
    go_loopg [8] M (fun gg sk wr => ∃ j : Nat, sk = .int .i64 j ∧ j + gg = M ∧ Hid (∀ y ∈ L.take j, Sp.fits (Ne.amt vs y) d = true) ∧ Hid (Below w1.heap.size w1 wr))
    case atStart => exact ⟨0, rfl, by omega, Lib.hid (by simp), Lib.hid (Below.refl _ _)⟩
    case round =>
      obtain ⟨j, rfl, hjg, HNO, HBW⟩ := hrel
      have n0 := (HBW.out.cell (p := ⟨p, 0, none⟩) hpl1).trans HN01.out
      by_cases hj : j < M
      · have hji : (j : Int) < (M : Int) := by omega
        have hj0 : (0 : Int) ≤ (j : Int) := by omega
        have hjl : j < L.length := by rw [← HM.out]; exact hj
        have hy : L[j]? = some (L.getD j 0) := by rw [List.getD_eq_getElem?_getD, List.getElem?_eq_getElem hjl]; rfl
        obtain ⟨bl, olf, rfl, hbl, d0⟩ := Ne.irow_cell (HIR.out.kept HBW.out) (i := j) (by rw [Ne.encW_len]; exact hjl)
        rw [Ne.encW_at hjl] at d0
        generalize L.getD j 0 = y at *
        have hym := List.mem_of_getElem? hy
        have hyn := HLT.out y hym
        have hyi : (y : Int) < (nv : Int) := by omega
        have hy0 : (0 : Int) ≤ (y : Int) := by omega
        have hbd := HBD.out y hyn
        have d1 : wr.cell? ⟨gv, y, none⟩ = some (.int .i64 (Ne.amt vs y)) := by
          have h1 := Ne.irow_cell (Ne.own_irow HV01.out) (i := y) (by rw [Sp.addL_len, ← HNV.out]; exact hyn)
          obtain ⟨b, off, e, hb, hc1⟩ := h1
          cases e
          rw [Sp.addL_at (by rw [← HNV.out]; exact hyn)] at hc1
          simp only [List.take_zero, List.not_mem_nil, if_false, Nat.zero_add] at hc1
          exact (HBW.out.cell (p := ⟨gv, y, none⟩) hgv21).trans hc1
        generalize hay : Ne.amt vs y = ay at *
        have HAY := Lib.hid hay
        clear hay
        have FT := Lib.hid fun w' => Sp.rfits_any ay d w' (by unfold Sp.big at hbd; omega) hd
        have HY := Lib.hid hy
        clear hy hbd hyn
        by_cases c : Sp.fits ay d = true
        · have HNO2 := Lib.hid (show ∀ z ∈ L.take (j + 1), Sp.fits (Ne.amt vs z) d = true from by
            intro z hz
            rw [List.take_add_one, HY.out] at hz
            rcases List.mem_append.1 hz with h1 | h1
            · exact HNO.out z h1
            · simp at h1; subst h1; rw [HAY.out]; exact c)
          rw [c] at FT
          clear c
          go_wp2
          go_region_with (go_at_call 52; refine (FT.out _).mono ?_; rintro e w' ⟨rfl, rfl⟩)
          all_goals (go_wp2; go_roundg (M - (j + 1)); (case measure => omega); (case rel => exact ⟨j + 1, by go_num, by omega, HNO2, Lib.hid (Ne.below_drew HBW.out)⟩))
        · have c2 : Sp.fits ay d = false := by simpa using c
          obtain ⟨e1, e2⟩ := HE3.out ⟨y, hym, by rw [HAY.out]; exact c2⟩
          have HE1 := Lib.hid e1
          have HE2 := Lib.hid e2
          rw [c2] at FT
          clear c c2 e1 e2
          go_wp2
          go_region_with (go_at_call 52; refine (FT.out _).mono ?_; rintro e w' ⟨rfl, rfl⟩)
          all_goals (go_wp2; go_ret; exact ⟨Ne.retI HE1.out.symm, by rw [HE2.out]; exact HSAME.out _ (Ne.below_drew (HB1W.out.trans (HBW.out.mono HB1W.out.size)))⟩)
      · have hji : ¬ (j : Int) < (M : Int) := by omega
        obtain ⟨e1, e2⟩ := HE0.out fun y hy => HNO.out y (by rw [List.take_of_length_le (by rw [← HM.out]; omega)]; exact hy)
        have HE1 := Lib.hid e1
        have HE2 := Lib.hid e2
        have HF2 := Lib.hid (fun w2 => HFINAL.out w2 e2)
        have HLN := Lib.hid (show ∀ j, (Sp.addL vs (L.take j) d).length = nv from fun j => by rw [Sp.addL_len, ← HNV.out])
        have hbu := Ne.But.of_below (b := gv) HBW.out
        have HB1 := Lib.hid hbu
        have HV1 := Lib.hid (Rw.own_below HV01.out HBW.out)
        have HLTN := Lib.hid (show ∀ j y, L[j]? = some y → y < nv ∧ y < vs.length ∧ Sp.fits (Ne.amt vs y) d = true from fun j y hy => ⟨HLT.out y (List.mem_of_getElem? hy), by rw [← HNV.out]; exact HLT.out y (List.mem_of_getElem? hy), HNO.out y (by rw [List.take_of_length_le (by rw [← HM.out]; omega)]; exact List.mem_of_getElem? hy)⟩)
        clear e1 e2 hbu HE3 HE0 n0 hjg HNO HFINAL
        go_wp2
        go_loopg [9] M (fun gg sk wz => ∃ j : Nat, sk = .int .i64 j ∧ j + gg = M ∧ Hid (Ne.OwnL wz B (.slice (some ⟨gv, 0, none⟩) nv c) (Sp.addL vs (L.take j) d)) ∧ Hid (Ne.But gv w1 wz))
        case atStart => exact ⟨0, rfl, by omega, HV1, HB1⟩
        case round =>
          obtain ⟨j, rfl, hjg, HVZ, HBZ⟩ := hrel
          by_cases hj : j < M
          · have hji : (j : Int) < (M : Int) := by omega
            have hj0 : (0 : Int) ≤ (j : Int) := by omega
            have hjl : j < L.length := by rw [← HM.out]; exact hj
            have hy : L[j]? = some (L.getD j 0) := by rw [List.getD_eq_getElem?_getD, List.getElem?_eq_getElem hjl]; rfl
            obtain ⟨bl, olf, rfl, hbl, d0⟩ := Ne.irow_cell (HIB.out _ HBZ.out) (i := j) (by rw [Ne.encW_len]; exact hjl)
            rw [Ne.encW_at hjl] at d0
            generalize L.getD j 0 = y at *
            obtain ⟨hyn, hyv, hfit⟩ := HLTN.out j y hy
            obtain ⟨hs1, hs2⟩ := HSTEP.out j y hy hyv
            have hyi : (y : Int) < (nv : Int) := by omega
            have hy0 : (0 : Int) ≤ (y : Int) := by omega
            have hbd := HBD.out y hyn
            have hput := Ne.own_put Ne.encI_len HVZ.out (i := y) (x := Ne.amt vs y) (y := Ne.amt vs y + d) (by rw [← hs1]; exact Ne.at_amt (by rw [HLN.out]; exact hyn)) (j := 0) (by omega) (u := .int .i64 (Ne.amt vs y + d)) rfl
            rw [hs2, Nat.mul_one, Nat.add_zero] at hput
            have HPUT := Lib.hid hput
            have HBS := Lib.hid (HBZ.out.set y (.int .i64 (Ne.amt vs y + d)))
            obtain ⟨bq, oq, e, hbq, d1⟩ := Ne.irow_cell (Ne.own_irow HVZ.out) (i := y) (by rw [HLN.out]; exact hyn)
            cases e
            rw [hs1, Nat.zero_add] at d1
            have hfz := Sp.own_free HVZ.out y
            have n0 := (World.cell?_of_block (w := w1) (HBZ.out.block p hpl1 hpg)).trans HN01.out
            have hsum : IntKind.i64.wrap (Ne.amt vs y + d) = Ne.amt vs y + d := by
              have := (Sp.fits_iff _ _ hbd).1 hfit
              unfold Sp.big at this
              rw [IntKind.wrap_i64]; omega
            generalize Ne.amt vs y = ay at *
            clear hput hs1 hs2 hfit hbd hy hyn hyv
            go_wp2
            go_region
            all_goals (go_wp2; go_roundg (M - (j + 1)); (case measure => omega); (case rel => exact ⟨j + 1, by go_num, by omega, Lib.hid (Rw.own_below HPUT.out (Ne.below_drew (Below.refl _ _))), Lib.hid (HBS.out.then (Ne.below_drew (Below.refl _ _)))⟩))
          · have hji : ¬ (j : Int) < (M : Int) := by omega
            have HVL := Lib.hid (show Ne.OwnL wr B (.slice (some ⟨gv, 0, none⟩) nv c) (Sp.addL vs L d) from by
              have h := HVZ.out
              rwa [List.take_of_length_le (by rw [← HM.out]; omega)] at h)
            have HFIN := Lib.hid (HF2.out wr HVL.out ((Ne.But.of_below HB1W.out).trans HBZ.out))
            go_wp2
            go_ret
            exact ⟨Ne.retI HE1.out.symm, HFIN.out⟩
end
end Fo
end Go.Proofs.Ytjhodnpmogkmmaa
