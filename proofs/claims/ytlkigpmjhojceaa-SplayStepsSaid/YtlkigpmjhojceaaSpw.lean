/-
  Stage 9: contracts of the document's forest: Turn, Add. Condition: fewer than a million rows.
-/
import Derived.Test.YtlkigpmjhojceaaSpq
import Derived.Test.YtlkigpmjhojceaaSpr
import Derived.RegionTactic
import Derived.BigRegion
namespace Go.Proofs.Ytlkigpmjhojceaa
open Go.ChangeShapes Go.WideShapes Go.ChangeAt Go.RowKit
set_option linter.unusedVariables false
set_option linter.unusedSimpArgs false
namespace Sp
section
variable {w : World} {B p m : Nat} {F : Nat → Prop} {s : St}
theorem rev_take {l : List Nat} {j q : Nat} (h : q + j + 1 = l.length) : l.reverse.take (j + 1) = l.reverse.take j ++ [l.getD q 0] := by
  rw [List.take_add_one]
  congr 1
  rw [List.getElem?_reverse (by omega), show l.length - 1 - j = q by omega, List.getD_eq_getElem?_getD, List.getElem?_eq_getElem (by omega)]
  rfl
theorem len_small {s : St} (h : Good s) (x : Int) : (rowZ s x).length ≤ 3000 := Nat.le_trans (rowZ_len h x) h.small
set_option maxRecDepth 100000 in
set_option maxHeartbeats 4000000 in
theorem rturn_any (h : RefP w B F p s m) (hm : m ≤ 900000) (hBw : B ≤ w.heap.size) (x : Int) :
    Calls Try.prog 41 #[.pointer (some ⟨p, 0, none⟩), .int .i64 x] w fun e w' => e = .returned (.tuple #[]) ∧ RefP w' B (Ext F w w') p (turnS s x) m ∧ Off F w w' := by
  obtain ⟨vv, rv, Ks, RS, h, hcnt, hF, hf⟩ := h
  obtain ⟨i0, hA⟩ := at_exists h.rep x
  have AT := Lib.hid (rat_any h (by omega) hA)
  have hll := len_small h.rep.good x
  obtain ⟨o, c, hv, hc, hrow⟩ := h.row
  subst hv
  rcases hA with ⟨h1, rfl⟩ | ⟨h1, i, rfl, h2⟩
  · have e : turnS s x = s := by unfold turnS; rw [h1]; simp
    rw [e]
    have HP := Lib.hid (show RefP w B (Ext F w w) p s m from ⟨_, _, _, _, h, hcnt, fun g hg => .inl (hF g hg), fun g hg => by
      rcases hg with c | c
      · exact hf g c
      · omega⟩)
    clear hrow h hF hf
    go_enter Try.func41, Try.ntmps41
    go_wp2_with fail
    refine AT.out.mono ?_
    rintro e w1 ⟨rfl, rfl⟩
    go_wp2
    refine bodyPost_ret (results_none rfl _ _ _) rfl ?_
    exact ⟨rfl, HP.out, Off.refl _ _⟩
  · have hi := (List.getElem?_eq_some_iff.1 h2).1
    obtain ⟨g, k, rfl, hg, hk, hkl, c0, hown⟩ := hrow i _ h2
    have HIR := Lib.hid (Ne.own_irow hown)
    have HN1 := Lib.hid (fblk_cells h.blk).2
    have HC0 := Lib.hid c0
    have HFZ := Lib.hid (show ∀ o, w.frozen? ⟨g, o, none⟩ = false from by
      obtain ⟨g', e, _, _, _, hz⟩ := Ne.own_cells encS_len (show Rw.Own 38 1 encS w B (.slice (some ⟨g, 0, none⟩) RS.length c) Ks from h.rows) hk
      cases e; exact hz)
    have HPUT := Lib.hid (fun (wr : World) (K : RowC) hb hK => (refK_put (w2 := wr) ⟨h.toRefM, hF, hf⟩ hBw hb hi (K := K) (l := (rowZ s x).reverse) hK))
    have HREP := Lib.hid (rep_turn h.rep h2)
    have hvv : (turnS s x).v = s.v := rfl
    rw [← hvv] at HPUT
    clear hvv
    have hpl := fblk_lt h.blk
    have hcnt2 := hcnt
    have hii : (i : Int) < (RS.length : Int) := by omega
    have hi0 : (0 : Int) ≤ (i : Int) := by omega
    have hin : ¬ (i : Int) < 0 := by omega
    have hset : (RS.set i (rowZ s x).reverse).length = RS.length := List.length_set
    generalize turnS s x = s2 at *
    generalize rowZ s x = L at *
    obtain ⟨M, hM⟩ : ∃ M, M = L.length := ⟨_, rfl⟩
    rw [← hM] at HC0 hll
    have HM := Lib.hid hM
    have HEND := Lib.hid (fun (v : Value) (wr : World) (hv : Ne.OwnI wr w.heap.size v (Ne.encW L.reverse)) (hb : Below w.heap.size w wr) => show RefP (wr.setCell ⟨g, i, none⟩ v) B (Ext F w (wr.setCell ⟨g, i, none⟩ v)) p s2 m ∧ Off F w (wr.setCell ⟨g, i, none⟩ v) from by
      obtain ⟨o3, c3, e3, _⟩ := Rw.own_row Ne.encI_len hv
      subst e3
      obtain ⟨g1, g2⟩ := HPUT.out wr ⟨o3, _, c3⟩ hb hv
      exact ⟨g1.refP HREP.out (by rw [hset]; exact hcnt2), g2⟩)
    generalize k.o = ko at *
    generalize k.cap = kc at *
    generalize RS.length = n at *
    clear hrow h hown hk hkl h1 h2 hF hf c0 hc hset HPUT HREP hM hcnt2
    go_enter Try.func41, Try.ntmps41
    have n1 := HN1.out
    have c0 := HC0.out
    go_wp2_with fail
    refine AT.out.mono ?_
    rintro e w1 ⟨rfl, rfl⟩
    have hwm : IntKind.i64.wrap ((M : Int) - 1) = (M : Int) - 1 := by rw [IntKind.wrap_i64]; omega
    go_wp2
    clear n1 c0
    go_loopg [5, 6] M (fun gg sl sk wr => ∃ (j : Nat) (v : Value) (z : Int), v = sl ∧ sk = .int .i64 z ∧ z = (M : Int) - 1 - (j : Int) ∧ j + gg = M ∧ Hid (Ne.OwnI wr w.heap.size v (Ne.encW (L.reverse.take j))) ∧ Hid (Below w.heap.size w wr))
    case atStart => exact ⟨0, _, _, rfl, rfl, by omega, by omega, Lib.hid (Rw.own_nil _ _), Lib.hid (Below.refl _ _)⟩
    case round =>
      obtain ⟨j, v, z, rfl, rfl, hz, hjg, HOW, HBW⟩ := hrel
      have n1 := (HBW.out.cell (p := ⟨p, 1, none⟩) hpl).trans HN1.out
      have c0 := (HBW.out.cell (p := ⟨g, i, none⟩) hg).trans HC0.out
      by_cases hj : j < M
      · obtain ⟨q, rfl⟩ : ∃ q : Nat, z = (q : Int) := ⟨z.toNat, by omega⟩
        have hqj : q + j + 1 = L.length := by rw [← HM.out]; omega
        have hq0 : (0 : Int) ≤ (q : Int) := by omega
        have hqM : (q : Int) < (M : Int) := by omega
        have hqw : IntKind.i64.wrap ((q : Int) - 1) = (q : Int) - 1 := by rw [IntKind.wrap_i64]; omega
        have HZ := Lib.hid hz
        clear hz
        obtain ⟨b, off, rfl, hb, d0⟩ := Ne.irow_cell (HIR.out.kept HBW.out) (i := q) (by rw [Ne.encW_len]; omega)
        rw [Ne.encW_at (by omega)] at d0
        have HST := Lib.hid (show Ne.encW (L.reverse.take (j + 1)) = Ne.encW (L.reverse.take j) ++ [((L.getD q 0 : Nat) : Int)] by rw [rev_take hqj, Ne.encW_snoc])
        have HLN := Lib.hid (show (Ne.encW (L.reverse.take j)).length + ([((L.getD q 0 : Nat) : Int)] : List Int).length ≤ 1099511627776 by rw [Ne.encW_len, List.length_take, List.length_reverse, ← HM.out]; simp; omega)
        clear hqj
        generalize L.getD q 0 = y at *
        generalize Ne.encW (L.reverse.take j) = FJ at *
        have HO3 := Lib.hid (Rw.own_alloc HOW.out (.cells #[.int .i64 (y : Int)] 3))
        have HR3 := Lib.hid (Ne.irow_one' wr rfl (y : Int) 3)
        have HVB := Lib.hid (Rw.own_block HOW.out)
        have HB3 := Lib.hid (HBW.out.alloc HBW.out.size (.cells #[.int .i64 (y : Int)] 3))
        have HZ3 := Lib.hid HB3.out.size
        go_wp2_with (at_builtin; refine Rw.app Ne.elemI Ne.encI_len Ne.encI_one rfl (.tmp 25) (.tmp 36) rfl w.heap.size _ FJ rfl HO3.out (some ⟨wr.heap.size, 0, none⟩) 1 [(y : Int)] rfl ?hnn HR3.out HLN.out ?hB ?_; (case hnn => (intro h; cases h)); (case hB => (exact HZ3.out)); intro v4 w4' hown4 hgr4; rw [← HST.out] at hown4; have HB8 := Lib.hid (HB3.out.grown hgr4 HZ3.out HVB.out); have HO8 := Lib.hid hown4; clear hown4 hgr4)
        go_roundg (M - (j + 1))
        case measure => omega
        case rel => exact ⟨j + 1, _, _, rfl, by go_num, by have := HZ.out; omega, by omega, HO8, HB8⟩
      · have hz1 : z = -1 := by omega
        subst hz1
        clear hz
        have HVL := Lib.hid (show Ne.OwnI wr w.heap.size v (Ne.encW L.reverse) by
          have h := HOW.out
          rwa [List.take_of_length_le (by rw [List.length_reverse, ← HM.out]; omega)] at h)
        have hfz := (HBW.out.frozen (p := ⟨g, i, none⟩) hg).trans (HFZ.out i)
        have HFIN := Lib.hid (HEND.out v wr HVL.out HBW.out)
        obtain ⟨o3, c3, hv3, _⟩ := Rw.own_row Ne.encI_len HVL.out
        rw [Ne.encW_len, List.length_reverse, ← HM.out] at hv3
        subst hv3
        go_wp2
        go_end0
        exact ⟨rfl, HFIN.out.1, HFIN.out.2⟩
theorem own_free {α : Type} {e : TypeId} {k : Nat} {enc : α → List Value} {w : World} {B g n c : Nat} {xs : List α} (h : Rw.Own e k enc w B (.slice (some ⟨g, 0, none⟩) n c) xs) (o : Nat) : w.frozen? ⟨g, o, none⟩ = false := by
  obtain ⟨_, h2⟩ := h
  rcases h2 with ⟨hv, _⟩ | ⟨g', cap2, cur, hv, hg, hh, _⟩
  · simp at hv
  · simp only [Value.slice.injEq, Option.some.injEq, Addr.mk.injEq, and_true, true_and] at hv
    obtain ⟨rfl, _⟩ := hv
    simp [World.frozen?, hh]
theorem addL_step {v : List Int} {l : List Nat} {d : Int} {j y : Nat} (hn : l.Nodup) (hy : l[j]? = some y) (hv : y < v.length) :
    Ne.amt (addL v (l.take j) d) y = Ne.amt v y ∧ (addL v (l.take j) d).set y (Ne.amt v y + d) = addL v (l.take (j + 1)) d := by
  have hno : y ∉ l.take j := fun c => by
    have hj := (List.getElem?_eq_some_iff.1 hy).1
    have h1 := hn.sublist (List.take_sublist (j + 1) l)
    rw [List.take_add_one, hy] at h1
    exact (List.nodup_append.1 h1).2.2 y c y (by simp) rfl
  have e1 : Ne.amt (addL v (l.take j) d) y = Ne.amt v y := by rw [addL_at hv, if_neg hno]
  refine ⟨e1, Ne.ext_amt (by simp [addL_len]) fun i hi => ?_⟩
  have hi' : i < v.length := by simpa [addL_len] using hi
  rw [Ne.amt_set _ (by rw [addL_len]; exact hv), addL_at hi', addL_at hi', List.take_add_one, hy]
  by_cases c : i = y
  · subst c; simp
  · rw [if_neg c]
    by_cases c2 : i ∈ l.take j
    · rw [if_pos c2, if_pos (by simp [c2])]
    · rw [if_neg c2, if_neg (by simp [c2, c])]
theorem refO_add {w w2 : World} {vv rv : Value} {Ks : List RowC} {RS : List (List Nat)} {gv n c : Nat} (h : RefO w B p (.slice (some ⟨gv, 0, none⟩) n c) rv Ks RS s) {s2 : St} (hr : Rep RS s2) (hv : Ne.OwnL w2 B (.slice (some ⟨gv, 0, none⟩) n c) s2.v) (hb : Ne.But gv w w2) : RefO w2 B p (.slice (some ⟨gv, 0, none⟩) n c) rv Ks RS s2 :=
  ⟨⟨fblk_same h.blk (hb.block p (fblk_lt h.blk) fun e => fblk_own h.blk (by decide) h.vals (by show some gv = some p; rw [e])), h.low, hv,
    Ne.own_same h.rows fun g hg => hb.block g (Rw.own_lt h.rows g hg).2 fun e => Ne.own_types (by decide) h.rows h.vals g hg (by show some gv = some g; rw [e]), h.len,
    fun i k l hi hl => Ne.own_same (h.each i k l hi hl) fun g hg => hb.block g (Rw.own_lt (h.each i k l hi hl) g hg).2 fun e => Ne.own_types (by decide) (h.each i k l hi hl) h.vals g hg (by show some gv = some g; rw [e])⟩, hr⟩
set_option maxRecDepth 100000 in
set_option maxHeartbeats 8000000 in
theorem radd_any (h : RefP w B F p s m) (hm : m ≤ 900000) (hBw : B ≤ w.heap.size) (x d : Int) (hd : -9223372036854775808 ≤ d ∧ d ≤ 9223372036854775807) :
    Calls Try.prog 42 #[.pointer (some ⟨p, 0, none⟩), .int .i64 x, .int .i64 d] w fun e w' => e = .returned (.int .i64 (addE s x d)) ∧ RefP w' B (Ext F w w') p (addS s x d) m ∧ Off F w w' := by
  have hP := h
  obtain ⟨vv, rv, Ks, RS, h, hcnt, hF, hf⟩ := h
  have RW := Lib.hid (rrow_own h (by omega) x)
  have hext : ∀ w' : World, w'.heap.size = w.heap.size → ∀ g, Ext F w w' g → F g := fun w' e g hg => by
    rcases hg with c | c
    · exact c
    · omega
  have HSAME := Lib.hid (show ∀ w' : World, Below w.heap.size w w' → RefP w' B (Ext F w w') p s m ∧ Off F w w' from fun w' hb => by
    refine ⟨(hP.kept hb).mono (fun g hg => .inl hg) fun g hg => ?_, .of_below hb⟩
    rcases hg with c | c
    · have := hf g c; have := hb.size; omega
    · omega)
  by_cases c0 : rowZ s x = []
  · have e1 : addE s x d = 4 := by unfold addE; rw [if_pos c0]
    have e2 : addS s x d = s := by unfold addS; rw [if_neg (by rw [e1]; decide)]
    rw [e1, e2]
    rw [c0] at RW
    clear h hP hF hf hext
    go_enter Try.func42, Try.ntmps42
    go_wp2_with fail
    refine RW.out.mono ?_
    rintro e w1 ⟨o, cc, rfl, _, rfl⟩
    go_wp2
    go_ret
    exact ⟨rfl, HSAME.out _ (Below.refl _ _)⟩
  · obtain ⟨hx1, hx2, hx3⟩ := rowZ_self h.rep.good c0
    obtain ⟨o, c, hv, hc, _⟩ := Rw.own_row Ne.encI_len h.vals
    subst hv
    have hvals := h.vals
    obtain ⟨gv, e, hgv1, hgv2, _, hgv3⟩ := Ne.own_cells Ne.encI_len hvals (Ne.at_amt hx3)
    subst e
    have HFZ := Lib.hid hgv3
    have HN0 := Lib.hid (fblk_cells h.blk).1
    have hpl := fblk_lt h.blk
    have hpg : p ≠ gv := fun e => fblk_own h.blk (by decide) h.vals (by show some gv = some p; rw [e])
    have hll := len_small h.rep.good x
    have hnd := rowZ_nodup h.rep.good x
    have HLT := Lib.hid (show ∀ y ∈ rowZ s x, y < s.v.length from fun y hy => rowZ_lt h.rep.good hy)
    have HBD := Lib.hid h.rep.good.bnd
    have HSTEP := Lib.hid (fun (j y : Nat) hy hv => addL_step (v := s.v) (l := rowZ s x) (d := d) (j := j) (y := y) hnd hy hv)
    have HE3 := Lib.hid (show (∃ i ∈ rowZ s x, fits (Ne.amt s.v i) d = false) → addE s x d = 3 ∧ addS s x d = s from fun ⟨i, h1, h2⟩ => by
      have e1 : addE s x d = 3 := by
        unfold addE; rw [if_neg c0, if_neg fun c => by have := c i h1; rw [this] at h2; cases h2]
      exact ⟨e1, by unfold addS; rw [if_neg (by rw [e1]; decide)]⟩)
    have HE0 := Lib.hid (show (∀ i ∈ rowZ s x, fits (Ne.amt s.v i) d = true) → addE s x d = 0 ∧ addS s x d = ⟨addL s.v (rowZ s x) d, s.r⟩ from fun h1 => by
      have e1 : addE s x d = 0 := by unfold addE; rw [if_neg c0, if_pos h1]
      exact ⟨e1, by unfold addS; rw [if_pos e1]⟩)
    have HREP := Lib.hid (rep_add h.rep x d)
    have HFINAL := Lib.hid (show ∀ w2 : World, addS s x d = ⟨addL s.v (rowZ s x) d, s.r⟩ → Ne.OwnL w2 B (.slice (some ⟨gv, 0, none⟩) s.v.length c) (addL s.v (rowZ s x) d) → Ne.But gv w w2 → RefP w2 B (Ext F w w2) p (addS s x d) m ∧ Off F w w2 from fun w2 e hv hb => by
      refine ⟨⟨_, _, _, _, refO_add (vv := rv) h HREP.out (by rw [e]; exact hv) hb, hcnt, fun g hg => .inl (hF g hg), fun g hg => ?_⟩, ⟨hb.os, hb.tape, hb.output, hb.size, fun k h1 h2 => hb.block k h1 fun e => h2 (hF k (.inr (.inl (by rw [e]; rfl))))⟩⟩
      rcases hg with c | c
      · have := hf g c; have := hb.size; omega
      · omega)
    have HV0 := Lib.hid (show Ne.OwnL w B (.slice (some ⟨gv, 0, none⟩) s.v.length c) (addL s.v ((rowZ s x).take 0) d) from by
      have : addL s.v ((rowZ s x).take 0) d = s.v := Ne.ext_amt (by simp [addL_len]) fun i hi => by rw [addL_at (by simpa [addL_len] using hi)]; simp
      rw [this]; exact hvals)
    generalize addE s x d = er at *
    generalize addS s x d = s2 at *
    generalize hLL : rowZ s x = L at *
    clear h hP hF hf hext hc hvals hLL HREP hnd hgv3
    obtain ⟨M, hM⟩ : ∃ M, M = L.length := ⟨_, rfl⟩
    have hM0 : 0 < M := by rw [hM]; exact Nat.pos_of_ne_zero fun e => c0 (List.length_eq_zero_iff.1 e)
    rw [← hM] at RW hll
    have HM := Lib.hid hM
    have z1 : ((M : Int) == 0) = false := by simp; omega
    have z2 : (M == 0) = false := by simp; omega
    generalize hvs : s.v = vs at *
    clear hvs
    obtain ⟨nv, hnv⟩ : ∃ nv, nv = vs.length := ⟨_, rfl⟩
    rw [← hnv] at HN0 HLT HBD HFINAL HV0 hx3
    have HNV := Lib.hid hnv
    clear hM hnv c0 hx1
    go_enter Try.func42, Try.ntmps42
    go_wp2_with fail
    refine RW.out.mono ?_
    rintro e w1 ⟨ol, cl, rfl, hi, rfl⟩
    have HIR := Lib.hid (Ne.own_irow hi)
    have HIB := Lib.hid (show ∀ wz, Ne.But gv w wz → Ne.IRow wz ol (Ne.encW L) from fun wz hb => Ne.own_irow (Ne.own_same hi fun g hg => hb.block g (Rw.own_lt hi g hg).2 fun e => Ne.own_types (by decide) hi HV0.out g hg (by show some gv = some g; rw [e])))
    clear hi
    go_wp2
    go_loopg [8] M (fun gg sk wr => ∃ j : Nat, sk = .int .i64 j ∧ j + gg = M ∧ Hid (∀ y ∈ L.take j, fits (Ne.amt vs y) d = true) ∧ Hid (Below w.heap.size w wr))
    case atStart => exact ⟨0, rfl, by omega, Lib.hid (by simp), Lib.hid (Below.refl _ _)⟩
    case round =>
      obtain ⟨j, rfl, hjg, HNO, HBW⟩ := hrel
      have n0 := (HBW.out.cell (p := ⟨p, 0, none⟩) hpl).trans HN0.out
      by_cases hj : j < M
      · have hji : (j : Int) < (M : Int) := by omega
        have hj0 : (0 : Int) ≤ (j : Int) := by omega
        have hjl : j < L.length := by rw [← HM.out]; exact hj
        have hy : L[j]? = some (L.getD j 0) := by rw [List.getD_eq_getElem?_getD, List.getElem?_eq_getElem hjl]; rfl
        obtain ⟨bl, olf, rfl, hbl, d0⟩ := Ne.irow_cell (HIR.out.kept HBW.out) (i := j) (by rw [Ne.encW_len]; exact hjl)
        rw [Ne.encW_at hjl] at d0
        generalize L.getD j 0 = y at *
        have hym := List.mem_of_getElem? hy
        have hyn := HLT.out y hym
        have hyi : (y : Int) < (nv : Int) := by omega
        have hy0 : (0 : Int) ≤ (y : Int) := by omega
        have hbd := HBD.out y hyn
        have d1 : wr.cell? ⟨gv, y, none⟩ = some (.int .i64 (Ne.amt vs y)) := by
          have h1 := Ne.irow_cell (Ne.own_irow HV0.out) (i := y) (by rw [addL_len, ← HNV.out]; exact hyn)
          obtain ⟨b, off, e, hb, hc1⟩ := h1
          cases e
          rw [addL_at (by rw [← HNV.out]; exact hyn)] at hc1
          simp only [List.take_zero, List.not_mem_nil, if_false, Nat.zero_add] at hc1
          exact (HBW.out.cell (p := ⟨gv, y, none⟩) hgv2).trans hc1
        generalize hay : Ne.amt vs y = ay at *
        have HAY := Lib.hid hay
        clear hay
        have FT := Lib.hid fun w' => rfits_any ay d w' (by unfold big at hbd; omega) hd
        have HY := Lib.hid hy
        clear hy hbd hyn
        by_cases c : fits ay d = true
        · have HNO2 := Lib.hid (show ∀ z ∈ L.take (j + 1), fits (Ne.amt vs z) d = true from by
            intro z hz
            rw [List.take_add_one, HY.out] at hz
            rcases List.mem_append.1 hz with h1 | h1
            · exact HNO.out z h1
            · simp at h1; subst h1; rw [HAY.out]; exact c)
          rw [c] at FT
          clear c
          go_wp2
          go_region_with (go_at_call 59; refine (FT.out _).mono ?_; rintro e w' ⟨rfl, rfl⟩)
          all_goals (go_wp2; go_roundg (M - (j + 1)); (case measure => omega); (case rel => exact ⟨j + 1, by go_num, by omega, HNO2, Lib.hid (Ne.below_drew HBW.out)⟩))
        · have c2 : fits ay d = false := by simpa using c
          obtain ⟨e1, e2⟩ := HE3.out ⟨y, hym, by rw [HAY.out]; exact c2⟩
          have HE1 := Lib.hid e1
          have HE2 := Lib.hid e2
          rw [c2] at FT
          clear c c2 e1 e2
          go_wp2
          go_region_with (go_at_call 59; refine (FT.out _).mono ?_; rintro e w' ⟨rfl, rfl⟩)
          all_goals (go_wp2; go_ret; exact ⟨Ne.retI HE1.out.symm, by rw [HE2.out]; exact HSAME.out _ (Ne.below_drew HBW.out)⟩)
      · have hji : ¬ (j : Int) < (M : Int) := by omega
        obtain ⟨e1, e2⟩ := HE0.out fun y hy => HNO.out y (by rw [List.take_of_length_le (by rw [← HM.out]; omega)]; exact hy)
        have HE1 := Lib.hid e1
        have HE2 := Lib.hid e2
        have HF2 := Lib.hid (fun w2 => HFINAL.out w2 e2)
        have HLN := Lib.hid (show ∀ j, (addL vs (L.take j) d).length = nv from fun j => by rw [addL_len, ← HNV.out])
        have hbu := Ne.But.of_below (b := gv) HBW.out
        have HB1 := Lib.hid hbu
        have HV1 := Lib.hid (Rw.own_below HV0.out HBW.out)
        have HLTN := Lib.hid (show ∀ j y, L[j]? = some y → y < nv ∧ y < vs.length ∧ fits (Ne.amt vs y) d = true from fun j y hy => ⟨HLT.out y (List.mem_of_getElem? hy), by rw [← HNV.out]; exact HLT.out y (List.mem_of_getElem? hy), HNO.out y (by rw [List.take_of_length_le (by rw [← HM.out]; omega)]; exact List.mem_of_getElem? hy)⟩)
        clear e1 e2 hbu HE3 HE0 n0 hjg HNO HFINAL
        go_wp2
        go_loopg [9] M (fun gg sk wz => ∃ j : Nat, sk = .int .i64 j ∧ j + gg = M ∧ Hid (Ne.OwnL wz B (.slice (some ⟨gv, 0, none⟩) nv c) (addL vs (L.take j) d)) ∧ Hid (Ne.But gv w wz))
        case atStart => exact ⟨0, rfl, by omega, HV1, HB1⟩
        case round =>
          obtain ⟨j, rfl, hjg, HVZ, HBZ⟩ := hrel
          by_cases hj : j < M
          · have hji : (j : Int) < (M : Int) := by omega
            have hj0 : (0 : Int) ≤ (j : Int) := by omega
            have hjl : j < L.length := by rw [← HM.out]; exact hj
            have hy : L[j]? = some (L.getD j 0) := by rw [List.getD_eq_getElem?_getD, List.getElem?_eq_getElem hjl]; rfl
            obtain ⟨bl, olf, rfl, hbl, d0⟩ := Ne.irow_cell (HIB.out _ HBZ.out) (i := j) (by rw [Ne.encW_len]; exact hjl)
            rw [Ne.encW_at hjl] at d0
            generalize L.getD j 0 = y at *
            obtain ⟨hyn, hyv, hfit⟩ := HLTN.out j y hy
            obtain ⟨hs1, hs2⟩ := HSTEP.out j y hy hyv
            have hyi : (y : Int) < (nv : Int) := by omega
            have hy0 : (0 : Int) ≤ (y : Int) := by omega
            have hbd := HBD.out y hyn
            have hput := Ne.own_put Ne.encI_len HVZ.out (i := y) (x := Ne.amt vs y) (y := Ne.amt vs y + d) (by rw [← hs1]; exact Ne.at_amt (by rw [HLN.out]; exact hyn)) (j := 0) (by omega) (u := .int .i64 (Ne.amt vs y + d)) rfl
            rw [hs2, Nat.mul_one, Nat.add_zero] at hput
            have HPUT := Lib.hid hput
            have HBS := Lib.hid (HBZ.out.set y (.int .i64 (Ne.amt vs y + d)))
            obtain ⟨bq, oq, e, hbq, d1⟩ := Ne.irow_cell (Ne.own_irow HVZ.out) (i := y) (by rw [HLN.out]; exact hyn)
            cases e
            rw [hs1, Nat.zero_add] at d1
            have hfz := own_free HVZ.out y
            have n0 := (World.cell?_of_block (w := w) (HBZ.out.block p hpl hpg)).trans HN0.out
            have hsum : IntKind.i64.wrap (Ne.amt vs y + d) = Ne.amt vs y + d := by
              have := (fits_iff _ _ hbd).1 hfit
              unfold big at this
              rw [IntKind.wrap_i64]; omega
            generalize Ne.amt vs y = ay at *
            clear hput hs1 hs2 hfit hbd hy hyn hyv
            go_wp2
            go_region
            all_goals (go_wp2; go_roundg (M - (j + 1)); (case measure => omega); (case rel => exact ⟨j + 1, by go_num, by omega, Lib.hid (Rw.own_below HPUT.out (Ne.below_drew (Below.refl _ _))), Lib.hid (HBS.out.then (Ne.below_drew (Below.refl _ _)))⟩))
          · have hji : ¬ (j : Int) < (M : Int) := by omega
            have HVL := Lib.hid (show Ne.OwnL wr B (.slice (some ⟨gv, 0, none⟩) nv c) (addL vs L d) from by
              have h := HVZ.out
              rwa [List.take_of_length_le (by rw [← HM.out]; omega)] at h)
            have HFIN := Lib.hid (HF2.out wr HVL.out HBZ.out)
            go_wp2
            go_ret
            exact ⟨Ne.retI HE1.out.symm, HFIN.out⟩
end
end Sp
end Go.Proofs.Ytlkigpmjhojceaa
