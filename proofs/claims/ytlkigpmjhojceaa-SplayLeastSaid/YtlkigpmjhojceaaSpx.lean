/-
  Stage 9: contracts of the document's forest: New, Join, Split. Condition: fewer than a million rows. (Written by wip/tools/gen-Spx.py.)
-/
import Derived.Test.YtlkigpmjhojceaaSpw
namespace Go.Proofs.Ytlkigpmjhojceaa
open Go.ChangeShapes Go.WideShapes Go.ChangeAt Go.RowKit
set_option linter.unusedVariables false
set_option linter.unusedSimpArgs false
namespace Sp
theorem ret2 {v : Value} {k : IntKind} {a b : Int} (h : a = b) : Ending.returned (.tuple #[v, .int k a]) = .returned (.tuple #[v, .int k b]) := by rw [h]
theorem own_one (w : World) (B : Nat) (hB : B ≤ w.heap.size) (x : Int) : Ne.OwnI (w.alloc (.cells #[.int .i64 x] 3)) B (.slice (some ⟨w.heap.size, 0, none⟩) 1 1) [x] := by
  refine ⟨by simp [Ne.encI], .inr ⟨w.heap.size, 1, #[.int .i64 x], rfl, hB, ?_, by simp, by simp [maxLen], by simp, by simp [Ne.encI]⟩⟩
  show (w.heap.push _)[w.heap.size]? = _
  simp
theorem row_one_s (w : World) {b : Nat} (hb : b = w.heap.size) (K : RowC) : Rw.Row 1 encS (w.alloc (.cells #[.slice K.o K.len K.cap] 38)) (some ⟨b, 0, none⟩) [K] := by
  subst hb
  refine .inr ⟨w.heap.size, 0, rfl, by simp, fun i x hi j v hv => ?_⟩
  have h0 : i = 0 := by
    rcases i with _ | i
    · rfl
    · simp at hi
  subst h0
  simp at hi
  subst hi
  have h1 : j = 0 := by
    rcases j with _ | j
    · rfl
    · simp [encS] at hv
  subst h1
  simp [encS] at hv
  subst hv
  exact World.cell?_alloc_new w _ _ 0
theorem irow_take {w : World} {o : Option Addr} {l : List Int} (h : Ne.IRow w o l) (k : Nat) : Ne.IRow w o (l.take k) := by
  rcases h with h | ⟨b, off, rfl, hb, hc⟩
  · subst h; left; simp
  · refine .inr ⟨b, off, rfl, hb, fun i x hi => hc i x ?_⟩
    rw [List.getElem?_take] at hi
    split at hi
    · exact hi
    · cases hi
theorem irow_drop {w : World} {b : Nat} {l : List Int} (h : Ne.IRow w (some ⟨b, 0, none⟩) l) (k : Nat) : Ne.IRow w (some ⟨b, k, none⟩) (l.drop k) := by
  rcases h with h | ⟨b', off, e, hb, hc⟩
  · subst h; left; simp
  · cases e
    refine .inr ⟨b, k, rfl, hb, fun i x hi j v hv => ?_⟩
    rw [List.getElem?_drop] at hi
    have := hc (k + i) x hi j v hv
    rw [← this]; congr 2; omega
theorem encW_take (l : List Nat) (k : Nat) : Ne.encW (l.take k) = (Ne.encW l).take k := by simp [Ne.encW]
theorem encW_drop (l : List Nat) (k : Nat) : Ne.encW (l.drop k) = (Ne.encW l).drop k := by simp [Ne.encW]
section
variable {w : World} {B p m : Nat} {F : Nat → Prop} {s : St}
theorem new_long {vs : List Int} (h : 3000 < vs.length) : newE vs = 1 := by unfold newE; rw [if_pos h]
theorem new_wrong {vs : List Int} (h : ¬ 3000 < vs.length) {i : Nat} (hi : i < vs.length) (hx : ¬ (-4611686018427387904 ≤ Ne.amt vs i ∧ Ne.amt vs i ≤ 4611686018427387904)) : newE vs = 3 := by
  unfold newE; rw [if_neg h, if_neg fun c => hx (c i hi)]
theorem new_right {vs : List Int} (h : ¬ 3000 < vs.length) (hx : ∀ i, i < vs.length → (-4611686018427387904 ≤ Ne.amt vs i ∧ Ne.amt vs i ≤ 4611686018427387904)) : newE vs = 0 := by
  unfold newE; rw [if_neg h, if_pos hx]
set_option maxRecDepth 100000 in
set_option maxHeartbeats 8000000 in
theorem rnew_any (ao : Option Addr) (cap : Nat) (vs : List Int) (w : World) (hr : Ne.IRow w ao vs) (hn : ao = none → cap = 0) :
    Calls Try.prog 12 #[.slice ao vs.length cap] w fun e w' => Below w.heap.size w w' ∧ ∃ pv, e = .returned (.tuple #[pv, .int .i64 (newE vs)]) ∧ (newE vs ≠ 0 → pv = .pointer none) ∧
      (newE vs = 0 → ∃ p, pv = .pointer (some ⟨p, 0, none⟩) ∧ RefP w' w.heap.size (fun g => w.heap.size ≤ g ∧ g < w'.heap.size) p (newS vs) 0) := by
  by_cases c0 : 3000 < vs.length
  · rw [new_long c0]
    have c0' : (3000 : Int) < (vs.length : Int) := by omega
    go_enter Try.func12, Try.ntmps12
    go_wp2
    go_ret2
    exact ⟨Below.refl _ _, _, rfl, fun _ => rfl, fun h => by cases h⟩
  · have c0' : ¬ (3000 : Int) < (vs.length : Int) := by omega
    have HW3 := Lib.hid (fun i (hi : i < vs.length) hx => new_wrong c0 hi hx)
    have HW0 := Lib.hid (fun hx => new_right (vs := vs) c0 hx)
    have HREP := Lib.hid (fun he => rep_new (vs := vs) he)
    have HRN := Lib.hid hr
    have HR1 := Lib.hid (hr.kept ((Below.refl _ _).alloc (Nat.le_refl _) (.cells #[] 2)))
    obtain ⟨n, hnn⟩ : ∃ n, n = vs.length := ⟨_, rfl⟩
    rw [← hnn] at c0 c0' ⊢
    have HNN := Lib.hid hnn
    have HL := Lib.hid (show ([] : List Int).length + vs.length ≤ 1099511627776 by simp; omega)
    generalize newE vs = er at *
    clear hnn
    go_enter Try.func12, Try.ntmps12
    go_wp2_with (at_builtin; refine Rw.app Ne.elemL Ne.encI_len Ne.encI_one rfl (.tmp 9) (.tmp 10) rfl w.heap.size _ ([] : List Int) rfl (Ne.own_empty w _ (Nat.le_refl _)) ao cap vs (by rw [← HNN.out]; rfl) hn HR1.out HL.out ?hB ?_; (case hB => (simp)); intro v2 w2 hown2 hgr2; rw [List.nil_append] at hown2; have HO2 := Lib.hid hown2; have HB2 := Lib.hid (((Below.refl w.heap.size w).alloc (Nat.le_refl _) (.cells #[] 2)).grown hgr2 (by simp) (Rw.own_block (Ne.own_empty (α := Int) (k := 1) (enc := Ne.encI) (e := 2) w w.heap.size (Nat.le_refl _)))); obtain ⟨o2, c2, hv2, _⟩ := Rw.own_row Ne.encI_len hown2; rw [← HNN.out] at hv2; subst hv2; clear hown2 hgr2)
    have HM3 := Lib.hid (show RefM (w2.alloc (.cells #[.slice o2 n c2, .slice none 0 0] 65)) w.heap.size w2.heap.size (.slice o2 n c2) (.slice none 0 0) [] ((List.range 0).map fun i => [i]) vs from ⟨fblk_new w2 rfl _ _, HB2.out.size, Rw.own_alloc HO2.out _, Rw.own_nil _ _, rfl, fun i k l h => by simp at h⟩)
    have HB3 := Lib.hid (HB2.out.alloc HB2.out.size (.cells #[.slice o2 n c2, .slice none 0 0] 65))
    obtain ⟨p, hp⟩ : ∃ p, p = w2.heap.size := ⟨_, rfl⟩
    have HPL := Lib.hid (show w.heap.size ≤ p by rw [hp]; exact HB2.out.size)
    rw [← hp] at HM3 ⊢
    clear hp
    generalize (w2.alloc (.cells #[.slice o2 n c2, .slice none 0 0] 65)) = W3 at *
    clear HO2 HB2 HR1 HL
    go_loopg [5] n (fun gg si wr => ∃ (k : Nat) (rv : Value) (Ks : List RowC), si = .int .i64 k ∧ k + gg = n ∧ Hid (RefM wr w.heap.size p (.slice o2 n c2) rv Ks ((List.range k).map fun i => [i]) vs) ∧ Hid (Below w.heap.size w wr) ∧ Hid (∀ i, i < k → (-4611686018427387904 ≤ Ne.amt vs i ∧ Ne.amt vs i ≤ 4611686018427387904)))
    case atStart => exact ⟨0, _, _, rfl, by omega, HM3, HB3, Lib.hid (fun i hi => absurd hi (by omega))⟩
    case round =>
      obtain ⟨k, rv, Ks, rfl, hkg, HMW, HBW, HOK⟩ := hrel
      by_cases hk : k < n
      · have hki : (k : Int) < (n : Int) := by omega
        have hk0 : (0 : Int) ≤ (k : Int) := by omega
        obtain ⟨b, off, rfl, hb, d0⟩ := Ne.irow_cell (HRN.out.kept HBW.out) (i := k) (by rw [← HNN.out]; exact hk)
        by_cases c : -4611686018427387904 ≤ Ne.amt vs k ∧ Ne.amt vs k ≤ 4611686018427387904
        · have WI := Lib.hid (fun w' => rwithin_any (Ne.amt vs k) w')
          rw [decide_eq_true c] at WI
          have HOK2 := Lib.hid (show ∀ i, i < k + 1 → (-4611686018427387904 ≤ Ne.amt vs i ∧ Ne.amt vs i ≤ 4611686018427387904) from fun i hi => by
            by_cases e : i = k
            · subst e; exact c
            · exact HOK.out i (by omega))
          generalize Ne.amt vs k = av at *
          clear c
          obtain ⟨n0, n1⟩ := fblk_cells HMW.out.blk
          have HKL := Lib.hid HMW.out.len
          obtain ⟨o5, c5, hv5, _⟩ := Rw.own_row encS_len HMW.out.rows
          have hKn : Ks.length = k := by rw [HKL.out]; simp
          rw [hKn] at hv5
          subst hv5
          have HKN := Lib.hid hKn
          clear hKn
          have HBA := Lib.hid ((HBW.out.alloc HBW.out.size (.cells #[.int .i64 (k : Int)] 3)).alloc (by have := HBW.out.size; simp; omega) (.cells #[.slice (some ⟨wr.heap.size, 0, none⟩) 1 1] 38))
          have HMA := Lib.hid (HMW.out.kept (((Below.refl wr.heap.size wr).alloc (Nat.le_refl _) (.cells #[.int .i64 (k : Int)] 3)).alloc (by simp) (.cells #[.slice (some ⟨wr.heap.size, 0, none⟩) 1 1] 38)))
          have HO1 := Lib.hid (Rw.own_alloc (own_one wr w.heap.size HBW.out.size (k : Int)) (.cells #[.slice (some ⟨wr.heap.size, 0, none⟩) 1 1] 38))
          have HKR := Lib.hid (row_one_s (wr.alloc (.cells #[.int .i64 (k : Int)] 3)) (b := wr.heap.size + 1) (by simp) ⟨some ⟨wr.heap.size, 0, none⟩, 1, 1⟩)
          have HLN := Lib.hid (show Ks.length + ([⟨some ⟨wr.heap.size, 0, none⟩, 1, 1⟩] : List RowC).length ≤ 1099511627776 by rw [HKN.out]; simp; omega)
          have HRS := Lib.hid (show ((List.range (k + 1)).map fun i => [i]) = ((List.range k).map fun i => [i]) ++ [[k]] by rw [List.range_succ, List.map_append]; rfl)
          go_wp2_with fail
          refine (WI.out _).mono ?_
          rintro e w' ⟨rfl, rfl⟩
          go_wp2_with (at_builtin; refine Rw.appAt elemS encS_len encS_one rfl (.tmp 30) (.tmp 33) rfl w.heap.size _ Ks rfl HMA.out.rows ⟨wr.heap.size + 1, 0, none⟩ 1 [⟨some ⟨wr.heap.size, 0, none⟩, 1, 1⟩] rfl HKR.out HLN.out HBA.out.size ?_; intro v6 w6 hown6 hgr6 hat6; have HM6 := Lib.hid (HMA.out.snoc (K := ⟨some ⟨wr.heap.size, 0, none⟩, 1, 1⟩) (l := [k]) HO1.out hgr6 hown6); have HB6 := Lib.hid (HBA.out.grown hgr6 HBA.out.size (Rw.own_block HMA.out.rows)); have hfb := fblk_same HMA.out.blk (hgr6.block p (fblk_lt HMA.out.blk) fun e => fblk_own HMA.out.blk (by decide) HMA.out.rows e.symm); have hfz := fblk_frozen hfb 1; have n16 := (fblk_cells hfb).2; obtain ⟨o6, c6, hv6, _⟩ := Rw.own_row encS_len hown6; rw [List.length_append, HKN.out, List.length_singleton] at hv6; subst hv6; clear hown6 hgr6 hat6)
          go_roundg (n - (k + 1))
          case measure => omega
          case rel => exact ⟨k + 1, _, _, by go_num, by omega, Lib.hid (by rw [HRS.out]; exact HM6.out), Lib.hid (HB6.out.setCell (p := ⟨p, 1, none⟩) HPL.out _), HOK2⟩
        · have WI := Lib.hid (fun w' => rwithin_any (Ne.amt vs k) w')
          rw [decide_eq_false c] at WI
          have HE := Lib.hid (HW3.out k (by rw [← HNN.out]; exact hk) c)
          generalize Ne.amt vs k = av at *
          clear c
          go_wp2_with fail
          refine (WI.out _).mono ?_
          rintro e w' ⟨rfl, rfl⟩
          go_wp2
          go_ret2
          exact ⟨HBW.out, _, ret2 HE.out.symm, fun _ => rfl, fun h => by rw [HE.out] at h; cases h⟩
      · have ek : k = n := by omega
        subst k
        have he : er = 0 := HW0.out fun i hi => HOK.out i (by rw [HNN.out]; exact hi)
        have HE := Lib.hid he
        have HFIN := Lib.hid (show RefP wr w.heap.size (fun g => w.heap.size ≤ g ∧ g < wr.heap.size) p (newS vs) 0 from by
          have hR := HREP.out he
          rw [← HNN.out] at hR
          exact RefK.refP (s := newS vs) ⟨HMW.out, fun g hg => HMW.out.in g hg, fun g hg => hg⟩ hR (by simp; omega))
        clear he
        go_wp2
        go_ret2
        exact ⟨HBW.out, _, ret2 HE.out.symm, fun h => absurd HE.out h, fun _ => ⟨p, rfl, HFIN.out⟩⟩
theorem ext_in {w w2 : World} {B : Nat} {F : Nat → Prop} (hf : ∀ g, F g → B ≤ g ∧ g < w.heap.size) (hBw : B ≤ w.heap.size) (hs : w.heap.size ≤ w2.heap.size) : ∀ g, Ext F w w2 g → B ≤ g ∧ g < w2.heap.size := fun g hg => by
  rcases hg with c | c
  · have := hf g c; omega
  · omega
theorem off_two {w w2 w3 : World} {F : Nat → Prop} (h1 : Off F w w2) (h2 : Off (Ext F w w2) w2 w3) : Off F w w3 := h1.trans h2 fun g hg => by
  rcases hg with c | c
  · exact .inl c
  · exact .inr c.1
theorem refP_same (h : RefP w B F p s m) (hBw : B ≤ w.heap.size) : ∀ w' : World, Below w.heap.size w w' → RefP w' B (Ext F w w') p s m ∧ Off F w w' := fun w' hb =>
  ⟨(h.kept hb).mono (fun g hg => .inl hg) (ext_in h.fin hBw hb.size), .of_below hb⟩
set_option maxRecDepth 100000 in
set_option maxHeartbeats 8000000 in
theorem rjoin_any (h : RefP w B F p s m) (hm : m ≤ 900000) (hBw : B ≤ w.heap.size) (a b : Int) :
    Calls Try.prog 39 #[.pointer (some ⟨p, 0, none⟩), .int .i64 a, .int .i64 b] w fun e w' => e = .returned (.int .i64 (joinE s a b)) ∧ RefP w' B (Ext F w w') p (joinS s a b) m ∧ Off F w w' := by
  have HSAME := Lib.hid (refP_same h hBw)
  obtain ⟨vv, rv, Ks, RS, h, hcnt, hF, hf⟩ := h
  obtain ⟨ia, hA⟩ := at_exists h.rep a
  obtain ⟨ib, hB⟩ := at_exists h.rep b
  have AT := Lib.hid (rat_any h (by omega) hA)
  have BT := Lib.hid (rat_any h (by omega) hB)
  by_cases c0 : rowZ s a = [] ∨ rowZ s b = []
  · have e1 : joinE s a b = 4 := by unfold joinE; rw [if_pos c0]
    have e2 : joinS s a b = s := by unfold joinS; rw [if_neg (by rw [e1]; decide)]
    rw [e1, e2]
    by_cases ca : ia < 0
    · have ca' : decide (ia < 0) = true := by simpa using ca
      clear h hF hf
      go_enter Try.func39, Try.ntmps39
      go_wp2_with fail
      refine AT.out.mono ?_
      rintro e w1 ⟨rfl, rfl⟩
      go_wp2_with fail
      refine BT.out.mono ?_
      rintro e w1 ⟨rfl, rfl⟩
      go_wp2
      go_ret
      exact ⟨rfl, HSAME.out _ (Below.refl _ _)⟩
    · have ca' : decide (ia < 0) = false := by simpa using ca
      have cb : ib < 0 := by
        rcases c0 with c | c
        · rcases hA with ⟨_, e⟩ | ⟨e, _⟩
          · omega
          · exact absurd c e
        · rcases hB with ⟨_, e⟩ | ⟨e, _⟩
          · omega
          · exact absurd c e
      clear h hF hf
      go_enter Try.func39, Try.ntmps39
      go_wp2_with fail
      refine AT.out.mono ?_
      rintro e w1 ⟨rfl, rfl⟩
      go_wp2_with fail
      refine BT.out.mono ?_
      rintro e w1 ⟨rfl, rfl⟩
      go_wp2
      go_ret
      exact ⟨rfl, HSAME.out _ (Below.refl _ _)⟩
  · have ca : rowZ s a ≠ [] := fun c => c0 (.inl c)
    have cb : rowZ s b ≠ [] := fun c => c0 (.inr c)
    rcases hA with ⟨e, _⟩ | ⟨_, i, rfl, hi⟩
    · exact absurd e ca
    rcases hB with ⟨e, _⟩ | ⟨_, k, rfl, hk⟩
    · exact absurd e cb
    have ia' : decide ((i : Int) < 0) = false := by simp
    have ia2 : ¬ (i : Int) < 0 := by omega
    have ib2 : ¬ (k : Int) < 0 := by omega
    have hbm := (rowZ_self h.rep.good cb).1
    by_cases c1 : i = k
    · have e1 : joinE s a b = 5 := by
        unfold joinE; rw [if_neg c0, if_pos]
        rw [← c1, hi] at hk
        rw [Option.some.inj hk]; exact hbm
      have e2 : joinS s a b = s := by unfold joinS; rw [if_neg (by rw [e1]; decide)]
      rw [e1, e2]
      subst c1
      have c1' : ((i : Int) == (i : Int)) = true := by simp
      clear h hF hf
      go_enter Try.func39, Try.ntmps39
      go_wp2_with fail
      refine AT.out.mono ?_
      rintro e w1 ⟨rfl, rfl⟩
      go_wp2_with fail
      refine BT.out.mono ?_
      rintro e w1 ⟨rfl, rfl⟩
      go_wp2
      go_ret
      exact ⟨rfl, HSAME.out _ (Below.refl _ _)⟩
    · have e1 : joinE s a b = 0 := by
        unfold joinE; rw [if_neg c0, if_neg]
        intro c
        exact c1 (h.rep.one i k _ _ _ hi hk c hbm)
      have c1' : ((i : Int) == (k : Int)) = false := by simp; omega
      have HREP := Lib.hid (rep_join h.rep e1 hi hk c1)
      have hjv : (joinS s a b).v = s.v := by unfold joinS; split <;> rfl
      rw [e1]
      obtain ⟨o, c, hv, hc, hrow⟩ := h.row
      subst hv
      have hil := (List.getElem?_eq_some_iff.1 hi).1
      have hkl := (List.getElem?_eq_some_iff.1 hk).1
      obtain ⟨g, ka, rfl, hg, hka, hkal, c0q, howna⟩ := hrow i _ hi
      obtain ⟨g', kb, e, _, hkb, hkbl, c1q, hownb⟩ := hrow k _ hk
      cases e
      have n1 := (fblk_cells h.blk).2
      have hpl := fblk_lt h.blk
      have hpg : g ≠ p := fun e => fblk_own h.blk (by decide) h.rows (by show some g = some p; rw [e])
      have HFZ := Lib.hid (fun o => own_free h.rows o)
      have HKLT := Lib.hid (show k < Ks.length by rw [h.len]; exact hkl)
      have hla := len_small h.rep.good a
      have hlb := len_small h.rep.good b
      have hii : (i : Int) < (RS.length : Int) := by omega
      have hi0 : (0 : Int) ≤ (i : Int) := by omega
      have hki : (k : Int) < (RS.length : Int) := by omega
      have hk0 : (0 : Int) ≤ (k : Int) := by omega
      obtain ⟨oa, cca, e, _, _, _, _, _, hada⟩ := Rw.own_row Ne.encI_len howna
      obtain ⟨ob, ccb, e', _, _, _, _, _, hadb⟩ := Rw.own_row Ne.encI_len hownb
      simp only [Value.slice.injEq] at e e'
      obtain ⟨rfl, -, rfl⟩ := e
      obtain ⟨rfl, -, rfl⟩ := e'
      have hra := Ne.own_irow howna
      have hrb := Ne.own_irow hownb
      obtain ⟨ba, hba⟩ : ∃ ba, ka.o = some ⟨ba, 0, none⟩ := by
        rcases hra with e | ⟨x, off, e, _⟩
        · exact absurd (by simpa [Ne.encW] using e) ca
        · obtain ⟨x', hx'⟩ := hada _ e; exact ⟨x', by rw [e, hx']⟩
      obtain ⟨bb, hbb⟩ : ∃ bb, kb.o = some ⟨bb, 0, none⟩ := by
        rcases hrb with e | ⟨x, off, e, _⟩
        · exact absurd (by simpa [Ne.encW] using e) cb
        · obtain ⟨x', hx'⟩ := hadb _ e; exact ⟨x', by rw [e, hx']⟩
      have HPUT := Lib.hid (fun (w2 : World) (K : RowC) (hb : Below w.heap.size w w2) (hK : Ne.OwnI w2 w.heap.size K.val (Ne.encW (rowZ s a ++ rowZ s b))) => refK_put (w2 := w2) ⟨h.toRefM, hF, hf⟩ hBw hb hil (K := K) hK)
      have HFIN := Lib.hid (show ∀ (W1 : World) (Ks' : List RowC), RefK W1 B (Ext F w W1) p vv (.slice (some ⟨g, 0, none⟩) RS.length c) Ks' (RS.set i (rowZ s a ++ rowZ s b)) s.v → Off F w W1 → RefP (W1.setCell ⟨g, k, none⟩ (.slice none 0 0)) B (Ext F w (W1.setCell ⟨g, k, none⟩ (.slice none 0 0))) p (joinS s a b) m ∧ Off F w (W1.setCell ⟨g, k, none⟩ (.slice none 0 0)) from fun W1 Ks' h1 h2 => by
        have h3 := refK_put h1 (Nat.le_trans hBw h2.size) (Below.refl _ _) (i := k) (by rw [List.length_set]; exact hkl) (K := ⟨none, 0, 0⟩) (l := []) (Rw.own_nil _ _)
        have h4 := off_two h2 h3.2
        have h5 := h3.1.mono (fun g hg => ext_two hg h2.size h3.2.size) (ext_in hf hBw h4.size)
        rw [← hjv] at h5
        refine ⟨h5.refP HREP.out ?_, h4⟩
        rw [List.length_set, List.length_set]; exact hcnt)
      generalize joinS s a b = s2 at *
      have HMA := Lib.hid (show (rowZ s a).length = (Ne.encW (rowZ s a)).length by rw [Ne.encW_len])
      have HMB := Lib.hid (show (rowZ s b).length = (Ne.encW (rowZ s b)).length by rw [Ne.encW_len])
      rw [Ne.encW_app] at HPUT
      generalize rowZ s a ++ rowZ s b = AB at *
      rw [hba] at c0q hra
      rw [hbb] at c1q hrb
      have HRA := Lib.hid hra
      have HRB := Lib.hid hrb
      generalize ka.cap = ca2 at *
      generalize kb.cap = cb2 at *
      generalize Ne.encW (rowZ s a) = EA at *
      generalize Ne.encW (rowZ s b) = EB at *
      generalize (rowZ s a).length = MA at *
      generalize (rowZ s b).length = MB at *
      have hs1 : ([] : List Int).length + EA.length ≤ 1099511627776 := by simp; have := HMA.out; omega
      have hs2 : (([] : List Int) ++ EA).length + EB.length ≤ 1099511627776 := by simp; have := HMA.out; have := HMB.out; omega
      have HMM := Lib.hid (show (EA ++ EB).length = MA + MB by rw [List.length_append, ← HMA.out, ← HMB.out])
      generalize RS.length = n at *
      have HBE := Lib.hid (show Below w.heap.size w (w.alloc (.cells #[] 3)).drew from Ne.below_drew ((Below.refl w.heap.size w).alloc (Nat.le_refl _) (.cells #[] 3)))
      clear h hrow hka hkb hkal hkbl howna hownb hF hf hi hk hbm hjv hra hrb hba hbb hada hadb e1 HREP ca cb c0
      go_enter Try.func39, Try.ntmps39
      go_wp2_with fail
      refine AT.out.mono ?_
      rintro e w1 ⟨rfl, rfl⟩
      go_wp2_with fail
      refine BT.out.mono ?_
      rintro e w1 ⟨rfl, rfl⟩
      go_wp2
      have hS0 := (show (fun w' : World => w'.cell? ⟨p, 1, none⟩ = some (.slice (some ⟨g, 0, none⟩) n c) ∧ w'.cell? ⟨g, i, none⟩ = some (.slice (some ⟨ba, 0, none⟩) MA ca2) ∧ w'.cell? ⟨g, k, none⟩ = some (.slice (some ⟨bb, 0, none⟩) MB cb2)) w.drew from ⟨n1, c0q, c1q⟩)
      refine Rg.start (S := (fun w' : World => w'.cell? ⟨p, 1, none⟩ = some (.slice (some ⟨g, 0, none⟩) n c) ∧ w'.cell? ⟨g, i, none⟩ = some (.slice (some ⟨ba, 0, none⟩) MA ca2) ∧ w'.cell? ⟨g, k, none⟩ = some (.slice (some ⟨bb, 0, none⟩) MB cb2))) (last := 23) (by kernel_rfl) ?_
      refine Rg.take (i := 0) (v := ?_) 30 rfl (by kernel_rfl) (by kernel_rfl) (by kernel_rfl) (by kernel_rfl) (fun _ _ _ h => h) (Or.inl ⟨by rfl, ?_⟩) hS0 ?_
      rotate_left
      · intro w hSw
        go_simp
        try with_reducible rfl
      try simp only [Act.put, List.setIfInBounds_toArray, List.set_cons_zero, List.set_cons_succ]
      refine Rg.take (i := 1) (v := ?_) 30 rfl (by kernel_rfl) (by kernel_rfl) (by kernel_rfl) (by kernel_rfl) (fun _ _ _ h => h) (Or.inl ⟨by rfl, ?_⟩) hS0 ?_
      rotate_left
      · intro w hSw
        go_simp
        try with_reducible rfl
      try simp only [Act.put, List.setIfInBounds_toArray, List.set_cons_zero, List.set_cons_succ]
      refine Rg.take (i := 2) (v := ?_) 30 rfl (by kernel_rfl) (by kernel_rfl) (by kernel_rfl) (by kernel_rfl) (fun _ _ _ h => h) (Or.inl ⟨by rfl, ?_⟩) hS0 ?_
      rotate_left
      · intro w hSw
        go_simp
        try with_reducible rfl
      try simp only [Act.put, List.setIfInBounds_toArray, List.set_cons_zero, List.set_cons_succ]
      refine Rg.take (i := 3) (v := ?_) 30 rfl (by kernel_rfl) (by kernel_rfl) (by kernel_rfl) (by kernel_rfl) (fun _ _ _ h => h) (Or.inl ⟨by rfl, ?_⟩) hS0 ?_
      rotate_left
      · intro w hSw
        go_simp
        try with_reducible rfl
      try simp only [Act.put, List.setIfInBounds_toArray, List.set_cons_zero, List.set_cons_succ]
      refine Rg.take (i := 4) (v := ?_) 30 rfl (by kernel_rfl) (by kernel_rfl) (by kernel_rfl) (by kernel_rfl) (fun _ _ _ h => h) (Or.inl ⟨by rfl, ?_⟩) hS0 ?_
      rotate_left
      · intro w hSw
        go_simp
        try with_reducible rfl
      try simp only [Act.put, List.setIfInBounds_toArray, List.set_cons_zero, List.set_cons_succ]
      refine Rg.take (i := 6) (v := ?_) 30 rfl (by kernel_rfl) (by kernel_rfl) (by kernel_rfl) (by kernel_rfl) (fun _ _ _ h => h) (Or.inl ⟨by rfl, ?_⟩) hS0 ?_
      rotate_left
      · intro w hSw
        go_simp
        try with_reducible rfl
      try simp only [Act.put, List.setIfInBounds_toArray, List.set_cons_zero, List.set_cons_succ]
      refine Rg.take (i := 7) (v := ?_) 30 rfl (by kernel_rfl) (by kernel_rfl) (by kernel_rfl) (by kernel_rfl) (fun _ _ _ h => h) (Or.inl ⟨by rfl, ?_⟩) hS0 ?_
      rotate_left
      · intro w hSw
        go_simp
        try with_reducible rfl
      try simp only [Act.put, List.setIfInBounds_toArray, List.set_cons_zero, List.set_cons_succ]
      refine Rg.take (i := 8) (v := ?_) 30 rfl (by kernel_rfl) (by kernel_rfl) (by kernel_rfl) (by kernel_rfl) (fun _ _ _ h => h) (Or.inl ⟨by rfl, ?_⟩) hS0 ?_
      rotate_left
      · intro w hSw
        go_simp
        try with_reducible rfl
      try simp only [Act.put, List.setIfInBounds_toArray, List.set_cons_zero, List.set_cons_succ]
      refine Rg.take (i := 9) (v := ?_) 30 rfl (by kernel_rfl) (by kernel_rfl) (by kernel_rfl) (by kernel_rfl) (fun _ _ _ h => h) (Or.inl ⟨by rfl, ?_⟩) hS0 ?_
      rotate_left
      · intro w hSw
        go_simp
        try with_reducible rfl
      try simp only [Act.put, List.setIfInBounds_toArray, List.set_cons_zero, List.set_cons_succ]
      refine Rg.take (i := 10) (v := ?_) 30 rfl (by kernel_rfl) (by kernel_rfl) (by kernel_rfl) (by kernel_rfl) (fun _ _ _ h => h) (Or.inl ⟨by rfl, ?_⟩) hS0 ?_
      rotate_left
      · intro w hSw
        go_simp
        try with_reducible rfl
      try simp only [Act.put, List.setIfInBounds_toArray, List.set_cons_zero, List.set_cons_succ]
      refine Rg.take (i := 11) (v := ?_) 30 rfl (by kernel_rfl) (by kernel_rfl) (by kernel_rfl) (by kernel_rfl) (fun _ _ _ h => h) (Or.inl ⟨by rfl, ?_⟩) hS0 ?_
      rotate_left
      · intro w hSw
        go_simp
        try with_reducible rfl
      try simp only [Act.put, List.setIfInBounds_toArray, List.set_cons_zero, List.set_cons_succ]
      refine Rg.take (i := 12) (v := ?_) 30 rfl (by kernel_rfl) (by kernel_rfl) (by kernel_rfl) (by kernel_rfl) (fun _ _ _ h => h) (Or.inl ⟨by rfl, ?_⟩) hS0 ?_
      rotate_left
      · intro w hSw
        go_simp
        try with_reducible rfl
      try simp only [Act.put, List.setIfInBounds_toArray, List.set_cons_zero, List.set_cons_succ]
      refine Rg.take (i := 14) (v := ?_) 30 rfl (by kernel_rfl) (by kernel_rfl) (by kernel_rfl) (by kernel_rfl) (fun _ _ _ h => h) (Or.inl ⟨by rfl, ?_⟩) hS0 ?_
      rotate_left
      · intro w hSw
        go_simp
        try with_reducible rfl
      try simp only [Act.put, List.setIfInBounds_toArray, List.set_cons_zero, List.set_cons_succ]
      refine Rg.take (i := 15) (v := ?_) 30 rfl (by kernel_rfl) (by kernel_rfl) (by kernel_rfl) (by kernel_rfl) (fun _ _ _ h => h) (Or.inl ⟨by rfl, ?_⟩) hS0 ?_
      rotate_left
      · intro w hSw
        go_simp
        try with_reducible rfl
      try simp only [Act.put, List.setIfInBounds_toArray, List.set_cons_zero, List.set_cons_succ]
      refine Rg.take (i := 16) (v := ?_) 30 rfl (by kernel_rfl) (by kernel_rfl) (by kernel_rfl) (by kernel_rfl) (fun _ _ _ h => h) (Or.inl ⟨by rfl, ?_⟩) hS0 ?_
      rotate_left
      · intro w hSw
        go_simp
        try with_reducible rfl
      try simp only [Act.put, List.setIfInBounds_toArray, List.set_cons_zero, List.set_cons_succ]
      refine Rg.take (i := 17) (v := ?_) 30 rfl (by kernel_rfl) (by kernel_rfl) (by kernel_rfl) (by kernel_rfl) (fun _ _ _ h => h) (Or.inl ⟨by rfl, ?_⟩) hS0 ?_
      rotate_left
      · intro w hSw
        go_simp
        try with_reducible rfl
      try simp only [Act.put, List.setIfInBounds_toArray, List.set_cons_zero, List.set_cons_succ]
      refine Rg.take (i := 18) (v := ?_) 30 rfl (by kernel_rfl) (by kernel_rfl) (by kernel_rfl) (by kernel_rfl) (fun _ _ _ h => h) (Or.inl ⟨by rfl, ?_⟩) hS0 ?_
      rotate_left
      · intro w hSw
        go_simp
        try with_reducible rfl
      try simp only [Act.put, List.setIfInBounds_toArray, List.set_cons_zero, List.set_cons_succ]
      refine Rg.take (i := 19) (v := ?_) 30 rfl (by kernel_rfl) (by kernel_rfl) (by kernel_rfl) (by kernel_rfl) (fun _ _ _ h => h) (Or.inl ⟨by rfl, ?_⟩) hS0 ?_
      rotate_left
      · intro w hSw
        go_simp
        try with_reducible rfl
      try simp only [Act.put, List.setIfInBounds_toArray, List.set_cons_zero, List.set_cons_succ]
      refine Rg.take (i := 20) (v := ?_) 30 rfl (by kernel_rfl) (by kernel_rfl) (by kernel_rfl) (by kernel_rfl) (fun _ _ _ h => h) (Or.inl ⟨by rfl, ?_⟩) hS0 ?_
      rotate_left
      · intro w hSw
        go_simp
        try with_reducible rfl
      try simp only [Act.put, List.setIfInBounds_toArray, List.set_cons_zero, List.set_cons_succ]
      refine Rg.step (i := 5) (by kernel_rfl) rfl fun K' hK' => ?_
      have HK := Lib.hid hK'
      clear hK'
      go_simp
      refine HK.out _ _ ⟨fun _ => (show (fun w' : World => w'.cell? ⟨p, 1, none⟩ = some (.slice (some ⟨g, 0, none⟩) n c) ∧ w'.cell? ⟨g, i, none⟩ = some (.slice (some ⟨ba, 0, none⟩) MA ca2) ∧ w'.cell? ⟨g, k, none⟩ = some (.slice (some ⟨bb, 0, none⟩) MB cb2)) (w.alloc (.cells #[] 3)).drew from ⟨(HBE.out.cell (p := ⟨p, 1, none⟩) hpl).trans n1, (HBE.out.cell (p := ⟨g, i, none⟩) hg).trans c0q, (HBE.out.cell (p := ⟨g, k, none⟩) hg).trans c1q⟩), ?_⟩
      clear HK K'
      try simp only [Act.put, List.setIfInBounds_toArray, List.set_cons_zero, List.set_cons_succ]
      refine Rg.step (i := 13) (by kernel_rfl) rfl fun K' hK' => ?_
      refine Rw.stepAt Ne.elemI Ne.encI_len Ne.encI_one (by rfl) (.tmp 29) (.tmp 36) (by rfl) w.heap.size _ ([] : List Int) (by rfl) (show Ne.OwnI (w.alloc (.cells #[] 3)).drew _ _ _ from Ne.own_empty w w.heap.size (Nat.le_refl _)) ⟨ba, 0, none⟩ ca2 EA MA HMA.out (by rfl) (HRA.out.kept HBE.out) hs1 HBE.out.size ?_
      intro v1 w1 hown1 hgr1 hat1
      have E1 := Lib.hid (show Below w.heap.size w w1 from HBE.out.grown hgr1 HBE.out.size (fun g hg => by simp [Value.ownBlock] at hg; omega))
      have hSq := (show (fun w' : World => w'.cell? ⟨p, 1, none⟩ = some (.slice (some ⟨g, 0, none⟩) n c) ∧ w'.cell? ⟨g, i, none⟩ = some (.slice (some ⟨ba, 0, none⟩) MA ca2) ∧ w'.cell? ⟨g, k, none⟩ = some (.slice (some ⟨bb, 0, none⟩) MB cb2)) w1 from ⟨(E1.out.cell (p := ⟨p, 1, none⟩) hpl).trans n1, (E1.out.cell (p := ⟨g, i, none⟩) hg).trans c0q, (E1.out.cell (p := ⟨g, k, none⟩) hg).trans c1q⟩)
      refine hK' _ _ ⟨fun _ => hSq, ?_⟩
      clear hK' K'
      try simp only [Act.put, List.setIfInBounds_toArray, List.set_cons_zero, List.set_cons_succ]
      refine Rg.step (i := 21) (by kernel_rfl) rfl fun K' hK' => ?_
      refine Rw.stepAt Ne.elemI Ne.encI_len Ne.encI_one (by rfl) (.tmp 37) (.tmp 44) (by rfl) w.heap.size _ ([] ++ EA) (by rfl) hown1 ⟨bb, 0, none⟩ cb2 EB MB HMB.out (by rfl) (HRB.out.kept E1.out) hs2 E1.out.size ?_
      intro v2 w2 hown2 hgr2 hat2
      rw [List.nil_append] at hown2
      have E2 := Lib.hid (E1.out.grown hgr2 E1.out.size (Rw.own_block hown1))
      have hSr := (show (fun w' : World => w'.cell? ⟨p, 1, none⟩ = some (.slice (some ⟨g, 0, none⟩) n c) ∧ w'.cell? ⟨g, i, none⟩ = some (.slice (some ⟨ba, 0, none⟩) MA ca2) ∧ w'.cell? ⟨g, k, none⟩ = some (.slice (some ⟨bb, 0, none⟩) MB cb2)) w2 from ⟨(E2.out.cell (p := ⟨p, 1, none⟩) hpl).trans n1, (E2.out.cell (p := ⟨g, i, none⟩) hg).trans c0q, (E2.out.cell (p := ⟨g, k, none⟩) hg).trans c1q⟩)
      have hfz := (E2.out.frozen (p := ⟨g, i, none⟩) hg).trans (HFZ.out i)
      obtain ⟨o9, c9, hv9, _⟩ := Rw.own_row Ne.encI_len hown2
      rw [HMM.out] at hv9
      subst hv9
      refine hK' _ _ ⟨fun _ => hSr, ?_⟩
      clear hK' K'
      try simp only [Act.put, List.setIfInBounds_toArray, List.set_cons_zero, List.set_cons_succ]
      refine Rg.take (i := 22) (v := ?_) 30 rfl (by kernel_rfl) (by kernel_rfl) (by kernel_rfl) (by kernel_rfl) (fun _ _ _ h => h) (Or.inl ⟨by rfl, ?_⟩) hSr ?_
      rotate_left
      · intro w hSw
        go_simp
        try with_reducible rfl
      try simp only [Act.put, List.setIfInBounds_toArray, List.set_cons_zero, List.set_cons_succ]
      refine Rg.step (i := 23) (by kernel_rfl) rfl fun K' hK' => ?_
      have HK := Lib.hid hK'
      clear hK'
      go_simp
      refine HK.out _ _ ⟨fun h => absurd rfl h, ?_⟩
      clear HK K'
      try simp only [Act.put, List.setIfInBounds_toArray, List.set_cons_zero, List.set_cons_succ]
      refine Rg.finished (by kernel_rfl) ?_ _
      have HK1 := Lib.hid (HPUT.out w2 ⟨o9, MA + MB, c9⟩ E2.out hown2)
      simp only [RowC.val] at HK1
      generalize (w2.setCell ⟨g, i, none⟩ (.slice o9 (MA + MB) c9)) = W1 at *
      clear hown2 hat2 n1 c0q c1q hS0 hSq hSr hown1 hgr1 hat1 hgr2
      have n1 := (fblk_cells HK1.out.1.1.blk).2
      have hfz1 := own_free HK1.out.1.1.rows k
      obtain ⟨K2, hK2⟩ : ∃ K2, (Ks.set i ⟨o9, MA + MB, c9⟩)[k]? = some K2 := ⟨_, List.getElem?_eq_getElem (by rw [List.length_set]; exact HKLT.out)⟩
      obtain ⟨_, e2, _, _, hcs, _⟩ := Ne.own_cells encS_len HK1.out.1.1.rows hK2
      cases e2
      have ck := hcs 0 _ rfl
      rw [Nat.mul_one, Nat.add_zero] at ck
      clear hcs hK2
      have HFN := Lib.hid (HFIN.out W1 _ HK1.out.1 HK1.out.2)
      go_wp2
      go_ret
      exact ⟨rfl, HFN.out⟩
set_option maxRecDepth 100000 in
set_option maxHeartbeats 8000000 in
theorem rsplit_any (h : RefP w B F p s m) (hm : m ≤ 900000) (hBw : B ≤ w.heap.size) (x : Int) :
    Calls Try.prog 40 #[.pointer (some ⟨p, 0, none⟩), .int .i64 x] w fun e w' => e = .returned (.int .i64 (splitE s x)) ∧ RefP w' B (Ext F w w') p (splitS s x) (m + 1) ∧ Off F w w' := by
  have HSAME := Lib.hid (refP_same (h.grow (m2 := m + 1) (by omega)) hBw)
  obtain ⟨vv, rv, Ks, RS, h, hcnt, hF, hf⟩ := h
  obtain ⟨i0, hA⟩ := at_exists h.rep x
  have AT := Lib.hid (rat_any h (by omega) hA)
  by_cases c0 : rowZ s x = []
  · have e1 : splitE s x = 4 := by unfold splitE; rw [if_pos c0]
    have e2 : splitS s x = s := by unfold splitS cutR; rw [c0]; simp
    rw [e1, e2]
    have hneg : i0 = -1 := by
      rcases hA with ⟨_, e⟩ | ⟨e, _⟩
      · exact e
      · exact absurd c0 e
    subst hneg
    clear h hF hf
    go_enter Try.func40, Try.ntmps40
    go_wp2_with fail
    refine AT.out.mono ?_
    rintro e w1 ⟨rfl, rfl⟩
    go_wp2
    go_ret
    exact ⟨rfl, HSAME.out _ (Below.refl _ _)⟩
  · rcases hA with ⟨e, _⟩ | ⟨_, i, rfl, hi⟩
    · exact absurd e c0
    have PL := Lib.hid (rplace_any h (by omega) x)
    have ep : placeZ s x = ((rowZ s x).idxOf x.toNat : Nat) := by unfold placeZ; rw [if_neg c0]
    rw [ep] at PL
    have e1 : splitE s x = 0 := by unfold splitE; rw [if_neg c0]
    rw [e1]
    have hkM : (rowZ s x).idxOf x.toNat < (rowZ s x).length := List.idxOf_lt_length_of_mem (rowZ_self h.rep.good c0).1
    have e2 : splitS s x = cutR s (rowZ s x) ((rowZ s x).idxOf x.toNat) := rfl
    rw [e2]
    generalize (rowZ s x).idxOf x.toNat = k at *
    have HREP := Lib.hid (rep_cut h.rep hi k)
    have hjv : (cutR s (rowZ s x) k).v = s.v := rfl
    generalize cutR s (rowZ s x) k = s2 at *
    obtain ⟨o, c, hv, hc, hrow⟩ := h.row
    subst hv
    have hil := (List.getElem?_eq_some_iff.1 hi).1
    obtain ⟨g, ka, rfl, hg, hka, hkal, c0q, howna⟩ := hrow i _ hi
    have n1 := (fblk_cells h.blk).2
    have hpl := fblk_lt h.blk
    have HFZ := Lib.hid (fun o => own_free h.rows o)
    have hla := len_small h.rep.good x
    have hii : (i : Int) < (RS.length : Int) := by omega
    have hi0 : (0 : Int) ≤ (i : Int) := by omega
    have ia2 : ¬ (i : Int) < 0 := by omega
    obtain ⟨oa, cca, e, hcap, _, _, _, _, hada⟩ := Rw.own_row Ne.encI_len howna
    simp only [Value.slice.injEq] at e
    obtain ⟨rfl, -, rfl⟩ := e
    rw [Ne.encW_len] at hcap
    have hra := Ne.own_irow howna
    obtain ⟨ba, hba⟩ : ∃ ba, ka.o = some ⟨ba, 0, none⟩ := by
      rcases hra with e | ⟨x, off, e, _⟩
      · exact absurd (by simpa [Ne.encW] using e) c0
      · obtain ⟨x', hx'⟩ := hada _ e; exact ⟨x', by rw [e, hx']⟩
    rw [hba] at c0q hra howna
    have HOW := Lib.hid howna
    have HTYP := Lib.hid (show ∀ (w' : World) (v : Value), Ne.OwnI w' B (.slice (some ⟨ba, 0, none⟩) (rowZ s x).length ka.cap) (Ne.encW (rowZ s x)) → Ne.OwnI (w'.setCell ⟨g, i, none⟩ v) B (.slice (some ⟨ba, 0, none⟩) (rowZ s x).length ka.cap) (Ne.encW (rowZ s x)) from fun w' v hx => Rw.own_set hx (p := ⟨g, i, none⟩) (fun e => Ne.own_types (by decide) howna h.rows ba rfl (by show some g = some ba; rw [show g = ba from (by simpa [Value.ownBlock] using e : ba = g).symm])) _)
    have HPUT := Lib.hid (fun (w2 : World) (K : RowC) (hb : Below w.heap.size w w2) (hK : Ne.OwnI w2 w.heap.size K.val (Ne.encW ((rowZ s x).take k))) => refK_put (w2 := w2) ⟨h.toRefM, hF, hf⟩ hBw hb hil (K := K) hK)
    have HSN := Lib.hid (show ∀ (W1 : World) (Ks1 : List RowC), RefK W1 B (Ext F w W1) p vv (.slice (some ⟨g, 0, none⟩) RS.length c) Ks1 (RS.set i ((rowZ s x).take k)) s.v → Off F w W1 →
        ∀ (K : RowC) (v5 : Value) (w4 w5 : World), Below W1.heap.size W1 w4 → Ne.OwnI w4 W1.heap.size K.val (Ne.encW ((rowZ s x).drop k)) → w4.grownBy w5 (some g) → Rw.Own 38 1 encS w5 B v5 (Ks1 ++ [K]) → (v5.ownBlock = some g ∨ v5.ownBlock = some w4.heap.size) →
        RefP (w5.setCell ⟨p, 1, none⟩ v5) B (Ext F w (w5.setCell ⟨p, 1, none⟩ v5)) p s2 (m + 1) ∧ Off F w (w5.setCell ⟨p, 1, none⟩ v5) from fun W1 Ks1 h1 h2 K v5 w4 w5 hb hK hg hrow hat => by
      have h3 := refK_snoc h1 (Nat.le_trans hBw h2.size) hb hK (rv2 := v5) hg hrow hat
      have h4 := off_two h2 h3.2
      have h5 := h3.1.mono (fun g hg => ext_two hg h2.size h3.2.size) (ext_in hf hBw h4.size)
      rw [← hjv] at h5
      refine ⟨h5.refP HREP.out ?_, h4⟩
      simp; omega)
    have HKLN := Lib.hid (show Ks.length = RS.length from h.len)
    have HTK := Lib.hid (show k = (Ne.encW ((rowZ s x).take k)).length by rw [Ne.encW_len, List.length_take]; omega)
    have HDK := Lib.hid (show (rowZ s x).length - k = (Ne.encW ((rowZ s x).drop k)).length by rw [Ne.encW_len, List.length_drop])
    have hs1 : ([] : List Int).length + (Ne.encW ((rowZ s x).take k)).length ≤ 1099511627776 := by rw [Ne.encW_len, List.length_take]; simp; omega
    have hs2 : ([] : List Int).length + (Ne.encW ((rowZ s x).drop k)).length ≤ 1099511627776 := by rw [Ne.encW_len, List.length_drop]; simp; omega
    have HRT := Lib.hid (show Ne.IRow w (some ⟨ba, 0, none⟩) (Ne.encW ((rowZ s x).take k)) by rw [encW_take]; exact irow_take hra k)
    generalize ka.cap = ca at *
    generalize RS.length = n at *
    generalize rowZ s x = L at *
    obtain ⟨M, hM⟩ : ∃ M, M = L.length := ⟨_, rfl⟩
    rw [← hM] at c0q hla hkM hcap HDK HOW HTYP
    have kk1 : (k : Int) ≤ (ca : Int) := by omega
    have kk2 : (k : Int) ≤ (M : Int) := by omega
    have kk0 : (0 : Int) ≤ (k : Int) := by omega
    have kk3 : ¬ ca = k := by omega
    have HBE := Lib.hid (show Below w.heap.size w (w.alloc (.cells #[] 3)).drew from Ne.below_drew ((Below.refl w.heap.size w).alloc (Nat.le_refl _) (.cells #[] 3)))
    clear h hrow hka hkal howna hF hf hi hra hba hada HREP e1 e2 ep c0 hM hjv
    go_enter Try.func40, Try.ntmps40
    go_wp2_with fail
    refine AT.out.mono ?_
    rintro e w1 ⟨rfl, rfl⟩
    go_wp2_with fail
    refine PL.out.mono ?_
    rintro e w1 ⟨rfl, rfl⟩
    go_wp2
    have hS0 := (show (fun w' : World => w'.cell? ⟨p, 1, none⟩ = some (.slice (some ⟨g, 0, none⟩) n c) ∧ w'.cell? ⟨g, i, none⟩ = some (.slice (some ⟨ba, 0, none⟩) M ca)) w.drew from ⟨n1, c0q⟩)
    refine Rg.start (S := (fun w' : World => w'.cell? ⟨p, 1, none⟩ = some (.slice (some ⟨g, 0, none⟩) n c) ∧ w'.cell? ⟨g, i, none⟩ = some (.slice (some ⟨ba, 0, none⟩) M ca))) (last := 11) (by kernel_rfl) ?_
    refine Rg.take (i := 0) (v := ?_) 30 rfl (by kernel_rfl) (by kernel_rfl) (by kernel_rfl) (by kernel_rfl) (fun _ _ _ h => h) (Or.inl ⟨by rfl, ?_⟩) hS0 ?_
    rotate_left
    · intro w hSw
      go_simp
      try with_reducible rfl
    try simp only [Act.put, List.setIfInBounds_toArray, List.set_cons_zero, List.set_cons_succ]
    refine Rg.take (i := 1) (v := ?_) 30 rfl (by kernel_rfl) (by kernel_rfl) (by kernel_rfl) (by kernel_rfl) (fun _ _ _ h => h) (Or.inl ⟨by rfl, ?_⟩) hS0 ?_
    rotate_left
    · intro w hSw
      go_simp
      try with_reducible rfl
    try simp only [Act.put, List.setIfInBounds_toArray, List.set_cons_zero, List.set_cons_succ]
    refine Rg.take (i := 2) (v := ?_) 30 rfl (by kernel_rfl) (by kernel_rfl) (by kernel_rfl) (by kernel_rfl) (fun _ _ _ h => h) (Or.inl ⟨by rfl, ?_⟩) hS0 ?_
    rotate_left
    · intro w hSw
      go_simp
      try with_reducible rfl
    try simp only [Act.put, List.setIfInBounds_toArray, List.set_cons_zero, List.set_cons_succ]
    refine Rg.take (i := 3) (v := ?_) 30 rfl (by kernel_rfl) (by kernel_rfl) (by kernel_rfl) (by kernel_rfl) (fun _ _ _ h => h) (Or.inl ⟨by rfl, ?_⟩) hS0 ?_
    rotate_left
    · intro w hSw
      go_simp
      try with_reducible rfl
    try simp only [Act.put, List.setIfInBounds_toArray, List.set_cons_zero, List.set_cons_succ]
    refine Rg.take (i := 4) (v := ?_) 30 rfl (by kernel_rfl) (by kernel_rfl) (by kernel_rfl) (by kernel_rfl) (fun _ _ _ h => h) (Or.inl ⟨by rfl, ?_⟩) hS0 ?_
    rotate_left
    · intro w hSw
      go_simp
      try with_reducible rfl
    try simp only [Act.put, List.setIfInBounds_toArray, List.set_cons_zero, List.set_cons_succ]
    refine Rg.take (i := 6) (v := ?_) 30 rfl (by kernel_rfl) (by kernel_rfl) (by kernel_rfl) (by kernel_rfl) (fun _ _ _ h => h) (Or.inl ⟨by rfl, ?_⟩) hS0 ?_
    rotate_left
    · intro w hSw
      go_simp
      try with_reducible rfl
    try simp only [Act.put, List.setIfInBounds_toArray, List.set_cons_zero, List.set_cons_succ]
    refine Rg.take (i := 7) (v := ?_) 30 rfl (by kernel_rfl) (by kernel_rfl) (by kernel_rfl) (by kernel_rfl) (fun _ _ _ h => h) (Or.inl ⟨by rfl, ?_⟩) hS0 ?_
    rotate_left
    · intro w hSw
      go_simp
      try with_reducible rfl
    try simp only [Act.put, List.setIfInBounds_toArray, List.set_cons_zero, List.set_cons_succ]
    refine Rg.take (i := 8) (v := ?_) 30 rfl (by kernel_rfl) (by kernel_rfl) (by kernel_rfl) (by kernel_rfl) (fun _ _ _ h => h) (Or.inl ⟨by rfl, ?_⟩) hS0 ?_
    rotate_left
    · intro w hSw
      go_simp
      try with_reducible rfl
    try simp only [Act.put, List.setIfInBounds_toArray, List.set_cons_zero, List.set_cons_succ]
    refine Rg.step (i := 5) (by kernel_rfl) rfl fun K' hK' => ?_
    have HK := Lib.hid hK'
    clear hK'
    go_simp
    refine HK.out _ _ ⟨fun _ => (show (fun w' : World => w'.cell? ⟨p, 1, none⟩ = some (.slice (some ⟨g, 0, none⟩) n c) ∧ w'.cell? ⟨g, i, none⟩ = some (.slice (some ⟨ba, 0, none⟩) M ca)) (w.alloc (.cells #[] 3)).drew from ⟨(HBE.out.cell (p := ⟨p, 1, none⟩) hpl).trans n1, (HBE.out.cell (p := ⟨g, i, none⟩) hg).trans c0q⟩), ?_⟩
    clear HK K'
    try simp only [Act.put, List.setIfInBounds_toArray, List.set_cons_zero, List.set_cons_succ]
    refine Rg.step (i := 9) (by kernel_rfl) rfl fun K' hK' => ?_
    refine Rw.stepAt Ne.elemI Ne.encI_len Ne.encI_one (by rfl) (.tmp 28) (.tmp 31) (by rfl) w.heap.size _ ([] : List Int) (by rfl) (show Ne.OwnI (w.alloc (.cells #[] 3)).drew _ _ _ from Ne.own_empty w w.heap.size (Nat.le_refl _)) ⟨ba, 0, none⟩ ca (Ne.encW (L.take k)) k HTK.out (by rfl) (HRT.out.kept HBE.out) hs1 HBE.out.size ?_
    intro v1 w1 hown1 hgr1 hat1
    rw [List.nil_append] at hown1
    have E1 := Lib.hid (show Below w.heap.size w w1 from HBE.out.grown hgr1 HBE.out.size (fun g hg => by simp [Value.ownBlock] at hg; omega))
    have hSq := (show (fun w' : World => w'.cell? ⟨p, 1, none⟩ = some (.slice (some ⟨g, 0, none⟩) n c) ∧ w'.cell? ⟨g, i, none⟩ = some (.slice (some ⟨ba, 0, none⟩) M ca)) w1 from ⟨(E1.out.cell (p := ⟨p, 1, none⟩) hpl).trans n1, (E1.out.cell (p := ⟨g, i, none⟩) hg).trans c0q⟩)
    have hfz := (E1.out.frozen (p := ⟨g, i, none⟩) hg).trans (HFZ.out i)
    obtain ⟨o9, c9, hv9, _⟩ := Rw.own_row Ne.encI_len hown1
    rw [← HTK.out] at hv9
    subst hv9
    refine hK' _ _ ⟨fun _ => hSq, ?_⟩
    clear hK' K'
    try simp only [Act.put, List.setIfInBounds_toArray, List.set_cons_zero, List.set_cons_succ]
    refine Rg.take (i := 10) (v := ?_) 30 rfl (by kernel_rfl) (by kernel_rfl) (by kernel_rfl) (by kernel_rfl) (fun _ _ _ h => h) (Or.inl ⟨by rfl, ?_⟩) hSq ?_
    rotate_left
    · intro w hSw
      go_simp
      try with_reducible rfl
    try simp only [Act.put, List.setIfInBounds_toArray, List.set_cons_zero, List.set_cons_succ]
    refine Rg.step (i := 11) (by kernel_rfl) rfl fun K' hK' => ?_
    have HK := Lib.hid hK'
    clear hK'
    go_simp
    refine HK.out _ _ ⟨fun h => absurd rfl h, ?_⟩
    clear HK K'
    try simp only [Act.put, List.setIfInBounds_toArray, List.set_cons_zero, List.set_cons_succ]
    refine Rg.finished (by kernel_rfl) ?_ _
    have HK1 := Lib.hid (HPUT.out w1 ⟨o9, k, c9⟩ E1.out hown1)
    simp only [RowC.val] at HK1
    have HR1 := Lib.hid (HTYP.out w1 (.slice o9 k c9) (Rw.own_below HOW.out E1.out))
    generalize (w1.setCell ⟨g, i, none⟩ (.slice o9 k c9)) = W1 at *
    clear hown1 hat1 n1 c0q hS0 hSq hgr1
    have n1 := (fblk_cells HK1.out.1.1.blk).2
    have hpl1 := fblk_lt HK1.out.1.1.blk
    have hBw1 := Nat.le_trans hBw HK1.out.2.size
    have HEND := Lib.hid (fun (o8 : Option Addr) (c8 : Nat) => HSN.out W1 _ HK1.out.1 HK1.out.2 ⟨o8, M - k, c8⟩)
    have HRD := Lib.hid (show Ne.IRow W1 (some ⟨ba, k, none⟩) (Ne.encW (L.drop k)) by rw [encW_drop]; exact irow_drop (Ne.own_irow HR1.out) k)
    have HBE2 := Lib.hid (show Below W1.heap.size W1 (W1.alloc (.cells #[] 3)).drew from Ne.below_drew ((Below.refl W1.heap.size W1).alloc (Nat.le_refl _) (.cells #[] 3)))
    have HKL := Lib.hid (show ∀ K : RowC, (Ks.set i ⟨o9, k, c9⟩ ++ [K]).length = n + 1 from fun K => by rw [List.length_append, List.length_set, HKLN.out]; rfl)
    have hs3 : ∀ K : RowC, (Ks.set i ⟨o9, k, c9⟩).length + [K].length ≤ 1099511627776 := fun K => by rw [List.length_set, HKLN.out]; simp; omega
    have hn1 : (n : Nat) + 1 ≤ 1000000 := by omega
    clear HPUT HSN HFZ hfz
    go_wp2
    have hS0 := (show (fun w' : World => w'.cell? ⟨p, 1, none⟩ = some (.slice (some ⟨g, 0, none⟩) n c)) W1.drew from n1)
    refine Rg.start (S := (fun w' : World => w'.cell? ⟨p, 1, none⟩ = some (.slice (some ⟨g, 0, none⟩) n c))) (last := 14) (by kernel_rfl) ?_
    refine Rg.take (i := 0) (v := ?_) 30 rfl (by kernel_rfl) (by kernel_rfl) (by kernel_rfl) (by kernel_rfl) (fun _ _ _ h => h) (Or.inl ⟨by rfl, ?_⟩) hS0 ?_
    rotate_left
    · intro w hSw
      go_simp
      try with_reducible rfl
    try simp only [Act.put, List.setIfInBounds_toArray, List.set_cons_zero, List.set_cons_succ]
    refine Rg.take (i := 1) (v := ?_) 30 rfl (by kernel_rfl) (by kernel_rfl) (by kernel_rfl) (by kernel_rfl) (fun _ _ _ h => h) (Or.inl ⟨by rfl, ?_⟩) hS0 ?_
    rotate_left
    · intro w hSw
      go_simp
      try with_reducible rfl
    try simp only [Act.put, List.setIfInBounds_toArray, List.set_cons_zero, List.set_cons_succ]
    refine Rg.take (i := 2) (v := ?_) 30 rfl (by kernel_rfl) (by kernel_rfl) (by kernel_rfl) (by kernel_rfl) (fun _ _ _ h => h) (Or.inl ⟨by rfl, ?_⟩) hS0 ?_
    rotate_left
    · intro w hSw
      go_simp
      try with_reducible rfl
    try simp only [Act.put, List.setIfInBounds_toArray, List.set_cons_zero, List.set_cons_succ]
    refine Rg.take (i := 3) (v := ?_) 30 rfl (by kernel_rfl) (by kernel_rfl) (by kernel_rfl) (by kernel_rfl) (fun _ _ _ h => h) (Or.inl ⟨by rfl, ?_⟩) hS0 ?_
    rotate_left
    · intro w hSw
      go_simp
      try with_reducible rfl
    try simp only [Act.put, List.setIfInBounds_toArray, List.set_cons_zero, List.set_cons_succ]
    refine Rg.take (i := 4) (v := ?_) 30 rfl (by kernel_rfl) (by kernel_rfl) (by kernel_rfl) (by kernel_rfl) (fun _ _ _ h => h) (Or.inl ⟨by rfl, ?_⟩) hS0 ?_
    rotate_left
    · intro w hSw
      go_simp
      try with_reducible rfl
    try simp only [Act.put, List.setIfInBounds_toArray, List.set_cons_zero, List.set_cons_succ]
    refine Rg.take (i := 6) (v := ?_) 30 rfl (by kernel_rfl) (by kernel_rfl) (by kernel_rfl) (by kernel_rfl) (fun _ _ _ h => h) (Or.inl ⟨by rfl, ?_⟩) hS0 ?_
    rotate_left
    · intro w hSw
      go_simp
      try with_reducible rfl
    try simp only [Act.put, List.setIfInBounds_toArray, List.set_cons_zero, List.set_cons_succ]
    refine Rg.take (i := 7) (v := ?_) 30 rfl (by kernel_rfl) (by kernel_rfl) (by kernel_rfl) (by kernel_rfl) (fun _ _ _ h => h) (Or.inl ⟨by rfl, ?_⟩) hS0 ?_
    rotate_left
    · intro w hSw
      go_simp
      try with_reducible rfl
    try simp only [Act.put, List.setIfInBounds_toArray, List.set_cons_zero, List.set_cons_succ]
    refine Rg.take (i := 8) (v := ?_) 30 rfl (by kernel_rfl) (by kernel_rfl) (by kernel_rfl) (by kernel_rfl) (fun _ _ _ h => h) (Or.inl ⟨by rfl, ?_⟩) hS0 ?_
    rotate_left
    · intro w hSw
      go_simp
      try with_reducible rfl
    try simp only [Act.put, List.setIfInBounds_toArray, List.set_cons_zero, List.set_cons_succ]
    refine Rg.step (i := 5) (by kernel_rfl) rfl fun K' hK' => ?_
    have HK := Lib.hid hK'
    clear hK'
    go_simp
    refine HK.out _ _ ⟨fun _ => (show (fun w' : World => w'.cell? ⟨p, 1, none⟩ = some (.slice (some ⟨g, 0, none⟩) n c)) (W1.alloc (.cells #[] 3)).drew from (HBE2.out.cell (p := ⟨p, 1, none⟩) hpl1).trans n1), ?_⟩
    clear HK K'
    try simp only [Act.put, List.setIfInBounds_toArray, List.set_cons_zero, List.set_cons_succ]
    refine Rg.step (i := 9) (by kernel_rfl) rfl fun K' hK' => ?_
    refine Rw.stepAt Ne.elemI Ne.encI_len Ne.encI_one (by rfl) (.tmp 39) (.tmp 42) (by rfl) W1.heap.size _ ([] : List Int) (by rfl) (show Ne.OwnI (W1.alloc (.cells #[] 3)).drew _ _ _ from Ne.own_empty W1 W1.heap.size (Nat.le_refl _)) ⟨ba, k, none⟩ (ca - k) (Ne.encW (L.drop k)) (M - k) HDK.out (by rfl) (HRD.out.kept HBE2.out) hs2 HBE2.out.size ?_
    intro v3 w3 hown3 hgr3 hat3
    rw [List.nil_append] at hown3
    have E3 := Lib.hid (show Below W1.heap.size W1 w3 from HBE2.out.grown hgr3 HBE2.out.size (fun g hg => by simp [Value.ownBlock] at hg; omega))
    have hSq := (show (fun w' : World => w'.cell? ⟨p, 1, none⟩ = some (.slice (some ⟨g, 0, none⟩) n c)) w3 from (E3.out.cell (p := ⟨p, 1, none⟩) hpl1).trans n1)
    obtain ⟨o8, c8, hv8, _⟩ := Rw.own_row Ne.encI_len hown3
    rw [← HDK.out] at hv8
    subst hv8
    have HO3 := Lib.hid hown3
    have E4 := Lib.hid (E3.out.alloc E3.out.size (.cells #[.slice o8 (M - k) c8] 38))
    have HKR := Lib.hid (row_one_s w3 rfl ⟨o8, M - k, c8⟩)
    have HO4 := Lib.hid (Rw.own_alloc HO3.out (.cells #[.slice o8 (M - k) c8] 38))
    have HM4 := Lib.hid (HK1.out.1.kept E4.out)
    clear hown3 hgr3 hat3
    refine hK' _ _ ⟨fun _ => hSq, ?_⟩
    clear hK' K'
    try simp only [Act.put, List.setIfInBounds_toArray, List.set_cons_zero, List.set_cons_succ]
    refine Rg.step (i := 10) (by kernel_rfl) rfl fun K' hK' => ?_
    have HK := Lib.hid hK'
    clear hK'
    go_simp
    refine HK.out _ _ ⟨fun _ => (show (fun w' : World => w'.cell? ⟨p, 1, none⟩ = some (.slice (some ⟨g, 0, none⟩) n c)) (w3.alloc (.cells #[.slice o8 (M - k) c8] 38)) from (E4.out.cell (p := ⟨p, 1, none⟩) hpl1).trans n1), ?_⟩
    clear HK K'
    try simp only [Act.put, List.setIfInBounds_toArray, List.set_cons_zero, List.set_cons_succ]
    refine Rg.step (i := 11) (by kernel_rfl) rfl fun K' hK' => ?_
    refine Rw.stepAt elemS encS_len encS_one (by rfl) (.tmp 38) (.tmp 44) (by rfl) B _ (Ks.set i ⟨o9, k, c9⟩) (by rfl) HM4.out.1.rows ⟨w3.heap.size, 0, none⟩ 1 [⟨o8, M - k, c8⟩] 1 rfl (by rfl) HKR.out (hs3 _) (Nat.le_trans hBw1 E4.out.size) ?_
    intro v5 w5 hown5 hgr5 hat5
    have hSr := (show (fun w' : World => w'.cell? ⟨p, 1, none⟩ = some (.slice (some ⟨g, 0, none⟩) n c)) w5 from (World.cell?_of_block (w := w3.alloc (.cells #[.slice o8 (M - k) c8] 38)) (hgr5.block p (fblk_lt HM4.out.1.blk) fun e => fblk_own HM4.out.1.blk (by decide) HM4.out.1.rows e.symm)).trans ((E4.out.cell (p := ⟨p, 1, none⟩) hpl1).trans n1))
    have HFIN := Lib.hid (HEND.out o8 c8 v5 (w3.alloc (.cells #[.slice o8 (M - k) c8] 38)) w5 E4.out HO4.out hgr5 hown5 hat5)
    have hfz5 := (fblk_frozen (fblk_same HM4.out.1.blk (hgr5.block p (fblk_lt HM4.out.1.blk) fun e => fblk_own HM4.out.1.blk (by decide) HM4.out.1.rows e.symm))) 1
    obtain ⟨o7, c7, hv7, _⟩ := Rw.own_row encS_len hown5
    rw [HKL.out _] at hv7
    subst hv7
    clear hown5 hgr5 hat5
    refine hK' _ _ ⟨fun _ => hSr, ?_⟩
    clear hK' K'
    try simp only [Act.put, List.setIfInBounds_toArray, List.set_cons_zero, List.set_cons_succ]
    refine Rg.take (i := 12) (v := ?_) 30 rfl (by kernel_rfl) (by kernel_rfl) (by kernel_rfl) (by kernel_rfl) (fun _ _ _ h => h) (Or.inl ⟨by rfl, ?_⟩) hSr ?_
    rotate_left
    · intro w hSw
      go_simp
      try with_reducible rfl
    try simp only [Act.put, List.setIfInBounds_toArray, List.set_cons_zero, List.set_cons_succ]
    refine Rg.take (i := 13) (v := ?_) 30 rfl (by kernel_rfl) (by kernel_rfl) (by kernel_rfl) (by kernel_rfl) (fun _ _ _ h => h) (Or.inl ⟨by rfl, ?_⟩) hSr ?_
    rotate_left
    · intro w hSw
      go_simp
      try with_reducible rfl
    try simp only [Act.put, List.setIfInBounds_toArray, List.set_cons_zero, List.set_cons_succ]
    refine Rg.step (i := 14) (by kernel_rfl) rfl fun K' hK' => ?_
    have HK := Lib.hid hK'
    clear hK'
    go_simp
    refine HK.out _ _ ⟨fun h => absurd rfl h, ?_⟩
    clear HK K'
    try simp only [Act.put, List.setIfInBounds_toArray, List.set_cons_zero, List.set_cons_succ]
    refine Rg.finished (by kernel_rfl) ?_ _
    go_wp2
    go_ret
    exact ⟨rfl, HFIN.out⟩
end
end Sp
end Go.Proofs.Ytlkigpmjhojceaa
