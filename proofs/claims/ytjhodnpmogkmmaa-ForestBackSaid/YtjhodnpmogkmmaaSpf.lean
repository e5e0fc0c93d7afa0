/-
  Stage 9: plain facts of rows; whether a value and what is added fit; contracts of the document's Fits, within and New. No condition.
-/
import Derived.Test.YtjhodnpmogkmmaaSpq
import Derived.Deep.LoopGhost
import Derived.Deep.DeepCutAuto
import Derived.WalkMore
import Derived.Deep.QuietTactic
import Derived.BigQuiet
namespace Go.Proofs.Ytjhodnpmogkmmaa
open Go.ChangeShapes Go.WideShapes Go.ChangeAt Go.RowKit
set_option linter.unusedVariables false
set_option linter.unusedSimpArgs false
namespace Sp
section
variable {w : World} {B p m : Nat} {F : Nat → Prop} {s : St}
theorem first_nil {s : St} {x : Int} (h : rowZ s x = []) : firstZ s x = -1 := by unfold firstZ; rw [h]
theorem first_cons {s : St} {x : Int} {a : Nat} {l : List Nat} (h : rowZ s x = a :: l) : firstZ s x = (a : Int) := by unfold firstZ; rw [h]
theorem last_nil {s : St} {x : Int} (h : rowZ s x = []) : lastZ s x = -1 := by unfold lastZ; rw [h]; rfl
theorem last_at {s : St} {x : Int} (h : 0 < (rowZ s x).length) : lastZ s x = (((rowZ s x).getD ((rowZ s x).length - 1) 0 : Nat) : Int) := by
  unfold lastZ
  rw [List.getLast?_eq_getElem?, List.getElem?_eq_getElem (by omega), List.getD_eq_getElem?_getD, List.getElem?_eq_getElem (by omega)]
  rfl
theorem atL_neg {l : List Nat} {q : Int} (h : q < 0) : atL l q = -1 := by unfold atL; rw [if_pos h]
theorem atL_far {l : List Nat} {q : Int} (h : (l.length : Int) ≤ q) : atL l q = -1 := by
  unfold atL
  rw [if_neg (by omega), List.getElem?_eq_none (by omega)]
theorem atL_at {l : List Nat} {k : Nat} (h : k < l.length) : atL l (k : Int) = ((l.getD k 0 : Nat) : Int) := by
  unfold atL
  rw [if_neg (by omega), Int.toNat_natCast, List.getD_eq_getElem?_getD, List.getElem?_eq_getElem h]
  rfl
theorem idxOf_of {l : List Nat} {x k : Nat} (hk : l[k]? = some x) (hno : x ∉ l.take k) : l.idxOf x = k := by
  induction l generalizing k with
  | nil => simp at hk
  | cons a l ih =>
    rcases k with _ | k
    · simp at hk; subst hk; simp
    · simp at hk hno
      rw [List.idxOf_cons, show (a == x) = false by simp; exact fun e => hno.1 e.symm]
      simp only [cond_false, Bool.false_eq_true, if_false]
      rw [ih hk hno.2]
theorem val_out {s : St} (h : Good s) {x : Int} (hx : x < 0 ∨ (s.v.length : Int) ≤ x) : valZ s x = 0 := by
  unfold valZ
  split
  · rfl
  · exact Ne.amt_out (by omega)
theorem rfits_any (v d : Int) (w : World) (hv : -9223372036854775808 ≤ v ∧ v ≤ 9223372036854775807) (hd : -9223372036854775808 ≤ d ∧ d ≤ 9223372036854775807) :
    Calls Try.prog 52 #[.int .i64 v, .int .i64 d] w fun e w' => e = .returned (.bool (fits v d)) ∧ w = w' := by
  by_cases c : 0 ≤ d
  · have e : fits v d = decide (v ≤ 4611686018427387904 - d) := by unfold fits; rw [if_pos c]
    have e2 : IntKind.i64.wrap (4611686018427387904 - d) = 4611686018427387904 - d := by rw [IntKind.wrap_i64]; omega
    have HE := Lib.hid e
    clear e
    go_enter Try.func52, Try.ntmps52
    go_wp2
    go_ret
    exact ⟨Ne.retB HE.out.symm, rfl⟩
  · have e : fits v d = decide (-4611686018427387904 - d ≤ v) := by unfold fits; rw [if_neg c]
    have e2 : IntKind.i64.wrap (-4611686018427387904 - d) = -4611686018427387904 - d := by rw [IntKind.wrap_i64]; omega
    have HE := Lib.hid e
    clear e
    go_enter Try.func52, Try.ntmps52
    go_wp2
    go_ret
    exact ⟨Ne.retB HE.out.symm, rfl⟩
theorem rwithin_any (v : Int) (w : World) :
    Calls Try.prog 51 #[.int .i64 v] w fun e w' => e = .returned (.bool (decide (-4611686018427387904 ≤ v ∧ v ≤ 4611686018427387904))) ∧ w = w' := by
  by_cases c : -4611686018427387904 ≤ v
  · have c' : decide (-4611686018427387904 ≤ v) = true := by simpa using c
    have HE := Lib.hid (show decide (-4611686018427387904 ≤ v ∧ v ≤ 4611686018427387904) = decide (v ≤ 4611686018427387904) by simp [c])
    clear c
    go_enter Try.func51, Try.ntmps51
    go_wp2
    go_ret
    exact ⟨Ne.retB HE.out.symm, rfl⟩
  · have c' : decide (-4611686018427387904 ≤ v) = false := by simpa using c
    have HE := Lib.hid (show decide (-4611686018427387904 ≤ v ∧ v ≤ 4611686018427387904) = false by simp [c])
    clear c
    go_enter Try.func51, Try.ntmps51
    go_wp2
    go_ret
    exact ⟨Ne.retB HE.out.symm, rfl⟩
theorem leastL_snoc (v : List Int) (l : List Nat) (i : Nat) : leastL v (l ++ [i]) = if leastL v l < 0 ∨ Ne.amt v i < Ne.amt v (leastL v l).toNat then (i : Int) else leastL v l := by
  unfold leastL; rw [List.foldl_append]; rfl
theorem fold_in (v : List Int) (S : Nat → Prop) : ∀ (l : List Nat) (b : Int), (∀ y ∈ l, S y) → (b = -1 ∨ (0 ≤ b ∧ S b.toNat)) →
    (l.foldl (fun (b : Int) i => if b < 0 ∨ Ne.amt v i < Ne.amt v b.toNat then (i : Int) else b) b = -1 ∧ b = -1 ∧ l = []) ∨
    (0 ≤ l.foldl (fun (b : Int) i => if b < 0 ∨ Ne.amt v i < Ne.amt v b.toNat then (i : Int) else b) b ∧ S (l.foldl (fun (b : Int) i => if b < 0 ∨ Ne.amt v i < Ne.amt v b.toNat then (i : Int) else b) b).toNat)
  | [], b, _, h => by
    rcases h with h | h
    · exact .inl ⟨h, h, rfl⟩
    · exact .inr h
  | a :: l, b, hl, h => by
    have hb : 0 ≤ (if b < 0 ∨ Ne.amt v a < Ne.amt v b.toNat then (a : Int) else b) ∧ S (if b < 0 ∨ Ne.amt v a < Ne.amt v b.toNat then (a : Int) else b).toNat := by
      split
      · exact ⟨by omega, by simpa using hl a (by simp)⟩
      · rename_i c
        rcases h with h | h
        · exact absurd (.inl (by omega)) c
        · exact h
    rcases fold_in v S l _ (fun y hy => hl y (List.mem_cons_of_mem _ hy)) (.inr hb) with ⟨_, h2, _⟩ | h2
    · have := hb.1; omega
    · exact .inr h2
theorem leastL_in (v : List Int) {n : Nat} (l : List Nat) (hl : ∀ y ∈ l, y < n) : (leastL v l = -1 ∧ l = []) ∨ (0 ≤ leastL v l ∧ (leastL v l).toNat ∈ l) := by
  rcases fold_in v (· ∈ l) l (-1) (fun y hy => hy) (.inl rfl) with ⟨h1, _, h2⟩ | h
  · exact .inl ⟨h1, h2⟩
  · exact .inr h
theorem ret2 {v : Value} {k : IntKind} {a b : Int} (h : a = b) : Ending.returned (.tuple #[v, .int k a]) = .returned (.tuple #[v, .int k b]) := by rw [h]
theorem own_one (w : World) (B : Nat) (hB : B ≤ w.heap.size) (x : Int) : Ne.OwnI (w.alloc (.cells #[.int .i64 x] 3)) B (.slice (some ⟨w.heap.size, 0, none⟩) 1 1) [x] := by
  refine ⟨by simp [Ne.encI], .inr ⟨w.heap.size, 1, #[.int .i64 x], rfl, hB, ?_, by simp, by simp [maxLen], by simp, by simp [Ne.encI]⟩⟩
  show (w.heap.push _)[w.heap.size]? = _
  simp
theorem row_one_s (w : World) {b : Nat} (hb : b = w.heap.size) (K : RowC) : Rw.Row 1 encS (w.alloc (.cells #[.slice K.o K.len K.cap] 37)) (some ⟨b, 0, none⟩) [K] := by
  subst hb
  refine .inr ⟨w.heap.size, 0, rfl, by simp, fun i x hi j v hv => ?_⟩
  have h0 : i = 0 := by
    rcases i with _ | i
    · rfl
    · simp at hi
  subst h0
  simp at hi
  subst hi
  have h1 : j = 0 := by
    rcases j with _ | j
    · rfl
    · simp [encS] at hv
  subst h1
  simp [encS] at hv
  subst hv
  exact World.cell?_alloc_new w _ _ 0
theorem irow_take {w : World} {o : Option Addr} {l : List Int} (h : Ne.IRow w o l) (k : Nat) : Ne.IRow w o (l.take k) := by
  rcases h with h | ⟨b, off, rfl, hb, hc⟩
  · subst h; left; simp
  · refine .inr ⟨b, off, rfl, hb, fun i x hi => hc i x ?_⟩
    rw [List.getElem?_take] at hi
    split at hi
    · exact hi
    · cases hi
theorem irow_drop {w : World} {b : Nat} {l : List Int} (h : Ne.IRow w (some ⟨b, 0, none⟩) l) (k : Nat) : Ne.IRow w (some ⟨b, k, none⟩) (l.drop k) := by
  rcases h with h | ⟨b', off, e, hb, hc⟩
  · subst h; left; simp
  · cases e
    refine .inr ⟨b, k, rfl, hb, fun i x hi j v hv => ?_⟩
    rw [List.getElem?_drop] at hi
    have := hc (k + i) x hi j v hv
    rw [← this]; congr 2; omega
theorem encW_take (l : List Nat) (k : Nat) : Ne.encW (l.take k) = (Ne.encW l).take k := by simp [Ne.encW]
theorem encW_drop (l : List Nat) (k : Nat) : Ne.encW (l.drop k) = (Ne.encW l).drop k := by simp [Ne.encW]
theorem new_long {vs : List Int} (h : 3000 < vs.length) : newE vs = 1 := by unfold newE; rw [if_pos h]
theorem new_wrong {vs : List Int} (h : ¬ 3000 < vs.length) {i : Nat} (hi : i < vs.length) (hx : ¬ (-4611686018427387904 ≤ Ne.amt vs i ∧ Ne.amt vs i ≤ 4611686018427387904)) : newE vs = 3 := by
  unfold newE; rw [if_neg h, if_neg fun c => hx (c i hi)]
theorem new_right {vs : List Int} (h : ¬ 3000 < vs.length) (hx : ∀ i, i < vs.length → (-4611686018427387904 ≤ Ne.amt vs i ∧ Ne.amt vs i ≤ 4611686018427387904)) : newE vs = 0 := by
  unfold newE; rw [if_neg h, if_pos hx]
set_option maxRecDepth 100000 in
set_option maxHeartbeats 8000000 in
theorem rnew_any (ao : Option Addr) (cap : Nat) (vs : List Int) (w : World) (hr : Ne.IRow w ao vs) (hn : ao = none → cap = 0) :
    Calls Try.prog 33 #[.slice ao vs.length cap] w fun e w' => Below w.heap.size w w' ∧ ∃ pv, e = .returned (.tuple #[pv, .int .i64 (newE vs)]) ∧ (newE vs ≠ 0 → pv = .pointer none) ∧
      (newE vs = 0 → ∃ p, pv = .pointer (some ⟨p, 0, none⟩) ∧ RefP w' w.heap.size (fun g => w.heap.size ≤ g ∧ g < w'.heap.size) p (newS vs) 0) := by
  by_cases c0 : 3000 < vs.length
  · rw [new_long c0]
    have c0' : (3000 : Int) < (vs.length : Int) := by omega
    go_enter Try.func33, Try.ntmps33
    go_wp2
    go_ret2
    exact ⟨Below.refl _ _, _, rfl, fun _ => rfl, fun h => by cases h⟩
  · have c0' : ¬ (3000 : Int) < (vs.length : Int) := by omega
    have HW3 := Lib.hid (fun i (hi : i < vs.length) hx => new_wrong c0 hi hx)
    have HW0 := Lib.hid (fun hx => new_right (vs := vs) c0 hx)
    have HREP := Lib.hid (fun he => rep_new (vs := vs) he)
    have HRN := Lib.hid hr
    have HR1 := Lib.hid (hr.kept ((Below.refl _ _).alloc (Nat.le_refl _) (.cells #[] 2)))
    obtain ⟨n, hnn⟩ : ∃ n, n = vs.length := ⟨_, rfl⟩
    rw [← hnn] at c0 c0' ⊢
    have HNN := Lib.hid hnn
    have HL := Lib.hid (show ([] : List Int).length + vs.length ≤ 1099511627776 by simp; omega)
    generalize newE vs = er at *
    clear hnn
    go_enter Try.func33, Try.ntmps33
    go_wp2_with (at_builtin; refine Rw.app Ne.elemL Ne.encI_len Ne.encI_one rfl (.tmp 9) (.tmp 10) rfl w.heap.size _ ([] : List Int) rfl (Ne.own_empty w _ (Nat.le_refl _)) ao cap vs (by rw [← HNN.out]; rfl) hn HR1.out HL.out ?hB ?_; (case hB => (simp)); intro v2 w2 hown2 hgr2; rw [List.nil_append] at hown2; have HO2 := Lib.hid hown2; have HB2 := Lib.hid (((Below.refl w.heap.size w).alloc (Nat.le_refl _) (.cells #[] 2)).grown hgr2 (by simp) (Rw.own_block (Ne.own_empty (α := Int) (k := 1) (enc := Ne.encI) (e := 2) w w.heap.size (Nat.le_refl _)))); obtain ⟨o2, c2, hv2, _⟩ := Rw.own_row Ne.encI_len hown2; rw [← HNN.out] at hv2; subst hv2; clear hown2 hgr2)
    have HM3 := Lib.hid (show RefM (w2.alloc (.cells #[.slice o2 n c2, .slice none 0 0] 78)) w.heap.size w2.heap.size (.slice o2 n c2) (.slice none 0 0) [] ((List.range 0).map fun i => [i]) vs from ⟨fblk_new w2 rfl _ _, HB2.out.size, Rw.own_alloc HO2.out _, Rw.own_nil _ _, rfl, fun i k l h => by simp at h⟩)
    have HB3 := Lib.hid (HB2.out.alloc HB2.out.size (.cells #[.slice o2 n c2, .slice none 0 0] 78))
    obtain ⟨p, hp⟩ : ∃ p, p = w2.heap.size := ⟨_, rfl⟩
    have HPL := Lib.hid (show w.heap.size ≤ p by rw [hp]; exact HB2.out.size)
    rw [← hp] at HM3 ⊢
    clear hp
    generalize (w2.alloc (.cells #[.slice o2 n c2, .slice none 0 0] 78)) = W3 at *
    clear HO2 HB2 HR1 HL
    go_loopg [5] n (fun gg si wr => ∃ (k : Nat) (rv : Value) (Ks : List RowC), si = .int .i64 k ∧ k + gg = n ∧ Hid (RefM wr w.heap.size p (.slice o2 n c2) rv Ks ((List.range k).map fun i => [i]) vs) ∧ Hid (Below w.heap.size w wr) ∧ Hid (∀ i, i < k → (-4611686018427387904 ≤ Ne.amt vs i ∧ Ne.amt vs i ≤ 4611686018427387904)))
    case atStart => exact ⟨0, _, _, rfl, by omega, HM3, HB3, Lib.hid (fun i hi => absurd hi (by omega))⟩
    case round =>
      obtain ⟨k, rv, Ks, rfl, hkg, HMW, HBW, HOK⟩ := hrel
      by_cases hk : k < n
      · have hki : (k : Int) < (n : Int) := by omega
        have hk0 : (0 : Int) ≤ (k : Int) := by omega
        obtain ⟨b, off, rfl, hb, d0⟩ := Ne.irow_cell (HRN.out.kept HBW.out) (i := k) (by rw [← HNN.out]; exact hk)
        by_cases c : -4611686018427387904 ≤ Ne.amt vs k ∧ Ne.amt vs k ≤ 4611686018427387904
        · have WI := Lib.hid (fun w' => rwithin_any (Ne.amt vs k) w')
          rw [decide_eq_true c] at WI
          have HOK2 := Lib.hid (show ∀ i, i < k + 1 → (-4611686018427387904 ≤ Ne.amt vs i ∧ Ne.amt vs i ≤ 4611686018427387904) from fun i hi => by
            by_cases e : i = k
            · subst e; exact c
            · exact HOK.out i (by omega))
          generalize Ne.amt vs k = av at *
          clear c
          obtain ⟨n0, n1⟩ := fblk_cells HMW.out.blk
          have HKL := Lib.hid HMW.out.len
          obtain ⟨o5, c5, hv5, _⟩ := Rw.own_row encS_len HMW.out.rows
          have hKn : Ks.length = k := by rw [HKL.out]; simp
          rw [hKn] at hv5
          subst hv5
          have HKN := Lib.hid hKn
          clear hKn
          have HBA := Lib.hid ((HBW.out.alloc HBW.out.size (.cells #[.int .i64 (k : Int)] 3)).alloc (by have := HBW.out.size; simp; omega) (.cells #[.slice (some ⟨wr.heap.size, 0, none⟩) 1 1] 37))
          have HMA := Lib.hid (HMW.out.kept (((Below.refl wr.heap.size wr).alloc (Nat.le_refl _) (.cells #[.int .i64 (k : Int)] 3)).alloc (by simp) (.cells #[.slice (some ⟨wr.heap.size, 0, none⟩) 1 1] 37)))
          have HO1 := Lib.hid (Rw.own_alloc (own_one wr w.heap.size HBW.out.size (k : Int)) (.cells #[.slice (some ⟨wr.heap.size, 0, none⟩) 1 1] 37))
          have HKR := Lib.hid (row_one_s (wr.alloc (.cells #[.int .i64 (k : Int)] 3)) (b := wr.heap.size + 1) (by simp) ⟨some ⟨wr.heap.size, 0, none⟩, 1, 1⟩)
          have HLN := Lib.hid (show Ks.length + ([⟨some ⟨wr.heap.size, 0, none⟩, 1, 1⟩] : List RowC).length ≤ 1099511627776 by rw [HKN.out]; simp; omega)
          have HRS := Lib.hid (show ((List.range (k + 1)).map fun i => [i]) = ((List.range k).map fun i => [i]) ++ [[k]] by rw [List.range_succ, List.map_append]; rfl)
          go_wp2_with fail
          refine (WI.out _).mono ?_
          rintro e w' ⟨rfl, rfl⟩
          go_wp2_with (at_builtin; refine Rw.appAt elemS encS_len encS_one rfl (.tmp 30) (.tmp 33) rfl w.heap.size _ Ks rfl HMA.out.rows ⟨wr.heap.size + 1, 0, none⟩ 1 [⟨some ⟨wr.heap.size, 0, none⟩, 1, 1⟩] rfl HKR.out HLN.out HBA.out.size ?_; intro v6 w6 hown6 hgr6 hat6; have HM6 := Lib.hid (HMA.out.snoc (K := ⟨some ⟨wr.heap.size, 0, none⟩, 1, 1⟩) (l := [k]) HO1.out hgr6 hown6); have HB6 := Lib.hid (HBA.out.grown hgr6 HBA.out.size (Rw.own_block HMA.out.rows)); have hfb := fblk_same HMA.out.blk (hgr6.block p (fblk_lt HMA.out.blk) fun e => fblk_own HMA.out.blk (by decide) HMA.out.rows e.symm); have hfz := fblk_frozen hfb 1; have n16 := (fblk_cells hfb).2; obtain ⟨o6, c6, hv6, _⟩ := Rw.own_row encS_len hown6; rw [List.length_append, HKN.out, List.length_singleton] at hv6; subst hv6; clear hown6 hgr6 hat6)
          go_roundg (n - (k + 1))
          case measure => omega
          case rel => exact ⟨k + 1, _, _, by go_num, by omega, Lib.hid (by rw [HRS.out]; exact HM6.out), Lib.hid (HB6.out.setCell (p := ⟨p, 1, none⟩) HPL.out _), HOK2⟩
        · have WI := Lib.hid (fun w' => rwithin_any (Ne.amt vs k) w')
          rw [decide_eq_false c] at WI
          have HE := Lib.hid (HW3.out k (by rw [← HNN.out]; exact hk) c)
          generalize Ne.amt vs k = av at *
          clear c
          go_wp2_with fail
          refine (WI.out _).mono ?_
          rintro e w' ⟨rfl, rfl⟩
          go_wp2
          go_ret2
          exact ⟨HBW.out, _, ret2 HE.out.symm, fun _ => rfl, fun h => by rw [HE.out] at h; cases h⟩
      · have ek : k = n := by omega
        subst k
        have he : er = 0 := HW0.out fun i hi => HOK.out i (by rw [HNN.out]; exact hi)
        have HE := Lib.hid he
        have HFIN := Lib.hid (show RefP wr w.heap.size (fun g => w.heap.size ≤ g ∧ g < wr.heap.size) p (newS vs) 0 from by
          have hR := HREP.out he
          rw [← HNN.out] at hR
          exact RefK.refP (s := newS vs) ⟨HMW.out, fun g hg => HMW.out.in g hg, fun g hg => hg⟩ hR (by simp; omega))
        clear he
        go_wp2
        go_ret2
        exact ⟨HBW.out, _, ret2 HE.out.symm, fun h => absurd HE.out h, fun _ => ⟨p, rfl, HFIN.out⟩⟩
theorem ext_in {w w2 : World} {B : Nat} {F : Nat → Prop} (hf : ∀ g, F g → B ≤ g ∧ g < w.heap.size) (hBw : B ≤ w.heap.size) (hs : w.heap.size ≤ w2.heap.size) : ∀ g, Ext F w w2 g → B ≤ g ∧ g < w2.heap.size := fun g hg => by
  rcases hg with c | c
  · have := hf g c; omega
  · omega
theorem off_two {w w2 w3 : World} {F : Nat → Prop} (h1 : Off F w w2) (h2 : Off (Ext F w w2) w2 w3) : Off F w w3 := h1.trans h2 fun g hg => by
  rcases hg with c | c
  · exact .inl c
  · exact .inr c.1
theorem own_free {α : Type} {e : TypeId} {k : Nat} {enc : α → List Value} {w : World} {B g n c : Nat} {xs : List α} (h : Rw.Own e k enc w B (.slice (some ⟨g, 0, none⟩) n c) xs) (o : Nat) : w.frozen? ⟨g, o, none⟩ = false := by
  obtain ⟨_, h2⟩ := h
  rcases h2 with ⟨hv, _⟩ | ⟨g', cap2, cur, hv, hg, hh, _⟩
  · simp at hv
  · simp only [Value.slice.injEq, Option.some.injEq, Addr.mk.injEq, and_true, true_and] at hv
    obtain ⟨rfl, _⟩ := hv
    simp [World.frozen?, hh]
theorem addL_step {v : List Int} {l : List Nat} {d : Int} {j y : Nat} (hn : l.Nodup) (hy : l[j]? = some y) (hv : y < v.length) :
    Ne.amt (addL v (l.take j) d) y = Ne.amt v y ∧ (addL v (l.take j) d).set y (Ne.amt v y + d) = addL v (l.take (j + 1)) d := by
  have hno : y ∉ l.take j := fun c => by
    have hj := (List.getElem?_eq_some_iff.1 hy).1
    have h1 := hn.sublist (List.take_sublist (j + 1) l)
    rw [List.take_add_one, hy] at h1
    exact (List.nodup_append.1 h1).2.2 y c y (by simp) rfl
  have e1 : Ne.amt (addL v (l.take j) d) y = Ne.amt v y := by rw [addL_at hv, if_neg hno]
  refine ⟨e1, Ne.ext_amt (by simp [addL_len]) fun i hi => ?_⟩
  have hi' : i < v.length := by simpa [addL_len] using hi
  rw [Ne.amt_set _ (by rw [addL_len]; exact hv), addL_at hi', addL_at hi', List.take_add_one, hy]
  by_cases c : i = y
  · subst c; simp
  · rw [if_neg c]
    by_cases c2 : i ∈ l.take j
    · rw [if_pos c2, if_pos (by simp [c2])]
    · rw [if_neg c2, if_neg (by simp [c2, c])]
end
end Sp
end Go.Proofs.Ytjhodnpmogkmmaa
