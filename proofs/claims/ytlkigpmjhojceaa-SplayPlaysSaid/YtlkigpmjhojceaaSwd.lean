/-
  Stage 9: contract of the developers' forest: Join. No condition.
-/
import Derived.Test.YtlkigpmjhojceaaSwc
namespace Go.Proofs.Ytlkigpmjhojceaa
open Go.ChangeShapes Go.WideShapes Go.ChangeAt Go.RowKit
set_option linter.unusedVariables false
set_option linter.unusedSimpArgs false
namespace Sp
open Sv
section
variable {w w1 w2 w3 w4 : World} {B p lo hi g c : Nat} {F : Nat → Prop} {s : St} {M : Nat → Nd} {I : Nat → List Nat} {P : Nat → Bool} {D : Nat → Int}
section
variable {y z v c1 c2 c3 K K2 n : Nat} {M1 M2 M3 : Nat → Nd} {I1 I2 I3 : Nat → List Nat} {P1 P2 P3 : Nat → Bool} {D1 D2 D3 : Nat → Int}
/-- the next item brought to the top -/
theorem splay_tp (hM : SpM w1 B p g n M1 c1) (hI : Inv n (Ne.amt s.v) s.r No M1 I1 P1 D1) (hz : z < n) :
    Calls Try.prog 52 #[.pointer (some ⟨p, 0, none⟩), .int .i64 (z : Int)] w1 fun e w2 => e = .returned (.tuple #[]) ∧ ∃ c2 M2 I2 P2 D2, Tp w1 w2 B p g n s c1 (c1 + 6 * pot I1 n) z c2 M2 I2 P2 D2 ∧ Sv.Rest n s.r z M1 M2 := by
  obtain ⟨k, hk, _⟩ := hI.climb hz
  refine (splay_any hM hI hz hk).mono ?_
  rintro e w2 ⟨rfl, hS⟩
  obtain ⟨c2, M2, I2, P2, D2, h1, _, h3⟩ := tp_of (hS.ended hz)
  exact ⟨rfl, c2, M2, I2, P2, D2, h1, h3⟩
/-- a top stays where another row is gone through -/
theorem Tp.stays (t1 : Tp w w1 B p g n s c K y c1 M1 I1 P1 D1) (t2 : Tp w1 w2 B p g n s c1 K2 z c2 M2 I2 P2 D2) (hR : Sv.Rest n s.r z M1 M2) (hy : y ∉ s.r z) : (M2 y).up = none ∧ Clear M2 P2 D2 y := by
  have e := hR y t1.lt hy
  have hu : (M2 y).up = none := by rw [e]; exact t1.up
  have ht := t2.inv.top y t1.lt hu
  exact ⟨hu, ht.1, ht.2, by rw [e]; exact t1.cl.2.2.1, by rw [e]; exact t1.cl.2.2.2⟩
theorem Tp.last (t : Tp w w1 B p g n s c K v c1 M1 I1 P1 D1) (h : endL true (s.r v) = some v) : (M1 v).b true = none := by
  obtain ⟨h1, h2⟩ := t.mid
  have hnd := t.inv.nd v t.lt
  rw [← t.inv.root_row t.lt t.up, h1] at hnd
  cases e : (M1 v).b true with
  | none => rfl
  | some q =>
    have hq := t.inv.self (t.inv.ch v _ q t.lt e).1
    rw [e] at h1 hnd
    have h1' : s.r v = IL I1 ((M1 v).b false) ++ v :: I1 q := h1
    simp only [endL, if_true] at h
    rw [h1'] at h
    have hne : I1 q ≠ [] := fun e2 => by rw [e2] at hq; simp at hq
    have h3 : (IL I1 ((M1 v).b false) ++ v :: I1 q).getLast? = (I1 q).getLast? := by
      rw [List.getLast?_append]
      cases e2 : I1 q with
      | nil => exact absurd e2 hne
      | cons a l => simp [List.getLast?_cons]
    rw [h3] at h
    have h4 : v ∈ I1 q := List.mem_of_getLast? h
    have := (List.nodup_append.1 hnd).2.1
    exact absurd h4 (List.nodup_cons.1 this).1
theorem join_wants {V : Nat → Int} {r : Nat → List Nat} (hI : Inv n V r No M1 I1 P1 D1) (hn : n ≤ 3000) {v b : Nat} (hv : v < n) (hb : b < n) (hne : v ≠ b) : ∀ s' z, (hangM M1 v true (some b) v).b s' = some z → z < n ∧ z ≠ v ∧ (hangM M1 v true (some b) z).c ≤ 1000000 := by
  have ev : hangM M1 v true (some b) v = { M1 v with b := setb (M1 v).b true (some b) } := hangM_v (fun e => hne (by cases e; rfl))
  have hcc : ∀ q, q < n → (M1 q).c ≤ 1000000 := fun q hq => by rw [hI.cnt q hq id]; have := hI.len hq; omega
  intro s' z hz
  rw [ev] at hz
  have hz' : z = b ∨ (M1 v).b s' = some z := by
    simp only [setb] at hz
    split at hz
    · cases hz; exact .inl rfl
    · exact .inr hz
  rcases hz' with rfl | hz'
  · refine ⟨hb, Ne.symm hne, ?_⟩
    rw [hangM_w (Ne.symm hne)]; exact hcc z hb
  · have hzn := (hI.ch v s' z hv hz').1
    have hzv : z ≠ v := fun e => by subst e; have := hI.below hv hz'; omega
    refine ⟨hzn, hzv, ?_⟩
    by_cases e : z = b
    · subst e; rw [hangM_w hzv]; exact hcc z hzn
    · rw [hangM_ne hzv (fun e2 => e (by cases e2; rfl))]; exact hcc z hzn
theorem it_both (h : Hd w B F p s lo hi g c M I P D) (hy : y < s.v.length) (hz : z < s.v.length) : it s (y : Int) * it s (z : Int) = 1 := by rw [it_in h hy, it_in h hz]
theorem join_e (h : Hd w B F p s lo hi g c M I P D) (hy : y < s.v.length) (hz : z < s.v.length) : joinE s (y : Int) (z : Int) = if z ∈ s.r y then 5 else 0 := by
  unfold joinE
  have hy2 := (h.row (x := (y : Int)))
  have hz2 := (h.row (x := (z : Int)))
  rw [if_neg (fun e => by rcases e with e | e; have := hy2.1 e; omega; have := hz2.1 e; omega), rowZ_nat, Int.toNat_natCast]
theorem Hd.unjoined (h : Hd w B F p s lo hi g c M I P D) (hB : B ≤ w.heap.size) (t1 : Tp w w1 B p g s.v.length s c (c + 6 * pot I s.v.length) y c1 M1 I1 P1 D1) (t2 : Tp w1 w2 B p g s.v.length s c1 (c1 + 6 * pot I1 s.v.length) z c2 M2 I2 P2 D2) (hin : z ∈ s.r y) :
    joinE s (y : Int) (z : Int) = 5 ∧ SpO w2 B (Ext F w w2) p (joinS s (y : Int) (z : Int)) (lo + it s (y : Int) * it s (z : Int)) (hi + cst s.v.length) ∧ Off F w w2 := by
  have e : joinE s (y : Int) (z : Int) = 5 := by
    unfold joinE
    have hy := (h.row (x := (y : Int)))
    have hz := (h.row (x := (z : Int)))
    have := t1.lt; have := t2.lt
    rw [if_neg (fun e => by rcases e with e | e; have := hy.1 e; omega; have := hz.1 e; omega), rowZ_nat, Int.toNat_natCast, if_pos hin]
  refine ⟨e, ?_⟩
  rw [it_both h t1.lt t2.lt]
  have e2 : joinS s (y : Int) (z : Int) = s := by unfold joinS; rw [if_neg (by rw [e]; decide)]
  rw [e2]
  exact h.to hB t2.mem (off_pg t1.off t2.off) rfl t2.inv h.good (by have := t1.lo; have := t2.lo; have := h.lo; omega) (by have := t1.hi; have := t2.hi; omega)
theorem Hd.joined (h : Hd w B F p s lo hi g c M I P D) (hB : B ≤ w.heap.size) (t1 : Tp w w1 B p g s.v.length s c (c + 6 * pot I s.v.length) y c1 M1 I1 P1 D1) (t2 : Tp w1 w2 B p g s.v.length s c1 (c1 + 6 * pot I1 s.v.length) z c2 M2 I2 P2 D2) (t3 : Tp w2 w3 B p g s.v.length s c2 (c2 + 6 * pot I2 s.v.length) v c3 M3 I3 P3 D3) (hin : z ∉ s.r y) (hv : s.r v = s.r y) (hl : endL true (s.r y) = some v) (hR : Sv.Rest s.v.length s.r y M2 M3)
    (hM : SpA w3 w4 B p g s.v.length (refM (hangM M3 v true (some z)) v) c3) :
    joinE s (y : Int) (z : Int) = 0 ∧ SpO w4 B (Ext F w w4) p (joinS s (y : Int) (z : Int)) (lo + it s (y : Int) * it s (z : Int)) (hi + cst s.v.length) ∧ Off F w w4 := by
  have e : joinE s (y : Int) (z : Int) = 0 := by
    unfold joinE
    have hy := (h.row (x := (y : Int)))
    have hz := (h.row (x := (z : Int)))
    have := t1.lt; have := t2.lt
    rw [if_neg (fun e => by rcases e with e | e; have := hy.1 e; omega; have := hz.1 e; omega), rowZ_nat, Int.toNat_natCast, if_neg hin]
  refine ⟨e, ?_⟩
  rw [it_both h t1.lt t2.lt]
  have hG := good_join h.good (y : Int) (z : Int)
  have e2 : joinS s (y : Int) (z : Int) = joinR s (y : Int) (z : Int) := by unfold joinS; rw [if_pos e]
  rw [e2] at hG ⊢
  have hne : v ≠ z := fun e => by
    subst e
    apply hin
    rw [← hv]; exact h.good.mem v t3.lt
  have hzu : (M3 z).up = none := by rw [hR z t2.lt hin]; exact t2.up
  have hno := t3.last (by rw [hv]; exact hl)
  have hiv := t3.inv.root_row t3.lt t3.up
  have hiz := t3.inv.root_row t2.lt hzu
  have hji := join_inv t3.inv (r' := (joinR s (y : Int) (z : Int)).r) t3.lt t2.lt t3.up hzu t3.cl hno hne (fun q => by
    show (if q ∈ rowZ s (y : Int) ∨ q ∈ rowZ s (z : Int) then _ else _) = _
    rw [rowZ_nat, rowZ_nat, hv])
  refine h.to hB (s2 := joinR s (y : Int) (z : Int)) hM.toSpM (off_pg (off_pg t1.off t2.off) (off_pg t3.off hM.off)) rfl hji hG (by have := t1.lo; have := t2.lo; have := t3.lo; have := h.lo; omega) ?_
  have h1 := join_pot (I := I3) (l := I3 v ++ I3 z) t3.lt
  have h2 : (I3 v ++ I3 z).length.log2 ≤ lg s.v.length := by
    have := hji.len t3.lt
    rw [putI_self] at this
    exact log_le this h.good.small
  have := t1.hi; have := t2.hi; have := t3.hi
  omega
theorem Hd.apart (h : Hd w B F p s lo hi g c M I P D) (hB : B ≤ w.heap.size) {a b : Int} (hx : ¬ (0 ≤ a ∧ a < (s.v.length : Int)) ∨ ¬ (0 ≤ b ∧ b < (s.v.length : Int))) : joinE s a b = 4 ∧ SpO w B (Ext F w w) p (joinS s a b) (lo + it s a * it s b) (hi + cst s.v.length) ∧ Off F w w := by
  have hr : rowZ s a = [] ∨ rowZ s b = [] := by rcases hx with e | e; exact .inl (h.row.2 e); exact .inr (h.row.2 e)
  have e : joinE s a b = 4 := by unfold joinE; rw [if_pos hr]
  have e2 : joinS s a b = s := by unfold joinS; rw [if_neg (by rw [e]; decide)]
  have e3 : it s a * it s b = 0 := by
    rcases hr with e | e
    · have : it s a = 0 := by unfold it; rw [if_pos e]
      rw [this]; simp
    · have : it s b = 0 := by unfold it; rw [if_pos e]
      rw [this]; simp
  refine ⟨e, ?_⟩
  rw [e2, e3]
  exact h.to hB h.mem (Off.refl _ _) rfl h.inv h.good (k := 0) (by have := h.lo; omega) (by omega)
end
set_option maxHeartbeats 2000000 in
theorem djoin_any (h : SpO w B F p s lo hi) (hBw : B ≤ w.heap.size) (a b : Int) :
    Calls Try.prog 30 #[.pointer (some ⟨p, 0, none⟩), .int .i64 a, .int .i64 b] w fun e w' => e = .returned (.int .i64 (joinE s a b)) ∧ SpO w' B (Ext F w w') p (joinS s a b) (lo + it s a * it s b) (hi + cst s.v.length) ∧ Off F w w' := by
  obtain ⟨g, c, M, I, P, D, h⟩ := h.hd
  have HA := Lib.hid (has_any h.mem a)
  have HB := Lib.hid (has_any h.mem b)
  by_cases ha : 0 ≤ a ∧ a < (s.v.length : Int)
  case neg =>
    have hm := h.apart hBw (a := a) (b := b) (.inl ha)
    rw [hm.1]
    have HE := Lib.hid hm.2
    rw [show decide (0 ≤ a ∧ a < (s.v.length : Int)) = false by simpa using ha] at HA
    clear h hm ha HB
    go_enter Try.func30, Try.ntmps30
    go_wp2_with fail
    refine HA.out.mono ?_
    rintro e w1 ⟨rfl, rfl⟩
    go_wp2
    go_ret
    exact ⟨rfl, HE.out⟩
  rw [show decide (0 ≤ a ∧ a < (s.v.length : Int)) = true by simpa using ha] at HA
  by_cases hb : 0 ≤ b ∧ b < (s.v.length : Int)
  case neg =>
    have hm := h.apart hBw (a := a) (b := b) (.inr hb)
    rw [hm.1]
    have HE := Lib.hid hm.2
    rw [show decide (0 ≤ b ∧ b < (s.v.length : Int)) = false by simpa using hb] at HB
    clear h hm ha hb
    go_enter Try.func30, Try.ntmps30
    go_wp2_with fail
    refine HA.out.mono ?_
    rintro e w1 ⟨rfl, rfl⟩
    go_wp2_with fail
    refine HB.out.mono ?_
    rintro e w1 ⟨rfl, rfl⟩
    go_wp2
    go_ret
    exact ⟨rfl, HE.out⟩
  rw [show decide (0 ≤ b ∧ b < (s.v.length : Int)) = true by simpa using hb] at HB
  obtain ⟨y, rfl⟩ : ∃ y : Nat, a = (y : Int) := ⟨a.toNat, by omega⟩
  obtain ⟨z, rfl⟩ : ∃ z : Nat, b = (z : Int) := ⟨b.toNat, by omega⟩
  have hy : y < s.v.length := by omega
  have hz : z < s.v.length := by omega
  have hyi : (y : Int) < (s.v.length : Int) := ha.2
  have hy0 : (0 : Int) ≤ (y : Int) := ha.1
  have HS1 := Lib.hid (splay_tp (s := s) h.mem h.inv hy)
  have HH := Lib.hid h
  clear h ha hb
  by_cases hin : z ∈ s.r y
  · have HU := Lib.hid (fun w1 w2 c1 M1 I1 P1 D1 c2 M2 I2 P2 D2 t1 t2 => HH.out.unjoined (w1 := w1) (w2 := w2) hBw (y := y) (z := z) (c1 := c1) (M1 := M1) (I1 := I1) (P1 := P1) (D1 := D1) (c2 := c2) (M2 := M2) (I2 := I2) (P2 := P2) (D2 := D2) t1 t2 hin)
    have HGD := Lib.hid HH.out.good
    rw [join_e HH.out hy hz, if_pos hin]
    have HIN := Lib.hid hin
    clear hin
    go_enter Try.func30, Try.ntmps30
    go_wp2_with fail
    refine HA.out.mono ?_
    rintro e w1 ⟨rfl, rfl⟩
    go_wp2_with fail
    refine HB.out.mono ?_
    rintro e w1 ⟨rfl, rfl⟩
    go_wp2_with fail
    refine HS1.out.mono ?_
    rintro e w1 ⟨rfl, c1, M1, I1, P1, D1, t1, _⟩
    have HT1 := Lib.hid t1
    have HS2 := Lib.hid (splay_tp (s := s) t1.mem t1.inv hz)
    clear t1
    go_wp2_with fail
    refine HS2.out.mono ?_
    rintro e w2 ⟨rfl, c2, M2, I2, P2, D2, t2, _⟩
    have hE := HU.out _ _ _ _ _ _ _ _ _ _ _ _ HT1.out t2
    have HE := Lib.hid hE.2
    clear hE
    have n0 := t2.mem.head
    have c4 := t2.mem.cells hy 4 _ rfl
    by_cases hyz : y = z
    · subst hyz
      clear t2
      go_wp2
      go_ret
      exact ⟨rfl, HE.out⟩
    · have hup : (M2 y).up ≠ none := t2.inv.one_top t2.lt t2.up (by rw [HGD.out.same y z HIN.out]; exact HGD.out.mem y hy) hyz
      obtain ⟨u, hu⟩ : ∃ u, (M2 y).up = some u := by
        cases e : (M2 y).up with
        | none => exact absurd e hup
        | some u => exact ⟨u, rfl⟩
      rw [hu] at c4
      simp only [oi] at c4
      have hyz2 : ¬ (y : Int) = (z : Int) := by omega
      have hum : ¬ (u : Int) = -1 := by omega
      have hum2 : ((u : Int) != -1) = true := by simp
      clear t2 hup hu hyz
      go_wp2
      go_ret
      exact ⟨rfl, HE.out⟩
  · have hyz : ¬ (y : Int) = (z : Int) := fun e => hin (by
      have : y = z := by omega
      subst this
      exact HH.out.good.mem y hy)
    have HU := Lib.hid (fun w1 w2 w3 w4 c1 M1 I1 P1 D1 c2 M2 I2 P2 D2 v c3 M3 I3 P3 D3 t1 t2 t3 hv hl hR hM => HH.out.joined (w1 := w1) (w2 := w2) (w3 := w3) (w4 := w4) hBw (y := y) (z := z) (v := v) (c1 := c1) (M1 := M1) (I1 := I1) (P1 := P1) (D1 := D1) (c2 := c2) (M2 := M2) (I2 := I2) (P2 := P2) (D2 := D2) (c3 := c3) (M3 := M3) (I3 := I3) (P3 := P3) (D3 := D3) t1 t2 t3 hin hv hl hR hM)
    have HYN := Lib.hid (show y ∉ s.r z from fun e => hin (by
      rw [HH.out.good.same z y e]; exact HH.out.good.mem z hz))
    have HVZ := Lib.hid (fun v (hv : s.r v = s.r y) (hvn : v < s.v.length) => show v ≠ z from fun e => by
      subst e
      apply hin
      rw [← hv]; exact HH.out.good.mem v hvn)
    rw [join_e HH.out hy hz, if_neg hin]
    have HZX := Lib.hid (show ∀ q, some z = some q → q < s.v.length from fun q e => by cases e; exact hz)
    clear hin
    go_enter Try.func30, Try.ntmps30
    go_wp2_with fail
    refine HA.out.mono ?_
    rintro e w1 ⟨rfl, rfl⟩
    go_wp2_with fail
    refine HB.out.mono ?_
    rintro e w1 ⟨rfl, rfl⟩
    go_wp2_with fail
    refine HS1.out.mono ?_
    rintro e w1 ⟨rfl, c1, M1, I1, P1, D1, t1, _⟩
    have HT1 := Lib.hid t1
    have HS2 := Lib.hid (splay_tp (s := s) t1.mem t1.inv hz)
    clear t1
    go_wp2_with fail
    refine HS2.out.mono ?_
    rintro e w2 ⟨rfl, c2, M2, I2, P2, D2, t2, hR2⟩
    have hst := HT1.out.stays t2 hR2 HYN.out
    have HEN := Lib.hid (end_any t2.mem t2.inv hy hst.1 hst.2 true)
    have HT2 := Lib.hid t2
    have n0 := t2.mem.head
    have c4 := t2.mem.cells hy 4 _ rfl
    rw [hst.1] at c4
    simp only [oi] at c4
    clear t2 hst hR2
    go_wp2_with fail
    refine HEN.out.mono ?_
    rintro e w3 ⟨v, rfl, hl, hE⟩
    obtain ⟨c3, M3, I3, P3, D3, t3, hv, hR3⟩ := tp_of hE
    clear hE n0 c4
    have HT3 := Lib.hid t3
    have HL := Lib.hid hl
    have HV := Lib.hid hv
    have HR3 := Lib.hid hR3
    have hvz := HVZ.out v hv t3.lt
    have HW := Lib.hid (join_wants t3.inv t3.mem.small t3.lt hz hvz)
    clear t3 hl hv hR3 hvz
    go_wp2_with fail
    refine (hang_any HT3.out.mem HT3.out.lt true (some z) HZX.out).mono ?_
    rintro e w4 ⟨rfl, hA⟩
    have HM4 := Lib.hid hA
    clear hA
    go_wp2_with fail
    refine (refresh_any HM4.out.toSpM HT3.out.lt HW.out).mono ?_
    rintro e w5 ⟨rfl, hA⟩
    have hE := HU.out _ _ _ _ _ _ _ _ _ _ _ _ _ _ _ _ _ _ _ _ HT1.out HT2.out HT3.out HV.out HL.out HR3.out (HM4.out.then hA)
    have HE := Lib.hid hE.2
    clear hE hA
    go_wp2
    go_ret
    exact ⟨rfl, HE.out⟩
end
end Sp
end Go.Proofs.Ytlkigpmjhojceaa
