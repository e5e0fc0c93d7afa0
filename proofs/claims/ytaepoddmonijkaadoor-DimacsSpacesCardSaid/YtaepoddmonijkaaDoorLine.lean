/-
  Contract of the developers' reader.line. Condition: the reader lies in a block of the call's own; a line of at most a million bytes. (Written by wip/tools/gen-Line4.py.)
-/
import Derived.Test.YtaepoddmonijkaaDoorRdr3
import Derived.Test.YtaepoddmonijkaaDoorKind
import Derived.Laws.EntriesVeiled
namespace Go.Proofs.YtaepoddmonijkaaDoor
open Go.ChangeShapes Go.WideShapes Go.ChangeAt Go.RowKit
set_option linter.unusedVariables false
set_option linter.unusedSimpArgs false
namespace Dm

theorem wrd_elem (r : List UInt8) : ∀ (cur y : List UInt8), y ∈ Txt.wrd cur r → y.length ≤ cur.length + r.length := by
  induction r with
  | nil => intro cur y h; rw [Txt.wrd_nil] at h; split at h <;> simp at h; subst h; simp
  | cons c r ih =>
    intro cur y h
    rw [Txt.wrd_cons] at h
    split at h
    · split at h
      · have := ih _ _ h; simp at this ⊢; omega
      · rcases List.mem_cons.1 h with h | h
        · subst h; simp
        · have := ih _ _ h; simp at this ⊢; omega
    · have := ih _ _ h; simp at this ⊢; omega
theorem stepW_hit {st : St} {ws : List (List UInt8)} (hs : says ws = true) {k : Nat} (hk : k < 4) (hno : ∀ j, j < k → fitsL (pat j) ws = false) (hit : fitsL (pat k) ws = true) : stepW st ws = does st k ws := by
  unfold stepW
  rw [if_neg (by simp [hs])]
  match k, hk with
  | 0, _ => rw [if_pos hit]
  | 1, _ => rw [if_neg (by simp [hno 0 (by omega)]), if_pos hit]
  | 2, _ => rw [if_neg (by simp [hno 0 (by omega)]), if_neg (by simp [hno 1 (by omega)]), if_pos hit]
  | 3, _ => rw [if_neg (by simp [hno 0 (by omega)]), if_neg (by simp [hno 1 (by omega)]), if_neg (by simp [hno 2 (by omega)]), if_pos hit]
theorem stepW_none {st : St} {ws : List (List UInt8)} (hs : says ws = true) (hno : ∀ j, j < 4 → fitsL (pat j) ws = false) : stepW st ws = (2, st) := by
  unfold stepW
  rw [if_neg (by simp [hs]), if_neg (by simp [hno 0 (by omega)]), if_neg (by simp [hno 1 (by omega)]), if_neg (by simp [hno 2 (by omega)]), if_neg (by simp [hno 3 (by omega)])]
theorem stepW_quiet {st : St} {ws : List (List UInt8)} (hs : says ws = false) : stepW st ws = (0, st) := by unfold stepW; rw [if_pos hs]
theorem does_no {st : St} {k : Nat} {ws : List (List UInt8)} (h : may st k = false) : does st k ws = (2, st) := by unfold does; rw [if_neg (by simp [h])]
theorem does_err {st : St} {k : Nat} {ws : List (List UInt8)} (h : may st k = true) (h2 : numsE (sel (pat k) ws) ≠ 0) : does st k ws = (numsE (sel (pat k) ws), st) := by unfold does; rw [if_pos h, if_neg h2]
theorem does_act {st : St} {k : Nat} {ws : List (List UInt8)} (h : may st k = true) (h2 : numsE (sel (pat k) ws) = 0) : does st k ws = act st k ((sel (pat k) ws).map Txt.numV) := by unfold does; rw [if_pos h, if_pos h2]
theorem no_succ {ws : List (List UInt8)} {k : Nat} (hno : ∀ j, j < k → fitsL (pat j) ws = false) (h : fitsL (pat k) ws = false) : ∀ j, j < k + 1 → fitsL (pat j) ws = false := by
  intro j hj
  rcases Nat.lt_or_ge j k with h2 | h2
  · exact hno j h2
  · have : j = k := by omega
    subst this; exact h
theorem after_trans {w w2 w' : World} {B b : Nat} {r : Int × St} {e : Ending} (h : After w2 B b r e w') (hb : But B b w w2) : After w B b r e w' := ⟨h.1, h.2.1, hb.trans h.2.2⟩
/-- kind k, with its slots in the walk's own form -/
theorem len4 {X : List (List UInt8)} (h : X.length = 4) : ∃ a b c d, X = [a, b, c, d] := by
  match X, h with
  | [a, b, c, d], _ => exact ⟨a, b, c, d, rfl⟩
theorem len3 {X : List (List UInt8)} (h : X.length = 3) : ∃ a b c, X = [a, b, c] := by
  match X, h with
  | [a, b, c], _ => exact ⟨a, b, c, rfl⟩
theorem act_row {w : World} {B : Nat} {v : Value} {l : List Int} (h : OwnJ w B v l) : ∃ ao cap, v = .slice ao l.length cap ∧ Ne.IRow w ao l := by
  obtain ⟨ao, cap, hv, _, _, _, hr, _⟩ := Rw.own_row Ne.encI_len h
  exact ⟨ao, cap, hv, hr⟩
theorem box3 {w : World} {b : Nat} (hb : b = w.heap.size) (x y z : Value) (T : TypeId) : (w.alloc (.cells #[x, y, z] T)).cell? ⟨b, 0, none⟩ = some x ∧ (w.alloc (.cells #[x, y, z] T)).cell? ⟨b, 1, none⟩ = some y ∧ (w.alloc (.cells #[x, y, z] T)).cell? ⟨b, 2, none⟩ = some z := by
  subst hb; exact ⟨World.cell?_alloc_new w _ _ 0, World.cell?_alloc_new w _ _ 1, World.cell?_alloc_new w _ _ 2⟩

set_option maxRecDepth 100000 in
set_option maxHeartbeats 8000000 in
theorem line_any (B b : Nat) (st : St) (w : World) (hR : RdIs w B b st) (hok : st.ok) (hv : Txt.Vars w) (x : ByteArray) (hx : x.size ≤ 1000000) (hB : B ≤ w.heap.size) :
    Calls Tryd.prog 23 #[.pointer (some ⟨b, 0, none⟩), .string x] w (After w B b (stepW st (Txt.wrd [] x.data.toList))) := by
  have HW := Lib.hid (Txt.words_any x w hx)
  have hwl := Txt.wrd_len x.data.toList []
  have hwe := wrd_elem x.data.toList []
  have HXS := Lib.hid (show x.data.toList.length ≤ 1000000 by rw [← Lib.size_eq]; exact hx)
  generalize Txt.wrd [] x.data.toList = ws at *
  have HWE := Lib.hid (show ∀ y ∈ ws, y.length ≤ 1000000 from fun y hy => by have := hwe y hy; have := HXS.out; simp at *; omega)
  have HWL := Lib.hid (show ws.length ≤ 1000001 by have := HXS.out; omega)
  have HR := Lib.hid hR
  have HV := Lib.hid hv
  have HOK := Lib.hid hok
  clear hwl hwe hR hv hok
  by_cases he : ws = []
  · have HE := Lib.hid (stepW_quiet (st := st) (ws := ws) (by simp [says, he]))
    have HL := Lib.hid (show ws.length = 0 by simp [he])
    clear he
    go_enter Tryd.func23, Tryd.ntmps23
    go_wp2_with fail
    refine HW.out.mono ?_
    rintro e w1 ⟨ao, cap, rfl, _, _, hr, hb⟩
    rw [HL.out]
    have HB := Lib.hid hb
    clear hb hr
    go_wp2
    go_ret
    exact after_ok HE.out rfl (rdIs_kept HR.out HB.out) (But.of_below (HB.out.mono hB))
  have hl0 : 0 < ws.length := by rcases ws with _ | ⟨y, r⟩; exact absurd rfl he; simp
  obtain ⟨y, hy⟩ : ∃ y, ws[0]? = some y := ⟨_, List.getElem?_eq_getElem hl0⟩
  have hl1 : ((ws.length : Int) == 0) = false := by simp; omega
  by_cases hc : y = [99]
  · have HE := Lib.hid (stepW_quiet (st := st) (ws := ws) (by simp [says, hy, hc]))
    subst hc
    clear he
    go_enter Tryd.func23, Tryd.ntmps23
    go_wp2_with fail
    refine HW.out.mono ?_
    rintro e w1 ⟨ao, cap, rfl, _, _, hr, hb⟩
    have HB := Lib.hid hb
    rcases hr with h | ⟨g, off, rfl, _, hc⟩
    · rw [h] at hl0; simp at hl0
    have c0 : w1.cell? ⟨g, off, none⟩ = some (.string ⟨[99].toArray⟩) := hc 0 _ hy
    clear hb hc hy
    go_wp2
    go_ret
    exact after_ok HE.out rfl (rdIs_kept HR.out HB.out) (But.of_below (HB.out.mono hB))
  have HS := Lib.hid (show says ws = true by simp [says, hy, hc, he])
  have hc' : (y == [99]) = false := by simpa using hc
  clear hc he
  go_enter Tryd.func23, Tryd.ntmps23
  go_wp2_with fail
  refine HW.out.mono ?_
  rintro e w1 ⟨ao, cap, rfl, _, _, hr, hb⟩
  have HB1 := Lib.hid hb
  rcases hr with h | ⟨g0, off0, rfl, hg0, hc⟩
  · rw [h] at hl0; simp at hl0
  have c0 : w1.cell? ⟨g0, off0, none⟩ = some (.string ⟨y.toArray⟩) := hc 0 _ hy
  have HR0 := Lib.hid (show Txt.SRow w1 (some ⟨g0, off0, none⟩) ws from .inr ⟨g0, off0, rfl, hg0, hc⟩)
  clear hb hc hy
  go_wp2_with fail
  refine (kinds_any _).mono ?_
  rintro e w2 ⟨a, rfl, hk, hb⟩
  have HB2 := Lib.hid (HB1.out.trans (hb.mono HB1.out.size))
  have HK2 := Lib.hid hk
  have HRW := Lib.hid (HR0.out.below hb)
  have HRD := Lib.hid (rdIs_kept HR.out HB2.out)
  have HV2 := Lib.hid (HV.out.below HB2.out)
  clear hb hk c0 HR0 HB1 HW hg0
  go_wp2
  go_loopw [23] (fun i wr => ∃ k : Nat, k ≤ 4 ∧ i = .int .i64 k ∧ Below w2.heap.size w2 wr ∧ ∀ j, j < k → fitsL (pat j) ws = false) (fun i _ => 4 - (intOf i).toNat)
  case atStart => exact ⟨0, Nat.zero_le _, rfl, Below.refl _ _, fun j hj => absurd hj (by omega)⟩
  case round =>
    obtain ⟨k, hk, rfl, hbel, hno⟩ := hrel
    have HBR := Lib.hid hbel
    have HNO := Lib.hid hno
    have HRW3 := Lib.hid (HRW.out.below hbel)
    have HRD3 := Lib.hid (rdIs_kept HRD.out hbel)
    have HV3 := Lib.hid (HV2.out.below hbel)
    clear hbel hno
    obtain rfl | rfl | rfl | rfl | rfl : k = 0 ∨ k = 1 ∨ k = 2 ∨ k = 3 ∨ k = 4 := by omega
    · obtain ⟨g, k0, k1, k2, kr⟩ := kindAt_kept (HK2.out 0 (by omega)) HBR.out
      replace k0 : wr.cell? ⟨a, 0, none⟩ = some (.slice (some ⟨g, 0, none⟩) 4 4) := k0
      replace k1 : wr.cell? ⟨a, 1, none⟩ = some (.func (.func 55) #[] #[]) := k1
      replace k2 : wr.cell? ⟨a, 2, none⟩ = some (.func (.func 56) #[] #[]) := k2
      have HBA := Lib.hid (show Below wr.heap.size wr (wr.alloc (.cells #[.slice (some ⟨g, 0, none⟩) 4 4, .func (.func 55) #[] #[], .func (.func 56) #[] #[]] 77)) from (Below.refl _ _).alloc (Nat.le_refl _) _)
      have HKR := Lib.hid (kr.below HBA.out)
      have HXR := Lib.hid (HRW3.out.below HBA.out)
      obtain ⟨b0, b1, b2⟩ := box3 (w := wr) rfl (.slice (some ⟨g, 0, none⟩) 4 4) (.func (.func 55) #[] #[]) (.func (.func 56) #[] #[]) 77
      have HF : Hid (Calls Tryd.prog 40 #[.agg #[.slice (some ⟨g, 0, none⟩) 4 4, .func (.func 55) #[] #[], .func (.func 56) #[] #[]], .slice (some ⟨g0, off0, none⟩) ws.length cap] (wr.alloc (.cells #[.slice (some ⟨g, 0, none⟩) 4 4, .func (.func 55) #[] #[], .func (.func 56) #[] #[]] 77)) fun e w' => e = .returned (.bool (fitsL (pat 0) ws)) ∧ Below (wr.alloc (.cells #[.slice (some ⟨g, 0, none⟩) 4 4, .func (.func 55) #[] #[], .func (.func 56) #[] #[]] 77)).heap.size (wr.alloc (.cells #[.slice (some ⟨g, 0, none⟩) 4 4, .func (.func 55) #[] #[], .func (.func 56) #[] #[]] 77)) w') := Lib.hid (fits_any (some ⟨g, 0, none⟩) (some ⟨g0, off0, none⟩) 4 cap 55 56 (pat 0) ws (wr.alloc (.cells #[.slice (some ⟨g, 0, none⟩) 4 4, .func (.func 55) #[] #[], .func (.func 56) #[] #[]] 77)) HKR.out HXR.out (by decide) (by have := HWL.out; omega))
      clear kr
      have HBW := Lib.hid (HB2.out.trans (HBR.out.mono HB2.out.size))
      go_wp2_with fail
      refine HF.out.mono ?_
      rintro e w4 ⟨rfl, hb⟩
      have HB4 := Lib.hid (HBA.out.trans (hb.mono (by simp)))
      replace b0 := (hb.cell (p := ⟨wr.heap.size, 0, none⟩) (by simp)).trans b0
      replace b1 := (hb.cell (p := ⟨wr.heap.size, 1, none⟩) (by simp)).trans b1
      replace b2 := (hb.cell (p := ⟨wr.heap.size, 2, none⟩) (by simp)).trans b2
      have HK4 := Lib.hid (HKR.out.below hb)
      have HX4 := Lib.hid (HXR.out.below hb)
      have HRD4 := Lib.hid (rdIs_kept HRD3.out HB4.out)
      have HV4 := Lib.hid (HV3.out.below HB4.out)
      have HBW4 := Lib.hid (HBW.out.trans (HB4.out.mono HBW.out.size))
      have HBC := Lib.hid (HBR.out.trans (HB4.out.mono HBR.out.size))
      clear hb HF HBA HKR HXR k0 k1 k2
      by_cases hf : fitsL (pat 0) ws = true
      case neg =>
        have hf' : fitsL (pat 0) ws = false := by simpa using hf
        have HN2 := Lib.hid (no_succ HNO.out hf')
        clear hf b0 b1 b2
        go_wp2
        go_roundw
        case rel => exact ⟨1, by omega, by go_num, HBC.out, HN2.out⟩
        case measure => simp [intOf]
      have HHIT := Lib.hid (stepW_hit (st := st) HS.out (by omega) HNO.out hf)
      by_cases hm : may st 0 = true
      case neg =>
        have hm' : may st 0 = false := by simpa using hm
        have HE := Lib.hid (HHIT.out.trans (does_no hm'))
        clear hm
        go_wp2_with fail
        refine (mayp_any B b st w4 HRD4.out).mono ?_
        rintro e w5 ⟨rfl, rfl⟩
        go_wp2
        go_ret
        exact after_err HE.out (by decide) rfl (But.of_below (HBW4.out.mono hB))
      have HNU := Lib.hid (show Calls Tryd.prog 41 #[.agg #[.slice (some ⟨g, 0, none⟩) 4 4, .func (.func 55) #[] #[], .func (.func 56) #[] #[]], .slice (some ⟨g0, off0, none⟩) ws.length cap] w4 _ from knumbers_any (some ⟨g, 0, none⟩) (some ⟨g0, off0, none⟩) 4 cap 55 56 (pat 0) ws w4 HV4.out HK4.out HX4.out (fitsL_len _ _ hf) (by decide) HWE.out)
      by_cases hn : numsE (sel (pat 0) ws) = 0
      case neg =>
        have HE := Lib.hid (HHIT.out.trans (does_err hm hn))
        have HNE := Lib.hid hn
        have hn' : (numsE (sel (pat 0) ws) != 0) = true := by simpa using hn
        clear hn
        go_wp2_with fail
        refine (mayp_any B b st w4 HRD4.out).mono ?_
        rintro e w' ⟨rfl, rfl⟩
        go_wp2_with fail
        refine HNU.out.mono ?_
        rintro e w5 ⟨v, rfl, _, hb⟩
        have HB5 := Lib.hid (HBW4.out.trans (hb.mono HBW4.out.size))
        clear hb
        go_wp2
        go_ret
        exact after_err HE.out HNE.out rfl (But.of_below (HB5.out.mono hB))
      obtain ⟨p, q, hl, hbd⟩ : ∃ p q : Int, (sel (pat 0) ws).map Txt.numV = [p, q] ∧ (-9223372036854775808 ≤ q ∧ q ≤ 9223372036854775807) := by
        obtain ⟨x0, x1, x2, x3, hh⟩ := len4 (fitsL_len _ _ hf)
        exact ⟨Txt.numV x2, Txt.numV x3, by rw [hh]; rfl, Txt.numV_bd _⟩
      have HBD := Lib.hid hbd
      have HE := Lib.hid (show stepW st ws = problem st p q by rw [HHIT.out, does_act hm hn, hl]; rfl)
      have HL := Lib.hid hl
      clear hbd hl
      rw [hn] at HNU
      clear hn
      go_wp2_with fail
      refine (mayp_any B b st w4 HRD4.out).mono ?_
      rintro e w' ⟨rfl, rfl⟩
      go_wp2_with fail
      refine HNU.out.mono ?_
      rintro e w5 ⟨v, rfl, hvv, hb⟩
      have hvv2 := hvv (by trivial)
      rw [HL.out] at hvv2
      obtain ⟨o5, c5, hv5, hrow⟩ := act_row hvv2
      replace hv5 : v = .slice o5 2 c5 := hv5
      subst hv5
      have HB5 := Lib.hid (HBW4.out.trans (hb.mono HBW4.out.size))
      have HRD5 := Lib.hid (rdIs_kept HRD4.out hb)
      replace b0 := (hb.cell (p := ⟨wr.heap.size, 0, none⟩) (World.block_lt_of_cell? w4 _ b0)).trans b0
      replace b1 := (hb.cell (p := ⟨wr.heap.size, 1, none⟩) (World.block_lt_of_cell? w4 _ b1)).trans b1
      replace b2 := (hb.cell (p := ⟨wr.heap.size, 2, none⟩) (World.block_lt_of_cell? w4 _ b2)).trans b2
      have HDO := Lib.hid (problem_any B b st w5 HRD5.out o5 c5 p q hrow)
      clear hvv hvv2 hb hrow
      go_wp2_with fail
      refine HDO.out.mono ?_
      rintro e w6 ⟨rfl, h2, h3⟩
      have H2 := Lib.hid h2
      have H3 := Lib.hid h3
      clear h2 h3
      go_wp2
      go_ret
      rw [HE.out]
      exact after_trans ⟨rfl, H2.out, H3.out⟩ (But.of_below (HB5.out.mono hB))

    · obtain ⟨g, k0, k1, k2, kr⟩ := kindAt_kept (HK2.out 1 (by omega)) HBR.out
      replace k0 : wr.cell? ⟨a, 3, none⟩ = some (.slice (some ⟨g, 0, none⟩) 3 3) := k0
      replace k1 : wr.cell? ⟨a, 4, none⟩ = some (.func (.func 57) #[] #[]) := k1
      replace k2 : wr.cell? ⟨a, 5, none⟩ = some (.func (.func 58) #[] #[]) := k2
      have HBA := Lib.hid (show Below wr.heap.size wr (wr.alloc (.cells #[.slice (some ⟨g, 0, none⟩) 3 3, .func (.func 57) #[] #[], .func (.func 58) #[] #[]] 77)) from (Below.refl _ _).alloc (Nat.le_refl _) _)
      have HKR := Lib.hid (kr.below HBA.out)
      have HXR := Lib.hid (HRW3.out.below HBA.out)
      obtain ⟨b0, b1, b2⟩ := box3 (w := wr) rfl (.slice (some ⟨g, 0, none⟩) 3 3) (.func (.func 57) #[] #[]) (.func (.func 58) #[] #[]) 77
      have HF : Hid (Calls Tryd.prog 40 #[.agg #[.slice (some ⟨g, 0, none⟩) 3 3, .func (.func 57) #[] #[], .func (.func 58) #[] #[]], .slice (some ⟨g0, off0, none⟩) ws.length cap] (wr.alloc (.cells #[.slice (some ⟨g, 0, none⟩) 3 3, .func (.func 57) #[] #[], .func (.func 58) #[] #[]] 77)) fun e w' => e = .returned (.bool (fitsL (pat 1) ws)) ∧ Below (wr.alloc (.cells #[.slice (some ⟨g, 0, none⟩) 3 3, .func (.func 57) #[] #[], .func (.func 58) #[] #[]] 77)).heap.size (wr.alloc (.cells #[.slice (some ⟨g, 0, none⟩) 3 3, .func (.func 57) #[] #[], .func (.func 58) #[] #[]] 77)) w') := Lib.hid (fits_any (some ⟨g, 0, none⟩) (some ⟨g0, off0, none⟩) 3 cap 57 58 (pat 1) ws (wr.alloc (.cells #[.slice (some ⟨g, 0, none⟩) 3 3, .func (.func 57) #[] #[], .func (.func 58) #[] #[]] 77)) HKR.out HXR.out (by decide) (by have := HWL.out; omega))
      clear kr
      have HBW := Lib.hid (HB2.out.trans (HBR.out.mono HB2.out.size))
      go_wp2_with fail
      refine HF.out.mono ?_
      rintro e w4 ⟨rfl, hb⟩
      have HB4 := Lib.hid (HBA.out.trans (hb.mono (by simp)))
      replace b0 := (hb.cell (p := ⟨wr.heap.size, 0, none⟩) (by simp)).trans b0
      replace b1 := (hb.cell (p := ⟨wr.heap.size, 1, none⟩) (by simp)).trans b1
      replace b2 := (hb.cell (p := ⟨wr.heap.size, 2, none⟩) (by simp)).trans b2
      have HK4 := Lib.hid (HKR.out.below hb)
      have HX4 := Lib.hid (HXR.out.below hb)
      have HRD4 := Lib.hid (rdIs_kept HRD3.out HB4.out)
      have HV4 := Lib.hid (HV3.out.below HB4.out)
      have HBW4 := Lib.hid (HBW.out.trans (HB4.out.mono HBW.out.size))
      have HBC := Lib.hid (HBR.out.trans (HB4.out.mono HBR.out.size))
      clear hb HF HBA HKR HXR k0 k1 k2
      by_cases hf : fitsL (pat 1) ws = true
      case neg =>
        have hf' : fitsL (pat 1) ws = false := by simpa using hf
        have HN2 := Lib.hid (no_succ HNO.out hf')
        clear hf b0 b1 b2
        go_wp2
        go_roundw
        case rel => exact ⟨2, by omega, by go_num, HBC.out, HN2.out⟩
        case measure => simp [intOf]
      have HHIT := Lib.hid (stepW_hit (st := st) HS.out (by omega) HNO.out hf)
      by_cases hm : may st 1 = true
      case neg =>
        have hm' : may st 1 = false := by simpa using hm
        have HE := Lib.hid (HHIT.out.trans (does_no hm'))
        clear hm
        go_wp2_with fail
        refine (mays_any B b st w4 HRD4.out).mono ?_
        rintro e w5 ⟨rfl, rfl⟩
        go_wp2
        go_ret
        exact after_err HE.out (by decide) rfl (But.of_below (HBW4.out.mono hB))
      have HNU := Lib.hid (show Calls Tryd.prog 41 #[.agg #[.slice (some ⟨g, 0, none⟩) 3 3, .func (.func 57) #[] #[], .func (.func 58) #[] #[]], .slice (some ⟨g0, off0, none⟩) ws.length cap] w4 _ from knumbers_any (some ⟨g, 0, none⟩) (some ⟨g0, off0, none⟩) 3 cap 57 58 (pat 1) ws w4 HV4.out HK4.out HX4.out (fitsL_len _ _ hf) (by decide) HWE.out)
      by_cases hn : numsE (sel (pat 1) ws) = 0
      case neg =>
        have HE := Lib.hid (HHIT.out.trans (does_err hm hn))
        have HNE := Lib.hid hn
        have hn' : (numsE (sel (pat 1) ws) != 0) = true := by simpa using hn
        clear hn
        go_wp2_with fail
        refine (mays_any B b st w4 HRD4.out).mono ?_
        rintro e w' ⟨rfl, rfl⟩
        go_wp2_with fail
        refine HNU.out.mono ?_
        rintro e w5 ⟨v, rfl, _, hb⟩
        have HB5 := Lib.hid (HBW4.out.trans (hb.mono HBW4.out.size))
        clear hb
        go_wp2
        go_ret
        exact after_err HE.out HNE.out rfl (But.of_below (HB5.out.mono hB))
      obtain ⟨p, hl, hbd⟩ : ∃ p : Int, (sel (pat 1) ws).map Txt.numV = [p] ∧ (-9223372036854775808 ≤ p ∧ p ≤ 9223372036854775807) := by
        obtain ⟨x0, x1, x2, hh⟩ := len3 (fitsL_len _ _ hf)
        exact ⟨Txt.numV x1, by rw [hh]; rfl, Txt.numV_bd _⟩
      have HBD := Lib.hid hbd
      have HE := Lib.hid (show stepW st ws = source st p by rw [HHIT.out, does_act hm hn, hl]; rfl)
      have HL := Lib.hid hl
      clear hbd hl
      rw [hn] at HNU
      clear hn
      go_wp2_with fail
      refine (mays_any B b st w4 HRD4.out).mono ?_
      rintro e w' ⟨rfl, rfl⟩
      go_wp2_with fail
      refine HNU.out.mono ?_
      rintro e w5 ⟨v, rfl, hvv, hb⟩
      have hvv2 := hvv (by trivial)
      rw [HL.out] at hvv2
      obtain ⟨o5, c5, hv5, hrow⟩ := act_row hvv2
      replace hv5 : v = .slice o5 1 c5 := hv5
      subst hv5
      have HB5 := Lib.hid (HBW4.out.trans (hb.mono HBW4.out.size))
      have HRD5 := Lib.hid (rdIs_kept HRD4.out hb)
      replace b0 := (hb.cell (p := ⟨wr.heap.size, 0, none⟩) (World.block_lt_of_cell? w4 _ b0)).trans b0
      replace b1 := (hb.cell (p := ⟨wr.heap.size, 1, none⟩) (World.block_lt_of_cell? w4 _ b1)).trans b1
      replace b2 := (hb.cell (p := ⟨wr.heap.size, 2, none⟩) (World.block_lt_of_cell? w4 _ b2)).trans b2
      have HDO := Lib.hid (source_any B b st w5 HRD5.out o5 c5 p hrow)
      clear hvv hvv2 hb hrow
      go_wp2_with fail
      refine HDO.out.mono ?_
      rintro e w6 ⟨rfl, h2, h3⟩
      have H2 := Lib.hid h2
      have H3 := Lib.hid h3
      clear h2 h3
      go_wp2
      go_ret
      rw [HE.out]
      exact after_trans ⟨rfl, H2.out, H3.out⟩ (But.of_below (HB5.out.mono hB))

    · obtain ⟨g, k0, k1, k2, kr⟩ := kindAt_kept (HK2.out 2 (by omega)) HBR.out
      replace k0 : wr.cell? ⟨a, 6, none⟩ = some (.slice (some ⟨g, 0, none⟩) 3 3) := k0
      replace k1 : wr.cell? ⟨a, 7, none⟩ = some (.func (.func 59) #[] #[]) := k1
      replace k2 : wr.cell? ⟨a, 8, none⟩ = some (.func (.func 60) #[] #[]) := k2
      have HBA := Lib.hid (show Below wr.heap.size wr (wr.alloc (.cells #[.slice (some ⟨g, 0, none⟩) 3 3, .func (.func 59) #[] #[], .func (.func 60) #[] #[]] 77)) from (Below.refl _ _).alloc (Nat.le_refl _) _)
      have HKR := Lib.hid (kr.below HBA.out)
      have HXR := Lib.hid (HRW3.out.below HBA.out)
      obtain ⟨b0, b1, b2⟩ := box3 (w := wr) rfl (.slice (some ⟨g, 0, none⟩) 3 3) (.func (.func 59) #[] #[]) (.func (.func 60) #[] #[]) 77
      have HF : Hid (Calls Tryd.prog 40 #[.agg #[.slice (some ⟨g, 0, none⟩) 3 3, .func (.func 59) #[] #[], .func (.func 60) #[] #[]], .slice (some ⟨g0, off0, none⟩) ws.length cap] (wr.alloc (.cells #[.slice (some ⟨g, 0, none⟩) 3 3, .func (.func 59) #[] #[], .func (.func 60) #[] #[]] 77)) fun e w' => e = .returned (.bool (fitsL (pat 2) ws)) ∧ Below (wr.alloc (.cells #[.slice (some ⟨g, 0, none⟩) 3 3, .func (.func 59) #[] #[], .func (.func 60) #[] #[]] 77)).heap.size (wr.alloc (.cells #[.slice (some ⟨g, 0, none⟩) 3 3, .func (.func 59) #[] #[], .func (.func 60) #[] #[]] 77)) w') := Lib.hid (fits_any (some ⟨g, 0, none⟩) (some ⟨g0, off0, none⟩) 3 cap 59 60 (pat 2) ws (wr.alloc (.cells #[.slice (some ⟨g, 0, none⟩) 3 3, .func (.func 59) #[] #[], .func (.func 60) #[] #[]] 77)) HKR.out HXR.out (by decide) (by have := HWL.out; omega))
      clear kr
      have HBW := Lib.hid (HB2.out.trans (HBR.out.mono HB2.out.size))
      go_wp2_with fail
      refine HF.out.mono ?_
      rintro e w4 ⟨rfl, hb⟩
      have HB4 := Lib.hid (HBA.out.trans (hb.mono (by simp)))
      replace b0 := (hb.cell (p := ⟨wr.heap.size, 0, none⟩) (by simp)).trans b0
      replace b1 := (hb.cell (p := ⟨wr.heap.size, 1, none⟩) (by simp)).trans b1
      replace b2 := (hb.cell (p := ⟨wr.heap.size, 2, none⟩) (by simp)).trans b2
      have HK4 := Lib.hid (HKR.out.below hb)
      have HX4 := Lib.hid (HXR.out.below hb)
      have HRD4 := Lib.hid (rdIs_kept HRD3.out HB4.out)
      have HV4 := Lib.hid (HV3.out.below HB4.out)
      have HBW4 := Lib.hid (HBW.out.trans (HB4.out.mono HBW.out.size))
      have HBC := Lib.hid (HBR.out.trans (HB4.out.mono HBR.out.size))
      clear hb HF HBA HKR HXR k0 k1 k2
      by_cases hf : fitsL (pat 2) ws = true
      case neg =>
        have hf' : fitsL (pat 2) ws = false := by simpa using hf
        have HN2 := Lib.hid (no_succ HNO.out hf')
        clear hf b0 b1 b2
        go_wp2
        go_roundw
        case rel => exact ⟨3, by omega, by go_num, HBC.out, HN2.out⟩
        case measure => simp [intOf]
      have HHIT := Lib.hid (stepW_hit (st := st) HS.out (by omega) HNO.out hf)
      by_cases hm : may st 2 = true
      case neg =>
        have hm' : may st 2 = false := by simpa using hm
        have HE := Lib.hid (HHIT.out.trans (does_no hm'))
        clear hm
        go_wp2_with fail
        refine (mayt_any B b st w4 HRD4.out).mono ?_
        rintro e w5 ⟨rfl, rfl⟩
        go_wp2
        go_ret
        exact after_err HE.out (by decide) rfl (But.of_below (HBW4.out.mono hB))
      have HNU := Lib.hid (show Calls Tryd.prog 41 #[.agg #[.slice (some ⟨g, 0, none⟩) 3 3, .func (.func 59) #[] #[], .func (.func 60) #[] #[]], .slice (some ⟨g0, off0, none⟩) ws.length cap] w4 _ from knumbers_any (some ⟨g, 0, none⟩) (some ⟨g0, off0, none⟩) 3 cap 59 60 (pat 2) ws w4 HV4.out HK4.out HX4.out (fitsL_len _ _ hf) (by decide) HWE.out)
      by_cases hn : numsE (sel (pat 2) ws) = 0
      case neg =>
        have HE := Lib.hid (HHIT.out.trans (does_err hm hn))
        have HNE := Lib.hid hn
        have hn' : (numsE (sel (pat 2) ws) != 0) = true := by simpa using hn
        clear hn
        go_wp2_with fail
        refine (mayt_any B b st w4 HRD4.out).mono ?_
        rintro e w' ⟨rfl, rfl⟩
        go_wp2_with fail
        refine HNU.out.mono ?_
        rintro e w5 ⟨v, rfl, _, hb⟩
        have HB5 := Lib.hid (HBW4.out.trans (hb.mono HBW4.out.size))
        clear hb
        go_wp2
        go_ret
        exact after_err HE.out HNE.out rfl (But.of_below (HB5.out.mono hB))
      obtain ⟨p, hl, hbd⟩ : ∃ p : Int, (sel (pat 2) ws).map Txt.numV = [p] ∧ (-9223372036854775808 ≤ p ∧ p ≤ 9223372036854775807) := by
        obtain ⟨x0, x1, x2, hh⟩ := len3 (fitsL_len _ _ hf)
        exact ⟨Txt.numV x1, by rw [hh]; rfl, Txt.numV_bd _⟩
      have HBD := Lib.hid hbd
      have HE := Lib.hid (show stepW st ws = sink st p by rw [HHIT.out, does_act hm hn, hl]; rfl)
      have HL := Lib.hid hl
      clear hbd hl
      rw [hn] at HNU
      clear hn
      go_wp2_with fail
      refine (mayt_any B b st w4 HRD4.out).mono ?_
      rintro e w' ⟨rfl, rfl⟩
      go_wp2_with fail
      refine HNU.out.mono ?_
      rintro e w5 ⟨v, rfl, hvv, hb⟩
      have hvv2 := hvv (by trivial)
      rw [HL.out] at hvv2
      obtain ⟨o5, c5, hv5, hrow⟩ := act_row hvv2
      replace hv5 : v = .slice o5 1 c5 := hv5
      subst hv5
      have HB5 := Lib.hid (HBW4.out.trans (hb.mono HBW4.out.size))
      have HRD5 := Lib.hid (rdIs_kept HRD4.out hb)
      replace b0 := (hb.cell (p := ⟨wr.heap.size, 0, none⟩) (World.block_lt_of_cell? w4 _ b0)).trans b0
      replace b1 := (hb.cell (p := ⟨wr.heap.size, 1, none⟩) (World.block_lt_of_cell? w4 _ b1)).trans b1
      replace b2 := (hb.cell (p := ⟨wr.heap.size, 2, none⟩) (World.block_lt_of_cell? w4 _ b2)).trans b2
      have HDO := Lib.hid (sink_any B b st w5 HRD5.out o5 c5 p hrow)
      clear hvv hvv2 hb hrow
      go_wp2_with fail
      refine HDO.out.mono ?_
      rintro e w6 ⟨rfl, h2, h3⟩
      have H2 := Lib.hid h2
      have H3 := Lib.hid h3
      clear h2 h3
      go_wp2
      go_ret
      rw [HE.out]
      exact after_trans ⟨rfl, H2.out, H3.out⟩ (But.of_below (HB5.out.mono hB))

    · obtain ⟨g, k0, k1, k2, kr⟩ := kindAt_kept (HK2.out 3 (by omega)) HBR.out
      replace k0 : wr.cell? ⟨a, 9, none⟩ = some (.slice (some ⟨g, 0, none⟩) 4 4) := k0
      replace k1 : wr.cell? ⟨a, 10, none⟩ = some (.func (.func 61) #[] #[]) := k1
      replace k2 : wr.cell? ⟨a, 11, none⟩ = some (.func (.func 62) #[] #[]) := k2
      have HBA := Lib.hid (show Below wr.heap.size wr (wr.alloc (.cells #[.slice (some ⟨g, 0, none⟩) 4 4, .func (.func 61) #[] #[], .func (.func 62) #[] #[]] 77)) from (Below.refl _ _).alloc (Nat.le_refl _) _)
      have HKR := Lib.hid (kr.below HBA.out)
      have HXR := Lib.hid (HRW3.out.below HBA.out)
      obtain ⟨b0, b1, b2⟩ := box3 (w := wr) rfl (.slice (some ⟨g, 0, none⟩) 4 4) (.func (.func 61) #[] #[]) (.func (.func 62) #[] #[]) 77
      have HF : Hid (Calls Tryd.prog 40 #[.agg #[.slice (some ⟨g, 0, none⟩) 4 4, .func (.func 61) #[] #[], .func (.func 62) #[] #[]], .slice (some ⟨g0, off0, none⟩) ws.length cap] (wr.alloc (.cells #[.slice (some ⟨g, 0, none⟩) 4 4, .func (.func 61) #[] #[], .func (.func 62) #[] #[]] 77)) fun e w' => e = .returned (.bool (fitsL (pat 3) ws)) ∧ Below (wr.alloc (.cells #[.slice (some ⟨g, 0, none⟩) 4 4, .func (.func 61) #[] #[], .func (.func 62) #[] #[]] 77)).heap.size (wr.alloc (.cells #[.slice (some ⟨g, 0, none⟩) 4 4, .func (.func 61) #[] #[], .func (.func 62) #[] #[]] 77)) w') := Lib.hid (fits_any (some ⟨g, 0, none⟩) (some ⟨g0, off0, none⟩) 4 cap 61 62 (pat 3) ws (wr.alloc (.cells #[.slice (some ⟨g, 0, none⟩) 4 4, .func (.func 61) #[] #[], .func (.func 62) #[] #[]] 77)) HKR.out HXR.out (by decide) (by have := HWL.out; omega))
      clear kr
      have HBW := Lib.hid (HB2.out.trans (HBR.out.mono HB2.out.size))
      go_wp2_with fail
      refine HF.out.mono ?_
      rintro e w4 ⟨rfl, hb⟩
      have HB4 := Lib.hid (HBA.out.trans (hb.mono (by simp)))
      replace b0 := (hb.cell (p := ⟨wr.heap.size, 0, none⟩) (by simp)).trans b0
      replace b1 := (hb.cell (p := ⟨wr.heap.size, 1, none⟩) (by simp)).trans b1
      replace b2 := (hb.cell (p := ⟨wr.heap.size, 2, none⟩) (by simp)).trans b2
      have HK4 := Lib.hid (HKR.out.below hb)
      have HX4 := Lib.hid (HXR.out.below hb)
      have HRD4 := Lib.hid (rdIs_kept HRD3.out HB4.out)
      have HV4 := Lib.hid (HV3.out.below HB4.out)
      have HBW4 := Lib.hid (HBW.out.trans (HB4.out.mono HBW.out.size))
      have HBC := Lib.hid (HBR.out.trans (HB4.out.mono HBR.out.size))
      clear hb HF HBA HKR HXR k0 k1 k2
      by_cases hf : fitsL (pat 3) ws = true
      case neg =>
        have hf' : fitsL (pat 3) ws = false := by simpa using hf
        have HN2 := Lib.hid (no_succ HNO.out hf')
        clear hf b0 b1 b2
        go_wp2
        go_roundw
        case rel => exact ⟨4, by omega, by go_num, HBC.out, HN2.out⟩
        case measure => simp [intOf]
      have HHIT := Lib.hid (stepW_hit (st := st) HS.out (by omega) HNO.out hf)
      by_cases hm : may st 3 = true
      case neg =>
        have hm' : may st 3 = false := by simpa using hm
        have HE := Lib.hid (HHIT.out.trans (does_no hm'))
        clear hm
        go_wp2_with fail
        refine (maya_any B b st w4 HRD4.out).mono ?_
        rintro e w5 ⟨rfl, rfl⟩
        go_wp2
        go_ret
        exact after_err HE.out (by decide) rfl (But.of_below (HBW4.out.mono hB))
      have HNU := Lib.hid (show Calls Tryd.prog 41 #[.agg #[.slice (some ⟨g, 0, none⟩) 4 4, .func (.func 61) #[] #[], .func (.func 62) #[] #[]], .slice (some ⟨g0, off0, none⟩) ws.length cap] w4 _ from knumbers_any (some ⟨g, 0, none⟩) (some ⟨g0, off0, none⟩) 4 cap 61 62 (pat 3) ws w4 HV4.out HK4.out HX4.out (fitsL_len _ _ hf) (by decide) HWE.out)
      by_cases hn : numsE (sel (pat 3) ws) = 0
      case neg =>
        have HE := Lib.hid (HHIT.out.trans (does_err hm hn))
        have HNE := Lib.hid hn
        have hn' : (numsE (sel (pat 3) ws) != 0) = true := by simpa using hn
        clear hn
        go_wp2_with fail
        refine (maya_any B b st w4 HRD4.out).mono ?_
        rintro e w' ⟨rfl, rfl⟩
        go_wp2_with fail
        refine HNU.out.mono ?_
        rintro e w5 ⟨v, rfl, _, hb⟩
        have HB5 := Lib.hid (HBW4.out.trans (hb.mono HBW4.out.size))
        clear hb
        go_wp2
        go_ret
        exact after_err HE.out HNE.out rfl (But.of_below (HB5.out.mono hB))
      obtain ⟨p, q, r, hl, hbd⟩ : ∃ p q r : Int, (sel (pat 3) ws).map Txt.numV = [p, q, r] ∧ (-9223372036854775808 ≤ r ∧ r ≤ 9223372036854775807) := by
        obtain ⟨x0, x1, x2, x3, hh⟩ := len4 (fitsL_len _ _ hf)
        exact ⟨Txt.numV x1, Txt.numV x2, Txt.numV x3, by rw [hh]; rfl, Txt.numV_bd _⟩
      have HBD := Lib.hid hbd
      have HE := Lib.hid (show stepW st ws = arc st p q r by rw [HHIT.out, does_act hm hn, hl]; rfl)
      have HL := Lib.hid hl
      clear hbd hl
      rw [hn] at HNU
      clear hn
      go_wp2_with fail
      refine (maya_any B b st w4 HRD4.out).mono ?_
      rintro e w' ⟨rfl, rfl⟩
      go_wp2_with fail
      refine HNU.out.mono ?_
      rintro e w5 ⟨v, rfl, hvv, hb⟩
      have hvv2 := hvv (by trivial)
      rw [HL.out] at hvv2
      obtain ⟨o5, c5, hv5, hrow⟩ := act_row hvv2
      replace hv5 : v = .slice o5 3 c5 := hv5
      subst hv5
      have HB5 := Lib.hid (HBW4.out.trans (hb.mono HBW4.out.size))
      have HRD5 := Lib.hid (rdIs_kept HRD4.out hb)
      replace b0 := (hb.cell (p := ⟨wr.heap.size, 0, none⟩) (World.block_lt_of_cell? w4 _ b0)).trans b0
      replace b1 := (hb.cell (p := ⟨wr.heap.size, 1, none⟩) (World.block_lt_of_cell? w4 _ b1)).trans b1
      replace b2 := (hb.cell (p := ⟨wr.heap.size, 2, none⟩) (World.block_lt_of_cell? w4 _ b2)).trans b2
      have HDO := Lib.hid (arc_any B b st w5 HRD5.out HOK.out o5 c5 p q r hrow (Nat.le_trans hB HB5.out.size) HBD.out)
      clear hvv hvv2 hb hrow
      go_wp2_with fail
      refine HDO.out.mono ?_
      rintro e w6 ⟨rfl, h2, h3⟩
      have H2 := Lib.hid h2
      have H3 := Lib.hid h3
      clear h2 h3
      go_wp2
      go_ret
      rw [HE.out]
      exact after_trans ⟨rfl, H2.out, H3.out⟩ (But.of_below (HB5.out.mono hB))

    · have HE := Lib.hid (stepW_none (st := st) HS.out HNO.out)
      have HBW := Lib.hid (HB2.out.trans (HBR.out.mono HB2.out.size))
      go_wp2
      go_ret
      exact after_err HE.out (by decide) rfl (But.of_below (HBW.out.mono hB))
end Dm
end Go.Proofs.YtaepoddmonijkaaDoor
