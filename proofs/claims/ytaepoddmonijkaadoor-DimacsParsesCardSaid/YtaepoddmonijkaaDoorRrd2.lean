/-
  Contract of the document's own reader of DIMACS lines: end (source, sink). Condition: the reader lies in a block of the call's own.
-/
import Derived.Test.YtaepoddmonijkaaDoorRrd
namespace Go.Proofs.YtaepoddmonijkaaDoor
open Go.ChangeShapes Go.WideShapes Go.ChangeAt Go.RowKit
set_option linter.unusedVariables false
set_option linter.unusedSimpArgs false
namespace Dm

theorem stepN_no {st : St} {ws : List (List UInt8)} (h1 : may st 1 = false) (h2 : may st 2 = false) : stepN st ws = (2, st) := by
  unfold stepN
  split
  · exact does_no h1
  · split
    · exact does_no h2
    · rfl
theorem stepN_n0 {st : St} {ws : List (List UInt8)} (h : st.n = 0) : stepN st ws = (2, st) := stepN_no (by simp [may, h]) (by simp [may, h])
theorem stepN_l {st : St} {ws : List (List UInt8)} (h : st.s ≠ 0 ∧ st.t ≠ 0) : stepN st ws = (2, st) := stepN_no (by simp [may, h.1]) (by simp [may, h.2])
theorem stepN_x {st : St} {x1 x2 : List UInt8} (h1 : x2 ≠ [115]) (h2 : x2 ≠ [116]) : stepN st [[110], x1, x2] = (2, st) := by
  unfold stepN
  rw [if_neg (by simp [fitsL, pat]; exact fun h => h1 h.symm), if_neg (by simp [fitsL, pat]; exact fun h => h2 h.symm)]
theorem stepN_s {st : St} {x1 : List UInt8} : stepN st [[110], x1, [115]] = does st 1 [[110], x1, [115]] := by
  unfold stepN; rw [if_pos (by simp [fitsL, pat])]
theorem stepN_t {st : St} {x1 : List UInt8} : stepN st [[110], x1, [116]] = does st 2 [[110], x1, [116]] := by
  unfold stepN; rw [if_neg (by simp [fitsL, pat]), if_pos (by simp [fitsL, pat])]

set_option maxHeartbeats 8000000 in
theorem rend_any (B b : Nat) (st : St) (w : World) (h : RfIs w B b st) (hok : st.ok) (hB : B ≤ w.heap.size) (ao : Option Addr) (cap : Nat) (ws : List (List UInt8)) (hr : Txt.SRow w ao ws) (hcap : ws.length ≤ cap) (h0 : ws[0]? = some [110]) (h2 : ∀ x ∈ ws, x.length ≤ 1000000) (hl2 : ws.length ≤ 2000000) :
    Calls Tryd.prog 43 #[.pointer (some ⟨b, 0, none⟩), .slice ao ws.length cap] w (AfterR w B b (stepN st ws)) := by
  by_cases hl : ws.length = 3
  case neg =>
    have hne : ((ws.length : Int) != 3) = true := by simp; omega
    have HE := Lib.hid (stepN_len (st := st) hl)
    clear h hr h0 hl
    go_enter Tryd.func43, Tryd.ntmps43
    go_wp2
    go_ret
    exact afterR_err HE.out (by decide) rfl (But.refl _ _ _)
  obtain ⟨x0, x1, x2, rfl⟩ := len3 hl
  obtain rfl : x0 = [110] := by simpa using h0
  rcases hr with hr | ⟨g, off, rfl, hg, hc⟩
  · cases hr
  have hsl := srow_take (srow_drop hg hc 1) 1
  have c2 : w.cell? ⟨g, off + 2, none⟩ = some (.string ⟨x2.toArray⟩) := hc 2 _ rfl
  have h3 : 3 ≤ cap := by simpa using hcap
  have HSL := Lib.hid (show Txt.SRow w (some ⟨g, off + 1, none⟩) [x1] from hsl)
  have HZ := Lib.hid (show ∀ x ∈ [x1], x.length ≤ 1000000 from fun x hx => h2 x (by simp at hx ⊢; simp [hx]))
  clear hl h0 hc hsl hcap h2 hl2
  show Calls _ _ #[_, .slice _ 3 cap] w _
  have HRF := Lib.hid h
  have HBL := Lib.hid (show b < w.heap.size by obtain ⟨v, h, _⟩ := h; exact box6_lt h)
  obtain ⟨v, h, ho⟩ := h
  obtain ⟨ao2, cap2, rfl, _⟩ := Rw.own_row Ne.encA_len ho
  obtain ⟨k0, k1, k2, k3, k4, k5⟩ := box6_cells h
  clear h ho
  have HOK := Lib.hid hok
  by_cases hn : st.n = 0
  · rw [show most st = -1 by simp [most, hn]] at k4
    have HE := Lib.hid (stepN_n0 (ws := [[110], x1, x2]) hn)
    clear hn hok
    go_enter Tryd.func43, Tryd.ntmps43
    go_wp2
    go_ret
    exact afterR_err HE.out (by decide) rfl (But.refl _ _ _)
  have ha := hok.arcs.1
  rw [show most st = st.arcs by simp [most, hn]] at k4
  have ha2 : ¬ st.arcs < 0 := by omega
  by_cases hl0 : st.l = []
  case neg =>
    have hlp : (0 : Int) < (st.l.length : Int) := by
      rcases hx : st.l with _ | ⟨a, r⟩
      · exact absurd hx hl0
      · simp
    have HE := Lib.hid (stepN_l (ws := [[110], x1, x2]) (hok.ends hl0))
    have t1 : decide ((0 : Int) < (st.l.length : Int)) = true := decide_eq_true hlp
    have t2 : decide (0 < st.l.length) = true := decide_eq_true (by omega)
    clear hn hok hlp
    go_enter Tryd.func43, Tryd.ntmps43
    go_wp2
    go_ret
    exact afterR_err HE.out (by decide) rfl (But.refl _ _ _)
  rw [hl0] at k3
  replace k3 : w.cell? ⟨b, 3, none⟩ = some (.slice ao2 0 cap2) := k3
  have HS0 := Lib.hid (hok.s)
  have HT0 := Lib.hid (hok.t)
  have HNN := Lib.hid hn
  clear hl0 hok
  by_cases hxs : x2 = [115]
  · subst hxs
    by_cases hs : st.s = 0
    case neg =>
      have hs' : (0 : Int) < st.s := by have := HS0.out; omega
      have HE := Lib.hid (show stepN st [[110], x1, [115]] = (2, st) by rw [stepN_s, does_no (by simp [may, hs])])
      clear hs hn
      go_enter Tryd.func43, Tryd.ntmps43
      go_wp2
      go_ret
      exact afterR_err HE.out (by decide) rfl (But.refl _ _ _)
    have hmay : may st 1 = true := by simp [may, hs, hn]
    have hs' : ¬ (0 : Int) < st.s := by omega
    have HNU := Lib.hid (rnumbers_any (some ⟨g, off + 1, none⟩) (cap - 1) [x1] w HSL.out (by simp) HZ.out)
    have hsel : sel (pat 1) [[110], x1, [115]] = [x1] := by simp [sel, pat]
    by_cases he : numsE [x1] = 0
    case neg =>
      have HE := Lib.hid (show stepN st [[110], x1, [115]] = (numsE [x1], st) by rw [stepN_s, does_err hmay (by rw [hsel]; exact he), hsel])
      have HNE := Lib.hid he
      have he' : (numsE [x1] != 0) = true := by simpa using he
      clear hn hsel hmay he hs
      go_enter Tryd.func43, Tryd.ntmps43
      go_wp2_with fail
      refine HNU.out.mono ?_
      rintro e w1 ⟨v1, rfl, _, hb⟩
      have HB1 := Lib.hid hb
      clear hb
      go_wp2
      go_ret
      exact afterR_err HE.out HNE.out rfl (But.of_below (HB1.out.mono hB))
    have HE := Lib.hid (show stepN st [[110], x1, [115]] = source st (Txt.numV x1) by rw [stepN_s, does_act hmay (by rw [hsel]; exact he), hsel]; rfl)
    rw [he] at HNU
    obtain ⟨p, hp⟩ : ∃ p, p = Txt.numV x1 := ⟨_, rfl⟩
    rw [← hp] at HE
    have HPQ := Lib.hid (show [x1].map Txt.numV = [p] by rw [hp]; rfl)
    have HSZ := Lib.hid hs
    clear hp hn hsel hmay he hs k0 k5
    go_enter Tryd.func43, Tryd.ntmps43
    go_wp2_with fail
    refine HNU.out.mono ?_
    rintro e w1 ⟨v1, rfl, hv, hb⟩
    have hv2 := hv (by trivial)
    rw [HPQ.out] at hv2
    obtain ⟨o5, c5, hv5, hrow, hblk⟩ := act_row2 hv2
    replace hv5 : v1 = .slice o5 1 c5 := hv5
    subst hv5
    have HB1 := Lib.hid hb
    have HRF1 := Lib.hid (rfIs_kept HRF.out hb)
    rcases hrow with hr | ⟨g5, off5, rfl, hlt5, hc5⟩
    · cases hr
    have d0 : w1.cell? ⟨g5, off5, none⟩ = some (.int .i64 p) := Ne.irow_at hc5 (i := 0) (x := p) rfl
    have d2 : w1.cell? ⟨g, off + 2, none⟩ = some (.string ⟨[115].toArray⟩) := (hb.cell hg).trans c2
    have HBT := Lib.hid (But.of_below (b := b) (HB1.out.mono hB))
    obtain ⟨v6, hx6, ho6⟩ := HRF1.out
    have HX6 := Lib.hid hx6
    have HO6 := Lib.hid ho6
    obtain ⟨m0, m1, m2, m3, m4, m5⟩ := box6_cells hx6
    have z1 := box6_frozen hx6 1
    have i0 : (0 : Int) < ((1 : Nat) : Int) := by decide
    have HI := Lib.hid (there_any b st.n p w1 m0)
    clear hv hv2 hb hc5 hx6 ho6 hblk k1 k2 k3 c2
    by_cases f : Ne.isNode st.n p = true
    case neg =>
      have f' : Ne.isNode st.n p = false := by simpa using f
      have HP := Lib.hid (HE.out.trans (show source st p = (4, st) by unfold source; rw [if_neg f]))
      rw [f'] at HI
      clear f f'
      go_wp2_with fail
      refine HI.out.mono ?_
      rintro e w' ⟨rfl, rfl⟩
      go_wp2
      go_ret
      exact afterR_err HP.out (by decide) rfl HBT.out
    rw [f] at HI
    have hp1 := isNode_bd f
    have q1 : (p == st.s) = false := by simp; have := HSZ.out; omega
    by_cases hpt : p = st.t
    · have HP := Lib.hid (HE.out.trans (show source st p = (5, st) by unfold source; rw [if_pos f, if_pos hpt]))
      have q2 : (p == st.t) = true := by simp [hpt]
      clear f hpt hp1
      go_wp2_with fail
      refine HI.out.mono ?_
      rintro e w' ⟨rfl, rfl⟩
      go_wp2
      go_ret
      exact afterR_err HP.out (by decide) rfl HBT.out
    · have HP := Lib.hid (HE.out.trans (show source st p = (0, ⟨st.n, p, st.t, st.arcs, st.sum, st.l⟩) by unfold source; rw [if_pos f, if_neg hpt]))
      have q2 : (p == st.t) = false := by simp [hpt]
      clear f hpt hp1
      go_wp2_with fail
      refine HI.out.mono ?_
      rintro e w' ⟨rfl, rfl⟩
      go_wp2
      go_ret
      exact afterR_ok HP.out rfl ⟨v6, box6_set1 (n2 := p) HX6.out, Rw.own_set HO6.out (box6_own HO6.out HX6.out (by decide)) _⟩ (but_set HBT.out _ _)
  by_cases hxt : x2 = [116]
  case neg =>
    have n1 : (x2 == [115]) = false := by simpa using hxs
    have n2 : (x2 == [116]) = false := by simpa using hxt
    have HE := Lib.hid (stepN_x (st := st) (x1 := x1) hxs hxt)
    clear hxs hxt hn
    go_enter Tryd.func43, Tryd.ntmps43
    go_wp2
    go_ret
    exact afterR_err HE.out (by decide) rfl (But.refl _ _ _)
  subst hxt
  clear hxs
  by_cases hs : st.t = 0
  case neg =>
    have hs' : (0 : Int) < st.t := by have := HT0.out; omega
    have HE := Lib.hid (show stepN st [[110], x1, [116]] = (2, st) by rw [stepN_t, does_no (by simp [may, hs])])
    clear hs hn
    go_enter Tryd.func43, Tryd.ntmps43
    go_wp2
    go_ret
    exact afterR_err HE.out (by decide) rfl (But.refl _ _ _)
  have hmay : may st 2 = true := by simp [may, hs, hn]
  have hs' : ¬ (0 : Int) < st.t := by omega
  have HNU := Lib.hid (rnumbers_any (some ⟨g, off + 1, none⟩) (cap - 1) [x1] w HSL.out (by simp) HZ.out)
  have hsel : sel (pat 2) [[110], x1, [116]] = [x1] := by simp [sel, pat]
  by_cases he : numsE [x1] = 0
  case neg =>
    have HE := Lib.hid (show stepN st [[110], x1, [116]] = (numsE [x1], st) by rw [stepN_t, does_err hmay (by rw [hsel]; exact he), hsel])
    have HNE := Lib.hid he
    have he' : (numsE [x1] != 0) = true := by simpa using he
    clear hn hsel hmay he hs
    go_enter Tryd.func43, Tryd.ntmps43
    go_wp2_with fail
    refine HNU.out.mono ?_
    rintro e w1 ⟨v1, rfl, _, hb⟩
    have HB1 := Lib.hid hb
    clear hb
    go_wp2
    go_ret
    exact afterR_err HE.out HNE.out rfl (But.of_below (HB1.out.mono hB))
  have HE := Lib.hid (show stepN st [[110], x1, [116]] = sink st (Txt.numV x1) by rw [stepN_t, does_act hmay (by rw [hsel]; exact he), hsel]; rfl)
  rw [he] at HNU
  obtain ⟨p, hp⟩ : ∃ p, p = Txt.numV x1 := ⟨_, rfl⟩
  rw [← hp] at HE
  have HPQ := Lib.hid (show [x1].map Txt.numV = [p] by rw [hp]; rfl)
  have HSZ := Lib.hid hs
  clear hp hn hsel hmay he hs k0 k5
  go_enter Tryd.func43, Tryd.ntmps43
  go_wp2_with fail
  refine HNU.out.mono ?_
  rintro e w1 ⟨v1, rfl, hv, hb⟩
  have hv2 := hv (by trivial)
  rw [HPQ.out] at hv2
  obtain ⟨o5, c5, hv5, hrow, hblk⟩ := act_row2 hv2
  replace hv5 : v1 = .slice o5 1 c5 := hv5
  subst hv5
  have HB1 := Lib.hid hb
  have HRF1 := Lib.hid (rfIs_kept HRF.out hb)
  rcases hrow with hr | ⟨g5, off5, rfl, hlt5, hc5⟩
  · cases hr
  have d0 : w1.cell? ⟨g5, off5, none⟩ = some (.int .i64 p) := Ne.irow_at hc5 (i := 0) (x := p) rfl
  have d2 : w1.cell? ⟨g, off + 2, none⟩ = some (.string ⟨[116].toArray⟩) := (hb.cell hg).trans c2
  have HBT := Lib.hid (But.of_below (b := b) (HB1.out.mono hB))
  obtain ⟨v6, hx6, ho6⟩ := HRF1.out
  have HX6 := Lib.hid hx6
  have HO6 := Lib.hid ho6
  obtain ⟨m0, m1, m2, m3, m4, m5⟩ := box6_cells hx6
  have z2 := box6_frozen hx6 2
  have i0 : (0 : Int) < ((1 : Nat) : Int) := by decide
  have HI := Lib.hid (there_any b st.n p w1 m0)
  clear hv hv2 hb hc5 hx6 ho6 hblk k1 k2 k3 c2
  by_cases f : Ne.isNode st.n p = true
  case neg =>
    have f' : Ne.isNode st.n p = false := by simpa using f
    have HP := Lib.hid (HE.out.trans (show sink st p = (4, st) by unfold sink; rw [if_neg f]))
    rw [f'] at HI
    clear f f'
    go_wp2_with fail
    refine HI.out.mono ?_
    rintro e w' ⟨rfl, rfl⟩
    go_wp2
    go_ret
    exact afterR_err HP.out (by decide) rfl HBT.out
  rw [f] at HI
  have hp1 := isNode_bd f
  have q1 : (p == st.t) = false := by simp; have := HSZ.out; omega
  by_cases hpt : p = st.s
  · have HP := Lib.hid (HE.out.trans (show sink st p = (5, st) by unfold sink; rw [if_pos f, if_pos hpt]))
    have q2 : (p == st.s) = true := by simp [hpt]
    clear f hpt hp1
    go_wp2_with fail
    refine HI.out.mono ?_
    rintro e w' ⟨rfl, rfl⟩
    go_wp2
    go_ret
    exact afterR_err HP.out (by decide) rfl HBT.out
  · have HP := Lib.hid (HE.out.trans (show sink st p = (0, ⟨st.n, st.s, p, st.arcs, st.sum, st.l⟩) by unfold sink; rw [if_pos f, if_neg hpt]))
    have q2 : (p == st.s) = false := by simp [hpt]
    clear f hpt hp1
    go_wp2_with fail
    refine HI.out.mono ?_
    rintro e w' ⟨rfl, rfl⟩
    go_wp2
    go_ret
    exact afterR_ok HP.out rfl ⟨v6, box6_set2 (n2 := p) HX6.out, Rw.own_set HO6.out (box6_own HO6.out HX6.out (by decide)) _⟩ (but_set HBT.out _ _)
end Dm
end Go.Proofs.YtaepoddmonijkaaDoor
