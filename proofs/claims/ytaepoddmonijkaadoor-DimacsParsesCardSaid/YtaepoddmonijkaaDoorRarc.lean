/-
  Contract of the document's own reader of DIMACS lines: arc. Condition: the reader lies in a block of the call's own. (Written by wip/tools/gen-Rarc4.py.)
-/
import Derived.Test.YtaepoddmonijkaaDoorRrd
namespace Go.Proofs.YtaepoddmonijkaaDoor
open Go.ChangeShapes Go.WideShapes Go.ChangeAt Go.RowKit
set_option linter.unusedVariables false
set_option linter.unusedSimpArgs false
namespace Dm

theorem stepA_no {st : St} {ws : List (List UInt8)} (h1 : may st 3 = false) : stepA st ws = (2, st) := by
  unfold stepA
  split
  · exact does_no h1
  · rfl
theorem stepA_a {st : St} {x1 x2 x3 : List UInt8} : stepA st [[97], x1, x2, x3] = does st 3 [[97], x1, x2, x3] := by
  unfold stepA; rw [if_pos (by simp [fitsL, pat])]

set_option maxRecDepth 100000 in
set_option maxHeartbeats 8000000 in
theorem rarc_any (B b : Nat) (st : St) (w : World) (h : RfIs w B b st) (hok : st.ok) (hB : B ≤ w.heap.size) (ao : Option Addr) (cap : Nat) (ws : List (List UInt8)) (hr : Txt.SRow w ao ws) (hcap : ws.length ≤ cap) (h0 : ws[0]? = some [97]) (h2 : ∀ x ∈ ws, x.length ≤ 1000000) (hl2 : ws.length ≤ 2000000) :
    Calls Tryd.prog 44 #[.pointer (some ⟨b, 0, none⟩), .slice ao ws.length cap] w (AfterR w B b (stepA st ws)) := by
  by_cases hl : ws.length = 4
  case neg =>
    have hne : ((ws.length : Int) != 4) = true := by simp; omega
    have HE := Lib.hid (stepA_len (st := st) hl)
    clear h hr h0 hl
    go_enter Tryd.func44, Tryd.ntmps44
    go_wp2
    go_ret
    exact afterR_err HE.out (by decide) rfl (But.refl _ _ _)
  obtain ⟨x0, x1, x2, x3, rfl⟩ := len4 hl
  obtain rfl : x0 = [97] := by simpa using h0
  rcases hr with hr | ⟨g, off, rfl, hg, hc⟩
  · cases hr
  have hsl := srow_drop hg hc 1
  have h4 : 4 ≤ cap := by simpa using hcap
  have HSL := Lib.hid (show Txt.SRow w (some ⟨g, off + 1, none⟩) [x1, x2, x3] from hsl)
  have HZ := Lib.hid (show ∀ x ∈ [x1, x2, x3], x.length ≤ 1000000 from fun x hx => h2 x (by simp at hx ⊢; rcases hx with h | h | h <;> simp [h]))
  clear hl h0 hc hsl hcap h2 hl2
  show Calls _ _ #[_, .slice _ 4 cap] w _
  have HRF := Lib.hid h
  have HBL := Lib.hid (show b < w.heap.size by obtain ⟨v, h, _⟩ := h; exact box6_lt h)
  obtain ⟨v, h, ho⟩ := h
  obtain ⟨o2, cap2, rfl, _, _, _, _, hbk, hz0⟩ := Rw.own_row Ne.encA_len ho
  have HBB := Lib.hid (show ∀ k, (Value.slice o2 st.l.length cap2).ownBlock = some k → k < w.heap.size by
    intro k hk
    rcases o2 with _ | a
    · simp [Value.ownBlock] at hk
    · obtain ⟨g2, rfl⟩ := hz0 a rfl
      simp [Value.ownBlock] at hk; subst hk; exact (hbk _ _ rfl).2)
  have HX := Lib.hid h
  have HO := Lib.hid ho
  obtain ⟨k0, k1, k2, k3, k4, k5⟩ := box6_cells h
  clear h ho hbk hz0
  by_cases hs : st.s = 0
  · have hs' : (st.s == 0) = true := by simp [hs]
    have HE := Lib.hid (stepA_no (ws := [[97], x1, x2, x3]) (show may st 3 = false by simp [may, hs]))
    clear hs hok
    go_enter Tryd.func44, Tryd.ntmps44
    go_wp2
    go_ret
    exact afterR_err HE.out (by decide) rfl (But.refl _ _ _)
  have hs' : (st.s == 0) = false := by simp [hs]
  by_cases ht : st.t = 0
  · have ht' : (st.t == 0) = true := by simp [ht]
    have HE := Lib.hid (stepA_no (ws := [[97], x1, x2, x3]) (show may st 3 = false by simp [may, ht]))
    clear hs ht hok
    go_enter Tryd.func44, Tryd.ntmps44
    go_wp2
    go_ret
    exact afterR_err HE.out (by decide) rfl (But.refl _ _ _)
  have ht' : (st.t == 0) = false := by simp [ht]
  have hmay : may st 3 = true := by simp [may, hs, ht]
  have hnz : st.n ≠ 0 := by have := hok.s; omega
  rw [show most st = st.arcs by simp [most, hnz]] at k4
  have HMO := Lib.hid (show most st = st.arcs by simp [most, hnz])
  have HNU := Lib.hid (rnumbers_any (some ⟨g, off + 1, none⟩) (cap - 1) [x1, x2, x3] w HSL.out (by simp) HZ.out)
  have hsel : sel (pat 3) [[97], x1, x2, x3] = [x1, x2, x3] := by simp [sel, pat]
  have HSUM := Lib.hid hok.sum
  have HLEN := Lib.hid hok.l
  have HARC := Lib.hid hok.arcs
  have HNZ := Lib.hid hnz
  clear hs ht hok hnz
  by_cases he : numsE [x1, x2, x3] = 0
  case neg =>
    have HE := Lib.hid (show stepA st [[97], x1, x2, x3] = (numsE [x1, x2, x3], st) by rw [stepA_a, does_err hmay (by rw [hsel]; exact he), hsel])
    have HNE := Lib.hid he
    have he' : (numsE [x1, x2, x3] != 0) = true := by simpa using he
    clear hsel hmay he
    go_enter Tryd.func44, Tryd.ntmps44
    go_wp2_with fail
    refine HNU.out.mono ?_
    rintro e w1 ⟨v1, rfl, _, hb⟩
    have HB1 := Lib.hid hb
    clear hb
    go_wp2
    go_ret
    exact afterR_err HE.out HNE.out rfl (But.of_below (HB1.out.mono hB))
  have HE := Lib.hid (show stepA st [[97], x1, x2, x3] = arc st (Txt.numV x1) (Txt.numV x2) (Txt.numV x3) by rw [stepA_a, does_act hmay (by rw [hsel]; exact he), hsel]; rfl)
  rw [he] at HNU
  obtain ⟨p, hp⟩ : ∃ p, p = Txt.numV x1 := ⟨_, rfl⟩
  obtain ⟨q, hq⟩ : ∃ q, q = Txt.numV x2 := ⟨_, rfl⟩
  obtain ⟨r, hr⟩ : ∃ r, r = Txt.numV x3 := ⟨_, rfl⟩
  rw [← hp, ← hq, ← hr] at HE
  have HPQ := Lib.hid (show [x1, x2, x3].map Txt.numV = [p, q, r] by rw [hp, hq, hr]; rfl)
  have HR64 := Lib.hid (show -9223372036854775808 ≤ r ∧ r ≤ 9223372036854775807 by rw [hr]; exact Txt.numV_bd _)
  clear hp hq hr hsel hmay he k0 k3 k4 k5
  go_enter Tryd.func44, Tryd.ntmps44
  go_wp2_with fail
  refine HNU.out.mono ?_
  rintro e w1 ⟨v1, rfl, hv, hb⟩
  have hv2 := hv (by trivial)
  rw [HPQ.out] at hv2
  obtain ⟨o5, c5, hv5, hrow, hblk⟩ := act_row2 hv2
  replace hv5 : v1 = .slice o5 3 c5 := hv5
  subst hv5
  have HB1 := Lib.hid hb
  rcases hrow with hr | ⟨g5, off5, rfl, hlt5, hc5⟩
  · cases hr
  have d0 : w1.cell? ⟨g5, off5, none⟩ = some (.int .i64 p) := Ne.irow_at hc5 (i := 0) (x := p) rfl
  have d1 : w1.cell? ⟨g5, off5 + 1, none⟩ = some (.int .i64 q) := Ne.irow_at hc5 (i := 1) (x := q) rfl
  have d2 : w1.cell? ⟨g5, off5 + 2, none⟩ = some (.int .i64 r) := Ne.irow_at hc5 (i := 2) (x := r) rfl
  have HG5 := Lib.hid (show w.heap.size ≤ g5 from (hblk g5 off5 rfl).1)
  have HX7 := Lib.hid (box6_below HX.out hb (box6_lt HX.out))
  have HO7 := Lib.hid (Rw.own_below HO.out hb)
  rw [HMO.out] at HX7
  replace HX7 : Hid (Box6 56 w1 b st.n st.s st.t (Value.slice o2 st.l.length cap2) st.arcs (4611686018427387903 - st.sum)) := HX7
  obtain ⟨m0, m1, m2, m3, m4, m5⟩ := box6_cells HX7.out
  have i0 : (0 : Int) < ((3 : Nat) : Int) := by decide
  have i1 : (1 : Int) < ((3 : Nat) : Int) := by decide
  have i2 : (2 : Int) < ((3 : Nat) : Int) := by decide
  have HBT := Lib.hid (But.of_below (b := b) (HB1.out.mono hB))
  have HI := Lib.hid fun (v : Int) (w' : World) (h : w'.cell? ⟨b, 0, none⟩ = some (.int .i64 st.n)) => there_any b st.n v w' h
  clear hv hv2 hb hc5 hblk k1 k2
  by_cases f1 : Ne.isNode st.n p = true
  case neg =>
    have f1' : Ne.isNode st.n p = false := by simpa using f1
    have HP := Lib.hid (HE.out.trans (show arc st p q r = (4, st) by unfold arc; rw [if_neg (by simp [f1'])]))
    clear f1
    go_wp2_with (go_at_call 65; refine (HI.out _ _ ?hc).mono ?_; (case hc => exact m0); rintro e w' ⟨rfl, rfl⟩)
    go_ret
    exact afterR_err HP.out (by decide) rfl HBT.out
  by_cases f2 : Ne.isNode st.n q = true
  case neg =>
    have f2' : Ne.isNode st.n q = false := by simpa using f2
    have HP := Lib.hid (HE.out.trans (show arc st p q r = (4, st) by unfold arc; rw [if_neg (by simp [f2'])]))
    clear f2
    go_wp2_with (go_at_call 65; refine (HI.out _ _ ?hc).mono ?_; (case hc => exact m0); rintro e w' ⟨rfl, rfl⟩)
    go_ret
    exact afterR_err HP.out (by decide) rfl HBT.out
  have HN := Lib.hid (show (Ne.isNode st.n p && Ne.isNode st.n q) = true by simp [f1, f2])
  by_cases f3 : r < 0
  · have HP := Lib.hid (HE.out.trans (show arc st p q r = (3, st) by unfold arc; rw [if_pos HN.out, if_pos f3]))
    go_wp2_with (go_at_call 65; refine (HI.out _ _ ?hc).mono ?_; (case hc => exact m0); rintro e w' ⟨rfl, rfl⟩)
    go_ret
    exact afterR_err HP.out (by decide) rfl HBT.out
  by_cases f4 : (st.l.length : Int) = st.arcs
  · have HP := Lib.hid (HE.out.trans (show arc st p q r = (6, st) by unfold arc; rw [if_pos HN.out, if_neg f3, if_pos f4]))
    have f4' : st.arcs ≤ (st.l.length : Int) := by omega
    clear f4
    go_wp2_with (go_at_call 65; refine (HI.out _ _ ?hc).mono ?_; (case hc => exact m0); rintro e w' ⟨rfl, rfl⟩)
    go_quiet (fail)
    go_wp2
    go_ret
    exact afterR_err HP.out (by decide) rfl (but_drewN HBT.out _)
  have f4' : ¬ st.arcs ≤ (st.l.length : Int) := by have := HLEN.out; omega
  by_cases f5 : 4611686018427387903 - st.sum < r
  · have HP := Lib.hid (HE.out.trans (show arc st p q r = (7, st) by unfold arc; rw [if_pos HN.out, if_neg f3, if_neg f4, if_pos (by simpa [top] using f5)]))
    clear f4
    go_wp2_with (go_at_call 65; refine (HI.out _ _ ?hc).mono ?_; (case hc => exact m0); rintro e w' ⟨rfl, rfl⟩)
    go_quiet (fail)
    go_wp2
    go_quiet (fail)
    go_wp2
    go_ret
    exact afterR_err HP.out (by decide) rfl (but_drewN (but_drewN HBT.out _) _)
  obtain ⟨l2, hl2⟩ : ∃ l2, l2 = st.l ++ [(⟨p, q, r⟩ : Ne.Arc)] := ⟨_, rfl⟩
  have HL2 := Lib.hid hl2
  have HP := Lib.hid (HE.out.trans (show arc st p q r = (0, ⟨st.n, st.s, st.t, st.arcs, st.sum + r, l2⟩) by rw [hl2]; unfold arc; rw [if_pos HN.out, if_neg f3, if_neg f4, if_neg (by simpa [top] using f5)]))
  have hw : IntKind.i64.wrap (4611686018427387903 - st.sum - r) = 4611686018427387903 - st.sum - r := by have := HSUM.out; simp only [top] at this; rw [IntKind.wrap_i64]; omega
  clear f4 hl2
  go_wp2_with (go_at_call 65; refine (HI.out _ _ ?hc).mono ?_; (case hc => exact m0); rintro e w' ⟨rfl, rfl⟩)
  go_quiet (fail)
  rename Nat => q1
  go_wp2
  go_quiet (fail)
  go_wp2_with fail
  generalize hy : (w1.drewN q1).drewN nq = y2
  have HX8 := Lib.hid (show Box6 56 y2 b st.n st.s st.t (Value.slice o2 st.l.length cap2) st.arcs (4611686018427387903 - st.sum) by rw [← hy]; exact HX7.out)
  have HO8 := Lib.hid (show Ne.OwnA y2 B (Value.slice o2 st.l.length cap2) st.l by rw [← hy]; exact HO7.out)
  have HB8 := Lib.hid (show But B b w y2 by rw [← hy]; exact but_drewN (but_drewN HBT.out _) _)
  have e0 : y2.cell? ⟨g5, off5, none⟩ = some (.int .i64 p) := by rw [← hy]; exact d0
  have e1 : y2.cell? ⟨g5, off5 + 1, none⟩ = some (.int .i64 q) := by rw [← hy]; exact d1
  have e2 : y2.cell? ⟨g5, off5 + 2, none⟩ = some (.int .i64 r) := by rw [← hy]; exact d2
  have HE012 := Lib.hid (And.intro e0 (And.intro e1 e2))
  obtain ⟨m0', m1', m2', m3', m4', m5'⟩ := box6_cells HX8.out
  have z5 := box6_frozen HX8.out 5
  have hS0 := (show (fun w' => w'.cell? ⟨b, 5, none⟩ = some (.int .i64 (4611686018427387903 - st.sum)) ∧ w'.frozen? ⟨b, 5, none⟩ = false ∧ w'.cell? ⟨g5, off5 + 2, none⟩ = some (.int .i64 r)) y2.drew from ⟨m5', z5, e2⟩)
  clear hy m0 m1 m2 m3 m4 m5 d0 d1 d2 m0' m1' m2' m3' m4'
  refine Rg.start (S := (fun w' => w'.cell? ⟨b, 5, none⟩ = some (.int .i64 (4611686018427387903 - st.sum)) ∧ w'.frozen? ⟨b, 5, none⟩ = false ∧ w'.cell? ⟨g5, off5 + 2, none⟩ = some (.int .i64 r))) (last := 11) (by kernel_rfl) ?_
  refine Rg.take (i := 0) (v := ?_) 30 rfl (by kernel_rfl) (by kernel_rfl) (by kernel_rfl) (by kernel_rfl) (fun _ _ _ h => h) (Or.inl ⟨by rfl, ?_⟩) hS0 ?_
  rotate_left
  · intro w hSw
    go_simp
    try with_reducible rfl
  try simp only [Act.put, List.setIfInBounds_toArray, List.set_cons_zero, List.set_cons_succ]
  refine Rg.take (i := 1) (v := ?_) 30 rfl (by kernel_rfl) (by kernel_rfl) (by kernel_rfl) (by kernel_rfl) (fun _ _ _ h => h) (Or.inl ⟨by rfl, ?_⟩) hS0 ?_
  rotate_left
  · intro w hSw
    go_simp
    try with_reducible rfl
  try simp only [Act.put, List.setIfInBounds_toArray, List.set_cons_zero, List.set_cons_succ]
  refine Rg.take (i := 2) (v := ?_) 30 rfl (by kernel_rfl) (by kernel_rfl) (by kernel_rfl) (by kernel_rfl) (fun _ _ _ h => h) (Or.inl ⟨by rfl, ?_⟩) hS0 ?_
  rotate_left
  · intro w hSw
    go_simp
    try with_reducible rfl
  try simp only [Act.put, List.setIfInBounds_toArray, List.set_cons_zero, List.set_cons_succ]
  refine Rg.take (i := 3) (v := ?_) 30 rfl (by kernel_rfl) (by kernel_rfl) (by kernel_rfl) (by kernel_rfl) (fun _ _ _ h => h) (Or.inl ⟨by rfl, ?_⟩) hS0 ?_
  rotate_left
  · intro w hSw
    go_simp
    try with_reducible rfl
  try simp only [Act.put, List.setIfInBounds_toArray, List.set_cons_zero, List.set_cons_succ]
  refine Rg.take (i := 4) (v := ?_) 30 rfl (by kernel_rfl) (by kernel_rfl) (by kernel_rfl) (by kernel_rfl) (fun _ _ _ h => h) (Or.inl ⟨by rfl, ?_⟩) hS0 ?_
  rotate_left
  · intro w hSw
    go_simp
    try with_reducible rfl
  try simp only [Act.put, List.setIfInBounds_toArray, List.set_cons_zero, List.set_cons_succ]
  refine Rg.take (i := 5) (v := ?_) 30 rfl (by kernel_rfl) (by kernel_rfl) (by kernel_rfl) (by kernel_rfl) (fun _ _ _ h => h) (Or.inl ⟨by rfl, ?_⟩) hS0 ?_
  rotate_left
  · intro w hSw
    go_simp
    try with_reducible rfl
  try simp only [Act.put, List.setIfInBounds_toArray, List.set_cons_zero, List.set_cons_succ]
  refine Rg.take (i := 6) (v := ?_) 30 rfl (by kernel_rfl) (by kernel_rfl) (by kernel_rfl) (by kernel_rfl) (fun _ _ _ h => h) (Or.inl ⟨by rfl, ?_⟩) hS0 ?_
  rotate_left
  · intro w hSw
    go_simp
    try with_reducible rfl
  try simp only [Act.put, List.setIfInBounds_toArray, List.set_cons_zero, List.set_cons_succ]
  refine Rg.take (i := 7) (v := ?_) 30 rfl (by kernel_rfl) (by kernel_rfl) (by kernel_rfl) (by kernel_rfl) (fun _ _ _ h => h) (Or.inl ⟨by rfl, ?_⟩) hS0 ?_
  rotate_left
  · intro w hSw
    go_simp
    try with_reducible rfl
  try simp only [Act.put, List.setIfInBounds_toArray, List.set_cons_zero, List.set_cons_succ]
  refine Rg.take (i := 8) (v := ?_) 30 rfl (by kernel_rfl) (by kernel_rfl) (by kernel_rfl) (by kernel_rfl) (fun _ _ _ h => h) (Or.inl ⟨by rfl, ?_⟩) hS0 ?_
  rotate_left
  · intro w hSw
    go_simp
    try with_reducible rfl
  try simp only [Act.put, List.setIfInBounds_toArray, List.set_cons_zero, List.set_cons_succ]
  refine Rg.take (i := 9) (v := ?_) 30 rfl (by kernel_rfl) (by kernel_rfl) (by kernel_rfl) (by kernel_rfl) (fun _ _ _ h => h) (Or.inl ⟨by rfl, ?_⟩) hS0 ?_
  rotate_left
  · intro w hSw
    go_simp
    try with_reducible rfl
  try simp only [Act.put, List.setIfInBounds_toArray, List.set_cons_zero, List.set_cons_succ]
  refine Rg.take (i := 10) (v := ?_) 30 rfl (by kernel_rfl) (by kernel_rfl) (by kernel_rfl) (by kernel_rfl) (fun _ _ _ h => h) (Or.inl ⟨by rfl, ?_⟩) hS0 ?_
  rotate_left
  · intro w hSw
    go_simp
    try with_reducible rfl
  try simp only [Act.put, List.setIfInBounds_toArray, List.set_cons_zero, List.set_cons_succ]
  refine Rg.step (i := 11) (by kernel_rfl) rfl fun K' hK' => ?_
  have HK := Lib.hid hK'
  clear hK'
  go_simp
  refine HK.out _ _ ⟨fun h => absurd rfl h, ?_⟩
  clear HK K'
  try simp only [Act.put, List.setIfInBounds_toArray, List.set_cons_zero, List.set_cons_succ]
  refine Rg.finished (by kernel_rfl) ?_ _
  go_wp2_with fail
  generalize hy : (y2.setCell ⟨b, 5, none⟩ (Value.int .i64 (4611686018427387903 - st.sum - r))).drew = y3
  have HX9 := Lib.hid (show Box6 56 y3 b st.n st.s st.t (Value.slice o2 st.l.length cap2) st.arcs (4611686018427387903 - st.sum - r) by rw [← hy]; exact box6_set5 HX8.out)
  have HO9 := Lib.hid (show Ne.OwnA y3 B (Value.slice o2 st.l.length cap2) st.l by rw [← hy]; exact Rw.own_set HO8.out (box6_own HO8.out HX8.out (by decide)) _)
  have HB9 := Lib.hid (show But B b w y3 by rw [← hy]; exact but_drew (but_set HB8.out _ _))
  have hgb : b ≠ g5 := by have h1 := HG5.out; have h2 := HBL.out; omega
  have t0 : y3.cell? ⟨g5, off5, none⟩ = some (.int .i64 p) := by rw [← hy]; exact Ne.held_set HE012.out.1 hgb
  have t1 : y3.cell? ⟨g5, off5 + 1, none⟩ = some (.int .i64 q) := by rw [← hy]; exact Ne.held_set HE012.out.2.1 hgb
  have t2 : y3.cell? ⟨g5, off5 + 2, none⟩ = some (.int .i64 r) := by rw [← hy]; exact Ne.held_set HE012.out.2.2 hgb
  clear hy hS0 m5' e0 e1 e2 z5
  obtain ⟨_, _, _, t3, _, _⟩ := box6_cells HX9.out
  obtain ⟨i0, hi0, iz0, iz1, iz2⟩ := info_parts Ne.elemA.info
  have hle : st.l.length ≤ 2000 := by have h1 := HLEN.out; have h2 := HARC.out; omega
  have hk1 : st.l.length + 1 ≤ maxLen := by unfold maxLen; omega
  have hk2 : (st.l.length + 1) * 24 ≤ 140737488355328 := by omega
  have hzx : w.heap.size ≤ y3.heap.size := HB9.out.size
  have hbs : B ≤ (y3.alloc (.cells #[.int .i64 p, .int .i64 q, .int .i64 r] 49)).drew.heap.size := by show _ ≤ (y3.heap.push _).size; simp; omega
  have hhs : (y3.alloc (.cells #[.int .i64 p, .int .i64 q, .int .i64 r] 49)).drew.heap.size = y3.heap.size + 1 := by show (y3.heap.push _).size = _; simp
  have hne := box6_own HO9.out HX9.out (by decide)
  have hg5 : (Value.slice o2 st.l.length cap2).ownBlock ≠ some g5 := fun h => by have h1 := HBB.out _ h; have h2 := HG5.out; omega
  have hT0 := (show (fun w' => w'.cell? ⟨b, 3, none⟩ = some (.slice o2 st.l.length cap2) ∧ w'.cell? ⟨g5, off5, none⟩ = some (.int .i64 p) ∧ w'.cell? ⟨g5, off5 + 1, none⟩ = some (.int .i64 q) ∧ w'.cell? ⟨g5, off5 + 2, none⟩ = some (.int .i64 r)) y3.drew from ⟨t3, t0, t1, t2⟩)
  refine Rg.start (S := (fun w' => w'.cell? ⟨b, 3, none⟩ = some (.slice o2 st.l.length cap2) ∧ w'.cell? ⟨g5, off5, none⟩ = some (.int .i64 p) ∧ w'.cell? ⟨g5, off5 + 1, none⟩ = some (.int .i64 q) ∧ w'.cell? ⟨g5, off5 + 2, none⟩ = some (.int .i64 r))) (last := 21) (by kernel_rfl) ?_
  refine Rg.take (i := 0) (v := ?_) 30 rfl (by kernel_rfl) (by kernel_rfl) (by kernel_rfl) (by kernel_rfl) (fun _ _ _ h => h) (Or.inl ⟨by rfl, ?_⟩) hT0 ?_
  rotate_left
  · intro w hSw
    go_simp
    try with_reducible rfl
  try simp only [Act.put, List.setIfInBounds_toArray, List.set_cons_zero, List.set_cons_succ]
  refine Rg.take (i := 1) (v := ?_) 30 rfl (by kernel_rfl) (by kernel_rfl) (by kernel_rfl) (by kernel_rfl) (fun _ _ _ h => h) (Or.inl ⟨by rfl, ?_⟩) hT0 ?_
  rotate_left
  · intro w hSw
    go_simp
    try with_reducible rfl
  try simp only [Act.put, List.setIfInBounds_toArray, List.set_cons_zero, List.set_cons_succ]
  refine Rg.take (i := 2) (v := ?_) 30 rfl (by kernel_rfl) (by kernel_rfl) (by kernel_rfl) (by kernel_rfl) (fun _ _ _ h => h) (Or.inl ⟨by rfl, ?_⟩) hT0 ?_
  rotate_left
  · intro w hSw
    go_simp
    try with_reducible rfl
  try simp only [Act.put, List.setIfInBounds_toArray, List.set_cons_zero, List.set_cons_succ]
  refine Rg.take (i := 3) (v := ?_) 30 rfl (by kernel_rfl) (by kernel_rfl) (by kernel_rfl) (by kernel_rfl) (fun _ _ _ h => h) (Or.inl ⟨by rfl, ?_⟩) hT0 ?_
  rotate_left
  · intro w hSw
    go_simp
    try with_reducible rfl
  try simp only [Act.put, List.setIfInBounds_toArray, List.set_cons_zero, List.set_cons_succ]
  refine Rg.take (i := 4) (v := ?_) 30 rfl (by kernel_rfl) (by kernel_rfl) (by kernel_rfl) (by kernel_rfl) (fun _ _ _ h => h) (Or.inl ⟨by rfl, ?_⟩) hT0 ?_
  rotate_left
  · intro w hSw
    go_simp
    try with_reducible rfl
  try simp only [Act.put, List.setIfInBounds_toArray, List.set_cons_zero, List.set_cons_succ]
  refine Rg.take (i := 5) (v := ?_) 30 rfl (by kernel_rfl) (by kernel_rfl) (by kernel_rfl) (by kernel_rfl) (fun _ _ _ h => h) (Or.inl ⟨by rfl, ?_⟩) hT0 ?_
  rotate_left
  · intro w hSw
    go_simp
    try with_reducible rfl
  try simp only [Act.put, List.setIfInBounds_toArray, List.set_cons_zero, List.set_cons_succ]
  refine Rg.take (i := 6) (v := ?_) 30 rfl (by kernel_rfl) (by kernel_rfl) (by kernel_rfl) (by kernel_rfl) (fun _ _ _ h => h) (Or.inl ⟨by rfl, ?_⟩) hT0 ?_
  rotate_left
  · intro w hSw
    go_simp
    try with_reducible rfl
  try simp only [Act.put, List.setIfInBounds_toArray, List.set_cons_zero, List.set_cons_succ]
  refine Rg.take (i := 7) (v := ?_) 30 rfl (by kernel_rfl) (by kernel_rfl) (by kernel_rfl) (by kernel_rfl) (fun _ _ _ h => h) (Or.inl ⟨by rfl, ?_⟩) hT0 ?_
  rotate_left
  · intro w hSw
    go_simp
    try with_reducible rfl
  try simp only [Act.put, List.setIfInBounds_toArray, List.set_cons_zero, List.set_cons_succ]
  refine Rg.take (i := 8) (v := ?_) 30 rfl (by kernel_rfl) (by kernel_rfl) (by kernel_rfl) (by kernel_rfl) (fun _ _ _ h => h) (Or.inl ⟨by rfl, ?_⟩) hT0 ?_
  rotate_left
  · intro w hSw
    go_simp
    try with_reducible rfl
  try simp only [Act.put, List.setIfInBounds_toArray, List.set_cons_zero, List.set_cons_succ]
  refine Rg.take (i := 9) (v := ?_) 30 rfl (by kernel_rfl) (by kernel_rfl) (by kernel_rfl) (by kernel_rfl) (fun _ _ _ h => h) (Or.inl ⟨by rfl, ?_⟩) hT0 ?_
  rotate_left
  · intro w hSw
    go_simp
    try with_reducible rfl
  try simp only [Act.put, List.setIfInBounds_toArray, List.set_cons_zero, List.set_cons_succ]
  refine Rg.take (i := 10) (v := ?_) 30 rfl (by kernel_rfl) (by kernel_rfl) (by kernel_rfl) (by kernel_rfl) (fun _ _ _ h => h) (Or.inl ⟨by rfl, ?_⟩) hT0 ?_
  rotate_left
  · intro w hSw
    go_simp
    try with_reducible rfl
  try simp only [Act.put, List.setIfInBounds_toArray, List.set_cons_zero, List.set_cons_succ]
  refine Rg.take (i := 11) (v := ?_) 30 rfl (by kernel_rfl) (by kernel_rfl) (by kernel_rfl) (by kernel_rfl) (fun _ _ _ h => h) (Or.inl ⟨by rfl, ?_⟩) hT0 ?_
  rotate_left
  · intro w hSw
    go_simp
    try with_reducible rfl
  try simp only [Act.put, List.setIfInBounds_toArray, List.set_cons_zero, List.set_cons_succ]
  refine Rg.take (i := 12) (v := ?_) 30 rfl (by kernel_rfl) (by kernel_rfl) (by kernel_rfl) (by kernel_rfl) (fun _ _ _ h => h) (Or.inl ⟨by rfl, ?_⟩) hT0 ?_
  rotate_left
  · intro w hSw
    go_simp
    try with_reducible rfl
  try simp only [Act.put, List.setIfInBounds_toArray, List.set_cons_zero, List.set_cons_succ]
  refine Rg.take (i := 13) (v := ?_) 30 rfl (by kernel_rfl) (by kernel_rfl) (by kernel_rfl) (by kernel_rfl) (fun _ _ _ h => h) (Or.inl ⟨by rfl, ?_⟩) hT0 ?_
  rotate_left
  · intro w hSw
    go_simp
    try with_reducible rfl
  try simp only [Act.put, List.setIfInBounds_toArray, List.set_cons_zero, List.set_cons_succ]
  refine Rg.take (i := 14) (v := ?_) 30 rfl (by kernel_rfl) (by kernel_rfl) (by kernel_rfl) (by kernel_rfl) (fun _ _ _ h => h) (Or.inl ⟨by rfl, ?_⟩) hT0 ?_
  rotate_left
  · intro w hSw
    go_simp
    try with_reducible rfl
  try simp only [Act.put, List.setIfInBounds_toArray, List.set_cons_zero, List.set_cons_succ]
  refine Rg.take (i := 15) (v := ?_) 30 rfl (by kernel_rfl) (by kernel_rfl) (by kernel_rfl) (by kernel_rfl) (fun _ _ _ h => h) (Or.inl ⟨by rfl, ?_⟩) hT0 ?_
  rotate_left
  · intro w hSw
    go_simp
    try with_reducible rfl
  try simp only [Act.put, List.setIfInBounds_toArray, List.set_cons_zero, List.set_cons_succ]
  refine Rg.step (i := 16) (by kernel_rfl) rfl fun K' hK' => ?_
  have HK := Lib.hid hK'
  clear hK'
  go_simp
  refine HK.out _ _ ⟨fun _ => (show (fun w' => w'.cell? ⟨b, 3, none⟩ = some (.slice o2 st.l.length cap2) ∧ w'.cell? ⟨g5, off5, none⟩ = some (.int .i64 p) ∧ w'.cell? ⟨g5, off5 + 1, none⟩ = some (.int .i64 q) ∧ w'.cell? ⟨g5, off5 + 2, none⟩ = some (.int .i64 r)) (y3.alloc (.cells #[.int .i64 p, .int .i64 q, .int .i64 r] 49)).drew from ⟨Ne.held_new hT0.1, Ne.held_new hT0.2.1, Ne.held_new hT0.2.2.1, Ne.held_new hT0.2.2.2⟩), ?_⟩
  clear HK K'
  try simp only [Act.put, List.setIfInBounds_toArray, List.set_cons_zero, List.set_cons_succ]
  refine Rg.step (i := 17) (by kernel_rfl) rfl fun K' hK' => ?_
  refine step_append_lies _ (by rfl) (.tmp 88) (.tmp 99) 23 (by rfl) B 49 i0 _ 3 24 Tryd.underlying23 hi0 iz0 iz1 iz2 rfl (Nat.zero_lt_succ 2) (.slice o2 st.l.length cap2) st.l.length (st.l.flatMap Ne.encA) (by rfl) ((show World.ownsRow _ _ _ _ _ _ _ from HO9.out).alloc (.cells #[.int .i64 p, .int .i64 q, .int .i64 r] 49)).drew
    ⟨y3.heap.size, 0, none⟩ 1 1 [.int .i64 p, .int .i64 q, .int .i64 r] (by rfl) rfl (World.news_of_block (w := (y3.alloc (.cells #[.int .i64 p, .int .i64 q, .int .i64 r] 49)).drew) (cs := #[Value.int .i64 p, Value.int .i64 q, Value.int .i64 r]) (heap_alloc_new y3 _)) (Ne.encA_one ⟨p, q, r⟩) (Nat.zero_lt_succ 0) hk1 hk2 hbs (y3.heap.size + 1) hhs ?_
  intro gg cap9 w5 hown5 hgrow hat hltg
  have hX5 := box6_grown (w := (y3.alloc (.cells #[.int .i64 p, .int .i64 q, .int .i64 r] 49)).drew) (box6_alloc HX9.out _) hgrow (fun h => hne h.symm)
  have hS5 := (show (fun w' => w'.cell? ⟨b, 3, none⟩ = some (.slice o2 st.l.length cap2) ∧ w'.cell? ⟨g5, off5, none⟩ = some (.int .i64 p) ∧ w'.cell? ⟨g5, off5 + 1, none⟩ = some (.int .i64 q) ∧ w'.cell? ⟨g5, off5 + 2, none⟩ = some (.int .i64 r)) w5 from ⟨(box6_cells hX5).2.2.2.1, Ne.held_grow hgrow hg5 hT0.2.1, Ne.held_grow hgrow hg5 hT0.2.2.1, Ne.held_grow hgrow hg5 hT0.2.2.2⟩)
  have nf5 := box6_frozen hX5 3
  refine hK' _ _ ⟨fun _ => hS5, ?_⟩
  clear hK' K'
  try simp only [Act.put, List.setIfInBounds_toArray, List.set_cons_zero, List.set_cons_succ]
  refine Rg.take (i := 18) (v := ?_) 30 rfl (by kernel_rfl) (by kernel_rfl) (by kernel_rfl) (by kernel_rfl) (fun _ _ _ h => h) (Or.inl ⟨by rfl, ?_⟩) hS5 ?_
  rotate_left
  · intro w hSw
    go_simp
    try with_reducible rfl
  try simp only [Act.put, List.setIfInBounds_toArray, List.set_cons_zero, List.set_cons_succ]
  refine Rg.take (i := 19) (v := ?_) 30 rfl (by kernel_rfl) (by kernel_rfl) (by kernel_rfl) (by kernel_rfl) (fun _ _ _ h => h) (Or.inl ⟨by rfl, ?_⟩) hS5 ?_
  rotate_left
  · intro w hSw
    go_simp
    try with_reducible rfl
  try simp only [Act.put, List.setIfInBounds_toArray, List.set_cons_zero, List.set_cons_succ]
  refine Rg.take (i := 20) (v := ?_) 30 rfl (by kernel_rfl) (by kernel_rfl) (by kernel_rfl) (by kernel_rfl) (fun _ _ _ h => h) (Or.inl ⟨by rfl, ?_⟩) hS5 ?_
  rotate_left
  · intro w hSw
    go_simp
    try with_reducible rfl
  try simp only [Act.put, List.setIfInBounds_toArray, List.set_cons_zero, List.set_cons_succ]
  refine Rg.step (i := 21) (by kernel_rfl) rfl fun K' hK' => ?_
  have HK := Lib.hid hK'
  clear hK'
  go_simp
  refine HK.out _ _ ⟨fun h => absurd rfl h, ?_⟩
  clear HK K'
  try simp only [Act.put, List.setIfInBounds_toArray, List.set_cons_zero, List.set_cons_succ]
  refine Rg.finished (by kernel_rfl) ?_ _
  have HX6 := Lib.hid (box6_set3 (v2 := .slice (some ⟨gg, 0, none⟩) (st.l.length + 1) cap9) hX5)
  have hO5 : Ne.OwnA w5 B (.slice (some ⟨gg, 0, none⟩) (st.l.length + 1) cap9) l2 := by
    rw [HL2.out]
    unfold Ne.OwnA Rw.Own
    rw [List.length_append, List.flatMap_append]
    exact hown5
  have HO6 := Lib.hid (Rw.own_set hO5 (p := ⟨b, 3, none⟩) (box6_own hO5 hX5 (by decide)) (.slice (some ⟨gg, 0, none⟩) (st.l.length + 1) cap9))
  have HB6 := Lib.hid (but_set (but_grown (but_drew (but_alloc HB9.out (by omega) (.cells #[.int .i64 p, .int .i64 q, .int .i64 r] 49))) hgrow hbs (Rw.own_block HO9.out)) 3 (.slice (some ⟨gg, 0, none⟩) (st.l.length + 1) cap9))
  have HMS := Lib.hid (show most ⟨st.n, st.s, st.t, st.arcs, st.sum + r, l2⟩ = st.arcs by simp [most, HNZ.out])
  have HTS := Lib.hid (show top - (st.sum + r) = 4611686018427387903 - st.sum - r by simp only [top]; omega)
  clear hX5 hO5 hS5 nf5 hgrow hat hown5 hT0
  go_wp2
  go_ret
  exact afterR_ok HP.out rfl ⟨_, by rw [HMS.out, HTS.out]; exact HX6.out, HO6.out⟩ HB6.out
end Dm
end Go.Proofs.YtaepoddmonijkaaDoor
