/-
  Contracts of the document's own reader of DIMACS lines: numbers, there, problem, end. Condition: the reader lies in a block of the call's own.
-/
import Derived.Test.YtaepoddmonijkaaDoorPars
import Derived.Test.YtaepoddmonijkaaDoorNumr
import Derived.Test.YtaepoddmonijkaaDoorLin
namespace Go.Proofs.YtaepoddmonijkaaDoor
open Go.ChangeShapes Go.WideShapes Go.ChangeAt Go.RowKit
set_option linter.unusedVariables false
set_option linter.unusedSimpArgs false
namespace Dm

theorem srow_drop {w : World} {g off : Nat} {l : List (List UInt8)} (hlt : g < w.heap.size) (hc : ∀ (i : Nat) (x : List UInt8), l[i]? = some x → w.cell? ⟨g, off + i, none⟩ = some (Txt.encS x)) (k : Nat) : Txt.SRow w (some ⟨g, off + k, none⟩) (l.drop k) :=
  .inr ⟨g, off + k, rfl, hlt, fun i x hx => by
    rw [List.getElem?_drop] at hx
    have := hc _ _ hx
    rw [Nat.add_assoc]; exact this⟩
theorem srow_take {w : World} {ao : Option Addr} {l : List (List UInt8)} (h : Txt.SRow w ao l) (k : Nat) : Txt.SRow w ao (l.take k) := by
  rcases h with h | ⟨g, off, rfl, hlt, hc⟩
  · exact .inl (by rw [h]; simp)
  · exact .inr ⟨g, off, rfl, hlt, fun i x hx => hc i x (by
      rw [List.getElem?_take] at hx
      split at hx
      · exact hx
      · cases hx)⟩

set_option maxHeartbeats 4000000 in
theorem rnumbers_any (ax : Option Addr) (cx : Nat) (X : List (List UInt8)) (w : World) (hx : Txt.SRow w ax X) (h1 : X.length ≤ 1000000) (h2 : ∀ x ∈ X, x.length ≤ 1000000) :
    Calls Tryd.prog 64 #[.slice ax X.length cx] w fun e w' =>
      ∃ v, e = .returned (.tuple #[v, .int .i64 (numsE X)]) ∧ (numsE X = 0 → OwnJ w' w.heap.size v (X.map Txt.numV)) ∧ Below w.heap.size w w' := by
  have HX := Lib.hid hx
  have HZ := Lib.hid h2
  clear hx h2
  go_enter Tryd.func64, Tryd.ntmps64
  go_wp2
  go_loopw [4, 5] (fun v i wr => ∃ (k : Nat) (xs : List Int), k ≤ X.length ∧ i = .int .i64 k ∧ OwnJ wr w.heap.size v xs ∧ Below w.heap.size w wr ∧ xs.length ≤ k ∧ numsE X = numsE (X.drop k) ∧ X.map Txt.numV = xs ++ (X.drop k).map Txt.numV) (fun _ i _ => X.length - (intOf i).toNat)
  case atStart => exact ⟨0, [], Nat.zero_le _, rfl, Rw.own_nil _ _, Below.refl _ _, by simp, rfl, rfl⟩
  case round =>
    obtain ⟨k, xs, hk, rfl, hown, hbel, hxl, hE, hM⟩ := hrel
    have HO := Lib.hid hown
    have HB := Lib.hid hbel
    have hsz := HB.out.size
    clear hown hbel
    obtain ⟨ao, cap, rfl, _⟩ := Rw.own_row Ne.encI_len HO.out
    by_cases hlt : k < X.length
    · obtain ⟨x, g2⟩ : ∃ x, X[k]? = some x := ⟨_, List.getElem?_eq_getElem hlt⟩
      have hd : X.drop k = x :: X.drop (k + 1) := by
        obtain ⟨h, e⟩ := List.getElem?_eq_some_iff.1 g2
        rw [List.drop_eq_getElem_cons h, e]
      have hxl2 := HZ.out x (List.mem_of_getElem? g2)
      rcases HX.out.below HB.out with h | ⟨b2, o2, rfl, _, k2⟩
      · rw [h] at hlt; simp at hlt
      have hc2 := k2 k _ g2
      unfold Txt.encS at hc2
      have hki : (k : Int) < (X.length : Int) := by omega
      clear k2 g2
      rw [hd] at hE hM
      have hN := Txt.rnumber_any ⟨x.toArray⟩ wr (by simpa [ByteArray.size] using hxl2)
      rw [show (⟨x.toArray⟩ : ByteArray).data.toList = x from by simp] at hN
      have HN := Lib.hid hN
      clear hxl2
      by_cases f2 : Txt.numE x = 0
      · have HE2 := Lib.hid (hE.trans (numsE_on f2))
        have HM2 := Lib.hid (show X.map Txt.numV = (xs ++ [Txt.numV x]) ++ (X.drop (k + 1)).map Txt.numV by rw [hM]; simp)
        have HLN := Lib.hid (show xs.length + [Txt.numV x].length ≤ 1099511627776 by simp; omega)
        clear hE hM hd hN
        rw [f2] at HN
        clear f2
        go_wp2_with fail
        refine HN.out.mono ?_
        rintro e w1 ⟨rfl, rfl⟩
        go_wp2_with (at_builtin; refine Rw.app elemJ Ne.encI_len Ne.encI_one rfl (.tmp 25) (.tmp 27) rfl w.heap.size (.slice ao xs.length cap) xs rfl ?ho (some ⟨wr.heap.size, 0, none⟩) 1 [Txt.numV x] rfl ?hnn ?hrow HLN.out ?hB ?_; (case ho => exact Rw.own_alloc HO.out _); (case hnn => (intro h; cases h)); (case hrow => exact jrow_one wr rfl _); (case hB => (simp; omega)); intro v2 w2 hown2 hgr2; have HO2 := Lib.hid hown2; have HB2 := Lib.hid ((HB.out.alloc hsz _).grown hgr2 (by simp; omega) (Rw.own_block HO.out)); clear hown2 hgr2)
        go_roundw
        case rel => exact ⟨k + 1, _, by omega, by go_num, HO2.out, HB2.out, by simp; omega, HE2.out, HM2.out⟩
        case measure => simp [intOf]; omega
      · have HE2 := Lib.hid (hE.trans (numsE_at f2))
        have HF := Lib.hid f2
        have f2' : (Txt.numE x != 0) = true := by simpa using f2
        clear hE hM hd hN f2
        go_wp2_with fail
        refine HN.out.mono ?_
        rintro e w1 ⟨rfl, rfl⟩
        go_wp2
        go_ret2
        exact ⟨_, retVI HE2.out.symm, fun h => by (rw [HE2.out] at h; exact absurd h HF.out), HB.out⟩
    · have hs : X.drop k = [] := List.drop_eq_nil_of_le (by omega)
      rw [hs] at hE hM
      have HE2 := Lib.hid (show numsE X = 0 from hE)
      have HM2 := Lib.hid (show X.map Txt.numV = xs by rw [hM]; simp)
      clear hE hM hs
      go_wp2
      go_ret2
      exact ⟨_, retVI HE2.out.symm, fun _ => by (rw [HM2.out]; exact HO.out), HB.out⟩

theorem there_any (b : Nat) (n v : Int) (w : World) (h : w.cell? ⟨b, 0, none⟩ = some (.int .i64 n)) :
    Calls Tryd.prog 65 #[.pointer (some ⟨b, 0, none⟩), .int .i64 v] w fun e w' => e = .returned (.bool (Ne.isNode n v)) ∧ w = w' := by
  by_cases f1 : 1 ≤ v
  · by_cases f2 : v ≤ n
    · have HE := Lib.hid (show Ne.isNode n v = true by simp [Ne.isNode, f1, f2])
      go_enter Tryd.func65, Tryd.ntmps65
      go_wp2
      go_ret
      exact ⟨Ne.retB HE.out.symm, rfl⟩
    · have HE := Lib.hid (show Ne.isNode n v = false by simp [Ne.isNode, f1, f2])
      go_enter Tryd.func65, Tryd.ntmps65
      go_wp2
      go_ret
      exact ⟨Ne.retB HE.out.symm, rfl⟩
  · have HE := Lib.hid (show Ne.isNode n v = false by simp [Ne.isNode, f1])
    go_enter Tryd.func65, Tryd.ntmps65
    go_wp2
    go_ret
    exact ⟨Ne.retB HE.out.symm, rfl⟩

theorem act_row2 {w : World} {B : Nat} {v : Value} {l : List Int} (h : OwnJ w B v l) : ∃ ao cap, v = .slice ao l.length cap ∧ Ne.IRow w ao l ∧ ∀ g off, ao = some ⟨g, off, none⟩ → B ≤ g ∧ g < w.heap.size := by
  obtain ⟨ao, cap, hv, _, _, _, hr, hb, _⟩ := Rw.own_row Ne.encI_len h
  exact ⟨ao, cap, hv, hr, hb⟩
/-- how many arcs there are to be, as the document's reader holds it -/
def most (st : St) : Int := if st.n = 0 then -1 else st.arcs
def RfIs (w : World) (B b : Nat) (st : St) : Prop := ∃ v, Box6 56 w b st.n st.s st.t v (most st) (top - st.sum) ∧ Ne.OwnA w B v st.l
theorem rfIs_kept {w w2 : World} {B b : Nat} {st : St} (h : RfIs w B b st) (hb : Below w.heap.size w w2) : RfIs w2 B b st := by
  obtain ⟨v, h1, h2⟩ := h; exact ⟨v, box6_below h1 hb (box6_lt h1), Rw.own_below h2 hb⟩
def AfterR (w : World) (B b : Nat) (r : Int × St) (e : Ending) (w' : World) : Prop := e = .returned (.int .i64 r.1) ∧ (r.1 = 0 → RfIs w' B b r.2) ∧ But B b w w'
theorem afterR_err {w w' : World} {B b : Nat} {r : Int × St} {c : Int} {st' : St} {e : Ending} (hE : r = (c, st')) (hc : c ≠ 0) (he : e = .returned (.int .i64 c)) (hb : But B b w w') : AfterR w B b r e w' := by
  subst hE; exact ⟨he, fun h => absurd h hc, hb⟩
theorem afterR_ok {w w' : World} {B b : Nat} {r : Int × St} {st' : St} {e : Ending} (hE : r = (0, st')) (he : e = .returned (.int .i64 0)) (hR : RfIs w' B b st') (hb : But B b w w') : AfterR w B b r e w' := by
  subst hE; exact ⟨he, fun _ => hR, hb⟩

def stepP (st : St) (ws : List (List UInt8)) : Int × St := if fitsL (pat 0) ws = true then does st 0 ws else (2, st)
def stepN (st : St) (ws : List (List UInt8)) : Int × St := if fitsL (pat 1) ws = true then does st 1 ws else if fitsL (pat 2) ws = true then does st 2 ws else (2, st)
def stepA (st : St) (ws : List (List UInt8)) : Int × St := if fitsL (pat 3) ws = true then does st 3 ws else (2, st)
theorem stepP_len {st : St} {ws : List (List UInt8)} (h : ws.length ≠ 4) : stepP st ws = (2, st) := by unfold stepP; rw [fitsL_ne h]; rfl
theorem stepN_len {st : St} {ws : List (List UInt8)} (h : ws.length ≠ 3) : stepN st ws = (2, st) := by unfold stepN; rw [fitsL_ne h, fitsL_ne h]; rfl
theorem stepA_len {st : St} {ws : List (List UInt8)} (h : ws.length ≠ 4) : stepA st ws = (2, st) := by unfold stepA; rw [fitsL_ne h]; rfl

set_option maxHeartbeats 4000000 in
theorem rproblem_any (B b : Nat) (st : St) (w : World) (h : RfIs w B b st) (hok : st.ok) (hB : B ≤ w.heap.size) (ao : Option Addr) (cap : Nat) (ws : List (List UInt8)) (hr : Txt.SRow w ao ws) (hcap : ws.length ≤ cap) (h0 : ws[0]? = some [112]) (h2 : ∀ x ∈ ws, x.length ≤ 1000000) (hl2 : ws.length ≤ 2000000) :
    Calls Tryd.prog 42 #[.pointer (some ⟨b, 0, none⟩), .slice ao ws.length cap] w (AfterR w B b (stepP st ws)) := by
  by_cases hl : ws.length = 4
  case neg =>
    have hne : ((ws.length : Int) != 4) = true := by simp; omega
    have HE := Lib.hid (stepP_len (st := st) hl)
    clear h hr h0 hl
    go_enter Tryd.func42, Tryd.ntmps42
    go_wp2
    go_ret
    exact afterR_err HE.out (by decide) rfl (But.refl _ _ _)
  obtain ⟨x0, x1, x2, x3, rfl⟩ := len4 hl
  obtain rfl : x0 = [112] := by simpa using h0
  rcases hr with hr | ⟨g, off, rfl, hg, hc⟩
  · cases hr
  have hsl := srow_drop hg hc 2
  have c1 : w.cell? ⟨g, off + 1, none⟩ = some (.string ⟨x1.toArray⟩) := hc 1 _ rfl
  have h4 : 4 ≤ cap := by simpa using hcap
  have HSL := Lib.hid (show Txt.SRow w (some ⟨g, off + 2, none⟩) [x2, x3] from hsl)
  have HZ := Lib.hid (show ∀ x ∈ [x2, x3], x.length ≤ 1000000 from fun x hx => h2 x (by simp at hx ⊢; rcases hx with h | h <;> simp [h]))
  clear hl h0 hc hsl hcap h2 hl2
  show Calls _ _ #[_, .slice _ 4 cap] w _
  by_cases hm : x1 = [109, 97, 120]
  case neg =>
    have hm' : (x1 == [109, 97, 120]) = false := by simpa using hm
    have HE := Lib.hid (show stepP st [[112], x1, x2, x3] = (2, st) by unfold stepP; rw [if_neg (by simp [fitsL, pat]; exact fun h => hm h.symm)])
    clear hm h
    go_enter Tryd.func42, Tryd.ntmps42
    go_wp2
    go_ret
    exact afterR_err HE.out (by decide) rfl (But.refl _ _ _)
  subst hm
  have HS := Lib.hid (show stepP st [[112], [109, 97, 120], x2, x3] = does st 0 [[112], [109, 97, 120], x2, x3] by unfold stepP; rw [if_pos (by simp [fitsL, pat])])
  have HRF := Lib.hid h
  obtain ⟨v, h, ho⟩ := h
  obtain ⟨k0, k1, k2, k3, k4, k5⟩ := box6_cells h
  clear h ho
  by_cases hn : st.n = 0
  case neg =>
    have ha := hok.arcs.1
    rw [show most st = st.arcs by simp [most, hn]] at k4
    have HE := Lib.hid (show stepP st [[112], [109, 97, 120], x2, x3] = (2, st) by rw [HS.out, does_no (by simp [may, hn])])
    clear hn hok
    go_enter Tryd.func42, Tryd.ntmps42
    go_wp2
    go_ret
    exact afterR_err HE.out (by decide) rfl (But.refl _ _ _)
  rw [show most st = -1 by simp [most, hn]] at k4
  have hmay : may st 0 = true := by simp [may, hn]
  have HNU := Lib.hid (rnumbers_any (some ⟨g, off + 2, none⟩) (cap - 2) [x2, x3] w HSL.out (by simp) HZ.out)
  have hsel : sel (pat 0) [[112], [109, 97, 120], x2, x3] = [x2, x3] := by simp [sel, pat]
  by_cases he : numsE [x2, x3] = 0
  case neg =>
    have HE := Lib.hid (show stepP st [[112], [109, 97, 120], x2, x3] = (numsE [x2, x3], st) by rw [HS.out, does_err hmay (by rw [hsel]; exact he), hsel])
    have HNE := Lib.hid he
    have he' : (numsE [x2, x3] != 0) = true := by simpa using he
    clear hn hok hsel hmay he
    go_enter Tryd.func42, Tryd.ntmps42
    go_wp2_with fail
    refine HNU.out.mono ?_
    rintro e w1 ⟨v1, rfl, _, hb⟩
    have HB1 := Lib.hid hb
    clear hb
    go_wp2
    go_ret
    exact afterR_err HE.out HNE.out rfl (But.of_below (HB1.out.mono hB))
  have HE := Lib.hid (show stepP st [[112], [109, 97, 120], x2, x3] = problem st (Txt.numV x2) (Txt.numV x3) by rw [HS.out, does_act hmay (by rw [hsel]; exact he), hsel]; rfl)
  have HNUM := Lib.hid he
  have HN0 := Lib.hid hn
  have HOK := Lib.hid hok
  rw [he] at HNU
  obtain ⟨p, hp⟩ : ∃ p, p = Txt.numV x2 := ⟨_, rfl⟩
  obtain ⟨q, hq⟩ : ∃ q, q = Txt.numV x3 := ⟨_, rfl⟩
  rw [← hp, ← hq] at HE
  have HPQ := Lib.hid (show [x2, x3].map Txt.numV = [p, q] by rw [hp, hq]; rfl)
  have HBL := Lib.hid (show b < w.heap.size by obtain ⟨v, h, _⟩ := HRF.out; exact box6_lt h)
  clear hp hq
  clear hn hok hsel hmay he HS k0 k1 k2 k3 k5
  go_enter Tryd.func42, Tryd.ntmps42
  go_wp2_with fail
  refine HNU.out.mono ?_
  rintro e w1 ⟨v1, rfl, hv, hb⟩
  have hv2 := hv (by trivial)
  rw [HPQ.out] at hv2
  obtain ⟨o5, c5, hv5, hrow, hblk⟩ := act_row2 hv2
  replace hv5 : v1 = .slice o5 2 c5 := hv5
  subst hv5
  have HB1 := Lib.hid hb
  have HRF1 := Lib.hid (rfIs_kept HRF.out hb)
  rcases hrow with hr | ⟨g5, off5, rfl, hlt5, hc5⟩
  · cases hr
  have d0 : w1.cell? ⟨g5, off5, none⟩ = some (.int .i64 p) := Ne.irow_at hc5 (i := 0) (x := p) rfl
  have d1 : w1.cell? ⟨g5, off5 + 1, none⟩ = some (.int .i64 q) := Ne.irow_at hc5 (i := 1) (x := q) rfl
  have e1 : (w1.setCell ⟨b, 0, none⟩ (.int .i64 p)).cell? ⟨g5, off5 + 1, none⟩ = some (.int .i64 q) := Ne.held_set d1 (by have h1 := (hblk g5 off5 rfl).1; have h2 := HBL.out; simp only; omega)
  have HBT := Lib.hid (But.of_below (b := b) (HB1.out.mono hB))
  obtain ⟨v6, hx6, ho6⟩ := HRF1.out
  have HX6 := Lib.hid hx6
  have HO6 := Lib.hid ho6
  obtain ⟨k0, k1, k2, k3, k4', k5⟩ := box6_cells hx6
  have z0 := box6_frozen hx6 0
  have z4 := box6_frozen hx6 4
  have i0 : (0 : Int) < ((2 : Nat) : Int) := by decide
  have i1 : (1 : Int) < ((2 : Nat) : Int) := by decide
  clear hv hv2 hb hc5 hx6 ho6 k4 hblk
  by_cases f : p < 2 ∨ 500 < p ∨ q < 0 ∨ 2000 < q
  · have HP := Lib.hid (HE.out.trans (show problem st p q = (3, st) by unfold problem; rw [if_pos f]))
    by_cases f1 : p < 2
    · go_wp2
      go_ret
      exact afterR_err HP.out (by decide) rfl HBT.out
    by_cases f2 : 500 < p
    · go_wp2
      go_ret
      exact afterR_err HP.out (by decide) rfl HBT.out
    by_cases f3 : q < 0
    · go_wp2
      go_ret
      exact afterR_err HP.out (by decide) rfl HBT.out
    have f4 : 2000 < q := by omega
    clear f
    go_wp2
    go_ret
    exact afterR_err HP.out (by decide) rfl HBT.out
  · have HP := Lib.hid (HE.out.trans (show problem st p q = (0, ⟨p, st.s, st.t, q, st.sum, st.l⟩) by unfold problem; rw [if_neg f]))
    have f1 : ¬ p < 2 := by omega
    have f2 : ¬ 500 < p := by omega
    have f3 : ¬ q < 0 := by omega
    have f4 : ¬ 2000 < q := by omega
    have HNZ := Lib.hid (show p ≠ 0 by omega)
    clear f
    go_wp2
    go_ret
    exact afterR_ok HP.out rfl ⟨v6, by (have := box6_set4 (n2 := q) (box6_set0 (n2 := p) HX6.out); simpa [most, HNZ.out] using this), Rw.own_set (Rw.own_set HO6.out (box6_own HO6.out HX6.out (by decide)) _) (box6_own HO6.out HX6.out (by decide)) _⟩
      (but_set (but_set HBT.out _ _) _ _)
end Dm
end Go.Proofs.YtaepoddmonijkaaDoor
