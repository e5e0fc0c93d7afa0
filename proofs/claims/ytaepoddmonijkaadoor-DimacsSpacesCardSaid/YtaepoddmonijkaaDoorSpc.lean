/-
  Plain facts on the DIMACS format: blanks of any kind between words, noughts ahead of numbers, and notes between lines change no network. No program in this text. No condition.
-/
import Derived.Test.YtaepoddmonijkaaDoorBk4
namespace Go.Proofs.YtaepoddmonijkaaDoor
open Go
set_option linter.unusedVariables false
set_option linter.unusedSimpArgs false
namespace Dm
open Txt (lin wrd ends)

/-! words that say the same -/
def zs (k : Nat) : List UInt8 := List.replicate k 48
def headDig (w : List UInt8) : Prop := ∃ c r, w = c :: r ∧ Txt.dig c = true
def WSim (w v : List UInt8) : Prop := v = w ∨ (headDig w ∧ ∃ k, v = zs k ++ w)
inductive WsSim : List (List UInt8) → List (List UInt8) → Prop
  | nil : WsSim [] []
  | cons {w v : List UInt8} {W V : List (List UInt8)} : WSim w v → WsSim W V → WsSim (w :: W) (v :: V)
theorem wsSim_len {W V : List (List UInt8)} (h : WsSim W V) : W.length = V.length := by
  induction h with
  | nil => rfl
  | cons _ _ ih => simp [ih]
theorem wsSim_snoc {W V : List (List UInt8)} {w v : List UInt8} (h : WsSim W V) (hw : WSim w v) : WsSim (W ++ [w]) (V ++ [v]) := by
  induction h with
  | nil => exact .cons hw .nil
  | cons h1 _ ih => exact .cons h1 ih
theorem zs_headDig {k : Nat} {w : List UInt8} (h : headDig w) : headDig (zs k ++ w) := by
  rcases k with _ | k
  · exact h
  · exact ⟨48, zs k ++ w, by unfold zs; rw [List.replicate_succ]; rfl, rfl⟩
theorem num_zs {w : List UInt8} (h : headDig w) (k : Nat) : Txt.numE (zs k ++ w) = Txt.numE w ∧ Txt.numV (zs k ++ w) = Txt.numV w := by
  obtain ⟨c', r', hw', hd'⟩ := zs_headDig (k := k) h
  obtain ⟨c, r, hw, hd⟩ := h
  have n1 : Txt.neg (zs k ++ w) = false := by rw [hw']; exact Txt.neg_dig hd'
  have n2 : Txt.neg w = false := by rw [hw]; exact Txt.neg_dig hd
  have b1 : Txt.body (zs k ++ w) = zs k ++ w := by unfold Txt.body; rw [n1]; rfl
  have b2 : Txt.body w = w := by unfold Txt.body; rw [n2]; rfl
  have hz : (zs k).all Txt.dig = true := by
    unfold zs; simp only [List.all_eq_true, List.mem_replicate]; rintro x ⟨_, rfl⟩; rfl
  have hok : Txt.okB (zs k ++ w) = Txt.okB w := by
    unfold Txt.okB
    rw [List.all_append, hz, Bool.true_and]
    congr 1
    rw [hw]; cases zs k <;> rfl
  have hdv : ∀ k, Txt.decV 0 (zs k) = 0 := by
    intro k; unfold zs; induction k with
    | zero => exact Txt.decV_nil 0
    | succ k ih => rw [List.replicate_succ, Txt.decV_cons]; exact ih
  have hm : Txt.mag (zs k ++ w) = Txt.mag w := by
    unfold Txt.mag; rw [b1, b2, Txt.decV_append, hdv]
  have hE : Txt.numE (zs k ++ w) = Txt.numE w := by unfold Txt.numE; rw [b1, b2, hok, hm, n1, n2]
  exact ⟨hE, by unfold Txt.numV; rw [hE, hm, n1, n2]⟩
theorem wsim_num {w v : List UInt8} (h : WSim w v) : Txt.numE v = Txt.numE w ∧ Txt.numV v = Txt.numV w := by
  rcases h with rfl | ⟨h, k, rfl⟩
  · exact ⟨rfl, rfl⟩
  · exact num_zs h k
theorem wsim_eq {w v p : List UInt8} (h : WSim w v) (hp : ∀ c r, p = c :: r → Txt.dig c = false) : (p = v) ↔ (p = w) := by
  rcases h with rfl | ⟨h, k, rfl⟩
  · exact Iff.rfl
  · constructor
    · intro e
      obtain ⟨c, r, hw, hd⟩ := zs_headDig (k := k) h
      have := hp c r (e.trans hw); rw [hd] at this; cases this
    · intro e
      obtain ⟨c, r, hw, hd⟩ := h
      have := hp c r (e.trans hw); rw [hd] at this; cases this
def patOk (P : List (List UInt8)) : Prop := ∀ p ∈ P, ∀ c r, p = c :: r → Txt.dig c = false
theorem pat_ok (k : Nat) : patOk (pat k) := by
  intro p hp c r e
  match k, hp with
  | 0, hp => simp [pat] at hp; rcases hp with rfl | rfl | rfl <;> (first | cases e) <;> rfl
  | 1, hp => simp [pat] at hp; rcases hp with rfl | rfl | rfl <;> (first | cases e) <;> rfl
  | 2, hp => simp [pat] at hp; rcases hp with rfl | rfl | rfl <;> (first | cases e) <;> rfl
  | k + 3, hp => simp [pat] at hp; rcases hp with rfl | rfl <;> (first | cases e) <;> rfl
theorem fits_sim {W V : List (List UInt8)} (h : WsSim W V) : ∀ {P : List (List UInt8)}, patOk P → fitsL P V = fitsL P W := by
  induction h with
  | nil => intro P _; rfl
  | @cons w v W V h1 _ ih =>
    intro P hP
    rcases P with _ | ⟨p, P⟩
    · rfl
    · simp only [fitsL]
      rw [ih fun q hq => hP q (by simp [hq]), decide_eq_decide.2 (wsim_eq h1 (hP p (by simp)))]
theorem sel_sim {W V : List (List UInt8)} (h : WsSim W V) : ∀ (P : List (List UInt8)), WsSim (sel P W) (sel P V) := by
  induction h with
  | nil => intro P; cases P <;> exact .nil
  | cons h1 _ ih =>
    intro P
    rcases P with _ | ⟨p, P⟩
    · exact .nil
    · simp only [sel]
      split
      · exact .cons h1 (ih P)
      · exact ih P
theorem nums_sim {W V : List (List UInt8)} (h : WsSim W V) : numsE V = numsE W ∧ V.map Txt.numV = W.map Txt.numV := by
  induction h with
  | nil => exact ⟨rfl, rfl⟩
  | cons h1 _ ih =>
    obtain ⟨e1, e2⟩ := wsim_num h1
    exact ⟨by simp only [numsE, e1, ih.1], by simp only [List.map_cons, e2, ih.2]⟩
theorem does_sim {W V : List (List UInt8)} (h : WsSim W V) (st : St) (k : Nat) : does st k V = does st k W := by
  obtain ⟨e1, e2⟩ := nums_sim (sel_sim h (pat k))
  unfold does; rw [e1, e2]
theorem says_sim {W V : List (List UInt8)} (h : WsSim W V) : says V = says W := by
  cases h with
  | nil => rfl
  | @cons w v W V h1 _ =>
    unfold says
    simp only [List.getElem?_cons_zero, Option.some.injEq, reduceCtorEq, decide_false, Bool.false_or]
    congr 1
    rw [decide_eq_decide]
    have := wsim_eq (p := [99]) h1 (fun c r e => by cases e; rfl)
    exact ⟨fun e => (this.1 e.symm).symm, fun e => (this.2 e.symm).symm⟩
theorem step_sim {W V : List (List UInt8)} (h : WsSim W V) (st : St) : stepW st V = stepW st W := by
  unfold stepW
  rw [says_sim h, fits_sim h (pat_ok 0), fits_sim h (pat_ok 1), fits_sim h (pat_ok 2), fits_sim h (pat_ok 3), does_sim h, does_sim h, does_sim h, does_sim h]

/-! byte by byte -/
structure PS where
  o : Option St
  ws : List (List UInt8)
  cur : List UInt8
def fin (cur : List UInt8) : List (List UInt8) := if cur = [] then [] else [cur]
def stepO (st : St) (ws : List (List UInt8)) : Option St := if (stepW st ws).1 = 0 then some (stepW st ws).2 else none
def feed (p : PS) (c : UInt8) : PS :=
  if c = 10 then ⟨p.o.bind fun st => stepO st (p.ws ++ fin p.cur), [], []⟩
  else if Txt.blk c then ⟨p.o, p.ws ++ fin p.cur, []⟩ else ⟨p.o, p.ws, p.cur ++ [c]⟩
def fold (p : PS) (l : List UInt8) : PS := l.foldl feed p
theorem fold_append (p : PS) (a b : List UInt8) : fold p (a ++ b) = fold (fold p a) b := by unfold fold; rw [List.foldl_append]
theorem fold_one (p : PS) (c : UInt8) : fold p [c] = feed p c := rfl
theorem fold_line (u : List UInt8) : ∀ (o : Option St) (ws : List (List UInt8)) (cur : List UInt8), (∀ c ∈ u, c ≠ 10) → fold ⟨o, ws, cur⟩ (u ++ [10]) = ⟨o.bind fun st => stepO st (ws ++ wrd cur u), [], []⟩ := by
  induction u with
  | nil => intro o ws cur _; rw [List.nil_append, fold_one]; unfold feed; rw [if_pos rfl, Txt.wrd_nil]; rfl
  | cons c u ih =>
    intro o ws cur h
    have hc := h c (by simp)
    have hu := fun d hd => h d (List.mem_cons_of_mem _ hd)
    rw [List.cons_append]
    show fold (feed ⟨o, ws, cur⟩ c) (u ++ [10]) = _
    unfold feed
    rw [if_neg hc, Txt.wrd_cons]
    by_cases hb : Txt.blk c = true
    · rw [if_pos hb, if_pos hb, ih _ _ _ hu]
      simp only [fin]
      by_cases he : cur = []
      · rw [if_pos he, if_pos he, List.append_nil]
      · rw [if_neg he, if_neg he]; simp
    · rw [if_neg hb, if_neg hb, ih _ _ _ hu]
theorem fold_none (L : List (List UInt8)) : (∀ y ∈ L, ∀ c ∈ y, c ≠ 10) → fold ⟨none, [], []⟩ (ends L) = ⟨none, [], []⟩ := by
  induction L with
  | nil => intro _; rfl
  | cons x L ih =>
    intro h
    rw [Txt.ends_cons, show x ++ 10 :: ends L = (x ++ [10]) ++ ends L by simp, fold_append, fold_line x none [] [] (h x (by simp))]
    exact ih fun y hy => h y (by simp [hy])
theorem fold_ends : ∀ (L : List (List UInt8)) (st : St), (∀ y ∈ L, ∀ c ∈ y, c ≠ 10) → fold ⟨some st, [], []⟩ (ends L) = ⟨runs st L, [], []⟩ := by
  intro L
  induction L with
  | nil => intro st _; rfl
  | cons x L ih =>
    intro st h
    have hL := fun y hy => h y (List.mem_cons_of_mem _ hy)
    rw [Txt.ends_cons, show x ++ 10 :: ends L = (x ++ [10]) ++ ends L by simp, fold_append, fold_line x (some st) [] [] (h x (by simp))]
    simp only [Option.bind_some, List.nil_append, stepO, runs]
    by_cases h0 : (stepW st (wrd [] x)).1 = 0
    · rw [if_pos h0, if_pos h0]; exact ih _ hL
    · rw [if_neg h0, if_neg h0]; exact fold_none L hL
theorem lin_no10 (r : List UInt8) : ∀ cur : List UInt8, (∀ c ∈ cur, c ≠ 10) → ∀ y ∈ lin cur r, ∀ c ∈ y, c ≠ 10 := by
  induction r with
  | nil => intro cur h y hy; rw [Txt.lin_nil] at hy; split at hy <;> simp at hy; subst hy; exact h
  | cons d r ih =>
    intro cur h y hy
    rw [Txt.lin_cons] at hy
    split at hy
    · rcases List.mem_cons.1 hy with rfl | hy
      · exact h
      · exact ih [] (by simp) y hy
    · rename_i hd
      refine ih (cur ++ [d]) (fun c hc => ?_) y hy
      rcases List.mem_append.1 hc with g | g
      · exact h c g
      · simp at g; subst g; exact hd
theorem lin_back {t : List UInt8} (h : t.getLast? = some 10) : ends (lin [] t) = t := by
  have := (Txt.lin_tells t []).1
  rw [this, List.nil_append]
  have : Txt.more [] t = false := by unfold Txt.more; simp [h]
  rw [this]; simp

/-! two texts beside one another -/
def p0 : PS := ⟨some st0, [], []⟩
def ndg (s : List UInt8) (j : Nat) : Prop := ∃ c, s[j]? = some c ∧ Txt.dig c = true
def CSim (cur v : List UInt8) (nd : Prop) : Prop := v = cur ∨ ∃ k, v = zs k ++ cur ∧ ((cur = [] ∧ nd) ∨ headDig cur)
structure Sim (s : List UInt8) (j : Nat) (t : List UInt8) : Prop where
  o : (fold p0 t).o = (fold p0 (s.take j)).o
  ws : WsSim (fold p0 (s.take j)).ws (fold p0 t).ws
  cur : CSim (fold p0 (s.take j)).cur (fold p0 t).cur (ndg s j)
  last : t.getLast? = some 10 ∨ (s.take j).getLast? ≠ some 10
theorem sim_zero (s : List UInt8) : Sim s 0 [] := ⟨by simp, by rw [List.take_zero]; exact .nil, .inl (by simp), .inr (by simp)⟩
theorem fin_sim {cur v : List UInt8} {nd : Prop} {W V : List (List UInt8)} (h : WsSim W V) (hc : CSim cur v nd) (hn : ¬ nd) : WsSim (W ++ fin cur) (V ++ fin v) := by
  unfold fin
  rcases hc with rfl | ⟨k, rfl, ⟨_, hd⟩ | hd⟩
  · split
    · rw [List.append_nil, List.append_nil]; exact h
    · exact wsSim_snoc h (.inl rfl)
  · exact absurd hd hn
  · obtain ⟨c, r, e, hdig⟩ := hd
    obtain ⟨c', r', e', _⟩ := zs_headDig (k := k) ⟨c, r, e, hdig⟩
    rw [if_neg (by rw [e]; simp), if_neg (by rw [e']; simp)]
    exact wsSim_snoc h (.inr ⟨⟨c, r, e, hdig⟩, k, rfl⟩)
theorem take_on1 {s : List UInt8} {j : Nat} {c : UInt8} (h : s[j]? = some c) : s.take (j + 1) = s.take j ++ [c] := by rw [List.take_add_one, h]; rfl
theorem nd_not {s : List UInt8} {j : Nat} {c : UInt8} (h : s[j]? = some c) (hd : Txt.dig c = false) : ¬ ndg s j := by
  rintro ⟨d, hd1, hd2⟩
  rw [h] at hd1
  cases hd1
  rw [hd] at hd2; cases hd2
theorem blk_dig {c : UInt8} (h : Txt.blk c = true) : Txt.dig c = false := by
  rcases hd : Txt.dig c with _ | _
  · rfl
  · have := (dig_clean hd).1; rw [h] at this; cases this
theorem sim_copy {s t : List UInt8} {j : Nat} {c : UInt8} (h : Sim s j t) (hc : s[j]? = some c) : Sim s (j + 1) (t ++ [c]) := by
  have hl : (t ++ [c]).getLast? = some 10 ∨ (s.take (j + 1)).getLast? ≠ some 10 := by
    rw [take_on1 hc]; simp only [List.getLast?_concat]
    by_cases e : c = 10
    · exact .inl (by rw [e])
    · exact .inr (by simpa using e)
  have ea : fold p0 (s.take (j + 1)) = feed (fold p0 (s.take j)) c := by rw [take_on1 hc, fold_append]; rfl
  have eb : fold p0 (t ++ [c]) = feed (fold p0 t) c := by rw [fold_append]; rfl
  by_cases e10 : c = 10
  · have hn : ¬ ndg s j := nd_not hc (by rw [e10]; rfl)
    have hf := fin_sim h.ws h.cur hn
    subst e10
    refine ⟨?_, ?_, ?_, hl⟩ <;> rw [ea, eb] <;> unfold feed <;> rw [if_pos rfl, if_pos rfl]
    · simp only
      rw [h.o]
      congr 1
      funext st
      unfold stepO; rw [step_sim hf]
    · exact .nil
    · exact .inl rfl
  · by_cases hb : Txt.blk c = true
    · have hf := fin_sim h.ws h.cur (nd_not hc (blk_dig hb))
      refine ⟨?_, ?_, ?_, hl⟩ <;> rw [ea, eb] <;> unfold feed <;> rw [if_neg e10, if_neg e10, if_pos hb, if_pos hb]
      · exact h.o
      · exact hf
      · exact .inl rfl
    · refine ⟨?_, ?_, ?_, hl⟩ <;> rw [ea, eb] <;> unfold feed <;> rw [if_neg e10, if_neg e10, if_neg hb, if_neg hb]
      · exact h.o
      · exact h.ws
      · simp only
        rcases h.cur with e | ⟨k, e, ⟨he, d, hd1, hd2⟩ | ⟨d, r, hd1, hd2⟩⟩
        · exact .inl (by rw [e])
        · rw [hc] at hd1; cases hd1
          exact .inr ⟨k, by rw [e, he]; simp, .inr ⟨c, [], by rw [he]; rfl, hd2⟩⟩
        · exact .inr ⟨k, by rw [e]; simp, .inr ⟨d, r ++ [c], by rw [hd1]; rfl, hd2⟩⟩
/-- blanks, then noughts -/
theorem fold_blanks (b : List UInt8) : ∀ (p : PS), (∀ c ∈ b, Txt.blk c = true ∧ c ≠ 10) → b ≠ [] → fold p b = ⟨p.o, p.ws ++ fin p.cur, []⟩ := by
  induction b with
  | nil => intro p _ h; exact absurd rfl h
  | cons c b ih =>
    intro p h _
    have hc := h c (by simp)
    show fold (feed p c) b = _
    unfold feed
    rw [if_neg hc.2, if_pos hc.1]
    by_cases hb : b = []
    · subst hb; rfl
    · rw [ih _ (fun d hd => h d (by simp [hd])) hb]; simp [fin]
theorem fold_zs (k : Nat) : ∀ (p : PS), fold p (zs k) = ⟨p.o, p.ws, p.cur ++ zs k⟩ := by
  induction k with
  | zero => intro p; unfold zs fold; simp
  | succ k ih =>
    intro p
    unfold zs; rw [List.replicate_succ]
    show fold (feed p 48) (zs k) = _
    unfold feed
    rw [if_neg (by decide), if_neg (by decide), ih]
    unfold zs; simp
theorem sim_blank {s t b : List UInt8} {j k : Nat} (h : Sim s j t) (hc : s[j]? = some 32) (hb : ∀ c ∈ b, Txt.blk c = true ∧ c ≠ 10) (hne : b ≠ []) (hk : k = 0 ∨ ndg s (j + 1)) : Sim s (j + 1) (t ++ (b ++ zs k)) := by
  have hf := fin_sim h.ws h.cur (nd_not hc rfl)
  have ea : fold p0 (s.take (j + 1)) = feed (fold p0 (s.take j)) 32 := by rw [take_on1 hc, fold_append]; rfl
  have ea2 : feed (fold p0 (s.take j)) 32 = ⟨(fold p0 (s.take j)).o, (fold p0 (s.take j)).ws ++ fin (fold p0 (s.take j)).cur, []⟩ := by unfold feed; rw [if_neg (by decide), if_pos (show Txt.blk 32 = true from rfl)]
  have eb : fold p0 (t ++ (b ++ zs k)) = ⟨(fold p0 t).o, (fold p0 t).ws ++ fin (fold p0 t).cur, zs k⟩ := by
    rw [fold_append, fold_append, fold_blanks b _ hb hne, fold_zs]; rfl
  refine ⟨by rw [ea, ea2, eb]; exact h.o, by rw [ea, ea2, eb]; exact hf, ?_, .inr (by rw [take_on1 hc]; simp)⟩
  rw [ea, ea2, eb]
  rcases hk with rfl | hk
  · exact .inl rfl
  · exact .inr ⟨k, by simp, .inl ⟨rfl, hk⟩⟩
def noteT : List UInt8 := [99, 32, 112, 32, 109, 97, 120, 32, 57, 32, 57, 10, 9, 10]
theorem fold_note (o : Option St) : fold ⟨o, [], []⟩ noteT = ⟨o, [], []⟩ := by
  have e : noteT = ends [[99, 32, 112, 32, 109, 97, 120, 32, 57, 32, 57], [9]] := by decide
  have h10 : ∀ y ∈ [[99, 32, 112, 32, 109, 97, 120, 32, 57, 32, 57], [(9 : UInt8)]], ∀ c ∈ y, c ≠ 10 := by decide
  rcases o with _ | st
  · rw [e, fold_none _ h10]
  · rw [e, fold_ends _ st h10]
    congr 1
theorem fed10 {p : PS} : (feed p 10).ws = [] ∧ (feed p 10).cur = [] := by unfold feed; rw [if_pos rfl]; exact ⟨rfl, rfl⟩
theorem sim_note {s t : List UInt8} {j : Nat} (h : Sim s j t) (hc : s[j]? = some 10) : Sim s (j + 1) (t ++ [10] ++ noteT) := by
  have h1 := sim_copy h hc
  have eb : fold p0 (t ++ [10]) = feed (fold p0 t) 10 := by rw [fold_append]; rfl
  have e2 : fold p0 (t ++ [10] ++ noteT) = fold p0 (t ++ [10]) := by
    rw [fold_append _ (t ++ [10]), eb]
    have : feed (fold p0 t) 10 = ⟨(feed (fold p0 t) 10).o, [], []⟩ := by
      have := fed10 (p := fold p0 t)
      generalize feed (fold p0 t) 10 = q at *
      obtain ⟨o, ws, cur⟩ := q
      simp only at this
      rw [this.1, this.2]
    rw [this, fold_note]
  exact ⟨by rw [e2]; exact h1.o, by rw [e2]; exact h1.ws, by rw [e2]; exact h1.cur, .inl (by unfold noteT; simp)⟩
theorem sim_end {M : Ne.Net} (h : Fine M) {t : List UInt8} (hs : Sim (printT M) (printT M).length t) : parseE t = 0 ∧ parseI t = 0 ∧ parseN t = M := by
  have hp : fold p0 (printT M) = ⟨some ⟨M.n, M.s, M.t, M.l.length, capsum M.l, M.l⟩, [], []⟩ := by
    rw [printT_ends]; unfold p0; rw [fold_ends _ st0 (linesT_no10 M), runs_lines h]
  have ho := hs.o
  rw [List.take_length, hp] at ho
  have hlp : (printT M).getLast? = some 10 := by
    rw [printT_ends]
    have hne : linesT M ≠ [] := by unfold linesT headL; simp
    obtain ⟨a, b, e⟩ : ∃ a b, linesT M = a ++ [b] := ⟨_, _, (List.dropLast_concat_getLast hne).symm⟩
    rw [e, Txt.ends_snoc]; simp
  have hl : t.getLast? = some 10 := by
    rcases hs.last with g | g
    · exact g
    · rw [List.take_length] at g; exact absurd hlp g
  have hb := lin_back hl
  have hr : runs st0 (lin [] t) = some ⟨M.n, M.s, M.t, M.l.length, capsum M.l, M.l⟩ := by
    have := fold_ends (lin [] t) st0 (lin_no10 t [] (by simp))
    rw [hb] at this
    have e : (fold p0 t).o = runs st0 (lin [] t) := by unfold p0; rw [this]
    rw [← e]; exact ho
  obtain ⟨h1, h2, h3⟩ := parse_lines (s := t) (X := lin [] t) rfl
  have hx := runL_app (lin [] t) [] 0 st0 _ hr
  rw [List.append_nil] at hx
  have e : endE ⟨M.n, M.s, M.t, M.l.length, capsum M.l, M.l⟩ = 0 := by
    have := fine_st h
    unfold endE; rw [if_neg (by simp only; omega), if_neg (by simp)]
  rw [show ∀ i st, runL i st [] = if endE st = 0 then (0, 0, st) else (endE st, i + 1, st) from fun _ _ => rfl, if_pos e] at hx
  rw [hx] at h1 h2 h3
  exact ⟨h1, h2, h3⟩
/-- a blank is not the last byte -/
theorem print_next {M : Ne.Net} {j : Nat} (h : (printT M)[j]? = some 32) : j + 1 < (printT M).length := by
  have hj := (List.getElem?_eq_some_iff.1 h).1
  rcases Nat.lt_or_ge (j + 1) (printT M).length with g | g
  · exact g
  · exfalso
    have hlp : (printT M).getLast? = some 10 := by
      rw [printT_ends]
      have hne : linesT M ≠ [] := by unfold linesT headL; simp
      obtain ⟨a, b, e⟩ : ∃ a b, linesT M = a ++ [b] := ⟨_, _, (List.dropLast_concat_getLast hne).symm⟩
      rw [e, Txt.ends_snoc]; simp
    rw [List.getLast?_eq_getElem?, show (printT M).length - 1 = j by omega, h] at hlp
    exact absurd (Option.some.inj hlp) (by decide)
def kindsL : List (List UInt8) := [[32], [9], [32, 32], [32, 13, 32], [9, 9, 32, 48], [32, 48, 48]]
theorem kinds_few {q : Nat} (h : q < 4) {b : List UInt8} (hb : kindsL[q]? = some b) : (∀ c ∈ b, Txt.blk c = true ∧ c ≠ 10) ∧ b ≠ [] ∧ b.length ≤ 4 := by
  match q, h, hb with
  | 0, _, hb => simp [kindsL] at hb; subst hb; decide
  | 1, _, hb => simp [kindsL] at hb; subst hb; decide
  | 2, _, hb => simp [kindsL] at hb; subst hb; decide
  | 3, _, hb => simp [kindsL] at hb; subst hb; decide
theorem kinds_all {q : Nat} (h : q < 6) {b : List UInt8} (hb : kindsL[q]? = some b) : ∃ a k, b = a ++ zs k ∧ (∀ c ∈ a, Txt.blk c = true ∧ c ≠ 10) ∧ a ≠ [] ∧ b.length ≤ 4 := by
  match q, h, hb with
  | 0, _, hb => simp [kindsL] at hb; subst hb; exact ⟨[32], 0, by decide, by decide, by decide, by decide⟩
  | 1, _, hb => simp [kindsL] at hb; subst hb; exact ⟨[9], 0, by decide, by decide, by decide, by decide⟩
  | 2, _, hb => simp [kindsL] at hb; subst hb; exact ⟨[32, 32], 0, by decide, by decide, by decide, by decide⟩
  | 3, _, hb => simp [kindsL] at hb; subst hb; exact ⟨[32, 13, 32], 0, by decide, by decide, by decide, by decide⟩
  | 4, _, hb => simp [kindsL] at hb; subst hb; exact ⟨[9, 9, 32], 1, by decide, by decide, by decide, by decide⟩
  | 5, _, hb => simp [kindsL] at hb; subst hb; exact ⟨[32], 2, by decide, by decide, by decide, by decide⟩
end Dm
end Go.Proofs.YtaepoddmonijkaaDoor
