/-
  Stage 10: plain facts of chains, stars, and trees of lesser numbers. No condition.
-/
import Derived.Test.YtjhodnpmogkmmaaFlp
namespace Go.Proofs.Ytjhodnpmogkmmaa
set_option linter.unusedVariables false
set_option linter.unusedSimpArgs false
namespace Fo
/-- each of the first nodes below the next one -/
def chF (n i : Nat) : Ft := ⟨List.replicate n 0, fun x => if x < i then some (x + 1) else none⟩
theorem chF_len (n i : Nat) : (chF n i).v.length = n := by simp [chF]
theorem chF_0 (n : Nat) : newS (List.replicate n 0) = chF n 0 := ft_ext rfl fun x => by simp [newS, chF]
section
variable {n i k : Nat}
theorem ch_path (h : Good (chF n i)) (hi : i < n) : ∀ d x, x + d = i → path (chF n i) x = (List.range (d + 1)).map fun j => i - j := by
  intro d
  induction d with
  | zero =>
    intro x hx
    have hx' : x = i := by omega
    subst hx'
    rw [h.path_top (by rw [chF_len]; exact hi) (by simp [chF])]
    simp [List.range_succ]
  | succ d ih =>
    intro x hx
    rw [h.path_step (u := x + 1) (by rw [chF_len]; omega) (by simp [chF]; omega), ih (x + 1) (by omega), List.range_succ (n := d + 1), List.map_append]
    congr 1
    simp; omega
theorem ch_link (h : Good (chF n i)) (hi : i + 1 < n) : linkE (chF n i) (i : Int) ((i + 1 : Nat) : Int) = 0 ∧ linkS (chF n i) (i : Int) ((i + 1 : Nat) : Int) = chF n (i + 1) := by
  have hu : (chF n i).up i = none := by simp [chF]
  have hr : root (chF n i) (i + 1) = some (i + 1) := h.root_top (by rw [chF_len]; omega) (by simp [chF])
  rcases linkE_cases h (x := i) (y := i + 1) (by rw [chF_len]; omega) (by rw [chF_len]; omega) with ⟨e1, e2, e3, e4⟩ | ⟨e1, e2, e4⟩ | ⟨e1, e2, e3, e4⟩
  · refine ⟨e1, ?_⟩
    rw [e4]
    refine ft_ext rfl fun x => ?_
    show (if x = i then some (i + 1) else if x < i then some (x + 1) else none) = if x < i + 1 then some (x + 1) else none
    by_cases c : x = i
    · subst c; simp
    · rw [if_neg c]
      by_cases c2 : x < i
      · rw [if_pos c2, if_pos (by omega)]
      · rw [if_neg c2, if_neg (by omega)]
  · rw [hu] at e2; cases e2
  · rw [hr] at e3; simp at e3
theorem ch_same (h : Good (chF n (i + 1))) (hi : i + 1 < n) : linkE (chF n (i + 1)) ((i + 1 : Nat) : Int) (i : Int) = 5 ∧ linkS (chF n (i + 1)) ((i + 1 : Nat) : Int) (i : Int) = chF n (i + 1) := by
  have hu : (chF n (i + 1)).up (i + 1) = none := by simp [chF]
  have hr : root (chF n (i + 1)) i = some (i + 1) := by
    rw [h.root_step (u := i + 1) (by rw [chF_len]; omega) (by simp [chF])]
    exact h.root_top (by rw [chF_len]; omega) hu
  rcases linkE_cases h (x := i + 1) (y := i) (by rw [chF_len]; omega) (by rw [chF_len]; omega) with ⟨e1, e2, e3, e4⟩ | ⟨e1, e2, e4⟩ | ⟨e1, e2, e3, e4⟩
  · exact absurd hr e3
  · rw [hu] at e2; cases e2
  · exact ⟨e1, e4⟩
/-- a chain rooted anew -/
def chE (n k : Nat) : Ft := ⟨List.replicate n 0, fun x => if x < k then some (x + 1) else if k < x ∧ x < n then some (x - 1) else none⟩
theorem chE_len (n k : Nat) : (chE n k).v.length = n := by simp [chE]
theorem ch_evert (h : Good (chF n (n - 1))) (hk : k < n) : evertE (chF n (n - 1)) (k : Int) = 0 ∧ evertS (chF n (n - 1)) (k : Int) = chE n k := by
  have hkl : k < (chF n (n - 1)).v.length := by rw [chF_len]; exact hk
  refine ⟨by unfold evertE; rw [if_neg (by simp [there_nat hkl])], ?_⟩
  unfold evertS
  rw [if_pos (there_nat hkl), Int.toNat_natCast]
  have hp := ch_path h (by omega) (n - 1 - k) k (by omega)
  have hn := h.path_nodup k
  refine ft_ext rfl fun x => ?_
  show (if x ∈ path (chF n (n - 1)) k then nextL (path (chF n (n - 1)) k) x else if x < n - 1 then some (x + 1) else none) = if x < k then some (x + 1) else if k < x ∧ x < n then some (x - 1) else none
  have hmem : x ∈ path (chF n (n - 1)) k ↔ k ≤ x ∧ x < n := by
    rw [hp]
    simp only [List.mem_map, List.mem_range]
    constructor
    · rintro ⟨j, h1, h2⟩; omega
    · intro c; exact ⟨n - 1 - x, by omega, by omega⟩
  by_cases c : k ≤ x ∧ x < n
  · rw [if_pos (hmem.2 c), if_neg (by omega)]
    by_cases c2 : k < x
    · rw [if_pos ⟨c2, c.2⟩]
      have h1 : (path (chF n (n - 1)) k)[n - 1 - x]? = some x := by
        rw [hp, List.getElem?_map, List.getElem?_range (by omega)]
        simp; omega
      have h2 : (path (chF n (n - 1)) k)[n - 1 - x + 1]? = some (x - 1) := by
        rw [hp, List.getElem?_map, List.getElem?_range (by omega)]
        simp; omega
      obtain ⟨A, C, e⟩ := idx_split h1 h2
      rw [e] at hn ⊢
      exact nextL_app hn
    · have hxk : x = k := by omega
      rw [if_neg (fun d => c2 d.1)]
      subst hxk
      have h1 := path_last h hkl (M := n - 1 - x) (by rw [hp]; simp)
      have e : path (chF n (n - 1)) x = (path (chF n (n - 1)) x).take (n - 1 - x) ++ [x] := by
        have := List.take_add_one (l := path (chF n (n - 1)) x) (i := n - 1 - x)
        rw [h1, List.take_of_length_le (by rw [hp]; simp)] at this
        exact this
      rw [e] at hn ⊢
      exact nextL_last hn
  · rw [if_neg (fun d => c (hmem.1 d))]
    by_cases c2 : x < k
    · rw [if_pos (by omega), if_pos c2]
    · rw [if_neg (by omega), if_neg c2, if_neg (by omega)]
theorem che_lo (h : Good (chE n k)) (hk : k < n) : ∀ d x, x + d = k → (path (chE n k) x).length = d + 1 ∧ root (chE n k) x = some k := by
  intro d
  induction d with
  | zero =>
    intro x hx
    have hx' : x = k := by omega
    subst hx'
    have hu : (chE n x).up x = none := by simp [chE]
    have hl : x < (chE n x).v.length := by rw [chE_len]; exact hk
    exact ⟨by rw [h.path_top hl hu]; rfl, h.root_top hl hu⟩
  | succ d ih =>
    intro x hx
    have hu : (chE n k).up x = some (x + 1) := by simp [chE]; omega
    have hl : x < (chE n k).v.length := by rw [chE_len]; omega
    obtain ⟨g1, g2⟩ := ih (x + 1) (by omega)
    exact ⟨by rw [h.path_step hl hu]; simp [g1], by rw [h.root_step hl hu]; exact g2⟩
theorem che_hi (h : Good (chE n k)) (hk : k < n) : ∀ d x, x = k + d → x < n → (path (chE n k) x).length = d + 1 ∧ root (chE n k) x = some k := by
  intro d
  induction d with
  | zero => intro x hx hn; exact che_lo h hk 0 x (by omega)
  | succ d ih =>
    intro x hx hn
    have hu : (chE n k).up x = some (x - 1) := by
      show (if x < k then some (x + 1) else if k < x ∧ x < n then some (x - 1) else none) = _
      rw [if_neg (by omega), if_pos (by omega)]
    have hl : x < (chE n k).v.length := by rw [chE_len]; omega
    obtain ⟨g1, g2⟩ := ih (x - 1) (by omega) (by omega)
    exact ⟨by rw [h.path_step hl hu]; simp [g1], by rw [h.root_step hl hu]; exact g2⟩
/-- what is told of a chain rooted anew -/
theorem che_says (h : Good (chE n k)) (hk : k < n) {x : Nat} (hx : x < n) : rootZ (chE n k) (x : Int) = (k : Int) ∧
    ((x < k ∧ aboveZ (chE n k) (x : Int) = ((x + 1 : Nat) : Int) ∧ (path (chE n k) x).length = k - x + 1) ∨ (x = k ∧ aboveZ (chE n k) (x : Int) = -1 ∧ (path (chE n k) x).length = 1) ∨ (k < x ∧ aboveZ (chE n k) (x : Int) = ((x - 1 : Nat) : Int) ∧ (path (chE n k) x).length = x - k + 1)) := by
  have hl : x < (chE n k).v.length := by rw [chE_len]; exact hx
  rcases Nat.lt_trichotomy x k with c | c | c
  · obtain ⟨g1, g2⟩ := che_lo h hk (k - x) x (by omega)
    exact ⟨rootZ_root g2, .inl ⟨c, by rw [aboveZ_nat hl, show (chE n k).up x = some (x + 1) by simp [chE]; omega]; rfl, g1⟩⟩
  · subst c
    obtain ⟨g1, g2⟩ := che_lo h hk 0 x (by omega)
    exact ⟨rootZ_root g2, .inr (.inl ⟨rfl, by rw [aboveZ_nat hl, show (chE n x).up x = none by simp [chE]]; rfl, g1⟩)⟩
  · obtain ⟨g1, g2⟩ := che_hi h hk (x - k) x (by omega) hx
    refine ⟨rootZ_root g2, .inr (.inr ⟨c, ?_, g1⟩)⟩
    have hu : (chE n k).up x = some (x - 1) := by
      show (if x < k then some (x + 1) else if k < x ∧ x < n then some (x - 1) else none) = _
      rw [if_neg (by omega), if_pos (by omega)]
    rw [aboveZ_nat hl, hu]; rfl
/-- so many nodes below the first one -/
def stF (n i : Nat) : Ft := ⟨List.replicate n 0, fun x => if 1 ≤ x ∧ x < i then some 0 else none⟩
theorem stF_len (n i : Nat) : (stF n i).v.length = n := by simp [stF]
theorem stF_1 (n : Nat) : newS (List.replicate n 0) = stF n 1 := ft_ext rfl fun x => by
  show none = if 1 ≤ x ∧ x < 1 then some 0 else none
  rw [if_neg (by omega)]
theorem st_link (h : Good (stF n i)) (h1 : 1 ≤ i) (hi : i < n) : linkE (stF n i) (i : Int) 0 = 0 ∧ linkS (stF n i) (i : Int) 0 = stF n (i + 1) := by
  have hu : (stF n i).up i = none := by simp [stF]
  have hr : root (stF n i) 0 = some 0 := h.root_top (by rw [stF_len]; omega) (by simp [stF])
  rcases linkE_cases h (x := i) (y := 0) (by rw [stF_len]; omega) (by rw [stF_len]; omega) with ⟨e1, e2, e3, e4⟩ | ⟨e1, e2, e4⟩ | ⟨e1, e2, e3, e4⟩
  · refine ⟨e1, ?_⟩
    have e4' : linkS (stF n i) (i : Int) 0 = linkF (stF n i) i 0 := e4
    rw [e4']
    refine ft_ext rfl fun x => ?_
    show (if x = i then some 0 else if 1 ≤ x ∧ x < i then some 0 else none) = if 1 ≤ x ∧ x < i + 1 then some 0 else none
    by_cases c : x = i
    · subst c; rw [if_pos rfl, if_pos (by omega)]
    · rw [if_neg c]
      by_cases c2 : 1 ≤ x ∧ x < i
      · rw [if_pos c2, if_pos (by omega)]
      · rw [if_neg c2, if_neg (by omega)]
  · rw [hu] at e2; cases e2
  · rw [hr] at e3; cases e3; omega
/-- rooted anew, and the first ones cut off -/
def stE (n k j : Nat) : Ft := ⟨List.replicate n 0, fun x => if x < j then none else if x = 0 then some k else if x = k ∨ n ≤ x then none else some 0⟩
theorem stE_len (n k j : Nat) : (stE n k j).v.length = n := by simp [stE]
theorem st_evert (h : Good (stF n n)) (h1 : 1 ≤ k) (hk : k < n) : evertE (stF n n) (k : Int) = 0 ∧ evertS (stF n n) (k : Int) = stE n k 0 := by
  have hkl : k < (stF n n).v.length := by rw [stF_len]; exact hk
  refine ⟨by unfold evertE; rw [if_neg (by simp [there_nat hkl])], ?_⟩
  unfold evertS
  rw [if_pos (there_nat hkl), Int.toNat_natCast]
  have hp : path (stF n n) k = [0, k] := by
    rw [h.path_step (u := 0) hkl (by simp [stF]; omega), h.path_top (by rw [stF_len]; omega) (by simp [stF])]
    rfl
  refine ft_ext rfl fun x => ?_
  show (if x ∈ path (stF n n) k then nextL (path (stF n n) k) x else if 1 ≤ x ∧ x < n then some 0 else none) = if x < 0 then none else if x = 0 then some k else if x = k ∨ n ≤ x then none else some 0
  rw [hp, if_neg (show ¬ x < 0 by omega)]
  by_cases c : x = 0
  · subst c; simp [nextL]
  · by_cases c2 : x = k
    · subst c2; simp [nextL, c]
    · rw [if_neg (by simp [c, c2]), if_neg c]
      by_cases c3 : n ≤ x
      · rw [if_neg (by omega), if_pos (.inr c3)]
      · rw [if_pos (by omega), if_neg (by omega)]
theorem ste_says (h : Good (stE n k 0)) (h1 : 1 ≤ k) (hk : k < n) : aboveZ (stE n k 0) 0 = (k : Int) ∧ aboveZ (stE n k 0) (k : Int) = -1 ∧ rootZ (stE n k 0) (k : Int) = (k : Int) ∧
    ∀ x, 1 ≤ x → x < n → x ≠ k → aboveZ (stE n k 0) (x : Int) = 0 ∧ path (stE n k 0) x = [k, 0, x] ∧ rootZ (stE n k 0) (x : Int) = (k : Int) := by
  have hl : ∀ x, x < n → x < (stE n k 0).v.length := fun x hx => by rw [stE_len]; exact hx
  have hu0 : (stE n k 0).up 0 = some k := by simp [stE]
  have huk : (stE n k 0).up k = none := by simp [stE]; omega
  have hux : ∀ x, 1 ≤ x → x < n → x ≠ k → (stE n k 0).up x = some 0 := fun x a b c => by
    show (if x < 0 then none else if x = 0 then some k else if x = k ∨ n ≤ x then none else some 0) = _
    rw [if_neg (by omega), if_neg (by omega), if_neg (by omega)]
  have hpk := h.path_top (hl k hk) huk
  have hp0 := h.path_step (hl 0 (by omega)) hu0
  refine ⟨?_, ?_, rootZ_root (h.root_top (hl k hk) huk), fun x a b c => ⟨?_, ?_, ?_⟩⟩
  · have := aboveZ_nat (hl 0 (by omega))
    rw [hu0] at this
    exact this
  · rw [aboveZ_nat (hl k hk), huk]; rfl
  · rw [aboveZ_nat (hl x b), hux x a b c]; rfl
  · rw [h.path_step (hl x b) (hux x a b c), hp0, hpk]; rfl
  · refine rootZ_root ?_
    unfold root
    rw [h.path_step (hl x b) (hux x a b c), hp0, hpk]; rfl
theorem ste_cut {j : Nat} (h : Good (stE n k j)) (h1 : 1 ≤ k) (hk : k < n) (hj : j < n) : cutE (stE n k j) (j : Int) = (if j = k then 9 else 0) ∧ cutS (stE n k j) (j : Int) = stE n k (j + 1) := by
  have hl : j < (stE n k j).v.length := by rw [stE_len]; exact hj
  have hup : (stE n k j).up j = if j = 0 then some k else if j = k then none else some 0 := by
    show (if j < j then none else if j = 0 then some k else if j = k ∨ n ≤ j then none else some 0) = _
    rw [if_neg (by omega)]
    by_cases c : j = 0
    · rw [if_pos c, if_pos c]
    · rw [if_neg c, if_neg c]
      by_cases c2 : j = k
      · rw [if_pos (.inl c2), if_pos c2]
      · rw [if_neg (by omega), if_neg c2]
  have hE : cutE (stE n k j) (j : Int) = if j = k then 9 else 0 := by
    unfold cutE
    rw [if_neg (by simp [there_nat hl]), Int.toNat_natCast, hup]
    by_cases c2 : j = k
    · have c3 : j ≠ 0 := by omega
      simp [c2]
      omega
    · by_cases c3 : j = 0
      · simp [c3]; omega
      · simp [c2, c3]
  refine ⟨hE, ?_⟩
  unfold cutS
  rw [hE, Int.toNat_natCast]
  have key : ∀ x, (if x = j then none else (stE n k j).up x) = (stE n k (j + 1)).up x := fun x => by
    show (if x = j then none else if x < j then none else if x = 0 then some k else if x = k ∨ n ≤ x then none else some 0) = if x < j + 1 then none else if x = 0 then some k else if x = k ∨ n ≤ x then none else some 0
    by_cases c : x = j
    · rw [if_pos c, if_pos (by omega)]
    · rw [if_neg c]
      by_cases c2 : x < j
      · rw [if_pos c2, if_pos (show x < j + 1 by omega)]
      · rw [if_neg c2, if_neg (show ¬ x < j + 1 by omega)]
  by_cases c : j = k
  · rw [if_pos c, if_neg (by decide)]
    refine ft_ext rfl fun x => ?_
    rw [← key x]
    by_cases c2 : x = j
    · rw [if_pos c2, c2, hup, if_neg (show ¬ j = 0 by omega), if_pos c]
    · rw [if_neg c2]
  · rw [if_neg c, if_pos rfl]
    exact ft_ext rfl fun x => key x
theorem ste_root {j : Nat} (h : Good (stE n k (j + 1))) (hj : j < n) : rootZ (stE n k (j + 1)) (j : Int) = (j : Int) := by
  have hl : j < (stE n k (j + 1)).v.length := by rw [stE_len]; exact hj
  exact rootZ_root (h.root_top hl (by simp [stE]))
theorem ste_last (h : Good (stE n k n)) (h1 : 1 ≤ k) (hk : k < n) : linkE (stE n k n) 0 (k : Int) = 0 := by
  have hu : ∀ x, x < n → (stE n k n).up x = none := fun x hx => by simp [stE, hx]
  have hr : root (stE n k n) k = some k := h.root_top (by rw [stE_len]; exact hk) (hu k hk)
  rcases linkE_cases h (x := 0) (y := k) (by rw [stE_len]; omega) (by rw [stE_len]; exact hk) with ⟨e1, _⟩ | ⟨e1, e2, _⟩ | ⟨e1, e2, e3, _⟩
  · exact e1
  · rw [hu 0 (by omega)] at e2; cases e2
  · rw [hr] at e3; cases e3; omega
/-- nodes below lesser ones -/
def ctF (n : Nat) (u : Nat → Nat) (i : Nat) : Ft := ⟨List.replicate n 0, fun x => if 1 ≤ x ∧ x < i then some (u x) else none⟩
theorem ctF_len (n : Nat) (u : Nat → Nat) (i : Nat) : (ctF n u i).v.length = n := by simp [ctF]
theorem ctF_1 (n : Nat) (u : Nat → Nat) : newS (List.replicate n 0) = ctF n u 1 := ft_ext rfl fun x => by
  show none = if 1 ≤ x ∧ x < 1 then some (u x) else none
  rw [if_neg (by omega)]
theorem ct_root {u : Nat → Nat} (hu : ∀ x, 1 ≤ x → u x < x) (h : Good (ctF n u i)) (hi : i ≤ n) : ∀ x, x < i ∨ x = 0 → x < n → root (ctF n u i) x = some 0 := by
  intro x
  induction x using Nat.strongRecOn with
  | ind x ih =>
    intro hx hn
    have hl : x < (ctF n u i).v.length := by rw [ctF_len]; exact hn
    by_cases c : x = 0
    · subst c; exact h.root_top hl (by simp [ctF])
    · have hux := hu x (by omega)
      rw [h.root_step (u := u x) hl (by simp [ctF]; omega)]
      exact ih (u x) hux (.inl (by omega)) (by omega)
theorem ct_link {u : Nat → Nat} (hu : ∀ x, 1 ≤ x → u x < x) (h : Good (ctF n u i)) (h1 : 1 ≤ i) (hi : i < n) : linkE (ctF n u i) (i : Int) (u i : Int) = 0 ∧ linkS (ctF n u i) (i : Int) (u i : Int) = ctF n u (i + 1) := by
  have hui := hu i h1
  have hup : (ctF n u i).up i = none := by simp [ctF]
  have hr := ct_root hu h (by omega) (u i) (.inl hui) (by omega)
  rcases linkE_cases h (x := i) (y := u i) (by rw [ctF_len]; exact hi) (by rw [ctF_len]; omega) with ⟨e1, e2, e3, e4⟩ | ⟨e1, e2, e4⟩ | ⟨e1, e2, e3, e4⟩
  · refine ⟨e1, ?_⟩
    rw [e4]
    refine ft_ext rfl fun x => ?_
    show (if x = i then some (u i) else if 1 ≤ x ∧ x < i then some (u x) else none) = if 1 ≤ x ∧ x < i + 1 then some (u x) else none
    by_cases c : x = i
    · subst c; rw [if_pos rfl, if_pos (by omega)]
    · rw [if_neg c]
      by_cases c2 : 1 ≤ x ∧ x < i
      · rw [if_pos c2, if_pos (by omega)]
      · rw [if_neg c2, if_neg (by omega)]
  · rw [hup] at e2; cases e2
  · rw [hr] at e3; cases e3; omega
/-- one cut off -/
def ctC (n : Nat) (u : Nat → Nat) (k : Nat) : Ft := cutF (ctF n u n) k
theorem ctC_len (n : Nat) (u : Nat → Nat) (k : Nat) : (ctC n u k).v.length = n := by simp [ctC, cutF, ctF]
theorem ct_cut {u : Nat → Nat} (hu : ∀ x, 1 ≤ x → u x < x) (h1 : 1 ≤ k) (hk : k < n) : cutE (ctF n u n) (k : Int) = 0 ∧ cutS (ctF n u n) (k : Int) = ctC n u k := by
  have hl : k < (ctF n u n).v.length := by rw [ctF_len]; exact hk
  have hup : (ctF n u n).up k = some (u k) := by simp [ctF]; omega
  have hE : cutE (ctF n u n) (k : Int) = 0 := by unfold cutE; rw [if_neg (by simp [there_nat hl]), Int.toNat_natCast, if_neg (by rw [hup]; simp)]
  exact ⟨hE, by unfold cutS; rw [hE, if_pos rfl, Int.toNat_natCast]; rfl⟩
/-- is it below the one that was cut off? -/
def belB (n : Nat) (u : Nat → Nat) (k x : Nat) : Bool := decide (root (ctC n u k) x = some k)
theorem ct_up {u : Nat → Nat} {x : Nat} (h1 : 1 ≤ x) (hx : x < n) (hk : x ≠ k) : (ctC n u k).up x = some (u x) := by
  show (if x = k then none else if 1 ≤ x ∧ x < n then some (u x) else none) = _
  rw [if_neg hk, if_pos ⟨h1, hx⟩]
theorem ct_none {u : Nat → Nat} : (ctC n u k).up k = none ∧ (ctC n u k).up 0 = none := by
  constructor
  · show (if k = k then none else _) = none
    rw [if_pos rfl]
  · show (if 0 = k then none else if 1 ≤ 0 ∧ 0 < n then some (u 0) else none) = none
    split
    · rfl
    · rfl
theorem ct_says {u : Nat → Nat} (hu : ∀ x, 1 ≤ x → u x < x) (h : Good (ctC n u k)) (h1 : 1 ≤ k) (hk : k < n) :
    belB n u k k = true ∧ belB n u k 0 = false ∧ (∀ x, 1 ≤ x → x < n → x ≠ k → belB n u k x = belB n u k (u x) ∧ aboveZ (ctC n u k) (x : Int) = (u x : Int)) ∧
    (∀ x, x < n → rootZ (ctC n u k) (x : Int) = if belB n u k x = true then (k : Int) else 0) ∧ cutE (ctC n u k) (k : Int) = 9 ∧ cutE (ctC n u k) 0 = 9 := by
  have hl : ∀ x, x < n → x < (ctC n u k).v.length := fun x hx => by rw [ctC_len]; exact hx
  obtain ⟨hnk, hn0⟩ := ct_none (n := n) (k := k) (u := u)
  have hrk := h.root_top (hl k hk) hnk
  have hr0 := h.root_top (hl 0 (by omega)) hn0
  have hcut : ∀ x, x < n → (ctC n u k).up x = none → cutE (ctC n u k) (x : Int) = 9 := fun x hx hn => by
    unfold cutE; rw [if_neg (by simp [there_nat (hl x hx)]), Int.toNat_natCast, if_pos hn]
  refine ⟨by simp [belB, hrk], by simp [belB, hr0]; omega, fun x a b c => ⟨?_, by rw [aboveZ_nat (hl x b), ct_up a b c]; rfl⟩, ?_, hcut k hk hnk, hcut 0 (by omega) hn0⟩
  · unfold belB
    rw [h.root_step (hl x b) (ct_up a b c)]
  · have : ∀ x, x < n → root (ctC n u k) x = some k ∨ root (ctC n u k) x = some 0 := by
      intro x
      induction x using Nat.strongRecOn with
      | ind x ih =>
        intro hx
        by_cases c : x = k
        · left; rw [c]; exact hrk
        · by_cases c2 : x = 0
          · right; rw [c2]; exact hr0
          · have hux := hu x (by omega)
            rw [h.root_step (hl x hx) (ct_up (by omega) hx c)]
            exact ih (u x) hux (by omega)
    intro x hx
    rcases this x hx with c | c
    · rw [if_pos (by simp [belB, c]), rootZ_root c]
    · rw [if_neg (by simp [belB, c]; omega), rootZ_root c]
      rfl
end
end Fo
end Go.Proofs.Ytjhodnpmogkmmaa
