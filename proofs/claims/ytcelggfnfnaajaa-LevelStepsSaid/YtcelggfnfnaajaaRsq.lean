/-
  Plain facts on what is pushed along a walk: a flow, worth as much more; back again; unit by unit; what it says of where one comes. No condition.
-/
import Derived.Test.YtcelggfnfnaajaaRtm
import Derived.Test.YtcelggfnfnaajaaWalkd
namespace Go.Proofs.Ytcelggfnfnaajaa
open Go.ChangeShapes Go.WideShapes Go.ChangeAt Go.RowKit
set_option linter.unusedVariables false
set_option linter.unusedSimpArgs false
namespace Ne
theorem put1_exc {l : List Arc} {f : List Int} {x : Int} {r : Nat} (hl : f.length = l.length) (hr : r < 2 * l.length) (v : Int) :
    exc l (put1 f x r) v = exc l f v + x * ((if trT l r = v then 1 else 0) - (if trF l r = v then 1 else 0)) := by
  unfold put1
  rw [exc_eq, exc_eq, excC_set (dl v) _ hl (by omega)]
  congr 1
  unfold dl trT trF
  by_cases c : r % 2 = 1
  · rw [if_pos c, if_pos c, if_pos c, show amt f (r / 2) - x - amt f (r / 2) = -x by omega]
    by_cases h1 : (arcAt l (r / 2)).to = v <;> by_cases h2 : (arcAt l (r / 2)).fr = v <;> simp [h1, h2]
  · rw [if_neg c, if_neg c, if_neg c, show amt f (r / 2) + x - amt f (r / 2) = x by omega, Int.mul_comm]
theorem pushN_step {l : List Arc} {f g : List Int} {x : Int} {W : List Int} {k r : Nat} (h : k < W.length) (hr : amt W k = (r : Int)) (hp : pushN l f x (W.take k) = some g) :
    pushN l f x (W.take (k + 1)) = if roomN l g r < x then none else some (put1 g x r) := by
  rw [pushN_take h, hp, hr]; rfl
/-- what stands behind k tracks -/
theorem push_facts {n : Net} (hR : Right n) {f : List Int} {x : Int} (hl : f.length = n.l.length) (hw : wi n.l f) (hx : 0 ≤ x) {W : List Int} : ∀ {k : Nat} {g : List Int} {u : Int}, k ≤ W.length →
    walkAt n.l n.s (W.take k) = some u → pushN n.l f x (W.take k) = some g → g.length = n.l.length ∧ wi n.l g ∧ ∀ v, exc n.l g v = exc n.l f v + x * ((if u = v then 1 else 0) - (if n.s = v then 1 else 0))
  | 0, g, u, _, h1, h2 => by
    simp [walkAt] at h1; simp [pushN] at h2; subst h1; subst h2
    exact ⟨hl, hw, fun v => by simp⟩
  | k + 1, g, u, hk, h1, h2 => by
    obtain ⟨_, _, h3⟩ := walkAt_pos hR hk h1
    obtain ⟨r, hr, hr2⟩ := h3 k (by omega)
    rcases e1 : walkAt n.l n.s (W.take k) with _ | u0
    · rw [walkAt_take (by omega), e1] at h1; cases h1
    rcases e2 : pushN n.l f x (W.take k) with _ | g0
    · rw [pushN_take (by omega), e2] at h2; cases h2
    obtain ⟨i1, i2, i3⟩ := push_facts hR hl hw hx (W := W) (k := k) (by omega) e1 e2
    rw [pushN_step (by omega) hr e2] at h2
    rw [walkAt_take (by omega), e1, hr] at h1
    unfold stW at h1
    rw [enF_in hr2, enT_in hr2] at h1
    by_cases c : trF n.l r = u0
    case neg => simp only [if_neg c] at h1; cases h1
    simp only [if_pos c] at h1
    by_cases d : roomN n.l g0 r < x
    · rw [if_pos d] at h2; cases h2
    rw [if_neg d] at h2
    cases h1; cases h2; cases c
    refine ⟨by rw [put1_len, i1], put1_wi i1 i2 hx hr2 (by omega), fun v => ?_⟩
    rw [put1_exc i1 hr2, i3 v, Int.add_assoc, ← Int.mul_add]
    congr 2; omega
theorem isWalk_at {n : Net} {W : List Int} (h : isWalk n W = true) : walkAt n.l n.s W = some n.t := by unfold isWalk at h; simpa using h
theorem isWalk_in {n : Net} (hR : Right n) {W : List Int} (h : isWalk n W = true) : ∀ i, i < W.length → ∃ r : Nat, amt W i = (r : Int) ∧ r < 2 * n.l.length :=
  (walkAt_pos hR (k := W.length) (Nat.le_refl _) (by rw [List.take_length]; exact isWalk_at h)).2.2
/-- what is pushed along a walk is a flow, worth as much more -/
theorem push_flow {n : Net} (hR : Right n) {f g : List Int} (hF : Flow n f) {x : Int} (hx : 0 ≤ x) {W : List Int} (hW : isWalk n W = true) (hp : pushN n.l f x W = some g) : Flow n g ∧ exc n.l g n.t = exc n.l f n.t + x := by
  obtain ⟨h1, h2, h3⟩ := push_facts hR hF.len hF.wi hx (W := W) (k := W.length) (Nat.le_refl _) (u := n.t) (g := g) (by rw [List.take_length]; exact isWalk_at hW) (by rw [List.take_length]; exact hp)
  have e1 := h3 n.t
  have e2 := h3 n.s
  rw [if_pos rfl, if_neg hR.ne] at e1
  rw [if_pos rfl, if_neg (Ne.symm hR.ne)] at e2
  have h4 := hF.ends
  have h5 := hF.val
  refine ⟨⟨h1, h2, fun v hs ht => ?_, by omega, by omega⟩, by omega⟩
  rw [h3 v, if_neg (Ne.symm ht), if_neg (Ne.symm hs), hF.calm v hs ht]; simp
theorem pushE_flow {n : Net} (ck : checkN n = 0) {f : List Int} (hF : Flow n f) {W : List Int} {x : Int} : pushE n f W x = if isWalk n W = false then 1 else if x < 1 then 3 else if (pushN n.l f x W).isNone then 9 else 0 := by
  unfold pushE; rw [if_neg (by simpa using flow_chkF ck hF)]
/-- where a walk is pushed along one comes -/
theorem push_rch {n : Net} (hR : Right n) {f : List Int} {x y : Int} (hl : f.length = n.l.length) (hxy : y ≤ x) {W : List Int} : ∀ {k : Nat} {g : List Int} {u : Int}, k ≤ W.length →
    walkAt n.l n.s (W.take k) = some u → pushN n.l f x (W.take k) = some g → g.length = n.l.length ∧ Rch n f y u ∧ ∀ i, amt g i ≠ amt f i → Rch n f y (arcAt n.l i).fr ∧ Rch n f y (arcAt n.l i).to
  | 0, g, u, _, h1, h2 => by
    simp [walkAt] at h1; simp [pushN] at h2; subst h1; subst h2
    exact ⟨hl, .base, fun i hi => absurd rfl hi⟩
  | k + 1, g, u, hk, h1, h2 => by
    obtain ⟨_, _, h3⟩ := walkAt_pos hR hk h1
    obtain ⟨r, hr, hr2⟩ := h3 k (by omega)
    rcases e1 : walkAt n.l n.s (W.take k) with _ | u0
    · rw [walkAt_take (by omega), e1] at h1; cases h1
    rcases e2 : pushN n.l f x (W.take k) with _ | g0
    · rw [pushN_take (by omega), e2] at h2; cases h2
    obtain ⟨i1, i2, i3⟩ := push_rch hR hl hxy (W := W) (k := k) (by omega) e1 e2
    rw [pushN_step (by omega) hr e2] at h2
    rw [walkAt_take (by omega), e1, hr] at h1
    unfold stW at h1
    rw [enF_in hr2, enT_in hr2] at h1
    by_cases c : trF n.l r = u0
    case neg => simp only [if_neg c] at h1; cases h1
    simp only [if_pos c] at h1
    by_cases d : roomN n.l g0 r < x
    · rw [if_pos d] at h2; cases h2
    rw [if_neg d] at h2
    cases h1; cases h2; cases c
    have both : Rch n f y (trT n.l r) := by
      by_cases e : amt g0 (r / 2) = amt f (r / 2)
      · refine .step hr2 ?_ i2
        have : roomN n.l f r = roomN n.l g0 r := by unfold roomN; rw [e]
        omega
      · have := i3 _ e
        unfold trT; split
        · exact this.1
        · exact this.2
    refine ⟨by rw [put1_len, i1], both, fun i hi => ?_⟩
    rw [put1_at (by omega)] at hi
    by_cases e : i = r / 2
    · subst e
      have h5 := i2
      unfold trF at h5
      have h6 := both
      unfold trT at h6
      by_cases c : r % 2 = 1
      · rw [if_pos c] at h5 h6; exact ⟨h6, h5⟩
      · rw [if_neg c] at h5 h6; exact ⟨h5, h6⟩
    · rw [if_neg e] at hi; exact i3 i hi
theorem push_sink {n : Net} (hR : Right n) {f g : List Int} {x y : Int} (hl : f.length = n.l.length) (hxy : y ≤ x) {W : List Int} (hW : isWalk n W = true) (hp : pushN n.l f x W = some g) : Rch n f y n.t :=
  (push_rch hR hl hxy (W := W) (k := W.length) (Nat.le_refl _) (u := n.t) (g := g) (by rw [List.take_length]; exact isWalk_at hW) (by rw [List.take_length]; exact hp)).2.1
theorem rch_less {n : Net} {f : List Int} {x y v : Int} (h : y ≤ x) (hv : Rch n f x v) : Rch n f y v := by
  induction hv with
  | base => exact .base
  | step hr hx _ ih => exact .step hr (by omega) ih
theorem rch_far {n : Net} {f : List Int} {x v : Int} (h : ∀ r, r < 2 * n.l.length → roomN n.l f r < x) (hv : Rch n f x v) : v = n.s := by
  cases hv with
  | base => rfl
  | step hr hx _ => have := h _ hr; omega
theorem rch_pred {n : Net} {f : List Int} {x v : Int} (hv : Rch n f x v) (hs : v ≠ n.s) : ∃ r : Nat, r < 2 * n.l.length ∧ x ≤ roomN n.l f r ∧ Rch n f x (trF n.l r) ∧ trT n.l r = v := by
  cases hv with
  | base => exact absurd rfl hs
  | @step r hr hx h => exact ⟨r, hr, hx, h, rfl⟩

/-- walks of tracks, as numbers that they are -/
theorem pushN_cons (l : List Arc) (f : List Int) (x : Int) (r : Nat) (R : List Nat) : pushN l f x (encW (r :: R)) = if roomN l f r < x then none else pushN l (put1 f x r) x (encW R) := by
  unfold pushN encW
  rw [List.map_cons, List.foldl_cons]
  show List.foldl (stP l x) (if roomN l f ((r : Int)).toNat < x then none else some (put1 f x ((r : Int)).toNat)) _ = _
  rw [Int.toNat_natCast]
  by_cases c : roomN l f r < x
  · rw [if_pos c, if_pos c, stP_none]
  · rw [if_neg c, if_neg c]
theorem walkAt_cons {l : List Arc} {s : Int} {r : Nat} {R : List Nat} (hr : r < 2 * l.length) : walkAt l s (encW (r :: R)) = if trF l r = s then walkAt l (trT l r) (encW R) else none := by
  unfold walkAt encW
  rw [List.map_cons, List.foldl_cons]
  show List.foldl (stW l) (if enF l (r : Int) = s then some (enT l (r : Int)) else none) _ = _
  rw [enF_in hr, enT_in hr]
  by_cases c : trF l r = s
  · rw [if_pos c, if_pos c]
  · rw [if_neg c, if_neg c, stW_none]
theorem room_put_far {l : List Arc} {f : List Int} {x : Int} {r q : Nat} (hf : r / 2 < f.length) (h : q / 2 ≠ r / 2) : roomN l (put1 f x r) q = roomN l f q := by
  unfold roomN; rw [put1_at hf, if_neg h]
theorem room_put_same {l : List Arc} {f : List Int} {x : Int} {r : Nat} (hf : r / 2 < f.length) : roomN l (put1 f x r) r = roomN l f r - x := by
  unfold roomN; rw [put1_at hf, if_pos rfl]
  by_cases c : r % 2 = 1
  · rw [if_pos c, if_pos c, if_pos c]
  · rw [if_neg c, if_neg c, if_neg c]; omega
theorem push_simple {l : List Arc} {x : Int} : ∀ {R : List Nat} {f : List Int}, f.length = l.length → (R.map (· / 2)).Nodup → (∀ r ∈ R, r < 2 * l.length) → ((pushN l f x (encW R)).isSome = true ↔ ∀ r ∈ R, x ≤ roomN l f r)
  | [], f, _, _, _ => by simp [pushN, encW]
  | r :: R, f, hl, hn, hr => by
    rw [List.map_cons] at hn
    obtain ⟨h1, h2⟩ := List.nodup_cons.1 hn
    have hr0 := hr r List.mem_cons_self
    rw [pushN_cons]
    by_cases c : roomN l f r < x
    · rw [if_pos c]
      refine ⟨fun h => by simp at h, fun h => ?_⟩
      have := h r List.mem_cons_self
      omega
    · rw [if_neg c, push_simple (by rw [put1_len, hl]) h2 fun q hq => hr q (List.mem_cons_of_mem _ hq)]
      have e : ∀ q ∈ R, roomN l (put1 f x r) q = roomN l f q := fun q hq => room_put_far (by omega) fun e => h1 (List.mem_map.2 ⟨q, hq, e⟩)
      refine ⟨fun h q hq => ?_, fun h q hq => ?_⟩
      · rcases List.mem_cons.1 hq with h3 | h3
        · subst h3; omega
        · rw [← e q h3]; exact h q h3
      · rw [e q hq]; exact h q (List.mem_cons_of_mem _ hq)
/-- how often a walk goes along an arc, less how often it goes back -/
def sgn (R : List Nat) (i : Nat) : Int := (R.map fun r => if r / 2 = i then (if r % 2 = 1 then (-1 : Int) else 1) else 0).sum
theorem push_sgn {l : List Arc} {x : Int} : ∀ {R : List Nat} {f g : List Int}, f.length = l.length → (∀ r ∈ R, r < 2 * l.length) → pushN l f x (encW R) = some g → g.length = l.length ∧ ∀ i, amt g i = amt f i + x * sgn R i
  | [], f, g, hl, _, h => by simp [pushN, encW] at h; subst h; exact ⟨hl, fun i => by simp [sgn]⟩
  | r :: R, f, g, hl, hr, h => by
    rw [pushN_cons] at h
    have hr0 := hr r List.mem_cons_self
    by_cases c : roomN l f r < x
    · rw [if_pos c] at h; cases h
    · rw [if_neg c] at h
      obtain ⟨h1, h2⟩ := push_sgn (by rw [put1_len, hl]) (fun q hq => hr q (List.mem_cons_of_mem _ hq)) h
      refine ⟨h1, fun i => ?_⟩
      have e : sgn (r :: R) i = (if r / 2 = i then (if r % 2 = 1 then (-1 : Int) else 1) else 0) + sgn R i := by simp [sgn]
      rw [h2 i, put1_at (by omega), e, Int.mul_add]
      by_cases d : i = r / 2
      · rw [if_pos d, if_pos d.symm]
        by_cases o : r % 2 = 1
        · rw [if_pos o, if_pos o]; omega
        · rw [if_neg o, if_neg o]; omega
      · rw [if_neg d, if_neg (Ne.symm d)]; omega
theorem sgn_notin {R : List Nat} {i : Nat} (h : i ∉ R.map (· / 2)) : sgn R i = 0 := by
  induction R with
  | nil => rfl
  | cons r R ih =>
    rw [List.map_cons, List.mem_cons, not_or] at h
    have e : sgn (r :: R) i = (if r / 2 = i then (if r % 2 = 1 then (-1 : Int) else 1) else 0) + sgn R i := by simp [sgn]
    rw [e, if_neg (Ne.symm h.1), ih h.2]; rfl
theorem sgn_in {R : List Nat} (hn : (R.map (· / 2)).Nodup) {r : Nat} (hr : r ∈ R) : sgn R (r / 2) = if r % 2 = 1 then -1 else 1 := by
  induction R with
  | nil => simp at hr
  | cons q R ih =>
    rw [List.map_cons] at hn
    obtain ⟨h1, h2⟩ := List.nodup_cons.1 hn
    have e : sgn (q :: R) (r / 2) = (if q / 2 = r / 2 then (if q % 2 = 1 then (-1 : Int) else 1) else 0) + sgn R (r / 2) := by simp [sgn]
    rw [e]
    rcases List.mem_cons.1 hr with h3 | h3
    · subst h3; rw [if_pos rfl, sgn_notin h1]; omega
    · rw [if_neg fun e => h1 (by rw [e]; exact List.mem_map.2 ⟨r, h3, rfl⟩), ih h2 h3]; omega
/-- the room behind, told by what has been led -/
theorem room_sgn {l : List Arc} {f g : List Int} {x : Int} {R : List Nat} (hn : (R.map (· / 2)).Nodup) (h : ∀ i, amt g i = amt f i + x * sgn R i) {r : Nat} (hr : r ∈ R) : roomN l g r = roomN l f r - x := by
  unfold roomN
  rw [h, sgn_in hn hr]
  by_cases c : r % 2 = 1
  · rw [if_pos c, if_pos c, if_pos c]; omega
  · rw [if_neg c, if_neg c, if_neg c]; omega
/-- back -/
def backR (R : List Nat) : List Nat := R.reverse.map opp
theorem encW_app (A B : List Nat) : encW (A ++ B) = encW A ++ encW B := by simp [encW]
theorem push_back {l : List Arc} {x : Int} (hx : 0 ≤ x) : ∀ {R : List Nat} {f g : List Int}, f.length = l.length → wi l f → (∀ r ∈ R, r < 2 * l.length) → pushN l f x (encW R) = some g → pushN l g x (encW (backR R)) = some f
  | [], f, g, _, _, _, h => by simp [pushN, encW] at h; subst h; simp [pushN, encW, backR]
  | r :: R, f, g, hl, hw, hr, h => by
    rw [pushN_cons] at h
    have hr0 := hr r List.mem_cons_self
    by_cases c : roomN l f r < x
    · rw [if_pos c] at h; cases h
    · rw [if_neg c] at h
      have ih := push_back hx (by rw [put1_len, hl]) (put1_wi hl hw hx hr0 (by omega)) (fun q hq => hr q (List.mem_cons_of_mem _ hq)) h
      have e : backR (r :: R) = backR R ++ [opp r] := by simp [backR]
      rw [e, encW_app, pushN_app, ih]
      have e2 : encW [opp r] = [((opp r : Nat) : Int)] := rfl
      rw [e2]
      show (if roomN l (put1 f x r) ((opp r : Nat) : Int).toNat < x then none else some (put1 (put1 f x r) x ((opp r : Nat) : Int).toNat)) = _
      rw [Int.toNat_natCast]
      have h1 := room_opp l (put1 f x r) r
      have h2 := room_put_same (l := l) (x := x) (show r / 2 < f.length by omega)
      have h3 := room_nn hw hr0
      rw [if_neg (by omega)]
      congr 1
      refine ext_amt (by rw [put1_len, put1_len]) fun i hi => ?_
      rw [put1_len, put1_len] at hi
      rw [put1_at (by rw [put1_len, opp_half]; omega), put1_at (by omega), opp_half, opp_odd]
      by_cases d : i = r / 2
      · rw [if_pos d, if_pos d]
        by_cases o : r % 2 = 1
        · rw [if_pos o, if_neg (by omega)]; omega
        · rw [if_neg o, if_pos (by omega)]; omega
      · rw [if_neg d, if_neg d]
theorem walk_back {l : List Arc} : ∀ {R : List Nat} {s u : Int}, (∀ r ∈ R, r < 2 * l.length) → walkAt l s (encW R) = some u → walkAt l u (encW (backR R)) = some s
  | [], s, u, _, h => by simp [walkAt, encW] at h; subst h; simp [walkAt, encW, backR]
  | r :: R, s, u, hr, h => by
    have hr0 := hr r List.mem_cons_self
    rw [walkAt_cons hr0] at h
    by_cases c : trF l r = s
    · rw [if_pos c] at h
      have ih := walk_back (fun q hq => hr q (List.mem_cons_of_mem _ hq)) h
      have e : backR (r :: R) = backR R ++ [opp r] := by simp [backR]
      rw [e, encW_app]
      have e2 : encW [opp r] = [((opp r : Nat) : Int)] := rfl
      rw [e2, walkAt_snoc, ih]
      unfold stW
      rw [enF_in (opp_lt hr0), enT_in (opp_lt hr0), trF_opp, trT_opp]
      simp [c]
    · rw [if_neg c] at h; cases h
end Ne
end Go.Proofs.Ytcelggfnfnaajaa
