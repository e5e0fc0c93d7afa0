/-
  Plain facts on walks from a source to a sink, and on what is led along them. No condition.
  Plain facts on one walk that is led: what its rounds read and write. No condition.
  Plain facts on tracks: where they begin and end, their room, walks, what is pushed along them, where one comes. No condition.
-/
import Derived.Test.YtcelggfnfnaajaaFlm
import Derived.Test.YtcelggfnfnaajaaMadem
namespace Go.Proofs.Ytcelggfnfnaajaa
open Go.ChangeShapes Go.WideShapes Go.ChangeAt Go.RowKit
set_option linter.unusedVariables false
set_option linter.unusedSimpArgs false
namespace Ne
/-- 1 where an arc ends in v, -1 where it begins there -/
def dl (v : Int) (a : Arc) : Int := (if a.to = v then 1 else 0) - (if a.fr = v then 1 else 0)
/-- amounts, each times what c says of its arc, together -/
def excC (c : Arc → Int) (l : List Arc) (f : List Int) : Int := sumTo (fun i => c (arcAt l i) * amt f i) l.length
theorem exc_eq (l : List Arc) (f : List Int) (v : Int) : exc l f v = excC (dl v) l f := by
  unfold exc toS frS excC
  rw [← sumTo_sub]
  refine sumTo_congr fun i _ => ?_
  unfold dl
  by_cases h1 : (arcAt l i).to = v <;> by_cases h2 : (arcAt l i).fr = v <;> simp [h1, h2]
theorem excC_set (c : Arc → Int) {l : List Arc} {f : List Int} {j : Nat} (x : Int) (hl : f.length = l.length) (hj : j < l.length) : excC c l (f.set j x) = excC c l f + c (arcAt l j) * (x - amt f j) := by
  have h := sumTo_one (g := fun i => c (arcAt l i) * amt f i) (c (arcAt l j) * (x - amt f j)) hj
  rw [excC, excC, ← h]
  refine sumTo_congr fun i _ => ?_
  rw [amt_set x (by omega)]
  by_cases e : i = j
  · subst e; rw [if_pos rfl, if_pos rfl, ← Int.mul_add]; congr 1; omega
  · rw [if_neg e, if_neg e]
/-- the arcs that lead on: from u, to a node that was not met, with room -/
def fitL (l : List Arc) (f : List Int) (met : List Bool) (u : Int) (k : Nat) : List Nat :=
  (List.range k).filter fun i => decide ((arcAt l i).fr = u) && (!(met.getD (arcAt l i).to.toNat false) && decide (amt f i < (arcAt l i).cap))
def pickIx (raw : Int) (w k : Nat) : Nat := (pickN (raw.tdiv ((w : Int) + 1)) (k : Int)).toNat
def goN (l : List Arc) (f : List Int) (raw t : Int) : Nat → List Bool → Int → List Nat → List Nat
  | 0, _, _, _ => []
  | fuel + 1, met, u, wk => if u = t then wk else
      if fitL l f met u l.length = [] then [] else
        goN l f raw t fuel (met.set (arcAt l ((fitL l f met u l.length).getD (pickIx raw wk.length (fitL l f met u l.length).length) 0)).to.toNat true)
          (arcAt l ((fitL l f met u l.length).getD (pickIx raw wk.length (fitL l f met u l.length).length) 0)).to
          (wk ++ [(fitL l f met u l.length).getD (pickIx raw wk.length (fitL l f met u l.length).length) 0])
def walkN (n : Net) (f : List Int) (raw : Int) : List Nat := goN n.l f raw n.t (n.n.toNat + 2) ((List.replicate (n.n.toNat + 1) false).set n.s.toNat true) n.s []
/-- how many nodes were not met -/
def unmet (met : List Bool) : Nat := met.countP (fun b => !b)
theorem unmet_set {met : List Bool} {i : Nat} (hi : i < met.length) (h : met.getD i false = false) : unmet (met.set i true) + 1 = unmet met := by
  unfold unmet
  induction met generalizing i with
  | nil => simp at hi
  | cons b met ih =>
    rcases i with _ | i
    · simp at h; subst h; simp
    · have := ih (i := i) (by simpa using hi) (by simpa using h)
      simp only [List.set_cons_succ, List.countP_cons]
      omega
theorem fitL_zero (l : List Arc) (f : List Int) (met : List Bool) (u : Int) : fitL l f met u 0 = [] := rfl
theorem fitL_succ (l : List Arc) (f : List Int) (met : List Bool) (u : Int) (k : Nat) : fitL l f met u (k + 1) = fitL l f met u k ++ if (decide ((arcAt l k).fr = u) && (!(met.getD (arcAt l k).to.toNat false) && decide (amt f k < (arcAt l k).cap))) = true then [k] else [] := by
  unfold fitL; rw [List.range_succ, List.filter_append]
  congr 1
  rw [List.filter_cons, List.filter_nil]
theorem fitL_mem {l : List Arc} {f : List Int} {met : List Bool} {u : Int} {k j : Nat} (h : j ∈ fitL l f met u k) : j < k ∧ (arcAt l j).fr = u ∧ met.getD (arcAt l j).to.toNat false = false ∧ amt f j < (arcAt l j).cap := by
  obtain ⟨h1, h2⟩ := List.mem_filter.1 h
  simp only [Bool.and_eq_true, decide_eq_true_eq, Bool.not_eq_true'] at h2
  exact ⟨List.mem_range.1 h1, h2.1, h2.2.1, h2.2.2⟩
theorem fitL_len (l : List Arc) (f : List Int) (met : List Bool) (u : Int) (k : Nat) : (fitL l f met u k).length ≤ k := by
  unfold fitL; exact Nat.le_trans (List.length_filter_le _ _) (by simp)
theorem pickIx_lt (raw : Int) (w : Nat) {k : Nat} (hk : 0 < k) : pickIx raw w k < k := by
  unfold pickIx
  have := pickN_bd (c := raw.tdiv ((w : Int) + 1)) (n := (k : Int)) (by omega)
  omega
theorem getD_mem {l : List Nat} {i : Nat} (h : i < l.length) : l.getD i 0 ∈ l := by
  rw [List.getD_eq_getElem?_getD, List.getElem?_eq_getElem h]; simp
/-- what the next arc is -/
theorem next_arc {l : List Arc} {f : List Int} {met : List Bool} {u raw : Int} {w : Nat} (h : fitL l f met u l.length ≠ []) :
    (fitL l f met u l.length).getD (pickIx raw w (fitL l f met u l.length).length) 0 ∈ fitL l f met u l.length :=
  getD_mem (pickIx_lt raw w (List.length_pos_iff.2 h))
/-- a walk from s to u, each of whose arcs has room and is there once -/
structure Way (l : List Arc) (f : List Int) (s u : Int) (wk : List Nat) : Prop where
  room : ∀ k ∈ wk, k < l.length ∧ amt f k < (arcAt l k).cap
  nodup : wk.Nodup
  ends : ∀ v, (wk.map fun k => dl v (arcAt l k)).sum = (if u = v then 1 else 0) - (if s = v then 1 else 0)
theorem way_nil (l : List Arc) (f : List Int) (s : Int) : Way l f s s [] := ⟨fun k hk => by simp at hk, List.nodup_nil, fun v => by simp⟩
theorem way_snoc {l : List Arc} {f : List Int} {s u : Int} {wk : List Nat} {k : Nat} (h : Way l f s u wk) (hk : k < l.length) (hr : amt f k < (arcAt l k).cap) (hu : (arcAt l k).fr = u) (hn : k ∉ wk) : Way l f s (arcAt l k).to (wk ++ [k]) := by
  refine ⟨fun j hj => ?_, ?_, fun v => ?_⟩
  · rcases List.mem_append.1 hj with h1 | h1
    · exact h.room j h1
    · simp at h1; subst h1; exact ⟨hk, hr⟩
  · rw [List.nodup_append]
    refine ⟨h.nodup, by simp, fun a ha b hb => ?_⟩
    simp at hb; subst hb; intro e; subst e; exact hn ha
  · rw [List.map_append, List.sum_append, h.ends v]
    simp only [List.map_cons, List.map_nil, List.sum_cons, List.sum_nil, dl, hu]
    omega
theorem goN_way {l : List Arc} {f : List Int} {raw s t : Int} {N : Nat} (hto : ∀ i, i < l.length → (arcAt l i).to.toNat < N) : ∀ (fuel : Nat) (met : List Bool) (u : Int) (wk : List Nat),
    met.length = N → Way l f s u wk → (∀ k ∈ wk, met.getD (arcAt l k).to.toNat false = true) → goN l f raw t fuel met u wk = [] ∨ Way l f s t (goN l f raw t fuel met u wk)
  | 0, _, _, _, _, _, _ => .inl rfl
  | fuel + 1, met, u, wk, hN, hw, hm => by
    unfold goN
    by_cases c : u = t
    · rw [if_pos c]; subst c; exact .inr hw
    · rw [if_neg c]
      by_cases d : fitL l f met u l.length = []
      · rw [if_pos d]; exact .inl rfl
      · rw [if_neg d]
        have hk := next_arc (raw := raw) (w := wk.length) d
        generalize (fitL l f met u l.length).getD (pickIx raw wk.length (fitL l f met u l.length).length) 0 = k at hk ⊢
        obtain ⟨h1, h2, h3, h4⟩ := fitL_mem hk
        have hni : k ∉ wk := fun h => by have := hm k h; rw [h3] at this; cases this
        refine goN_way hto fuel _ _ _ (by simpa using hN) (way_snoc hw h1 h4 h2 hni) fun j hj => ?_
        have hlt : (arcAt l k).to.toNat < met.length := by rw [hN]; exact hto k h1
        rcases List.mem_append.1 hj with h5 | h5
        · by_cases e : (arcAt l j).to.toNat = (arcAt l k).to.toNat
          · rw [e]; simp [hlt]
          · have := hm j h5
            simpa [List.getElem?_set_ne (Ne.symm e)] using this
        · simp at h5; subst h5; simp [hlt]
theorem walkN_way {n : Net} (hR : Right n) (f : List Int) (raw : Int) : walkN n f raw = [] ∨ Way n.l f n.s n.t (walkN n f raw) := by
  unfold walkN
  have hn0 := hR.n0
  refine goN_way (N := n.n.toNat + 1) (fun i hi => ?_) _ _ _ _ (by simp) (way_nil _ _ _) (fun k hk => by simp at hk)
  have := hR.to0 i hi
  have := hR.to1 i hi
  omega
/-- one more arc: what the program's round does to the fuel -/
theorem goN_step {l : List Arc} {f : List Int} {raw t : Int} {fuel : Nat} {met : List Bool} {u : Int} {wk : List Nat} {k : Nat} (hu : u ≠ t) (hf : fitL l f met u l.length ≠ []) (hk : (fitL l f met u l.length).getD (pickIx raw wk.length (fitL l f met u l.length).length) 0 = k) :
    goN l f raw t (fuel + 1) met u wk = goN l f raw t fuel (met.set (arcAt l k).to.toNat true) (arcAt l k).to (wk ++ [k]) := by
  conv => lhs; unfold goN
  rw [if_neg hu, if_neg hf, hk]
/-- the most that fits, no more than m -/
def mostN (l : List Arc) (f : List Int) (m : Int) (R : List Nat) : Int := R.foldl (fun m k => if (arcAt l k).cap - amt f k < m then (arcAt l k).cap - amt f k else m) m
theorem mostN_snoc (l : List Arc) (f : List Int) (m : Int) (R : List Nat) (k : Nat) : mostN l f m (R ++ [k]) = if (arcAt l k).cap - amt f k < mostN l f m R then (arcAt l k).cap - amt f k else mostN l f m R := by
  unfold mostN; rw [List.foldl_append]; rfl
theorem mostN_le {l : List Arc} {f : List Int} : ∀ (R : List Nat) (m : Int), mostN l f m R ≤ m ∧ ∀ k ∈ R, mostN l f m R ≤ (arcAt l k).cap - amt f k
  | [], m => ⟨Int.le_refl _, fun k hk => by simp at hk⟩
  | k :: R, m => by
    have e : mostN l f m (k :: R) = mostN l f (if (arcAt l k).cap - amt f k < m then (arcAt l k).cap - amt f k else m) R := rfl
    obtain ⟨h1, h2⟩ := mostN_le (l := l) (f := f) R (if (arcAt l k).cap - amt f k < m then (arcAt l k).cap - amt f k else m)
    rw [← e] at h1 h2
    have h3 : (if (arcAt l k).cap - amt f k < m then (arcAt l k).cap - amt f k else m) ≤ m ∧ (if (arcAt l k).cap - amt f k < m then (arcAt l k).cap - amt f k else m) ≤ (arcAt l k).cap - amt f k := by
      split <;> omega
    refine ⟨by omega, fun j hj => ?_⟩
    rcases List.mem_cons.1 hj with h | h
    · subst h; omega
    · exact h2 j h
theorem mostN_nn {l : List Arc} {f : List Int} : ∀ (R : List Nat) (m : Int), 0 ≤ m → (∀ k ∈ R, 0 ≤ (arcAt l k).cap - amt f k) → 0 ≤ mostN l f m R
  | [], m, h, _ => h
  | k :: R, m, h, hk => by
    have e : mostN l f m (k :: R) = mostN l f (if (arcAt l k).cap - amt f k < m then (arcAt l k).cap - amt f k else m) R := rfl
    rw [e]
    refine mostN_nn R _ ?_ fun j hj => hk j (List.mem_cons_of_mem _ hj)
    have := hk k List.mem_cons_self
    split <;> omega
/-- m more on each arc of a walk -/
def addN (m : Int) (f : List Int) (R : List Nat) : List Int := R.foldl (fun f k => f.set k (amt f k + m)) f
theorem addN_snoc (m : Int) (f : List Int) (R : List Nat) (k : Nat) : addN m f (R ++ [k]) = (addN m f R).set k (amt (addN m f R) k + m) := by
  unfold addN; rw [List.foldl_append]; rfl
theorem addN_len (m : Int) : ∀ (R : List Nat) (f : List Int), (addN m f R).length = f.length
  | [], _ => rfl
  | k :: R, f => by
    have e : addN m f (k :: R) = addN m (f.set k (amt f k + m)) R := rfl
    rw [e, addN_len m R]; simp
theorem addN_at {m : Int} : ∀ (R : List Nat) (f : List Int), R.Nodup → (∀ k ∈ R, k < f.length) → ∀ i, amt (addN m f R) i = amt f i + if i ∈ R then m else 0
  | [], f, _, _, i => by simp [addN]
  | k :: R, f, hn, hk, i => by
    have e : addN m f (k :: R) = addN m (f.set k (amt f k + m)) R := rfl
    obtain ⟨h1, h2⟩ := List.nodup_cons.1 hn
    rw [e, addN_at R _ h2 (fun j hj => by rw [List.length_set]; exact hk j (List.mem_cons_of_mem _ hj)) i, amt_set _ (hk k List.mem_cons_self)]
    by_cases c : i = k
    · subst c; simp [h1]
    · simp [c]
theorem addN_exc (c : Arc → Int) {m : Int} {l : List Arc} : ∀ (R : List Nat) (f : List Int), f.length = l.length → (∀ k ∈ R, k < l.length) → excC c l (addN m f R) = excC c l f + m * (R.map fun k => c (arcAt l k)).sum
  | [], f, _, _ => by simp [addN]
  | k :: R, f, hl, hk => by
    have e : addN m f (k :: R) = addN m (f.set k (amt f k + m)) R := rfl
    rw [e, addN_exc c R _ (by simpa using hl) (fun j hj => hk j (List.mem_cons_of_mem _ hj)), excC_set c _ hl (hk k List.mem_cons_self)]
    simp only [List.map_cons, List.sum_cons, Int.mul_add]
    rw [show amt f k + m - amt f k = m by omega, Int.mul_comm (c (arcAt l k)) m]
    omega
/-- one walk led -/
def stepR (n : Net) (f : List Int) (raw : Int) : List Int := addN (mostN n.l f (pickN raw 30 + 1) (walkN n f raw)) f (walkN n f raw)
def routeN (n : Net) (ks : List Int) : List Int := (ks.take 8).foldl (stepR n) (List.replicate n.l.length 0)
/-- a flow whose value is not below nothing -/
structure Flow (n : Net) (f : List Int) : Prop where
  len : f.length = n.l.length
  wi : wi n.l f
  calm : ∀ v, v ≠ n.s → v ≠ n.t → exc n.l f v = 0
  ends : exc n.l f n.s = -exc n.l f n.t
  val : 0 ≤ exc n.l f n.t
theorem exc_zero {l : List Arc} {f : List Int} (h : ∀ i, amt f i = 0) (v : Int) : exc l f v = 0 := by
  rw [exc_eq]; exact sumTo_zero fun i _ => by rw [h i, Int.mul_zero]
theorem flow_nought {n : Net} (hR : Right n) : Flow n (List.replicate n.l.length 0) := by
  have h : ∀ i, amt (List.replicate n.l.length (0 : Int)) i = 0 := fun i => by
    unfold amt
    by_cases e : i < n.l.length
    · simp [e]
    · simp [Nat.not_lt.1 e]
  exact ⟨by simp, fun i hi => by rw [h i]; exact ⟨Int.le_refl _, hR.cap0 i hi⟩, fun v _ _ => exc_zero h v, by rw [exc_zero h, exc_zero h]; rfl, by rw [exc_zero h]; exact Int.le_refl _⟩
theorem step_flow {n : Net} (hR : Right n) {f : List Int} (hF : Flow n f) (raw : Int) : Flow n (stepR n f raw) ∧ ∀ i, amt f i ≤ amt (stepR n f raw) i := by
  rcases walkN_way hR f raw with h | h
  · unfold stepR; rw [h]; exact ⟨hF, fun i => Int.le_refl _⟩
  · unfold stepR
    generalize walkN n f raw = R at *
    have hb := pickN_bd (c := raw) (n := 30) (by omega)
    generalize pickN raw 30 = p at *
    have hm0 := mostN_nn (l := n.l) (f := f) R (p + 1) (by omega) fun k hk => by have := h.room k hk; omega
    have hm1 := (mostN_le (l := n.l) (f := f) R (p + 1)).2
    generalize mostN n.l f (p + 1) R = m at *
    have hk : ∀ k ∈ R, k < f.length := fun k hk => by rw [hF.len]; exact (h.room k hk).1
    have ha := addN_at (m := m) R f h.nodup hk
    have he : ∀ v, exc n.l (addN m f R) v = exc n.l f v + m * ((if n.t = v then 1 else 0) - (if n.s = v then 1 else 0)) := fun v => by
      rw [exc_eq, exc_eq, addN_exc (dl v) R f hF.len (fun k hk => (h.room k hk).1), h.ends v]
    refine ⟨⟨by rw [addN_len, hF.len], fun i hi => ?_, fun v hs ht => ?_, ?_, ?_⟩, fun i => ?_⟩
    · rw [ha i]
      have := hF.wi i hi
      by_cases c : i ∈ R
      · rw [if_pos c]; have := hm1 i c; omega
      · rw [if_neg c]; omega
    · rw [he v, if_neg (Ne.symm ht), if_neg (Ne.symm hs), hF.calm v hs ht]; simp
    · rw [he n.s, he n.t, if_pos rfl, if_neg (Ne.symm hR.ne), if_pos rfl, if_neg hR.ne, hF.ends]; omega
    · rw [he n.t, if_pos rfl, if_neg hR.ne]; have := hF.val; omega
    · rw [ha i]; split <;> omega
theorem fold_flow {n : Net} (hR : Right n) : ∀ (ks : List Int) {f : List Int}, Flow n f → Flow n (ks.foldl (stepR n) f) ∧ ∀ i, amt f i ≤ amt (ks.foldl (stepR n) f) i
  | [], f, h => ⟨h, fun i => Int.le_refl _⟩
  | k :: ks, f, h => by
    obtain ⟨h1, h2⟩ := step_flow hR h k
    obtain ⟨h3, h4⟩ := fold_flow hR ks h1
    exact ⟨h3, fun i => Int.le_trans (h2 i) (h4 i)⟩
theorem route_flow {n : Net} (hR : Right n) (ks : List Int) : Flow n (routeN n ks) := (fold_flow hR _ (flow_nought hR)).1
theorem route_pre {n : Net} (hR : Right n) (ks : List Int) (p : Nat) : ∀ i, amt (routeN n (ks.take p)) i ≤ amt (routeN n ks) i := by
  intro i
  unfold routeN
  rw [List.take_take]
  rcases Nat.le_total 8 p with h | h
  · rw [Nat.min_eq_left h]; exact Int.le_refl _
  · rw [Nat.min_eq_right h]
    have e : ks.take 8 = ks.take p ++ (ks.take 8).drop p := by
      have := List.take_append_drop p (ks.take 8)
      rw [List.take_take, Nat.min_eq_left h] at this
      exact this.symm
    rw [e, List.foldl_append]
    exact (fold_flow hR _ (fold_flow hR _ (flow_nought hR)).1).2 i
/-- what is a flow is found right -/
theorem flow_chkA {n : Net} {f : List Int} (h1 : checkN n = 0) (hF : Flow n f) : chkA n f = 0 := chkA_in h1 hF.len hF.wi
theorem flow_chkF {n : Net} {f : List Int} (h1 : checkN n = 0) (hF : Flow n f) : chkF n f = 0 := chkF_in (flow_chkA h1 hF) fun v _ hs ht => hF.calm _ hs ht
theorem flow_vaV {n : Net} {f : List Int} (h1 : checkN n = 0) (hF : Flow n f) : vaV n f = exc n.l f n.t := by unfold vaV; rw [if_neg (by simpa using flow_chkF h1 hF)]
theorem flow_exE {n : Net} {f : List Int} {v : Int} (h1 : checkN n = 0) (hF : Flow n f) (h2 : 1 ≤ v) (h3 : v ≤ n.n) : exE n f v = 0 ∧ exV n f v = exc n.l f v := by
  have e : exE n f v = 0 := by unfold exE; rw [if_neg (by simpa using flow_chkA h1 hF), if_neg (by omega)]
  exact ⟨e, by unfold exV; rw [if_neg (by simpa using e)]⟩
/-- a network that is made is right -/
theorem made_check {nodes ends : Int} {l : List Arc} (h : ∀ a ∈ l, a.ok) : checkN (madeN nodes ends l) = 0 := by
  obtain ⟨_, _, _, _, _, _, _, _, h9⟩ := madeN_fine (nodes := nodes) (ends := ends) h
  exact checkN_fine (madeN_h h) h9
end Ne
end Go.Proofs.Ytcelggfnfnaajaa
namespace Go.Proofs.Ytcelggfnfnaajaa
open Go.ChangeShapes Go.WideShapes Go.ChangeAt Go.RowKit
set_option linter.unusedVariables false
set_option linter.unusedSimpArgs false
namespace Ne
theorem take_getD {R : List Nat} {q : Nat} (h : q < R.length) : R.take (q + 1) = R.take q ++ [R.getD q 0] := by
  rw [List.take_add_one, List.getElem?_eq_getElem h, List.getD_eq_getElem?_getD, List.getElem?_eq_getElem h]; rfl
theorem getD_notin {R : List Nat} {q : Nat} (hn : R.Nodup) (h : q < R.length) : R.getD q 0 ∉ R.take q := by
  have h1 := List.nodup_append.1 (take_getD h ▸ (hn.sublist (List.take_sublist _ _)) : (R.take q ++ [R.getD q 0]).Nodup)
  intro hm
  exact h1.2.2 _ hm _ (by simp) rfl
/-- what stands at the q-th arc of the walk, ahead of what is led and while it is -/
structure Led (n : Net) (F : List Int) (R : List Nat) (m0 : Int) : Prop where
  arc : ∀ q, q < R.length → R.getD q 0 < n.l.length
  amt0 : ∀ q, q < R.length → 0 ≤ amt F (R.getD q 0) ∧ amt F (R.getD q 0) ≤ (arcAt n.l (R.getD q 0)).cap
  most : ∀ q, q ≤ R.length → 0 ≤ mostN n.l F m0 (R.take q) ∧ mostN n.l F m0 (R.take q) ≤ m0
  room : ∀ q, q < R.length → amt F (R.getD q 0) + mostN n.l F m0 R ≤ (arcAt n.l (R.getD q 0)).cap
  now : ∀ (m : Int) q, q < R.length → amt (addN m F (R.take q)) (R.getD q 0) = amt F (R.getD q 0)
  len : R.length ≤ n.l.length
theorem nodup_len : ∀ {L : Nat} {R : List Nat}, R.Nodup → (∀ k ∈ R, k < L) → R.length ≤ L
  | 0, R, _, h => by
    rcases R with _ | ⟨k, R⟩
    · simp
    · exact absurd (h k List.mem_cons_self) (by omega)
  | L + 1, R, hn, h => by
    by_cases hm : L ∈ R
    · have h1 := nodup_len (L := L) (R := R.erase L) (hn.erase L) fun k hk => by
        obtain ⟨h2, h3⟩ := (List.Nodup.mem_erase_iff hn).1 hk
        have := h k h3; omega
      rw [List.length_erase_of_mem hm] at h1; omega
    · have h1 := nodup_len (L := L) hn fun k hk => by
        have := h k hk
        have : k ≠ L := fun e => hm (e ▸ hk)
        omega
      omega
theorem led {n : Net} (hR : Right n) {F : List Int} (hF : Flow n F) (raw m0 : Int) (hm : 0 ≤ m0) : Led n F (walkN n F raw) m0 := by
  rcases walkN_way hR F raw with h | h
  · rw [h]
    exact ⟨fun q hq => by simp at hq, fun q hq => by simp at hq, fun q hq => by simp [mostN]; exact hm, fun q hq => by simp at hq, fun m q hq => by simp at hq, by simp⟩
  · generalize walkN n F raw = R at *
    have hk : ∀ q, q < R.length → R.getD q 0 ∈ R := fun q hq => getD_mem hq
    have hk2 : ∀ k ∈ R, k < F.length := fun k hk => by rw [hF.len]; exact (h.room k hk).1
    refine ⟨fun q hq => (h.room _ (hk q hq)).1, fun q hq => hF.wi _ (h.room _ (hk q hq)).1, fun q hq => ⟨mostN_nn _ _ hm fun k hk' => ?_, (mostN_le _ _).1⟩, fun q hq => ?_, fun m q hq => ?_, nodup_len h.nodup fun k hk => (h.room k hk).1⟩
    · have := h.room k (List.mem_of_mem_take hk'); omega
    · have := (mostN_le (l := n.l) (f := F) R m0).2 _ (hk q hq); omega
    · rw [addN_at _ _ (h.nodup.sublist (List.take_sublist _ _)) (fun k hk' => hk2 k (List.mem_of_mem_take hk')), if_neg (getD_notin h.nodup hq), Int.add_zero]
/-- behind j walks -/
def routeJ (n : Net) (ks : List Int) (j : Nat) : List Int := (ks.take j).foldl (stepR n) (List.replicate n.l.length 0)
theorem routeJ_succ (n : Net) {ks : List Int} {j : Nat} {x : Int} (h : ks[j]? = some x) : routeJ n ks (j + 1) = stepR n (routeJ n ks j) x := by
  unfold routeJ; rw [List.take_add_one, h, List.foldl_append]; rfl
theorem routeJ_flow {n : Net} (hR : Right n) (ks : List Int) (j : Nat) : Flow n (routeJ n ks j) := (fold_flow hR _ (flow_nought hR)).1
theorem routeJ_all {n : Net} {ks : List Int} {j : Nat} (h : j = 8 ∨ (j < 8 ∧ ks.length ≤ j)) : routeJ n ks j = routeN n ks := by
  unfold routeJ routeN
  rcases h with h | ⟨h1, h2⟩
  · rw [h]
  · rw [List.take_of_length_le h2, List.take_of_length_le (by omega)]
end Ne
end Go.Proofs.Ytcelggfnfnaajaa
namespace Go.Proofs.Ytcelggfnfnaajaa
open Go.ChangeShapes Go.WideShapes Go.ChangeAt Go.RowKit
set_option linter.unusedVariables false
set_option linter.unusedSimpArgs false
namespace Ne
/-- where a track begins, ends, its room -/
def trF (l : List Arc) (r : Nat) : Int := if r % 2 = 1 then (arcAt l (r / 2)).to else (arcAt l (r / 2)).fr
def trT (l : List Arc) (r : Nat) : Int := if r % 2 = 1 then (arcAt l (r / 2)).fr else (arcAt l (r / 2)).to
def roomN (l : List Arc) (f : List Int) (r : Nat) : Int := if r % 2 = 1 then amt f (r / 2) else (arcAt l (r / 2)).cap - amt f (r / 2)
/-- the same of a number that is no track -/
def enF (l : List Arc) (r : Int) : Int := if 0 ≤ r ∧ r < 2 * (l.length : Int) then trF l r.toNat else 0
def enT (l : List Arc) (r : Int) : Int := if 0 ≤ r ∧ r < 2 * (l.length : Int) then trT l r.toNat else 0
/-- a track's other one -/
def opp (r : Nat) : Nat := if r % 2 = 1 then r - 1 else r + 1
theorem opp_half (r : Nat) : opp r / 2 = r / 2 := by unfold opp; split <;> omega
theorem opp_odd (r : Nat) : opp r % 2 = 1 - r % 2 := by unfold opp; split <;> omega
theorem opp_lt {r L : Nat} (h : r < 2 * L) : opp r < 2 * L := by unfold opp; split <;> omega
theorem opp_opp (r : Nat) : opp (opp r) = r := by unfold opp; split <;> split <;> omega
theorem trF_opp (l : List Arc) (r : Nat) : trF l (opp r) = trT l r := by
  unfold trF trT; rw [opp_half, opp_odd]
  by_cases h : r % 2 = 1
  · rw [h]; simp
  · rw [if_neg h, if_pos (by omega)]
theorem trT_opp (l : List Arc) (r : Nat) : trT l (opp r) = trF l r := by have := trF_opp l (opp r); rw [opp_opp] at this; exact this.symm
theorem room_opp (l : List Arc) (f : List Int) (r : Nat) : roomN l f r + roomN l f (opp r) = (arcAt l (r / 2)).cap := by
  unfold roomN; rw [opp_half, opp_odd]
  by_cases h : r % 2 = 1
  · rw [h]; simp; omega
  · rw [if_neg h, if_pos (by omega)]; omega
theorem room_even (l : List Arc) (f : List Int) (i : Nat) : roomN l f (2 * i) = (arcAt l i).cap - amt f i := by
  unfold roomN; rw [if_neg (by omega), show 2 * i / 2 = i by omega]
theorem room_odd (l : List Arc) (f : List Int) (i : Nat) : roomN l f (2 * i + 1) = amt f i := by
  unfold roomN; rw [if_pos (by omega), show (2 * i + 1) / 2 = i by omega]
theorem trF_even (l : List Arc) (i : Nat) : trF l (2 * i) = (arcAt l i).fr := by unfold trF; rw [if_neg (by omega), show 2 * i / 2 = i by omega]
theorem trT_even (l : List Arc) (i : Nat) : trT l (2 * i) = (arcAt l i).to := by unfold trT; rw [if_neg (by omega), show 2 * i / 2 = i by omega]
theorem trF_odd (l : List Arc) (i : Nat) : trF l (2 * i + 1) = (arcAt l i).to := by unfold trF; rw [if_pos (by omega), show (2 * i + 1) / 2 = i by omega]
theorem trT_odd (l : List Arc) (i : Nat) : trT l (2 * i + 1) = (arcAt l i).fr := by unfold trT; rw [if_pos (by omega), show (2 * i + 1) / 2 = i by omega]
theorem enF_in {l : List Arc} {r : Nat} (h : r < 2 * l.length) : enF l (r : Int) = trF l r := by unfold enF; rw [if_pos (by omega), Int.toNat_natCast]
theorem enT_in {l : List Arc} {r : Nat} (h : r < 2 * l.length) : enT l (r : Int) = trT l r := by unfold enT; rw [if_pos (by omega), Int.toNat_natCast]
theorem enF_out {l : List Arc} {r : Int} (h : r < 0 ∨ 2 * (l.length : Int) ≤ r) : enF l r = 0 := by unfold enF; rw [if_neg (by omega)]
theorem enT_out {l : List Arc} {r : Int} (h : r < 0 ∨ 2 * (l.length : Int) ≤ r) : enT l r = 0 := by unfold enT; rw [if_neg (by omega)]
theorem trF_bd {n : Net} (hR : Right n) {r : Nat} (h : r < 2 * n.l.length) : 1 ≤ trF n.l r ∧ trF n.l r ≤ n.n := by
  have hi : r / 2 < n.l.length := by omega
  have := hR.fr0 _ hi; have := hR.fr1 _ hi; have := hR.to0 _ hi; have := hR.to1 _ hi
  unfold trF; split <;> omega
theorem trT_bd {n : Net} (hR : Right n) {r : Nat} (h : r < 2 * n.l.length) : 1 ≤ trT n.l r ∧ trT n.l r ≤ n.n := by
  rw [← trF_opp]; exact trF_bd hR (opp_lt h)
theorem room_nn {l : List Arc} {f : List Int} (hw : wi l f) {r : Nat} (h : r < 2 * l.length) : 0 ≤ roomN l f r ∧ roomN l f r ≤ (arcAt l (r / 2)).cap := by
  have := hw (r / 2) (by omega)
  unfold roomN; split <;> omega
theorem enF_some {n : Net} (hR : Right n) {r : Int} (h : enF n.l r ≠ 0) : ∃ k : Nat, r = (k : Int) ∧ k < 2 * n.l.length := by
  unfold enF at h
  by_cases c : 0 ≤ r ∧ r < 2 * (n.l.length : Int)
  · exact ⟨r.toNat, by omega, by omega⟩
  · rw [if_neg c] at h; exact absurd rfl h
/-- the room of the first k tracks; the tracks of a node among them -/
def roomL (l : List Arc) (f : List Int) (k : Nat) : List Int := (List.range k).map (roomN l f)
theorem roomL_len (l : List Arc) (f : List Int) (k : Nat) : (roomL l f k).length = k := by simp [roomL]
theorem roomL_succ (l : List Arc) (f : List Int) (k : Nat) : roomL l f (k + 1) = roomL l f k ++ [roomN l f k] := by simp [roomL, List.range_succ]
theorem roomL_at (l : List Arc) (f : List Int) {i k : Nat} (h : i < k) : amt (roomL l f k) i = roomN l f i := by simp [roomL, amt, h]
def fromL (l : List Arc) (v : Int) (k : Nat) : List Nat := (List.range k).filter fun r => decide (trF l r = v)
theorem fromL_zero (l : List Arc) (v : Int) : fromL l v 0 = [] := rfl
theorem fromL_hit {l : List Arc} {v : Int} {k : Nat} (h : trF l k = v) : fromL l v (k + 1) = fromL l v k ++ [k] := by
  unfold fromL; rw [List.range_succ, List.filter_append]; simp [h]
theorem fromL_miss {l : List Arc} {v : Int} {k : Nat} (h : trF l k ≠ v) : fromL l v (k + 1) = fromL l v k := by
  unfold fromL; rw [List.range_succ, List.filter_append]; simp [h]
theorem fromL_len (l : List Arc) (v : Int) (k : Nat) : (fromL l v k).length ≤ k := by
  unfold fromL; exact Nat.le_trans (List.length_filter_le _ _) (by simp)
theorem fromL_mem {l : List Arc} {v : Int} {k r : Nat} : r ∈ fromL l v k ↔ r < k ∧ trF l r = v := by
  unfold fromL; rw [List.mem_filter, List.mem_range, decide_eq_true_eq]
/-- where a walk comes from u on -/
def stW (l : List Arc) (o : Option Int) (r : Int) : Option Int := match o with
  | some u => if enF l r = u then some (enT l r) else none
  | none => none
def walkAt (l : List Arc) (s : Int) (W : List Int) : Option Int := W.foldl (stW l) (some s)
theorem stW_none (l : List Arc) : ∀ W : List Int, W.foldl (stW l) none = none
  | [] => rfl
  | _ :: W => stW_none l W
theorem walkAt_snoc (l : List Arc) (s : Int) (W : List Int) (r : Int) : walkAt l s (W ++ [r]) = stW l (walkAt l s W) r := by unfold walkAt; rw [List.foldl_append]; rfl
theorem walkAt_app (l : List Arc) (s : Int) (W V : List Int) : walkAt l s (W ++ V) = V.foldl (stW l) (walkAt l s W) := by unfold walkAt; rw [List.foldl_append]
theorem take_amt {W : List Int} {k : Nat} (h : k < W.length) : W.take (k + 1) = W.take k ++ [amt W k] := by
  rw [List.take_add_one, at_amt h]; rfl
theorem walkAt_take {l : List Arc} {s : Int} {W : List Int} {k : Nat} (h : k < W.length) : walkAt l s (W.take (k + 1)) = stW l (walkAt l s (W.take k)) (amt W k) := by
  rw [take_amt h, walkAt_snoc]
theorem walkAt_dead {l : List Arc} {s : Int} {W : List Int} {k : Nat} (h : walkAt l s (W.take k) = none) : walkAt l s W = none := by
  have e := walkAt_app l s (W.take k) (W.drop k)
  rw [List.take_append_drop] at e
  rw [e, h, stW_none]
def isWalk (n : Net) (W : List Int) : Bool := decide (walkAt n.l n.s W = some n.t)
theorem isWalk_no {n : Net} {W : List Int} {k : Nat} (h : walkAt n.l n.s (W.take k) = none) : isWalk n W = false := by
  unfold isWalk; rw [walkAt_dead h]; simp
theorem isWalk_end {n : Net} {W : List Int} {u : Int} (h : walkAt n.l n.s W = some u) : isWalk n W = decide (u = n.t) := by
  unfold isWalk; rw [h]; simp
theorem walkAt_pos {n : Net} (hR : Right n) {W : List Int} : ∀ {k : Nat} {u : Int}, k ≤ W.length → walkAt n.l n.s (W.take k) = some u → 1 ≤ u ∧ u ≤ n.n ∧ ∀ i, i < k → ∃ r : Nat, amt W i = (r : Int) ∧ r < 2 * n.l.length
  | 0, u, _, h => by
    simp [walkAt] at h; subst h; exact ⟨hR.s0, hR.s1, fun i hi => absurd hi (by omega)⟩
  | k + 1, u, hk, h => by
    rw [walkAt_take (by omega)] at h
    rcases e : walkAt n.l n.s (W.take k) with _ | u0
    · rw [e] at h; cases h
    · obtain ⟨h1, h2, h3⟩ := walkAt_pos hR (W := W) (k := k) (by omega) e
      rw [e] at h
      unfold stW at h
      by_cases c : enF n.l (amt W k) = u0
      · simp only [if_pos c] at h
        obtain ⟨r, hr, hr2⟩ := enF_some hR (r := amt W k) (by omega)
        have hu := Option.some.inj h
        rw [hr, enT_in hr2] at hu
        have := trT_bd hR hr2
        refine ⟨by omega, by omega, fun i hi => ?_⟩
        by_cases e2 : i = k
        · subst e2; exact ⟨r, hr, hr2⟩
        · exact h3 i (by omega)
      · simp only [if_neg c] at h; cases h
/-- amounts behind x more along a track -/
def put1 (f : List Int) (x : Int) (r : Nat) : List Int := f.set (r / 2) (if r % 2 = 1 then amt f (r / 2) - x else amt f (r / 2) + x)
def stP (l : List Arc) (x : Int) (o : Option (List Int)) (r : Int) : Option (List Int) := match o with
  | some f => if roomN l f r.toNat < x then none else some (put1 f x r.toNat)
  | none => none
def pushN (l : List Arc) (f : List Int) (x : Int) (W : List Int) : Option (List Int) := W.foldl (stP l x) (some f)
theorem stP_none (l : List Arc) (x : Int) : ∀ W : List Int, W.foldl (stP l x) none = none
  | [] => rfl
  | _ :: W => stP_none l x W
theorem pushN_app (l : List Arc) (f : List Int) (x : Int) (W V : List Int) : pushN l f x (W ++ V) = V.foldl (stP l x) (pushN l f x W) := by unfold pushN; rw [List.foldl_append]
theorem pushN_take {l : List Arc} {f : List Int} {x : Int} {W : List Int} {k : Nat} (h : k < W.length) : pushN l f x (W.take (k + 1)) = stP l x (pushN l f x (W.take k)) (amt W k) := by
  rw [take_amt h, pushN_app]; rfl
theorem pushN_dead {l : List Arc} {f : List Int} {x : Int} {W : List Int} {k : Nat} (h : pushN l f x (W.take k) = none) : pushN l f x W = none := by
  have e := pushN_app l f x (W.take k) (W.drop k)
  rw [List.take_append_drop] at e
  rw [e, h, stP_none]
theorem put1_len (f : List Int) (x : Int) (r : Nat) : (put1 f x r).length = f.length := by simp [put1]
theorem put1_at {f : List Int} {x : Int} {r : Nat} (h : r / 2 < f.length) (i : Nat) : amt (put1 f x r) i = if i = r / 2 then (if r % 2 = 1 then amt f i - x else amt f i + x) else amt f i := by
  unfold put1; rw [amt_set _ h]
  by_cases e : i = r / 2
  · subst e; simp
  · rw [if_neg e, if_neg e]
theorem put1_wi {l : List Arc} {f : List Int} {x : Int} {r : Nat} (hl : f.length = l.length) (hw : wi l f) (hx : 0 ≤ x) (hr : r < 2 * l.length) (h : x ≤ roomN l f r) : wi l (put1 f x r) := by
  intro i hi
  rw [put1_at (by omega)]
  have h1 := hw i hi
  unfold roomN at h
  by_cases e : i = r / 2
  · subst e
    rw [if_pos rfl]
    by_cases c : r % 2 = 1
    · rw [if_pos c] at h ⊢; omega
    · rw [if_neg c] at h ⊢; omega
  · rw [if_neg e]; exact h1
/-- what is wrong with a push; what comes of it -/
def pushE (n : Net) (f W : List Int) (x : Int) : Int := if chkF n f ≠ 0 then chkF n f else if isWalk n W = false then 1 else if x < 1 then 3 else if (pushN n.l f x W).isNone then 9 else 0
def pushV (n : Net) (f W : List Int) (x : Int) : List Int := if pushE n f W x ≠ 0 then [] else (pushN n.l f x W).getD []
/-- where one comes over tracks of room x or more -/
inductive Rch (n : Net) (f : List Int) (x : Int) : Int → Prop
  | base : Rch n f x n.s
  | step {r : Nat} : r < 2 * n.l.length → x ≤ roomN n.l f r → Rch n f x (trF n.l r) → Rch n f x (trT n.l r)
structure IsReach (n : Net) (f : List Int) (x : Int) (M : List Bool) : Prop where
  len : M.length = n.n.toNat + 1
  at_s : M.getD n.s.toNat false = true
  sound : ∀ i : Nat, M.getD i false = true → Rch n f x (i : Int)
  closed : ∀ r : Nat, r < 2 * n.l.length → x ≤ roomN n.l f r → M.getD (trF n.l r).toNat false = true → M.getD (trT n.l r).toNat false = true
theorem reach_all {n : Net} (hR : Right n) {f : List Int} {x : Int} {M : List Bool} (h : IsReach n f x M) {v : Int} (hv : Rch n f x v) : M.getD v.toNat false = true := by
  induction hv with
  | base => exact h.at_s
  | step hr hx _ ih => exact h.closed _ hr hx ih
theorem reach_iff {n : Net} (hR : Right n) {f : List Int} {x : Int} {M : List Bool} (h : IsReach n f x M) (i : Nat) : M.getD i false = true ↔ Rch n f x (i : Int) :=
  ⟨h.sound i, fun hv => by have := reach_all hR h hv; simpa using this⟩
theorem reach_one {n : Net} (hR : Right n) {f : List Int} {x : Int} {M1 M2 : List Bool} (h1 : IsReach n f x M1) (h2 : IsReach n f x M2) : M1 = M2 := by
  apply List.ext_getElem (by rw [h1.len, h2.len])
  intro i g1 g2
  have a := reach_iff hR h1 i
  have b := reach_iff hR h2 i
  have c : M1.getD i false = true ↔ M2.getD i false = true := a.trans b.symm
  simp only [List.getD_eq_getElem?_getD, List.getElem?_eq_getElem g1, List.getElem?_eq_getElem g2, Option.getD_some] at c
  exact Bool.eq_iff_iff.2 c
theorem rch_bd {n : Net} (hR : Right n) {f : List Int} {x v : Int} (h : Rch n f x v) : 1 ≤ v ∧ v ≤ n.n := by
  cases h with
  | base => exact ⟨hR.s0, hR.s1⟩
  | step hr _ _ => exact trT_bd hR hr
theorem cap_topR {n : Net} (hR : Right n) {i : Nat} (hi : i < n.l.length) : (arcAt n.l i).cap ≤ 4611686018427387903 := by
  have e : capS n.l (i + 1) ≤ capS n.l n.l.length := sumTo_mono hR.cap0 (by omega)
  have e2 : 0 ≤ capS n.l i := sumTo_nn fun j hj => hR.cap0 j (by omega)
  have e3 : capS n.l (i + 1) = capS n.l i + (arcAt n.l i).cap := rfl
  have := hR.sum
  omega
def reE (n : Net) (f : List Int) (x : Int) : Int := if chkF n f ≠ 0 then chkF n f else if x < 1 then 3 else 0
end Ne
end Go.Proofs.Ytcelggfnfnaajaa
