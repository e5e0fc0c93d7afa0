/-
  Plain facts on walks from a source to a sink, and on what is led along them. No condition.
  Plain facts on one walk that is led: what its rounds read and write. No condition.
  Plain facts on tracks: where they begin and end, their room, walks, what is pushed along them, where one comes. No condition.
  Plain facts on what is pushed along a walk: a flow, worth as much more; back again; unit by unit; what it says of where one comes. No condition.
  Plain facts: amounts that are a flow but for the value; a network turned. No condition.
  Plain facts on levels: how many tracks away a node is, levels that are told up to a number, tracks that lead on, nodes beside a node. No condition.
  Plain facts: there are levels; what Levels, Leads, Deep answer. No condition.
  Plain facts on levels: of two rooms, far rooms, tracks that lead on, walks. No condition.
  Stage 8: plain facts on walks over tracks that lead on: the first one, what is pushed along it, blocked again and again; the sink is farther away behind it. No condition.
  Stage 8: plain facts on the search for the next walk: what it keeps from walk to walk (rooms, tracks that it has not given up), and on the way; that there are first walks and walks that block. No condition.
-/
import Derived.Test.YtkeojkddbannpaaFlm
import Derived.Test.YtkeojkddbannpaaMadem
import Derived.Test.YtkeojkddbannpaaNets
namespace Go.Proofs.Ytkeojkddbannpaa
open Go.ChangeShapes Go.WideShapes Go.ChangeAt Go.RowKit
set_option linter.unusedVariables false
set_option linter.unusedSimpArgs false
namespace Ne
/-- 1 where an arc ends in v, -1 where it begins there -/
def dl (v : Int) (a : Arc) : Int := (if a.to = v then 1 else 0) - (if a.fr = v then 1 else 0)
/-- amounts, each times what c says of its arc, together -/
def excC (c : Arc → Int) (l : List Arc) (f : List Int) : Int := sumTo (fun i => c (arcAt l i) * amt f i) l.length
theorem exc_eq (l : List Arc) (f : List Int) (v : Int) : exc l f v = excC (dl v) l f := by
  unfold exc toS frS excC
  rw [← sumTo_sub]
  refine sumTo_congr fun i _ => ?_
  unfold dl
  by_cases h1 : (arcAt l i).to = v <;> by_cases h2 : (arcAt l i).fr = v <;> simp [h1, h2]
theorem excC_set (c : Arc → Int) {l : List Arc} {f : List Int} {j : Nat} (x : Int) (hl : f.length = l.length) (hj : j < l.length) : excC c l (f.set j x) = excC c l f + c (arcAt l j) * (x - amt f j) := by
  have h := sumTo_one (g := fun i => c (arcAt l i) * amt f i) (c (arcAt l j) * (x - amt f j)) hj
  rw [excC, excC, ← h]
  refine sumTo_congr fun i _ => ?_
  rw [amt_set x (by omega)]
  by_cases e : i = j
  · subst e; rw [if_pos rfl, if_pos rfl, ← Int.mul_add]; congr 1; omega
  · rw [if_neg e, if_neg e]
/-- the arcs that lead on: from u, to a node that was not met, with room -/
def fitL (l : List Arc) (f : List Int) (met : List Bool) (u : Int) (k : Nat) : List Nat :=
  (List.range k).filter fun i => decide ((arcAt l i).fr = u) && (!(met.getD (arcAt l i).to.toNat false) && decide (amt f i < (arcAt l i).cap))
def pickIx (raw : Int) (w k : Nat) : Nat := (pickN (raw.tdiv ((w : Int) + 1)) (k : Int)).toNat
def goN (l : List Arc) (f : List Int) (raw t : Int) : Nat → List Bool → Int → List Nat → List Nat
  | 0, _, _, _ => []
  | fuel + 1, met, u, wk => if u = t then wk else
      if fitL l f met u l.length = [] then [] else
        goN l f raw t fuel (met.set (arcAt l ((fitL l f met u l.length).getD (pickIx raw wk.length (fitL l f met u l.length).length) 0)).to.toNat true)
          (arcAt l ((fitL l f met u l.length).getD (pickIx raw wk.length (fitL l f met u l.length).length) 0)).to
          (wk ++ [(fitL l f met u l.length).getD (pickIx raw wk.length (fitL l f met u l.length).length) 0])
def walkN (n : Net) (f : List Int) (raw : Int) : List Nat := goN n.l f raw n.t (n.n.toNat + 2) ((List.replicate (n.n.toNat + 1) false).set n.s.toNat true) n.s []
/-- how many nodes were not met -/
def unmet (met : List Bool) : Nat := met.countP (fun b => !b)
theorem unmet_set {met : List Bool} {i : Nat} (hi : i < met.length) (h : met.getD i false = false) : unmet (met.set i true) + 1 = unmet met := by
  unfold unmet
  induction met generalizing i with
  | nil => simp at hi
  | cons b met ih =>
    rcases i with _ | i
    · simp at h; subst h; simp
    · have := ih (i := i) (by simpa using hi) (by simpa using h)
      simp only [List.set_cons_succ, List.countP_cons]
      omega
theorem fitL_zero (l : List Arc) (f : List Int) (met : List Bool) (u : Int) : fitL l f met u 0 = [] := rfl
theorem fitL_succ (l : List Arc) (f : List Int) (met : List Bool) (u : Int) (k : Nat) : fitL l f met u (k + 1) = fitL l f met u k ++ if (decide ((arcAt l k).fr = u) && (!(met.getD (arcAt l k).to.toNat false) && decide (amt f k < (arcAt l k).cap))) = true then [k] else [] := by
  unfold fitL; rw [List.range_succ, List.filter_append]
  congr 1
  rw [List.filter_cons, List.filter_nil]
theorem fitL_mem {l : List Arc} {f : List Int} {met : List Bool} {u : Int} {k j : Nat} (h : j ∈ fitL l f met u k) : j < k ∧ (arcAt l j).fr = u ∧ met.getD (arcAt l j).to.toNat false = false ∧ amt f j < (arcAt l j).cap := by
  obtain ⟨h1, h2⟩ := List.mem_filter.1 h
  simp only [Bool.and_eq_true, decide_eq_true_eq, Bool.not_eq_true'] at h2
  exact ⟨List.mem_range.1 h1, h2.1, h2.2.1, h2.2.2⟩
theorem fitL_len (l : List Arc) (f : List Int) (met : List Bool) (u : Int) (k : Nat) : (fitL l f met u k).length ≤ k := by
  unfold fitL; exact Nat.le_trans (List.length_filter_le _ _) (by simp)
theorem pickIx_lt (raw : Int) (w : Nat) {k : Nat} (hk : 0 < k) : pickIx raw w k < k := by
  unfold pickIx
  have := pickN_bd (c := raw.tdiv ((w : Int) + 1)) (n := (k : Int)) (by omega)
  omega
theorem getD_mem {l : List Nat} {i : Nat} (h : i < l.length) : l.getD i 0 ∈ l := by
  rw [List.getD_eq_getElem?_getD, List.getElem?_eq_getElem h]; simp
/-- what the next arc is -/
theorem next_arc {l : List Arc} {f : List Int} {met : List Bool} {u raw : Int} {w : Nat} (h : fitL l f met u l.length ≠ []) :
    (fitL l f met u l.length).getD (pickIx raw w (fitL l f met u l.length).length) 0 ∈ fitL l f met u l.length :=
  getD_mem (pickIx_lt raw w (List.length_pos_iff.2 h))
/-- a walk from s to u, each of whose arcs has room and is there once -/
structure Way (l : List Arc) (f : List Int) (s u : Int) (wk : List Nat) : Prop where
  room : ∀ k ∈ wk, k < l.length ∧ amt f k < (arcAt l k).cap
  nodup : wk.Nodup
  ends : ∀ v, (wk.map fun k => dl v (arcAt l k)).sum = (if u = v then 1 else 0) - (if s = v then 1 else 0)
theorem way_nil (l : List Arc) (f : List Int) (s : Int) : Way l f s s [] := ⟨fun k hk => by simp at hk, List.nodup_nil, fun v => by simp⟩
theorem way_snoc {l : List Arc} {f : List Int} {s u : Int} {wk : List Nat} {k : Nat} (h : Way l f s u wk) (hk : k < l.length) (hr : amt f k < (arcAt l k).cap) (hu : (arcAt l k).fr = u) (hn : k ∉ wk) : Way l f s (arcAt l k).to (wk ++ [k]) := by
  refine ⟨fun j hj => ?_, ?_, fun v => ?_⟩
  · rcases List.mem_append.1 hj with h1 | h1
    · exact h.room j h1
    · simp at h1; subst h1; exact ⟨hk, hr⟩
  · rw [List.nodup_append]
    refine ⟨h.nodup, by simp, fun a ha b hb => ?_⟩
    simp at hb; subst hb; intro e; subst e; exact hn ha
  · rw [List.map_append, List.sum_append, h.ends v]
    simp only [List.map_cons, List.map_nil, List.sum_cons, List.sum_nil, dl, hu]
    omega
theorem goN_way {l : List Arc} {f : List Int} {raw s t : Int} {N : Nat} (hto : ∀ i, i < l.length → (arcAt l i).to.toNat < N) : ∀ (fuel : Nat) (met : List Bool) (u : Int) (wk : List Nat),
    met.length = N → Way l f s u wk → (∀ k ∈ wk, met.getD (arcAt l k).to.toNat false = true) → goN l f raw t fuel met u wk = [] ∨ Way l f s t (goN l f raw t fuel met u wk)
  | 0, _, _, _, _, _, _ => .inl rfl
  | fuel + 1, met, u, wk, hN, hw, hm => by
    unfold goN
    by_cases c : u = t
    · rw [if_pos c]; subst c; exact .inr hw
    · rw [if_neg c]
      by_cases d : fitL l f met u l.length = []
      · rw [if_pos d]; exact .inl rfl
      · rw [if_neg d]
        have hk := next_arc (raw := raw) (w := wk.length) d
        generalize (fitL l f met u l.length).getD (pickIx raw wk.length (fitL l f met u l.length).length) 0 = k at hk ⊢
        obtain ⟨h1, h2, h3, h4⟩ := fitL_mem hk
        have hni : k ∉ wk := fun h => by have := hm k h; rw [h3] at this; cases this
        refine goN_way hto fuel _ _ _ (by simpa using hN) (way_snoc hw h1 h4 h2 hni) fun j hj => ?_
        have hlt : (arcAt l k).to.toNat < met.length := by rw [hN]; exact hto k h1
        rcases List.mem_append.1 hj with h5 | h5
        · by_cases e : (arcAt l j).to.toNat = (arcAt l k).to.toNat
          · rw [e]; simp [hlt]
          · have := hm j h5
            simpa [List.getElem?_set_ne (Ne.symm e)] using this
        · simp at h5; subst h5; simp [hlt]
theorem walkN_way {n : Net} (hR : Right n) (f : List Int) (raw : Int) : walkN n f raw = [] ∨ Way n.l f n.s n.t (walkN n f raw) := by
  unfold walkN
  have hn0 := hR.n0
  refine goN_way (N := n.n.toNat + 1) (fun i hi => ?_) _ _ _ _ (by simp) (way_nil _ _ _) (fun k hk => by simp at hk)
  have := hR.to0 i hi
  have := hR.to1 i hi
  omega
/-- one more arc: what the program's round does to the fuel -/
theorem goN_step {l : List Arc} {f : List Int} {raw t : Int} {fuel : Nat} {met : List Bool} {u : Int} {wk : List Nat} {k : Nat} (hu : u ≠ t) (hf : fitL l f met u l.length ≠ []) (hk : (fitL l f met u l.length).getD (pickIx raw wk.length (fitL l f met u l.length).length) 0 = k) :
    goN l f raw t (fuel + 1) met u wk = goN l f raw t fuel (met.set (arcAt l k).to.toNat true) (arcAt l k).to (wk ++ [k]) := by
  conv => lhs; unfold goN
  rw [if_neg hu, if_neg hf, hk]
/-- the most that fits, no more than m -/
def mostN (l : List Arc) (f : List Int) (m : Int) (R : List Nat) : Int := R.foldl (fun m k => if (arcAt l k).cap - amt f k < m then (arcAt l k).cap - amt f k else m) m
theorem mostN_snoc (l : List Arc) (f : List Int) (m : Int) (R : List Nat) (k : Nat) : mostN l f m (R ++ [k]) = if (arcAt l k).cap - amt f k < mostN l f m R then (arcAt l k).cap - amt f k else mostN l f m R := by
  unfold mostN; rw [List.foldl_append]; rfl
theorem mostN_le {l : List Arc} {f : List Int} : ∀ (R : List Nat) (m : Int), mostN l f m R ≤ m ∧ ∀ k ∈ R, mostN l f m R ≤ (arcAt l k).cap - amt f k
  | [], m => ⟨Int.le_refl _, fun k hk => by simp at hk⟩
  | k :: R, m => by
    have e : mostN l f m (k :: R) = mostN l f (if (arcAt l k).cap - amt f k < m then (arcAt l k).cap - amt f k else m) R := rfl
    obtain ⟨h1, h2⟩ := mostN_le (l := l) (f := f) R (if (arcAt l k).cap - amt f k < m then (arcAt l k).cap - amt f k else m)
    rw [← e] at h1 h2
    have h3 : (if (arcAt l k).cap - amt f k < m then (arcAt l k).cap - amt f k else m) ≤ m ∧ (if (arcAt l k).cap - amt f k < m then (arcAt l k).cap - amt f k else m) ≤ (arcAt l k).cap - amt f k := by
      split <;> omega
    refine ⟨by omega, fun j hj => ?_⟩
    rcases List.mem_cons.1 hj with h | h
    · subst h; omega
    · exact h2 j h
theorem mostN_nn {l : List Arc} {f : List Int} : ∀ (R : List Nat) (m : Int), 0 ≤ m → (∀ k ∈ R, 0 ≤ (arcAt l k).cap - amt f k) → 0 ≤ mostN l f m R
  | [], m, h, _ => h
  | k :: R, m, h, hk => by
    have e : mostN l f m (k :: R) = mostN l f (if (arcAt l k).cap - amt f k < m then (arcAt l k).cap - amt f k else m) R := rfl
    rw [e]
    refine mostN_nn R _ ?_ fun j hj => hk j (List.mem_cons_of_mem _ hj)
    have := hk k List.mem_cons_self
    split <;> omega
/-- m more on each arc of a walk -/
def addN (m : Int) (f : List Int) (R : List Nat) : List Int := R.foldl (fun f k => f.set k (amt f k + m)) f
theorem addN_snoc (m : Int) (f : List Int) (R : List Nat) (k : Nat) : addN m f (R ++ [k]) = (addN m f R).set k (amt (addN m f R) k + m) := by
  unfold addN; rw [List.foldl_append]; rfl
theorem addN_len (m : Int) : ∀ (R : List Nat) (f : List Int), (addN m f R).length = f.length
  | [], _ => rfl
  | k :: R, f => by
    have e : addN m f (k :: R) = addN m (f.set k (amt f k + m)) R := rfl
    rw [e, addN_len m R]; simp
theorem addN_at {m : Int} : ∀ (R : List Nat) (f : List Int), R.Nodup → (∀ k ∈ R, k < f.length) → ∀ i, amt (addN m f R) i = amt f i + if i ∈ R then m else 0
  | [], f, _, _, i => by simp [addN]
  | k :: R, f, hn, hk, i => by
    have e : addN m f (k :: R) = addN m (f.set k (amt f k + m)) R := rfl
    obtain ⟨h1, h2⟩ := List.nodup_cons.1 hn
    rw [e, addN_at R _ h2 (fun j hj => by rw [List.length_set]; exact hk j (List.mem_cons_of_mem _ hj)) i, amt_set _ (hk k List.mem_cons_self)]
    by_cases c : i = k
    · subst c; simp [h1]
    · simp [c]
theorem addN_exc (c : Arc → Int) {m : Int} {l : List Arc} : ∀ (R : List Nat) (f : List Int), f.length = l.length → (∀ k ∈ R, k < l.length) → excC c l (addN m f R) = excC c l f + m * (R.map fun k => c (arcAt l k)).sum
  | [], f, _, _ => by simp [addN]
  | k :: R, f, hl, hk => by
    have e : addN m f (k :: R) = addN m (f.set k (amt f k + m)) R := rfl
    rw [e, addN_exc c R _ (by simpa using hl) (fun j hj => hk j (List.mem_cons_of_mem _ hj)), excC_set c _ hl (hk k List.mem_cons_self)]
    simp only [List.map_cons, List.sum_cons, Int.mul_add]
    rw [show amt f k + m - amt f k = m by omega, Int.mul_comm (c (arcAt l k)) m]
    omega
/-- one walk led -/
def stepR (n : Net) (f : List Int) (raw : Int) : List Int := addN (mostN n.l f (pickN raw 30 + 1) (walkN n f raw)) f (walkN n f raw)
def routeN (n : Net) (ks : List Int) : List Int := (ks.take 8).foldl (stepR n) (List.replicate n.l.length 0)
/-- a flow whose value is not below nothing -/
structure Flow (n : Net) (f : List Int) : Prop where
  len : f.length = n.l.length
  wi : wi n.l f
  calm : ∀ v, v ≠ n.s → v ≠ n.t → exc n.l f v = 0
  ends : exc n.l f n.s = -exc n.l f n.t
  val : 0 ≤ exc n.l f n.t
theorem exc_zero {l : List Arc} {f : List Int} (h : ∀ i, amt f i = 0) (v : Int) : exc l f v = 0 := by
  rw [exc_eq]; exact sumTo_zero fun i _ => by rw [h i, Int.mul_zero]
theorem flow_nought {n : Net} (hR : Right n) : Flow n (List.replicate n.l.length 0) := by
  have h : ∀ i, amt (List.replicate n.l.length (0 : Int)) i = 0 := fun i => by
    unfold amt
    by_cases e : i < n.l.length
    · simp [e]
    · simp [Nat.not_lt.1 e]
  exact ⟨by simp, fun i hi => by rw [h i]; exact ⟨Int.le_refl _, hR.cap0 i hi⟩, fun v _ _ => exc_zero h v, by rw [exc_zero h, exc_zero h]; rfl, by rw [exc_zero h]; exact Int.le_refl _⟩
theorem step_flow {n : Net} (hR : Right n) {f : List Int} (hF : Flow n f) (raw : Int) : Flow n (stepR n f raw) ∧ ∀ i, amt f i ≤ amt (stepR n f raw) i := by
  rcases walkN_way hR f raw with h | h
  · unfold stepR; rw [h]; exact ⟨hF, fun i => Int.le_refl _⟩
  · unfold stepR
    generalize walkN n f raw = R at *
    have hb := pickN_bd (c := raw) (n := 30) (by omega)
    generalize pickN raw 30 = p at *
    have hm0 := mostN_nn (l := n.l) (f := f) R (p + 1) (by omega) fun k hk => by have := h.room k hk; omega
    have hm1 := (mostN_le (l := n.l) (f := f) R (p + 1)).2
    generalize mostN n.l f (p + 1) R = m at *
    have hk : ∀ k ∈ R, k < f.length := fun k hk => by rw [hF.len]; exact (h.room k hk).1
    have ha := addN_at (m := m) R f h.nodup hk
    have he : ∀ v, exc n.l (addN m f R) v = exc n.l f v + m * ((if n.t = v then 1 else 0) - (if n.s = v then 1 else 0)) := fun v => by
      rw [exc_eq, exc_eq, addN_exc (dl v) R f hF.len (fun k hk => (h.room k hk).1), h.ends v]
    refine ⟨⟨by rw [addN_len, hF.len], fun i hi => ?_, fun v hs ht => ?_, ?_, ?_⟩, fun i => ?_⟩
    · rw [ha i]
      have := hF.wi i hi
      by_cases c : i ∈ R
      · rw [if_pos c]; have := hm1 i c; omega
      · rw [if_neg c]; omega
    · rw [he v, if_neg (Ne.symm ht), if_neg (Ne.symm hs), hF.calm v hs ht]; simp
    · rw [he n.s, he n.t, if_pos rfl, if_neg (Ne.symm hR.ne), if_pos rfl, if_neg hR.ne, hF.ends]; omega
    · rw [he n.t, if_pos rfl, if_neg hR.ne]; have := hF.val; omega
    · rw [ha i]; split <;> omega
theorem fold_flow {n : Net} (hR : Right n) : ∀ (ks : List Int) {f : List Int}, Flow n f → Flow n (ks.foldl (stepR n) f) ∧ ∀ i, amt f i ≤ amt (ks.foldl (stepR n) f) i
  | [], f, h => ⟨h, fun i => Int.le_refl _⟩
  | k :: ks, f, h => by
    obtain ⟨h1, h2⟩ := step_flow hR h k
    obtain ⟨h3, h4⟩ := fold_flow hR ks h1
    exact ⟨h3, fun i => Int.le_trans (h2 i) (h4 i)⟩
theorem route_flow {n : Net} (hR : Right n) (ks : List Int) : Flow n (routeN n ks) := (fold_flow hR _ (flow_nought hR)).1
theorem route_pre {n : Net} (hR : Right n) (ks : List Int) (p : Nat) : ∀ i, amt (routeN n (ks.take p)) i ≤ amt (routeN n ks) i := by
  intro i
  unfold routeN
  rw [List.take_take]
  rcases Nat.le_total 8 p with h | h
  · rw [Nat.min_eq_left h]; exact Int.le_refl _
  · rw [Nat.min_eq_right h]
    have e : ks.take 8 = ks.take p ++ (ks.take 8).drop p := by
      have := List.take_append_drop p (ks.take 8)
      rw [List.take_take, Nat.min_eq_left h] at this
      exact this.symm
    rw [e, List.foldl_append]
    exact (fold_flow hR _ (fold_flow hR _ (flow_nought hR)).1).2 i
/-- what is a flow is found right -/
theorem flow_chkA {n : Net} {f : List Int} (h1 : checkN n = 0) (hF : Flow n f) : chkA n f = 0 := chkA_in h1 hF.len hF.wi
theorem flow_chkF {n : Net} {f : List Int} (h1 : checkN n = 0) (hF : Flow n f) : chkF n f = 0 := chkF_in (flow_chkA h1 hF) fun v _ hs ht => hF.calm _ hs ht
theorem flow_vaV {n : Net} {f : List Int} (h1 : checkN n = 0) (hF : Flow n f) : vaV n f = exc n.l f n.t := by unfold vaV; rw [if_neg (by simpa using flow_chkF h1 hF)]
theorem flow_exE {n : Net} {f : List Int} {v : Int} (h1 : checkN n = 0) (hF : Flow n f) (h2 : 1 ≤ v) (h3 : v ≤ n.n) : exE n f v = 0 ∧ exV n f v = exc n.l f v := by
  have e : exE n f v = 0 := by unfold exE; rw [if_neg (by simpa using flow_chkA h1 hF), if_neg (by omega)]
  exact ⟨e, by unfold exV; rw [if_neg (by simpa using e)]⟩
/-- a network that is made is right -/
theorem made_check {nodes ends : Int} {l : List Arc} (h : ∀ a ∈ l, a.ok) : checkN (madeN nodes ends l) = 0 := by
  obtain ⟨_, _, _, _, _, _, _, _, h9⟩ := madeN_fine (nodes := nodes) (ends := ends) h
  exact checkN_fine (madeN_h h) h9
end Ne
end Go.Proofs.Ytkeojkddbannpaa
namespace Go.Proofs.Ytkeojkddbannpaa
open Go.ChangeShapes Go.WideShapes Go.ChangeAt Go.RowKit
set_option linter.unusedVariables false
set_option linter.unusedSimpArgs false
namespace Ne
theorem take_getD {R : List Nat} {q : Nat} (h : q < R.length) : R.take (q + 1) = R.take q ++ [R.getD q 0] := by
  rw [List.take_add_one, List.getElem?_eq_getElem h, List.getD_eq_getElem?_getD, List.getElem?_eq_getElem h]; rfl
theorem getD_notin {R : List Nat} {q : Nat} (hn : R.Nodup) (h : q < R.length) : R.getD q 0 ∉ R.take q := by
  have h1 := List.nodup_append.1 (take_getD h ▸ (hn.sublist (List.take_sublist _ _)) : (R.take q ++ [R.getD q 0]).Nodup)
  intro hm
  exact h1.2.2 _ hm _ (by simp) rfl
/-- what stands at the q-th arc of the walk, ahead of what is led and while it is -/
structure Led (n : Net) (F : List Int) (R : List Nat) (m0 : Int) : Prop where
  arc : ∀ q, q < R.length → R.getD q 0 < n.l.length
  amt0 : ∀ q, q < R.length → 0 ≤ amt F (R.getD q 0) ∧ amt F (R.getD q 0) ≤ (arcAt n.l (R.getD q 0)).cap
  most : ∀ q, q ≤ R.length → 0 ≤ mostN n.l F m0 (R.take q) ∧ mostN n.l F m0 (R.take q) ≤ m0
  room : ∀ q, q < R.length → amt F (R.getD q 0) + mostN n.l F m0 R ≤ (arcAt n.l (R.getD q 0)).cap
  now : ∀ (m : Int) q, q < R.length → amt (addN m F (R.take q)) (R.getD q 0) = amt F (R.getD q 0)
  len : R.length ≤ n.l.length
theorem led {n : Net} (hR : Right n) {F : List Int} (hF : Flow n F) (raw m0 : Int) (hm : 0 ≤ m0) : Led n F (walkN n F raw) m0 := by
  rcases walkN_way hR F raw with h | h
  · rw [h]
    exact ⟨fun q hq => by simp at hq, fun q hq => by simp at hq, fun q hq => by simp [mostN]; exact hm, fun q hq => by simp at hq, fun m q hq => by simp at hq, by simp⟩
  · generalize walkN n F raw = R at *
    have hk : ∀ q, q < R.length → R.getD q 0 ∈ R := fun q hq => getD_mem hq
    have hk2 : ∀ k ∈ R, k < F.length := fun k hk => by rw [hF.len]; exact (h.room k hk).1
    refine ⟨fun q hq => (h.room _ (hk q hq)).1, fun q hq => hF.wi _ (h.room _ (hk q hq)).1, fun q hq => ⟨mostN_nn _ _ hm fun k hk' => ?_, (mostN_le _ _).1⟩, fun q hq => ?_, fun m q hq => ?_, nodup_len h.nodup fun k hk => (h.room k hk).1⟩
    · have := h.room k (List.mem_of_mem_take hk'); omega
    · have := (mostN_le (l := n.l) (f := F) R m0).2 _ (hk q hq); omega
    · rw [addN_at _ _ (h.nodup.sublist (List.take_sublist _ _)) (fun k hk' => hk2 k (List.mem_of_mem_take hk')), if_neg (getD_notin h.nodup hq), Int.add_zero]
/-- behind j walks -/
def routeJ (n : Net) (ks : List Int) (j : Nat) : List Int := (ks.take j).foldl (stepR n) (List.replicate n.l.length 0)
theorem routeJ_succ (n : Net) {ks : List Int} {j : Nat} {x : Int} (h : ks[j]? = some x) : routeJ n ks (j + 1) = stepR n (routeJ n ks j) x := by
  unfold routeJ; rw [List.take_add_one, h, List.foldl_append]; rfl
theorem routeJ_flow {n : Net} (hR : Right n) (ks : List Int) (j : Nat) : Flow n (routeJ n ks j) := (fold_flow hR _ (flow_nought hR)).1
theorem routeJ_all {n : Net} {ks : List Int} {j : Nat} (h : j = 8 ∨ (j < 8 ∧ ks.length ≤ j)) : routeJ n ks j = routeN n ks := by
  unfold routeJ routeN
  rcases h with h | ⟨h1, h2⟩
  · rw [h]
  · rw [List.take_of_length_le h2, List.take_of_length_le (by omega)]
end Ne
end Go.Proofs.Ytkeojkddbannpaa
namespace Go.Proofs.Ytkeojkddbannpaa
open Go.ChangeShapes Go.WideShapes Go.ChangeAt Go.RowKit
set_option linter.unusedVariables false
set_option linter.unusedSimpArgs false
namespace Ne
/-- where a track begins, ends, its room -/
def trF (l : List Arc) (r : Nat) : Int := if r % 2 = 1 then (arcAt l (r / 2)).to else (arcAt l (r / 2)).fr
def trT (l : List Arc) (r : Nat) : Int := if r % 2 = 1 then (arcAt l (r / 2)).fr else (arcAt l (r / 2)).to
def roomN (l : List Arc) (f : List Int) (r : Nat) : Int := if r % 2 = 1 then amt f (r / 2) else (arcAt l (r / 2)).cap - amt f (r / 2)
/-- the same of a number that is no track -/
def enF (l : List Arc) (r : Int) : Int := if 0 ≤ r ∧ r < 2 * (l.length : Int) then trF l r.toNat else 0
def enT (l : List Arc) (r : Int) : Int := if 0 ≤ r ∧ r < 2 * (l.length : Int) then trT l r.toNat else 0
/-- a track's other one -/
def opp (r : Nat) : Nat := if r % 2 = 1 then r - 1 else r + 1
theorem opp_half (r : Nat) : opp r / 2 = r / 2 := by unfold opp; split <;> omega
theorem opp_odd (r : Nat) : opp r % 2 = 1 - r % 2 := by unfold opp; split <;> omega
theorem opp_lt {r L : Nat} (h : r < 2 * L) : opp r < 2 * L := by unfold opp; split <;> omega
theorem opp_opp (r : Nat) : opp (opp r) = r := by unfold opp; split <;> split <;> omega
theorem trF_opp (l : List Arc) (r : Nat) : trF l (opp r) = trT l r := by
  unfold trF trT; rw [opp_half, opp_odd]
  by_cases h : r % 2 = 1
  · rw [h]; simp
  · rw [if_neg h, if_pos (by omega)]
theorem trT_opp (l : List Arc) (r : Nat) : trT l (opp r) = trF l r := by have := trF_opp l (opp r); rw [opp_opp] at this; exact this.symm
theorem room_opp (l : List Arc) (f : List Int) (r : Nat) : roomN l f r + roomN l f (opp r) = (arcAt l (r / 2)).cap := by
  unfold roomN; rw [opp_half, opp_odd]
  by_cases h : r % 2 = 1
  · rw [h]; simp; omega
  · rw [if_neg h, if_pos (by omega)]; omega
theorem room_even (l : List Arc) (f : List Int) (i : Nat) : roomN l f (2 * i) = (arcAt l i).cap - amt f i := by
  unfold roomN; rw [if_neg (by omega), show 2 * i / 2 = i by omega]
theorem room_odd (l : List Arc) (f : List Int) (i : Nat) : roomN l f (2 * i + 1) = amt f i := by
  unfold roomN; rw [if_pos (by omega), show (2 * i + 1) / 2 = i by omega]
theorem trF_even (l : List Arc) (i : Nat) : trF l (2 * i) = (arcAt l i).fr := by unfold trF; rw [if_neg (by omega), show 2 * i / 2 = i by omega]
theorem trT_even (l : List Arc) (i : Nat) : trT l (2 * i) = (arcAt l i).to := by unfold trT; rw [if_neg (by omega), show 2 * i / 2 = i by omega]
theorem trF_odd (l : List Arc) (i : Nat) : trF l (2 * i + 1) = (arcAt l i).to := by unfold trF; rw [if_pos (by omega), show (2 * i + 1) / 2 = i by omega]
theorem trT_odd (l : List Arc) (i : Nat) : trT l (2 * i + 1) = (arcAt l i).fr := by unfold trT; rw [if_pos (by omega), show (2 * i + 1) / 2 = i by omega]
theorem enF_in {l : List Arc} {r : Nat} (h : r < 2 * l.length) : enF l (r : Int) = trF l r := by unfold enF; rw [if_pos (by omega), Int.toNat_natCast]
theorem enT_in {l : List Arc} {r : Nat} (h : r < 2 * l.length) : enT l (r : Int) = trT l r := by unfold enT; rw [if_pos (by omega), Int.toNat_natCast]
theorem enF_out {l : List Arc} {r : Int} (h : r < 0 ∨ 2 * (l.length : Int) ≤ r) : enF l r = 0 := by unfold enF; rw [if_neg (by omega)]
theorem enT_out {l : List Arc} {r : Int} (h : r < 0 ∨ 2 * (l.length : Int) ≤ r) : enT l r = 0 := by unfold enT; rw [if_neg (by omega)]
theorem trF_bd {n : Net} (hR : Right n) {r : Nat} (h : r < 2 * n.l.length) : 1 ≤ trF n.l r ∧ trF n.l r ≤ n.n := by
  have hi : r / 2 < n.l.length := by omega
  have := hR.fr0 _ hi; have := hR.fr1 _ hi; have := hR.to0 _ hi; have := hR.to1 _ hi
  unfold trF; split <;> omega
theorem trT_bd {n : Net} (hR : Right n) {r : Nat} (h : r < 2 * n.l.length) : 1 ≤ trT n.l r ∧ trT n.l r ≤ n.n := by
  rw [← trF_opp]; exact trF_bd hR (opp_lt h)
theorem room_nn {l : List Arc} {f : List Int} (hw : wi l f) {r : Nat} (h : r < 2 * l.length) : 0 ≤ roomN l f r ∧ roomN l f r ≤ (arcAt l (r / 2)).cap := by
  have := hw (r / 2) (by omega)
  unfold roomN; split <;> omega
theorem enF_some {n : Net} (hR : Right n) {r : Int} (h : enF n.l r ≠ 0) : ∃ k : Nat, r = (k : Int) ∧ k < 2 * n.l.length := by
  unfold enF at h
  by_cases c : 0 ≤ r ∧ r < 2 * (n.l.length : Int)
  · exact ⟨r.toNat, by omega, by omega⟩
  · rw [if_neg c] at h; exact absurd rfl h
/-- the room of the first k tracks; the tracks of a node among them -/
def roomL (l : List Arc) (f : List Int) (k : Nat) : List Int := (List.range k).map (roomN l f)
theorem roomL_len (l : List Arc) (f : List Int) (k : Nat) : (roomL l f k).length = k := by simp [roomL]
theorem roomL_succ (l : List Arc) (f : List Int) (k : Nat) : roomL l f (k + 1) = roomL l f k ++ [roomN l f k] := by simp [roomL, List.range_succ]
theorem roomL_at (l : List Arc) (f : List Int) {i k : Nat} (h : i < k) : amt (roomL l f k) i = roomN l f i := by simp [roomL, amt, h]
def fromL (l : List Arc) (v : Int) (k : Nat) : List Nat := (List.range k).filter fun r => decide (trF l r = v)
theorem fromL_zero (l : List Arc) (v : Int) : fromL l v 0 = [] := rfl
theorem fromL_hit {l : List Arc} {v : Int} {k : Nat} (h : trF l k = v) : fromL l v (k + 1) = fromL l v k ++ [k] := by
  unfold fromL; rw [List.range_succ, List.filter_append]; simp [h]
theorem fromL_miss {l : List Arc} {v : Int} {k : Nat} (h : trF l k ≠ v) : fromL l v (k + 1) = fromL l v k := by
  unfold fromL; rw [List.range_succ, List.filter_append]; simp [h]
theorem fromL_len (l : List Arc) (v : Int) (k : Nat) : (fromL l v k).length ≤ k := by
  unfold fromL; exact Nat.le_trans (List.length_filter_le _ _) (by simp)
theorem fromL_mem {l : List Arc} {v : Int} {k r : Nat} : r ∈ fromL l v k ↔ r < k ∧ trF l r = v := by
  unfold fromL; rw [List.mem_filter, List.mem_range, decide_eq_true_eq]
/-- where a walk comes from u on -/
def stW (l : List Arc) (o : Option Int) (r : Int) : Option Int := match o with
  | some u => if enF l r = u then some (enT l r) else none
  | none => none
def walkAt (l : List Arc) (s : Int) (W : List Int) : Option Int := W.foldl (stW l) (some s)
theorem stW_none (l : List Arc) : ∀ W : List Int, W.foldl (stW l) none = none
  | [] => rfl
  | _ :: W => stW_none l W
theorem walkAt_snoc (l : List Arc) (s : Int) (W : List Int) (r : Int) : walkAt l s (W ++ [r]) = stW l (walkAt l s W) r := by unfold walkAt; rw [List.foldl_append]; rfl
theorem walkAt_app (l : List Arc) (s : Int) (W V : List Int) : walkAt l s (W ++ V) = V.foldl (stW l) (walkAt l s W) := by unfold walkAt; rw [List.foldl_append]
theorem take_amt {W : List Int} {k : Nat} (h : k < W.length) : W.take (k + 1) = W.take k ++ [amt W k] := by
  rw [List.take_add_one, at_amt h]; rfl
theorem walkAt_take {l : List Arc} {s : Int} {W : List Int} {k : Nat} (h : k < W.length) : walkAt l s (W.take (k + 1)) = stW l (walkAt l s (W.take k)) (amt W k) := by
  rw [take_amt h, walkAt_snoc]
theorem walkAt_dead {l : List Arc} {s : Int} {W : List Int} {k : Nat} (h : walkAt l s (W.take k) = none) : walkAt l s W = none := by
  have e := walkAt_app l s (W.take k) (W.drop k)
  rw [List.take_append_drop] at e
  rw [e, h, stW_none]
def isWalk (n : Net) (W : List Int) : Bool := decide (walkAt n.l n.s W = some n.t)
theorem isWalk_no {n : Net} {W : List Int} {k : Nat} (h : walkAt n.l n.s (W.take k) = none) : isWalk n W = false := by
  unfold isWalk; rw [walkAt_dead h]; simp
theorem isWalk_end {n : Net} {W : List Int} {u : Int} (h : walkAt n.l n.s W = some u) : isWalk n W = decide (u = n.t) := by
  unfold isWalk; rw [h]; simp
theorem walkAt_pos {n : Net} (hR : Right n) {W : List Int} : ∀ {k : Nat} {u : Int}, k ≤ W.length → walkAt n.l n.s (W.take k) = some u → 1 ≤ u ∧ u ≤ n.n ∧ ∀ i, i < k → ∃ r : Nat, amt W i = (r : Int) ∧ r < 2 * n.l.length
  | 0, u, _, h => by
    simp [walkAt] at h; subst h; exact ⟨hR.s0, hR.s1, fun i hi => absurd hi (by omega)⟩
  | k + 1, u, hk, h => by
    rw [walkAt_take (by omega)] at h
    rcases e : walkAt n.l n.s (W.take k) with _ | u0
    · rw [e] at h; cases h
    · obtain ⟨h1, h2, h3⟩ := walkAt_pos hR (W := W) (k := k) (by omega) e
      rw [e] at h
      unfold stW at h
      by_cases c : enF n.l (amt W k) = u0
      · simp only [if_pos c] at h
        obtain ⟨r, hr, hr2⟩ := enF_some hR (r := amt W k) (by omega)
        have hu := Option.some.inj h
        rw [hr, enT_in hr2] at hu
        have := trT_bd hR hr2
        refine ⟨by omega, by omega, fun i hi => ?_⟩
        by_cases e2 : i = k
        · subst e2; exact ⟨r, hr, hr2⟩
        · exact h3 i (by omega)
      · simp only [if_neg c] at h; cases h
/-- amounts behind x more along a track -/
def put1 (f : List Int) (x : Int) (r : Nat) : List Int := f.set (r / 2) (if r % 2 = 1 then amt f (r / 2) - x else amt f (r / 2) + x)
def stP (l : List Arc) (x : Int) (o : Option (List Int)) (r : Int) : Option (List Int) := match o with
  | some f => if roomN l f r.toNat < x then none else some (put1 f x r.toNat)
  | none => none
def pushN (l : List Arc) (f : List Int) (x : Int) (W : List Int) : Option (List Int) := W.foldl (stP l x) (some f)
theorem stP_none (l : List Arc) (x : Int) : ∀ W : List Int, W.foldl (stP l x) none = none
  | [] => rfl
  | _ :: W => stP_none l x W
theorem pushN_app (l : List Arc) (f : List Int) (x : Int) (W V : List Int) : pushN l f x (W ++ V) = V.foldl (stP l x) (pushN l f x W) := by unfold pushN; rw [List.foldl_append]
theorem pushN_take {l : List Arc} {f : List Int} {x : Int} {W : List Int} {k : Nat} (h : k < W.length) : pushN l f x (W.take (k + 1)) = stP l x (pushN l f x (W.take k)) (amt W k) := by
  rw [take_amt h, pushN_app]; rfl
theorem pushN_dead {l : List Arc} {f : List Int} {x : Int} {W : List Int} {k : Nat} (h : pushN l f x (W.take k) = none) : pushN l f x W = none := by
  have e := pushN_app l f x (W.take k) (W.drop k)
  rw [List.take_append_drop] at e
  rw [e, h, stP_none]
theorem put1_len (f : List Int) (x : Int) (r : Nat) : (put1 f x r).length = f.length := by simp [put1]
theorem put1_at {f : List Int} {x : Int} {r : Nat} (h : r / 2 < f.length) (i : Nat) : amt (put1 f x r) i = if i = r / 2 then (if r % 2 = 1 then amt f i - x else amt f i + x) else amt f i := by
  unfold put1; rw [amt_set _ h]
  by_cases e : i = r / 2
  · subst e; simp
  · rw [if_neg e, if_neg e]
theorem put1_wi {l : List Arc} {f : List Int} {x : Int} {r : Nat} (hl : f.length = l.length) (hw : wi l f) (hx : 0 ≤ x) (hr : r < 2 * l.length) (h : x ≤ roomN l f r) : wi l (put1 f x r) := by
  intro i hi
  rw [put1_at (by omega)]
  have h1 := hw i hi
  unfold roomN at h
  by_cases e : i = r / 2
  · subst e
    rw [if_pos rfl]
    by_cases c : r % 2 = 1
    · rw [if_pos c] at h ⊢; omega
    · rw [if_neg c] at h ⊢; omega
  · rw [if_neg e]; exact h1
/-- what is wrong with a push; what comes of it -/
def pushE (n : Net) (f W : List Int) (x : Int) : Int := if chkF n f ≠ 0 then chkF n f else if isWalk n W = false then 1 else if x < 1 then 3 else if (pushN n.l f x W).isNone then 9 else 0
def pushV (n : Net) (f W : List Int) (x : Int) : List Int := if pushE n f W x ≠ 0 then [] else (pushN n.l f x W).getD []
/-- where one comes over tracks of room x or more -/
inductive Rch (n : Net) (f : List Int) (x : Int) : Int → Prop
  | base : Rch n f x n.s
  | step {r : Nat} : r < 2 * n.l.length → x ≤ roomN n.l f r → Rch n f x (trF n.l r) → Rch n f x (trT n.l r)
structure IsReach (n : Net) (f : List Int) (x : Int) (M : List Bool) : Prop where
  len : M.length = n.n.toNat + 1
  at_s : M.getD n.s.toNat false = true
  sound : ∀ i : Nat, M.getD i false = true → Rch n f x (i : Int)
  closed : ∀ r : Nat, r < 2 * n.l.length → x ≤ roomN n.l f r → M.getD (trF n.l r).toNat false = true → M.getD (trT n.l r).toNat false = true
theorem reach_all {n : Net} (hR : Right n) {f : List Int} {x : Int} {M : List Bool} (h : IsReach n f x M) {v : Int} (hv : Rch n f x v) : M.getD v.toNat false = true := by
  induction hv with
  | base => exact h.at_s
  | step hr hx _ ih => exact h.closed _ hr hx ih
theorem reach_iff {n : Net} (hR : Right n) {f : List Int} {x : Int} {M : List Bool} (h : IsReach n f x M) (i : Nat) : M.getD i false = true ↔ Rch n f x (i : Int) :=
  ⟨h.sound i, fun hv => by have := reach_all hR h hv; simpa using this⟩
theorem reach_one {n : Net} (hR : Right n) {f : List Int} {x : Int} {M1 M2 : List Bool} (h1 : IsReach n f x M1) (h2 : IsReach n f x M2) : M1 = M2 := by
  apply List.ext_getElem (by rw [h1.len, h2.len])
  intro i g1 g2
  have a := reach_iff hR h1 i
  have b := reach_iff hR h2 i
  have c : M1.getD i false = true ↔ M2.getD i false = true := a.trans b.symm
  simp only [List.getD_eq_getElem?_getD, List.getElem?_eq_getElem g1, List.getElem?_eq_getElem g2, Option.getD_some] at c
  exact Bool.eq_iff_iff.2 c
theorem rch_bd {n : Net} (hR : Right n) {f : List Int} {x v : Int} (h : Rch n f x v) : 1 ≤ v ∧ v ≤ n.n := by
  cases h with
  | base => exact ⟨hR.s0, hR.s1⟩
  | step hr _ _ => exact trT_bd hR hr
theorem cap_topR {n : Net} (hR : Right n) {i : Nat} (hi : i < n.l.length) : (arcAt n.l i).cap ≤ 4611686018427387903 := by
  have e : capS n.l (i + 1) ≤ capS n.l n.l.length := sumTo_mono hR.cap0 (by omega)
  have e2 : 0 ≤ capS n.l i := sumTo_nn fun j hj => hR.cap0 j (by omega)
  have e3 : capS n.l (i + 1) = capS n.l i + (arcAt n.l i).cap := rfl
  have := hR.sum
  omega
def reE (n : Net) (f : List Int) (x : Int) : Int := if chkF n f ≠ 0 then chkF n f else if x < 1 then 3 else 0
end Ne
end Go.Proofs.Ytkeojkddbannpaa
namespace Go.Proofs.Ytkeojkddbannpaa
open Go.ChangeShapes Go.WideShapes Go.ChangeAt Go.RowKit
set_option linter.unusedVariables false
set_option linter.unusedSimpArgs false
namespace Ne
theorem put1_exc {l : List Arc} {f : List Int} {x : Int} {r : Nat} (hl : f.length = l.length) (hr : r < 2 * l.length) (v : Int) :
    exc l (put1 f x r) v = exc l f v + x * ((if trT l r = v then 1 else 0) - (if trF l r = v then 1 else 0)) := by
  unfold put1
  rw [exc_eq, exc_eq, excC_set (dl v) _ hl (by omega)]
  congr 1
  unfold dl trT trF
  by_cases c : r % 2 = 1
  · rw [if_pos c, if_pos c, if_pos c, show amt f (r / 2) - x - amt f (r / 2) = -x by omega]
    by_cases h1 : (arcAt l (r / 2)).to = v <;> by_cases h2 : (arcAt l (r / 2)).fr = v <;> simp [h1, h2]
  · rw [if_neg c, if_neg c, if_neg c, show amt f (r / 2) + x - amt f (r / 2) = x by omega, Int.mul_comm]
theorem pushN_step {l : List Arc} {f g : List Int} {x : Int} {W : List Int} {k r : Nat} (h : k < W.length) (hr : amt W k = (r : Int)) (hp : pushN l f x (W.take k) = some g) :
    pushN l f x (W.take (k + 1)) = if roomN l g r < x then none else some (put1 g x r) := by
  rw [pushN_take h, hp, hr]; rfl
/-- what stands behind k tracks -/
theorem push_facts {n : Net} (hR : Right n) {f : List Int} {x : Int} (hl : f.length = n.l.length) (hw : wi n.l f) (hx : 0 ≤ x) {W : List Int} : ∀ {k : Nat} {g : List Int} {u : Int}, k ≤ W.length →
    walkAt n.l n.s (W.take k) = some u → pushN n.l f x (W.take k) = some g → g.length = n.l.length ∧ wi n.l g ∧ ∀ v, exc n.l g v = exc n.l f v + x * ((if u = v then 1 else 0) - (if n.s = v then 1 else 0))
  | 0, g, u, _, h1, h2 => by
    simp [walkAt] at h1; simp [pushN] at h2; subst h1; subst h2
    exact ⟨hl, hw, fun v => by simp⟩
  | k + 1, g, u, hk, h1, h2 => by
    obtain ⟨_, _, h3⟩ := walkAt_pos hR hk h1
    obtain ⟨r, hr, hr2⟩ := h3 k (by omega)
    rcases e1 : walkAt n.l n.s (W.take k) with _ | u0
    · rw [walkAt_take (by omega), e1] at h1; cases h1
    rcases e2 : pushN n.l f x (W.take k) with _ | g0
    · rw [pushN_take (by omega), e2] at h2; cases h2
    obtain ⟨i1, i2, i3⟩ := push_facts hR hl hw hx (W := W) (k := k) (by omega) e1 e2
    rw [pushN_step (by omega) hr e2] at h2
    rw [walkAt_take (by omega), e1, hr] at h1
    unfold stW at h1
    rw [enF_in hr2, enT_in hr2] at h1
    by_cases c : trF n.l r = u0
    case neg => simp only [if_neg c] at h1; cases h1
    simp only [if_pos c] at h1
    by_cases d : roomN n.l g0 r < x
    · rw [if_pos d] at h2; cases h2
    rw [if_neg d] at h2
    cases h1; cases h2; cases c
    refine ⟨by rw [put1_len, i1], put1_wi i1 i2 hx hr2 (by omega), fun v => ?_⟩
    rw [put1_exc i1 hr2, i3 v, Int.add_assoc, ← Int.mul_add]
    congr 2; omega
theorem isWalk_at {n : Net} {W : List Int} (h : isWalk n W = true) : walkAt n.l n.s W = some n.t := by unfold isWalk at h; simpa using h
theorem isWalk_in {n : Net} (hR : Right n) {W : List Int} (h : isWalk n W = true) : ∀ i, i < W.length → ∃ r : Nat, amt W i = (r : Int) ∧ r < 2 * n.l.length :=
  (walkAt_pos hR (k := W.length) (Nat.le_refl _) (by rw [List.take_length]; exact isWalk_at h)).2.2
/-- what is pushed along a walk is a flow, worth as much more -/
theorem push_flow {n : Net} (hR : Right n) {f g : List Int} (hF : Flow n f) {x : Int} (hx : 0 ≤ x) {W : List Int} (hW : isWalk n W = true) (hp : pushN n.l f x W = some g) : Flow n g ∧ exc n.l g n.t = exc n.l f n.t + x := by
  obtain ⟨h1, h2, h3⟩ := push_facts hR hF.len hF.wi hx (W := W) (k := W.length) (Nat.le_refl _) (u := n.t) (g := g) (by rw [List.take_length]; exact isWalk_at hW) (by rw [List.take_length]; exact hp)
  have e1 := h3 n.t
  have e2 := h3 n.s
  rw [if_pos rfl, if_neg hR.ne] at e1
  rw [if_pos rfl, if_neg (Ne.symm hR.ne)] at e2
  have h4 := hF.ends
  have h5 := hF.val
  refine ⟨⟨h1, h2, fun v hs ht => ?_, by omega, by omega⟩, by omega⟩
  rw [h3 v, if_neg (Ne.symm ht), if_neg (Ne.symm hs), hF.calm v hs ht]; simp
theorem pushE_flow {n : Net} (ck : checkN n = 0) {f : List Int} (hF : Flow n f) {W : List Int} {x : Int} : pushE n f W x = if isWalk n W = false then 1 else if x < 1 then 3 else if (pushN n.l f x W).isNone then 9 else 0 := by
  unfold pushE; rw [if_neg (by simpa using flow_chkF ck hF)]
/-- where a walk is pushed along one comes -/
theorem push_rch {n : Net} (hR : Right n) {f : List Int} {x y : Int} (hl : f.length = n.l.length) (hxy : y ≤ x) {W : List Int} : ∀ {k : Nat} {g : List Int} {u : Int}, k ≤ W.length →
    walkAt n.l n.s (W.take k) = some u → pushN n.l f x (W.take k) = some g → g.length = n.l.length ∧ Rch n f y u ∧ ∀ i, amt g i ≠ amt f i → Rch n f y (arcAt n.l i).fr ∧ Rch n f y (arcAt n.l i).to
  | 0, g, u, _, h1, h2 => by
    simp [walkAt] at h1; simp [pushN] at h2; subst h1; subst h2
    exact ⟨hl, .base, fun i hi => absurd rfl hi⟩
  | k + 1, g, u, hk, h1, h2 => by
    obtain ⟨_, _, h3⟩ := walkAt_pos hR hk h1
    obtain ⟨r, hr, hr2⟩ := h3 k (by omega)
    rcases e1 : walkAt n.l n.s (W.take k) with _ | u0
    · rw [walkAt_take (by omega), e1] at h1; cases h1
    rcases e2 : pushN n.l f x (W.take k) with _ | g0
    · rw [pushN_take (by omega), e2] at h2; cases h2
    obtain ⟨i1, i2, i3⟩ := push_rch hR hl hxy (W := W) (k := k) (by omega) e1 e2
    rw [pushN_step (by omega) hr e2] at h2
    rw [walkAt_take (by omega), e1, hr] at h1
    unfold stW at h1
    rw [enF_in hr2, enT_in hr2] at h1
    by_cases c : trF n.l r = u0
    case neg => simp only [if_neg c] at h1; cases h1
    simp only [if_pos c] at h1
    by_cases d : roomN n.l g0 r < x
    · rw [if_pos d] at h2; cases h2
    rw [if_neg d] at h2
    cases h1; cases h2; cases c
    have both : Rch n f y (trT n.l r) := by
      by_cases e : amt g0 (r / 2) = amt f (r / 2)
      · refine .step hr2 ?_ i2
        have : roomN n.l f r = roomN n.l g0 r := by unfold roomN; rw [e]
        omega
      · have := i3 _ e
        unfold trT; split
        · exact this.1
        · exact this.2
    refine ⟨by rw [put1_len, i1], both, fun i hi => ?_⟩
    rw [put1_at (by omega)] at hi
    by_cases e : i = r / 2
    · subst e
      have h5 := i2
      unfold trF at h5
      have h6 := both
      unfold trT at h6
      by_cases c : r % 2 = 1
      · rw [if_pos c] at h5 h6; exact ⟨h6, h5⟩
      · rw [if_neg c] at h5 h6; exact ⟨h5, h6⟩
    · rw [if_neg e] at hi; exact i3 i hi
theorem push_sink {n : Net} (hR : Right n) {f g : List Int} {x y : Int} (hl : f.length = n.l.length) (hxy : y ≤ x) {W : List Int} (hW : isWalk n W = true) (hp : pushN n.l f x W = some g) : Rch n f y n.t :=
  (push_rch hR hl hxy (W := W) (k := W.length) (Nat.le_refl _) (u := n.t) (g := g) (by rw [List.take_length]; exact isWalk_at hW) (by rw [List.take_length]; exact hp)).2.1
theorem rch_less {n : Net} {f : List Int} {x y v : Int} (h : y ≤ x) (hv : Rch n f x v) : Rch n f y v := by
  induction hv with
  | base => exact .base
  | step hr hx _ ih => exact .step hr (by omega) ih
theorem rch_far {n : Net} {f : List Int} {x v : Int} (h : ∀ r, r < 2 * n.l.length → roomN n.l f r < x) (hv : Rch n f x v) : v = n.s := by
  cases hv with
  | base => rfl
  | step hr hx _ => have := h _ hr; omega
theorem rch_pred {n : Net} {f : List Int} {x v : Int} (hv : Rch n f x v) (hs : v ≠ n.s) : ∃ r : Nat, r < 2 * n.l.length ∧ x ≤ roomN n.l f r ∧ Rch n f x (trF n.l r) ∧ trT n.l r = v := by
  cases hv with
  | base => exact absurd rfl hs
  | @step r hr hx h => exact ⟨r, hr, hx, h, rfl⟩

/-- walks of tracks, as numbers that they are -/
theorem pushN_cons (l : List Arc) (f : List Int) (x : Int) (r : Nat) (R : List Nat) : pushN l f x (encW (r :: R)) = if roomN l f r < x then none else pushN l (put1 f x r) x (encW R) := by
  unfold pushN encW
  rw [List.map_cons, List.foldl_cons]
  show List.foldl (stP l x) (if roomN l f ((r : Int)).toNat < x then none else some (put1 f x ((r : Int)).toNat)) _ = _
  rw [Int.toNat_natCast]
  by_cases c : roomN l f r < x
  · rw [if_pos c, if_pos c, stP_none]
  · rw [if_neg c, if_neg c]
theorem walkAt_cons {l : List Arc} {s : Int} {r : Nat} {R : List Nat} (hr : r < 2 * l.length) : walkAt l s (encW (r :: R)) = if trF l r = s then walkAt l (trT l r) (encW R) else none := by
  unfold walkAt encW
  rw [List.map_cons, List.foldl_cons]
  show List.foldl (stW l) (if enF l (r : Int) = s then some (enT l (r : Int)) else none) _ = _
  rw [enF_in hr, enT_in hr]
  by_cases c : trF l r = s
  · rw [if_pos c, if_pos c]
  · rw [if_neg c, if_neg c, stW_none]
theorem room_put_far {l : List Arc} {f : List Int} {x : Int} {r q : Nat} (hf : r / 2 < f.length) (h : q / 2 ≠ r / 2) : roomN l (put1 f x r) q = roomN l f q := by
  unfold roomN; rw [put1_at hf, if_neg h]
theorem room_put_same {l : List Arc} {f : List Int} {x : Int} {r : Nat} (hf : r / 2 < f.length) : roomN l (put1 f x r) r = roomN l f r - x := by
  unfold roomN; rw [put1_at hf, if_pos rfl]
  by_cases c : r % 2 = 1
  · rw [if_pos c, if_pos c, if_pos c]
  · rw [if_neg c, if_neg c, if_neg c]; omega
theorem push_simple {l : List Arc} {x : Int} : ∀ {R : List Nat} {f : List Int}, f.length = l.length → (R.map (· / 2)).Nodup → (∀ r ∈ R, r < 2 * l.length) → ((pushN l f x (encW R)).isSome = true ↔ ∀ r ∈ R, x ≤ roomN l f r)
  | [], f, _, _, _ => by simp [pushN, encW]
  | r :: R, f, hl, hn, hr => by
    rw [List.map_cons] at hn
    obtain ⟨h1, h2⟩ := List.nodup_cons.1 hn
    have hr0 := hr r List.mem_cons_self
    rw [pushN_cons]
    by_cases c : roomN l f r < x
    · rw [if_pos c]
      refine ⟨fun h => by simp at h, fun h => ?_⟩
      have := h r List.mem_cons_self
      omega
    · rw [if_neg c, push_simple (by rw [put1_len, hl]) h2 fun q hq => hr q (List.mem_cons_of_mem _ hq)]
      have e : ∀ q ∈ R, roomN l (put1 f x r) q = roomN l f q := fun q hq => room_put_far (by omega) fun e => h1 (List.mem_map.2 ⟨q, hq, e⟩)
      refine ⟨fun h q hq => ?_, fun h q hq => ?_⟩
      · rcases List.mem_cons.1 hq with h3 | h3
        · subst h3; omega
        · rw [← e q h3]; exact h q h3
      · rw [e q hq]; exact h q (List.mem_cons_of_mem _ hq)
/-- how often a walk goes along an arc, less how often it goes back -/
def sgn (R : List Nat) (i : Nat) : Int := (R.map fun r => if r / 2 = i then (if r % 2 = 1 then (-1 : Int) else 1) else 0).sum
theorem push_sgn {l : List Arc} {x : Int} : ∀ {R : List Nat} {f g : List Int}, f.length = l.length → (∀ r ∈ R, r < 2 * l.length) → pushN l f x (encW R) = some g → g.length = l.length ∧ ∀ i, amt g i = amt f i + x * sgn R i
  | [], f, g, hl, _, h => by simp [pushN, encW] at h; subst h; exact ⟨hl, fun i => by simp [sgn]⟩
  | r :: R, f, g, hl, hr, h => by
    rw [pushN_cons] at h
    have hr0 := hr r List.mem_cons_self
    by_cases c : roomN l f r < x
    · rw [if_pos c] at h; cases h
    · rw [if_neg c] at h
      obtain ⟨h1, h2⟩ := push_sgn (by rw [put1_len, hl]) (fun q hq => hr q (List.mem_cons_of_mem _ hq)) h
      refine ⟨h1, fun i => ?_⟩
      have e : sgn (r :: R) i = (if r / 2 = i then (if r % 2 = 1 then (-1 : Int) else 1) else 0) + sgn R i := by simp [sgn]
      rw [h2 i, put1_at (by omega), e, Int.mul_add]
      by_cases d : i = r / 2
      · rw [if_pos d, if_pos d.symm]
        by_cases o : r % 2 = 1
        · rw [if_pos o, if_pos o]; omega
        · rw [if_neg o, if_neg o]; omega
      · rw [if_neg d, if_neg (Ne.symm d)]; omega
theorem sgn_notin {R : List Nat} {i : Nat} (h : i ∉ R.map (· / 2)) : sgn R i = 0 := by
  induction R with
  | nil => rfl
  | cons r R ih =>
    rw [List.map_cons, List.mem_cons, not_or] at h
    have e : sgn (r :: R) i = (if r / 2 = i then (if r % 2 = 1 then (-1 : Int) else 1) else 0) + sgn R i := by simp [sgn]
    rw [e, if_neg (Ne.symm h.1), ih h.2]; rfl
theorem sgn_in {R : List Nat} (hn : (R.map (· / 2)).Nodup) {r : Nat} (hr : r ∈ R) : sgn R (r / 2) = if r % 2 = 1 then -1 else 1 := by
  induction R with
  | nil => simp at hr
  | cons q R ih =>
    rw [List.map_cons] at hn
    obtain ⟨h1, h2⟩ := List.nodup_cons.1 hn
    have e : sgn (q :: R) (r / 2) = (if q / 2 = r / 2 then (if q % 2 = 1 then (-1 : Int) else 1) else 0) + sgn R (r / 2) := by simp [sgn]
    rw [e]
    rcases List.mem_cons.1 hr with h3 | h3
    · subst h3; rw [if_pos rfl, sgn_notin h1]; omega
    · rw [if_neg fun e => h1 (by rw [e]; exact List.mem_map.2 ⟨r, h3, rfl⟩), ih h2 h3]; omega
/-- the room behind, told by what has been led -/
theorem room_sgn {l : List Arc} {f g : List Int} {x : Int} {R : List Nat} (hn : (R.map (· / 2)).Nodup) (h : ∀ i, amt g i = amt f i + x * sgn R i) {r : Nat} (hr : r ∈ R) : roomN l g r = roomN l f r - x := by
  unfold roomN
  rw [h, sgn_in hn hr]
  by_cases c : r % 2 = 1
  · rw [if_pos c, if_pos c, if_pos c]; omega
  · rw [if_neg c, if_neg c, if_neg c]; omega
/-- back -/
def backR (R : List Nat) : List Nat := R.reverse.map opp
theorem push_back {l : List Arc} {x : Int} (hx : 0 ≤ x) : ∀ {R : List Nat} {f g : List Int}, f.length = l.length → wi l f → (∀ r ∈ R, r < 2 * l.length) → pushN l f x (encW R) = some g → pushN l g x (encW (backR R)) = some f
  | [], f, g, _, _, _, h => by simp [pushN, encW] at h; subst h; simp [pushN, encW, backR]
  | r :: R, f, g, hl, hw, hr, h => by
    rw [pushN_cons] at h
    have hr0 := hr r List.mem_cons_self
    by_cases c : roomN l f r < x
    · rw [if_pos c] at h; cases h
    · rw [if_neg c] at h
      have ih := push_back hx (by rw [put1_len, hl]) (put1_wi hl hw hx hr0 (by omega)) (fun q hq => hr q (List.mem_cons_of_mem _ hq)) h
      have e : backR (r :: R) = backR R ++ [opp r] := by simp [backR]
      rw [e, encW_app, pushN_app, ih]
      have e2 : encW [opp r] = [((opp r : Nat) : Int)] := rfl
      rw [e2]
      show (if roomN l (put1 f x r) ((opp r : Nat) : Int).toNat < x then none else some (put1 (put1 f x r) x ((opp r : Nat) : Int).toNat)) = _
      rw [Int.toNat_natCast]
      have h1 := room_opp l (put1 f x r) r
      have h2 := room_put_same (l := l) (x := x) (show r / 2 < f.length by omega)
      have h3 := room_nn hw hr0
      rw [if_neg (by omega)]
      congr 1
      refine ext_amt (by rw [put1_len, put1_len]) fun i hi => ?_
      rw [put1_len, put1_len] at hi
      rw [put1_at (by rw [put1_len, opp_half]; omega), put1_at (by omega), opp_half, opp_odd]
      by_cases d : i = r / 2
      · rw [if_pos d, if_pos d]
        by_cases o : r % 2 = 1
        · rw [if_pos o, if_neg (by omega)]; omega
        · rw [if_neg o, if_pos (by omega)]; omega
      · rw [if_neg d, if_neg d]
theorem walk_back {l : List Arc} : ∀ {R : List Nat} {s u : Int}, (∀ r ∈ R, r < 2 * l.length) → walkAt l s (encW R) = some u → walkAt l u (encW (backR R)) = some s
  | [], s, u, _, h => by simp [walkAt, encW] at h; subst h; simp [walkAt, encW, backR]
  | r :: R, s, u, hr, h => by
    have hr0 := hr r List.mem_cons_self
    rw [walkAt_cons hr0] at h
    by_cases c : trF l r = s
    · rw [if_pos c] at h
      have ih := walk_back (fun q hq => hr q (List.mem_cons_of_mem _ hq)) h
      have e : backR (r :: R) = backR R ++ [opp r] := by simp [backR]
      rw [e, encW_app]
      have e2 : encW [opp r] = [((opp r : Nat) : Int)] := rfl
      rw [e2, walkAt_snoc, ih]
      unfold stW
      rw [enF_in (opp_lt hr0), enT_in (opp_lt hr0), trF_opp, trT_opp]
      simp [c]
    · rw [if_neg c] at h; cases h
end Ne
end Go.Proofs.Ytkeojkddbannpaa
namespace Go.Proofs.Ytkeojkddbannpaa
open Go.ChangeShapes Go.WideShapes Go.ChangeAt Go.RowKit
set_option linter.unusedVariables false
set_option linter.unusedSimpArgs false
namespace Ne
/-- a flow but for the sign of its value -/
structure Calm (n : Net) (f : List Int) : Prop where
  len : f.length = n.l.length
  wi : wi n.l f
  calm : ∀ v, v ≠ n.s → v ≠ n.t → exc n.l f v = 0
theorem calm_chk {n : Net} {f : List Int} (ck : checkN n = 0) (h : Calm n f) : chkF n f = 0 ∧ vaV n f = exc n.l f n.t := by
  have e : chkF n f = 0 := chkF_in (chkA_in ck h.len h.wi) fun v _ hs ht => h.calm _ hs ht
  exact ⟨e, by unfold vaV; rw [if_neg (by simpa using e)]⟩
theorem flow_calm {n : Net} {f : List Int} (h : Flow n f) : Calm n f := ⟨h.len, h.wi, h.calm⟩
theorem arcAt_turn {l : List Arc} {i : Nat} (h : i < l.length) : arcAt (l.map turnA) i = turnA (arcAt l i) := by
  unfold arcAt
  simp [h]
theorem dl_turn (v : Int) (a : Arc) : dl v (turnA a) = -dl v a := by unfold dl turnA; simp only; omega
theorem exc_turn (l : List Arc) (f : List Int) (v : Int) : exc (l.map turnA) f v = -exc l f v := by
  rw [exc_eq, exc_eq]
  unfold excC
  rw [List.length_map]
  have e : -sumTo (fun i => dl v (arcAt l i) * amt f i) l.length = (-1) * sumTo (fun i => dl v (arcAt l i) * amt f i) l.length := by omega
  rw [e, ← sumTo_mul]
  refine sumTo_congr fun i hi => ?_
  rw [arcAt_turn hi, dl_turn, ← Int.mul_assoc]; congr 1; omega
theorem turn_calm {n : Net} {f : List Int} (h : Flow n f) : Calm (turnN n) f := by
  refine ⟨by simp [turnN, h.len], fun i hi => ?_, fun v hs ht => ?_⟩
  · have hi2 : i < n.l.length := by simpa [turnN] using hi
    have := h.wi i hi2
    show 0 ≤ amt f i ∧ amt f i ≤ (arcAt (n.l.map turnA) i).cap
    rw [arcAt_turn hi2]; exact this
  · show exc (n.l.map turnA) f v = 0
    rw [exc_turn, h.calm v ht hs]; rfl
theorem turn_check {n : Net} (hR : fineH n) (hl : ∀ a ∈ n.l, fineA n.n a) : checkN (turnN n) = 0 := by
  obtain ⟨h1, h2, h3, h4, h5, h6, h7, h8⟩ := hR
  refine checkN_fine ⟨h1, h2, h5, h6, h3, h4, Ne.symm h7, by simpa [turnN] using h8⟩ fun a ha => ?_
  obtain ⟨b, hb, rfl⟩ := List.mem_map.1 ha
  obtain ⟨g1, g2, g3, g4⟩ := hl b hb
  exact ⟨g2, g1, g3, g4⟩
end Ne
end Go.Proofs.Ytkeojkddbannpaa
namespace Go.Proofs.Ytkeojkddbannpaa
open Go.ChangeShapes Go.WideShapes Go.ChangeAt Go.RowKit
set_option linter.unusedVariables false
set_option linter.unusedSimpArgs false
namespace Ne
/-- a walk of k tracks with room leads there -/
inductive Dst (n : Net) (f : List Int) (x : Int) : Nat → Int → Prop
  | base : Dst n f x 0 n.s
  | step {k r : Nat} : r < 2 * n.l.length → x ≤ roomN n.l f r → Dst n f x k (trF n.l r) → Dst n f x (k + 1) (trT n.l r)
section
variable {n : Net} {f : List Int} {x : Int}
theorem dst_bd (hR : Right n) {k : Nat} {v : Int} (h : Dst n f x k v) : 1 ≤ v ∧ v ≤ n.n := by
  cases h with
  | base => exact ⟨hR.s0, hR.s1⟩
  | step hr _ _ => exact trT_bd hR hr
theorem dst_rch {k : Nat} {v : Int} (h : Dst n f x k v) : Rch n f x v := by
  induction h with
  | base => exact .base
  | step hr hx _ ih => exact .step hr hx ih
theorem rch_dst {v : Int} (h : Rch n f x v) : ∃ k, Dst n f x k v := by
  induction h with
  | base => exact ⟨0, .base⟩
  | step hr hx _ ih => obtain ⟨k, hk⟩ := ih; exact ⟨k + 1, .step hr hx hk⟩
theorem dst_zero {v : Int} (h : Dst n f x 0 v) : v = n.s := by cases h; rfl
theorem dst_succ {k : Nat} {v : Int} (h : Dst n f x (k + 1) v) : ∃ r : Nat, r < 2 * n.l.length ∧ x ≤ roomN n.l f r ∧ Dst n f x k (trF n.l r) ∧ trT n.l r = v := by
  cases h with
  | @step _ r hr hx h => exact ⟨r, hr, hx, h, rfl⟩
theorem dst_less {y : Int} (hxy : y ≤ x) {k : Nat} {v : Int} (h : Dst n f x k v) : Dst n f y k v := by
  induction h with
  | base => exact .base
  | step hr hx _ ih => exact .step hr (by omega) ih
end
/-- levels that are told up to K -/
structure LevK (n : Net) (f : List Int) (x : Int) (K : Nat) (L : List Int) : Prop where
  len : L.length = n.n.toNat + 1
  val : ∀ i : Nat, i < n.n.toNat + 1 → amt L i = -1 ∨ ∃ k : Nat, k ≤ K ∧ amt L i = (k : Int) ∧ Dst n f x k (i : Int)
  low : ∀ (k : Nat) (v : Int), k ≤ K → Dst n f x k v → 0 ≤ amt L v.toNat ∧ amt L v.toNat ≤ (k : Int)
/-- all levels -/
structure IsLev (n : Net) (f : List Int) (x : Int) (L : List Int) : Prop where
  len : L.length = n.n.toNat + 1
  val : ∀ i : Nat, i < n.n.toNat + 1 → amt L i = -1 ∨ ∃ k : Nat, amt L i = (k : Int) ∧ Dst n f x k (i : Int)
  low : ∀ (k : Nat) (v : Int), Dst n f x k v → 0 ≤ amt L v.toNat ∧ amt L v.toNat ≤ (k : Int)
section
variable {n : Net} {f : List Int} {x : Int} {L : List Int} {K : Nat}
theorem IsLev.upto (h : IsLev n f x L) (K : Nat) (hk : ∀ i : Nat, i < n.n.toNat + 1 → amt L i ≤ (K : Int)) : LevK n f x K L :=
  ⟨h.len, fun i hi => by
    rcases h.val i hi with e | ⟨k, e, hd⟩
    · exact .inl e
    · exact .inr ⟨k, by have := hk i hi; omega, e, hd⟩, fun k v _ => h.low k v⟩
theorem levK_prev (hR : Right n) (h : LevK n f x K L) {i k : Nat} (hi : i < n.n.toNat + 1) (e : amt L i = ((k + 1 : Nat) : Int)) : ∃ r : Nat, r < 2 * n.l.length ∧ x ≤ roomN n.l f r ∧ trT n.l r = (i : Int) ∧ amt L (trF n.l r).toNat = (k : Int) := by
  rcases h.val i hi with e2 | ⟨k2, hk2, e2, hd⟩
  · omega
  · obtain rfl : k2 = k + 1 := by omega
    obtain ⟨r, hr, hx, hd2, ht⟩ := dst_succ hd
    have hb := trF_bd hR hr
    obtain ⟨h1, h2⟩ := h.low k _ (by omega) hd2
    refine ⟨r, hr, hx, ht, ?_⟩
    rcases h.val (trF n.l r).toNat (by omega) with e3 | ⟨j, hj, e3, hd3⟩
    · omega
    · by_cases c : j = k
      · rw [e3, c]
      · exfalso
        have hd4 := Dst.step hr hx (show Dst n f x j (trF n.l r) by rwa [show (((trF n.l r).toNat : Nat) : Int) = trF n.l r by omega] at hd3)
        rw [ht] at hd4
        have := (h.low (j + 1) _ (by omega) hd4).2
        rw [Int.toNat_natCast] at this
        omega
theorem levK_zero (hR : Right n) (h : LevK n f x K L) : amt L 0 = -1 := by
  rcases h.val 0 (by omega) with e | ⟨k, _, _, hd⟩
  · exact e
  · have := (dst_bd hR hd).1; omega
theorem levK_chain (hR : Right n) (h : LevK n f x K L) : ∀ (k i : Nat), i < n.n.toNat + 1 → amt L i = (k : Int) → ∃ P : List Nat, P.length = k + 1 ∧ P.Nodup ∧ ∀ p ∈ P, 1 ≤ p ∧ p < n.n.toNat + 1 ∧ amt L p ≤ (k : Int)
  | 0, i, hi, e => ⟨[i], rfl, by simp, fun p hp => by
      simp at hp; subst hp
      refine ⟨?_, hi, by omega⟩
      rcases Nat.eq_zero_or_pos p with h0 | h0
      · subst h0; have := levK_zero hR h; omega
      · exact h0⟩
  | k + 1, i, hi, e => by
    obtain ⟨r, hr, hx, ht, e2⟩ := levK_prev hR h hi e
    have hb := trF_bd hR hr
    obtain ⟨P, h1, h2, h3⟩ := levK_chain hR h k _ (by omega) e2
    refine ⟨i :: P, by simp [h1], List.nodup_cons.2 ⟨fun hm => by have := (h3 i hm).2.2; omega, h2⟩, fun p hp => ?_⟩
    rcases List.mem_cons.1 hp with e3 | hp
    · subst e3
      have hb2 := trT_bd hR hr
      exact ⟨by omega, hi, by omega⟩
    · have := h3 p hp; exact ⟨this.1, this.2.1, by omega⟩
theorem levK_lt (hR : Right n) (h : LevK n f x K L) {k i : Nat} (hi : i < n.n.toNat + 1) (e : amt L i = (k : Int)) : k < n.n.toNat := by
  obtain ⟨P, h1, h2, h3⟩ := levK_chain hR h k i hi e
  have := nodup_len (L := n.n.toNat + 1) (R := 0 :: P) (List.nodup_cons.2 ⟨fun hm => by have := (h3 0 hm).1; omega, h2⟩) (fun q hq => by
    rcases List.mem_cons.1 hq with e | hq
    · omega
    · exact (h3 q hq).2.1)
  simp at this
  omega
theorem levK_end (hR : Right n) (h : LevK n f x K L) (hK : ∀ i : Nat, i < n.n.toNat + 1 → amt L i ≠ (K : Int)) : IsLev n f x L := by
  refine ⟨h.len, fun i hi => ?_, fun k v hd => ?_⟩
  · rcases h.val i hi with e | ⟨k, _, e, hd⟩
    · exact .inl e
    · exact .inr ⟨k, e, hd⟩
  · induction hd with
    | base => exact h.low 0 _ (by omega) .base
    | @step k r hr hx hd ih =>
      have hb := trF_bd hR hr
      rcases h.val (trF n.l r).toNat (by omega) with e3 | ⟨j, hj, e3, hd3⟩
      · omega
      · have hne := hK (trF n.l r).toNat (by omega)
        have hd4 := Dst.step hr hx (show Dst n f x j (trF n.l r) by rwa [show (((trF n.l r).toNat : Nat) : Int) = trF n.l r by omega] at hd3)
        have h5 := h.low (j + 1) _ (by omega) hd4
        exact ⟨h5.1, by omega⟩
theorem levK_all (hR : Right n) (h : LevK n f x n.n.toNat L) : IsLev n f x L :=
  levK_end hR h fun i hi e => by have := levK_lt hR h hi e; omega
theorem amt_repl (N : Nat) (a : Int) {i : Nat} (h : i < N) : amt (List.replicate N a) i = a := by simp [amt, h]
/-- levels at the start -/
def lev0 (n : Net) : List Int := (List.replicate (n.n.toNat + 1) (-1)).set n.s.toNat 0
theorem lev0_at (hR : Right n) (i : Nat) (hi : i < n.n.toNat + 1) : amt (lev0 n) i = if i = n.s.toNat then 0 else -1 := by
  have := hR.s0; have := hR.s1
  unfold lev0
  rw [amt_set _ (by simp; omega), amt_repl _ _ hi]
theorem levK_start (hR : Right n) (f : List Int) (x : Int) : LevK n f x 0 (lev0 n) := by
  have := hR.s0; have := hR.s1
  refine ⟨by simp [lev0], fun i hi => ?_, fun k v hk hd => ?_⟩
  · rw [lev0_at hR i hi]
    by_cases e : i = n.s.toNat
    · rw [if_pos e]; exact .inr ⟨0, Nat.le_refl _, rfl, by rw [show (i : Int) = n.s by omega]; exact .base⟩
    · rw [if_neg e]; exact .inl rfl
  · obtain rfl : k = 0 := by omega
    rw [dst_zero hd, lev0_at hR _ (by omega), if_pos rfl]; exact ⟨by omega, by omega⟩
/-- how many nodes have no level -/
def unl (L : List Int) : Nat := L.countP (fun a => decide (a = -1))
theorem unl_set {L : List Int} {i : Nat} (hi : i < L.length) (h : amt L i = -1) {y : Int} (hy : 0 ≤ y) : unl (L.set i y) + 1 = unl L := by
  unfold unl
  have he : L[i] = -1 := by unfold amt at h; simpa [hi] using h
  rw [List.countP_set hi]
  have : 0 < L.countP (fun a => decide (a = -1)) := by
    rw [List.countP_pos_iff]; exact ⟨L[i], List.getElem_mem hi, by simpa using he⟩
  simp [he, show ¬ y = -1 by omega]
  omega
theorem unl_le (L : List Int) : unl L ≤ L.length := List.countP_le_length
/-- levels up to K, and those of K + 1 that were met -/
structure LevM (n : Net) (f : List Int) (x : Int) (K : Nat) (L : List Int) (M : List Nat) : Prop where
  len : L.length = n.n.toNat + 1
  val : ∀ i : Nat, i < n.n.toNat + 1 → amt L i = -1 ∨ ∃ k : Nat, k ≤ K + 1 ∧ amt L i = (k : Int) ∧ Dst n f x k (i : Int)
  low : ∀ (k : Nat) (v : Int), k ≤ K → Dst n f x k v → 0 ≤ amt L v.toNat ∧ amt L v.toNat ≤ (k : Int)
  met : ∀ i : Nat, i ∈ M ↔ i < n.n.toNat + 1 ∧ amt L i = ((K + 1 : Nat) : Int)
  few : M.length + unl L ≤ n.n.toNat + 1
theorem levM_start (h : LevK n f x K L) : LevM n f x K L [] := by
  refine ⟨h.len, fun i hi => ?_, h.low, fun i => ⟨fun hm => by simp at hm, fun ⟨hi, e⟩ => ?_⟩, by have := unl_le L; rw [h.len] at this; simpa using this⟩
  · rcases h.val i hi with e | ⟨k, hk, e, hd⟩
    · exact .inl e
    · exact .inr ⟨k, by omega, e, hd⟩
  · exfalso
    rcases h.val i hi with e2 | ⟨k, hk, e2, hd⟩ <;> omega
theorem levM_put {M : List Nat} (h : LevM n f x K L M) {t : Nat} (ht : t < n.n.toNat + 1) (h1 : amt L t = -1) (hd : Dst n f x (K + 1) (t : Int)) : LevM n f x K (L.set t ((K + 1 : Nat) : Int)) (M ++ [t]) := by
  have hl : t < L.length := by rw [h.len]; exact ht
  have hg := fun j => amt_set (((K + 1 : Nat) : Int)) hl j
  refine ⟨by simp [h.len], fun i hi => ?_, fun k v hk hv => ?_, fun i => ?_, ?_⟩
  · rw [hg]
    by_cases e : i = t
    · subst e; rw [if_pos rfl]; exact .inr ⟨K + 1, Nat.le_refl _, rfl, hd⟩
    · rw [if_neg e]; exact h.val i hi
  · rw [hg]
    have h2 := h.low k v hk hv
    by_cases e : v.toNat = t
    · rw [e] at h2; omega
    · rw [if_neg e]; exact h2
  · rw [hg, List.mem_append, h.met i]
    by_cases e : i = t
    · subst e; simp [ht]
    · simp [e]
  · have := unl_set hl h1 (y := ((K + 1 : Nat) : Int)) (by omega)
    have := h.few
    simp only [List.length_append, List.length_singleton]
    omega
theorem levM_end {M : List Nat} (hR : Right n) (h : LevM n f x K L M) (hc : ∀ r : Nat, r < 2 * n.l.length → x ≤ roomN n.l f r → amt L (trF n.l r).toNat = (K : Int) → 0 ≤ amt L (trT n.l r).toNat) : LevK n f x (K + 1) L := by
  refine ⟨h.len, h.val, fun k v hk hv => ?_⟩
  by_cases c : k ≤ K
  · exact h.low k v c hv
  · obtain rfl : k = K + 1 := by omega
    obtain ⟨r, hr, hx, hd, rfl⟩ := dst_succ hv
    have hb := trF_bd hR hr
    have hb2 := trT_bd hR hr
    have h1 := h.low K _ (Nat.le_refl _) hd
    rcases h.val (trF n.l r).toNat (by omega) with e | ⟨j, hj, e, hd2⟩
    · omega
    · by_cases ej : j = K
      · subst ej
        refine ⟨hc r hr hx e, ?_⟩
        rcases h.val (trT n.l r).toNat (by omega) with e2 | ⟨j2, hj2, e2, _⟩ <;> omega
      · have hd4 := Dst.step hr hx (show Dst n f x j (trF n.l r) by rwa [show (((trF n.l r).toNat : Nat) : Int) = trF n.l r by omega] at hd2)
        have := h.low (j + 1) _ (by omega) hd4
        exact ⟨this.1, by omega⟩
theorem levM_keep {M : List Nat} (h : LevM n f x K L M) {t j : Nat} (ht : t < n.n.toNat + 1) (h1 : amt L t = -1) (hj : 0 ≤ amt L j) : 0 ≤ amt (L.set t ((K + 1 : Nat) : Int)) j := by
  rw [amt_set _ (by rw [h.len]; exact ht)]; split <;> omega
end
section
variable {n : Net} {f : List Int} {x : Int} {L : List Int}
theorem lev_node (h : IsLev n f x L) {i : Nat} (hi : i < n.n.toNat + 1) (h0 : 0 ≤ amt L i) : ∃ k : Nat, amt L i = (k : Int) ∧ Dst n f x k (i : Int) := by
  rcases h.val i hi with e | ⟨k, e, hd⟩
  · omega
  · exact ⟨k, e, hd⟩
theorem lev_prev (hR : Right n) (h : IsLev n f x L) {i k : Nat} (hi : i < n.n.toNat + 1) (e : amt L i = ((k + 1 : Nat) : Int)) : ∃ r : Nat, r < 2 * n.l.length ∧ x ≤ roomN n.l f r ∧ trT n.l r = (i : Int) ∧ amt L (trF n.l r).toNat = (k : Int) := by
  rcases h.val i hi with e2 | ⟨k2, e2, hd⟩
  · omega
  · obtain rfl : k2 = k + 1 := by omega
    obtain ⟨r, hr, hx, hd2, ht⟩ := dst_succ hd
    have hb := trF_bd hR hr
    obtain ⟨h1, h2⟩ := h.low k _ hd2
    refine ⟨r, hr, hx, ht, ?_⟩
    rcases h.val (trF n.l r).toNat (by omega) with e3 | ⟨j, e3, hd3⟩
    · omega
    · by_cases c : j = k
      · rw [e3, c]
      · exfalso
        have hd4 := Dst.step hr hx (show Dst n f x j (trF n.l r) by rwa [show (((trF n.l r).toNat : Nat) : Int) = trF n.l r by omega] at hd3)
        rw [ht] at hd4
        have := (h.low (j + 1) _ hd4).2
        rw [Int.toNat_natCast] at this
        omega
theorem lev_zero (hR : Right n) (h : IsLev n f x L) : amt L 0 = -1 := by
  rcases h.val 0 (by omega) with e | ⟨k, _, hd⟩
  · exact e
  · have := (dst_bd hR hd).1; omega
theorem lev_chain (hR : Right n) (h : IsLev n f x L) : ∀ (k i : Nat), i < n.n.toNat + 1 → amt L i = (k : Int) → ∃ P : List Nat, P.length = k + 1 ∧ P.Nodup ∧ (∀ p ∈ P, 1 ≤ p ∧ p < n.n.toNat + 1 ∧ amt L p ≤ (k : Int)) ∧ ∀ j, j ≤ k → ∃ p ∈ P, amt L p = (j : Int)
  | 0, i, hi, e => ⟨[i], rfl, by simp, fun p hp => by
      simp at hp; subst hp
      refine ⟨?_, hi, by omega⟩
      rcases Nat.eq_zero_or_pos p with h0 | h0
      · subst h0; have := lev_zero hR h; omega
      · exact h0, fun j hj => ⟨i, by simp, by rw [e]; omega⟩⟩
  | k + 1, i, hi, e => by
    obtain ⟨r, hr, hx, ht, e2⟩ := lev_prev hR h hi e
    have hb := trF_bd hR hr
    obtain ⟨P, h1, h2, h3, h4⟩ := lev_chain hR h k _ (by omega) e2
    refine ⟨i :: P, by simp [h1], List.nodup_cons.2 ⟨fun hm => by have := (h3 i hm).2.2; omega, h2⟩, fun p hp => ?_, fun j hj => ?_⟩
    · rcases List.mem_cons.1 hp with e3 | hp
      · subst e3
        have hb2 := trT_bd hR hr
        exact ⟨by omega, hi, by omega⟩
      · have := h3 p hp; exact ⟨this.1, this.2.1, by omega⟩
    · by_cases c : j = k + 1
      · exact ⟨i, by simp, by rw [e, c]⟩
      · obtain ⟨p, hp, e5⟩ := h4 j (by omega)
        exact ⟨p, List.mem_cons_of_mem _ hp, e5⟩
theorem lev_lt (hR : Right n) (h : IsLev n f x L) {i : Nat} (hi : i < n.n.toNat + 1) : -1 ≤ amt L i ∧ amt L i < n.n := by
  have hn := hR.n0
  rcases h.val i hi with e | ⟨k, e, hd⟩
  · omega
  · obtain ⟨P, h1, h2, h3, _⟩ := lev_chain hR h k i hi e
    have := nodup_len (L := n.n.toNat + 1) (R := 0 :: P) (List.nodup_cons.2 ⟨fun hm => by have := (h3 0 hm).1; omega, h2⟩) (fun q hq => by
      rcases List.mem_cons.1 hq with e | hq
      · omega
      · exact (h3 q hq).2.1)
    simp at this
    omega
theorem lev_src (hR : Right n) (h : IsLev n f x L) : amt L n.s.toNat = 0 := by have := h.low 0 _ .base; omega
theorem lev_only (hR : Right n) (h : IsLev n f x L) {i : Nat} (hi : i < n.n.toNat + 1) (e : amt L i = 0) : (i : Int) = n.s := by
  obtain ⟨k, e2, hd⟩ := lev_node h hi (by omega)
  obtain rfl : k = 0 := by omega
  exact dst_zero hd
theorem lev_next (hR : Right n) (h : IsLev n f x L) {r : Nat} (hr : r < 2 * n.l.length) (hx : x ≤ roomN n.l f r) (h0 : 0 ≤ amt L (trF n.l r).toNat) : 0 ≤ amt L (trT n.l r).toNat ∧ amt L (trT n.l r).toNat ≤ amt L (trF n.l r).toNat + 1 := by
  have hb := trF_bd hR hr
  obtain ⟨k, e, hd⟩ := lev_node h (i := (trF n.l r).toNat) (by omega) h0
  have := h.low (k + 1) _ (.step hr hx (show Dst n f x k (trF n.l r) by rwa [show (((trF n.l r).toNat : Nat) : Int) = trF n.l r by omega] at hd))
  omega
theorem lev_rch (hR : Right n) (h : IsLev n f x L) {i : Nat} (hi : i < n.n.toNat + 1) : 0 ≤ amt L i ↔ Rch n f x (i : Int) := by
  refine ⟨fun h0 => ?_, fun hv => ?_⟩
  · obtain ⟨k, _, hd⟩ := lev_node h hi h0; exact dst_rch hd
  · obtain ⟨k, hd⟩ := rch_dst hv
    have := (h.low k _ hd).1
    rwa [Int.toNat_natCast] at this
theorem lev_one (hR : Right n) {L2 : List Int} (h1 : IsLev n f x L) (h2 : IsLev n f x L2) : L = L2 := by
  have one : ∀ (A B : List Int), IsLev n f x A → IsLev n f x B → ∀ i : Nat, i < n.n.toNat + 1 → 0 ≤ amt A i → 0 ≤ amt B i ∧ amt B i ≤ amt A i := fun A B hA hB i hi h0 => by
    obtain ⟨k, e, hd⟩ := lev_node hA hi h0
    have := hB.low k _ hd
    rw [Int.toNat_natCast] at this
    omega
  apply List.ext_getElem (by rw [h1.len, h2.len])
  intro i g1 g2
  have hi : i < n.n.toNat + 1 := by rw [← h1.len]; exact g1
  have a := one L L2 h1 h2 i hi
  have b := one L2 L h2 h1 i hi
  have c1 := (lev_lt hR h1 hi).1
  have c2 := (lev_lt hR h2 hi).1
  have e : amt L i = amt L2 i := by
    by_cases c : 0 ≤ amt L i
    · have := a c; have := b this.1; omega
    · by_cases d : 0 ≤ amt L2 i
      · have := b d; omega
      · omega
  simpa [amt, g1, g2] using e
end
/-- the tracks with room, the tracks that lead on, among the first k -/
def wideL (l : List Arc) (f : List Int) (x : Int) (k : Nat) : List Nat := (List.range k).filter fun r => decide (x ≤ roomN l f r)
def leadB (l : List Arc) (f : List Int) (x : Int) (L : List Int) (r : Nat) : Bool := decide (x ≤ roomN l f r) && (decide (0 ≤ amt L (trF l r).toNat) && decide (amt L (trT l r).toNat = amt L (trF l r).toNat + 1))
def leadL (l : List Arc) (f : List Int) (x : Int) (L : List Int) (k : Nat) : List Nat := (List.range k).filter (leadB l f x L)
theorem wideL_hit {l : List Arc} {f : List Int} {x : Int} {k : Nat} (h : x ≤ roomN l f k) : wideL l f x (k + 1) = wideL l f x k ++ [k] := by
  unfold wideL; rw [List.range_succ, List.filter_append]; simp [h]
theorem wideL_miss {l : List Arc} {f : List Int} {x : Int} {k : Nat} (h : ¬ x ≤ roomN l f k) : wideL l f x (k + 1) = wideL l f x k := by
  unfold wideL; rw [List.range_succ, List.filter_append]; simp [h]
theorem wideL_len (l : List Arc) (f : List Int) (x : Int) (k : Nat) : (wideL l f x k).length ≤ k := by
  unfold wideL; exact Nat.le_trans (List.length_filter_le _ _) (by simp)
theorem wideL_mem {l : List Arc} {f : List Int} {x : Int} {k r : Nat} : r ∈ wideL l f x k ↔ r < k ∧ x ≤ roomN l f r := by
  unfold wideL; rw [List.mem_filter, List.mem_range, decide_eq_true_eq]
theorem leadL_hit {l : List Arc} {f : List Int} {x : Int} {L : List Int} {k : Nat} (h : leadB l f x L k = true) : leadL l f x L (k + 1) = leadL l f x L k ++ [k] := by
  unfold leadL; rw [List.range_succ, List.filter_append]; simp [h]
theorem leadL_miss {l : List Arc} {f : List Int} {x : Int} {L : List Int} {k : Nat} (h : leadB l f x L k = false) : leadL l f x L (k + 1) = leadL l f x L k := by
  unfold leadL; rw [List.range_succ, List.filter_append]; simp [h]
theorem leadL_len (l : List Arc) (f : List Int) (x : Int) (L : List Int) (k : Nat) : (leadL l f x L k).length ≤ k := by
  unfold leadL; exact Nat.le_trans (List.length_filter_le _ _) (by simp)
theorem leadL_mem {l : List Arc} {f : List Int} {x : Int} {L : List Int} {k r : Nat} : r ∈ leadL l f x L k ↔ r < k ∧ x ≤ roomN l f r ∧ 0 ≤ amt L (trF l r).toNat ∧ amt L (trT l r).toNat = amt L (trF l r).toNat + 1 := by
  unfold leadL leadB; rw [List.mem_filter, List.mem_range]; simp
theorem leadL_lt {l : List Arc} {f : List Int} {x : Int} {L : List Int} {k i : Nat} (h : i + 1 < (leadL l f x L k).length) : (leadL l f x L k).getD i 0 < (leadL l f x L k).getD (i + 1) 0 := by
  have hp : (leadL l f x L k).Pairwise (· < ·) := List.Pairwise.filter _ List.pairwise_lt_range
  have := List.pairwise_iff_getElem.1 hp i (i + 1) (by omega) h (by omega)
  simpa [List.getD_eq_getElem?_getD, List.getElem?_eq_getElem h, List.getElem?_eq_getElem (show i < (leadL l f x L k).length by omega)] using this
/-- tracks of T that lead on, as the program sifts them out of the tracks with room -/
def leadT (l : List Arc) (L : List Int) (T : List Nat) : List Nat := T.filter fun r => decide (0 ≤ amt L (trF l r).toNat) && decide (amt L (trT l r).toNat = amt L (trF l r).toNat + 1)
theorem leadT_all (l : List Arc) (f : List Int) (x : Int) (L : List Int) (k : Nat) : leadT l L (wideL l f x k) = leadL l f x L k := by
  unfold leadT wideL leadL leadB
  rw [List.filter_filter]
  congr 1; funext r
  rw [Bool.and_comm]
theorem leadT_snoc (l : List Arc) (L : List Int) (T : List Nat) (r : Nat) : leadT l L (T ++ [r]) = leadT l L T ++ if (decide (0 ≤ amt L (trF l r).toNat) && decide (amt L (trT l r).toNat = amt L (trF l r).toNat + 1)) = true then [r] else [] := by
  unfold leadT; rw [List.filter_append]
  congr 1
  rw [List.filter_cons]; split <;> simp_all
theorem leadT_len (l : List Arc) (L : List Int) (T : List Nat) : (leadT l L T).length ≤ T.length := by
  unfold leadT; exact List.length_filter_le _ _
/-- the nodes to which tracks of T go from v -/
def nbL (l : List Arc) (T : List Nat) (v : Nat) : List Nat := (T.filter fun r => decide ((trF l r).toNat = v)).map fun r => (trT l r).toNat
theorem nbL_snoc (l : List Arc) (T : List Nat) (r v : Nat) : nbL l (T ++ [r]) v = if v = (trF l r).toNat then nbL l T v ++ [(trT l r).toNat] else nbL l T v := by
  unfold nbL; rw [List.filter_append, List.map_append]
  by_cases e : v = (trF l r).toNat
  · rw [if_pos e]; subst e; simp
  · rw [if_neg e]; simp [Ne.symm e]
theorem nbL_len (l : List Arc) (T : List Nat) (v : Nat) : (nbL l T v).length ≤ T.length := by
  unfold nbL; rw [List.length_map]; exact List.length_filter_le _ _
theorem nbL_mem {l : List Arc} {T : List Nat} {v t : Nat} : t ∈ nbL l T v ↔ ∃ r ∈ T, (trF l r).toNat = v ∧ (trT l r).toNat = t := by
  unfold nbL; rw [List.mem_map]
  constructor
  · rintro ⟨r, h, e⟩; rw [List.mem_filter, decide_eq_true_eq] at h; exact ⟨r, h.1, h.2, e⟩
  · rintro ⟨r, h1, h2, e⟩; exact ⟨r, by rw [List.mem_filter, decide_eq_true_eq]; exact ⟨h1, h2⟩, e⟩
end Ne
end Go.Proofs.Ytkeojkddbannpaa
namespace Go.Proofs.Ytkeojkddbannpaa
open Go.ChangeShapes Go.WideShapes Go.ChangeAt Go.RowKit
set_option linter.unusedVariables false
set_option linter.unusedSimpArgs false
namespace Ne
theorem least_of {p : Nat → Prop} (h : ∃ k, p k) : ∃ k, p k ∧ ∀ j, p j → k ≤ j := by
  obtain ⟨k, hk⟩ := h
  induction k using Nat.strongRecOn with
  | ind k ih =>
    by_cases c : ∃ j, j < k ∧ p j
    · obtain ⟨j, hj, hp⟩ := c; exact ih j hj hp
    · exact ⟨k, hk, fun j hj => by
        rcases Nat.lt_or_ge j k with h | h
        · exact absurd ⟨j, h, hj⟩ c
        · exact h⟩
theorem lev_exists {n : Net} (hR : Right n) (f : List Int) (x : Int) : ∃ L, IsLev n f x L := by
  have h : ∀ i : Nat, ∃ a : Int, (a = -1 ∧ ¬ ∃ k, Dst n f x k (i : Int)) ∨ ∃ k : Nat, a = (k : Int) ∧ Dst n f x k (i : Int) ∧ ∀ j, Dst n f x j (i : Int) → k ≤ j := fun i => by
    by_cases c : ∃ k, Dst n f x k (i : Int)
    · obtain ⟨k, h1, h2⟩ := least_of c; exact ⟨k, .inr ⟨k, rfl, h1, h2⟩⟩
    · exact ⟨-1, .inl ⟨rfl, c⟩⟩
  obtain ⟨g, hg⟩ := Classical.axiomOfChoice h
  have ha : ∀ i, i < n.n.toNat + 1 → amt ((List.range (n.n.toNat + 1)).map g) i = g i := fun i hi => by simp [amt, hi]
  refine ⟨(List.range (n.n.toNat + 1)).map g, by simp, fun i hi => ?_, fun k v hd => ?_⟩
  · rw [ha i hi]
    rcases hg i with ⟨e, _⟩ | ⟨k, e, hd, _⟩
    · exact .inl e
    · exact .inr ⟨k, e, hd⟩
  · have hb := dst_bd hR hd
    rw [ha _ (by omega)]
    have hd' : Dst n f x k ((v.toNat : Nat) : Int) := by rwa [show ((v.toNat : Nat) : Int) = v by omega]
    rcases hg v.toNat with ⟨_, e⟩ | ⟨j, e, _, hm⟩
    · exact absurd ⟨k, hd'⟩ e
    · have := hm k hd'; omega
def lvV (n : Net) (f : List Int) (x : Int) (L : List Int) : List Int := if reE n f x ≠ 0 then [] else L
def ldV (n : Net) (f : List Int) (x : Int) (L : List Int) : List Nat := if reE n f x ≠ 0 then [] else leadL n.l f x L (2 * n.l.length)
def dpV (n : Net) (f : List Int) (x : Int) (L : List Int) : Int := if reE n f x ≠ 0 then 0 else amt L n.t.toNat
theorem lvV_bad {n : Net} {f : List Int} {x : Int} {L : List Int} (h : reE n f x ≠ 0) : lvV n f x L = [] ∧ ldV n f x L = [] ∧ dpV n f x L = 0 := by
  unfold lvV ldV dpV; rw [if_pos h, if_pos h, if_pos h]; exact ⟨rfl, rfl, rfl⟩
theorem lvV_ok {n : Net} {f : List Int} {x : Int} {L : List Int} (h : reE n f x = 0) : lvV n f x L = L ∧ ldV n f x L = leadL n.l f x L (2 * n.l.length) ∧ dpV n f x L = amt L n.t.toNat := by
  unfold lvV ldV dpV; rw [if_neg (by simpa using h), if_neg (by simpa using h), if_neg (by simpa using h)]; exact ⟨rfl, rfl, rfl⟩
/-- levels up to k, and what the tracks ahead of r tell of those of k + 1 -/
def LevR (n : Net) (f : List Int) (x : Int) (k r : Nat) (L : List Int) : Prop := ∃ M, LevM n f x k L M ∧ ∀ q : Nat, q < r → x ≤ roomN n.l f q → amt L (trF n.l q).toNat = (k : Int) → 0 ≤ amt L (trT n.l q).toNat
section
variable {n : Net} {f : List Int} {x : Int} {k r : Nat} {L : List Int}
theorem levR_start (h : LevK n f x k L) : LevR n f x k 0 L := ⟨[], levM_start h, fun q hq => absurd hq (by omega)⟩
theorem levR_len (h : LevR n f x k r L) : L.length = n.n.toNat + 1 := by obtain ⟨M, h, _⟩ := h; exact h.len
theorem levR_skip (h : LevR n f x k r L) (h1 : x ≤ roomN n.l f r → amt L (trF n.l r).toNat = (k : Int) → 0 ≤ amt L (trT n.l r).toNat) : LevR n f x k (r + 1) L := by
  obtain ⟨M, hM, hd⟩ := h
  refine ⟨M, hM, fun q hq hx e => ?_⟩
  by_cases c : q = r
  · subst c; exact h1 hx e
  · exact hd q (by omega) hx e
theorem levR_put (hR : Right n) (h : LevR n f x k r L) (hr : r < 2 * n.l.length) (hx : x ≤ roomN n.l f r) (h1 : amt L (trF n.l r).toNat = (k : Int)) (h2 : amt L (trT n.l r).toNat < 0) : LevR n f x k (r + 1) (L.set (trT n.l r).toNat ((k : Int) + 1)) := by
  obtain ⟨M, hM, hd⟩ := h
  have hb := trF_bd hR hr; have hb2 := trT_bd hR hr
  have ht : (trT n.l r).toNat < n.n.toNat + 1 := by omega
  have h3 : amt L (trT n.l r).toNat = -1 := by rcases hM.val _ ht with e | ⟨j, _, e, _⟩ <;> omega
  have hD : Dst n f x (k + 1) (((trT n.l r).toNat : Nat) : Int) := by
    rw [show (((trT n.l r).toNat : Nat) : Int) = trT n.l r by omega]
    refine .step hr hx ?_
    rcases hM.val (trF n.l r).toNat (by omega) with e | ⟨j, _, e, hj⟩
    · omega
    · obtain rfl : j = k := by omega
      rwa [show (((trF n.l r).toNat : Nat) : Int) = trF n.l r by omega] at hj
  refine ⟨M ++ [(trT n.l r).toNat], levM_put hM ht h3 hD, fun q hq hxq e => ?_⟩
  have e1 : ((k : Int) + 1) = ((k + 1 : Nat) : Int) := by omega
  rw [e1] at e ⊢
  by_cases c : q = r
  · subst c
    rw [amt_set _ (by rw [hM.len]; exact ht), if_pos rfl]; omega
  · refine levM_keep hM ht h3 (hd q (by omega) hxq ?_)
    rw [amt_set _ (by rw [hM.len]; exact ht)] at e
    by_cases c2 : (trF n.l q).toNat = (trT n.l r).toNat
    · rw [if_pos c2] at e; omega
    · rw [if_neg c2] at e; exact e
theorem levR_end (hR : Right n) (h : LevR n f x k (2 * n.l.length) L) : LevK n f x (k + 1) L := by
  obtain ⟨M, hM, hd⟩ := h
  exact levM_end hR hM fun r hr hx e => hd r hr hx e
end
end Ne
end Go.Proofs.Ytkeojkddbannpaa
namespace Go.Proofs.Ytkeojkddbannpaa
open Go.ChangeShapes Go.WideShapes Go.ChangeAt Go.RowKit
set_option linter.unusedVariables false
set_option linter.unusedSimpArgs false
namespace Ne
section
variable {n : Net} {f : List Int} {x : Int} {L : List Int}
theorem lev_rooms (hR : Right n) {y : Int} {L2 : List Int} (h1 : IsLev n f x L) (h2 : IsLev n f y L2) (hxy : x ≤ y) {i : Nat} (hi : i < n.n.toNat + 1) (h0 : 0 ≤ amt L2 i) : 0 ≤ amt L i ∧ amt L i ≤ amt L2 i := by
  obtain ⟨k, e, hd⟩ := lev_node h2 hi h0
  have := h1.low k _ (dst_less hxy hd)
  rw [Int.toNat_natCast] at this
  omega
theorem lev_far (hR : Right n) (h : IsLev n f x L) (hr : ∀ r, r < 2 * n.l.length → roomN n.l f r < x) {i : Nat} (hi : i < n.n.toNat + 1) : amt L i = if (i : Int) = n.s then 0 else -1 := by
  by_cases e : (i : Int) = n.s
  · rw [if_pos e]
    have := lev_src hR h
    rwa [show n.s.toNat = i by omega] at this
  · rw [if_neg e]
    rcases h.val i hi with e2 | ⟨k, _, hd⟩
    · exact e2
    · exact absurd (rch_far hr (dst_rch hd)) e
theorem lead_far (hr : ∀ r, r < 2 * n.l.length → roomN n.l f r < x) : leadL n.l f x L (2 * n.l.length) = [] := by
  rw [List.eq_nil_iff_forall_not_mem]
  intro r hm
  obtain ⟨h1, h2, _⟩ := leadL_mem.1 hm
  have := hr r h1
  omega
theorem room_far (hR : Right n) (hw : wi n.l f) : ∀ r, r < 2 * n.l.length → roomN n.l f r < 4611686018427387904 := fun r hr => by
  have := (room_nn hw hr).2
  have := cap_topR hR (i := r / 2) (by omega)
  omega
/-- what a track that leads on says -/
theorem lead_says (hR : Right n) (h : IsLev n f x L) {r : Nat} (hm : r ∈ leadL n.l f x L (2 * n.l.length)) :
    r < 2 * n.l.length ∧ x ≤ roomN n.l f r ∧ (trF n.l r).toNat < n.n.toNat + 1 ∧ (trT n.l r).toNat < n.n.toNat + 1 ∧ 1 ≤ (trF n.l r).toNat ∧ 1 ≤ (trT n.l r).toNat ∧ 0 ≤ amt L (trF n.l r).toNat ∧ amt L (trT n.l r).toNat = amt L (trF n.l r).toNat + 1 ∧ (trT n.l r).toNat ≠ n.s.toNat ∧ (trF n.l r).toNat ≠ (trT n.l r).toNat ∧ opp r ∉ leadL n.l f x L (2 * n.l.length) := by
  obtain ⟨h1, h2, h3, h4⟩ := leadL_mem.1 hm
  have hb := trF_bd hR h1; have hb2 := trT_bd hR h1
  refine ⟨h1, h2, by omega, by omega, by omega, by omega, h3, h4, fun e => ?_, fun e => ?_, fun ho => ?_⟩
  · have := lev_src hR h; rw [← e] at this; omega
  · rw [e] at h4; omega
  · obtain ⟨_, _, _, h5⟩ := leadL_mem.1 ho
    rw [trT_opp, trF_opp] at h5; omega
/-- each level above nothing is come to by a track that leads on -/
theorem lead_to (hR : Right n) (h : IsLev n f x L) {i k : Nat} (hi : i < n.n.toNat + 1) (e : amt L i = ((k + 1 : Nat) : Int)) : ∃ r ∈ leadL n.l f x L (2 * n.l.length), (trT n.l r).toNat = i ∧ amt L (trF n.l r).toNat = (k : Int) := by
  obtain ⟨r, hr, hx, ht, e2⟩ := lev_prev hR h hi e
  refine ⟨r, leadL_mem.2 ⟨hr, hx, by omega, ?_⟩, by omega, e2⟩
  rw [show (trT n.l r).toNat = i by omega, e, e2]; omega
end
/-- a walk of k tracks with room, from u to v, told from its beginning on -/
inductive Pth (l : List Arc) (f : List Int) (x : Int) : Nat → Int → Int → Prop
  | nil (v : Int) : Pth l f x 0 v v
  | cons {k r : Nat} {v : Int} : r < 2 * l.length → x ≤ roomN l f r → Pth l f x k (trT l r) v → Pth l f x (k + 1) (trF l r) v
theorem pth_snoc {l : List Arc} {f : List Int} {x : Int} {k r : Nat} {u v : Int} (h : Pth l f x k u v) (hr : r < 2 * l.length) (hx : x ≤ roomN l f r) (e : v = trF l r) : Pth l f x (k + 1) u (trT l r) := by
  induction h with
  | nil v => subst e; exact .cons hr hx (.nil _)
  | cons h1 h2 _ ih => exact .cons h1 h2 (ih e)
theorem dst_pth {n : Net} {f : List Int} {x : Int} {k : Nat} {v : Int} (h : Dst n f x k v) : Pth n.l f x k n.s v := by
  induction h with
  | base => exact .nil _
  | step hr hx _ ih => exact pth_snoc ih hr hx rfl
theorem tr_turn {l : List Arc} {f : List Int} {r : Nat} (hr : r < 2 * l.length) : trF (l.map turnA) r = trT l r ∧ trT (l.map turnA) r = trF l r ∧ roomN (l.map turnA) f r = roomN l f r := by
  unfold trF trT roomN
  rw [arcAt_turn (by omega)]
  exact ⟨rfl, rfl, rfl⟩
theorem pth_turn {n : Net} {f : List Int} {x : Int} {k : Nat} {u : Int} (h : Pth n.l f x k u n.t) : Dst (turnN n) f x k u := by
  obtain ⟨v, hv⟩ : ∃ v, v = n.t := ⟨_, rfl⟩
  rw [← hv] at h
  induction h with
  | nil v => rw [hv]; exact .base
  | @cons k r v h1 h2 _ ih =>
    obtain ⟨e1, e2, e3⟩ := tr_turn (f := f) h1
    have h4 := Dst.step (n := turnN n) (f := f) (x := x) (k := k) (r := r) (by simpa [turnN] using h1) (by show x ≤ roomN (n.l.map turnA) f r; rw [e3]; exact h2) (by show Dst (turnN n) f x k (trF (n.l.map turnA) r); rw [e1]; exact ih hv)
    have h5 : trT (turnN n).l r = trF n.l r := e2
    rwa [h5] at h4
theorem turn_turn (n : Net) : turnN (turnN n) = n := by
  obtain ⟨a, b, c, l⟩ := n
  have : (l.map turnA).map turnA = l := by rw [List.map_map]; exact (List.map_congr_left (fun x _ => rfl)).trans (List.map_id l)
  show (⟨a, b, c, (l.map turnA).map turnA⟩ : Net) = _
  rw [this]
theorem turned_le {n : Net} {f : List Int} {x : Int} {L1 L2 : List Int} (hR : Right n) (h1 : IsLev n f x L1) (h2 : IsLev (turnN n) f x L2) (h0 : 0 ≤ amt L1 n.t.toNat) : 0 ≤ amt L2 n.s.toNat ∧ amt L2 n.s.toNat ≤ amt L1 n.t.toNat := by
  have ht0 := hR.t0; have ht1 := hR.t1
  obtain ⟨k, e, hd⟩ := lev_node h1 (i := n.t.toNat) (by omega) h0
  rw [show ((n.t.toNat : Nat) : Int) = n.t by omega] at hd
  have := h2.low k n.s (pth_turn (dst_pth hd))
  omega
theorem lev_turned {n : Net} {f : List Int} {x : Int} {L1 L2 : List Int} (hR : Right n) (hR2 : Right (turnN n)) (h1 : IsLev n f x L1) (h2 : IsLev (turnN n) f x L2) : amt L1 n.t.toNat = amt L2 n.s.toNat := by
  have hs0 := hR.s0; have hs1 := hR.s1; have ht0 := hR.t0; have ht1 := hR.t1
  have a := turned_le hR h1 h2
  have b := turned_le hR2 h2 (by rw [turn_turn]; exact h1)
  have b' : 0 ≤ amt L2 n.s.toNat → 0 ≤ amt L1 n.t.toNat ∧ amt L1 n.t.toNat ≤ amt L2 n.s.toNat := b
  have c1 := (lev_lt hR h1 (i := n.t.toNat) (by omega)).1
  have c2 := (lev_lt hR2 h2 (i := n.s.toNat) (by show n.s.toNat < n.n.toNat + 1; omega)).1
  by_cases d1 : 0 ≤ amt L1 n.t.toNat
  · have := a d1; have := b' this.1; omega
  · by_cases d2 : 0 ≤ amt L2 n.s.toNat
    · have := b' d2; omega
    · omega
theorem reE_turned {n : Net} {f : List Int} {x : Int} (hck : checkN (turnN n) = 0) (hF : Flow n f) (hx : 1 ≤ x) : reE (turnN n) f x = 0 := by
  unfold reE; rw [if_neg (by simpa using (calm_chk hck (turn_calm hF)).1), if_neg (by omega)]
/-- what the sink's level says -/
theorem sink_says {n : Net} {f : List Int} {x : Int} {L : List Int} {M : List Bool} (hR : Right n) (h : IsLev n f x L) (hM : IsReach n f x M) : M.getD n.t.toNat false = decide (0 ≤ amt L n.t.toNat) ∧ amt L n.t.toNat < n.n ∧ amt L n.t.toNat ≠ 0 := by
  have ht0 := hR.t0; have ht1 := hR.t1; have hs0 := hR.s0
  refine ⟨?_, (lev_lt hR h (by omega)).2, fun e => ?_⟩
  · have a := lev_rch hR h (i := n.t.toNat) (by omega)
    have b := reach_iff hR hM n.t.toNat
    rw [Bool.eq_iff_iff, b, ← a]; simp
  · have := lev_only hR h (i := n.t.toNat) (by omega) e
    have := hR.ne
    omega
end Ne
end Go.Proofs.Ytkeojkddbannpaa
namespace Go.Proofs.Ytkeojkddbannpaa
open Go.ChangeShapes Go.WideShapes Go.ChangeAt Go.RowKit
set_option linter.unusedVariables false
set_option linter.unusedSimpArgs false
namespace Ne
/-- a walk over tracks of TL with room x or more -/
inductive Wlk (l : List Arc) (TL : List Nat) (f : List Int) (x : Int) : Int → List Nat → Int → Prop
  | nil (v : Int) : Wlk l TL f x v [] v
  | cons {r : Nat} {R : List Nat} {v : Int} : r ∈ TL → x ≤ roomN l f r → Wlk l TL f x (trT l r) R v → Wlk l TL f x (trF l r) (r :: R) v
/-- the first one of them to t -/
inductive FirstW (l : List Arc) (TL : List Nat) (f : List Int) (x : Int) (t : Int) : Int → List Nat → Prop
  | done : FirstW l TL f x t t []
  | step {r : Nat} {R : List Nat} : trF l r ≠ t → r ∈ TL → x ≤ roomN l f r → FirstW l TL f x t (trT l r) R → (∀ q ∈ TL, trF l q = trF l r → x ≤ roomN l f q → q < r → ∀ R', ¬ Wlk l TL f x (trT l q) R' t) → FirstW l TL f x t (trF l r) (r :: R)
/-- tracks that lead on: from level to level -/
structure Lds (l : List Arc) (L : List Int) (TL : List Nat) : Prop where
  lt : ∀ r ∈ TL, r < 2 * l.length
  up : ∀ r ∈ TL, amt L (trT l r).toNat = amt L (trF l r).toNat + 1
  srt : TL.Pairwise (· < ·)
theorem lds_of (l : List Arc) (f : List Int) (x : Int) (L : List Int) : Lds l L (leadL l f x L (2 * l.length)) :=
  ⟨fun r h => (leadL_mem.1 h).1, fun r h => (leadL_mem.1 h).2.2.2, List.Pairwise.filter _ List.pairwise_lt_range⟩
section
variable {l : List Arc} {TL : List Nat} {f : List Int} {x t : Int} {L : List Int}
theorem wlk_inv {u v : Int} {R : List Nat} (h : Wlk l TL f x u R v) : (R = [] ∧ u = v) ∨ ∃ r R', R = r :: R' ∧ u = trF l r ∧ r ∈ TL ∧ x ≤ roomN l f r ∧ Wlk l TL f x (trT l r) R' v := by
  cases h with
  | nil => exact .inl ⟨rfl, rfl⟩
  | @cons r R' v h1 h2 h3 => exact .inr ⟨r, R', rfl, rfl, h1, h2, h3⟩
theorem firstW_inv {u : Int} {R : List Nat} (h : FirstW l TL f x t u R) : (R = [] ∧ u = t) ∨ ∃ r R', R = r :: R' ∧ u = trF l r ∧ u ≠ t ∧ r ∈ TL ∧ x ≤ roomN l f r ∧ FirstW l TL f x t (trT l r) R' ∧ ∀ q ∈ TL, trF l q = u → x ≤ roomN l f q → q < r → ∀ R', ¬ Wlk l TL f x (trT l q) R' t := by
  cases h with
  | done => exact .inl ⟨rfl, rfl⟩
  | @step r R' h0 h1 h2 h3 h4 => exact .inr ⟨r, R', rfl, rfl, h0, h1, h2, h3, h4⟩
theorem firstW_wlk {u : Int} {R : List Nat} (h : FirstW l TL f x t u R) : Wlk l TL f x u R t := by
  induction h with
  | done => exact .nil _
  | step _ h1 h2 _ _ ih => exact .cons h1 h2 ih
theorem firstW_one {u : Int} {R1 R2 : List Nat} (h1 : FirstW l TL f x t u R1) (h2 : FirstW l TL f x t u R2) : R1 = R2 := by
  induction h1 generalizing R2 with
  | done =>
    rcases firstW_inv h2 with ⟨e, _⟩ | ⟨_, _, _, _, h, _⟩
    · exact e.symm
    · exact absurd rfl h
  | @step r R h0 h1 h3 h4 h5 ih =>
    rcases firstW_inv h2 with ⟨_, e⟩ | ⟨r2, R', rfl, e, _, g1, g2, g3, g4⟩
    · exact absurd e h0
    · rcases Nat.lt_trichotomy r r2 with c | c | c
      · exact absurd (firstW_wlk h4) (g4 r h1 rfl h3 c R)
      · subst c; rw [ih g3]
      · exact absurd (firstW_wlk g3) (h5 r2 g1 e.symm g2 c R')
theorem wlk_snoc {u : Int} {R : List Nat} {r : Nat} {v : Int} (h : Wlk l TL f x u R v) (hr : r ∈ TL) (hx : x ≤ roomN l f r) (e : v = trF l r) : Wlk l TL f x u (R ++ [r]) (trT l r) := by
  induction h with
  | nil v => subst e; exact .cons hr hx (.nil _)
  | cons h1 h2 _ ih => exact .cons h1 h2 (ih e)
theorem wlk_mem {u v : Int} {R : List Nat} (h : Wlk l TL f x u R v) : ∀ r ∈ R, r ∈ TL ∧ x ≤ roomN l f r := by
  induction h with
  | nil => intro r hr; simp at hr
  | cons h1 h2 _ ih =>
    intro q hq
    rcases List.mem_cons.1 hq with e | hq
    · subst e; exact ⟨h1, h2⟩
    · exact ih q hq
theorem wlk_less {g : List Int} {u v : Int} {R : List Nat} (hd : ∀ r ∈ TL, roomN l g r ≤ roomN l f r) (h : Wlk l TL g x u R v) : Wlk l TL f x u R v := by
  induction h with
  | nil => exact .nil _
  | cons h1 h2 _ ih => exact .cons h1 (by have := hd _ h1; omega) ih
theorem wlk_lev (hL : Lds l L TL) {u v : Int} {R : List Nat} (h : Wlk l TL f x u R v) : amt L v.toNat = amt L u.toNat + (R.length : Int) := by
  induction h with
  | nil => simp
  | cons h1 h2 _ ih => rw [ih, hL.up _ h1, List.length_cons]; omega
theorem wlk_at (hL : Lds l L TL) {u v : Int} {R : List Nat} (h : Wlk l TL f x u R v) : walkAt l u (encW R) = some v := by
  induction h with
  | nil => rfl
  | cons h1 _ _ ih => rw [walkAt_cons (hL.lt _ h1), if_pos rfl, ih]
theorem same_half {r q : Nat} (h : r / 2 = q / 2) : q = r ∨ q = opp r := by unfold opp; split <;> omega
theorem lds_opp (hL : Lds l L TL) {r : Nat} (h : r ∈ TL) : opp r ∉ TL := fun ho => by
  have h1 := hL.up _ h
  have h2 := hL.up _ ho
  rw [trT_opp, trF_opp] at h2
  omega
theorem wlk_above (hL : Lds l L TL) {u v : Int} {R : List Nat} (h : Wlk l TL f x u R v) : ∀ r ∈ R, amt L u.toNat ≤ amt L (trF l r).toNat := by
  induction h with
  | nil => intro r hr; simp at hr
  | @cons r R v h1 _ _ ih =>
    intro q hq
    rcases List.mem_cons.1 hq with e | hq
    · subst e; exact Int.le_refl _
    · have := ih q hq; have := hL.up _ h1; omega
theorem wlk_nodup (hL : Lds l L TL) {u v : Int} {R : List Nat} (h : Wlk l TL f x u R v) : (R.map (· / 2)).Nodup := by
  induction h with
  | nil => exact List.nodup_nil
  | @cons r R v h1 _ h3 ih =>
    rw [List.map_cons]
    refine List.nodup_cons.2 ⟨fun hm => ?_, ih⟩
    obtain ⟨q, hq, e⟩ := List.mem_map.1 hm
    have h4 := wlk_above hL h3 q hq
    have h5 := hL.up _ h1
    rcases same_half e.symm with e2 | e2
    · subst e2; omega
    · exact lds_opp hL h1 (e2 ▸ (wlk_mem h3 q hq).1)
/-- what is less where two walks are first unlike -/
def LexLt (R R' : List Nat) : Prop := ∃ j, j < R.length ∧ j < R'.length ∧ R.take j = R'.take j ∧ R.getD j 0 < R'.getD j 0
theorem first_min (hL : Lds l L TL) {u : Int} {R R' : List Nat} (h : FirstW l TL f x t u R) (h' : Wlk l TL f x u R' t) : R = R' ∨ LexLt R R' := by
  induction h generalizing R' with
  | done =>
    left
    have := wlk_lev hL h'
    exact (List.eq_nil_of_length_eq_zero (by omega)).symm
  | @step r R h0 h1 h3 h4 h5 ih =>
    rcases wlk_inv h' with ⟨_, e⟩ | ⟨q, Q, rfl, e, g1, g2, g3⟩
    · exact absurd e h0
    · rcases Nat.lt_trichotomy r q with c | c | c
      · exact .inr ⟨0, by simp, by simp, rfl, by simpa using c⟩
      · subst c
        rcases ih g3 with e2 | ⟨j, j1, j2, j3, j4⟩
        · exact .inl (by rw [e2])
        · exact .inr ⟨j + 1, by simpa using j1, by simpa using j2, by simp [j3], by simpa using j4⟩
      · exact absurd g3 (h5 q g1 e.symm g2 c Q)
/-- what is pushed along a walk over such tracks -/
theorem wlk_push (hL : Lds l L TL) {u v : Int} {R : List Nat} (h : Wlk l TL f x u R v) {a : Int} (hl : f.length = l.length) (ha : ∀ r ∈ R, a ≤ roomN l f r) :
    ∃ g, pushN l f a (encW R) = some g ∧ g.length = l.length ∧ (∀ r, r < 2 * l.length → roomN l g r = if r ∈ R then roomN l f r - a else if opp r ∈ R then roomN l f r + a else roomN l f r) := by
  have hlt : ∀ r ∈ R, r < 2 * l.length := fun r hr => hL.lt r (wlk_mem h r hr).1
  have hn := wlk_nodup hL h
  have hs := (push_simple (x := a) hl hn hlt).2 ha
  obtain ⟨g, hg⟩ := Option.isSome_iff_exists.1 hs
  obtain ⟨h1, h2⟩ := push_sgn hl hlt hg
  refine ⟨g, hg, h1, fun r hr => ?_⟩
  have e : roomN l g r = roomN l f r + (if r % 2 = 1 then a * sgn R (r / 2) else -(a * sgn R (r / 2))) := by
    unfold roomN
    rw [h2]
    split <;> omega
  rw [e]
  by_cases c : r ∈ R
  · rw [if_pos c, sgn_in hn c]
    split <;> omega
  · rw [if_neg c]
    by_cases d : opp r ∈ R
    · rw [if_pos d, ← opp_half r, sgn_in hn d, opp_odd]
      by_cases o : r % 2 = 1
      · rw [if_pos o, if_neg (by omega)]; omega
      · rw [if_neg o, if_pos (by omega)]; omega
    · rw [if_neg d, sgn_notin fun hm => by
        obtain ⟨q, hq, e2⟩ := List.mem_map.1 hm
        rcases same_half (r := r) (q := q) e2.symm with e3 | e3
        · exact c (e3 ▸ hq)
        · exact d (e3 ▸ hq)]
      split <;> omega
/-- a is the least room of a walk -/
structure Least (l : List Arc) (f : List Int) (R : List Nat) (a : Int) : Prop where
  all : ∀ r ∈ R, a ≤ roomN l f r
  one : ∃ r ∈ R, a = roomN l f r
theorem least_one {R : List Nat} {a b : Int} (h1 : Least l f R a) (h2 : Least l f R b) : a = b := by
  obtain ⟨r, hr, e⟩ := h1.one
  obtain ⟨q, hq, e2⟩ := h2.one
  have := h2.all r hr
  have := h1.all q hq
  omega
/-- what stands behind walks over TL -/
structure Beh (l : List Arc) (TL : List Nat) (f g : List Int) : Prop where
  len : g.length = l.length
  inc : ∀ r, r < 2 * l.length → roomN l f r < roomN l g r → opp r ∈ TL
  dec : ∀ r ∈ TL, roomN l g r ≤ roomN l f r
theorem beh_refl (hl : f.length = l.length) : Beh l TL f f := ⟨hl, fun r _ h => absurd h (by omega), fun r _ => Int.le_refl _⟩
theorem Beh.trans {g h : List Int} (h1 : Beh l TL f g) (h2 : Beh l TL g h) : Beh l TL f h :=
  ⟨h2.len, fun r hr hlt => by
    by_cases c : roomN l f r < roomN l g r
    · exact h1.inc r hr c
    · exact h2.inc r hr (by omega), fun r hr => Int.le_trans (h2.dec r hr) (h1.dec r hr)⟩
theorem beh_push (hL : Lds l L TL) {u v : Int} {R : List Nat} (h : Wlk l TL f x u R v) {a : Int} (hl : f.length = l.length) (h0 : 0 ≤ a) (ha : ∀ r ∈ R, a ≤ roomN l f r) {g : List Int} (hp : pushN l f a (encW R) = some g) :
    Beh l TL f g ∧ ∀ r ∈ TL, roomN l g r = if r ∈ R then roomN l f r - a else roomN l f r := by
  obtain ⟨g', e, h1, h2⟩ := wlk_push hL h hl ha
  rw [hp] at e
  cases e
  have hT : ∀ r ∈ TL, roomN l g r = if r ∈ R then roomN l f r - a else roomN l f r := fun r hr => by
    rw [h2 r (hL.lt r hr)]
    by_cases c : r ∈ R
    · rw [if_pos c, if_pos c]
    · rw [if_neg c, if_neg c, if_neg fun ho => lds_opp hL hr (wlk_mem h _ ho).1]
  refine ⟨⟨h1, fun r hr hlt => ?_, fun r hr => ?_⟩, hT⟩
  · rw [h2 r hr] at hlt
    by_cases c : r ∈ R
    · rw [if_pos c] at hlt; omega
    · rw [if_neg c] at hlt
      by_cases d : opp r ∈ R
      · exact (wlk_mem h _ d).1
      · rw [if_neg d] at hlt; omega
  · rw [hT r hr]; split <;> omega
/-- walks that are led one behind the other: each the first one, by its least room -/
inductive BlkW (l : List Arc) (TL : List Nat) (x s t : Int) : List Int → List (List Nat × Int) → List Int → Prop
  | nil (f : List Int) : BlkW l TL x s t f [] f
  | cons {f g h : List Int} {R : List Nat} {a : Int} {W : List (List Nat × Int)} : FirstW l TL f x t s R → Least l f R a → pushN l f a (encW R) = some g → BlkW l TL x s t g W h → BlkW l TL x s t f ((R, a) :: W) h
theorem blkW_inv {s : Int} {h : List Int} {W : List (List Nat × Int)} (b : BlkW l TL x s t f W h) : (W = [] ∧ f = h) ∨ ∃ R a V g, W = (R, a) :: V ∧ FirstW l TL f x t s R ∧ Least l f R a ∧ pushN l f a (encW R) = some g ∧ BlkW l TL x s t g V h := by
  cases b with
  | nil => exact .inl ⟨rfl, rfl⟩
  | @cons _ g _ R a V h1 h2 h3 h4 => exact .inr ⟨R, a, V, g, rfl, h1, h2, h3, h4⟩
theorem blkW_snoc {s : Int} {g h : List Int} {W : List (List Nat × Int)} {R : List Nat} {a : Int} (b : BlkW l TL x s t f W g) (h1 : FirstW l TL g x t s R) (h2 : Least l g R a) (h3 : pushN l g a (encW R) = some h) : BlkW l TL x s t f (W ++ [(R, a)]) h := by
  induction b with
  | nil f => exact .cons h1 h2 h3 (.nil _)
  | cons g1 g2 g3 _ ih => exact .cons g1 g2 g3 (ih h1 h2 h3)
theorem blkW_one {s : Int} {g1 g2 : List Int} {W1 W2 : List (List Nat × Int)} (b1 : BlkW l TL x s t f W1 g1) (b2 : BlkW l TL x s t f W2 g2) (e1 : ∀ R, ¬ Wlk l TL g1 x s R t) (e2 : ∀ R, ¬ Wlk l TL g2 x s R t) : W1 = W2 ∧ g1 = g2 := by
  induction b1 generalizing W2 with
  | nil f =>
    rcases blkW_inv b2 with ⟨rfl, rfl⟩ | ⟨R, _, _, _, _, h, _⟩
    · exact ⟨rfl, rfl⟩
    · exact absurd (firstW_wlk h) (e1 R)
  | @cons f g h R a W h1 h2 h3 _ ih =>
    rcases blkW_inv b2 with ⟨rfl, rfl⟩ | ⟨R', a', V, g', rfl, k1, k2, k3, k4⟩
    · exact absurd (firstW_wlk h1) (e2 R)
    · obtain rfl := firstW_one h1 k1
      obtain rfl := least_one h2 k2
      rw [h3] at k3
      cases k3
      obtain ⟨e, e'⟩ := ih k4 e1
      exact ⟨by rw [e], e'⟩
/-- tracks with room left -/
def left (l : List Arc) (TL : List Nat) (x : Int) (f : List Int) : Nat := TL.countP fun r => decide (x ≤ roomN l f r)
theorem left_step (hL : Lds l L TL) {u v : Int} {R : List Nat} (h : Wlk l TL f x u R v) {a : Int} (hl : f.length = l.length) (hx : 1 ≤ x) (ha : Least l f R a) {g : List Int} (hp : pushN l f a (encW R) = some g) : left l TL x g < left l TL x f := by
  obtain ⟨r, hr, e⟩ := ha.one
  obtain ⟨hrT, hrx⟩ := wlk_mem h r hr
  obtain ⟨hb, hT⟩ := beh_push hL h hl (by omega) ha.all hp
  have hle : ∀ q ∈ TL, (decide (x ≤ roomN l g q)) = true → (decide (x ≤ roomN l f q)) = true := fun q hq hg => by
    have := hb.dec q hq
    simp only [decide_eq_true_eq] at hg ⊢
    omega
  have hr0 : ¬ (x ≤ roomN l g r) := by rw [hT r hrT, if_pos hr]; omega
  unfold left
  clear hT hb hp h ha hL
  induction TL with
  | nil => simp at hrT
  | cons q TL ih =>
    rw [List.countP_cons, List.countP_cons]
    have hm := List.countP_mono_left (p := fun r => decide (x ≤ roomN l g r)) (q := fun r => decide (x ≤ roomN l f r)) (l := TL) fun q' hq' => hle q' (List.mem_cons_of_mem _ hq')
    rcases List.mem_cons.1 hrT with e2 | hrT
    · subst e2
      rw [if_neg (by simpa using hr0), if_pos (by simpa using hrx)]; omega
    · have := ih hrT fun q' hq' => hle q' (List.mem_cons_of_mem _ hq')
      have h1 := hle q (by simp)
      by_cases c : x ≤ roomN l g q
      · rw [if_pos (by simpa using c), if_pos (h1 (by simpa using c))]; omega
      · rw [if_neg (by simpa using c)]; split <;> omega
theorem left_le (l : List Arc) (TL : List Nat) (x : Int) (f : List Int) : left l TL x f ≤ TL.length := List.countP_le_length
theorem blkW_facts (hL : Lds l L TL) (hx : 1 ≤ x) {s : Int} {g : List Int} {W : List (List Nat × Int)} (hl : f.length = l.length) (b : BlkW l TL x s t f W g) : Beh l TL f g ∧ W.length + left l TL x g ≤ left l TL x f := by
  induction b with
  | nil f => exact ⟨beh_refl hl, by simp⟩
  | @cons f g h R a W h1 h2 h3 _ ih =>
    obtain ⟨r, hr, e⟩ := h2.one
    have hax := (wlk_mem (firstW_wlk h1) r hr).2
    obtain ⟨hb, _⟩ := beh_push hL (firstW_wlk h1) hl (by omega) h2.all h3
    obtain ⟨k1, k2⟩ := ih hb.len
    have := left_step hL (firstW_wlk h1) hl hx h2 h3
    exact ⟨hb.trans k1, by rw [List.length_cons]; omega⟩
/-- the next walk is above this one -/
theorem first_next (hL : Lds l L TL) (hx : 1 ≤ x) {s : Int} {g : List Int} {R R' : List Nat} {a : Int} (hl : f.length = l.length) (h1 : FirstW l TL f x t s R) (h2 : Least l f R a) (h3 : pushN l f a (encW R) = some g) (h4 : FirstW l TL g x t s R') : LexLt R R' := by
  obtain ⟨r, hr, e⟩ := h2.one
  obtain ⟨hrT, hax⟩ := wlk_mem (firstW_wlk h1) r hr
  obtain ⟨hb, hT⟩ := beh_push hL (firstW_wlk h1) hl (by omega) h2.all h3
  rcases first_min hL h1 (wlk_less hb.dec (firstW_wlk h4)) with e2 | h
  · subst e2
    have := (wlk_mem (firstW_wlk h4) r hr).2
    rw [hT r hrT, if_pos hr] at this
    omega
  · exact h
end
section
variable {n : Net} {f g : List Int} {x : Int} {L L2 : List Int}
/-- the sink is come to just if a walk over the tracks that lead on goes there -/
theorem lead_walk (hR : Right n) (h : IsLev n f x L) : ∀ (k i : Nat), i < n.n.toNat + 1 → amt L i = (k : Int) → ∃ R, Wlk n.l (leadL n.l f x L (2 * n.l.length)) f x n.s R (i : Int)
  | 0, i, hi, e => ⟨[], by rw [lev_only hR h hi (by omega)]; exact .nil _⟩
  | k + 1, i, hi, e => by
    obtain ⟨r, hr, ht, e2⟩ := lead_to hR h hi e
    obtain ⟨h1, h2, h3, h4, h5, h6, _⟩ := lead_says hR h hr
    obtain ⟨R, hW⟩ := lead_walk hR h k _ h3 e2
    refine ⟨R ++ [r], ?_⟩
    have hb := trF_bd hR h1; have hb2 := trT_bd hR h1
    have := wlk_snoc hW hr h2 (by omega)
    rwa [show trT n.l r = (i : Int) by omega] at this
theorem sink_walk (hR : Right n) (h : IsLev n f x L) : 0 ≤ amt L n.t.toNat ↔ ∃ R, Wlk n.l (leadL n.l f x L (2 * n.l.length)) f x n.s R n.t := by
  have ht0 := hR.t0; have ht1 := hR.t1
  constructor
  · intro h0
    obtain ⟨R, hW⟩ := lead_walk hR h (amt L n.t.toNat).toNat n.t.toNat (by omega) (by omega)
    exact ⟨R, by rwa [show ((n.t.toNat : Nat) : Int) = n.t by omega] at hW⟩
  · rintro ⟨R, hW⟩
    have := wlk_lev (lds_of n.l f x L) hW
    have := lev_src hR h
    omega
theorem beh_low (hR : Right n) (h : IsLev n f x L) (hB : Beh n.l (leadL n.l f x L (2 * n.l.length)) f g) {k : Nat} {v : Int} (hd : Dst n g x k v) : 0 ≤ amt L v.toNat ∧ amt L v.toNat ≤ (k : Int) := by
  induction hd with
  | base => have := lev_src hR h; omega
  | @step k r hr hx _ ih =>
    by_cases c : roomN n.l f r < roomN n.l g r
    · obtain ⟨_, _, h3, h4⟩ := leadL_mem.1 (hB.inc r hr c)
      rw [trF_opp] at h3 h4
      rw [trT_opp] at h4
      omega
    · have := lev_next hR h hr (by omega) ih.1
      omega
theorem beh_walk (hR : Right n) (h : IsLev n f x L) (hB : Beh n.l (leadL n.l f x L (2 * n.l.length)) f g) {k : Nat} {v : Int} (hd : Dst n g x k v) (e : amt L v.toNat = (k : Int)) : ∃ R, Wlk n.l (leadL n.l f x L (2 * n.l.length)) g x n.s R v := by
  induction hd with
  | base => exact ⟨[], .nil _⟩
  | @step k r hr hx hd ih =>
    have hlow := beh_low hR h hB hd
    by_cases c : roomN n.l f r < roomN n.l g r
    · obtain ⟨_, _, h3, h4⟩ := leadL_mem.1 (hB.inc r hr c)
      rw [trF_opp] at h3 h4
      rw [trT_opp] at h4
      omega
    · have hn := lev_next hR h hr (by omega) hlow.1
      have e2 : amt L (trF n.l r).toNat = (k : Int) := by omega
      obtain ⟨R, hW⟩ := ih e2
      exact ⟨R ++ [r], wlk_snoc hW (leadL_mem.2 ⟨hr, by omega, by omega, by omega⟩) hx rfl⟩
/-- behind a flow that blocks the sink is farther away, or not come to -/
theorem sink_farther (hR : Right n) (h : IsLev n f x L) (hB : Beh n.l (leadL n.l f x L (2 * n.l.length)) f g) (he : ∀ R, ¬ Wlk n.l (leadL n.l f x L (2 * n.l.length)) g x n.s R n.t) (h2 : IsLev n g x L2) (h0 : 0 ≤ amt L2 n.t.toNat) : 0 ≤ amt L n.t.toNat ∧ amt L n.t.toNat < amt L2 n.t.toNat := by
  have ht0 := hR.t0; have ht1 := hR.t1
  obtain ⟨k, e, hd⟩ := lev_node h2 (i := n.t.toNat) (by omega) h0
  rw [show ((n.t.toNat : Nat) : Int) = n.t by omega] at hd
  have h1 := beh_low hR h hB hd
  refine ⟨h1.1, ?_⟩
  rw [e]
  by_cases c : amt L n.t.toNat = (k : Int)
  · obtain ⟨R, hW⟩ := beh_walk hR h hB hd c
    exact absurd hW (he R)
  · omega
end
end Ne
end Go.Proofs.Ytkeojkddbannpaa
namespace Go.Proofs.Ytkeojkddbannpaa
open Go.ChangeShapes Go.WideShapes Go.ChangeAt Go.RowKit
set_option linter.unusedVariables false
set_option linter.unusedSimpArgs false
namespace Ne
theorem getD_set (M : List Bool) (i j : Nat) (hi : i < M.length) : (M.set i true).getD j false = if j = i then true else M.getD j false := by
  by_cases e : j = i
  · subst e; simp [hi]
  · rw [if_neg e]; simp [List.getElem?_set_ne (Ne.symm e)]
theorem unmet_repl (m : Nat) : unmet (List.replicate m false) = m := by simp [unmet, List.countP_replicate]
theorem replB (m i : Nat) : (List.replicate m false).getD i false = false := by
  by_cases h : i < m
  · simp [h]
  · simp [Nat.not_lt.1 h]
/-- no walk to t begins with this track -/
def Idle (l : List Arc) (TL : List Nat) (g : List Int) (x t : Int) (q : Nat) : Prop := x ≤ roomN l g q → ∀ R', ¬ Wlk l TL g x (trT l q) R' t
/-- what the search keeps: rooms RM, the tracks U v of a node v that are not given up -/
structure Srch (n : Net) (TL : List Nat) (g : List Int) (x : Int) (RM : List Int) (U : Nat → List Nat) : Prop where
  len : RM.length = 2 * n.l.length
  rm : ∀ r ∈ TL, amt RM r = roomN n.l g r
  sub : ∀ v, v < n.n.toNat + 1 → ∀ r ∈ U v, r ∈ TL ∧ (trF n.l r).toNat = v
  srt : ∀ v, v < n.n.toNat + 1 → (U v).Pairwise (· < ·)
  gone : ∀ q ∈ TL, q ∉ U (trF n.l q).toNat → Idle n.l TL g x n.t q
/-- on the way: the walk W from the source to v, the nodes that were met -/
structure Sch (n : Net) (TL : List Nat) (g : List Int) (x : Int) (U : Nat → List Nat) (M : List Bool) (W : List Nat) (v : Nat) : Prop where
  wlk : Wlk n.l TL g x n.s W (v : Int)
  head : ∀ r ∈ W, ∃ T, U (trF n.l r).toNat = r :: T
  len : M.length = n.n.toNat + 1
  met : ∀ i, M.getD i false = true → i = v ∨ (∃ r ∈ W, (trF n.l r).toNat = i) ∨ ∀ R, ¬ Wlk n.l TL g x (i : Int) R n.t
section
variable {n : Net} {TL : List Nat} {g : List Int} {x : Int} {RM : List Int} {U : Nat → List Nat} {M : List Bool} {W : List Nat} {v : Nat} {L : List Int}
theorem wlk_end (hR : Right n) (hL : Lds n.l L TL) {W : List Nat} {v : Int} (h : Wlk n.l TL g x n.s W v) : 1 ≤ v ∧ v ≤ n.n := by
  have := hR.s0; have := hR.s1
  rcases List.eq_nil_or_concat W with e | ⟨W0, r, e⟩
  · subst e
    rcases wlk_inv h with ⟨_, e⟩ | ⟨_, _, e, _⟩
    · omega
    · cases e
  · rw [List.concat_eq_append] at e
    subst e
    have hw := wlk_at hL h
    have hr := hL.lt r (wlk_mem h r (by simp)).1
    rw [encW_snoc, walkAt_snoc] at hw
    have hb := trT_bd hR hr
    rcases hwa : walkAt n.l n.s (encW W0) with _ | u
    · rw [hwa] at hw; simp [stW] at hw
    · rw [hwa] at hw
      simp only [stW, enF_in hr, enT_in hr] at hw
      split at hw
      · simp at hw; omega
      · simp at hw
theorem wlk_snoc_inv (hR : Right n) (hL : Lds n.l L TL) {W0 : List Nat} {r : Nat} {u v : Int} (h : Wlk n.l TL g x u (W0 ++ [r]) v) : Wlk n.l TL g x u W0 (trF n.l r) ∧ v = trT n.l r := by
  induction W0 generalizing u with
  | nil =>
    rcases wlk_inv h with ⟨e, _⟩ | ⟨q, Q, e, hu, h1, h2, h3⟩
    · cases e
    · simp at e
      obtain ⟨rfl, rfl⟩ := e
      rcases wlk_inv h3 with ⟨_, e⟩ | ⟨_, _, e, _⟩
      · subst hu; exact ⟨.nil _, e.symm⟩
      · cases e
  | cons q Q ih =>
    rcases wlk_inv h with ⟨e, _⟩ | ⟨q', Q', e, hu, h1, h2, h3⟩
    · cases e
    · simp at e
      obtain ⟨rfl, rfl⟩ := e
      subst hu
      obtain ⟨k1, k2⟩ := ih h3
      exact ⟨.cons h1 h2 k1, k2⟩
theorem sch_lt (hR : Right n) (hL : Lds n.l L TL) (h : Sch n TL g x U M W v) : v < n.n.toNat + 1 ∧ 1 ≤ v := by
  have := wlk_end hR hL h.wlk
  omega
theorem sch_start (hR : Right n) (U : Nat → List Nat) : Sch n TL g x U (List.replicate (n.n.toNat + 1) false) [] n.s.toNat := by
  have := hR.s0
  refine ⟨by rw [show ((n.s.toNat : Nat) : Int) = n.s by omega]; exact .nil _, fun r hr => by simp at hr, by simp, fun i hi => ?_⟩
  rw [replB] at hi; cases hi
/-- nodes of the walk stand lower than its end -/
theorem wlk_under (hL : Lds n.l L TL) {W : List Nat} {u v : Int} (h : Wlk n.l TL g x u W v) : ∀ r ∈ W, amt L (trF n.l r).toNat < amt L v.toNat := by
  induction h with
  | nil => intro r hr; simp at hr
  | @cons r R v h1 h2 h3 ih =>
    intro q hq
    rcases List.mem_cons.1 hq with e | hq
    · subst e
      have := wlk_lev hL h3
      have := hL.up _ h1
      omega
    · exact ih q hq
/-- tracks of v that are passed by are of no use -/
theorem sch_pass (hR : Right n) (hL : Lds n.l L TL) (hS : Srch n TL g x RM U) (h : Sch n TL g x U M W v) {r : Nat} (hr : r ∈ U v)
    (hf : ¬ (x ≤ amt RM r ∧ (M.set v true).getD (trT n.l r).toNat false = false)) : Idle n.l TL g x n.t r := by
  obtain ⟨hv, hv1⟩ := sch_lt hR hL h
  obtain ⟨hrT, hrv⟩ := hS.sub v hv r hr
  intro hx R' hW'
  rw [← hS.rm r hrT] at hx
  have hm : (M.set v true).getD (trT n.l r).toNat false = true := by
    rcases hb : (M.set v true).getD (trT n.l r).toNat false with _ | _
    · exact absurd ⟨hx, hb⟩ hf
    · rfl
  have hb := trT_bd hR (hL.lt r hrT); have hb2 := trF_bd hR (hL.lt r hrT)
  have hup := hL.up r hrT
  rw [hrv] at hup
  rw [getD_set _ _ _ (by rw [h.len]; exact hv)] at hm
  have hne : (trT n.l r).toNat ≠ v := fun e => by rw [e] at hup; omega
  rw [if_neg hne] at hm
  rcases h.met _ hm with e | ⟨q, hq, e⟩ | hd
  · exact hne e
  · have := wlk_under hL h.wlk q hq
    rw [e, Int.toNat_natCast] at this
    omega
  · exact hd R' (by rwa [show (((trT n.l r).toNat : Nat) : Int) = trT n.l r by omega])
/-- one track farther -/
theorem sch_fwd (hR : Right n) (hL : Lds n.l L TL) (hS : Srch n TL g x RM U) (h : Sch n TL g x U M W v) {i r : Nat} (hi : i < (U v).length) (hr : (U v).getD i 0 = r) (hx : x ≤ amt RM r) (hm : (M.set v true).getD (trT n.l r).toNat false = false)
    (hp : ∀ j, j < i → ¬ (x ≤ amt RM ((U v).getD j 0) ∧ (M.set v true).getD (trT n.l ((U v).getD j 0)).toNat false = false)) :
    Srch n TL g x RM (fun j => if j = v then (U v).drop i else U j) ∧ Sch n TL g x (fun j => if j = v then (U v).drop i else U j) (M.set v true) (W ++ [r]) (trT n.l r).toNat := by
  obtain ⟨hv, hv1⟩ := sch_lt hR hL h
  have hrU : r ∈ U v := by rw [← hr]; exact getD_mem hi
  obtain ⟨hrT, hrv⟩ := hS.sub v hv r hrU
  have hb := trT_bd hR (hL.lt r hrT); have hb2 := trF_bd hR (hL.lt r hrT)
  have hat : (U v)[i]? = some r := by rw [List.getElem?_eq_getElem hi, ← hr, List.getD_eq_getElem?_getD, List.getElem?_eq_getElem hi]; rfl
  have hdrop : (U v).drop i = r :: (U v).drop (i + 1) := by
    rw [List.drop_eq_getElem_cons hi]
    congr 1
    rw [List.getElem?_eq_getElem hi] at hat
    exact Option.some.inj hat
  have hidle : ∀ q ∈ U v, q ∉ (U v).drop i → Idle n.l TL g x n.t q := fun q hq hqn => by
    obtain ⟨j, hj, e⟩ := List.getElem_of_mem hq
    have hji : j < i := by
      rcases Nat.lt_or_ge j i with hlt | hge
      · exact hlt
      · refine absurd ?_ hqn
        rw [← e]
        refine List.mem_iff_getElem.2 ⟨j - i, by rw [List.length_drop]; omega, ?_⟩
        rw [List.getElem_drop]
        congr 1; omega
    have e2 : (U v).getD j 0 = q := by rw [List.getD_eq_getElem?_getD, List.getElem?_eq_getElem hj, ← e]; rfl
    exact sch_pass hR hL hS h hq (by rw [← e2]; exact hp j hji)
  refine ⟨⟨hS.len, hS.rm, fun w hw q hq => ?_, fun w hw => ?_, fun q hq hqn => ?_⟩, ⟨?_, fun q hq => ?_, by rw [List.length_set]; exact h.len, fun k hk => ?_⟩⟩
  · by_cases e : w = v
    · subst e
      rw [if_pos rfl] at hq
      exact hS.sub w hw q (List.mem_of_mem_drop hq)
    · rw [if_neg e] at hq; exact hS.sub w hw q hq
  · by_cases e : w = v
    · subst e
      show List.Pairwise _ (if w = w then _ else _)
      rw [if_pos rfl]
      exact (hS.srt w hw).drop
    · show List.Pairwise _ (if w = v then _ else _)
      rw [if_neg e]; exact hS.srt w hw
  · by_cases e : (trF n.l q).toNat = v
    · rw [if_pos e] at hqn
      by_cases c : q ∈ U v
      · exact hidle q c hqn
      · exact hS.gone q hq (by rw [e]; exact c)
    · rw [if_neg e] at hqn; exact hS.gone q hq hqn
  · rw [show (((trT n.l r).toNat : Nat) : Int) = trT n.l r by omega]
    exact wlk_snoc h.wlk hrT (by rw [← hS.rm r hrT]; exact hx) (by omega)
  · rcases List.mem_append.1 hq with hq | hq
    · have := wlk_under hL h.wlk q hq
      have hne : (trF n.l q).toNat ≠ v := fun e => by rw [e, Int.toNat_natCast] at this; omega
      simp only [if_neg hne]
      exact h.head q hq
    · simp only [List.mem_singleton] at hq
      subst hq
      simp only [if_pos hrv]
      exact ⟨_, hdrop⟩
  · rw [getD_set _ _ _ (by rw [h.len]; exact hv)] at hk
    by_cases e : k = v
    · exact .inr (.inl ⟨r, by simp, by rw [e]; exact hrv⟩)
    · rw [if_neg e] at hk
      rcases h.met k hk with e2 | ⟨q, hq, e2⟩ | hd
      · exact absurd e2 e
      · exact .inr (.inl ⟨q, List.mem_append_left _ hq, e2⟩)
      · exact .inr (.inr hd)
/-- no track of v goes on -/
theorem sch_dead (hR : Right n) (hL : Lds n.l L TL) (hS : Srch n TL g x RM U) (h : Sch n TL g x U M W v) (hvt : (v : Int) ≠ n.t)
    (hp : ∀ j, j < (U v).length → ¬ (x ≤ amt RM ((U v).getD j 0) ∧ (M.set v true).getD (trT n.l ((U v).getD j 0)).toNat false = false)) :
    Srch n TL g x RM (fun j => if j = v then [] else U j) ∧ ∀ R, ¬ Wlk n.l TL g x (v : Int) R n.t := by
  obtain ⟨hv, hv1⟩ := sch_lt hR hL h
  have hall : ∀ q ∈ TL, (trF n.l q).toNat = v → Idle n.l TL g x n.t q := fun q hq e => by
    by_cases c : q ∈ U v
    · obtain ⟨j, hj, e3⟩ := List.getElem_of_mem c
      have e2 : (U v).getD j 0 = q := by rw [List.getD_eq_getElem?_getD, List.getElem?_eq_getElem hj, ← e3]; rfl
      exact sch_pass hR hL hS h c (by rw [← e2]; exact hp j hj)
    · exact hS.gone q hq (by rw [e]; exact c)
  refine ⟨⟨hS.len, hS.rm, fun w hw q hq => ?_, fun w hw => ?_, fun q hq hqn => ?_⟩, fun R hW => ?_⟩
  · by_cases e : w = v
    · rw [if_pos e] at hq; simp at hq
    · rw [if_neg e] at hq; exact hS.sub w hw q hq
  · show List.Pairwise _ (if w = v then _ else _)
    by_cases e : w = v
    · rw [if_pos e]; exact List.Pairwise.nil
    · rw [if_neg e]; exact hS.srt w hw
  · by_cases e : (trF n.l q).toNat = v
    · exact hall q hq e
    · rw [if_neg e] at hqn; exact hS.gone q hq hqn
  · rcases wlk_inv hW with ⟨_, e⟩ | ⟨q, Q, _, e, h1, h2, h3⟩
    · exact hvt e
    · exact hall q h1 (by omega) h2 Q h3
/-- one track back -/
theorem sch_back (hR : Right n) (hL : Lds n.l L TL) {W0 : List Nat} {r : Nat} (h : Sch n TL g x U M (W0 ++ [r]) v) (hd : ∀ R, ¬ Wlk n.l TL g x (v : Int) R n.t) :
    Sch n TL g x (fun j => if j = v then [] else U j) (M.set v true) W0 (trF n.l r).toNat := by
  obtain ⟨hv, hv1⟩ := sch_lt hR hL h
  have hrT := (wlk_mem h.wlk r (by simp)).1
  have hb2 := trF_bd hR (hL.lt r hrT)
  obtain ⟨k1, k2⟩ := wlk_snoc_inv hR hL h.wlk
  refine ⟨by rwa [show (((trF n.l r).toNat : Nat) : Int) = trF n.l r by omega], fun q hq => ?_, by rw [List.length_set]; exact h.len, fun k hk => ?_⟩
  · have := wlk_under hL h.wlk q (List.mem_append_left _ hq)
    have hne : (trF n.l q).toNat ≠ v := fun e => by rw [e, Int.toNat_natCast] at this; omega
    simp only [if_neg hne]
    exact h.head q (List.mem_append_left _ hq)
  · rw [getD_set _ _ _ (by rw [h.len]; exact hv)] at hk
    by_cases e : k = v
    · subst e; exact .inr (.inr hd)
    · rw [if_neg e] at hk
      rcases h.met k hk with e2 | ⟨q, hq, e2⟩ | hd
      · exact absurd e2 e
      · rcases List.mem_append.1 hq with hq | hq
        · exact .inr (.inl ⟨q, hq, e2⟩)
        · simp only [List.mem_singleton] at hq
          subst hq; exact .inl e2.symm
      · exact .inr (.inr hd)
/-- the sink is come to: the walk is the first one -/
theorem sch_done (hR : Right n) (hL : Lds n.l L TL) (hS : Srch n TL g x RM U) (h : Sch n TL g x U M W v) (hvt : (v : Int) = n.t) : FirstW n.l TL g x n.t n.s W := by
  have hw := h.wlk
  have hh := h.head
  rw [hvt] at hw
  have hund := wlk_under hL hw
  generalize n.s = u at hw
  obtain ⟨t, ht⟩ : ∃ t, t = n.t := ⟨_, rfl⟩
  rw [← ht] at hw hund ⊢
  clear hvt h
  induction hw with
  | nil => exact .done
  | @cons r R t h1 h2 h3 ih =>
    have hb2 := trF_bd hR (hL.lt r h1)
    refine .step (fun e => ?_) h1 h2 (ih (fun q hq => hh q (List.mem_cons_of_mem _ hq)) (fun q hq => hund q (List.mem_cons_of_mem _ hq)) ht) fun q hq e hx hlt R' hW' => ?_
    · have := hund r (by simp)
      rw [e] at this; omega
    · obtain ⟨T, hT⟩ := hh r (by simp)
      refine hS.gone q hq ?_ hx R' (by rwa [← ht])
      rw [e, hT]
      have hs := hS.srt (trF n.l r).toNat (by omega)
      rw [hT] at hs
      intro hm
      rcases List.mem_cons.1 hm with e2 | hm
      · omega
      · have := (List.pairwise_cons.1 hs).1 q hm; omega
/-- how much is left to be tried -/
def meas (M : List Bool) (W : List Nat) (v : Nat) : Nat := 2 * unmet (M.set v true) + W.length
theorem meas_fwd {t r : Nat} (ht : t < M.length) (hm : (M.set v true).getD t false = false) : meas (M.set v true) (W ++ [r]) t + 1 = meas M W v := by
  have := unmet_set (met := M.set v true) (i := t) (by rw [List.length_set]; exact ht) hm
  unfold meas
  rw [List.length_append, List.length_singleton]
  omega
theorem unmet_set_le (M : List Bool) (i : Nat) : unmet (M.set i true) ≤ unmet M := by
  by_cases hi : i < M.length
  · rcases h : M.getD i false with _ | _
    · have := unmet_set hi h; omega
    · have e : M.set i true = M := by
        apply List.ext_getElem? fun j => ?_
        rw [List.getElem?_set]
        split
        · rename_i e; subst e
          rw [List.getElem?_eq_getElem hi, ← h, List.getD_eq_getElem?_getD, List.getElem?_eq_getElem hi]
          simp [hi]
        · rfl
      rw [e]; exact Nat.le_refl _
  · rw [List.set_eq_of_length_le (by omega)]; exact Nat.le_refl _
theorem meas_back {W0 : List Nat} {r u : Nat} : meas (M.set v true) W0 u + 1 ≤ meas M (W0 ++ [r]) v := by
  have := unmet_set_le (M.set v true) u
  unfold meas
  rw [List.length_append, List.length_singleton]
  omega
/-- the search at its beginning -/
theorem srch_start (hR : Right n) (hL : Lds n.l L TL) (g : List Int) (x : Int) : Srch n TL g x (roomL n.l g (2 * n.l.length)) (fun v => TL.filter fun r => decide ((trF n.l r).toNat = v)) :=
  ⟨roomL_len _ _ _, fun r hr => roomL_at _ _ (hL.lt r hr), fun v hv r hr => by simpa using List.mem_filter.1 hr, fun v hv => hL.srt.filter _, fun q hq hn => absurd (List.mem_filter.2 ⟨hq, by simp⟩) hn⟩
/-- rooms, less an amount on the tracks of a walk -/
def lessL (RM : List Int) (a : Int) (R : List Nat) : List Int := R.foldl (fun m r => m.set r (amt m r - a)) RM
theorem lessL_len {a : Int} : ∀ {R : List Nat} {RM : List Int}, (lessL RM a R).length = RM.length
  | [], RM => rfl
  | r :: R, RM => by show (lessL (RM.set r (amt RM r - a)) a R).length = _; rw [lessL_len, List.length_set]
theorem lessL_at {a : Int} : ∀ {R : List Nat} {RM : List Int}, R.Nodup → (∀ r ∈ R, r < RM.length) → ∀ i, amt (lessL RM a R) i = if i ∈ R then amt RM i - a else amt RM i
  | [], RM, _, _, i => by simp [lessL]
  | r :: R, RM, hn, hr, i => by
    obtain ⟨h1, h2⟩ := List.nodup_cons.1 hn
    show amt (lessL (RM.set r (amt RM r - a)) a R) i = _
    rw [lessL_at h2 (fun q hq => by rw [List.length_set]; exact hr q (List.mem_cons_of_mem _ hq)), amt_set _ (hr r (by simp))]
    by_cases e : i = r
    · subst e; simp [h1]
    · simp [e]
theorem lessL_snoc (RM : List Int) (a : Int) (R : List Nat) (r : Nat) : lessL RM a (R ++ [r]) = (lessL RM a R).set r (amt (lessL RM a R) r - a) := by simp [lessL, List.foldl_append]
theorem nodup_of_half {R : List Nat} (h : (R.map (· / 2)).Nodup) : R.Nodup := List.Pairwise.of_map (S := (· ≠ ·)) (· / 2) (fun a b hab e => hab (by rw [e])) h
/-- what the search keeps, behind a push -/
theorem srch_push (hL : Lds n.l L TL) (hl : g.length = n.l.length) (hS : Srch n TL g x RM U) {R : List Nat} {a : Int} {g2 : List Int} (hx : 1 ≤ x) (h1 : FirstW n.l TL g x n.t n.s R) (h2 : Least n.l g R a) (h3 : pushN n.l g a (encW R) = some g2) :
    Srch n TL g2 x (lessL RM a R) U := by
  have hw := firstW_wlk h1
  obtain ⟨r, hr, e⟩ := h2.one
  have hax := (wlk_mem hw r hr).2
  obtain ⟨hb, hT⟩ := beh_push hL hw hl (by omega) h2.all h3
  have hn := nodup_of_half (wlk_nodup hL hw)
  refine ⟨by rw [lessL_len]; exact hS.len, fun q hq => ?_, hS.sub, hS.srt, fun q hq hqn hxq R' hW' => ?_⟩
  · rw [lessL_at hn (fun q hq => by rw [hS.len]; exact hL.lt q (wlk_mem hw q hq).1), hT q hq, hS.rm q hq]
  · exact hS.gone q hq hqn (Int.le_trans hxq (hb.dec q hq)) R' (wlk_less hb.dec hW')
/-- the least room of the walk's first k tracks -/
def minL (RM : List Int) (a : Int) (R : List Nat) : Int := R.foldl (fun m r => min m (amt RM r)) a
theorem minL_snoc (RM : List Int) (a : Int) (R : List Nat) (r : Nat) : minL RM a (R ++ [r]) = min (minL RM a R) (amt RM r) := by simp [minL, List.foldl_append]
theorem minL_le (RM : List Int) : ∀ (R : List Nat) (a : Int), minL RM a R ≤ a ∧ (∀ r ∈ R, minL RM a R ≤ amt RM r) ∧ (minL RM a R = a ∨ ∃ r ∈ R, minL RM a R = amt RM r)
  | [], a => ⟨Int.le_refl _, fun r hr => by simp at hr, .inl rfl⟩
  | r :: R, a => by
    obtain ⟨h1, h2, h3⟩ := minL_le RM R (min a (amt RM r))
    have e : minL RM a (r :: R) = minL RM (min a (amt RM r)) R := rfl
    rw [e]
    refine ⟨by omega, fun q hq => ?_, ?_⟩
    · rcases List.mem_cons.1 hq with e2 | hq
      · subst e2; omega
      · exact h2 q hq
    · rcases h3 with h3 | ⟨q, hq, h3⟩
      · by_cases c : a ≤ amt RM r
        · left; omega
        · right; exact ⟨r, by simp, by omega⟩
      · right; exact ⟨q, List.mem_cons_of_mem _ hq, h3⟩
theorem least_min {R0 : Nat} {R : List Nat} (hS : Srch n TL g x RM U) (hT : ∀ r ∈ R0 :: R, r ∈ TL) : Least n.l g (R0 :: R) (minL RM (amt RM R0) (R0 :: R)) := by
  obtain ⟨h1, h2, h3⟩ := minL_le RM (R0 :: R) (amt RM R0)
  refine ⟨fun r hr => ?_, ?_⟩
  · rw [← hS.rm r (hT r hr)]; exact h2 r hr
  · rcases h3 with h3 | ⟨q, hq, h3⟩
    · exact ⟨R0, by simp, by rw [h3]; exact hS.rm _ (hT _ (by simp))⟩
    · exact ⟨q, hq, by rw [h3]; exact hS.rm _ (hT q hq)⟩
end
/-- the next walk, or none -/
def IsNext (l : List Arc) (TL : List Nat) (g : List Int) (x s t : Int) : Option (List Nat) → Prop
  | some R => FirstW l TL g x t s R
  | none => ∀ R, ¬ Wlk l TL g x s R t
/-- what a flow that blocks tells -/
def IsBlk (l : List Arc) (TL : List Nat) (f : List Int) (x s t : Int) (W : List (List Nat × Int)) (g : List Int) : Prop := BlkW l TL x s t f W g ∧ ∀ R, ¬ Wlk l TL g x s R t
section
variable {l : List Arc} {TL : List Nat} {f g : List Int} {x s t : Int} {L : List Int}
theorem next_one {o1 o2 : Option (List Nat)} (h1 : IsNext l TL g x s t o1) (h2 : IsNext l TL g x s t o2) : o1 = o2 := by
  rcases o1 with _ | R1 <;> rcases o2 with _ | R2
  · rfl
  · exact absurd (firstW_wlk h2) (h1 R2)
  · exact absurd (firstW_wlk h1) (h2 R1)
  · rw [firstW_one h1 h2]
theorem first_exists (hL : Lds l L TL) : ∀ (k : Nat) (u : Int) (R : List Nat), R.length = k → Wlk l TL g x u R t → ∃ F, FirstW l TL g x t u F
  | 0, u, R, hk, h => by
    rcases wlk_inv h with ⟨rfl, rfl⟩ | ⟨_, _, rfl, _⟩
    · exact ⟨[], .done⟩
    · simp at hk
  | k + 1, u, R, hk, h => by
    have hlv := wlk_lev hL h
    rcases wlk_inv h with ⟨rfl, _⟩ | ⟨r, R', rfl, hu, h1, h2, h3⟩
    · simp at hk
    obtain ⟨q, ⟨g1, g2, g3, Q, g4⟩, hmin⟩ := least_of (p := fun q => q ∈ TL ∧ trF l q = u ∧ x ≤ roomN l g q ∧ ∃ R', Wlk l TL g x (trT l q) R' t) ⟨r, h1, hu.symm, h2, R', h3⟩
    have hq := hL.up q g1
    have hlq := wlk_lev hL g4
    have hQ : Q.length = k := by rw [g2] at hq; omega
    obtain ⟨F, hF⟩ := first_exists hL k (trT l q) Q hQ g4
    refine ⟨q :: F, ?_⟩
    rw [← g2]
    refine .step (fun e => ?_) g1 g3 hF fun q' e1 e2 e3 e4 R'' e5 => ?_
    · rw [← g2, e] at hlv; omega
    · have := hmin q' ⟨e1, by rw [e2, g2], e3, R'', e5⟩
      omega
theorem next_exists (hL : Lds l L TL) : ∃ o, IsNext l TL g x s t o := by
  by_cases h : ∃ R, Wlk l TL g x s R t
  · obtain ⟨R, hR⟩ := h
    obtain ⟨F, hF⟩ := first_exists hL _ s R rfl hR
    exact ⟨some F, hF⟩
  · exact ⟨none, fun R hR => h ⟨R, hR⟩⟩
theorem least_exists : ∀ {R : List Nat}, R ≠ [] → ∃ a, Least l g R a
  | [], h => absurd rfl h
  | [r], _ => ⟨roomN l g r, fun q hq => by simp at hq; subst hq; exact Int.le_refl _, ⟨r, by simp, rfl⟩⟩
  | r :: q :: R, _ => by
    obtain ⟨a, h1, h2⟩ := least_exists (R := q :: R) (by simp)
    obtain ⟨p, hp, e⟩ := h2
    by_cases c : roomN l g r ≤ a
    · exact ⟨roomN l g r, fun q' hq' => by
        rcases List.mem_cons.1 hq' with e2 | hq'
        · subst e2; exact Int.le_refl _
        · exact Int.le_trans c (h1 q' hq'), ⟨r, by simp, rfl⟩⟩
    · exact ⟨a, fun q' hq' => by
        rcases List.mem_cons.1 hq' with e2 | hq'
        · subst e2; omega
        · exact h1 q' hq', ⟨p, List.mem_cons_of_mem _ hp, e⟩⟩
theorem first_ne (hst : s ≠ t) {R : List Nat} (h : FirstW l TL g x t s R) : R ≠ [] := fun e => by
  rcases firstW_inv h with ⟨_, e2⟩ | ⟨_, _, e2, _⟩
  · exact hst e2
  · rw [e] at e2; cases e2
theorem blk_exists (hL : Lds l L TL) (hst : s ≠ t) (hx : 1 ≤ x) : ∀ (k : Nat) (f : List Int), f.length = l.length → left l TL x f ≤ k → ∃ W g, IsBlk l TL f x s t W g := by
  intro k
  induction k with
  | zero =>
    intro f hl hk
    refine ⟨[], f, .nil f, fun R hW => ?_⟩
    obtain ⟨F, hF⟩ := first_exists hL _ s R rfl hW
    obtain ⟨a, ha⟩ := least_exists (l := l) (g := f) (first_ne hst hF)
    obtain ⟨g, hg, _⟩ := wlk_push hL (firstW_wlk hF) hl ha.all
    have := left_step hL (firstW_wlk hF) hl hx ha hg
    omega
  | succ k ih =>
    intro f hl hk
    by_cases h : ∃ R, Wlk l TL f x s R t
    · obtain ⟨R, hW⟩ := h
      obtain ⟨F, hF⟩ := first_exists hL _ s R rfl hW
      obtain ⟨a, ha⟩ := least_exists (l := l) (g := f) (first_ne hst hF)
      obtain ⟨g, hg, hgl, _⟩ := wlk_push hL (firstW_wlk hF) hl ha.all
      have := left_step hL (firstW_wlk hF) hl hx ha hg
      obtain ⟨W, g2, h1, h2⟩ := ih g hgl (by omega)
      exact ⟨(F, a) :: W, g2, .cons hF ha hg h1, h2⟩
    · exact ⟨[], f, .nil f, fun R hW => h ⟨R, hW⟩⟩
theorem blk_one {W1 W2 : List (List Nat × Int)} {g1 g2 : List Int} (h1 : IsBlk l TL f x s t W1 g1) (h2 : IsBlk l TL f x s t W2 g2) : W1 = W2 ∧ g1 = g2 := blkW_one h1.1 h2.1 h1.2 h2.2
end
end Ne
end Go.Proofs.Ytkeojkddbannpaa
