/-
  Stage 15: how a flow falls into paths, ways back and cycles: plain facts of one item. No condition.
-/
import Derived.Test.YtkeojkddbannpaaMfm
namespace Go.Proofs.Ytkeojkddbannpaa
set_option linter.unusedVariables false
set_option linter.unusedSimpArgs false
namespace Dc
open Go.Proofs.Ytkeojkddbannpaa.Ne
/-- the first arc that begins at v (0: anywhere) with an amount left -/
def fstA (l : List Arc) (g : List Int) (v : Int) : Option Nat := (List.range l.length).find? fun i => decide (0 < amt g i ∧ (v = 0 ∨ (arcAt l i).fr = v))
theorem fst_some {l : List Arc} {g : List Int} {v : Int} {a : Nat} (h : fstA l g v = some a) : a < l.length ∧ 0 < amt g a ∧ (v = 0 ∨ (arcAt l a).fr = v) := by
  have h1 := List.find?_some h
  have h2 := List.mem_of_find?_eq_some h
  simp only [decide_eq_true_eq] at h1
  exact ⟨List.mem_range.1 h2, h1.1, h1.2⟩
theorem fst_none {l : List Arc} {g : List Int} {v : Int} (h : fstA l g v = none) {i : Nat} (hi : i < l.length) (h0 : 0 < amt g i) : ¬ (v = 0 ∨ (arcAt l i).fr = v) := fun h2 => by
  have := List.find?_eq_none.1 h i (List.mem_range.2 hi)
  simp only [decide_eq_true_eq] at this
  exact this ⟨h0, h2⟩
theorem fst_ex {l : List Arc} {g : List Int} {v : Int} {i : Nat} (hi : i < l.length) (h0 : 0 < amt g i) (hv : (arcAt l i).fr = v) : ∃ a, fstA l g v = some a := by
  rcases h : fstA l g v with _ | a
  · exact absurd (Or.inr hv) (fst_none h hi h0)
  · exact ⟨a, rfl⟩
/-- found, where none ahead of it fits -/
theorem fst_is {l : List Arc} {g : List Int} {v : Int} : ∀ {k i : Nat}, i < k → (0 < amt g i ∧ (v = 0 ∨ (arcAt l i).fr = v)) → (∀ j, j < i → ¬ (0 < amt g j ∧ (v = 0 ∨ (arcAt l j).fr = v))) → (List.range k).find? (fun i => decide (0 < amt g i ∧ (v = 0 ∨ (arcAt l i).fr = v))) = some i
  | 0, i, h, _, _ => absurd h (by omega)
  | k + 1, i, h, h1, h2 => by
    rw [List.range_succ, List.find?_append]
    by_cases c : i = k
    · subst c
      have e : (List.range i).find? (fun i => decide (0 < amt g i ∧ (v = 0 ∨ (arcAt l i).fr = v))) = none := List.find?_eq_none.2 fun j hj => by
        have := h2 j (List.mem_range.1 hj)
        simpa using this
      rw [e]
      have e2 : decide (0 < amt g i ∧ (v = 0 ∨ (arcAt l i).fr = v)) = true := by simpa using h1
      simp only [List.find?_cons, e2, Option.none_or]
    · rw [fst_is (k := k) (by omega) h1 h2]; rfl
/-- arcs, one behind the other -/
def Chn (l : List Arc) : Int → List Nat → Int → Prop
  | u, [], w => u = w
  | u, a :: R, w => (arcAt l a).fr = u ∧ Chn l (arcAt l a).to R w
theorem Chn.snoc {l : List Arc} {a : Nat} : ∀ {R : List Nat} {u v : Int}, Chn l u R v → (arcAt l a).fr = v → Chn l u (R ++ [a]) (arcAt l a).to
  | [], u, v, h, e => ⟨by rw [e]; exact h.symm, rfl⟩
  | b :: R, u, v, h, e => ⟨h.1, Chn.snoc h.2 e⟩
theorem Chn.drop {l : List Arc} : ∀ {R : List Nat} {u w : Int} {i : Nat} (hi : i < R.length), Chn l u R w → Chn l (arcAt l (R.getD i 0)).fr (R.drop i) w
  | b :: R, u, w, 0, hi, h => ⟨rfl, h.2⟩
  | b :: R, u, w, i + 1, hi, h => by
    have := Chn.drop (R := R) (i := i) (by simpa using hi) h.2
    simpa using this
theorem Chn.sum {l : List Arc} (v : Int) : ∀ {R : List Nat} {u w : Int}, Chn l u R w → (R.map fun a => dl v (arcAt l a)).sum = (if w = v then 1 else 0) - (if u = v then 1 else 0)
  | [], u, w, h => by
    have e : u = w := h
    subst e; simp
  | a :: R, u, w, h => by
    rw [List.map_cons, List.sum_cons, Chn.sum v h.2, ← h.1]
    unfold dl; omega
theorem Chn.head {l : List Arc} {u w : Int} {R : List Nat} (h : Chn l u R w) (hne : R ≠ []) : (arcAt l (R.getD 0 0)).fr = u := by
  rcases R with _ | ⟨a, R⟩
  · exact absurd rfl hne
  · exact h.1
theorem Chn.last {l : List Arc} : ∀ {R : List Nat} {u w : Int}, Chn l u R w → R ≠ [] → (arcAt l (R.getD (R.length - 1) 0)).to = w
  | [a], u, w, h, _ => h.2
  | a :: b :: R, u, w, h, _ => by
    have := Chn.last (R := b :: R) h.2 (by simp)
    simpa using this
theorem Chn.step {l : List Arc} : ∀ {R : List Nat} {u w : Int} {i : Nat}, i + 1 < R.length → Chn l u R w → (arcAt l (R.getD (i + 1) 0)).fr = (arcAt l (R.getD i 0)).to
  | a :: b :: R, u, w, 0, hi, h => h.2.1
  | a :: R, u, w, i + 1, hi, h => by
    have := Chn.step (R := R) (i := i) (by simpa using hi) h.2
    simpa using this
/-- where the arcs begin -/
def beg (l : List Arc) (R : List Nat) : List Int := R.map fun a => (arcAt l a).fr
theorem beg_len (l : List Arc) (R : List Nat) : (beg l R).length = R.length := by simp [beg]
theorem beg_snoc (l : List Arc) (R : List Nat) (a : Nat) : beg l (R ++ [a]) = beg l R ++ [(arcAt l a).fr] := by simp [beg]
theorem beg_nodup {l : List Arc} {R : List Nat} (h : (beg l R).Nodup) : R.Nodup := List.Pairwise.of_map (S := (· ≠ ·)) _ (fun a b hab e => hab (by rw [e])) h
/-- a node's place in a row -/
def ixOf (L : List Int) (x : Int) : Option Nat := (List.range L.length).find? fun i => decide (amt L i = x)
theorem ix_some {L : List Int} {x : Int} {i : Nat} (h : ixOf L x = some i) : i < L.length ∧ amt L i = x := by
  have h1 := List.find?_some h
  have h2 := List.mem_of_find?_eq_some h
  simp only [decide_eq_true_eq] at h1
  exact ⟨List.mem_range.1 h2, h1⟩
theorem ix_none {L : List Int} {x : Int} (h : ixOf L x = none) : x ∉ L := fun hx => by
  obtain ⟨i, hi, e⟩ := List.mem_iff_getElem.1 hx
  have := List.find?_eq_none.1 h i (List.mem_range.2 hi)
  simp only [decide_eq_true_eq, amt] at this
  exact this (by simp [hi, e])
/-- a walk: along the first arcs with an amount left, to en, or to a node that was met -/
def wlk (l : List Arc) (g : List Int) (en : Int) : Nat → Int → List Nat → Option (Bool × List Nat)
  | 0, _, _ => none
  | k + 1, u, R => match fstA l g u with
    | none => none
    | some a => if (arcAt l a).to = en then some (true, R ++ [a]) else match ixOf (beg l (R ++ [a])) (arcAt l a).to with
      | some i => some (false, (R ++ [a]).drop i)
      | none => wlk l g en k (arcAt l a).to (R ++ [a])
/-- what a walk tells: arcs with an amount left, that follow one another and begin at different nodes -/
structure Fnd (l : List Arc) (g : List Int) (u w : Int) (R : List Nat) : Prop where
  ne : R ≠ []
  inn : ∀ a ∈ R, a < l.length ∧ 0 < amt g a
  chn : Chn l u R w
  nd : (beg l R).Nodup
theorem node_len {n : Net} (hR : Right n) {R : List Nat} (hi : ∀ a ∈ R, a < n.l.length) (hn : (beg n.l R).Nodup) : R.length ≤ n.n.toNat := by
  have h1 : ((beg n.l R).map fun v => (v - 1).toNat).Nodup := by
    have hp : ∀ v ∈ beg n.l R, 1 ≤ v ∧ v ≤ n.n := fun v hv => by
      obtain ⟨a, ha, rfl⟩ := List.mem_map.1 hv
      exact ⟨hR.fr0 a (hi a ha), hR.fr1 a (hi a ha)⟩
    refine List.Pairwise.map _ (R := fun a b => a ≠ b ∧ 1 ≤ a ∧ 1 ≤ b) (fun a b h e => h.1 (by omega)) ?_
    exact List.Pairwise.imp_of_mem (fun {a b} ha hb h => ⟨h, (hp a ha).1, (hp b hb).1⟩) hn
  have := nodup_len (L := n.n.toNat) h1 fun k hk => by
    obtain ⟨v, hv, rfl⟩ := List.mem_map.1 hk
    obtain ⟨a, ha, rfl⟩ := List.mem_map.1 hv
    have := hR.fr0 a (hi a ha)
    have := hR.fr1 a (hi a ha)
    omega
  simpa [beg] using this
theorem wlk_ok {n : Net} (hR : Right n) {g : List Int} {en u0 : Int} (hen : u0 ≠ en) (hO : ∀ a, a < n.l.length → 0 < amt g a → (arcAt n.l a).to ≠ en → ∃ b, b < n.l.length ∧ 0 < amt g b ∧ (arcAt n.l b).fr = (arcAt n.l a).to) :
    ∀ (k : Nat) (u : Int) (R : List Nat), n.n.toNat < k + R.length → (∀ a ∈ R, a < n.l.length ∧ 0 < amt g a) → Chn n.l u0 R u → (beg n.l R).Nodup → u ∉ beg n.l R → (∃ b, b < n.l.length ∧ 0 < amt g b ∧ (arcAt n.l b).fr = u) → en ∉ beg n.l R → u ≠ en →
      ∃ b Q, wlk n.l g en k u R = some (b, Q) ∧ ((b = true ∧ Fnd n.l g u0 en Q ∧ en ∉ beg n.l Q) ∨ (b = false ∧ ∃ x, Fnd n.l g x x Q))
  | 0, u, R, hk, hi, hc, hn, hu, _, _, _ => by
    have := node_len hR (fun a ha => (hi a ha).1) hn
    omega
  | k + 1, u, R, hk, hi, hc, hn, hu, ⟨b, hb, hb0, hbu⟩, he, hue => by
    obtain ⟨a, ha⟩ := fst_ex hb hb0 hbu
    obtain ⟨a1, a2, a3⟩ := fst_some ha
    have hu0 : u ≠ 0 := by have := hR.fr0 b hb; omega
    have afr : (arcAt n.l a).fr = u := by rcases a3 with h | h; exact absurd h hu0; exact h
    have hi2 : ∀ c ∈ R ++ [a], c < n.l.length ∧ 0 < amt g c := fun c hc => by
      rcases List.mem_append.1 hc with h | h
      · exact hi c h
      · rw [List.mem_singleton.1 h]; exact ⟨a1, a2⟩
    have hc2 : Chn n.l u0 (R ++ [a]) (arcAt n.l a).to := hc.snoc afr
    have hn2 : (beg n.l (R ++ [a])).Nodup := by
      rw [beg_snoc, afr]
      exact List.nodup_append.2 ⟨hn, by simp, fun x hx y hy => by rw [List.mem_singleton.1 hy]; exact fun e => hu (e ▸ hx)⟩
    have he2 : en ∉ beg n.l (R ++ [a]) := by
      rw [beg_snoc, afr]; simp; exact ⟨he, fun e => hue e.symm⟩
    simp only [wlk, ha]
    by_cases c : (arcAt n.l a).to = en
    · rw [if_pos c]
      exact ⟨true, _, rfl, Or.inl ⟨rfl, ⟨by simp, hi2, c ▸ hc2, hn2⟩, he2⟩⟩
    · rw [if_neg c]
      rcases hx : ixOf (beg n.l (R ++ [a])) (arcAt n.l a).to with _ | i
      · simp only
        obtain ⟨d, hd, hd0, hdu⟩ := hO a a1 a2 c
        exact wlk_ok hR hen hO k _ (R ++ [a]) (by simp; omega) hi2 hc2 hn2 (ix_none hx) ⟨d, hd, hd0, hdu⟩ he2 c
      · obtain ⟨i1, i2⟩ := ix_some hx
        rw [beg_len] at i1
        have e : amt (beg n.l (R ++ [a])) i = (arcAt n.l ((R ++ [a]).getD i 0)).fr := by
          unfold amt beg
          rw [List.getD_eq_getElem?_getD, List.getD_eq_getElem?_getD, List.getElem?_map, List.getElem?_eq_getElem i1]; rfl
        refine ⟨false, _, rfl, Or.inr ⟨rfl, (arcAt n.l a).to, ⟨fun h => ?_, fun c hc => hi2 c (List.mem_of_mem_drop hc), ?_, ?_⟩⟩⟩
        · have := congrArg List.length h; simp at this i1; omega
        · have := hc2.drop i1
          rw [← e, i2] at this; exact this
        · unfold beg; rw [List.map_drop]; exact hn2.sublist (List.drop_sublist _ _)
/-- amounts that are left: within the capacities, as much into each node as out of it, but for the ends -/
structure Lf (n : Net) (g : List Int) : Prop where
  len : g.length = n.l.length
  wi : wi n.l g
  calm : ∀ v, v ≠ n.s → v ≠ n.t → exc n.l g v = 0
  ends : exc n.l g n.s = -exc n.l g n.t
theorem exc_in {n : Net} {g : List Int} (hw : wi n.l g) {v : Int} {i : Nat} (hi : i < n.l.length) (h0 : 0 < amt g i) (hv : (arcAt n.l i).to = v) (he : exc n.l g v ≤ 0) : ∃ b, b < n.l.length ∧ 0 < amt g b ∧ (arcAt n.l b).fr = v := by
  refine Classical.byContradiction fun hno => ?_
  have h1 : frS n.l g v n.l.length = 0 := sumTo_zero fun j hj => by
    by_cases c : (arcAt n.l j).fr = v
    · rw [if_pos c]
      have := (hw j hj).1
      rcases Int.lt_or_eq_of_le this with h | h
      · exact absurd ⟨j, hj, h, c⟩ hno
      · exact h.symm
    · rw [if_neg c]
  have h2 : 0 < toS n.l g v n.l.length := by
    have := sumTo_mono (g := fun i => if (arcAt n.l i).to = v then amt g i else 0) (j := i + 1) (k := n.l.length) (fun j hj => by split; exact (hw j hj).1; exact Int.le_refl _) hi
    have h3 : 0 ≤ sumTo (fun i => if (arcAt n.l i).to = v then amt g i else 0) i := sumTo_nn fun j hj => by split; exact (hw j (by omega)).1; exact Int.le_refl _
    have h4 : sumTo (fun i => if (arcAt n.l i).to = v then amt g i else 0) (i + 1) = sumTo (fun i => if (arcAt n.l i).to = v then amt g i else 0) i + if (arcAt n.l i).to = v then amt g i else 0 := rfl
    rw [if_pos hv] at h4
    unfold toS; omega
  have h3 : exc n.l g v = toS n.l g v n.l.length - frS n.l g v n.l.length := rfl
  omega
theorem exc_out' {n : Net} {g : List Int} (hw : wi n.l g) {v : Int} (he : exc n.l g v < 0) : ∃ b, b < n.l.length ∧ 0 < amt g b ∧ (arcAt n.l b).fr = v := by
  refine Classical.byContradiction fun hno => ?_
  have h1 : frS n.l g v n.l.length = 0 := sumTo_zero fun j hj => by
    by_cases c : (arcAt n.l j).fr = v
    · rw [if_pos c]
      have := (hw j hj).1
      rcases Int.lt_or_eq_of_le this with h | h
      · exact absurd ⟨j, hj, h, c⟩ hno
      · exact h.symm
    · rw [if_neg c]
  have h2 : 0 ≤ toS n.l g v n.l.length := sumTo_nn fun j hj => by split; exact (hw j hj).1; exact Int.le_refl _
  have h3 : exc n.l g v = toS n.l g v n.l.length - frS n.l g v n.l.length := rfl
  omega
/-- as much comes out of the source as into the sink -/
theorem calm_ends {n : Net} (hR : Right n) {g : List Int} (hc : ∀ v, v ≠ n.s → v ≠ n.t → exc n.l g v = 0) : exc n.l g n.s = -exc n.l g n.t := by
  have h1 := nodP_eq n.l g (fun _ => true) (n.n.toNat + 1)
  have h0 : excC (cutK (fun _ => true) (n.n.toNat + 1)) n.l g = 0 := sumTo_zero fun i hi => by
    have a1 := hR.fr0 i hi; have a2 := hR.fr1 i hi; have a3 := hR.to0 i hi; have a4 := hR.to1 i hi
    unfold cutK
    rw [if_pos ⟨rfl, by omega, by omega⟩, if_pos ⟨rfl, by omega, by omega⟩]; simp
  rw [h0] at h1
  have ht0 := hR.t0; have ht1 := hR.t1; have hs0 := hR.s0; have hs1 := hR.s1; have hne := hR.ne
  have e := sumTo_one (g := fun _ => 0) (j := n.t.toNat) (exc n.l g n.t) (k := n.n.toNat + 1) (by omega)
  rw [sumTo_zero fun i _ => rfl, Int.zero_add] at e
  have e2 := sumTo_one (g := fun i => if i = n.t.toNat then exc n.l g n.t else 0) (j := n.s.toNat) (exc n.l g n.s) (k := n.n.toNat + 1) (by omega)
  rw [e] at e2
  have h2 : nodP n.l g (fun _ => true) (n.n.toNat + 1) = exc n.l g n.t + exc n.l g n.s := by
    rw [← e2]
    refine sumTo_congr fun v hv => ?_
    rw [if_pos rfl]
    by_cases c1 : v = n.s.toNat
    · subst c1
      rw [if_pos rfl, if_neg (by omega), show ((n.s.toNat : Nat) : Int) = n.s by omega]; omega
    · by_cases c2 : v = n.t.toNat
      · subst c2
        rw [if_neg c1, if_pos rfl, show ((n.t.toNat : Nat) : Int) = n.t by omega]
      · rw [if_neg c1, if_neg c2]
        exact hc _ (by omega) (by omega)
  omega
/-- the least of a row's amounts, and of x -/
def lst (g : List Int) (x : Int) (R : List Nat) : Int := R.foldl (fun x a => if amt g a < x then amt g a else x) x
theorem lst_le {g : List Int} : ∀ (R : List Nat) (x : Int), lst g x R ≤ x ∧ (∀ a ∈ R, lst g x R ≤ amt g a) ∧ (lst g x R = x ∨ ∃ a ∈ R, lst g x R = amt g a)
  | [], x => ⟨Int.le_refl _, fun a h => by simp at h, Or.inl rfl⟩
  | a :: R, x => by
    have e : lst g x (a :: R) = lst g (if amt g a < x then amt g a else x) R := rfl
    obtain ⟨h1, h2, h3⟩ := lst_le (g := g) R (if amt g a < x then amt g a else x)
    rw [e]
    have h4 : (if amt g a < x then amt g a else x) ≤ x ∧ (if amt g a < x then amt g a else x) ≤ amt g a := by split <;> omega
    refine ⟨by omega, fun b hb => ?_, ?_⟩
    · rcases List.mem_cons.1 hb with h | h
      · subst h; omega
      · exact h2 b h
    · rcases h3 with h | ⟨b, hb, h⟩
      · by_cases c : amt g a < x
        · rw [if_pos c] at h ⊢; exact Or.inr ⟨a, List.mem_cons_self, h⟩
        · rw [if_neg c] at h ⊢; exact Or.inl h
      · exact Or.inr ⟨b, List.mem_cons_of_mem _ hb, h⟩
/-- an item: its kind, its arcs, its amount -/
structure Itm where
  kind : Int
  arcs : List Nat
  amount : Int
/-- where a walk begins, where it ends -/
def bgn (n : Net) (g : List Int) : Int := if 0 < exc n.l g n.t then n.s else if exc n.l g n.t < 0 then n.t else match fstA n.l g 0 with | some a => (arcAt n.l a).fr | none => 0
def fin (n : Net) (g : List Int) : Int := if 0 < exc n.l g n.t then n.t else if exc n.l g n.t < 0 then n.s else 0
def itm (n : Net) (g : List Int) : Itm :=
  match wlk n.l g (fin n g) (n.n.toNat + 1) (bgn n g) [] with
  | none => ⟨99, [], 0⟩
  | some (true, R) => if 0 < exc n.l g n.t then ⟨112, R, lst g (exc n.l g n.t) R⟩ else ⟨98, R, lst g (-exc n.l g n.t) R⟩
  | some (false, R) => ⟨99, R, lst g (amt g (R.getD 0 0)) R⟩
/-- what an item of what is left is -/
structure IsI (n : Net) (g : List Int) (x : Itm) : Prop where
  pos : 0 < x.amount
  ne : x.arcs ≠ []
  inn : ∀ a ∈ x.arcs, a < n.l.length ∧ x.amount ≤ amt g a
  nd : (beg n.l x.arcs).Nodup
  kinds : (x.kind = 112 ∧ 0 < exc n.l g n.t ∧ x.amount ≤ exc n.l g n.t ∧ Chn n.l n.s x.arcs n.t ∧ n.t ∉ beg n.l x.arcs) ∨ (x.kind = 98 ∧ exc n.l g n.t < 0 ∧ x.amount ≤ -exc n.l g n.t ∧ Chn n.l n.t x.arcs n.s ∧ n.s ∉ beg n.l x.arcs) ∨ (x.kind = 99 ∧ ∃ u, Chn n.l u x.arcs u)
  full : (∃ a ∈ x.arcs, amt g a = x.amount) ∨ (x.kind = 112 ∧ x.amount = exc n.l g n.t) ∨ (x.kind = 98 ∧ x.amount = -exc n.l g n.t)
theorem itm_is {n : Net} (hR : Right n) {g : List Int} (hL : Lf n g) {a : Nat} (ha : fstA n.l g 0 = some a) : IsI n g (itm n g) := by
  obtain ⟨a1, a2, -⟩ := fst_some ha
  have hs0 := hR.s0; have ht0 := hR.t0; have hne := hR.ne; have hE := hL.ends
  have hfr := hR.fr0 a a1
  have hO : ∀ c, c < n.l.length → 0 < amt g c → (arcAt n.l c).to ≠ fin n g → ∃ b, b < n.l.length ∧ 0 < amt g b ∧ (arcAt n.l b).fr = (arcAt n.l c).to := fun c hc hc0 he => by
    refine exc_in hL.wi hc hc0 rfl ?_
    unfold fin at he
    by_cases e1 : (arcAt n.l c).to = n.s
    · rw [e1]
      by_cases p : 0 < exc n.l g n.t
      · omega
      · rw [if_neg p] at he
        by_cases q : exc n.l g n.t < 0
        · rw [if_pos q] at he; exact absurd e1 he
        · omega
    · by_cases e2 : (arcAt n.l c).to = n.t
      · rw [e2]
        by_cases p : 0 < exc n.l g n.t
        · rw [if_pos p] at he; exact absurd e2 he
        · omega
      · rw [hL.calm _ e1 e2]; exact Int.le_refl _
  have hB : (∃ b, b < n.l.length ∧ 0 < amt g b ∧ (arcAt n.l b).fr = bgn n g) ∧ bgn n g ≠ fin n g := by
    unfold bgn fin
    by_cases p : 0 < exc n.l g n.t
    · rw [if_pos p, if_pos p]; exact ⟨exc_out' hL.wi (by omega), hne⟩
    · rw [if_neg p, if_neg p]
      by_cases q : exc n.l g n.t < 0
      · rw [if_pos q, if_pos q]; exact ⟨exc_out' hL.wi q, Ne.symm hne⟩
      · rw [if_neg q, if_neg q, ha]; exact ⟨⟨a, a1, a2, rfl⟩, by simp only; omega⟩
  obtain ⟨b, Q, hw, hq⟩ := wlk_ok hR (g := g) (en := fin n g) (u0 := bgn n g) hB.2 hO (n.n.toNat + 1) (bgn n g) [] (by simp) (by simp) rfl (by simp [beg]) (by simp [beg]) hB.1 (by simp [beg]) hB.2
  rcases hq with ⟨rfl, F, hfn⟩ | ⟨rfl, u, F⟩
  · have hpos : ∀ x, 0 < x → 0 < lst g x Q := fun x hx => by
      obtain ⟨-, -, h3⟩ := lst_le (g := g) Q x
      rcases h3 with h | ⟨c, hc, h⟩
      · omega
      · have := (F.inn c hc).2; omega
    by_cases p : 0 < exc n.l g n.t
    · have e : itm n g = ⟨112, Q, lst g (exc n.l g n.t) Q⟩ := by unfold itm; rw [hw]; simp only; rw [if_pos p]
      obtain ⟨h1, h2, h3⟩ := lst_le (g := g) Q (exc n.l g n.t)
      have hc := F.chn
      unfold bgn fin at hc; rw [if_pos p, if_pos p] at hc
      unfold fin at hfn; rw [if_pos p] at hfn
      rw [e]
      refine ⟨hpos _ p, F.ne, fun c hc => ⟨(F.inn c hc).1, h2 c hc⟩, F.nd, Or.inl ⟨rfl, p, h1, hc, hfn⟩, ?_⟩
      rcases h3 with h | ⟨c, hc, h⟩
      · exact Or.inr (Or.inl ⟨rfl, h⟩)
      · exact Or.inl ⟨c, hc, h.symm⟩
    · have q : exc n.l g n.t < 0 := by
        refine Classical.byContradiction fun q => ?_
        have hf : fin n g = 0 := by unfold fin; rw [if_neg p, if_neg q]
        have := F.chn.last F.ne
        have hm : Q.getD (Q.length - 1) 0 ∈ Q := by
          have hlen : 0 < Q.length := List.length_pos_iff.2 F.ne
          rw [List.getD_eq_getElem?_getD, List.getElem?_eq_getElem (by omega)]
          exact List.getElem_mem _
        have := hR.to0 _ (F.inn _ hm).1
        omega
      have e : itm n g = ⟨98, Q, lst g (-exc n.l g n.t) Q⟩ := by unfold itm; rw [hw]; simp only; rw [if_neg p]
      obtain ⟨h1, h2, h3⟩ := lst_le (g := g) Q (-exc n.l g n.t)
      have hc := F.chn
      unfold bgn fin at hc; rw [if_neg p, if_neg p, if_pos q, if_pos q] at hc
      unfold fin at hfn; rw [if_neg p, if_pos q] at hfn
      rw [e]
      refine ⟨hpos _ (by omega), F.ne, fun c hc => ⟨(F.inn c hc).1, h2 c hc⟩, F.nd, Or.inr (Or.inl ⟨rfl, q, h1, hc, hfn⟩), ?_⟩
      rcases h3 with h | ⟨c, hc, h⟩
      · exact Or.inr (Or.inr ⟨rfl, h⟩)
      · exact Or.inl ⟨c, hc, h.symm⟩
  · have e : itm n g = ⟨99, Q, lst g (amt g (Q.getD 0 0)) Q⟩ := by unfold itm; rw [hw]
    obtain ⟨h1, h2, h3⟩ := lst_le (g := g) Q (amt g (Q.getD 0 0))
    have hm : Q.getD 0 0 ∈ Q := by
      have hlen : 0 < Q.length := List.length_pos_iff.2 F.ne
      rw [List.getD_eq_getElem?_getD, List.getElem?_eq_getElem hlen]
      exact List.getElem_mem _
    rw [e]
    refine ⟨?_, F.ne, fun c hc => ⟨(F.inn c hc).1, h2 c hc⟩, F.nd, Or.inr (Or.inr ⟨rfl, u, F.chn⟩), Or.inl ?_⟩
    · rcases h3 with h | ⟨c, hc, h⟩
      · have := (F.inn _ hm).2; simp only; omega
      · have := (F.inn c hc).2; simp only; omega
    · rcases h3 with h | ⟨c, hc, h⟩
      · exact ⟨_, hm, h.symm⟩
      · exact ⟨c, hc, h.symm⟩
end Dc
end Go.Proofs.Ytkeojkddbannpaa
