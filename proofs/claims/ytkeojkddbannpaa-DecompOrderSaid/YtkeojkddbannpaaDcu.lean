/-
  Stage 15: what items are right, what they add up to (U2), and that the items of a flow add up to it (U3). No condition.
-/
import Derived.Test.YtkeojkddbannpaaDcs
namespace Go.Proofs.Ytkeojkddbannpaa
set_option linter.unusedVariables false
set_option linter.unusedSimpArgs false
namespace Dc
open Go.Proofs.Ytkeojkddbannpaa.Ne
/-- an item as it comes in: its arcs are any numbers -/
structure ItZ where
  kind : Int
  arcs : List Int
  amount : Int
def Itm.z (x : Itm) : ItZ := ⟨x.kind, x.arcs.map fun (a : Nat) => (a : Int), x.amount⟩
theorem z_len (x : Itm) : x.z.arcs.length = x.arcs.length := by simp [Itm.z]
theorem z_at (x : Itm) {i : Nat} (h : i < x.arcs.length) : amt x.z.arcs i = ((x.arcs.getD i 0 : Nat) : Int) := by
  unfold amt Itm.z
  rw [List.getD_eq_getElem?_getD, List.getD_eq_getElem?_getD, List.getElem?_map, List.getElem?_eq_getElem h]; rfl
theorem z_mem (x : Itm) (i : Nat) : (i : Int) ∈ x.z.arcs ↔ i ∈ x.arcs := by
  unfold Itm.z
  constructor
  · intro h
    obtain ⟨a, ha, e⟩ := List.mem_map.1 h
    have : a = i := by omega
    exact this ▸ ha
  · exact fun h => List.mem_map.2 ⟨i, h, rfl⟩
/-- where arc number i of an item begins, where it ends -/
def zfr (n : Net) (x : ItZ) (i : Nat) : Int := (arcAt n.l (amt x.arcs i).toNat).fr
def zto (n : Net) (x : ItZ) (i : Nat) : Int := (arcAt n.l (amt x.arcs i).toNat).to
/-- Words: an item -/
structure RightI (n : Net) (x : ItZ) : Prop where
  pos : 0 < x.amount
  ne : x.arcs ≠ []
  inn : ∀ i, i < x.arcs.length → 0 ≤ amt x.arcs i ∧ amt x.arcs i < (n.l.length : Int)
  chn : ∀ i, i + 1 < x.arcs.length → zfr n x (i + 1) = zto n x i
  nd : ∀ i j, i < j → j < x.arcs.length → zfr n x i ≠ zfr n x j
  last : ∀ i, 1 ≤ i → i < x.arcs.length → zfr n x i ≠ zto n x (x.arcs.length - 1)
  kinds : (x.kind = 112 ∧ zfr n x 0 = n.s ∧ zto n x (x.arcs.length - 1) = n.t) ∨ (x.kind = 98 ∧ zfr n x 0 = n.t ∧ zto n x (x.arcs.length - 1) = n.s) ∨ (x.kind = 99 ∧ zfr n x 0 = zto n x (x.arcs.length - 1))
/-- by how much items go by an arc -/
def tot (L : List ItZ) (i : Nat) : Int := (L.map fun x => if (i : Int) ∈ x.arcs then x.amount else 0).sum
theorem tot_cons (x : ItZ) (L : List ItZ) (i : Nat) : tot (x :: L) i = (if (i : Int) ∈ x.arcs then x.amount else 0) + tot L i := by simp [tot]
theorem tot_append (L M : List ItZ) (i : Nat) : tot (L ++ M) i = tot L i + tot M i := by simp [tot, List.map_append, List.sum_append]
theorem tot_z (L : List Itm) (i : Nat) : tot (L.map Itm.z) i = sumI L i := by
  unfold tot sumI
  rw [List.map_map]
  congr 1
  refine List.map_congr_left fun x _ => ?_
  show (if (i : Int) ∈ x.z.arcs then x.amount else 0) = _
  by_cases c : i ∈ x.arcs
  · rw [if_pos c, if_pos ((z_mem x i).2 c)]
  · rw [if_neg c, if_neg (fun h => c ((z_mem x i).1 h))]
open Classical in
noncomputable def sumE (n : Net) (L : List ItZ) : Int := if checkN n ≠ 0 then checkN n else if ∃ x ∈ L, ¬ RightI n x then 1 else if ∃ i, i < n.l.length ∧ (arcAt n.l i).cap < tot L i then 3 else 0
open Classical in
noncomputable def sumV (n : Net) (L : List ItZ) : List Int := if sumE n L ≠ 0 then [] else (List.range n.l.length).map (tot L)
theorem sumE_net {n : Net} {L : List ItZ} (h : checkN n ≠ 0) : sumE n L = checkN n := by unfold sumE; rw [if_pos h]
theorem sumE_arg {n : Net} {L : List ItZ} (h : checkN n = 0) {x : ItZ} (hx : x ∈ L) (h2 : ¬ RightI n x) : sumE n L = 1 := by
  unfold sumE; rw [if_neg (by simpa using h), if_pos ⟨x, hx, h2⟩]
theorem sumE_range {n : Net} {L : List ItZ} (h : checkN n = 0) (hx : ∀ x ∈ L, RightI n x) {i : Nat} (hi : i < n.l.length) (h2 : (arcAt n.l i).cap < tot L i) : sumE n L = 3 := by
  unfold sumE; rw [if_neg (by simpa using h), if_neg (fun ⟨x, h1, h3⟩ => h3 (hx x h1)), if_pos ⟨i, hi, h2⟩]
theorem sumE_ok {n : Net} {L : List ItZ} (h : checkN n = 0) (hx : ∀ x ∈ L, RightI n x) (h2 : ∀ i, i < n.l.length → tot L i ≤ (arcAt n.l i).cap) : sumE n L = 0 := by
  unfold sumE; rw [if_neg (by simpa using h), if_neg (fun ⟨x, h1, h3⟩ => h3 (hx x h1)), if_neg (fun ⟨i, hi, h3⟩ => by have := h2 i hi; omega)]
theorem sumV_ok {n : Net} {L : List ItZ} (h : sumE n L = 0) : sumV n L = (List.range n.l.length).map (tot L) := by unfold sumV; rw [if_neg (by simpa using h)]
theorem sumV_is {n : Net} {L : List ItZ} (h : sumE n L = 0) {g : List Int} (hl : g.length = n.l.length) (ha : ∀ i, i < n.l.length → amt g i = tot L i) : sumV n L = g := by
  rw [sumV_ok h]
  refine List.ext_getElem (by simp [hl]) fun i h1 h2 => ?_
  have h3 : i < n.l.length := by simpa using h1
  have := ha i h3
  unfold amt at this
  rw [List.getD_eq_getElem?_getD, List.getElem?_eq_getElem h2] at this
  simp only [List.getElem_map, List.getElem_range]
  exact this.symm
/-- the same items in another order -/
theorem tot_perm {L M : List ItZ} (h : L.Perm M) (i : Nat) : tot L i = tot M i := by
  induction h with
  | nil => rfl
  | cons x _ ih => rw [tot_cons, tot_cons, ih]
  | swap x y l => rw [tot_cons, tot_cons, tot_cons, tot_cons]; omega
  | trans _ _ h1 h2 => rw [h1, h2]
theorem sumE_perm {n : Net} {L M : List ItZ} (h : L.Perm M) : sumE n L = sumE n M := by
  have h1 : (∃ x ∈ L, ¬ RightI n x) ↔ ∃ x ∈ M, ¬ RightI n x := ⟨fun ⟨x, a, b⟩ => ⟨x, h.mem_iff.1 a, b⟩, fun ⟨x, a, b⟩ => ⟨x, h.mem_iff.2 a, b⟩⟩
  have h2 : tot L = tot M := funext (tot_perm h)
  unfold sumE
  rw [h2]
  by_cases h0 : checkN n ≠ 0
  · rw [if_pos h0, if_pos h0]
  · rw [if_neg h0, if_neg h0]
    by_cases c : ∃ x ∈ M, ¬ RightI n x
    · rw [if_pos c, if_pos (h1.2 c)]
    · rw [if_neg c, if_neg (fun h => c (h1.1 h))]
theorem sumV_perm {n : Net} {L M : List ItZ} (h : L.Perm M) : sumV n L = sumV n M := by
  have h2 : tot L = tot M := funext (tot_perm h)
  unfold sumV
  rw [sumE_perm h, h2]
/-- an item of what is left is right -/
theorem isI_right {n : Net} {g : List Int} {x : Itm} (hx : IsI n g x) : RightI n x.z := by
  have hlen := z_len x
  have hz : ∀ i, i < x.arcs.length → zfr n x.z i = (arcAt n.l (x.arcs.getD i 0)).fr ∧ zto n x.z i = (arcAt n.l (x.arcs.getD i 0)).to := fun i hi => by
    unfold zfr zto; rw [z_at x hi, Int.toNat_natCast]; exact ⟨rfl, rfl⟩
  have hpos : 0 < x.arcs.length := List.length_pos_iff.2 hx.ne
  have hmem : ∀ i, i < x.arcs.length → x.arcs.getD i 0 ∈ x.arcs := fun i hi => by
    rw [List.getD_eq_getElem?_getD, List.getElem?_eq_getElem hi]; exact List.getElem_mem _
  have hbeg : ∀ i, i < x.arcs.length → (arcAt n.l (x.arcs.getD i 0)).fr ∈ beg n.l x.arcs := fun i hi => List.mem_map.2 ⟨_, hmem i hi, rfl⟩
  have hnd : ∀ i j, i < j → j < x.arcs.length → (arcAt n.l (x.arcs.getD i 0)).fr ≠ (arcAt n.l (x.arcs.getD j 0)).fr := fun i j hij hj e => by
    have h := List.pairwise_iff_getElem.1 hx.nd i j (by rw [beg_len]; omega) (by rw [beg_len]; omega) hij
    simp only [beg, List.getElem_map] at h
    rw [List.getD_eq_getElem?_getD, List.getD_eq_getElem?_getD, List.getElem?_eq_getElem (by omega : i < x.arcs.length), List.getElem?_eq_getElem hj] at e
    exact h e
  refine ⟨hx.pos, fun h => hx.ne (by have := congrArg List.length h; rw [hlen] at this; exact List.eq_nil_of_length_eq_zero this), fun i hi => ?_, fun i hi => ?_, fun i j hij hj => ?_, fun i h1 hi => ?_, ?_⟩
  · rw [hlen] at hi
    rw [z_at x hi]
    have := (hx.inn _ (hmem i hi)).1
    omega
  · rw [hlen] at hi
    rw [(hz _ hi).1, (hz _ (by omega)).2]
    rcases hx.kinds with ⟨-, -, -, c, -⟩ | ⟨-, -, -, c, -⟩ | ⟨-, u, c⟩ <;> exact c.step hi
  · rw [hlen] at hj
    rw [(hz _ (by omega)).1, (hz _ hj).1]
    exact hnd i j hij hj
  · rw [hlen] at hi ⊢
    rw [(hz _ hi).1, (hz _ (by omega)).2]
    rcases hx.kinds with ⟨-, -, -, c, d⟩ | ⟨-, -, -, c, d⟩ | ⟨-, u, c⟩
    · rw [c.last hx.ne]; exact fun e => d (e ▸ hbeg i hi)
    · rw [c.last hx.ne]; exact fun e => d (e ▸ hbeg i hi)
    · rw [c.last hx.ne, ← c.head hx.ne]; exact fun e => hnd 0 i (by omega) hi e.symm
  · rw [hlen, (hz 0 hpos).1, (hz _ (by omega)).2]
    rcases hx.kinds with ⟨k, -, -, c, -⟩ | ⟨k, -, -, c, -⟩ | ⟨k, u, c⟩
    · exact Or.inl ⟨k, c.head hx.ne, c.last hx.ne⟩
    · exact Or.inr (Or.inl ⟨k, c.head hx.ne, c.last hx.ne⟩)
    · exact Or.inr (Or.inr ⟨k, by rw [c.head hx.ne, c.last hx.ne]⟩)
/-- U3: the items of a flow add up to it -/
theorem spl_sum {n : Net} (ck : checkN n = 0) {g : List Int} (hL : Lf n g) {L : List Itm} (h : Spl n g L) : sumE n (L.map Itm.z) = 0 ∧ sumV n (L.map Itm.z) = g := by
  have e : sumE n (L.map Itm.z) = 0 := sumE_ok ck (fun x hx => by
    obtain ⟨y, hy, rfl⟩ := List.mem_map.1 hx
    obtain ⟨_, _, h2, _⟩ := h.each y hy
    exact isI_right h2) fun i hi => by rw [tot_z, ← h.sum i]; exact (hL.wi i hi).2
  exact ⟨e, sumV_is e hL.len fun i hi => by rw [tot_z]; exact h.sum i⟩
/-- without the first one the rest is told -/
theorem spl_rest {n : Net} (ck : checkN n = 0) (hR : Right n) {g : List Int} (hL : Lf n g) {k : Nat} {x : Itm} {L : List Itm} (hk : bnd n g ≤ k) (h : spl n k g = x :: L) : ∃ h, Lf n h ∧ sumE n (L.map Itm.z) = 0 ∧ sumV n (L.map Itm.z) = h ∧ ∀ j, bnd n h ≤ j → spl n j h = L := by
  rcases k with _ | k
  · cases h
  · rcases ha : fstA n.l g 0 with _ | a
    · simp only [spl, ha] at h; cases h
    · simp only [spl, ha, List.cons.injEq] at h
      obtain ⟨rfl, rfl⟩ := h
      have hx := itm_is hR hL ha
      have hb := tk_bnd hR hL hx
      have hL' := tk_lf hR hL hx
      have hs := spl_ok hR k _ hL' (by omega)
      obtain ⟨s1, s2⟩ := spl_sum ck hL' hs
      refine ⟨_, hL', s1, s2, fun j hj => ?_⟩
      rcases Nat.le_total j k with c | c
      · obtain ⟨d, rfl⟩ : ∃ d, k = j + d := ⟨k - j, by omega⟩
        rw [spl_more hR j _ hL' hj d]
      · obtain ⟨d, rfl⟩ : ∃ d, j = k + d := ⟨j - k, by omega⟩
        rw [spl_more hR k _ hL' (by omega) d]
/-- one item alone: what it leads -/
theorem one_sum {n : Net} (ck : checkN n = 0) {g : List Int} (hL : Lf n g) {x : Itm} (hx : IsI n g x) (hc : ∀ i, i < n.l.length → amt g i ≤ (arcAt n.l i).cap) : sumE n [x.z] = 0 ∧ ∀ i, i < n.l.length → amt (sumV n [x.z]) i = if i ∈ x.arcs then x.amount else 0 := by
  have ht : ∀ i, tot [x.z] i = if i ∈ x.arcs then x.amount else 0 := fun i => by
    have := tot_z [x] i
    rw [List.map_singleton] at this
    rw [this]; simp [sumI]
  have e : sumE n [x.z] = 0 := sumE_ok ck (fun y hy => by rw [List.mem_singleton.1 hy]; exact isI_right hx) fun i hi => by
    rw [ht i]
    have := hL.wi i hi
    split
    · rename_i h; have := (hx.inn i h).2; omega
    · omega
  refine ⟨e, fun i hi => ?_⟩
  rw [sumV_ok e, ← ht i]
  unfold amt
  rw [List.getD_eq_getElem?_getD, List.getElem?_map, List.getElem?_range hi]; rfl
end Dc
end Go.Proofs.Ytkeojkddbannpaa
