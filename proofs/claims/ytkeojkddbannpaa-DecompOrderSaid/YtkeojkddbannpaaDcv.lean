/-
  Stage 15: plain facts of the laws: an item alone, arcs that lead up alone, what goes round on top of a flow. No condition.
-/
import Derived.Test.YtkeojkddbannpaaDcu
namespace Go.Proofs.Ytkeojkddbannpaa
set_option linter.unusedVariables false
set_option linter.unusedSimpArgs false
namespace Dc
open Go.Proofs.Ytkeojkddbannpaa.Ne
theorem lf_of {n : Net} {g : List Int} (h : chkF n g = 0) : Lf n g := by
  obtain ⟨h1, hcalm⟩ := chkF_ok h
  obtain ⟨ck, hR, hlen, hw⟩ := chkA_ok h1
  have hc : ∀ v, v ≠ n.s → v ≠ n.t → exc n.l g v = 0 := fun v h1 h2 => by
    by_cases c : 0 ≤ v ∧ v ≤ n.n
    · have := hcalm v.toNat (by omega) (by omega) (by omega)
      rwa [show ((v.toNat : Nat) : Int) = v by omega] at this
    · have h3 : toS n.l g v n.l.length = 0 := sumTo_zero fun i hi => by
        have := hR.to0 i hi; have := hR.to1 i hi
        rw [if_neg (by omega)]
      have h4 : frS n.l g v n.l.length = 0 := sumTo_zero fun i hi => by
        have := hR.fr0 i hi; have := hR.fr1 i hi
        rw [if_neg (by omega)]
      show toS n.l g v n.l.length - frS n.l g v n.l.length = 0
      omega
  exact ⟨hlen, hw, hc, calm_ends hR hc⟩
theorem Lf.chk {n : Net} {g : List Int} (h : Lf n g) (ck : checkN n = 0) : chkF n g = 0 := chkF_in (chkA_in ck h.len h.wi) fun v _ hs ht => h.calm _ hs ht
theorem Lf.val {n : Net} {g : List Int} (h : Lf n g) (ck : checkN n = 0) : vaV n g = exc n.l g n.t := by unfold vaV; rw [if_neg (by simpa using h.chk ck)]
theorem flow_lf {n : Net} {g : List Int} (h : Flow n g) : Lf n g := ⟨h.len, h.wi, h.calm, h.ends⟩
/-- as many rounds as there are arcs tell all -/
theorem cnt_le (l : List Arc) (g : List Int) : cnt l g ≤ l.length := by
  unfold cnt; exact Nat.le_trans List.countP_le_length (by simp)
theorem bnd_len (n : Net) (g : List Int) : bnd n g ≤ n.l.length := Nat.le_trans (bnd_le n g) (cnt_le n.l g)
/-- all items of what is left -/
def splA (n : Net) (g : List Int) : List Itm := spl n n.l.length g
theorem splA_ok {n : Net} (hR : Right n) {g : List Int} (hL : Lf n g) : Spl n g (splA n g) := spl_ok hR _ g hL (bnd_len n g)
theorem splA_nil {n : Net} (hR : Right n) {g : List Int} (hL : Lf n g) (h : fstA n.l g 0 = none) : splA n g = [] := by
  unfold splA
  rcases e : n.l.length with _ | k
  · rfl
  · simp only [spl, h]
theorem splA_cons {n : Net} (hR : Right n) {g : List Int} (hL : Lf n g) {a : Nat} (h : fstA n.l g 0 = some a) : splA n g = itm n g :: splA n (tk g (itm n g)) := by
  have hx := itm_is hR hL h
  have h1 := tk_bnd hR hL hx
  have h2 := bnd_len n g
  unfold splA
  obtain ⟨k, hk⟩ : ∃ k, n.l.length = k + 1 := ⟨n.l.length - 1, by omega⟩
  have e3 : spl n (k + 1) g = itm n g :: spl n k (tk g (itm n g)) := by simp only [spl, h]
  rw [hk, e3, spl_more hR k _ (tk_lf hR hL hx) (by omega) 1]
theorem splA_swp {n : Net} (hR : Right n) {g : List Int} (hL : Lf n g) : splA (swpN n) g = (splA n g).map swp := swp_spl hR _ g hL
theorem splA_sum {n : Net} (ck : checkN n = 0) {g : List Int} (hL : Lf n g) : sumE n ((splA n g).map Itm.z) = 0 ∧ sumV n ((splA n g).map Itm.z) = g := spl_sum ck hL (splA_ok (right_of ck) hL)
theorem splA_rest {n : Net} (ck : checkN n = 0) {g : List Int} (hL : Lf n g) {x : Itm} {L : List Itm} (h : splA n g = x :: L) : ∃ h, Lf n h ∧ sumE n (L.map Itm.z) = 0 ∧ sumV n (L.map Itm.z) = h ∧ splA n h = L := by
  obtain ⟨h, h1, h2, h3, h4⟩ := spl_rest ck (right_of ck) hL (bnd_len n g) h
  exact ⟨h, h1, h2, h3, h4 _ (bnd_len n h)⟩
/-- an item alone is a flow: of what it leads -/
theorem one_flow {n : Net} (ck : checkN n = 0) {g : List Int} (hL : Lf n g) {x : Itm} (hx : IsI n g x) : sumE n [x.z] = 0 ∧ Lf n (sumV n [x.z]) ∧ exc n.l (sumV n [x.z]) n.t = leds x := by
  have hR := right_of ck
  obtain ⟨e, ha⟩ := one_sum ck hL hx fun i hi => (hL.wi i hi).2
  have hlen : (sumV n [x.z]).length = n.l.length := by rw [sumV_ok e]; simp
  have hex : ∀ v, exc n.l (sumV n [x.z]) v = exc n.l g v - exc n.l (tk g x) v := fun v => by
    rw [exc_eq, exc_eq, exc_eq]
    unfold excC
    rw [← sumTo_sub]
    refine sumTo_congr fun i hi => ?_
    rw [ha i hi, tk_at hL hx i, ← Int.mul_sub]
    congr 1; omega
  have hc : ∀ v, v ≠ n.s → v ≠ n.t → exc n.l (sumV n [x.z]) v = 0 := fun v h1 h2 => by
    rw [hex, hL.calm v h1 h2, (tk_lf hR hL hx).calm v h1 h2]; rfl
  refine ⟨e, ⟨hlen, fun i hi => ?_, hc, calm_ends hR hc⟩, ?_⟩
  · rw [ha i hi]
    have := hL.wi i hi
    have := hx.pos
    split
    · rename_i h; have := (hx.inn i h).2; omega
    · omega
  · rw [hex, tk_val hR hL hx]; omega
theorem chn_up {l : List Arc} : ∀ {R : List Nat} {u w : Int}, (∀ a ∈ R, (arcAt l a).fr < (arcAt l a).to) → Chn l u R w → R ≠ [] → u < w
  | [a], u, w, h, hc, _ => by
    have := h a List.mem_cons_self
    have e1 : (arcAt l a).fr = u := hc.1
    have e2 : (arcAt l a).to = w := hc.2
    omega
  | a :: b :: R, u, w, h, hc, _ => by
    have := h a List.mem_cons_self
    have e1 : (arcAt l a).fr = u := hc.1
    have := chn_up (R := b :: R) (fun c hc => h c (List.mem_cons_of_mem _ hc)) hc.2 (by simp)
    omega
/-- where arcs lead up alone nothing goes round -/
theorem up_none {n : Net} {g : List Int} {x : Itm} (hx : IsI n g x) (h : ∀ i, i < n.l.length → (arcAt n.l i).fr < (arcAt n.l i).to) : x.kind ≠ 99 := fun k => by
  rcases hx.kinds with ⟨k2, -⟩ | ⟨k2, -⟩ | ⟨-, u, c⟩
  · rw [k] at k2; exact absurd k2 (by decide)
  · rw [k] at k2; exact absurd k2 (by decide)
  · have := chn_up (fun a ha => h a (hx.inn a ha).1) c hx.ne; omega
theorem len_nodes {n : Net} (hR : Right n) {g : List Int} {x : Itm} (hx : IsI n g x) : (x.arcs.length : Int) ≤ n.n := by
  have := node_len hR (fun a ha => (hx.inn a ha).1) hx.nd
  have := hR.n0
  omega
/-- m more on an arc that is a loop -/
theorem loop_lf {n : Net} (hR : Right n) {g : List Int} (hL : Lf n g) {a : Nat} (ha : a < n.l.length) (he : (arcAt n.l a).fr = (arcAt n.l a).to) {m : Int} (h0 : 0 ≤ m) (h1 : m ≤ (arcAt n.l a).cap - amt g a) : Lf n (g.set a (amt g a + m)) ∧ ∀ v, exc n.l (g.set a (amt g a + m)) v = exc n.l g v := by
  have hex : ∀ v, exc n.l (g.set a (amt g a + m)) v = exc n.l g v := fun v => by
    rw [exc_eq, exc_eq, excC_set (dl v) _ hL.len ha]
    unfold dl; rw [he, Int.sub_self, Int.zero_mul, Int.add_zero]
  have hc : ∀ v, v ≠ n.s → v ≠ n.t → exc n.l (g.set a (amt g a + m)) v = 0 := fun v h2 h3 => by rw [hex, hL.calm v h2 h3]
  refine ⟨⟨by rw [List.length_set, hL.len], fun i hi => ?_, hc, calm_ends hR hc⟩, hex⟩
  rw [amt_set _ (by rw [hL.len]; exact ha)]
  have := hL.wi i hi
  by_cases c : i = a
  · subst c; rw [if_pos rfl]; omega
  · rw [if_neg c]; exact this
/-- m more on two arcs that lead round -/
theorem round_lf {n : Net} (hR : Right n) {g : List Int} (hL : Lf n g) {a b : Nat} (ha : a < n.l.length) (hb : b < n.l.length) (hne : a ≠ b) (e1 : (arcAt n.l a).fr = (arcAt n.l b).to) (e2 : (arcAt n.l a).to = (arcAt n.l b).fr) {m : Int} (h0 : 0 ≤ m) (h1 : m ≤ (arcAt n.l a).cap - amt g a) (h2 : m ≤ (arcAt n.l b).cap - amt g b) :
    Lf n ((g.set a (amt g a + m)).set b (amt g b + m)) ∧ ∀ v, exc n.l ((g.set a (amt g a + m)).set b (amt g b + m)) v = exc n.l g v := by
  have hab : amt (g.set a (amt g a + m)) b = amt g b := by rw [amt_set _ (by rw [hL.len]; exact ha), if_neg (Ne.symm hne)]
  have hex : ∀ v, exc n.l ((g.set a (amt g a + m)).set b (amt g b + m)) v = exc n.l g v := fun v => by
    rw [exc_eq, exc_eq, excC_set (dl v) _ (by rw [List.length_set, hL.len]) hb, excC_set (dl v) _ hL.len ha, hab]
    have : dl v (arcAt n.l b) = - dl v (arcAt n.l a) := by unfold dl; rw [e1, e2]; omega
    rw [this, Int.neg_mul, show amt g b + m - amt g b = m by omega, show amt g a + m - amt g a = m by omega]
    omega
  have hc : ∀ v, v ≠ n.s → v ≠ n.t → exc n.l ((g.set a (amt g a + m)).set b (amt g b + m)) v = 0 := fun v h2 h3 => by rw [hex, hL.calm v h2 h3]
  refine ⟨⟨by rw [List.length_set, List.length_set, hL.len], fun i hi => ?_, hc, calm_ends hR hc⟩, hex⟩
  rw [amt_set _ (by rw [List.length_set, hL.len]; exact hb), amt_set _ (by rw [hL.len]; exact ha)]
  have := hL.wi i hi
  by_cases c : i = b
  · subst c; rw [if_pos rfl]; omega
  · rw [if_neg c]
    by_cases d : i = a
    · subst d; rw [if_pos rfl]; omega
    · rw [if_neg d]; exact this
/-- the first item so often that its arcs are full, and once more -/
theorem full_sum {n : Net} (ck : checkN n = 0) {x : ItZ} (hx : RightI n x) {m : Int} (h0 : 0 < m) : RightI n ⟨x.kind, x.arcs, m⟩ := ⟨h0, hx.ne, hx.inn, hx.chn, hx.nd, hx.last, hx.kinds⟩
theorem nought_sum {n : Net} {k : Int} {r : List Int} : ¬ RightI n ⟨k, r, 0⟩ := fun h => absurd h.pos (by simp)
theorem full_ok {n : Net} (ck : checkN n = 0) (hR : Right n) {x : ItZ} (hx : RightI n x) {m : Int} (h0 : 0 < m) (h1 : ∀ i, i < n.l.length → (i : Int) ∈ x.arcs → m ≤ (arcAt n.l i).cap) : sumE n [⟨x.kind, x.arcs, m⟩] = 0 := by
  refine sumE_ok ck (fun y hy => by rw [List.mem_singleton.1 hy]; exact full_sum ck hx h0) fun i hi => ?_
  rw [tot_cons]
  have e : tot [] i = 0 := rfl
  rw [e]
  show (if (i : Int) ∈ x.arcs then m else 0) + 0 ≤ _
  by_cases c : (i : Int) ∈ x.arcs
  · rw [if_pos c]; have := h1 i hi c; omega
  · rw [if_neg c]; have := hR.cap0 i hi; omega
theorem full_over {n : Net} (ck : checkN n = 0) {x : ItZ} (hx : RightI n x) {m : Int} (h0 : 0 < m) {i : Nat} (hi : i < n.l.length) (hm : (i : Int) ∈ x.arcs) (h1 : (arcAt n.l i).cap < m) : sumE n [⟨x.kind, x.arcs, m⟩] = 3 := by
  refine sumE_range ck (fun y hy => by rw [List.mem_singleton.1 hy]; exact full_sum ck hx h0) hi ?_
  rw [tot_cons]
  have e : tot [] i = 0 := rfl
  rw [e]
  show _ < (if (i : Int) ∈ x.arcs then m else 0) + 0
  rw [if_pos hm]; omega
theorem nought_arg {n : Net} (ck : checkN n = 0) (k : Int) (r : List Int) : sumE n [⟨k, r, 0⟩] = 1 := sumE_arg ck List.mem_cons_self nought_sum
theorem none_sum {n : Net} (ck : checkN n = 0) (hR : Right n) : sumE n [] = 0 ∧ sumV n [] = List.replicate n.l.length 0 := by
  have e : sumE n [] = 0 := sumE_ok ck (fun x hx => by simp at hx) fun i hi => by
    have := hR.cap0 i hi
    have e2 : tot [] i = 0 := rfl
    omega
  refine ⟨e, ?_⟩
  rw [sumV_ok e]
  refine List.ext_getElem (by simp) fun i h1 h2 => ?_
  simp; rfl
end Dc
end Go.Proofs.Ytkeojkddbannpaa
