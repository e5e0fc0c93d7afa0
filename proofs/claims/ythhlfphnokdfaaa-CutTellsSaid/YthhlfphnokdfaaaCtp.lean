/-
  Cuts, plainly: what is worth a cut is closed under tracks with room; the least and the greatest cut of the least capacity. Condition: the network is right.
-/
import Derived.Test.YthhlfphnokdfaaaMcp
namespace Go.Proofs.Ythhlfphnokdfaaa
set_option linter.unusedVariables false
set_option linter.unusedSimpArgs false
namespace Ne
theorem sumTo_tight {g h : Nat → Int} (k : Nat) : (∀ i, i < k → g i ≤ h i) → sumTo g k = sumTo h k → ∀ i, i < k → g i = h i := by
  induction k with
  | zero => intro _ _ i hi; omega
  | succ k ih =>
    intro hle he i hi
    have h1 : sumTo g k ≤ sumTo h k := sumTo_le fun i hi => hle i (by omega)
    have h2 := hle k (by omega)
    have h3 : sumTo g k + g k = sumTo h k + h k := he
    by_cases c : i = k
    · subst c; omega
    · exact ih (fun i hi => hle i (by omega)) (by omega) i (by omega)
/-- two cuts together: those nodes that are of both sinks' sides, and of one of them -/
theorem capP_meets (P Q : Int → Bool) : ∀ l : List Arc, (∀ a ∈ l, 0 ≤ a.cap) → capP l (fun v => P v && Q v) + capP l (fun v => P v || Q v) ≤ capP l P + capP l Q
  | [], _ => by simp [capP_nil]
  | a :: l, h => by
    have h1 := capP_meets P Q l fun b hb => h b (List.mem_cons_of_mem _ hb)
    have h2 := h a List.mem_cons_self
    rw [capP_cons, capP_cons, capP_cons, capP_cons]
    have h3 : capT (fun v => P v && Q v) a + capT (fun v => P v || Q v) a ≤ capT P a + capT Q a := by
      show (if (P a.fr && Q a.fr) = false ∧ (P a.to && Q a.to) = true then a.cap else 0) + (if (P a.fr || Q a.fr) = false ∧ (P a.to || Q a.to) = true then a.cap else 0) ≤ (if P a.fr = false ∧ P a.to = true then a.cap else 0) + (if Q a.fr = false ∧ Q a.to = true then a.cap else 0)
      cases P a.fr <;> cases P a.to <;> cases Q a.fr <;> cases Q a.to <;> simp <;> omega
    omega
/-- a node-set's side that no track with room leads into -/
def Shut (l : List Arc) (f : List Int) (P : Int → Bool) : Prop := ∀ r, r < 2 * l.length → 1 ≤ roomN l f r → P (trF l r) = false → P (trT l r) = false
/-- what the arcs of a cut bear of a flow -/
theorem shut_arcs {l : List Arc} {f : List Int} (hw : wi l f) {P : Int → Bool} : Shut l f P ↔ ∀ i, i < l.length → cutA P (arcAt l i) * amt f i = capT P (arcAt l i) := by
  constructor
  · intro h i hi
    obtain ⟨w1, w2⟩ := hw i hi
    have e1 := h (2 * i) (by omega)
    have e2 := h (2 * i + 1) (by omega)
    rw [trF_even, trT_even, room_even] at e1
    rw [trF_odd, trT_odd, room_odd] at e2
    unfold cutA capT
    cases c1 : P (arcAt l i).fr <;> cases c2 : P (arcAt l i).to
    · simp
    · have : ¬ 1 ≤ (arcAt l i).cap - amt f i := fun e => by have := e1 e c1; rw [c2] at this; cases this
      simp; omega
    · have : ¬ 1 ≤ amt f i := fun e => by have := e2 e c2; rw [c1] at this; cases this
      simp; omega
    · simp
  · intro h r hr h1 h2
    have h3 := h (r / 2) (by omega)
    obtain ⟨w1, w2⟩ := hw (r / 2) (by omega)
    unfold cutA capT at h3
    unfold roomN at h1
    unfold trF at h2
    unfold trT
    by_cases c : r % 2 = 1
    · rw [if_pos c] at h1 h2 ⊢
      cases c1 : P (arcAt l (r / 2)).fr
      · rfl
      · rw [h2, c1] at h3; simp at h3; omega
    · rw [if_neg c] at h1 h2 ⊢
      cases c1 : P (arcAt l (r / 2)).to
      · rfl
      · rw [h2, c1] at h3; simp at h3; omega
/-- worth just what the cut bears: no track with room leads over it -/
theorem cut_shut {n : Net} (hR : Right n) {f : List Int} (hF : Flow n f) {P : Int → Bool} (hs : P n.s = false) (ht : P n.t = true) : exc n.l f n.t = capP n.l P ↔ Shut n.l f P := by
  rw [shut_arcs hF.wi, flow_cut hR hF hs ht, capP_eq]
  constructor
  · intro h
    refine sumTo_tight _ (fun i hi => ?_) h
    obtain ⟨w1, w2⟩ := hF.wi i hi
    unfold cutA capT
    cases P (arcAt n.l i).fr <;> cases P (arcAt n.l i).to <;> simp <;> omega
  · intro h
    exact sumTo_congr h
theorem rch_shut {n : Net} {f : List Int} {P : Int → Bool} (h : Shut n.l f P) (hs : P n.s = false) {v : Int} (hv : Rch n f 1 v) : P v = false := by
  induction hv with
  | base => exact hs
  | step hr hx _ ih => exact h _ hr hx ih
/-- the same from the sink back: over the network turned -/
theorem shut_turn {l : List Arc} {f : List Int} {P : Int → Bool} : Shut (l.map turnA) f (fun v => !P v) ↔ Shut l f P := by
  constructor
  · intro h r hr h1 h2
    obtain ⟨e1, e2, e3⟩ := tr_turn (f := f) hr
    have := h r (by simpa using hr) (by rw [e3]; exact h1)
    rw [e1, e2] at this
    cases c : P (trT l r)
    · rfl
    · have := this (by simp [c]); simp [h2] at this
  · intro h r hr h1 h2
    have hr' : r < 2 * l.length := by simpa using hr
    obtain ⟨e1, e2, e3⟩ := tr_turn (f := f) hr'
    rw [e3] at h1
    rw [e1] at h2
    rw [e2]
    cases c : P (trF l r)
    · have := h r hr' h1 c; simp [this] at h2
    · simp [c]
theorem back_shut {n : Net} {f : List Int} {P : Int → Bool} (h : Shut n.l f P) (ht : P n.t = true) {v : Int} (hv : Rch (turnN n) f 1 v) : P v = true := by
  have := rch_shut (n := turnN n) (P := fun v => !P v) (shut_turn.2 h) (by show (!P n.t) = false; rw [ht]; rfl) hv
  simpa using this
/-- what is come to is shut in -/
theorem reach_shut {n : Net} (hR : Right n) {f : List Int} {M : List Bool} (h : IsReach n f 1 M) : Shut n.l f fun v => !(M.getD v.toNat false) := fun r hr h1 h2 => by
  have := h.closed r hr h1 (by simpa using h2)
  simpa using this
theorem back_turned {n : Net} (hR2 : Right (turnN n)) {f : List Int} {B : List Bool} (h : IsReach (turnN n) f 1 B) : Shut n.l f fun v => B.getD v.toNat false := by
  have := reach_shut hR2 h
  refine shut_turn.1 ?_
  show Shut (n.l.map turnA) f fun v => !(B.getD v.toNat false)
  exact this
/-- of a flow that leads nothing more: what is come to (M), and that from which one comes to the sink (B) -/
structure CutF (n : Net) (f : List Int) (M B : List Bool) : Prop where
  mt : M.getD n.t.toNat false = false
  ms : M.getD n.s.toNat false = true
  bs : B.getD n.s.toNat false = false
  bt : B.getD n.t.toNat false = true
  first : exc n.l f n.t = capP n.l fun v => !(M.getD v.toNat false)
  last : exc n.l f n.t = capP n.l fun v => B.getD v.toNat false
  apart : ∀ v : Nat, M.getD v false = true → B.getD v false = false
  mid : ∀ P : Int → Bool, P n.s = false → P n.t = true → capP n.l P = exc n.l f n.t → ∀ v : Nat, (M.getD v false = true → P (v : Int) = false) ∧ (B.getD v false = true → P (v : Int) = true)
theorem cutF {n : Net} (hR : Right n) (hR2 : Right (turnN n)) {f : List Int} (hF : Flow n f) {M B : List Bool} (hM : IsReach n f 1 M) (hB : IsReach (turnN n) f 1 B) (ht : M.getD n.t.toNat false = false) : CutF n f M B := by
  have hsh := reach_shut hR hM
  have hb : ∀ v : Nat, B.getD v false = true → M.getD v false = false := fun v hv => by
    have := back_shut hsh (by simpa using ht) (hB.sound v hv)
    simpa using this
  have hbs : B.getD n.s.toNat false = false := by
    cases c : B.getD n.s.toNat false
    · rfl
    · have := hb _ c; rw [hM.at_s] at this; cases this
  have hbt : B.getD n.t.toNat false = true := hB.at_s
  refine ⟨ht, hM.at_s, hbs, hbt, ?_, ?_, fun v hv => ?_, fun P p1 p2 p3 v => ?_⟩
  · exact (cut_shut hR hF (P := fun v => !(M.getD v.toNat false)) (by show (!_) = false; rw [hM.at_s]; rfl) (by show (!_) = true; rw [ht]; rfl)).2 hsh
  · exact (cut_shut hR hF (P := fun v => B.getD v.toNat false) hbs hbt).2 (back_turned hR2 hB)
  · cases c : B.getD v false
    · rfl
    · have := hb v c; rw [hv] at this; cases this
  · have hsp := (cut_shut hR hF p1 p2).1 p3.symm
    exact ⟨fun hv => rch_shut hsp p1 (hM.sound v hv), fun hv => back_shut hsp p2 (hB.sound v hv)⟩
/-- flows of one value, of which one leads nothing more: the same is come to -/
theorem cutF_same {n : Net} (hR : Right n) (hR2 : Right (turnN n)) {f g : List Int} (hF : Flow n f) (hG : Flow n g) (he : exc n.l f n.t = exc n.l g n.t) {M M2 B B2 : List Bool} (hM : IsReach n f 1 M) (hM2 : IsReach n g 1 M2)
    (hB : IsReach (turnN n) f 1 B) (hB2 : IsReach (turnN n) g 1 B2) (ht : M.getD n.t.toNat false = false) : M = M2 ∧ B = B2 := by
  have C1 := cutF hR hR2 hF hM hB ht
  have half : ∀ {f g : List Int} (hF : Flow n f) (hG : Flow n g) (he : exc n.l f n.t = exc n.l g n.t) {M M2 B B2 : List Bool} (hM : IsReach n f 1 M) (hM2 : IsReach n g 1 M2) (hB : IsReach (turnN n) f 1 B) (hB2 : IsReach (turnN n) g 1 B2) (C1 : CutF n f M B),
      (∀ v : Nat, M2.getD v false = true → M.getD v false = true) ∧ (∀ v : Nat, B2.getD v false = true → B.getD v false = true) := fun {f g} hF hG he {M M2 B B2} hM hM2 hB hB2 C1 => by
    have s1 := (cut_shut hR hG (P := fun v => !(M.getD v.toNat false)) (by show (!_) = false; rw [C1.ms]; rfl) (by show (!_) = true; rw [C1.mt]; rfl)).1 (he ▸ C1.first)
    have s2 := (cut_shut hR hG (P := fun v => B.getD v.toNat false) C1.bs C1.bt).1 (he ▸ C1.last)
    refine ⟨fun v hv => ?_, fun v hv => ?_⟩
    · have := rch_shut s1 (by show (!_) = false; rw [C1.ms]; rfl) (hM2.sound v hv)
      simpa using this
    · have := back_shut s2 C1.bt (hB2.sound v hv)
      simpa using this
  have h1 := half hF hG he hM hM2 hB hB2 C1
  have ht2 : M2.getD n.t.toNat false = false := by
    cases c : M2.getD n.t.toNat false
    · rfl
    · have := h1.1 _ c; rw [ht] at this; cases this
  have h2 := half hG hF he.symm hM2 hM hB2 hB (cutF hR hR2 hG hM2 hB2 ht2)
  have ext : ∀ {A C : List Bool}, A.length = C.length → (∀ v : Nat, A.getD v false = true → C.getD v false = true) → (∀ v : Nat, C.getD v false = true → A.getD v false = true) → A = C := fun {A C} hl a c => by
    apply List.ext_getElem hl
    intro i g1 g2
    have x := a i; have y := c i
    simp only [List.getD_eq_getElem?_getD, List.getElem?_eq_getElem g1, List.getElem?_eq_getElem g2, Option.getD_some] at x y
    exact Bool.eq_iff_iff.2 ⟨x, y⟩
  exact ⟨ext (by rw [hM.len, hM2.len]) h2.1 h1.1, ext (by rw [hB.len, hB2.len]) h2.2 h1.2⟩
/-- a node that is moved over a cut: its own arcs alone -/
def movT (P : Int → Bool) (u : Int) (a : Arc) : Int := (if a.fr = u ∧ a.to ≠ u ∧ P a.to = true then a.cap else 0) - (if a.to = u ∧ a.fr ≠ u ∧ P a.fr = false then a.cap else 0)
theorem capT_move {P : Int → Bool} {u : Int} (hu : P u = true) (a : Arc) : capT (fun v => P v && !(v == u)) a = capT P a + movT P u a := by
  show (if (P a.fr && !(a.fr == u)) = false ∧ (P a.to && !(a.to == u)) = true then a.cap else 0) = (if P a.fr = false ∧ P a.to = true then a.cap else 0) + ((if a.fr = u ∧ a.to ≠ u ∧ P a.to = true then a.cap else 0) - (if a.to = u ∧ a.fr ≠ u ∧ P a.fr = false then a.cap else 0))
  by_cases c1 : a.fr = u
  · by_cases c2 : a.to = u
    · simp [c1, c2, hu]
    · rw [c1, hu]; cases P a.to <;> simp [c2]
  · by_cases c2 : a.to = u
    · rw [c2, hu]; cases P a.fr <;> simp [c1] <;> omega
    · cases P a.fr <;> cases P a.to <;> simp [c1, c2]
theorem capP_move {P : Int → Bool} {u : Int} (hu : P u = true) (l : List Arc) : capP l (fun v => P v && !(v == u)) = capP l P + (l.map (movT P u)).sum := by
  induction l with
  | nil => rfl
  | cons a l ih => rw [capP_cons, capP_cons, ih, capT_move hu, List.map_cons, List.sum_cons]; omega
end Ne
end Go.Proofs.Ythhlfphnokdfaaa
