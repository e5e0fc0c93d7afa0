/-
  Plain facts on amounts on arcs: sums by the index, what comes in and goes out of a node, what is a flow, what is wrong with amounts. No condition.
  Blocks that the call itself makes by make([]int64, n), make([]bool, n): rows of n cells, told by a list. No condition.
-/
import Derived.Test.YtkeojkddbannpaaRcheck
import Derived.Test.YtkeojkddbannpaaNets
import Derived.Deep.OwnRows
namespace Go.Proofs.Ytkeojkddbannpaa
open Go.ChangeShapes Go.WideShapes Go.ChangeAt Go.RowKit
set_option linter.unusedVariables false
set_option linter.unusedSimpArgs false
namespace Ne
def sumTo (g : Nat → Int) : Nat → Int
  | 0 => 0
  | k + 1 => sumTo g k + g k
theorem sumTo_congr {g h : Nat → Int} : ∀ {k : Nat}, (∀ i, i < k → g i = h i) → sumTo g k = sumTo h k
  | 0, _ => rfl
  | k + 1, e => by rw [sumTo, sumTo, sumTo_congr (fun i hi => e i (by omega)), e k (by omega)]
theorem sumTo_le {g h : Nat → Int} : ∀ {k : Nat}, (∀ i, i < k → g i ≤ h i) → sumTo g k ≤ sumTo h k
  | 0, _ => Int.le_refl _
  | k + 1, e => by
    have h1 := sumTo_le (k := k) (fun i hi => e i (by omega))
    have h2 := e k (by omega)
    simp only [sumTo]; omega
theorem sumTo_nn {g : Nat → Int} : ∀ {k : Nat}, (∀ i, i < k → 0 ≤ g i) → 0 ≤ sumTo g k
  | 0, _ => Int.le_refl _
  | k + 1, e => by
    have h1 := sumTo_nn (k := k) (fun i hi => e i (by omega))
    have h2 := e k (by omega)
    simp only [sumTo]; omega
theorem sumTo_mono {g : Nat → Int} {j : Nat} : ∀ {k : Nat}, (∀ i, i < k → 0 ≤ g i) → j ≤ k → sumTo g j ≤ sumTo g k
  | 0, _, h => by rw [Nat.le_zero.1 h]; exact Int.le_refl _
  | k + 1, e, h => by
    by_cases hj : j = k + 1
    · subst hj; exact Int.le_refl _
    · have h1 := sumTo_mono (j := j) (k := k) (fun i hi => e i (by omega)) (by omega)
      have h2 := e k (by omega)
      simp only [sumTo]; omega
theorem sumTo_front (g : Nat → Int) : ∀ k, sumTo g (k + 1) = g 0 + sumTo (fun i => g (i + 1)) k
  | 0 => by simp [sumTo]
  | k + 1 => by rw [sumTo, sumTo_front g k, sumTo]; omega
theorem sumTo_add (g h : Nat → Int) : ∀ k, sumTo (fun i => g i + h i) k = sumTo g k + sumTo h k
  | 0 => rfl
  | k + 1 => by simp only [sumTo]; rw [sumTo_add g h k]; omega
theorem sumTo_sub (g h : Nat → Int) : ∀ k, sumTo (fun i => g i - h i) k = sumTo g k - sumTo h k
  | 0 => rfl
  | k + 1 => by simp only [sumTo]; rw [sumTo_sub g h k]; omega
theorem sumTo_mul (x : Int) (g : Nat → Int) : ∀ k, sumTo (fun i => x * g i) k = x * sumTo g k
  | 0 => by simp [sumTo]
  | k + 1 => by simp only [sumTo]; rw [sumTo_mul x g k, Int.mul_add]
theorem sumTo_one {g : Nat → Int} {j : Nat} (c : Int) : ∀ {k : Nat}, j < k → sumTo (fun i => if i = j then g i + c else g i) k = sumTo g k + c
  | 0, h => absurd h (by omega)
  | k + 1, h => by
    by_cases hj : j = k
    · subst hj
      simp only [sumTo, if_true]
      rw [sumTo_congr (h := g) (fun i hi => if_neg (by omega))]; omega
    · simp only [sumTo]
      rw [sumTo_one c (show j < k by omega), if_neg (by omega)]; omega
theorem sumTo_zero {g : Nat → Int} {k : Nat} (h : ∀ i, i < k → g i = 0) : sumTo g k = 0 := by
  have : sumTo g k = sumTo (fun _ => (0 : Int) * 0) k := sumTo_congr fun i hi => by rw [h i hi]; rfl
  rw [this, sumTo_mul]; simp

def arcAt (l : List Arc) (i : Nat) : Arc := l.getD i default
theorem arcAt_of {l : List Arc} {i : Nat} {a : Arc} (h : l[i]? = some a) : arcAt l i = a := by simp [arcAt, h]
theorem at_arc {l : List Arc} {i : Nat} (h : i < l.length) : l[i]? = some (arcAt l i) := by simp [arcAt, h]
theorem ext_arc {f g : List Arc} (hl : f.length = g.length) (h : ∀ i, i < f.length → arcAt f i = arcAt g i) : f = g := by
  apply List.ext_getElem? ; intro i
  by_cases hi : i < f.length
  · rw [at_arc hi, at_arc (hl ▸ hi), h i hi]
  · rw [List.getElem?_eq_none (by omega), List.getElem?_eq_none (by omega)]

def capS (l : List Arc) (k : Nat) : Int := sumTo (fun i => (arcAt l i).cap) k
theorem checkL_ok {n : Int} : ∀ {l : List Arc} {left : Int}, checkL n left l = 0 → 0 ≤ left →
    (∀ i, i < l.length → isNode n (arcAt l i).fr = true ∧ isNode n (arcAt l i).to = true ∧ 0 ≤ (arcAt l i).cap) ∧ capS l l.length ≤ left
  | [], left, _, h0 => ⟨fun i hi => absurd hi (by simp), by simpa [capS, sumTo] using h0⟩
  | a :: l, left, h, h0 => by
    unfold checkL at h
    by_cases c1 : (isNode n a.fr && isNode n a.to) = true
    · rw [if_pos c1] at h
      by_cases c2 : a.cap < 0
      · rw [if_pos c2] at h; cases h
      · rw [if_neg c2] at h
        by_cases c3 : left < a.cap
        · rw [if_pos c3] at h; cases h
        · rw [if_neg c3] at h
          obtain ⟨g1, g2⟩ := checkL_ok h (by omega)
          have c1' := Bool.and_eq_true_iff.1 c1
          refine ⟨fun i hi => ?_, ?_⟩
          · rcases i with _ | i
            · exact ⟨c1'.1, c1'.2, by simp [arcAt]; omega⟩
            · have := g1 i (by simpa using hi)
              simpa [arcAt] using this
          · have e : capS (a :: l) (a :: l).length = a.cap + capS l l.length := by
              unfold capS; rw [List.length_cons, sumTo_front]; simp [arcAt]
            rw [e]; omega
    · rw [if_neg c1] at h; cases h
/-- what stands of a network that is right -/
structure Right (n : Net) : Prop where
  n0 : 2 ≤ n.n
  n1 : n.n ≤ 500
  s0 : 1 ≤ n.s
  s1 : n.s ≤ n.n
  t0 : 1 ≤ n.t
  t1 : n.t ≤ n.n
  ne : n.s ≠ n.t
  len : n.l.length ≤ 2000
  fr0 : ∀ i, i < n.l.length → 1 ≤ (arcAt n.l i).fr
  fr1 : ∀ i, i < n.l.length → (arcAt n.l i).fr ≤ n.n
  to0 : ∀ i, i < n.l.length → 1 ≤ (arcAt n.l i).to
  to1 : ∀ i, i < n.l.length → (arcAt n.l i).to ≤ n.n
  cap0 : ∀ i, i < n.l.length → 0 ≤ (arcAt n.l i).cap
  sum : capS n.l n.l.length ≤ 4611686018427387903
theorem isNode_at (n v : Int) : isNode n v = true ↔ 1 ≤ v ∧ v ≤ n := by simp [isNode]
theorem right_of {n : Net} (h : checkN n = 0) : Right n := by
  unfold checkN at h
  by_cases c1 : n.n < 2 ∨ 500 < n.n
  · rw [if_pos c1] at h; cases h
  rw [if_neg c1] at h
  by_cases c2 : (isNode n.n n.s && isNode n.n n.t) = true
  case neg => rw [if_neg c2] at h; cases h
  rw [if_pos c2] at h
  by_cases c3 : n.s = n.t
  · rw [if_pos c3] at h; cases h
  rw [if_neg c3] at h
  by_cases c4 : 2000 < n.l.length
  · rw [if_pos c4] at h; cases h
  rw [if_neg c4] at h
  obtain ⟨g1, g2⟩ := checkL_ok h (by omega)
  obtain ⟨p1, p2⟩ := Bool.and_eq_true_iff.1 c2
  rw [isNode_at] at p1 p2
  have g3 : ∀ i, i < n.l.length → (1 ≤ (arcAt n.l i).fr ∧ (arcAt n.l i).fr ≤ n.n) ∧ (1 ≤ (arcAt n.l i).to ∧ (arcAt n.l i).to ≤ n.n) ∧ 0 ≤ (arcAt n.l i).cap := fun i hi => by
    obtain ⟨q1, q2, q3⟩ := g1 i hi
    rw [isNode_at] at q1 q2
    exact ⟨q1, q2, q3⟩
  exact ⟨by omega, by omega, p1.1, p1.2, p2.1, p2.2, c3, by omega, fun i hi => (g3 i hi).1.1, fun i hi => (g3 i hi).1.2, fun i hi => (g3 i hi).2.1.1, fun i hi => (g3 i hi).2.1.2, fun i hi => (g3 i hi).2.2, g2⟩

/-- what comes in to a node along the first k arcs; what goes out -/
def toS (l : List Arc) (f : List Int) (v : Int) (k : Nat) : Int := sumTo (fun i => if (arcAt l i).to = v then amt f i else 0) k
def frS (l : List Arc) (f : List Int) (v : Int) (k : Nat) : Int := sumTo (fun i => if (arcAt l i).fr = v then amt f i else 0) k
/-- the excess of a node -/
def exc (l : List Arc) (f : List Int) (v : Int) : Int := toS l f v l.length - frS l f v l.length
/-- amounts within the capacities -/
def wi (l : List Arc) (f : List Int) : Prop := ∀ i, i < l.length → 0 ≤ amt f i ∧ amt f i ≤ (arcAt l i).cap
instance (l : List Arc) (f : List Int) : Decidable (wi l f) := by unfold wi; infer_instance
theorem toS_bd {n : Net} {f : List Int} (hR : Right n) (hw : wi n.l f) (v : Int) {k : Nat} (hk : k ≤ n.l.length) : 0 ≤ toS n.l f v k ∧ toS n.l f v k ≤ 4611686018427387903 := by
  have h1 : toS n.l f v k ≤ capS n.l k := sumTo_le fun i hi => by
    have := hw i (by omega); have := hR.cap0 i (by omega); split <;> omega
  have h2 : capS n.l k ≤ capS n.l n.l.length := sumTo_mono hR.cap0 hk
  have h3 := hR.sum
  exact ⟨sumTo_nn fun i hi => by have := hw i (by omega); split <;> omega, by omega⟩
theorem frS_bd {n : Net} {f : List Int} (hR : Right n) (hw : wi n.l f) (v : Int) {k : Nat} (hk : k ≤ n.l.length) : 0 ≤ frS n.l f v k ∧ frS n.l f v k ≤ 4611686018427387903 := by
  have h1 : frS n.l f v k ≤ capS n.l k := sumTo_le fun i hi => by
    have := hw i (by omega); have := hR.cap0 i (by omega); split <;> omega
  have h2 : capS n.l k ≤ capS n.l n.l.length := sumTo_mono hR.cap0 hk
  have h3 := hR.sum
  exact ⟨sumTo_nn fun i hi => by have := hw i (by omega); split <;> omega, by omega⟩
theorem exc_bd {n : Net} {f : List Int} (hR : Right n) (hw : wi n.l f) (v : Int) : -4611686018427387903 ≤ exc n.l f v ∧ exc n.l f v ≤ 4611686018427387903 := by
  have h1 := toS_bd hR hw v (Nat.le_refl _)
  have h2 := frS_bd hR hw v (Nat.le_refl _)
  unfold exc; omega
theorem amt_bd {n : Net} {f : List Int} (hR : Right n) (hw : wi n.l f) {i : Nat} (hi : i < n.l.length) : 0 ≤ amt f i ∧ amt f i ≤ 4611686018427387903 := by
  have h1 := hw i hi
  have h2 : (arcAt n.l i).cap ≤ capS n.l n.l.length := by
    have e : capS n.l (i + 1) ≤ capS n.l n.l.length := sumTo_mono hR.cap0 (by omega)
    have e2 : 0 ≤ capS n.l i := sumTo_nn fun j hj => hR.cap0 j (by omega)
    have e3 : capS n.l (i + 1) = capS n.l i + (arcAt n.l i).cap := rfl
    omega
  have := hR.sum
  omega
theorem toS_succ (l : List Arc) (f : List Int) (v : Int) (k : Nat) : toS l f v (k + 1) = toS l f v k + if (arcAt l k).to = v then amt f k else 0 := rfl
theorem frS_succ (l : List Arc) (f : List Int) (v : Int) (k : Nat) : frS l f v (k + 1) = frS l f v k + if (arcAt l k).fr = v then amt f k else 0 := rfl
theorem toS_out {n : Net} (hR : Right n) (f : List Int) {v : Int} (hv : v < 1) : toS n.l f v n.l.length = 0 :=
  sumTo_zero fun i hi => if_neg (by have := hR.to0 i hi; omega)
theorem frS_out {n : Net} (hR : Right n) (f : List Int) {v : Int} (hv : v < 1) : frS n.l f v n.l.length = 0 :=
  sumTo_zero fun i hi => if_neg (by have := hR.fr0 i hi; omega)
theorem exc_out {n : Net} (hR : Right n) (f : List Int) {v : Int} (hv : v < 1) : exc n.l f v = 0 := by
  unfold exc; rw [toS_out hR f hv, frS_out hR f hv]; rfl
/-- what is wrong with amounts but for the excesses -/
def chkA (n : Net) (f : List Int) : Int := if checkN n ≠ 0 then checkN n else if f.length ≠ n.l.length then 6 else if wi n.l f then 0 else 3
/-- no node between has too much -/
def calm (n : Net) (f : List Int) : Prop := ∀ v : Nat, v < n.n.toNat + 1 → (v : Int) ≠ n.s → (v : Int) ≠ n.t → exc n.l f v = 0
instance (n : Net) (f : List Int) : Decidable (calm n f) := by unfold calm; infer_instance
def chkF (n : Net) (f : List Int) : Int := if chkA n f ≠ 0 then chkA n f else if calm n f then 0 else 9
theorem chkA_ok {n : Net} {f : List Int} (h : chkA n f = 0) : checkN n = 0 ∧ Right n ∧ f.length = n.l.length ∧ wi n.l f := by
  unfold chkA at h
  by_cases c1 : checkN n = 0
  · rw [if_neg (by simpa using c1)] at h
    by_cases c2 : f.length = n.l.length
    · rw [if_neg (by simpa using c2)] at h
      by_cases c3 : wi n.l f
      · exact ⟨c1, right_of c1, c2, c3⟩
      · rw [if_neg c3] at h; cases h
    · rw [if_pos c2] at h; cases h
  · rw [if_pos c1] at h; exact absurd h c1
theorem chkA_in {n : Net} {f : List Int} (h1 : checkN n = 0) (h2 : f.length = n.l.length) (h3 : wi n.l f) : chkA n f = 0 := by
  unfold chkA; rw [if_neg (by simpa using h1), if_neg (by simpa using h2), if_pos h3]
theorem chkF_ok {n : Net} {f : List Int} (h : chkF n f = 0) : chkA n f = 0 ∧ calm n f := by
  unfold chkF at h
  by_cases c : chkA n f = 0
  · rw [if_neg (by simpa using c)] at h
    by_cases d : calm n f
    · exact ⟨c, d⟩
    · rw [if_neg d] at h; cases h
  · rw [if_pos c] at h; exact absurd h c
theorem chkF_in {n : Net} {f : List Int} (h1 : chkA n f = 0) (h2 : calm n f) : chkF n f = 0 := by
  unfold chkF; rw [if_neg (by simpa using h1), if_pos h2]
/-- the excess, or what is wrong -/
def exE (n : Net) (f : List Int) (v : Int) : Int := if chkA n f ≠ 0 then chkA n f else if v < 1 ∨ n.n < v then 4 else 0
def exV (n : Net) (f : List Int) (v : Int) : Int := if exE n f v ≠ 0 then 0 else exc n.l f v
def vaV (n : Net) (f : List Int) : Int := if chkF n f ≠ 0 then 0 else exc n.l f n.t
/-- two flows together -/
def addE (n : Net) (f g : List Int) : Int := if chkF n f ≠ 0 then chkF n f else if chkF n g ≠ 0 then chkF n g else if (∀ i, i < n.l.length → amt f i + amt g i ≤ (arcAt n.l i).cap) then 0 else 3
def sumL (f g : List Int) : List Int := (List.range f.length).map fun i => amt f i + amt g i
def addL (n : Net) (f g : List Int) : List Int := if addE n f g ≠ 0 then [] else sumL f g
theorem sumL_len (f g : List Int) : (sumL f g).length = f.length := by simp [sumL]
theorem sumL_at {f g : List Int} {i : Nat} (h : i < f.length) : amt (sumL f g) i = amt f i + amt g i := by
  simp [amt, sumL, h]
end Ne
end Go.Proofs.Ytkeojkddbannpaa
namespace Go.Proofs.Ytkeojkddbannpaa
open Go.ChangeShapes Go.WideShapes Go.ChangeAt Go.RowKit
set_option linter.unusedVariables false
set_option linter.unusedSimpArgs false
namespace Ne
theorem infoB : (Try.prog.info? 4).map (fun i => (i.zero, i.size, i.bytes)) = some (some (.bool false), 1, 1) := by kernel_rfl
theorem make_b (n : Nat) (h : n ≤ 1000000) (w : World) : (Instr.makeSlice 86 (.int .i64 (n : Int)) (.int .i64 (n : Int))).run Try.prog w = .ok (.slice (some ⟨w.heap.size, 0, none⟩) n n) (w.alloc (.cells (madeCells #[.bool false] n) 4)) :=
  run_make_row' 86 4 (.bool false) 1 Try.underlying86 infoB rfl .i64 .i64 n (by omega) (by omega) w
def BBox (w : World) (b : Nat) (l : List Bool) : Prop := w.rowIs b 4 l.length fun i => .bool (l.getD i false)
section
variable {w w2 : World} {b : Nat} {l : List Int} {m : List Bool}
theorem BBox.cell (h : BBox w b m) {i : Nat} (hi : i < m.length) : w.cell? ⟨b, i, none⟩ = some (.bool (m.getD i false)) := World.rowIs.cell h hi
theorem BBox.frozen (h : BBox w b m) (i : Nat) : w.frozen? ⟨b, i, none⟩ = false := World.rowIs.frozen h i
theorem BBox.lt (h : BBox w b m) : b < w.heap.size := World.rowIs.lt h
theorem BBox.below {B : Nat} (h : BBox w b m) (hb : Below B w w2) (hB : b < B) : BBox w2 b m := World.rowIs.of_block h (hb.block b hB)
theorem BBox.kept (h : BBox w b m) (hb : Below w.heap.size w w2) : BBox w2 b m := h.below hb h.lt
theorem BBox.grown {row : Option Nat} (h : BBox w b m) (hg : w.grownBy w2 row) (hne : some b ≠ row) : BBox w2 b m := World.rowIs.of_block h (hg.block b h.lt hne)
theorem BBox.set (h : BBox w b m) {i : Nat} (hi : i < m.length) (x : Bool) : BBox (w.setCell ⟨b, i, none⟩ (.bool x)) b (m.set i x) := by
  have h2 := World.rowIs.congr (World.rowIs.set h i (.bool x)) (g := fun j => .bool ((m.set i x).getD j false)) (fun j hj => by
    show (if j = i then _ else _) = _
    by_cases e : j = i
    · subst e; simp [hi]
    · rw [if_neg e]; simp [List.getElem?_set_ne (Ne.symm e)])
  unfold BBox; rw [List.length_set]; exact h2
theorem BBox.far (h : BBox w b m) {p : Addr} (hp : b ≠ p.block) (v : Value) : BBox (w.setCell p v) b m := World.rowIs.setOther h hp v
theorem BBox.alloc (h : BBox w b m) (o : Obj) : BBox (w.alloc o) b m := World.rowIs.alloc h o
end
theorem bbox_made (w : World) (n : Nat) {b : Nat} (hb : b = w.heap.size) : BBox (w.alloc (.cells (madeCells #[.bool false] n) 4)) b (List.replicate n false) := by
  subst hb
  unfold BBox; rw [List.length_replicate]
  exact (World.rowIs_made w (.bool false) n 4).congr fun i hi => by simp [hi]
theorem arow_cell {w : World} {ao : Option Addr} {l : List Arc} (h : ARow w ao l) {i : Nat} (hi : i < l.length) : ∃ b off, ao = some ⟨b, off, none⟩ ∧ b < w.heap.size ∧ w.cell? ⟨b, off + i * 3, none⟩ = some (.int .i64 (arcAt l i).fr) ∧ w.cell? ⟨b, off + i * 3 + 1, none⟩ = some (.int .i64 (arcAt l i).to) ∧ w.cell? ⟨b, off + i * 3 + 2, none⟩ = some (.int .i64 (arcAt l i).cap) := by
  rcases h with h | ⟨b, off, rfl, hlt, hc⟩
  · subst h; simp at hi
  · exact ⟨b, off, rfl, hlt, arow_at hc (at_arc hi)⟩
/-- an arc's own block, new -/
theorem arc_new (w : World) {b : Nat} (hb : b = w.heap.size) (x y z : Int) : (w.alloc (.cells #[.int .i64 x, .int .i64 y, .int .i64 z] 53)).cell? ⟨b, 0, none⟩ = some (.int .i64 x) ∧ (w.alloc (.cells #[.int .i64 x, .int .i64 y, .int .i64 z] 53)).cell? ⟨b, 1, none⟩ = some (.int .i64 y) ∧
    (w.alloc (.cells #[.int .i64 x, .int .i64 y, .int .i64 z] 53)).cell? ⟨b, 2, none⟩ = some (.int .i64 z) := by
  subst hb
  exact ⟨World.cell?_alloc_new w _ _ 0, World.cell?_alloc_new w _ _ 1, World.cell?_alloc_new w _ _ 2⟩
end Ne
end Go.Proofs.Ytkeojkddbannpaa
