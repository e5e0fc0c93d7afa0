/-
  Plain facts on networks: what is made is right; what one wrong arc does; arcs turned. No condition.
-/
import Derived.Test.YtpoflbnmfoamhaaRmade
import Derived.Test.YtpoflbnmfoamhaaUp3
namespace Go.Proofs.Ytpoflbnmfoamhaa
open Go.ChangeShapes Go.WideShapes Go.ChangeAt Go.RowKit
set_option linter.unusedVariables false
set_option linter.unusedSimpArgs false
namespace Ne
theorem checkL_turn (n : Int) (l : List Arc) : ∀ s, checkL n s (l.map turnA) = checkL n s l := by
  induction l with
  | nil => intro s; rfl
  | cons a l ih =>
    intro s
    simp only [List.map_cons, checkL, turnA]
    rw [ih, Bool.and_comm]
theorem checkN_turn (n : Net) : checkN (turnN n) = checkN n := by
  obtain ⟨a, b, c, l⟩ := n
  simp only [checkN, turnN, List.length_map, checkL_turn]
  rw [Bool.and_comm]
  by_cases h : b = c
  · subst h; rfl
  · simp only [if_neg h, if_neg (fun e : c = b => h e.symm)]
/-- an arc of a network of n nodes, whose capacity is at most a million -/
def fineA (n : Int) (a : Arc) : Prop := isNode n a.fr = true ∧ isNode n a.to = true ∧ 0 ≤ a.cap ∧ a.cap ≤ 1000000
theorem isNode_iff (n v : Int) : isNode n v = true ↔ 1 ≤ v ∧ v ≤ n := by simp [isNode]
theorem checkL_fine {n : Int} (l r : List Arc) : ∀ left : Int, (∀ a ∈ l, fineA n a) → 1000000 * (l.length : Int) ≤ left →
    ∃ left', left - 1000000 * (l.length : Int) ≤ left' ∧ left' ≤ left ∧ checkL n left (l ++ r) = checkL n left' r := by
  induction l with
  | nil => intro left _ _; exact ⟨left, by simp, Int.le_refl _, rfl⟩
  | cons a l ih =>
    intro left h hl
    obtain ⟨h1, h2, h3, h4⟩ := h a (List.mem_cons_self)
    simp only [List.length_cons, Int.natCast_add, Int.natCast_one] at hl ⊢
    obtain ⟨left', g1, g2, g3⟩ := ih (left - a.cap) (fun b hb => h b (List.mem_cons_of_mem _ hb)) (by omega)
    refine ⟨left', by omega, by omega, ?_⟩
    rw [List.cons_append, checkL, h1, h2]
    simp only [Bool.and_true, if_true]
    rw [if_neg (by omega), if_neg (by omega), g3]
theorem checkL_all {n : Int} (l : List Arc) (h : ∀ a ∈ l, fineA n a) (hl : l.length ≤ 1000) : checkL n 4611686018427387903 l = 0 := by
  obtain ⟨left', _, _, h3⟩ := checkL_fine l [] 4611686018427387903 h (by omega)
  rw [List.append_nil] at h3
  rw [h3]; rfl
/-- a network that is right but for its arcs -/
def fineH (n : Net) : Prop := 2 ≤ n.n ∧ n.n ≤ 500 ∧ 1 ≤ n.s ∧ n.s ≤ n.n ∧ 1 ≤ n.t ∧ n.t ≤ n.n ∧ n.s ≠ n.t ∧ n.l.length ≤ 1000
theorem checkN_head {n : Net} (h : fineH n) : checkN n = checkL n.n 4611686018427387903 n.l := by
  obtain ⟨h1, h2, h3, h4, h5, h6, h7, h8⟩ := h
  unfold checkN
  rw [if_neg (by omega), if_pos (by simp [isNode]; omega), if_neg h7, if_neg (by omega)]
theorem checkN_fine {n : Net} (h : fineH n) (hl : ∀ a ∈ n.l, fineA n.n a) : checkN n = 0 := by
  rw [checkN_head h]; exact checkL_all _ hl h.2.2.2.2.2.2.2
theorem checkN_bad {n : Net} (h : fineH n) {l : List Arc} {k : Nat} {b : Arc} (hl : ∀ a ∈ l, fineA n.n a) (hk : k < l.length) (e : n.l = l.set k b) :
    (isNode n.n b.fr = false ∨ isNode n.n b.to = false → checkN n = 4) ∧ (isNode n.n b.fr = true → isNode n.n b.to = true → b.cap < 0 → checkN n = 3) ∧ (isNode n.n b.fr = true → isNode n.n b.to = true → 4611686018427387903 < b.cap → checkN n = 7) := by
  have hlen : l.length ≤ 1000 := by have := h.2.2.2.2.2.2.2; rw [e, List.length_set] at this; exact this
  have es : l.set k b = l.take k ++ b :: l.drop (k + 1) := List.set_eq_take_append_cons_drop .. |>.trans (if_pos hk)
  obtain ⟨left', g1, g2, g3⟩ := checkL_fine (n := n.n) (l.take k) (b :: l.drop (k + 1)) 4611686018427387903 (fun a ha => hl a (List.mem_of_mem_take ha)) (by simp; omega)
  have g4 : checkN n = checkL n.n left' (b :: l.drop (k + 1)) := by rw [checkN_head h, e, es, g3]
  rw [List.length_take, Nat.min_eq_left (by omega)] at g1
  refine ⟨fun hb => ?_, fun h1 h2 h3 => ?_, fun h1 h2 h3 => ?_⟩
  · rw [g4, checkL]
    rcases hb with hb | hb <;> simp [hb]
  · rw [g4, checkL, h1, h2]; simp [h3]
  · rw [g4, checkL, h1, h2]
    simp only [Bool.and_true, if_true]
    rw [if_neg (by omega), if_pos (by omega)]
theorem madeN_fine {nodes ends : Int} {l : List Arc} (h : ∀ a ∈ l, a.ok) :
    2 ≤ (madeN nodes ends l).n ∧ (madeN nodes ends l).n ≤ 9 ∧ 1 ≤ (madeN nodes ends l).s ∧ (madeN nodes ends l).s ≤ (madeN nodes ends l).n ∧ 1 ≤ (madeN nodes ends l).t ∧ (madeN nodes ends l).t ≤ (madeN nodes ends l).n ∧
      (madeN nodes ends l).s ≠ (madeN nodes ends l).t ∧ (madeN nodes ends l).l.length = min 24 l.length ∧ ∀ a ∈ (madeN nodes ends l).l, fineA (madeN nodes ends l).n a := by
  have b1 := pickN_bd (c := nodes) (n := 8) (by omega)
  obtain ⟨p1, hp1⟩ : ∃ p, p = pickN nodes 8 := ⟨_, rfl⟩
  rw [← hp1] at b1
  obtain ⟨p2, hp2⟩ : ∃ p, p = pickN ends (2 + p1) := ⟨_, rfl⟩
  have b2 := pickN_bd (c := ends) (n := 2 + p1) (by omega)
  rw [← hp2] at b2
  obtain ⟨p3, hp3⟩ : ∃ p, p = pickN (ends.tdiv 16) (2 + p1 - 1) := ⟨_, rfl⟩
  have b3 := pickN_bd (c := ends.tdiv 16) (n := 2 + p1 - 1) (by omega)
  rw [← hp3] at b3
  simp only [madeN, ← hp1, ← hp2, ← hp3]
  have q0 := Int.emod_nonneg (1 + p2 + p3) (b := 2 + p1) (by omega)
  have q1 := Int.emod_lt_of_pos (1 + p2 + p3) (b := 2 + p1) (by omega)
  refine ⟨by omega, by omega, by omega, by omega, by omega, by omega, ?_, by simp, ?_⟩
  · intro e
    have hc : (1 + p2 + p3) % (2 + p1) = p2 := by omega
    rcases Int.lt_or_le (1 + p2 + p3) (2 + p1) with hlt | hge
    · rw [Int.emod_eq_of_lt (by omega) hlt] at hc; omega
    · have e2 : (1 + p2 + p3) % (2 + p1) = (1 + p2 + p3 - (2 + p1)) % (2 + p1) := by rw [Int.sub_emod_right]
      rw [e2, Int.emod_eq_of_lt (by omega) (by omega)] at hc; omega
  · intro a ha
    obtain ⟨x, hx, rfl⟩ := List.mem_map.1 ha
    have c1 := pickN_bd (c := x.fr) (n := 2 + p1) (by omega)
    have c2 := pickN_bd (c := x.to) (n := 2 + p1) (by omega)
    have c3 := pickN_bd (c := x.cap) (n := 1000000) (by omega)
    have c4 := pickN_bd (c := x.cap) (n := 21) (by omega)
    refine ⟨(isNode_iff _ _).2 ⟨?_, ?_⟩, (isNode_iff _ _).2 ⟨?_, ?_⟩, ?_, ?_⟩ <;> simp only [madeA] <;> first | omega | (split <;> omega)
theorem madeN_h {nodes ends : Int} {l : List Arc} (h : ∀ a ∈ l, a.ok) : fineH (madeN nodes ends l) := by
  obtain ⟨h1, h2, h3, h4, h5, h6, h7, h8, _⟩ := madeN_fine (nodes := nodes) (ends := ends) h
  exact ⟨h1, by omega, h3, h4, h5, h6, h7, by omega⟩
/-- made, its arcs a slice -/
theorem made_s (nodes ends : Int) (l : List Arc) (ao : Option Addr) (cap : Nat) (w : World) (hn : in64 nodes) (he : in64 ends) (hl : ∀ a ∈ l, a.ok) (hr : ARow w ao l) :
    Calls Try.prog 23 #[.int .i64 nodes, .int .i64 ends, .slice ao l.length cap] w fun e w' =>
      ∃ ao' cap', e = .returned (encN (madeN nodes ends l) ao' cap') ∧ OwnA w' w.heap.size (.slice ao' (madeN nodes ends l).l.length cap') (madeN nodes ends l).l ∧ Below w.heap.size w w' :=
  (made_any nodes ends l ao cap w hn he hl hr).mono fun e w' ⟨v, h1, h2, h3⟩ => by
    obtain ⟨o, c, hv, _⟩ := Rw.own_row encA_len h2
    subst hv
    exact ⟨o, c, h1, h2, h3⟩
/-- a row of arcs lies in no network's block -/
theorem own_ne_box {w : World} {B b : Nat} {v u : Value} {l : List Arc} {n s t : Int} (h : OwnA w B v l) (hb : NetBox w b n s t u) : v.ownBlock ≠ some b := by
  obtain ⟨_, h2⟩ := h
  rcases h2 with ⟨hv, _⟩ | ⟨g, cap, cur, hv, _, hh, _⟩
  · rw [hv]; simp [Value.ownBlock]
  · rw [hv]
    intro e
    simp [Value.ownBlock] at e
    subst e
    unfold NetBox at hb
    rw [hh] at hb
    simp at hb
theorem netBox_set0 {w : World} {b : Nat} {n s t n2 : Int} {v : Value} (h : NetBox w b n s t v) : NetBox (w.setCell ⟨b, 0, none⟩ (.int .i64 n2)) b n2 s t v := by
  unfold NetBox at *
  simp only [World.setCell, Array.getElem?_modify, h, if_true, Option.map_some]
  rfl
/-- a block that holds one arc -/
def ArcBox (w : World) (b : Nat) (a : Arc) : Prop := w.heap[b]? = some (.cells #[.int .i64 a.fr, .int .i64 a.to, .int .i64 a.cap] 35 (0, 0))
theorem arcBox_cells {w : World} {b : Nat} {a : Arc} (h : ArcBox w b a) : w.cell? ⟨b, 0, none⟩ = some (.int .i64 a.fr) ∧ w.cell? ⟨b, 1, none⟩ = some (.int .i64 a.to) ∧ w.cell? ⟨b, 2, none⟩ = some (.int .i64 a.cap) := by
  unfold ArcBox at h; refine ⟨?_, ?_, ?_⟩ <;> simp [World.cell?, h]
theorem arcBox_lt {w : World} {b : Nat} {a : Arc} (h : ArcBox w b a) : b < w.heap.size := Rw.lt_of_heap h
theorem arcBox_below {w w2 : World} {b B : Nat} {a : Arc} (h : ArcBox w b a) (hb : Below B w w2) (hB : b < B) : ArcBox w2 b a := by
  unfold ArcBox at *; rw [hb.block b hB]; exact h
theorem arcBox_at (w : World) {b : Nat} (hb : b = w.heap.size) (a : Arc) : ArcBox (w.alloc (.cells #[.int .i64 a.fr, .int .i64 a.to, .int .i64 a.cap] 35)) b a := by
  subst hb; unfold ArcBox; show (w.heap.push _)[w.heap.size]? = _; simp
theorem arcBox_grown {w w2 : World} {b : Nat} {a : Arc} {row : Option Nat} (h : ArcBox w b a) (hg : w.grownBy w2 row) (hne : some b ≠ row) : ArcBox w2 b a := by
  unfold ArcBox at *; rw [hg.block b (Rw.lt_of_heap h) hne]; exact h
theorem arcBox_other {w : World} {b b2 : Nat} {a : Arc} {v2 : Value} {o : Nat} (h : ArcBox w b a) (hne : b ≠ b2) : ArcBox (w.setCell ⟨b2, o, none⟩ v2) b a := by
  unfold ArcBox at *
  rw [Below.heap_setCell _ _ _ _ hne]; exact h
/-- the numbers of a network with one arc more -/
theorem outs_pre (l : List Arc) (a : Arc) (v : Int) : ∀ k, k ≤ l.length → outs (l ++ [a]) v k = outs l v k := by
  intro k hk
  unfold outs
  congr 1
  apply List.filter_congr
  intro i hi
  rw [List.mem_range] at hi
  rw [List.getElem?_append_left (by omega)]
theorem ins_pre (l : List Arc) (a : Arc) (v : Int) : ∀ k, k ≤ l.length → ins (l ++ [a]) v k = ins l v k := by
  intro k hk
  unfold ins
  congr 1
  apply List.filter_congr
  intro i hi
  rw [List.mem_range] at hi
  rw [List.getElem?_append_left (by omega)]
theorem outs_more (l : List Arc) (a : Arc) (v : Int) : outs (l ++ [a]) v (l ++ [a]).length = if a.fr = v then outs l v l.length ++ [(l.length : Int)] else outs l v l.length := by
  have hx : (l ++ [a])[l.length]? = some a := by simp
  rw [List.length_append, List.length_singleton]
  split
  · rw [outs_hit hx (by assumption), outs_pre l a v _ (Nat.le_refl _)]
  · rw [outs_miss hx (by assumption), outs_pre l a v _ (Nat.le_refl _)]
theorem ins_more (l : List Arc) (a : Arc) (v : Int) : ins (l ++ [a]) v (l ++ [a]).length = if a.to = v then ins l v l.length ++ [(l.length : Int)] else ins l v l.length := by
  have hx : (l ++ [a])[l.length]? = some a := by simp
  rw [List.length_append, List.length_singleton]
  split
  · rw [ins_hit hx (by assumption), ins_pre l a v _ (Nat.le_refl _)]
  · rw [ins_miss hx (by assumption), ins_pre l a v _ (Nat.le_refl _)]
/-- a row of numbers of the call's own, as a slice -/
theorem out_o (n : Net) (ao : Option Addr) (cap : Nat) (v : Int) (w : World) (hr : ARow w ao n.l) (hl : n.l.length ≤ 1000000) : Calls Try.prog 14 #[encN n ao cap, .int .i64 v] w fun e w' => ∃ o c, e = .returned (.slice o (outs n.l v n.l.length).length c) ∧ OwnI w' w.heap.size (.slice o (outs n.l v n.l.length).length c) (outs n.l v n.l.length) ∧ Below w.heap.size w w' :=
  (out_any n ao cap v w hr hl).mono fun e w' ⟨x, he, ho, hb⟩ => by obtain ⟨o, c, hx, _⟩ := irow_of ho; subst hx; exact ⟨o, c, he, ho, hb⟩
theorem in_o (n : Net) (ao : Option Addr) (cap : Nat) (v : Int) (w : World) (hr : ARow w ao n.l) (hl : n.l.length ≤ 1000000) : Calls Try.prog 16 #[encN n ao cap, .int .i64 v] w fun e w' => ∃ o c, e = .returned (.slice o (ins n.l v n.l.length).length c) ∧ OwnI w' w.heap.size (.slice o (ins n.l v n.l.length).length c) (ins n.l v n.l.length) ∧ Below w.heap.size w w' :=
  (in_any n ao cap v w hr hl).mono fun e w' ⟨x, he, ho, hb⟩ => by obtain ⟨o, c, hx, _⟩ := irow_of ho; subst hx; exact ⟨o, c, he, ho, hb⟩
theorem irow_own {w : World} {B n cap : Nat} {ao : Option Addr} {l : List Int} (h : OwnI w B (.slice ao n cap) l) : IRow w ao l := by
  obtain ⟨ao', cap', h1, _, _, _, h5, _⟩ := Rw.own_row encI_len h
  simp only [Value.slice.injEq] at h1
  obtain ⟨rfl, rfl, rfl⟩ := h1
  exact h5
/-- where a row of the call's own lies -/
theorem own_far {w : World} {B n cap : Nat} {ao : Option Addr} {l : List Arc} (h : OwnA w B (.slice ao n cap) l) : ∀ g, (Value.slice ao n cap).ownBlock = some g → B ≤ g ∧ g < w.heap.size := by
  intro g hg
  obtain ⟨ao', cap', hv, _, _, _, _, hb2, ha2⟩ := Rw.own_row encA_len h
  simp only [Value.slice.injEq] at hv
  obtain ⟨rfl, _, rfl⟩ := hv
  rcases ao with _ | a
  · simp [Value.ownBlock] at hg
  · obtain ⟨b, rfl⟩ := ha2 _ rfl
    simp [Value.ownBlock] at hg
    have := hb2 b 0 rfl
    omega
end Ne
end Go.Proofs.Ytpoflbnmfoamhaa
