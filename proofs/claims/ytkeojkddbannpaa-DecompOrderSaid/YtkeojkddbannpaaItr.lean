/-
  Stage 15: rows of items in memory: read (ItR), and built (ItO). No condition.
-/
import Derived.Test.YtkeojkddbannpaaDcu
import Derived.Test.YtkeojkddbannpaaFlm
namespace Go.Proofs.Ytkeojkddbannpaa
open Go.ChangeShapes Go.WideShapes Go.ChangeAt Go.RowKit
set_option linter.unusedVariables false
set_option linter.unusedSimpArgs false
namespace Dc
open Go.Proofs.Ytkeojkddbannpaa.Ne
/-- an item's cells: its kind, where its arcs lie, its amount -/
structure ItC where
  kind : Int
  o : Option Addr
  len : Nat
  cap : Nat
  am : Int
def encM (k : ItC) : List Value := [.int .u8 k.kind, .slice k.o k.len k.cap, .int .i64 k.am]
theorem encM_len (k : ItC) : (encM k).length = 3 := rfl
theorem encM_one (k : ItC) : ∀ u ∈ encM k, u.oneCell' = true := by
  intro u hu
  simp [encM] at hu
  rcases hu with h | h | h <;> (subst h; rfl)
/-- what one cell group says of an item -/
structure Say (w : World) (k : ItC) (x : ItZ) : Prop where
  kind : k.kind = x.kind
  am : k.am = x.amount
  len : k.len = x.arcs.length
  row : IRow w k.o x.arcs
theorem Say.kept {w w2 : World} {k : ItC} {x : ItZ} (h : Say w k x) (hb : Below w.heap.size w w2) : Say w2 k x := ⟨h.kind, h.am, h.len, h.row.kept hb⟩
/-- a row of items, read -/
def ItR (w : World) (o : Option Addr) (L : List ItZ) : Prop := ∃ Ks : List ItC, Rw.Row 3 encM w o Ks ∧ Ks.length = L.length ∧ ∀ (i : Nat) (k : ItC) (x : ItZ), Ks[i]? = some k → L[i]? = some x → Say w k x
theorem ItR.kept {w w2 : World} {o : Option Addr} {L : List ItZ} (h : ItR w o L) (hb : Below w.heap.size w w2) : ItR w2 o L := by
  obtain ⟨Ks, h1, h2, h3⟩ := h
  exact ⟨Ks, h1.kept hb, h2, fun i k x hk hx => (h3 i k x hk hx).kept hb⟩
theorem itr_nil (w : World) (o : Option Addr) : ItR w o [] := ⟨[], .inl rfl, rfl, fun i k x h => by simp at h⟩
def itAt (L : List ItZ) (i : Nat) : ItZ := L.getD i ⟨0, [], 0⟩
theorem itAt_of {L : List ItZ} {i : Nat} (h : i < L.length) : L[i]? = some (itAt L i) := by unfold itAt; rw [List.getD_eq_getElem?_getD, List.getElem?_eq_getElem h]; rfl
/-- what it tells at an index -/
theorem ItR.at {w : World} {o : Option Addr} {L : List ItZ} (h : ItR w o L) {i : Nat} (hi : i < L.length) : ∃ b off ao cap, o = some ⟨b, off, none⟩ ∧ b < w.heap.size ∧ w.cell? ⟨b, off + i * 3, none⟩ = some (.int .u8 (itAt L i).kind) ∧ w.cell? ⟨b, off + i * 3 + 1, none⟩ = some (.slice ao (itAt L i).arcs.length cap) ∧ w.cell? ⟨b, off + i * 3 + 2, none⟩ = some (.int .i64 (itAt L i).amount) ∧ IRow w ao (itAt L i).arcs := by
  obtain ⟨Ks, h1, h2, h3⟩ := h
  have hk : i < Ks.length := by omega
  have hg := List.getElem?_eq_getElem hk
  have hs := h3 i _ _ hg (itAt_of hi)
  rcases h1 with h1 | ⟨b, off, rfl, hlt, hc⟩
  · rw [h1] at hk; simp at hk
  · have c0 := hc i _ hg 0 _ rfl
    have c1 := hc i _ hg 1 _ rfl
    have c2 := hc i _ hg 2 _ rfl
    rw [hs.kind] at c0
    rw [hs.len] at c1
    rw [hs.am] at c2
    exact ⟨b, off, _, _, rfl, hlt, by simpa using c0, by simpa [Nat.add_assoc] using c1, by simpa [Nat.add_assoc] using c2, hs.row⟩
/-- a part of a row -/
theorem itr_drop {w : World} {b off : Nat} {L : List ItZ} (h : ItR w (some ⟨b, off, none⟩) L) (i : Nat) : ItR w (some ⟨b, off + i * 3, none⟩) (L.drop i) := by
  obtain ⟨Ks, h1, h2, h3⟩ := h
  refine ⟨Ks.drop i, ?_, by simp [h2], fun j k x hk hx => h3 (i + j) k x (by simpa using hk) (by simpa using hx)⟩
  rcases h1 with h1 | ⟨b', off', e, hlt, hc⟩
  · exact .inl (by rw [h1]; simp)
  · simp only [Option.some.injEq, Addr.mk.injEq, and_true] at e
    obtain ⟨rfl, rfl⟩ := e
    refine .inr ⟨b, _, rfl, hlt, fun j x hx q v hv => ?_⟩
    have := hc (i + j) x (by simpa using hx) q v hv
    rwa [show off + ((i + j) * 3 + q) = off + i * 3 + (j * 3 + q) by omega] at this
theorem itr_take {w : World} {o : Option Addr} {L : List ItZ} (h : ItR w o L) (i : Nat) : ItR w o (L.take i) := by
  obtain ⟨Ks, h1, h2, h3⟩ := h
  refine ⟨Ks.take i, ?_, by simp [h2], fun j k x hk hx => ?_⟩
  · rcases h1 with h1 | ⟨b, off, rfl, hlt, hc⟩
    · exact .inl (by rw [h1]; simp)
    · exact .inr ⟨b, off, rfl, hlt, fun j x hx q v hv => hc j x (by rw [List.getElem?_take] at hx; split at hx; exact hx; cases hx) q v hv⟩
  · rw [List.getElem?_take] at hk hx
    split at hk
    · rename_i c; rw [if_pos c] at hx; exact h3 j k x hk hx
    · cases hk
/-- arcs in a row that the call made: the end of it -/
def ArcO (w : World) (B : Nat) (o : Option Addr) (R : List Int) : Prop := ∃ g c i, ∃ l : List Int, i < l.length ∧ OwnI w B (.slice (some ⟨g, 0, none⟩) l.length c) l ∧ o = some ⟨g, i, none⟩ ∧ R = l.drop i
theorem irow_drop {w : World} {b off : Nat} {l : List Int} (h : IRow w (some ⟨b, off, none⟩) l) (i : Nat) : IRow w (some ⟨b, off + i, none⟩) (l.drop i) := by
  rcases h with h | ⟨b', off', e, hlt, hc⟩
  · exact .inl (by rw [h]; simp)
  · simp only [Option.some.injEq, Addr.mk.injEq, and_true] at e
    obtain ⟨rfl, rfl⟩ := e
    refine .inr ⟨b, _, rfl, hlt, fun j x hx q v hv => ?_⟩
    have := hc (i + j) x (by simpa using hx) q v hv
    rwa [show off + ((i + j) * 1 + q) = off + i + (j * 1 + q) by omega] at this
theorem ArcO.row {w : World} {B : Nat} {o : Option Addr} {R : List Int} (h : ArcO w B o R) : IRow w o R := by
  obtain ⟨g, c, i, l, hi, ho, rfl, rfl⟩ := h
  have := irow_drop (own_irow ho) i
  rwa [Nat.zero_add] at this
/-- a row of items that the call makes -/
def ItO (e : TypeId) (w : World) (B : Nat) (v : Value) (L : List ItZ) : Prop := ∃ Ks : List ItC, Rw.Own e 3 encM w B v Ks ∧ Ks.length = L.length ∧ ∀ (i : Nat) (k : ItC) (x : ItZ), Ks[i]? = some k → L[i]? = some x → k.kind = x.kind ∧ k.am = x.amount ∧ k.len = x.arcs.length ∧ ArcO w B k.o x.arcs
theorem ito_nil (e : TypeId) (w : World) (B : Nat) : ItO e w B (.slice none 0 0) [] := ⟨[], Rw.own_nil _ _, rfl, fun i k x h => by simp at h⟩
theorem ArcO.same {w w2 : World} {B : Nat} {o : Option Addr} {R : List Int} (h : ArcO w B o R) (hk : ∀ g, B ≤ g → g < w.heap.size → (∃ y, ∃ l : List Int, OwnI w B y l ∧ y.ownBlock = some g) → w2.heap[g]? = w.heap[g]?) : ArcO w2 B o R := by
  obtain ⟨g, c, i, l, hi, ho, h1, h2⟩ := h
  exact ⟨g, c, i, l, hi, own_same ho fun g' hg => hk g' (Rw.own_lt ho g' hg).1 (Rw.own_lt ho g' hg).2 ⟨_, l, ho, hg⟩, h1, h2⟩
theorem ItO.same {e : TypeId} {w w2 : World} {B : Nat} {v : Value} {L : List ItZ} (h : ItO e w B v L) (hk : ∀ g, B ≤ g → g < w.heap.size → w2.heap[g]? = w.heap[g]?) : ItO e w2 B v L := by
  obtain ⟨Ks, h1, h2, h3⟩ := h
  refine ⟨Ks, own_same h1 fun g hg => hk g (Rw.own_lt h1 g hg).1 (Rw.own_lt h1 g hg).2, h2, fun i k x hi hx => ?_⟩
  obtain ⟨a, b, c, d⟩ := h3 i k x hi hx
  exact ⟨a, b, c, d.same fun g h1 h2 _ => hk g h1 h2⟩
theorem ItO.kept {e : TypeId} {w w2 : World} {B : Nat} {v : Value} {L : List ItZ} (h : ItO e w B v L) (hb : Below w.heap.size w w2) : ItO e w2 B v L := h.same fun g _ hg => hb.block g hg
/-- its value; as a row that is read -/
theorem ItO.val {e : TypeId} {w : World} {B : Nat} {v : Value} {L : List ItZ} (h : ItO e w B v L) : ∃ o c, v = .slice o L.length c ∧ L.length ≤ c ∧ c ≤ maxLen ∧ (o = none → c = 0) ∧ ItR w o L ∧ (∀ a, o = some a → ∃ b, a = ⟨b, 0, none⟩ ∧ B ≤ b) := by
  obtain ⟨Ks, h1, h2, h3⟩ := h
  obtain ⟨o, c, g1, g2, g3, g4, g5, g6, g7⟩ := Rw.own_row encM_len h1
  rw [h2] at g1 g2
  refine ⟨o, c, g1, g2, g3, g4, ⟨Ks, g5, h2, fun i k x hi hx => ?_⟩, fun a ha => ?_⟩
  · obtain ⟨a, b, c, d⟩ := h3 i k x hi hx
    exact ⟨a, b, c, d.row⟩
  · obtain ⟨b, hb⟩ := g7 a ha
    exact ⟨b, hb, (g6 b 0 (by rw [ha, hb])).1⟩
/-- what is appended: an item whose arcs lie in a row that the call made -/
theorem ito_snoc {e : TypeId} {w w2 : World} {B : Nat} {v v2 : Value} {L : List ItZ} {Ks : List ItC} (hne : (3 : TypeId) ≠ e) (h1 : Rw.Own e 3 encM w B v Ks) (h2 : Ks.length = L.length)
    (h3 : ∀ (i : Nat) (k : ItC) (x : ItZ), Ks[i]? = some k → L[i]? = some x → k.kind = x.kind ∧ k.am = x.amount ∧ k.len = x.arcs.length ∧ ArcO w B k.o x.arcs)
    (hg : w.grownBy w2 v.ownBlock) {k : ItC} (h4 : Rw.Own e 3 encM w2 B v2 (Ks ++ [k])) {x : ItZ} (hx : k.kind = x.kind ∧ k.am = x.amount ∧ k.len = x.arcs.length ∧ ArcO w B k.o x.arcs) : ItO e w2 B v2 (L ++ [x]) := by
  have keep : ∀ {o : Option Addr} {R : List Int}, ArcO w B o R → ArcO w2 B o R := fun h => h.same fun g _ hlt ⟨y, l, hy, hyg⟩ => hg.block g hlt fun e2 => own_types hne hy h1 g hyg e2.symm
  refine ⟨Ks ++ [k], h4, by simp [h2], fun i k' p hi hp => ?_⟩
  rcases Nat.lt_trichotomy i Ks.length with c | c | c
  · rw [List.getElem?_append_left c] at hi
    rw [List.getElem?_append_left (by omega)] at hp
    obtain ⟨g1, g2, g3, g4⟩ := h3 i k' p hi hp
    exact ⟨g1, g2, g3, keep g4⟩
  · subst c
    rw [List.getElem?_append_right (Nat.le_refl _)] at hi
    rw [h2, List.getElem?_append_right (Nat.le_refl _)] at hp
    simp at hi hp
    subst hi; subst hp
    exact ⟨hx.1, hx.2.1, hx.2.2.1, keep hx.2.2.2⟩
  · rw [List.getElem?_eq_none (by simp; omega)] at hi; cases hi
end Dc
end Go.Proofs.Ytkeojkddbannpaa
