/-
  Stage 8: what the developers' search holds in memory: its own block, the row of rooms, the rows of tracks that are not given up; all but one block as it was. No condition.
-/
import Derived.Test.YtdnchebbdkgccaaRtm
import Derived.Test.YtdnchebbdkgccaaRbox
namespace Go.Proofs.Ytdnchebbdkgccaa
open Go.ChangeShapes Go.WideShapes Go.ChangeAt Go.RowKit
set_option linter.unusedVariables false
set_option linter.unusedSimpArgs false
namespace Ne
/-- amounts that Check takes -/
structure Okf (n : Net) (f : List Int) : Prop where
  len : f.length = n.l.length
  wi : wi n.l f
  calm : calm n f
theorem Okf.chk {n : Net} {f : List Int} (h : Okf n f) (ck : checkN n = 0) : chkF n f = 0 := chkF_in (chkA_in ck h.len h.wi) h.calm
theorem okf_of {n : Net} {f : List Int} (h : chkF n f = 0) : checkN n = 0 ∧ Okf n f := by
  obtain ⟨h1, h2⟩ := chkF_ok h
  obtain ⟨g1, _, g2, g3⟩ := chkA_ok h1
  exact ⟨g1, g2, g3, h2⟩
theorem Flow.okf {n : Net} {f : List Int} (h : Flow n f) : Okf n f := ⟨h.len, h.wi, fun v _ hs ht => h.calm _ hs ht⟩
theorem okf_push {n : Net} (hR : Right n) {f g : List Int} (hF : Okf n f) {x : Int} (hx : 0 ≤ x) {W : List Int} (hW : isWalk n W = true) (hp : pushN n.l f x W = some g) : Okf n g ∧ exc n.l g n.t = exc n.l f n.t + x := by
  obtain ⟨h1, h2, h3⟩ := push_facts hR hF.len hF.wi hx (W := W) (k := W.length) (Nat.le_refl _) (u := n.t) (g := g) (by rw [List.take_length]; exact isWalk_at hW) (by rw [List.take_length]; exact hp)
  have e1 := h3 n.t
  rw [if_pos rfl, if_neg hR.ne] at e1
  refine ⟨⟨h1, h2, fun v hv hs ht => ?_⟩, by omega⟩
  rw [h3 v, if_neg (Ne.symm ht), if_neg (Ne.symm hs), hF.calm v hv hs ht]; simp
/-- all blocks but one are as they were -/
structure But (b : Nat) (w w2 : World) : Prop where
  os : w2.os = w.os
  tape : w2.tape = w.tape
  output : w2.output = w.output
  size : w.heap.size ≤ w2.heap.size
  block : ∀ k, k < w.heap.size → k ≠ b → w2.heap[k]? = w.heap[k]?
theorem But.refl (b : Nat) (w : World) : But b w w := ⟨rfl, rfl, rfl, Nat.le_refl _, fun _ _ _ => rfl⟩
theorem But.trans {b : Nat} {w w2 w3 : World} (h : But b w w2) (k : But b w2 w3) : But b w w3 :=
  ⟨k.os.trans h.os, k.tape.trans h.tape, k.output.trans h.output, Nat.le_trans h.size k.size, fun i h1 h2 => (k.block i (Nat.lt_of_lt_of_le h1 h.size) h2).trans (h.block i h1 h2)⟩
theorem But.of_below {b : Nat} {w w2 : World} (h : Below w.heap.size w w2) : But b w w2 := ⟨h.os, h.tape, h.output, h.size, fun k hk _ => h.block k hk⟩
theorem But.below {b B0 : Nat} {w w2 : World} (h : But b w w2) (h1 : B0 ≤ b) (h0 : B0 ≤ w.heap.size) : Below B0 w w2 := ⟨h.os, h.tape, h.output, h.size, fun k hk => h.block k (by omega) (by omega)⟩
theorem But.set {b : Nat} {w w2 : World} (h : But b w w2) (o : Nat) (v : Value) : But b w (w2.setCell ⟨b, o, none⟩ v) :=
  ⟨h.os, h.tape, h.output, by have := h.size; simpa [World.setCell] using this, fun k h1 h2 => (Below.heap_setCell _ _ _ _ h2).trans (h.block k h1 h2)⟩
theorem But.far {b : Nat} {w w2 : World} (h : But b w w2) {p : Addr} (hp : w.heap.size ≤ p.block) (v : Value) : But b w (w2.setCell p v) :=
  ⟨h.os, h.tape, h.output, by have := h.size; simpa [World.setCell] using this, fun k h1 h2 => (Below.heap_setCell _ _ _ _ (by omega)).trans (h.block k h1 h2)⟩
theorem But.grown {b : Nat} {w w2 w3 : World} {row : Option Nat} (h : But b w w2) (hg : w2.grownBy w3 row) (hr : ∀ k, row = some k → w.heap.size ≤ k) : But b w w3 :=
  ⟨hg.os.trans h.os, hg.tape.trans h.tape, hg.output.trans h.output, Nat.le_trans h.size hg.size, fun k h1 h2 => (hg.block k (Nat.lt_of_lt_of_le h1 h.size) (fun e => by have := hr k e.symm; omega)).trans (h.block k h1 h2)⟩
theorem But.then {b : Nat} {w w2 w3 : World} (h : But b w w2) (k : Below w2.heap.size w2 w3) : But b w w3 := h.trans (.of_below k)
/-- the search's own block -/
def SBlk (w : World) (b : Nat) (n s t : Int) (av rv : Value) (x : Int) (uv : Value) : Prop := w.heap[b]? = some (.cells #[.int .i64 n, .int .i64 s, .int .i64 t, av, rv, .int .i64 x, uv] 90 (0, 0))
section
variable {w w2 : World} {b : Nat} {n s t x : Int} {av rv uv : Value}
theorem sblk_cells (h : SBlk w b n s t av rv x uv) : w.cell? ⟨b, 0, none⟩ = some (.int .i64 n) ∧ w.cell? ⟨b, 1, none⟩ = some (.int .i64 s) ∧ w.cell? ⟨b, 2, none⟩ = some (.int .i64 t) ∧ w.cell? ⟨b, 3, none⟩ = some av ∧ w.cell? ⟨b, 4, none⟩ = some rv ∧ w.cell? ⟨b, 5, none⟩ = some (.int .i64 x) ∧ w.cell? ⟨b, 6, none⟩ = some uv := by
  unfold SBlk at h
  simp [World.cell?, h]
theorem sblk_lt (h : SBlk w b n s t av rv x uv) : b < w.heap.size := Rw.lt_of_heap h
theorem sblk_same (h : SBlk w b n s t av rv x uv) (e : w2.heap[b]? = w.heap[b]?) : SBlk w2 b n s t av rv x uv := by unfold SBlk at *; rw [e]; exact h
theorem sblk_new (w : World) {b : Nat} (hb : b = w.heap.size) (n s t x : Int) (av rv uv : Value) : SBlk (w.alloc (.cells #[.int .i64 n, .int .i64 s, .int .i64 t, av, rv, .int .i64 x, uv] 90)) b n s t av rv x uv := by
  subst hb
  show (w.heap.push _)[w.heap.size]? = _
  simp
end
/-- a row of the call's own, where its block is as it was -/
theorem own_same {α : Type} {e : TypeId} {k : Nat} {enc : α → List Value} {w w2 : World} {B : Nat} {v : Value} {xs : List α} (h : Rw.Own e k enc w B v xs) (hk : ∀ g, v.ownBlock = some g → w2.heap[g]? = w.heap[g]?) : Rw.Own e k enc w2 B v xs := by
  obtain ⟨h1, h2⟩ := h
  refine ⟨h1, ?_⟩
  rcases h2 with h2 | ⟨g, cap, cur, hv, hg2, hh, r⟩
  · exact .inl h2
  · exact .inr ⟨g, cap, cur, hv, hg2, by rw [hk g (by rw [hv]; rfl)]; exact hh, r⟩
/-- all that the search holds: W0 is a world in which the network's row lay, and below whose size nothing is written -/
structure SrM (n : Net) (ao : Option Addr) (cap : Nat) (x : Int) (w0 w : World) (sb lb lo hi : Nat) (rv : Value) (RM : List Int) (VS : Nat → Value) (U : Nat → List Nat) : Prop where
  row0 : ARow w0 ao n.l
  old : Below w0.heap.size w0 w
  blk : SBlk w sb n.n n.s n.t (.slice ao n.l.length cap) rv x (.slice (some ⟨lb, 0, none⟩) (n.n.toNat + 1) (n.n.toNat + 1))
  rooms : OwnL w w0.heap.size rv RM
  rows : RBox w lb lo hi (n.n.toNat + 1) VS U
  low : w0.heap.size ≤ lb ∧ w0.heap.size ≤ sb
  ne : sb ≠ lb
  sep : ∀ g, rv.ownBlock = some g → g ≠ lb ∧ g ≠ sb ∧ (g < lo ∨ hi ≤ g)
section
variable {n : Net} {ao : Option Addr} {cap : Nat} {x : Int} {w0 w w2 : World} {sb lb lo hi : Nat} {rv : Value} {RM : List Int} {VS : Nat → Value} {U : Nat → List Nat}
theorem SrM.row (st : SrM n ao cap x w0 w sb lb lo hi rv RM VS U) : ARow w ao n.l := st.row0.kept st.old
theorem SrM.lt (st : SrM n ao cap x w0 w sb lb lo hi rv RM VS U) : sb < w.heap.size ∧ lb < w.heap.size := ⟨sblk_lt st.blk, st.rows.lt⟩
theorem SrM.kept (st : SrM n ao cap x w0 w sb lb lo hi rv RM VS U) (hb : Below w.heap.size w w2) : SrM n ao cap x w0 w2 sb lb lo hi rv RM VS U :=
  ⟨st.row0, st.old.trans (hb.mono st.old.size), sblk_same st.blk (hb.block _ st.lt.1), own_same st.rooms fun g hg => hb.block g (Rw.own_lt st.rooms g hg).2, st.rows.below hb, st.low, st.ne, st.sep⟩
theorem SrM.alloc (st : SrM n ao cap x w0 w sb lb lo hi rv RM VS U) (o : Obj) : SrM n ao cap x w0 (w.alloc o) sb lb lo hi rv RM VS U := st.kept ((Below.refl _ _).alloc (Nat.le_refl _) o)
/-- a store into a block that the search does not hold -/
theorem SrM.far (st : SrM n ao cap x w0 w sb lb lo hi rv RM VS U) {p : Addr} (h0 : w0.heap.size ≤ p.block) (h1 : p.block ≠ sb) (h2 : p.block ≠ lb) (h3 : p.block < lo ∨ hi ≤ p.block) (h4 : ∀ g, rv.ownBlock = some g → g ≠ p.block) (v : Value) : SrM n ao cap x w0 (w.setCell p v) sb lb lo hi rv RM VS U :=
  ⟨st.row0, st.old.setCell h0 v, sblk_same st.blk (Below.heap_setCell _ _ _ _ (Ne.symm h1)), own_same st.rooms fun g hg => Below.heap_setCell _ _ _ _ (h4 g hg), st.rows.far h2 h3 v, st.low, st.ne, st.sep⟩
/-- another row grows -/
theorem SrM.grown (st : SrM n ao cap x w0 w sb lb lo hi rv RM VS U) {row : Option Nat} (hg : w.grownBy w2 row) (hr : ∀ g, row = some g → w0.heap.size ≤ g ∧ g ≠ sb ∧ g ≠ lb ∧ (g < lo ∨ hi ≤ g) ∧ rv.ownBlock ≠ some g) : SrM n ao cap x w0 w2 sb lb lo hi rv RM VS U :=
  ⟨st.row0, st.old.grown hg st.old.size fun g e => (hr g e).1, sblk_same st.blk (hg.block _ st.lt.1 fun e => (hr _ e.symm).2.1 rfl), own_same st.rooms fun g hv => hg.block g (Rw.own_lt st.rooms g hv).2 fun e => (hr g e.symm).2.2.2.2 hv,
    st.rows.grown hg fun g e => ⟨(hr g e).2.2.1, (hr g e).2.2.2.1⟩, st.low, st.ne, st.sep⟩
/-- a node's tracks are turned -/
theorem SrM.put (st : SrM n ao cap x w0 w sb lb lo hi rv RM VS U) {v : Nat} (hv : v < n.n.toNat + 1) {y : Value} {u : List Nat} (hy : RowOf w lo hi y u) :
    SrM n ao cap x w0 (w.setCell ⟨lb, v, none⟩ y) sb lb lo hi rv RM (fun j => if j = v then y else VS j) (fun j => if j = v then u else U j) :=
  ⟨st.row0, st.old.setCell (p := ⟨lb, v, none⟩) st.low.1 y, sblk_same st.blk (Below.heap_setCell _ _ _ _ st.ne), own_same st.rooms fun g hg => Below.heap_setCell _ _ _ _ (st.sep g hg).1, st.rows.put hv hy, st.low, st.ne, st.sep⟩
theorem rowOf_nil (w : World) (lo hi : Nat) : RowOf w lo hi (.slice none 0 0) [] := ⟨none, 0, rfl, by simp, by unfold maxLen; omega, .inl rfl⟩
theorem rowOf_drop {w : World} {lo hi : Nat} {b off m c : Nat} {u : List Nat} (h : RowOf w lo hi (.slice (some ⟨b, off, none⟩) m c) u) {i : Nat} (hi2 : i < u.length) :
    RowOf w lo hi (.slice (some ⟨b, off + i, none⟩) (m - i) (c - i)) (u.drop i) := by
  obtain ⟨A', c', h1, h2, h3, h4⟩ := h
  simp only [Value.slice.injEq] at h1
  obtain ⟨rfl, rfl, rfl⟩ := h1
  refine ⟨_, _, by rw [List.length_drop], by rw [List.length_drop]; omega, by omega, ?_⟩
  rcases h4 with h4 | ⟨b', off', e, h6, h7, h8⟩
  · rw [h4] at hi2; simp at hi2
  · cases e
    refine .inr ⟨b, off + i, rfl, h6, h7, fun j hj => ?_⟩
    rw [List.length_drop] at hj
    rw [show off + i + j = off + (i + j) by omega, h8 (i + j) (by omega)]
    simp [List.getD_eq_getElem?_getD, List.getElem?_drop]
/-- what a row from lo to hi tells at an index -/
theorem rowOf_at {w : World} {lo hi : Nat} {y : Value} {u : List Nat} (h : RowOf w lo hi y u) {i : Nat} (hi2 : i < u.length) : ∃ b off c, y = .slice (some ⟨b, off, none⟩) u.length c ∧ u.length ≤ c ∧ c ≤ maxLen ∧ lo ≤ b ∧ b < hi ∧ ∀ j, j < u.length → w.cell? ⟨b, off + j, none⟩ = some (.int .i64 ((u.getD j 0 : Nat) : Int)) := by
  obtain ⟨A, c, h1, h2, h3, h4⟩ := h
  rcases h4 with h4 | ⟨b, off, rfl, h6, h7, h8⟩
  · rw [h4] at hi2; simp at hi2
  · exact ⟨b, off, c, h1, h2, h3, h6, h7, h8⟩
/-- a room is less -/
theorem SrM.less (st : SrM n ao cap x w0 w sb lb lo hi rv RM VS U) {r : Nat} (hr : r < RM.length) (y : Int) : ∃ g c, rv = .slice (some ⟨g, 0, none⟩) RM.length c ∧ g < w.heap.size ∧ w0.heap.size ≤ g ∧ w.cell? ⟨g, r, none⟩ = some (.int .i64 (amt RM r)) ∧ w.frozen? ⟨g, r, none⟩ = false ∧
    SrM n ao cap x w0 (w.setCell ⟨g, r, none⟩ (.int .i64 y)) sb lb lo hi rv (RM.set r y) VS U := by
  obtain ⟨ao', c, hv, _, _, _, _, _, _⟩ := Rw.own_row encI_len st.rooms
  have hro := st.rooms
  rw [hv] at hro
  obtain ⟨g, rfl, hg1, hg2, hc, hf⟩ := own_cells encI_len hro (at_amt hr)
  have hsep := st.sep g (by rw [hv]; rfl)
  have c0 := hc 0 _ rfl
  rw [show r * 1 + 0 = r by omega] at c0
  refine ⟨g, c, hv, hg2, hg1, c0, hf r, st.row0, st.old.setCell (p := ⟨g, r, none⟩) hg1 _, sblk_same st.blk (Below.heap_setCell _ _ _ _ (Ne.symm hsep.2.1)), ?_, st.rows.far (p := ⟨g, r, none⟩) hsep.1 hsep.2.2 _, st.low, st.ne, st.sep⟩
  have h := own_put encI_len hro (at_amt hr) (y := y) (j := 0) (by omega) (u := .int .i64 y) rfl
  rw [show r * 1 + 0 = r by omega] at h
  rw [hv]; exact h
theorem SrM.room (st : SrM n ao cap x w0 w sb lb lo hi rv RM VS U) {r : Nat} (hr : r < RM.length) : ∃ g c, rv = .slice (some ⟨g, 0, none⟩) RM.length c ∧ g < w.heap.size ∧ w.cell? ⟨g, r, none⟩ = some (.int .i64 (amt RM r)) := by
  obtain ⟨g, c, h1, h2, _, h3, _⟩ := st.less hr 0
  exact ⟨g, c, h1, h2, h3⟩
end
/-- the first place of a row at which P holds, or -1 -/
def fIx (P : Nat → Bool) (u : List Nat) : Int := if u.findIdx P < u.length then (u.findIdx P : Int) else -1
theorem fIx_hit {P : Nat → Bool} {u : List Nat} {k : Nat} (hk : k < u.length) (h1 : ∀ j, j < k → P (u.getD j 0) = false) (h2 : P (u.getD k 0) = true) : fIx P u = (k : Int) := by
  have e : u.findIdx P = k := by
    refine (List.findIdx_eq hk).2 ⟨?_, fun j hj => ?_⟩
    · rw [List.getD_eq_getElem?_getD, List.getElem?_eq_getElem hk] at h2; exact h2
    · have := h1 j hj
      rw [List.getD_eq_getElem?_getD, List.getElem?_eq_getElem (by omega)] at this
      simpa using this
  unfold fIx
  rw [e, if_pos hk]
theorem fIx_none {P : Nat → Bool} {u : List Nat} (h1 : ∀ j, j < u.length → P (u.getD j 0) = false) : fIx P u = -1 := by
  unfold fIx
  rw [if_neg]
  intro h
  have := List.findIdx_getElem (w := h)
  have h2 := h1 _ h
  rw [List.getD_eq_getElem?_getD, List.getElem?_eq_getElem h] at h2
  simp only [Option.getD_some] at h2
  rw [this] at h2; cases h2
theorem fIx_cases (P : Nat → Bool) (u : List Nat) : (∃ k : Nat, k < u.length ∧ fIx P u = (k : Int) ∧ P (u.getD k 0) = true ∧ ∀ j, j < k → P (u.getD j 0) = false) ∨ (fIx P u = -1 ∧ ∀ j, j < u.length → P (u.getD j 0) = false) := by
  by_cases h : u.findIdx P < u.length
  · left
    refine ⟨u.findIdx P, h, by unfold fIx; rw [if_pos h], ?_, fun j hj => ?_⟩
    · rw [List.getD_eq_getElem?_getD, List.getElem?_eq_getElem h]
      exact List.findIdx_getElem (w := h)
    · rw [List.getD_eq_getElem?_getD, List.getElem?_eq_getElem (by omega)]
      exact Bool.eq_false_iff.2 (by simpa using List.not_of_lt_findIdx hj)
  · right
    refine ⟨by unfold fIx; rw [if_neg h], fun j hj => ?_⟩
    rw [List.getD_eq_getElem?_getD, List.getElem?_eq_getElem hj]
    exact Bool.eq_false_iff.2 (by simpa using List.not_of_lt_findIdx (show j < u.findIdx P by omega))
end Ne
end Go.Proofs.Ytdnchebbdkgccaa
