/-
  A block that holds rows of numbers (a row of slices): built row by row, read, cut; and what a search from node to node keeps. No condition.
  A block that the call itself makes by make([]int, n), and one that holds one slice (a variable that a closure holds): told by a list, by a value. No condition. (Written by wip/tools/gen-Lev1.py.)
-/
import Derived.Test.YtkeojkddbannpaaRtm
import Derived.Test.YtkeojkddbannpaaFlm
import Derived.Test.YtkeojkddbannpaaIrow
import Derived.Laws.CopyOwn
namespace Go.Proofs.Ytkeojkddbannpaa
open Go.ChangeShapes Go.WideShapes Go.ChangeAt Go.RowKit
set_option linter.unusedVariables false
set_option linter.unusedSimpArgs false
namespace Ne
theorem infoR : (Try.prog.info? 28).map (fun i => (i.zero, i.size, i.bytes)) = some (some (.slice none 0 0), 1, 24) := by kernel_rfl
theorem make_r (n : Nat) (h : n ≤ 1000000) (w : World) : (Instr.makeSlice 73 (.int .i64 (n : Int)) (.int .i64 (n : Int))).run Try.prog w = .ok (.slice (some ⟨w.heap.size, 0, none⟩) n n) (w.alloc (.cells (madeCells #[.slice none 0 0] n) 28)) :=
  run_make_row' 73 28 (.slice none 0 0) 24 Try.underlying73 infoR rfl .i64 .i64 n (by omega) (by omega) w
/-- rows that are being built, each the call's own -/
structure GBox (w : World) (lb n : Nat) (VS : Nat → Value) (U : Nat → List Nat) : Prop where
  row : w.rowIs lb 28 n VS
  own : ∀ v, v < n → OwnI w (lb + 1) (VS v) (encW (U v))
  sep : ∀ v v', v < n → v' < n → v ≠ v' → ∀ g, (VS v).ownBlock = some g → (VS v').ownBlock ≠ some g
section
variable {w w2 : World} {lb n : Nat} {VS : Nat → Value} {U : Nat → List Nat}
theorem gbox_made (w : World) (n : Nat) {b : Nat} (hb : b = w.heap.size) : GBox (w.alloc (.cells (madeCells #[.slice none 0 0] n) 28)) b n (fun _ => .slice none 0 0) (fun _ => []) := by
  subst hb
  exact ⟨World.rowIs_made w (.slice none 0 0) n 28, fun v _ => Rw.own_nil _ _, fun v v' _ _ _ g h => by simp [Value.ownBlock] at h⟩
theorem GBox.below (h : GBox w lb n VS U) (hb : Below w.heap.size w w2) : GBox w2 lb n VS U :=
  ⟨World.rowIs.of_block h.row (hb.block lb (World.rowIs.lt h.row)), fun v hv => Rw.own_below (h.own v hv) hb, h.sep⟩
theorem GBox.alloc (h : GBox w lb n VS U) (o : Obj) : GBox (w.alloc o) lb n VS U := h.below ((Below.refl _ _).alloc (Nat.le_refl _) o)
theorem GBox.lt (h : GBox w lb n VS U) : lb < w.heap.size := World.rowIs.lt h.row
theorem GBox.cell (h : GBox w lb n VS U) {v : Nat} (hv : v < n) : w.cell? ⟨lb, v, none⟩ = some (VS v) := World.rowIs.cell h.row hv
/-- one row more grown, and stored -/
theorem GBox.put (h : GBox w lb n VS U) {v : Nat} (hv : v < n) {x : Value} {u : List Nat} (hg : w.grownBy w2 (VS v).ownBlock) (ho : OwnI w2 (lb + 1) x (encW u)) (hx : x.ownBlock = (VS v).ownBlock ∨ x.ownBlock = some w.heap.size) :
    GBox (w2.setCell ⟨lb, v, none⟩ x) lb n (fun j => if j = v then x else VS j) (fun j => if j = v then u else U j) := by
  have hne : some lb ≠ (VS v).ownBlock := fun e => by have := (Rw.own_lt (h.own v hv) lb e.symm).1; omega
  have hrow := World.rowIs.of_block h.row (hg.block lb h.lt hne)
  refine ⟨World.rowIs.set hrow v x, fun j hj => ?_, fun j j' hj hj' hd g hb => ?_⟩
  · by_cases e : j = v
    · subst e
      simp only [if_true]
      exact Rw.own_set ho (p := ⟨lb, j, none⟩) (fun e => by have := (Rw.own_lt ho lb e).1; omega) x
    · simp only [if_neg e]
      have h1 := Rw.own_grown (h.own j hj) hg fun g hb e2 => h.sep v j hv hj (Ne.symm e) g e2.symm hb
      exact Rw.own_set h1 (p := ⟨lb, v, none⟩) (fun e => by have := (Rw.own_lt h1 lb e).1; omega) x
  · by_cases e : j = v
    · subst e
      simp only [if_true] at hb
      simp only [if_neg (Ne.symm hd)]
      intro hb2
      rcases hx with hx | hx
      · rw [hx] at hb; exact h.sep j j' hj hj' hd g hb hb2
      · rw [hx] at hb
        have := (Rw.own_lt (h.own j' hj') g hb2).2
        simp at hb; omega
    · simp only [if_neg e] at hb
      by_cases e' : j' = v
      · subst e'
        simp only [if_true]
        intro hb2
        rcases hx with hx | hx
        · rw [hx] at hb2; exact h.sep j j' hj hj' hd g hb hb2
        · rw [hx] at hb2
          have := (Rw.own_lt (h.own j hj) g hb).2
          simp at hb2; omega
      · simp only [if_neg e']; exact h.sep j j' hj hj' hd g hb
end
/-- rows that are read and cut, each in a block from lo to hi -/
structure RBox (w : World) (lb lo hi n : Nat) (VS : Nat → Value) (U : Nat → List Nat) : Prop where
  row : w.rowIs lb 28 n VS
  each : ∀ v, v < n → RowOf w lo hi (VS v) (U v)
  out : lb < lo
  sz : hi ≤ w.heap.size
section
variable {w w2 : World} {lb lo hi n : Nat} {VS : Nat → Value} {U : Nat → List Nat}
theorem RBox.of_g (h : GBox w lb n VS U) : RBox w lb (lb + 1) w.heap.size n VS U := ⟨h.row, fun v hv => .of_own (h.own v hv), by omega, Nat.le_refl _⟩
theorem RBox.keep (h : RBox w lb lo hi n VS U) (hs : w.heap.size ≤ w2.heap.size) (hk : ∀ b, b = lb ∨ (lo ≤ b ∧ b < hi) → w2.heap[b]? = w.heap[b]?) : RBox w2 lb lo hi n VS U :=
  ⟨World.rowIs.of_block h.row (hk lb (.inl rfl)), fun v hv => (h.each v hv).keep fun b h1 h2 => hk b (.inr ⟨h1, h2⟩), h.out, Nat.le_trans h.sz hs⟩
theorem RBox.lt (h : RBox w lb lo hi n VS U) : lb < w.heap.size := World.rowIs.lt h.row
theorem RBox.below (h : RBox w lb lo hi n VS U) (hb : Below w.heap.size w w2) : RBox w2 lb lo hi n VS U :=
  h.keep hb.size fun b hb2 => hb.block b (by have := h.lt; have := h.sz; omega)
theorem RBox.alloc (h : RBox w lb lo hi n VS U) (o : Obj) : RBox (w.alloc o) lb lo hi n VS U := h.below ((Below.refl _ _).alloc (Nat.le_refl _) o)
theorem RBox.far (h : RBox w lb lo hi n VS U) {p : Addr} (h1 : p.block ≠ lb) (h2 : p.block < lo ∨ hi ≤ p.block) (v : Value) : RBox (w.setCell p v) lb lo hi n VS U :=
  h.keep (by simp [World.setCell]) fun b hb => Below.heap_setCell _ _ _ _ (by omega)
theorem RBox.grown (h : RBox w lb lo hi n VS U) {row : Option Nat} (hg : w.grownBy w2 row) (hr : ∀ g, row = some g → g ≠ lb ∧ (g < lo ∨ hi ≤ g)) : RBox w2 lb lo hi n VS U :=
  h.keep hg.size fun b hb => hg.block b (by have := h.lt; have := h.sz; omega) (fun e => by have := hr b e.symm; omega)
theorem RBox.cell (h : RBox w lb lo hi n VS U) {v : Nat} (hv : v < n) : w.cell? ⟨lb, v, none⟩ = some (VS v) := World.rowIs.cell h.row hv
theorem RBox.frozen (h : RBox w lb lo hi n VS U) (i : Nat) : w.frozen? ⟨lb, i, none⟩ = false := World.rowIs.frozen h.row i
theorem RBox.put (h : RBox w lb lo hi n VS U) {v : Nat} (hv : v < n) {x : Value} {u : List Nat} (hx : RowOf w lo hi x u) :
    RBox (w.setCell ⟨lb, v, none⟩ x) lb lo hi n (fun j => if j = v then x else VS j) (fun j => if j = v then u else U j) := by
  have hk : ∀ b, lo ≤ b → b < hi → (w.setCell ⟨lb, v, none⟩ x).heap[b]? = w.heap[b]? := fun b h1 h2 => Below.heap_setCell _ _ _ _ (by have := h.out; show b ≠ lb; omega)
  refine ⟨World.rowIs.set h.row v x, fun j hj => ?_, h.out, by have := h.sz; simpa [World.setCell] using this⟩
  by_cases e : j = v
  · subst e; simp only [if_true]; exact hx.keep hk
  · simp only [if_neg e]; exact (h.each j hj).keep hk
end
/-- what a search that goes on and back keeps: nodes that are met, the way, tracks that were not tried -/
structure Dfs (n : Net) (f : List Int) (x : Int) (M : List Bool) (way : List Nat) (U : Nat → List Nat) : Prop where
  len : M.length = n.n.toNat + 1
  src : M.getD n.s.toNat false = true
  sound : ∀ i : Nat, M.getD i false = true → Rch n f x (i : Int)
  wayM : ∀ v ∈ way, M.getD v false = true
  cls : ∀ r, r < 2 * n.l.length → x ≤ roomN n.l f r → M.getD (trF n.l r).toNat false = true → M.getD (trT n.l r).toNat false = true ∨ ((trF n.l r).toNat ∈ way ∧ r ∈ U (trF n.l r).toNat)
  sub : ∀ v, v < n.n.toNat + 1 → ∀ r ∈ U v, r < 2 * n.l.length ∧ trF n.l r = (v : Int)
  full : ∀ v, v < n.n.toNat + 1 → M.getD v false = false → U v = fromL n.l (v : Int) (2 * n.l.length)
  few : way.length + unmet M ≤ n.n.toNat + 1
theorem dfs_start {n : Net} (hR : Right n) (f : List Int) (x : Int) : Dfs n f x ((List.replicate (n.n.toNat + 1) false).set n.s.toNat true) [n.s.toNat] (fun v => fromL n.l (v : Int) (2 * n.l.length)) := by
  have h0 := hR.s0
  have h1 := hR.s1
  have hs : n.s.toNat < (List.replicate (n.n.toNat + 1) false).length := by simp; omega
  have hg := fun j => getD_set _ n.s.toNat j hs
  have hu := unmet_set hs (replB _ _)
  refine ⟨by simp, by rw [hg, if_pos rfl], fun i hi => ?_, fun v hv => ?_, fun r hr hx hm => ?_, fun v hv r hr => fromL_mem.1 hr, fun v hv _ => rfl, ?_⟩
  · rw [hg] at hi
    by_cases e : i = n.s.toNat
    · have : (i : Int) = n.s := by omega
      rw [this]; exact .base
    · rw [if_neg e, replB] at hi; cases hi
  · simp at hv; subst hv; rw [hg, if_pos rfl]
  · rw [hg] at hm
    by_cases e : (trF n.l r).toNat = n.s.toNat
    · refine .inr ⟨by simp [e], fromL_mem.2 ⟨hr, ?_⟩⟩
      have := trF_bd hR hr; omega
    · rw [if_neg e, replB] at hm; cases hm
  · rw [unmet_repl] at hu; simp only [List.length_singleton]; omega
theorem dfs_push {n : Net} (hR : Right n) {f : List Int} {x : Int} {M : List Bool} {W0 : List Nat} {u : Nat} {U : Nat → List Nat} (h : Dfs n f x M (W0 ++ [u]) U) (hu : u < n.n.toNat + 1) {i r : Nat} (hi : i < (U u).length) (hr : (U u).getD i 0 = r)
    (hpre : ∀ j, j < i → x ≤ roomN n.l f ((U u).getD j 0) → M.getD (trT n.l ((U u).getD j 0)).toNat false = true) (hx : x ≤ roomN n.l f r) (hm : M.getD (trT n.l r).toNat false = false) :
    Dfs n f x (M.set (trT n.l r).toNat true) (W0 ++ [u] ++ [(trT n.l r).toNat]) (fun j => if j = u then (U u).drop (i + 1) else U j) ∧ unmet (M.set (trT n.l r).toNat true) + 1 = unmet M := by
  have hru : r ∈ U u := by rw [← hr]; exact getD_mem hi
  obtain ⟨hr2, hrf⟩ := h.sub u hu r hru
  have hb := trT_bd hR hr2
  have ht : (trT n.l r).toNat < M.length := by rw [h.len]; omega
  have hg := fun j => getD_set M (trT n.l r).toNat j ht
  have hun := unmet_set ht hm
  have hMu := h.wayM u (by simp)
  have hne : u ≠ (trT n.l r).toNat := fun e => by rw [← e, hMu] at hm; cases hm
  have hup : ∀ j, M.getD j false = true → (M.set (trT n.l r).toNat true).getD j false = true := fun j hj => by rw [hg]; split <;> simp_all
  refine ⟨⟨by simp [h.len], hup _ h.src, fun j hj => ?_, fun v hv => ?_, fun q hq hxq hmq => ?_, fun v hv q hq => ?_, fun v hv hmv => ?_, ?_⟩, hun⟩
  · rw [hg] at hj
    by_cases e : j = (trT n.l r).toNat
    · have : (j : Int) = trT n.l r := by omega
      rw [this]
      refine .step hr2 hx ?_
      rw [hrf]; exact h.sound u hMu
    · rw [if_neg e] at hj; exact h.sound j hj
  · rcases List.mem_append.1 hv with h1 | h1
    · exact hup v (h.wayM v h1)
    · simp at h1; subst h1; rw [hg, if_pos rfl]
  · rw [hg] at hmq
    by_cases e : (trF n.l q).toNat = (trT n.l r).toNat
    · -- newly met
      refine .inr ⟨by simp [e], ?_⟩
      try simp only
      rw [if_neg (by rw [e]; exact Ne.symm hne), h.full _ (by have := trF_bd hR hq; omega) (by rw [e]; exact hm)]
      refine fromL_mem.2 ⟨hq, ?_⟩
      have := trF_bd hR hq; omega
    · rw [if_neg e] at hmq
      rcases h.cls q hq hxq hmq with h1 | ⟨h1, h2⟩
      · exact .inl (hup _ h1)
      · by_cases e2 : (trF n.l q).toNat = u
        · rw [e2] at h2
          obtain ⟨j, hj, hjq⟩ := List.mem_iff_getElem.1 h2
          have hjd : (U u).getD j 0 = q := by rw [List.getD_eq_getElem?_getD, List.getElem?_eq_getElem hj, hjq]; rfl
          rcases Nat.lt_trichotomy j i with h3 | h3 | h3
          · exact .inl (hup _ (by have := hpre j h3; rw [hjd] at this; exact this hxq))
          · subst h3
            rw [hjd] at hr; subst hr
            exact .inl (by rw [hg, if_pos rfl])
          · refine .inr ⟨by rw [e2]; simp, ?_⟩
            try simp only
            rw [if_pos e2]
            refine List.mem_iff_getElem.2 ⟨j - (i + 1), by rw [List.length_drop]; omega, ?_⟩
            rw [List.getElem_drop, ← hjq]
            congr 1; omega
        · refine .inr ⟨List.mem_append_left _ h1, ?_⟩
          try simp only
          rw [if_neg e2]; exact h2
  · try simp only at hq
    by_cases e : v = u
    · subst e; rw [if_pos rfl] at hq; exact h.sub v hv q (List.mem_of_mem_drop hq)
    · rw [if_neg e] at hq; exact h.sub v hv q hq
  · rw [hg] at hmv
    by_cases e : v = (trT n.l r).toNat
    · rw [if_pos e] at hmv; cases hmv
    · rw [if_neg e] at hmv
      have : v ≠ u := fun e => by rw [e, hMu] at hmv; cases hmv
      try simp only
      rw [if_neg this]; exact h.full v hv hmv
  · have := h.few
    simp only [List.length_append, List.length_singleton] at this ⊢
    omega
theorem dfs_pop {n : Net} (hR : Right n) {f : List Int} {x : Int} {M : List Bool} {W0 : List Nat} {u : Nat} {U : Nat → List Nat} (h : Dfs n f x M (W0 ++ [u]) U)
    (hpre : ∀ j, j < (U u).length → x ≤ roomN n.l f ((U u).getD j 0) → M.getD (trT n.l ((U u).getD j 0)).toNat false = true) : Dfs n f x M W0 U := by
  refine ⟨h.len, h.src, h.sound, fun v hv => h.wayM v (List.mem_append_left _ hv), fun q hq hxq hmq => ?_, h.sub, h.full, ?_⟩
  · rcases h.cls q hq hxq hmq with h1 | ⟨h1, h2⟩
    · exact .inl h1
    · rcases List.mem_append.1 h1 with h3 | h3
      · exact .inr ⟨h3, h2⟩
      · simp at h3
        rw [h3] at h2
        obtain ⟨j, hj, hjq⟩ := List.mem_iff_getElem.1 h2
        have hjd : (U u).getD j 0 = q := by rw [List.getD_eq_getElem?_getD, List.getElem?_eq_getElem hj, hjq]; rfl
        have := hpre j hj
        rw [hjd] at this
        exact .inl (this hxq)
  · have := h.few
    simp only [List.length_append, List.length_singleton] at this
    omega
theorem dfs_end {n : Net} {f : List Int} {x : Int} {M : List Bool} {U : Nat → List Nat} (h : Dfs n f x M [] U) : IsReach n f x M :=
  ⟨h.len, h.src, h.sound, fun r hr hx hm => by
    rcases h.cls r hr hx hm with h1 | ⟨h1, _⟩
    · exact h1
    · simp at h1⟩
end Ne
end Go.Proofs.Ytkeojkddbannpaa
namespace Go.Proofs.Ytkeojkddbannpaa
open Go.ChangeShapes Go.WideShapes Go.ChangeAt Go.RowKit
set_option linter.unusedVariables false
set_option linter.unusedSimpArgs false
namespace Ne
section
variable {w w2 : World} {b : Nat} {l : List Int}
end
/-- the row behind c numbers -/
def repL (m c : Nat) (a : Int) : List Int := List.replicate c a ++ List.replicate (m - c) 0
theorem repL_len {m c : Nat} (a : Int) (h : c ≤ m) : (repL m c a).length = m := by simp [repL]; omega
theorem repL_at {m c j : Nat} (a : Int) (h : j < c) : (repL m c a)[j]? = some a := by simp [repL, h, List.getElem?_append]
theorem repL_put {m c k : Nat} (a : Int) (h : c + k ≤ m) : splice ((repL m c a).map (Value.int .i64)) c ((List.replicate k a).map (Value.int .i64)) = (repL m (c + k) a).map (Value.int .i64) := by
  unfold splice repL
  simp only [List.map_append, List.map_replicate, List.length_replicate]
  rw [List.take_left' (by simp), show List.drop (c + k) (List.replicate c (Value.int .i64 a) ++ List.replicate (m - c) (Value.int .i64 0)) = List.replicate (m - (c + k)) (Value.int .i64 0) by
    rw [List.drop_append]; simp; omega, ← List.append_assoc, List.replicate_append_replicate]
theorem repL_zero (m : Nat) (a : Int) : repL m 0 a = List.replicate m 0 := by simp [repL]
theorem repL_all (m : Nat) (a : Int) : repL m m a = List.replicate m a := by simp [repL]
theorem repL_set {m c : Nat} (a : Int) (h : c < m) : (repL m c a).set c a = repL m (c + 1) a := by
  obtain ⟨k, hk⟩ : ∃ k, m - c = k + 1 := ⟨m - c - 1, by omega⟩
  unfold repL
  rw [hk, show m - (c + 1) = k by omega, List.replicate_succ (n := k), List.set_append_right _ _ (by simp)]
  simp [List.replicate_succ']
/-- a block that holds one slice -/
def SBox (w : World) (b : Nat) (v : Value) : Prop := w.rowIs b 28 1 fun _ => v
section
variable {w w2 : World} {b : Nat} {v : Value}
theorem SBox.cell (h : SBox w b v) : w.cell? ⟨b, 0, none⟩ = some v := World.rowIs.cell h (by omega)
theorem SBox.frozen (h : SBox w b v) (i : Nat) : w.frozen? ⟨b, i, none⟩ = false := World.rowIs.frozen h i
theorem SBox.lt (h : SBox w b v) : b < w.heap.size := World.rowIs.lt h
theorem SBox.same (h : SBox w b v) (e : w2.heap[b]? = w.heap[b]?) : SBox w2 b v := World.rowIs.of_block h e
theorem SBox.kept (h : SBox w b v) (hb : Below w.heap.size w w2) : SBox w2 b v := h.same (hb.block b h.lt)
theorem SBox.far (h : SBox w b v) {p : Addr} (hp : b ≠ p.block) (x : Value) : SBox (w.setCell p x) b v := World.rowIs.setOther h hp x
theorem SBox.alloc (h : SBox w b v) (o : Obj) : SBox (w.alloc o) b v := World.rowIs.alloc h o
theorem SBox.set (h : SBox w b v) (x : Value) : SBox (w.setCell ⟨b, 0, none⟩ x) b x := World.rowIs.congr (World.rowIs.set h 0 x) fun i hi => by
  show (if i = 0 then _ else _) = _
  rw [if_pos (by omega)]
theorem sbox_new (w : World) {b : Nat} (hb : b = w.heap.size) (v : Value) : SBox (w.alloc (.cells #[v] 28)) b v := by
  subst hb
  refine ⟨#[v], ?_, rfl, fun i hi => ?_⟩
  · show (w.heap.push _)[w.heap.size]? = _; simp
  · obtain rfl : i = 0 := by omega
    rfl
end
end Ne
end Go.Proofs.Ytkeojkddbannpaa
