/-
  Contract of the document's Turn. Condition: fewer than a million arcs.
-/
import Derived.Test.YtpoflbnmfoamhaaNets
import Derived.LoopTactic
import Derived.Deep.RegionLaw
import Derived.Test.YtpoflbnmfoamhaaEnd
import Derived.BigRegion
import Derived.Deep.AppendLies
import Derived.Laws.Pointers
import Derived.StillTactics
namespace Go.Proofs.Ytpoflbnmfoamhaa
open Go.ChangeShapes Go.WideShapes Go.ChangeAt Go.RowKit
set_option linter.unusedVariables false
set_option linter.unusedSimpArgs false
namespace Ne

def turnA (a : Arc) : Arc := ⟨a.to, a.fr, a.cap⟩
def turnN (n : Net) : Net := ⟨n.n, n.t, n.s, n.l.map turnA⟩
/-- a block that holds a network's four cells -/
def NetBox (w : World) (b : Nat) (n s t : Int) (v : Value) : Prop := w.heap[b]? = some (.cells #[.int .i64 n, .int .i64 s, .int .i64 t, v] 24 (0, 0))
theorem netBox_cells {w : World} {b : Nat} {n s t : Int} {v : Value} (h : NetBox w b n s t v) : w.cell? ⟨b, 0, none⟩ = some (.int .i64 n) ∧ w.cell? ⟨b, 1, none⟩ = some (.int .i64 s) ∧ w.cell? ⟨b, 2, none⟩ = some (.int .i64 t) ∧ w.cell? ⟨b, 3, none⟩ = some v := by
  unfold NetBox at h
  refine ⟨?_, ?_, ?_, ?_⟩ <;> simp [World.cell?, h]
theorem netBox_frozen {w : World} {b : Nat} {n s t : Int} {v : Value} (h : NetBox w b n s t v) (o : Nat) : w.frozen? ⟨b, o, none⟩ = false := by
  unfold NetBox at h; simp [World.frozen?, h]
theorem netBox_lt {w : World} {b : Nat} {n s t : Int} {v : Value} (h : NetBox w b n s t v) : b < w.heap.size := Rw.lt_of_heap h
theorem netBox_below {w w2 : World} {b B : Nat} {n s t : Int} {v : Value} (h : NetBox w b n s t v) (hb : Below B w w2) (hB : b < B) : NetBox w2 b n s t v := by
  unfold NetBox at *; rw [hb.block b hB]; exact h
theorem netBox_grown {w w2 : World} {b : Nat} {n s t : Int} {v : Value} {row : Option Nat} (h : NetBox w b n s t v) (hg : w.grownBy w2 row) (hne : some b ≠ row) : NetBox w2 b n s t v := by
  unfold NetBox at *; rw [hg.block b (Rw.lt_of_heap h) hne]; exact h
theorem netBox_alloc {w : World} {b : Nat} {n s t : Int} {v : Value} (h : NetBox w b n s t v) (o : Obj) : NetBox (w.alloc o) b n s t v :=
  netBox_below h ((Below.refl _ _).alloc (Nat.le_refl _) o) (netBox_lt h)
theorem netBox_new (w : World) (n s t : Int) (v : Value) : NetBox (w.alloc (.cells #[.int .i64 n, .int .i64 s, .int .i64 t, v] 24)) w.heap.size n s t v := by
  unfold NetBox; show (w.heap.push _)[w.heap.size]? = _; simp
theorem netBox_at (w : World) {b : Nat} (hb : b = w.heap.size) (n s t : Int) (v : Value) : NetBox (w.alloc (.cells #[.int .i64 n, .int .i64 s, .int .i64 t, v] 24)) b n s t v := by
  subst hb; exact netBox_new w n s t v
theorem netBox_set {w : World} {b : Nat} {n s t : Int} {v v2 : Value} (h : NetBox w b n s t v) : NetBox (w.setCell ⟨b, 3, none⟩ v2) b n s t v2 := by
  unfold NetBox at *
  simp only [World.setCell, Array.getElem?_modify, h, if_true, Option.map_some]
  rfl
theorem netBox_other {w : World} {b b2 : Nat} {n s t : Int} {v v2 : Value} {o : Nat} (h : NetBox w b n s t v) (hne : b ≠ b2) : NetBox (w.setCell ⟨b2, o, none⟩ v2) b n s t v := by
  unfold NetBox at *
  rw [Below.heap_setCell _ _ _ _ hne]; exact h

theorem netBox_all {w : World} {b : Nat} {n s t n2 s2 t2 : Int} {v v2 : Value} (h : NetBox w b n s t v) :
    NetBox ((((w.setCell ⟨b, 0, none⟩ (.int .i64 n2)).setCell ⟨b, 1, none⟩ (.int .i64 s2)).setCell ⟨b, 2, none⟩ (.int .i64 t2)).setCell ⟨b, 3, none⟩ v2) b n2 s2 t2 v2 := by
  unfold NetBox at *
  simp only [World.setCell, Array.getElem?_modify, h, if_true, Option.map_some]
  rfl
theorem held_grow {wr w1 : World} {o : Obj} {row : Option Nat} (hg : (wr.alloc o).drew.grownBy w1 row) {a : Addr} (hne : row ≠ some a.block) {u : Value} (hu : wr.cell? a = some u) : w1.cell? a = some u := by
  have hlt := World.block_lt_of_cell? wr a hu
  rw [hg.cell_far a (by show _ < (wr.heap.push _).size; simp; omega) (Ne.symm hne)]
  exact (World.cell?_alloc_lt wr o a hlt).trans hu
theorem held_new {w : World} {o : Obj} {a : Addr} {u : Value} (hu : w.cell? a = some u) : (w.alloc o).drew.cell? a = some u :=
  (World.cell?_alloc_lt w o a (World.block_lt_of_cell? w a hu)).trans hu
theorem held_set {w : World} {a : Addr} {u : Value} {p : Addr} {x : Value} (h : w.cell? a = some u) (hne : p.block ≠ a.block) : (w.setCell p x).cell? a = some u :=
  (World.cell?_setCell_far w p a x hne).trans h

set_option maxRecDepth 100000 in
set_option maxHeartbeats 4000000 in
theorem rturn_any (n : Net) (ao : Option Addr) (cap : Nat) (w : World) (hr : ARow w ao n.l) (hl : n.l.length ≤ 1000000) :
    Calls Try.prog 21 #[encN n ao cap] w fun e w' => ∃ ao' cap', e = .returned (encN (turnN n) ao' cap') ∧ ARow w' ao' (turnN n).l ∧ Below w.heap.size w w' := by
  obtain ⟨nn, ns, nt, l⟩ := n
  simp only at hr hl ⊢
  have HR := Lib.hid hr
  clear hr
  go_enter Try.func21, Try.ntmps21
  go_wp2
  go_loopw [4] (fun i wr => ∃ (k : Nat) (v : Value), i = .int .i64 k ∧ k ≤ l.length ∧ NetBox wr w.heap.size nn ns nt (.slice ao l.length cap) ∧ NetBox wr (w.heap.size + 1 + 1) nn nt ns v ∧ NetBox wr (w.heap.size + 1) 0 0 0 (.slice none 0 0) ∧ OwnA wr (w.heap.size + 3) v ((l.take k).map turnA) ∧ Below w.heap.size w wr ∧ w.heap.size + 3 ≤ wr.heap.size) (fun i _ => l.length - (intOf i).toNat)
  case atStart =>
    refine ⟨0, .slice none 0 0, rfl, Nat.zero_le _, netBox_alloc (netBox_alloc (netBox_new _ _ _ _ _) _) _, netBox_at _ (by simp) _ _ _ _, netBox_alloc (netBox_at _ (by simp) _ _ _ _) _, Rw.own_nil _ _, ?_, by simp⟩
    exact (((Below.refl _ _).alloc (by simp) _).alloc (by simp) _).alloc (by simp; omega) _
  case round =>
    obtain ⟨k, v, rfl, hk, hbx, hbo, hres, hown, hbel, hsz⟩ := hrel
    obtain ⟨n0, n1, n2, n3⟩ := netBox_cells hbx
    obtain ⟨o0, o1, o2, o3⟩ := netBox_cells hbo
    have o4 := netBox_frozen hbo 3
    have HBX := Lib.hid hbx
    have HBO := Lib.hid hbo
    have HO := Lib.hid hown
    have HB := Lib.hid hbel
    have HRS := Lib.hid hres
    clear hown hbel hres hbx hbo
    by_cases hlt : k < l.length
    · obtain ⟨a, ha⟩ : ∃ a, l[k]? = some a := ⟨_, List.getElem?_eq_getElem hlt⟩
      rcases (HR.out.kept HB.out) with h | ⟨b, off, rfl, hbl, hcell⟩
      · exfalso; rw [h] at hlt; simp at hlt
      obtain ⟨c0, c1, c2⟩ := arow_at hcell ha
      have hblt : b < w.heap.size := by
        rcases HR.out with h | ⟨b2, o2, h2, h3, _⟩
        · rw [h] at hlt; simp at hlt
        · cases h2; exact h3
      clear hcell
      obtain ⟨i0, hi0, hz0, hz1, hz2⟩ := info_parts elemA.info
      have hvb : ∀ g, v.ownBlock = some g → w.heap.size + 3 ≤ g := Rw.own_block HO.out
      have ag : v.ownBlock ≠ some w.heap.size := fun h => by have := hvb _ h; omega
      have ao2 : v.ownBlock ≠ some (w.heap.size + 1 + 1) := fun h => by have := hvb _ h; omega
      have ab : v.ownBlock ≠ some b := fun h => by have := hvb _ h; omega
      have hlen1 : ((l.take k).map turnA).length = k := by simp; omega
      have hk1 : k + 1 ≤ maxLen := by unfold maxLen; omega
      have hk2 : (k + 1) * 24 ≤ 140737488355328 := by omega
      have hkn0 : (0 : Int) ≤ (k : Int) := Int.natCast_nonneg _
      have hkn1 : (k : Int) < (l.length : Int) := by omega
      have HOW : Hid (wr.ownsRow (w.heap.size + 3) 35 3 v k (((l.take k).map turnA).flatMap encA)) := Lib.hid (by
        have this : wr.ownsRow (w.heap.size + 3) 35 3 v ((l.take k).map turnA).length (((l.take k).map turnA).flatMap encA) := HO.out
        rw [hlen1] at this; exact this)
      have hfz : ∀ o : Obj, (wr.alloc o).frozen? ⟨w.heap.size + 1 + 1, 3, none⟩ = false := fun o => netBox_frozen (netBox_alloc HBO.out o) 3
      clear hlen1
      have HWA : ∀ o : Obj, (wr.alloc o).drew.ownsRow (w.heap.size + 3) 35 3 v k (((l.take k).map turnA).flatMap encA) := fun o => (HOW.out.alloc o).drew
      have HNW : ∀ j u, [Value.int .i64 a.to, Value.int .i64 a.fr, Value.int .i64 a.cap][j]? = some u → (wr.alloc (.cells #[Value.int .i64 a.to, Value.int .i64 a.fr, Value.int .i64 a.cap] 35)).drew.cell? ((⟨wr.heap.size, 0, none⟩ : Addr).add j) = some u :=
        World.news_of_block (w := (wr.alloc (.cells #[Value.int .i64 a.to, Value.int .i64 a.fr, Value.int .i64 a.cap] 35)).drew) (cs := #[Value.int .i64 a.to, Value.int .i64 a.fr, Value.int .i64 a.cap]) (heap_alloc_new wr _)
      have HON : ∀ u ∈ [Value.int .i64 a.to, Value.int .i64 a.fr, Value.int .i64 a.cap], u.oneCell' = true := by simp [Value.oneCell']
      have HBS : ∀ o : Obj, w.heap.size + 3 ≤ (wr.alloc o).drew.heap.size := fun o => by
        have : (wr.alloc o).drew.heap.size = wr.heap.size + 1 := by show (wr.heap.push _).size = _; simp
        omega
      have HHS : ∀ o : Obj, (wr.alloc o).drew.heap.size = wr.heap.size + 1 := fun o => by show (wr.heap.push _).size = _; simp
      have HNB : ∀ o : Obj, NetBox (wr.alloc o).drew (w.heap.size + 1 + 1) nn nt ns v := fun o => netBox_alloc HBO.out o
      have HN3 : ∀ o : Obj, (wr.alloc o).drew.cell? ⟨w.heap.size + 1 + 1, 3, none⟩ = some v := fun o => (netBox_cells (HNB o)).2.2.2
      have ar : v.ownBlock ≠ some (w.heap.size + 1) := fun h => by have := hvb _ h; omega
      have HNX : ∀ o : Obj, NetBox (wr.alloc o).drew w.heap.size nn ns nt (.slice (some ⟨b, off, none⟩) l.length cap) := fun o => netBox_alloc HBX.out o
      have HNR : ∀ o : Obj, NetBox (wr.alloc o).drew (w.heap.size + 1) 0 0 0 (.slice none 0 0) := fun o => netBox_alloc HRS.out o
      have hb0 : w.heap.size + 1 + 1 ≠ w.heap.size := by omega
      have hb1 : w.heap.size + 1 + 1 ≠ b := by omega
      go_wp2_with fail
      refine Rg.start (S := (fun w' => w'.cell? ⟨w.heap.size, 3, none⟩ = some (.slice (some ⟨b, off, none⟩) l.length cap) ∧ w'.cell? ⟨w.heap.size + 1 + 1, 3, none⟩ = some v ∧ w'.cell? ⟨b, off + k * 3, none⟩ = some (.int .i64 a.fr) ∧ w'.cell? ⟨b, off + k * 3 + 1, none⟩ = some (.int .i64 a.to) ∧ w'.cell? ⟨b, off + k * 3 + 2, none⟩ = some (.int .i64 a.cap))) (last := 24) (by kernel_rfl) ?_
      have hS0 := (show (fun w' => w'.cell? ⟨w.heap.size, 3, none⟩ = some (.slice (some ⟨b, off, none⟩) l.length cap) ∧ w'.cell? ⟨w.heap.size + 1 + 1, 3, none⟩ = some v ∧ w'.cell? ⟨b, off + k * 3, none⟩ = some (.int .i64 a.fr) ∧ w'.cell? ⟨b, off + k * 3 + 1, none⟩ = some (.int .i64 a.to) ∧ w'.cell? ⟨b, off + k * 3 + 2, none⟩ = some (.int .i64 a.cap)) wr.drew from ⟨n3, o3, c0, c1, c2⟩)
      have hS1 := fun (o : Obj) => (show (fun w' => w'.cell? ⟨w.heap.size, 3, none⟩ = some (.slice (some ⟨b, off, none⟩) l.length cap) ∧ w'.cell? ⟨w.heap.size + 1 + 1, 3, none⟩ = some v ∧ w'.cell? ⟨b, off + k * 3, none⟩ = some (.int .i64 a.fr) ∧ w'.cell? ⟨b, off + k * 3 + 1, none⟩ = some (.int .i64 a.to) ∧ w'.cell? ⟨b, off + k * 3 + 2, none⟩ = some (.int .i64 a.cap)) (wr.alloc o).drew from ⟨held_new n3, held_new o3, held_new c0, held_new c1, held_new c2⟩)
      refine Rg.take (i := 0) (v := ?_) 30 rfl (by kernel_rfl) (by kernel_rfl) (by kernel_rfl) (by kernel_rfl) (fun _ _ _ h => h) (Or.inl ⟨by rfl, ?_⟩) hS0 ?_
      rotate_left
      · intro w hSw
        go_simp
        try with_reducible rfl
      try simp only [Act.put, List.setIfInBounds_toArray, List.set_cons_zero, List.set_cons_succ]
      refine Rg.take (i := 1) (v := ?_) 30 rfl (by kernel_rfl) (by kernel_rfl) (by kernel_rfl) (by kernel_rfl) (fun _ _ _ h => h) (Or.inl ⟨by rfl, ?_⟩) hS0 ?_
      rotate_left
      · intro w hSw
        go_simp
        try with_reducible rfl
      try simp only [Act.put, List.setIfInBounds_toArray, List.set_cons_zero, List.set_cons_succ]
      refine Rg.take (i := 2) (v := ?_) 30 rfl (by kernel_rfl) (by kernel_rfl) (by kernel_rfl) (by kernel_rfl) (fun _ _ _ h => h) (Or.inl ⟨by rfl, ?_⟩) hS0 ?_
      rotate_left
      · intro w hSw
        go_simp
        try with_reducible rfl
      try simp only [Act.put, List.setIfInBounds_toArray, List.set_cons_zero, List.set_cons_succ]
      refine Rg.take (i := 3) (v := ?_) 30 rfl (by kernel_rfl) (by kernel_rfl) (by kernel_rfl) (by kernel_rfl) (fun _ _ _ h => h) (Or.inl ⟨by rfl, ?_⟩) hS0 ?_
      rotate_left
      · intro w hSw
        go_simp
        try with_reducible rfl
      try simp only [Act.put, List.setIfInBounds_toArray, List.set_cons_zero, List.set_cons_succ]
      refine Rg.take (i := 4) (v := ?_) 30 rfl (by kernel_rfl) (by kernel_rfl) (by kernel_rfl) (by kernel_rfl) (fun _ _ _ h => h) (Or.inl ⟨by rfl, ?_⟩) hS0 ?_
      rotate_left
      · intro w hSw
        go_simp
        try with_reducible rfl
      try simp only [Act.put, List.setIfInBounds_toArray, List.set_cons_zero, List.set_cons_succ]
      refine Rg.take (i := 5) (v := ?_) 30 rfl (by kernel_rfl) (by kernel_rfl) (by kernel_rfl) (by kernel_rfl) (fun _ _ _ h => h) (Or.inl ⟨by rfl, ?_⟩) hS0 ?_
      rotate_left
      · intro w hSw
        go_simp
        try with_reducible rfl
      try simp only [Act.put, List.setIfInBounds_toArray, List.set_cons_zero, List.set_cons_succ]
      refine Rg.take (i := 6) (v := ?_) 30 rfl (by kernel_rfl) (by kernel_rfl) (by kernel_rfl) (by kernel_rfl) (fun _ _ _ h => h) (Or.inl ⟨by rfl, ?_⟩) hS0 ?_
      rotate_left
      · intro w hSw
        go_simp
        try with_reducible rfl
      try simp only [Act.put, List.setIfInBounds_toArray, List.set_cons_zero, List.set_cons_succ]
      refine Rg.take (i := 7) (v := ?_) 30 rfl (by kernel_rfl) (by kernel_rfl) (by kernel_rfl) (by kernel_rfl) (fun _ _ _ h => h) (Or.inl ⟨by rfl, ?_⟩) hS0 ?_
      rotate_left
      · intro w hSw
        go_simp
        try with_reducible rfl
      try simp only [Act.put, List.setIfInBounds_toArray, List.set_cons_zero, List.set_cons_succ]
      refine Rg.take (i := 8) (v := ?_) 30 rfl (by kernel_rfl) (by kernel_rfl) (by kernel_rfl) (by kernel_rfl) (fun _ _ _ h => h) (Or.inl ⟨by rfl, ?_⟩) hS0 ?_
      rotate_left
      · intro w hSw
        go_simp
        try with_reducible rfl
      try simp only [Act.put, List.setIfInBounds_toArray, List.set_cons_zero, List.set_cons_succ]
      refine Rg.take (i := 9) (v := ?_) 30 rfl (by kernel_rfl) (by kernel_rfl) (by kernel_rfl) (by kernel_rfl) (fun _ _ _ h => h) (Or.inl ⟨by rfl, ?_⟩) hS0 ?_
      rotate_left
      · intro w hSw
        go_simp
        try with_reducible rfl
      try simp only [Act.put, List.setIfInBounds_toArray, List.set_cons_zero, List.set_cons_succ]
      refine Rg.take (i := 10) (v := ?_) 30 rfl (by kernel_rfl) (by kernel_rfl) (by kernel_rfl) (by kernel_rfl) (fun _ _ _ h => h) (Or.inl ⟨by rfl, ?_⟩) hS0 ?_
      rotate_left
      · intro w hSw
        go_simp
        try with_reducible rfl
      try simp only [Act.put, List.setIfInBounds_toArray, List.set_cons_zero, List.set_cons_succ]
      refine Rg.take (i := 11) (v := ?_) 30 rfl (by kernel_rfl) (by kernel_rfl) (by kernel_rfl) (by kernel_rfl) (fun _ _ _ h => h) (Or.inl ⟨by rfl, ?_⟩) hS0 ?_
      rotate_left
      · intro w hSw
        go_simp
        try with_reducible rfl
      try simp only [Act.put, List.setIfInBounds_toArray, List.set_cons_zero, List.set_cons_succ]
      refine Rg.take (i := 12) (v := ?_) 30 rfl (by kernel_rfl) (by kernel_rfl) (by kernel_rfl) (by kernel_rfl) (fun _ _ _ h => h) (Or.inl ⟨by rfl, ?_⟩) hS0 ?_
      rotate_left
      · intro w hSw
        go_simp
        try with_reducible rfl
      try simp only [Act.put, List.setIfInBounds_toArray, List.set_cons_zero, List.set_cons_succ]
      refine Rg.take (i := 13) (v := ?_) 30 rfl (by kernel_rfl) (by kernel_rfl) (by kernel_rfl) (by kernel_rfl) (fun _ _ _ h => h) (Or.inl ⟨by rfl, ?_⟩) hS0 ?_
      rotate_left
      · intro w hSw
        go_simp
        try with_reducible rfl
      try simp only [Act.put, List.setIfInBounds_toArray, List.set_cons_zero, List.set_cons_succ]
      refine Rg.take (i := 14) (v := ?_) 30 rfl (by kernel_rfl) (by kernel_rfl) (by kernel_rfl) (by kernel_rfl) (fun _ _ _ h => h) (Or.inl ⟨by rfl, ?_⟩) hS0 ?_
      rotate_left
      · intro w hSw
        go_simp
        try with_reducible rfl
      try simp only [Act.put, List.setIfInBounds_toArray, List.set_cons_zero, List.set_cons_succ]
      refine Rg.take (i := 15) (v := ?_) 30 rfl (by kernel_rfl) (by kernel_rfl) (by kernel_rfl) (by kernel_rfl) (fun _ _ _ h => h) (Or.inl ⟨by rfl, ?_⟩) hS0 ?_
      rotate_left
      · intro w hSw
        go_simp
        try with_reducible rfl
      try simp only [Act.put, List.setIfInBounds_toArray, List.set_cons_zero, List.set_cons_succ]
      refine Rg.take (i := 16) (v := ?_) 30 rfl (by kernel_rfl) (by kernel_rfl) (by kernel_rfl) (by kernel_rfl) (fun _ _ _ h => h) (Or.inl ⟨by rfl, ?_⟩) hS0 ?_
      rotate_left
      · intro w hSw
        go_simp
        try with_reducible rfl
      try simp only [Act.put, List.setIfInBounds_toArray, List.set_cons_zero, List.set_cons_succ]
      refine Rg.take (i := 17) (v := ?_) 30 rfl (by kernel_rfl) (by kernel_rfl) (by kernel_rfl) (by kernel_rfl) (fun _ _ _ h => h) (Or.inl ⟨by rfl, ?_⟩) hS0 ?_
      rotate_left
      · intro w hSw
        go_simp
        try with_reducible rfl
      try simp only [Act.put, List.setIfInBounds_toArray, List.set_cons_zero, List.set_cons_succ]
      refine Rg.take (i := 18) (v := ?_) 30 rfl (by kernel_rfl) (by kernel_rfl) (by kernel_rfl) (by kernel_rfl) (fun _ _ _ h => h) (Or.inl ⟨by rfl, ?_⟩) hS0 ?_
      rotate_left
      · intro w hSw
        go_simp
        try with_reducible rfl
      try simp only [Act.put, List.setIfInBounds_toArray, List.set_cons_zero, List.set_cons_succ]
      refine Rg.take (i := 19) (v := ?_) 30 rfl (by kernel_rfl) (by kernel_rfl) (by kernel_rfl) (by kernel_rfl) (fun _ _ _ h => h) (Or.inl ⟨by rfl, ?_⟩) hS0 ?_
      rotate_left
      · intro w hSw
        go_simp
        try with_reducible rfl
      try simp only [Act.put, List.setIfInBounds_toArray, List.set_cons_zero, List.set_cons_succ]
      refine Rg.take (i := 20) (v := ?_) 30 rfl (by kernel_rfl) (by kernel_rfl) (by kernel_rfl) (by kernel_rfl) (fun _ _ _ h => h) (Or.inl ⟨by rfl, ?_⟩) hS0 ?_
      rotate_left
      · intro w hSw
        go_simp
        try with_reducible rfl
      try simp only [Act.put, List.setIfInBounds_toArray, List.set_cons_zero, List.set_cons_succ]
      refine Rg.step (i := 21) (by kernel_rfl) rfl fun K' hK' => ?_
      have HK := Lib.hid hK'
      clear hK'
      go_simp
      refine HK.out _ _ ⟨fun _ => hS1 _, ?_⟩
      clear HK K'
      try simp only [Act.put, List.setIfInBounds_toArray, List.set_cons_zero, List.set_cons_succ]
      refine Rg.step (i := 22) (by kernel_rfl) rfl fun K' hK' => ?_
      refine step_append_lies _ (by rfl) (.tmp 20) (.tmp 40) 22 (by rfl) (w.heap.size + 3) 35 i0 _ 3 24 Try.underlying22 hi0 hz0 hz1 hz2 rfl (Nat.zero_lt_succ 2) v k (((l.take k).map turnA).flatMap encA) (by rfl) (HWA _)
        ⟨wr.heap.size, 0, none⟩ 1 1 [.int .i64 a.to, .int .i64 a.fr, .int .i64 a.cap] (by rfl) rfl HNW HON (Nat.zero_lt_succ 0) hk1 hk2 (HBS _) (wr.heap.size + 1) (HHS _) ?_
      intro gg cap2 w1 hown1 hgrow hat hltg
      have g1 : NetBox w1 (w.heap.size + 1 + 1) nn nt ns v := netBox_grown (HNB _) hgrow (Ne.symm ao2)
      have g2 := (netBox_cells g1).2.2.2
      have g3 := netBox_frozen g1 3
      have hS2 := (show (fun w' => w'.cell? ⟨w.heap.size, 3, none⟩ = some (.slice (some ⟨b, off, none⟩) l.length cap) ∧ w'.cell? ⟨w.heap.size + 1 + 1, 3, none⟩ = some v ∧ w'.cell? ⟨b, off + k * 3, none⟩ = some (.int .i64 a.fr) ∧ w'.cell? ⟨b, off + k * 3 + 1, none⟩ = some (.int .i64 a.to) ∧ w'.cell? ⟨b, off + k * 3 + 2, none⟩ = some (.int .i64 a.cap)) w1 from ⟨held_grow hgrow ag n3, held_grow hgrow ao2 o3, held_grow hgrow ab c0, held_grow hgrow ab c1, held_grow hgrow ab c2⟩)
      refine hK' _ _ ⟨fun _ => hS2, ?_⟩
      clear hK' K'
      try simp only [Act.put, List.setIfInBounds_toArray, List.set_cons_zero, List.set_cons_succ]
      refine Rg.take (i := 23) (v := ?_) 30 rfl (by kernel_rfl) (by kernel_rfl) (by kernel_rfl) (by kernel_rfl) (fun _ _ _ h => h) (Or.inl ⟨by rfl, ?_⟩) hS2 ?_
      rotate_left
      · intro w hSw
        go_simp
        try with_reducible rfl
      try simp only [Act.put, List.setIfInBounds_toArray, List.set_cons_zero, List.set_cons_succ]
      refine Rg.step (i := 24) (by kernel_rfl) rfl fun K' hK' => ?_
      have HK := Lib.hid hK'
      clear hK'
      go_simp
      refine HK.out _ _ ⟨fun h => absurd rfl h, ?_⟩
      clear HK K'
      try simp only [Act.put, List.setIfInBounds_toArray, List.set_cons_zero, List.set_cons_succ]
      refine Rg.finished (by kernel_rfl) ?_ _
      have ha2 : ((l.take (k + 1)).map turnA) = ((l.take k).map turnA) ++ [turnA a] := by
        rw [List.take_add_one, ha]; simp
      have hN : OwnA w1 (w.heap.size + 3) (.slice (some ⟨gg, 0, none⟩) (k + 1) cap2) ((l.take (k + 1)).map turnA) := by
        have hln : ((l.take (k + 1)).map turnA).length = k + 1 := by simp; omega
        unfold OwnA Rw.Own
        rw [hln, ha2, List.flatMap_append]
        exact hown1
      have hgB : w.heap.size + 3 ≤ gg := Rw.own_block hN gg rfl
      have HN := Lib.hid (Rw.own_set hN (p := ⟨w.heap.size + 1 + 1, 3, none⟩) (fun h => by simp [Value.ownBlock] at h; omega) (.slice (some ⟨gg, 0, none⟩) (k + 1) cap2))
      have HX := Lib.hid (netBox_other (v2 := .slice (some ⟨gg, 0, none⟩) (k + 1) cap2) (o := 3) (netBox_grown (HNX _) hgrow (Ne.symm ag)) (Ne.symm hb0))
      have HR2 := Lib.hid (netBox_other (v2 := .slice (some ⟨gg, 0, none⟩) (k + 1) cap2) (o := 3) (netBox_grown (HNR _) hgrow (Ne.symm ar)) (show w.heap.size + 1 ≠ w.heap.size + 1 + 1 by omega))
      have HO2 := Lib.hid (netBox_set (v2 := .slice (some ⟨gg, 0, none⟩) (k + 1) cap2) g1)
      have HB2 := Lib.hid ((((HB.out.alloc (by omega) (.cells #[.int .i64 a.to, .int .i64 a.fr, .int .i64 a.cap] 35)).drew).grown hgrow (by have := HBS (.cells #[.int .i64 a.to, .int .i64 a.fr, .int .i64 a.cap] 35); omega) (fun b2 h2 => by have := hvb b2 h2; omega)).setCell (p := ⟨w.heap.size + 1 + 1, 3, none⟩) (by simp; omega) (.slice (some ⟨gg, 0, none⟩) (k + 1) cap2))
      have hsz2 : w.heap.size + 3 ≤ (w1.setCell ⟨w.heap.size + 1 + 1, 3, none⟩ (.slice (some ⟨gg, 0, none⟩) (k + 1) cap2)).heap.size := by
        have h1 := hgrow.size
        have h2 := HBS (.cells #[.int .i64 a.to, .int .i64 a.fr, .int .i64 a.cap] 35)
        have h3 : (w1.setCell ⟨w.heap.size + 1 + 1, 3, none⟩ (.slice (some ⟨gg, 0, none⟩) (k + 1) cap2)).heap.size = w1.heap.size := by simp [World.setCell]
        omega
      clear hN ha2 hown1 hgrow hat hltg g1 g2 g3 hS0 hS1 hS2 HWA HNW HON HBS HHS HNB HN3 HNX HNR HOW hfz
      go_wp2
      go_roundw
      case rel => exact ⟨k + 1, _, by go_num, by omega, HX.out, HO2.out, HR2.out, HN.out, HB2.out, hsz2⟩
      case measure => simp [intOf]; omega
    · have ek : k = l.length := by omega
      subst ek
      have hB2 := Rw.own_block HO.out
      have HS := Lib.hid (Rw.own_set (Rw.own_set (Rw.own_set (Rw.own_set HO.out (p := ⟨w.heap.size + 1, 0, none⟩) (fun h => by have h2 := hB2 _ h; simp only at h2; omega) (.int .i64 nn)) (p := ⟨w.heap.size + 1, 1, none⟩) (fun h => by have h2 := hB2 _ h; simp only at h2; omega) (.int .i64 nt)) (p := ⟨w.heap.size + 1, 2, none⟩) (fun h => by have h2 := hB2 _ h; simp only at h2; omega) (.int .i64 ns)) (p := ⟨w.heap.size + 1, 3, none⟩) (fun h => by have h2 := hB2 _ h; simp only at h2; omega) v)
      have HW := Lib.hid (netBox_all (n2 := nn) (s2 := nt) (t2 := ns) (v2 := v) HRS.out)
      have HB2 := Lib.hid ((((HB.out.setCell (p := ⟨w.heap.size + 1, 0, none⟩) (by simp) (.int .i64 nn)).setCell (p := ⟨w.heap.size + 1, 1, none⟩) (by simp) (.int .i64 nt)).setCell (p := ⟨w.heap.size + 1, 2, none⟩) (by simp) (.int .i64 ns)).setCell (p := ⟨w.heap.size + 1, 3, none⟩) (by simp) v)
      obtain ⟨ao2, cap2, hv, _, _, _, hrow, _⟩ := Rw.own_row encA_len HS.out
      have HRW := Lib.hid hrow
      clear hrow
      rw [List.take_length, List.length_map] at hv
      subst hv
      obtain ⟨r0, r1, r2, r3⟩ := netBox_cells HRS.out
      have f0 := netBox_frozen HRS.out 0
      have f1 := netBox_frozen HRS.out 1
      have f2 := netBox_frozen HRS.out 2
      have f3 := netBox_frozen HRS.out 3
      clear hB2
      go_wp2
      refine bodyPost_ret_by (results_cell_row rfl _ _ (w.heap.size + 1) 24 _ (0, 0) _ rfl HW.out Try.underlying24 rfl (by kernel_rfl)) rfl ?_
      refine ⟨ao2, cap2, by simp [encN, turnN], ?_, HB2.out⟩
      have h := HRW.out
      rw [List.take_length] at h
      exact h
end Ne
end Go.Proofs.Ytpoflbnmfoamhaa
