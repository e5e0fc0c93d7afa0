/-
  Stage 10: rows that are parts of ways down, plainly: what they say of a forest, what a row parted and two joined leave. No condition.
-/
import Derived.Test.YtjhodnpmogkmmaaFoa
namespace Go.Proofs.Ytjhodnpmogkmmaa
set_option linter.unusedVariables false
set_option linter.unusedSimpArgs false
namespace Fo
/-- a stands just ahead of b -/
def Pv (l : List Nat) (a b : Nat) : Prop := ∃ A C, l = A ++ a :: b :: C
theorem pv_mid (A C : List Nat) (a b : Nat) : Pv (A ++ a :: b :: C) a b := ⟨A, C, rfl⟩
theorem Pv.left {l1 l2 : List Nat} {a b : Nat} (h : Pv l1 a b) : Pv (l1 ++ l2) a b := by obtain ⟨A, C, rfl⟩ := h; exact ⟨A, C ++ l2, by simp⟩
theorem Pv.right {l1 l2 : List Nat} {a b : Nat} (h : Pv l2 a b) : Pv (l1 ++ l2) a b := by obtain ⟨A, C, rfl⟩ := h; exact ⟨l1 ++ A, C, by simp⟩
theorem Pv.app {l1 l2 : List Nat} {a b : Nat} (h : Pv (l1 ++ l2) a b) : Pv l1 a b ∨ Pv l2 a b ∨ (l1.getLast? = some a ∧ l2.head? = some b) := by
  obtain ⟨A, C, e⟩ := h
  rcases List.append_eq_append_iff.1 e with ⟨a', h1, h2⟩ | ⟨c', h1, h2⟩
  · right; left; exact ⟨a', C, h2⟩
  · rcases c' with _ | ⟨x, c'⟩
    · simp at h1 h2
      right; left; exact ⟨[], C, by rw [← h2]; rfl⟩
    · simp at h2
      obtain ⟨rfl, h2⟩ := h2
      rcases c' with _ | ⟨y, c'⟩
      · right; right
        simp at h2
        refine ⟨by rw [h1]; simp, by rw [← h2]; rfl⟩
      · simp at h2
        obtain ⟨rfl, h2⟩ := h2
        left; exact ⟨A, c', h1⟩
theorem Pv.rev {l : List Nat} {a b : Nat} (h : Pv l.reverse a b) : Pv l b a := by
  obtain ⟨A, C, e⟩ := h
  refine ⟨C.reverse, A.reverse, ?_⟩
  have := congrArg List.reverse e
  simpa using this
theorem Pv.mem {l : List Nat} {a b : Nat} (h : Pv l a b) : a ∈ l ∧ b ∈ l := by obtain ⟨A, C, rfl⟩ := h; simp
/-- one that is not the first has one ahead -/
theorem pv_of {l : List Nat} {b : Nat} (hb : b ∈ l) (hh : l.head? ≠ some b) : ∃ a, Pv l a b := by
  obtain ⟨A, C, rfl⟩ := List.append_of_mem hb
  rcases List.eq_nil_or_concat A with rfl | ⟨A', a, rfl⟩
  · simp at hh
  · exact ⟨a, A', C, by simp⟩
theorem pv_no_head {l : List Nat} (hn : l.Nodup) {a b : Nat} (h : Pv l a b) : l.head? ≠ some b := by
  obtain ⟨A, C, rfl⟩ := h
  intro e
  rcases A with _ | ⟨x, A⟩
  · simp at e hn; exact hn.1.1 e
  · simp at e hn; exact hn.1.2.2.1 e
/-- the edge to the node above is within a row -/
def pf (s : Sp.St) (c : Nat) : Bool := decide ((s.r c).head? ≠ some c)
/-- the rows are parts of ways down -/
structure Rp (f : Ft) (s : Sp.St) (ov : Nat → Option Nat) : Prop where
  val : s.v = f.v
  sg : Sp.Good s
  fg : Good f
  inn : ∀ x a b, Pv (s.r x) a b → f.up b = some a ∧ ov b = none
  fst : ∀ x a, (s.r x).head? = some a → f.up a = ov a
section
variable {f : Ft} {s : Sp.St} {ov : Nat → Option Nat}
theorem Rp.len (h : Rp f s ov) : s.v.length = f.v.length := by rw [h.val]
theorem Rp.mem (h : Rp f s ov) {x : Nat} (hx : x < f.v.length) : x ∈ s.r x := h.sg.mem x (by rw [h.len]; exact hx)
theorem Rp.lt (h : Rp f s ov) {x y : Nat} (hy : y ∈ s.r x) : y < f.v.length := by rw [← h.len]; exact h.sg.lt x y hy
/-- of a node: its edge is within its row, or told by ov -/
theorem Rp.at (h : Rp f s ov) {c : Nat} (hc : c < f.v.length) : (pf s c = false ∧ f.up c = ov c) ∨ (pf s c = true ∧ ∃ a, Pv (s.r c) a c ∧ f.up c = some a ∧ ov c = none) := by
  by_cases e : (s.r c).head? = some c
  · left; exact ⟨by simp [pf, e], h.fst c c e⟩
  · right
    obtain ⟨a, ha⟩ := pv_of (h.mem hc) e
    exact ⟨by simp [pf, e], a, ha, (h.inn c a c ha).1, (h.inn c a c ha).2⟩
/-- a row is a part of the way down to each of its nodes -/
theorem Rp.suffix (h : Rp f s ov) {x : Nat} : ∀ (k : Nat) (A : List Nat) (y : Nat) (C : List Nat), A.length = k → s.r x = A ++ y :: C → ∃ X, path f y = X ++ (A ++ [y]) := by
  intro k
  induction k with
  | zero =>
    intro A y C hA e
    have hA' : A = [] := List.eq_nil_of_length_eq_zero hA
    subst hA'
    have hy : y < f.v.length := h.lt (x := x) (by rw [e]; simp)
    cases hu : f.up y with
    | none => exact ⟨[], by rw [h.fg.path_top hy hu]; rfl⟩
    | some u => exact ⟨path f u, by rw [h.fg.path_step hy hu]; simp⟩
  | succ k ih =>
    intro A y C hA e
    rcases List.eq_nil_or_concat A with rfl | ⟨A', a, rfl⟩
    · simp at hA
    · simp at hA
      have e' : s.r x = A' ++ a :: (y :: C) := by rw [e]; simp
      obtain ⟨X, hX⟩ := ih A' a (y :: C) hA e'
      have hy : y < f.v.length := h.lt (x := x) (by rw [e]; simp)
      have hu := (h.inn x a y ⟨A', C, by rw [e']⟩).1
      exact ⟨X, by rw [h.fg.path_step hy hu, hX]; simp⟩
theorem Rp.row_path (h : Rp f s ov) {v : Nat} {A C : List Nat} (e : s.r v = A ++ v :: C) : ∃ X, path f v = X ++ (A ++ [v]) := h.suffix A.length A v C rfl e
end
/-- who stands just behind one in its row -/
def nx (s : Sp.St) (v : Nat) : Option Nat := (s.r v)[(s.r v).idxOf v + 1]?
theorem idx_mid {A C : List Nat} {v : Nat} (hn : (A ++ v :: C).Nodup) : (A ++ v :: C).idxOf v = A.length := by
  have : v ∉ A := fun c => (List.nodup_append.1 hn).2.2 v c v (by simp) rfl
  rw [List.idxOf_append, if_neg this]; simp
theorem nx_at {s : Sp.St} (hg : Sp.Good s) {v : Nat} {A C : List Nat} (e : s.r v = A ++ v :: C) : nx s v = C.head? := by
  have hn := hg.nodup v
  unfold nx
  rw [e] at hn ⊢
  rw [idx_mid hn, List.getElem?_append_right (by omega), show A.length + 1 - A.length = 1 by omega]
  cases C <;> rfl
theorem beside_next {s : Sp.St} (hg : Sp.Good s) {v : Nat} (hv : v < s.v.length) : Sp.atZ s (v : Int) (Sp.placeZ s (v : Int) + 1) = oz (nx s v) := by
  unfold Sp.atZ Sp.placeZ nx Sp.atL
  rw [Sp.rowZ_nat, if_neg (hg.ne_nil hv), Int.toNat_natCast, if_neg (by omega), show ((((s.r v).idxOf v : Nat) : Int) + 1).toNat = (s.r v).idxOf v + 1 by omega]
  cases (s.r v)[(s.r v).idxOf v + 1]? <;> rfl
theorem beside_prev {f : Ft} {s : Sp.St} {ov : Nat → Option Nat} (h : Rp f s ov) {v : Nat} (hv : v < f.v.length) (hr : s.r v = path f v) : Sp.atZ s (v : Int) (Sp.placeZ s (v : Int) + -1) = oz (f.up v) := by
  have hg := h.sg
  unfold Sp.atZ Sp.placeZ Sp.atL
  rw [Sp.rowZ_nat, if_neg (hg.ne_nil (by rw [h.len]; exact hv)), Int.toNat_natCast, hr]
  have hn := h.fg.path_nodup v
  cases hu : f.up v with
  | none =>
    rw [h.fg.path_top hv hu]
    simp [oz]
  | some u =>
    rw [h.fg.path_step hv hu] at hn ⊢
    rw [idx_mid hn]
    have hp := h.fg.path_self (h.fg.lt v u hv hu)
    cases hw : f.up u with
    | none =>
      rw [h.fg.path_top (h.fg.lt v u hv hu) hw]
      simp [oz]
    | some z =>
      rw [h.fg.path_step (h.fg.lt v u hv hu) hw]
      simp only [List.length_append, List.length_singleton]
      rw [if_neg (by omega), show ((((path f z).length + 1 : Nat) : Int) + -1).toNat = (path f z).length by omega]
      simp [oz]
def partS (s : Sp.St) (v : Nat) : Sp.St := match nx s v with | none => s | some u => Sp.splitS s (u : Int)
def partO (s : Sp.St) (ov : Nat → Option Nat) (v : Nat) : Nat → Option Nat := match nx s v with | none => ov | some u => fun x => if x = u then some v else ov x
theorem partS_v (s : Sp.St) (v : Nat) : (partS s v).v = s.v := by
  unfold partS
  split
  · rfl
  · rfl
theorem good_part (s : Sp.St) (hg : Sp.Good s) (v : Nat) : Sp.Good (partS s v) := by
  unfold partS
  split
  · exact hg
  · exact Sp.good_split hg _
section
variable {s : Sp.St} {ov : Nat → Option Nat}
/-- the rows behind it -/
theorem part_r (hg : Sp.Good s) {v : Nat} {A C : List Nat} (e : s.r v = A ++ v :: C) (z : Nat) : (partS s v).r z = if z ∈ A ++ [v] then A ++ [v] else if z ∈ C then C else s.r z := by
  have hn := hg.nodup v
  have hx := nx_at hg e
  unfold partS
  cases C with
  | nil =>
    simp only [List.head?_nil] at hx
    rw [hx]
    show s.r z = _
    split
    · rename_i c
      rw [← e] at c ⊢
      exact hg.same v z c
    · rw [if_neg (by simp)]
  | cons u C =>
    simp only [List.head?_cons] at hx
    rw [hx]
    have hu : s.r u = A ++ v :: u :: C := by rw [hg.same v u (by rw [e]; simp), e]
    show (Sp.splitS s (u : Int)).r z = _
    unfold Sp.splitS Sp.cutR
    rw [Sp.rowZ_nat, Int.toNat_natCast, hu]
    have e2 : A ++ v :: u :: C = (A ++ [v]) ++ u :: C := by simp
    rw [e] at hn
    rw [e2] at hn ⊢
    rw [idx_mid hn, List.take_left, List.drop_left]
theorem part_o (hg : Sp.Good s) {v : Nat} {A C : List Nat} (e : s.r v = A ++ v :: C) (z : Nat) : partO s ov v z = if C.head? = some z then some v else ov z := by
  have hx := nx_at hg e
  unfold partO
  cases C with
  | nil =>
    simp only [List.head?_nil] at hx
    rw [hx]
    simp
  | cons u C =>
    simp only [List.head?_cons] at hx
    rw [hx]
    show (if z = u then some v else ov z) = _
    by_cases c : z = u
    · subst c; simp
    · rw [if_neg c, if_neg (by simp; exact fun c2 => c c2.symm)]
end
/-- a node's row ends with it -/
theorem rp_part {f : Ft} {s : Sp.St} {ov : Nat → Option Nat} (h : Rp f s ov) {v : Nat} {A C : List Nat} (e : s.r v = A ++ v :: C) : Rp f (partS s v) (partO s ov v) := by
  have hg := h.sg
  have hr := part_r hg e
  have ho := part_o (ov := ov) hg e
  have hnd := hg.nodup v
  rw [e] at hnd
  refine ⟨by rw [partS_v]; exact h.val, good_part s hg v, h.fg, fun x a b hp => ?_, fun x a hp => ?_⟩
  · rw [hr] at hp
    have key : Pv (s.r v) a b ∧ C.head? ≠ some b ∨ (Pv (s.r x) a b ∧ C.head? ≠ some b) := by
      split at hp
      · left
        refine ⟨by rw [e, show A ++ v :: C = (A ++ [v]) ++ C by simp]; exact hp.left, fun c => ?_⟩
        have hb := hp.mem.2
        rw [show A ++ v :: C = (A ++ [v]) ++ C by simp] at hnd
        exact (List.nodup_append.1 hnd).2.2 b hb b (List.mem_of_head? c) rfl
      · split at hp
        · left
          refine ⟨by rw [e, show A ++ v :: C = (A ++ [v]) ++ C by simp]; exact hp.right, ?_⟩
          refine pv_no_head ?_ hp
          rw [show A ++ v :: C = (A ++ [v]) ++ C by simp] at hnd
          exact (List.nodup_append.1 hnd).2.1
        · right
          rename_i c1 c2
          refine ⟨hp, fun c => ?_⟩
          have hbC : b ∈ C := List.mem_of_head? c
          have e1 : s.r b = s.r v := hg.same v b (by rw [e]; simp [hbC])
          have e2 : s.r b = s.r x := hg.same x b hp.mem.2
          rcases Nat.lt_or_ge x s.v.length with hx | hx
          · have := hg.mem x hx
            rw [← e2, e1, e, show A ++ v :: C = (A ++ [v]) ++ C by simp] at this
            rcases List.mem_append.1 this with g | g
            · exact c1 g
            · exact c2 g
          · rw [hg.none x hx] at hp
            exact absurd hp.mem.1 (by simp)
    rcases key with ⟨h1, h2⟩ | ⟨h1, h2⟩
    · rw [ho, if_neg h2]; exact h.inn v a b h1
    · rw [ho, if_neg h2]; exact h.inn x a b h1
  · rw [hr] at hp
    rw [ho]
    split at hp
    · have hh : (s.r v).head? = some a := by rw [e, show A ++ v :: C = (A ++ [v]) ++ C by simp, List.head?_append, hp]; rfl
      rw [if_neg (fun c => by
        rw [show A ++ v :: C = (A ++ [v]) ++ C by simp] at hnd
        exact (List.nodup_append.1 hnd).2.2 a (List.mem_of_head? hp) a (List.mem_of_head? c) rfl)]
      exact h.fst v a hh
    · split at hp
      · rw [if_pos hp]
        obtain ⟨C', rfl⟩ : ∃ C', C = a :: C' := by
          cases C with
          | nil => cases hp
          | cons b C' => cases hp; exact ⟨C', rfl⟩
        exact (h.inn v v a ⟨A, C', e⟩).1
      · rename_i c1 c2
        rw [if_neg (fun c => by
          have hbC : a ∈ C := List.mem_of_head? c
          have e1 : s.r a = s.r v := hg.same v a (by rw [e]; simp [hbC])
          have e2 : s.r a = s.r x := hg.same x a (List.mem_of_head? hp)
          rcases Nat.lt_or_ge x s.v.length with hx | hx
          · have := hg.mem x hx
            rw [← e2, e1, e, show A ++ v :: C = (A ++ [v]) ++ C by simp] at this
            rcases List.mem_append.1 this with g | g
            · exact c1 g
            · exact c2 g
          · rw [hg.none x hx] at hp; cases hp)]
        exact h.fst x a hp
end Fo
end Go.Proofs.Ytjhodnpmogkmmaa
