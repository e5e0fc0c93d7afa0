/-
  Stage 9: a row gone through by a range over a function: through, row. No condition.
-/
import Derived.RangeFuncWrites
import Derived.RangeFuncNested
import Derived.RangeFuncBound
import Derived.RangeFuncCalls
import Derived.RangeFuncBox
import Derived.RangeFuncLeaves
import Derived.Shelf.Abstract
import Derived.Shelf.RegionOpen
import Derived.WalkKit
import Derived.OwnWalkIn
import Derived.TacticsInMore
import Derived.LoopNIn
import Derived.LoopIn
import Derived.Maps.AppendAt
import Derived.Test.YtlkigpmjhojceaaSwh
namespace Go.Proofs.Ytlkigpmjhojceaa
open Go.ChangeShapes Go.WideShapes Go.ChangeAt Go.RowKit Go.Shelf
set_option linter.unusedVariables false
set_option linter.unusedSimpArgs false
attribute [local go_sem] Oper.semAt_some
namespace Sv
theorem room_of_none {F : Fence} (hd : F.depth = none) (k : Nat) : F.room k := fun d h => by rw [hd] at h; cases h
theorem round_any {F : Fence} (hd : F.depth = none) {m m' : Nat} {P : Program} {l : Nat} {f : FuncId} {tmps : Array Value} {assign body : Code} {w : World} {R : Ending → World → Prop}
    (h : RoundIn F m P l f tmps assign body w R) : RoundIn F m' P l f tmps assign body w R := ⟨h.1, fun c cs _ => h.2 c cs (room_of_none hd _)⟩
theorem yield_any {F : Fence} (hd : F.depth = none) {m : Nat} (m' : Nat) {P : Program} {l : Nat} {args : Array Value} {W : World} {R : Ending → World → Prop} (h : YieldAt F m P l args W R) : YieldAt F m' P l args W R := by
  obtain ⟨fn, tmps, assign, body, hy, hR⟩ := h
  exact ⟨fn, tmps, assign, body, hy, round_any hd hR⟩
section
variable {B p g n c : Nat} {V : Nat → Int} {r : Nat → List Nat} {M : Nat → Nd} {I : Nat → List Nat} {P : Nat → Bool} {D : Nat → Int}
theorem SpM.bel {W W' : World} {n0 : Nat} (h : SpM W B p g n M c) (hb : Below n0 W W') (hp : p < n0) (hg : g < n0) : SpM W' B p g n M c := h.same (hb.block p hp) (hb.block g hg)
set_option maxRecDepth 100000 in
set_option maxHeartbeats 4000000 in
theorem thr_in (hI : Inv n V r (fun _ => False) M I P D) (l n0 N : Nat) (hp0 : p < n0) (hg0 : g < n0) (J Jx : List Nat → World → Prop)
    (hJd : ∀ pre W, J pre W → J pre W.drew)
    (hY : ∀ m pre x W, J pre W → pre.length < N → YieldAt Fence.wide m Try.prog l #[.int .i64 ((x : Nat) : Int)] W fun e W' =>
      (e = .returned (.bool true) ∧ J (pre ++ [x]) W' ∧ Below n0 W W') ∨ (e = .returned (.bool false) ∧ Jx (pre ++ [x]) W')) :
    ∀ (d m : Nat) (v : Option Nat) (t : Bool) (pre : List Nat) (W : World), (IL I v).length ≤ d → (∀ y, v = some y → y < n ∧ P y = t) → SpM W B p g n M c → J pre W → pre.length + (IL I v).length ≤ N →
      CallsIn Fence.wide m Try.prog 61 #[.pointer (some ⟨p, 0, none⟩), .int .i64 (oi v), .bool t, .func (.yield l) #[] #[]] W fun e W' =>
        (e = .returned (.bool true) ∧ J (pre ++ IL I v) W' ∧ Below n0 W W') ∨ (e = .returned (.bool false) ∧ ∃ q, q <+: IL I v ∧ Jx (pre ++ q) W') := by
  intro d
  induction d with
  | zero =>
    intro m v t pre W hd hv hM hJ hN
    cases v with
    | some y =>
      have := hI.two (hv y rfl).1 false
      simp only [IL] at hd
      omega
    | none =>
      have HJ := Lib.hid hJ
      rw [show oi none = -1 from rfl]
      clear hd hv hM hJ hN hY hI hJd
      refine callsIn_wide.2 ?_
      go_enter Try.func61, Try.ntmps61
      go_wp2
      go_ret
      exact .inl ⟨rfl, by simpa [IL] using HJ.out, Below.refl _ _⟩
  | succ d ih =>
    intro m v t pre W hd hv hM hJ hN
    cases v with
    | none =>
      have HJ := Lib.hid hJ
      rw [show oi none = -1 from rfl]
      clear hd hv hM hJ hN hY hI hJd ih
      refine callsIn_wide.2 ?_
      go_enter Try.func61, Try.ntmps61
      go_wp2
      go_ret
      exact .inl ⟨rfl, by simpa [IL] using HJ.out, Below.refl _ _⟩
    | some y =>
      obtain ⟨hy, hPy⟩ := hv y rfl
      have hsp := hI.spl y hy
      have hlen := hI.two hy (sd M P y)
      have hs0 : sd M P y = (t != (M y).t) := by unfold sd; rw [hPy]
      obtain ⟨tt, htt⟩ : ∃ tt, tt = (M y).t := ⟨_, rfl⟩
      rw [← htt] at hs0
      have n0' := hM.head
      have c5 := hM.cells hy 5 _ rfl
      have c6 := hM.cells hy 6 _ rfl
      have c7 := hM.cells hy 7 _ rfl
      rw [← htt] at c7
      have hyi : (y : Int) < (n : Int) := by omega
      have hy0 : (0 : Int) ≤ (y : Int) := by omega
      have hym : ¬ (y : Int) = -1 := by omega
      rw [show oi (some y) = (y : Int) from rfl]
      rw [show IL I (some y) = I y from rfl] at hd hN ⊢
      have HSP := Lib.hid hsp
      have hIL : ∀ s z, (M y).b s = some z → z < n ∧ P z = sd M P y := fun s z hz => by
        obtain ⟨g1, _, g3, _⟩ := hI.ch y s z hy hz
        exact ⟨g1, g3⟩
      -- the left side, then the item, then the right one
      have H1 := ih (m - 1) ((M y).b (sd M P y)) (sd M P y) pre W.drew (by omega) (fun z hz => hIL _ z hz) hM.drew (hJd _ _ hJ) (by omega)
      have HY2 := fun (W1 : World) hJ1 => hY (m - 1) (pre ++ IL I ((M y).b (sd M P y))) y W1 hJ1 (by simp; omega)
      have H3 := fun (W2 : World) (hM2 : SpM W2 B p g n M c) hJ2 => ih (m - 1) ((M y).b (!(sd M P y))) (sd M P y) (pre ++ IL I ((M y).b (sd M P y)) ++ [y]) W2 (by omega) (fun z hz => hIL _ z hz) hM2 hJ2 (by simp; omega)
      have HM := Lib.hid hM
      clear hsp hlen hIL hd hv hM hJ hN hY hI hJd ih htt hPy
      generalize sd M P y = s0 at *
      generalize IL I ((M y).b s0) = A at *
      generalize IL I ((M y).b (!s0)) = C at *
      have hfn : Fence.wide.fn 61 := trivial
      have hdd : ∀ k : Nat, (Fence.wide.depth.isSome = true → 1 ≤ k) := fun k h => by cases h
      have hbd : Below n0 W W.drew := Ne.below_drew (Below.refl _ _)
      have hy2 : ∀ W1, J (pre ++ A) W1 → Below n0 W W1 → YieldAt Fence.wide (m - 1) Try.prog l #[.int .i64 (y : Int)] W1 fun e W2 =>
          (e = .returned (.bool true) ∧ J (pre ++ A ++ [y]) W2 ∧ Below n0 W W2 ∧ SpM W2 B p g n M c) ∨ (e = .returned (.bool false) ∧ Jx (pre ++ A ++ [y]) W2) := fun W1 hJ1 hb1 =>
        YieldAt.mono (HY2 W1 hJ1) fun e W2 h => h.elim (fun ⟨he, hj, hb2⟩ => .inl ⟨he, hj, hb1.trans hb2, HM.out.bel (hb1.trans hb2) hp0 hg0⟩) .inr
      have ih1 := H1.mono (R' := fun e W1 =>
          (e = .returned (.bool true) ∧ YieldAt Fence.wide (m - 1) Try.prog l #[.int .i64 (y : Int)] W1 fun e W2 =>
            (e = .returned (.bool true) ∧ J (pre ++ A ++ [y]) W2 ∧ Below n0 W W2 ∧ SpM W2 B p g n M c) ∨ (e = .returned (.bool false) ∧ Jx (pre ++ A ++ [y]) W2)) ∨
          (e = .returned (.bool false) ∧ ∃ q, q <+: A ∧ Jx (pre ++ q) W1))
        (fun e W1 h => h.elim (fun ⟨he, hj, hb1⟩ => .inl ⟨he, hy2 W1 hj (hbd.trans hb1)⟩) .inr)
      clear hy2 H1 HY2 hbd
      refine callsIn_of_wp Try.func61 rfl trivial ?_ rfl
      simp only [Try.ntmps61, List.size_toArray, List.length_cons, List.length_nil, Nat.reduceAdd, Nat.reduceSub, Array.replicate_succ, Array.replicate_zero, List.push_toArray, List.append_toArray, List.nil_append, List.cons_append]
      have hs1 : (!(t == tt)) = s0 := by rw [hs0]; cases t <;> cases tt <;> rfl
      clear hs0
      refine wpIn_wide.2 ?_
      go_wp2
      have hS0 := (show (fun w' : World => w'.cell? ⟨p, 0, none⟩ = some (.slice (some ⟨g, 0, none⟩) n n) ∧ w'.cell? ⟨g, y * 9 + 5, none⟩ = some (.int .i64 (oi ((M y).b false))) ∧ w'.cell? ⟨g, y * 9 + 6, none⟩ = some (.int .i64 (oi ((M y).b true)))) W.drew from ⟨n0', c5, c6⟩)
      refine Rh.start (S := (fun w' : World => w'.cell? ⟨p, 0, none⟩ = some (.slice (some ⟨g, 0, none⟩) n n) ∧ w'.cell? ⟨g, y * 9 + 5, none⟩ = some (.int .i64 (oi ((M y).b false))) ∧ w'.cell? ⟨g, y * 9 + 6, none⟩ = some (.int .i64 (oi ((M y).b true))))) (by kernel_rfl) ?_
      refine Rh.take (some 23) (i := 0) (v := ?_) rfl (by kernel_rfl) (by kernel_rfl) (by kernel_rfl) (by kernel_rfl) (fun _ _ _ h => h) (Or.inl ⟨by rfl, ?_⟩) hS0 ?_
      rotate_left
      · intro w hSw
        go_simp
        try with_reducible rfl
      try simp only [Act.put, List.setIfInBounds_toArray, List.set_cons_zero, List.set_cons_succ]
      refine Rh.take (some 24) (i := 1) (v := ?_) rfl (by kernel_rfl) (by kernel_rfl) (by kernel_rfl) (by kernel_rfl) (fun _ _ _ h => h) (Or.inl ⟨by rfl, ?_⟩) hS0 ?_
      rotate_left
      · intro w hSw
        go_simp
        try with_reducible rfl
      try simp only [Act.put, List.setIfInBounds_toArray, List.set_cons_zero, List.set_cons_succ]
      refine Rh.take (some 25) (i := 2) (v := ?_) rfl (by kernel_rfl) (by kernel_rfl) (by kernel_rfl) (by kernel_rfl) (fun _ _ _ h => h) (Or.inl ⟨by rfl, ?_⟩) hS0 ?_
      rotate_left
      · intro w hSw
        go_simp
        try with_reducible rfl
      try simp only [Act.put, List.setIfInBounds_toArray, List.set_cons_zero, List.set_cons_succ]
      refine Rh.take (some 26) (i := 3) (v := ?_) rfl (by kernel_rfl) (by kernel_rfl) (by kernel_rfl) (by kernel_rfl) (fun _ _ _ h => h) (Or.inl ⟨by rfl, ?_⟩) hS0 ?_
      rotate_left
      · intro w hSw
        go_simp
        try with_reducible rfl
      try simp only [Act.put, List.setIfInBounds_toArray, List.set_cons_zero, List.set_cons_succ]
      refine Rh.take (some 27) (i := 4) (v := ?_) rfl (by kernel_rfl) (by kernel_rfl) (by kernel_rfl) (by kernel_rfl) (fun _ _ _ h => h) (Or.inl ⟨by rfl, ?_⟩) hS0 ?_
      rotate_left
      · intro w hSw
        go_simp
        try with_reducible rfl
      try simp only [Act.put, List.setIfInBounds_toArray, List.set_cons_zero, List.set_cons_succ]
      refine Rh.take (some 28) (i := 5) (v := ?_) rfl (by kernel_rfl) (by kernel_rfl) (by kernel_rfl) (by kernel_rfl) (fun _ _ _ h => h) (Or.inl ⟨by rfl, ?_⟩) hS0 ?_
      rotate_left
      · intro w hSw
        go_simp
        try with_reducible rfl
      try simp only [Act.put, List.setIfInBounds_toArray, List.set_cons_zero, List.set_cons_succ]
      refine Rh.take (some 29) (i := 6) (v := ?_) rfl (by kernel_rfl) (by kernel_rfl) (by kernel_rfl) (by kernel_rfl) (fun _ _ _ h => h) (Or.inl ⟨by rfl, ?_⟩) hS0 ?_
      rotate_left
      · intro w hSw
        go_simp
        try with_reducible rfl
      try simp only [Act.put, List.setIfInBounds_toArray, List.set_cons_zero, List.set_cons_succ]
      refine Rh.take (some 30) (i := 7) (v := ?_) rfl (by kernel_rfl) (by kernel_rfl) (by kernel_rfl) (by kernel_rfl) (fun _ _ _ h => h) (Or.inl ⟨by rfl, ?_⟩) hS0 ?_
      rotate_left
      · intro w hSw
        go_simp
        try with_reducible rfl
      try simp only [Act.put, List.setIfInBounds_toArray, List.set_cons_zero, List.set_cons_succ]
      refine Rh.take (some 31) (i := 8) (v := ?_) rfl (by kernel_rfl) (by kernel_rfl) (by kernel_rfl) (by kernel_rfl) (fun _ _ _ h => h) (Or.inl ⟨by rfl, ?_⟩) hS0 ?_
      rotate_left
      · intro w hSw
        go_simp
        try with_reducible rfl
      try simp only [Act.put, List.setIfInBounds_toArray, List.set_cons_zero, List.set_cons_succ]
      refine Rh.take (some 32) (i := 9) (v := ?_) rfl (by kernel_rfl) (by kernel_rfl) (by kernel_rfl) (by kernel_rfl) (fun _ _ _ h => h) (Or.inl ⟨by rfl, ?_⟩) hS0 ?_
      rotate_left
      · intro w hSw
        go_simp
        try with_reducible rfl
      try simp only [Act.put, List.setIfInBounds_toArray, List.set_cons_zero, List.set_cons_succ]
      refine Rh.take (some 33) (i := 10) (v := ?_) rfl (by kernel_rfl) (by kernel_rfl) (by kernel_rfl) (by kernel_rfl) (fun _ _ _ h => h) (Or.inl ⟨by rfl, ?_⟩) hS0 ?_
      rotate_left
      · intro w hSw
        go_simp
        try with_reducible rfl
      try simp only [Act.put, List.setIfInBounds_toArray, List.set_cons_zero, List.set_cons_succ]
      refine Rh.take (some 34) (i := 11) (v := ?_) rfl (by kernel_rfl) (by kernel_rfl) (by kernel_rfl) (by kernel_rfl) (fun _ _ _ h => h) (Or.inl ⟨by rfl, ?_⟩) hS0 ?_
      rotate_left
      · intro w hSw
        go_simp
        try with_reducible rfl
      try simp only [Act.put, List.setIfInBounds_toArray, List.set_cons_zero, List.set_cons_succ]
      refine Rh.take (some 35) (i := 12) (v := ?_) rfl (by kernel_rfl) (by kernel_rfl) (by kernel_rfl) (by kernel_rfl) (fun _ _ _ h => h) (Or.inl ⟨by rfl, ?_⟩) hS0 ?_
      rotate_left
      · intro w hSw
        go_simp
        try with_reducible rfl
      try simp only [Act.put, List.setIfInBounds_toArray, List.set_cons_zero, List.set_cons_succ]
      refine Rh.take (some 36) (i := 13) (v := ?_) rfl (by kernel_rfl) (by kernel_rfl) (by kernel_rfl) (by kernel_rfl) (fun _ _ _ h => h) (Or.inl ⟨by rfl, ?_⟩) hS0 ?_
      rotate_left
      · intro w hSw
        go_simp
        try with_reducible rfl
      try simp only [Act.put, List.setIfInBounds_toArray, List.set_cons_zero, List.set_cons_succ]
      refine Rh.take (some 37) (i := 14) (v := ?_) rfl (by kernel_rfl) (by kernel_rfl) (by kernel_rfl) (by kernel_rfl) (fun _ _ _ h => h) (Or.inl ⟨by rfl, ?_⟩) hS0 ?_
      rotate_left
      · intro w hSw
        go_simp
        try with_reducible rfl
      try simp only [Act.put, List.setIfInBounds_toArray, List.set_cons_zero, List.set_cons_succ]
      refine Rh.take (some 38) (i := 15) (v := ?_) rfl (by kernel_rfl) (by kernel_rfl) (by kernel_rfl) (by kernel_rfl) (fun _ _ _ h => h) (Or.inl ⟨by rfl, ?_⟩) hS0 ?_
      rotate_left
      · intro w hSw
        go_simp
        try with_reducible rfl
      try simp only [Act.put, List.setIfInBounds_toArray, List.set_cons_zero, List.set_cons_succ]
      refine Rh.take (some 39) (i := 16) (v := ?_) rfl (by kernel_rfl) (by kernel_rfl) (by kernel_rfl) (by kernel_rfl) (fun _ _ _ h => h) (Or.inl ⟨by rfl, ?_⟩) hS0 ?_
      rotate_left
      · intro w hSw
        go_simp
        try with_reducible rfl
      try simp only [Act.put, List.setIfInBounds_toArray, List.set_cons_zero, List.set_cons_succ]
      refine Rh.take (some 40) (i := 17) (v := ?_) rfl (by kernel_rfl) (by kernel_rfl) (by kernel_rfl) (by kernel_rfl) (fun _ _ _ h => h) (Or.inl ⟨by rfl, ?_⟩) hS0 ?_
      rotate_left
      · intro w hSw
        go_simp
        try with_reducible rfl
      try simp only [Act.put, List.setIfInBounds_toArray, List.set_cons_zero, List.set_cons_succ]
      refine Rh.take (some 9) (i := 18) (v := ?_) rfl (by kernel_rfl) (by kernel_rfl) (by kernel_rfl) (by kernel_rfl) (fun _ _ _ h => h) (Or.inl ⟨by rfl, ?_⟩) hS0 ?_
      rotate_left
      · intro w hSw
        go_simp
        try with_reducible rfl
      try simp only [Act.put, List.setIfInBounds_toArray, List.set_cons_zero, List.set_cons_succ]
      refine Rh.take (some 10) (i := 19) (v := ?_) rfl (by kernel_rfl) (by kernel_rfl) (by kernel_rfl) (by kernel_rfl) (fun _ _ _ h => h) (Or.inl ⟨by rfl, ?_⟩) hS0 ?_
      rotate_left
      · intro w hSw
        go_simp
        try with_reducible rfl
      try simp only [Act.put, List.setIfInBounds_toArray, List.set_cons_zero, List.set_cons_succ]
      refine Rh.done (by kernel_rfl) ?_ _
      clear hS0 n0' c5 c6 c7 hs1
      cases s0
      · as_aux_lemma =>
        simp only [Bool.not_false, Bool.not_true] at H3
        go_upto_region 7 with fail
        refine (wpIn_wide (n := m)).1 ?_
        gi_wp2_with (first
          | ((try refine ⟨trivial, ?_⟩); (try refine ⟨hdd _, ?_⟩); gi_at_call 61; refine ih1.mono ?_; clear ih1; rintro e W1 (⟨rfl, fn, tmps, assign, body, hy', hR⟩ | ⟨rfl, q, hq, hx1⟩))
          | ((try refine ⟨trivial, ?_⟩); (try refine ⟨hdd _, ?_⟩); refine hR.mono ?_; clear hR; rintro e W2 (⟨rfl, hJ2, hb2, hM2⟩ | ⟨rfl, hx2⟩))
          | ((try refine ⟨trivial, ?_⟩); (try refine ⟨hdd _, ?_⟩); gi_at_call 61; refine (H3 _ hM2 hJ2).mono ?_; rintro e W3 (⟨rfl, hJ3, hb3⟩ | ⟨rfl, q, hq, hx3⟩)))
        · go_wp2
          go_ret
          exact .inl ⟨rfl, by rw [HSP.out]; simpa [List.append_assoc] using hJ3, hb2.trans hb3⟩
        · go_wp2
          go_ret
          obtain ⟨r', hr'⟩ := hq
          exact .inr ⟨rfl, A ++ y :: q, ⟨r', by rw [HSP.out]; simp [← hr']⟩, by simpa [List.append_assoc] using hx3⟩
        · go_wp2
          go_ret
          exact .inr ⟨rfl, A ++ [y], ⟨C, by rw [HSP.out]; simp⟩, by simpa [List.append_assoc] using hx2⟩
        · refine ⟨fun _ h => (by cases h), ?_⟩
          gi_wp2
          go_wp2
          go_ret
          exact .inr ⟨rfl, q, hq.trans (by rw [HSP.out]; simp), hx1⟩
      · as_aux_lemma =>
        simp only [Bool.not_false, Bool.not_true] at H3
        go_upto_region 7 with fail
        refine (wpIn_wide (n := m)).1 ?_
        gi_wp2_with (first
          | ((try refine ⟨trivial, ?_⟩); (try refine ⟨hdd _, ?_⟩); gi_at_call 61; refine ih1.mono ?_; clear ih1; rintro e W1 (⟨rfl, fn, tmps, assign, body, hy', hR⟩ | ⟨rfl, q, hq, hx1⟩))
          | ((try refine ⟨trivial, ?_⟩); (try refine ⟨hdd _, ?_⟩); refine hR.mono ?_; clear hR; rintro e W2 (⟨rfl, hJ2, hb2, hM2⟩ | ⟨rfl, hx2⟩))
          | ((try refine ⟨trivial, ?_⟩); (try refine ⟨hdd _, ?_⟩); gi_at_call 61; refine (H3 _ hM2 hJ2).mono ?_; rintro e W3 (⟨rfl, hJ3, hb3⟩ | ⟨rfl, q, hq, hx3⟩)))
        · go_wp2
          go_ret
          exact .inl ⟨rfl, by rw [HSP.out]; simpa [List.append_assoc] using hJ3, hb2.trans hb3⟩
        · go_wp2
          go_ret
          obtain ⟨r', hr'⟩ := hq
          exact .inr ⟨rfl, A ++ y :: q, ⟨r', by rw [HSP.out]; simp [← hr']⟩, by simpa [List.append_assoc] using hx3⟩
        · go_wp2
          go_ret
          exact .inr ⟨rfl, A ++ [y], ⟨C, by rw [HSP.out]; simp⟩, by simpa [List.append_assoc] using hx2⟩
        · refine ⟨fun _ h => (by cases h), ?_⟩
          gi_wp2
          go_wp2
          go_ret
          exact .inr ⟨rfl, q, hq.trans (by rw [HSP.out]; simp), hx1⟩
end
end Sv
end Go.Proofs.Ytlkigpmjhojceaa
