/-
  Stage 9: a row gone through by a range over a function: through, row. No condition.
  Stage 9: contract of the developers' forest: Row. No condition.
  Stage 9: contract of the developers' forest: Row. No condition.
-/
import Derived.RangeFuncWrites
import Derived.RangeFuncNested
import Derived.RangeFuncBound
import Derived.RangeFuncCalls
import Derived.RangeFuncBox
import Derived.RangeFuncLeaves
import Derived.Shelf.Abstract
import Derived.Shelf.RegionOpen
import Derived.WalkKit
import Derived.OwnWalkIn
import Derived.TacticsInMore
import Derived.LoopNIn
import Derived.LoopIn
import Derived.Maps.AppendAt
import Derived.Test.YtjhodnpmogkmmaaSwe
namespace Go.Proofs.Ytjhodnpmogkmmaa
open Go.ChangeShapes Go.WideShapes Go.ChangeAt Go.RowKit Go.Shelf
set_option linter.unusedVariables false
set_option linter.unusedSimpArgs false
attribute [local go_sem] Oper.semAt_some
namespace Sv
theorem room_of_none {F : Fence} (hd : F.depth = none) (k : Nat) : F.room k := fun d h => by rw [hd] at h; cases h
theorem round_any {F : Fence} (hd : F.depth = none) {m m' : Nat} {P : Program} {l : Nat} {f : FuncId} {tmps : Array Value} {assign body : Code} {w : World} {R : Ending → World → Prop}
    (h : RoundIn F m P l f tmps assign body w R) : RoundIn F m' P l f tmps assign body w R := ⟨h.1, fun c cs _ => h.2 c cs (room_of_none hd _)⟩
theorem yield_any {F : Fence} (hd : F.depth = none) {m : Nat} (m' : Nat) {P : Program} {l : Nat} {args : Array Value} {W : World} {R : Ending → World → Prop} (h : YieldAt F m P l args W R) : YieldAt F m' P l args W R := by
  obtain ⟨fn, tmps, assign, body, hy, hR⟩ := h
  exact ⟨fn, tmps, assign, body, hy, round_any hd hR⟩
section
variable {B p g n c : Nat} {V : Nat → Int} {r : Nat → List Nat} {M : Nat → Nd} {I : Nat → List Nat} {P : Nat → Bool} {D : Nat → Int}
theorem SpM.bel {W W' : World} {n0 : Nat} (h : SpM W B p g n M c) (hb : Below n0 W W') (hp : p < n0) (hg : g < n0) : SpM W' B p g n M c := h.same (hb.block p hp) (hb.block g hg)
set_option maxRecDepth 100000 in
set_option maxHeartbeats 4000000 in
theorem thr_in (hI : Inv n V r (fun _ => False) M I P D) (l n0 N : Nat) (hp0 : p < n0) (hg0 : g < n0) (J Jx : List Nat → World → Prop)
    (hJd : ∀ pre W, J pre W → J pre W.drew)
    (hY : ∀ m pre x W, J pre W → pre.length < N → YieldAt Fence.wide m Try.prog l #[.int .i64 ((x : Nat) : Int)] W fun e W' =>
      (e = .returned (.bool true) ∧ J (pre ++ [x]) W' ∧ Below n0 W W') ∨ (e = .returned (.bool false) ∧ Jx (pre ++ [x]) W')) :
    ∀ (d m : Nat) (v : Option Nat) (t : Bool) (pre : List Nat) (W : World), (IL I v).length ≤ d → (∀ y, v = some y → y < n ∧ P y = t) → SpM W B p g n M c → J pre W → pre.length + (IL I v).length ≤ N →
      CallsIn Fence.wide m Try.prog 71 #[.pointer (some ⟨p, 0, none⟩), .int .i64 (oi v), .bool t, .func (.yield l) #[] #[]] W fun e W' =>
        (e = .returned (.bool true) ∧ J (pre ++ IL I v) W' ∧ Below n0 W W') ∨ (e = .returned (.bool false) ∧ ∃ q, q <+: IL I v ∧ Jx (pre ++ q) W') := by
  intro d
  induction d with
  | zero =>
    intro m v t pre W hd hv hM hJ hN
    cases v with
    | some y =>
      have := hI.two (hv y rfl).1 false
      simp only [IL] at hd
      omega
    | none =>
      have HJ := Lib.hid hJ
      rw [show oi none = -1 from rfl]
      clear hd hv hM hJ hN hY hI hJd
      refine callsIn_wide.2 ?_
      go_enter Try.func71, Try.ntmps71
      go_wp2
      go_ret
      exact .inl ⟨rfl, by simpa [IL] using HJ.out, Below.refl _ _⟩
  | succ d ih =>
    intro m v t pre W hd hv hM hJ hN
    cases v with
    | none =>
      have HJ := Lib.hid hJ
      rw [show oi none = -1 from rfl]
      clear hd hv hM hJ hN hY hI hJd ih
      refine callsIn_wide.2 ?_
      go_enter Try.func71, Try.ntmps71
      go_wp2
      go_ret
      exact .inl ⟨rfl, by simpa [IL] using HJ.out, Below.refl _ _⟩
    | some y =>
      obtain ⟨hy, hPy⟩ := hv y rfl
      have hsp := hI.spl y hy
      have hlen := hI.two hy (sd M P y)
      have hs0 : sd M P y = (t != (M y).t) := by unfold sd; rw [hPy]
      obtain ⟨tt, htt⟩ : ∃ tt, tt = (M y).t := ⟨_, rfl⟩
      rw [← htt] at hs0
      have n0' := hM.head
      have c5 := hM.cells hy 5 _ rfl
      have c6 := hM.cells hy 6 _ rfl
      have c7 := hM.cells hy 7 _ rfl
      rw [← htt] at c7
      have hyi : (y : Int) < (n : Int) := by omega
      have hy0 : (0 : Int) ≤ (y : Int) := by omega
      have hym : ¬ (y : Int) = -1 := by omega
      rw [show oi (some y) = (y : Int) from rfl]
      rw [show IL I (some y) = I y from rfl] at hd hN ⊢
      have HSP := Lib.hid hsp
      have hIL : ∀ s z, (M y).b s = some z → z < n ∧ P z = sd M P y := fun s z hz => by
        obtain ⟨g1, _, g3, _⟩ := hI.ch y s z hy hz
        exact ⟨g1, g3⟩
      -- the left side, then the item, then the right one
      have H1 := ih (m - 1) ((M y).b (sd M P y)) (sd M P y) pre W.drew (by omega) (fun z hz => hIL _ z hz) hM.drew (hJd _ _ hJ) (by omega)
      have HY2 := fun (W1 : World) hJ1 => hY (m - 1) (pre ++ IL I ((M y).b (sd M P y))) y W1 hJ1 (by simp; omega)
      have H3 := fun (W2 : World) (hM2 : SpM W2 B p g n M c) hJ2 => ih (m - 1) ((M y).b (!(sd M P y))) (sd M P y) (pre ++ IL I ((M y).b (sd M P y)) ++ [y]) W2 (by omega) (fun z hz => hIL _ z hz) hM2 hJ2 (by simp; omega)
      have HM := Lib.hid hM
      clear hsp hlen hIL hd hv hM hJ hN hY hI hJd ih htt hPy
      generalize sd M P y = s0 at *
      generalize IL I ((M y).b s0) = A at *
      generalize IL I ((M y).b (!s0)) = C at *
      have hfn : Fence.wide.fn 71 := trivial
      have hdd : ∀ k : Nat, (Fence.wide.depth.isSome = true → 1 ≤ k) := fun k h => by cases h
      have hbd : Below n0 W W.drew := Ne.below_drew (Below.refl _ _)
      have hy2 : ∀ W1, J (pre ++ A) W1 → Below n0 W W1 → YieldAt Fence.wide (m - 1) Try.prog l #[.int .i64 (y : Int)] W1 fun e W2 =>
          (e = .returned (.bool true) ∧ J (pre ++ A ++ [y]) W2 ∧ Below n0 W W2 ∧ SpM W2 B p g n M c) ∨ (e = .returned (.bool false) ∧ Jx (pre ++ A ++ [y]) W2) := fun W1 hJ1 hb1 =>
        YieldAt.mono (HY2 W1 hJ1) fun e W2 h => h.elim (fun ⟨he, hj, hb2⟩ => .inl ⟨he, hj, hb1.trans hb2, HM.out.bel (hb1.trans hb2) hp0 hg0⟩) .inr
      have ih1 := H1.mono (R' := fun e W1 =>
          (e = .returned (.bool true) ∧ YieldAt Fence.wide (m - 1) Try.prog l #[.int .i64 (y : Int)] W1 fun e W2 =>
            (e = .returned (.bool true) ∧ J (pre ++ A ++ [y]) W2 ∧ Below n0 W W2 ∧ SpM W2 B p g n M c) ∨ (e = .returned (.bool false) ∧ Jx (pre ++ A ++ [y]) W2)) ∨
          (e = .returned (.bool false) ∧ ∃ q, q <+: A ∧ Jx (pre ++ q) W1))
        (fun e W1 h => h.elim (fun ⟨he, hj, hb1⟩ => .inl ⟨he, hy2 W1 hj (hbd.trans hb1)⟩) .inr)
      clear hy2 H1 HY2 hbd
      refine callsIn_of_wp Try.func71 rfl trivial ?_ rfl
      simp only [Try.ntmps71, List.size_toArray, List.length_cons, List.length_nil, Nat.reduceAdd, Nat.reduceSub, Array.replicate_succ, Array.replicate_zero, List.push_toArray, List.append_toArray, List.nil_append, List.cons_append]
      have hs1 : (!(t == tt)) = s0 := by rw [hs0]; cases t <;> cases tt <;> rfl
      clear hs0
      refine wpIn_wide.2 ?_
      go_wp2
      have hS0 := (show (fun w' : World => w'.cell? ⟨p, 0, none⟩ = some (.slice (some ⟨g, 0, none⟩) n n) ∧ w'.cell? ⟨g, y * 9 + 5, none⟩ = some (.int .i64 (oi ((M y).b false))) ∧ w'.cell? ⟨g, y * 9 + 6, none⟩ = some (.int .i64 (oi ((M y).b true)))) W.drew from ⟨n0', c5, c6⟩)
      refine Rh.start (S := (fun w' : World => w'.cell? ⟨p, 0, none⟩ = some (.slice (some ⟨g, 0, none⟩) n n) ∧ w'.cell? ⟨g, y * 9 + 5, none⟩ = some (.int .i64 (oi ((M y).b false))) ∧ w'.cell? ⟨g, y * 9 + 6, none⟩ = some (.int .i64 (oi ((M y).b true))))) (by kernel_rfl) ?_
      refine Rh.take (some 23) (i := 0) (v := ?_) rfl (by kernel_rfl) (by kernel_rfl) (by kernel_rfl) (by kernel_rfl) (fun _ _ _ h => h) (Or.inl ⟨by rfl, ?_⟩) hS0 ?_
      rotate_left
      · intro w hSw
        go_simp
        try with_reducible rfl
      try simp only [Act.put, List.setIfInBounds_toArray, List.set_cons_zero, List.set_cons_succ]
      refine Rh.take (some 24) (i := 1) (v := ?_) rfl (by kernel_rfl) (by kernel_rfl) (by kernel_rfl) (by kernel_rfl) (fun _ _ _ h => h) (Or.inl ⟨by rfl, ?_⟩) hS0 ?_
      rotate_left
      · intro w hSw
        go_simp
        try with_reducible rfl
      try simp only [Act.put, List.setIfInBounds_toArray, List.set_cons_zero, List.set_cons_succ]
      refine Rh.take (some 25) (i := 2) (v := ?_) rfl (by kernel_rfl) (by kernel_rfl) (by kernel_rfl) (by kernel_rfl) (fun _ _ _ h => h) (Or.inl ⟨by rfl, ?_⟩) hS0 ?_
      rotate_left
      · intro w hSw
        go_simp
        try with_reducible rfl
      try simp only [Act.put, List.setIfInBounds_toArray, List.set_cons_zero, List.set_cons_succ]
      refine Rh.take (some 26) (i := 3) (v := ?_) rfl (by kernel_rfl) (by kernel_rfl) (by kernel_rfl) (by kernel_rfl) (fun _ _ _ h => h) (Or.inl ⟨by rfl, ?_⟩) hS0 ?_
      rotate_left
      · intro w hSw
        go_simp
        try with_reducible rfl
      try simp only [Act.put, List.setIfInBounds_toArray, List.set_cons_zero, List.set_cons_succ]
      refine Rh.take (some 27) (i := 4) (v := ?_) rfl (by kernel_rfl) (by kernel_rfl) (by kernel_rfl) (by kernel_rfl) (fun _ _ _ h => h) (Or.inl ⟨by rfl, ?_⟩) hS0 ?_
      rotate_left
      · intro w hSw
        go_simp
        try with_reducible rfl
      try simp only [Act.put, List.setIfInBounds_toArray, List.set_cons_zero, List.set_cons_succ]
      refine Rh.take (some 28) (i := 5) (v := ?_) rfl (by kernel_rfl) (by kernel_rfl) (by kernel_rfl) (by kernel_rfl) (fun _ _ _ h => h) (Or.inl ⟨by rfl, ?_⟩) hS0 ?_
      rotate_left
      · intro w hSw
        go_simp
        try with_reducible rfl
      try simp only [Act.put, List.setIfInBounds_toArray, List.set_cons_zero, List.set_cons_succ]
      refine Rh.take (some 29) (i := 6) (v := ?_) rfl (by kernel_rfl) (by kernel_rfl) (by kernel_rfl) (by kernel_rfl) (fun _ _ _ h => h) (Or.inl ⟨by rfl, ?_⟩) hS0 ?_
      rotate_left
      · intro w hSw
        go_simp
        try with_reducible rfl
      try simp only [Act.put, List.setIfInBounds_toArray, List.set_cons_zero, List.set_cons_succ]
      refine Rh.take (some 30) (i := 7) (v := ?_) rfl (by kernel_rfl) (by kernel_rfl) (by kernel_rfl) (by kernel_rfl) (fun _ _ _ h => h) (Or.inl ⟨by rfl, ?_⟩) hS0 ?_
      rotate_left
      · intro w hSw
        go_simp
        try with_reducible rfl
      try simp only [Act.put, List.setIfInBounds_toArray, List.set_cons_zero, List.set_cons_succ]
      refine Rh.take (some 31) (i := 8) (v := ?_) rfl (by kernel_rfl) (by kernel_rfl) (by kernel_rfl) (by kernel_rfl) (fun _ _ _ h => h) (Or.inl ⟨by rfl, ?_⟩) hS0 ?_
      rotate_left
      · intro w hSw
        go_simp
        try with_reducible rfl
      try simp only [Act.put, List.setIfInBounds_toArray, List.set_cons_zero, List.set_cons_succ]
      refine Rh.take (some 32) (i := 9) (v := ?_) rfl (by kernel_rfl) (by kernel_rfl) (by kernel_rfl) (by kernel_rfl) (fun _ _ _ h => h) (Or.inl ⟨by rfl, ?_⟩) hS0 ?_
      rotate_left
      · intro w hSw
        go_simp
        try with_reducible rfl
      try simp only [Act.put, List.setIfInBounds_toArray, List.set_cons_zero, List.set_cons_succ]
      refine Rh.take (some 33) (i := 10) (v := ?_) rfl (by kernel_rfl) (by kernel_rfl) (by kernel_rfl) (by kernel_rfl) (fun _ _ _ h => h) (Or.inl ⟨by rfl, ?_⟩) hS0 ?_
      rotate_left
      · intro w hSw
        go_simp
        try with_reducible rfl
      try simp only [Act.put, List.setIfInBounds_toArray, List.set_cons_zero, List.set_cons_succ]
      refine Rh.take (some 34) (i := 11) (v := ?_) rfl (by kernel_rfl) (by kernel_rfl) (by kernel_rfl) (by kernel_rfl) (fun _ _ _ h => h) (Or.inl ⟨by rfl, ?_⟩) hS0 ?_
      rotate_left
      · intro w hSw
        go_simp
        try with_reducible rfl
      try simp only [Act.put, List.setIfInBounds_toArray, List.set_cons_zero, List.set_cons_succ]
      refine Rh.take (some 35) (i := 12) (v := ?_) rfl (by kernel_rfl) (by kernel_rfl) (by kernel_rfl) (by kernel_rfl) (fun _ _ _ h => h) (Or.inl ⟨by rfl, ?_⟩) hS0 ?_
      rotate_left
      · intro w hSw
        go_simp
        try with_reducible rfl
      try simp only [Act.put, List.setIfInBounds_toArray, List.set_cons_zero, List.set_cons_succ]
      refine Rh.take (some 36) (i := 13) (v := ?_) rfl (by kernel_rfl) (by kernel_rfl) (by kernel_rfl) (by kernel_rfl) (fun _ _ _ h => h) (Or.inl ⟨by rfl, ?_⟩) hS0 ?_
      rotate_left
      · intro w hSw
        go_simp
        try with_reducible rfl
      try simp only [Act.put, List.setIfInBounds_toArray, List.set_cons_zero, List.set_cons_succ]
      refine Rh.take (some 37) (i := 14) (v := ?_) rfl (by kernel_rfl) (by kernel_rfl) (by kernel_rfl) (by kernel_rfl) (fun _ _ _ h => h) (Or.inl ⟨by rfl, ?_⟩) hS0 ?_
      rotate_left
      · intro w hSw
        go_simp
        try with_reducible rfl
      try simp only [Act.put, List.setIfInBounds_toArray, List.set_cons_zero, List.set_cons_succ]
      refine Rh.take (some 38) (i := 15) (v := ?_) rfl (by kernel_rfl) (by kernel_rfl) (by kernel_rfl) (by kernel_rfl) (fun _ _ _ h => h) (Or.inl ⟨by rfl, ?_⟩) hS0 ?_
      rotate_left
      · intro w hSw
        go_simp
        try with_reducible rfl
      try simp only [Act.put, List.setIfInBounds_toArray, List.set_cons_zero, List.set_cons_succ]
      refine Rh.take (some 39) (i := 16) (v := ?_) rfl (by kernel_rfl) (by kernel_rfl) (by kernel_rfl) (by kernel_rfl) (fun _ _ _ h => h) (Or.inl ⟨by rfl, ?_⟩) hS0 ?_
      rotate_left
      · intro w hSw
        go_simp
        try with_reducible rfl
      try simp only [Act.put, List.setIfInBounds_toArray, List.set_cons_zero, List.set_cons_succ]
      refine Rh.take (some 40) (i := 17) (v := ?_) rfl (by kernel_rfl) (by kernel_rfl) (by kernel_rfl) (by kernel_rfl) (fun _ _ _ h => h) (Or.inl ⟨by rfl, ?_⟩) hS0 ?_
      rotate_left
      · intro w hSw
        go_simp
        try with_reducible rfl
      try simp only [Act.put, List.setIfInBounds_toArray, List.set_cons_zero, List.set_cons_succ]
      refine Rh.take (some 9) (i := 18) (v := ?_) rfl (by kernel_rfl) (by kernel_rfl) (by kernel_rfl) (by kernel_rfl) (fun _ _ _ h => h) (Or.inl ⟨by rfl, ?_⟩) hS0 ?_
      rotate_left
      · intro w hSw
        go_simp
        try with_reducible rfl
      try simp only [Act.put, List.setIfInBounds_toArray, List.set_cons_zero, List.set_cons_succ]
      refine Rh.take (some 10) (i := 19) (v := ?_) rfl (by kernel_rfl) (by kernel_rfl) (by kernel_rfl) (by kernel_rfl) (fun _ _ _ h => h) (Or.inl ⟨by rfl, ?_⟩) hS0 ?_
      rotate_left
      · intro w hSw
        go_simp
        try with_reducible rfl
      try simp only [Act.put, List.setIfInBounds_toArray, List.set_cons_zero, List.set_cons_succ]
      refine Rh.done (by kernel_rfl) ?_ _
      clear hS0 n0' c5 c6 c7 hs1
      cases s0
      · as_aux_lemma =>
        simp only [Bool.not_false, Bool.not_true] at H3
        go_upto_region 7 with fail
        refine (wpIn_wide (n := m)).1 ?_
        gi_wp2_with (first
          | ((try refine ⟨trivial, ?_⟩); (try refine ⟨hdd _, ?_⟩); gi_at_call 71; refine ih1.mono ?_; clear ih1; rintro e W1 (⟨rfl, fn, tmps, assign, body, hy', hR⟩ | ⟨rfl, q, hq, hx1⟩))
          | ((try refine ⟨trivial, ?_⟩); (try refine ⟨hdd _, ?_⟩); refine hR.mono ?_; clear hR; rintro e W2 (⟨rfl, hJ2, hb2, hM2⟩ | ⟨rfl, hx2⟩))
          | ((try refine ⟨trivial, ?_⟩); (try refine ⟨hdd _, ?_⟩); gi_at_call 71; refine (H3 _ hM2 hJ2).mono ?_; rintro e W3 (⟨rfl, hJ3, hb3⟩ | ⟨rfl, q, hq, hx3⟩)))
        · go_wp2
          go_ret
          exact .inl ⟨rfl, by rw [HSP.out]; simpa [List.append_assoc] using hJ3, hb2.trans hb3⟩
        · go_wp2
          go_ret
          obtain ⟨r', hr'⟩ := hq
          exact .inr ⟨rfl, A ++ y :: q, ⟨r', by rw [HSP.out]; simp [← hr']⟩, by simpa [List.append_assoc] using hx3⟩
        · go_wp2
          go_ret
          exact .inr ⟨rfl, A ++ [y], ⟨C, by rw [HSP.out]; simp⟩, by simpa [List.append_assoc] using hx2⟩
        · refine ⟨fun _ h => (by cases h), ?_⟩
          gi_wp2
          go_wp2
          go_ret
          exact .inr ⟨rfl, q, hq.trans (by rw [HSP.out]; simp), hx1⟩
      · as_aux_lemma =>
        simp only [Bool.not_false, Bool.not_true] at H3
        go_upto_region 7 with fail
        refine (wpIn_wide (n := m)).1 ?_
        gi_wp2_with (first
          | ((try refine ⟨trivial, ?_⟩); (try refine ⟨hdd _, ?_⟩); gi_at_call 71; refine ih1.mono ?_; clear ih1; rintro e W1 (⟨rfl, fn, tmps, assign, body, hy', hR⟩ | ⟨rfl, q, hq, hx1⟩))
          | ((try refine ⟨trivial, ?_⟩); (try refine ⟨hdd _, ?_⟩); refine hR.mono ?_; clear hR; rintro e W2 (⟨rfl, hJ2, hb2, hM2⟩ | ⟨rfl, hx2⟩))
          | ((try refine ⟨trivial, ?_⟩); (try refine ⟨hdd _, ?_⟩); gi_at_call 71; refine (H3 _ hM2 hJ2).mono ?_; rintro e W3 (⟨rfl, hJ3, hb3⟩ | ⟨rfl, q, hq, hx3⟩)))
        · go_wp2
          go_ret
          exact .inl ⟨rfl, by rw [HSP.out]; simpa [List.append_assoc] using hJ3, hb2.trans hb3⟩
        · go_wp2
          go_ret
          obtain ⟨r', hr'⟩ := hq
          exact .inr ⟨rfl, A ++ y :: q, ⟨r', by rw [HSP.out]; simp [← hr']⟩, by simpa [List.append_assoc] using hx3⟩
        · go_wp2
          go_ret
          exact .inr ⟨rfl, A ++ [y], ⟨C, by rw [HSP.out]; simp⟩, by simpa [List.append_assoc] using hx2⟩
        · refine ⟨fun _ h => (by cases h), ?_⟩
          gi_wp2
          go_wp2
          go_ret
          exact .inr ⟨rfl, q, hq.trans (by rw [HSP.out]; simp), hx1⟩
end
end Sv
end Go.Proofs.Ytjhodnpmogkmmaa
namespace Go.Proofs.Ytjhodnpmogkmmaa
open Go.ChangeShapes Go.WideShapes Go.ChangeAt Go.RowKit Go.Shelf
set_option linter.unusedVariables false
set_option linter.unusedSimpArgs false
attribute [local go_sem] Oper.semAt_some
namespace Sv
section
variable {w : World} {B p g n c : Nat} {V : Nat → Int} {r : Nat → List Nat} {M : Nat → Nd} {I : Nat → List Nat} {P : Nat → Bool} {D : Nat → Int}
set_option maxHeartbeats 1000000 in
theorem row1_in (hI : Inv n V r (fun _ => False) M I P D) {z : Nat} (hz : z < n) (hzu : (M z).up = none) (m l n0 b1 b2 : Nat) (hp0 : p < n0) (hg0 : g < n0) (J Jx : List Nat → World → Prop)
    (hJd : ∀ pre W, J pre W → J pre W.drew)
    (hY : ∀ pre x W, J pre W → pre.length < (I z).length → YieldAt Fence.wide (m - 1) Try.prog l #[.int .i64 ((x : Nat) : Int)] W fun e W' =>
      (e = .returned (.bool true) ∧ J (pre ++ [x]) W' ∧ Below n0 W W') ∨ (e = .returned (.bool false) ∧ Jx (pre ++ [x]) W'))
    (W : World) (h1 : W.cell? ⟨b1, 0, none⟩ = some (.pointer (some ⟨p, 0, none⟩))) (h2 : W.cell? ⟨b2, 0, none⟩ = some (.int .i64 (z : Int))) (hM : SpM W B p g n M c) (h0 : J [] W) :
    CallsIn Fence.wide m Try.prog 70 #[.func (.yield l) #[] #[], .pointer (some ⟨b1, 0, none⟩), .pointer (some ⟨b2, 0, none⟩)] W fun e W' => (∃ v, e = .returned v) ∧
      ((∃ ys, ys = I z ∧ J ys W') ∨ (∃ pre, pre <+: I z ∧ Jx pre W')) := by
  have HT := Lib.hid (callsIn_wide.1 (thr_in hI l n0 (I z).length hp0 hg0 J Jx hJd (fun m' pre x W hj hl => yield_any rfl m' (hY pre x W hj hl)) (I z).length m (some z) false [] W (Nat.le_refl _) (fun y hy => by cases hy; exact ⟨hz, (hI.top z hz hzu).1⟩) hM h0 (by simp [IL])))
  rw [show oi (some z) = (z : Int) from rfl] at HT
  clear hI hz hzu hY hM h0 hJd
  refine callsIn_wide.2 ?_
  go_enter Try.func70, Try.ntmps70
  go_wp2_with fail
  refine HT.out.mono ?_
  rintro e W1 (⟨rfl, hJ1, _⟩ | ⟨rfl, q, hq, hx⟩)
  · have HJ := Lib.hid hJ1
    clear hJ1
    go_wp2
    go_end0
    exact ⟨⟨_, rfl⟩, .inl ⟨_, rfl, by simpa [IL] using HJ.out⟩⟩
  · have HQ := Lib.hid hq
    have HX := Lib.hid hx
    clear hq hx
    go_wp2
    go_end0
    exact ⟨⟨_, rfl⟩, .inr ⟨q, HQ.out, by simpa using HX.out⟩⟩
theorem row_stops (hI : Inv n V r (fun _ => False) M I P D) {z : Nat} (hz : z < n) (hzu : (M z).up = none) (m n0 b1 b2 : Nat) (hp0 : p < n0) (hg0 : g < n0) (w : World) (hn0 : n0 ≤ w.heap.size) (hb1 : b1 < w.heap.size) (hb2 : b2 < w.heap.size)
    (h1 : w.cell? ⟨b1, 0, none⟩ = some (.pointer (some ⟨p, 0, none⟩))) (h2 : w.cell? ⟨b2, 0, none⟩ = some (.int .i64 (z : Int))) (hM : SpM w B p g n M c) :
    SeqStopsK Fence.wide m Try.prog 70 #[.pointer (some ⟨b1, 0, none⟩), .pointer (some ⟨b2, 0, none⟩)] (fun x : Nat => #[Value.int .i64 (x : Int)]) (Below n0) (fun ys => ys = I z) (fun pre => pre <+: I z) (I z).length w := fun l J Jx W hW hJ _ hY h0 =>
  row1_in hI hz hzu m l n0 b1 b2 hp0 hg0 J Jx (fun pre W1 hj => hJ pre W1 W1.drew none hj ⟨rfl, rfl, rfl, Nat.le_refl _, fun _ _ _ => rfl⟩ (fun r e => by cases e)) hY W ((hW.cell (p := ⟨b1, 0, none⟩) hb1).trans h1) ((hW.cell (p := ⟨b2, 0, none⟩) hb2).trans h2) (hM.bel hW (by omega) (by omega)) h0
set_option maxHeartbeats 2000000 in
theorem row_any (hM : SpM w B p g n M c) (hI : Inv n V r (fun _ => False) M I P D) {x : Nat} (hx : x < n) :
    Calls Try.prog 57 #[.pointer (some ⟨p, 0, none⟩), .int .i64 (x : Int)] w fun e w' => e = .returned (.func (.func 70) #[] #[.pointer (some ⟨w.heap.size, 0, none⟩), .pointer (some ⟨w.heap.size + 1, 0, none⟩)]) ∧
      Below w.heap.size w w' ∧ w'.heap.size = w.heap.size + 2 ∧ ∃ z, z < n ∧ (M z).up = none ∧ I z = r x ∧ w'.cell? ⟨w.heap.size, 0, none⟩ = some (.pointer (some ⟨p, 0, none⟩)) ∧ w'.cell? ⟨w.heap.size + 1, 0, none⟩ = some (.int .i64 (z : Int)) := by
  have HI := Lib.hid hI
  have hs1 : (w.alloc (.cells #[.pointer (some ⟨p, 0, none⟩)] 53)).heap.size = w.heap.size + 1 := by show (w.heap.push _).size = _; simp
  have hs2 : ((w.alloc (.cells #[.pointer (some ⟨p, 0, none⟩)] 53)).alloc (.cells #[.int .i64 (x : Int)] 3)).heap.size = w.heap.size + 2 := by show (Array.push _ _).size = _; rw [Array.size_push, hs1]
  have HB := Lib.hid (show Below w.heap.size w ((w.alloc (.cells #[.pointer (some ⟨p, 0, none⟩)] 53)).alloc (.cells #[.int .i64 (x : Int)] 3)) from ((Below.refl _ w).alloc (Nat.le_refl _) _).alloc (by omega) _)
  have HX0 := Lib.hid ((bx_new (w := w) rfl (.pointer (some ⟨p, 0, none⟩)) 53).off (F := fun _ => False) ((Sp.Off.refl _ (w.alloc (.cells #[.pointer (some ⟨p, 0, none⟩)] 53))).alloc (.cells #[.int .i64 (x : Int)] 3)) id)
  have HX1 := Lib.hid (bx_new (w := w.alloc (.cells #[.pointer (some ⟨p, 0, none⟩)] 53)) (b := w.heap.size + 1) hs1.symm (.int .i64 (x : Int)) 3)
  have HSZ := Lib.hid hs2
  have HIN := Lib.hid hM.in
  have HMM := Lib.hid hM
  have hlx := hI.len hx
  clear hs1 hs2 hM hI
  go_enter Try.func57, Try.ntmps57
  go_wp2
  go_loopg [14] (n - (I x).length) (fun gg s14 wr => (∃ q, s14 = q) ∧ ∃ z : Nat, (I z).length + gg = n ∧ z < n ∧ Hid (Below w.heap.size w wr ∧ wr.heap.size = w.heap.size + 2 ∧ Bx wr w.heap.size (.pointer (some ⟨p, 0, none⟩)) ∧ Bx wr (w.heap.size + 1) (.int .i64 (z : Int)) ∧ x ∈ I z))
  case atStart => exact ⟨⟨_, rfl⟩, x, by omega, hx, Lib.hid ⟨HB.out, HSZ.out, HX0.out, HX1.out, HI.out.self hx⟩⟩
  case round =>
    obtain ⟨⟨q, rfl⟩, z, hgz, hz, HH⟩ := hrel
    obtain ⟨hb, hsz, x0, x1, hxz⟩ := HH.out
    have hM := HMM.out.bel hb HIN.out.1.2 HIN.out.2.2
    have n0 := hM.head
    have c4 := hM.cells hz 4 _ rfl
    have d0 := x0.1
    have d1 := x1.1
    have f1 := x1.2.2
    have hzi : (z : Int) < (n : Int) := by omega
    have hz0 : (0 : Int) ≤ (z : Int) := by omega
    cases hu : (M z).up with
    | none =>
      have HE := Lib.hid (show Below w.heap.size w wr.drew ∧ wr.drew.heap.size = w.heap.size + 2 ∧ ∃ z, z < n ∧ (M z).up = none ∧ I z = r x ∧ wr.drew.cell? ⟨w.heap.size, 0, none⟩ = some (.pointer (some ⟨p, 0, none⟩)) ∧ wr.drew.cell? ⟨w.heap.size + 1, 0, none⟩ = some (.int .i64 (z : Int)) from
        ⟨Ne.below_drew hb, hsz, z, hz, hu, (HI.out.row z hz hu x hxz).symm, d0, d1⟩)
      rw [hu] at c4
      simp only [oi] at c4
      clear hM hu hb hsz x0 x1 hxz
      go_wp2
      go_region
      all_goals (try go_wp2)
      all_goals go_ret
      all_goals exact ⟨rfl, HE.out⟩
    | some u =>
      have hul := HI.out.up_len hz hu
      have hun := hul.1
      have hlu := hul.2
      have hln := HI.out.len hun
      obtain ⟨_, sd, hsd⟩ := HI.out.par z u hz hu
      have hum : ¬ (u : Int) = -1 := by omega
      have ho : Sp.Off (fun k => k = w.heap.size + 1) wr ((wr.setCell ⟨w.heap.size + 1, 0, none⟩ (.int .i64 (u : Int))).drew.drew) := ((Sp.Off.refl (fun k => k = w.heap.size + 1) wr).set (p := ⟨w.heap.size + 1, 0, none⟩) (.inl rfl) _).trans ((off_drew _).trans (off_drew _) fun _ h => .inl h) fun _ h => .inl h
      have HE := Lib.hid (show Below w.heap.size w ((wr.setCell ⟨w.heap.size + 1, 0, none⟩ (.int .i64 (u : Int))).drew.drew) ∧ ((wr.setCell ⟨w.heap.size + 1, 0, none⟩ (.int .i64 (u : Int))).drew.drew).heap.size = w.heap.size + 2 ∧ Bx ((wr.setCell ⟨w.heap.size + 1, 0, none⟩ (.int .i64 (u : Int))).drew.drew) w.heap.size (.pointer (some ⟨p, 0, none⟩)) ∧ Bx ((wr.setCell ⟨w.heap.size + 1, 0, none⟩ (.int .i64 (u : Int))).drew.drew) (w.heap.size + 1) (.int .i64 (u : Int)) ∧ x ∈ I u from
        ⟨Ne.below_drew (Ne.below_drew (hb.setCell (p := ⟨w.heap.size + 1, 0, none⟩) (by simp only; omega) _)), by rw [← hsz]; show (World.setCell _ _ _).heap.size = _; simp [World.setCell], x0.off ho (by omega), x1.set.drew.drew, HI.out.sub hun hsd x hxz⟩)
      rw [hu] at c4
      simp only [oi] at c4
      clear hM hu hb hsz x0 x1 hxz ho hul
      go_wp2
      go_region
      all_goals (try go_wp2)
      all_goals (try go_region)
      all_goals (try go_wp2)
      all_goals go_roundg (n - (I u).length)
      case measure => omega
      case rel => exact ⟨⟨_, rfl⟩, u, by omega, hun, HE⟩
end
end Sv
end Go.Proofs.Ytjhodnpmogkmmaa
namespace Go.Proofs.Ytjhodnpmogkmmaa
open Go.ChangeShapes Go.WideShapes Go.ChangeAt Go.RowKit Go.Shelf
set_option linter.unusedVariables false
set_option linter.unusedSimpArgs false
attribute [local go_sem] Oper.semAt_some
namespace Sp
open Sv
section
variable {w : World} {B p lo hi g c : Nat} {F : Nat → Prop} {s : St} {M : Nat → Nd} {I : Nat → List Nat} {P : Nat → Bool} {D : Nat → Int}
abbrev encX (x : Nat) : Value := .int .i64 (x : Int)
theorem own_of_row {w : World} {Bn : Nat} {v : Value} {l : List Nat} (h : w.ownsRow Bn 3 1 v l.length (l.map encX)) : Ne.OwnI w Bn v (Ne.encW l) := by
  have e : (Ne.encW l).flatMap Ne.encI = l.map encX := by
    unfold Ne.encW
    clear h
    induction l with
    | nil => rfl
    | cons a l ih =>
      rw [List.map_cons, List.flatMap_cons, ih]
      rfl
  show w.ownsRow Bn 3 1 v (Ne.encW l).length ((Ne.encW l).flatMap Ne.encI)
  rw [e, Ne.encW_len]
  exact h
/-- what Row leaves -/
def RowQ (w : World) (B : Nat) (F : Nat → Prop) (p : Nat) (s : St) (lo hi : Nat) (x : Int) (e : Ending) (w' : World) : Prop :=
  ∃ o c F', e = .returned (.slice o (rowZ s x).length c) ∧ Ne.OwnI w' w.heap.size (.slice o (rowZ s x).length c) (Ne.encW (rowZ s x)) ∧
      SpO w' B F' p s lo hi ∧ (∀ g, F' g → Ext F w w' g) ∧ (∀ g, (Value.slice o (rowZ s x).length c).ownBlock = some g → ¬ F' g) ∧ Off F w w'
theorem rowQ_of {w' : World} (h : SpO w B F p s lo hi) {x : Int} (hb : Below w.heap.size w w') {v : Value} (hr : w'.ownsRow w.heap.size 3 1 v (rowZ s x).length ((rowZ s x).map encX)) : RowQ w B F p s lo hi x (.returned v) w' := by
  have ho := own_of_row hr
  obtain ⟨o, c, hv, _⟩ := Rw.own_row Ne.encI_len ho
  rw [Ne.encW_len] at hv
  subst hv
  refine ⟨o, c, F, rfl, ho, h.off (G := fun _ => False) (Off.of_below hb) (fun _ _ => id), fun g hg => .inl hg, fun g hg c => ?_, Off.of_below hb⟩
  have h1 := Rw.own_lt ho g hg
  have h2 := h.fin g c
  omega
set_option maxRecDepth 100000 in
set_option maxHeartbeats 4000000 in
theorem drow_any (h : SpO w B F p s lo hi) (hBw : B ≤ w.heap.size) (x : Int) :
    Calls Try.prog 39 #[.pointer (some ⟨p, 0, none⟩), .int .i64 x] w fun e w' => ∃ o c F', e = .returned (.slice o (rowZ s x).length c) ∧ Ne.OwnI w' w.heap.size (.slice o (rowZ s x).length c) (Ne.encW (rowZ s x)) ∧
      SpO w' B F' p s lo hi ∧ (∀ g, F' g → Ext F w w' g) ∧ (∀ g, (Value.slice o (rowZ s x).length c).ownBlock = some g → ¬ F' g) ∧ Off F w w' := by
  show Calls Try.prog 39 #[.pointer (some ⟨p, 0, none⟩), .int .i64 x] w fun e w' => RowQ w B F p s lo hi x e w'
  have HQ := Lib.hid (fun (w' : World) (v : Value) hb hr => rowQ_of (w' := w') (v := v) h (x := x) hb hr)
  obtain ⟨g, c, M, I, P, D, h⟩ := h.hd
  have HH := Lib.hid (has_any h.mem x)
  by_cases hx : 0 ≤ x ∧ x < (s.v.length : Int)
  case neg =>
    rw [show decide (0 ≤ x ∧ x < (s.v.length : Int)) = false by simpa using hx] at HH
    have hr := h.row.2 hx
    have HE := Lib.hid (HQ.out w (.slice none 0 0) (Below.refl _ _) (by rw [hr]; exact World.ownsRow_nil _ _ _ _))
    clear h hx hr HQ
    go_enter Try.func39, Try.ntmps39
    go_wp2_with fail
    refine HH.out.mono ?_
    rintro e w1 ⟨rfl, rfl⟩
    go_wp2
    go_ret
    exact HE.out
  rw [show decide (0 ≤ x ∧ x < (s.v.length : Int)) = true by simpa using hx] at HH
  obtain ⟨y, rfl⟩ : ∃ y : Nat, x = (y : Int) := ⟨x.toNat, by omega⟩
  have hy : y < s.v.length := by omega
  rw [rowZ_nat] at HQ
  have hin := h.mem.in
  have hsm := h.mem.small
  have bO := Boxed.new w 37 (.slice none 0 0)
  have hs1 : (w.alloc (.cells #[.slice none 0 0] 37)).heap.size = w.heap.size + 1 := by show (w.heap.push _).size = _; simp
  have HRW := Lib.hid (row_any (h.mem.kept ((Below.refl _ w).alloc (Nat.le_refl _) (.cells #[.slice none 0 0] 37))) h.inv hy)
  rw [hs1] at HRW
  have hB1 : Below w.heap.size w (w.alloc (.cells #[.slice none 0 0] 37)) := (Below.refl _ w).alloc (Nat.le_refl _) _
  obtain ⟨i0, hi, hz0, hz1, hz2⟩ := info_parts Ne.infoI
  have hgood := h.good.len y
  refine (callsIn_wide (n := 3)).1 ?_
  refine callsIn_of_wp_marks Try.func39 rfl trivial ?_ rfl
  simp only [Try.ntmps39, List.size_toArray, List.length_cons, List.length_nil, Nat.reduceAdd, Nat.reduceSub, Array.replicate_succ, Array.replicate_zero, List.push_toArray, List.append_toArray, List.nil_append, List.cons_append]
  gi_wp2_with (first
    | ((try refine ⟨trivial, ?_⟩); gi_at_call 56; refine (callsIn_wide.2 HH.out).mono ?_; rintro e w1 ⟨rfl, rfl⟩)
    | ((try refine ⟨trivial, ?_⟩); gi_at_call 57; refine (callsIn_wide.2 HRW.out).mono ?_; rintro e w2 ⟨rfl, hB2, hs2, z, hz, hzu, hIz, hd0, hd1⟩))
  have hB : Below w.heap.size w w2 := hB1.trans (hB2.mono (by omega))
  have hM2 := h.mem.bel hB hin.1.2 hin.2.2
  have bO2 : Boxed w2 w.heap.size 37 (.slice none 0 0) := (hB2.block w.heap.size (by omega)).trans bO
  refine wpIn_rangeFunc_ownG rfl (by decide) (gf := 70) (lb := #[.pointer (some ⟨w.heap.size + 1, 0, none⟩), .pointer (some ⟨w.heap.size + 1 + 1, 0, none⟩)]) rfl trivial (enters_of Try.func70 (by kernel_rfl) rfl)
    (row_stops h.inv hz hzu (3 - 1) w.heap.size (w.heap.size + 1) (w.heap.size + 1 + 1) hin.1.2 hin.2.2 w2 (by omega) (by omega) (by omega) hd0 hd1 hM2) belowK_t (belowK_b (by omega)) (Below.refl _ _) (fun _ => rfl)
    (fun pre W => (∃ v, Boxed W w.heap.size 37 v ∧ W.ownsRow w.heap.size 3 1 v pre.length (pre.map encX) ∧ True) ∧ Below w.heap.size w W)
    (fun _ _ _ => False)
    (OwnFrom.and (Own.from (holdsRow_own w.heap.size w.heap.size 37 3 1 (fun pre : List Nat => pre.length) (fun pre => pre.map encX) (fun _ _ => True)) _) (ownFrom_below (Nat.le_refl _) (by omega)))
    (fun _ _ _ _ _ hs _ _ => hs)
    ⟨⟨_, bO2, World.ownsRow_nil _ _ _ _, trivial⟩, hB⟩
    (fun x => { tmps := #[.pointer (some ⟨p, 0, none⟩), .int .i64 (y : Int), undef, undef, .slice none 0 0, .pointer (some ⟨w.heap.size, 0, none⟩), .int .i64 (x : Int), .pointer (some ⟨p, 0, none⟩), .int .i64 (y : Int), .bool true, .bool false, .pointer (some ⟨p, 0, none⟩), .int .i64 (y : Int), .func (.func 70) #[] #[.pointer (some ⟨w.heap.size + 1, 0, none⟩), .pointer (some ⟨w.heap.size + 1 + 1, 0, none⟩)], .int .i64 (x : Int), undef, undef, undef, undef, undef], defers := [] }) ?assign ?body ?done ?stop
  case assign =>
    intro l x W K hK
    gi_wp2
    exact hK
  case body =>
    rintro l pre x W ⟨⟨v, hv, hrow, _⟩, hBW⟩ hlt
    have hc := hv.cell
    have hpl : pre.length < 3000 := by rw [hIz] at hlt; omega
    gi_wp2_with (gi_at_builtin; refine wpListIn_append_own _ rfl _ _ 37 rfl w.heap.size 3 i0 (.int .i64 0) 1 8 Try.underlying37 hi hz0 hz1 hz2 rfl (by decide) _ _ _ rfl (hrow.alloc _) ⟨W.heap.size, 0, none⟩ 1 1 [.int .i64 (x : Int)] rfl rfl (cell_one_new _ _ _) (by simp [Value.oneCell']) (by unfold maxLen; omega) (by omega) (by have := hBW.size; simp; omega) ?_; intro v' w1 hown' hgrow _; obtain ⟨g', cap', rfl⟩ := ownsRow_succ hown'; obtain ⟨hv1, hv2, hr2, hk2, hb2⟩ := hv.appended (by decide) hrow hBW.size (Nat.le_refl _) hown' hgrow; have hc1 := hv1.cell; have hf1 := hv1.frozen)
    exact ⟨hk2.from _, hb2, ⟨_, hv2, by simpa using hr2, trivial⟩, hBW.trans hb2⟩
  case done =>
    rintro D ys W hD rfl ⟨⟨v, hv, hrow, _⟩, hBW⟩ hK
    have hc := hv.cell
    rw [hIz] at hrow
    gi_wp2
    refine ⟨by simp, .inl ⟨_, _, rfl, run_takeDeferred hK, ?_⟩⟩
    refine ⟨_, results_tmp rfl _ _ _, ?_⟩
    exact HQ.out _ v (hBW.trans (belowK_b (w := w2) (by omega) W D _ _ (by omega) hK rfl rfl)) (ownsRow_putObj hrow _ hK rfl)
  case stop =>
    rintro D c' pre W _ _ h' _
    exact h'.elim
end
end Sp
end Go.Proofs.Ytjhodnpmogkmmaa
