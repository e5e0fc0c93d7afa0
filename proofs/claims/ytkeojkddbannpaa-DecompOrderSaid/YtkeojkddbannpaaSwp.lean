/-
  Stage 15: a network whose ends are changed is right, and what Split tells of it. Condition: the network is right.
-/
import Derived.Test.YtkeojkddbannpaaRsh
import Derived.Test.YtkeojkddbannpaaDsu
namespace Go.Proofs.Ytkeojkddbannpaa
open Go.ChangeShapes Go.WideShapes Go.ChangeAt Go.RowKit
set_option linter.unusedVariables false
set_option linter.unusedSimpArgs false
namespace Dc
open Go.Proofs.Ytkeojkddbannpaa.Ne
theorem swp_check {n : Net} (h : checkN n = 0) : checkN (swpN n) = 0 := by
  have R := right_of h
  have h0 := R.n0; have h1 := R.n1; have h2 := R.s0; have h3 := R.s1; have h4 := R.t0; have h5 := R.t1; have h6 := R.ne; have h7 := R.len
  have e : checkN n = checkL n.n 4611686018427387903 n.l := by
    unfold checkN
    rw [if_neg (by omega), if_pos (by simp [isNode]; omega), if_neg h6, if_neg (by omega)]
  rw [e] at h
  unfold checkN swpN
  simp only
  rw [if_neg (by omega), if_pos (by simp [isNode]; omega), if_neg (Ne.symm h6), if_neg (by omega)]
  exact h
/-- Split of a flow -/
theorem split_flow {n : Net} (ck : checkN n = 0) {g : List Int} (hL : Lf n g) (ao : Option Addr) (cap : Nat) (fo : Option Addr) (fc : Nat) (w : World) (hr : ARow w ao n.l) (hf : IRow w fo g) :
    Calls Try.prog 10 #[encN n ao cap, .slice fo n.l.length fc] w fun e w' => ∃ o c, e = .returned (.tuple #[.slice o (splA n g).length c, .int .i64 0]) ∧ ItR w' o ((splA n g).map Itm.z) ∧ ((splA n g).length ≤ c ∧ c ≤ maxLen) ∧ Below w.heap.size w w' := by
  have hR := right_of ck
  have h := split_any n ao cap fo fc g w hr hf (by have := hR.len; omega) (cap_64 hR)
  rw [hL.len, hL.chk ck] at h
  refine h.mono ?_
  rintro e w' ⟨v, rfl, hs, hb⟩
  have hg := hs.good (hL.chk ck)
  obtain ⟨o, c, hv, h1, h2, _, hr, _⟩ := hg.val
  rw [List.length_map] at hv h1
  subst hv
  exact ⟨o, c, rfl, hr, ⟨h1, h2⟩, hb⟩
/-- a row of items without its first one -/
theorem itr_tail {w : World} {b off c : Nat} {x : ItZ} {L : List ItZ} (h : ItR w (some ⟨b, off, none⟩) (x :: L)) (hc : (x :: L).length ≤ c) : ItR w (if c = 1 then some ⟨b, off, none⟩ else some ⟨b, off + 3, none⟩) L := by
  by_cases e : c = 1
  · have : L = [] := List.eq_nil_of_length_eq_zero (by simp at hc; omega)
    subst this
    exact itr_nil _ _
  · rw [if_neg e]; exact itr_drop h 1
/-- items that Sum takes -/
def BdI (x : ItZ) : Prop := x.arcs.length < 1000000 ∧ in64 x.amount
theorem isI_bd {n : Net} (hR : Right n) {g : List Int} (hL : Lf n g) {x : Itm} (hx : IsI n g x) : BdI x.z := by
  have h1 := len_nodes hR hx
  have h2 := hR.n1
  refine ⟨by rw [z_len]; omega, ?_⟩
  show in64 x.amount
  have h3 := hx.pos
  obtain ⟨e1, e2⟩ := exc_bd hR hL.wi n.t
  rcases hx.full with ⟨a, ha, h⟩ | ⟨_, h⟩ | ⟨_, h⟩
  · have h4 := hL.wi a (hx.inn a ha).1
    have h5 := cap_hi hR (hx.inn a ha).1
    unfold in64; omega
  · unfold in64; omega
  · unfold in64; omega
theorem splA_bd {n : Net} (hR : Right n) {g : List Int} (hL : Lf n g) : ∀ x ∈ (splA n g).map Itm.z, BdI x := fun x hx => by
  obtain ⟨y, hy, rfl⟩ := List.mem_map.1 hx
  obtain ⟨h, h1, h2, -⟩ := (splA_ok hR hL).each y hy
  exact isI_bd hR h1 h2
/-- Sum at a right network -/
theorem sum_flow {n : Net} (ck : checkN n = 0) {L : List ItZ} (hb : ∀ x ∈ L, BdI x) (hLl : L.length ≤ 1000000) (hE : sumE n L = 0) (ao : Option Addr) (cap : Nat) (lo : Option Addr) (lc : Nat) (w : World) (hr : ARow w ao n.l) (hL : ItR w lo L) :
    Calls Try.prog 12 #[encN n ao cap, .slice lo L.length lc] w fun e w' => ∃ b, e = .returned (.tuple #[.slice (some ⟨b, 0, none⟩) n.l.length n.l.length, .int .i64 0]) ∧ w.heap.size ≤ b ∧ LBox w' b (sumV n L) ∧ Below w.heap.size w w' := by
  have hR := right_of ck
  refine (sum_any n ao cap lo lc L w hr hL (by have := hR.len; omega) (cap_64 hR) hLl fun i hi => hb _ (itAt_mem hi)).mono ?_
  rintro e w' ⟨v, rfl, hs, hbw⟩
  obtain ⟨b, rfl, h1, h2⟩ := hs.good hE
  exact ⟨b, by rw [hE], h1, h2, hbw⟩
theorem sum_err {n : Net} (ck : checkN n = 0) {L : List ItZ} (hb : ∀ x ∈ L, BdI x) (hLl : L.length ≤ 1000000) {c : Int} (hE : sumE n L = c) (hc : c ≠ 0) (ao : Option Addr) (cap : Nat) (lo : Option Addr) (lc : Nat) (w : World) (hr : ARow w ao n.l) (hL : ItR w lo L) :
    Calls Try.prog 12 #[encN n ao cap, .slice lo L.length lc] w fun e w' => e = .returned (.tuple #[.slice none 0 0, .int .i64 c]) ∧ Below w.heap.size w w' := by
  have hR := right_of ck
  refine (sum_any n ao cap lo lc L w hr hL (by have := hR.len; omega) (cap_64 hR) hLl fun i hi => hb _ (itAt_mem hi)).mono ?_
  rintro e w' ⟨v, rfl, hs, hbw⟩
  have hv := hs.bad (by rw [hE]; exact hc)
  subst hv
  exact ⟨by rw [hE], hbw⟩
end Dc
end Go.Proofs.Ytkeojkddbannpaa
