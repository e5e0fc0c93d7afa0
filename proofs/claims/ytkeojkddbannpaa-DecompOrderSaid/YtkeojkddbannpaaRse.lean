/-
  Stage 15: contract of the developers' take at the next item; what the loop of next keeps. Condition: the network is right, what is left is a flow of any value, the rest's memory is its own.
-/
import Derived.Test.YtkeojkddbannpaaRsd
import Derived.Test.YtkeojkddbannpaaMtb
namespace Go.Proofs.Ytkeojkddbannpaa
open Go.ChangeShapes Go.WideShapes Go.ChangeAt Go.RowKit
set_option linter.unusedVariables false
set_option linter.unusedSimpArgs false
namespace Dc
open Go.Proofs.Ytkeojkddbannpaa.Ne
open Sp (Off)
theorem cap_top {n : Net} (hR : Right n) {i : Nat} (hi : i < n.l.length) : (arcAt n.l i).cap ≤ 4611686018427387903 := by
  have e1 : capS n.l (i + 1) ≤ capS n.l n.l.length := sumTo_mono hR.cap0 (by omega)
  have e2 : 0 ≤ capS n.l i := sumTo_nn fun j hj => hR.cap0 j (by omega)
  have e3 : capS n.l (i + 1) = capS n.l i + (arcAt n.l i).cap := rfl
  have := hR.sum
  omega
theorem bgn_fin {n : Net} (hR : Right n) {g : List Int} {a : Nat} (hf : fstA n.l g 0 = some a) : bgn n g ≠ fin n g ∧ 1 ≤ bgn n g ∧ bgn n g ≤ n.n := by
  obtain ⟨a1, a2, -⟩ := fst_some hf
  have h0 := hR.fr0 a a1; have h1 := hR.fr1 a a1; have hs0 := hR.s0; have hs1 := hR.s1; have ht0 := hR.t0; have ht1 := hR.t1; have hne := hR.ne
  unfold bgn fin
  by_cases p : 0 < exc n.l g n.t
  · rw [if_pos p, if_pos p]; exact ⟨hne, hs0, hs1⟩
  · rw [if_neg p, if_neg p]
    by_cases q : exc n.l g n.t < 0
    · rw [if_pos q, if_pos q]; exact ⟨Ne.symm hne, ht0, ht1⟩
    · rw [if_neg q, if_neg q, hf]; exact ⟨by simp only; omega, h0, h1⟩
/-- what a walk that was found makes an item -/
theorem itm_wlk {n : Net} (hR : Right n) {g : List Int} (hL : Lf n g) {a : Nat} (hf : fstA n.l g 0 = some a) : ∃ b Q, wlk n.l g (fin n g) (n.n.toNat + 1) (bgn n g) [] = some (b, Q) ∧ (itm n g).arcs = Q ∧ (b = true → (itm n g).kind = kdB n g) ∧ (b = false → (itm n g).kind = 99) := by
  have hx := itm_is hR hL hf
  rcases hw : wlk n.l g (fin n g) (n.n.toNat + 1) (bgn n g) [] with _ | ⟨b, Q⟩
  · have e : itm n g = ⟨99, [], 0⟩ := by unfold itm; rw [hw]
    rw [e] at hx
    exact absurd rfl hx.ne
  · refine ⟨b, Q, rfl, ?_⟩
    rcases b with _ | _
    · have e : itm n g = ⟨99, Q, lst g (amt g (Q.getD 0 0)) Q⟩ := by unfold itm; rw [hw]
      rw [e]; exact ⟨rfl, fun h => (nomatch h), fun _ => rfl⟩
    · have h0 := wlk_end hR hL hf hw
      by_cases p : 0 < exc n.l g n.t
      · have e : itm n g = ⟨112, Q, lst g (exc n.l g n.t) Q⟩ := by unfold itm; rw [hw]; simp only; rw [if_pos p]
        rw [e]; exact ⟨rfl, fun _ => by unfold kdB; rw [if_pos p], fun h => (nomatch h)⟩
      · have e : itm n g = ⟨98, Q, lst g (-exc n.l g n.t) Q⟩ := by unfold itm; rw [hw]; simp only; rw [if_neg p]
        rw [e]; exact ⟨rfl, fun _ => by unfold kdB; rw [if_neg p, if_pos (by omega)], fun h => (nomatch h)⟩
/-- an item's amount -/
theorem itm_amount {n : Net} (hR : Right n) {g : List Int} (hL : Lf n g) {a : Nat} (hf : fstA n.l g 0 = some a) : ((itm n g).kind = 112 ∧ (itm n g).amount = min (lsA g (itm n g).arcs) (exc n.l g n.t)) ∨ ((itm n g).kind = 98 ∧ (itm n g).amount = min (lsA g (itm n g).arcs) (-exc n.l g n.t)) ∨ ((itm n g).kind = 99 ∧ (itm n g).amount = lsA g (itm n g).arcs) := by
  have hx := itm_is hR hL hf
  obtain ⟨b, Q, hw, hq, -, -⟩ := itm_wlk hR hL hf
  have hne := hx.ne
  rcases b with _ | _
  · have e : itm n g = ⟨99, Q, lst g (amt g (Q.getD 0 0)) Q⟩ := by unfold itm; rw [hw]
    rw [e]; exact Or.inr (Or.inr ⟨rfl, rfl⟩)
  · by_cases p : 0 < exc n.l g n.t
    · have e : itm n g = ⟨112, Q, lst g (exc n.l g n.t) Q⟩ := by unfold itm; rw [hw]; simp only; rw [if_pos p]
      rw [hq] at hne
      rw [e]; exact Or.inl ⟨rfl, lst_min hne _⟩
    · have e : itm n g = ⟨98, Q, lst g (-exc n.l g n.t) Q⟩ := by unfold itm; rw [hw]; simp only; rw [if_neg p]
      rw [hq] at hne
      rw [e]; exact Or.inr (Or.inl ⟨rfl, lst_min hne _⟩)
section
variable {n : Net} {ao : Option Addr} {cap : Nat} {w0 w : World} {rb lb lo hi : Nat} {av : Value} {g : List Int} {x : Int} {va : Value} {A : List Nat} {VS : Nat → Value} {U : Nat → List Nat}
theorem take_itm (hR : Right n) (hL : Lf n g) {a : Nat} (hf : fstA n.l g 0 = some a) (st : RsM n ao cap w0 w rb lb lo hi av g (exc n.l g n.t) va A VS U) (ro : Option Addr) (rc : Nat) (hrow : ∀ w', Off (RsF rb lb av) w w' → IRow w' ro (encW (itm n g).arcs)) :
    Calls Try.prog 39 #[.pointer (some ⟨rb, 0, none⟩), .int .u8 (itm n g).kind, .slice ro (itm n g).arcs.length rc] w fun e w' => e = .returned (.agg #[.int .u8 (itm n g).kind, .slice ro (itm n g).arcs.length rc, .int .i64 (itm n g).amount]) ∧ RsM n ao cap w0 w' rb lb lo hi av (tk g (itm n g)) (exc n.l (tk g (itm n g)) n.t) va A VS U ∧ Off (RsF rb lb av) w w' := by
  have hx := itm_is hR hL hf
  have hlen := hL.len
  have hl2 := hR.len
  have hin : ∀ a ∈ (itm n g).arcs, a < g.length ∧ 0 ≤ amt g a ∧ amt g a ≤ 4611686018427387904 := fun b hb => by
    have h1 := hx.inn b hb
    have h2 := hL.wi b h1.1
    have h3 := cap_top hR h1.1
    exact ⟨by omega, h2.1, by omega⟩
  have hnd := beg_nodup hx.nd
  have hRl := node_len hR (fun b hb => (hx.inn b hb).1) hx.nd
  have hn1 := hR.n1
  obtain ⟨e1, e2⟩ := exc_bd hR hL.wi n.t
  have hv := tk_val hR hL hx
  have hpos := hx.pos
  rw [hv]
  unfold tk
  unfold leds
  rcases itm_amount hR hL hf with ⟨hk, ha⟩ | ⟨hk, ha⟩ | ⟨hk, ha⟩
  · rw [hk, if_pos rfl]
    have := take_p st (itm n g).arcs ro rc hx.ne hin hnd hrow (by omega) (by omega) ⟨by omega, by omega⟩ (by omega)
    rw [← ha] at this; exact this
  · rw [hk, if_neg (by decide), if_pos rfl]
    have := take_b st (itm n g).arcs ro rc hx.ne hin hnd hrow (by omega) (by omega) ⟨by omega, by omega⟩ (by omega)
    rw [← ha] at this
    rw [Int.sub_neg]; exact this
  · rw [hk, if_neg (by decide), if_neg (by decide)]
    have := take_c st (itm n g).arcs ro rc hx.ne hin hnd hrow (by omega) (by omega) ⟨by omega, by omega⟩ (by omega)
    rw [← ha] at this
    rw [Int.sub_zero]; exact this
/-- the lists of what lasts, node by node -/
def LgU (n : Net) (g : List Int) (U : Nat → List Nat) : Prop := ∀ v : Nat, 1 ≤ v → v < n.n.toNat + 1 → Lag g (arcsV n.l (v : Int)) (U v)
theorem LgU.fall {n : Net} {g : List Int} {U : Nat → List Nat} (h : LgU n g U) {X : Itm} (hL : Lf n g) (hX : IsI n g X) : LgU n (tk g X) U := fun v h1 h2 => (h v h1 h2).fall fun a ha => by
  rw [tk_at hL hX]
  split
  · rename_i hm
    have := (hX.inn a hm).2; have := hX.pos; omega
  · omega
theorem ahead_rest (hR : Right n) (hL : Lf n g) (st : RsM n ao cap w0 w rb lb lo hi av g x va A VS U) (hU : LgU n g U) {u : Int} (h1 : 1 ≤ u) (h2 : u ≤ n.n) {a : Nat} (hfa : fstA n.l g u = some a) :
    Calls Try.prog 40 #[.pointer (some ⟨rb, 0, none⟩), .int .i64 u] w fun e w' => ∃ VS' U', e = .returned (.int .i64 (a : Int)) ∧ RsM n ao cap w0 w' rb lb lo hi av g x va A VS' U' ∧ LgU n g U' ∧ Off (RsF rb lb av) w w' := by
  obtain ⟨v, rfl⟩ : ∃ v : Nat, u = (v : Int) := ⟨u.toNat, by omega⟩
  have hv : v < n.n.toNat + 1 := by omega
  have hg := hU v (by omega) hv
  have h3 := lag_fst hL.wi hg
  rw [hfa] at h3
  obtain ⟨T, hT⟩ : ∃ T, las g (U v) = a :: T := by
    rcases he : las g (U v) with _ | ⟨c, T⟩
    · rw [he] at h3; cases h3
    · rw [he] at h3; simp at h3; exact ⟨T, by rw [h3]⟩
  have hl := hL.len
  have hl2 := hR.len
  refine (ahead_any st v hv (fun c hc => by have := (arcsV_mem.1 (hg.mem hc)).1; omega) (by omega) hT).mono ?_
  rintro e w' ⟨VS', rfl, h4, h5⟩
  refine ⟨VS', _, rfl, h4, fun k k1 k2 => ?_, h5⟩
  by_cases c : k = v
  · subst c
    simp only [if_true]
    rw [← hT]; exact hg.las
  · simp only [if_neg c]; exact hU k k1 k2
end
/-- at the head of next's loop: the walk's end, a node that was met, or on -/
def NSt (l : List Arc) (g : List Int) (en u : Int) (R : List Nat) (k : Nat) (b : Bool) (Q : List Nat) : Prop :=
  (u = en ∧ b = true ∧ Q = R) ∨ (u ≠ en ∧ ∃ i, ixOf (beg l R) u = some i ∧ b = false ∧ Q = R.drop i) ∨ (u ≠ en ∧ ixOf (beg l R) u = none ∧ wlk l g en k u R = some (b, Q))
theorem nst_step {n : Net} (hR : Right n) {g : List Int} {en u : Int} {R : List Nat} {k : Nat} {b : Bool} {Q : List Nat} (h : wlk n.l g en k u R = some (b, Q)) (hu : 1 ≤ u) :
    ∃ k' a, k = k' + 1 ∧ fstA n.l g u = some a ∧ a < n.l.length ∧ beg n.l (R ++ [a]) = beg n.l R ++ [u] ∧ NSt n.l g en (arcAt n.l a).to (R ++ [a]) k' b Q := by
  obtain ⟨k', a, rfl, hf, hc⟩ := wlk_step h
  obtain ⟨a1, a2, a3⟩ := fst_some hf
  have hfr : (arcAt n.l a).fr = u := a3.resolve_left (by omega)
  refine ⟨k', a, rfl, hf, a1, by rw [beg_snoc, hfr], ?_⟩
  rcases hc with ⟨h1, h2, h3⟩ | ⟨h1, i, h2, h3, h4⟩ | ⟨h1, h2, h3⟩
  · exact Or.inl ⟨h1, h2, h3⟩
  · exact Or.inr (Or.inl ⟨h1, i, h2, h3, h4⟩)
  · exact Or.inr (Or.inr ⟨h1, h2, h3⟩)
end Dc
end Go.Proofs.Ytkeojkddbannpaa
