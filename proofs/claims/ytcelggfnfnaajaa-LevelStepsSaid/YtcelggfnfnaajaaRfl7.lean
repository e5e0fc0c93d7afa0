/-
  Stage 7: the contracts of level at what is known to be a flow; facts per law. No condition.
  Stage 7's laws: plain facts on levels: of two rooms, far rooms, tracks that lead on, walks. No condition.
-/
import Derived.Test.YtcelggfnfnaajaaDld
import Derived.Test.YtcelggfnfnaajaaShown7
import Derived.Test.YtcelggfnfnaajaaRlw6
import Derived.Test.YtcelggfnfnaajaaTrn
namespace Go.Proofs.Ytcelggfnfnaajaa
open Go.ChangeShapes Go.WideShapes Go.ChangeAt Go.RowKit
set_option linter.unusedVariables false
set_option linter.unusedSimpArgs false
namespace Ne
theorem reE_flow {n : Net} {f : List Int} {x : Int} (ck : checkN n = 0) (hF : Flow n f) (hx : 1 ≤ x) : reE n f x = 0 := by
  unfold reE; rw [if_neg (by simpa using flow_chkF ck hF), if_neg (by omega)]
section
variable {n : Net} (ao : Option Addr) (cap : Nat) (fo : Option Addr) (fc : Nat) {f : List Int} (w : World) (ck : checkN n = 0) (hr : ARow w ao n.l) (hf : IRow w fo f) (hF : Flow n f) (x : Int) (hx : 1 ≤ x) {L : List Int} (hL : IsLev n f x L)
include ck hr hf hF hx hL
theorem levels_flow : Calls Try.prog 11 #[encN n ao cap, .slice fo n.l.length fc, .int .i64 x] w fun e w' => ∃ o c, e = .returned (.tuple #[.slice o (n.n.toNat + 1) c, .int .i64 0]) ∧ IRow w' o L ∧ Below w.heap.size w w' := by
  have h := dlevels_any n ao cap fo fc f x L w hr hf (by have := (right_of ck).len; omega) (cap_64 (right_of ck)) (fun _ => hL)
  have e := reE_flow ck hF hx
  rw [hF.len, e, (lvV_ok e).1, hL.len] at h
  exact h
theorem leads_flow : Calls Try.prog 13 #[encN n ao cap, .slice fo n.l.length fc, .int .i64 x] w fun e w' => ∃ o c, e = .returned (.tuple #[.slice o (leadL n.l f x L (2 * n.l.length)).length c, .int .i64 0]) ∧ IRow w' o (encW (leadL n.l f x L (2 * n.l.length))) ∧ Below w.heap.size w w' := by
  have h := dleads_any n ao cap fo fc f x L w hr hf (by have := (right_of ck).len; omega) (cap_64 (right_of ck)) (fun _ => hL)
  have e := reE_flow ck hF hx
  rw [hF.len, e, (lvV_ok e).2.1] at h
  exact h
theorem deep_flow : Calls Try.prog 15 #[encN n ao cap, .slice fo n.l.length fc, .int .i64 x] w fun e w' => e = .returned (.tuple #[.int .i64 (amt L n.t.toNat), .int .i64 0]) ∧ Below w.heap.size w w' := by
  have h := ddeep_any n ao cap fo fc f x L w hr hf (by have := (right_of ck).len; omega) (cap_64 (right_of ck)) (fun _ => hL)
  have e := reE_flow ck hF hx
  rw [hF.len, e, (lvV_ok e).2.2] at h
  exact h
end
end Ne
end Go.Proofs.Ytcelggfnfnaajaa
namespace Go.Proofs.Ytcelggfnfnaajaa
open Go.ChangeShapes Go.WideShapes Go.ChangeAt Go.RowKit
set_option linter.unusedVariables false
set_option linter.unusedSimpArgs false
namespace Ne
section
variable {n : Net} {f : List Int} {x : Int} {L : List Int}
theorem lev_rooms (hR : Right n) {y : Int} {L2 : List Int} (h1 : IsLev n f x L) (h2 : IsLev n f y L2) (hxy : x ≤ y) {i : Nat} (hi : i < n.n.toNat + 1) (h0 : 0 ≤ amt L2 i) : 0 ≤ amt L i ∧ amt L i ≤ amt L2 i := by
  obtain ⟨k, e, hd⟩ := lev_node h2 hi h0
  have := h1.low k _ (dst_less hxy hd)
  rw [Int.toNat_natCast] at this
  omega
theorem lev_far (hR : Right n) (h : IsLev n f x L) (hr : ∀ r, r < 2 * n.l.length → roomN n.l f r < x) {i : Nat} (hi : i < n.n.toNat + 1) : amt L i = if (i : Int) = n.s then 0 else -1 := by
  by_cases e : (i : Int) = n.s
  · rw [if_pos e]
    have := lev_src hR h
    rwa [show n.s.toNat = i by omega] at this
  · rw [if_neg e]
    rcases h.val i hi with e2 | ⟨k, _, hd⟩
    · exact e2
    · exact absurd (rch_far hr (dst_rch hd)) e
theorem lead_far (hr : ∀ r, r < 2 * n.l.length → roomN n.l f r < x) : leadL n.l f x L (2 * n.l.length) = [] := by
  rw [List.eq_nil_iff_forall_not_mem]
  intro r hm
  obtain ⟨h1, h2, _⟩ := leadL_mem.1 hm
  have := hr r h1
  omega
theorem room_far (hR : Right n) (hw : wi n.l f) : ∀ r, r < 2 * n.l.length → roomN n.l f r < 4611686018427387904 := fun r hr => by
  have := (room_nn hw hr).2
  have := cap_topR hR (i := r / 2) (by omega)
  omega
/-- what a track that leads on says -/
theorem lead_says (hR : Right n) (h : IsLev n f x L) {r : Nat} (hm : r ∈ leadL n.l f x L (2 * n.l.length)) :
    r < 2 * n.l.length ∧ x ≤ roomN n.l f r ∧ (trF n.l r).toNat < n.n.toNat + 1 ∧ (trT n.l r).toNat < n.n.toNat + 1 ∧ 1 ≤ (trF n.l r).toNat ∧ 1 ≤ (trT n.l r).toNat ∧ 0 ≤ amt L (trF n.l r).toNat ∧ amt L (trT n.l r).toNat = amt L (trF n.l r).toNat + 1 ∧ (trT n.l r).toNat ≠ n.s.toNat ∧ (trF n.l r).toNat ≠ (trT n.l r).toNat ∧ opp r ∉ leadL n.l f x L (2 * n.l.length) := by
  obtain ⟨h1, h2, h3, h4⟩ := leadL_mem.1 hm
  have hb := trF_bd hR h1; have hb2 := trT_bd hR h1
  refine ⟨h1, h2, by omega, by omega, by omega, by omega, h3, h4, fun e => ?_, fun e => ?_, fun ho => ?_⟩
  · have := lev_src hR h; rw [← e] at this; omega
  · rw [e] at h4; omega
  · obtain ⟨_, _, _, h5⟩ := leadL_mem.1 ho
    rw [trT_opp, trF_opp] at h5; omega
/-- each level above nothing is come to by a track that leads on -/
theorem lead_to (hR : Right n) (h : IsLev n f x L) {i k : Nat} (hi : i < n.n.toNat + 1) (e : amt L i = ((k + 1 : Nat) : Int)) : ∃ r ∈ leadL n.l f x L (2 * n.l.length), (trT n.l r).toNat = i ∧ amt L (trF n.l r).toNat = (k : Int) := by
  obtain ⟨r, hr, hx, ht, e2⟩ := lev_prev hR h hi e
  refine ⟨r, leadL_mem.2 ⟨hr, hx, by omega, ?_⟩, by omega, e2⟩
  rw [show (trT n.l r).toNat = i by omega, e, e2]; omega
end
/-- a walk of k tracks with room, from u to v, told from its beginning on -/
inductive Pth (l : List Arc) (f : List Int) (x : Int) : Nat → Int → Int → Prop
  | nil (v : Int) : Pth l f x 0 v v
  | cons {k r : Nat} {v : Int} : r < 2 * l.length → x ≤ roomN l f r → Pth l f x k (trT l r) v → Pth l f x (k + 1) (trF l r) v
theorem pth_snoc {l : List Arc} {f : List Int} {x : Int} {k r : Nat} {u v : Int} (h : Pth l f x k u v) (hr : r < 2 * l.length) (hx : x ≤ roomN l f r) (e : v = trF l r) : Pth l f x (k + 1) u (trT l r) := by
  induction h with
  | nil v => subst e; exact .cons hr hx (.nil _)
  | cons h1 h2 _ ih => exact .cons h1 h2 (ih e)
theorem dst_pth {n : Net} {f : List Int} {x : Int} {k : Nat} {v : Int} (h : Dst n f x k v) : Pth n.l f x k n.s v := by
  induction h with
  | base => exact .nil _
  | step hr hx _ ih => exact pth_snoc ih hr hx rfl
theorem tr_turn {l : List Arc} {f : List Int} {r : Nat} (hr : r < 2 * l.length) : trF (l.map turnA) r = trT l r ∧ trT (l.map turnA) r = trF l r ∧ roomN (l.map turnA) f r = roomN l f r := by
  unfold trF trT roomN
  rw [arcAt_turn (by omega)]
  exact ⟨rfl, rfl, rfl⟩
theorem pth_turn {n : Net} {f : List Int} {x : Int} {k : Nat} {u : Int} (h : Pth n.l f x k u n.t) : Dst (turnN n) f x k u := by
  obtain ⟨v, hv⟩ : ∃ v, v = n.t := ⟨_, rfl⟩
  rw [← hv] at h
  induction h with
  | nil v => rw [hv]; exact .base
  | @cons k r v h1 h2 _ ih =>
    obtain ⟨e1, e2, e3⟩ := tr_turn (f := f) h1
    have h4 := Dst.step (n := turnN n) (f := f) (x := x) (k := k) (r := r) (by simpa [turnN] using h1) (by show x ≤ roomN (n.l.map turnA) f r; rw [e3]; exact h2) (by show Dst (turnN n) f x k (trF (n.l.map turnA) r); rw [e1]; exact ih hv)
    have h5 : trT (turnN n).l r = trF n.l r := e2
    rwa [h5] at h4
theorem turn_turn (n : Net) : turnN (turnN n) = n := by
  obtain ⟨a, b, c, l⟩ := n
  have : (l.map turnA).map turnA = l := by rw [List.map_map]; exact (List.map_congr_left (fun x _ => rfl)).trans (List.map_id l)
  show (⟨a, b, c, (l.map turnA).map turnA⟩ : Net) = _
  rw [this]
theorem turned_le {n : Net} {f : List Int} {x : Int} {L1 L2 : List Int} (hR : Right n) (h1 : IsLev n f x L1) (h2 : IsLev (turnN n) f x L2) (h0 : 0 ≤ amt L1 n.t.toNat) : 0 ≤ amt L2 n.s.toNat ∧ amt L2 n.s.toNat ≤ amt L1 n.t.toNat := by
  have ht0 := hR.t0; have ht1 := hR.t1
  obtain ⟨k, e, hd⟩ := lev_node h1 (i := n.t.toNat) (by omega) h0
  rw [show ((n.t.toNat : Nat) : Int) = n.t by omega] at hd
  have := h2.low k n.s (pth_turn (dst_pth hd))
  omega
theorem lev_turned {n : Net} {f : List Int} {x : Int} {L1 L2 : List Int} (hR : Right n) (hR2 : Right (turnN n)) (h1 : IsLev n f x L1) (h2 : IsLev (turnN n) f x L2) : amt L1 n.t.toNat = amt L2 n.s.toNat := by
  have hs0 := hR.s0; have hs1 := hR.s1; have ht0 := hR.t0; have ht1 := hR.t1
  have a := turned_le hR h1 h2
  have b := turned_le hR2 h2 (by rw [turn_turn]; exact h1)
  have b' : 0 ≤ amt L2 n.s.toNat → 0 ≤ amt L1 n.t.toNat ∧ amt L1 n.t.toNat ≤ amt L2 n.s.toNat := b
  have c1 := (lev_lt hR h1 (i := n.t.toNat) (by omega)).1
  have c2 := (lev_lt hR2 h2 (i := n.s.toNat) (by show n.s.toNat < n.n.toNat + 1; omega)).1
  by_cases d1 : 0 ≤ amt L1 n.t.toNat
  · have := a d1; have := b' this.1; omega
  · by_cases d2 : 0 ≤ amt L2 n.s.toNat
    · have := b' d2; omega
    · omega
theorem reE_turned {n : Net} {f : List Int} {x : Int} (hck : checkN (turnN n) = 0) (hF : Flow n f) (hx : 1 ≤ x) : reE (turnN n) f x = 0 := by
  unfold reE; rw [if_neg (by simpa using (calm_chk hck (turn_calm hF)).1), if_neg (by omega)]
/-- what the sink's level says -/
theorem sink_says {n : Net} {f : List Int} {x : Int} {L : List Int} {M : List Bool} (hR : Right n) (h : IsLev n f x L) (hM : IsReach n f x M) : M.getD n.t.toNat false = decide (0 ≤ amt L n.t.toNat) ∧ amt L n.t.toNat < n.n ∧ amt L n.t.toNat ≠ 0 := by
  have ht0 := hR.t0; have ht1 := hR.t1; have hs0 := hR.s0
  refine ⟨?_, (lev_lt hR h (by omega)).2, fun e => ?_⟩
  · have a := lev_rch hR h (i := n.t.toNat) (by omega)
    have b := reach_iff hR hM n.t.toNat
    rw [Bool.eq_iff_iff, b, ← a]; simp
  · have := lev_only hR h (i := n.t.toNat) (by omega) e
    have := hR.ne
    omega
end Ne
end Go.Proofs.Ytcelggfnfnaajaa
