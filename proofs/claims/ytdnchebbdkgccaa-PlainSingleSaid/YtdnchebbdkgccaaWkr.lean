/-
  Stage 8: rows of walks in memory, of either type; a step of a flow that blocks; slices.Clone of any row of amounts. No condition.
-/
import Derived.Test.YtdnchebbdkgccaaSrm
import Derived.Test.YtdnchebbdkgccaaRfp6
namespace Go.Proofs.Ytdnchebbdkgccaa
open Go.ChangeShapes Go.WideShapes Go.ChangeAt Go.RowKit
set_option linter.unusedVariables false
set_option linter.unusedSimpArgs false
namespace Ne
/-- a walk's cells: where its tracks lie, its amount -/
structure WkC where
  o : Option Addr
  len : Nat
  cap : Nat
  am : Int
def encK (k : WkC) : List Value := [.slice k.o k.len k.cap, .int .i64 k.am]
theorem encK_len (k : WkC) : (encK k).length = 2 := rfl
theorem encK_one (k : WkC) : ∀ u ∈ encK k, u.oneCell' = true := by intro u hu; simp [encK] at hu; rcases hu with h | h <;> (subst h; rfl)
theorem elemK : Rw.Elem 54 27 2 32 (.agg #[.slice none 0 0, .int .i64 0]) := ⟨by kernel_rfl, Try.underlying27, rfl, by decide, by decide⟩
theorem elemKr : Rw.Elem 76 31 2 32 (.agg #[.slice none 0 0, .int .i64 0]) := ⟨by kernel_rfl, Try.underlying31, rfl, by decide, by decide⟩
/-- rows of other types lie in other blocks -/
theorem own_types {α β : Type} {e e2 : TypeId} {k k2 : Nat} {enc : α → List Value} {enc2 : β → List Value} {w : World} {B B2 : Nat} {v v2 : Value} {xs : List α} {ys : List β} (hne : e ≠ e2) (h : Rw.Own e k enc w B v xs) (h2 : Rw.Own e2 k2 enc2 w B2 v2 ys) : ∀ g, v.ownBlock = some g → v2.ownBlock ≠ some g := by
  intro g hg hg2
  obtain ⟨_, h⟩ := h
  obtain ⟨_, h2⟩ := h2
  rcases h with ⟨hv, _⟩ | ⟨b, c, cur, hv, _, hh, _⟩
  · rw [hv] at hg; simp [Value.ownBlock] at hg
  rcases h2 with ⟨hv2, _⟩ | ⟨b2, c2, cur2, hv2, _, hh2, _⟩
  · rw [hv2] at hg2; simp [Value.ownBlock] at hg2
  rw [hv] at hg; rw [hv2] at hg2
  simp [Value.ownBlock] at hg hg2
  subst hg; subst hg2
  rw [hh] at hh2
  simp at hh2
  exact hne hh2.2
/-- a row of walks, of element type e: each walk's tracks lie in a row of their own -/
def WkR (e : TypeId) (w : World) (B : Nat) (v : Value) (Ws : List (List Nat × Int)) : Prop :=
  ∃ Ks : List WkC, Rw.Own e 2 encK w B v Ks ∧ Ks.length = Ws.length ∧ ∀ (i : Nat) (k : WkC) (p : List Nat × Int), Ks[i]? = some k → Ws[i]? = some p → OwnI w B (.slice k.o k.len k.cap) (encW p.1) ∧ k.am = p.2
section
variable {e : TypeId} {w w2 : World} {B : Nat} {v : Value} {Ws : List (List Nat × Int)}
theorem wkr_nil (e : TypeId) (w : World) (B : Nat) : WkR e w B (.slice none 0 0) [] := ⟨[], Rw.own_nil _ _, rfl, fun i k p h => by simp at h⟩
theorem WkR.same (h : WkR e w B v Ws) (hk : ∀ g, B ≤ g → g < w.heap.size → w2.heap[g]? = w.heap[g]?) : WkR e w2 B v Ws := by
  obtain ⟨Ks, h1, h2, h3⟩ := h
  refine ⟨Ks, own_same h1 fun g hg => hk g (Rw.own_lt h1 g hg).1 (Rw.own_lt h1 g hg).2, h2, fun i k p hi hp => ?_⟩
  obtain ⟨g1, g2⟩ := h3 i k p hi hp
  exact ⟨own_same g1 fun g hg => hk g (Rw.own_lt g1 g hg).1 (Rw.own_lt g1 g hg).2, g2⟩
theorem WkR.kept (h : WkR e w B v Ws) (hb : Below w.heap.size w w2) : WkR e w2 B v Ws := h.same fun g _ hg => hb.block g hg
theorem WkR.but {b : Nat} (h : WkR e w B v Ws) (hb : But b w w2) (hbB : b < B) : WkR e w2 B v Ws := h.same fun g h1 h2 => hb.block g h2 (by omega)
theorem WkR.base {B' : Nat} (h : WkR e w B v Ws) (hB : B' ≤ B) : WkR e w B' v Ws := by
  obtain ⟨Ks, h1, h2, h3⟩ := h
  exact ⟨Ks, Rw.own_base h1 hB, h2, fun i k p hi hp => ⟨Rw.own_base (h3 i k p hi hp).1 hB, (h3 i k p hi hp).2⟩⟩
/-- its value -/
theorem WkR.val (h : WkR e w B v Ws) : ∃ o c, v = .slice o Ws.length c ∧ Ws.length ≤ c ∧ c ≤ maxLen ∧ (o = none → c = 0) := by
  obtain ⟨Ks, h1, h2, _⟩ := h
  obtain ⟨o, c, g1, g2, g3, g4, _⟩ := Rw.own_row encK_len h1
  rw [h2] at g1 g2
  exact ⟨o, c, g1, g2, g3, g4⟩
/-- what it tells at an index -/
theorem WkR.at (h : WkR e w B v Ws) {i : Nat} (hi : i < Ws.length) : ∃ g c o m am, v = .slice (some ⟨g, 0, none⟩) Ws.length c ∧ B ≤ g ∧ g < w.heap.size ∧ w.cell? ⟨g, i * 2, none⟩ = some (.slice o (Ws.getD i ([], 0)).1.length m) ∧ w.cell? ⟨g, i * 2 + 1, none⟩ = some (.int .i64 am) ∧ am = (Ws.getD i ([], 0)).2 ∧ OwnI w B (.slice o (Ws.getD i ([], 0)).1.length m) (encW (Ws.getD i ([], 0)).1) := by
  obtain ⟨Ks, h1, h2, h3⟩ := h
  have hk : i < Ks.length := by omega
  have hp : Ws[i]? = some (Ws.getD i ([], 0)) := by rw [List.getD_eq_getElem?_getD, List.getElem?_eq_getElem hi]; rfl
  obtain ⟨g1, g2⟩ := h3 i _ _ (List.getElem?_eq_getElem hk) hp
  obtain ⟨o, c, hv, _⟩ := Rw.own_row encK_len h1
  rw [hv] at h1
  obtain ⟨g, rfl, hg1, hg2, hc, _⟩ := own_cells encK_len h1 (List.getElem?_eq_getElem hk)
  obtain ⟨o', c', e1, _⟩ := Rw.own_row encI_len g1
  rw [encW_len] at e1
  simp only [Value.slice.injEq] at e1
  obtain ⟨_, e2, _⟩ := e1
  have c0 := hc 0 _ rfl
  have c1 := hc 1 _ rfl
  rw [e2] at c0 g1
  exact ⟨g, c, _, _, _, by rw [hv, h2], hg1, hg2, by simpa using c0, c1, g2, g1⟩
end
/-- what is appended -/
theorem wkr_snoc {e : TypeId} {w w2 : World} {B : Nat} {v v2 : Value} {Ws : List (List Nat × Int)} {Ks : List WkC} (hne : (3 : TypeId) ≠ e) (h1 : Rw.Own e 2 encK w B v Ks) (h2 : Ks.length = Ws.length) (h3 : ∀ (i : Nat) (k : WkC) (p : List Nat × Int), Ks[i]? = some k → Ws[i]? = some p → OwnI w B (.slice k.o k.len k.cap) (encW p.1) ∧ k.am = p.2)
    (hg : w.grownBy w2 v.ownBlock) {k : WkC} (h4 : Rw.Own e 2 encK w2 B v2 (Ks ++ [k])) {R : List Nat} {a : Int} (hR : OwnI w B (.slice k.o k.len k.cap) (encW R)) (ha : k.am = a) : WkR e w2 B v2 (Ws ++ [(R, a)]) := by
  have keep : ∀ {x : Value} {l : List Int}, OwnI w B x l → OwnI w2 B x l := fun hx => own_same hx fun g hg2 => hg.block g (Rw.own_lt hx g hg2).2 fun e2 => own_types hne hx h1 g hg2 e2.symm
  refine ⟨Ks ++ [k], h4, by simp [h2], fun i k' p hi hp => ?_⟩
  rcases Nat.lt_trichotomy i Ks.length with c | c | c
  · rw [List.getElem?_append_left c] at hi
    rw [List.getElem?_append_left (by omega)] at hp
    obtain ⟨g1, g2⟩ := h3 i k' p hi hp
    exact ⟨keep g1, g2⟩
  · subst c
    rw [List.getElem?_append_right (Nat.le_refl _)] at hi
    rw [h2, List.getElem?_append_right (Nat.le_refl _)] at hp
    simp at hi hp
    subst hi; subst hp
    exact ⟨keep hR, ha⟩
  · rw [List.getElem?_eq_none (by simp; omega)] at hi; cases hi
theorem cap_62 {n : Net} (hR : Right n) {r : Nat} (h : r < 2 * n.l.length) : (arcAt n.l (r / 2)).cap ≤ 4611686018427387903 := cap_topR hR (by omega)
/-- all that a step of a flow that blocks asks, and tells -/
structure BlkStep (n : Net) (TL : List Nat) (g : List Int) (x : Int) (RM : List Int) (U : Nat → List Nat) (R0 : Nat) (R' : List Nat) (a : Int) (g2 : List Int) : Prop where
  lt : ∀ r ∈ R0 :: R', r < 2 * n.l.length
  nd : (R0 :: R').Nodup
  b64 : ∀ r ∈ R0 :: R', 0 ≤ amt RM r ∧ amt RM r ≤ 4611686018427387904
  len : (R0 :: R').length ≤ 1000000
  least : Least n.l g (R0 :: R') a
  a64 : x ≤ a ∧ a ≤ 4611686018427387904
  tr64 : ∀ y ∈ encW (R0 :: R'), in64 y
  pE : pushE n g (encW (R0 :: R')) a = 0
  pV : pushV n g (encW (R0 :: R')) a = g2
  pN : pushN n.l g a (encW (R0 :: R')) = some g2
  flow : Okf n g2
  srch : Srch n TL g2 x (lessL RM a (R0 :: R')) U
  left : left n.l TL x g2 < left n.l TL x g
  value : exc n.l g2 n.t = exc n.l g n.t + a
theorem first_walk {n : Net} {TL : List Nat} {L : List Int} (hL : Lds n.l L TL) {g : List Int} {x : Int} {R : List Nat} (h : FirstW n.l TL g x n.t n.s R) : isWalk n (encW R) = true := by
  unfold isWalk
  rw [wlk_at hL (firstW_wlk h)]
  simp
theorem blk_step {n : Net} (ck : checkN n = 0) {TL : List Nat} {L : List Int} (hL : Lds n.l L TL) {g : List Int} {x : Int} (hx : 1 ≤ x) (hF : Okf n g) {RM : List Int} {U : Nat → List Nat} (hS : Srch n TL g x RM U) {R : List Nat} (h : FirstW n.l TL g x n.t n.s R) :
    ∃ R0 R' g2, R = R0 :: R' ∧ BlkStep n TL g x RM U R0 R' (minL RM (amt RM R0) (R0 :: R')) g2 := by
  have hR := right_of ck
  have hne := first_ne hR.ne h
  obtain ⟨R0, R', rfl⟩ : ∃ R0 R', R = R0 :: R' := by
    rcases R with _ | ⟨R0, R'⟩
    · exact absurd rfl hne
    · exact ⟨R0, R', rfl⟩
  have hw := firstW_wlk h
  have hm := wlk_mem hw
  have hle := least_min hS fun r hr => (hm r hr).1
  have hhalf := wlk_nodup hL hw
  obtain ⟨a, ha⟩ : ∃ a, a = minL RM (amt RM R0) (R0 :: R') := ⟨_, rfl⟩
  rw [← ha] at hle
  obtain ⟨q, hq, e⟩ := hle.one
  have hqx := (hm q hq).2
  have hlt : ∀ r ∈ R0 :: R', r < 2 * n.l.length := fun r hr => hL.lt r (hm r hr).1
  have hrn : ∀ r ∈ R0 :: R', 0 ≤ roomN n.l g r ∧ roomN n.l g r ≤ 4611686018427387903 := fun r hr => by
    have h1 := room_nn hF.wi (hlt r hr)
    have h2 := cap_62 hR (hlt r hr)
    omega
  obtain ⟨g2, hp, hg2, _⟩ := wlk_push hL hw hF.len hle.all
  have hiw := first_walk hL h
  have ha1 : 1 ≤ a := by omega
  have hlen : (R0 :: R').length ≤ 1000000 := by
    have h1 := nodup_len (L := n.l.length) hhalf fun i hi => by
      obtain ⟨r, hr, e2⟩ := List.mem_map.1 hi
      have := hlt r hr
      omega
    rw [List.length_map] at h1
    have := hR.len
    omega
  have hpE : pushE n g (encW (R0 :: R')) a = 0 := by
    unfold pushE
    rw [if_neg (by simpa using hF.chk ck), hiw, if_neg (by simp), if_neg (by omega), hp]
    simp
  obtain ⟨hF2, hv⟩ := okf_push hR hF (by omega) hiw hp
  refine ⟨R0, R', g2, rfl, ?_⟩
  rw [← ha]
  exact ⟨hlt, nodup_of_half hhalf, fun r hr => by rw [hS.rm r (hm r hr).1]; have := hrn r hr; omega, hlen, hle, ⟨by omega, by have := hrn q hq; omega⟩, fun y hy => by
      obtain ⟨r, hr, rfl⟩ : ∃ r ∈ R0 :: R', y = ((r : Nat) : Int) := by unfold encW at hy; obtain ⟨r, hr, e2⟩ := List.mem_map.1 hy; exact ⟨r, hr, e2.symm⟩
      have := hlt r hr; have := hR.len; unfold in64; omega, hpE, by unfold pushV; rw [if_neg (by rw [hpE]; simp), hp]; rfl, hp, hF2, srch_push hL hF.len hS hx h hle hp, left_step hL hw hF.len hx hle hp, hv⟩
set_option maxHeartbeats 1000000 in
theorem cloneL_any (l : List Int) (ao : Option Addr) (n cap : Nat) (w : World) (hn : n = l.length) (hr : IRow w ao l) (hl : l.length ≤ 1000000) :
    Calls Try.prog 32 #[.slice ao n cap] w fun e w' => ∃ o c, e = .returned (.slice o n c) ∧ OwnL w' w.heap.size (.slice o n c) l ∧ Below w.heap.size w w' := by
  rcases l with _ | ⟨z, zs⟩
  · simp only [List.length_nil] at hn
    subst hn
    have q : ∀ (w : World) (a : Option Addr) (n c n' c' : Nat), (binOp .eql 25 (.slice a n c) (.slice none n' c')).run Try.prog w = .ok (.bool a.isNone) w := fun w a n c n' c' => Lib.run_eql_slice_nil w _ _ a n c n' c' Try.underlying25
    rcases ao with _ | ad
    · go_enter Try.func32, Try.ntmps32
      go_wp2
      go_ret
      exact ⟨none, 0, rfl, Rw.own_nil _ _, Below.refl _ _⟩
    · have HR := Lib.hid (hr.kept ((Below.refl _ _).alloc (Nat.le_refl _) (.cells #[] 2)))
      clear hr hl
      go_enter Try.func32, Try.ntmps32
      go_wp2_with (at_builtin; refine Rw.app elemL encI_len encI_one rfl (.tmp 5) (.tmp 6) rfl w.heap.size _ ([] : List Int) rfl (own_empty w _ (Nat.le_refl _)) (some ad) cap ([] : List Int) rfl ?hnn HR.out (by simp) ?hB ?_; (case hnn => (intro h; cases h)); (case hB => (simp)); intro v2 w2 hown2 hgr2; have HO2 := Lib.hid hown2; have HB2 := Lib.hid (((Below.refl w.heap.size w).alloc (Nat.le_refl _) (.cells #[] 2)).grown hgr2 (by simp) (Rw.own_block (own_empty (α := Int) (k := 1) (enc := encI) (e := 2) w w.heap.size (Nat.le_refl _)))); clear hown2 hgr2)
      go_ret
      have h := HO2.out
      rw [List.nil_append] at h
      obtain ⟨o, c, h1, _, _, _, h2, _⟩ := Rw.own_row encI_len h
      rw [h1] at h
      exact ⟨o, c, by rw [h1]; rfl, h, HB2.out⟩
  · exact (clonel_any (z :: zs) ao n cap w hn hr hl (by simp)).mono fun e w' ⟨g, c, h1, h2, h3⟩ => ⟨_, c, h1, h2, h3⟩
end Ne
end Go.Proofs.Ytdnchebbdkgccaa
