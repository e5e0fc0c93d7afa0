/-
  Wkr, Lst
-/
import Derived.Test.YtiaddfmgkcebnaaBunC7
import Derived.Test.YtiaddfmgkcebnaaBunC16
import Derived.Test.YtiaddfmgkcebnaaBunC9
import Derived.Test.YtiaddfmgkcebnaaBunC6
import Derived.RegionTactic
namespace Go.Proofs.Ytiaddfmgkcebnaa
open Go.ChangeShapes Go.WideShapes Go.ChangeAt Go.RowKit
open Lib (hid)
set_option linter.unusedVariables false
set_option linter.unusedSimpArgs false
namespace Ne
structure WkC where
  o : Option Addr
  len : Nat
  cap : Nat
  am : Int
def encK (k : WkC) : List Value := [.slice k.o k.len k.cap, .int .i64 k.am]
theorem encK_len (k : WkC) : (encK k).length = 2 := rfl
theorem encK_one (k : WkC) : ∀ u ∈ encK k, u.oneCell' = true := by intro u hu; simp [encK] at hu; rcases hu with h | h <;> (subst h; rfl)
theorem elemK : Rw.Elem 85 40 2 32 (.agg #[.slice none 0 0, .int .i64 0]) := ⟨by kernel_rfl, Try.underlying40, rfl, by decide, by decide⟩
def WkR (e : TypeId) (w : World) (B : Nat) (v : Value) (Ws : List (List Nat × Int)) : Prop :=
  ∃ Ks : List WkC, Rw.Own e 2 encK w B v Ks ∧ Ks.length = Ws.length ∧ ∀ (i : Nat) (k : WkC) (p : List Nat × Int), Ks[i]? = some k → Ws[i]? = some p → OwnI w B (.slice k.o k.len k.cap) (encW p.1) ∧ k.am = p.2
section
variable {e : TypeId} {w w2 : World} {B : Nat} {v : Value} {Ws : List (List Nat × Int)}
theorem wkr_nil (e : TypeId) (w : World) (B : Nat) : WkR e w B (.slice none 0 0) [] := ⟨[], Rw.own_nil _ _, rfl, fun i k p h => by simp at h⟩
theorem WkR.same (h : WkR e w B v Ws) (hk : ∀ g, B ≤ g → g < w.heap.size → w2.heap[g]? = w.heap[g]?) : WkR e w2 B v Ws := by
  obtain ⟨Ks, h1, h2, h3⟩ := h
  refine ⟨Ks, own_same h1 fun g hg => hk g (Rw.own_lt h1 g hg).1 (Rw.own_lt h1 g hg).2, h2, fun i k p hi hp => ?_⟩
  obtain ⟨g1, g2⟩ := h3 i k p hi hp
  exact ⟨own_same g1 fun g hg => hk g (Rw.own_lt g1 g hg).1 (Rw.own_lt g1 g hg).2, g2⟩
theorem WkR.kept (h : WkR e w B v Ws) (hb : Below w.heap.size w w2) : WkR e w2 B v Ws := h.same fun g _ hg => hb.block g hg
theorem WkR.base {B' : Nat} (h : WkR e w B v Ws) (hB : B' ≤ B) : WkR e w B' v Ws := by
  obtain ⟨Ks, h1, h2, h3⟩ := h
  exact ⟨Ks, Rw.own_base h1 hB, h2, fun i k p hi hp => ⟨Rw.own_base (h3 i k p hi hp).1 hB, (h3 i k p hi hp).2⟩⟩
theorem WkR.val (h : WkR e w B v Ws) : ∃ o c, v = .slice o Ws.length c ∧ Ws.length ≤ c ∧ c ≤ maxLen ∧ (o = none → c = 0) := by
  obtain ⟨Ks, h1, h2, _⟩ := h
  obtain ⟨o, c, g1, g2, g3, g4, _⟩ := Rw.own_row encK_len h1
  rw [h2] at g1 g2
  exact ⟨o, c, g1, g2, g3, g4⟩
end
theorem wkr_snoc {e : TypeId} {w w2 : World} {B : Nat} {v v2 : Value} {Ws : List (List Nat × Int)} {Ks : List WkC} (hne : (3 : TypeId) ≠ e) (h1 : Rw.Own e 2 encK w B v Ks) (h2 : Ks.length = Ws.length) (h3 : ∀ (i : Nat) (k : WkC) (p : List Nat × Int), Ks[i]? = some k → Ws[i]? = some p → OwnI w B (.slice k.o k.len k.cap) (encW p.1) ∧ k.am = p.2)
    (hg : w.grownBy w2 v.ownBlock) {k : WkC} (h4 : Rw.Own e 2 encK w2 B v2 (Ks ++ [k])) {R : List Nat} {a : Int} (hR : OwnI w B (.slice k.o k.len k.cap) (encW R)) (ha : k.am = a) : WkR e w2 B v2 (Ws ++ [(R, a)]) := by
  have keep : ∀ {x : Value} {l : List Int}, OwnI w B x l → OwnI w2 B x l := fun hx => own_same hx fun g hg2 => hg.block g (Rw.own_lt hx g hg2).2 fun e2 => own_types hne hx h1 g hg2 e2.symm
  refine ⟨Ks ++ [k], h4, by simp [h2], fun i k' p hi hp => ?_⟩
  rcases Nat.lt_trichotomy i Ks.length with c | c | c
  · rw [List.getElem?_append_left c] at hi
    rw [List.getElem?_append_left (by omega)] at hp
    obtain ⟨g1, g2⟩ := h3 i k' p hi hp
    exact ⟨keep g1, g2⟩
  · subst c
    rw [List.getElem?_append_right (Nat.le_refl _)] at hi
    rw [h2, List.getElem?_append_right (Nat.le_refl _)] at hp
    simp at hi hp
    subst hi; subst hp
    exact ⟨keep hR, ha⟩
  · rw [List.getElem?_eq_none (by simp; omega)] at hi; cases hi
theorem cap_62 {n : Net} (hR : Right n) {r : Nat} (h : r < 2 * n.l.length) : (arcAt n.l (r / 2)).cap ≤ 4611686018427387903 := cap_topR hR (by omega)
structure BlkStep (n : Net) (TL : List Nat) (g : List Int) (x : Int) (RM : List Int) (U : Nat → List Nat) (R0 : Nat) (R' : List Nat) (a : Int) (g2 : List Int) : Prop where
  lt : ∀ r ∈ R0 :: R', r < 2 * n.l.length
  nd : (R0 :: R').Nodup
  b64 : ∀ r ∈ R0 :: R', 0 ≤ amt RM r ∧ amt RM r ≤ 4611686018427387904
  len : (R0 :: R').length ≤ 1000000
  least : Least n.l g (R0 :: R') a
  a64 : x ≤ a ∧ a ≤ 4611686018427387904
  tr64 : ∀ y ∈ encW (R0 :: R'), in64 y
  pE : pushE n g (encW (R0 :: R')) a = 0
  pV : pushV n g (encW (R0 :: R')) a = g2
  pN : pushN n.l g a (encW (R0 :: R')) = some g2
  flow : Okf n g2
  srch : Srch n TL g2 x (lessL RM a (R0 :: R')) U
  left : left n.l TL x g2 < left n.l TL x g
  value : exc n.l g2 n.t = exc n.l g n.t + a
theorem first_walk {n : Net} {TL : List Nat} {L : List Int} (hL : Lds n.l L TL) {g : List Int} {x : Int} {R : List Nat} (h : FirstW n.l TL g x n.t n.s R) : isWalk n (encW R) = true := by
  unfold isWalk
  rw [wlk_at hL (firstW_wlk h)]
  simp
theorem blk_step {n : Net} (ck : checkN n = 0) {TL : List Nat} {L : List Int} (hL : Lds n.l L TL) {g : List Int} {x : Int} (hx : 1 ≤ x) (hF : Okf n g) {RM : List Int} {U : Nat → List Nat} (hS : Srch n TL g x RM U) {R : List Nat} (h : FirstW n.l TL g x n.t n.s R) :
    ∃ R0 R' g2, R = R0 :: R' ∧ BlkStep n TL g x RM U R0 R' (minL RM (amt RM R0) (R0 :: R')) g2 := by
  have hR := right_of ck
  have hne := first_ne hR.ne h
  obtain ⟨R0, R', rfl⟩ : ∃ R0 R', R = R0 :: R' := by
    rcases R with _ | ⟨R0, R'⟩
    · exact absurd rfl hne
    · exact ⟨R0, R', rfl⟩
  have hw := firstW_wlk h
  have hm := wlk_mem hw
  have hle := least_min hS fun r hr => (hm r hr).1
  have hhalf := wlk_nodup hL hw
  obtain ⟨a, ha⟩ : ∃ a, a = minL RM (amt RM R0) (R0 :: R') := ⟨_, rfl⟩
  rw [← ha] at hle
  obtain ⟨q, hq, e⟩ := hle.one
  have hqx := (hm q hq).2
  have hlt : ∀ r ∈ R0 :: R', r < 2 * n.l.length := fun r hr => hL.lt r (hm r hr).1
  have hrn : ∀ r ∈ R0 :: R', 0 ≤ roomN n.l g r ∧ roomN n.l g r ≤ 4611686018427387903 := fun r hr => by
    have h1 := room_nn hF.wi (hlt r hr)
    have h2 := cap_62 hR (hlt r hr)
    omega
  obtain ⟨g2, hp, hg2, _⟩ := wlk_push hL hw hF.len hle.all
  have hiw := first_walk hL h
  have ha1 : 1 ≤ a := by omega
  have hlen : (R0 :: R').length ≤ 1000000 := by
    have h1 := nodup_len (L := n.l.length) hhalf fun i hi => by
      obtain ⟨r, hr, e2⟩ := List.mem_map.1 hi
      have := hlt r hr
      omega
    rw [List.length_map] at h1
    have := hR.len
    omega
  have hpE : pushE n g (encW (R0 :: R')) a = 0 := by
    unfold pushE
    rw [if_neg (by simpa using hF.chk ck), hiw, if_neg (by simp), if_neg (by omega), hp]
    simp
  obtain ⟨hF2, hv⟩ := okf_push hR hF (by omega) hiw hp
  refine ⟨R0, R', g2, rfl, ?_⟩
  rw [← ha]
  exact ⟨hlt, nodup_of_half hhalf, fun r hr => by rw [hS.rm r (hm r hr).1]; have := hrn r hr; omega, hlen, hle, ⟨by omega, by have := hrn q hq; omega⟩, fun y hy => by
      obtain ⟨r, hr, rfl⟩ : ∃ r ∈ R0 :: R', y = ((r : Nat) : Int) := by unfold encW at hy; obtain ⟨r, hr, e2⟩ := List.mem_map.1 hy; exact ⟨r, hr, e2.symm⟩
      have := hlt r hr; have := hR.len; unfold in64; omega, hpE, by unfold pushV; rw [if_neg (by rw [hpE]; simp), hp]; rfl, hp, hF2, srch_push hL hF.len hS hx h hle hp, left_step hL hw hF.len hx hle hp, hv⟩
set_option maxHeartbeats 1000000 in
theorem cloneL_any (l : List Int) (ao : Option Addr) (n cap : Nat) (w : World) (hn : n = l.length) (hr : IRow w ao l) (hl : l.length ≤ 1000000) :
    Calls Try.prog 34 #[.slice ao n cap] w fun e w' => ∃ o c, e = .returned (.slice o n c) ∧ OwnL w' w.heap.size (.slice o n c) l ∧ Below w.heap.size w w' := by
  rcases l with _ | ⟨z, zs⟩
  · simp only [List.length_nil] at hn
    subst hn
    have q : ∀ (w : World) (a : Option Addr) (n c n' c' : Nat), (binOp .eql 25 (.slice a n c) (.slice none n' c')).run Try.prog w = .ok (.bool a.isNone) w := fun w a n c n' c' => Lib.run_eql_slice_nil w _ _ a n c n' c' Try.underlying25
    rcases ao with _ | ad
    · go_enter Try.func34, Try.ntmps34
      go_wp2
      go_ret
      exact ⟨none, 0, rfl, Rw.own_nil _ _, Below.refl _ _⟩
    · have HR := hid (hr.kept ((Below.refl _ _).alloc (Nat.le_refl _) (.cells #[] 2)))
      clear hr hl
      go_enter Try.func34, Try.ntmps34
      go_wp2_with (at_builtin; refine Rw.app elemL encI_len encI_one rfl (.tmp 5) (.tmp 6) rfl w.heap.size _ ([] : List Int) rfl (own_empty w _ (Nat.le_refl _)) (some ad) cap ([] : List Int) rfl ?hnn HR.out (by simp) ?hB ?_; (case hnn => (intro h; cases h)); (case hB => (simp)); intro v2 w2 hown2 hgr2; have HO2 := hid hown2; have HB2 := hid (((Below.refl w.heap.size w).alloc (Nat.le_refl _) (.cells #[] 2)).grown hgr2 (by simp) (Rw.own_block (own_empty (α := Int) (k := 1) (enc := encI) (e := 2) w w.heap.size (Nat.le_refl _)))); clear hown2 hgr2)
      go_ret
      have h := HO2.out
      rw [List.nil_append] at h
      obtain ⟨o, c, h1, _, _, _, h2, _⟩ := Rw.own_row encI_len h
      rw [h1] at h
      exact ⟨o, c, by rw [h1]; rfl, h, HB2.out⟩
  · exact (clonel_any (z :: zs) ao n cap w hn hr hl (by simp)).mono fun e w' ⟨g, c, h1, h2, h3⟩ => ⟨_, c, h1, h2, h3⟩
end Ne
namespace Ne
structure LvSt (w : World) (B g bl bw bm n1 : Nat) (L : List Int) (VW : Value) (W : List Nat) (VM : Value) (M : List Nat) : Prop where
  boxL : SBox w bl (.slice (some ⟨g, 0, none⟩) n1 n1)
  row : IBox w g L
  len : L.length = n1
  boxW : SBox w bw VW
  ow : OwnI w B VW (encW W)
  boxM : SBox w bm VM
  om : OwnI w B VM (encW M)
  sep : ∀ h, VW.ownBlock = some h → VM.ownBlock ≠ some h
  low : g < B ∧ bl < B ∧ bw < B ∧ bm < B
  ne : g ≠ bl ∧ g ≠ bw ∧ g ≠ bm ∧ bl ≠ bw ∧ bl ≠ bm ∧ bw ≠ bm
  sz : B ≤ w.heap.size
structure Fr (B g bl bw bm : Nat) (w w2 : World) : Prop where
  os : w2.os = w.os
  tape : w2.tape = w.tape
  output : w2.output = w.output
  size : w.heap.size ≤ w2.heap.size
  block : ∀ k, k < B → k ≠ g → k ≠ bl → k ≠ bw → k ≠ bm → w2.heap[k]? = w.heap[k]?
theorem Fr.refl (B g bl bw bm : Nat) (w : World) : Fr B g bl bw bm w w := ⟨rfl, rfl, rfl, Nat.le_refl _, fun _ _ _ _ _ _ => rfl⟩
theorem Fr.trans {B g bl bw bm : Nat} {a b c : World} (h : Fr B g bl bw bm a b) (k : Fr B g bl bw bm b c) : Fr B g bl bw bm a c :=
  ⟨k.os.trans h.os, k.tape.trans h.tape, k.output.trans h.output, Nat.le_trans h.size k.size, fun i h1 h2 h3 h4 h5 => (k.block i h1 h2 h3 h4 h5).trans (h.block i h1 h2 h3 h4 h5)⟩
theorem Fr.below {B g bl bw bm B0 : Nat} {w w2 : World} (h : Fr B g bl bw bm w w2) (h0 : B0 ≤ B) (h1 : B0 ≤ g) (h2 : B0 ≤ bl) (h3 : B0 ≤ bw) (h4 : B0 ≤ bm) : Below B0 w w2 :=
  ⟨h.os, h.tape, h.output, h.size, fun k hk => h.block k (by omega) (by omega) (by omega) (by omega) (by omega)⟩
theorem Fr.of_below {B g bl bw bm : Nat} {w w2 : World} (h : Below B w w2) : Fr B g bl bw bm w w2 :=
  ⟨h.os, h.tape, h.output, h.size, fun k hk _ _ _ _ => h.block k hk⟩
theorem Fr.set {B g bl bw bm : Nat} {w w2 : World} (h : Fr B g bl bw bm w w2) {p : Addr} (hp : p.block = g ∨ p.block = bl ∨ p.block = bw ∨ p.block = bm) (v : Value) : Fr B g bl bw bm w (w2.setCell p v) :=
  ⟨h.os, h.tape, h.output, by have := h.size; simpa [World.setCell] using this, fun k h1 h2 h3 h4 h5 => (Below.heap_setCell _ _ _ _ (by rcases hp with e | e | e | e <;> rw [e] <;> assumption)).trans (h.block k h1 h2 h3 h4 h5)⟩
theorem Fr.grown {B g bl bw bm : Nat} {w w2 w3 : World} {row : Option Nat} (h : Fr B g bl bw bm w w2) (hg : w2.grownBy w3 row) (hB : B ≤ w2.heap.size) (hr : ∀ k, row = some k → B ≤ k) : Fr B g bl bw bm w w3 :=
  ⟨hg.os.trans h.os, hg.tape.trans h.tape, hg.output.trans h.output, Nat.le_trans h.size hg.size, fun k h1 h2 h3 h4 h5 => (hg.block k (by omega) (fun e => by have := hr k e.symm; omega)).trans (h.block k h1 h2 h3 h4 h5)⟩
theorem Fr.alloc {B g bl bw bm : Nat} {w w2 : World} (h : Fr B g bl bw bm w w2) (hB : B ≤ w2.heap.size) (o : Obj) : Fr B g bl bw bm w (w2.alloc o) :=
  h.trans (.of_below ((Below.refl B w2).alloc hB o))
theorem IBox.growth {w w2 : World} {b : Nat} {l : List Int} {row : Option Nat} (h : IBox w b l) (hg : w.grownBy w2 row) (hne : some b ≠ row) : IBox w2 b l := h.same (hg.block b h.lt hne)
theorem SBox.growth {w w2 : World} {b : Nat} {v : Value} {row : Option Nat} (h : SBox w b v) (hg : w.grownBy w2 row) (hne : some b ≠ row) : SBox w2 b v := h.same (hg.block b h.lt hne)
theorem lvst_met {w w4 : World} {B g bl bw bm n1 : Nat} {L : List Int} {VW : Value} {W : List Nat} {VM : Value} {M : List Nat} (st : LvSt w B g bl bw bm n1 L VW W VM M) {v : Nat} (hv : v < n1) (k : Int) {x : Value}
    (hg : ((w.setCell ⟨g, v, none⟩ (.int .i64 k)).alloc (.cells #[.int .i64 (v : Int)] 3)).grownBy w4 VM.ownBlock) (ho : OwnI w4 B x (encW (M ++ [v])))
    (hx : x.ownBlock = VM.ownBlock ∨ x.ownBlock = some ((w.setCell ⟨g, v, none⟩ (.int .i64 k)).alloc (.cells #[.int .i64 (v : Int)] 3)).heap.size) :
    SBox w4 bm VM ∧ LvSt (w4.setCell ⟨bm, 0, none⟩ x) B g bl bw bm n1 (L.set v k) VW W x (M ++ [v]) ∧ Fr B g bl bw bm w (w4.setCell ⟨bm, 0, none⟩ x) := by
  obtain ⟨l1, l2, l3, l4⟩ := st.low
  obtain ⟨e1, e2, e3, e4, e5, e6⟩ := st.ne
  have hlm := Rw.own_lt st.om
  have hlw := Rw.own_lt st.ow
  have hsz := st.sz
  have hz : ((w.setCell ⟨g, v, none⟩ (.int .i64 k)).alloc (.cells #[.int .i64 (v : Int)] 3)).heap.size = w.heap.size + 1 := by simp [World.setCell]
  have nr : ∀ b, b < B → some b ≠ VM.ownBlock := fun b hb e => by have := (hlm b e.symm).1; omega
  have a1 : SBox w4 bl _ := ((st.boxL.far (p := ⟨g, v, none⟩) (Ne.symm e1) (.int .i64 k)).alloc (.cells #[.int .i64 (v : Int)] 3)).growth hg (nr bl l2)
  have a2 : IBox w4 g (L.set v k) := ((st.row.set (i := v) (by rw [st.len]; exact hv) k).alloc (.cells #[.int .i64 (v : Int)] 3)).growth hg (nr g l1)
  have a3 : SBox w4 bw VW := ((st.boxW.far (p := ⟨g, v, none⟩) (Ne.symm e2) (.int .i64 k)).alloc (.cells #[.int .i64 (v : Int)] 3)).growth hg (nr bw l3)
  have a4 : SBox w4 bm VM := ((st.boxM.far (p := ⟨g, v, none⟩) (Ne.symm e3) (.int .i64 k)).alloc (.cells #[.int .i64 (v : Int)] 3)).growth hg (nr bm l4)
  have b1 : OwnI (w.setCell ⟨g, v, none⟩ (.int .i64 k)) B VW (encW W) := Rw.own_set st.ow (p := ⟨g, v, none⟩) (fun e => by have := (hlw g e).1; omega) (.int .i64 k)
  have b2 : OwnI w4 B VW (encW W) := Rw.own_grown (Rw.own_alloc b1 (.cells #[.int .i64 (v : Int)] 3)) hg fun h hb e2 => st.sep h hb e2.symm
  have b3 : OwnI (w4.setCell ⟨bm, 0, none⟩ x) B VW (encW W) := Rw.own_set b2 (p := ⟨bm, 0, none⟩) (fun e => by have := (hlw bm e).1; omega) x
  have b4 : OwnI (w4.setCell ⟨bm, 0, none⟩ x) B x (encW (M ++ [v])) := Rw.own_set ho (p := ⟨bm, 0, none⟩) (fun e => by have := (Rw.own_lt ho bm e).1; omega) x
  refine ⟨a4, ⟨a1.far (Ne.symm (Ne.symm e5)) x, a2.far e3 x, by rw [List.length_set]; exact st.len, a3.far e6 x, b3, a4.set x, b4, fun h hb hb2 => ?_, st.low, st.ne, ?_⟩, ?_⟩
  · rcases hx with hx | hx
    · rw [hx] at hb2; exact st.sep h hb hb2
    · rw [hx, hz] at hb2
      have := (hlw h hb).2
      simp at hb2; omega
  · have := hg.size; rw [hz] at this; simp [World.setCell]; omega
  · refine Fr.set (p := ⟨bm, 0, none⟩) ?_ (.inr (.inr (.inr rfl))) x
    refine Fr.grown ?_ hg (by rw [hz]; omega) (fun h hb => (hlm h hb).1)
    exact ((Fr.refl B g bl bw bm w).set (p := ⟨g, v, none⟩) (.inl rfl) _).alloc (by have := st.sz; simpa [World.setCell] using this) _
set_option maxHeartbeats 2000000 in
theorem meet_any (w : World) {B g bl bw bm n1 : Nat} {L : List Int} {VW : Value} {W : List Nat} {VM : Value} {M : List Nat} (st : LvSt w B g bl bw bm n1 L VW W VM M) {v : Nat} (hv : v < n1) (k : Int) (h64 : in64 k) (hM : M.length ≤ 1000000) :
    Calls Try.prog 67 #[.int .i64 (v : Int), .int .i64 k, .pointer (some ⟨bl, 0, none⟩), .pointer (some ⟨bm, 0, none⟩)] w fun e w' => e = .returned (.tuple #[]) ∧ Fr B g bl bw bm w w' ∧
      (amt L v = -1 → ∃ VM', LvSt w' B g bl bw bm n1 (L.set v k) VW W VM' (M ++ [v])) ∧ (amt L v ≠ -1 → LvSt w' B g bl bw bm n1 L VW W VM M) := by
  have HST := hid st
  have c0 := st.boxL.cell
  have c1 := st.row.cell (i := v) (by rw [st.len]; exact hv)
  have hvi : (v : Int) < (n1 : Int) := by omega
  have hv0 : (0 : Int) ≤ (v : Int) := by omega
  by_cases c : amt L v = -1
  case neg =>
    have HC := hid c
    have c' : (amt L v == -1) = false := by simpa using c
    clear st c
    generalize hA : amt L v = a at *
    have HA := hid hA
    clear hA
    go_enter Try.func67, Try.ntmps67
    go_wp2
    go_end0
    exact ⟨rfl, Fr.refl _ _ _ _ _ _, fun h => absurd h HC.out, fun _ => HST.out⟩
  rw [c] at c1
  have HC := hid c
  have hf1 := st.row.frozen v
  obtain ⟨e1, e2, e3, e4, e5, e6⟩ := st.ne
  have cm := (st.boxM.far (p := ⟨g, v, none⟩) (Ne.symm e3) (.int .i64 k)).cell
  have cm2 := ((st.boxM.far (p := ⟨g, v, none⟩) (Ne.symm e3) (.int .i64 k)).alloc (.cells #[.int .i64 (v : Int)] 3)).cell
  have HL := hid (show M.length + ([(v : Int)] : List Int).length ≤ 1099511627776 by simp; omega)
  have HZ := hid (show (w.setCell ⟨g, v, none⟩ (.int .i64 k)).heap.size = w.heap.size by simp [World.setCell])
  have hlm := Rw.own_lt st.om
  have HO3 := hid (Rw.own_alloc (Rw.own_set st.om (p := ⟨g, v, none⟩) (fun e => by have := (hlm g e).1; have := st.low.1; omega) (.int .i64 k)) (.cells #[.int .i64 (v : Int)] 3))
  have HR3 := hid (irow_one' (w.setCell ⟨g, v, none⟩ (.int .i64 k)) (b := w.heap.size) HZ.out.symm (v : Int) 3)
  have HB3 := hid (show B ≤ ((w.setCell ⟨g, v, none⟩ (.int .i64 k)).alloc (.cells #[.int .i64 (v : Int)] 3)).heap.size by have := st.sz; simp [World.setCell]; omega)
  have HMET := hid (fun (w4 : World) (x : Value) h1 h2 h3 => lvst_met (w4 := w4) (x := x) st hv k h1 h2 h3)
  clear st c hlm e1 e2 e4 e5 e6
  obtain ⟨om, cmm, hvm, _, _, _, _, _, _⟩ := Rw.own_row encI_len HO3.out
  have HVM := hid hvm
  rw [encW_len] at hvm
  subst hvm
  go_enter Try.func67, Try.ntmps67
  go_wp2_with (at_builtin; refine Rw.appAt elemI encI_len encI_one rfl (.tmp 15) (.tmp 17) rfl B _ (encW M) rfl HO3.out ⟨w.heap.size, 0, none⟩ 1 [(v : Int)] rfl HR3.out (by rw [encW_len]; exact HL.out) HB3.out ?_; intro v4 w4 hown4 hgr4 hat4; rw [← encW_snoc] at hown4; obtain ⟨o4, c4v, hv4, _, _, _, _⟩ := Rw.own_row encI_len hown4; rw [encW_len, List.length_append, List.length_singleton] at hv4; subst hv4; have HEND := hid (HMET.out w4 _ hgr4 hown4 hat4); have c4 := HEND.out.1.cell; have f4 := HEND.out.1.frozen 0; clear hown4 hgr4 hat4)
  go_end0
  exact ⟨rfl, HEND.out.2.2, fun _ => ⟨_, HEND.out.2.1⟩, fun h => absurd HC.out h⟩
theorem own_void {w : World} {B g m c : Nat} {l : List Int} (h : OwnI w B (.slice (some ⟨g, 0, none⟩) m c) l) : OwnI w B (.slice (some ⟨g, 0, none⟩) 0 c) [] := by
  obtain ⟨h1, h2⟩ := h
  rcases h2 with ⟨hv, _⟩ | ⟨g', cap, cur, hv, hg, hh, hc, hm, hs, ht⟩
  · simp at hv
  · simp only [Value.slice.injEq, Option.some.injEq, Addr.mk.injEq, and_true, true_and] at hv
    obtain ⟨rfl, hml, rfl⟩ := hv
    exact ⟨by simp, .inr ⟨g, c, cur, rfl, hg, hh, by simp, hm, hs, by simp⟩⟩
theorem lvst_turn {w : World} {B g bl bw bm n1 : Nat} {L : List Int} {VW : Value} {W : List Nat} {VM : Value} {M : List Nat} (st : LvSt w B g bl bw bm n1 L VW W VM M) {x : Value} (ho : OwnI w B x []) (hx : x.ownBlock = VW.ownBlock) :
    LvSt ((w.setCell ⟨bw, 0, none⟩ VM).setCell ⟨bm, 0, none⟩ x) B g bl bw bm n1 L VM M x [] ∧ Fr B g bl bw bm w ((w.setCell ⟨bw, 0, none⟩ VM).setCell ⟨bm, 0, none⟩ x) := by
  obtain ⟨l1, l2, l3, l4⟩ := st.low
  obtain ⟨e1, e2, e3, e4, e5, e6⟩ := st.ne
  have hlm := Rw.own_lt st.om
  have hlx := Rw.own_lt ho
  refine ⟨⟨(st.boxL.far (p := ⟨bw, 0, none⟩) e4 VM).far (p := ⟨bm, 0, none⟩) e5 x, (st.row.far (p := ⟨bw, 0, none⟩) e2 VM).far (p := ⟨bm, 0, none⟩) e3 x, st.len, (st.boxW.set VM).far (p := ⟨bm, 0, none⟩) e6 x, ?_, (st.boxM.far (p := ⟨bw, 0, none⟩) (Ne.symm e6) VM).set x, ?_, fun h hb hb2 => ?_, st.low, st.ne, ?_⟩, ?_⟩
  · exact Rw.own_set (Rw.own_set st.om (p := ⟨bw, 0, none⟩) (fun e => by have := (hlm bw e).1; omega) VM) (p := ⟨bm, 0, none⟩) (fun e => by have := (hlm bm e).1; omega) x
  · exact Rw.own_set (Rw.own_set ho (p := ⟨bw, 0, none⟩) (fun e => by have := (hlx bw e).1; omega) VM) (p := ⟨bm, 0, none⟩) (fun e => by have := (hlx bm e).1; omega) x
  · rw [hx] at hb2; exact st.sep h hb2 hb
  · have := st.sz; simpa [World.setCell] using this
  · exact ((Fr.refl B g bl bw bm w).set (p := ⟨bw, 0, none⟩) (.inr (.inr (.inl rfl))) VM).set (p := ⟨bm, 0, none⟩) (.inr (.inr (.inr rfl))) x
theorem lvst_drew {w : World} {B g bl bw bm n1 : Nat} {L : List Int} {VW : Value} {W : List Nat} {VM : Value} {M : List Nat} (st : LvSt w B g bl bw bm n1 L VW W VM M) : LvSt w.drew B g bl bw bm n1 L VW W VM M :=
  ⟨st.boxL, st.row, st.len, st.boxW, st.ow, st.boxM, st.om, st.sep, st.low, st.ne, st.sz⟩
theorem fr_drew (B g bl bw bm : Nat) (w : World) : Fr B g bl bw bm w w.drew := ⟨rfl, rfl, rfl, Nat.le_refl _, fun _ _ _ _ _ _ => rfl⟩
set_option maxHeartbeats 2000000 in
theorem lturn_any (w : World) {B g bl bw bm n1 : Nat} {L : List Int} {VW : Value} {W : List Nat} {VM : Value} {M : List Nat} (st : LvSt w B g bl bw bm n1 L VW W VM M) :
    Calls Try.prog 68 #[.pointer (some ⟨bm, 0, none⟩), .pointer (some ⟨bw, 0, none⟩)] w fun e w' => e = .returned (.bool (decide (0 < M.length))) ∧ Fr B g bl bw bm w w' ∧ ∃ VM', LvSt w' B g bl bw bm n1 L VM M VM' [] := by
  have c0 := st.boxW.cell
  have c1 := st.boxM.cell
  have f0 := st.boxW.frozen 0
  have f1 := st.boxM.frozen 0
  have e6 := st.ne.2.2.2.2.2
  have HST := hid st
  obtain ⟨ow, cw, hvw, _, _, hnw, _, _, hw0⟩ := Rw.own_row encI_len st.ow
  obtain ⟨om, cm, hvm, _, _, hnm, _, _, _⟩ := Rw.own_row encI_len st.om
  rw [encW_len] at hvw hvm
  obtain ⟨mw, hmw⟩ : ∃ mw, mw = W.length := ⟨_, rfl⟩
  obtain ⟨mm, hmm⟩ : ∃ mm, mm = M.length := ⟨_, rfl⟩
  rw [← hmw] at hvw
  rw [← hmm] at hvm ⊢
  clear hmm hmw
  have hmm0 : (0 : Int) ≤ (mm : Int) := by omega
  subst hvw
  subst hvm
  rcases ow with _ | a
  · obtain rfl := hnw rfl
    have HEND := hid (lvst_turn (lvst_drew st) (x := .slice none 0 0) (Rw.own_nil _ _) rfl)
    clear st
    go_enter Try.func68, Try.ntmps68
    go_wp2
    go_region
    all_goals (try go_wp2)
    all_goals go_ret
    all_goals exact ⟨rfl, (fr_drew _ _ _ _ _ _).trans HEND.out.2, _, HEND.out.1⟩
  · obtain ⟨b, rfl⟩ := hw0 a rfl
    have HEND := hid (lvst_turn (lvst_drew st) (x := .slice (some ⟨b, 0, none⟩) 0 cw) (own_void (lvst_drew st).ow) rfl)
    clear st
    go_enter Try.func68, Try.ntmps68
    go_wp2
    go_region
    all_goals (try go_wp2)
    all_goals go_ret
    all_goals exact ⟨rfl, (fr_drew _ _ _ _ _ _).trans HEND.out.2, _, HEND.out.1⟩
end Ne
end Go.Proofs.Ytiaddfmgkcebnaa
