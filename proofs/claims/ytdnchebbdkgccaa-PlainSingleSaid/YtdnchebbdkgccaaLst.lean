/-
  Contracts of the two closures of level.levels: a node that is met, and the two lists that are turned. Condition: what they hold is the call's own.
-/
import Derived.Test.YtdnchebbdkgccaaFexs
import Derived.Test.YtdnchebbdkgccaaRbox
import Derived.Test.YtdnchebbdkgccaaRtm
import Derived.RegionTactic
namespace Go.Proofs.Ytdnchebbdkgccaa
open Go.ChangeShapes Go.WideShapes Go.ChangeAt Go.RowKit
set_option linter.unusedVariables false
set_option linter.unusedSimpArgs false
namespace Ne
/-- what the closures hold: levels in block g, the list that is gone by, the list of those that are met -/
structure LvSt (w : World) (B g bl bw bm n1 : Nat) (L : List Int) (VW : Value) (W : List Nat) (VM : Value) (M : List Nat) : Prop where
  boxL : SBox w bl (.slice (some ⟨g, 0, none⟩) n1 n1)
  row : IBox w g L
  len : L.length = n1
  boxW : SBox w bw VW
  ow : OwnI w B VW (encW W)
  boxM : SBox w bm VM
  om : OwnI w B VM (encW M)
  sep : ∀ h, VW.ownBlock = some h → VM.ownBlock ≠ some h
  low : g < B ∧ bl < B ∧ bw < B ∧ bm < B
  ne : g ≠ bl ∧ g ≠ bw ∧ g ≠ bm ∧ bl ≠ bw ∧ bl ≠ bm ∧ bw ≠ bm
  sz : B ≤ w.heap.size
/-- all blocks below B but those four are as they were -/
structure Fr (B g bl bw bm : Nat) (w w2 : World) : Prop where
  os : w2.os = w.os
  tape : w2.tape = w.tape
  output : w2.output = w.output
  size : w.heap.size ≤ w2.heap.size
  block : ∀ k, k < B → k ≠ g → k ≠ bl → k ≠ bw → k ≠ bm → w2.heap[k]? = w.heap[k]?
theorem Fr.refl (B g bl bw bm : Nat) (w : World) : Fr B g bl bw bm w w := ⟨rfl, rfl, rfl, Nat.le_refl _, fun _ _ _ _ _ _ => rfl⟩
theorem Fr.trans {B g bl bw bm : Nat} {a b c : World} (h : Fr B g bl bw bm a b) (k : Fr B g bl bw bm b c) : Fr B g bl bw bm a c :=
  ⟨k.os.trans h.os, k.tape.trans h.tape, k.output.trans h.output, Nat.le_trans h.size k.size, fun i h1 h2 h3 h4 h5 => (k.block i h1 h2 h3 h4 h5).trans (h.block i h1 h2 h3 h4 h5)⟩
theorem Fr.below {B g bl bw bm B0 : Nat} {w w2 : World} (h : Fr B g bl bw bm w w2) (h0 : B0 ≤ B) (h1 : B0 ≤ g) (h2 : B0 ≤ bl) (h3 : B0 ≤ bw) (h4 : B0 ≤ bm) : Below B0 w w2 :=
  ⟨h.os, h.tape, h.output, h.size, fun k hk => h.block k (by omega) (by omega) (by omega) (by omega) (by omega)⟩
theorem Fr.of_below {B g bl bw bm : Nat} {w w2 : World} (h : Below B w w2) : Fr B g bl bw bm w w2 :=
  ⟨h.os, h.tape, h.output, h.size, fun k hk _ _ _ _ => h.block k hk⟩
theorem Fr.set {B g bl bw bm : Nat} {w w2 : World} (h : Fr B g bl bw bm w w2) {p : Addr} (hp : p.block = g ∨ p.block = bl ∨ p.block = bw ∨ p.block = bm) (v : Value) : Fr B g bl bw bm w (w2.setCell p v) :=
  ⟨h.os, h.tape, h.output, by have := h.size; simpa [World.setCell] using this, fun k h1 h2 h3 h4 h5 => (Below.heap_setCell _ _ _ _ (by rcases hp with e | e | e | e <;> rw [e] <;> assumption)).trans (h.block k h1 h2 h3 h4 h5)⟩
theorem Fr.grown {B g bl bw bm : Nat} {w w2 w3 : World} {row : Option Nat} (h : Fr B g bl bw bm w w2) (hg : w2.grownBy w3 row) (hB : B ≤ w2.heap.size) (hr : ∀ k, row = some k → B ≤ k) : Fr B g bl bw bm w w3 :=
  ⟨hg.os.trans h.os, hg.tape.trans h.tape, hg.output.trans h.output, Nat.le_trans h.size hg.size, fun k h1 h2 h3 h4 h5 => (hg.block k (by omega) (fun e => by have := hr k e.symm; omega)).trans (h.block k h1 h2 h3 h4 h5)⟩
theorem Fr.alloc {B g bl bw bm : Nat} {w w2 : World} (h : Fr B g bl bw bm w w2) (hB : B ≤ w2.heap.size) (o : Obj) : Fr B g bl bw bm w (w2.alloc o) :=
  h.trans (.of_below ((Below.refl B w2).alloc hB o))
theorem IBox.growth {w w2 : World} {b : Nat} {l : List Int} {row : Option Nat} (h : IBox w b l) (hg : w.grownBy w2 row) (hne : some b ≠ row) : IBox w2 b l := h.same (hg.block b h.lt hne)
theorem SBox.growth {w w2 : World} {b : Nat} {v : Value} {row : Option Nat} (h : SBox w b v) (hg : w.grownBy w2 row) (hne : some b ≠ row) : SBox w2 b v := h.same (hg.block b h.lt hne)
/-- the state behind a node that was met, from the worlds in between -/
theorem lvst_met {w w4 : World} {B g bl bw bm n1 : Nat} {L : List Int} {VW : Value} {W : List Nat} {VM : Value} {M : List Nat} (st : LvSt w B g bl bw bm n1 L VW W VM M) {v : Nat} (hv : v < n1) (k : Int) {x : Value}
    (hg : ((w.setCell ⟨g, v, none⟩ (.int .i64 k)).alloc (.cells #[.int .i64 (v : Int)] 3)).grownBy w4 VM.ownBlock) (ho : OwnI w4 B x (encW (M ++ [v])))
    (hx : x.ownBlock = VM.ownBlock ∨ x.ownBlock = some ((w.setCell ⟨g, v, none⟩ (.int .i64 k)).alloc (.cells #[.int .i64 (v : Int)] 3)).heap.size) :
    SBox w4 bm VM ∧ LvSt (w4.setCell ⟨bm, 0, none⟩ x) B g bl bw bm n1 (L.set v k) VW W x (M ++ [v]) ∧ Fr B g bl bw bm w (w4.setCell ⟨bm, 0, none⟩ x) := by
  obtain ⟨l1, l2, l3, l4⟩ := st.low
  obtain ⟨e1, e2, e3, e4, e5, e6⟩ := st.ne
  have hlm := Rw.own_lt st.om
  have hlw := Rw.own_lt st.ow
  have hsz := st.sz
  have hz : ((w.setCell ⟨g, v, none⟩ (.int .i64 k)).alloc (.cells #[.int .i64 (v : Int)] 3)).heap.size = w.heap.size + 1 := by simp [World.setCell]
  have nr : ∀ b, b < B → some b ≠ VM.ownBlock := fun b hb e => by have := (hlm b e.symm).1; omega
  have a1 : SBox w4 bl _ := ((st.boxL.far (p := ⟨g, v, none⟩) (Ne.symm e1) (.int .i64 k)).alloc (.cells #[.int .i64 (v : Int)] 3)).growth hg (nr bl l2)
  have a2 : IBox w4 g (L.set v k) := ((st.row.set (i := v) (by rw [st.len]; exact hv) k).alloc (.cells #[.int .i64 (v : Int)] 3)).growth hg (nr g l1)
  have a3 : SBox w4 bw VW := ((st.boxW.far (p := ⟨g, v, none⟩) (Ne.symm e2) (.int .i64 k)).alloc (.cells #[.int .i64 (v : Int)] 3)).growth hg (nr bw l3)
  have a4 : SBox w4 bm VM := ((st.boxM.far (p := ⟨g, v, none⟩) (Ne.symm e3) (.int .i64 k)).alloc (.cells #[.int .i64 (v : Int)] 3)).growth hg (nr bm l4)
  have b1 : OwnI (w.setCell ⟨g, v, none⟩ (.int .i64 k)) B VW (encW W) := Rw.own_set st.ow (p := ⟨g, v, none⟩) (fun e => by have := (hlw g e).1; omega) (.int .i64 k)
  have b2 : OwnI w4 B VW (encW W) := Rw.own_grown (Rw.own_alloc b1 (.cells #[.int .i64 (v : Int)] 3)) hg fun h hb e2 => st.sep h hb e2.symm
  have b3 : OwnI (w4.setCell ⟨bm, 0, none⟩ x) B VW (encW W) := Rw.own_set b2 (p := ⟨bm, 0, none⟩) (fun e => by have := (hlw bm e).1; omega) x
  have b4 : OwnI (w4.setCell ⟨bm, 0, none⟩ x) B x (encW (M ++ [v])) := Rw.own_set ho (p := ⟨bm, 0, none⟩) (fun e => by have := (Rw.own_lt ho bm e).1; omega) x
  refine ⟨a4, ⟨a1.far (Ne.symm (Ne.symm e5)) x, a2.far e3 x, by rw [List.length_set]; exact st.len, a3.far e6 x, b3, a4.set x, b4, fun h hb hb2 => ?_, st.low, st.ne, ?_⟩, ?_⟩
  · rcases hx with hx | hx
    · rw [hx] at hb2; exact st.sep h hb hb2
    · rw [hx, hz] at hb2
      have := (hlw h hb).2
      simp at hb2; omega
  · have := hg.size; rw [hz] at this; simp [World.setCell]; omega
  · refine Fr.set (p := ⟨bm, 0, none⟩) ?_ (.inr (.inr (.inr rfl))) x
    refine Fr.grown ?_ hg (by rw [hz]; omega) (fun h hb => (hlm h hb).1)
    exact ((Fr.refl B g bl bw bm w).set (p := ⟨g, v, none⟩) (.inl rfl) _).alloc (by have := st.sz; simpa [World.setCell] using this) _
set_option maxHeartbeats 2000000 in
theorem meet_any (w : World) {B g bl bw bm n1 : Nat} {L : List Int} {VW : Value} {W : List Nat} {VM : Value} {M : List Nat} (st : LvSt w B g bl bw bm n1 L VW W VM M) {v : Nat} (hv : v < n1) (k : Int) (h64 : in64 k) (hM : M.length ≤ 1000000) :
    Calls Try.prog 59 #[.int .i64 (v : Int), .int .i64 k, .pointer (some ⟨bl, 0, none⟩), .pointer (some ⟨bm, 0, none⟩)] w fun e w' => e = .returned (.tuple #[]) ∧ Fr B g bl bw bm w w' ∧
      (amt L v = -1 → ∃ VM', LvSt w' B g bl bw bm n1 (L.set v k) VW W VM' (M ++ [v])) ∧ (amt L v ≠ -1 → LvSt w' B g bl bw bm n1 L VW W VM M) := by
  have HST := Lib.hid st
  have c0 := st.boxL.cell
  have c1 := st.row.cell (i := v) (by rw [st.len]; exact hv)
  have hvi : (v : Int) < (n1 : Int) := by omega
  have hv0 : (0 : Int) ≤ (v : Int) := by omega
  by_cases c : amt L v = -1
  case neg =>
    have HC := Lib.hid c
    have c' : (amt L v == -1) = false := by simpa using c
    clear st c
    generalize hA : amt L v = a at *
    have HA := Lib.hid hA
    clear hA
    go_enter Try.func59, Try.ntmps59
    go_wp2
    go_end0
    exact ⟨rfl, Fr.refl _ _ _ _ _ _, fun h => absurd h HC.out, fun _ => HST.out⟩
  rw [c] at c1
  have HC := Lib.hid c
  have hf1 := st.row.frozen v
  obtain ⟨e1, e2, e3, e4, e5, e6⟩ := st.ne
  have cm := (st.boxM.far (p := ⟨g, v, none⟩) (Ne.symm e3) (.int .i64 k)).cell
  have cm2 := ((st.boxM.far (p := ⟨g, v, none⟩) (Ne.symm e3) (.int .i64 k)).alloc (.cells #[.int .i64 (v : Int)] 3)).cell
  have HL := Lib.hid (show M.length + ([(v : Int)] : List Int).length ≤ 1099511627776 by simp; omega)
  have HZ := Lib.hid (show (w.setCell ⟨g, v, none⟩ (.int .i64 k)).heap.size = w.heap.size by simp [World.setCell])
  have hlm := Rw.own_lt st.om
  have HO3 := Lib.hid (Rw.own_alloc (Rw.own_set st.om (p := ⟨g, v, none⟩) (fun e => by have := (hlm g e).1; have := st.low.1; omega) (.int .i64 k)) (.cells #[.int .i64 (v : Int)] 3))
  have HR3 := Lib.hid (irow_one' (w.setCell ⟨g, v, none⟩ (.int .i64 k)) (b := w.heap.size) HZ.out.symm (v : Int) 3)
  have HB3 := Lib.hid (show B ≤ ((w.setCell ⟨g, v, none⟩ (.int .i64 k)).alloc (.cells #[.int .i64 (v : Int)] 3)).heap.size by have := st.sz; simp [World.setCell]; omega)
  have HMET := Lib.hid (fun (w4 : World) (x : Value) h1 h2 h3 => lvst_met (w4 := w4) (x := x) st hv k h1 h2 h3)
  clear st c hlm e1 e2 e4 e5 e6
  obtain ⟨om, cmm, hvm, _, _, _, _, _, _⟩ := Rw.own_row encI_len HO3.out
  have HVM := Lib.hid hvm
  rw [encW_len] at hvm
  subst hvm
  go_enter Try.func59, Try.ntmps59
  go_wp2_with (at_builtin; refine Rw.appAt elemI encI_len encI_one rfl (.tmp 15) (.tmp 17) rfl B _ (encW M) rfl HO3.out ⟨w.heap.size, 0, none⟩ 1 [(v : Int)] rfl HR3.out (by rw [encW_len]; exact HL.out) HB3.out ?_; intro v4 w4 hown4 hgr4 hat4; rw [← encW_snoc] at hown4; obtain ⟨o4, c4v, hv4, _, _, _, _⟩ := Rw.own_row encI_len hown4; rw [encW_len, List.length_append, List.length_singleton] at hv4; subst hv4; have HEND := Lib.hid (HMET.out w4 _ hgr4 hown4 hat4); have c4 := HEND.out.1.cell; have f4 := HEND.out.1.frozen 0; clear hown4 hgr4 hat4)
  go_end0
  exact ⟨rfl, HEND.out.2.2, fun _ => ⟨_, HEND.out.2.1⟩, fun h => absurd HC.out h⟩
theorem own_void {w : World} {B g m c : Nat} {l : List Int} (h : OwnI w B (.slice (some ⟨g, 0, none⟩) m c) l) : OwnI w B (.slice (some ⟨g, 0, none⟩) 0 c) [] := by
  obtain ⟨h1, h2⟩ := h
  rcases h2 with ⟨hv, _⟩ | ⟨g', cap, cur, hv, hg, hh, hc, hm, hs, ht⟩
  · simp at hv
  · simp only [Value.slice.injEq, Option.some.injEq, Addr.mk.injEq, and_true, true_and] at hv
    obtain ⟨rfl, hml, rfl⟩ := hv
    exact ⟨by simp, .inr ⟨g, c, cur, rfl, hg, hh, by simp, hm, hs, by simp⟩⟩
/-- the state behind the lists' turn -/
theorem lvst_turn {w : World} {B g bl bw bm n1 : Nat} {L : List Int} {VW : Value} {W : List Nat} {VM : Value} {M : List Nat} (st : LvSt w B g bl bw bm n1 L VW W VM M) {x : Value} (ho : OwnI w B x []) (hx : x.ownBlock = VW.ownBlock) :
    LvSt ((w.setCell ⟨bw, 0, none⟩ VM).setCell ⟨bm, 0, none⟩ x) B g bl bw bm n1 L VM M x [] ∧ Fr B g bl bw bm w ((w.setCell ⟨bw, 0, none⟩ VM).setCell ⟨bm, 0, none⟩ x) := by
  obtain ⟨l1, l2, l3, l4⟩ := st.low
  obtain ⟨e1, e2, e3, e4, e5, e6⟩ := st.ne
  have hlm := Rw.own_lt st.om
  have hlx := Rw.own_lt ho
  refine ⟨⟨(st.boxL.far (p := ⟨bw, 0, none⟩) e4 VM).far (p := ⟨bm, 0, none⟩) e5 x, (st.row.far (p := ⟨bw, 0, none⟩) e2 VM).far (p := ⟨bm, 0, none⟩) e3 x, st.len, (st.boxW.set VM).far (p := ⟨bm, 0, none⟩) e6 x, ?_, (st.boxM.far (p := ⟨bw, 0, none⟩) (Ne.symm e6) VM).set x, ?_, fun h hb hb2 => ?_, st.low, st.ne, ?_⟩, ?_⟩
  · exact Rw.own_set (Rw.own_set st.om (p := ⟨bw, 0, none⟩) (fun e => by have := (hlm bw e).1; omega) VM) (p := ⟨bm, 0, none⟩) (fun e => by have := (hlm bm e).1; omega) x
  · exact Rw.own_set (Rw.own_set ho (p := ⟨bw, 0, none⟩) (fun e => by have := (hlx bw e).1; omega) VM) (p := ⟨bm, 0, none⟩) (fun e => by have := (hlx bm e).1; omega) x
  · rw [hx] at hb2; exact st.sep h hb2 hb
  · have := st.sz; simpa [World.setCell] using this
  · exact ((Fr.refl B g bl bw bm w).set (p := ⟨bw, 0, none⟩) (.inr (.inr (.inl rfl))) VM).set (p := ⟨bm, 0, none⟩) (.inr (.inr (.inr rfl))) x
theorem lvst_drew {w : World} {B g bl bw bm n1 : Nat} {L : List Int} {VW : Value} {W : List Nat} {VM : Value} {M : List Nat} (st : LvSt w B g bl bw bm n1 L VW W VM M) : LvSt w.drew B g bl bw bm n1 L VW W VM M :=
  ⟨st.boxL, st.row, st.len, st.boxW, st.ow, st.boxM, st.om, st.sep, st.low, st.ne, st.sz⟩
theorem fr_drew (B g bl bw bm : Nat) (w : World) : Fr B g bl bw bm w w.drew := ⟨rfl, rfl, rfl, Nat.le_refl _, fun _ _ _ _ _ _ => rfl⟩
set_option maxHeartbeats 2000000 in
theorem lturn_any (w : World) {B g bl bw bm n1 : Nat} {L : List Int} {VW : Value} {W : List Nat} {VM : Value} {M : List Nat} (st : LvSt w B g bl bw bm n1 L VW W VM M) :
    Calls Try.prog 60 #[.pointer (some ⟨bm, 0, none⟩), .pointer (some ⟨bw, 0, none⟩)] w fun e w' => e = .returned (.bool (decide (0 < M.length))) ∧ Fr B g bl bw bm w w' ∧ ∃ VM', LvSt w' B g bl bw bm n1 L VM M VM' [] := by
  have c0 := st.boxW.cell
  have c1 := st.boxM.cell
  have f0 := st.boxW.frozen 0
  have f1 := st.boxM.frozen 0
  have e6 := st.ne.2.2.2.2.2
  have HST := Lib.hid st
  obtain ⟨ow, cw, hvw, _, _, hnw, _, _, hw0⟩ := Rw.own_row encI_len st.ow
  obtain ⟨om, cm, hvm, _, _, hnm, _, _, _⟩ := Rw.own_row encI_len st.om
  rw [encW_len] at hvw hvm
  obtain ⟨mw, hmw⟩ : ∃ mw, mw = W.length := ⟨_, rfl⟩
  obtain ⟨mm, hmm⟩ : ∃ mm, mm = M.length := ⟨_, rfl⟩
  rw [← hmw] at hvw
  rw [← hmm] at hvm ⊢
  clear hmm hmw
  have hmm0 : (0 : Int) ≤ (mm : Int) := by omega
  subst hvw
  subst hvm
  rcases ow with _ | a
  · obtain rfl := hnw rfl
    have HEND := Lib.hid (lvst_turn (lvst_drew st) (x := .slice none 0 0) (Rw.own_nil _ _) rfl)
    clear st
    go_enter Try.func60, Try.ntmps60
    go_wp2
    go_region
    all_goals (try go_wp2)
    all_goals go_ret
    all_goals exact ⟨rfl, (fr_drew _ _ _ _ _ _).trans HEND.out.2, _, HEND.out.1⟩
  · obtain ⟨b, rfl⟩ := hw0 a rfl
    have HEND := Lib.hid (lvst_turn (lvst_drew st) (x := .slice (some ⟨b, 0, none⟩) 0 cw) (own_void (lvst_drew st).ow) rfl)
    clear st
    go_enter Try.func60, Try.ntmps60
    go_wp2
    go_region
    all_goals (try go_wp2)
    all_goals go_ret
    all_goals exact ⟨rfl, (fr_drew _ _ _ _ _ _).trans HEND.out.2, _, HEND.out.1⟩
end Ne
end Go.Proofs.Ytdnchebbdkgccaa
