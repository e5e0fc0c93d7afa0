/-
  Stage 10: the document's forest of trees in memory; contracts of there, Above, Value, Path, Root, Least. No condition.
-/
import Derived.Test.YtjhodnpmogkmmaaFoa
import Derived.Test.YtjhodnpmogkmmaaSpf
import Derived.Test.YtjhodnpmogkmmaaFov
namespace Go.Proofs.Ytjhodnpmogkmmaa
open Go.ChangeShapes Go.WideShapes Go.ChangeAt Go.RowKit
set_option linter.unusedVariables false
set_option linter.unusedSimpArgs false
namespace Fo
open Sp (Off Ext)
def QBlk (w : World) (p : Nat) (vv uv : Value) : Prop := w.heap[p]? = some (.cells #[vv, uv] 64 (0, 0))
section
variable {w w2 : World} {p : Nat} {vv uv : Value}
theorem qblk_cells (h : QBlk w p vv uv) : w.cell? ⟨p, 0, none⟩ = some vv ∧ w.cell? ⟨p, 1, none⟩ = some uv := by
  unfold QBlk at h
  simp [World.cell?, h]
theorem qblk_frozen (h : QBlk w p vv uv) (o : Nat) : w.frozen? ⟨p, o, none⟩ = false := by unfold QBlk at h; simp [World.frozen?, h]
theorem qblk_lt (h : QBlk w p vv uv) : p < w.heap.size := Rw.lt_of_heap h
theorem qblk_same (h : QBlk w p vv uv) (e : w2.heap[p]? = w.heap[p]?) : QBlk w2 p vv uv := by unfold QBlk at *; rw [e]; exact h
theorem qblk_own {α : Type} {e : TypeId} {k : Nat} {enc : α → List Value} {B : Nat} {v : Value} {xs : List α} (h : QBlk w p vv uv) (hne : e ≠ 64) (ho : Rw.Own e k enc w B v xs) : v.ownBlock ≠ some p := by
  obtain ⟨_, h2⟩ := ho
  rcases h2 with ⟨hv, _⟩ | ⟨g, c, cur, hv, _, hh, _⟩
  · rw [hv]; simp [Value.ownBlock]
  · rw [hv]
    simp only [Value.ownBlock]
    intro e2
    cases e2
    unfold QBlk at h
    rw [h] at hh
    simp at hh
    exact hne hh.2.symm
end
/-- the document's forest in memory -/
structure QM (w : World) (B p : Nat) (vv uv : Value) (f : Ft) : Prop where
  blk : QBlk w p vv uv
  low : B ≤ p
  vals : Ne.OwnL w B vv f.v
  ups : Ne.OwnI w B uv (ovL f.v.length f.up)
  good : Good f
def QF (p : Nat) (vv uv : Value) (g : Nat) : Prop := g = p ∨ vv.ownBlock = some g ∨ uv.ownBlock = some g
/-- in blocks of F -/
def QP (w : World) (B : Nat) (F : Nat → Prop) (p : Nat) (f : Ft) : Prop := ∃ vv uv, QM w B p vv uv f ∧ (∀ g, QF p vv uv g → F g) ∧ ∀ g, F g → B ≤ g ∧ g < w.heap.size
section
variable {w w2 : World} {B p : Nat} {vv uv : Value} {F G : Nat → Prop} {f : Ft}
theorem QM.same (h : QM w B p vv uv f) (e : ∀ g, QF p vv uv g → w2.heap[g]? = w.heap[g]?) : QM w2 B p vv uv f :=
  ⟨qblk_same h.blk (e p (.inl rfl)), h.low, Ne.own_same h.vals fun g hg => e g (.inr (.inl hg)), Ne.own_same h.ups fun g hg => e g (.inr (.inr hg)), h.good⟩
theorem QM.in (h : QM w B p vv uv f) : ∀ g, QF p vv uv g → B ≤ g ∧ g < w.heap.size := by
  rintro g (rfl | hg | hg)
  · exact ⟨h.low, qblk_lt h.blk⟩
  · exact Rw.own_lt h.vals g hg
  · exact Rw.own_lt h.ups g hg
theorem QM.kept (h : QM w B p vv uv f) (hb : Below w.heap.size w w2) : QM w2 B p vv uv f := h.same fun g hg => hb.block g (h.in g hg).2
theorem QP.good (h : QP w B F p f) : Good f := by obtain ⟨_, _, h, _⟩ := h; exact h.good
theorem QP.fin (h : QP w B F p f) : ∀ g, F g → B ≤ g ∧ g < w.heap.size := by obtain ⟨_, _, _, _, h⟩ := h; exact h
theorem QP.mono (h : QP w B F p f) (hG : ∀ g, F g → G g) (hf : ∀ g, G g → B ≤ g ∧ g < w.heap.size) : QP w B G p f := by
  obtain ⟨vv, uv, h1, h2, h3⟩ := h
  exact ⟨vv, uv, h1, fun g hg => hG g (h2 g hg), hf⟩
theorem QP.off (h : QP w B F p f) (ho : Off G w w2) (hd : ∀ g, F g → ¬ G g) : QP w2 B F p f := by
  obtain ⟨vv, uv, h1, h2, h3⟩ := h
  exact ⟨vv, uv, h1.same fun g hg => ho.block g (h1.in g hg).2 (hd g (h2 g hg)), h2, fun g hg => ⟨(h3 g hg).1, Nat.lt_of_lt_of_le (h3 g hg).2 ho.size⟩⟩
theorem QP.kept (h : QP w B F p f) (hb : Below w.heap.size w w2) : QP w2 B F p f := h.off (G := fun _ => False) (.of_below hb) fun _ _ c => c
theorem QP.base (h : QP w B F p f) {B' : Nat} (hB : B' ≤ B) : QP w B' F p f := by
  obtain ⟨vv, uv, h1, h2, h3⟩ := h
  exact ⟨vv, uv, ⟨h1.blk, Nat.le_trans hB h1.low, Rw.own_base h1.vals hB, Rw.own_base h1.ups hB, h1.good⟩, h2, fun g hg => ⟨Nat.le_trans hB (h3 g hg).1, (h3 g hg).2⟩⟩
theorem QM.vval (h : QM w B p vv uv f) : ∃ o c, vv = .slice o f.v.length c := by
  obtain ⟨o, c, hv, _⟩ := Rw.own_row Ne.encI_len h.vals
  exact ⟨o, c, hv⟩
theorem QM.uval (h : QM w B p vv uv f) : ∃ o c, uv = .slice o f.v.length c := by
  obtain ⟨o, c, hv, _⟩ := Rw.own_row Ne.encI_len h.ups
  rw [ovL_len] at hv
  exact ⟨o, c, hv⟩
set_option maxHeartbeats 1000000 in
theorem qthere_any (h : QM w B p vv uv f) (x : Int) :
    Calls Try.prog 40 #[.pointer (some ⟨p, 0, none⟩), .int .i64 x] w fun e w' => e = .returned (.bool (decide (0 ≤ x ∧ x < (f.v.length : Int)))) ∧ w = w' := by
  obtain ⟨n0, n1⟩ := qblk_cells h.blk
  obtain ⟨o, c, rfl⟩ := h.uval
  clear h
  generalize f.v.length = n at *
  generalize hq : decide (0 ≤ x ∧ x < (n : Int)) = q
  by_cases c1 : 0 ≤ x
  · by_cases c2 : x < (n : Int)
    · obtain rfl : q = true := by rw [← hq]; simp [c1, c2]
      clear hq
      go_enter Try.func40, Try.ntmps40
      go_wp2
      go_ret
      exact ⟨rfl, rfl⟩
    · obtain rfl : q = false := by rw [← hq]; simp; omega
      clear hq
      go_enter Try.func40, Try.ntmps40
      go_wp2
      go_ret
      exact ⟨rfl, rfl⟩
  · obtain rfl : q = false := by rw [← hq]; simp; omega
    clear hq
    go_enter Try.func40, Try.ntmps40
    go_wp2
    go_ret
    exact ⟨rfl, rfl⟩
theorem qthere_in (h : QM w B p vv uv f) {v : Nat} (hv : v < f.v.length) :
    Calls Try.prog 40 #[.pointer (some ⟨p, 0, none⟩), .int .i64 (v : Int)] w fun e w' => e = .returned (.bool true) ∧ w = w' := by
  have := qthere_any h (v : Int)
  rwa [show decide (0 ≤ (v : Int) ∧ (v : Int) < (f.v.length : Int)) = true by simp; omega] at this
theorem qthere_out (h : QM w B p vv uv f) {x : Int} (hx : ¬ there f x) :
    Calls Try.prog 40 #[.pointer (some ⟨p, 0, none⟩), .int .i64 x] w fun e w' => e = .returned (.bool false) ∧ w = w' := by
  have := qthere_any h x
  rwa [decide_eq_false (show ¬ (0 ≤ x ∧ x < (f.v.length : Int)) from hx)] at this
set_option maxHeartbeats 1000000 in
theorem qabove_any (h : QM w B p vv uv f) (x : Int) :
    Calls Try.prog 21 #[.pointer (some ⟨p, 0, none⟩), .int .i64 x] w fun e w' => e = .returned (.int .i64 (aboveZ f x)) ∧ w = w' := by
  by_cases hx : there f x
  · obtain ⟨v, rfl⟩ : ∃ v : Nat, x = (v : Int) := ⟨x.toNat, by obtain ⟨a, b⟩ := hx; omega⟩
    have hv : v < f.v.length := by obtain ⟨a, b⟩ := hx; omega
    have HT := Lib.hid (qthere_in h hv)
    obtain ⟨n0, n1⟩ := qblk_cells h.blk
    obtain ⟨o, c, rfl⟩ := h.uval
    obtain ⟨b, off, rfl, hb, d0⟩ := Ne.irow_cell (Ne.own_irow h.ups) (i := v) (by rw [ovL_len]; exact hv)
    rw [ovL_at _ hv] at d0
    have hz : aboveZ f (v : Int) = oz (f.up v) := by unfold aboveZ; rw [if_pos hx, Int.toNat_natCast]
    rw [hz]
    generalize oz (f.up v) = z at *
    have z1 : (v : Int) < (f.v.length : Int) := by omega
    have z2 : (0 : Int) ≤ (v : Int) := by omega
    clear h hx hz
    go_enter Try.func21, Try.ntmps21
    go_wp2_with fail
    refine HT.out.mono ?_
    rintro e w1 ⟨rfl, rfl⟩
    go_wp2
    go_ret
    exact ⟨rfl, rfl⟩
  · have HT := Lib.hid (qthere_out h hx)
    have hz : aboveZ f x = -1 := by unfold aboveZ; rw [if_neg hx]
    rw [hz]
    clear h hx hz
    go_enter Try.func21, Try.ntmps21
    go_wp2_with fail
    refine HT.out.mono ?_
    rintro e w1 ⟨rfl, rfl⟩
    go_wp2
    go_ret
    exact ⟨rfl, rfl⟩
set_option maxHeartbeats 1000000 in
theorem qvalue_any (h : QM w B p vv uv f) (x : Int) :
    Calls Try.prog 19 #[.pointer (some ⟨p, 0, none⟩), .int .i64 x] w fun e w' => e = .returned (.int .i64 (valZ f x)) ∧ w = w' := by
  by_cases hx : there f x
  · obtain ⟨v, rfl⟩ : ∃ v : Nat, x = (v : Int) := ⟨x.toNat, by obtain ⟨a, b⟩ := hx; omega⟩
    have hv : v < f.v.length := by obtain ⟨a, b⟩ := hx; omega
    have HT := Lib.hid (qthere_in h hv)
    obtain ⟨n0, n1⟩ := qblk_cells h.blk
    obtain ⟨o, c, rfl⟩ := h.vval
    obtain ⟨b, off, rfl, hb, d0⟩ := Ne.irow_cell (Ne.own_irow h.vals) (i := v) hv
    have hz : valZ f (v : Int) = Ne.amt f.v v := by unfold valZ; rw [if_neg (by omega), Int.toNat_natCast]
    rw [hz]
    generalize Ne.amt f.v v = z at *
    have z1 : (v : Int) < (f.v.length : Int) := by omega
    have z2 : (0 : Int) ≤ (v : Int) := by omega
    clear h hx hz
    go_enter Try.func19, Try.ntmps19
    go_wp2_with fail
    refine HT.out.mono ?_
    rintro e w1 ⟨rfl, rfl⟩
    go_wp2
    go_ret
    exact ⟨rfl, rfl⟩
  · have HT := Lib.hid (qthere_out h hx)
    have hz : valZ f x = 0 := by
      unfold valZ
      split
      · rfl
      · exact Ne.amt_out (by have : ¬ (0 ≤ x ∧ x < (f.v.length : Int)) := hx; omega)
    rw [hz]
    clear h hx hz
    go_enter Try.func19, Try.ntmps19
    go_wp2_with fail
    refine HT.out.mono ?_
    rintro e w1 ⟨rfl, rfl⟩
    go_wp2
    go_ret
    exact ⟨rfl, rfl⟩
/-- what is still to be laid ahead -/
def cz (f : Ft) : Option Nat → List Nat | none => [] | some y => path f y
theorem path_cz (hf : Good f) {y : Nat} (hy : y < f.v.length) : path f y = cz f (f.up y) ++ [y] := by
  cases hu : f.up y with
  | none => rw [hf.path_top hy hu]; rfl
  | some u => rw [hf.path_step hy hu]; rfl
set_option maxRecDepth 100000 in
set_option maxHeartbeats 4000000 in
theorem qpath_any (h : QM w B p vv uv f) (x : Int) :
    Calls Try.prog 17 #[.pointer (some ⟨p, 0, none⟩), .int .i64 x] w fun e w' => ∃ o c, e = .returned (.slice o (pathZ f x).length c) ∧ Ne.OwnI w' w.heap.size (.slice o (pathZ f x).length c) (Ne.encW (pathZ f x)) ∧ Below w.heap.size w w' := by
  by_cases hx : there f x
  case neg =>
    have HT := Lib.hid (qthere_out h hx)
    rw [h.good.pathZ_nil.2 hx]
    clear h hx
    go_enter Try.func17, Try.ntmps17
    go_wp2_with fail
    refine HT.out.mono ?_
    rintro e w1 ⟨rfl, rfl⟩
    go_wp2
    go_ret
    exact ⟨none, 0, rfl, Rw.own_nil _ _, Below.refl _ _⟩
  obtain ⟨v, rfl⟩ : ∃ v : Nat, x = (v : Int) := ⟨x.toNat, by obtain ⟨a, b⟩ := hx; omega⟩
  have hv : v < f.v.length := by obtain ⟨a, b⟩ := hx; omega
  have HT := Lib.hid (qthere_in h hv)
  rw [pathZ_nat]
  have HF := Lib.hid h.good
  have HM := Lib.hid h
  have HPL := Lib.hid (Nat.le_trans (Sp.len_le (h.good.path_nodup v) (fun y hy => h.good.path_lt hy)) h.good.small)
  have HSTEP := Lib.hid (show ∀ (cur : Option Nat) (L : List Nat) (wr : World), Below w.heap.size w wr → cz f cur ++ L = path f v → (∀ y, cur = some y → y < f.v.length) → (cur = none ∧ L = path f v) ∨ ∃ y, cur = some y ∧ y < f.v.length ∧ (cz f (f.up y)).length + 1 = (cz f cur).length ∧ cz f (f.up y) ++ (y :: L) = path f v ∧ (∀ z, f.up y = some z → z < f.v.length) ∧ L.length ≤ 3000 ∧ ∃ bu ou cu, wr.cell? ⟨p, 1, none⟩ = some (.slice (some ⟨bu, ou, none⟩) f.v.length cu) ∧ wr.cell? ⟨bu, ou + y, none⟩ = some (.int .i64 (oz (f.up y))) from fun cur L wr hb he hl => by
    cases cur with
    | none => exact .inl ⟨rfl, by simpa [cz] using he⟩
    | some y =>
      have hy := hl y rfl
      have hp := path_cz HF.out hy
      have hk := HM.out.kept hb
      obtain ⟨n0, n1⟩ := qblk_cells hk.blk
      obtain ⟨o, c, rfl⟩ := hk.uval
      obtain ⟨b, off, rfl, hb2, d0⟩ := Ne.irow_cell (Ne.own_irow hk.ups) (i := y) (by rw [ovL_len]; exact hy)
      rw [ovL_at _ hy] at d0
      refine .inr ⟨y, rfl, hy, by show _ = (path f y).length; rw [hp]; simp, by rw [← he]; show _ = path f y ++ L; rw [hp]; simp, fun z hz => HF.out.lt y z hy hz, ?_, b, off, c, n1, d0⟩
      have := congrArg List.length he
      have := HPL.out
      simp only [List.length_append] at *
      omega)
  have HVL := Lib.hid hv
  clear h hx hv
  obtain ⟨m, hm⟩ : ∃ m, m = (path f v).length := ⟨_, rfl⟩
  have HMM := Lib.hid hm
  go_enter Try.func17, Try.ntmps17
  go_wp2_with fail
  refine HT.out.mono ?_
  rintro e w1 ⟨rfl, rfl⟩
  go_wp2
  clear hm
  go_loopg [1, 5] m (fun gg s1 s5 wr => ∃ (cur : Option Nat) (L : List Nat) (o : Option Addr) (k c : Nat), s1 = .int .i64 (oz cur) ∧ s5 = .slice o k c ∧ Hid (k = L.length) ∧ Hid (gg = (cz f cur).length) ∧ Hid (Ne.OwnI wr w.heap.size (.slice o k c) (Ne.encW L)) ∧ Hid (Below w.heap.size w wr) ∧ Hid (cz f cur ++ L = path f v) ∧ Hid (∀ y, cur = some y → y < f.v.length))
  case atStart => exact ⟨some v, [], none, 0, 0, rfl, rfl, Lib.hid rfl, HMM, Lib.hid (Rw.own_nil _ _), Lib.hid (Below.refl _ _), Lib.hid (by simp [cz]), Lib.hid (fun y hy => by cases hy; exact HVL.out)⟩
  case round =>
    obtain ⟨cur, L, o, k, c, rfl, rfl, HK, HG, HO, HB, HE, HL⟩ := hrel
    rcases HSTEP.out cur L wr HB.out HE.out HL.out with ⟨rfl, hL⟩ | ⟨y, rfl, hy, hlen, happ, hlt, hk3, bu, ou, cu, n1, d0⟩
    · subst hL
      have z1 : (decide ((-1 : Int) ≥ 0)) = false := by decide
      simp only [oz]
      have hkk := HK.out
      subst hkk
      go_wp2
      go_ret
      exact ⟨o, c, rfl, HO.out, HB.out⟩
    · simp only [oz]
      have hyi : (y : Int) < (f.v.length : Int) := by omega
      have hy0 : (0 : Int) ≤ (y : Int) := by omega
      have HLEN := Lib.hid hlen
      have HAPP := Lib.hid happ
      have HLT := Lib.hid hlt
      obtain ⟨NX, hNX⟩ : ∃ NX, NX = f.up y := ⟨_, rfl⟩
      rw [← hNX] at d0 HLEN HAPP HLT
      have HO1 := Lib.hid (Sp.own_one wr w.heap.size HB.out.size (y : Int))
      have HBA := Lib.hid (HB.out.alloc HB.out.size (.cells #[.int .i64 (y : Int)] 3))
      have HLR := Lib.hid ((Ne.own_irow HO.out).kept ((Below.refl wr.heap.size wr).alloc (Nat.le_refl _) (.cells #[.int .i64 (y : Int)] 3)))
      have HNN := Lib.hid (show o = none → c = 0 from fun e => by
        subst e
        obtain ⟨o', c', hv', _, _, hnn, _⟩ := Rw.own_row Ne.encI_len HO.out
        cases hv'
        exact hnn rfl)
      have HSZ := Lib.hid (show ([(y : Int)] : List Int).length + (Ne.encW L).length ≤ 1099511627776 by simp [Ne.encW_len]; omega)
      have HKK := Lib.hid (show k = (Ne.encW L).length by rw [Ne.encW_len]; exact HK.out)
      have HQ := Lib.hid (show ∀ w6 : World, Below w.heap.size w w6 → w6.cell? ⟨p, 1, none⟩ = some (.slice (some ⟨bu, ou, none⟩) f.v.length cu) ∧ w6.cell? ⟨bu, ou + y, none⟩ = some (.int .i64 (oz NX)) from fun w6 h6 => by
        have hk := HM.out.kept h6
        obtain ⟨_, n1'⟩ := qblk_cells hk.blk
        have hk2 := HM.out.kept HB.out
        obtain ⟨_, n2'⟩ := qblk_cells hk2.blk
        rw [n1] at n2'
        cases n2'
        refine ⟨n1', ?_⟩
        obtain ⟨b, off, e, hb2, d1⟩ := Ne.irow_cell (Ne.own_irow hk.ups) (i := y) (by rw [ovL_len]; exact hy)
        cases e
        rw [ovL_at _ hy, ← hNX] at d1
        exact d1)
      clear hlen happ hlt hNX n1 d0 hy
      go_wp2_with (at_builtin; refine Rw.app Ne.elemI Ne.encI_len Ne.encI_one rfl (.tmp 13) (.tmp 14) rfl w.heap.size _ [(y : Int)] rfl HO1.out o c (Ne.encW L) (by rw [← HKK.out]; rfl) HNN.out HLR.out HSZ.out HBA.out.size ?_; intro v6 w6 hown6 hgr6; have HO6 := Lib.hid hown6; have HB6 := Lib.hid (HBA.out.grown hgr6 HBA.out.size (Rw.own_block HO1.out)); obtain ⟨o6, c6, hv6, _⟩ := Rw.own_row Ne.encI_len hown6; rw [List.length_append, Ne.encW_len, ← HK.out] at hv6; obtain ⟨k6, hk6⟩ : ∃ k6, k6 = ([(y : Int)] : List Int).length + k := ⟨_, rfl⟩; rw [← hk6] at hv6; have HK6 := Lib.hid hk6; subst hv6; obtain ⟨m1, d1⟩ := HQ.out w6 HB6.out; clear hown6 hgr6 hk6)
      go_roundg (cz f NX).length
      case measure => rw [HG.out, ← HLEN.out]; omega
      case rel => exact ⟨NX, y :: L, o6, k6, c6, rfl, rfl, Lib.hid (by rw [HK6.out, HK.out]; simp; omega), Lib.hid rfl, Lib.hid (by have := HO6.out; rw [show ([(y : Int)] : List Int) ++ Ne.encW L = Ne.encW (y :: L) by simp [Ne.encW]] at this; exact this), HB6, HAPP, HLT⟩
end
end Fo
end Go.Proofs.Ytjhodnpmogkmmaa
