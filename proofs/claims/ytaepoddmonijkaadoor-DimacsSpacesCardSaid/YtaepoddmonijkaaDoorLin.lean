/-
  Contracts of the document's own Lines and Words. Condition: texts of at most a million bytes.
-/
import Derived.Test.YtaepoddmonijkaaDoorLinm
import Derived.Test.YtaepoddmonijkaaDoorSapp
import Derived.Deep.DeepCutAuto
namespace Go.Proofs.YtaepoddmonijkaaDoor
open Go.ChangeShapes Go.WideShapes Go.ChangeAt Go.RowKit
set_option linter.unusedVariables false
namespace Txt

theorem cell_new1 (w : World) (x : Value) (T : TypeId) : (w.alloc (.cells #[x] T)).cell? ⟨w.heap.size, 0, none⟩ = some x := World.cell?_alloc_new w _ _ 0

/-- how far the lines are taken: k bytes gone by, the line under way begins at p -/
def LinAt (l : List UInt8) (k p : Nat) (xs : List (List UInt8)) : Prop := if k = l.length + 1 then xs = lin [] l else xs ++ lin (seg l p k) (l.drop k) = lin [] l
theorem linAt_start (l : List UInt8) : LinAt l 0 0 [] := by unfold LinAt; rw [if_neg (by omega)]; simp [seg_same]
theorem linAt_hit {l : List UInt8} {k p : Nat} {xs : List (List UInt8)} (h : LinAt l k p xs) (hc : l[k]? = some 10) : LinAt l (k + 1) (k + 1) (xs ++ [seg l p k]) := by
  have hk : k < l.length := (List.getElem?_eq_some_iff.1 hc).1
  unfold LinAt at *
  rw [if_neg (by omega)] at h ⊢
  rw [← h, lin_hit (f := p) hc, List.append_assoc]; rfl
theorem linAt_miss {l : List UInt8} {k p : Nat} {xs : List (List UInt8)} {c : UInt8} (h : LinAt l k p xs) (hp : p ≤ k) (hc : l[k]? = some c) (hn : c ≠ 10) : LinAt l (k + 1) p xs := by
  have hk : k < l.length := (List.getElem?_eq_some_iff.1 hc).1
  unfold LinAt at *
  rw [if_neg (by omega)] at h ⊢
  rw [← h, lin_miss hp hc hn]
theorem linAt_last {l : List UInt8} {p : Nat} {xs : List (List UInt8)} (h : LinAt l l.length p xs) (hp : p < l.length) : LinAt l (l.length + 1) (l.length + 1) (xs ++ [seg l p l.length]) := by
  unfold LinAt at *
  rw [if_neg (by omega), lin_end (by omega), if_neg (by omega)] at h
  rw [if_pos rfl, h]
theorem linAt_none {l : List UInt8} {q : Nat} {xs : List (List UInt8)} (h : LinAt l l.length l.length xs) : LinAt l (l.length + 1) q xs := by
  unfold LinAt at *
  rw [if_neg (by omega), lin_end (Nat.le_refl _), if_pos rfl, List.append_nil] at h
  rw [if_pos rfl, h]

set_option maxHeartbeats 4000000 in
/-- the document's Lines -/
theorem rlines_any (s : ByteArray) (w : World) (hs : s.size ≤ 1000000) :
    Calls Tryd.prog 25 #[.string s] w fun e w' => ∃ v, e = .returned v ∧ OwnS w' w.heap.size v (lin [] s.data.toList) ∧ Below w.heap.size w w' := by
  have HL := Lib.hid (Lib.size_eq s)
  go_enter Tryd.func25, Tryd.ntmps25
  go_wp2
  go_loopw [3, 4, 5] (fun v f i wr => ∃ (k p : Nat) (xs : List (List UInt8)), k ≤ s.size + 1 ∧ p ≤ k ∧ i = .int .i64 k ∧ f = .int .i64 p ∧ OwnS wr w.heap.size v xs ∧ Below w.heap.size w wr ∧ xs.length ≤ k ∧
      LinAt s.data.toList k p xs) (fun _ _ i _ => s.size + 1 - (intOf i).toNat)
  case atStart => exact ⟨0, 0, [], by omega, Nat.le_refl _, rfl, rfl, ownS_nil _ _, Below.refl _ _, by simp, linAt_start _⟩
  case round =>
    obtain ⟨k, p, xs, hk, hp, rfl, rfl, hown, hbel, hxl, hX⟩ := hrel
    have HO := Lib.hid hown
    have HB := Lib.hid hbel
    clear hown hbel
    by_cases hend : k = s.size + 1
    · have HE := Lib.hid (show xs = lin [] s.data.toList by unfold LinAt at hX; rw [if_pos (by rw [hend, HL.out])] at hX; exact hX)
      clear hX
      subst hend
      go_wp2
      go_ret
      refine ⟨_, rfl, ?_, HB.out⟩
      rw [← HE.out]; exact HO.out
    · have hk' : k ≤ s.size := by omega
      clear hk hend
      by_cases hlt : k < s.size
      · have hget := Lib.data_getElem? s k hlt
        by_cases h10 : s[k] = 10
        · have hc : ((s[k].toNat : Int) == 10) = true := by rw [h10]; rfl
          have HN := Lib.hid (linAt_hit hX (by rw [hget, h10]))
          clear hget h10 hX
          go_wp2_with (at_builtin; refine app_str rfl (.tmp 33) (.tmp 38) rfl w.heap.size _ xs rfl (ownS_alloc HO.out _) _ (seg s.data.toList p k) rfl ?hcell (by omega) ?hsz ?_; (case hcell => (rw [extract_seg]; exact cell_new1 _ _ _)); (case hsz => (have := HB.out.size; simp; omega)); intro v2 w2 hown2 hgr2; have HO2 := Lib.hid hown2; have HB2 := Lib.hid ((HB.out.alloc (HB.out.size) _).grown hgr2 (by have := HB.out.size; simp; omega) (ownS_block HO.out)); clear hown2 hgr2)
          go_roundw
          case rel => exact ⟨k + 1, k + 1, _, by omega, Nat.le_refl _, by go_num, by go_num, HO2.out, HB2.out, by simp; omega, HN.out⟩
          case measure => simp [intOf]; omega
        · have hc : ((s[k].toNat : Int) == 10) = false := by
            simp only [beq_eq_false_iff_ne, ne_eq]; intro e; exact h10 (UInt8.toNat_inj.1 (by simpa using (by omega : s[k].toNat = 10)))
          have HN := Lib.hid (linAt_miss hX hp hget h10)
          clear hget h10 hX
          go_wp2
          go_roundw
          case rel => exact ⟨k + 1, p, xs, by omega, by omega, by go_num, rfl, HO.out, HB.out, by omega, HN.out⟩
          case measure => simp [intOf]; omega
      · have ek : k = s.size := by omega
        subst ek
        rw [HL.out] at hX
        by_cases hps : p < s.size
        · have HN := Lib.hid (linAt_last hX (by rw [← HL.out]; exact hps))
          rw [← HL.out] at HN
          clear hX
          go_wp2_with (at_builtin; refine app_str rfl (.tmp 33) (.tmp 38) rfl w.heap.size _ xs rfl (ownS_alloc HO.out _) _ (seg s.data.toList p s.size) rfl ?hcell (by omega) ?hsz ?_; (case hcell => (rw [extract_seg]; exact cell_new1 _ _ _)); (case hsz => (have := HB.out.size; simp; omega)); intro v2 w2 hown2 hgr2; have HO2 := Lib.hid hown2; have HB2 := Lib.hid ((HB.out.alloc (HB.out.size) _).grown hgr2 (by have := HB.out.size; simp; omega) (ownS_block HO.out)); clear hown2 hgr2)
          go_roundw
          case rel => exact ⟨s.size + 1, s.size + 1, _, Nat.le_refl _, Nat.le_refl _, by go_num, by go_num, HO2.out, HB2.out, by simp; omega, HN.out⟩
          case measure => simp [intOf]
        · have ep : p = s.size := by omega
          subst ep
          rw [HL.out] at hX
          have HN := Lib.hid (linAt_none (q := s.data.toList.length) hX)
          rw [← HL.out] at HN
          clear hX
          go_wp2
          go_roundw
          case rel => exact ⟨s.size + 1, s.size, xs, Nat.le_refl _, by omega, by go_num, rfl, HO.out, HB.out, by omega, HN.out⟩
          case measure => simp [intOf]

theorem byte_ne {c : UInt8} {n : Nat} (hn : n < 256) (h : c ≠ UInt8.ofNat n) : ((c.toNat : Int) == (n : Int)) = false := by
  simp only [beq_eq_false_iff_ne, ne_eq]; intro e; apply h; apply UInt8.toNat_inj.1; rw [UInt8.toNat_ofNat']; omega
theorem blkI (c : UInt8) : blk c = ((c.toNat : Int) == 32 || (c.toNat : Int) == 9 || (c.toNat : Int) == 13) := by
  have h : ∀ n : UInt8, (c == n) = ((c.toNat : Int) == (n.toNat : Int)) := by
    intro n; rw [Bool.eq_iff_iff]; simp only [beq_iff_eq]
    constructor
    · rintro rfl; rfl
    · intro e; exact UInt8.toNat_inj.1 (by omega)
  unfold blk; rw [h, h, h]; rfl
/-- the document's blank -/
theorem rblank_any (c : UInt8) (w : World) :
    Calls Tryd.prog 45 #[.int .u8 (c.toNat : Int)] w fun e w' => e = .returned (.bool (blk c)) ∧ w = w' := by
  go_enter Tryd.func45, Tryd.ntmps45
  go_wp2
  all_goals (go_ret; exact ⟨retB (by rw [blkI]; try simp [*]), rfl⟩)

def WrdAt (l : List UInt8) (k : Nat) (xs : List (List UInt8)) : Prop := xs ++ wrd [] (l.drop k) = wrd [] l
def WrdIn (l : List UInt8) (f k : Nat) (xs : List (List UInt8)) : Prop := xs ++ wrd (seg l f k) (l.drop k) = wrd [] l
theorem wrdAt_start (l : List UInt8) : WrdAt l 0 [] := by unfold WrdAt; simp
theorem wrdAt_skip {l : List UInt8} {k : Nat} {c : UInt8} {xs : List (List UInt8)} (h : WrdAt l k xs) (hc : l[k]? = some c) (hb : blk c = true) : WrdAt l (k + 1) xs := by
  unfold WrdAt at *; rw [← wrd_skip hc hb]; exact h
theorem wrdIn_start {l : List UInt8} {k : Nat} {xs : List (List UInt8)} (h : WrdAt l k xs) : WrdIn l k k xs := by
  unfold WrdIn; rw [seg_same]; exact h
theorem wrdIn_more {l : List UInt8} {f k : Nat} {c : UInt8} {xs : List (List UInt8)} (h : WrdIn l f k xs) (hf : f ≤ k) (hc : l[k]? = some c) (hb : blk c = false) : WrdIn l f (k + 1) xs := by
  unfold WrdIn at *; rw [← wrd_more hf hc hb]; exact h
theorem wrdIn_stop {l : List UInt8} {f k : Nat} {xs : List (List UInt8)} (h : WrdIn l f k xs) (hf : f < k) (hk : k ≤ l.length) (hs : k = l.length ∨ ∃ c, l[k]? = some c ∧ blk c = true) : WrdAt l (k + 1) (xs ++ [seg l f k]) := by
  unfold WrdIn at h; unfold WrdAt; rw [wrd_stop hf hk hs] at h; rw [← h, List.append_assoc]; rfl
theorem wrdAt_end {l : List UInt8} {k : Nat} {xs : List (List UInt8)} (h : WrdAt l k xs) (hk : l.length ≤ k) : xs = wrd [] l := by
  unfold WrdAt at h; rw [List.drop_eq_nil_of_le hk, wrd_nil, if_pos rfl, List.append_nil] at h; exact h

set_option maxHeartbeats 4000000 in
/-- the document's Words -/
theorem rwords_any (s : ByteArray) (w : World) (hs : s.size ≤ 1000000) :
    Calls Tryd.prog 27 #[.string s] w fun e w' => ∃ v, e = .returned v ∧ OwnS w' w.heap.size v (wrd [] s.data.toList) ∧ Below w.heap.size w w' := by
  have HL := Lib.hid (Lib.size_eq s)
  go_enter Tryd.func27, Tryd.ntmps27
  go_wp2
  go_loopw [3, 4] (fun v i wr => ∃ (k : Nat) (xs : List (List UInt8)), k ≤ s.size + 1 ∧ i = .int .i64 k ∧ OwnS wr w.heap.size v xs ∧ Below w.heap.size w wr ∧ xs.length ≤ k ∧ WrdAt s.data.toList k xs) (fun _ i _ => s.size + 1 - (intOf i).toNat)
  case atStart => exact ⟨0, [], by omega, rfl, ownS_nil _ _, Below.refl _ _, by simp, wrdAt_start _⟩
  case round =>
    obtain ⟨k, xs, hk, rfl, hown, hbel, hxl, hX⟩ := hrel
    have HO := Lib.hid hown
    have HB := Lib.hid hbel
    clear hown hbel
    by_cases hlt : k < s.size
    · have hget := Lib.data_getElem? s k hlt
      by_cases hb : blk s[k] = true
      · have HN := Lib.hid (wrdAt_skip hX hget hb)
        have HC : Hid (∀ w, Calls Tryd.prog 45 #[.int .u8 (s[k].toNat : Int)] w fun e w' => e = .returned (.bool true) ∧ w = w') := Lib.hid fun w => by have := rblank_any s[k] w; rw [hb] at this; exact this
        clear hX hget hb
        go_wp2_with (go_at_call 45; refine (HC.out _).mono ?_; rintro e w' ⟨rfl, rfl⟩)
        go_roundw
        case rel => exact ⟨k + 1, xs, by omega, by go_num, HO.out, HB.out, by omega, HN.out⟩
        case measure => simp [intOf]; omega
      · have hb : blk s[k] = false := by simpa using hb
        have HW := Lib.hid (wrdIn_start hX)
        have HF := Lib.hid hb
        have HC : Hid (∀ w, Calls Tryd.prog 45 #[.int .u8 (s[k].toNat : Int)] w fun e w' => e = .returned (.bool false) ∧ w = w') := Lib.hid fun w => by have := rblank_any s[k] w; rw [hb] at this; exact this
        clear hX hget hb
        go_wp2_with (go_at_call 45; refine (HC.out _).mono ?_; rintro e w' ⟨rfl, rfl⟩)
        clear HC
        go_loop [5] (fun j => ∃ m : Nat, k ≤ m ∧ m ≤ s.size ∧ j = .int .i64 m ∧ WrdIn s.data.toList k m xs) (fun j => s.size - (intOf j).toNat)
        case atStart => exact ⟨k, Nat.le_refl _, by omega, rfl, HW.out⟩
        case round =>
          obtain ⟨m, hkm, hm, rfl, hI⟩ := hrel
          by_cases hml : m < s.size
          · have hget := Lib.data_getElem? s m hml
            by_cases hj : blk s[m] = true
            · have hne : k < m := by
                rcases Nat.lt_or_ge k m with h | h
                · exact h
                · have : m = k := by omega
                  subst this; have h2 := HF.out; rw [hj] at h2; exact absurd h2 (by decide)
              have HN := Lib.hid (wrdIn_stop hI hne (by rw [← HL.out]; exact hm) (.inr ⟨_, hget, hj⟩))
              have HC : Hid (∀ w, Calls Tryd.prog 45 #[.int .u8 (s[m].toNat : Int)] w fun e w' => e = .returned (.bool true) ∧ w = w') := Lib.hid fun w => by have := rblank_any s[m] w; rw [hj] at this; exact this
              clear hI hget hj HF HW
              go_wp2_with (first
                | (go_at_call 45; refine (HC.out _).mono ?_; rintro e w' ⟨rfl, rfl⟩)
                | (at_builtin; refine app_str rfl (.tmp 30) (.tmp 35) rfl w.heap.size _ xs rfl (ownS_alloc HO.out _) _ (seg s.data.toList k m) rfl ?hcell (by omega) ?hsz ?_; (case hcell => (rw [extract_seg]; exact cell_new1 _ _ _)); (case hsz => (have := HB.out.size; simp; omega)); intro v2 w2 hown2 hgr2; have HO2 := Lib.hid hown2; have HB2 := Lib.hid ((HB.out.alloc (HB.out.size) _).grown hgr2 (by have := HB.out.size; simp; omega) (ownS_block HO.out)); clear hown2 hgr2))
              go_roundw
              case rel => exact ⟨m + 1, _, by omega, by go_num, HO2.out, HB2.out, by simp; omega, HN.out⟩
              case measure => simp [intOf]; omega
            · have hj : blk s[m] = false := by simpa using hj
              have HN := Lib.hid (wrdIn_more hI hkm hget hj)
              have HC : Hid (∀ w, Calls Tryd.prog 45 #[.int .u8 (s[m].toNat : Int)] w fun e w' => e = .returned (.bool false) ∧ w = w') := Lib.hid fun w => by have := rblank_any s[m] w; rw [hj] at this; exact this
              clear hI hget hj HF HW
              go_wp2_with (go_at_call 45; refine (HC.out _).mono ?_; rintro e w' ⟨rfl, rfl⟩)
              go_round
              case rel => exact ⟨m + 1, by omega, by omega, by go_num, HN.out⟩
              case measure => simp [intOf]; omega
          · have em : m = s.size := by omega
            have HN := Lib.hid (wrdIn_stop hI (by omega) (by rw [← HL.out]; exact hm) (.inl (by rw [← HL.out]; exact em)))
            subst em
            clear hI HF HW hml
            go_wp2_with (at_builtin; refine app_str rfl (.tmp 30) (.tmp 35) rfl w.heap.size _ xs rfl (ownS_alloc HO.out _) _ (seg s.data.toList k s.size) rfl ?hcell (by omega) ?hsz ?_; (case hcell => (rw [extract_seg]; exact cell_new1 _ _ _)); (case hsz => (have := HB.out.size; simp; omega)); intro v2 w2 hown2 hgr2; have HO2 := Lib.hid hown2; have HB2 := Lib.hid ((HB.out.alloc (HB.out.size) _).grown hgr2 (by have := HB.out.size; simp; omega) (ownS_block HO.out)); clear hown2 hgr2)
            go_roundw
            case rel => exact ⟨s.size + 1, _, by omega, by go_num, HO2.out, HB2.out, by simp; omega, HN.out⟩
            case measure => simp [intOf]; omega
    · have HE := Lib.hid (wrdAt_end hX (by rw [← HL.out]; omega))
      clear hX
      go_wp2
      go_ret
      refine ⟨_, rfl, ?_, HB.out⟩
      rw [← HE.out]; exact HO.out
end Txt
end Go.Proofs.YtaepoddmonijkaaDoor
