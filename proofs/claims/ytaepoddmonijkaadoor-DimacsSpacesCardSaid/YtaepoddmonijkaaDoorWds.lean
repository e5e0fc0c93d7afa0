/-
  Contracts of text.Lines, text.Words, text.Join, and of the document's own Join. Conditions: the library's variables hold what start-up lays (Vars), texts of at most a million bytes.
-/
import Derived.Test.YtaepoddmonijkaaDoorLin
import Derived.Test.YtaepoddmonijkaaDoorFldm
import Derived.Test.YtaepoddmonijkaaDoorNumb
namespace Go.Proofs.YtaepoddmonijkaaDoor
open Go.ChangeShapes Go.WideShapes Go.ChangeAt Go.RowKit
set_option linter.unusedVariables false
namespace Txt

/-- a new block that holds just these strings is a row of them -/
theorem row_new (w : World) (l : List (List UInt8)) (vs : List Value) (hv : vs = l.map encS) : SRow (w.alloc (.cells vs.toArray 9)) (some ⟨w.heap.size, 0, none⟩) l := by
  refine .inr ⟨w.heap.size, 0, rfl, by simp, ?_⟩
  intro i x hx
  rw [Nat.zero_add, World.cell?_alloc_new, hv]
  simp [hx]

set_option maxHeartbeats 1000000 in
/-- text.Lines -/
theorem lines_any (s : ByteArray) (w : World) (hs : s.size ≤ 1000000) (hv : Vars w) :
    Calls Tryd.prog 18 #[.string s] w fun e w' => ∃ ao cap, e = .returned (.slice ao (lin [] s.data.toList).length cap) ∧ (lin [] s.data.toList).length ≤ cap ∧ (ao = none → cap = 0) ∧ SRow w' ao (lin [] s.data.toList) ∧ Below w.heap.size w w' := by
  by_cases he : s.data.toList = []
  · have h2 : s.toList.isEmpty = true := by rw [Lib.toList_data, he]; rfl
    rw [he, lin_nil, if_pos rfl]
    clear he
    go_enter Tryd.func18, Tryd.ntmps18
    go_wp2
    go_ret
    exact ⟨none, 0, rfl, Nat.le_refl _, fun _ => rfl, .inl rfl, Below.refl _ _⟩
  · have h2 : s.toList.isEmpty = false := by rw [Lib.toList_data]; simpa using he
    obtain ⟨m, hm⟩ := hv.mxl
    have hT : (Lib.trimSuffix s.data.toList [10]).length ≤ s.data.toList.length := Lib.trimSuffix_le _ _
    have hts : (⟨(Lib.trimSuffix s.data.toList [10]).toArray⟩ : ByteArray).size < 4294967281 := by
      rw [Lib.size_eq] at hs ⊢; simp only; omega
    have hSp := split_lines ⟨(Lib.trimSuffix s.data.toList [10]).toArray⟩
    rw [show (⟨(Lib.trimSuffix s.data.toList [10]).toArray⟩ : ByteArray).data.toList = Lib.trimSuffix s.data.toList [10] from rfl, lines_eq _ he] at hSp
    have hln := Lib.splitB_all ⟨#[10]⟩ (by decide) 0 _ ⟨(Lib.trimSuffix s.data.toList [10]).toArray⟩ rfl
    have HS := Lib.hid (Tryd.strings_Split ⟨(Lib.trimSuffix s.data.toList [10]).toArray⟩ ⟨#[10]⟩ m w hts hm (by decide))
    have HTS : Hid (Calls Tryd.prog 36 #[.string s, .string ⟨#[10]⟩] w fun e w' => e = .returned (.string ⟨(Lib.trimSuffix s.data.toList [10]).toArray⟩) ∧ w = w') := Lib.hid ((Tryd.strings_TrimSuffix s ⟨#[10]⟩ w (by omega)).mono (by rintro e w' ⟨rfl, rfl⟩; exact ⟨rfl, rfl⟩))
    generalize hpc : Lib.splitB ⟨#[10]⟩ 0 (Lib.countB ⟨(Lib.trimSuffix s.data.toList [10]).toArray⟩ ⟨#[10]⟩) ⟨(Lib.trimSuffix s.data.toList [10]).toArray⟩ = pcs at *
    generalize hcn : Lib.countB ⟨(Lib.trimSuffix s.data.toList [10]).toArray⟩ ⟨#[10]⟩ = cn at *
    have HL := Lib.hid (show cn + 1 = (lin [] s.data.toList).length by rw [← hSp, List.length_map, hln])
    have HR := Lib.hid (show pcs.map Value.string = (lin [] s.data.toList).map encS by
      rw [← hSp, List.map_map]; exact List.map_congr_left fun x _ => (encS_data x).symm)
    clear hSp hln hts hT he hpc hcn hm
    go_enter Tryd.func18, Tryd.ntmps18
    go_wp2_with (first | (go_at_call 36; refine HTS.out.mono ?_; rintro e w' ⟨rfl, rfl⟩) | (go_at_call 35; refine HS.out.mono ?_; rintro e w' ⟨rfl, rfl⟩))
    go_ret
    refine ⟨some ⟨w.heap.size, 0, none⟩, cn + 1, ?_, by rw [HL.out]; exact Nat.le_refl _, fun h => (by cases h), row_new w _ _ HR.out, (Below.refl _ _).alloc (Nat.le_refl _) _⟩
    rw [← HL.out]; rfl

/-- text.blank -/
theorem blank_any (x : Nat) (w : World) (hx : x ≤ 1114111) :
    Calls Tryd.prog 54 #[.int .i32 (x : Int)] w fun e w' => e = .returned (.bool (pBlank x)) ∧ w = w' := by
  have HB := Lib.hid (show pBlank x = ((x : Int) == 32 || (x : Int) == 9 || (x : Int) == 13) by
    have h : ∀ n : Nat, (x == n) = ((x : Int) == (n : Int)) := by
      intro n; rw [Bool.eq_iff_iff]; simp only [beq_iff_eq]; omega
    unfold pBlank; rw [h, h, h]; rfl)
  go_enter Tryd.func54, Tryd.ntmps54
  go_wp2
  all_goals (go_ret; exact ⟨retB (by rw [HB.out]; try simp [*]), rfl⟩)

set_option maxHeartbeats 1000000 in
/-- text.Words -/
theorem words_any (s : ByteArray) (w : World) (hs : s.size ≤ 1000000) :
    Calls Tryd.prog 38 #[.string s] w fun e w' => ∃ ao cap, e = .returned (.slice ao (wrd [] s.data.toList).length cap) ∧ (wrd [] s.data.toList).length ≤ cap ∧ (ao = none → cap = 0) ∧ SRow w' ao (wrd [] s.data.toList) ∧ Below w.heap.size w w' := by
  have hp : PredAtRunes Tryd.prog 54 #[] pBlank w := by
    intro W x hx _
    refine (blank_any x W hx).mono ?_
    rintro e w' ⟨rfl, rfl⟩
    exact ⟨rfl, 0, rfl⟩
  have hF := fields_wrd s
  have HS := Lib.hid (Tryd.strings_FieldsFunc_runes 54 #[] (by intro args w; kernel_rfl) pBlank s w (by omega) hp)
  generalize Lib.goFieldsP pBlank s = pcs at *
  have HL := Lib.hid (show pcs.length = (wrd [] s.data.toList).length by rw [← hF, List.length_map])
  have HR := Lib.hid (show pcs.map Value.string = (wrd [] s.data.toList).map encS by
    rw [← hF, List.map_map]; exact List.map_congr_left fun x _ => (encS_data x).symm)
  clear hF hp
  go_enter Tryd.func38, Tryd.ntmps38
  go_wp2_with (go_at_call 53; refine HS.out.mono ?_; rintro e w1 ⟨A, rfl, hA, hown, hb⟩)
  go_ret
  rw [HR.out, HL.out] at hown
  obtain ⟨ao, cap, hv, hc, hn, hr⟩ := ownS_row (xs := wrd [] s.data.toList) hown
  exact ⟨ao, cap, by rw [HL.out, hv]; rfl, hc, hn, hr, hb⟩

/-! join -/
theorem join_snoc (a : List UInt8) (r : List (List UInt8)) (y : List UInt8) : Lib.join (a :: (r ++ [y])) [32] = Lib.join (a :: r) [32] ++ 32 :: y := by
  rw [Lib.join_cons, Lib.join_cons]; unfold Lib.joinTail; simp
theorem join_take {l : List (List UInt8)} {k : Nat} {y : List UInt8} (hk : 0 < k) (hy : l[k]? = some y) : Lib.join (l.take (k + 1)) [32] = Lib.join (l.take k) [32] ++ 32 :: y := by
  rcases l with _ | ⟨a, r⟩
  · simp at hy
  · obtain ⟨j, rfl⟩ : ∃ j, k = j + 1 := ⟨k - 1, by omega⟩
    have hj : r[j]? = some y := by simpa using hy
    rw [List.take_succ_cons, List.take_succ_cons, List.take_add_one, hj]
    exact join_snoc a _ y
theorem join_first {l : List (List UInt8)} {y : List UInt8} (hy : l[0]? = some y) : Lib.join (l.take 1) [32] = y := by
  rcases l with _ | ⟨a, r⟩
  · simp at hy
  · simp at hy; subst hy; rw [List.take_succ_cons, List.take_zero]; exact Lib.join_one _ _
theorem join_le (l : List (List UInt8)) (k : Nat) : (Lib.join (l.take k) [32]).length ≤ (Lib.join l [32]).length := by
  rcases l with _ | ⟨a, r⟩
  · simp
  · rcases k with _ | k
    · simp [Lib.join_nil]
    · rw [List.take_succ_cons, Lib.join_cons, Lib.join_cons]
      unfold Lib.joinTail
      conv => rhs; rw [← List.take_append_drop k r]
      rw [List.map_append, List.flatten_append]; simp only [List.length_append]; omega

set_option maxHeartbeats 1000000 in
/-- text.Join -/
theorem join_any (ao : Option Addr) (cap : Nat) (l : List (List UInt8)) (w : World) (hr : SRow w ao l) (hc : l.length ≤ cap) (hn : l.length ≤ 1000000) (hl : (Lib.join l [32]).length ≤ 1000000) :
    Calls Tryd.prog 47 #[.slice ao l.length cap] w fun e w' => e = .returned (.string ⟨(Lib.join l [32]).toArray⟩) ∧ Below w.heap.size w w' := by
  by_cases he : l = []
  · subst he
    have HJ := Lib.hid (Tryd.strings_Join_none ao cap ⟨#[32]⟩ w)
    go_enter Tryd.func47, Tryd.ntmps47
    go_wp2_with (go_at_call 67; refine HJ.out.mono ?_; rintro e w' ⟨rfl, rfl⟩)
    go_ret
    exact ⟨rfl, Below.refl _ _⟩
  · rcases hr with h | ⟨b, off, rfl, hlt, hcell⟩
    · exact absurd h he
    have hJ := Tryd.strings_Join b off cap (l.map fun x => ⟨x.toArray⟩) ⟨#[32]⟩ w (by
        intro j x hx
        rw [List.getElem?_map] at hx
        obtain ⟨y, hy, rfl⟩ := Option.map_eq_some_iff.1 hx
        exact hcell j y hy) hlt (by simp; omega) (by simpa using hc) (by
        rw [List.map_map]; simp only [Function.comp_def]; rw [show (fun x : List UInt8 => x) = id from rfl, List.map_id]; exact Nat.le_trans hl (by decide))
    rw [List.map_map, List.length_map] at hJ
    simp only [Function.comp_def] at hJ
    rw [show (fun x : List UInt8 => x) = id from rfl, List.map_id] at hJ
    have HJ := Lib.hid hJ
    clear hJ hcell he
    go_enter Tryd.func47, Tryd.ntmps47
    go_wp2_with (go_at_call 67; refine HJ.out.mono ?_; rintro e w' ⟨rfl, hb⟩)
    go_ret
    exact ⟨rfl, hb⟩

end Txt
end Go.Proofs.YtaepoddmonijkaaDoor
