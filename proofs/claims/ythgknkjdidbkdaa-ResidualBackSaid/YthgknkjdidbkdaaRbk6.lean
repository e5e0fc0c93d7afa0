/-
  ResidualBack: plain facts on arcs beside one another from 1 to 2. No condition.
-/
import Derived.Test.YthgknkjdidbkdaaRen6
namespace Go.Proofs.Ythgknkjdidbkdaa
open Go.ChangeShapes Go.WideShapes Go.ChangeAt Go.RowKit
set_option linter.unusedVariables false
set_option linter.unusedSimpArgs false
namespace Ne
/-- the capacities, the arcs -/
def bcap (cs : List Int) : List Int := cs.map fun c => pickN c 50
def barc (cs : List Int) : List Arc := cs.map fun c => ⟨1, 2, pickN c 50⟩
theorem bcap_len (cs : List Int) : (bcap cs).length = cs.length := by simp [bcap]
theorem barc_len (cs : List Int) : (barc cs).length = cs.length := by simp [barc]
theorem bcap_at {cs : List Int} {i : Nat} (h : i < cs.length) : amt (bcap cs) i = pickN (amt cs i) 50 := by simp [bcap, amt, h]
theorem barc_at {cs : List Int} {i : Nat} (h : i < cs.length) : arcAt (barc cs) i = ⟨1, 2, amt (bcap cs) i⟩ := by rw [bcap_at h]; simp [barc, arcAt, amt, h]
theorem bcap_bd {cs : List Int} {i : Nat} (h : i < cs.length) : 0 ≤ amt (bcap cs) i ∧ amt (bcap cs) i < 50 := by rw [bcap_at h]; exact pickN_bd (by omega)
theorem barc_take {cs : List Int} {i : Nat} (h : i < cs.length) : barc (cs.take (i + 1)) = barc (cs.take i) ++ [⟨1, 2, amt (bcap cs) i⟩] := by
  rw [take_amt h, bcap_at h]; simp [barc]
theorem barc_all (cs : List Int) : barc (cs.take cs.length) = barc cs := by rw [List.take_length]
/-- the amounts that are written so far -/
def bfill (cs : List Int) (i : Nat) : List Int := (bcap cs).take i ++ List.replicate (cs.length - i) 0
theorem bfill_len {cs : List Int} {i : Nat} (h : i ≤ cs.length) : (bfill cs i).length = cs.length := by simp [bfill, bcap_len]; omega
theorem bfill_zero (cs : List Int) : bfill cs 0 = List.replicate cs.length 0 := by simp [bfill]
theorem bfill_all (cs : List Int) : bfill cs cs.length = bcap cs := by
  unfold bfill
  rw [Nat.sub_self, List.replicate_zero, List.append_nil, List.take_of_length_le (Nat.le_of_eq (bcap_len cs))]
theorem bfill_set {cs : List Int} {i : Nat} (h : i < cs.length) : (bfill cs i).set i (amt (bcap cs) i) = bfill cs (i + 1) := by
  have hl : (bcap cs).length = cs.length := bcap_len cs
  refine ext_amt (by rw [List.length_set, bfill_len (by omega), bfill_len (by omega)]) fun j hj => ?_
  rw [List.length_set, bfill_len (by omega)] at hj
  rw [amt_set _ (by rw [bfill_len (by omega)]; exact h)]
  have e : ∀ k, k ≤ cs.length → amt (bfill cs k) j = if j < k then amt (bcap cs) j else 0 := fun k hk => by
    unfold bfill amt
    by_cases c : j < k
    · rw [if_pos c, List.getD_eq_getElem?_getD, List.getElem?_append_left (by rw [List.length_take]; omega), List.getElem?_take, if_pos c, List.getD_eq_getElem?_getD]
    · rw [if_neg c, List.getD_eq_getElem?_getD, List.getElem?_append_right (by rw [List.length_take]; omega), List.getElem?_replicate]
      rw [List.length_take, Nat.min_eq_left (by omega)]
      split <;> rfl
  rw [e i (by omega), e (i + 1) (by omega)]
  by_cases c : j = i
  · subst c; rw [if_pos rfl, if_pos (by omega)]
  · rw [if_neg c]
    by_cases d : j < i
    · rw [if_pos d, if_pos (by omega)]
    · rw [if_neg d, if_neg (by omega)]
def bnet (cs : List Int) : Net := ⟨2, 1, 2, barc cs⟩
theorem barc_fine {cs : List Int} : ∀ a ∈ barc cs, fineA 2 a := by
  intro a ha
  obtain ⟨c, _, rfl⟩ := List.mem_map.1 ha
  have := pickN_bd (c := c) (n := 50) (by omega)
  exact ⟨by simp [isNode], by simp [isNode], by simp only; omega, by simp only; omega⟩
theorem bnet_check {cs : List Int} (h : cs.length ≤ 60) : checkN (bnet cs) = 0 :=
  checkN_fine (n := bnet cs) ⟨(show (2 : Int) ≤ 2 by omega), (show (2 : Int) ≤ 500 by omega), (show (1 : Int) ≤ 1 by omega), (show (1 : Int) ≤ 2 by omega), (show (1 : Int) ≤ 2 by omega), (show (2 : Int) ≤ 2 by omega), (show (1 : Int) ≠ 2 by omega), by show (barc cs).length ≤ 1000; rw [barc_len]; omega⟩ barc_fine
theorem bexc_out {cs f : List Int} {v : Int} (h1 : v ≠ 1) (h2 : v ≠ 2) : exc (barc cs) f v = 0 := by
  unfold exc toS frS
  have e1 : sumTo (fun i => if (arcAt (barc cs) i).to = v then amt f i else 0) (barc cs).length = 0 := sumTo_zero fun i hi => by
    rw [barc_len] at hi
    rw [barc_at hi]; simp [Ne.symm h2]
  have e2 : sumTo (fun i => if (arcAt (barc cs) i).fr = v then amt f i else 0) (barc cs).length = 0 := sumTo_zero fun i hi => by
    rw [barc_len] at hi
    rw [barc_at hi]; simp [Ne.symm h1]
  rw [e1, e2]; rfl
theorem bexc_two {cs f : List Int} : exc (barc cs) f 2 = sumTo (amt f) (barc cs).length ∧ exc (barc cs) f 1 = -sumTo (amt f) (barc cs).length := by
  unfold exc toS frS
  have h : ∀ i, i < (barc cs).length → arcAt (barc cs) i = ⟨1, 2, amt (bcap cs) i⟩ := fun i hi => barc_at (by rwa [barc_len] at hi)
  have e1 : sumTo (fun i => if (arcAt (barc cs) i).to = 2 then amt f i else 0) (barc cs).length = sumTo (amt f) (barc cs).length := sumTo_congr fun i hi => by rw [h i hi]; simp
  have e2 : sumTo (fun i => if (arcAt (barc cs) i).fr = 2 then amt f i else 0) (barc cs).length = 0 := sumTo_zero fun i hi => by rw [h i hi]; simp
  have e3 : sumTo (fun i => if (arcAt (barc cs) i).to = 1 then amt f i else 0) (barc cs).length = 0 := sumTo_zero fun i hi => by rw [h i hi]; simp
  have e4 : sumTo (fun i => if (arcAt (barc cs) i).fr = 1 then amt f i else 0) (barc cs).length = sumTo (amt f) (barc cs).length := sumTo_congr fun i hi => by rw [h i hi]; simp
  rw [e1, e2, e3, e4]
  constructor <;> omega
theorem bflow {cs f : List Int} (hl : f.length = cs.length) (hw : ∀ i, i < cs.length → 0 ≤ amt f i ∧ amt f i ≤ amt (bcap cs) i) : Flow (bnet cs) f := by
  refine ⟨by show f.length = (barc cs).length; rw [barc_len, hl], fun i hi => ?_, fun v h1 h2 => bexc_out h1 h2, ?_, ?_⟩
  · have hi2 : i < cs.length := by have : i < (barc cs).length := hi; rwa [barc_len] at this
    have := hw i hi2
    show 0 ≤ amt f i ∧ amt f i ≤ (arcAt (barc cs) i).cap
    rw [barc_at hi2]; exact this
  · show exc (barc cs) f 1 = -exc (barc cs) f 2
    rw [bexc_two.1, bexc_two.2]
  · show 0 ≤ exc (barc cs) f 2
    rw [bexc_two.1, barc_len]
    exact sumTo_nn fun i hi => (hw i hi).1
theorem bflow_nought (cs : List Int) : Flow (bnet cs) (List.replicate cs.length 0) := bflow (by simp) fun i hi => by
  have := bcap_bd hi
  have e : amt (List.replicate cs.length (0 : Int)) i = 0 := by simp [amt, hi]
  rw [e]; omega
theorem bflow_full (cs : List Int) : Flow (bnet cs) (bcap cs) := bflow (bcap_len cs) fun i hi => by
  have := bcap_bd hi
  omega
theorem broom {cs f : List Int} {i : Nat} (h : i < cs.length) : amt (roomL (barc cs) f (2 * (barc cs).length)) (2 * i) = amt (bcap cs) i - amt f i ∧ amt (roomL (barc cs) f (2 * (barc cs).length)) (2 * i + 1) = amt f i := by
  rw [barc_len, roomL_at _ _ (by omega), roomL_at _ _ (by omega), room_even, room_odd, barc_at h]
  exact ⟨rfl, rfl⟩
theorem bwalk {cs : List Int} {i : Nat} (h : i < cs.length) : isWalk (bnet cs) [2 * (i : Int)] = true := by
  unfold isWalk walkAt
  have hi : 2 * i < 2 * (barc cs).length := by rw [barc_len]; omega
  have e1 : enF (bnet cs).l (2 * (i : Int)) = 1 := by
    show enF (barc cs) (2 * (i : Int)) = 1
    rw [show 2 * (i : Int) = ((2 * i : Nat) : Int) by omega, enF_in hi, trF_even, barc_at h]
  have e2 : enT (bnet cs).l (2 * (i : Int)) = 2 := by
    show enT (barc cs) (2 * (i : Int)) = 2
    rw [show 2 * (i : Int) = ((2 * i : Nat) : Int) by omega, enT_in hi, trT_even, barc_at h]
  simp [stW, e1, e2]
  exact ⟨rfl, rfl⟩
theorem bpush {cs f : List Int} {x : Int} {i : Nat} (h : i < cs.length) : pushN (bnet cs).l f x [2 * (i : Int)] = if amt (bcap cs) i - amt f i < x then none else some (put1 f x (2 * i)) := by
  show (if roomN (barc cs) f (2 * (i : Int)).toNat < x then none else some (put1 f x (2 * (i : Int)).toNat)) = _
  rw [show (2 * (i : Int)).toNat = 2 * i by omega, room_even, barc_at h]
theorem amt_repl (m i : Nat) : amt (List.replicate m 0) i = 0 := by
  unfold amt
  by_cases e : i < m
  · simp [e]
  · simp [Nat.not_lt.1 e]
/-- of nothing all that can be is pushed; of all of it no unit more -/
theorem bpush_nought {cs : List Int} (hl : cs.length ≤ 60) {i : Nat} (h : i < cs.length) :
    (amt (bcap cs) i = 0 ∧ pushE (bnet cs) (List.replicate cs.length 0) [2 * (i : Int)] (amt (bcap cs) i) = 3) ∨
    (0 < amt (bcap cs) i ∧ pushE (bnet cs) (List.replicate cs.length 0) [2 * (i : Int)] (amt (bcap cs) i) = 0 ∧ (pushV (bnet cs) (List.replicate cs.length 0) [2 * (i : Int)] (amt (bcap cs) i)).length = cs.length ∧ amt (pushV (bnet cs) (List.replicate cs.length 0) [2 * (i : Int)] (amt (bcap cs) i)) i = amt (bcap cs) i) := by
  have hb := bcap_bd h
  have c := flow_chkF (bnet_check hl) (bflow_nought cs)
  by_cases e : amt (bcap cs) i = 0
  · exact .inl ⟨e, (pushE_low c (bwalk h) (by omega)).1⟩
  · obtain ⟨h1, h2⟩ := pushE_go c (bwalk h) (x := amt (bcap cs) i) (by omega)
    rw [bpush h, amt_repl, if_neg (show ¬ amt (bcap cs) i - 0 < amt (bcap cs) i by omega)] at h1 h2
    refine .inr ⟨by omega, h1, ?_, ?_⟩
    · rw [h2]; show (put1 _ _ _).length = _; rw [put1_len]; simp
    · rw [h2]
      show amt (put1 _ _ _) i = _
      rw [put1_at (by rw [List.length_replicate]; omega), if_pos (by omega), if_neg (by omega), amt_repl]; omega
theorem bpush_full {cs : List Int} (hl : cs.length ≤ 60) {i : Nat} (h : i < cs.length) : pushE (bnet cs) (bcap cs) [2 * (i : Int)] 1 = 9 := by
  have c := flow_chkF (bnet_check hl) (bflow_full cs)
  obtain ⟨h1, _⟩ := pushE_go c (bwalk h) (x := 1) (by omega)
  rw [bpush h, if_pos (show amt (bcap cs) i - amt (bcap cs) i < 1 by omega)] at h1
  exact h1
theorem breach {cs : List Int} (hl : cs.length ≤ 60) {M : List Bool} (h : IsReach (bnet cs) (bcap cs) 1 M) : M.getD 2 false = false := by
  rcases e : M.getD 2 false with _ | _
  · rfl
  · have hs := h.sound 2 e
    have : ∀ v, Rch (bnet cs) (bcap cs) 1 v → v = 1 := by
      intro v hv
      induction hv with
      | base => rfl
      | @step r hr hx _ ih =>
        exfalso
        have hi : r / 2 < cs.length := by have : r < 2 * (barc cs).length := hr; rw [barc_len] at this; omega
        by_cases c : r % 2 = 1
        · have : trF (barc cs) r = 1 := ih
          unfold trF at this
          rw [if_pos c, barc_at hi] at this
          simp at this
        · have : 1 ≤ roomN (barc cs) (bcap cs) r := hx
          unfold roomN at this
          rw [if_neg c, barc_at hi] at this
          simp at this
    have := this _ hs
    omega
end Ne
end Go.Proofs.Ythgknkjdidbkdaa
