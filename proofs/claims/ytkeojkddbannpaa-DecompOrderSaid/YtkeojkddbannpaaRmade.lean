/-
  Contract of the laws' made: a right network of raw numbers. Condition: the numbers are of 64 bits. (Written by wip/tools/gen-Made.py.)
-/
import Derived.Test.YtkeojkddbannpaaNets
import Derived.Test.YtkeojkddbannpaaEnd
namespace Go.Proofs.Ytkeojkddbannpaa
open Go.ChangeShapes Go.WideShapes Go.ChangeAt Go.RowKit
set_option linter.unusedVariables false
set_option linter.unusedSimpArgs false
namespace Ne
def madeA (n : Int) (c : Arc) : Arc := ⟨1 + pickN c.fr n, 1 + pickN c.to n, if pickN (c.cap.tdiv 21) 9 = 0 then pickN c.cap 1000000 else pickN c.cap 21⟩
def madeN (nodes ends : Int) (l : List Arc) : Net :=
  let n := 2 + pickN nodes 8
  let s := 1 + pickN ends n
  ⟨n, s, 1 + (s + pickN (ends.tdiv 16) (n - 1)) % n, (l.take 24).map (madeA n)⟩
theorem in64_tdiv {c : Int} (h : in64 c) {k : Int} (hk : 0 < k) : in64 (c.tdiv k) := by
  unfold in64 at *
  rcases Int.le_total 0 c with hc | hc
  · rw [Int.tdiv_eq_ediv_of_nonneg hc]
    have h1 := Int.ediv_nonneg hc (Int.le_of_lt hk)
    have h2 := Int.ediv_le_self k hc
    omega
  · obtain ⟨d, rfl⟩ : ∃ d, c = -d := ⟨-c, by omega⟩
    rw [Int.neg_tdiv, Int.tdiv_eq_ediv_of_nonneg (by omega)]
    have h1 := Int.ediv_nonneg (a := d) (b := k) (by omega) (Int.le_of_lt hk)
    have h2 := Int.ediv_le_self (a := d) k (by omega)
    omega

theorem wrap_in {x : Int} (h : in64 x) : IntKind.i64.wrap x = x := by unfold in64 at h; rw [IntKind.wrap_i64]; omega

theorem wrap64_eq (x : Int) : IntKind.i64.wrap x = wrap64 x := by rw [IntKind.wrap_i64]; unfold wrap64; omega
theorem netBox_set2 {w : World} {b : Nat} {n s t t2 : Int} {v : Value} (h : NetBox w b n s t v) : NetBox (w.setCell ⟨b, 2, none⟩ (.int .i64 t2)) b n s t2 v := by
  unfold NetBox at *
  simp only [World.setCell, Array.getElem?_modify, h, if_true, Option.map_some]
  rfl

set_option maxRecDepth 100000 in
set_option maxHeartbeats 4000000 in
theorem made_any (nodes ends : Int) (l : List Arc) (ao : Option Addr) (cap : Nat) (w : World) (hn : in64 nodes) (he : in64 ends) (hl : ∀ a ∈ l, a.ok) (hr : ARow w ao l) :
    Calls Try.prog 17 #[.int .i64 nodes, .int .i64 ends, .slice ao l.length cap] w fun e w' =>
      ∃ v, e = .returned (.agg #[.int .i64 (madeN nodes ends l).n, .int .i64 (madeN nodes ends l).s, .int .i64 (madeN nodes ends l).t, v]) ∧ OwnA w' w.heap.size v (madeN nodes ends l).l ∧ Below w.heap.size w w' := by
  have HR := Lib.hid hr
  clear hr
  obtain ⟨p1, hp1⟩ : ∃ p, p = pickN nodes 8 := ⟨_, rfl⟩
  have b1 := pickN_bd (c := nodes) (n := 8) (by omega)
  rw [← hp1] at b1
  obtain ⟨b10, b11⟩ := b1
  obtain ⟨p2, hp2⟩ : ∃ p, p = pickN ends (2 + p1) := ⟨_, rfl⟩
  have b2 := pickN_bd (c := ends) (n := 2 + p1) (by omega)
  rw [← hp2] at b2
  obtain ⟨b20, b21⟩ := b2
  obtain ⟨e16, he16⟩ : ∃ p, p = ends.tdiv 16 := ⟨_, rfl⟩
  have c16 := in64_tdiv he (k := 16) (by omega)
  rw [← he16] at c16
  obtain ⟨p3, hp3⟩ : ∃ p, p = pickN e16 (2 + p1 - 1) := ⟨_, rfl⟩
  have b3 := pickN_bd (c := e16) (n := 2 + p1 - 1) (by omega)
  rw [← hp3] at b3
  obtain ⟨b30, b31⟩ := b3
  have H1 := Lib.hid fun w' => pick_any nodes 8 w' hn.1 hn.2 (by omega) (by omega)
  have H2 := Lib.hid fun w' => pick_any ends (2 + p1) w' he.1 he.2 (by omega) (by omega)
  have H3 := Lib.hid fun w' => pick_any e16 (2 + p1 - 1) w' c16.1 c16.2 (by omega) (by omega)
  simp only [← hp1] at H1
  simp only [← hp2] at H2
  simp only [← hp3] at H3
  obtain ⟨q, hq⟩ : ∃ q, q = (1 + p2 + p3) % (2 + p1) := ⟨_, rfl⟩
  have q0 : 0 ≤ q := by rw [hq]; exact Int.emod_nonneg _ (by omega)
  have q1 : q < 2 + p1 := by rw [hq]; exact Int.emod_lt_of_pos _ (by omega)
  have HT := Lib.hid (show (1 + p2 + p3).tmod (2 + p1) = q from by rw [hq]; exact Int.tmod_eq_emod_of_nonneg (by omega))
  have HQ := Lib.hid hq
  have HD := Lib.hid (show ¬ (2 + p1 = 0) by omega)
  clear hq
  have HM := Lib.hid (show madeN nodes ends l = ⟨2 + p1, 1 + p2, 1 + q, (l.take 24).map (madeA (2 + p1))⟩ by
    unfold madeN
    simp only [← hp1, ← hp2, ← he16, ← hp3, HQ.out])
  have HL := Lib.hid hl
  have C16 := Lib.hid (show in64 e16 from c16)
  have HX := Lib.hid (And.intro hp1 (And.intro hp2 (And.intro he16 hp3)))
  obtain ⟨hn0, hn1⟩ := hn
  obtain ⟨he0, he1⟩ := he
  clear hl hp1 hp2 hp3 c16 he16
  go_enter Try.func17, Try.ntmps17
  go_wp2_with (first
    | (go_at_call_of 21 nodes; refine (H1.out _).mono ?_; rintro e w' ⟨rfl, rfl⟩)
    | (go_at_call_of 21 ends; refine (H2.out _).mono ?_; rintro e w' ⟨rfl, rfl⟩))
  have NB := netBox_at (w.alloc (.cells #[.int .i64 0, .int .i64 0, .int .i64 0, .slice none 0 0] 24)) (b := w.heap.size + 1) (by simp) (2 + p1) (1 + p2) 0 (.slice none 0 0)
  have RB := netBox_alloc (netBox_new w 0 0 0 (.slice none 0 0)) (.cells #[.int .i64 (2 + p1), .int .i64 (1 + p2), .int .i64 0, .slice none 0 0] 24)
  have BW : Below w.heap.size w ((w.alloc (.cells #[.int .i64 0, .int .i64 0, .int .i64 0, .slice none 0 0] 24)).alloc (.cells #[.int .i64 (2 + p1), .int .i64 (1 + p2), .int .i64 0, .slice none 0 0] 24)) := ((Below.refl _ _).alloc (by simp) _).alloc (by simp) _
  have SZ : ((w.alloc (.cells #[.int .i64 0, .int .i64 0, .int .i64 0, .slice none 0 0] 24)).alloc (.cells #[.int .i64 (2 + p1), .int .i64 (1 + p2), .int .i64 0, .slice none 0 0] 24)).heap.size = w.heap.size + 2 := by simp
  generalize ((w.alloc (.cells #[.int .i64 0, .int .i64 0, .int .i64 0, .slice none 0 0] 24)).alloc (.cells #[.int .i64 (2 + p1), .int .i64 (1 + p2), .int .i64 0, .slice none 0 0] 24)) = W0 at *
  obtain ⟨n0, n1, n2, n3⟩ := netBox_cells NB
  have nf := netBox_frozen NB 2
  have hS0 := (show (fun w' => w'.cell? ⟨w.heap.size + 1, 0, none⟩ = some (.int .i64 (2 + p1)) ∧ w'.cell? ⟨w.heap.size + 1, 1, none⟩ = some (.int .i64 (1 + p2))) W0.drew from ⟨n0, n1⟩)
  refine Rg.start (S := (fun w' => w'.cell? ⟨w.heap.size + 1, 0, none⟩ = some (.int .i64 (2 + p1)) ∧ w'.cell? ⟨w.heap.size + 1, 1, none⟩ = some (.int .i64 (1 + p2)))) (last := 14) (by kernel_rfl) ?_
  refine Rg.take (i := 0) (v := ?_) 30 rfl (by kernel_rfl) (by kernel_rfl) (by kernel_rfl) (by kernel_rfl) (fun _ _ _ h => h) (Or.inl ⟨by rfl, ?_⟩) hS0 ?_
  rotate_left
  · intro w hSw
    go_simp
    try with_reducible rfl
  try simp only [Act.put, List.setIfInBounds_toArray, List.set_cons_zero, List.set_cons_succ]
  refine Rg.take (i := 1) (v := ?_) 30 rfl (by kernel_rfl) (by kernel_rfl) (by kernel_rfl) (by kernel_rfl) (fun _ _ _ h => h) (Or.inl ⟨by rfl, ?_⟩) hS0 ?_
  rotate_left
  · intro w hSw
    go_simp
    try with_reducible rfl
  try simp only [Act.put, List.setIfInBounds_toArray, List.set_cons_zero, List.set_cons_succ]
  refine Rg.take (i := 2) (v := ?_) 30 rfl (by kernel_rfl) (by kernel_rfl) (by kernel_rfl) (by kernel_rfl) (fun _ _ _ h => h) (Or.inl ⟨by rfl, ?_⟩) hS0 ?_
  rotate_left
  · intro w hSw
    go_simp
    try with_reducible rfl
  try simp only [Act.put, List.setIfInBounds_toArray, List.set_cons_zero, List.set_cons_succ]
  refine Rg.take (i := 3) (v := ?_) 30 rfl (by kernel_rfl) (by kernel_rfl) (by kernel_rfl) (by kernel_rfl) (fun _ _ _ h => h) (Or.inl ⟨by rfl, ?_⟩) hS0 ?_
  rotate_left
  · intro w hSw
    go_simp
    try with_reducible rfl
  try simp only [Act.put, List.setIfInBounds_toArray, List.set_cons_zero, List.set_cons_succ]
  refine Rg.take (i := 4) (v := ?_) 30 rfl (by kernel_rfl) (by kernel_rfl) (by kernel_rfl) (by kernel_rfl) (fun _ _ _ h => h) (Or.inl ⟨by rfl, ?_⟩) hS0 ?_
  rotate_left
  · intro w hSw
    go_simp
    try with_reducible rfl
  try simp only [Act.put, List.setIfInBounds_toArray, List.set_cons_zero, List.set_cons_succ]
  refine Rg.take (i := 5) (v := ?_) 30 rfl (by kernel_rfl) (by kernel_rfl) (by kernel_rfl) (by kernel_rfl) (fun _ _ _ h => h) (Or.inl ⟨by rfl, ?_⟩) hS0 ?_
  rotate_left
  · intro w hSw
    go_simp
    try with_reducible rfl
  try simp only [Act.put, List.setIfInBounds_toArray, List.set_cons_zero, List.set_cons_succ]
  refine Rg.take (i := 6) (v := ?_) 30 rfl (by kernel_rfl) (by kernel_rfl) (by kernel_rfl) (by kernel_rfl) (fun _ _ _ h => h) (Or.inl ⟨by rfl, ?_⟩) hS0 ?_
  rotate_left
  · intro w hSw
    go_simp
    try with_reducible rfl
  try simp only [Act.put, List.setIfInBounds_toArray, List.set_cons_zero, List.set_cons_succ]
  refine Rg.take (i := 9) (v := ?_) 30 rfl (by kernel_rfl) (by kernel_rfl) (by kernel_rfl) (by kernel_rfl) (fun _ _ _ h => h) (Or.inl ⟨by rfl, ?_⟩) hS0 ?_
  rotate_left
  · intro w hSw
    go_simp
    try with_reducible rfl
  try simp only [Act.put, List.setIfInBounds_toArray, List.set_cons_zero, List.set_cons_succ]
  refine Rg.take (i := 10) (v := ?_) 30 rfl (by kernel_rfl) (by kernel_rfl) (by kernel_rfl) (by kernel_rfl) (fun _ _ _ h => h) (Or.inl ⟨by rfl, ?_⟩) hS0 ?_
  rotate_left
  · intro w hSw
    go_simp
    try with_reducible rfl
  try simp only [Act.put, List.setIfInBounds_toArray, List.set_cons_zero, List.set_cons_succ]
  refine Rg.step (i := 7) (by kernel_rfl) rfl fun K' hK' => ?_
  have HK := Lib.hid hK'
  clear hK'
  go_simp
  rw [wrap_in (x := ends.tdiv 16) (by rw [← HX.out.2.2.1]; exact C16.out), wrap_in (x := 2 + p1 - 1) (by unfold in64; omega), ← HX.out.2.2.1]
  refine (H3.out _).mono ?_
  rintro e w' ⟨rfl, rfl⟩
  refine HK.out _ _ ⟨fun _ => hS0, ?_⟩
  clear HK K'
  try simp only [Act.put, List.setIfInBounds_toArray, List.set_cons_zero, List.set_cons_succ]
  refine Rg.take (i := 8) (v := ?_) 30 rfl (by kernel_rfl) (by kernel_rfl) (by kernel_rfl) (by kernel_rfl) (fun _ _ _ h => h) (Or.inl ⟨by rfl, ?_⟩) hS0 ?_
  rotate_left
  · intro w hSw
    go_simp
    try with_reducible rfl
  try simp only [Act.put, List.setIfInBounds_toArray, List.set_cons_zero, List.set_cons_succ]
  refine Rg.take (i := 11) (v := ?_) 30 rfl (by kernel_rfl) (by kernel_rfl) (by kernel_rfl) (by kernel_rfl) (fun _ _ _ h => h) (Or.inl ⟨by rfl, ?_⟩) hS0 ?_
  rotate_left
  · intro w hSw
    go_simp
    rw [if_neg HD.out, wrap_in (x := 1 + p2 + p3) (by unfold in64; omega), HT.out]
    try with_reducible rfl
  try simp only [Act.put, List.setIfInBounds_toArray, List.set_cons_zero, List.set_cons_succ]
  refine Rg.take (i := 12) (v := ?_) 30 rfl (by kernel_rfl) (by kernel_rfl) (by kernel_rfl) (by kernel_rfl) (fun _ _ _ h => h) (Or.inl ⟨by rfl, ?_⟩) hS0 ?_
  rotate_left
  · intro w hSw
    go_simp
    try with_reducible rfl
  try simp only [Act.put, List.setIfInBounds_toArray, List.set_cons_zero, List.set_cons_succ]
  refine Rg.take (i := 13) (v := ?_) 30 rfl (by kernel_rfl) (by kernel_rfl) (by kernel_rfl) (by kernel_rfl) (fun _ _ _ h => h) (Or.inl ⟨by rfl, ?_⟩) hS0 ?_
  rotate_left
  · intro w hSw
    go_simp
    try with_reducible rfl
  try simp only [Act.put, List.setIfInBounds_toArray, List.set_cons_zero, List.set_cons_succ]
  refine Rg.step (i := 14) (by kernel_rfl) rfl fun K' hK' => ?_
  have HK := Lib.hid hK'
  clear hK'
  go_simp
  refine HK.out _ _ ⟨fun h => absurd rfl h, ?_⟩
  clear HK K'
  try simp only [Act.put, List.setIfInBounds_toArray, List.set_cons_zero, List.set_cons_succ]
  refine Rg.finished (by kernel_rfl) ?_ _
  rw [wrap_in (x := 1 + q) (by unfold in64; omega)]
  have NB2 : NetBox (W0.setCell ⟨w.heap.size + 1, 2, none⟩ (.int .i64 (1 + q))).drew (w.heap.size + 1) (2 + p1) (1 + p2) (1 + q) (.slice none 0 0) := netBox_set2 NB
  have RB2 : NetBox (W0.setCell ⟨w.heap.size + 1, 2, none⟩ (.int .i64 (1 + q))).drew w.heap.size 0 0 0 (.slice none 0 0) := netBox_other RB (show w.heap.size ≠ w.heap.size + 1 by omega)
  have BW2 : Below w.heap.size w (W0.setCell ⟨w.heap.size + 1, 2, none⟩ (.int .i64 (1 + q))).drew := (BW.setCell (p := ⟨w.heap.size + 1, 2, none⟩) (by simp) _).drew
  have SZ2 : (W0.setCell ⟨w.heap.size + 1, 2, none⟩ (.int .i64 (1 + q))).drew.heap.size = w.heap.size + 2 := by rw [← SZ]; simp [World.setCell, World.drew]
  clear NB RB BW SZ n0 n1 n2 n3 nf hS0 H1 H2 H3 HD HT
  generalize (W0.setCell ⟨w.heap.size + 1, 2, none⟩ (.int .i64 (1 + q))).drew = W1 at *
  have HNB := Lib.hid NB2
  have HRB := Lib.hid RB2
  have HBW := Lib.hid BW2
  have HSZ := Lib.hid SZ2
  clear NB2 RB2 BW2 SZ2
  go_wp2
  go_loopw [8] (fun i wr => ∃ (k : Nat) (v : Value), i = .int .i64 k ∧ k ≤ 24 ∧ k ≤ l.length ∧ NetBox wr (w.heap.size + 1) (2 + p1) (1 + p2) (1 + q) v ∧ NetBox wr w.heap.size 0 0 0 (.slice none 0 0) ∧ OwnA wr (w.heap.size + 2) v ((l.take k).map (madeA (2 + p1))) ∧ Below w.heap.size w wr ∧ w.heap.size + 2 ≤ wr.heap.size) (fun i _ => 24 - (intOf i).toNat)
  case atStart => exact ⟨0, _, rfl, Nat.zero_le _, Nat.zero_le _, HNB.out, HRB.out, Rw.own_nil _ _, HBW.out, by have := HSZ.out; omega⟩
  case round =>
    obtain ⟨k, v, rfl, hk24, hkl, hbo, hres, hown, hbel, hsz⟩ := hrel
    clear HNB HRB HBW HSZ
    have HBO := Lib.hid hbo
    have HRS := Lib.hid hres
    have HO := Lib.hid hown
    have HB := Lib.hid hbel
    obtain ⟨o0, o1, o2, o3⟩ := netBox_cells hbo
    have o4 := netBox_frozen hbo 3
    clear hbo hres hown hbel
    by_cases hlt : k < l.length
    · by_cases h24 : k < 24
      · obtain ⟨x, hx⟩ : ∃ x, l[k]? = some x := ⟨_, List.getElem?_eq_getElem hlt⟩
        have hxo : x.ok := HL.out x (List.mem_of_getElem? hx)
        rcases (HR.out.kept HB.out) with h | ⟨b, off, rfl, hbl, hcell⟩
        · exfalso; rw [h] at hlt; simp at hlt
        obtain ⟨c0, c1, c2⟩ := arow_at hcell hx
        have hblt : b < w.heap.size := by
          rcases HR.out with h | ⟨b2, o2, h2, h3, _⟩
          · rw [h] at hlt; simp at hlt
          · cases h2; exact h3
        clear hcell
        obtain ⟨hxf, hxt, hxc⟩ := hxo
        obtain ⟨r1, hr1⟩ : ∃ r, r = pickN x.cap 21 := ⟨_, rfl⟩
        have d1 := pickN_bd (c := x.cap) (n := 21) (by omega)
        obtain ⟨r2, hr2⟩ : ∃ r, r = pickN (x.cap.tdiv 21) 9 := ⟨_, rfl⟩
        obtain ⟨r3, hr3⟩ : ∃ r, r = pickN x.cap 1000000 := ⟨_, rfl⟩
        have d3 := pickN_bd (c := x.cap) (n := 1000000) (by omega)
        obtain ⟨r4, hr4⟩ : ∃ r, r = pickN x.fr (2 + p1) := ⟨_, rfl⟩
        have d4 := pickN_bd (c := x.fr) (n := 2 + p1) (by omega)
        obtain ⟨r5, hr5⟩ : ∃ r, r = pickN x.to (2 + p1) := ⟨_, rfl⟩
        have d5 := pickN_bd (c := x.to) (n := 2 + p1) (by omega)
        rw [← hr1] at d1
        rw [← hr3] at d3
        rw [← hr4] at d4
        rw [← hr5] at d5
        obtain ⟨d10, d11⟩ := d1
        obtain ⟨d30, d31⟩ := d3
        obtain ⟨d40, d41⟩ := d4
        obtain ⟨d50, d51⟩ := d5
        have C1 := Lib.hid fun w' => pick_any x.cap 21 w' hxc.1 hxc.2 (by omega) (by omega)
        have e64 : wrap64 (x.cap.tdiv 21) = x.cap.tdiv 21 := (wrap64_eq _).symm.trans (wrap_in (in64_tdiv hxc (by omega)))
        have C2 := Lib.hid fun w' => pick_any (wrap64 (x.cap.tdiv 21)) 9 w' (by rw [e64]; exact (in64_tdiv hxc (by omega)).1) (by rw [e64]; exact (in64_tdiv hxc (by omega)).2) (by omega) (by omega)
        have C3 := Lib.hid fun w' => pick_any x.cap 1000000 w' hxc.1 hxc.2 (by omega) (by omega)
        have C4 := Lib.hid fun w' => pick_any x.fr (2 + p1) w' hxf.1 hxf.2 (by omega) (by omega)
        have C5 := Lib.hid fun w' => pick_any x.to (2 + p1) w' hxt.1 hxt.2 (by omega) (by omega)
        have e2 : pickN (wrap64 (x.cap.tdiv 21)) 9 = r2 := by rw [e64, hr2]
        simp only [← hr1] at C1
        simp only [e2] at C2
        simp only [← hr3] at C3
        simp only [← hr4] at C4
        simp only [← hr5] at C5
        have HMA := Lib.hid (show madeA (2 + p1) x = ⟨1 + r4, 1 + r5, if r2 = 0 then r3 else r1⟩ by unfold madeA; rw [← hr1, ← hr2, ← hr3, ← hr4, ← hr5])
        clear e64 hr1 hr2 hr3 hr4 hr5 e2 hxf hxt hxc
        obtain ⟨i0, hi0, hz0, hz1, hz2⟩ := info_parts elemA.info
        have hvb : ∀ g, v.ownBlock = some g → w.heap.size + 2 ≤ g := Rw.own_block HO.out
        have ao2 : v.ownBlock ≠ some (w.heap.size + 1) := fun h => by have := hvb _ h; omega
        have ar : v.ownBlock ≠ some w.heap.size := fun h => by have := hvb _ h; omega
        have ab : v.ownBlock ≠ some b := fun h => by have := hvb _ h; omega
        have hlen1 : ((l.take k).map (madeA (2 + p1))).length = k := by simp; omega
        have hk1 : k + 1 ≤ maxLen := by unfold maxLen; omega
        have hk2 : (k + 1) * 24 ≤ 140737488355328 := by omega
        have hkn0 : (0 : Int) ≤ (k : Int) := Int.natCast_nonneg _
        have hkn1 : (k : Int) < (l.length : Int) := by omega
        have hkn2 : (k : Int) < 24 := by omega
        have HOW : Hid (wr.ownsRow (w.heap.size + 2) 53 3 v k (((l.take k).map (madeA (2 + p1))).flatMap encA)) := Lib.hid (by
          have this : wr.ownsRow (w.heap.size + 2) 53 3 v ((l.take k).map (madeA (2 + p1))).length (((l.take k).map (madeA (2 + p1))).flatMap encA) := HO.out
          rw [hlen1] at this; exact this)
        clear hlen1
        have HWA : ∀ o : Obj, (wr.alloc o).drew.ownsRow (w.heap.size + 2) 53 3 v k (((l.take k).map (madeA (2 + p1))).flatMap encA) := fun o => (HOW.out.alloc o).drew
        have HNW : ∀ (y : Arc) j u, [Value.int .i64 y.fr, Value.int .i64 y.to, Value.int .i64 y.cap][j]? = some u → (wr.alloc (.cells #[Value.int .i64 y.fr, Value.int .i64 y.to, Value.int .i64 y.cap] 53)).drew.cell? ((⟨wr.heap.size, 0, none⟩ : Addr).add j) = some u := fun y =>
          World.news_of_block (w := (wr.alloc (.cells #[Value.int .i64 y.fr, Value.int .i64 y.to, Value.int .i64 y.cap] 53)).drew) (cs := #[Value.int .i64 y.fr, Value.int .i64 y.to, Value.int .i64 y.cap]) (heap_alloc_new wr _)
        have HON : ∀ y : Arc, ∀ u ∈ [Value.int .i64 y.fr, Value.int .i64 y.to, Value.int .i64 y.cap], u.oneCell' = true := fun y => encA_one y
        have HHS : ∀ o : Obj, (wr.alloc o).drew.heap.size = wr.heap.size + 1 := fun o => by show (wr.heap.push _).size = _; simp
        have HBS : ∀ o : Obj, w.heap.size + 2 ≤ (wr.alloc o).drew.heap.size := fun o => by rw [HHS o]; omega
        have HNB : ∀ o : Obj, NetBox (wr.alloc o).drew (w.heap.size + 1) (2 + p1) (1 + p2) (1 + q) v := fun o => netBox_alloc HBO.out o
        have HNR : ∀ o : Obj, NetBox (wr.alloc o).drew w.heap.size 0 0 0 (.slice none 0 0) := fun o => netBox_alloc HRS.out o
        have HA2 : ∀ y : Arc, madeA (2 + p1) x = y → ((l.take (k + 1)).map (madeA (2 + p1))) = ((l.take k).map (madeA (2 + p1))) ++ [y] := fun y hy => by
          rw [List.take_add_one, hx, ← hy]; simp
        have HAG := Lib.hid HA2
        clear HA2
        by_cases hr0 : r2 = 0
        · have hr0' : (r2 == 0) = true := by simp [hr0]
          rw [if_pos hr0] at HMA
          clear hr0
          go_wp2_with (first
            | (go_at_call 21; with_reducible refine (C1.out _).mono ?_; rintro e w' ⟨rfl, rfl⟩)
            | (go_at_call 21; with_reducible refine (C2.out _).mono ?_; rintro e w' ⟨rfl, rfl⟩)
            | (go_at_call 21; with_reducible refine (C3.out _).mono ?_; rintro e w' ⟨rfl, rfl⟩))
          have hS0 := (show (fun w' => w'.cell? ⟨w.heap.size + 1, 0, none⟩ = some (.int .i64 (2 + p1)) ∧ w'.cell? ⟨w.heap.size + 1, 3, none⟩ = some v ∧ w'.cell? ⟨b, off + k * 3, none⟩ = some (.int .i64 x.fr) ∧ w'.cell? ⟨b, off + k * 3 + 1, none⟩ = some (.int .i64 x.to)) wr.drew from ⟨o0, o3, c0, c1⟩)
          have hS1 := fun (o : Obj) => (show (fun w' => w'.cell? ⟨w.heap.size + 1, 0, none⟩ = some (.int .i64 (2 + p1)) ∧ w'.cell? ⟨w.heap.size + 1, 3, none⟩ = some v ∧ w'.cell? ⟨b, off + k * 3, none⟩ = some (.int .i64 x.fr) ∧ w'.cell? ⟨b, off + k * 3 + 1, none⟩ = some (.int .i64 x.to)) (wr.alloc o).drew from ⟨held_new o0, held_new o3, held_new c0, held_new c1⟩)
          refine Rg.start (S := (fun w' => w'.cell? ⟨w.heap.size + 1, 0, none⟩ = some (.int .i64 (2 + p1)) ∧ w'.cell? ⟨w.heap.size + 1, 3, none⟩ = some v ∧ w'.cell? ⟨b, off + k * 3, none⟩ = some (.int .i64 x.fr) ∧ w'.cell? ⟨b, off + k * 3 + 1, none⟩ = some (.int .i64 x.to))) (last := 25) (by kernel_rfl) ?_
          refine Rg.take (i := 0) (v := ?_) 30 rfl (by kernel_rfl) (by kernel_rfl) (by kernel_rfl) (by kernel_rfl) (fun _ _ _ h => h) (Or.inl ⟨by rfl, ?_⟩) hS0 ?_
          rotate_left
          · intro w hSw
            go_simp
            try with_reducible rfl
          try simp only [Act.put, List.setIfInBounds_toArray, List.set_cons_zero, List.set_cons_succ]
          refine Rg.take (i := 1) (v := ?_) 30 rfl (by kernel_rfl) (by kernel_rfl) (by kernel_rfl) (by kernel_rfl) (fun _ _ _ h => h) (Or.inl ⟨by rfl, ?_⟩) hS0 ?_
          rotate_left
          · intro w hSw
            go_simp
            try with_reducible rfl
          try simp only [Act.put, List.setIfInBounds_toArray, List.set_cons_zero, List.set_cons_succ]
          refine Rg.take (i := 2) (v := ?_) 30 rfl (by kernel_rfl) (by kernel_rfl) (by kernel_rfl) (by kernel_rfl) (fun _ _ _ h => h) (Or.inl ⟨by rfl, ?_⟩) hS0 ?_
          rotate_left
          · intro w hSw
            go_simp
            try with_reducible rfl
          try simp only [Act.put, List.setIfInBounds_toArray, List.set_cons_zero, List.set_cons_succ]
          refine Rg.take (i := 3) (v := ?_) 30 rfl (by kernel_rfl) (by kernel_rfl) (by kernel_rfl) (by kernel_rfl) (fun _ _ _ h => h) (Or.inl ⟨by rfl, ?_⟩) hS0 ?_
          rotate_left
          · intro w hSw
            go_simp
            try with_reducible rfl
          try simp only [Act.put, List.setIfInBounds_toArray, List.set_cons_zero, List.set_cons_succ]
          refine Rg.take (i := 4) (v := ?_) 30 rfl (by kernel_rfl) (by kernel_rfl) (by kernel_rfl) (by kernel_rfl) (fun _ _ _ h => h) (Or.inl ⟨by rfl, ?_⟩) hS0 ?_
          rotate_left
          · intro w hSw
            go_simp
            try with_reducible rfl
          try simp only [Act.put, List.setIfInBounds_toArray, List.set_cons_zero, List.set_cons_succ]
          refine Rg.take (i := 5) (v := ?_) 30 rfl (by kernel_rfl) (by kernel_rfl) (by kernel_rfl) (by kernel_rfl) (fun _ _ _ h => h) (Or.inl ⟨by rfl, ?_⟩) hS0 ?_
          rotate_left
          · intro w hSw
            go_simp
            try with_reducible rfl
          try simp only [Act.put, List.setIfInBounds_toArray, List.set_cons_zero, List.set_cons_succ]
          refine Rg.take (i := 6) (v := ?_) 30 rfl (by kernel_rfl) (by kernel_rfl) (by kernel_rfl) (by kernel_rfl) (fun _ _ _ h => h) (Or.inl ⟨by rfl, ?_⟩) hS0 ?_
          rotate_left
          · intro w hSw
            go_simp
            try with_reducible rfl
          try simp only [Act.put, List.setIfInBounds_toArray, List.set_cons_zero, List.set_cons_succ]
          refine Rg.take (i := 7) (v := ?_) 30 rfl (by kernel_rfl) (by kernel_rfl) (by kernel_rfl) (by kernel_rfl) (fun _ _ _ h => h) (Or.inl ⟨by rfl, ?_⟩) hS0 ?_
          rotate_left
          · intro w hSw
            go_simp
            try with_reducible rfl
          try simp only [Act.put, List.setIfInBounds_toArray, List.set_cons_zero, List.set_cons_succ]
          refine Rg.take (i := 8) (v := ?_) 30 rfl (by kernel_rfl) (by kernel_rfl) (by kernel_rfl) (by kernel_rfl) (fun _ _ _ h => h) (Or.inl ⟨by rfl, ?_⟩) hS0 ?_
          rotate_left
          · intro w hSw
            go_simp
            try with_reducible rfl
          try simp only [Act.put, List.setIfInBounds_toArray, List.set_cons_zero, List.set_cons_succ]
          refine Rg.take (i := 11) (v := ?_) 30 rfl (by kernel_rfl) (by kernel_rfl) (by kernel_rfl) (by kernel_rfl) (fun _ _ _ h => h) (Or.inl ⟨by rfl, ?_⟩) hS0 ?_
          rotate_left
          · intro w hSw
            go_simp
            try with_reducible rfl
          try simp only [Act.put, List.setIfInBounds_toArray, List.set_cons_zero, List.set_cons_succ]
          refine Rg.take (i := 12) (v := ?_) 30 rfl (by kernel_rfl) (by kernel_rfl) (by kernel_rfl) (by kernel_rfl) (fun _ _ _ h => h) (Or.inl ⟨by rfl, ?_⟩) hS0 ?_
          rotate_left
          · intro w hSw
            go_simp
            try with_reducible rfl
          try simp only [Act.put, List.setIfInBounds_toArray, List.set_cons_zero, List.set_cons_succ]
          refine Rg.take (i := 13) (v := ?_) 30 rfl (by kernel_rfl) (by kernel_rfl) (by kernel_rfl) (by kernel_rfl) (fun _ _ _ h => h) (Or.inl ⟨by rfl, ?_⟩) hS0 ?_
          rotate_left
          · intro w hSw
            go_simp
            try with_reducible rfl
          try simp only [Act.put, List.setIfInBounds_toArray, List.set_cons_zero, List.set_cons_succ]
          refine Rg.take (i := 14) (v := ?_) 30 rfl (by kernel_rfl) (by kernel_rfl) (by kernel_rfl) (by kernel_rfl) (fun _ _ _ h => h) (Or.inl ⟨by rfl, ?_⟩) hS0 ?_
          rotate_left
          · intro w hSw
            go_simp
            try with_reducible rfl
          try simp only [Act.put, List.setIfInBounds_toArray, List.set_cons_zero, List.set_cons_succ]
          refine Rg.take (i := 15) (v := ?_) 30 rfl (by kernel_rfl) (by kernel_rfl) (by kernel_rfl) (by kernel_rfl) (fun _ _ _ h => h) (Or.inl ⟨by rfl, ?_⟩) hS0 ?_
          rotate_left
          · intro w hSw
            go_simp
            try with_reducible rfl
          try simp only [Act.put, List.setIfInBounds_toArray, List.set_cons_zero, List.set_cons_succ]
          refine Rg.take (i := 16) (v := ?_) 30 rfl (by kernel_rfl) (by kernel_rfl) (by kernel_rfl) (by kernel_rfl) (fun _ _ _ h => h) (Or.inl ⟨by rfl, ?_⟩) hS0 ?_
          rotate_left
          · intro w hSw
            go_simp
            try with_reducible rfl
          try simp only [Act.put, List.setIfInBounds_toArray, List.set_cons_zero, List.set_cons_succ]
          refine Rg.take (i := 17) (v := ?_) 30 rfl (by kernel_rfl) (by kernel_rfl) (by kernel_rfl) (by kernel_rfl) (fun _ _ _ h => h) (Or.inl ⟨by rfl, ?_⟩) hS0 ?_
          rotate_left
          · intro w hSw
            go_simp
            try with_reducible rfl
          try simp only [Act.put, List.setIfInBounds_toArray, List.set_cons_zero, List.set_cons_succ]
          refine Rg.take (i := 20) (v := ?_) 30 rfl (by kernel_rfl) (by kernel_rfl) (by kernel_rfl) (by kernel_rfl) (fun _ _ _ h => h) (Or.inl ⟨by rfl, ?_⟩) hS0 ?_
          rotate_left
          · intro w hSw
            go_simp
            try with_reducible rfl
          try simp only [Act.put, List.setIfInBounds_toArray, List.set_cons_zero, List.set_cons_succ]
          refine Rg.step (i := 9) (by kernel_rfl) rfl fun K' hK' => ?_
          have HK := Lib.hid hK'
          clear hK'
          go_simp
          refine (C4.out _).mono ?_
          rintro e w' ⟨rfl, rfl⟩
          refine HK.out _ _ ⟨fun _ => hS0, ?_⟩
          clear HK K'
          try simp only [Act.put, List.setIfInBounds_toArray, List.set_cons_zero, List.set_cons_succ]
          refine Rg.take (i := 10) (v := ?_) 30 rfl (by kernel_rfl) (by kernel_rfl) (by kernel_rfl) (by kernel_rfl) (fun _ _ _ h => h) (Or.inl ⟨by rfl, ?_⟩) hS0 ?_
          rotate_left
          · intro w hSw
            go_simp
            rw [wrap_in (x := 1 + r4) (by unfold in64; omega)]
            try with_reducible rfl
          try simp only [Act.put, List.setIfInBounds_toArray, List.set_cons_zero, List.set_cons_succ]
          refine Rg.step (i := 18) (by kernel_rfl) rfl fun K' hK' => ?_
          have HK := Lib.hid hK'
          clear hK'
          go_simp
          refine (C5.out _).mono ?_
          rintro e w' ⟨rfl, rfl⟩
          refine HK.out _ _ ⟨fun _ => hS0, ?_⟩
          clear HK K'
          try simp only [Act.put, List.setIfInBounds_toArray, List.set_cons_zero, List.set_cons_succ]
          refine Rg.take (i := 19) (v := ?_) 30 rfl (by kernel_rfl) (by kernel_rfl) (by kernel_rfl) (by kernel_rfl) (fun _ _ _ h => h) (Or.inl ⟨by rfl, ?_⟩) hS0 ?_
          rotate_left
          · intro w hSw
            go_simp
            rw [wrap_in (x := 1 + r5) (by unfold in64; omega)]
            try with_reducible rfl
          try simp only [Act.put, List.setIfInBounds_toArray, List.set_cons_zero, List.set_cons_succ]
          refine Rg.take (i := 21) (v := ?_) 30 rfl (by kernel_rfl) (by kernel_rfl) (by kernel_rfl) (by kernel_rfl) (fun _ _ _ h => h) (Or.inl ⟨by rfl, ?_⟩) hS0 ?_
          rotate_left
          · intro w hSw
            go_simp
            try with_reducible rfl
          try simp only [Act.put, List.setIfInBounds_toArray, List.set_cons_zero, List.set_cons_succ]
          refine Rg.step (i := 22) (by kernel_rfl) rfl fun K' hK' => ?_
          have HK := Lib.hid hK'
          clear hK'
          go_simp
          refine HK.out _ _ ⟨fun _ => hS1 _, ?_⟩
          clear HK K'
          try simp only [Act.put, List.setIfInBounds_toArray, List.set_cons_zero, List.set_cons_succ]
          refine Rg.step (i := 23) (by kernel_rfl) rfl fun K' hK' => ?_
          refine step_append_lies _ (by rfl) (.tmp 65) (.tmp 86) 22 (by rfl) (w.heap.size + 2) 53 i0 _ 3 24 Try.underlying22 hi0 hz0 hz1 hz2 rfl (Nat.zero_lt_succ 2) v k (((l.take k).map (madeA (2 + p1))).flatMap encA) (by rfl) (HWA _)
            ⟨wr.heap.size, 0, none⟩ 1 1 [.int .i64 (1 + r4), .int .i64 (1 + r5), .int .i64 r3] (by rfl) rfl (HNW ⟨1 + r4, 1 + r5, r3⟩) (HON ⟨1 + r4, 1 + r5, r3⟩) (Nat.zero_lt_succ 0) hk1 hk2 (HBS _) (wr.heap.size + 1) (HHS _) ?_
          intro gg cap2 w1 hown1 hgrow hat hltg
          have g1 : NetBox w1 (w.heap.size + 1) (2 + p1) (1 + p2) (1 + q) v := netBox_grown (HNB _) hgrow (Ne.symm ao2)
          have g2 := (netBox_cells g1).2.2.2
          have g3 := netBox_frozen g1 3
          have hS2 := (show (fun w' => w'.cell? ⟨w.heap.size + 1, 0, none⟩ = some (.int .i64 (2 + p1)) ∧ w'.cell? ⟨w.heap.size + 1, 3, none⟩ = some v ∧ w'.cell? ⟨b, off + k * 3, none⟩ = some (.int .i64 x.fr) ∧ w'.cell? ⟨b, off + k * 3 + 1, none⟩ = some (.int .i64 x.to)) w1 from ⟨held_grow hgrow ao2 o0, held_grow hgrow ao2 o3, held_grow hgrow ab c0, held_grow hgrow ab c1⟩)
          refine hK' _ _ ⟨fun _ => hS2, ?_⟩
          clear hK' K'
          try simp only [Act.put, List.setIfInBounds_toArray, List.set_cons_zero, List.set_cons_succ]
          refine Rg.take (i := 24) (v := ?_) 30 rfl (by kernel_rfl) (by kernel_rfl) (by kernel_rfl) (by kernel_rfl) (fun _ _ _ h => h) (Or.inl ⟨by rfl, ?_⟩) hS2 ?_
          rotate_left
          · intro w hSw
            go_simp
            try with_reducible rfl
          try simp only [Act.put, List.setIfInBounds_toArray, List.set_cons_zero, List.set_cons_succ]
          refine Rg.step (i := 25) (by kernel_rfl) rfl fun K' hK' => ?_
          have HK := Lib.hid hK'
          clear hK'
          go_simp
          refine HK.out _ _ ⟨fun h => absurd rfl h, ?_⟩
          clear HK K'
          try simp only [Act.put, List.setIfInBounds_toArray, List.set_cons_zero, List.set_cons_succ]
          refine Rg.finished (by kernel_rfl) ?_ _
          have ha2 := HAG.out _ HMA.out
          have hN : OwnA w1 (w.heap.size + 2) (.slice (some ⟨gg, 0, none⟩) (k + 1) cap2) ((l.take (k + 1)).map (madeA (2 + p1))) := by
            have hln : ((l.take (k + 1)).map (madeA (2 + p1))).length = k + 1 := by simp; omega
            unfold OwnA Rw.Own
            rw [hln, ha2, List.flatMap_append]
            exact hown1
          have hgB : w.heap.size + 2 ≤ gg := Rw.own_block hN gg rfl
          have HN := Lib.hid (Rw.own_set hN (p := ⟨w.heap.size + 1, 3, none⟩) (fun h => by simp [Value.ownBlock] at h; omega) (.slice (some ⟨gg, 0, none⟩) (k + 1) cap2))
          have HR2 := Lib.hid (netBox_other (v2 := .slice (some ⟨gg, 0, none⟩) (k + 1) cap2) (o := 3) (netBox_grown (HNR _) hgrow (Ne.symm ar)) (show w.heap.size ≠ w.heap.size + 1 by omega))
          have HO2 := Lib.hid (netBox_set (v2 := .slice (some ⟨gg, 0, none⟩) (k + 1) cap2) g1)
          have HB2 := Lib.hid ((((HB.out.alloc (by omega) (.cells #[.int .i64 (1 + r4), .int .i64 (1 + r5), .int .i64 r3] 53)).drew).grown hgrow (by have := HBS (.cells #[.int .i64 (1 + r4), .int .i64 (1 + r5), .int .i64 r3] 53); omega) (fun b2 h2 => by have := hvb b2 h2; omega)).setCell (p := ⟨w.heap.size + 1, 3, none⟩) (by simp) (.slice (some ⟨gg, 0, none⟩) (k + 1) cap2))
          have hsz2 : w.heap.size + 2 ≤ (w1.setCell ⟨w.heap.size + 1, 3, none⟩ (.slice (some ⟨gg, 0, none⟩) (k + 1) cap2)).heap.size := by
            have h1 := hgrow.size
            have h2 := HBS (.cells #[.int .i64 (1 + r4), .int .i64 (1 + r5), .int .i64 r3] 53)
            have h3 : (w1.setCell ⟨w.heap.size + 1, 3, none⟩ (.slice (some ⟨gg, 0, none⟩) (k + 1) cap2)).heap.size = w1.heap.size := by simp [World.setCell]
            omega
          clear hN ha2 hown1 hgrow hat hltg g1 g2 g3 hS0 hS1 hS2 HWA HNW HON HBS HHS HNB HNR HOW
          go_wp2
          go_roundw
          case rel => exact ⟨k + 1, _, by go_num, by omega, by omega, HO2.out, HR2.out, HN.out, HB2.out, hsz2⟩
          case measure => simp [intOf]; omega
        · have hr0' : (r2 == 0) = false := by simp [hr0]
          rw [if_neg hr0] at HMA
          clear hr0
          go_wp2_with (first
            | (go_at_call 21; with_reducible refine (C1.out _).mono ?_; rintro e w' ⟨rfl, rfl⟩)
            | (go_at_call 21; with_reducible refine (C2.out _).mono ?_; rintro e w' ⟨rfl, rfl⟩)
            | (go_at_call 21; with_reducible refine (C3.out _).mono ?_; rintro e w' ⟨rfl, rfl⟩))
          have hS0 := (show (fun w' => w'.cell? ⟨w.heap.size + 1, 0, none⟩ = some (.int .i64 (2 + p1)) ∧ w'.cell? ⟨w.heap.size + 1, 3, none⟩ = some v ∧ w'.cell? ⟨b, off + k * 3, none⟩ = some (.int .i64 x.fr) ∧ w'.cell? ⟨b, off + k * 3 + 1, none⟩ = some (.int .i64 x.to)) wr.drew from ⟨o0, o3, c0, c1⟩)
          have hS1 := fun (o : Obj) => (show (fun w' => w'.cell? ⟨w.heap.size + 1, 0, none⟩ = some (.int .i64 (2 + p1)) ∧ w'.cell? ⟨w.heap.size + 1, 3, none⟩ = some v ∧ w'.cell? ⟨b, off + k * 3, none⟩ = some (.int .i64 x.fr) ∧ w'.cell? ⟨b, off + k * 3 + 1, none⟩ = some (.int .i64 x.to)) (wr.alloc o).drew from ⟨held_new o0, held_new o3, held_new c0, held_new c1⟩)
          refine Rg.start (S := (fun w' => w'.cell? ⟨w.heap.size + 1, 0, none⟩ = some (.int .i64 (2 + p1)) ∧ w'.cell? ⟨w.heap.size + 1, 3, none⟩ = some v ∧ w'.cell? ⟨b, off + k * 3, none⟩ = some (.int .i64 x.fr) ∧ w'.cell? ⟨b, off + k * 3 + 1, none⟩ = some (.int .i64 x.to))) (last := 25) (by kernel_rfl) ?_
          refine Rg.take (i := 0) (v := ?_) 30 rfl (by kernel_rfl) (by kernel_rfl) (by kernel_rfl) (by kernel_rfl) (fun _ _ _ h => h) (Or.inl ⟨by rfl, ?_⟩) hS0 ?_
          rotate_left
          · intro w hSw
            go_simp
            try with_reducible rfl
          try simp only [Act.put, List.setIfInBounds_toArray, List.set_cons_zero, List.set_cons_succ]
          refine Rg.take (i := 1) (v := ?_) 30 rfl (by kernel_rfl) (by kernel_rfl) (by kernel_rfl) (by kernel_rfl) (fun _ _ _ h => h) (Or.inl ⟨by rfl, ?_⟩) hS0 ?_
          rotate_left
          · intro w hSw
            go_simp
            try with_reducible rfl
          try simp only [Act.put, List.setIfInBounds_toArray, List.set_cons_zero, List.set_cons_succ]
          refine Rg.take (i := 2) (v := ?_) 30 rfl (by kernel_rfl) (by kernel_rfl) (by kernel_rfl) (by kernel_rfl) (fun _ _ _ h => h) (Or.inl ⟨by rfl, ?_⟩) hS0 ?_
          rotate_left
          · intro w hSw
            go_simp
            try with_reducible rfl
          try simp only [Act.put, List.setIfInBounds_toArray, List.set_cons_zero, List.set_cons_succ]
          refine Rg.take (i := 3) (v := ?_) 30 rfl (by kernel_rfl) (by kernel_rfl) (by kernel_rfl) (by kernel_rfl) (fun _ _ _ h => h) (Or.inl ⟨by rfl, ?_⟩) hS0 ?_
          rotate_left
          · intro w hSw
            go_simp
            try with_reducible rfl
          try simp only [Act.put, List.setIfInBounds_toArray, List.set_cons_zero, List.set_cons_succ]
          refine Rg.take (i := 4) (v := ?_) 30 rfl (by kernel_rfl) (by kernel_rfl) (by kernel_rfl) (by kernel_rfl) (fun _ _ _ h => h) (Or.inl ⟨by rfl, ?_⟩) hS0 ?_
          rotate_left
          · intro w hSw
            go_simp
            try with_reducible rfl
          try simp only [Act.put, List.setIfInBounds_toArray, List.set_cons_zero, List.set_cons_succ]
          refine Rg.take (i := 5) (v := ?_) 30 rfl (by kernel_rfl) (by kernel_rfl) (by kernel_rfl) (by kernel_rfl) (fun _ _ _ h => h) (Or.inl ⟨by rfl, ?_⟩) hS0 ?_
          rotate_left
          · intro w hSw
            go_simp
            try with_reducible rfl
          try simp only [Act.put, List.setIfInBounds_toArray, List.set_cons_zero, List.set_cons_succ]
          refine Rg.take (i := 6) (v := ?_) 30 rfl (by kernel_rfl) (by kernel_rfl) (by kernel_rfl) (by kernel_rfl) (fun _ _ _ h => h) (Or.inl ⟨by rfl, ?_⟩) hS0 ?_
          rotate_left
          · intro w hSw
            go_simp
            try with_reducible rfl
          try simp only [Act.put, List.setIfInBounds_toArray, List.set_cons_zero, List.set_cons_succ]
          refine Rg.take (i := 7) (v := ?_) 30 rfl (by kernel_rfl) (by kernel_rfl) (by kernel_rfl) (by kernel_rfl) (fun _ _ _ h => h) (Or.inl ⟨by rfl, ?_⟩) hS0 ?_
          rotate_left
          · intro w hSw
            go_simp
            try with_reducible rfl
          try simp only [Act.put, List.setIfInBounds_toArray, List.set_cons_zero, List.set_cons_succ]
          refine Rg.take (i := 8) (v := ?_) 30 rfl (by kernel_rfl) (by kernel_rfl) (by kernel_rfl) (by kernel_rfl) (fun _ _ _ h => h) (Or.inl ⟨by rfl, ?_⟩) hS0 ?_
          rotate_left
          · intro w hSw
            go_simp
            try with_reducible rfl
          try simp only [Act.put, List.setIfInBounds_toArray, List.set_cons_zero, List.set_cons_succ]
          refine Rg.take (i := 11) (v := ?_) 30 rfl (by kernel_rfl) (by kernel_rfl) (by kernel_rfl) (by kernel_rfl) (fun _ _ _ h => h) (Or.inl ⟨by rfl, ?_⟩) hS0 ?_
          rotate_left
          · intro w hSw
            go_simp
            try with_reducible rfl
          try simp only [Act.put, List.setIfInBounds_toArray, List.set_cons_zero, List.set_cons_succ]
          refine Rg.take (i := 12) (v := ?_) 30 rfl (by kernel_rfl) (by kernel_rfl) (by kernel_rfl) (by kernel_rfl) (fun _ _ _ h => h) (Or.inl ⟨by rfl, ?_⟩) hS0 ?_
          rotate_left
          · intro w hSw
            go_simp
            try with_reducible rfl
          try simp only [Act.put, List.setIfInBounds_toArray, List.set_cons_zero, List.set_cons_succ]
          refine Rg.take (i := 13) (v := ?_) 30 rfl (by kernel_rfl) (by kernel_rfl) (by kernel_rfl) (by kernel_rfl) (fun _ _ _ h => h) (Or.inl ⟨by rfl, ?_⟩) hS0 ?_
          rotate_left
          · intro w hSw
            go_simp
            try with_reducible rfl
          try simp only [Act.put, List.setIfInBounds_toArray, List.set_cons_zero, List.set_cons_succ]
          refine Rg.take (i := 14) (v := ?_) 30 rfl (by kernel_rfl) (by kernel_rfl) (by kernel_rfl) (by kernel_rfl) (fun _ _ _ h => h) (Or.inl ⟨by rfl, ?_⟩) hS0 ?_
          rotate_left
          · intro w hSw
            go_simp
            try with_reducible rfl
          try simp only [Act.put, List.setIfInBounds_toArray, List.set_cons_zero, List.set_cons_succ]
          refine Rg.take (i := 15) (v := ?_) 30 rfl (by kernel_rfl) (by kernel_rfl) (by kernel_rfl) (by kernel_rfl) (fun _ _ _ h => h) (Or.inl ⟨by rfl, ?_⟩) hS0 ?_
          rotate_left
          · intro w hSw
            go_simp
            try with_reducible rfl
          try simp only [Act.put, List.setIfInBounds_toArray, List.set_cons_zero, List.set_cons_succ]
          refine Rg.take (i := 16) (v := ?_) 30 rfl (by kernel_rfl) (by kernel_rfl) (by kernel_rfl) (by kernel_rfl) (fun _ _ _ h => h) (Or.inl ⟨by rfl, ?_⟩) hS0 ?_
          rotate_left
          · intro w hSw
            go_simp
            try with_reducible rfl
          try simp only [Act.put, List.setIfInBounds_toArray, List.set_cons_zero, List.set_cons_succ]
          refine Rg.take (i := 17) (v := ?_) 30 rfl (by kernel_rfl) (by kernel_rfl) (by kernel_rfl) (by kernel_rfl) (fun _ _ _ h => h) (Or.inl ⟨by rfl, ?_⟩) hS0 ?_
          rotate_left
          · intro w hSw
            go_simp
            try with_reducible rfl
          try simp only [Act.put, List.setIfInBounds_toArray, List.set_cons_zero, List.set_cons_succ]
          refine Rg.take (i := 20) (v := ?_) 30 rfl (by kernel_rfl) (by kernel_rfl) (by kernel_rfl) (by kernel_rfl) (fun _ _ _ h => h) (Or.inl ⟨by rfl, ?_⟩) hS0 ?_
          rotate_left
          · intro w hSw
            go_simp
            try with_reducible rfl
          try simp only [Act.put, List.setIfInBounds_toArray, List.set_cons_zero, List.set_cons_succ]
          refine Rg.step (i := 9) (by kernel_rfl) rfl fun K' hK' => ?_
          have HK := Lib.hid hK'
          clear hK'
          go_simp
          refine (C4.out _).mono ?_
          rintro e w' ⟨rfl, rfl⟩
          refine HK.out _ _ ⟨fun _ => hS0, ?_⟩
          clear HK K'
          try simp only [Act.put, List.setIfInBounds_toArray, List.set_cons_zero, List.set_cons_succ]
          refine Rg.take (i := 10) (v := ?_) 30 rfl (by kernel_rfl) (by kernel_rfl) (by kernel_rfl) (by kernel_rfl) (fun _ _ _ h => h) (Or.inl ⟨by rfl, ?_⟩) hS0 ?_
          rotate_left
          · intro w hSw
            go_simp
            rw [wrap_in (x := 1 + r4) (by unfold in64; omega)]
            try with_reducible rfl
          try simp only [Act.put, List.setIfInBounds_toArray, List.set_cons_zero, List.set_cons_succ]
          refine Rg.step (i := 18) (by kernel_rfl) rfl fun K' hK' => ?_
          have HK := Lib.hid hK'
          clear hK'
          go_simp
          refine (C5.out _).mono ?_
          rintro e w' ⟨rfl, rfl⟩
          refine HK.out _ _ ⟨fun _ => hS0, ?_⟩
          clear HK K'
          try simp only [Act.put, List.setIfInBounds_toArray, List.set_cons_zero, List.set_cons_succ]
          refine Rg.take (i := 19) (v := ?_) 30 rfl (by kernel_rfl) (by kernel_rfl) (by kernel_rfl) (by kernel_rfl) (fun _ _ _ h => h) (Or.inl ⟨by rfl, ?_⟩) hS0 ?_
          rotate_left
          · intro w hSw
            go_simp
            rw [wrap_in (x := 1 + r5) (by unfold in64; omega)]
            try with_reducible rfl
          try simp only [Act.put, List.setIfInBounds_toArray, List.set_cons_zero, List.set_cons_succ]
          refine Rg.take (i := 21) (v := ?_) 30 rfl (by kernel_rfl) (by kernel_rfl) (by kernel_rfl) (by kernel_rfl) (fun _ _ _ h => h) (Or.inl ⟨by rfl, ?_⟩) hS0 ?_
          rotate_left
          · intro w hSw
            go_simp
            try with_reducible rfl
          try simp only [Act.put, List.setIfInBounds_toArray, List.set_cons_zero, List.set_cons_succ]
          refine Rg.step (i := 22) (by kernel_rfl) rfl fun K' hK' => ?_
          have HK := Lib.hid hK'
          clear hK'
          go_simp
          refine HK.out _ _ ⟨fun _ => hS1 _, ?_⟩
          clear HK K'
          try simp only [Act.put, List.setIfInBounds_toArray, List.set_cons_zero, List.set_cons_succ]
          refine Rg.step (i := 23) (by kernel_rfl) rfl fun K' hK' => ?_
          refine step_append_lies _ (by rfl) (.tmp 65) (.tmp 86) 22 (by rfl) (w.heap.size + 2) 53 i0 _ 3 24 Try.underlying22 hi0 hz0 hz1 hz2 rfl (Nat.zero_lt_succ 2) v k (((l.take k).map (madeA (2 + p1))).flatMap encA) (by rfl) (HWA _)
            ⟨wr.heap.size, 0, none⟩ 1 1 [.int .i64 (1 + r4), .int .i64 (1 + r5), .int .i64 r1] (by rfl) rfl (HNW ⟨1 + r4, 1 + r5, r1⟩) (HON ⟨1 + r4, 1 + r5, r1⟩) (Nat.zero_lt_succ 0) hk1 hk2 (HBS _) (wr.heap.size + 1) (HHS _) ?_
          intro gg cap2 w1 hown1 hgrow hat hltg
          have g1 : NetBox w1 (w.heap.size + 1) (2 + p1) (1 + p2) (1 + q) v := netBox_grown (HNB _) hgrow (Ne.symm ao2)
          have g2 := (netBox_cells g1).2.2.2
          have g3 := netBox_frozen g1 3
          have hS2 := (show (fun w' => w'.cell? ⟨w.heap.size + 1, 0, none⟩ = some (.int .i64 (2 + p1)) ∧ w'.cell? ⟨w.heap.size + 1, 3, none⟩ = some v ∧ w'.cell? ⟨b, off + k * 3, none⟩ = some (.int .i64 x.fr) ∧ w'.cell? ⟨b, off + k * 3 + 1, none⟩ = some (.int .i64 x.to)) w1 from ⟨held_grow hgrow ao2 o0, held_grow hgrow ao2 o3, held_grow hgrow ab c0, held_grow hgrow ab c1⟩)
          refine hK' _ _ ⟨fun _ => hS2, ?_⟩
          clear hK' K'
          try simp only [Act.put, List.setIfInBounds_toArray, List.set_cons_zero, List.set_cons_succ]
          refine Rg.take (i := 24) (v := ?_) 30 rfl (by kernel_rfl) (by kernel_rfl) (by kernel_rfl) (by kernel_rfl) (fun _ _ _ h => h) (Or.inl ⟨by rfl, ?_⟩) hS2 ?_
          rotate_left
          · intro w hSw
            go_simp
            try with_reducible rfl
          try simp only [Act.put, List.setIfInBounds_toArray, List.set_cons_zero, List.set_cons_succ]
          refine Rg.step (i := 25) (by kernel_rfl) rfl fun K' hK' => ?_
          have HK := Lib.hid hK'
          clear hK'
          go_simp
          refine HK.out _ _ ⟨fun h => absurd rfl h, ?_⟩
          clear HK K'
          try simp only [Act.put, List.setIfInBounds_toArray, List.set_cons_zero, List.set_cons_succ]
          refine Rg.finished (by kernel_rfl) ?_ _
          have ha2 := HAG.out _ HMA.out
          have hN : OwnA w1 (w.heap.size + 2) (.slice (some ⟨gg, 0, none⟩) (k + 1) cap2) ((l.take (k + 1)).map (madeA (2 + p1))) := by
            have hln : ((l.take (k + 1)).map (madeA (2 + p1))).length = k + 1 := by simp; omega
            unfold OwnA Rw.Own
            rw [hln, ha2, List.flatMap_append]
            exact hown1
          have hgB : w.heap.size + 2 ≤ gg := Rw.own_block hN gg rfl
          have HN := Lib.hid (Rw.own_set hN (p := ⟨w.heap.size + 1, 3, none⟩) (fun h => by simp [Value.ownBlock] at h; omega) (.slice (some ⟨gg, 0, none⟩) (k + 1) cap2))
          have HR2 := Lib.hid (netBox_other (v2 := .slice (some ⟨gg, 0, none⟩) (k + 1) cap2) (o := 3) (netBox_grown (HNR _) hgrow (Ne.symm ar)) (show w.heap.size ≠ w.heap.size + 1 by omega))
          have HO2 := Lib.hid (netBox_set (v2 := .slice (some ⟨gg, 0, none⟩) (k + 1) cap2) g1)
          have HB2 := Lib.hid ((((HB.out.alloc (by omega) (.cells #[.int .i64 (1 + r4), .int .i64 (1 + r5), .int .i64 r1] 53)).drew).grown hgrow (by have := HBS (.cells #[.int .i64 (1 + r4), .int .i64 (1 + r5), .int .i64 r1] 53); omega) (fun b2 h2 => by have := hvb b2 h2; omega)).setCell (p := ⟨w.heap.size + 1, 3, none⟩) (by simp) (.slice (some ⟨gg, 0, none⟩) (k + 1) cap2))
          have hsz2 : w.heap.size + 2 ≤ (w1.setCell ⟨w.heap.size + 1, 3, none⟩ (.slice (some ⟨gg, 0, none⟩) (k + 1) cap2)).heap.size := by
            have h1 := hgrow.size
            have h2 := HBS (.cells #[.int .i64 (1 + r4), .int .i64 (1 + r5), .int .i64 r1] 53)
            have h3 : (w1.setCell ⟨w.heap.size + 1, 3, none⟩ (.slice (some ⟨gg, 0, none⟩) (k + 1) cap2)).heap.size = w1.heap.size := by simp [World.setCell]
            omega
          clear hN ha2 hown1 hgrow hat hltg g1 g2 g3 hS0 hS1 hS2 HWA HNW HON HBS HHS HNB HNR HOW
          go_wp2
          go_roundw
          case rel => exact ⟨k + 1, _, by go_num, by omega, by omega, HO2.out, HR2.out, HN.out, HB2.out, hsz2⟩
          case measure => simp [intOf]; omega
      · have ek : k = 24 := by omega
        subst ek
        have hkn1 : (24 : Int) < (l.length : Int) := by omega
        have HT2 := Lib.hid (show (l.take 24).map (madeA (2 + p1)) = (l.take 24).map (madeA (2 + p1)) from rfl)
        have hB2 := Rw.own_block HO.out
        have HS := Lib.hid (Rw.own_set (Rw.own_set (Rw.own_set (Rw.own_set HO.out (p := ⟨w.heap.size, 0, none⟩) (fun h => by have h2 := hB2 _ h; simp only at h2; omega) (.int .i64 (2 + p1))) (p := ⟨w.heap.size, 1, none⟩) (fun h => by have h2 := hB2 _ h; simp only at h2; omega) (.int .i64 (1 + p2))) (p := ⟨w.heap.size, 2, none⟩) (fun h => by have h2 := hB2 _ h; simp only at h2; omega) (.int .i64 (1 + q))) (p := ⟨w.heap.size, 3, none⟩) (fun h => by have h2 := hB2 _ h; simp only at h2; omega) v)
        have HW := Lib.hid (netBox_all (n2 := 2 + p1) (s2 := 1 + p2) (t2 := 1 + q) (v2 := v) HRS.out)
        have HB2 := Lib.hid ((((HB.out.setCell (p := ⟨w.heap.size, 0, none⟩) (by simp) (.int .i64 (2 + p1))).setCell (p := ⟨w.heap.size, 1, none⟩) (by simp) (.int .i64 (1 + p2))).setCell (p := ⟨w.heap.size, 2, none⟩) (by simp) (.int .i64 (1 + q))).setCell (p := ⟨w.heap.size, 3, none⟩) (by simp) v)
        obtain ⟨ao2, cap2, hv, _⟩ := Rw.own_row encA_len HS.out
        generalize (List.map (madeA (2 + p1)) (List.take _ l)).length = m at hv
        subst hv
        obtain ⟨r0, r1, r2, r3⟩ := netBox_cells HRS.out
        have f0 := netBox_frozen HRS.out 0
        have f1 := netBox_frozen HRS.out 1
        have f2 := netBox_frozen HRS.out 2
        have f3 := netBox_frozen HRS.out 3
        rw [HT2.out] at HS
        clear hB2 HT2
        go_wp2
        refine bodyPost_ret_by (results_cell_row rfl _ _ w.heap.size 24 _ (0, 0) _ rfl HW.out Try.underlying24 rfl (by kernel_rfl)) rfl ?_
        rw [HM.out]
        exact ⟨_, rfl, Rw.own_base HS.out (by omega), HB2.out⟩
    · have ek : k = l.length := by omega
      have HT2 := Lib.hid (show (l.take k).map (madeA (2 + p1)) = (l.take 24).map (madeA (2 + p1)) by rw [List.take_of_length_le (i := k) (by omega), List.take_of_length_le (i := 24) (by omega)])
      subst ek
      have hB2 := Rw.own_block HO.out
      have HS := Lib.hid (Rw.own_set (Rw.own_set (Rw.own_set (Rw.own_set HO.out (p := ⟨w.heap.size, 0, none⟩) (fun h => by have h2 := hB2 _ h; simp only at h2; omega) (.int .i64 (2 + p1))) (p := ⟨w.heap.size, 1, none⟩) (fun h => by have h2 := hB2 _ h; simp only at h2; omega) (.int .i64 (1 + p2))) (p := ⟨w.heap.size, 2, none⟩) (fun h => by have h2 := hB2 _ h; simp only at h2; omega) (.int .i64 (1 + q))) (p := ⟨w.heap.size, 3, none⟩) (fun h => by have h2 := hB2 _ h; simp only at h2; omega) v)
      have HW := Lib.hid (netBox_all (n2 := 2 + p1) (s2 := 1 + p2) (t2 := 1 + q) (v2 := v) HRS.out)
      have HB2 := Lib.hid ((((HB.out.setCell (p := ⟨w.heap.size, 0, none⟩) (by simp) (.int .i64 (2 + p1))).setCell (p := ⟨w.heap.size, 1, none⟩) (by simp) (.int .i64 (1 + p2))).setCell (p := ⟨w.heap.size, 2, none⟩) (by simp) (.int .i64 (1 + q))).setCell (p := ⟨w.heap.size, 3, none⟩) (by simp) v)
      obtain ⟨ao2, cap2, hv, _⟩ := Rw.own_row encA_len HS.out
      generalize (List.map (madeA (2 + p1)) (List.take _ l)).length = m at hv
      subst hv
      obtain ⟨r0, r1, r2, r3⟩ := netBox_cells HRS.out
      have f0 := netBox_frozen HRS.out 0
      have f1 := netBox_frozen HRS.out 1
      have f2 := netBox_frozen HRS.out 2
      have f3 := netBox_frozen HRS.out 3
      rw [HT2.out] at HS
      clear hB2 HT2
      go_wp2
      refine bodyPost_ret_by (results_cell_row rfl _ _ w.heap.size 24 _ (0, 0) _ rfl HW.out Try.underlying24 rfl (by kernel_rfl)) rfl ?_
      rw [HM.out]
      exact ⟨_, rfl, Rw.own_base HS.out (by omega), HB2.out⟩
end Ne
end Go.Proofs.Ytkeojkddbannpaa
