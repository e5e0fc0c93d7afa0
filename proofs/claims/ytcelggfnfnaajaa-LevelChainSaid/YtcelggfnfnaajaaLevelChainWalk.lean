/- LevelChain: for every input the law returns true and its arguments read as they did. No condition. -/
import Derived.Test.YtcelggfnfnaajaaRfl7
import Derived.Deep.LoopGhost
import Derived.Deep.DeepCutAuto
import Derived.Test.YtcelggfnfnaajaaRows
import Derived.WalkKit
import Derived.ProofKit
import Derived.OpenShut
import Derived.ShutString
import Derived.ChangeOld
import Derived.Below
import Derived.Deep.Strs
namespace Go.Proofs.Ytcelggfnfnaajaa.levelChain
open Go.ChangeShapes Go.WideShapes Go.ChangeAt Go.RowKit
open Go.ChangeMaps (open_string shut_string)
set_option linter.unusedVariables false
set_option linter.unusedSimpArgs false

theorem own : ownKnob Try.prog.godebug = none := by kernel_rfl
theorem laidOut : laidOutB Try.prog = true := by kernel_rfl

def IntsIn (k : IntKind) (w : World) (a : Option Addr) (len cap : Nat) (zs : List Int) : Prop :=
  (a = none ∧ len = 0 ∧ cap = 0 ∧ zs = []) ∨
  ∃ x, a = some x ∧ len ≤ cap ∧ cap ≤ maxLen ∧ zs.length = cap ∧ (∀ i, i < zs.length → w.cell? (x.add i) = some (.int k (zs.getD i 0))) ∧ ∀ n ∈ zs, (Lit.int k n).wf = true

/-- the chain's first k arcs -/
def chA (cs : List Int) (k : Nat) : List Ne.Arc := (List.range k).map fun i : Nat => ⟨(i : Int) + 1, (i : Int) + 2, Ne.pickN (Ne.amt cs i) 20⟩
/-- the first of k arcs without the room, or m -/
def chF (cs : List Int) (x : Int) (m : Nat) : Nat → Nat
  | 0 => m
  | k + 1 => if Ne.pickN (Ne.amt cs k) 20 < x then min (chF cs x m k) k else chF cs x m k
def chL (m far : Nat) : List Int := (List.range (m + 2)).map fun v => if 1 ≤ v ∧ v ≤ far + 1 then (v : Int) - 1 else -1
theorem chA_len (cs : List Int) (k : Nat) : (chA cs k).length = k := by simp [chA]
theorem chA_succ (cs : List Int) (k : Nat) : chA cs (k + 1) = chA cs k ++ [⟨(k : Int) + 1, (k : Int) + 2, Ne.pickN (Ne.amt cs k) 20⟩] := by simp [chA, List.range_succ]
theorem chA_at (cs : List Int) {k i : Nat} (h : i < k) : Ne.arcAt (chA cs k) i = ⟨(i : Int) + 1, (i : Int) + 2, Ne.pickN (Ne.amt cs i) 20⟩ := by simp [chA, Ne.arcAt, h]
theorem chF_le (cs : List Int) (x : Int) (m : Nat) : ∀ k, chF cs x m k ≤ m
  | 0 => Nat.le_refl _
  | k + 1 => by have := chF_le cs x m k; unfold chF; split <;> omega
theorem chF_low (cs : List Int) (x : Int) (m : Nat) : ∀ k i, i < k → Ne.pickN (Ne.amt cs i) 20 < x → chF cs x m k ≤ i
  | 0, i, h, _ => absurd h (by omega)
  | k + 1, i, h, hx => by
    unfold chF
    by_cases c : i = k
    · subst c; rw [if_pos hx]; omega
    · have := chF_low cs x m k i (by omega) hx
      split <;> omega
theorem chF_is (cs : List Int) (x : Int) (m : Nat) : ∀ k, chF cs x m k = m ∨ Ne.pickN (Ne.amt cs (chF cs x m k)) 20 < x
  | 0 => .inl rfl
  | k + 1 => by
    unfold chF
    split
    · rename_i c
      rcases Nat.le_total (chF cs x m k) k with h | h
      · rw [Nat.min_eq_left h]; exact chF_is cs x m k
      · rw [Nat.min_eq_right h]; exact .inr c
    · exact chF_is cs x m k
theorem chL_len (m far : Nat) : (chL m far).length = m + 2 := by simp [chL]
theorem chL_at {m far v : Nat} (h : v < m + 2) : Ne.amt (chL m far) v = if 1 ≤ v ∧ v ≤ far + 1 then (v : Int) - 1 else -1 := by simp [chL, Ne.amt, h]
theorem nul_at (m i : Nat) : Ne.amt (List.replicate m 0) i = 0 := by
  unfold Ne.amt
  by_cases h : i < m
  · simp [h]
  · simp [List.getElem?_eq_none, h]
section
variable {cs : List Int} {m : Nat} {x : Int}
theorem ch_even {i : Nat} (h : i < m) : Ne.trF (chA cs m) (2 * i) = (i : Int) + 1 ∧ Ne.trT (chA cs m) (2 * i) = (i : Int) + 2 ∧ Ne.roomN (chA cs m) (List.replicate m 0) (2 * i) = Ne.pickN (Ne.amt cs i) 20 := by
  rw [Ne.trF_even, Ne.trT_even, Ne.room_even, chA_at cs h, nul_at]
  exact ⟨rfl, rfl, by simp⟩
theorem ch_odd (i : Nat) : Ne.roomN (chA cs m) (List.replicate m 0) (2 * i + 1) = 0 := by rw [Ne.room_odd, nul_at]
theorem ch_track {r : Nat} (h : r < 2 * m) (h1 : 1 ≤ x) (hx : x ≤ Ne.roomN (chA cs m) (List.replicate m 0) r) : ∃ i, i < m ∧ r = 2 * i ∧ x ≤ Ne.pickN (Ne.amt cs i) 20 := by
  by_cases c : r % 2 = 1
  · obtain ⟨i, rfl⟩ : ∃ i, r = 2 * i + 1 := ⟨r / 2, by omega⟩
    rw [ch_odd] at hx; omega
  · obtain ⟨i, rfl⟩ : ∃ i, r = 2 * i := ⟨r / 2, by omega⟩
    have hi : i < m := by omega
    rw [(ch_even hi).2.2] at hx
    exact ⟨i, hi, rfl, hx⟩
theorem ch_far (h1 : 1 ≤ x) {i : Nat} (hi : i < m) (hx : x ≤ Ne.pickN (Ne.amt cs i) 20) (hf : i ≤ chF cs x m m) : i < chF cs x m m := by
  by_cases c : i = chF cs x m m
  · rcases chF_is cs x m m with e | e
    · omega
    · rw [← c] at e; omega
  · omega
theorem ch_dst (h1 : 1 ≤ x) {k : Nat} {v : Int} (h : Ne.Dst ⟨((m : Int) + 1), 1, ((m : Int) + 1), chA cs m⟩ (List.replicate m 0) x k v) : v = (k : Int) + 1 ∧ k ≤ chF cs x m m := by
  induction h with
  | base => exact ⟨rfl, Nat.zero_le _⟩
  | @step k r hr hx _ ih =>
    have hr2 : r < 2 * m := by have := hr; simp only [chA_len] at this; exact this
    obtain ⟨i, hi, rfl, hp⟩ := ch_track hr2 h1 hx
    obtain ⟨e1, e2, _⟩ := ch_even (cs := cs) hi
    simp only at ih ⊢
    rw [e1] at ih
    have hik : i = k := by omega
    subst hik
    have := ch_far h1 hi hp ih.2
    exact ⟨by rw [e2]; omega, this⟩
theorem ch_dst' {k : Nat} (h : k ≤ chF cs x m m) : Ne.Dst ⟨((m : Int) + 1), 1, ((m : Int) + 1), chA cs m⟩ (List.replicate m 0) x k ((k : Int) + 1) := by
  induction k with
  | zero => exact Ne.Dst.base (n := ⟨((m : Int) + 1), 1, ((m : Int) + 1), chA cs m⟩)
  | succ k ih =>
    have hk : k < chF cs x m m := by omega
    have hkm : k < m := Nat.lt_of_lt_of_le hk (chF_le cs x m m)
    obtain ⟨e1, e2, e3⟩ := ch_even (cs := cs) hkm
    have hx : x ≤ Ne.pickN (Ne.amt cs k) 20 := by
      rcases (show Ne.pickN (Ne.amt cs k) 20 < x ∨ x ≤ Ne.pickN (Ne.amt cs k) 20 by omega) with c | c
      · have := chF_low cs x m m k hkm c; omega
      · exact c
    have := Ne.Dst.step (n := ⟨((m : Int) + 1), 1, ((m : Int) + 1), chA cs m⟩) (f := List.replicate m 0) (x := x) (k := k) (r := 2 * k) (by simp only [chA_len]; omega) (by simp only; rw [e3]; exact hx) (by simp only; rw [e1]; exact ih (by omega))
    simp only at this
    rw [e2] at this
    rwa [show ((k + 1 : Nat) : Int) + 1 = (k : Int) + 2 by omega]
theorem ch_lev (h1 : 1 ≤ x) : Ne.IsLev ⟨((m : Int) + 1), 1, ((m : Int) + 1), chA cs m⟩ (List.replicate m 0) x (chL m (chF cs x m m)) := by
  have hle := chF_le cs x m m
  have hN : ((m : Int) + 1).toNat = m + 1 := by omega
  refine ⟨by rw [chL_len]; simp only [hN], fun i hi => ?_, fun k v hd => ?_⟩
  · simp only [hN] at hi
    rw [chL_at hi]
    by_cases c : 1 ≤ i ∧ i ≤ chF cs x m m + 1
    · rw [if_pos c]
      refine .inr ⟨i - 1, by omega, ?_⟩
      have := ch_dst' (cs := cs) (m := m) (x := x) (k := i - 1) (by omega)
      rwa [show ((i - 1 : Nat) : Int) + 1 = (i : Int) by omega] at this
    · rw [if_neg c]; exact .inl rfl
  · obtain ⟨rfl, h⟩ := ch_dst h1 hd
    rw [show ((k : Int) + 1).toNat = k + 1 by omega, chL_at (by omega), if_pos (by omega)]
    omega
theorem ch_leads (h1 : 1 ≤ x) : ∀ k, k ≤ m → (Ne.leadL (chA cs m) (List.replicate m 0) x (chL m (chF cs x m m)) (2 * k)).length = min k (chF cs x m m)
  | 0, _ => by simp [Ne.leadL]
  | k + 1, hk => by
    have ih := ch_leads h1 k (by omega)
    have hkm : k < m := by omega
    have hle := chF_le cs x m m
    obtain ⟨e1, e2, e3⟩ := ch_even (cs := cs) hkm
    have hodd : Ne.leadB (chA cs m) (List.replicate m 0) x (chL m (chF cs x m m)) (2 * k + 1) = false := by
      unfold Ne.leadB
      rw [ch_odd]
      have : decide (x ≤ 0) = false := decide_eq_false (by omega)
      rw [this]; rfl
    rw [show 2 * (k + 1) = 2 * k + 1 + 1 by omega, Ne.leadL_miss hodd]
    by_cases c : k < chF cs x m m
    · have hx : x ≤ Ne.pickN (Ne.amt cs k) 20 := by
        rcases (show Ne.pickN (Ne.amt cs k) 20 < x ∨ x ≤ Ne.pickN (Ne.amt cs k) 20 by omega) with d | d
        · have := chF_low cs x m m k hkm d; omega
        · exact d
      have hev : Ne.leadB (chA cs m) (List.replicate m 0) x (chL m (chF cs x m m)) (2 * k) = true := by
        unfold Ne.leadB
        rw [e1, e2, e3, show ((k : Int) + 1).toNat = k + 1 by omega, show ((k : Int) + 2).toNat = k + 2 by omega, chL_at (by omega), chL_at (by omega), if_pos (by omega), if_pos (by omega), decide_eq_true hx, decide_eq_true (show 0 ≤ ((k + 1 : Nat) : Int) - 1 by omega), decide_eq_true (show ((k + 2 : Nat) : Int) - 1 = ((k + 1 : Nat) : Int) - 1 + 1 by omega)]
        rfl
      rw [Ne.leadL_hit hev, List.length_append, ih]
      simp; omega
    · have hev : Ne.leadB (chA cs m) (List.replicate m 0) x (chL m (chF cs x m m)) (2 * k) = false := by
        rw [Bool.eq_false_iff]
        intro h
        unfold Ne.leadB at h
        rw [e1, e2, e3] at h
        simp only [Bool.and_eq_true, decide_eq_true_eq] at h
        obtain ⟨hx, h2, h3⟩ := h
        rw [show ((k : Int) + 1).toNat = k + 1 by omega, chL_at (by omega)] at h2
        by_cases d : 1 ≤ k + 1 ∧ k + 1 ≤ chF cs x m m + 1
        · exact c (ch_far h1 hkm hx (by omega))
        · rw [if_neg d] at h2; omega
      rw [Ne.leadL_miss hev, ih]; omega
theorem ch_check (hm : 1 ≤ m) (hm2 : m ≤ 100) : Ne.checkN ⟨((m : Int) + 1), 1, ((m : Int) + 1), chA cs m⟩ = 0 := by
  refine Ne.checkN_fine ⟨by simp only; omega, by simp only; omega, by simp only; omega, by simp only; omega, by simp only; omega, by simp only; omega, by simp only; omega, by simp only [chA_len]; omega⟩ fun a ha => ?_
  simp only at ha ⊢
  obtain ⟨i, hi, rfl⟩ := List.mem_map.1 ha
  rw [List.mem_range] at hi
  have := Ne.pickN_bd (c := Ne.amt cs i) (n := 20) (by omega)
  exact ⟨(Ne.isNode_iff _ _).2 (by simp only; omega), (Ne.isNode_iff _ _).2 (by simp only; omega), by simp only; omega, by simp only; omega⟩
end
theorem min_nat (a b : Nat) : ∃ m : Nat, min (a : Int) (b : Int) = (m : Int) ∧ m = min a b := ⟨min a b, by omega, rfl⟩

set_option maxRecDepth 100000 in
set_option maxHeartbeats 4000000 in
theorem walk (a0 : Option Addr) (len0 cap0 : Nat) (l0 : List Int) (a1 : Int) (w : World) (w0 : IntsIn .i64 w a0 len0 cap0 l0) (w1 : (Lit.int .i64 a1).wf = true) :
    Calls Try.prog 9 #[.slice a0 len0 cap0, .int .i64 a1] w fun e w' => e = .returned (.bool true) ∧ Below w.heap.size w w' := by
  have HSH := Lib.hid (Ne.shown_any w)
  obtain ⟨cs, hk0, hq0, bq0, hcc, hcm, _⟩ := Ne.ints_row w0
  subst hk0
  clear w0
  have BK0 := Lib.hid bq0
  have KR0 := Lib.hid hq0
  clear bq0 hq0
  have b1 := bounds_i64 w1
  clear w1
  obtain ⟨m, hm⟩ : ∃ m, m = cs.length := ⟨_, rfl⟩
  rw [← hm]
  have HMM := Lib.hid hm
  have hm63 : m ≤ 9223372036854775807 := by unfold maxLen at hcm; omega
  clear hm hcc hcm
  by_cases g0 : m = 0
  · subst g0
    go_enter Try.func9, Try.ntmps9
    go_wp2_with fail
    refine HSH.out.mono ?_
    rintro e w1 ⟨rfl, hb⟩
    have HB1 := Lib.hid hb
    clear hb
    go_wp2
    go_ret
    exact ⟨rfl, HB1.out⟩
  have g0' : ((m : Int) == 0) = false := by simp; omega
  have g0n : (m == 0) = false := by simpa using g0
  by_cases g1 : 100 < m
  · have g1' : (100 : Int) < (m : Int) := by omega
    go_enter Try.func9, Try.ntmps9
    go_wp2_with fail
    refine HSH.out.mono ?_
    rintro e w1 ⟨rfl, hb⟩
    have HB1 := Lib.hid hb
    clear hb
    go_wp2
    go_ret
    exact ⟨rfl, HB1.out⟩
  have g1' : ¬ (100 : Int) < (m : Int) := by omega
  have hm1 : 1 ≤ m := by omega
  have hm2 : m ≤ 100 := by omega
  have bpa := Ne.pickN_bd (c := a1) (n := 9) (by omega)
  have PA := Lib.hid fun w' => Ne.pick_any a1 9 w' b1.1 b1.2 (by omega) (by omega)
  generalize Ne.pickN a1 9 = z at *
  have hz0 : 0 ≤ z := by omega
  have hz9 : z ≤ 9 := by omega
  clear bpa b1 g0 g1
  have CK := Lib.hid (ch_check (cs := cs) hm1 hm2)
  have hFL : Ne.Flow ⟨((m : Int) + 1), 1, ((m : Int) + 1), chA cs m⟩ (List.replicate m 0) := by
    have := Ne.flow_nought (Ne.right_of CK.out)
    simp only [chA_len] at this
    exact this
  have hlv := ch_lev (cs := cs) (m := m) (x := 1 + z) (by omega)
  have LX := Lib.hid fun (p : Option Addr × Nat) w' (b : Nat) h1 h2 => Ne.levels_flow (n := ⟨((m : Int) + 1), 1, ((m : Int) + 1), chA cs m⟩) (f := List.replicate m 0) p.1 p.2 (some ⟨b, 0, none⟩) m w' CK.out h1 h2 hFL (1 + z) (by omega) hlv
  have LD := Lib.hid fun (p : Option Addr × Nat) w' (b : Nat) h1 h2 => Ne.leads_flow (n := ⟨((m : Int) + 1), 1, ((m : Int) + 1), chA cs m⟩) (f := List.replicate m 0) p.1 p.2 (some ⟨b, 0, none⟩) m w' CK.out h1 h2 hFL (1 + z) (by omega) hlv
  simp only [Ne.encN, chA_len, show ((m : Int) + 1).toNat = m + 1 by omega] at LX LD
  rw [ch_leads (cs := cs) (m := m) (x := 1 + z) (by omega) m (Nat.le_refl _), Nat.min_eq_right (chF_le cs (1 + z) m m)] at LD
  have HLA := Lib.hid (fun v (h : v < m + 2) => chL_at (m := m) (far := chF cs (1 + z) m m) h)
  have HLL := Lib.hid (chL_len m (chF cs (1 + z) m m))
  have HFLE := Lib.hid (chF_le cs (1 + z) m)
  have HF0 := Lib.hid (show chF cs (1 + z) m 0 = m from rfl)
  have HFS := Lib.hid (fun k => show chF cs (1 + z) m (k + 1) = if Ne.pickN (Ne.amt cs k) 20 < 1 + z then min (chF cs (1 + z) m k) k else chF cs (1 + z) m k from rfl)
  have HAS := Lib.hid (fun k => chA_succ cs k)
  have HA0 := Lib.hid (show chA cs 0 = [] from rfl)
  have HAN := Lib.hid (fun k => chA_len cs k)
  clear hlv hFL
  generalize chL m (chF cs (1 + z) m m) = CL at *
  generalize chF cs (1 + z) m = CF at *
  generalize chA cs = CA at *
  have hmk := Ne.make_l m (by omega)
  go_enter Try.func9, Try.ntmps9
  go_wp2_with fail
  refine HSH.out.mono ?_
  rintro e w1 ⟨rfl, hb⟩
  have HB1 := Lib.hid hb
  clear hb HSH
  have HN2 := Lib.hid (Ne.netBox_new w1 ((m : Int) + 1) 1 ((m : Int) + 1) (.slice none 0 0))
  have HB2 := Lib.hid (HB1.out.alloc HB1.out.size (.cells #[.int .i64 ((m : Int) + 1), .int .i64 1, .int .i64 ((m : Int) + 1), .slice none 0 0] 24))
  go_wp2_with fail
  obtain ⟨bn, hbn⟩ : ∃ b, b = w1.heap.size := ⟨_, rfl⟩
  have HBN := Lib.hid (show w.heap.size ≤ bn by have := HB1.out.size; omega)
  rw [← hbn] at HN2 ⊢
  clear hbn
  generalize (w1.alloc (.cells #[.int .i64 ((m : Int) + 1), .int .i64 1, .int .i64 ((m : Int) + 1), .slice none 0 0] 24)) = W2 at *
  refine (PA.out _).mono ?_
  rintro e w' ⟨rfl, rfl⟩
  go_wp2
  go_loopg [8, 9] m (fun g sf i wr => ∃ (k far : Nat) (v : Value), sf = .int .i64 (far : Int) ∧ i = .int .i64 k ∧ k + g = m ∧ far ≤ m ∧ Hid (far = CF k) ∧ Hid (Ne.NetBox wr bn ((m : Int) + 1) 1 ((m : Int) + 1) v) ∧ Hid (Ne.OwnA wr (bn + 1) v (CA k)) ∧ Hid (Below w.heap.size w wr))
  case atStart => exact ⟨0, m, _, rfl, rfl, by omega, Nat.le_refl _, Lib.hid HF0.out.symm, HN2, Lib.hid (by rw [HA0.out]; exact Rw.own_nil _ _), HB2⟩
  case round =>
    obtain ⟨k, far, v, rfl, rfl, hkg, hfm, HFR, HNW, HOW, HBW⟩ := hrel
    obtain ⟨o9, c9, hv9, _, _, hn9, hr9, hb9, _⟩ := Rw.own_row Ne.encA_len HOW.out
    rw [HAN.out] at hv9
    subst hv9
    have hbl := Ne.netBox_lt HNW.out
    by_cases hlt : k < m
    · have hki : (k : Int) < (m : Int) := by omega
      have hk0 : (0 : Int) ≤ (k : Int) := by omega
      obtain ⟨b0, o0, e0, hb0, d0⟩ := Ne.irow_cell (KR0.out.kept HBW.out) (i := k) (by rw [← HMM.out]; exact hlt)
      subst e0
      have hraw := BK0.out (Ne.amt cs k) (by have := Ne.at_amt (f := cs) (i := k) (by rw [← HMM.out]; exact hlt); exact List.mem_of_getElem? this)
      have HAK := Lib.hid (HAS.out k)
      have HFK := Lib.hid (HFS.out k)
      have hfk1 := HFLE.out (k + 1)
      generalize Ne.amt cs k = raw at *
      have PK := Lib.hid fun w' => Ne.pick_any raw 20 w' hraw.1 hraw.2 (by omega) (by omega)
      have bpk := Ne.pickN_bd (c := raw) (n := 20) (by omega)
      generalize Ne.pickN raw 20 = pk at *
      have HNA := Lib.hid (Ne.netBox_alloc HNW.out (.cells #[.int .i64 ((k : Int) + 1), .int .i64 ((k : Int) + 2), .int .i64 pk] 53))
      have HOA := Lib.hid (Rw.own_alloc HOW.out (.cells #[.int .i64 ((k : Int) + 1), .int .i64 ((k : Int) + 2), .int .i64 pk] 53))
      have HAR := Lib.hid (Ne.arow_at1 wr rfl ⟨(k : Int) + 1, (k : Int) + 2, pk⟩)
      have HLN := Lib.hid (show (CA k).length + ([⟨(k : Int) + 1, (k : Int) + 2, pk⟩] : List Ne.Arc).length ≤ 1099511627776 by rw [HAN.out]; simp; omega)
      have HVB := Lib.hid (Rw.own_block HOW.out)
      have HBA := Lib.hid (HBW.out.alloc HBW.out.size (.cells #[.int .i64 ((k : Int) + 1), .int .i64 ((k : Int) + 2), .int .i64 pk] 53))
      have HZA := Lib.hid (show bn + 1 ≤ (wr.alloc (.cells #[.int .i64 ((k : Int) + 1), .int .i64 ((k : Int) + 2), .int .i64 pk] 53)).heap.size by simp; omega)
      have HBNN := HBN.out
      obtain ⟨n0, n1, n2, n3⟩ := Ne.netBox_cells HNW.out
      obtain ⟨mn, hmn, hmn2⟩ := min_nat far k
      go_wp2_with fail
      refine (PK.out _).mono ?_
      rintro e w' ⟨rfl, rfl⟩
      by_cases c : pk < 1 + z
      · have c' : decide (pk < 1 + z) = true := by simpa using c
        have HFN := Lib.hid (show mn = CF (k + 1) by rw [HFK.out, if_pos c, ← HFR.out, hmn2])
        have hmm : mn ≤ m := by omega
        clear c hmn2 HFK hr9 hb9 d0
        go_wp2_with (at_builtin; refine Rw.app Ne.elemA Ne.encA_len Ne.encA_one rfl (.tmp 55) (.tmp 62) rfl (bn + 1) _ (CA k) rfl HOA.out (some ⟨wr.heap.size, 0, none⟩) 1 [⟨(k : Int) + 1, (k : Int) + 2, pk⟩] rfl ?hnn HAR.out HLN.out ?hB ?_; (case hnn => (intro h; cases h)); (case hB => (exact HZA.out)); intro v8 w8 hown8 hgr8; rw [← HAK.out] at hown8; obtain ⟨o8, c8, hv8, _⟩ := Rw.own_row Ne.encA_len hown8; rw [HAN.out] at hv8; subst hv8; have HN8 := Lib.hid (Ne.netBox_grown HNA.out hgr8 (fun h => by have := HVB.out _ h.symm; omega)); have HO8 := Lib.hid hown8; have HB8 := Lib.hid (HBA.out.grown hgr8 HBA.out.size (fun b hb => by have := HVB.out b hb; omega)); have m3 := (Ne.netBox_cells HN8.out).2.2.2; have mf := Ne.netBox_frozen HN8.out 3; clear hown8 hgr8)
        have HN9 := Lib.hid (Ne.netBox_set (v2 := .slice o8 (k + 1) c8) HN8.out)
        have HO9 := Lib.hid (Rw.own_set HO8.out (p := ⟨bn, 3, none⟩) (fun h => by have := Rw.own_block HO8.out _ h; simp only at this; omega) (.slice o8 (k + 1) c8))
        have HB9 := Lib.hid (HB8.out.setCell (p := ⟨bn, 3, none⟩) HBNN (.slice o8 (k + 1) c8))
        go_roundg (m - (k + 1))
        case measure => omega
        case rel => exact ⟨k + 1, mn, _, rfl, by go_num, by omega, hmm, HFN, HN9, HO9, HB9⟩
      · have c' : decide (pk < 1 + z) = false := by simpa using c
        have HFN := Lib.hid (show far = CF (k + 1) by rw [HFK.out, if_neg c, ← HFR.out])
        clear c hmn2 HFK hr9 hb9 d0
        go_wp2_with (at_builtin; refine Rw.app Ne.elemA Ne.encA_len Ne.encA_one rfl (.tmp 55) (.tmp 62) rfl (bn + 1) _ (CA k) rfl HOA.out (some ⟨wr.heap.size, 0, none⟩) 1 [⟨(k : Int) + 1, (k : Int) + 2, pk⟩] rfl ?hnn HAR.out HLN.out ?hB ?_; (case hnn => (intro h; cases h)); (case hB => (exact HZA.out)); intro v8 w8 hown8 hgr8; rw [← HAK.out] at hown8; obtain ⟨o8, c8, hv8, _⟩ := Rw.own_row Ne.encA_len hown8; rw [HAN.out] at hv8; subst hv8; have HN8 := Lib.hid (Ne.netBox_grown HNA.out hgr8 (fun h => by have := HVB.out _ h.symm; omega)); have HO8 := Lib.hid hown8; have HB8 := Lib.hid (HBA.out.grown hgr8 HBA.out.size (fun b hb => by have := HVB.out b hb; omega)); have m3 := (Ne.netBox_cells HN8.out).2.2.2; have mf := Ne.netBox_frozen HN8.out 3; clear hown8 hgr8)
        have HN9 := Lib.hid (Ne.netBox_set (v2 := .slice o8 (k + 1) c8) HN8.out)
        have HO9 := Lib.hid (Rw.own_set HO8.out (p := ⟨bn, 3, none⟩) (fun h => by have := Rw.own_block HO8.out _ h; simp only at this; omega) (.slice o8 (k + 1) c8))
        have HB9 := Lib.hid (HB8.out.setCell (p := ⟨bn, 3, none⟩) HBNN (.slice o8 (k + 1) c8))
        go_roundg (m - (k + 1))
        case measure => omega
        case rel => exact ⟨k + 1, far, _, rfl, by go_num, by omega, hfm, HFN, HN9, HO9, HB9⟩
    · have ek : k = m := by omega
      subst k
      have HRW := Lib.hid (show Ne.ARow wr.drew o9 (CA m) from hr9)
      have HFE := Lib.hid (show CF m = far from HFR.out.symm)
      rw [HFE.out] at LD
      have hbz := HBN.out
      obtain ⟨n0, n1, n2, n3⟩ := Ne.netBox_cells HNW.out
      have hS0 := (show (fun w' : World => w'.cell? ⟨bn, 0, none⟩ = some (.int .i64 ((m : Int) + 1)) ∧ w'.cell? ⟨bn, 1, none⟩ = some (.int .i64 1) ∧ w'.cell? ⟨bn, 2, none⟩ = some (.int .i64 ((m : Int) + 1)) ∧ w'.cell? ⟨bn, 3, none⟩ = some (.slice o9 m c9)) wr.drew from ⟨n0, n1, n2, n3⟩)
      replace LX := Lib.hid (LX.out (o9, c9))
      replace LD := Lib.hid (LD.out (o9, c9))
      simp only at LX LD
      clear hlt hr9 hb9 hkg HFR HFS HAS HA0 HF0 HFLE n0 n1 n2 n3
      go_wp2
      refine Rh.start (S := (fun w' : World => w'.cell? ⟨bn, 0, none⟩ = some (.int .i64 ((m : Int) + 1)) ∧ w'.cell? ⟨bn, 1, none⟩ = some (.int .i64 1) ∧ w'.cell? ⟨bn, 2, none⟩ = some (.int .i64 ((m : Int) + 1)) ∧ w'.cell? ⟨bn, 3, none⟩ = some (.slice o9 m c9))) (by kernel_rfl) ?_
      refine Rh.take (some 72) (i := 0) (v := ?_) rfl (by kernel_rfl) (by kernel_rfl) (by kernel_rfl) (by kernel_rfl) (fun _ _ _ h => h) (Or.inl ⟨by rfl, ?_⟩) hS0 ?_
      rotate_left
      · intro w hSw
        go_simp
        try with_reducible rfl
      try simp only [Act.put, List.setIfInBounds_toArray, List.set_cons_zero, List.set_cons_succ]
      refine Rh.take (some 73) (i := 1) (v := ?_) rfl (by kernel_rfl) (by kernel_rfl) (by kernel_rfl) (by kernel_rfl) (fun _ _ _ h => h) (Or.inl ⟨by rfl, ?_⟩) hS0 ?_
      rotate_left
      · intro w hSw
        go_simp
        try with_reducible rfl
      try simp only [Act.put, List.setIfInBounds_toArray, List.set_cons_zero, List.set_cons_succ]
      refine Rh.take (some 74) (i := 2) (v := ?_) rfl (by kernel_rfl) (by kernel_rfl) (by kernel_rfl) (by kernel_rfl) (fun _ _ _ h => h) (Or.inl ⟨by rfl, ?_⟩) hS0 ?_
      rotate_left
      · intro w hSw
        go_simp
        try with_reducible rfl
      try simp only [Act.put, List.setIfInBounds_toArray, List.set_cons_zero, List.set_cons_succ]
      refine Rh.take (some 76) (i := 4) (v := ?_) rfl (by kernel_rfl) (by kernel_rfl) (by kernel_rfl) (by kernel_rfl) (fun _ _ _ h => h) (Or.inl ⟨by rfl, ?_⟩) hS0 ?_
      rotate_left
      · intro w hSw
        go_simp
        try with_reducible rfl
      try simp only [Act.put, List.setIfInBounds_toArray, List.set_cons_zero, List.set_cons_succ]
      refine Rh.step (i := 3) (by kernel_rfl) rfl fun K' hK' => ?_
      have HK := Lib.hid hK'
      clear hK'
      go_simp
      have hbA := (Below.refl wr.drew.heap.size wr.drew).alloc (Nat.le_refl _) (.cells (madeCells #[.int .i64 0] m) 2)
      have HLA := Lib.hid (Ne.lbox_made wr.drew m (b := wr.heap.size) rfl)
      have hS1 := (show (fun w' : World => w'.cell? ⟨bn, 0, none⟩ = some (.int .i64 ((m : Int) + 1)) ∧ w'.cell? ⟨bn, 1, none⟩ = some (.int .i64 1) ∧ w'.cell? ⟨bn, 2, none⟩ = some (.int .i64 ((m : Int) + 1)) ∧ w'.cell? ⟨bn, 3, none⟩ = some (.slice o9 m c9)) (wr.drew.alloc (.cells (madeCells #[.int .i64 0] m) 2)) from ⟨(hbA.cell (p := ⟨bn, 0, none⟩) hbl).trans hS0.1, (hbA.cell (p := ⟨bn, 1, none⟩) hbl).trans hS0.2.1, (hbA.cell (p := ⟨bn, 2, none⟩) hbl).trans hS0.2.2.1, (hbA.cell (p := ⟨bn, 3, none⟩) hbl).trans hS0.2.2.2⟩)
      refine HK.out _ _ ⟨hS1, ?_⟩
      clear HK K'
      try simp only [Act.put, List.setIfInBounds_toArray, List.set_cons_zero, List.set_cons_succ]
      refine Rh.step (i := 5) (by kernel_rfl) rfl fun K' hK' => ?_
      have HK := Lib.hid hK'
      clear hK'
      go_simp
      refine (LX.out _ wr.heap.size (HRW.out.kept hbA) HLA.out.irow).mono ?_
      rintro e w5 ⟨o5, c5, rfl, hx, hb⟩
      have hbAB := hbA.trans (hb.mono hbA.size)
      have hS2 := (show (fun w' : World => w'.cell? ⟨bn, 0, none⟩ = some (.int .i64 ((m : Int) + 1)) ∧ w'.cell? ⟨bn, 1, none⟩ = some (.int .i64 1) ∧ w'.cell? ⟨bn, 2, none⟩ = some (.int .i64 ((m : Int) + 1)) ∧ w'.cell? ⟨bn, 3, none⟩ = some (.slice o9 m c9)) w5 from ⟨(hbAB.cell (p := ⟨bn, 0, none⟩) hbl).trans hS0.1, (hbAB.cell (p := ⟨bn, 1, none⟩) hbl).trans hS0.2.1, (hbAB.cell (p := ⟨bn, 2, none⟩) hbl).trans hS0.2.2.1, (hbAB.cell (p := ⟨bn, 3, none⟩) hbl).trans hS0.2.2.2⟩)
      refine HK.out _ _ ⟨hS2, ?_⟩
      clear HK K'
      try simp only [Act.put, List.setIfInBounds_toArray, List.set_cons_zero, List.set_cons_succ]
      refine Rh.take (some 71) (i := 6) (v := ?_) rfl (by kernel_rfl) (by kernel_rfl) (by kernel_rfl) (by kernel_rfl) (fun _ _ _ h => h) (Or.inl ⟨by rfl, ?_⟩) hS2 ?_
      rotate_left
      · intro w hSw
        go_simp
        try with_reducible rfl
      try simp only [Act.put, List.setIfInBounds_toArray, List.set_cons_zero, List.set_cons_succ]
      refine Rh.take (some 78) (i := 7) (v := ?_) rfl (by kernel_rfl) (by kernel_rfl) (by kernel_rfl) (by kernel_rfl) (fun _ _ _ h => h) (Or.inl ⟨by rfl, ?_⟩) hS2 ?_
      rotate_left
      · intro w hSw
        go_simp
        try with_reducible rfl
      try simp only [Act.put, List.setIfInBounds_toArray, List.set_cons_zero, List.set_cons_succ]
      refine Rh.take (some 79) (i := 8) (v := ?_) rfl (by kernel_rfl) (by kernel_rfl) (by kernel_rfl) (by kernel_rfl) (fun _ _ _ h => h) (Or.inl ⟨by rfl, ?_⟩) hS2 ?_
      rotate_left
      · intro w hSw
        go_simp
        try with_reducible rfl
      try simp only [Act.put, List.setIfInBounds_toArray, List.set_cons_zero, List.set_cons_succ]
      refine Rh.take (some 11) (i := 9) (v := ?_) rfl (by kernel_rfl) (by kernel_rfl) (by kernel_rfl) (by kernel_rfl) (fun _ _ _ h => h) (Or.inl ⟨by rfl, ?_⟩) hS2 ?_
      rotate_left
      · intro w hSw
        go_simp
        try with_reducible rfl
      try simp only [Act.put, List.setIfInBounds_toArray, List.set_cons_zero, List.set_cons_succ]
      refine Rh.take (some 12) (i := 10) (v := ?_) rfl (by kernel_rfl) (by kernel_rfl) (by kernel_rfl) (by kernel_rfl) (fun _ _ _ h => h) (Or.inl ⟨by rfl, ?_⟩) hS2 ?_
      rotate_left
      · intro w hSw
        go_simp
        try with_reducible rfl
      try simp only [Act.put, List.setIfInBounds_toArray, List.set_cons_zero, List.set_cons_succ]
      refine Rh.done (by kernel_rfl) ?_ _
      have HX5 := Lib.hid hx
      have HB5 := Lib.hid ((Ne.below_drew HBW.out).trans (hbAB.mono HBW.out.size))
      have HR5 := Lib.hid (show Ne.ARow w5.drew o9 (CA m) from (HRW.out.kept (Ne.below_drew hbAB)))
      have hbl5 : bn < w5.heap.size := Nat.lt_of_lt_of_le hbl hbAB.size
      clear hx hb hbA hbAB HLA hS0 hS1 HRW
      have hS0 := (show (fun w' : World => w'.cell? ⟨bn, 0, none⟩ = some (.int .i64 ((m : Int) + 1)) ∧ w'.cell? ⟨bn, 1, none⟩ = some (.int .i64 1) ∧ w'.cell? ⟨bn, 2, none⟩ = some (.int .i64 ((m : Int) + 1)) ∧ w'.cell? ⟨bn, 3, none⟩ = some (.slice o9 m c9)) w5.drew from hS2)
      clear hS2 hbl
      have hbl := hbl5
      go_wp2
      refine Rh.start (S := (fun w' : World => w'.cell? ⟨bn, 0, none⟩ = some (.int .i64 ((m : Int) + 1)) ∧ w'.cell? ⟨bn, 1, none⟩ = some (.int .i64 1) ∧ w'.cell? ⟨bn, 2, none⟩ = some (.int .i64 ((m : Int) + 1)) ∧ w'.cell? ⟨bn, 3, none⟩ = some (.slice o9 m c9))) (by kernel_rfl) ?_
      refine Rh.take (some 81) (i := 0) (v := ?_) rfl (by kernel_rfl) (by kernel_rfl) (by kernel_rfl) (by kernel_rfl) (fun _ _ _ h => h) (Or.inl ⟨by rfl, ?_⟩) hS0 ?_
      rotate_left
      · intro w hSw
        go_simp
        try with_reducible rfl
      try simp only [Act.put, List.setIfInBounds_toArray, List.set_cons_zero, List.set_cons_succ]
      refine Rh.take (some 82) (i := 1) (v := ?_) rfl (by kernel_rfl) (by kernel_rfl) (by kernel_rfl) (by kernel_rfl) (fun _ _ _ h => h) (Or.inl ⟨by rfl, ?_⟩) hS0 ?_
      rotate_left
      · intro w hSw
        go_simp
        try with_reducible rfl
      try simp only [Act.put, List.setIfInBounds_toArray, List.set_cons_zero, List.set_cons_succ]
      refine Rh.take (some 83) (i := 2) (v := ?_) rfl (by kernel_rfl) (by kernel_rfl) (by kernel_rfl) (by kernel_rfl) (fun _ _ _ h => h) (Or.inl ⟨by rfl, ?_⟩) hS0 ?_
      rotate_left
      · intro w hSw
        go_simp
        try with_reducible rfl
      try simp only [Act.put, List.setIfInBounds_toArray, List.set_cons_zero, List.set_cons_succ]
      refine Rh.take (some 85) (i := 4) (v := ?_) rfl (by kernel_rfl) (by kernel_rfl) (by kernel_rfl) (by kernel_rfl) (fun _ _ _ h => h) (Or.inl ⟨by rfl, ?_⟩) hS0 ?_
      rotate_left
      · intro w hSw
        go_simp
        try with_reducible rfl
      try simp only [Act.put, List.setIfInBounds_toArray, List.set_cons_zero, List.set_cons_succ]
      refine Rh.step (i := 3) (by kernel_rfl) rfl fun K' hK' => ?_
      have HK := Lib.hid hK'
      clear hK'
      go_simp
      have hbA := (Below.refl w5.drew.heap.size w5.drew).alloc (Nat.le_refl _) (.cells (madeCells #[.int .i64 0] m) 2)
      have HLA := Lib.hid (Ne.lbox_made w5.drew m (b := w5.heap.size) rfl)
      have hS1 := (show (fun w' : World => w'.cell? ⟨bn, 0, none⟩ = some (.int .i64 ((m : Int) + 1)) ∧ w'.cell? ⟨bn, 1, none⟩ = some (.int .i64 1) ∧ w'.cell? ⟨bn, 2, none⟩ = some (.int .i64 ((m : Int) + 1)) ∧ w'.cell? ⟨bn, 3, none⟩ = some (.slice o9 m c9)) (w5.drew.alloc (.cells (madeCells #[.int .i64 0] m) 2)) from ⟨(hbA.cell (p := ⟨bn, 0, none⟩) hbl).trans hS0.1, (hbA.cell (p := ⟨bn, 1, none⟩) hbl).trans hS0.2.1, (hbA.cell (p := ⟨bn, 2, none⟩) hbl).trans hS0.2.2.1, (hbA.cell (p := ⟨bn, 3, none⟩) hbl).trans hS0.2.2.2⟩)
      refine HK.out _ _ ⟨hS1, ?_⟩
      clear HK K'
      try simp only [Act.put, List.setIfInBounds_toArray, List.set_cons_zero, List.set_cons_succ]
      refine Rh.step (i := 5) (by kernel_rfl) rfl fun K' hK' => ?_
      have HK := Lib.hid hK'
      clear hK'
      go_simp
      refine (LD.out _ w5.heap.size (HR5.out.kept hbA) HLA.out.irow).mono ?_
      rintro e w6 ⟨o6, c6, rfl, _, hb⟩
      have hbAB := hbA.trans (hb.mono hbA.size)
      have hS2 := (show (fun w' : World => w'.cell? ⟨bn, 0, none⟩ = some (.int .i64 ((m : Int) + 1)) ∧ w'.cell? ⟨bn, 1, none⟩ = some (.int .i64 1) ∧ w'.cell? ⟨bn, 2, none⟩ = some (.int .i64 ((m : Int) + 1)) ∧ w'.cell? ⟨bn, 3, none⟩ = some (.slice o9 m c9)) w6 from ⟨(hbAB.cell (p := ⟨bn, 0, none⟩) hbl).trans hS0.1, (hbAB.cell (p := ⟨bn, 1, none⟩) hbl).trans hS0.2.1, (hbAB.cell (p := ⟨bn, 2, none⟩) hbl).trans hS0.2.2.1, (hbAB.cell (p := ⟨bn, 3, none⟩) hbl).trans hS0.2.2.2⟩)
      refine HK.out _ _ ⟨hS2, ?_⟩
      clear HK K'
      try simp only [Act.put, List.setIfInBounds_toArray, List.set_cons_zero, List.set_cons_succ]
      refine Rh.take (some 80) (i := 6) (v := ?_) rfl (by kernel_rfl) (by kernel_rfl) (by kernel_rfl) (by kernel_rfl) (fun _ _ _ h => h) (Or.inl ⟨by rfl, ?_⟩) hS2 ?_
      rotate_left
      · intro w hSw
        go_simp
        try with_reducible rfl
      try simp only [Act.put, List.setIfInBounds_toArray, List.set_cons_zero, List.set_cons_succ]
      refine Rh.take (some 87) (i := 7) (v := ?_) rfl (by kernel_rfl) (by kernel_rfl) (by kernel_rfl) (by kernel_rfl) (fun _ _ _ h => h) (Or.inl ⟨by rfl, ?_⟩) hS2 ?_
      rotate_left
      · intro w hSw
        go_simp
        try with_reducible rfl
      try simp only [Act.put, List.setIfInBounds_toArray, List.set_cons_zero, List.set_cons_succ]
      refine Rh.take (some 88) (i := 8) (v := ?_) rfl (by kernel_rfl) (by kernel_rfl) (by kernel_rfl) (by kernel_rfl) (fun _ _ _ h => h) (Or.inl ⟨by rfl, ?_⟩) hS2 ?_
      rotate_left
      · intro w hSw
        go_simp
        try with_reducible rfl
      try simp only [Act.put, List.setIfInBounds_toArray, List.set_cons_zero, List.set_cons_succ]
      refine Rh.take (some 13) (i := 9) (v := ?_) rfl (by kernel_rfl) (by kernel_rfl) (by kernel_rfl) (by kernel_rfl) (fun _ _ _ h => h) (Or.inl ⟨by rfl, ?_⟩) hS2 ?_
      rotate_left
      · intro w hSw
        go_simp
        try with_reducible rfl
      try simp only [Act.put, List.setIfInBounds_toArray, List.set_cons_zero, List.set_cons_succ]
      refine Rh.take (some 14) (i := 10) (v := ?_) rfl (by kernel_rfl) (by kernel_rfl) (by kernel_rfl) (by kernel_rfl) (fun _ _ _ h => h) (Or.inl ⟨by rfl, ?_⟩) hS2 ?_
      rotate_left
      · intro w hSw
        go_simp
        try with_reducible rfl
      try simp only [Act.put, List.setIfInBounds_toArray, List.set_cons_zero, List.set_cons_succ]
      refine Rh.done (by kernel_rfl) ?_ _
      have HX6 := Lib.hid ((show Ne.IRow w5.drew o5 CL from HX5.out).kept hbAB)
      have HB6 := Lib.hid ((Ne.below_drew HB5.out).trans (hbAB.mono HB5.out.size))
      have hbl6 : bn < w6.heap.size := Nat.lt_of_lt_of_le hbl5 hbAB.size
      clear hb hbA hbAB HLA hS0 hS1 hbl hbl5
      obtain ⟨n0, n1, n2, n3⟩ := hS2
      have hff : ((far : Int) != (far : Int)) = false := by simp
      clear LX LD hmk
      go_wp2
      go_loopg [15] (m + 1) (fun g i wy => ∃ v : Nat, i = .int .i64 v ∧ 1 ≤ v ∧ v + g = m + 2 ∧ w6 = wy)
      case atStart => exact ⟨1, rfl, Nat.le_refl _, by omega, rfl⟩
      case round =>
        obtain ⟨v, rfl, hv1, hvg, rfl⟩ := hrel
        by_cases hv : v < m + 2
        · have hvi : (v : Int) < (m : Int) + 2 := by omega
          have hvi2 : (v : Int) ≤ (m : Int) + 1 := by omega
          have hv0 : (0 : Int) ≤ (v : Int) := by omega
          have hwv : IntKind.i64.wrap ((v : Int) - 1) = (v : Int) - 1 := by rw [IntKind.wrap_i64]; omega
          obtain ⟨b7, o7, rfl, _, d7⟩ := Ne.irow_cell HX6.out (i := v) (by rw [HLL.out]; exact hv)
          rw [HLA.out v hv, HFE.out] at d7
          by_cases c : v ≤ far + 1
          · rw [if_pos ⟨hv1, c⟩] at d7
            have c' : decide ((far : Int) < (v : Int) - 1) = false := decide_eq_false (by omega)
            have c2 : (((v : Int) - 1) != ((v : Int) - 1)) = false := by simp
            go_wp2
            go_roundg (m + 2 - (v + 1))
            case measure => omega
            case rel => exact ⟨v + 1, by go_num, by omega, by omega, rfl⟩
          · rw [if_neg (fun h => c h.2)] at d7
            have c' : decide ((far : Int) < (v : Int) - 1) = true := decide_eq_true (by omega)
            go_wp2
            go_roundg (m + 2 - (v + 1))
            case measure => omega
            case rel => exact ⟨v + 1, by go_num, by omega, by omega, rfl⟩
        · have ev : v = m + 2 := by omega
          subst v
          have hlast : ¬ ((m : Int) + 2 ≤ (m : Int) + 1) := by omega
          go_wp2
          go_ret
          exact ⟨rfl, HB6.out⟩

end Go.Proofs.Ytcelggfnfnaajaa.levelChain
