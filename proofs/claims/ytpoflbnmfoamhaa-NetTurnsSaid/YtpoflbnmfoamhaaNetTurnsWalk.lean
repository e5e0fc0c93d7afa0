/- NetTurns: for every input the law returns true and its arguments read as they did. No condition. -/
import Derived.Test.YtpoflbnmfoamhaaUp3
import Derived.Outline
import Derived.RegionTactic
import Derived.Test.YtpoflbnmfoamhaaRows
import Derived.WalkKit
import Derived.ProofKit
import Derived.OpenShut
import Derived.ShutString
import Derived.ChangeOld
import Derived.Below
import Derived.Deep.Strs
namespace Go.Proofs.Ytpoflbnmfoamhaa.netTurns
open Go.ChangeShapes Go.WideShapes Go.ChangeAt Go.RowKit
open Go.ChangeMaps (open_string shut_string)
set_option linter.unusedVariables false
set_option linter.unusedSimpArgs false

theorem own : ownKnob Try.prog.godebug = none := by kernel_rfl
theorem laidOut : laidOutB Try.prog = true := by kernel_rfl

/-- a capacity with its last bit turned -/
def xr (x : Int) : Int := bits .xor .i64 x 1
theorem xr_ne {x : Int} (h : Ne.in64 x) : xr x ≠ x := by
  intro e
  have h1 : BitVec.ofInt 64 (xr x) = BitVec.ofInt 64 x ^^^ BitVec.ofInt 64 1 := by
    show BitVec.ofInt 64 (IntKind.i64.wrap ((BitVec.ofInt 64 x ^^^ BitVec.ofInt 64 1).toNat : Int)) = _
    generalize BitVec.ofInt 64 x ^^^ BitVec.ofInt 64 1 = y
    apply BitVec.eq_of_toNat_eq
    rw [BitVec.toNat_ofInt, IntKind.wrap_i64]
    have := y.isLt
    omega
  rw [e] at h1
  have h2 := congrArg (fun y => BitVec.ofInt 64 x ^^^ y) h1
  simp only [BitVec.xor_self, ← BitVec.xor_assoc, BitVec.zero_xor] at h2
  exact absurd h2 (by decide)
def xrA (a : Ne.Arc) : Ne.Arc := ⟨a.fr, a.to, xr a.cap⟩
theorem xr_at {l : List Ne.Arc} {k : Nat} {a : Ne.Arc} (h : l[k]? = some a) : ((l.take k).map xrA ++ l.drop k)[k]? = some a := by
  obtain ⟨hk, he⟩ := List.getElem?_eq_some_iff.1 h
  rw [List.getElem?_append_right (by simp; omega)]
  simp [Nat.min_eq_left (Nat.le_of_lt hk), h]
theorem xr_step {l : List Ne.Arc} {k : Nat} {a : Ne.Arc} (h : l[k]? = some a) : ((l.take k).map xrA ++ l.drop k).set k (xrA a) = (l.take (k + 1)).map xrA ++ l.drop (k + 1) := by
  obtain ⟨hk, he⟩ := List.getElem?_eq_some_iff.1 h
  have hlen : ((l.take k).map xrA).length = k := by simp; omega
  rw [List.set_append, if_neg (by omega), hlen, Nat.sub_self, List.drop_eq_getElem_cons hk, List.set_cons_zero, List.take_succ_eq_append_getElem hk, List.map_append, he]
  simp
theorem turn_turn (n : Ne.Net) : Ne.turnN (Ne.turnN n) = n := by
  obtain ⟨a, b, c, l⟩ := n
  simp only [Ne.turnN, List.map_map, Ne.Net.mk.injEq, true_and]
  rw [show (Ne.turnA ∘ Ne.turnA) = id from funext fun a => by cases a; rfl, List.map_id]
theorem outs_turn (l : List Ne.Arc) (v : Int) (k : Nat) : Ne.outs (l.map Ne.turnA) v k = Ne.ins l v k := by
  unfold Ne.outs Ne.ins
  congr 1
  apply List.filter_congr
  intro i _
  rw [List.getElem?_map]
  cases l[i]? <;> rfl
theorem ins_turn (l : List Ne.Arc) (v : Int) (k : Nat) : Ne.ins (l.map Ne.turnA) v k = Ne.outs l v k := by
  unfold Ne.outs Ne.ins
  congr 1
  apply List.filter_congr
  intro i _
  rw [List.getElem?_map]
  cases l[i]? <;> rfl
theorem checkL_turn (n : Int) (l : List Ne.Arc) : ∀ s, Ne.checkL n s (l.map Ne.turnA) = Ne.checkL n s l := by
  induction l with
  | nil => intro s; rfl
  | cons a l ih =>
    intro s
    simp only [List.map_cons, Ne.checkL, Ne.turnA]
    rw [ih, Bool.and_comm]
theorem checkN_turn (n : Ne.Net) : Ne.checkN (Ne.turnN n) = Ne.checkN n := by
  obtain ⟨a, b, c, l⟩ := n
  simp only [Ne.checkN, Ne.turnN, List.length_map, checkL_turn]
  rw [Bool.and_comm]
  by_cases h : b = c
  · subst h; rfl
  · simp only [if_neg h, if_neg (fun e : c = b => h e.symm)]
theorem same_xr (n : Ne.Net) (h : ∀ a ∈ n.l, a.ok) : Ne.sameN ⟨n.n, n.s, n.t, n.l.map xrA⟩ n = decide (n.l.length = 0) := by
  obtain ⟨a, b, c, l⟩ := n
  simp only [Ne.sameN, decide_true, Bool.true_and]
  rcases l with _ | ⟨x, l⟩
  · rfl
  · have hx := xr_ne (h x (List.mem_cons_self)).2.2
    have : List.map xrA (x :: l) ≠ x :: l := by
      intro e
      simp only [List.map_cons, List.cons.injEq] at e
      have := congrArg Ne.Arc.cap e.1
      exact hx this
    rw [decide_eq_false this]; simp
theorem len_nil (l : List Ne.Arc) (z : Bool) (h : decide (l.length = 0) = z) : (z == ((l.length : Int) == 0)) = true := by
  subst h
  rcases l with _ | ⟨x, l⟩
  · rfl
  · have e : (((x :: l).length : Int) == 0) = false := by simp only [List.length_cons, beq_eq_false_iff_ne, ne_eq]; omega
    rw [e]; simp

set_option maxRecDepth 100000 in
set_option maxHeartbeats 4000000 in
theorem walk (a0 : Ne.Net) (o0 : Option Addr) (c0 : Nat) (a1 : Int) (w : World) (k0 : a0.ok) (z0 : a0.l.length ≤ c0) (y0 : c0 ≤ maxLen) (n0 : o0 = none → c0 = 0) (r0 : Ne.ARow w o0 a0.l) (w1 : (Lit.int .i64 a1).wf = true) :
    Calls Try.prog 4 #[Ne.encN a0 o0 c0, .int .i64 a1] w fun e w' => e = .returned (.bool true) ∧ Below w.heap.size w w' := by
  obtain ⟨nn, ns, nt, l⟩ := a0
  simp only [Ne.Net.ok] at k0 z0 r0
  obtain ⟨_, _, _, ka⟩ := k0
  have hax : l.length ≤ maxLen := Nat.le_trans z0 y0
  unfold maxLen at hax
  have HB0 := Lib.hid (show Below w.heap.size w (w.alloc (.cells #[.int .i64 nn, .int .i64 ns, .int .i64 nt, .slice o0 l.length c0] 24)) from (Below.refl _ _).alloc (by simp) _)
  have NA := Lib.hid (Ne.netBox_new w nn ns nt (.slice o0 l.length c0))
  have RA := Lib.hid (r0.kept HB0.out)
  have HZ : (w.alloc (.cells #[.int .i64 nn, .int .i64 ns, .int .i64 nt, .slice o0 l.length c0] 24)).heap.size = w.heap.size + 1 := by simp
  have HSH := Lib.hid (Ne.shown_any (w.alloc (.cells #[.int .i64 nn, .int .i64 ns, .int .i64 nt, .slice o0 l.length c0] 24)))
  clear r0
  by_cases g1 : 3000 < l.length
  · have g1' : (3000 : Int) < (l.length : Int) := by omega
    go_enter Try.func4, Try.ntmps4
    go_wp2_with fail
    refine HSH.out.mono ?_
    rintro e w1 ⟨rfl, hb⟩
    generalize (w.alloc (.cells #[.int .i64 nn, .int .i64 ns, .int .i64 nt, .slice o0 l.length c0] 24)) = WB at *
    have n3 := (Ne.netBox_cells (Ne.netBox_below NA.out hb (by omega))).2.2.2
    have HB1 := Lib.hid (HB0.out.trans (hb.mono (by omega)))
    clear hb
    go_wp2
    go_ret
    exact ⟨rfl, HB1.out⟩
  have g1' : ¬ (3000 : Int) < (l.length : Int) := by omega
  have la : l.length ≤ 1000000 := by omega
  obtain ⟨tl, htl⟩ : ∃ c, c = l.map Ne.turnA := ⟨_, rfl⟩
  have htl2 : tl.length ≤ 1000000 := by rw [htl]; simpa using la
  have htl3 : tl.length = l.length := by rw [htl]; simp
  obtain ⟨ck, hck⟩ : ∃ c, c = Ne.checkN ⟨nn, ns, nt, l⟩ := ⟨_, rfl⟩
  obtain ⟨ol, hol⟩ : ∃ c, c = Ne.outs l a1 l.length := ⟨_, rfl⟩
  obtain ⟨il, hil⟩ : ∃ c, c = Ne.ins l a1 l.length := ⟨_, rfl⟩
  have hol2 : ol.length ≤ 1099511627776 := by have := Ne.outs_len l a1 l.length; rw [← hol] at this; omega
  have hil2 : il.length ≤ 1099511627776 := by have := Ne.ins_len l a1 l.length; rw [← hil] at this; omega
  have etn : Ne.turnN ⟨nn, ns, nt, l⟩ = ⟨nn, nt, ns, tl⟩ := by rw [htl]; rfl
  have TN := Lib.hid fun w' (h : Ne.ARow w' o0 l) => Ne.turn_any ⟨nn, ns, nt, l⟩ o0 c0 w' n0 h la
  have TT := Lib.hid fun w' ot ct (h0 : ot = none → ct = 0) (h : Ne.ARow w' ot tl) => Ne.turn_s ⟨nn, nt, ns, tl⟩ ot ct w' h0 h htl2
  have SS := Lib.hid fun x1 x2 c1 c2 w' (h1 : Ne.ARow w' x1 l) (h2 : Ne.ARow w' x2 l) => Ne.dsame_s ⟨nn, ns, nt, l⟩ x1 x2 c1 c2 w' h1 h2 la
  have OT := Lib.hid fun w' ot ct (h : Ne.ARow w' ot tl) => Ne.out_s ⟨nn, nt, ns, tl⟩ ot ct a1 w' h htl2
  have IT := Lib.hid fun w' ot ct (h : Ne.ARow w' ot tl) => Ne.in_s ⟨nn, nt, ns, tl⟩ ot ct a1 w' h htl2
  have ON := Lib.hid fun w' (h : Ne.ARow w' o0 l) => Ne.out_s ⟨nn, ns, nt, l⟩ o0 c0 a1 w' h la
  have IN := Lib.hid fun w' (h : Ne.ARow w' o0 l) => Ne.in_s ⟨nn, ns, nt, l⟩ o0 c0 a1 w' h la
  have SO := Lib.hid fun x1 x2 c1 c2 w' (h1 : Ne.IRow w' x1 ol) (h2 : Ne.IRow w' x2 ol) => Ne.same_s x1 x2 c1 c2 ol w' h1 h2 hol2
  have SI := Lib.hid fun x1 x2 c1 c2 w' (h1 : Ne.IRow w' x1 il) (h2 : Ne.IRow w' x2 il) => Ne.same_s x1 x2 c1 c2 il w' h1 h2 hil2
  have CN := Lib.hid fun w' (h : Ne.ARow w' o0 l) => Ne.check_any ⟨nn, ns, nt, l⟩ o0 c0 w' h la (fun a ha => (ka a ha).2.2)
  have CT := Lib.hid fun w' ot ct (h : Ne.ARow w' ot tl) => Ne.check_any ⟨nn, nt, ns, tl⟩ ot ct w' h htl2 (fun a ha => by
    simp only [htl] at ha
    obtain ⟨x, hx, rfl⟩ := List.mem_map.1 ha
    exact (ka x hx).2.2)
  have CP := Lib.hid fun w' (h : Ne.ARow w' o0 l) => Ne.copy_any ⟨nn, ns, nt, l⟩ o0 c0 w' n0 h la
  have esx := same_xr ⟨nn, ns, nt, l⟩ ka
  obtain ⟨zb, HZB⟩ : ∃ z : Bool, Hid (decide (l.length = 0) = z) := ⟨_, Lib.hid rfl⟩
  have hzb := HZB.out
  have SX : Hid (∀ x1 x2 c1 c2 w', Ne.ARow w' x1 (l.map xrA) → Ne.ARow w' x2 l → Calls Try.prog 18 #[.agg #[.int .i64 nn, .int .i64 ns, .int .i64 nt, .slice x1 l.length c1], .agg #[.int .i64 nn, .int .i64 ns, .int .i64 nt, .slice x2 l.length c2]] w' fun e w2 => e = .returned (.bool zb) ∧ Below w'.heap.size w' w2) := Lib.hid fun x1 x2 c1 c2 w' h1 h2 => by
    have h := Ne.dsame_any ⟨nn, ns, nt, l.map xrA⟩ ⟨nn, ns, nt, l⟩ x1 x2 c1 c2 w' h1 h2 (by simpa using la) la
    rw [esx] at h
    simp only [Ne.encN, List.length_map] at h
    rw [show decide (l.length = 0) = zb from hzb] at h
    exact h
  clear hzb
  have ett : Ne.turnN ⟨nn, nt, ns, tl⟩ = ⟨nn, ns, nt, l⟩ := by rw [← etn, turn_turn]
  have eot : Ne.outs tl a1 tl.length = il := by rw [htl3, htl, outs_turn, hil]
  have eit : Ne.ins tl a1 tl.length = ol := by rw [htl3, htl, ins_turn, hol]
  have ect : Ne.checkN ⟨nn, nt, ns, tl⟩ = ck := by rw [← etn, checkN_turn, hck]
  simp only [etn] at TN
  simp only [ett] at TT
  simp only [eot] at OT
  simp only [eit] at IT
  simp only [← hol] at ON
  simp only [← hil] at IN
  rw [ect] at CT
  rw [← hck] at CN
  have HLT := Lib.hid htl3
  clear hck hol hil htl hol2 hil2 htl2 htl3 ka etn ett eot eit ect esx
  go_enter Try.func4, Try.ntmps4
  go_wp2_with fail
  refine HSH.out.mono ?_
  rintro e w1 ⟨rfl, hb⟩
  generalize (w.alloc (.cells #[.int .i64 nn, .int .i64 ns, .int .i64 nt, .slice o0 l.length c0] 24)) = WB at *
  have HB1 := Lib.hid hb
  obtain ⟨n0, n1, n2, n3⟩ := Ne.netBox_cells (Ne.netBox_below NA.out hb (by omega))
  clear hb
  go_wp2_with fail
  refine (TN.out _ (RA.out.kept HB1.out)).mono ?_
  rintro e w2 ⟨ot, ct, rfl, ho, hb⟩
  have HOT := Lib.hid (Ne.arow_of ho).2.1
  have HB2 := Lib.hid (show Below WB.heap.size WB (w2.alloc (.cells #[.int .i64 nn, .int .i64 nt, .int .i64 ns, .slice ot tl.length ct] 24)).drew from Ne.below_drew ((HB1.out.trans (hb.mono HB1.out.size)).alloc (HB1.out.trans (hb.mono HB1.out.size)).size _))
  have RT := Lib.hid (((Ne.arow_of ho).2.2).kept ((Below.refl _ _).alloc (Nat.le_refl _) (.cells #[.int .i64 nn, .int .i64 nt, .int .i64 ns, .slice ot tl.length ct] 24)))
  have NT := Lib.hid (Ne.netBox_new w2 nn nt ns (.slice ot tl.length ct))
  have hz2 : WB.heap.size ≤ w2.heap.size := (HB1.out.trans (hb.mono HB1.out.size)).size
  clear ho hb n0 n1 n2 n3
  go_wp2
  have NA2 := Lib.hid (Ne.netBox_below NA.out HB2.out (by omega))
  have RA2 := Lib.hid (RA.out.kept HB2.out)
  have HWC : (w2.alloc (.cells #[.int .i64 nn, .int .i64 nt, .int .i64 ns, .slice ot tl.length ct] 24)).heap.size = w2.heap.size + 1 := by simp
  generalize (w2.alloc (.cells #[.int .i64 nn, .int .i64 nt, .int .i64 ns, .slice ot tl.length ct] 24)) = WC at *
  have HSB : Hid (∀ w', Below WC.heap.size WC w' → (fun w' => w'.cell? ⟨w.heap.size, 0, none⟩ = some (.int .i64 nn) ∧ w'.cell? ⟨w.heap.size, 1, none⟩ = some (.int .i64 ns) ∧ w'.cell? ⟨w.heap.size, 2, none⟩ = some (.int .i64 nt) ∧ w'.cell? ⟨w.heap.size, 3, none⟩ = some (.slice o0 l.length c0) ∧ w'.cell? ⟨w2.heap.size, 0, none⟩ = some (.int .i64 nn) ∧ w'.cell? ⟨w2.heap.size, 1, none⟩ = some (.int .i64 nt) ∧ w'.cell? ⟨w2.heap.size, 2, none⟩ = some (.int .i64 ns) ∧ w'.cell? ⟨w2.heap.size, 3, none⟩ = some (.slice ot tl.length ct)) w') := Lib.hid fun w' h => by
    obtain ⟨x0, x1, x2, x3⟩ := Ne.netBox_cells (Ne.netBox_below (show Ne.NetBox WC _ _ _ _ _ from NA2.out) h (by omega))
    obtain ⟨y0, y1, y2, y3⟩ := Ne.netBox_cells (Ne.netBox_below NT.out h (by omega))
    exact ⟨x0, x1, x2, x3, y0, y1, y2, y3⟩
  have HBC := Lib.hid (show Below WB.heap.size WB WC from HB2.out.trans ⟨rfl, rfl, rfl, Nat.le_refl _, fun _ _ => rfl⟩)
  have RAW := Lib.hid RA.out
  clear HB2 RA
  have HB2 := Lib.hid (show Below WC.heap.size WC WC.drew from Ne.below_drew (Below.refl _ _))
  have RA := Lib.hid (show Ne.ARow WC o0 l from RA2.out)
  clear RA2
  have hS2 := HSB.out _ HB2.out
  refine Rh.start (S := (fun w' => w'.cell? ⟨w.heap.size, 0, none⟩ = some (.int .i64 nn) ∧ w'.cell? ⟨w.heap.size, 1, none⟩ = some (.int .i64 ns) ∧ w'.cell? ⟨w.heap.size, 2, none⟩ = some (.int .i64 nt) ∧ w'.cell? ⟨w.heap.size, 3, none⟩ = some (.slice o0 l.length c0) ∧ w'.cell? ⟨w2.heap.size, 0, none⟩ = some (.int .i64 nn) ∧ w'.cell? ⟨w2.heap.size, 1, none⟩ = some (.int .i64 nt) ∧ w'.cell? ⟨w2.heap.size, 2, none⟩ = some (.int .i64 ns) ∧ w'.cell? ⟨w2.heap.size, 3, none⟩ = some (.slice ot tl.length ct))) (by kernel_rfl) ?_
  refine Rh.take (some 21) (i := 0) (v := ?_) rfl (by kernel_rfl) (by kernel_rfl) (by kernel_rfl) (by kernel_rfl) (fun _ _ _ h => h) (Or.inl ⟨by rfl, ?_⟩) hS2 ?_
  rotate_left
  · intro w hSw
    go_simp
    try with_reducible rfl
  try simp only [Act.put, List.setIfInBounds_toArray, List.set_cons_zero, List.set_cons_succ]
  refine Rh.take (some 23) (i := 2) (v := ?_) rfl (by kernel_rfl) (by kernel_rfl) (by kernel_rfl) (by kernel_rfl) (fun _ _ _ h => h) (Or.inl ⟨by rfl, ?_⟩) hS2 ?_
  rotate_left
  · intro w hSw
    go_simp
    try with_reducible rfl
  try simp only [Act.put, List.setIfInBounds_toArray, List.set_cons_zero, List.set_cons_succ]
  refine Rh.step (i := 1) (by kernel_rfl) rfl fun K' hK' => ?_
  have HK := Lib.hid hK'
  clear hK'
  go_simp
  refine (TT.out _ ot ct HOT.out (RT.out.kept HB2.out)).mono ?_
  rintro e w3 ⟨p1, q1, rfl, r1, hb⟩
  have HB3 := Lib.hid (HB2.out.trans (hb.mono HB2.out.size))
  have X1 := Lib.hid (r1)
  clear hb r1
  have hS3 := HSB.out w3 HB3.out
  refine HK.out _ _ ⟨hS3, ?_⟩
  clear HK K'
  try simp only [Act.put, List.setIfInBounds_toArray, List.set_cons_zero, List.set_cons_succ]
  refine Rh.step (i := 3) (by kernel_rfl) rfl fun K' hK' => ?_
  have HK := Lib.hid hK'
  clear hK'
  go_simp
  refine (SS.out _ _ _ _ _ X1.out (RA.out.kept HB3.out)).mono ?_
  rintro e w4 ⟨rfl, hb⟩
  have HB4 := Lib.hid (HB3.out.trans (hb.mono HB3.out.size))
  clear hb
  have hS4 := HSB.out w4 HB4.out
  refine HK.out _ _ ⟨hS4, ?_⟩
  clear HK K'
  try simp only [Act.put, List.setIfInBounds_toArray, List.set_cons_zero, List.set_cons_succ]
  refine Rh.take (some 25) (i := 4) (v := ?_) rfl (by kernel_rfl) (by kernel_rfl) (by kernel_rfl) (by kernel_rfl) (fun _ _ _ h => h) (Or.inl ⟨by rfl, ?_⟩) hS4 ?_
  rotate_left
  · intro w hSw
    go_simp
    try with_reducible rfl
  try simp only [Act.put, List.setIfInBounds_toArray, List.set_cons_zero, List.set_cons_succ]
  refine Rh.take (some 26) (i := 5) (v := ?_) rfl (by kernel_rfl) (by kernel_rfl) (by kernel_rfl) (by kernel_rfl) (fun _ _ _ h => h) (Or.inl ⟨by rfl, ?_⟩) hS4 ?_
  rotate_left
  · intro w hSw
    go_simp
    try with_reducible rfl
  try simp only [Act.put, List.setIfInBounds_toArray, List.set_cons_zero, List.set_cons_succ]
  refine Rh.take (some 27) (i := 6) (v := ?_) rfl (by kernel_rfl) (by kernel_rfl) (by kernel_rfl) (by kernel_rfl) (fun _ _ _ h => h) (Or.inl ⟨by rfl, ?_⟩) hS4 ?_
  rotate_left
  · intro w hSw
    go_simp
    try with_reducible rfl
  try simp only [Act.put, List.setIfInBounds_toArray, List.set_cons_zero, List.set_cons_succ]
  refine Rh.take (some 28) (i := 7) (v := ?_) rfl (by kernel_rfl) (by kernel_rfl) (by kernel_rfl) (by kernel_rfl) (fun _ _ _ h => h) (Or.inl ⟨by rfl, ?_⟩) hS4 ?_
  rotate_left
  · intro w hSw
    go_simp
    try with_reducible rfl
  try simp only [Act.put, List.setIfInBounds_toArray, List.set_cons_zero, List.set_cons_succ]
  refine Rh.take (some 30) (i := 9) (v := ?_) rfl (by kernel_rfl) (by kernel_rfl) (by kernel_rfl) (by kernel_rfl) (fun _ _ _ h => h) (Or.inl ⟨by rfl, ?_⟩) hS4 ?_
  rotate_left
  · intro w hSw
    go_simp
    try with_reducible rfl
  try simp only [Act.put, List.setIfInBounds_toArray, List.set_cons_zero, List.set_cons_succ]
  refine Rh.take (some 31) (i := 10) (v := ?_) rfl (by kernel_rfl) (by kernel_rfl) (by kernel_rfl) (by kernel_rfl) (fun _ _ _ h => h) (Or.inl ⟨by rfl, ?_⟩) hS4 ?_
  rotate_left
  · intro w hSw
    go_simp
    try with_reducible rfl
  try simp only [Act.put, List.setIfInBounds_toArray, List.set_cons_zero, List.set_cons_succ]
  refine Rh.step (i := 8) (by kernel_rfl) rfl fun K' hK' => ?_
  have HK := Lib.hid hK'
  clear hK'
  go_simp
  refine (OT.out _ ot ct (RT.out.kept HB4.out)).mono ?_
  rintro e w5 ⟨p2, q2, rfl, r2, hb⟩
  have HB5 := Lib.hid (HB4.out.trans (hb.mono HB4.out.size))
  have X2 := Lib.hid (r2)
  clear hb r2
  have hS5 := HSB.out w5 HB5.out
  refine HK.out _ _ ⟨hS5, ?_⟩
  clear HK K'
  try simp only [Act.put, List.setIfInBounds_toArray, List.set_cons_zero, List.set_cons_succ]
  refine Rh.step (i := 11) (by kernel_rfl) rfl fun K' hK' => ?_
  have HK := Lib.hid hK'
  clear hK'
  go_simp
  refine (IN.out _ (RA.out.kept HB5.out)).mono ?_
  rintro e w6 ⟨p3, q3, rfl, r3, hb⟩
  have HB6 := Lib.hid (HB5.out.trans (hb.mono HB5.out.size))
  have X2' := Lib.hid (X2.out.kept hb)
  clear X2
  have X2 := Lib.hid X2'.out
  clear X2'
  have X3 := Lib.hid (r3)
  clear hb r3
  have hS6 := HSB.out w6 HB6.out
  refine HK.out _ _ ⟨hS6, ?_⟩
  clear HK K'
  try simp only [Act.put, List.setIfInBounds_toArray, List.set_cons_zero, List.set_cons_succ]
  refine Rh.step (i := 12) (by kernel_rfl) rfl fun K' hK' => ?_
  have HK := Lib.hid hK'
  clear hK'
  go_simp
  refine (SI.out _ _ _ _ _ X2.out X3.out).mono ?_
  rintro e w7 ⟨rfl, hb⟩
  have HB7 := Lib.hid (HB6.out.trans (hb.mono HB6.out.size))
  clear hb
  have hS7 := HSB.out w7 HB7.out
  refine HK.out _ _ ⟨hS7, ?_⟩
  clear HK K'
  try simp only [Act.put, List.setIfInBounds_toArray, List.set_cons_zero, List.set_cons_succ]
  refine Rh.take (some 34) (i := 13) (v := ?_) rfl (by kernel_rfl) (by kernel_rfl) (by kernel_rfl) (by kernel_rfl) (fun _ _ _ h => h) (Or.inl ⟨by rfl, ?_⟩) hS7 ?_
  rotate_left
  · intro w hSw
    go_simp
    try with_reducible rfl
  try simp only [Act.put, List.setIfInBounds_toArray, List.set_cons_zero, List.set_cons_succ]
  refine Rh.take (some 35) (i := 14) (v := ?_) rfl (by kernel_rfl) (by kernel_rfl) (by kernel_rfl) (by kernel_rfl) (fun _ _ _ h => h) (Or.inl ⟨by rfl, ?_⟩) hS7 ?_
  rotate_left
  · intro w hSw
    go_simp
    try with_reducible rfl
  try simp only [Act.put, List.setIfInBounds_toArray, List.set_cons_zero, List.set_cons_succ]
  refine Rh.take (some 36) (i := 15) (v := ?_) rfl (by kernel_rfl) (by kernel_rfl) (by kernel_rfl) (by kernel_rfl) (fun _ _ _ h => h) (Or.inl ⟨by rfl, ?_⟩) hS7 ?_
  rotate_left
  · intro w hSw
    go_simp
    try with_reducible rfl
  try simp only [Act.put, List.setIfInBounds_toArray, List.set_cons_zero, List.set_cons_succ]
  refine Rh.take (some 37) (i := 16) (v := ?_) rfl (by kernel_rfl) (by kernel_rfl) (by kernel_rfl) (by kernel_rfl) (fun _ _ _ h => h) (Or.inl ⟨by rfl, ?_⟩) hS7 ?_
  rotate_left
  · intro w hSw
    go_simp
    try with_reducible rfl
  try simp only [Act.put, List.setIfInBounds_toArray, List.set_cons_zero, List.set_cons_succ]
  refine Rh.take (some 38) (i := 17) (v := ?_) rfl (by kernel_rfl) (by kernel_rfl) (by kernel_rfl) (by kernel_rfl) (fun _ _ _ h => h) (Or.inl ⟨by rfl, ?_⟩) hS7 ?_
  rotate_left
  · intro w hSw
    go_simp
    try with_reducible rfl
  try simp only [Act.put, List.setIfInBounds_toArray, List.set_cons_zero, List.set_cons_succ]
  refine Rh.take (some 40) (i := 19) (v := ?_) rfl (by kernel_rfl) (by kernel_rfl) (by kernel_rfl) (by kernel_rfl) (fun _ _ _ h => h) (Or.inl ⟨by rfl, ?_⟩) hS7 ?_
  rotate_left
  · intro w hSw
    go_simp
    try with_reducible rfl
  try simp only [Act.put, List.setIfInBounds_toArray, List.set_cons_zero, List.set_cons_succ]
  refine Rh.take (some 41) (i := 20) (v := ?_) rfl (by kernel_rfl) (by kernel_rfl) (by kernel_rfl) (by kernel_rfl) (fun _ _ _ h => h) (Or.inl ⟨by rfl, ?_⟩) hS7 ?_
  rotate_left
  · intro w hSw
    go_simp
    try with_reducible rfl
  try simp only [Act.put, List.setIfInBounds_toArray, List.set_cons_zero, List.set_cons_succ]
  refine Rh.step (i := 18) (by kernel_rfl) rfl fun K' hK' => ?_
  have HK := Lib.hid hK'
  clear hK'
  go_simp
  refine (IT.out _ ot ct (RT.out.kept HB7.out)).mono ?_
  rintro e w8 ⟨p4, q4, rfl, r4, hb⟩
  have HB8 := Lib.hid (HB7.out.trans (hb.mono HB7.out.size))
  have X4 := Lib.hid (r4)
  clear hb r4
  have hS8 := HSB.out w8 HB8.out
  refine HK.out _ _ ⟨hS8, ?_⟩
  clear HK K'
  try simp only [Act.put, List.setIfInBounds_toArray, List.set_cons_zero, List.set_cons_succ]
  refine Rh.step (i := 21) (by kernel_rfl) rfl fun K' hK' => ?_
  have HK := Lib.hid hK'
  clear hK'
  go_simp
  refine (ON.out _ (RA.out.kept HB8.out)).mono ?_
  rintro e w9 ⟨p5, q5, rfl, r5, hb⟩
  have HB9 := Lib.hid (HB8.out.trans (hb.mono HB8.out.size))
  have X4' := Lib.hid (X4.out.kept hb)
  clear X4
  have X4 := Lib.hid X4'.out
  clear X4'
  have X5 := Lib.hid (r5)
  clear hb r5
  have hS9 := HSB.out w9 HB9.out
  refine HK.out _ _ ⟨hS9, ?_⟩
  clear HK K'
  try simp only [Act.put, List.setIfInBounds_toArray, List.set_cons_zero, List.set_cons_succ]
  refine Rh.step (i := 22) (by kernel_rfl) rfl fun K' hK' => ?_
  have HK := Lib.hid hK'
  clear hK'
  go_simp
  refine (SO.out _ _ _ _ _ X4.out X5.out).mono ?_
  rintro e w10 ⟨rfl, hb⟩
  have HB10 := Lib.hid (HB9.out.trans (hb.mono HB9.out.size))
  clear hb
  have hS10 := HSB.out w10 HB10.out
  refine HK.out _ _ ⟨hS10, ?_⟩
  clear HK K'
  try simp only [Act.put, List.setIfInBounds_toArray, List.set_cons_zero, List.set_cons_succ]
  refine Rh.take (some 44) (i := 23) (v := ?_) rfl (by kernel_rfl) (by kernel_rfl) (by kernel_rfl) (by kernel_rfl) (fun _ _ _ h => h) (Or.inl ⟨by rfl, ?_⟩) hS10 ?_
  rotate_left
  · intro w hSw
    go_simp
    try with_reducible rfl
  try simp only [Act.put, List.setIfInBounds_toArray, List.set_cons_zero, List.set_cons_succ]
  refine Rh.take (some 45) (i := 24) (v := ?_) rfl (by kernel_rfl) (by kernel_rfl) (by kernel_rfl) (by kernel_rfl) (fun _ _ _ h => h) (Or.inl ⟨by rfl, ?_⟩) hS10 ?_
  rotate_left
  · intro w hSw
    go_simp
    try with_reducible rfl
  try simp only [Act.put, List.setIfInBounds_toArray, List.set_cons_zero, List.set_cons_succ]
  refine Rh.take (some 46) (i := 25) (v := ?_) rfl (by kernel_rfl) (by kernel_rfl) (by kernel_rfl) (by kernel_rfl) (fun _ _ _ h => h) (Or.inl ⟨by rfl, ?_⟩) hS10 ?_
  rotate_left
  · intro w hSw
    go_simp
    try with_reducible rfl
  try simp only [Act.put, List.setIfInBounds_toArray, List.set_cons_zero, List.set_cons_succ]
  refine Rh.take (some 47) (i := 26) (v := ?_) rfl (by kernel_rfl) (by kernel_rfl) (by kernel_rfl) (by kernel_rfl) (fun _ _ _ h => h) (Or.inl ⟨by rfl, ?_⟩) hS10 ?_
  rotate_left
  · intro w hSw
    go_simp
    try with_reducible rfl
  try simp only [Act.put, List.setIfInBounds_toArray, List.set_cons_zero, List.set_cons_succ]
  refine Rh.take (some 49) (i := 28) (v := ?_) rfl (by kernel_rfl) (by kernel_rfl) (by kernel_rfl) (by kernel_rfl) (fun _ _ _ h => h) (Or.inl ⟨by rfl, ?_⟩) hS10 ?_
  rotate_left
  · intro w hSw
    go_simp
    try with_reducible rfl
  try simp only [Act.put, List.setIfInBounds_toArray, List.set_cons_zero, List.set_cons_succ]
  refine Rh.step (i := 27) (by kernel_rfl) rfl fun K' hK' => ?_
  have HK := Lib.hid hK'
  clear hK'
  go_simp
  refine (CT.out _ ot ct (RT.out.kept HB10.out)).mono ?_
  rintro e w11 ⟨rfl, hb⟩
  have HB11 := Lib.hid (HB10.out.trans (hb.mono HB10.out.size))
  clear hb
  have hS11 := HSB.out w11 HB11.out
  refine HK.out _ _ ⟨hS11, ?_⟩
  clear HK K'
  try simp only [Act.put, List.setIfInBounds_toArray, List.set_cons_zero, List.set_cons_succ]
  refine Rh.step (i := 29) (by kernel_rfl) rfl fun K' hK' => ?_
  have HK := Lib.hid hK'
  clear hK'
  go_simp
  refine (CN.out _ (RA.out.kept HB11.out)).mono ?_
  rintro e w12 ⟨rfl, hb⟩
  have HB12 := Lib.hid (HB11.out.trans (hb.mono HB11.out.size))
  clear hb
  have hS12 := HSB.out w12 HB12.out
  refine HK.out _ _ ⟨hS12, ?_⟩
  clear HK K'
  try simp only [Act.put, List.setIfInBounds_toArray, List.set_cons_zero, List.set_cons_succ]
  refine Rh.take (some 51) (i := 30) (v := ?_) rfl (by kernel_rfl) (by kernel_rfl) (by kernel_rfl) (by kernel_rfl) (fun _ _ _ h => h) (Or.inl ⟨by rfl, ?_⟩) hS12 ?_
  rotate_left
  · intro w hSw
    go_simp
    try with_reducible rfl
  try simp only [Act.put, List.setIfInBounds_toArray, List.set_cons_zero, List.set_cons_succ]
  refine Rh.take (some 52) (i := 31) (v := ?_) rfl (by kernel_rfl) (by kernel_rfl) (by kernel_rfl) (by kernel_rfl) (fun _ _ _ h => h) (Or.inl ⟨by rfl, ?_⟩) hS12 ?_
  rotate_left
  · intro w hSw
    go_simp
    try with_reducible rfl
  try simp only [Act.put, List.setIfInBounds_toArray, List.set_cons_zero, List.set_cons_succ]
  refine Rh.done (by kernel_rfl) ?_ _
  obtain ⟨n0, n1, n2, n3⟩ := Ne.netBox_cells (Ne.netBox_below (show Ne.NetBox WC _ _ _ _ _ from NA2.out) HB12.out (by omega))
  go_wp2_with fail
  refine (CP.out _ (RA.out.kept HB12.out)).mono ?_
  rintro e wc ⟨oc, cc, rfl, ho, hb⟩
  have HBc := Lib.hid (HBC.out.trans ((HB12.out.trans (hb.mono HB12.out.size)).mono HBC.out.size))
  have HZc : WB.heap.size ≤ wc.heap.size := HBc.out.size
  have hgc : ∀ g, (Value.slice oc l.length cc).ownBlock = some g → g < wc.heap.size := by
    intro g hg
    obtain ⟨ao', cap', hv, _, _, _, _, hb2, ha2⟩ := Rw.own_row Ne.encA_len ho
    simp only [Value.slice.injEq] at hv
    obtain ⟨rfl, _, rfl⟩ := hv
    rcases oc with _ | a
    · simp [Value.ownBlock] at hg
    · obtain ⟨b, rfl⟩ := ha2 _ rfl
      simp [Value.ownBlock] at hg
      have := (hb2 b 0 rfl).2
      omega
  have HG := Lib.hid hgc
  have HO0 := Lib.hid (Rw.own_base (Rw.own_alloc ho (.cells #[.int .i64 nn, .int .i64 ns, .int .i64 nt, .slice oc l.length cc] 24)) (B' := WB.heap.size) (by have h1 := HB12.out.size; have h2 := HBC.out.size; omega))
  have HN0 := Lib.hid (Ne.netBox_new wc nn ns nt (.slice oc l.length cc))
  have HBl := Lib.hid (HBc.out.alloc HZc (.cells #[.int .i64 nn, .int .i64 ns, .int .i64 nt, .slice oc l.length cc] 24))
  have RA3 := Lib.hid ((RA.out.kept (HB12.out.trans (hb.mono HB12.out.size))).kept ((Below.refl _ _).alloc (Nat.le_refl _) (.cells #[.int .i64 nn, .int .i64 ns, .int .i64 nt, .slice oc l.length cc] 24)))
  have NX3 := Lib.hid (Ne.netBox_below (Ne.netBox_below (show Ne.NetBox WC _ _ _ _ _ from NA2.out) (HB12.out.trans (hb.mono HB12.out.size)) (by omega)) ((Below.refl wc.heap.size wc).alloc (Nat.le_refl _) (.cells #[.int .i64 nn, .int .i64 ns, .int .i64 nt, .slice oc l.length cc] 24)) (by have := (HB12.out.trans (hb.mono HB12.out.size)).size; omega))
  clear hgc ho hb n0 n1 n2 n3
  go_wp2
  go_loopw [8] (fun i wr => ∃ k : Nat, i = .int .i64 k ∧ k ≤ l.length ∧ Hid (Ne.NetBox wr wc.heap.size nn ns nt (.slice oc l.length cc)) ∧ Hid (Ne.NetBox wr w.heap.size nn ns nt (.slice o0 l.length c0)) ∧ Hid (Ne.OwnA wr WB.heap.size (.slice oc l.length cc) ((l.take k).map xrA ++ l.drop k)) ∧ Hid (Below WB.heap.size WB wr)) (fun i _ => l.length - (intOf i).toNat)
  case atStart => exact ⟨0, rfl, Nat.zero_le _, HN0, NX3, HO0, HBl⟩
  case round =>
    obtain ⟨k, rfl, hk, HX, HA, HO, HBr⟩ := hrel
    obtain ⟨t0, t1, t2, t3⟩ := Ne.netBox_cells HX.out
    by_cases hlt : k < l.length
    · obtain ⟨a, ha⟩ : ∃ a, l[k]? = some a := ⟨_, List.getElem?_eq_getElem hlt⟩
      obtain ⟨g, rfl, hgB, hgs, hcell, hfz⟩ := Ne.own_cells Ne.encA_len HO.out (xr_at ha)
      have c2 := hcell 2 _ rfl
      have z2 := hfz (k * 3 + 2)
      have hgt : g ≠ wc.heap.size := by have := HG.out g rfl; omega
      have HO2 := Lib.hid (Ne.own_put Ne.encA_len HO.out (xr_at ha) (y := xrA a) (j := 2) (by omega) (u := .int .i64 (xr a.cap)) rfl)
      rw [xr_step ha] at HO2
      have HX2 := Lib.hid (Ne.netBox_other HX.out (b2 := g) (o := k * 3 + 2) (v2 := .int .i64 (xr a.cap)) (by omega))
      have HA2 := Lib.hid (Ne.netBox_other HA.out (b2 := g) (o := k * 3 + 2) (v2 := .int .i64 (xr a.cap)) (by omega))
      have HB2r := Lib.hid (Ne.below_drew (HBr.out.setCell (p := ⟨g, k * 3 + 2, none⟩) hgB (.int .i64 (xr a.cap))))
      clear hcell hfz ha
      have hki : (k : Int) < (l.length : Int) := by omega
      go_wp2
      go_region
      go_wp2
      go_roundw
      case rel => exact ⟨k + 1, by go_num, by omega, Lib.hid HX2.out, Lib.hid HA2.out, Lib.hid HO2.out, HB2r⟩
      case measure => simp [intOf]; omega
    · have ek : k = l.length := by omega
      have HOF := Lib.hid (show Ne.OwnA wr WB.heap.size (.slice oc l.length cc) (l.map xrA) by
        have h := HO.out
        rw [ek, List.take_length, List.drop_length, List.append_nil] at h
        exact h)
      have HRX := Lib.hid (Ne.arow_of HOF.out).2.2
      obtain ⟨n0, n1, n2, n3⟩ := Ne.netBox_cells HA.out
      have hnk : ¬ (k : Int) < (l.length : Int) := by omega
      go_wp2
      have hS0 := (show (fun w' => w'.cell? ⟨wc.heap.size, 0, none⟩ = some (.int .i64 nn) ∧ w'.cell? ⟨wc.heap.size, 1, none⟩ = some (.int .i64 ns) ∧ w'.cell? ⟨wc.heap.size, 2, none⟩ = some (.int .i64 nt) ∧ w'.cell? ⟨wc.heap.size, 3, none⟩ = some (.slice oc l.length cc) ∧ w'.cell? ⟨w.heap.size, 0, none⟩ = some (.int .i64 nn) ∧ w'.cell? ⟨w.heap.size, 1, none⟩ = some (.int .i64 ns) ∧ w'.cell? ⟨w.heap.size, 2, none⟩ = some (.int .i64 nt) ∧ w'.cell? ⟨w.heap.size, 3, none⟩ = some (.slice o0 l.length c0)) wr.drew from ⟨t0, t1, t2, t3, n0, n1, n2, n3⟩)
      have RAr := Lib.hid (RAW.out.kept HBr.out)
      refine Rh.start (S := (fun w' => w'.cell? ⟨wc.heap.size, 0, none⟩ = some (.int .i64 nn) ∧ w'.cell? ⟨wc.heap.size, 1, none⟩ = some (.int .i64 ns) ∧ w'.cell? ⟨wc.heap.size, 2, none⟩ = some (.int .i64 nt) ∧ w'.cell? ⟨wc.heap.size, 3, none⟩ = some (.slice oc l.length cc) ∧ w'.cell? ⟨w.heap.size, 0, none⟩ = some (.int .i64 nn) ∧ w'.cell? ⟨w.heap.size, 1, none⟩ = some (.int .i64 ns) ∧ w'.cell? ⟨w.heap.size, 2, none⟩ = some (.int .i64 nt) ∧ w'.cell? ⟨w.heap.size, 3, none⟩ = some (.slice o0 l.length c0))) (by kernel_rfl) ?_
      refine Rh.take (some 74) (i := 0) (v := ?_) rfl (by kernel_rfl) (by kernel_rfl) (by kernel_rfl) (by kernel_rfl) (fun _ _ _ h => h) (Or.inl ⟨by rfl, ?_⟩) hS0 ?_
      rotate_left
      · intro w hSw
        go_simp
        try with_reducible rfl
      try simp only [Act.put, List.setIfInBounds_toArray, List.set_cons_zero, List.set_cons_succ]
      refine Rh.take (some 75) (i := 1) (v := ?_) rfl (by kernel_rfl) (by kernel_rfl) (by kernel_rfl) (by kernel_rfl) (fun _ _ _ h => h) (Or.inl ⟨by rfl, ?_⟩) hS0 ?_
      rotate_left
      · intro w hSw
        go_simp
        try with_reducible rfl
      try simp only [Act.put, List.setIfInBounds_toArray, List.set_cons_zero, List.set_cons_succ]
      refine Rh.take (some 77) (i := 3) (v := ?_) rfl (by kernel_rfl) (by kernel_rfl) (by kernel_rfl) (by kernel_rfl) (fun _ _ _ h => h) (Or.inl ⟨by rfl, ?_⟩) hS0 ?_
      rotate_left
      · intro w hSw
        go_simp
        try with_reducible rfl
      try simp only [Act.put, List.setIfInBounds_toArray, List.set_cons_zero, List.set_cons_succ]
      refine Rh.take (some 78) (i := 4) (v := ?_) rfl (by kernel_rfl) (by kernel_rfl) (by kernel_rfl) (by kernel_rfl) (fun _ _ _ h => h) (Or.inl ⟨by rfl, ?_⟩) hS0 ?_
      rotate_left
      · intro w hSw
        go_simp
        try with_reducible rfl
      try simp only [Act.put, List.setIfInBounds_toArray, List.set_cons_zero, List.set_cons_succ]
      refine Rh.take (some 79) (i := 5) (v := ?_) rfl (by kernel_rfl) (by kernel_rfl) (by kernel_rfl) (by kernel_rfl) (fun _ _ _ h => h) (Or.inl ⟨by rfl, ?_⟩) hS0 ?_
      rotate_left
      · intro w hSw
        go_simp
        try with_reducible rfl
      try simp only [Act.put, List.setIfInBounds_toArray, List.set_cons_zero, List.set_cons_succ]
      refine Rh.take (some 80) (i := 6) (v := ?_) rfl (by kernel_rfl) (by kernel_rfl) (by kernel_rfl) (by kernel_rfl) (fun _ _ _ h => h) (Or.inl ⟨by rfl, ?_⟩) hS0 ?_
      rotate_left
      · intro w hSw
        go_simp
        try with_reducible rfl
      try simp only [Act.put, List.setIfInBounds_toArray, List.set_cons_zero, List.set_cons_succ]
      refine Rh.step (i := 2) (by kernel_rfl) rfl fun K' hK' => ?_
      have HK := Lib.hid hK'
      clear hK'
      go_simp
      refine (SX.out _ _ _ _ _ (HRX.out.kept (Ne.below_drew (Below.refl _ _))) (RAr.out.kept (Ne.below_drew (Below.refl _ _)))).mono ?_
      rintro e w8 ⟨rfl, hb⟩
      have H8 := Lib.hid hb
      have hS8 := (show (fun w' => w'.cell? ⟨wc.heap.size, 0, none⟩ = some (.int .i64 nn) ∧ w'.cell? ⟨wc.heap.size, 1, none⟩ = some (.int .i64 ns) ∧ w'.cell? ⟨wc.heap.size, 2, none⟩ = some (.int .i64 nt) ∧ w'.cell? ⟨wc.heap.size, 3, none⟩ = some (.slice oc l.length cc) ∧ w'.cell? ⟨w.heap.size, 0, none⟩ = some (.int .i64 nn) ∧ w'.cell? ⟨w.heap.size, 1, none⟩ = some (.int .i64 ns) ∧ w'.cell? ⟨w.heap.size, 2, none⟩ = some (.int .i64 nt) ∧ w'.cell? ⟨w.heap.size, 3, none⟩ = some (.slice o0 l.length c0)) w8 from by
        obtain ⟨x0, x1, x2, x3⟩ := Ne.netBox_cells (Ne.netBox_below (Ne.netBox_drewN HX.out 1) hb (Ne.netBox_lt (Ne.netBox_drewN HX.out 1)))
        obtain ⟨y0, y1, y2, y3⟩ := Ne.netBox_cells (Ne.netBox_below (Ne.netBox_drewN HA.out 1) hb (Ne.netBox_lt (Ne.netBox_drewN HA.out 1)))
        exact ⟨x0, x1, x2, x3, y0, y1, y2, y3⟩)
      clear hb
      refine HK.out _ _ ⟨hS8, ?_⟩
      clear HK K'
      try simp only [Act.put, List.setIfInBounds_toArray, List.set_cons_zero, List.set_cons_succ]
      refine Rh.take (some 81) (i := 7) (v := ?_) rfl (by kernel_rfl) (by kernel_rfl) (by kernel_rfl) (by kernel_rfl) (fun _ _ _ h => h) (Or.inl ⟨by rfl, ?_⟩) hS8 ?_
      rotate_left
      · intro w hSw
        go_simp
        try with_reducible rfl
      try simp only [Act.put, List.setIfInBounds_toArray, List.set_cons_zero, List.set_cons_succ]
      refine Rh.take (some 4) (i := 8) (v := ?_) rfl (by kernel_rfl) (by kernel_rfl) (by kernel_rfl) (by kernel_rfl) (fun _ _ _ h => h) (Or.inl ⟨by rfl, ?_⟩) hS8 ?_
      rotate_left
      · intro w hSw
        go_simp
        try with_reducible rfl
      try simp only [Act.put, List.setIfInBounds_toArray, List.set_cons_zero, List.set_cons_succ]
      refine Rh.done (by kernel_rfl) ?_ _
      go_wp2
      go_ret
      exact ⟨Ne.retB (len_nil l zb HZB.out), HB0.out.trans ((HBr.out.trans ((show Below wr.heap.size wr w8 from (Ne.below_drew (Below.refl _ _)).trans H8.out).mono HBr.out.size)).mono (by omega))⟩

end Go.Proofs.Ytpoflbnmfoamhaa.netTurns
