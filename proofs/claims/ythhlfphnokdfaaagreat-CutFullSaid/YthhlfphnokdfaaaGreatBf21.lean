/-
  Svs
-/
import Derived.Test.YthhlfphnokdfaaaGreatBf20
import Derived.Test.YthhlfphnokdfaaaGreatBf1
import Derived.Deep.DeepCutAuto
set_option linter.unusedVariables false
set_option linter.unusedSimpArgs false
set_option maxRecDepth 100000
set_option maxHeartbeats 4000000
namespace Go.Proofs.YthhlfphnokdfaaaGreat
open Go.ChangeShapes Go.WideShapes Go.ChangeAt Go.RowKit
open Lib (hid)
namespace Sv
theorem store_int {o:Oper} {a:Act} {w:World} {K:Act→World→Prop} {Q:Exit→Act→World→Prop} {x y:Operand} (ho:o.op=.store 3 x y) (hd:o.dst=none) {g f:Nat} {k:IntKind} {n:Int}
  (hx:a.eval x=.pointer (some ⟨g,f,none⟩)) (hy:a.eval y=.int k n) {u:Value} (hc:w.cell? ⟨g,f,none⟩=some u) (hf:w.frozen? ⟨g,f,none⟩=false) (h:K a (w.setCell ⟨g,f,none⟩ (.int k n))):o.wp Tryz.prog a w K Q:=by
 obtain ⟨dst,op,ty,pos,after,guard⟩:=o
 simp only at ho hd
 subst ho hd
 unfold Oper.wp execOp
 simp only
 rw [hx,hy]
 go_simp
 exact h
def setK (M:Nat→Nd) (x:Nat):Nat→(Nat→Nd)
 | 0=>upd M x (swapN (M x))
 | 1=>hand (upd M x (swapN (M x))) ((swapN (M x)).b false) (M x).t (M x).a
 | _=>hand (hand (upd M x (swapN (M x))) ((swapN (M x)).b false) (M x).t (M x).a) ((swapN (M x)).b true) (M x).t (M x).a
section
variable {w w0:World} {B p g n c:Nat} {M:Nat→Nd}
theorem setK_x {x:Nat} (h0:∀ s,(M x).b s≠some x) (i:Nat):setK M x i x=swapN (M x):=by
 have h1:∀ s,(swapN (M x)).b s≠some x:=fun s=>h0 _
 match i with
 | 0=>exact upd_self _ _ _
 | 1=>simp only [setK];rw [hand_ne (h1 _),upd_self]
 | _+2=>simp only [setK];rw [hand_ne (h1 _),hand_ne (h1 _),upd_self]
theorem setK_next (x:Nat):setK M x 1=hand (setK M x 0) ((swapN (M x)).b false) (M x).t (M x).a∧setK M x 2=hand (setK M x 1) ((swapN (M x)).b true) (M x).t (M x).a:=⟨rfl,rfl⟩
theorem setK_end (x:Nat):upd (setK M x 2) x (doneN (setK M x 2 x))=setM M x:=by
 unfold setM
 simp only [upd_self]
 rfl
theorem hand_two (M:Nat→Nd) (y:Nat) (a:Int):upd (upd M y (handN (M y) false a)) y { (upd M y (handN (M y) false a)) y with t:=!((upd M y (handN (M y) false a)) y).t } = hand M (some y) true a:=by
 rw [upd_upd,upd_self]
 simp only [hand,handN]
 cases (M y).t <;> rfl
theorem SpA.ends {w1:World} {x:Nat} (h:SpA w0 w1 B p g n (setK M x 2) c) (hx:x<n):SpA w0 ((w1.setCell ⟨g,x*9+7,none⟩ (.bool false)).setCell ⟨g,x*9+8,none⟩ (.int .i64 0)) B p g n (setM M x) c:=by
 have e1:=h.put hx (j:=7) (k:={ setK M x 2 x with t:=false }) (by omega) (u:=.bool false) rfl
 have e2:=e1.putU hx (j:=8) (k':={ setK M x 2 x with t:=false,a:=0 }) (by omega) (u:=.int .i64 0) rfl
 rw [← setK_end]
 exact e2
theorem settle_false (h:SpM w B p g n M c) {x:Nat} (hx:x<n) (ht:(M x).t=false) (hc:∀ s y,(M x).b s=some y→y<n∧y≠x) :
  Calls Tryz.prog 141 #[.pointer (some ⟨p,0,none⟩),.int .i64 (x:Int)] w fun e w'=>e=.returned (.tuple #[])∧SpA w w' B p g n (setM M x) (c+1):=by
 have n0:=h.head
 have n1:=h.cnt
 have fp:=vblk_frozen h.blk 1
 have hxi:(x:Int)<(n:Int):=by omega
 have hx0:(0:Int)≤(x:Int):=by omega
 have h0:∀ s,(M x).b s≠some x:=fun s e=>(hc s x e).2 rfl
 have HX:=hid (setK_x h0)
 have HN:=hid (setK_next (M:=M) x)
 have HE:=hid (fun (w1:World) (hw:SpA w w1 B p g n (setK M x 2) (c+1))=>hw.ends hx)
 have HC:=hid (show ∀ s y,(swapN (M x)).b s=some y→y<n∧y≠x from fun s y e=>hc _ y e)
 have c7:=h.cells hx 7 _ rfl
 have c5:=h.cells hx 5 _ rfl
 have c6:=h.cells hx 6 _ rfl
 have f5:=h.froz (x*9+5)
 have f6:=h.froz (x*9+6)
 have HS:=hid (show SpA w _ B p g n (setK M x 0) (c+1) by
  have e1:=h.at.stepped
  have e2:setK M x 0=M:=by
   have:swapN (M x)=M x:=by
    unfold swapN
    generalize M x=q at *
    cases q
    simp only at ht
    subst ht
    simp
   show upd M x (swapN (M x))=M
   rw [this,upd_id]
  rw [e2];exact e1)
 obtain ⟨z0,hz0⟩:∃ z,z=oi ((swapN (M x)).b false):=⟨_,rfl⟩
 obtain ⟨z1,hz1⟩:∃ z,z=oi ((swapN (M x)).b true):=⟨_,rfl⟩
 have hsb:∀ s,(swapN (M x)).b s=(M x).b s:=fun s=>by simp only [swapN];rw [ht];cases s <;> rfl
 rw [ht] at c7
 rw [← hsb,← hz0] at c5
 rw [← hsb,← hz1] at c6
 have HZ0:=hid hz0
 have HZ1:=hid hz1
 have HT:=hid ht
 have HXT:=hid (show (swapN (M x)).t=false from ht)
 have HXA:=hid (show (swapN (M x)).a=(M x).a from rfl)
 rw [ht] at HN
 clear h hc h0 hsb hz0 hz1 ht
 generalize swapN (M x)=k at *
 generalize (M x).a=a at *
 go_enter Tryz.func141,Tryz.ntmps141
 go_wp2
 clear c5 c6 c7 f5 f6 n0 n1 fp
 go_loopg [46] 2 (fun gg si wr=>∃ i:Nat,si=.int .i64 i∧i+gg=2∧Hid (SpA w wr B p g n (setK M x i) (c+1)))
 case atStart=>exact ⟨0,rfl,by omega,HS⟩
 case round =>
  obtain ⟨i,rfl,hig,HK⟩:=hrel
  obtain rfl | rfl | rfl:i=0∨i=1∨i=2:=by omega
  ·as_aux_lemma =>
   have hix:=idx0 (.int .i64 z0) (.int .i64 z1) wr
   cases hb:k.b false with
   | none =>
    have HK2:=hid (show SpA w wr B p g n (setK M x 1) (c+1) by rw [HN.out.1,hb];exact HK.out)
    obtain rfl:z0 = -1:=by rw [HZ0.out,hb];rfl
    clear hb
    go_wp2
    go_roundg 1
    case measure=>omega
    case rel=>exact ⟨1,by rfl,by omega,HK2⟩
   | some y =>
    obtain ⟨hyn,hyx⟩:=HC.out _ y hb
    obtain rfl:z0=(y:Int):=by rw [HZ0.out,hb];rfl
    have HJ:=hid (show setK M x 1=hand (setK M x 0) (some y) false a by rw [HN.out.1,hb])
    have hym:¬ (y:Int) = -1:=by omega
    have n0:=HK.out.head
    have c8:=HK.out.cells hx 8 _ rfl
    rw [HX.out 0,HXA.out] at c8
    clear hb
    go_wp2_with fail
    refine (add_any HK.out.toSpM hyn a).mono ?_
    rintro e w1 ⟨rfl,hA⟩
    have HA:=hid (HK.out.then hA)
    have n2:=HA.out.head
    have c7:=HA.out.cells hx 7 _ rfl
    rw [upd_ne _ _ (Ne.symm hyx),HX.out 0,HXT.out] at c7
    clear hA
    have HK2:=hid (show SpA w w1 B p g n (setK M x 1) (c+1) by rw [HJ.out];exact HA.out)
    go_wp2
    go_roundg 1
    case measure=>omega
    case rel=>exact ⟨1,by rfl,by omega,HK2⟩
  ·as_aux_lemma =>
   have hix:=idx1 (.int .i64 z0) (.int .i64 z1) wr
   cases hb:k.b true with
   | none =>
    have HK2:=hid (show SpA w wr B p g n (setK M x 2) (c+1) by rw [HN.out.2,hb];exact HK.out)
    obtain rfl:z1 = -1:=by rw [HZ1.out,hb];rfl
    clear hb
    go_wp2
    go_roundg 0
    case measure=>omega
    case rel=>exact ⟨2,by rfl,by omega,HK2⟩
   | some y =>
    obtain ⟨hyn,hyx⟩:=HC.out _ y hb
    obtain rfl:z1=(y:Int):=by rw [HZ1.out,hb];rfl
    have HJ:=hid (show setK M x 2=hand (setK M x 1) (some y) false a by rw [HN.out.2,hb])
    have hym:¬ (y:Int) = -1:=by omega
    have n0:=HK.out.head
    have c8:=HK.out.cells hx 8 _ rfl
    rw [HX.out 1,HXA.out] at c8
    clear hb
    go_wp2_with fail
    refine (add_any HK.out.toSpM hyn a).mono ?_
    rintro e w1 ⟨rfl,hA⟩
    have HA:=hid (HK.out.then hA)
    have n2:=HA.out.head
    have c7:=HA.out.cells hx 7 _ rfl
    rw [upd_ne _ _ (Ne.symm hyx),HX.out 1,HXT.out] at c7
    clear hA
    have HK2:=hid (show SpA w w1 B p g n (setK M x 2) (c+1) by rw [HJ.out];exact HA.out)
    go_wp2
    go_roundg 0
    case measure=>omega
    case rel=>exact ⟨2,by rfl,by omega,HK2⟩
  ·as_aux_lemma =>
   have HF:=hid (HE.out wr HK.out)
   have c7:=HK.out.cells hx 7 _ rfl
   have c8:=HK.out.cells hx 8 _ rfl
   have f7:=HK.out.froz (x*9+7)
   have f8:=HK.out.froz (x*9+8)
   rw [HX.out 2,HXT.out] at c7
   rw [HX.out 2,HXA.out] at c8
   go_wp2
   go_end0
   exact ⟨rfl,HF.out⟩
theorem settle_true (h:SpM w B p g n M c) {x:Nat} (hx:x<n) (ht:(M x).t=true) (hc:∀ s y,(M x).b s=some y→y<n∧y≠x) :
  Calls Tryz.prog 141 #[.pointer (some ⟨p,0,none⟩),.int .i64 (x:Int)] w fun e w'=>e=.returned (.tuple #[])∧SpA w w' B p g n (setM M x) (c+1):=by
 have n0:=h.head
 have n1:=h.cnt
 have fp:=vblk_frozen h.blk 1
 have hxi:(x:Int)<(n:Int):=by omega
 have hx0:(0:Int)≤(x:Int):=by omega
 have h0:∀ s,(M x).b s≠some x:=fun s e=>(hc s x e).2 rfl
 have HX:=hid (setK_x h0)
 have HN:=hid (setK_next (M:=M) x)
 have HE:=hid (fun (w1:World) (hw:SpA w w1 B p g n (setK M x 2) (c+1))=>hw.ends hx)
 have HC:=hid (show ∀ s y,(swapN (M x)).b s=some y→y<n∧y≠x from fun s y e=>hc _ y e)
 have c7:=h.cells hx 7 _ rfl
 have c5:=h.cells hx 5 _ rfl
 have c6:=h.cells hx 6 _ rfl
 have f5:=h.froz (x*9+5)
 have f6:=h.froz (x*9+6)
 have HW:=hid h.at.stepped
 have HS:=hid (show SpA w _ B p g n (setK M x 0) (c+1) by
  have e1:=h.at.stepped.drew
  have e2:=e1.put hx (j:=5) (k:={ M x with b:=setb (M x).b false ((M x).b true) }) (by omega) (u:=.int .i64 (oi ((M x).b true))) (by simp [encN,setb])
  have e3:=e2.putU hx (j:=6) (k':=swapN (M x)) (by omega) (u:=.int .i64 (oi ((M x).b false))) (by simp [encN,setb,swapN,ht])
  exact e3)
 have HQ6:=hid (show ((w.setCell ⟨p,1,none⟩ (.int .i64 (wr (wr c+1)))).drew.setCell ⟨g,x*9+5,none⟩ (.int .i64 (oi ((M x).b true)))).cell? ⟨g,x*9+6,none⟩=some (.int .i64 (oi ((M x).b true)))∧((w.setCell ⟨p,1,none⟩ (.int .i64 (wr (wr c+1)))).drew.setCell ⟨g,x*9+5,none⟩ (.int .i64 (oi ((M x).b true)))).frozen? ⟨g,x*9+6,none⟩=false from by
  have e1:=h.at.stepped.drew
  have e2:=e1.put hx (j:=5) (k:={ M x with b:=setb (M x).b false ((M x).b true) }) (by omega) (u:=.int .i64 (oi ((M x).b true))) (by simp [encN,setb])
  refine ⟨?_,e2.froz _⟩
  have:=e2.cellsU hx 6 _ rfl
  have e4:setb (M x).b false ((M x).b true) true=(M x).b true:=by simp [setb]
  exact this.trans (congrArg (fun q=>some (Value.int .i64 (oi q))) e4))
 obtain ⟨z0,hz0⟩:∃ z,z=oi ((swapN (M x)).b false):=⟨_,rfl⟩
 obtain ⟨z1,hz1⟩:∃ z,z=oi ((swapN (M x)).b true):=⟨_,rfl⟩
 have hsb:∀ s,(swapN (M x)).b s=(M x).b (!s):=fun s=>by simp only [swapN];rw [ht];cases s <;> rfl
 rw [ht] at c7
 rw [show (M x).b false=(swapN (M x)).b true from (hsb true).symm,← hz1] at c5
 rw [show (M x).b true=(swapN (M x)).b false from (hsb false).symm,← hz0] at c6
 have HD:=hid (show (w.setCell ⟨p,1,none⟩ (.int .i64 (wr (wr c+1)))).cell? ⟨g,x*9+5,none⟩=some (.int .i64 z1)∧(w.setCell ⟨p,1,none⟩ (.int .i64 (wr (wr c+1)))).cell? ⟨g,x*9+6,none⟩=some (.int .i64 z0) from by
  have d5:=HW.out.cells hx 5 _ rfl
  have d6:=HW.out.cells hx 6 _ rfl
  rw [show (M x).b false=(swapN (M x)).b true from (hsb true).symm,← hz1] at d5
  rw [show (M x).b true=(swapN (M x)).b false from (hsb false).symm,← hz0] at d6
  exact ⟨d5,d6⟩)
 rw [show (M x).b false=(swapN (M x)).b true from (hsb true).symm,show (M x).b true=(swapN (M x)).b false from (hsb false).symm,← hz0,← hz1] at HS
 rw [show (M x).b true=(swapN (M x)).b false from (hsb false).symm,← hz0] at HQ6
 have HZ0:=hid hz0
 have HZ1:=hid hz1
 have HT:=hid ht
 have HXT:=hid (show (swapN (M x)).t=true from ht)
 have HXA:=hid (show (swapN (M x)).a=(M x).a from rfl)
 rw [ht] at HN
 clear h hc h0 hsb hz0 hz1 ht
 generalize swapN (M x)=k at *
 generalize (M x).a=a at *
 go_enter Tryz.func141,Tryz.ntmps141
 go_upto_region 3 with fail
 generalize w.setCell ⟨p,1,none⟩ (.int .i64 (wr (wr c+1)))=w1 at *
 go_cut [41] (fun sl wc=>(∃ z,sl=z)∧Hid (SpA w wc B p g n (setK M x 0) (c+1)))
 case first =>
  obtain ⟨d5,d6⟩:=HD.out
  have f5:=HW.out.froz (x*9+5)
  have f6:=HW.out.froz (x*9+6)
  clear c5 c6 c7
  refine Rh.start (S:=(fun w':World=>True)) (by kernel_rfl) ?_
  refine Rh.tp 24 0 trivial ?_
  refine Rh.tp 25 1 trivial ?_
  refine Rh.tp 26 2 trivial ?_
  refine Rh.tp 27 3 trivial ?_
  refine Rh.tp 28 4 trivial ?_
  refine Rh.tp 29 5 trivial ?_
  refine Rh.tp 31 7 trivial ?_
  refine Rh.tp 32 8 trivial ?_
  refine Rh.tp 33 9 trivial ?_
  refine Rh.tp 34 10 trivial ?_
  refine Rh.tp 36 12 trivial ?_
  refine Rh.tp 37 13 trivial ?_
  refine Rh.tp 39 16 trivial ?_
  refine Rh.tp 40 17 trivial ?_
  refine Rh.two (i:=6) (j:=11) (by kernel_rfl) rfl rfl (fun K' hK'=>?_) (fun K' hK'=>?_)
  ·have HK:=hid hK'
   clear hK'
   go_simp
   refine HK.out _ _ ⟨trivial,?_⟩
   clear HK K'
   try simp only [Act.put,Rh.q1,Rh.q2,Rh.q3]
   refine Rh.step (i:=11) (by kernel_rfl) rfl fun K' hK'=>?_
   have HK:=hid hK'
   clear hK'
   go_simp
   refine HK.out _ _ ⟨trivial,?_⟩
   clear HK K'
   try simp only [Act.put,Rh.q1,Rh.q2,Rh.q3]
   refine Rh.tp 38 14 trivial ?_
   refine Rh.step (i:=15) (by kernel_rfl) rfl fun K' hK'=>?_
   rw [if_pos (by kernel_rfl)]
   refine store_int (by rfl) (by rfl) (g:=g) (f:=x*9+5) (k:=.i64) (n:=z0) (by rfl) (by rfl) d5 f5 ?_
   refine hK' _ _ ⟨trivial,?_⟩
   clear hK' K'
   try simp only [Act.put,Rh.q1,Rh.q2,Rh.q3]
   refine Rh.tp 41 18 trivial ?_
   refine Rh.step (i:=19) (by kernel_rfl) rfl fun K' hK'=>?_
   rw [if_pos (by kernel_rfl)]
   refine store_int (by rfl) (by rfl) (g:=g) (f:=x*9+6) (k:=.i64) (n:=z1) (by rfl) (by rfl) HQ6.out.1 HQ6.out.2 ?_
   refine hK' _ _ ⟨trivial,?_⟩
   clear hK' K'
   try simp only [Act.put,Rh.q1,Rh.q2,Rh.q3]
   refine Rh.done (by kernel_rfl) ?_ _
   go_wp2
   go_meet
   case rel=>exact ⟨⟨_,rfl⟩,HS⟩
  ·have HK:=hid hK'
   clear hK'
   go_simp
   refine HK.out _ _ ⟨trivial,?_⟩
   clear HK K'
   try simp only [Act.put,Rh.q1,Rh.q2,Rh.q3]
   refine Rh.step (i:=6) (by kernel_rfl) rfl fun K' hK'=>?_
   have HK:=hid hK'
   clear hK'
   go_simp
   refine HK.out _ _ ⟨trivial,?_⟩
   clear HK K'
   try simp only [Act.put,Rh.q1,Rh.q2,Rh.q3]
   refine Rh.tp 38 14 trivial ?_
   refine Rh.step (i:=15) (by kernel_rfl) rfl fun K' hK'=>?_
   rw [if_pos (by kernel_rfl)]
   refine store_int (by rfl) (by rfl) (g:=g) (f:=x*9+5) (k:=.i64) (n:=z0) (by rfl) (by rfl) d5 f5 ?_
   refine hK' _ _ ⟨trivial,?_⟩
   clear hK' K'
   try simp only [Act.put,Rh.q1,Rh.q2,Rh.q3]
   refine Rh.tp 41 18 trivial ?_
   refine Rh.step (i:=19) (by kernel_rfl) rfl fun K' hK'=>?_
   rw [if_pos (by kernel_rfl)]
   refine store_int (by rfl) (by rfl) (g:=g) (f:=x*9+6) (k:=.i64) (n:=z1) (by rfl) (by rfl) HQ6.out.1 HQ6.out.2 ?_
   refine hK' _ _ ⟨trivial,?_⟩
   clear hK' K'
   try simp only [Act.put,Rh.q1,Rh.q2,Rh.q3]
   refine Rh.done (by kernel_rfl) ?_ _
   go_wp2
   go_meet
   case rel=>exact ⟨⟨_,rfl⟩,HS⟩
 case rest =>
 clear HS
 obtain ⟨_,HS⟩:=hcut
 clear c5 c6 c7 f5 f6 n0 n1 fp HW HD HQ6
 have c5:=HS.out.cells hx 5 _ rfl
 have c6:=HS.out.cells hx 6 _ rfl
 rw [HX.out 0,← HZ0.out] at c5
 rw [HX.out 0,← HZ1.out] at c6
 have n0:=True.intro
 have n1:=True.intro
 have fp:=True.intro
 have c7:=True.intro
 have f5:=True.intro
 have f6:=True.intro
 go_wp2
 clear c5 c6 c7 f5 f6 n0 n1 fp
 go_loopg [46] 2 (fun gg si wr=>∃ i:Nat,si=.int .i64 i∧i+gg=2∧Hid (SpA w wr B p g n (setK M x i) (c+1)))
 case atStart=>exact ⟨0,rfl,by omega,HS⟩
 case round =>
  obtain ⟨i,rfl,hig,HK⟩:=hrel
  obtain rfl | rfl | rfl:i=0∨i=1∨i=2:=by omega
  ·as_aux_lemma =>
   have hix:=idx0 (.int .i64 z0) (.int .i64 z1) wr
   cases hb:k.b false with
   | none =>
    have HK2:=hid (show SpA w wr B p g n (setK M x 1) (c+1) by rw [HN.out.1,hb];exact HK.out)
    obtain rfl:z0 = -1:=by rw [HZ0.out,hb];rfl
    clear hb
    go_wp2
    go_roundg 1
    case measure=>omega
    case rel=>exact ⟨1,by rfl,by omega,HK2⟩
   | some y =>
    obtain ⟨hyn,hyx⟩:=HC.out _ y hb
    obtain rfl:z0=(y:Int):=by rw [HZ0.out,hb];rfl
    have HJ:=hid (show setK M x 1=hand (setK M x 0) (some y) true a by rw [HN.out.1,hb])
    have hym:¬ (y:Int) = -1:=by omega
    have n0:=HK.out.head
    have c8:=HK.out.cells hx 8 _ rfl
    rw [HX.out 0,HXA.out] at c8
    clear hb
    go_wp2_with fail
    refine (add_any HK.out.toSpM hyn a).mono ?_
    rintro e w1 ⟨rfl,hA⟩
    have HA:=hid (HK.out.then hA)
    have n2:=HA.out.head
    have c7:=HA.out.cells hx 7 _ rfl
    rw [upd_ne _ _ (Ne.symm hyx),HX.out 0,HXT.out] at c7
    clear hA
    go_wp2_with fail
    refine (turn_any HA.out.toSpM hyn).mono ?_
    rintro e w2 ⟨rfl,hB⟩
    have HK2:=hid (show SpA w w2 B p g n (setK M x 1) (c+1) by rw [HJ.out,← hand_two];exact HA.out.then hB)
    clear hB
    go_wp2
    go_roundg 1
    case measure=>omega
    case rel=>exact ⟨1,by rfl,by omega,HK2⟩
  ·as_aux_lemma =>
   have hix:=idx1 (.int .i64 z0) (.int .i64 z1) wr
   cases hb:k.b true with
   | none =>
    have HK2:=hid (show SpA w wr B p g n (setK M x 2) (c+1) by rw [HN.out.2,hb];exact HK.out)
    obtain rfl:z1 = -1:=by rw [HZ1.out,hb];rfl
    clear hb
    go_wp2
    go_roundg 0
    case measure=>omega
    case rel=>exact ⟨2,by rfl,by omega,HK2⟩
   | some y =>
    obtain ⟨hyn,hyx⟩:=HC.out _ y hb
    obtain rfl:z1=(y:Int):=by rw [HZ1.out,hb];rfl
    have HJ:=hid (show setK M x 2=hand (setK M x 1) (some y) true a by rw [HN.out.2,hb])
    have hym:¬ (y:Int) = -1:=by omega
    have n0:=HK.out.head
    have c8:=HK.out.cells hx 8 _ rfl
    rw [HX.out 1,HXA.out] at c8
    clear hb
    go_wp2_with fail
    refine (add_any HK.out.toSpM hyn a).mono ?_
    rintro e w1 ⟨rfl,hA⟩
    have HA:=hid (HK.out.then hA)
    have n2:=HA.out.head
    have c7:=HA.out.cells hx 7 _ rfl
    rw [upd_ne _ _ (Ne.symm hyx),HX.out 1,HXT.out] at c7
    clear hA
    go_wp2_with fail
    refine (turn_any HA.out.toSpM hyn).mono ?_
    rintro e w2 ⟨rfl,hB⟩
    have HK2:=hid (show SpA w w2 B p g n (setK M x 2) (c+1) by rw [HJ.out,← hand_two];exact HA.out.then hB)
    clear hB
    go_wp2
    go_roundg 0
    case measure=>omega
    case rel=>exact ⟨2,by rfl,by omega,HK2⟩
  ·as_aux_lemma =>
   have HF:=hid (HE.out wr HK.out)
   have c7:=HK.out.cells hx 7 _ rfl
   have c8:=HK.out.cells hx 8 _ rfl
   have f7:=HK.out.froz (x*9+7)
   have f8:=HK.out.froz (x*9+8)
   rw [HX.out 2,HXT.out] at c7
   rw [HX.out 2,HXA.out] at c8
   go_wp2
   go_end0
   exact ⟨rfl,HF.out⟩
theorem settle_any (h:SpM w B p g n M c) {x:Nat} (hx:x<n) (hc:∀ s y,(M x).b s=some y→y<n∧y≠x) :
  Calls Tryz.prog 141 #[.pointer (some ⟨p,0,none⟩),.int .i64 (x:Int)] w fun e w'=>e=.returned (.tuple #[])∧SpA w w' B p g n (setM M x) (c+1):=by
 cases ht:(M x).t
 ·exact settle_false h hx ht hc
 ·exact settle_true h hx ht hc
end
end Sv
end Go.Proofs.YthhlfphnokdfaaaGreat
namespace Go.Proofs.YthhlfphnokdfaaaGreat
open Go.ChangeShapes Go.WideShapes Go.ChangeAt Go.RowKit
open Lib (hid)
namespace Sv
section
variable {w w0:World} {B p g n c:Nat} {V:Nat→Int} {r:Nat→List Nat} {M:Nat→Nd} {I:Nat→List Nat} {P:Nat→Bool} {D:Nat→Int}
theorem rot_wants (h:Inv n V r (fun _=>False) M I P D) (hn:n≤3000) {x p:Nat} {s sp:Bool} (hx:x<n) (hp:(M x).up=some p) (hs:(M p).b s=some x) (hsp:∀ g,(M p).up=some g→(M g).b sp=some p) (hcx:Clear M P D x) (hcp:Clear M P D p) :
  (∀ s' y,(rotL M x p s sp p).b s' = some y→y<n∧y≠p∧(rotL M x p s sp y).c≤1000000)∧(∀ s' y,(refM (rotL M x p s sp) p x).b s' = some y→y<n∧y≠x∧(refM (rotL M x p s sp) p y).c≤1000000):=by
 have R:=rot_facts (sp:=sp) h hx hp hs
 have hpn:=(h.up_len hx hp).1
 have h1:=rotL_inv h hx hp hs hsp hcx hcp
 have e:=rotL_same M x p s sp
 have hq:∀ s' y,(rotL M x p s sp p).b s' = some y→y≠x∧y≠p:=fun s' y hy=>by
  refine ⟨?_,?_⟩
  ·rintro rfl
   have:=(h1.ch p s' y hpn hy).2.1
   rw [R.rx] at this
   exact (R.rg p this).2.2.1 rfl
  ·rintro rfl
   have:=h1.below hpn hy;omega
 have h2:=refM_inv h1 (x:=p) hpn hcp.2.1 (by rw [(e p).2.1];exact hcp.2.2.2) (fun s' y hy=>by
  rintro (rfl | rfl)
  ·exact (hq s' y hy).1 rfl
  ·exact (hq s' y hy).2 rfl)
 refine ⟨fun s' y hy=>?_,fun s' y hy=>?_⟩
 ·have g1:=(h1.ch p s' y hpn hy).1
  refine ⟨g1,(hq s' y hy).2,?_⟩
  rw [(e y).2.2.2.2.2,h.cnt y g1 id]
  have:=h.len g1
  omega
 ·have g1:=(h2.ch x s' y hx hy).1
  have g2:y≠x:=by rintro rfl;have:=h2.below hx hy;omega
  refine ⟨g1,g2,?_⟩
  rw [h2.cnt y g1 (by rintro ⟨rfl | rfl,g3⟩;exact g2 rfl;exact g3 rfl)]
  have:=h2.len g1
  omega
theorem rotate_fn (h:SpM w B p g n M c) (hI:Inv n V r (fun _=>False) M I P D) {x u:Nat} (hx:x<n) (hu:(M x).up=some u) (hcx:Clear M P D x) (hcu:Clear M P D u) (hsd:sideM M x=false) (htop:(M u).up=none) :
  Calls Tryz.prog 140 #[.pointer (some ⟨p,0,none⟩),.int .i64 (x:Int)] w fun e w'=>e=.returned (.tuple #[])∧SpA w w' B p g n (rotM M x u false (sideM M u)) (c+1):=by
 have hun:=(hI.up_len hx hu).1
 have hxl:=(hI.up_len hx hu).2
 have hs:=hI.side_b hx hu
 rw [hsd] at hs
 have R:=rot_facts (sp:=sideM M u) hI hx hu hs
 have HW:=hid (rot_wants hI h.small hx hu hs (fun g hg=>hI.side_b hun hg) hcx hcu)
 have hbx:(rotT M x u (sideM M u) x).b=(M x).b:=by
  unfold rotT
  cases e:(M u).up with
  | none=>simp only;rw [upd_self]
  | some g=>simp only;rw [hangM_w (Ne.symm (R.rg g e).2.1)]
 have heq:=rot_eq R
 rw [hbx] at heq
 have HEQ:=hid (show hangM (hangM (rotT M x u (sideM M u)) u false ((M x).b true)) x true (some u)=rotL M x u false (sideM M u) from heq)
 have HBX:=hid hbx
 have HFIN:=hid (show refM (refM (rotL M x u false (sideM M u)) u) x=rotM M x u false (sideM M u) from (rotM_eq R).symm)
 have hmn:∀ y,(M x).b true=some y→y<n:=fun y hy=>(R.ri y hy).1
 have HMN:=hid hmn
 have n1:=h.cnt
 have fp:=vblk_frozen h.blk 1
 have hxi:(x:Int)<(n:Int):=by omega
 have hx0:(0:Int)≤(x:Int):=by omega
 have hui:(u:Int)<(n:Int):=by omega
 have hu0:(0:Int)≤(u:Int):=by omega
 have HS0:=hid h.at.stepped.drew
 have hSx:=fun (wv:World) (hv:SpM wv B p g n M (c+1))=>side_any hv hx hun hu
 rw [hsd,show sz false=0 from rfl] at hSx
 have HSX:=hid hSx
 have HC4:=hid (fun (wv:World) (hv:SpM wv B p g n M (c+1))=>show wv.cell? ⟨g,x*9+4,none⟩=some (.int .i64 (u:Int)) from by
  have:=hv.cells hx 4 _ rfl
  rw [hu] at this
  exact this)
 have HD4:=hid (fun (wv:World) (hv:SpM wv B p g n M (c+1))=>show wv.cell? ⟨g,u*9+4,none⟩=some (.int .i64 (oi (none))) from by
  have:=hv.cells hun 4 _ rfl
  rw [htop] at this
  exact this)
 have HT:=hid (show rotT M x u (sideM M u)=upd M x { M x with up:=none } by unfold rotT;rw [htop])
 have HUX:=hid (show ∀ z,some u=some z→z<n from fun z e=>by cases e;exact hun)
 clear h hI hu hcx hcu hsd htop hs R hmn hSx hxl heq hbx
 go_enter Tryz.func140,Tryz.ntmps140
 go_wp2
 generalize w.setCell ⟨p,1,none⟩ (.int .i64 (wr (wr c+1)))=w1 at *
 clear n1 fp
 have hS0:=(show (fun w':World=>w'.cell? ⟨p,0,none⟩=some (.slice (some ⟨g,0,none⟩) n n)∧w'.cell? ⟨g,x*9+4,none⟩=some (.int .i64 (u:Int))∧Hid (SpA w w' B p g n M (c+1))) w1.drew from ⟨HS0.out.head,HC4.out _ HS0.out.toSpM,HS0⟩)
 refine Rh.start (S:=(fun w':World=>w'.cell? ⟨p,0,none⟩=some (.slice (some ⟨g,0,none⟩) n n)∧w'.cell? ⟨g,x*9+4,none⟩=some (.int .i64 (u:Int))∧Hid (SpA w w' B p g n M (c+1)))) (by kernel_rfl) ?_
 refine Rh.tp 14 0 hS0 ?_
 refine Rh.tp 15 1 hS0 ?_
 refine Rh.tp 16 2 hS0 ?_
 refine Rh.tp 17 3 hS0 ?_
 refine Rh.tp 18 4 hS0 ?_
 refine Rh.tp 19 5 hS0 ?_
 refine Rh.tp 20 6 hS0 ?_
 refine Rh.tp 21 7 hS0 ?_
 refine Rh.tp 22 8 hS0 ?_
 refine Rh.tp 23 9 hS0 ?_
 refine Rh.step (i:=10) (by kernel_rfl) rfl fun K' hK'=>?_
 have HK:=hid hK'
 clear hK'
 go_simp
 refine (HSX.out _ HS0.out.toSpM).mono ?_
 rintro e w2 ⟨rfl,hA⟩
 have HS2:=hid (HS0.out.then hA)
 clear hA
 have hS2:=(show (fun w':World=>w'.cell? ⟨p,0,none⟩=some (.slice (some ⟨g,0,none⟩) n n)∧w'.cell? ⟨g,x*9+4,none⟩=some (.int .i64 (u:Int))∧Hid (SpA w w' B p g n M (c+1))) w2 from ⟨HS2.out.head,HC4.out _ HS2.out.toSpM,HS2⟩)
 refine HK.out _ _ ⟨hS2,?_⟩
 clear HK K'
 try simp only [Act.put,Rh.q1,Rh.q2,Rh.q3]
 refine Rh.tp 4 11 hS2 ?_
 refine Rh.tp 5 12 hS2 ?_
 refine Rh.done (by kernel_rfl) ?_ _
 clear hS0 hS2 HS0
 have n0:=HS2.out.head
 have d4:=HD4.out _ HS2.out.toSpM
 have c5:=HS2.out.cells hx 6 _ rfl
 have f4:=HS2.out.froz (x*9+4)
 have c4:=HC4.out _ HS2.out.toSpM
 have HM1:=hid (show SpA w _ B p g n (rotT M x u (sideM M u)) (c+1) by rw [HT.out];exact HS2.out.put hx (j:=4) (k:={ M x with up:=none }) (by omega) (u:=.int .i64 (-1)) rfl)
 simp only [oi] at d4
 generalize rotT M x u (sideM M u)=M1 at *
 go_wp2_with fail
 refine (hang_any HM1.out.toSpM hun false ((M x).b true) HMN.out).mono ?_
 rintro e w5 ⟨rfl,hA⟩
 have HM2:=hid (HM1.out.then hA)
 clear hA
 try clear n0 c5
 try clear c4 f4 d4
 go_wp2_with fail
 refine (hang_any HM2.out.toSpM hx true (some u) HUX.out).mono ?_
 rintro e w6 ⟨rfl,hA⟩
 have HM3:=hid (HM2.out.then hA)
 clear hA
 rw [HEQ.out] at HM3
 go_wp2_with fail
 refine (refresh_any HM3.out.toSpM hun HW.out.1).mono ?_
 rintro e w7 ⟨rfl,hA⟩
 have HM4:=hid (HM3.out.then hA)
 clear hA
 go_wp2_with fail
 refine (refresh_any HM4.out.toSpM hx HW.out.2).mono ?_
 rintro e w8 ⟨rfl,hA⟩
 have HM5:=hid (HM4.out.then hA)
 clear hA
 rw [HFIN.out] at HM5
 go_wp2
 go_end0
 exact ⟨rfl,HM5.out⟩
theorem rotate_fs (h:SpM w B p g n M c) (hI:Inv n V r (fun _=>False) M I P D) {x u gt:Nat} (hx:x<n) (hu:(M x).up=some u) (hcx:Clear M P D x) (hcu:Clear M P D u) (hsd:sideM M x=false) (htop:(M u).up=some gt) :
  Calls Tryz.prog 140 #[.pointer (some ⟨p,0,none⟩),.int .i64 (x:Int)] w fun e w'=>e=.returned (.tuple #[])∧SpA w w' B p g n (rotM M x u false (sideM M u)) (c+1):=by
 have hun:=(hI.up_len hx hu).1
 have hxl:=(hI.up_len hx hu).2
 have hs:=hI.side_b hx hu
 rw [hsd] at hs
 have R:=rot_facts (sp:=sideM M u) hI hx hu hs
 have HW:=hid (rot_wants hI h.small hx hu hs (fun g hg=>hI.side_b hun hg) hcx hcu)
 have hbx:(rotT M x u (sideM M u) x).b=(M x).b:=by
  unfold rotT
  cases e:(M u).up with
  | none=>simp only;rw [upd_self]
  | some g=>simp only;rw [hangM_w (Ne.symm (R.rg g e).2.1)]
 have heq:=rot_eq R
 rw [hbx] at heq
 have HEQ:=hid (show hangM (hangM (rotT M x u (sideM M u)) u false ((M x).b true)) x true (some u)=rotL M x u false (sideM M u) from heq)
 have HBX:=hid hbx
 have HFIN:=hid (show refM (refM (rotL M x u false (sideM M u)) u) x=rotM M x u false (sideM M u) from (rotM_eq R).symm)
 have hmn:∀ y,(M x).b true=some y→y<n:=fun y hy=>(R.ri y hy).1
 have HMN:=hid hmn
 have n1:=h.cnt
 have fp:=vblk_frozen h.blk 1
 have hxi:(x:Int)<(n:Int):=by omega
 have hx0:(0:Int)≤(x:Int):=by omega
 have hui:(u:Int)<(n:Int):=by omega
 have hu0:(0:Int)≤(u:Int):=by omega
 have HS0:=hid h.at.stepped.drew
 have hSx:=fun (wv:World) (hv:SpM wv B p g n M (c+1))=>side_any hv hx hun hu
 rw [hsd,show sz false=0 from rfl] at hSx
 have HSX:=hid hSx
 have HC4:=hid (fun (wv:World) (hv:SpM wv B p g n M (c+1))=>show wv.cell? ⟨g,x*9+4,none⟩=some (.int .i64 (u:Int)) from by
  have:=hv.cells hx 4 _ rfl
  rw [hu] at this
  exact this)
 have HD4:=hid (fun (wv:World) (hv:SpM wv B p g n M (c+1))=>show wv.cell? ⟨g,u*9+4,none⟩=some (.int .i64 (oi (some gt))) from by
  have:=hv.cells hun 4 _ rfl
  rw [htop] at this
  exact this)
 have hgn:=(hI.up_len hun htop).1
 have hgi:(gt:Int)<(n:Int):=by omega
 have hgm:¬ (gt:Int) = -1:=by omega
 have HT:=hid (show rotT M x u (sideM M u)=hangM M gt (sideM M u) (some x) by unfold rotT;rw [htop])
 have HSU:=hid (fun (wv:World) (hv:SpM wv B p g n M (c+1))=>side_any hv hun hgn htop)
 have HGX:=hid (show ∀ z,some x=some z→z<n from fun z e=>by cases e;exact hx)
 have HUX:=hid (show ∀ z,some u=some z→z<n from fun z e=>by cases e;exact hun)
 clear h hI hu hcx hcu hsd htop hs R hmn hSx hxl heq hbx
 go_enter Tryz.func140,Tryz.ntmps140
 go_wp2
 generalize w.setCell ⟨p,1,none⟩ (.int .i64 (wr (wr c+1)))=w1 at *
 clear n1 fp
 have hS0:=(show (fun w':World=>w'.cell? ⟨p,0,none⟩=some (.slice (some ⟨g,0,none⟩) n n)∧w'.cell? ⟨g,x*9+4,none⟩=some (.int .i64 (u:Int))∧Hid (SpA w w' B p g n M (c+1))) w1.drew from ⟨HS0.out.head,HC4.out _ HS0.out.toSpM,HS0⟩)
 refine Rh.start (S:=(fun w':World=>w'.cell? ⟨p,0,none⟩=some (.slice (some ⟨g,0,none⟩) n n)∧w'.cell? ⟨g,x*9+4,none⟩=some (.int .i64 (u:Int))∧Hid (SpA w w' B p g n M (c+1)))) (by kernel_rfl) ?_
 refine Rh.tp 14 0 hS0 ?_
 refine Rh.tp 15 1 hS0 ?_
 refine Rh.tp 16 2 hS0 ?_
 refine Rh.tp 17 3 hS0 ?_
 refine Rh.tp 18 4 hS0 ?_
 refine Rh.tp 19 5 hS0 ?_
 refine Rh.tp 20 6 hS0 ?_
 refine Rh.tp 21 7 hS0 ?_
 refine Rh.tp 22 8 hS0 ?_
 refine Rh.tp 23 9 hS0 ?_
 refine Rh.step (i:=10) (by kernel_rfl) rfl fun K' hK'=>?_
 have HK:=hid hK'
 clear hK'
 go_simp
 refine (HSX.out _ HS0.out.toSpM).mono ?_
 rintro e w2 ⟨rfl,hA⟩
 have HS2:=hid (HS0.out.then hA)
 clear hA
 have hS2:=(show (fun w':World=>w'.cell? ⟨p,0,none⟩=some (.slice (some ⟨g,0,none⟩) n n)∧w'.cell? ⟨g,x*9+4,none⟩=some (.int .i64 (u:Int))∧Hid (SpA w w' B p g n M (c+1))) w2 from ⟨HS2.out.head,HC4.out _ HS2.out.toSpM,HS2⟩)
 refine HK.out _ _ ⟨hS2,?_⟩
 clear HK K'
 try simp only [Act.put,Rh.q1,Rh.q2,Rh.q3]
 refine Rh.tp 4 11 hS2 ?_
 refine Rh.tp 5 12 hS2 ?_
 refine Rh.done (by kernel_rfl) ?_ _
 clear hS0 hS2 HS0
 have n0:=HS2.out.head
 have d4:=HD4.out _ HS2.out.toSpM
 have c5:=HS2.out.cells hx 6 _ rfl
 simp only [oi] at d4
 go_wp2_with fail
 refine (HSU.out _ HS2.out.toSpM).mono ?_
 rintro e w3 ⟨rfl,hA⟩
 have HS3:=hid (HS2.out.then hA)
 clear hA n0 d4 c5
 go_wp2_with fail
 refine (hang_any HS3.out.toSpM hgn (sideM M u) (some x) HGX.out).mono ?_
 rintro e w4 ⟨rfl,hA⟩
 have HM1:=hid (show SpA w w4 B p g n (rotT M x u (sideM M u)) (c+1) by rw [HT.out];exact HS3.out.then hA)
 clear hA
 generalize rotT M x u (sideM M u)=M1 at *
 have n0:=HM1.out.head
 have c5:=HM1.out.cells hx 6 _ rfl
 rw [HBX.out] at c5
 go_wp2_with fail
 refine (hang_any HM1.out.toSpM hun false ((M x).b true) HMN.out).mono ?_
 rintro e w5 ⟨rfl,hA⟩
 have HM2:=hid (HM1.out.then hA)
 clear hA
 try clear n0 c5
 try clear c4 f4 d4
 go_wp2_with fail
 refine (hang_any HM2.out.toSpM hx true (some u) HUX.out).mono ?_
 rintro e w6 ⟨rfl,hA⟩
 have HM3:=hid (HM2.out.then hA)
 clear hA
 rw [HEQ.out] at HM3
 go_wp2_with fail
 refine (refresh_any HM3.out.toSpM hun HW.out.1).mono ?_
 rintro e w7 ⟨rfl,hA⟩
 have HM4:=hid (HM3.out.then hA)
 clear hA
 go_wp2_with fail
 refine (refresh_any HM4.out.toSpM hx HW.out.2).mono ?_
 rintro e w8 ⟨rfl,hA⟩
 have HM5:=hid (HM4.out.then hA)
 clear hA
 rw [HFIN.out] at HM5
 go_wp2
 go_end0
 exact ⟨rfl,HM5.out⟩
theorem rotate_tn (h:SpM w B p g n M c) (hI:Inv n V r (fun _=>False) M I P D) {x u:Nat} (hx:x<n) (hu:(M x).up=some u) (hcx:Clear M P D x) (hcu:Clear M P D u) (hsd:sideM M x=true) (htop:(M u).up=none) :
  Calls Tryz.prog 140 #[.pointer (some ⟨p,0,none⟩),.int .i64 (x:Int)] w fun e w'=>e=.returned (.tuple #[])∧SpA w w' B p g n (rotM M x u true (sideM M u)) (c+1):=by
 have hun:=(hI.up_len hx hu).1
 have hxl:=(hI.up_len hx hu).2
 have hs:=hI.side_b hx hu
 rw [hsd] at hs
 have R:=rot_facts (sp:=sideM M u) hI hx hu hs
 have HW:=hid (rot_wants hI h.small hx hu hs (fun g hg=>hI.side_b hun hg) hcx hcu)
 have hbx:(rotT M x u (sideM M u) x).b=(M x).b:=by
  unfold rotT
  cases e:(M u).up with
  | none=>simp only;rw [upd_self]
  | some g=>simp only;rw [hangM_w (Ne.symm (R.rg g e).2.1)]
 have heq:=rot_eq R
 rw [hbx] at heq
 have HEQ:=hid (show hangM (hangM (rotT M x u (sideM M u)) u true ((M x).b false)) x false (some u)=rotL M x u true (sideM M u) from heq)
 have HBX:=hid hbx
 have HFIN:=hid (show refM (refM (rotL M x u true (sideM M u)) u) x=rotM M x u true (sideM M u) from (rotM_eq R).symm)
 have hmn:∀ y,(M x).b false=some y→y<n:=fun y hy=>(R.ri y hy).1
 have HMN:=hid hmn
 have n1:=h.cnt
 have fp:=vblk_frozen h.blk 1
 have hxi:(x:Int)<(n:Int):=by omega
 have hx0:(0:Int)≤(x:Int):=by omega
 have hui:(u:Int)<(n:Int):=by omega
 have hu0:(0:Int)≤(u:Int):=by omega
 have HS0:=hid h.at.stepped.drew
 have hSx:=fun (wv:World) (hv:SpM wv B p g n M (c+1))=>side_any hv hx hun hu
 rw [hsd,show sz true=1 from rfl] at hSx
 have HSX:=hid hSx
 have HC4:=hid (fun (wv:World) (hv:SpM wv B p g n M (c+1))=>show wv.cell? ⟨g,x*9+4,none⟩=some (.int .i64 (u:Int)) from by
  have:=hv.cells hx 4 _ rfl
  rw [hu] at this
  exact this)
 have HD4:=hid (fun (wv:World) (hv:SpM wv B p g n M (c+1))=>show wv.cell? ⟨g,u*9+4,none⟩=some (.int .i64 (oi (none))) from by
  have:=hv.cells hun 4 _ rfl
  rw [htop] at this
  exact this)
 have HT:=hid (show rotT M x u (sideM M u)=upd M x { M x with up:=none } by unfold rotT;rw [htop])
 have HUX:=hid (show ∀ z,some u=some z→z<n from fun z e=>by cases e;exact hun)
 clear h hI hu hcx hcu hsd htop hs R hmn hSx hxl heq hbx
 go_enter Tryz.func140,Tryz.ntmps140
 go_wp2
 generalize w.setCell ⟨p,1,none⟩ (.int .i64 (wr (wr c+1)))=w1 at *
 clear n1 fp
 have hS0:=(show (fun w':World=>w'.cell? ⟨p,0,none⟩=some (.slice (some ⟨g,0,none⟩) n n)∧w'.cell? ⟨g,x*9+4,none⟩=some (.int .i64 (u:Int))∧Hid (SpA w w' B p g n M (c+1))) w1.drew from ⟨HS0.out.head,HC4.out _ HS0.out.toSpM,HS0⟩)
 refine Rh.start (S:=(fun w':World=>w'.cell? ⟨p,0,none⟩=some (.slice (some ⟨g,0,none⟩) n n)∧w'.cell? ⟨g,x*9+4,none⟩=some (.int .i64 (u:Int))∧Hid (SpA w w' B p g n M (c+1)))) (by kernel_rfl) ?_
 refine Rh.tp 14 0 hS0 ?_
 refine Rh.tp 15 1 hS0 ?_
 refine Rh.tp 16 2 hS0 ?_
 refine Rh.tp 17 3 hS0 ?_
 refine Rh.tp 18 4 hS0 ?_
 refine Rh.tp 19 5 hS0 ?_
 refine Rh.tp 20 6 hS0 ?_
 refine Rh.tp 21 7 hS0 ?_
 refine Rh.tp 22 8 hS0 ?_
 refine Rh.tp 23 9 hS0 ?_
 refine Rh.step (i:=10) (by kernel_rfl) rfl fun K' hK'=>?_
 have HK:=hid hK'
 clear hK'
 go_simp
 refine (HSX.out _ HS0.out.toSpM).mono ?_
 rintro e w2 ⟨rfl,hA⟩
 have HS2:=hid (HS0.out.then hA)
 clear hA
 have hS2:=(show (fun w':World=>w'.cell? ⟨p,0,none⟩=some (.slice (some ⟨g,0,none⟩) n n)∧w'.cell? ⟨g,x*9+4,none⟩=some (.int .i64 (u:Int))∧Hid (SpA w w' B p g n M (c+1))) w2 from ⟨HS2.out.head,HC4.out _ HS2.out.toSpM,HS2⟩)
 refine HK.out _ _ ⟨hS2,?_⟩
 clear HK K'
 try simp only [Act.put,Rh.q1,Rh.q2,Rh.q3]
 refine Rh.tp 4 11 hS2 ?_
 refine Rh.tp 5 12 hS2 ?_
 refine Rh.done (by kernel_rfl) ?_ _
 clear hS0 hS2 HS0
 have n0:=HS2.out.head
 have d4:=HD4.out _ HS2.out.toSpM
 have c5:=HS2.out.cells hx 5 _ rfl
 have f4:=HS2.out.froz (x*9+4)
 have c4:=HC4.out _ HS2.out.toSpM
 have HM1:=hid (show SpA w _ B p g n (rotT M x u (sideM M u)) (c+1) by rw [HT.out];exact HS2.out.put hx (j:=4) (k:={ M x with up:=none }) (by omega) (u:=.int .i64 (-1)) rfl)
 simp only [oi] at d4
 generalize rotT M x u (sideM M u)=M1 at *
 go_wp2_with fail
 refine (hang_any HM1.out.toSpM hun true ((M x).b false) HMN.out).mono ?_
 rintro e w5 ⟨rfl,hA⟩
 have HM2:=hid (HM1.out.then hA)
 clear hA
 try clear n0 c5
 try clear c4 f4 d4
 go_wp2_with fail
 refine (hang_any HM2.out.toSpM hx false (some u) HUX.out).mono ?_
 rintro e w6 ⟨rfl,hA⟩
 have HM3:=hid (HM2.out.then hA)
 clear hA
 rw [HEQ.out] at HM3
 go_wp2_with fail
 refine (refresh_any HM3.out.toSpM hun HW.out.1).mono ?_
 rintro e w7 ⟨rfl,hA⟩
 have HM4:=hid (HM3.out.then hA)
 clear hA
 go_wp2_with fail
 refine (refresh_any HM4.out.toSpM hx HW.out.2).mono ?_
 rintro e w8 ⟨rfl,hA⟩
 have HM5:=hid (HM4.out.then hA)
 clear hA
 rw [HFIN.out] at HM5
 go_wp2
 go_end0
 exact ⟨rfl,HM5.out⟩
theorem rotate_ts (h:SpM w B p g n M c) (hI:Inv n V r (fun _=>False) M I P D) {x u gt:Nat} (hx:x<n) (hu:(M x).up=some u) (hcx:Clear M P D x) (hcu:Clear M P D u) (hsd:sideM M x=true) (htop:(M u).up=some gt) :
  Calls Tryz.prog 140 #[.pointer (some ⟨p,0,none⟩),.int .i64 (x:Int)] w fun e w'=>e=.returned (.tuple #[])∧SpA w w' B p g n (rotM M x u true (sideM M u)) (c+1):=by
 have hun:=(hI.up_len hx hu).1
 have hxl:=(hI.up_len hx hu).2
 have hs:=hI.side_b hx hu
 rw [hsd] at hs
 have R:=rot_facts (sp:=sideM M u) hI hx hu hs
 have HW:=hid (rot_wants hI h.small hx hu hs (fun g hg=>hI.side_b hun hg) hcx hcu)
 have hbx:(rotT M x u (sideM M u) x).b=(M x).b:=by
  unfold rotT
  cases e:(M u).up with
  | none=>simp only;rw [upd_self]
  | some g=>simp only;rw [hangM_w (Ne.symm (R.rg g e).2.1)]
 have heq:=rot_eq R
 rw [hbx] at heq
 have HEQ:=hid (show hangM (hangM (rotT M x u (sideM M u)) u true ((M x).b false)) x false (some u)=rotL M x u true (sideM M u) from heq)
 have HBX:=hid hbx
 have HFIN:=hid (show refM (refM (rotL M x u true (sideM M u)) u) x=rotM M x u true (sideM M u) from (rotM_eq R).symm)
 have hmn:∀ y,(M x).b false=some y→y<n:=fun y hy=>(R.ri y hy).1
 have HMN:=hid hmn
 have n1:=h.cnt
 have fp:=vblk_frozen h.blk 1
 have hxi:(x:Int)<(n:Int):=by omega
 have hx0:(0:Int)≤(x:Int):=by omega
 have hui:(u:Int)<(n:Int):=by omega
 have hu0:(0:Int)≤(u:Int):=by omega
 have HS0:=hid h.at.stepped.drew
 have hSx:=fun (wv:World) (hv:SpM wv B p g n M (c+1))=>side_any hv hx hun hu
 rw [hsd,show sz true=1 from rfl] at hSx
 have HSX:=hid hSx
 have HC4:=hid (fun (wv:World) (hv:SpM wv B p g n M (c+1))=>show wv.cell? ⟨g,x*9+4,none⟩=some (.int .i64 (u:Int)) from by
  have:=hv.cells hx 4 _ rfl
  rw [hu] at this
  exact this)
 have HD4:=hid (fun (wv:World) (hv:SpM wv B p g n M (c+1))=>show wv.cell? ⟨g,u*9+4,none⟩=some (.int .i64 (oi (some gt))) from by
  have:=hv.cells hun 4 _ rfl
  rw [htop] at this
  exact this)
 have hgn:=(hI.up_len hun htop).1
 have hgi:(gt:Int)<(n:Int):=by omega
 have hgm:¬ (gt:Int) = -1:=by omega
 have HT:=hid (show rotT M x u (sideM M u)=hangM M gt (sideM M u) (some x) by unfold rotT;rw [htop])
 have HSU:=hid (fun (wv:World) (hv:SpM wv B p g n M (c+1))=>side_any hv hun hgn htop)
 have HGX:=hid (show ∀ z,some x=some z→z<n from fun z e=>by cases e;exact hx)
 have HUX:=hid (show ∀ z,some u=some z→z<n from fun z e=>by cases e;exact hun)
 clear h hI hu hcx hcu hsd htop hs R hmn hSx hxl heq hbx
 go_enter Tryz.func140,Tryz.ntmps140
 go_wp2
 generalize w.setCell ⟨p,1,none⟩ (.int .i64 (wr (wr c+1)))=w1 at *
 clear n1 fp
 have hS0:=(show (fun w':World=>w'.cell? ⟨p,0,none⟩=some (.slice (some ⟨g,0,none⟩) n n)∧w'.cell? ⟨g,x*9+4,none⟩=some (.int .i64 (u:Int))∧Hid (SpA w w' B p g n M (c+1))) w1.drew from ⟨HS0.out.head,HC4.out _ HS0.out.toSpM,HS0⟩)
 refine Rh.start (S:=(fun w':World=>w'.cell? ⟨p,0,none⟩=some (.slice (some ⟨g,0,none⟩) n n)∧w'.cell? ⟨g,x*9+4,none⟩=some (.int .i64 (u:Int))∧Hid (SpA w w' B p g n M (c+1)))) (by kernel_rfl) ?_
 refine Rh.tp 14 0 hS0 ?_
 refine Rh.tp 15 1 hS0 ?_
 refine Rh.tp 16 2 hS0 ?_
 refine Rh.tp 17 3 hS0 ?_
 refine Rh.tp 18 4 hS0 ?_
 refine Rh.tp 19 5 hS0 ?_
 refine Rh.tp 20 6 hS0 ?_
 refine Rh.tp 21 7 hS0 ?_
 refine Rh.tp 22 8 hS0 ?_
 refine Rh.tp 23 9 hS0 ?_
 refine Rh.step (i:=10) (by kernel_rfl) rfl fun K' hK'=>?_
 have HK:=hid hK'
 clear hK'
 go_simp
 refine (HSX.out _ HS0.out.toSpM).mono ?_
 rintro e w2 ⟨rfl,hA⟩
 have HS2:=hid (HS0.out.then hA)
 clear hA
 have hS2:=(show (fun w':World=>w'.cell? ⟨p,0,none⟩=some (.slice (some ⟨g,0,none⟩) n n)∧w'.cell? ⟨g,x*9+4,none⟩=some (.int .i64 (u:Int))∧Hid (SpA w w' B p g n M (c+1))) w2 from ⟨HS2.out.head,HC4.out _ HS2.out.toSpM,HS2⟩)
 refine HK.out _ _ ⟨hS2,?_⟩
 clear HK K'
 try simp only [Act.put,Rh.q1,Rh.q2,Rh.q3]
 refine Rh.tp 4 11 hS2 ?_
 refine Rh.tp 5 12 hS2 ?_
 refine Rh.done (by kernel_rfl) ?_ _
 clear hS0 hS2 HS0
 have n0:=HS2.out.head
 have d4:=HD4.out _ HS2.out.toSpM
 have c5:=HS2.out.cells hx 5 _ rfl
 simp only [oi] at d4
 go_wp2_with fail
 refine (HSU.out _ HS2.out.toSpM).mono ?_
 rintro e w3 ⟨rfl,hA⟩
 have HS3:=hid (HS2.out.then hA)
 clear hA n0 d4 c5
 go_wp2_with fail
 refine (hang_any HS3.out.toSpM hgn (sideM M u) (some x) HGX.out).mono ?_
 rintro e w4 ⟨rfl,hA⟩
 have HM1:=hid (show SpA w w4 B p g n (rotT M x u (sideM M u)) (c+1) by rw [HT.out];exact HS3.out.then hA)
 clear hA
 generalize rotT M x u (sideM M u)=M1 at *
 have n0:=HM1.out.head
 have c5:=HM1.out.cells hx 5 _ rfl
 rw [HBX.out] at c5
 go_wp2_with fail
 refine (hang_any HM1.out.toSpM hun true ((M x).b false) HMN.out).mono ?_
 rintro e w5 ⟨rfl,hA⟩
 have HM2:=hid (HM1.out.then hA)
 clear hA
 try clear n0 c5
 try clear c4 f4 d4
 go_wp2_with fail
 refine (hang_any HM2.out.toSpM hx false (some u) HUX.out).mono ?_
 rintro e w6 ⟨rfl,hA⟩
 have HM3:=hid (HM2.out.then hA)
 clear hA
 rw [HEQ.out] at HM3
 go_wp2_with fail
 refine (refresh_any HM3.out.toSpM hun HW.out.1).mono ?_
 rintro e w7 ⟨rfl,hA⟩
 have HM4:=hid (HM3.out.then hA)
 clear hA
 go_wp2_with fail
 refine (refresh_any HM4.out.toSpM hx HW.out.2).mono ?_
 rintro e w8 ⟨rfl,hA⟩
 have HM5:=hid (HM4.out.then hA)
 clear hA
 rw [HFIN.out] at HM5
 go_wp2
 go_end0
 exact ⟨rfl,HM5.out⟩
theorem rotate_any (h:SpM w B p g n M c) (hI:Inv n V r (fun _=>False) M I P D) {x u:Nat} (hx:x<n) (hu:(M x).up=some u) (hcx:Clear M P D x) (hcu:Clear M P D u) :
  Calls Tryz.prog 140 #[.pointer (some ⟨p,0,none⟩),.int .i64 (x:Int)] w fun e w'=>e=.returned (.tuple #[])∧SpA w w' B p g n (rotM M x u (sideM M x) (sideM M u)) (c+1):=by
 cases hs:sideM M x <;> cases ht:(M u).up
 ·exact rotate_fn h hI hx hu hcx hcu hs ht
 ·exact rotate_fs h hI hx hu hcx hcu hs ht
 ·exact rotate_tn h hI hx hu hcx hcu hs ht
 ·exact rotate_ts h hI hx hu hcx hcu hs ht
end
end Sv
end Go.Proofs.YthhlfphnokdfaaaGreat
