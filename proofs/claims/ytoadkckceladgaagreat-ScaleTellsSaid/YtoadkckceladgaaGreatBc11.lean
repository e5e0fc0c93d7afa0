/-
  Scm, Scq, Rgi, Sta, Trp, Spm, Spt
-/
import Derived.Test.YtoadkckceladgaaGreatBc10
import Derived.Test.YtoadkckceladgaaGreatBc4
import Derived.RangeFuncWrites
import Derived.RangeFuncNested
import Derived.RangeFuncBound
import Derived.RangeFuncCalls
import Derived.RangeFuncBox
import Derived.RangeFuncLeaves
import Derived.Shelf.Abstract
import Derived.Shelf.RegionOpen
import Derived.WalkKit
import Derived.OwnWalkIn
import Derived.TacticsInMore
import Derived.LoopNIn
import Derived.LoopIn
import Derived.Maps.AppendAt
import Derived.OrdersIn
import Derived.Test.YtoadkckceladgaaGreatBc1
import Derived.Test.YtoadkckceladgaaGreatBc3
set_option linter.unusedVariables false
set_option linter.unusedSimpArgs false
set_option maxRecDepth 100000
set_option maxHeartbeats 4000000
namespace Go.Proofs.YtoadkckceladgaaGreat
open Go.ChangeShapes Go.WideShapes Go.ChangeAt Go.RowKit
open Lib (hid)
namespace Ne
theorem dstarts_any (n:Net) (ao:Option Addr) (cap:Nat) (w:World) (hr:ARow w ao n.l) (hl:n.l.length≤1000000) (hok:∀ a∈n.l,in64 a.cap) :
  Calls Tryz.prog 14 #[encN n ao cap] w fun e w'=>e=.returned (.int .i64 (staN n.l))∧Below w.heap.size w w':=by
 obtain ⟨nn,ns,nt,l⟩:=n
 simp only at hr hl hok ⊢
 have HMX:=hid (fun k=>mxC_nn l k)
 have HMB:=hid (fun k (hk:k≤l.length)=>mxC_in (k:=k) l (B:=9223372036854775807) (by omega) fun i hi=>by
  have e:arcAt l i=l[i]'(by omega):=by simp [arcAt,List.getElem?_eq_getElem (show i<l.length by omega)]
  rw [e]
  exact (hok _ (List.getElem_mem _)).2)
 have HFL:=hid (fun w'=>Num.floor_any (mxC l l.length) w' (by have:=HMX.out l.length;omega) (HMB.out _ (Nat.le_refl _)))
 have HS:=hid (show Num.floorF (mxC l l.length)=staN l from rfl)
 have HB0:=hid ((Below.refl w.heap.size w).alloc (Nat.le_refl _) (.cells #[.int .i64 nn,.int .i64 ns,.int .i64 nt,.slice ao l.length cap] 24))
 have HR:=hid hr
 clear hr hok
 go_enter Tryz.func14,Tryz.ntmps14
 go_wp2
 generalize (w.alloc (.cells #[.int .i64 nn,.int .i64 ns,.int .i64 nt,.slice ao l.length cap] 24))=W0 at *
 go_loopw [3,9] (fun x i wr=>∃ (k:Nat) (z:Int),x=.int .i64 z∧i=.int .i64 k∧k≤l.length∧Hid (z=mxC l k)∧Hid (Below w.heap.size w wr)) (fun _ i _=>l.length-(intOf i).toNat)
 case atStart=>exact ⟨0,0,rfl,rfl,Nat.zero_le _,hid rfl,HB0⟩
 case round =>
  obtain ⟨k,z,rfl,rfl,hk,HZ,HB⟩:=hrel
  by_cases hlt:k<l.length
  ·obtain ⟨b,off,rfl,hbl,c0,c1,c2⟩:=arC (HR.out.kept HB.out) hlt
   have HZ2:=hid (show max z (arcAt l k).cap=mxC l (k+1) by rw [HZ.out];rfl)
   generalize arcAt l k=a at *
   obtain ⟨fr,tt,ca⟩:=a
   simp only at c0 c1 c2 HZ2
   have hsz:=HB.out.size
   have HB2:=hid (HB.out.alloc hsz (.cells #[.int .i64 fr,.int .i64 tt,.int .i64 ca] 51))
   have hki:(k:Int)<(l.length:Int):=by omega
   have hk0:(0:Int)≤(k:Int):=by omega
   obtain ⟨g0,g1,g2⟩:=arc_new wr rfl fr tt ca
   go_wp2
   go_roundw
   case rel=>exact ⟨k+1,_,rfl,by go_num,by omega,HZ2,HB2⟩
   case measure=>simp [intOf];omega
  ·have ek:k=l.length:=by omega
   subst ek
   obtain rfl:=HZ.out
   go_wp2_with fail
   refine (HFL.out _).mono ?_
   rintro e w1 ⟨rfl,rfl⟩
   go_wp2
   go_ret
   exact ⟨retI HS.out,HB.out⟩
theorem dvalue_any (n:Net) (ao:Option Addr) (cap:Nat) (fo:Option Addr) (fc:Nat) (f:List Int) (w:World) (hr:ARow w ao n.l) (hf:IRow w fo f) (RT:Right n) (hfl:f.length=n.l.length) (hwi:wi n.l f) :
  Calls Tryz.prog 22 #[encN n ao cap,.slice fo n.l.length fc] w fun e w'=>e=.returned (.int .i64 (exc n.l f n.t))∧Below w.heap.size w w':=by
 have TB:=hid (fun k h=>toS_bd RT hwi n.t (k:=k) h)
 have FB:=hid (fun k h=>frS_bd RT hwi n.t (k:=k) h)
 have AB:=hid (fun i h=>amt_bd RT hwi (i:=i) h)
 have hL:=RT.len
 clear RT hwi
 obtain ⟨nn,ns,nt,l⟩:=n
 simp only at hr hfl TB FB AB hL ⊢
 have HEX:=hid (show toS l f nt l.length-frS l f nt l.length=exc l f nt from rfl)
 have HLE:=hid hfl
 have HB0:=hid ((Below.refl w.heap.size w).alloc (Nat.le_refl _) (.cells #[.int .i64 nn,.int .i64 ns,.int .i64 nt,.slice ao l.length cap] 24))
 have HN0:=hid (nbN w nn ns nt (.slice ao l.length cap))
 have HR:=hid hr
 have HF:=hid hf
 have hz0:w.heap.size<(w.alloc (.cells #[.int .i64 nn,.int .i64 ns,.int .i64 nt,.slice ao l.length cap] 24)).heap.size:=by simp
 clear hr hf hfl
 go_enter Tryz.func22,Tryz.ntmps22
 go_wp2
 generalize (w.alloc (.cells #[.int .i64 nn,.int .i64 ns,.int .i64 nt,.slice ao l.length cap] 24))=W0 at *
 go_loopw [5,6,7,11] (fun x i6 p7 i wr=>(∃ z,i6=z)∧(∃ z,p7=z)∧∃ (k:Nat) (z:Int),x=.int .i64 z∧i=.int .i64 k∧k≤l.length∧Hid (z=toS l f nt k-frS l f nt k)∧Hid (Below w.heap.size w wr)∧Hid (NetBox wr w.heap.size nn ns nt (.slice ao l.length cap))) (fun _ _ _ i _=>l.length-(intOf i).toNat)
 case atStart=>exact ⟨⟨_,rfl⟩,⟨_,rfl⟩,0,0,rfl,rfl,Nat.zero_le _,hid rfl,HB0,HN0⟩
 case round =>
  obtain ⟨⟨z6,rfl⟩,⟨z7,rfl⟩,k,z,rfl,rfl,hk,HZ,HB,HN⟩:=hrel
  by_cases hlt:k<l.length
  ·obtain ⟨b,off,rfl,hbl,c0,c1,c2⟩:=arC (HR.out.kept HB.out) hlt
   obtain ⟨b2,off2,rfl,hbl2,d0⟩:=irC (HF.out.kept HB.out) (i:=k) (by have:=HLE.out;omega)
   obtain ⟨x0,x1⟩:=AB.out k hlt
   have t1:=TB.out k hk
   have t2:=TB.out (k+1) (by omega)
   have s1:=FB.out k hk
   have s2:=FB.out (k+1) (by omega)
   have eT:=toS_succ l f nt k
   have eF:=frS_succ l f nt k
   have hz:=HZ.out
   have hki:(k:Int)<(l.length:Int):=by omega
   have hk0:(0:Int)≤(k:Int):=by omega
   have HG:=hid (show ∀ z',z' = toS l f nt (k+1)-frS l f nt (k+1)→z' = toS l f nt (k+1)-frS l f nt (k+1) from fun _ h=>h)
   have hnl:=netBox_lt HN.out
   have hsz:=HB.out.size
   by_cases p:(arcAt l k).to=nt
   ·rw [if_pos p] at eT
    have p':((arcAt l k).to == nt)=true:=by simpa using p
    by_cases q:(arcAt l k).fr=nt
    ·rw [if_pos q] at eF
     have q':((arcAt l k).fr == nt)=true:=by simpa using q
     have HQ:=hid (HG.out z (by omega))
     have w1:IntKind.i64.wrap (z+amt f k)=z+amt f k:=by rw [IntKind.wrap_i64];omega
     have w2:IntKind.i64.wrap (z+amt f k-amt f k)=z:=by rw [IntKind.wrap_i64];omega
     have b1:-9223372036854775808≤z+amt f k∧z+amt f k≤9223372036854775807:=by omega
     have b2:-9223372036854775808≤z+amt f k-amt f k∧z+amt f k-amt f k≤9223372036854775807:=by omega
     clear eT eF hz p q t1 t2 s1 s2
     generalize amt f k=y at *
     generalize arcAt l k=a at *
     obtain ⟨fr,tt,ca⟩:=a
     simp only at c0 c1 c2 p' q'
     have HB2:=hid (HB.out.alloc hsz (.cells #[.int .i64 fr,.int .i64 tt,.int .i64 ca] 51))
     obtain ⟨g0,g1,g2⟩:=arc_new wr rfl fr tt ca
     have d1:=hdA (o:=.cells #[.int .i64 fr,.int .i64 tt,.int .i64 ca] 51) d0
     have HN2:=hid (nbA HN.out (.cells #[.int .i64 fr,.int .i64 tt,.int .i64 ca] 51))
     obtain ⟨n0,n1,n2,n3⟩:=nbC HN.out
     obtain ⟨m0,m1,m2,m3⟩:=nbC HN2.out
     go_wp2
     go_roundw
     case rel=>exact ⟨⟨_,rfl⟩,⟨_,rfl⟩,k+1,_,rfl,by go_num,by omega,HQ,HB2,HN2⟩
     case measure=>simp [intOf];omega
    ·rw [if_neg q] at eF
     have q':((arcAt l k).fr == nt)=false:=by simpa using q
     have HQ:=hid (HG.out (z+amt f k) (by omega))
     have w1:IntKind.i64.wrap (z+amt f k)=z+amt f k:=by rw [IntKind.wrap_i64];omega
     have b1:-9223372036854775808≤z+amt f k∧z+amt f k≤9223372036854775807:=by omega
     clear eT eF hz p q t1 t2 s1 s2
     generalize amt f k=y at *
     generalize arcAt l k=a at *
     obtain ⟨fr,tt,ca⟩:=a
     simp only at c0 c1 c2 p' q'
     have HB2:=hid (HB.out.alloc hsz (.cells #[.int .i64 fr,.int .i64 tt,.int .i64 ca] 51))
     obtain ⟨g0,g1,g2⟩:=arc_new wr rfl fr tt ca
     have d1:=hdA (o:=.cells #[.int .i64 fr,.int .i64 tt,.int .i64 ca] 51) d0
     have HN2:=hid (nbA HN.out (.cells #[.int .i64 fr,.int .i64 tt,.int .i64 ca] 51))
     obtain ⟨n0,n1,n2,n3⟩:=nbC HN.out
     obtain ⟨m0,m1,m2,m3⟩:=nbC HN2.out
     go_wp2
     go_roundw
     case rel=>exact ⟨⟨_,rfl⟩,⟨_,rfl⟩,k+1,_,rfl,by go_num,by omega,HQ,HB2,HN2⟩
     case measure=>simp [intOf];omega
   ·rw [if_neg p] at eT
    have p':((arcAt l k).to == nt)=false:=by simpa using p
    by_cases q:(arcAt l k).fr=nt
    ·rw [if_pos q] at eF
     have q':((arcAt l k).fr == nt)=true:=by simpa using q
     have HQ:=hid (HG.out (z-amt f k) (by omega))
     have w1:IntKind.i64.wrap (z-amt f k)=z-amt f k:=by rw [IntKind.wrap_i64];omega
     have b1:-9223372036854775808≤z-amt f k∧z-amt f k≤9223372036854775807:=by omega
     clear eT eF hz p q t1 t2 s1 s2
     generalize amt f k=y at *
     generalize arcAt l k=a at *
     obtain ⟨fr,tt,ca⟩:=a
     simp only at c0 c1 c2 p' q'
     have HB2:=hid (HB.out.alloc hsz (.cells #[.int .i64 fr,.int .i64 tt,.int .i64 ca] 51))
     obtain ⟨g0,g1,g2⟩:=arc_new wr rfl fr tt ca
     have d1:=hdA (o:=.cells #[.int .i64 fr,.int .i64 tt,.int .i64 ca] 51) d0
     have HN2:=hid (nbA HN.out (.cells #[.int .i64 fr,.int .i64 tt,.int .i64 ca] 51))
     obtain ⟨n0,n1,n2,n3⟩:=nbC HN.out
     obtain ⟨m0,m1,m2,m3⟩:=nbC HN2.out
     go_wp2
     go_roundw
     case rel=>exact ⟨⟨_,rfl⟩,⟨_,rfl⟩,k+1,_,rfl,by go_num,by omega,HQ,HB2,HN2⟩
     case measure=>simp [intOf];omega
    ·rw [if_neg q] at eF
     have q':((arcAt l k).fr == nt)=false:=by simpa using q
     have HQ:=hid (HG.out z (by omega))
     clear eT eF hz p q t1 t2 s1 s2
     generalize amt f k=y at *
     generalize arcAt l k=a at *
     obtain ⟨fr,tt,ca⟩:=a
     simp only at c0 c1 c2 p' q'
     have HB2:=hid (HB.out.alloc hsz (.cells #[.int .i64 fr,.int .i64 tt,.int .i64 ca] 51))
     obtain ⟨g0,g1,g2⟩:=arc_new wr rfl fr tt ca
     have d1:=hdA (o:=.cells #[.int .i64 fr,.int .i64 tt,.int .i64 ca] 51) d0
     have HN2:=hid (nbA HN.out (.cells #[.int .i64 fr,.int .i64 tt,.int .i64 ca] 51))
     obtain ⟨n0,n1,n2,n3⟩:=nbC HN.out
     obtain ⟨m0,m1,m2,m3⟩:=nbC HN2.out
     go_wp2
     go_roundw
     case rel=>exact ⟨⟨_,rfl⟩,⟨_,rfl⟩,k+1,_,rfl,by go_num,by omega,HQ,HB2,HN2⟩
     case measure=>simp [intOf];omega
  ·have ek:k=l.length:=by omega
   subst ek
   obtain ⟨n0,n1,n2,n3⟩:=nbC HN.out
   go_wp2
   go_ret
   exact ⟨retI (by rw [HZ.out,HEX.out]),HB.out⟩
end Ne
end Go.Proofs.YtoadkckceladgaaGreat
namespace Go.Proofs.YtoadkckceladgaaGreat
open Go.ChangeShapes Go.WideShapes Go.ChangeAt Go.RowKit Go.Shelf
open Lib (hid)
attribute [local go_sem] Oper.semAt_some
namespace Ne
abbrev Rm:={ x:Int // 1≤x∧x≤4611686018427387904 }
abbrev encR (x:Rm):Array Value:=#[.int .i64 x.1]
theorem rooms1_in {K:Nat} (hK:K≤63) (m l b:Nat) (J Jx:List Rm→World→Prop)
  (hY:∀ pre x W,J pre W→pre.length<K→YieldAt Fence.wide (m-1) Tryz.prog l (encR x) W fun e W' =>
   (e=.returned (.bool true)∧J (pre ++ [x]) W'∧True)∨(e=.returned (.bool false)∧Jx (pre ++ [x]) W'))
  (W:World) (hb:W.cell? ⟨b,0,none⟩=some (.int .i64 (fstR K))) (h0:J [] W) :
  CallsIn Fence.wide m Tryz.prog 34 #[.func (.yield l) #[] #[],.pointer (some ⟨b,0,none⟩)] W fun e W'=>(∃ v,e=.returned v) ∧
   ((∃ ys,ys.map (·.1)=rms K∧J ys W')∨(∃ pre,True∧Jx pre W')):=by
 refine callsIn_of_wp Tryz.func34 rfl trivial ?_ rfl
 simp only [Tryz.ntmps34,List.size_toArray,List.length_cons,List.length_nil,Nat.reduceAdd,Nat.reduceSub,Array.replicate_succ,Array.replicate_zero,List.push_toArray,List.append_toArray,List.nil_append,List.cons_append]
 gi_wp2
 gi_loopw [3] (fun p wr=>∃ (pre:List Rm) (k:Nat),p=.int .i64 (fstR k)∧Hid (pre.length+k=K)∧Hid (pre.map (·.1) ++ rms k=rms K)∧J pre wr) (fun p _=>(intOf p).toNat)
 case atStart=>exact ⟨[],K,rfl,hid (by simp),hid (by simp),h0⟩
 case round =>
  obtain ⟨pre,k,rfl,HL,HM,hJs⟩:=hrel
  cases k with
  | zero =>
   have HM2:=hid (show pre.map (·.1)=rms K by have h:=HM.out;rwa [show rms 0=[] from rfl,List.append_nil] at h)
   rw [show fstR 0=0 from rfl]
   gi_wp2
   refine ⟨fun _ h=>(by cases h),?_⟩
   gi_wp2
   go_end0
   exact ⟨⟨_,rfl⟩,.inl ⟨pre,HM2.out,hJs⟩⟩
  | succ k =>
   have h1:=fst_pos k
   have h2:=fst_le (k:=k+1) (by have:=HL.out;omega)
   obtain ⟨fn,tmps,assign,body,hy,hR⟩:=hY pre ⟨fstR (k+1),h1,h2⟩ wr hJs (by have:=HL.out;omega)
   have HM2:=hid (show (pre ++ [(⟨fstR (k+1),h1,h2⟩:Rm)]).map (·.1) ++ rms k=rms K by have h:=HM.out;rw [rms_succ] at h;simpa using h)
   have HL2:=hid (show (pre ++ [(⟨fstR (k+1),h1,h2⟩:Rm)]).length+k=K by have h:=HL.out;simp;omega)
   have hh:=fst_half k
   have hlt:fstR k<fstR (k+1):=by omega
   dsimp only [encR] at hy
   generalize (⟨fstR (k+1),h1,h2⟩:Rm)=xr at *
   generalize fstR (k+1)=F1 at *
   obtain ⟨F0,hF0⟩:∃ F0,F0=fstR k:=⟨_,rfl⟩
   rw [← hF0] at hh hlt
   have HF0:=hid hF0
   clear hF0
   have hp:decide (0<F1)=true:=by simp;omega
   gi_wp2
   refine ⟨fun h=>(by cases h),?_⟩
   refine hR.mono ?_
   rintro e W3 (⟨rfl,hJ3,_⟩ | ⟨rfl,hJx3⟩)
   ·gi_wp2
    go_roundw
    case rel=>exact ⟨pre ++ [xr],k,by rw [← HF0.out,hh],HL2,HM2,hJ3⟩
    case measure=>simp [intOf];omega
   ·gi_wp2
    go_end0
    exact ⟨⟨_,rfl⟩,.inr ⟨pre ++ [xr],trivial,hJx3⟩⟩
theorem rooms_stops {K:Nat} (hK:K≤63) (m b:Nat) (w:World) (hb:b<w.heap.size) (h:w.cell? ⟨b,0,none⟩=some (.int .i64 (fstR K))) :
  SeqStopsK Fence.wide m Tryz.prog 34 #[.pointer (some ⟨b,0,none⟩)] encR (fun _ _=>True) (fun ys=>ys.map (·.1)=rms K) (fun _=>True) K w:=fun l J Jx W hW hJ _ hY h0 =>
 rooms1_in hK m l b J Jx hY W ((hW.cell (p:=⟨b,0,none⟩) hb).trans h) h0
theorem rooms_any (x:Int) (w:World) :
  Calls Tryz.prog 21 #[.int .i64 x] w fun e w'=>e=.returned (.func (.func 34) #[] #[.pointer (some ⟨w.heap.size,0,none⟩)]) ∧
   Below w.heap.size w w'∧w'.heap.size=w.heap.size+1∧w'.cell? ⟨w.heap.size,0,none⟩=some (.int .i64 x):=by
 have HB:=hid ((Below.refl w.heap.size w).alloc (Nat.le_refl _) (.cells #[.int .i64 x] 2))
 have HX:=hid (Boxed.new w 2 (.int .i64 x))
 have HZ:=hid (show (w.alloc (.cells #[.int .i64 x] 2)).heap.size=w.heap.size+1 by show (w.heap.push _).size=_;simp)
 go_enter Tryz.func21,Tryz.ntmps21
 go_wp2
 go_ret
 exact ⟨rfl,HB.out,HZ.out,HX.out.cell⟩
end Ne
end Go.Proofs.YtoadkckceladgaaGreat
namespace Go.Proofs.YtoadkckceladgaaGreat
namespace Rg
section
variable {P:Program} {ops:Array Oper} {Q:Exit→Act→World→Prop} {md:Region.Mode} {S:World→Prop} {last:Nat}
def noDefer (ops:Array Oper):Bool:=ops.all fun o=>match o.op with | .defer _=>false | _=>true
theorem noDefer_spec (h:noDefer ops=true) {i:Nat} {o:Oper} (ho:ops[i]? = some o):∀ c,o.op≠.defer c:=fun c e=>by
 unfold noDefer at h
 rw [Array.all_eq_true] at h
 obtain ⟨hi,rfl⟩:=Array.getElem?_eq_some_iff.1 ho
 have:=h i hi
 rw [e] at this
 cases this
theorem oper_in (l n:Nat) {o:Oper} (ho:∀ c,o.op≠.defer c) {a:Act} {w:World} {K:Act→World→Prop} (h:o.wp P a w K Q):o.wpIn (Fence.wide.inRound l) n P a w K Q:=by
 refine ⟨fun _ _=>trivial,?_⟩
 rw [Oper.semAt_eq _ _ _ ho]
 unfold Oper.wp at h
 have hd:(Fence.wide.inRound l).depth.isSome=true→1≤n:=fun e=>by cases e
 generalize (execOp a.eval o).run P w=r at *
 cases r with
 | ok x w' =>
  cases x <;> simp only [Oper.upon,Oper.uponIn] at h ⊢ <;>
   first
    | exact h
    | exact ⟨hd,CallsIn.inRound l (callsIn_wide.2 h)⟩
    | exact ⟨hd,fun c cs _=>let ⟨v,w',r,s⟩:=h c cs;⟨v,w',r,stepsIn_wide.2 s⟩⟩
 | halt x w'=>cases x <;> simp only [Oper.upon,Oper.uponIn] at h ⊢ <;> exact h
theorem any_in (l n:Nat) (hd:noDefer ops=true) (hQ:¬ LetsOut Q):∀ (fuel:Nat) (listed:Array Bool) (a:Act) (w:World),wpAny P md ops Q fuel listed a w→wpAnyIn (Fence.wide.inRound l) n P md ops Q fuel listed a w
 | 0,_,_,_,h=>h
 | fuel+1,listed,a,w,h=>by
  refine ⟨h.1,fun i hi=>?_⟩
  have h2:=wpOp_mono (any_in l n hd hQ fuel (listed.setIfInBounds i true)) (h.2 i hi)
  unfold wpOp at h2
  unfold wpOpIn
  cases ho:ops[i]? with
  | none=>simp only [ho] at h2 ⊢;exact h2
  | some o =>
   simp only [ho] at h2 ⊢
   by_cases hw:Region.wanted o (yielded ops a.tmps)=true
   ·rw [if_pos hw] at h2 ⊢
    rcases h2 with h2 | h2
    ·exact oper_in l n (noDefer_spec hd ho) h2
    ·exact absurd h2.2 hQ
   ·rw [if_neg hw] at h2 ⊢
    exact ⟨fun _ _=>trivial,h2⟩
theorem startIn {l n id:Nat} {a:Act} {w:World} (hm:P.follows .mixedOrders=true) (hd:noDefer ops=true) (hQ:¬ LetsOut Q)
  (h:St P .any ops Q S last ops.size (Array.replicate ops.size false) a w.drew):(Code.region id ops true).wpIn (Fence.wide.inRound l) n P Q a w :=
 wpIn_region_any hm (any_in l n hd hQ _ _ _ _ (wpAny_of_E _ _ _ _ (h (closed_start _))))
end
end Rg
end Go.Proofs.YtoadkckceladgaaGreat
namespace Go.Proofs.YtoadkckceladgaaGreat
open Go.ChangeShapes Go.WideShapes Go.ChangeAt Go.RowKit
open Lib (hid)
namespace Rw
section
variable {α:Type} {e t:TypeId} {k bytes:Nat} {z:Value} {enc:α→List Value}
theorem stepAny (E:Elem e t k bytes z) (hk:∀ x:α,(enc x).length=k) (h1:∀ x,∀ u∈enc x,u.oneCell' = true)
  {ops:Array Oper} {o:Oper} {a:Act} {K:Act→World→Prop} {Q:Exit→Act→World→Prop} {E':Prop} {w:World} (hgd:o.guard=none) (s x:Operand)
  (ho:o.op=.call { callee:=.builtin .append,args:=#[s,x],argTypes:=#[t,t] })
  (B:Nat) (v:Value) (xs:List α) (hs:a.eval s=v) (hown:Own e k enc w B v xs)
  (ao:Option Addr) (cap:Nat) (ys:List α) (n:Nat) (hn:n=ys.length) (hx:a.eval x=.slice ao n cap) (hnone:ao=none→cap=0) (hr:Row k enc w ao ys)
  (h63:xs.length+ys.length≤1099511627776) (hB:B≤w.heap.size)
  (h:∀ v' w',Own e k enc w' B v' (xs ++ ys)→w.grownBy w' v.ownBlock→K (a.put o.dst v') w') :
  if Region.wanted o (yielded ops a.tmps)=true then Oper.wp Tryz.prog o a w K Q else E':=by
 rcases ao with _ | ad
 ·have hy:ys=[]:=by
   rcases hr with h | ⟨b,off,h,_⟩
   ·exact h
   ·cases h
  subst hy
  subst hn
  rw [hnone rfl] at hx
  have hw:Region.wanted o (yielded ops a.tmps)=true:=by simp [Region.wanted,hgd]
  rw [if_pos hw]
  obtain ⟨i0,hi,hz0,hz1,hz2⟩:=info_parts E.info
  have hrun:=run_append_owned_none (P:=Tryz.prog) (w:=w) B t o.type e i0 k E.und hi v xs.length _ hown
  have hx':a.eval x=.slice none 0 0:=hx
  unfold Oper.wp execOp
  simp only [ho,resolve,invoke,builtin,Sem.run_bind,Sem.run_pure,Result.andThen_ok,List.map_toArray,List.map_cons,List.map_nil,hs,hx',hrun]
  refine h v w ?_ ⟨rfl,rfl,rfl,Nat.le_refl _,fun _ _ _=>rfl⟩
  rw [List.append_nil];exact hown
 ·exact stepAt E hk h1 hgd s x ho B v xs hs hown ad cap ys n hn hx hr h63 hB fun v' w' g1 g2 _=>h v' w' g1 g2
end
end Rw
end Go.Proofs.YtoadkckceladgaaGreat
namespace Go.Proofs.YtoadkckceladgaaGreat
namespace Ne
section
variable {n:Net} {TL:List Nat} {g:List Int} {x:Int} {RM:List Int} {U:Nat→List Nat} {L:List Int}
theorem first_heads (hR:Right n) (hL:Lds n.l L TL) (hS:Srch n TL g x RM U):∀ {R:List Nat} {u:Int},Wlk n.l TL g x u R n.t→(∀ r∈R,∃ T,U (trF n.l r).toNat=r :: T)→FirstW n.l TL g x n.t u R:=by
 intro R
 induction R with
 | nil =>
  intro u h _
  rcases wlk_inv h with ⟨_,e⟩ | ⟨r,R',e,_⟩
  ·rw [e];exact .done
  ·exact absurd e (by simp)
 | cons r R ih =>
  intro u h hh
  have hlev:=wlk_lev hL h
  rcases wlk_inv h with ⟨e,_⟩ | ⟨r',R',e,eu,hr,hx,hw⟩
  ·exact absurd e (by simp)
  ·obtain ⟨rfl,rfl⟩:r=r'∧R=R':=by simpa using e
   subst eu
   refine .step ?_ hr hx (ih hw fun q hq=>hh q (List.mem_cons_of_mem _ hq)) ?_
   ·intro e
    rw [e] at hlev
    simp at hlev
    omega
   ·intro q hq eq hxq hlt
    obtain ⟨T,hT⟩:=hh r List.mem_cons_self
    have hv:(trF n.l r).toNat<n.n.toNat+1:=by have:=tFb hR (hL.lt r hr);omega
    have hs:=hS.srt _ hv
    rw [hT] at hs
    refine hS.gone q hq ?_ hxq
    rw [eq,hT]
    intro hm
    rcases List.mem_cons.1 hm with e | hm
    ·omega
    ·have:=(List.pairwise_cons.1 hs).1 q hm;omega
theorem srch_drop (hS:Srch n TL g x RM U) {v r:Nat} {T:List Nat} (hv:v<n.n.toNat+1) (hU:U v=r :: T) (hI:Idle n.l TL g x n.t r):Srch n TL g x RM (fun w=>if w=v then T else U w):=by
 refine ⟨hS.len,hS.rm,?_,?_,?_⟩
 ·intro w hw q hq
  by_cases c:w=v
  ·subst c
   rw [if_pos rfl] at hq
   exact hS.sub w hw q (by rw [hU];exact List.mem_cons_of_mem _ hq)
  ·rw [if_neg c] at hq
   exact hS.sub w hw q hq
 ·intro w hw
  by_cases c:w=v
  ·subst c
   rw [if_pos rfl]
   have:=hS.srt w hw
   rw [hU] at this
   exact (List.pairwise_cons.1 this).2
  ·rw [if_neg c]
   exact hS.srt w hw
 ·intro q hq hn
  by_cases c:(trF n.l q).toNat=v
  ·rw [if_pos c] at hn
   by_cases c2:q=r
   ·rw [c2];exact hI
   ·refine hS.gone q hq ?_
    rw [c,hU]
    intro hm
    rcases List.mem_cons.1 hm with e | hm
    ·exact c2 e
    ·exact hn hm
  ·rw [if_neg c] at hn
   exact hS.gone q hq hn
theorem srch_none (hS:Srch n TL g x RM U) {v:Int} (hU:U v.toNat=[]) (hne:v≠n.t):∀ R,¬ Wlk n.l TL g x v R n.t:=by
 intro R h
 rcases wlk_inv h with ⟨_,e⟩ | ⟨r,R',_,eu,hr,hx,hw⟩
 ·exact hne e
 ·exact hS.gone r hr (by rw [← eu,hU];simp) hx R' hw
end
end Ne
end Go.Proofs.YtoadkckceladgaaGreat
namespace Go.Proofs.YtoadkckceladgaaGreat
open Go.ChangeShapes Go.WideShapes Go.ChangeAt Go.RowKit
open Lib (hid)
namespace Sp
structure St where
 v:List Int
 r:Nat→List Nat
abbrev big:Int:=4611686018427387904
structure Good (s:St):Prop where
 mem:∀ x,x<s.v.length→x∈s.r x
 none:∀ x,s.v.length≤x→s.r x=[]
 lt:∀ x y,y∈s.r x→y<s.v.length
 same:∀ x y,y∈s.r x→s.r y=s.r x
 nodup:∀ x,(s.r x).Nodup
 bnd:∀ i,i<s.v.length→-big≤Ne.amt s.v i∧Ne.amt s.v i≤big
 small:s.v.length≤3000
section
variable {s:St}
theorem Good.ne_nil (h:Good s) {x:Nat} (hx:x<s.v.length):s.r x≠[]:=fun e=>by have:=h.mem x hx;rw [e] at this;simp at this
theorem Good.nil_iff (h:Good s) {x:Nat}:s.r x=[]↔s.v.length≤x:=by
 constructor
 ·intro e
  rcases Nat.lt_or_ge x s.v.length with c | c
  ·exact absurd e (h.ne_nil c)
  ·exact c
 ·exact h.none x
theorem len_le {l:List Nat} {n:Nat} (hn:l.Nodup) (hl:∀ y∈l,y<n):l.length≤n:=Ne.nodup_len hn hl
theorem Good.len (h:Good s) (x:Nat):(s.r x).length≤s.v.length:=len_le (h.nodup x) (h.lt x)
end
def rowZ (s:St) (x:Int):List Nat:=if x<0 then [] else s.r x.toNat
theorem rZn (s:St) (x:Nat):rowZ s (x:Int)=s.r x:=by unfold rowZ;rw [if_neg (by omega)];simp
theorem rowZ_nil {s:St} (h:Good s) {x:Int}:rowZ s x=[]↔x<0∨(s.v.length:Int)≤x:=by
 unfold rowZ
 by_cases c:x<0
 ·rw [if_pos c];simp [c]
 ·rw [if_neg c,h.nil_iff];omega
theorem rowZ_lt {s:St} (h:Good s) {x:Int} {y:Nat} (hy:y∈rowZ s x):y<s.v.length:=by
 unfold rowZ at hy
 split at hy
 ·simp at hy
 ·exact h.lt _ _ hy
theorem rowZ_len {s:St} (h:Good s) (x:Int):(rowZ s x).length≤s.v.length:=by
 unfold rowZ
 split
 ·simp
 ·exact h.len _
theorem rowZ_self {s:St} (h:Good s) {x:Int} (hx:rowZ s x≠[]):x.toNat∈rowZ s x∧0≤x∧x.toNat<s.v.length:=by
 have:=mt (rowZ_nil h (x:=x)).2 hx
 have h2:x.toNat<s.v.length:=by omega
 refine ⟨?_,by omega,h2⟩
 unfold rowZ;rw [if_neg (by omega)]
 exact h.mem _ h2
theorem rowZ_nodup {s:St} (h:Good s) (x:Int):(rowZ s x).Nodup:=by
 unfold rowZ
 split
 ·simp
 ·exact h.nodup _
theorem rowZ_same {s:St} (h:Good s) {x:Int} {y:Nat} (hy:y∈rowZ s x):s.r y=rowZ s x:=by
 unfold rowZ at hy ⊢
 split at hy
 ·simp at hy
 ·rename_i c;rw [if_neg c];exact h.same _ _ hy
def firstZ (s:St) (x:Int):Int:=match rowZ s x with | []=>-1 | a :: _=>(a:Int)
def lastZ (s:St) (x:Int):Int:=match (rowZ s x).getLast? with | none=>-1 | some a=>(a:Int)
def atL (l:List Nat) (p:Int):Int:=if p<0 then -1 else match l[p.toNat]? with | none=>-1 | some a=>(a:Int)
def atZ (s:St) (x p:Int):Int:=atL (rowZ s x) p
def placeZ (s:St) (x:Int):Int:=if rowZ s x=[] then -1 else ((rowZ s x).idxOf x.toNat:Nat)
def valZ (s:St) (x:Int):Int:=if x<0 then 0 else Ne.amt s.v x.toNat
def leastL (v:List Int) (l:List Nat):Int:=l.foldl (fun (b:Int) i=>if b<0∨Ne.amt v i<Ne.amt v b.toNat then (i:Int) else b) (-1)
def leastZ (s:St) (x:Int):Int:=leastL s.v (rowZ s x)
def joinE (s:St) (a b:Int):Int:=if rowZ s a=[]∨rowZ s b=[] then 4 else if b.toNat∈rowZ s a then 5 else 0
def joinR (s:St) (a b:Int):St:=⟨s.v,fun y=>if y∈rowZ s a∨y∈rowZ s b then rowZ s a ++ rowZ s b else s.r y⟩
def joinS (s:St) (a b:Int):St:=if joinE s a b=0 then joinR s a b else s
def splitE (s:St) (x:Int):Int:=if rowZ s x=[] then 4 else 0
def cutR (s:St) (l:List Nat) (k:Nat):St:=⟨s.v,fun y=>if y∈l.take k then l.take k else if y∈l.drop k then l.drop k else s.r y⟩
def splitS (s:St) (x:Int):St:=cutR s (rowZ s x) ((rowZ s x).idxOf x.toNat)
def fits (v d:Int):Bool:=if 0≤d then decide (v≤big-d) else decide (-big-d≤v)
def addE (s:St) (x d:Int):Int:=if rowZ s x=[] then 4 else if ∀ i∈rowZ s x,fits (Ne.amt s.v i) d=true then 0 else 3
def addL (v:List Int) (l:List Nat) (d:Int):List Int:=(List.range v.length).map fun i=>if i∈l then Ne.amt v i+d else Ne.amt v i
def addS (s:St) (x d:Int):St:=if addE s x d=0 then ⟨addL s.v (rowZ s x) d,s.r⟩ else s
def newE (vs:List Int):Int:=if 3000<vs.length then 1 else if ∀ i,i<vs.length→-big≤Ne.amt vs i∧Ne.amt vs i≤big then 0 else 3
def newS (vs:List Int):St:=⟨vs,fun x=>if x<vs.length then [x] else []⟩
theorem addL_len (v:List Int) (l:List Nat) (d:Int):(addL v l d).length=v.length:=by simp [addL]
theorem addL_at {v:List Int} {l:List Nat} {d:Int} {i:Nat} (h:i<v.length):Ne.amt (addL v l d) i=if i∈l then Ne.amt v i+d else Ne.amt v i:=by simp [addL,Ne.amt,h]
theorem fits_iff (v d:Int) (hv:-big≤v∧v≤big):fits v d=true↔-big≤v+d∧v+d≤big:=by
 unfold fits
 split <;> simp <;> omega
section
variable {s:St}
theorem good_new {vs:List Int} (h:newE vs=0):Good (newS vs):=by
 unfold newE at h
 split at h
 ·cases h
 ·split at h
  ·rename_i h1 h2
   refine ⟨fun x hx=>?_,fun x hx=>?_,fun x y hy=>?_,fun x y hy=>?_,fun x=>?_,h2,by show vs.length≤3000;omega⟩
   ·have hx':x<vs.length:=hx
    show x∈(if x<vs.length then [x] else []);rw [if_pos hx'];simp
   ·have hx':vs.length≤x:=hx
    show (if x<vs.length then [x] else [])=[];rw [if_neg (by omega)]
   ·have hy':y∈(if x<vs.length then [x] else []):=hy
    split at hy'
    ·simp at hy';subst hy';assumption
    ·simp at hy'
   ·have hy':y∈(if x<vs.length then [x] else []):=hy
    split at hy'
    ·simp at hy';subst hy';rfl
    ·simp at hy'
   ·show (if x<vs.length then [x] else []).Nodup
    split <;> simp
  ·cases h
theorem good_part (h:Good s) {l A B:List Nat} {x:Int} (hl:rowZ s x=l) (hne:l≠[]) {r:Nat→List Nat} (hr:∀ y,y ∉ l→r y=s.r y) (hA:∀ y,y∈l→y∈r y∧(∀ z∈r y,z∈l)∧(∀ z∈r y,r z=r y)∧(r y).Nodup):Good ⟨s.v,r⟩:=by
 have hlt:∀ y∈l,y<s.v.length:=fun y hy=>rowZ_lt h (by rw [hl];exact hy)
 have hs:∀ y∈l,s.r y=l:=fun y hy=>by rw [rowZ_same h (by rw [hl];exact hy),hl]
 have hout:∀ x z,x ∉ l→z∈s.r x→z ∉ l:=fun x z hx hz hz2=>by
  have e1:=hs z hz2
  have e2:=h.same x z hz
  rcases Nat.lt_or_ge x s.v.length with c | c
  ·exact hx (by rw [← e1,e2];exact h.mem x c)
  ·rw [h.none x c] at hz;simp at hz
 refine ⟨fun x hx=>?_,fun x hx=>?_,fun x y hy=>?_,fun x y hy=>?_,fun x=>?_,h.bnd,h.small⟩
 ·by_cases c:x∈l
  ·exact (hA x c).1
  ·show x∈r x;rw [hr x c];exact h.mem x hx
 ·have c:x ∉ l:=fun c=>by have:=hlt x c;have hx':s.v.length≤x:=hx;omega
  show r x=[];rw [hr x c];exact h.none x hx
 ·have hy':y∈r x:=hy
  show y<s.v.length
  by_cases c:x∈l
  ·exact hlt y ((hA x c).2.1 y hy')
  ·rw [hr x c] at hy';exact h.lt x y hy'
 ·have hy':y∈r x:=hy
  show r y=r x
  by_cases c:x∈l
  ·exact (hA x c).2.2.1 y hy'
  ·rw [hr x c] at hy' ⊢
   rw [hr y (hout x y c hy')]
   exact h.same x y hy'
 ·show (r x).Nodup
  by_cases c:x∈l
  ·exact (hA x c).2.2.2
  ·rw [hr x c];exact h.nodup x
theorem good_cut (h:Good s) (x:Int) (k:Nat):Good (cutR s (rowZ s x) k):=by
 by_cases hne:rowZ s x=[]
 ·have:(cutR s (rowZ s x) k)=s:=by unfold cutR;rw [hne];simp
  rw [this];exact h
 ·generalize hl:rowZ s x=l at *
  have hnd:l.Nodup:=by rw [← hl];exact rowZ_nodup h x
  have hd:∀ y,y∈l.take k→y ∉ l.drop k:=fun y h1 h2=>by
   have:=List.take_append_drop k l
   rw [← this] at hnd
   exact (List.nodup_append.1 hnd).2.2 y h1 y h2 rfl
  have e1:∀ z∈l.take k,(cutR s l k).r z=l.take k:=fun z hz=>by show (if _ then _ else _)=_;rw [if_pos hz]
  have e2:∀ z∈l.drop k,(cutR s l k).r z=l.drop k:=fun z hz=>by show (if _ then _ else _)=_;rw [if_neg (fun c=>hd z c hz),if_pos hz]
  refine good_part h hl hne (r:=(cutR s l k).r) (A:=[]) (B:=[]) (fun y hy=>?_) (fun y hy=>?_)
  ·show (if _ then _ else _)=_
   rw [if_neg (fun c=>hy (List.mem_of_mem_take c)),if_neg (fun c=>hy (List.mem_of_mem_drop c))]
  ·rw [← List.take_append_drop k l] at hy
   rcases List.mem_append.1 hy with c | c
   ·rw [e1 y c]
    exact ⟨c,fun z hz=>List.mem_of_mem_take hz,fun z hz=>e1 z hz,hnd.sublist (List.take_sublist _ _)⟩
   ·rw [e2 y c]
    exact ⟨c,fun z hz=>List.mem_of_mem_drop hz,fun z hz=>e2 z hz,hnd.sublist (List.drop_sublist _ _)⟩
theorem good_split (h:Good s) (x:Int):Good (splitS s x):=good_cut h x _
theorem good_join (h:Good s) (a b:Int):Good (joinS s a b):=by
 unfold joinS
 split
 ·rename_i e
  unfold joinE at e
  split at e
  ·cases e
  ·split at e
   ·cases e
   ·rename_i h1 h2
    have ha:rowZ s a≠[]:=fun c=>h1 (.inl c)
    have hb:rowZ s b≠[]:=fun c=>h1 (.inr c)
    have hb2:=rowZ_self h hb
    have hdis:∀ y,y∈rowZ s a→y ∉ rowZ s b:=fun y hy hy2=>by
     apply h2
     have e1:=rowZ_same h hy
     have e2:=rowZ_same h hy2
     rw [← e1,e2];exact hb2.1
    have hnd:(rowZ s a ++ rowZ s b).Nodup:=List.nodup_append.2 ⟨rowZ_nodup h a,rowZ_nodup h b,fun x hx y hy e=>hdis x hx (e▸hy)⟩
    have hs:∀ y,y∈rowZ s a∨y∈rowZ s b→(joinR s a b).r y=rowZ s a ++ rowZ s b:=fun y hy=>by show (if _ then _ else _)=_;rw [if_pos hy]
    have hn:∀ y,¬ (y∈rowZ s a∨y∈rowZ s b)→(joinR s a b).r y=s.r y:=fun y hy=>by show (if _ then _ else _)=_;rw [if_neg hy]
    have hout:∀ x z,¬ (x∈rowZ s a∨x∈rowZ s b)→z∈s.r x→¬ (z∈rowZ s a∨z∈rowZ s b):=fun x z hx hz hz2=>by
     apply hx
     have hxx:x∈s.r z:=by
      rw [h.same x z hz]
      rcases Nat.lt_or_ge x s.v.length with c | c
      ·exact h.mem x c
      ·rw [h.none x c] at hz;simp at hz
     rcases hz2 with c | c
     ·left;rw [rowZ_same h c] at hxx;exact hxx
     ·right;rw [rowZ_same h c] at hxx;exact hxx
    refine ⟨fun x hx=>?_,fun x hx=>?_,fun x y hy=>?_,fun x y hy=>?_,fun x=>?_,h.bnd,h.small⟩
    ·by_cases c:x∈rowZ s a∨x∈rowZ s b
     ·rw [hs x c];exact List.mem_append.2 c
     ·rw [hn x c];exact h.mem x hx
    ·have c:¬ (x∈rowZ s a∨x∈rowZ s b):=fun c=>by
      have hx':s.v.length≤x:=hx
      rcases c with c | c
      ·have:=rowZ_lt h c;omega
      ·have:=rowZ_lt h c;omega
     rw [hn x c];exact h.none x hx
    ·show y<s.v.length
     by_cases c:x∈rowZ s a∨x∈rowZ s b
     ·rw [hs x c] at hy
      rcases List.mem_append.1 hy with c | c
      ·exact rowZ_lt h c
      ·exact rowZ_lt h c
     ·rw [hn x c] at hy;exact h.lt x y hy
    ·by_cases c:x∈rowZ s a∨x∈rowZ s b
     ·rw [hs x c] at hy ⊢;exact hs y (List.mem_append.1 hy)
     ·rw [hn x c] at hy ⊢;rw [hn y (hout x y c hy)];exact h.same x y hy
    ·by_cases c:x∈rowZ s a∨x∈rowZ s b
     ·rw [hs x c];exact hnd
     ·rw [hn x c];exact h.nodup x
 ·exact h
theorem addE_fits {x d:Int} (e:addE s x d=0):rowZ s x≠[]∧∀ i∈rowZ s x,fits (Ne.amt s.v i) d=true:=by
 unfold addE at e
 split at e
 ·cases e
 ·split at e
  ·rename_i h1 h2;exact ⟨h1,h2⟩
  ·cases e
theorem good_add (h:Good s) (x d:Int):Good (addS s x d):=by
 unfold addS
 split
 ·rename_i e
  have hl:=addL_len s.v (rowZ s x) d
  refine ⟨fun y hy=>h.mem y (by have:y<(addL s.v (rowZ s x) d).length:=hy;omega),fun y hy=>h.none y (by have:(addL s.v (rowZ s x) d).length≤y:=hy;omega),fun y z hz=>by show z<(addL s.v (rowZ s x) d).length;rw [hl];exact h.lt y z hz,h.same,h.nodup,fun i hi=>?_,by show (addL s.v (rowZ s x) d).length≤3000;rw [hl];exact h.small⟩
  have hi':i<s.v.length:=by have:i<(addL s.v (rowZ s x) d).length:=hi;omega
  show -big≤Ne.amt (addL s.v (rowZ s x) d) i∧_
  rw [addL_at hi']
  split
  ·rename_i c
   exact (fits_iff _ _ (h.bnd i hi')).1 ((addE_fits e).2 i c)
  ·exact h.bnd i hi'
 ·exact h
end
end Sp
end Go.Proofs.YtoadkckceladgaaGreat
namespace Go.Proofs.YtoadkckceladgaaGreat
namespace St
theorem log_mono {a b:Nat} (h:a≤b):a.log2≤b.log2:=by
 by_cases ha:a=0
 ·subst ha;simp
 ·exact (Nat.le_log2 (by omega)).2 (Nat.le_trans (Nat.log2_self_le ha) h)
theorem log_two {a b c:Nat} (ha:1≤a) (hb:1≤b) (h:a+b<c):a.log2+b.log2+1≤2*c.log2:=by
 have key:∀ {a b c:Nat},1≤a→1≤b→a+b<c→a.log2≤b.log2→a.log2+b.log2+1≤2*c.log2:=by
  intro a b c ha hb h hab
  have h1:b.log2≤c.log2:=log_mono (a:=b) (b:=c) (by omega)
  by_cases e:b.log2=c.log2
  ·have h2:=Nat.log2_self_le (n:=b) (by omega)
   have h3:c<2 ^ (c.log2+1):=Nat.lt_log2_self
   rw [e] at h2
   rw [Nat.pow_succ] at h3
   have h4:a.log2<c.log2:=(Nat.log2_lt (by omega)).2 (by omega)
   omega
  ·omega
 rcases Nat.le_total a.log2 b.log2 with c1 | c1
 ·exact key ha hb h c1
 ·have:=key (a:=b) (b:=a) (c:=c) hb ha (by omega) c1
  omega
end St
end Go.Proofs.YtoadkckceladgaaGreat
