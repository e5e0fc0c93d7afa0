/-
  Lst, Rep, Nbr
-/
import Derived.Test.YthhlfphnokdfaaaGreatBf7
import Derived.Test.YthhlfphnokdfaaaGreatBf9
import Derived.Test.YthhlfphnokdfaaaGreatBf5
import Derived.RegionTactic
import Derived.Lib.Mul64
import Derived.Lib.BitFns
import Derived.Laws.Bits64b
import Derived.LoopTactic
import Derived.Test.YthhlfphnokdfaaaGreatBf1
import Derived.Deep.CutBlock
import Derived.Test.YthhlfphnokdfaaaGreatBf11
set_option linter.unusedVariables false
set_option linter.unusedSimpArgs false
set_option maxRecDepth 100000
set_option maxHeartbeats 4000000
namespace Go.Proofs.YthhlfphnokdfaaaGreat
open Go.ChangeShapes Go.WideShapes Go.ChangeAt Go.RowKit
open Lib (hid)
namespace Ne
structure LvSt (w:World) (B g bl bw bm n1:Nat) (L:List Int) (VW:Value) (W:List Nat) (VM:Value) (M:List Nat):Prop where
 boxL:SBox w bl (.slice (some ⟨g,0,none⟩) n1 n1)
 row:IBox w g L
 len:L.length=n1
 boxW:SBox w bw VW
 ow:OwnI w B VW (encW W)
 boxM:SBox w bm VM
 om:OwnI w B VM (encW M)
 sep:∀ h,VW.ownBlock=some h→VM.ownBlock≠some h
 low:g<B∧bl<B∧bw<B∧bm<B
 ne:g≠bl∧g≠bw∧g≠bm∧bl≠bw∧bl≠bm∧bw≠bm
 sz:B≤w.heap.size
structure Fr (B g bl bw bm:Nat) (w w2:World):Prop where
 os:w2.os=w.os
 tape:w2.tape=w.tape
 output:w2.output=w.output
 size:w.heap.size≤w2.heap.size
 block:∀ k,k<B→k≠g→k≠bl→k≠bw→k≠bm→w2.heap[k]? = w.heap[k]?
theorem Fr.refl (B g bl bw bm:Nat) (w:World):Fr B g bl bw bm w w:=⟨rfl,rfl,rfl,Nat.le_refl _,fun _ _ _ _ _ _=>rfl⟩
theorem Fr.trans {B g bl bw bm:Nat} {a b c:World} (h:Fr B g bl bw bm a b) (k:Fr B g bl bw bm b c):Fr B g bl bw bm a c :=
 ⟨k.os.trans h.os,k.tape.trans h.tape,k.output.trans h.output,Nat.le_trans h.size k.size,fun i h1 h2 h3 h4 h5=>(k.block i h1 h2 h3 h4 h5).trans (h.block i h1 h2 h3 h4 h5)⟩
theorem Fr.below {B g bl bw bm B0:Nat} {w w2:World} (h:Fr B g bl bw bm w w2) (h0:B0≤B) (h1:B0≤g) (h2:B0≤bl) (h3:B0≤bw) (h4:B0≤bm):Below B0 w w2 :=
 ⟨h.os,h.tape,h.output,h.size,fun k hk=>h.block k (by omega) (by omega) (by omega) (by omega) (by omega)⟩
theorem Fr.of_below {B g bl bw bm:Nat} {w w2:World} (h:Below B w w2):Fr B g bl bw bm w w2 :=
 ⟨h.os,h.tape,h.output,h.size,fun k hk _ _ _ _=>h.block k hk⟩
theorem Fr.set {B g bl bw bm:Nat} {w w2:World} (h:Fr B g bl bw bm w w2) {p:Addr} (hp:p.block=g∨p.block=bl∨p.block=bw∨p.block=bm) (v:Value):Fr B g bl bw bm w (w2.setCell p v) :=
 ⟨h.os,h.tape,h.output,by have:=h.size;simpa [World.setCell] using this,fun k h1 h2 h3 h4 h5=>(Below.heap_setCell _ _ _ _ (by rcases hp with e | e | e | e <;> rw [e] <;> assumption)).trans (h.block k h1 h2 h3 h4 h5)⟩
theorem Fr.grown {B g bl bw bm:Nat} {w w2 w3:World} {row:Option Nat} (h:Fr B g bl bw bm w w2) (hg:w2.grownBy w3 row) (hB:B≤w2.heap.size) (hr:∀ k,row=some k→B≤k):Fr B g bl bw bm w w3 :=
 ⟨hg.os.trans h.os,hg.tape.trans h.tape,hg.output.trans h.output,Nat.le_trans h.size hg.size,fun k h1 h2 h3 h4 h5=>(hg.block k (by omega) (fun e=>by have:=hr k e.symm;omega)).trans (h.block k h1 h2 h3 h4 h5)⟩
theorem Fr.alloc {B g bl bw bm:Nat} {w w2:World} (h:Fr B g bl bw bm w w2) (hB:B≤w2.heap.size) (o:Obj):Fr B g bl bw bm w (w2.alloc o) :=
 h.trans (.of_below ((Below.refl B w2).alloc hB o))
theorem IBox.growth {w w2:World} {b:Nat} {l:List Int} {row:Option Nat} (h:IBox w b l) (hg:w.grownBy w2 row) (hne:some b≠row):IBox w2 b l:=h.same (hg.block b h.lt hne)
theorem SBox.growth {w w2:World} {b:Nat} {v:Value} {row:Option Nat} (h:SBox w b v) (hg:w.grownBy w2 row) (hne:some b≠row):SBox w2 b v:=h.same (hg.block b h.lt hne)
theorem lvst_met {w w4:World} {B g bl bw bm n1:Nat} {L:List Int} {VW:Value} {W:List Nat} {VM:Value} {M:List Nat} (st:LvSt w B g bl bw bm n1 L VW W VM M) {v:Nat} (hv:v<n1) (k:Int) {x:Value}
  (hg:((w.setCell ⟨g,v,none⟩ (.int .i64 k)).alloc (.cells #[.int .i64 (v:Int)] 3)).grownBy w4 VM.ownBlock) (ho:OwnI w4 B x (encW (M ++ [v])))
  (hx:x.ownBlock=VM.ownBlock∨x.ownBlock=some ((w.setCell ⟨g,v,none⟩ (.int .i64 k)).alloc (.cells #[.int .i64 (v:Int)] 3)).heap.size) :
  SBox w4 bm VM∧LvSt (w4.setCell ⟨bm,0,none⟩ x) B g bl bw bm n1 (L.set v k) VW W x (M ++ [v])∧Fr B g bl bw bm w (w4.setCell ⟨bm,0,none⟩ x):=by
 obtain ⟨l1,l2,l3,l4⟩:=st.low
 obtain ⟨e1,e2,e3,e4,e5,e6⟩:=st.ne
 have hlm:=Rw.own_lt st.om
 have hlw:=Rw.own_lt st.ow
 have hsz:=st.sz
 have hz:((w.setCell ⟨g,v,none⟩ (.int .i64 k)).alloc (.cells #[.int .i64 (v:Int)] 3)).heap.size=w.heap.size+1:=by simp [World.setCell]
 have nr:∀ b,b<B→some b≠VM.ownBlock:=fun b hb e=>by have:=(hlm b e.symm).1;omega
 have a1:SBox w4 bl _:=((st.boxL.far (p:=⟨g,v,none⟩) (Ne.symm e1) (.int .i64 k)).alloc (.cells #[.int .i64 (v:Int)] 3)).growth hg (nr bl l2)
 have a2:IBox w4 g (L.set v k):=((st.row.set (i:=v) (by rw [st.len];exact hv) k).alloc (.cells #[.int .i64 (v:Int)] 3)).growth hg (nr g l1)
 have a3:SBox w4 bw VW:=((st.boxW.far (p:=⟨g,v,none⟩) (Ne.symm e2) (.int .i64 k)).alloc (.cells #[.int .i64 (v:Int)] 3)).growth hg (nr bw l3)
 have a4:SBox w4 bm VM:=((st.boxM.far (p:=⟨g,v,none⟩) (Ne.symm e3) (.int .i64 k)).alloc (.cells #[.int .i64 (v:Int)] 3)).growth hg (nr bm l4)
 have b1:OwnI (w.setCell ⟨g,v,none⟩ (.int .i64 k)) B VW (encW W):=Rw.own_set st.ow (p:=⟨g,v,none⟩) (fun e=>by have:=(hlw g e).1;omega) (.int .i64 k)
 have b2:OwnI w4 B VW (encW W):=Rw.own_grown (Rw.own_alloc b1 (.cells #[.int .i64 (v:Int)] 3)) hg fun h hb e2=>st.sep h hb e2.symm
 have b3:OwnI (w4.setCell ⟨bm,0,none⟩ x) B VW (encW W):=Rw.own_set b2 (p:=⟨bm,0,none⟩) (fun e=>by have:=(hlw bm e).1;omega) x
 have b4:OwnI (w4.setCell ⟨bm,0,none⟩ x) B x (encW (M ++ [v])):=Rw.own_set ho (p:=⟨bm,0,none⟩) (fun e=>by have:=(Rw.own_lt ho bm e).1;omega) x
 refine ⟨a4,⟨a1.far (Ne.symm (Ne.symm e5)) x,a2.far e3 x,by rw [List.length_set];exact st.len,a3.far e6 x,b3,a4.set x,b4,fun h hb hb2=>?_,st.low,st.ne,?_⟩,?_⟩
 ·rcases hx with hx | hx
  ·rw [hx] at hb2;exact st.sep h hb hb2
  ·rw [hx,hz] at hb2
   have:=(hlw h hb).2
   simp at hb2;omega
 ·have:=hg.size;rw [hz] at this;simp [World.setCell];omega
 ·refine Fr.set (p:=⟨bm,0,none⟩) ?_ (.inr (.inr (.inr rfl))) x
  refine Fr.grown ?_ hg (by rw [hz];omega) (fun h hb=>(hlm h hb).1)
  exact ((Fr.refl B g bl bw bm w).set (p:=⟨g,v,none⟩) (.inl rfl) _).alloc (by have:=st.sz;simpa [World.setCell] using this) _
theorem meet_any (w:World) {B g bl bw bm n1:Nat} {L:List Int} {VW:Value} {W:List Nat} {VM:Value} {M:List Nat} (st:LvSt w B g bl bw bm n1 L VW W VM M) {v:Nat} (hv:v<n1) (k:Int) (h64:in64 k) (hM:M.length≤1000000) :
  Calls Tryz.prog 57 #[.int .i64 (v:Int),.int .i64 k,.pointer (some ⟨bl,0,none⟩),.pointer (some ⟨bm,0,none⟩)] w fun e w'=>e=.returned (.tuple #[])∧Fr B g bl bw bm w w' ∧
   (amt L v = -1→∃ VM',LvSt w' B g bl bw bm n1 (L.set v k) VW W VM' (M ++ [v]))∧(amt L v≠-1→LvSt w' B g bl bw bm n1 L VW W VM M):=by
 have HST:=hid st
 have c0:=st.boxL.cell
 have c1:=st.row.cell (i:=v) (by rw [st.len];exact hv)
 have hvi:(v:Int)<(n1:Int):=by omega
 have hv0:(0:Int)≤(v:Int):=by omega
 by_cases c:amt L v = -1
 case neg =>
  have HC:=hid c
  have c':(amt L v == -1)=false:=by simpa using c
  clear st c
  generalize hA:amt L v=a at *
  have HA:=hid hA
  clear hA
  go_enter Tryz.func57,Tryz.ntmps57
  go_wp2
  go_end0
  exact ⟨rfl,Fr.refl _ _ _ _ _ _,fun h=>absurd h HC.out,fun _=>HST.out⟩
 rw [c] at c1
 have HC:=hid c
 have hf1:=st.row.frozen v
 obtain ⟨e1,e2,e3,e4,e5,e6⟩:=st.ne
 have cm:=(st.boxM.far (p:=⟨g,v,none⟩) (Ne.symm e3) (.int .i64 k)).cell
 have cm2:=((st.boxM.far (p:=⟨g,v,none⟩) (Ne.symm e3) (.int .i64 k)).alloc (.cells #[.int .i64 (v:Int)] 3)).cell
 have HL:=hid (show M.length+([(v:Int)]:List Int).length≤1099511627776 by simp;omega)
 have HZ:=hid (show (w.setCell ⟨g,v,none⟩ (.int .i64 k)).heap.size=w.heap.size by simp [World.setCell])
 have hlm:=Rw.own_lt st.om
 have HO3:=hid (Rw.own_alloc (Rw.own_set st.om (p:=⟨g,v,none⟩) (fun e=>by have:=(hlm g e).1;have:=st.low.1;omega) (.int .i64 k)) (.cells #[.int .i64 (v:Int)] 3))
 have HR3:=hid (irow_one' (w.setCell ⟨g,v,none⟩ (.int .i64 k)) (b:=w.heap.size) HZ.out.symm (v:Int) 3)
 have HB3:=hid (show B≤((w.setCell ⟨g,v,none⟩ (.int .i64 k)).alloc (.cells #[.int .i64 (v:Int)] 3)).heap.size by have:=st.sz;simp [World.setCell];omega)
 have HMET:=hid (fun (w4:World) (x:Value) h1 h2 h3=>lvst_met (w4:=w4) (x:=x) st hv k h1 h2 h3)
 clear st c hlm e1 e2 e4 e5 e6
 obtain ⟨om,cmm,hvm,_,_,_,_,_,_⟩:=Rw.own_row encI_len HO3.out
 have HVM:=hid hvm
 rw [encW_len] at hvm
 subst hvm
 go_enter Tryz.func57,Tryz.ntmps57
 go_wp2_with (at_builtin;refine Rw.appAt elemI encI_len encI_one rfl (.tmp 15) (.tmp 17) rfl B _ (encW M) rfl HO3.out ⟨w.heap.size,0,none⟩ 1 [(v:Int)] rfl HR3.out (by rw [encW_len];exact HL.out) HB3.out ?_;intro v4 w4 hown4 hgr4 hat4;rw [← encW_snoc] at hown4;obtain ⟨o4,c4v,hv4,_,_,_,_⟩:=Rw.own_row encI_len hown4;rw [encW_len,List.length_append,List.length_singleton] at hv4;subst hv4;have HEND:=hid (HMET.out w4 _ hgr4 hown4 hat4);have c4:=HEND.out.1.cell;have f4:=HEND.out.1.frozen 0;clear hown4 hgr4 hat4)
 go_end0
 exact ⟨rfl,HEND.out.2.2,fun _=>⟨_,HEND.out.2.1⟩,fun h=>absurd HC.out h⟩
theorem own_void {w:World} {B g m c:Nat} {l:List Int} (h:OwnI w B (.slice (some ⟨g,0,none⟩) m c) l):OwnI w B (.slice (some ⟨g,0,none⟩) 0 c) []:=by
 obtain ⟨h1,h2⟩:=h
 rcases h2 with ⟨hv,_⟩ | ⟨g',cap,cur,hv,hg,hh,hc,hm,hs,ht⟩
 ·simp at hv
 ·simp only [Value.slice.injEq,Option.some.injEq,Addr.mk.injEq,and_true,true_and] at hv
  obtain ⟨rfl,hml,rfl⟩:=hv
  exact ⟨by simp,.inr ⟨g,c,cur,rfl,hg,hh,by simp,hm,hs,by simp⟩⟩
theorem lvst_turn {w:World} {B g bl bw bm n1:Nat} {L:List Int} {VW:Value} {W:List Nat} {VM:Value} {M:List Nat} (st:LvSt w B g bl bw bm n1 L VW W VM M) {x:Value} (ho:OwnI w B x []) (hx:x.ownBlock=VW.ownBlock) :
  LvSt ((w.setCell ⟨bw,0,none⟩ VM).setCell ⟨bm,0,none⟩ x) B g bl bw bm n1 L VM M x []∧Fr B g bl bw bm w ((w.setCell ⟨bw,0,none⟩ VM).setCell ⟨bm,0,none⟩ x):=by
 obtain ⟨l1,l2,l3,l4⟩:=st.low
 obtain ⟨e1,e2,e3,e4,e5,e6⟩:=st.ne
 have hlm:=Rw.own_lt st.om
 have hlx:=Rw.own_lt ho
 refine ⟨⟨(st.boxL.far (p:=⟨bw,0,none⟩) e4 VM).far (p:=⟨bm,0,none⟩) e5 x,(st.row.far (p:=⟨bw,0,none⟩) e2 VM).far (p:=⟨bm,0,none⟩) e3 x,st.len,(st.boxW.set VM).far (p:=⟨bm,0,none⟩) e6 x,?_,(st.boxM.far (p:=⟨bw,0,none⟩) (Ne.symm e6) VM).set x,?_,fun h hb hb2=>?_,st.low,st.ne,?_⟩,?_⟩
 ·exact Rw.own_set (Rw.own_set st.om (p:=⟨bw,0,none⟩) (fun e=>by have:=(hlm bw e).1;omega) VM) (p:=⟨bm,0,none⟩) (fun e=>by have:=(hlm bm e).1;omega) x
 ·exact Rw.own_set (Rw.own_set ho (p:=⟨bw,0,none⟩) (fun e=>by have:=(hlx bw e).1;omega) VM) (p:=⟨bm,0,none⟩) (fun e=>by have:=(hlx bm e).1;omega) x
 ·rw [hx] at hb2;exact st.sep h hb2 hb
 ·have:=st.sz;simpa [World.setCell] using this
 ·exact ((Fr.refl B g bl bw bm w).set (p:=⟨bw,0,none⟩) (.inr (.inr (.inl rfl))) VM).set (p:=⟨bm,0,none⟩) (.inr (.inr (.inr rfl))) x
theorem lvst_drew {w:World} {B g bl bw bm n1:Nat} {L:List Int} {VW:Value} {W:List Nat} {VM:Value} {M:List Nat} (st:LvSt w B g bl bw bm n1 L VW W VM M):LvSt w.drew B g bl bw bm n1 L VW W VM M :=
 ⟨st.boxL,st.row,st.len,st.boxW,st.ow,st.boxM,st.om,st.sep,st.low,st.ne,st.sz⟩
theorem fr_drew (B g bl bw bm:Nat) (w:World):Fr B g bl bw bm w w.drew:=⟨rfl,rfl,rfl,Nat.le_refl _,fun _ _ _ _ _ _=>rfl⟩
theorem lturn_any (w:World) {B g bl bw bm n1:Nat} {L:List Int} {VW:Value} {W:List Nat} {VM:Value} {M:List Nat} (st:LvSt w B g bl bw bm n1 L VW W VM M) :
  Calls Tryz.prog 58 #[.pointer (some ⟨bm,0,none⟩),.pointer (some ⟨bw,0,none⟩)] w fun e w'=>e=.returned (.bool (decide (0<M.length)))∧Fr B g bl bw bm w w'∧∃ VM',LvSt w' B g bl bw bm n1 L VM M VM' []:=by
 have c0:=st.boxW.cell
 have c1:=st.boxM.cell
 have f0:=st.boxW.frozen 0
 have f1:=st.boxM.frozen 0
 have e6:=st.ne.2.2.2.2.2
 have HST:=hid st
 obtain ⟨ow,cw,hvw,_,_,hnw,_,_,hw0⟩:=Rw.own_row encI_len st.ow
 obtain ⟨om,cm,hvm,_,_,hnm,_,_,_⟩:=Rw.own_row encI_len st.om
 rw [encW_len] at hvw hvm
 obtain ⟨mw,hmw⟩:∃ mw,mw=W.length:=⟨_,rfl⟩
 obtain ⟨mm,hmm⟩:∃ mm,mm=M.length:=⟨_,rfl⟩
 rw [← hmw] at hvw
 rw [← hmm] at hvm ⊢
 clear hmm hmw
 have hmm0:(0:Int)≤(mm:Int):=by omega
 subst hvw
 subst hvm
 rcases ow with _ | a
 ·obtain rfl:=hnw rfl
  have HEND:=hid (lvst_turn (lvst_drew st) (x:=.slice none 0 0) (Rw.own_nil _ _) rfl)
  clear st
  go_enter Tryz.func58,Tryz.ntmps58
  go_wp2
  go_region
  all_goals (try go_wp2)
  all_goals go_ret
  all_goals exact ⟨rfl,(fr_drew _ _ _ _ _ _).trans HEND.out.2,_,HEND.out.1⟩
 ·obtain ⟨b,rfl⟩:=hw0 a rfl
  have HEND:=hid (lvst_turn (lvst_drew st) (x:=.slice (some ⟨b,0,none⟩) 0 cw) (own_void (lvst_drew st).ow) rfl)
  clear st
  go_enter Tryz.func58,Tryz.ntmps58
  go_wp2
  go_region
  all_goals (try go_wp2)
  all_goals go_ret
  all_goals exact ⟨rfl,(fr_drew _ _ _ _ _ _).trans HEND.out.2,_,HEND.out.1⟩
end Ne
namespace Ne
theorem maskN (a:Nat) (ha:a<18446744073709551616):bits .and .u64 (a:Int) 4294967295=((a % 4294967296:Nat):Int):=by
 have h:=bits_and_u64_nat a 4294967295 ha (by omega)
 have e:a &&& 4294967295=a % 4294967296:=Nat.and_two_pow_sub_one_eq_mod a 32
 rw [e] at h
 exact h
theorem divN (a:Nat):(a:Int) / 4294967296=((a / 4294967296:Nat):Int):=by omega
theorem mulN (a b:Nat):(a:Int)*(b:Int)=((a*b:Nat):Int):=(Int.natCast_mul a b).symm
theorem plusN (a b:Nat):(a:Int)+(b:Int)=((a+b:Nat):Int):=(Int.natCast_add a b).symm
theorem wrapN (a:Nat) (ha:a<18446744073709551616):IntKind.u64.wrap (a:Int)=(a:Int):=by rw [IntKind.wrap_u64];omega
theorem wrapM (a:Nat):IntKind.u64.wrap (a:Int)=((a % 18446744073709551616:Nat):Int):=by rw [IntKind.wrap_u64];omega
def hiW (x y:Nat):Int:=((x*y / 18446744073709551616:Nat):Int)
def loW (x y:Nat):Int:=((x*y % 18446744073709551616:Nat):Int)
theorem mul64_any (x y:Nat) (w:World) (hx:x<18446744073709551616) (hy:y<18446744073709551616) :
  Calls Tryz.prog 62 #[.int .u64 x,.int .u64 y] w fun e w'=>e=.returned (.tuple #[.int .u64 (hiW x y),.int .u64 (loW x y)])∧w=w':=by
 obtain ⟨bd,bt,bw,hhi⟩:=Lib.mul64_hi x y hx hy
 have ba:=Lib.half_mul_le (a:=x / 4294967296) (b:=y / 4294967296) (by omega) (by omega)
 have bb:=Lib.half_mul_le (a:=x / 4294967296) (b:=y % 4294967296) (by omega) (by omega)
 have bc:=Lib.half_mul_le (a:=x % 4294967296) (b:=y / 4294967296) (by omega) (by omega)
 have ba':x / 4294967296*(y / 4294967296)<18446744073709551616:=by omega
 have bb':x / 4294967296*(y % 4294967296)<18446744073709551616:=by omega
 have bc':x % 4294967296*(y / 4294967296)<18446744073709551616:=by omega
 have bh1:x / 4294967296*(y / 4294967296)+(x / 4294967296*(y % 4294967296)+x % 4294967296*(y % 4294967296) / 4294967296) / 4294967296<18446744073709551616:=by omega
 have bh:x / 4294967296*(y / 4294967296)+(x / 4294967296*(y % 4294967296)+x % 4294967296*(y % 4294967296) / 4294967296) / 4294967296+((x / 4294967296*(y % 4294967296)+x % 4294967296*(y % 4294967296) / 4294967296) % 4294967296+x % 4294967296*(y / 4294967296)) / 4294967296<18446744073709551616:=by omega
 go_enter Tryz.func62,Tryz.ntmps62
 go_wp2
 simp only [maskN x hx,maskN y hy,divN,mulN,plusN,wrapN _ bd,wrapN _ bb',wrapN _ bt,maskN _ bt,wrapN _ bc',wrapN _ bw,wrapN _ ba',wrapN _ bh1,wrapN _ bh,wrapM (x*y)]
 rw [hhi]
 go_ret2
 exact ⟨rfl,rfl⟩
theorem mul1_any (m:Nat) (w:World) (hm:m≤1000000):Calls Tryz.prog 60 #[.int .u64 1,.int .u64 (m:Int)] w fun e w'=>e=.returned (.tuple #[.int .u64 0,.int .u64 (m:Int)])∧w=w':=by
 have h:=mul64_any 1 m w (by omega) (by omega)
 rw [show hiW 1 m=0 by unfold hiW;omega,show loW 1 m=(m:Int) by unfold loW;omega] at h
 have H:=hid h
 clear h
 go_enter Tryz.func60,Tryz.ntmps60
 go_wp2_with fail
 refine H.out.mono ?_
 rintro e w' ⟨rfl,rfl⟩
 go_wp2
 go_ret2
 exact ⟨rfl,rfl⟩
theorem stepCopy {P:Program} {ops:Array Oper} {o:Oper} {a:Act} {w:World} {K:Act→World→Prop} {Q:Exit→Act→World→Prop} {E':Prop} (hgd:o.guard=none) (d s:Operand) (dT sT:TypeId)
  (ho:o.op=.call { callee:=.builtin .copy,args:=#[d,s],argTypes:=#[dT,sT] }) (elem:TypeId) (hu:P.underlying dT=some (.slice elem)) (hsz:(P.info? elem).map (·.size)=some 1)
  (dp sp:Option Addr) (dLen dCap sLen sCap:Nat) (hd:a.eval d=.slice dp dLen dCap) (hs:a.eval s=.slice sp sLen sCap)
  (g off:Nat) (cur:List Value) (t:TypeId) (hg:w.heap[g]? = some (.cells cur.toArray t (0,0))) (cs:List Value) (hn:cs.length=Nat.min sLen dLen)
  (hpos:0<cs.length→dp=some ⟨g,off,none⟩∧∃ ad,sp=some ad∧∀ j v,cs[j]? = some v→w.cell? (ad.add j)=some v)
  (hfit:off+cs.length≤cur.length) (h1:∀ v∈cs,v.oneCell' = true) (B:Nat) (w0:World) (hb:Below B w0 w) (hBg:B≤g) (k:Nat) (hk:cs.length=k) (dst:Option Tmp) (hdst:o.dst=dst)
  (h:∀ w',Hid (w'.heap[g]? = some (.cells (splice cur off cs).toArray t (0,0)))→Below B w0 w'→K (a.put dst (.int .i64 (k:Int))) w') :
  if Region.wanted o (yielded ops a.tmps)=true then Oper.wp P o a w K Q else E':=by
 subst hk;subst hdst
 exact step_copy_splice hgd d s dT sT ho elem hu hsz dp sp dLen dCap sLen sCap hd hs g off cur t hg cs hn hpos hfit h1 B w0 hb hBg h
theorem repeat_any (b:Nat) (a:Int) (m:Nat) (w:World) (hm0:1≤m) (hm:m≤1000000) (h0:w.cell? ⟨b,0,none⟩=some (.int .i64 a)) :
  Calls Tryz.prog 55 #[.slice (some ⟨b,0,none⟩) 1 1,.int .i64 (m:Int)] w fun e w'=>∃ g,e=.returned (.slice (some ⟨g,0,none⟩) m m)∧IBox w' g (List.replicate m a)∧w.heap.size≤g∧Below w.heap.size w w':=by
 have MU:=hid (fun w'=>mul1_any m w' hm)
 have hmk:=make_i m hm
 have HM0:=hid (ibox_made w m rfl)
 have HBM:=hid ((Below.refl w.heap.size w).alloc (Nat.le_refl _) (.cells (madeCells #[.int .i64 0] m) 3))
 have HC0:=hid ((HBM.out.cell (p:=⟨b,0,none⟩) (World.block_lt_of_cell? w _ h0)).trans h0)
 have HZL:=hid (repL_zero m a)
 have HAL:=hid (repL_all m a)
 have HLEN:=hid (fun c (h:c≤m)=>repL_len (m:=m) (c:=c) a h)
 have HPUT:=hid (fun c k (h:c+k≤m)=>repL_put (m:=m) (c:=c) (k:=k) a h)
 have HATL:=hid (fun c j (h:j<c)=>repL_at (m:=m) (c:=c) (j:=j) a h)
 generalize (fun c=>repL m c a)=RLf at *
 obtain ⟨RL,hRL⟩:∃ RL:Nat→List Int,RL=fun c=>repL m c a:=⟨_,rfl⟩
 have HRE:=hid (show ∀ c,repL m c a=RL c from fun c=>by rw [hRL])
 clear hRL
 simp only [HRE.out] at HZL HAL HLEN HPUT HATL
 clear HRE
 rw [← HAL.out]
 obtain ⟨CS,hCS⟩:∃ CS:Nat→List Value,CS=fun k=>(List.replicate k a).map (Value.int .i64):=⟨_,rfl⟩
 have HCL:=hid (show ∀ k,(CS k).length=k from fun k=>by rw [hCS];simp)
 have HCA:=hid (show ∀ k j v,(CS k)[j]? = some v→v=.int .i64 a∧j<k from fun k j v h=>by
  rw [hCS] at h;simp [List.getElem?_replicate] at h;exact ⟨h.2.symm,h.1⟩)
 have HC1:=hid (show ∀ k,∀ v∈CS k,v.oneCell' = true from fun k v h=>by
  rw [hCS] at h;simp at h;rw [h.2];rfl)
 have HCE:=hid (show ∀ k,(List.replicate k a).map (Value.int .i64)=CS k from fun k=>by rw [hCS])
 clear hCS
 simp only [HCE.out] at HPUT
 clear HCE
 have hmi:(m:Int)≤1000000:=by omega
 have hmi1:(1:Int)≤(m:Int):=by omega
 have hmi0:(0:Int)≤(m:Int):=by omega
 clear h0
 go_enter Tryz.func55,Tryz.ntmps55
 go_wp2_with fail
 refine (MU.out _).mono ?_
 rintro e w' ⟨rfl,rfl⟩
 have HMA:=hid (show IBox (w.alloc (.cells (madeCells #[.int .i64 0] m) 3)) w.heap.size (RL 0) by rw [HZL.out];exact HM0.out)
 have HN1:=hid (show (CS 1).length=Nat.min 1 m by rw [HCL.out];simp [Nat.min_def];omega)
 have HF1:=hid (show 0+(CS 1).length≤((RL 0).map (Value.int .i64)).length by rw [HCL.out,List.length_map,HLEN.out 0 (by omega)];omega)
 have HP1:=hid (HPUT.out 0 1 (by omega))
 have HS1:=hid (show ∀ j v,(CS 1)[j]? = some v→(w.alloc (.cells (madeCells #[.int .i64 0] m) 3)).cell? ((⟨b,0,none⟩:Addr).add j)=some v from fun j v hj=>by
  obtain ⟨h1,h2⟩:=HCA.out 1 j v hj
  obtain rfl:j=0:=by omega
  rw [h1]
  exact HC0.out)
 clear MU HM0
 go_wp2_with (refine wpList_copy_splice rfl (.tmp 31) (.tmp 32) 23 23 rfl 3 (by kernel_rfl) (by kernel_rfl) _ _ _ _ _ _ rfl rfl w.heap.size 0 ((RL 0).map (Value.int .i64)) 3 HMA.out.list (CS 1) HN1.out (fun _=>⟨rfl,⟨b,0,none⟩,rfl,HS1.out⟩) HF1.out (HC1.out 1) w.heap.size w HBM.out (Nat.le_refl _) ?_;intro w2 hg2 hb2;have HM2:=hid (show IBox w2 w.heap.size (RL 1) from IBox.of_list (by have:=hg2.out;rwa [HP1.out] at this));have HB2:=hid hb2;clear hg2 hb2;rw [HCL.out])
 clear hmk
 go_loopw [8] (fun i wr=>∃ c:Nat,i=.int .i64 c∧1≤c∧c≤m∧Hid (IBox wr w.heap.size (RL c))∧Hid (Below w.heap.size w wr)) (fun i _=>m-(intOf i).toNat)
 case atStart=>exact ⟨1,rfl,Nat.le_refl _,hm0,HM2,HB2⟩
 case round =>
  obtain ⟨c,rfl,hc1,hcm,HMW,HBW⟩:=hrel
  have hci0:(0:Int)≤(c:Int):=by omega
  by_cases hlt:c<m
  ·have hci:(c:Int)<(m:Int):=by omega
   have hcil:(c:Int)≤(m:Int):=by omega
   have hne:¬ m=c:=by omega
   obtain ⟨k,hk⟩:∃ k,k=Nat.min c (m-c):=⟨_,rfl⟩
   have hk1:1≤k∧c+k≤m∧k≤c:=by rw [hk];simp only [Nat.min_def];split <;> omega
   have HN:=hid (show (CS k).length=Nat.min c (m-c) by rw [HCL.out,hk])
   have HPK:=hid (HPUT.out c k hk1.2.1)
   have HFIT:=hid (show c+(CS k).length≤((RL c).map (Value.int .i64)).length by rw [HCL.out,List.length_map,HLEN.out c hcm];omega)
   have HMD:=hid (show IBox wr.drew w.heap.size (RL c) from HMW.out)
   have HBD:=hid (below_drew HBW.out)
   have HSRC:=hid (show ∀ j v,(CS k)[j]? = some v→wr.drew.cell? ((⟨w.heap.size,0,none⟩:Addr).add j)=some v from fun j v hj=>by
    obtain ⟨h1,h2⟩:=HCA.out k j v hj
    rw [h1,Rw.add_at,Nat.zero_add]
    have h3:=HMD.out.cell (i:=j) (by rw [HLEN.out c hcm];omega)
    rwa [amt_of (HATL.out c j (by omega))] at h3)
   have hwr:IntKind.i64.wrap ((c:Int)+(k:Int))=((c+k:Nat):Int):=by rw [IntKind.wrap_i64];omega
   clear hk
   go_wp2
   go_upto_region 9 with fail
   refine Rh.start (S:=(fun _=>True)) (by kernel_rfl) ?_
   refine Rh.tp 38 0 trivial ?_
   refine Rh.tp 39 1 trivial ?_
   refine Rh.tp 40 2 trivial ?_
   refine Rh.tp 41 3 trivial ?_
   refine Rh.tp 42 4 trivial ?_
   refine Rh.tp 43 5 trivial ?_
   refine Rh.tp 44 6 trivial ?_
   refine Rh.step (i:=7) (by kernel_rfl) rfl fun K' hK'=>?_
   refine stepCopy rfl (.tmp 41) (.tmp 44) 23 23 rfl 3 (by kernel_rfl) (by kernel_rfl) _ _ _ _ _ _ rfl rfl w.heap.size c ((RL c).map (Value.int .i64)) 3 HMD.out.list (CS k) HN.out (fun _=>⟨rfl,⟨w.heap.size,0,none⟩,rfl,HSRC.out⟩) HFIT.out (HC1.out k) w.heap.size w HBD.out (Nat.le_refl _) k (HCL.out k) (some 45) rfl ?_
   intro w2 hg2 hb2
   have HM2:=hid (show IBox w2 w.heap.size (RL (c+k)) from IBox.of_list (by have:=hg2.out;rwa [HPK.out] at this))
   have HB2:=hid hb2
   clear hg2 hb2
   refine hK' _ _ ⟨trivial,?_⟩
   clear hK' K'
   try simp only [Act.put,Rh.q1,Rh.q2,Rh.q3]
   refine Rh.tp 46 8 trivial ?_
   refine Rh.tp 8 9 trivial ?_
   refine Rh.done (by kernel_rfl) ?_ _
   go_wp2
   go_roundw
   case rel=>exact ⟨c+k,rfl,by omega,by omega,HM2,HB2⟩
   case measure=>simp [intOf];omega
  ·have ec:c=m:=by omega
   subst ec
   clear hlt
   go_wp2
   go_ret
   exact ⟨w.heap.size,rfl,HMW.out,Nat.le_refl _,HBW.out⟩
end Ne
namespace Ne
theorem nbr_any (n:Net) (ao:Option Addr) (cap:Nat) (tk:Option Addr) (tc:Nat) (T:List Nat) (w:World) (hr:ARow w ao n.l) (ht:IRow w tk (encW T)) (hR:Right n) (hT:∀ r∈T,r<2*n.l.length) (hTl:T.length≤1000000) :
  Calls Tryz.prog 56 #[encN n ao cap,.slice tk T.length tc] w fun e w'=>∃ lb VS,e=.returned (.slice (some ⟨lb,0,none⟩) (n.n.toNat+1) (n.n.toNat+1))∧GBox w' lb (n.n.toNat+1) VS (nbL n.l T)∧w.heap.size≤lb∧Below w.heap.size w w':=by
 have hl:n.l.length≤1000000:=by have:=hR.len;omega
 have hLL:=hR.len
 have hN0:=hR.n0
 have hN1:=hR.n1
 have HEN:=hid (fun (j:Nat) (h:j<2*n.l.length) w' h1=>show Calls Tryz.prog 49 #[encN n ao cap,.int .i64 (j:Int)] w' fun e w2=>e=.returned (.tuple #[.int .i64 (((trF n.l j).toNat:Nat):Int),.int .i64 (((trT n.l j).toNat:Nat):Int)])∧Below w'.heap.size w' w2 by
  have:=ends_any n ao cap (j:Int) w' h1 hl (by unfold in64;omega)
  rw [enF_in h,enT_in h] at this
  have hb:=trF_bd hR h
  have hb2:=trT_bd hR h
  rwa [show (((trF n.l j).toNat:Nat):Int)=trF n.l j by omega,show (((trT n.l j).toNat:Nat):Int)=trT n.l j by omega])
 have HTB:=hid (fun (j:Nat) (h:j<2*n.l.length)=>show (trF n.l j).toNat<n.n.toNat+1 by have:=trF_bd hR h;omega)
 have HST:=hid (fun (j:Nat) (h:j<T.length) (v:Nat)=>show (if v=(trF n.l (T.getD j 0)).toNat then nbL n.l (T.take j) (trF n.l (T.getD j 0)).toNat ++ [(trT n.l (T.getD j 0)).toNat] else nbL n.l (T.take j) v)=nbL n.l (T.take (j+1)) v by
  rw [show T.take (j+1)=T.take j ++ [T.getD j 0] by rw [List.take_add_one,List.getElem?_eq_getElem h];simp [List.getD_eq_getElem?_getD,List.getElem?_eq_getElem h],nbL_snoc]
  by_cases e:v=(trF n.l (T.getD j 0)).toNat
  ·subst e;rw [if_pos rfl]
  ·rw [if_neg e,if_neg e])
 have HFL:=hid (fun (k v:Nat)=>show (nbL n.l (T.take k) v).length≤1000000 by have:=nbL_len n.l (T.take k) v;simp at this;omega)
 have HF0:=hid (fun (v:Nat)=>show nbL n.l (T.take 0) v=[] by simp [nbL])
 have HFA:=hid (show (fun v=>nbL n.l (T.take T.length) v)=nbL n.l T by rw [List.take_length])
 have HTD:=hid (fun (j:Nat) (h:j<T.length)=>show T.getD j 0<2*n.l.length from hT _ (getD_mem h))
 have HTC:=hid (fun (j:Nat) (h:j<T.length)=>encW_at (l:=T) h)
 have HTL:=hid (encW_len T)
 rw [← HFA.out]
 obtain ⟨FL,hFL⟩:∃ FL,FL=fun k v=>nbL n.l (T.take k) v:=⟨_,rfl⟩
 simp only [show ∀ k v,nbL n.l (T.take k) v=FL k v from fun k v=>by rw [hFL]] at HST HFL HF0 ⊢
 clear hFL HFA
 obtain ⟨TD,hTD⟩:∃ TD:Nat→Nat,TD=fun j=>T.getD j 0:=⟨_,rfl⟩
 have HTDE:=hid (show ∀ j,T.getD j 0=TD j from fun j=>by rw [hTD])
 clear hTD
 simp only [HTDE.out] at HST HTD HTC
 clear HTDE hT
 have HT:=hid ht
 clear ht
 generalize encW T=TW at *
 generalize T.length=tl at *
 generalize hTF:(fun j=>(trF n.l j).toNat)=TF at *
 have HTE:=hid (show ∀ j,(trF n.l j).toNat=TF j from fun j=>by rw [← hTF])
 clear hTF
 generalize hTT:(fun j=>(trT n.l j).toNat)=TT at *
 have HTG:=hid (show ∀ j,(trT n.l j).toNat=TT j from fun j=>by rw [← hTT])
 clear hTT
 simp only [HTE.out,HTG.out] at HEN HTB HST
 clear HTE HTG hR
 obtain ⟨nn,ns,nt,l⟩:=n
 simp only at hr hl hLL hN0 hN1 HEN HTB HTD ⊢
 obtain ⟨N,rfl⟩:∃ N:Nat,nn=(N:Int):=⟨nn.toNat,by omega⟩
 simp only [Int.toNat_natCast] at HTB ⊢
 have hmk:=make_r (N+1) (by omega)
 simp only [Int.natCast_add,Int.natCast_one] at hmk
 have HB0:=hid ((Below.refl w.heap.size w).alloc (Nat.le_refl _) (.cells #[.int .i64 (N:Int),.int .i64 ns,.int .i64 nt,.slice ao l.length cap] 27))
 have HN0:=hid (netBox_new w (N:Int) ns nt (.slice ao l.length cap))
 have HR:=hid hr
 clear hr
 obtain ⟨n0,n1,n2,n3⟩:=netBox_cells HN0.out
 have HZ:(w.alloc (.cells #[.int .i64 (N:Int),.int .i64 ns,.int .i64 nt,.slice ao l.length cap] 27)).heap.size=w.heap.size+1:=by simp
 have HZH:=hid HZ
 clear HZ
 go_enter Tryz.func56,Tryz.ntmps56
 go_wp2_with fail
 have HG0:=hid (gbox_made (w.alloc (.cells #[.int .i64 (N:Int),.int .i64 ns,.int .i64 nt,.slice ao l.length cap] 27)) (N+1) (b:=w.heap.size+1) HZH.out.symm)
 have HBG:=hid (HB0.out.alloc (by rw [HZH.out];omega) (.cells (madeCells #[.slice none 0 0] (N+1)) 23))
 have HNG:=hid (netBox_alloc HN0.out (.cells (madeCells #[.slice none 0 0] (N+1)) 23))
 clear hmk n0 n1 n2 n3 HB0 HN0
 generalize ((w.alloc (.cells #[.int .i64 (N:Int),.int .i64 ns,.int .i64 nt,.slice ao l.length cap] 27)).alloc (.cells (madeCells #[.slice none 0 0] (N+1)) 23))=W1 at *
 have HGX:=hid (gbox_same HG0.out (U':=fun v=>FL 0 v) (fun v _=>(HF0.out _).symm))
 have HZX:=hid (show w.heap.size+1<W1.heap.size from HGX.out.lt)
 have HBX:=HBG
 have HNX:=HNG
 clear HG0 HF0 HZH
 go_wp2
 obtain ⟨lb,hlb⟩:∃ lb,lb=w.heap.size+1:=⟨_,rfl⟩
 rw [← hlb] at HGX HZX ⊢
 have HLB:=hid hlb
 clear hlb
 go_loopw [16] (fun i wr=>∃ (j:Nat) (VS:Nat→Value),i=.int .i64 j∧j≤tl∧Hid (GBox wr lb (N+1) VS (fun v=>FL j v))∧Hid (Below w.heap.size w wr)∧Hid (NetBox wr w.heap.size (N:Int) ns nt (.slice ao l.length cap))) (fun i _=>tl-(intOf i).toNat)
 case atStart=>exact ⟨0,_,rfl,Nat.zero_le _,HGX,HBX,HNX⟩
 case round =>
  obtain ⟨j,VS,rfl,hj,HGW,HBW,HNW⟩:=hrel
  by_cases hlt:j<tl
  ·obtain ⟨n0,n1,n2,n3⟩:=netBox_cells HNW.out
   have hji:(j:Int)<(tl:Int):=by omega
   have hj0:(0:Int)≤(j:Int):=by omega
   have HSJ:=hid (HST.out j hlt)
   obtain ⟨b2,off2,rfl,hbl2,d0⟩:=irow_cell (HT.out.kept HBW.out) (i:=j) (by rw [HTL.out];exact hlt)
   rw [HTC.out j hlt] at d0
   have hrj:=HTD.out j hlt
   generalize TD j=r at *
   have EN:=hid (fun w'=>HEN.out r hrj w')
   have htb:=HTB.out r hrj
   generalize TF r=t at *
   generalize TT r=y at *
   have hti:(t:Int)<(N:Int)+1:=by omega
   have ht0:(0:Int)≤(t:Int):=by omega
   have HOV:=hid (HGW.out.own t htb)
   go_wp2_with fail
   refine (EN.out _ (HR.out.kept HBW.out)).mono ?_
   rintro e w2 ⟨rfl,hb⟩
   have HB2:=hid (HBW.out.trans (hb.mono HBW.out.size))
   have HN2:=hid (netBox_below HNW.out hb (netBox_lt HNW.out))
   have HG2:=hid (HGW.out.below hb)
   have c0:=HG2.out.cell htb
   have HFR:=hid (World.rowIs.frozen HG2.out.row t)
   have HO3:=hid (Rw.own_alloc (HG2.out.own t htb) (.cells #[.int .i64 (y:Int)] 3))
   have HG3:=hid (HG2.out.alloc (.cells #[.int .i64 (y:Int)] 3))
   have HR3:=hid (irow_one' w2 rfl (y:Int) 3)
   have HLN:=hid (show (encW (FL j t)).length+([(y:Int)]:List Int).length≤1099511627776 by have:=HFL.out j t;rw [encW_len];simp;omega)
   have HB3:=hid (HB2.out.alloc HB2.out.size (.cells #[.int .i64 (y:Int)] 3))
   have HN3:=hid (netBox_alloc HN2.out (.cells #[.int .i64 (y:Int)] 3))
   have HL3:=hid (show lb+1≤(w2.alloc (.cells #[.int .i64 (y:Int)] 3)).heap.size by have:=HG3.out.lt;omega)
   have HVB:=hid (Rw.own_lt HO3.out)
   have hlbw:w.heap.size<lb:=by have:=HLB.out;omega
   clear hb n0 n1 n2 n3 HOV
   obtain ⟨VT,hVT⟩:∃ VT,VT=VS t:=⟨_,rfl⟩
   have HVT:=hid hVT
   rw [← hVT] at c0 HO3 HVB
   clear hVT
   obtain ⟨at_,ct,hat,_,_,hnt,_,_,hat2⟩:=Rw.own_row encI_len HO3.out
   subst hat
   go_wp2_with (at_builtin;refine Rw.appAt elemI encI_len encI_one rfl (.tmp 31) (.tmp 33) rfl (lb+1) _ (encW (FL j t)) rfl HO3.out ⟨w2.heap.size,0,none⟩ 1 [(y:Int)] rfl HR3.out HLN.out ?hB ?_;(case hB=>(exact HL3.out));intro v4 w4 hown4 hgr4 hat4;rw [← encW_snoc] at hown4;obtain ⟨o4,c4v,hv4,_,_,_,_⟩:=Rw.own_row encI_len hown4;rw [encW_len,List.length_append,List.length_singleton] at hv4;subst hv4;have HO4:=hid hown4;have HGR:=hid hgr4;have HA4:=hid hat4;have f4:w4.frozen? ⟨lb,t,none⟩=false:=World.rowIs.frozen (World.rowIs.of_block HG3.out.row (hgr4.block lb HG3.out.lt (fun e=>by have:=(HVB.out lb e.symm).1;omega))) t;have c4:=World.rowIs.cell (World.rowIs.of_block HG3.out.row (hgr4.block lb HG3.out.lt (fun e=>by have:=(HVB.out lb e.symm).1;omega))) htb;clear hown4 hgr4 hat4)
   have HG5:=hid (GBox.put HG3.out htb (u:=FL j t ++ [y]) (by rw [← HVT.out];exact HGR.out) HO4.out (by rw [← HVT.out];exact HA4.out))
   have HG6:=hid (gbox_same HG5.out (U':=fun v=>FL (j+1) v) (fun v hv=>HSJ.out v))
   have HB4:=hid (HB3.out.grown HGR.out HB3.out.size (fun b hb=>by have:=(HVB.out b hb).1;omega))
   have HN4:=hid (netBox_grown HN3.out HGR.out (fun e=>by have:=(HVB.out _ e.symm).1;omega))
   have HB5:=hid (HB4.out.setCell (p:=⟨lb,t,none⟩) (by show w.heap.size≤lb;omega) (.slice o4 ((FL j t).length+1) c4v))
   have HN5:=hid (netBox_other HN4.out (b2:=lb) (o:=t) (v2:=.slice o4 ((FL j t).length+1) c4v) (by omega))
   go_roundw
   case rel=>exact ⟨j+1,_,by go_num,by omega,HG6,HB5,HN5⟩
   case measure=>simp [intOf];omega
  ·have ej:j=tl:=by omega
   subst ej
   clear hlt hj
   go_wp2
   go_ret
   exact ⟨lb,VS,rfl,HGW.out,by have:=HLB.out;omega,HBW.out⟩
end Ne
end Go.Proofs.YthhlfphnokdfaaaGreat
