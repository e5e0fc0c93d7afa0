/-
  Swa
-/
import Derived.Test.YthhlfphnokdfaaaGreatBf23
import Derived.Test.YthhlfphnokdfaaaGreatBf16
import Derived.Test.YthhlfphnokdfaaaGreatBf19
set_option linter.unusedVariables false
set_option linter.unusedSimpArgs false
set_option maxRecDepth 100000
set_option maxHeartbeats 4000000
namespace Go.Proofs.YthhlfphnokdfaaaGreat
open Go.ChangeShapes Go.WideShapes Go.ChangeAt Go.RowKit
open Lib (hid)
namespace Sp
open Sv
def SpO (w:World) (B:Nat) (F:Nat→Prop) (p:Nat) (s:St) (lo hi:Nat):Prop :=
 ∃ g c M I P D,SpM w B p g s.v.length M c∧Inv s.v.length (Ne.amt s.v) s.r No M I P D∧Good s∧(∀ k,PG p g k→F k)∧(∀ k,F k→B≤k∧k<w.heap.size)∧lo≤c∧c+6*pot I s.v.length≤hi
def it (s:St) (x:Int):Nat:=if rowZ s x=[] then 0 else 1
theorem log_le {l n:Nat} (h:l≤n) (hn:n≤3000):l.log2≤(Num.logF (n:Int)).toNat:=by
 refine Nat.le_trans (St.log_mono h) ?_
 by_cases c:n<2
 ·have:n=0∨n=1:=by omega
  have e:n.log2=0:=by rcases this with rfl | rfl <;> decide
  rw [e];exact Nat.zero_le _
 ·obtain ⟨k,h1,h2,h3,h4,h5⟩:=Num.logF_spec (n:Int) (by omega) (by omega)
  rw [h1]
  have h6:n≤2 ^ k:=by
   have:((n:Nat):Int)≤((2 ^ k:Nat):Int):=by rw [Num.pc];exact h4
   exact Int.ofNat_le.1 this
  have:=St.log_mono h6
  rw [Nat.log2_two_pow] at this
  simpa using this
section
variable {w w2:World} {B p lo hi:Nat} {F G:Nat→Prop} {s:St}
theorem SpO.good (h:SpO w B F p s lo hi):Good s:=by obtain ⟨g,c,M,I,P,D,h1,h2,h3,_⟩:=h;exact h3
theorem SpO.fin (h:SpO w B F p s lo hi):∀ g,F g→B≤g∧g<w.heap.size:=by obtain ⟨g,c,M,I,P,D,h1,h2,h3,h4,h5,_⟩:=h;exact h5
theorem SpO.off (h:SpO w B F p s lo hi) (ho:Off G w w2) (hd:∀ g,F g→¬ G g):SpO w2 B F p s lo hi:=by
 obtain ⟨g,c,M,I,P,D,h1,h2,h3,h4,h5,h6,h7⟩:=h
 exact ⟨g,c,M,I,P,D,h1.off ho (hd _ (h4 _ (.inl rfl))) (hd _ (h4 _ (.inr rfl))),h2,h3,h4,fun k hk=>⟨(h5 k hk).1,Nat.lt_of_lt_of_le (h5 k hk).2 ho.size⟩,h6,h7⟩
theorem SpO.grow {hi2:Nat} (h:SpO w B F p s lo hi) (hh:hi≤hi2):SpO w B F p s lo hi2:=by
 obtain ⟨g,c,M,I,P,D,h1,h2,h3,h4,h5,h6,h7⟩:=h
 exact ⟨g,c,M,I,P,D,h1,h2,h3,h4,h5,h6,Nat.le_trans h7 hh⟩
end
end Sp
namespace Sv
section
variable {w w1 w2 w0:World} {B p g n c:Nat} {V:Nat→Int} {r:Nat→List Nat} {M:Nat→Nd} {I:Nat→List Nat} {P:Nat→Bool} {D:Nat→Int}
theorem Splayed.ended {y k:Nat} (h:Splayed w w1 B p g n V r M I c y k) (hy:y<n):Ended (PG p g) w w1 B p g n V r M I y c y:=by
 obtain ⟨M',I',P',D',h1,h2,h3,h4,h5,h6⟩:=h
 exact ⟨_,M',I',P',D',h1.toSpM,h1.off,h2,h3,h4,h5,hy,rfl,by omega,by omega⟩
theorem Ended.pre {F:Nat→Prop} {top v:Nat} (h:Ended F w1 w2 B p g n V r M I top c v) (ho:Sp.Off F w w1):Ended F w w2 B p g n V r M I top c v:=by
 obtain ⟨c',M',I',P',D',h1,h2,h3⟩:=h
 exact ⟨c',M',I',P',D',h1,ho.trans h2 fun _ h=>.inl h,h3⟩
theorem bx_new {w:World} {b:Nat} (hb:b=w.heap.size) (v:Value) (T:TypeId):Bx (w.alloc (.cells #[v] T)) b v:=by
 subst hb
 have e:(w.alloc (.cells #[v] T)).heap[w.heap.size]? = some (.cells #[v] T):=by show (w.heap.push _)[w.heap.size]? = _;simp
 refine ⟨?_,?_,?_⟩
 ·simp only [World.cell?]
  rw [e];rfl
 ·show w.heap.size<(w.heap.push _).size
  simp
 ·simp only [World.frozen?]
  rw [e];rfl
theorem end_any (h:SpM w B p g n M c) (hI:Inv n V r No M I P D) {top:Nat} (hx:top<n) (hu:(M top).up=none) (hc:Clear M P D top) (s:Bool) :
  Calls Tryz.prog 127 #[.pointer (some ⟨p,0,none⟩),.int .i64 (top:Int),.int .i64 (sz s)] w fun e w'=>∃ v:Nat,e=.returned (.int .i64 (v:Int))∧endL s (r top)=some v∧Ended (PG p g) w w' B p g n V r M I top c v:=by
 obtain ⟨⟨_,hp⟩,_,hg⟩:=h.in
 have HO:=hid (show Sp.Off (PG p g) w ((w.alloc (.cells #[.pointer (some ⟨p,0,none⟩)] 159)).alloc (.cells #[.int .i64 (sz s)] 3)) from ((Sp.Off.refl _ w).alloc _).alloc _)
 have hM:=(h.kept ((Below.refl _ w).alloc (Nat.le_refl _) (.cells #[.pointer (some ⟨p,0,none⟩)] 159)))
 have hM2:=(hM.kept ((Below.refl _ _).alloc (Nat.le_refl _) (.cells #[.int .i64 (sz s)] 3)))
 have hz:(w.alloc (.cells #[.pointer (some ⟨p,0,none⟩)] 159)).heap.size=w.heap.size+1:=by show (w.heap.push _).size=_;simp
 have b1:=bx_new (w:=w) rfl (.pointer (some ⟨p,0,none⟩)) 159
 have b1':Bx ((w.alloc (.cells #[.pointer (some ⟨p,0,none⟩)] 159)).alloc (.cells #[.int .i64 (sz s)] 3)) w.heap.size (.pointer (some ⟨p,0,none⟩)) :=
  b1.off (F:=fun _=>False) ((Sp.Off.refl _ _).alloc _) id
 have b2:=bx_new (w:=w.alloc (.cells #[.pointer (some ⟨p,0,none⟩)] 159)) (b:=w.heap.size+1) hz.symm (.int .i64 (sz s)) 3
 have HD:=hid (descend_end hM2 hI hx hu hc (guide_end s (top:=top) (b1:=w.heap.size) (b2:=w.heap.size+1) ⟨by omega,by omega⟩ ⟨by omega,by omega⟩) ⟨b1',b2,[],by
  rw [hI.root_row hx hu];cases s <;> simp⟩)
 clear h hI hx hu hc hM hM2 b1 b1' b2
 go_enter Tryz.func127,Tryz.ntmps127
 go_wp2_with fail
 refine HD.out.mono ?_
 rintro e w1 ⟨v,rfl,hv,hE⟩
 have HE:=hid (hE.pre HO.out)
 have HV:=hid hv
 clear hE hv
 go_wp2
 go_ret
 exact ⟨v,rfl,HV.out,HE.out⟩
end
end Sv
end Go.Proofs.YthhlfphnokdfaaaGreat
namespace Go.Proofs.YthhlfphnokdfaaaGreat
open Go.ChangeShapes Go.WideShapes Go.ChangeAt Go.RowKit
open Lib (hid)
namespace Sp
open Sv
structure Hd (w:World) (B:Nat) (F:Nat→Prop) (p:Nat) (s:St) (lo hi g c:Nat) (M:Nat→Nd) (I:Nat→List Nat) (P:Nat→Bool) (D:Nat→Int):Prop where
 mem:SpM w B p g s.v.length M c
 inv:Inv s.v.length (Ne.amt s.v) s.r No M I P D
 good:Good s
 pg:∀ k,PG p g k→F k
 fin:∀ k,F k→B≤k∧k<w.heap.size
 lo:lo≤c
 hi:c+6*pot I s.v.length≤hi
def lg (n:Nat):Nat:=(Num.logF (n:Int)).toNat
def ac (n:Nat):Nat:=18*lg n+4
def jc (n:Nat):Nat:=60*lg n+12
section
variable {w w1 w2 w3:World} {B p lo hi g c:Nat} {F:Nat→Prop} {s:St} {M:Nat→Nd} {I:Nat→List Nat} {P:Nat→Bool} {D:Nat→Int}
theorem SpO.hd (h:SpO w B F p s lo hi):∃ g c M I P D,Hd w B F p s lo hi g c M I P D:=by
 obtain ⟨g,c,M,I,P,D,h1,h2,h3,h4,h5,h6,h7⟩:=h
 exact ⟨g,c,M,I,P,D,h1,h2,h3,h4,h5,h6,h7⟩
theorem Hd.row (h:Hd w B F p s lo hi g c M I P D) {x:Int}:rowZ s x=[]↔¬ (0≤x∧x<(s.v.length:Int)):=by rw [rowZ_nil h.good];omega
theorem Hd.to (h:Hd w B F p s lo hi g c M I P D) (hB:B≤w.heap.size) {s2:St} {c2:Nat} {M2:Nat→Nd} {I2:Nat→List Nat} {P2:Nat→Bool} {D2:Nat→Int} (hM:SpM w2 B p g s.v.length M2 c2) (ho:Off (PG p g) w w2) (hl:s2.v.length=s.v.length) (hI:Inv s.v.length (Ne.amt s2.v) s2.r No M2 I2 P2 D2) (hG:Good s2) {k:Nat} (h1:lo+k≤c2) {K:Nat} (h2:c2+6*pot I2 s.v.length≤c+6*pot I s.v.length+K) :
  SpO w2 B (Ext F w w2) p s2 (lo+k) (hi+K)∧Off F w w2:=by
 refine ⟨⟨g,c2,M2,I2,P2,D2,by rw [hl];exact hM,by rw [hl];exact hI,hG,fun k hk=>.inl (h.pg k hk),fun k hk=>?_,h1,?_⟩,ho.mono h.pg⟩
 ·rcases hk with hk | hk
  ·have:=h.fin k hk;have:=ho.size;omega
  ·omega
 ·rw [hl]
  have:=h.hi
  omega
theorem it_in (h:Hd w B F p s lo hi g c M I P D) {y:Nat} (hy:y<s.v.length):it s (y:Int)=1:=by
 unfold it
 rw [if_neg (fun e=>by have:=h.row.1 e;omega)]
theorem Hd.miss (h:Hd w B F p s lo hi g c M I P D) (hB:B≤w.heap.size) {x:Int} (hx:¬ (0≤x∧x<(s.v.length:Int))) (K:Nat):(SpO w B (Ext F w w) p s (lo+it s x) (hi+K)∧Off F w w)∧rowZ s x=[]:=by
 have hr:=h.row.2 hx
 have e:it s x=0:=by unfold it;rw [if_pos hr]
 rw [e]
 exact ⟨h.to hB h.mem (Off.refl _ _) rfl h.inv h.good (k:=0) (by have:=h.lo;omega) (K:=K) (by omega),hr⟩
structure Tp (w w1:World) (B p g n:Nat) (s:St) (c K:Nat) (x:Nat) (c1:Nat) (M1:Nat→Nd) (I1:Nat→List Nat) (P1:Nat→Bool) (D1:Nat→Int):Prop where
 mem:SpM w1 B p g n M1 c1
 off:Off (PG p g) w w1
 inv:Inv n (Ne.amt s.v) s.r No M1 I1 P1 D1
 up:(M1 x).up=none
 cl:Clear M1 P1 D1 x
 lt:x<n
 lo:c<c1
 hi:c1+6*pot I1 n≤K+18*lg n+4
theorem tp_of {n top v:Nat} (h:Ended (PG p g) w w1 B p g n (Ne.amt s.v) s.r M I top c v):∃ c1 M1 I1 P1 D1,Tp w w1 B p g n s c (c+6*pot I n) v c1 M1 I1 P1 D1∧s.r v=s.r top∧Sv.Rest n s.r top M M1:=by
 obtain ⟨c1,M1,I1,P1,D1,m1,o1,i1,u1,k1,R1,v1,r1,l1,h1⟩:=h
 have:=log_le (i1.len v1) m1.small
 exact ⟨c1,M1,I1,P1,D1,⟨m1,o1,i1,u1,k1,v1,l1,by unfold lg;omega⟩,r1,R1⟩
theorem Hd.lift (h:Hd w B F p s lo hi g c M I P D) {y:Nat} (hy:y<s.v.length) :
  Calls Tryz.prog 126 #[.pointer (some ⟨p,0,none⟩),.int .i64 (y:Int)] w fun e w1=>e=.returned (.bool true)∧∃ c1 M1 I1 P1 D1,Tp w w1 B p g s.v.length s c (c+6*pot I s.v.length) y c1 M1 I1 P1 D1:=by
 obtain ⟨k,hk,_⟩:=h.inv.climb hy
 refine (lift_any h.mem h.inv hy hk).mono ?_
 rintro e w1 ⟨rfl,hS⟩
 obtain ⟨c1,M1,I1,P1,D1,h1,_⟩:=tp_of (hS.ended hy)
 exact ⟨rfl,c1,M1,I1,P1,D1,h1⟩
theorem Tp.end {n c0 K x c1:Nat} {M1:Nat→Nd} {I1:Nat→List Nat} {P1:Nat→Bool} {D1:Nat→Int} (h:Tp w w1 B p g n s c0 K x c1 M1 I1 P1 D1) (sd:Bool) :
  Calls Tryz.prog 127 #[.pointer (some ⟨p,0,none⟩),.int .i64 (x:Int),.int .i64 (sz sd)] w1 fun e w2=>∃ v:Nat,e=.returned (.int .i64 (v:Int))∧endL sd (s.r x)=some v∧∃ c2 M2 I2 P2 D2,Tp w1 w2 B p g n s c1 (c1+6*pot I1 n) v c2 M2 I2 P2 D2∧s.r v=s.r x∧Sv.Rest n s.r x M1 M2:=by
 refine (end_any h.mem h.inv h.lt h.up h.cl sd).mono ?_
 rintro e w2 ⟨v,rfl,hv,hE⟩
 exact ⟨v,rfl,hv,tp_of hE⟩
theorem Hd.one (h:Hd w B F p s lo hi g c M I P D) (hB:B≤w.heap.size) {y c1:Nat} {M1:Nat→Nd} {I1:Nat→List Nat} {P1:Nat→Bool} {D1:Nat→Int} (t:Tp w w1 B p g s.v.length s c (c+6*pot I s.v.length) y c1 M1 I1 P1 D1):SpO w1 B (Ext F w w1) p s (lo+it s (y:Int)) (hi+ac s.v.length)∧Off F w w1:=by
 rw [it_in h t.lt]
 exact h.to hB t.mem t.off rfl t.inv h.good (by have:=t.lo;have:=h.lo;omega) (by have:=t.hi;unfold ac;omega)
theorem Hd.two (h:Hd w B F p s lo hi g c M I P D) (hB:B≤w.heap.size) {y v c1 c2:Nat} {M1 M2:Nat→Nd} {I1 I2:Nat→List Nat} {P1 P2:Nat→Bool} {D1 D2:Nat→Int} (t:Tp w w1 B p g s.v.length s c (c+6*pot I s.v.length) y c1 M1 I1 P1 D1) (t2:Tp w1 w2 B p g s.v.length s c1 (c1+6*pot I1 s.v.length) v c2 M2 I2 P2 D2):SpO w2 B (Ext F w w2) p s (lo+it s (y:Int)) (hi+2*ac s.v.length)∧Off F w w2:=by
 rw [it_in h t.lt]
 exact h.to hB t2.mem (off_pg t.off t2.off) rfl t2.inv h.good (by have:=t.lo;have:=t2.lo;have:=h.lo;omega) (by have:=t.hi;have:=t2.hi;unfold ac;omega)
theorem first_end {s:St} {x:Nat} {v:Nat} (h:endL false (s.r x)=some v):firstZ s (x:Int)=(v:Int):=by
 unfold firstZ
 rw [rowZ_nat]
 cases e:s.r x with
 | nil=>rw [e] at h;simp [endL] at h
 | cons a l=>rw [e] at h;simp [endL] at h;try simp [h]
theorem dfirst_c (h:SpO w B F p s lo hi) (hBw:B≤w.heap.size) (x:Int) :
  Calls Tryz.prog 118 #[.pointer (some ⟨p,0,none⟩),.int .i64 x] w fun e w'=>e=.returned (.int .i64 (firstZ s x))∧SpO w' B (Ext F w w') p s (lo+it s x) (hi+2*ac s.v.length)∧Off F w w':=by
 obtain ⟨g,c,M,I,P,D,h⟩:=h.hd
 by_cases hx:0≤x∧x<(s.v.length:Int)
 case neg =>
  have hm:=h.miss hBw hx (2*ac s.v.length)
  have HE:=hid hm.1
  have HL:=hid (lift_out h.mem hx)
  have hz:firstZ s x = -1:=by unfold firstZ;simp [hm.2]
  rw [hz]
  clear h hx hm hz
  go_enter Tryz.func118,Tryz.ntmps118
  go_wp2_with fail
  refine HL.out.mono ?_
  rintro e w1 ⟨rfl,rfl⟩
  go_wp2
  go_ret
  exact ⟨rfl,HE.out⟩
 obtain ⟨y,rfl⟩:∃ y:Nat,x=(y:Int):=⟨x.toNat,by omega⟩
 have hy:y<s.v.length:=by omega
 have hyi:(y:Int)<(s.v.length:Int):=hx.2
 have hy0:(0:Int)≤(y:Int):=hx.1
 have HL:=hid (h.lift hy)
 have HZ:=hid (fun v (hv:endL false (s.r y)=some v)=>first_end hv)
 have HH:=hid (fun w1 w2 c1 M1 I1 P1 D1 v c2 M2 I2 P2 D2 t1 t2=>h.two (w1:=w1) (w2:=w2) hBw (y:=y) (v:=v) (c1:=c1) (c2:=c2) (M1:=M1) (M2:=M2) (I1:=I1) (I2:=I2) (P1:=P1) (P2:=P2) (D1:=D1) (D2:=D2) t1 t2)
 generalize firstZ s (y:Int)=Z at *
 clear h hx
 go_enter Tryz.func118,Tryz.ntmps118
 go_wp2_with fail
 refine HL.out.mono ?_
 rintro e w1 ⟨rfl,c1,M1,I1,P1,D1,t1⟩
 have HT:=hid t1
 have HEN:=hid (t1.end false)
 clear t1
 go_wp2_with fail
 refine HEN.out.mono ?_
 rintro e w2 ⟨v,rfl,hv,c2,M2,I2,P2,D2,t2,_,_⟩
 obtain rfl:=HZ.out v hv
 have HE:=hid (HH.out _ _ _ _ _ _ _ _ _ _ _ _ _ HT.out t2)
 clear t2 hv
 go_wp2
 go_ret
 exact ⟨rfl,HE.out⟩
theorem dplace_c (h:SpO w B F p s lo hi) (hBw:B≤w.heap.size) (x:Int) :
  Calls Tryz.prog 124 #[.pointer (some ⟨p,0,none⟩),.int .i64 x] w fun e w'=>e=.returned (.int .i64 (placeZ s x))∧SpO w' B (Ext F w w') p s (lo+it s x) (hi+ac s.v.length)∧Off F w w':=by
 obtain ⟨g,c,M,I,P,D,h⟩:=h.hd
 by_cases hx:0≤x∧x<(s.v.length:Int)
 case neg =>
  have hm:=h.miss hBw hx (ac s.v.length)
  have HE:=hid hm.1
  have HL:=hid (lift_out h.mem hx)
  have hz:placeZ s x = -1:=by unfold placeZ;rw [if_pos hm.2]
  rw [hz]
  clear h hx hm hz
  go_enter Tryz.func124,Tryz.ntmps124
  go_wp2_with fail
  refine HL.out.mono ?_
  rintro e w1 ⟨rfl,rfl⟩
  go_wp2
  go_ret
  exact ⟨rfl,HE.out⟩
 obtain ⟨y,rfl⟩:∃ y:Nat,x=(y:Int):=⟨x.toNat,by omega⟩
 have hy:y<s.v.length:=by omega
 have hyi:(y:Int)<(s.v.length:Int):=hx.2
 have hy0:(0:Int)≤(y:Int):=hx.1
 have HL:=hid (h.lift hy)
 have hrow:=h.good.mem y hy
 have HZ:=hid (fun (w1:World) (c1:Nat) (M1:Nat→Nd) (I1:Nat→List Nat) (P1:Nat→Bool) (D1:Nat→Int) (t1:Tp w w1 B p g s.v.length s c (c+6*pot I s.v.length) y c1 M1 I1 P1 D1)=>show ((cO M1 0 ((M1 y).b false):Nat):Int)=placeZ s (y:Int) from by
  have e1:cO M1 0 ((M1 y).b false)=(IL I1 ((M1 y).b false)).length:=by
   cases e:(M1 y).b false with
   | none=>rfl
   | some z=>simp only [cO,IL];rw [t1.inv.cnt z (t1.inv.ch y _ z hy e).1 id];omega
  have e2:=t1.inv.root_row hy t1.up
  have e3:=t1.inv.spl_clear hy t1.cl false
  simp only [ord] at e3
  have e3':I1 y=IL I1 ((M1 y).b false) ++ y :: IL I1 ((M1 y).b true):=by simpa using e3
  have hnd:=t1.inv.nd y hy
  unfold placeZ
  rw [rowZ_nat,e2,if_neg (by rw [e3'];simp),Int.toNat_natCast,e1]
  rw [e3'] at hnd ⊢
  rw [List.idxOf_append,if_neg (fun c=>(List.nodup_append.1 hnd).2.2 y c y (by simp) rfl)]
  simp)
 have HH:=hid (fun w1 c1 M1 I1 P1 D1 t1=>h.one (w1:=w1) hBw (y:=y) (c1:=c1) (M1:=M1) (I1:=I1) (P1:=P1) (D1:=D1) t1)
 generalize placeZ s (y:Int)=Z at *
 clear h hx hrow
 go_enter Tryz.func124,Tryz.ntmps124
 go_wp2_with fail
 refine HL.out.mono ?_
 rintro e w1 ⟨rfl,c1,M1,I1,P1,D1,t1⟩
 have HE:=hid (HH.out _ _ _ _ _ _ t1)
 have HC:=hid (count_any t1.mem ((M1 y).b false) (fun z hz=>(t1.inv.ch y _ z hy hz).1))
 rw [HZ.out _ _ _ _ _ _ t1] at HC
 have n0:=t1.mem.head
 have c5:=t1.mem.cells hy 5 _ rfl
 clear t1 HH HZ
 go_wp2_with fail
 refine HC.out.mono ?_
 rintro e w2 ⟨rfl,rfl⟩
 go_wp2
 go_ret
 exact ⟨rfl,HE.out⟩
theorem dvalue_c (h:SpO w B F p s lo hi) (hBw:B≤w.heap.size) (x:Int) :
  Calls Tryz.prog 121 #[.pointer (some ⟨p,0,none⟩),.int .i64 x] w fun e w'=>e=.returned (.int .i64 (valZ s x))∧SpO w' B (Ext F w w') p s (lo+it s x) (hi+ac s.v.length)∧Off F w w':=by
 obtain ⟨g,c,M,I,P,D,h⟩:=h.hd
 by_cases hx:0≤x∧x<(s.v.length:Int)
 case neg =>
  have hm:=h.miss hBw hx (ac s.v.length)
  have HE:=hid hm.1
  have HL:=hid (lift_out h.mem hx)
  have hz:valZ s x=0:=by 
   unfold valZ
   split
   ·rfl
   ·exact Ne.amt_out (by omega)
  rw [hz]
  clear h hx hm hz
  go_enter Tryz.func121,Tryz.ntmps121
  go_wp2_with fail
  refine HL.out.mono ?_
  rintro e w1 ⟨rfl,rfl⟩
  go_wp2
  go_ret
  exact ⟨rfl,HE.out⟩
 obtain ⟨y,rfl⟩:∃ y:Nat,x=(y:Int):=⟨x.toNat,by omega⟩
 have hy:y<s.v.length:=by omega
 have hyi:(y:Int)<(s.v.length:Int):=hx.2
 have hy0:(0:Int)≤(y:Int):=hx.1
 have HL:=hid (h.lift hy)
 have hz:valZ s (y:Int)=Ne.amt s.v y:=by unfold valZ;rw [if_neg (by omega)];simp
 rw [hz]
 have HZ:=hid (fun (w1:World) (c1:Nat) (M1:Nat→Nd) (I1:Nat→List Nat) (P1:Nat→Bool) (D1:Nat→Int) (t1:Tp w w1 B p g s.v.length s c (c+6*pot I s.v.length) y c1 M1 I1 P1 D1)=>show (M1 y).v=Ne.amt s.v y from t1.inv.v_at hy t1.cl.2.1)
 have HH:=hid (fun w1 c1 M1 I1 P1 D1 t1=>h.one (w1:=w1) hBw (y:=y) (c1:=c1) (M1:=M1) (I1:=I1) (P1:=P1) (D1:=D1) t1)
 generalize Ne.amt s.v y=Z at *
 clear h hx hz
 go_enter Tryz.func121,Tryz.ntmps121
 go_wp2_with fail
 refine HL.out.mono ?_
 rintro e w1 ⟨rfl,c1,M1,I1,P1,D1,t1⟩
 have HE:=hid (HH.out _ _ _ _ _ _ t1)
 have n0:=t1.mem.head
 have c5:=t1.mem.cells hy 0 _ rfl
 rw [HZ.out _ _ _ _ _ _ t1] at c5
 simp only [Nat.add_zero] at c5
 clear t1 HH HZ
 go_wp2
 go_ret
 exact ⟨rfl,HE.out⟩
theorem dsteps_any (h:SpO w B F p s lo hi) (hh:hi≤9223372036854775807) :
  Calls Tryz.prog 106 #[.pointer (some ⟨p,0,none⟩)] w fun e w'=>∃ c:Nat,e=.returned (.int .i64 (c:Int))∧lo≤c∧c≤hi∧w=w':=by
 obtain ⟨g,c,M,I,P,D,h⟩:=h.hd
 have n1:=h.mem.cnt
 rw [wr_id (by have:=h.hi;omega)] at n1
 have h1:=h.lo
 have h2:c≤hi:=by have:=h.hi;omega
 have HB:=hid (And.intro h1 h2)
 clear h h1 h2 hh
 go_enter Tryz.func106,Tryz.ntmps106
 go_wp2
 go_ret
 exact ⟨c,rfl,HB.out.1,HB.out.2,rfl⟩
end
end Sp
end Go.Proofs.YthhlfphnokdfaaaGreat
namespace Go.Proofs.YthhlfphnokdfaaaGreat
open Go.ChangeShapes Go.WideShapes Go.ChangeAt Go.RowKit
open Lib (hid)
namespace Sp
open Sv
section
variable {w w1 w2 w3:World} {B p lo hi g c:Nat} {F:Nat→Prop} {s:St} {M:Nat→Nd} {I:Nat→List Nat} {P:Nat→Bool} {D:Nat→Int}
theorem splitS_miss {x:Int} (h:rowZ s x=[]):splitS s x=s:=by unfold splitS cutR;rw [h];simp
theorem st_ext {s t:St} (h1:s.v=t.v) (h2:∀ y,s.r y=t.r y):s=t:=by
 obtain ⟨v,r⟩:=s
 obtain ⟨v2,r2⟩:=t
 simp only at h1 h2
 rw [h1,show r=r2 from funext h2]
section
variable {y c1:Nat} {M1:Nat→Nd} {I1:Nat→List Nat} {P1:Nat→Bool} {D1:Nat→Int}
theorem Tp.mid {n K:Nat} (t:Tp w w1 B p g n s c K y c1 M1 I1 P1 D1):s.r y=IL I1 ((M1 y).b false) ++ y :: IL I1 ((M1 y).b true)∧y ∉ IL I1 ((M1 y).b false):=by
 have e2:=t.inv.root_row t.lt t.up
 have e3:=t.inv.spl_clear t.lt t.cl false
 simp only [ord] at e3
 have e3':I1 y=IL I1 ((M1 y).b false) ++ y :: IL I1 ((M1 y).b true):=by simpa using e3
 have hnd:=t.inv.nd y t.lt
 rw [e3'] at hnd
 exact ⟨by rw [e2,e3'],fun c=>(List.nodup_append.1 hnd).2.2 y c y (by simp) rfl⟩
theorem cut_at {A C:List Nat} {y:Nat} (h:y ∉ A):(A ++ y :: C).idxOf y=A.length:=by
 rw [List.idxOf_append,if_neg h];simp
theorem Tp.cutS {n K:Nat} (t:Tp w w1 B p g n s c K y c1 M1 I1 P1 D1):splitS s (y:Int)=⟨s.v,fun z=>if z∈IL I1 ((M1 y).b false) then IL I1 ((M1 y).b false) else if z∈y :: IL I1 ((M1 y).b true) then y :: IL I1 ((M1 y).b true) else s.r z⟩:=by
 obtain ⟨h1,h2⟩:=t.mid
 unfold splitS cutR
 rw [rowZ_nat,Int.toNat_natCast,h1,cut_at h2,List.take_left,List.drop_left]
theorem Hd.kept0 (h:Hd w B F p s lo hi g c M I P D) (hB:B≤w.heap.size) (t:Tp w w1 B p g s.v.length s c (c+6*pot I s.v.length) y c1 M1 I1 P1 D1) (hb:(M1 y).b false=none) :
  SpO w1 B (Ext F w w1) p (splitS s (y:Int)) (lo+it s (y:Int)) (hi+ac s.v.length)∧Off F w w1:=by
 have e:splitS s (y:Int)=s:=by
  rw [t.cutS,hb]
  refine st_ext rfl fun z=>?_
  show (if z∈IL I1 none then IL I1 none else if z∈y :: IL I1 ((M1 y).b true) then y :: IL I1 ((M1 y).b true) else s.r z)=s.r z
  obtain ⟨h1,_⟩:=t.mid
  rw [hb] at h1
  have h1':s.r y=y :: IL I1 ((M1 y).b true):=h1
  rw [if_neg (by simp [IL])]
  split
  ·rename_i c
   rw [← h1'] at c ⊢
   exact (h.good.same y z c).symm
  ·rfl
 rw [e]
 exact h.one hB t
theorem Hd.cut (h:Hd w B F p s lo hi g c M I P D) (hB:B≤w.heap.size) (t:Tp w w1 B p g s.v.length s c (c+6*pot I s.v.length) y c1 M1 I1 P1 D1) {L:Nat} (hb:(M1 y).b false=some L) (hM:SpA w1 w2 B p g s.v.length (refM (cutM M1 y L) y) c1) :
  SpO w2 B (Ext F w w2) p (splitS s (y:Int)) (lo+it s (y:Int)) (hi+ac s.v.length)∧Off F w w2:=by
 rw [it_in h t.lt]
 have hG:=good_split h.good (y:Int)
 have e:=t.cutS
 rw [e] at hG ⊢
 refine h.to hB (s2:=⟨s.v,fun z=>if z∈IL I1 ((M1 y).b false) then IL I1 ((M1 y).b false) else if z∈y :: IL I1 ((M1 y).b true) then y :: IL I1 ((M1 y).b true) else s.r z⟩) hM.toSpM (off_pg t.off hM.off) rfl (cut_inv t.inv t.lt t.up t.cl hb fun z=>?_) hG (by have:=t.lo;have:=h.lo;omega) (by have:=cut_pot (L:=L) t.inv t.lt t.cl;have:=t.hi;unfold ac;omega)
 show (if z∈IL I1 ((M1 y).b false) then _ else _)=_
 rw [hb];rfl
theorem cut_wants {n:Nat} {V:Nat→Int} {r:Nat→List Nat} (hI:Inv n V r No M1 I1 P1 D1) (hn:n≤3000) {L:Nat} (hy:y<n) (hyu:(M1 y).up=none) (hb:(M1 y).b false=some L):L<n∧y≠L∧∀ s' z,(cutM M1 y L y).b s' = some z→z<n∧z≠y∧(cutM M1 y L z).c≤1000000:=by
 obtain ⟨hLn,hLu,_⟩:=hI.ch y _ L hy hb
 have hxL:y≠L:=fun e=>by subst e;rw [hyu] at hLu;cases hLu
 refine ⟨hLn,hxL,fun s' z hz=>?_⟩
 rw [cutM_x hxL] at hz
 have hz':(M1 y).b s' = some z∧s'≠false:=by
  simp only [setb] at hz
  split at hz
  ·cases hz
  ·rename_i e;exact ⟨hz,e⟩
 have hzn:=(hI.ch y s' z hy hz'.1).1
 have hzy:z≠y:=fun e=>by subst e;have:=hI.below hy hz'.1;omega
 have hzL:z≠L:=fun e=>by subst e;exact hz'.2 (hI.side_uniq hy hz'.1 hb)
 refine ⟨hzn,hzy,?_⟩
 rw [cutM_o hzy hzL,hI.cnt z hzn id]
 have:=hI.len hzn
 omega
end
theorem dsplit_c (h:SpO w B F p s lo hi) (hBw:B≤w.heap.size) (x:Int) :
  Calls Tryz.prog 125 #[.pointer (some ⟨p,0,none⟩),.int .i64 x] w fun e w'=>e=.returned (.int .i64 (splitE s x))∧SpO w' B (Ext F w w') p (splitS s x) (lo+it s x) (hi+ac s.v.length)∧Off F w w':=by
 obtain ⟨g,c,M,I,P,D,h⟩:=h.hd
 by_cases hx:0≤x∧x<(s.v.length:Int)
 case neg =>
  have hm:=h.miss hBw hx (ac s.v.length)
  have HE:=hid hm.1
  have HL:=hid (lift_out h.mem hx)
  have hz:splitE s x=4:=by unfold splitE;rw [if_pos hm.2]
  rw [hz,splitS_miss hm.2]
  clear h hx hm hz
  go_enter Tryz.func125,Tryz.ntmps125
  go_wp2_with fail
  refine HL.out.mono ?_
  rintro e w1 ⟨rfl,rfl⟩
  go_wp2
  go_ret
  exact ⟨rfl,HE.out⟩
 obtain ⟨y,rfl⟩:∃ y:Nat,x=(y:Int):=⟨x.toNat,by omega⟩
 have hy:y<s.v.length:=by omega
 have hyi:(y:Int)<(s.v.length:Int):=hx.2
 have hy0:(0:Int)≤(y:Int):=hx.1
 have HL:=hid (h.lift hy)
 have hz:splitE s (y:Int)=0:=by unfold splitE;rw [if_neg (fun e=>by have:=h.row.1 e;omega)]
 rw [hz]
 have H0:=hid (fun w1 c1 M1 I1 P1 D1 t1 hb=>h.kept0 (w1:=w1) hBw (y:=y) (c1:=c1) (M1:=M1) (I1:=I1) (P1:=P1) (D1:=D1) t1 hb)
 have HH:=hid (fun w1 w2 c1 M1 I1 P1 D1 t1 L hb hM=>h.cut (w1:=w1) (w2:=w2) hBw (y:=y) (c1:=c1) (M1:=M1) (I1:=I1) (P1:=P1) (D1:=D1) t1 (L:=L) hb hM)
 generalize splitS s (y:Int)=s2 at *
 clear h hx hz
 go_enter Tryz.func125,Tryz.ntmps125
 go_wp2_with fail
 refine HL.out.mono ?_
 rintro e w1 ⟨rfl,c1,M1,I1,P1,D1,t1⟩
 have n0:=t1.mem.head
 have c5:=t1.mem.cells hy 5 _ rfl
 cases hb:(M1 y).b false with
 | none =>
  have HE:=hid (H0.out _ _ _ _ _ _ t1 hb)
  rw [hb] at c5
  simp only [oi] at c5
  clear t1 hb
  go_wp2
  go_ret
  exact ⟨rfl,HE.out⟩
 | some L =>
  obtain ⟨hLn,hyL,hw⟩:=cut_wants t1.inv t1.mem.small hy t1.up hb
  have HQ:=hid t1
  have HB:=hid hb
  have HW:=hid hw
  rw [hb] at c5
  simp only [oi] at c5
  have hLm:¬ (L:Int) = -1:=by omega
  have hLi:(L:Int)<(s.v.length:Int):=by omega
  have hL0:(0:Int)≤(L:Int):=by omega
  have c4:=t1.mem.cells hLn 4 _ rfl
  have f4:=t1.mem.froz (L*9+4)
  have HM1:=hid (t1.mem.at.put hLn (j:=4) (k:={ M1 L with up:=none }) (by omega) (u:=.int .i64 (-1)) rfl)
  clear t1 hb hw
  go_wp2_with fail
  refine (hang_any HM1.out.toSpM hy false none (fun z e=>by cases e)).mono ?_
  rintro e w2 ⟨rfl,hA⟩
  have HM2:=hid (show SpA w1 w2 B p g s.v.length (cutM M1 y L) c1 from HM1.out.then hA)
  clear hA
  go_wp2_with fail
  refine (refresh_any HM2.out.toSpM hy HW.out).mono ?_
  rintro e w3 ⟨rfl,hA⟩
  have HE:=hid (HH.out _ _ _ _ _ _ _ HQ.out _ HB.out (HM2.out.then hA))
  clear hA
  go_wp2
  go_ret
  exact ⟨rfl,HE.out⟩
end
end Sp
end Go.Proofs.YthhlfphnokdfaaaGreat
namespace Go.Proofs.YthhlfphnokdfaaaGreat
open Go.ChangeShapes Go.WideShapes Go.ChangeAt Go.RowKit
open Lib (hid)
namespace Sp
open Sv
section
variable {w w1 w2 w3 w4:World} {B p lo hi g c:Nat} {F:Nat→Prop} {s:St} {M:Nat→Nd} {I:Nat→List Nat} {P:Nat→Bool} {D:Nat→Int}
section
variable {y z v c1 c2 c3 K K2 n:Nat} {M1 M2 M3:Nat→Nd} {I1 I2 I3:Nat→List Nat} {P1 P2 P3:Nat→Bool} {D1 D2 D3:Nat→Int}
theorem splay_tp (hM:SpM w1 B p g n M1 c1) (hI:Inv n (Ne.amt s.v) s.r No M1 I1 P1 D1) (hz:z<n) :
  Calls Tryz.prog 129 #[.pointer (some ⟨p,0,none⟩),.int .i64 (z:Int)] w1 fun e w2=>e=.returned (.tuple #[])∧∃ c2 M2 I2 P2 D2,Tp w1 w2 B p g n s c1 (c1+6*pot I1 n) z c2 M2 I2 P2 D2∧Sv.Rest n s.r z M1 M2:=by
 obtain ⟨k,hk,_⟩:=hI.climb hz
 refine (splay_any hM hI hz hk).mono ?_
 rintro e w2 ⟨rfl,hS⟩
 obtain ⟨c2,M2,I2,P2,D2,h1,_,h3⟩:=tp_of (hS.ended hz)
 exact ⟨rfl,c2,M2,I2,P2,D2,h1,h3⟩
theorem Tp.stays (t1:Tp w w1 B p g n s c K y c1 M1 I1 P1 D1) (t2:Tp w1 w2 B p g n s c1 K2 z c2 M2 I2 P2 D2) (hR:Sv.Rest n s.r z M1 M2) (hy:y ∉ s.r z):(M2 y).up=none∧Clear M2 P2 D2 y:=by
 have e:=hR y t1.lt hy
 have hu:(M2 y).up=none:=by rw [e];exact t1.up
 have ht:=t2.inv.top y t1.lt hu
 exact ⟨hu,ht.1,ht.2,by rw [e];exact t1.cl.2.2.1,by rw [e];exact t1.cl.2.2.2⟩
theorem Tp.last (t:Tp w w1 B p g n s c K v c1 M1 I1 P1 D1) (h:endL true (s.r v)=some v):(M1 v).b true=none:=by
 obtain ⟨h1,h2⟩:=t.mid
 have hnd:=t.inv.nd v t.lt
 rw [← t.inv.root_row t.lt t.up,h1] at hnd
 cases e:(M1 v).b true with
 | none=>rfl
 | some q =>
  have hq:=t.inv.self (t.inv.ch v _ q t.lt e).1
  rw [e] at h1 hnd
  have h1':s.r v=IL I1 ((M1 v).b false) ++ v :: I1 q:=h1
  simp only [endL,if_true] at h
  rw [h1'] at h
  have hne:I1 q≠[]:=fun e2=>by rw [e2] at hq;simp at hq
  have h3:(IL I1 ((M1 v).b false) ++ v :: I1 q).getLast? = (I1 q).getLast?:=by
   rw [List.getLast?_append]
   cases e2:I1 q with
   | nil=>exact absurd e2 hne
   | cons a l=>simp [List.getLast?_cons]
  rw [h3] at h
  have h4:v∈I1 q:=List.mem_of_getLast? h
  have:=(List.nodup_append.1 hnd).2.1
  exact absurd h4 (List.nodup_cons.1 this).1
theorem join_wants {V:Nat→Int} {r:Nat→List Nat} (hI:Inv n V r No M1 I1 P1 D1) (hn:n≤3000) {v b:Nat} (hv:v<n) (hb:b<n) (hne:v≠b):∀ s' z,(hangM M1 v true (some b) v).b s' = some z→z<n∧z≠v∧(hangM M1 v true (some b) z).c≤1000000:=by
 have ev:hangM M1 v true (some b) v = { M1 v with b:=setb (M1 v).b true (some b) }:=hangM_v (fun e=>hne (by cases e;rfl))
 have hcc:∀ q,q<n→(M1 q).c≤1000000:=fun q hq=>by rw [hI.cnt q hq id];have:=hI.len hq;omega
 intro s' z hz
 rw [ev] at hz
 have hz':z=b∨(M1 v).b s' = some z:=by
  simp only [setb] at hz
  split at hz
  ·cases hz;exact .inl rfl
  ·exact .inr hz
 rcases hz' with rfl | hz'
 ·refine ⟨hb,Ne.symm hne,?_⟩
  rw [hangM_w (Ne.symm hne)];exact hcc z hb
 ·have hzn:=(hI.ch v s' z hv hz').1
  have hzv:z≠v:=fun e=>by subst e;have:=hI.below hv hz';omega
  refine ⟨hzn,hzv,?_⟩
  by_cases e:z=b
  ·subst e;rw [hangM_w hzv];exact hcc z hzn
  ·rw [hangM_ne hzv (fun e2=>e (by cases e2;rfl))];exact hcc z hzn
theorem it_both (h:Hd w B F p s lo hi g c M I P D) (hy:y<s.v.length) (hz:z<s.v.length):it s (y:Int)*it s (z:Int)=1:=by rw [it_in h hy,it_in h hz]
theorem join_e (h:Hd w B F p s lo hi g c M I P D) (hy:y<s.v.length) (hz:z<s.v.length):joinE s (y:Int) (z:Int)=if z∈s.r y then 5 else 0:=by
 unfold joinE
 have hy2:=(h.row (x:=(y:Int)))
 have hz2:=(h.row (x:=(z:Int)))
 rw [if_neg (fun e=>by rcases e with e | e;have:=hy2.1 e;omega;have:=hz2.1 e;omega),rowZ_nat,Int.toNat_natCast]
theorem Hd.unjoined (h:Hd w B F p s lo hi g c M I P D) (hB:B≤w.heap.size) (t1:Tp w w1 B p g s.v.length s c (c+6*pot I s.v.length) y c1 M1 I1 P1 D1) (t2:Tp w1 w2 B p g s.v.length s c1 (c1+6*pot I1 s.v.length) z c2 M2 I2 P2 D2) (hin:z∈s.r y) :
  joinE s (y:Int) (z:Int)=5∧SpO w2 B (Ext F w w2) p (joinS s (y:Int) (z:Int)) (lo+it s (y:Int)*it s (z:Int)) (hi+jc s.v.length)∧Off F w w2:=by
 have e:joinE s (y:Int) (z:Int)=5:=by
  unfold joinE
  have hy:=(h.row (x:=(y:Int)))
  have hz:=(h.row (x:=(z:Int)))
  have:=t1.lt;have:=t2.lt
  rw [if_neg (fun e=>by rcases e with e | e;have:=hy.1 e;omega;have:=hz.1 e;omega),rowZ_nat,Int.toNat_natCast,if_pos hin]
 refine ⟨e,?_⟩
 rw [it_both h t1.lt t2.lt]
 have e2:joinS s (y:Int) (z:Int)=s:=by unfold joinS;rw [if_neg (by rw [e];decide)]
 rw [e2]
 exact h.to hB t2.mem (off_pg t1.off t2.off) rfl t2.inv h.good (by have:=t1.lo;have:=t2.lo;have:=h.lo;omega) (by have:=t1.hi;have:=t2.hi;unfold jc;omega)
theorem Hd.joined (h:Hd w B F p s lo hi g c M I P D) (hB:B≤w.heap.size) (t1:Tp w w1 B p g s.v.length s c (c+6*pot I s.v.length) y c1 M1 I1 P1 D1) (t2:Tp w1 w2 B p g s.v.length s c1 (c1+6*pot I1 s.v.length) z c2 M2 I2 P2 D2) (t3:Tp w2 w3 B p g s.v.length s c2 (c2+6*pot I2 s.v.length) v c3 M3 I3 P3 D3) (hin:z ∉ s.r y) (hv:s.r v=s.r y) (hl:endL true (s.r y)=some v) (hR:Sv.Rest s.v.length s.r y M2 M3)
  (hM:SpA w3 w4 B p g s.v.length (refM (hangM M3 v true (some z)) v) c3) :
  joinE s (y:Int) (z:Int)=0∧SpO w4 B (Ext F w w4) p (joinS s (y:Int) (z:Int)) (lo+it s (y:Int)*it s (z:Int)) (hi+jc s.v.length)∧Off F w w4:=by
 have e:joinE s (y:Int) (z:Int)=0:=by
  unfold joinE
  have hy:=(h.row (x:=(y:Int)))
  have hz:=(h.row (x:=(z:Int)))
  have:=t1.lt;have:=t2.lt
  rw [if_neg (fun e=>by rcases e with e | e;have:=hy.1 e;omega;have:=hz.1 e;omega),rowZ_nat,Int.toNat_natCast,if_neg hin]
 refine ⟨e,?_⟩
 rw [it_both h t1.lt t2.lt]
 have hG:=good_join h.good (y:Int) (z:Int)
 have e2:joinS s (y:Int) (z:Int)=joinR s (y:Int) (z:Int):=by unfold joinS;rw [if_pos e]
 rw [e2] at hG ⊢
 have hne:v≠z:=fun e=>by
  subst e
  apply hin
  rw [← hv];exact h.good.mem v t3.lt
 have hzu:(M3 z).up=none:=by rw [hR z t2.lt hin];exact t2.up
 have hno:=t3.last (by rw [hv];exact hl)
 have hiv:=t3.inv.root_row t3.lt t3.up
 have hiz:=t3.inv.root_row t2.lt hzu
 have hji:=join_inv t3.inv (r':=(joinR s (y:Int) (z:Int)).r) t3.lt t2.lt t3.up hzu t3.cl hno hne (fun q=>by
  show (if q∈rowZ s (y:Int)∨q∈rowZ s (z:Int) then _ else _)=_
  rw [rowZ_nat,rowZ_nat,hv])
 refine h.to hB (s2:=joinR s (y:Int) (z:Int)) hM.toSpM (off_pg (off_pg t1.off t2.off) (off_pg t3.off hM.off)) rfl hji hG (by have:=t1.lo;have:=t2.lo;have:=t3.lo;have:=h.lo;omega) ?_
 have h1:=join_pot (I:=I3) (l:=I3 v ++ I3 z) t3.lt
 have h2:(I3 v ++ I3 z).length.log2≤lg s.v.length:=by
  have:=hji.len t3.lt
  rw [putI_self] at this
  exact log_le this h.good.small
 have:=t1.hi;have:=t2.hi;have:=t3.hi
 unfold jc
 omega
theorem Hd.apart (h:Hd w B F p s lo hi g c M I P D) (hB:B≤w.heap.size) {a b:Int} (hx:¬ (0≤a∧a<(s.v.length:Int))∨¬ (0≤b∧b<(s.v.length:Int))):joinE s a b=4∧SpO w B (Ext F w w) p (joinS s a b) (lo+it s a*it s b) (hi+jc s.v.length)∧Off F w w:=by
 have hr:rowZ s a=[]∨rowZ s b=[]:=by rcases hx with e | e;exact .inl (h.row.2 e);exact .inr (h.row.2 e)
 have e:joinE s a b=4:=by unfold joinE;rw [if_pos hr]
 have e2:joinS s a b=s:=by unfold joinS;rw [if_neg (by rw [e];decide)]
 have e3:it s a*it s b=0:=by
  rcases hr with e | e
  ·have:it s a=0:=by unfold it;rw [if_pos e]
   rw [this];simp
  ·have:it s b=0:=by unfold it;rw [if_pos e]
   rw [this];simp
 refine ⟨e,?_⟩
 rw [e2,e3]
 exact h.to hB h.mem (Off.refl _ _) rfl h.inv h.good (k:=0) (by have:=h.lo;omega) (K:=jc s.v.length) (by omega)
end
theorem djoin_c (h:SpO w B F p s lo hi) (hBw:B≤w.heap.size) (a b:Int) :
  Calls Tryz.prog 119 #[.pointer (some ⟨p,0,none⟩),.int .i64 a,.int .i64 b] w fun e w'=>e=.returned (.int .i64 (joinE s a b))∧SpO w' B (Ext F w w') p (joinS s a b) (lo+it s a*it s b) (hi+jc s.v.length)∧Off F w w':=by
 obtain ⟨g,c,M,I,P,D,h⟩:=h.hd
 have HA:=hid (has_any h.mem a)
 have HB:=hid (has_any h.mem b)
 by_cases ha:0≤a∧a<(s.v.length:Int)
 case neg =>
  have hm:=h.apart hBw (a:=a) (b:=b) (.inl ha)
  rw [hm.1]
  have HE:=hid hm.2
  rw [show decide (0≤a∧a<(s.v.length:Int))=false by simpa using ha] at HA
  clear h hm ha HB
  go_enter Tryz.func119,Tryz.ntmps119
  go_wp2_with fail
  refine HA.out.mono ?_
  rintro e w1 ⟨rfl,rfl⟩
  go_wp2
  go_ret
  exact ⟨rfl,HE.out⟩
 rw [show decide (0≤a∧a<(s.v.length:Int))=true by simpa using ha] at HA
 by_cases hb:0≤b∧b<(s.v.length:Int)
 case neg =>
  have hm:=h.apart hBw (a:=a) (b:=b) (.inr hb)
  rw [hm.1]
  have HE:=hid hm.2
  rw [show decide (0≤b∧b<(s.v.length:Int))=false by simpa using hb] at HB
  clear h hm ha hb
  go_enter Tryz.func119,Tryz.ntmps119
  go_wp2_with fail
  refine HA.out.mono ?_
  rintro e w1 ⟨rfl,rfl⟩
  go_wp2_with fail
  refine HB.out.mono ?_
  rintro e w1 ⟨rfl,rfl⟩
  go_wp2
  go_ret
  exact ⟨rfl,HE.out⟩
 rw [show decide (0≤b∧b<(s.v.length:Int))=true by simpa using hb] at HB
 obtain ⟨y,rfl⟩:∃ y:Nat,a=(y:Int):=⟨a.toNat,by omega⟩
 obtain ⟨z,rfl⟩:∃ z:Nat,b=(z:Int):=⟨b.toNat,by omega⟩
 have hy:y<s.v.length:=by omega
 have hz:z<s.v.length:=by omega
 have hyi:(y:Int)<(s.v.length:Int):=ha.2
 have hy0:(0:Int)≤(y:Int):=ha.1
 have HS1:=hid (splay_tp (s:=s) h.mem h.inv hy)
 have HH:=hid h
 clear h ha hb
 by_cases hin:z∈s.r y
 ·have HU:=hid (fun w1 w2 c1 M1 I1 P1 D1 c2 M2 I2 P2 D2 t1 t2=>HH.out.unjoined (w1:=w1) (w2:=w2) hBw (y:=y) (z:=z) (c1:=c1) (M1:=M1) (I1:=I1) (P1:=P1) (D1:=D1) (c2:=c2) (M2:=M2) (I2:=I2) (P2:=P2) (D2:=D2) t1 t2 hin)
  have HGD:=hid HH.out.good
  rw [join_e HH.out hy hz,if_pos hin]
  have HIN:=hid hin
  clear hin
  go_enter Tryz.func119,Tryz.ntmps119
  go_wp2_with fail
  refine HA.out.mono ?_
  rintro e w1 ⟨rfl,rfl⟩
  go_wp2_with fail
  refine HB.out.mono ?_
  rintro e w1 ⟨rfl,rfl⟩
  go_wp2_with fail
  refine HS1.out.mono ?_
  rintro e w1 ⟨rfl,c1,M1,I1,P1,D1,t1,_⟩
  have HT1:=hid t1
  have HS2:=hid (splay_tp (s:=s) t1.mem t1.inv hz)
  clear t1
  go_wp2_with fail
  refine HS2.out.mono ?_
  rintro e w2 ⟨rfl,c2,M2,I2,P2,D2,t2,_⟩
  have hE:=HU.out _ _ _ _ _ _ _ _ _ _ _ _ HT1.out t2
  have HE:=hid hE.2
  clear hE
  have n0:=t2.mem.head
  have c4:=t2.mem.cells hy 4 _ rfl
  by_cases hyz:y=z
  ·subst hyz
   clear t2
   go_wp2
   go_ret
   exact ⟨rfl,HE.out⟩
  ·have hup:(M2 y).up≠none:=t2.inv.one_top t2.lt t2.up (by rw [HGD.out.same y z HIN.out];exact HGD.out.mem y hy) hyz
   obtain ⟨u,hu⟩:∃ u,(M2 y).up=some u:=by
    cases e:(M2 y).up with
    | none=>exact absurd e hup
    | some u=>exact ⟨u,rfl⟩
   rw [hu] at c4
   simp only [oi] at c4
   have hyz2:¬ (y:Int)=(z:Int):=by omega
   have hum:¬ (u:Int) = -1:=by omega
   have hum2:((u:Int) != -1)=true:=by simp
   clear t2 hup hu hyz
   go_wp2
   go_ret
   exact ⟨rfl,HE.out⟩
 ·have hyz:¬ (y:Int)=(z:Int):=fun e=>hin (by
   have:y=z:=by omega
   subst this
   exact HH.out.good.mem y hy)
  have HU:=hid (fun w1 w2 w3 w4 c1 M1 I1 P1 D1 c2 M2 I2 P2 D2 v c3 M3 I3 P3 D3 t1 t2 t3 hv hl hR hM=>HH.out.joined (w1:=w1) (w2:=w2) (w3:=w3) (w4:=w4) hBw (y:=y) (z:=z) (v:=v) (c1:=c1) (M1:=M1) (I1:=I1) (P1:=P1) (D1:=D1) (c2:=c2) (M2:=M2) (I2:=I2) (P2:=P2) (D2:=D2) (c3:=c3) (M3:=M3) (I3:=I3) (P3:=P3) (D3:=D3) t1 t2 t3 hin hv hl hR hM)
  have HYN:=hid (show y ∉ s.r z from fun e=>hin (by
   rw [HH.out.good.same z y e];exact HH.out.good.mem z hz))
  have HVZ:=hid (fun v (hv:s.r v=s.r y) (hvn:v<s.v.length)=>show v≠z from fun e=>by
   subst e
   apply hin
   rw [← hv];exact HH.out.good.mem v hvn)
  rw [join_e HH.out hy hz,if_neg hin]
  have HZX:=hid (show ∀ q,some z=some q→q<s.v.length from fun q e=>by cases e;exact hz)
  clear hin
  go_enter Tryz.func119,Tryz.ntmps119
  go_wp2_with fail
  refine HA.out.mono ?_
  rintro e w1 ⟨rfl,rfl⟩
  go_wp2_with fail
  refine HB.out.mono ?_
  rintro e w1 ⟨rfl,rfl⟩
  go_wp2_with fail
  refine HS1.out.mono ?_
  rintro e w1 ⟨rfl,c1,M1,I1,P1,D1,t1,_⟩
  have HT1:=hid t1
  have HS2:=hid (splay_tp (s:=s) t1.mem t1.inv hz)
  clear t1
  go_wp2_with fail
  refine HS2.out.mono ?_
  rintro e w2 ⟨rfl,c2,M2,I2,P2,D2,t2,hR2⟩
  have hst:=HT1.out.stays t2 hR2 HYN.out
  have HEN:=hid (end_any t2.mem t2.inv hy hst.1 hst.2 true)
  have HT2:=hid t2
  have n0:=t2.mem.head
  have c4:=t2.mem.cells hy 4 _ rfl
  rw [hst.1] at c4
  simp only [oi] at c4
  clear t2 hst hR2
  go_wp2_with fail
  refine HEN.out.mono ?_
  rintro e w3 ⟨v,rfl,hl,hE⟩
  obtain ⟨c3,M3,I3,P3,D3,t3,hv,hR3⟩:=tp_of hE
  clear hE n0 c4
  have HT3:=hid t3
  have HL:=hid hl
  have HV:=hid hv
  have HR3:=hid hR3
  have hvz:=HVZ.out v hv t3.lt
  have HW:=hid (join_wants t3.inv t3.mem.small t3.lt hz hvz)
  clear t3 hl hv hR3 hvz
  go_wp2_with fail
  refine (hang_any HT3.out.mem HT3.out.lt true (some z) HZX.out).mono ?_
  rintro e w4 ⟨rfl,hA⟩
  have HM4:=hid hA
  clear hA
  go_wp2_with fail
  refine (refresh_any HM4.out.toSpM HT3.out.lt HW.out).mono ?_
  rintro e w5 ⟨rfl,hA⟩
  have hE:=HU.out _ _ _ _ _ _ _ _ _ _ _ _ _ _ _ _ _ _ _ _ HT1.out HT2.out HT3.out HV.out HL.out HR3.out (HM4.out.then hA)
  have HE:=hid hE.2
  clear hE hA
  go_wp2
  go_ret
  exact ⟨rfl,HE.out⟩
end
end Sp
end Go.Proofs.YthhlfphnokdfaaaGreat
