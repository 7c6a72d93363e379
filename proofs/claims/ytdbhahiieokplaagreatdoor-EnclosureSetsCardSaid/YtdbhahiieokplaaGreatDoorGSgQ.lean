import Derived.Test.YtdbhahiieokplaaGreatDoorGSgH
import Derived.Test.YtdbhahiieokplaaGreatDoorChecked
import Derived.WalkKit
import Derived.WalkSpells
import Derived.WalkLawsBesides
import Derived.Lib.Hide
import Derived.Deep.QuietTactic
import Derived.Deep.OwnRows
set_option linter.unusedSimpArgs false
set_option linter.unusedVariables false

namespace Go.Proofs.YtdbhahiieokplaaGreatDoor
open Go.RowKit

def Rd (w:World) (K:IntKind) (A:Option Addr) (n:Nat) (f:Nat→Nat):Prop :=
 0<n→∃ g o,A=some ⟨g,o,none⟩∧g<w.heap.size∧∀ i,i<n→w.cell? ⟨g,o+i,none⟩=some (.int K (f i:Int))

section
variable {w w':World} {K:IntKind} {A:Option Addr} {n:Nat} {f g:Nat→Nat}

theorem Rd.nil (w:World) (K:IntKind) (A:Option Addr) (f:Nat→Nat):Rd w K A 0 f:=fun h=>absurd h (by omega)

theorem Rd.below (h:Rd w K A n f) (hb:Below w.heap.size w w'):Rd w' K A n f:=fun hn=>by
 obtain ⟨g,o,e,hg,hc⟩:=h hn
 exact ⟨g,o,e,Nat.lt_of_lt_of_le hg hb.size,fun i hi=>(hb.cell (p:=⟨g,o+i,none⟩) hg).trans (hc i hi)⟩

theorem Rd.alloc (h:Rd w K A n f) (o:Obj):Rd (w.alloc o) K A n f:=h.below ((Below.refl _ _).alloc (Nat.le_refl _) o)
theorem Rd.drew (h:Rd w K A n f):Rd w.drew K A n f:=h
theorem Rd.drewN (h:Rd w K A n f) (k:Nat):Rd (w.drewN k) K A n f:=h

theorem Rd.congr (h:Rd w K A n f) (e:∀ i,i<n→f i=g i):Rd w K A n g:=fun hn=>by
 obtain ⟨b,o,h1,hg,hc⟩:=h hn
 exact ⟨b,o,h1,hg,fun i hi=>by rw [hc i hi,e i hi]⟩

theorem Rd.take (h:Rd w K A n f) {m:Nat} (hm:m≤n):Rd w K A m f:=fun hn=>by
 obtain ⟨b,o,h1,hg,hc⟩:=h (by omega)
 exact ⟨b,o,h1,hg,fun i hi=>hc i (by omega)⟩
end

def nums (K:IntKind) (f:Nat→Nat) (n:Nat):List Value:=(List.range n).map fun i=>.int K (f i:Int)

theorem nums_succ (K:IntKind) (f:Nat→Nat) (n:Nat):nums K f (n+1)=nums K f n++[.int K (f n:Int)]:=by
 simp [nums,List.range_succ]
theorem nums_length (K:IntKind) (f:Nat→Nat) (n:Nat):(nums K f n).length=n:=by simp [nums]
theorem nums_get (K:IntKind) (f:Nat→Nat) (n i:Nat) (h:i<n):(nums K f n)[i]?=some (.int K (f i:Int)):=by
 simp [nums,h]
theorem nums_congr {K:IntKind} {f g:Nat→Nat} {n:Nat} (h:∀ i,i<n→f i=g i):nums K f n=nums K g n:=by
 apply List.ext_getElem?
 intro i
 by_cases hi:i<n
 · rw [nums_get _ _ _ _ hi,nums_get _ _ _ _ hi,h i hi]
 · rw [List.getElem?_eq_none (by rw [nums_length];omega),List.getElem?_eq_none (by rw [nums_length];omega)]

def enc (z:Int):Value:=.agg #[.bool (decide (z<0)),.string (mag z.natAbs)]

theorem enc_of {neg:Bool} {s:ByteArray} (h:Canon neg s):Value.agg #[.bool neg,.string s]=enc (ival neg s):=by
 obtain ⟨h1,h2⟩:=canon_eq h
 unfold enc
 rw [←h1,←h2]

theorem enc_form (z:Int):∃ b m,enc z=.agg #[.bool b,.string m]:=⟨_,_,rfl⟩

theorem enc_eq {neg:Bool} {s:ByteArray} {z:Int} (h:Canon neg s) (hz:ival neg s=z):Value.agg #[.bool neg,.string s]=enc z:=by rw [←hz];exact enc_of h

theorem below_draws {B:Nat} {a w:World} (h:Below B a w) (n:Nat):Below B a (w.drewN n):=⟨h.os,h.tape,h.output,h.size,h.block⟩

structure Dg (w:World) (K:IntKind) (b:Nat) (A:Option Addr) (n V:Nat):Prop where
 lt:V<b^n
 rd:Rd w K A n (D b V)

theorem Dg.below {w w':World} {K:IntKind} {b:Nat} {A:Option Addr} {n V:Nat} (h:Dg w K b A n V) (hb:Below w.heap.size w w'):Dg w' K b A n V:=⟨h.lt,h.rd.below hb⟩
theorem Dg.alloc {w:World} {K:IntKind} {b:Nat} {A:Option Addr} {n V:Nat} (h:Dg w K b A n V) (o:Obj):Dg (w.alloc o) K b A n V:=⟨h.lt,h.rd.alloc o⟩
theorem Dg.drewN {w:World} {K:IntKind} {b:Nat} {A:Option Addr} {n V:Nat} (h:Dg w K b A n V) (k:Nat):Dg (w.drewN k) K b A n V:=⟨h.lt,h.rd⟩
theorem Dg.drew {w:World} {K:IntKind} {b:Nat} {A:Option Addr} {n V:Nat} (h:Dg w K b A n V):Dg w.drew K b A n V:=⟨h.lt,h.rd⟩

def RetZ (w:World) (z:Int) (e:Ending) (w':World):Prop:=e=.returned (enc z)∧Below w.heap.size w w'

def RetV (w:World) (v:Value) (e:Ending) (w':World):Prop:=e=.returned v∧w=w'

def bytesOf (f:Nat→Nat) (n:Nat):ByteArray:=⟨((List.range n).map fun i=>UInt8.ofNat (f i)).toArray⟩

theorem bytesOf_size (f:Nat→Nat) (n:Nat):(bytesOf f n).size=n:=by simp [bytesOf,ByteArray.size]
theorem bytesOf_get (f:Nat→Nat) (n i:Nat) (h:i<(bytesOf f n).size):(bytesOf f n)[i]=UInt8.ofNat (f i):=by
 simp [bytesOf,ByteArray.getElem_eq_getElem_data]
theorem bytesOf_dig {f:Nat→Nat} {n:Nat} (hf:∀ i,i<n→f i<256) (i:Nat) (h:i<n):dig (bytesOf f n) i=f (n-1-i):=by
 unfold dig
 rw [dif_pos (by rw [bytesOf_size];exact h),bytesOf_get]
 simp only [bytesOf_size,UInt8.toNat_ofNat']
 exact Nat.mod_eq_of_lt (hf _ (by omega))
theorem bytesOf_val {f:Nat→Nat} {n:Nat} (hf:∀ i,i<n→f i<256):bval (bytesOf f n)=val 256 (fun i=>f (n-1-i)) n:=by
 unfold bval
 rw [bytesOf_size]
 exact val_congr fun i hi=>bytesOf_dig hf i hi
theorem bytesOf_lead {f:Nat→Nat} {n:Nat} (h0:0<n→f 0≠0) (hf:∀ i,i<n→f i<256):Lead (bytesOf f n):=by
 intro h
 rw [bytesOf_get]
 rw [bytesOf_size] at h
 simp only [UInt8.toNat_ofNat']
 rw [Nat.mod_eq_of_lt (hf 0 h)]
 exact h0 h

theorem str_of_cells (w:World) (src dst E:TypeId) (hs:Tryz.prog.underlying src=some (.slice E)) (he:Tryz.prog.underlying E=some (.int .u8)) (hd:Tryz.prog.underlying dst=some .string) (g o n c:Nat) (f:Nat→Nat) (hf:∀ i,i<n→f i<256)
  (hc:∀ i,i<n→w.cell? ⟨g,o+i,none⟩=some (.int .u8 (f i:Int))):(convert src dst (.slice (some ⟨g,o,none⟩) n c)).run Tryz.prog w=.ok (.string (bytesOf f n)) w:=by
 have h:=run_convert_bytes_back (P:=Tryz.prog) w src dst E ⟨g,o,none⟩ c ((List.range n).map fun i=>UInt8.ofNat (f i)) hs he hd (fun j hj=>by
  have hj':j<n:=by simpa using hj
  rw [Addr.add_lit,hc j hj']
  simp [Nat.mod_eq_of_lt (hf j hj')])
 simpa [bytesOf] using h

def sgn (neg:Bool) (v:Nat):Int:=if neg then -(v:Int) else v

theorem intTy_info:(Tryz.prog.info? 3).map (fun i=>(i.zero,i.size,i.bytes))=some (some (.int .i64 0),1,8):=by kernel_rfl
theorem byteTy_info:(Tryz.prog.info? 5).map (fun i=>(i.zero,i.size,i.bytes))=some (some (.int .u8 0),1,1):=by kernel_rfl

theorem quietV {f:FuncId} {args:Array Value} {w:World} {n:Nat} {v:Value} (h:Calls Tryz.prog f args (w.drewN n) (RetV (w.drewN n) v)) :
 Calls Tryz.prog f args (w.drewN n) fun e w''=>e=.returned v∧∃ m,w''=w.drewN m:=h.mono fun _ _ ⟨he,hm⟩=>⟨he,n,hm.symm⟩

theorem heap_one (w:World) (o:Obj):(w.alloc o).heap[w.heap.size]?=some o:=heap_alloc_new w o
theorem heap_two (w:World) (o o':Obj):((w.alloc o).alloc o').heap[w.heap.size+1]?=some o':=by
 have:=heap_alloc_new (w.alloc o) o'
 simpa using this
theorem heap_three (w:World) (o o' o'':Obj):(((w.alloc o).alloc o').alloc o'').heap[w.heap.size+2]?=some o'':=by
 have:=heap_alloc_new ((w.alloc o).alloc o') o''
 simpa using this

theorem res2 {W w:World} {B g:Nat} {T:TypeId} {v0 v1:Value} (h0:W.heap[g]?=some (.cells #[v0,v1] T (0,0))) (hb:Below B W w) (hg:g<B) :
  w.cell? ⟨g,0,none⟩=some v0∧w.cell? ⟨g,1,none⟩=some v1∧w.frozen? ⟨g,0,none⟩=false∧w.frozen? ⟨g,1,none⟩=false:=by
 have h:w.heap[g]?=some (.cells #[v0,v1] T (0,0)):=(hb.block g hg).trans h0
 refine ⟨?_,?_,?_,?_⟩<;>simp [World.cell?,World.frozen?,h]

end Go.Proofs.YtdbhahiieokplaaGreatDoor


namespace Go.Proofs.YtdbhahiieokplaaGreatDoor
open Go.RowKit

theorem number_value {neg:Bool} {f:Nat→Nat} {k n:Nat} (hf:∀ i,i<n→f i<256) (hk:k≤n) (hz:∀ i,k≤i→i<n→f i=0) (ht:0<k→f (k-1)≠0) :
  Value.agg #[.bool (neg && decide ((0:Int)<k)),.string (bytesOf (fun j=>f (k-1-j)) k)]=enc (sgn neg (val 256 f n)):=by
 have hv:bval (bytesOf (fun j=>f (k-1-j)) k)=val 256 f n:=by
  rw [bytesOf_val (fun i hi=>hf _ (by omega)),val_zeros hk hz]
  exact val_congr fun i hi=>by rw [show k-1-(k-1-i)=i by omega]
 refine enc_eq ⟨bytesOf_lead (fun h=>by simpa using ht h) (fun i hi=>hf _ (by omega)),fun h=>?_⟩ ?_
 · rw [bytesOf_size] at h;simp [h]
 · unfold ival sgn
   rw [hv]
   by_cases h0:0<k
   · simp [h0]
   · have:k=0:=by omega
     subst this
     rw [val_zeros (Nat.zero_le n) hz]
     simp [val]

end Go.Proofs.YtdbhahiieokplaaGreatDoor


namespace Go.Proofs.YtdbhahiieokplaaGreatDoor

def sg (odd:Bool):Int:=if odd then 1 else -1
theorem sg_not (o:Bool):sg (!o)=- sg o:=by cases o<;>rfl
theorem sg_sq (o:Bool):sg o*sg o=1:=by cases o<;>rfl

structure Lm (X Y A L a b x0 x1 x2 y0 y1 y2:Nat) (odd:Bool):Prop where
 i1:y2*a+y1*b=A
 i2:x2*a+x1*b=L
 i3:(x1:Int)*y2-x2*y1=sg odd
 i4:x1+x2≤y1+y2
 i5:x2≤y2
 i6:1≤y2
 i7:b≤a
 i9:y1=0→x1=1∧x2=0∧y2=1∧odd=true∧y0=0
 i10:y1≠0→sg odd*((x1:Int)*X-y1*Y)≤Y
 i11:y0≠0→0≤sg odd*((x1:Int)*X-y1*Y)∧sg odd*((x1:Int)*X-y1*Y)<sg odd*((y0:Int)*Y-x0*X)∧sg odd*((y0:Int)*Y-x0*X)≤Y∧(x0:Int)*y1-x1*y0=- sg odd

theorem Lm.start (X Y A L:Nat) (h:L≤A):Lm X Y A L A L 0 1 0 0 0 1 true :=
 ⟨by omega,by omega,by decide,by omega,by omega,by omega,h,fun _=>⟨rfl,rfl,rfl,rfl,rfl⟩,fun h=>absurd rfl h,fun h=>absurd rfl h⟩

theorem lm_bounds {X Y A L a b x0 x1 x2 y0 y1 y2:Nat} {odd:Bool} (h:Lm X Y A L a b x0 x1 x2 y0 y1 y2 odd) (hb:y2≤b) :
  0<b∧a / b*x2≤L∧x1+a / b*x2≤L∧a / b*y2≤A∧y1+a / b*y2≤A∧a%b<b:=by
 have hb0:0<b:=by have:=h.i6;omega
 have hd:=Nat.div_add_mod a b
 have h1:x2*(b*(a / b))≤x2*a:=Nat.mul_le_mul_left _ (by omega)
 have h2:y2*(b*(a / b))≤y2*a:=Nat.mul_le_mul_left _ (by omega)
 have e1:x2*(b*(a / b))=a / b*x2*b:=by grind
 have e2:y2*(b*(a / b))=a / b*y2*b:=by grind
 have i1:=h.i1
 have i2:=h.i2
 have l1:a / b*x2*1≤a / b*x2*b:=Nat.mul_le_mul_left _ hb0
 have l2:a / b*y2*1≤a / b*y2*b:=Nat.mul_le_mul_left _ hb0
 have l3:x1*1≤x1*b:=Nat.mul_le_mul_left _ hb0
 have l4:y1*1≤y1*b:=Nat.mul_le_mul_left _ hb0
 exact ⟨hb0,by omega,by omega,by omega,by omega,Nat.mod_lt _ hb0⟩

theorem lm_sure {X Y A L K a b x0 x1 x2 y0 y1 y2:Nat} {odd:Bool} (h:Lm X Y A L a b x0 x1 x2 y0 y1 y2 odd) (hX:A*K≤X∧X<A*K+K) (hY:L*K≤Y∧Y<L*K+K) (hb:y2≤b) (hab:y1+y2≤a-b) :
  0≤sg odd*((y2:Int)*Y-x2*X)∧sg odd*((y2:Int)*Y-x2*X)<sg odd*((x1:Int)*X-y1*Y):=by
 obtain ⟨al,rfl⟩:∃ al,X=A*K+al:=⟨X-A*K,by omega⟩
 obtain ⟨be,rfl⟩:∃ be,Y=L*K+be:=⟨Y-L*K,by omega⟩
 have hal:al<K:=by omega
 have hbe:be<K:=by omega
 obtain ⟨i1,i2,i3,i4,i5,i6,i7,-,-,-⟩:=h
 have i1':(y2:Int)*a+y1*b=A:=by exact_mod_cast i1
 have i2':(x2:Int)*a+x1*b=L:=by exact_mod_cast i2
 have ss:=sg_sq odd
 have ea:sg odd*((x1:Int)*A-y1*L)=a:=by
  rw [←i1',←i2']
  have:sg odd*((x1:Int)*(y2*a+y1*b)-y1*(x2*a+x1*b))=sg odd*((x1:Int)*y2-x2*y1)*a:=by grind
  rw [this,i3,ss];omega
 have eb:sg odd*((y2:Int)*L-x2*A)=b:=by
  rw [←i1',←i2']
  have:sg odd*((y2:Int)*(x2*a+x1*b)-x2*(y2*a+y1*b))=sg odd*((x1:Int)*y2-x2*y1)*b:=by grind
  rw [this,i3,ss];omega
 push_cast
 have f1:sg odd*((y2:Int)*(L*K+be)-x2*(A*K+al))=b*K+sg odd*(y2*be-x2*al):=by rw [←eb];grind
 have f2:sg odd*((x1:Int)*(A*K+al)-y1*(L*K+be))=a*K+sg odd*(x1*al-y1*be):=by rw [←ea];grind
 rw [f1,f2]
 -- bounds of the products
 have p1:x2*al≤y2*al:=Nat.mul_le_mul_right _ i5
 have p2:y2*al<y2*K:=Nat.mul_lt_mul_of_pos_left hal i6
 have p3:y2*be<y2*K:=Nat.mul_lt_mul_of_pos_left hbe i6
 have p4:y2*K≤b*K:=Nat.mul_le_mul_right _ hb
 have p5:(x1+x2)*al≤(y1+y2)*al:=Nat.mul_le_mul_right _ i4
 have p6:(y1+y2)*al<(y1+y2)*K:=Nat.mul_lt_mul_of_pos_left hal (by omega)
 have p7:(y1+y2)*be<(y1+y2)*K:=Nat.mul_lt_mul_of_pos_left hbe (by omega)
 have p8:(b+(y1+y2))*K≤a*K:=Nat.mul_le_mul_right _ (by omega)
 rw [Nat.add_mul] at p5 p6 p7 p8
 rw [Nat.add_mul] at p5 p6 p7 p8
 have c1:(x2:Int)*al=((x2*al:Nat):Int):=by simp
 have c2:(y2:Int)*be=((y2*be:Nat):Int):=by simp
 have c3:(x1:Int)*al=((x1*al:Nat):Int):=by simp
 have c4:(y1:Int)*be=((y1*be:Nat):Int):=by simp
 have c5:(a:Int)*K=((a*K:Nat):Int):=by simp
 have c6:(b:Int)*K=((b*K:Nat):Int):=by simp
 rw [c1,c2,c3,c4,c5,c6]
 cases odd
 · simp only [sg,Bool.false_eq_true,if_false]
   omega
 · simp only [sg,if_true]
   omega

theorem Lm.step {X Y A L K a b x0 x1 x2 y0 y1 y2:Nat} {odd:Bool} (h:Lm X Y A L a b x0 x1 x2 y0 y1 y2 odd) (hX:A*K≤X∧X<A*K+K) (hY:L*K≤Y∧Y<L*K+K) (hb:y2≤b) (hab:y1+y2≤a-b) :
  Lm X Y A L b (a%b) x1 x2 (x1+a / b*x2) y1 y2 (y1+a / b*y2) (!odd):=by
 have hs:=lm_sure h hX hY hb hab
 obtain ⟨i1,i2,i3,i4,i5,i6,i7,i9,i10,i11⟩:=h
 have hb0:0<b:=by omega
 have hd:=Nat.div_add_mod a b
 have hm:=Nat.mod_lt a hb0
 have hq:1≤a / b:=Nat.div_pos i7 hb0
 obtain ⟨q,hq'⟩:∃ q,a / b=q+1:=⟨a / b-1,by omega⟩
 rw [hq'] at hd ⊢
 generalize a%b=r at *
 have e1:((y2:Int)*Y-x2*X)=- ((x2:Int)*X-y2*Y):=by omega
 have i5q:q*x2≤q*y2:=Nat.mul_le_mul_left _ i5
 have i6q:1≤y1+(q+1)*y2:=by rw [Nat.add_mul];omega
 refine ⟨?_,?_,?_,?_,?_,i6q,by omega,fun h=>by omega,fun _=>?_,fun h0=>?_⟩
 · rw [←i1,←hd];grind
 · rw [←i2,←hd];grind
 · rw [sg_not,←i3];push_cast;grind
 · rw [Nat.add_mul,Nat.add_mul];omega
 · rw [Nat.add_mul,Nat.add_mul];omega
 · rw [sg_not]
   have e2:- sg odd*((x2:Int)*X-y2*Y)=sg odd*((y2:Int)*Y-x2*X):=by grind
   rw [e2]
   by_cases h1:y1=0
   · obtain ⟨-,rfl,rfl,rfl,-⟩:=i9 h1
     simp [sg]
   · have:=i10 h1
     omega
 · rw [sg_not]
   have e2:- sg odd*((x2:Int)*X-y2*Y)=sg odd*((y2:Int)*Y-x2*X):=by grind
   have e3:- sg odd*((y1:Int)*Y-x1*X)=sg odd*((x1:Int)*X-y1*Y):=by grind
   rw [e2,e3]
   exact ⟨hs.1,hs.2,i10 h0,by rw [i3];omega⟩

theorem lehmer_gcd {X Y x0 y0 x1 y1 R0 R1:Nat} {s:Int} (hs:s*s=1) (h0:(R0:Int)=s*((y0:Int)*Y-x0*X)) (h1:(R1:Int)=s*((x1:Int)*X-y1*Y)) (hd:(x0:Int)*y1-x1*y0=- s):Nat.gcd R0 R1=Nat.gcd X Y:=by
 have eX:(X:Int)=y1*R0+y0*R1:=by
  rw [h0,h1]
  have:(y1:Int)*(s*((y0:Int)*Y-x0*X))+y0*(s*((x1:Int)*X-y1*Y))=- (s*((x0:Int)*y1-x1*y0))*X:=by grind
  rw [this,hd]
  have:-(s*-s)=s*s:=by grind
  rw [this,hs];omega
 have eY:(Y:Int)=x1*R0+x0*R1:=by
  rw [h0,h1]
  have:(x1:Int)*(s*((y0:Int)*Y-x0*X))+x0*(s*((x1:Int)*X-y1*Y))=- (s*((x0:Int)*y1-x1*y0))*Y:=by grind
  rw [this,hd]
  have:-(s*-s)=s*s:=by grind
  rw [this,hs];omega
 have nX:X=y1*R0+y0*R1:=by exact_mod_cast eX
 have nY:Y=x1*R0+x0*R1:=by exact_mod_cast eY
 apply Nat.dvd_antisymm
 · apply Nat.dvd_gcd
   · conv=>rhs;rw [nX]
     exact Nat.dvd_add (Nat.dvd_trans (Nat.gcd_dvd_left _ _) (Nat.dvd_mul_left _ _)) (Nat.dvd_trans (Nat.gcd_dvd_right _ _) (Nat.dvd_mul_left _ _))
   · conv=>rhs;rw [nY]
     exact Nat.dvd_add (Nat.dvd_trans (Nat.gcd_dvd_left _ _) (Nat.dvd_mul_left _ _)) (Nat.dvd_trans (Nat.gcd_dvd_right _ _) (Nat.dvd_mul_left _ _))
 · have dX:((Nat.gcd X Y:Nat):Int) ∣ (X:Int):=by exact_mod_cast Nat.gcd_dvd_left X Y
   have dY:((Nat.gcd X Y:Nat):Int) ∣ (Y:Int):=by exact_mod_cast Nat.gcd_dvd_right X Y
   apply Nat.dvd_gcd
   · have : ((Nat.gcd X Y : Nat) : Int) ∣ (R0 : Int) := by
      rw [h0]
      exact Int.dvd_trans (Int.dvd_sub (Int.dvd_trans dY (Int.dvd_mul_left _ _)) (Int.dvd_trans dX (Int.dvd_mul_left _ _))) (Int.dvd_mul_left _ _)
     exact_mod_cast this
   · have : ((Nat.gcd X Y : Nat) : Int) ∣ (R1 : Int) := by
      rw [h1]
      exact Int.dvd_trans (Int.dvd_sub (Int.dvd_trans dX (Int.dvd_mul_left _ _)) (Int.dvd_trans dY (Int.dvd_mul_left _ _))) (Int.dvd_mul_left _ _)
     exact_mod_cast this


theorem gcd_odd_two {a:Nat} (ha:a%2=1) (b k:Nat):Nat.gcd a (b*2^k)=Nat.gcd a b:=by
 have h2:Nat.Coprime a (2^k):=by
  apply Nat.Coprime.pow_right
  rw [Nat.Coprime,Nat.gcd_comm,Nat.gcd_rec,ha]
  rfl
 rw [Nat.mul_comm]
 exact Nat.Coprime.gcd_mul_left_cancel_right b h2.symm

theorem gcd_twos {A B a b j k:Nat} (hA:A=a*2^j) (hB:B=b*2^k) (ha:a%2=1) (hb:b%2=1):Nat.gcd A B=Nat.gcd a b*2^min j k:=by
 subst hA hB
 rcases Nat.le_total j k with h | h
 · rw [Nat.min_eq_left h]
   obtain ⟨m,rfl⟩:∃ m,k=j+m:=⟨k-j,by omega⟩
   rw [Nat.pow_add,Nat.mul_comm (2^j),←Nat.mul_assoc,Nat.gcd_mul_right,gcd_odd_two ha]
 · rw [Nat.min_eq_right h]
   obtain ⟨m,rfl⟩:∃ m,j=k+m:=⟨j-k,by omega⟩
   rw [Nat.pow_add,Nat.mul_comm (2^k),←Nat.mul_assoc,Nat.gcd_mul_right,Nat.gcd_comm,gcd_odd_two hb,Nat.gcd_comm]

theorem gcd_sub_odd {a b:Nat} (h:a≤b):Nat.gcd a (b-a)=Nat.gcd a b:=by
 rw [Nat.gcd_sub_self_right h]
end Go.Proofs.YtdbhahiieokplaaGreatDoor


namespace Go.Proofs.YtdbhahiieokplaaGreatDoor.Sg
theorem rat_arch (x:Rat):∃ n:Nat,x<(n:Rat):=by
 refine ⟨x.num.natAbs+1,?_⟩
 rw [Rat.lt_iff]
 show x.num*((((x.num.natAbs+1:Nat):Rat)).den:Int)<(((x.num.natAbs+1:Nat):Rat)).num*(x.den:Int)
 rw [Rat.den_natCast,Rat.num_natCast]
 have h:=x.den_pos
 have h1:(1:Int)≤(x.den:Int):=by omega
 have h2:=Int.mul_le_mul_of_nonneg_left h1 (show (0:Int)≤((x.num.natAbs+1:Nat):Int) by omega)
 omega
theorem half_step {a u:Rat} (ha:0<a) (hu:0<u) (h:a<u*u):∃ v:Rat,0<v∧a<v*v∧2*(v*v-a)≤u*u-a:=by
 have hne:(2*u:Rat)≠0:=by grind
 obtain ⟨w,hw⟩:∃ w:Rat,2*u*w=1:=⟨(2*u)⁻¹,Rat.mul_inv_cancel _ hne⟩
 have hw0:0<w:=by
  by_cases h1:0<w
  · exact h1
  · have h2:=Rat.mul_nonneg (show 0≤2*u by grind) (show 0≤-w by grind)
    grind
 have hE:0<(u*u-a)*w:=Rat.mul_pos (by grind) hw0
 have e:(u*u+a)*w*((u*u+a)*w)-a=(u*u-a)*w*((u*u-a)*w):=by grind
 have hEE:=Rat.mul_pos hE hE
 refine ⟨(u*u+a)*w,Rat.mul_pos (by grind) hw0,by grind,?_⟩
 rw [e]
 have h3:(u*u-a)*w≤u*u*w:=by
  have:=Rat.mul_pos ha hw0
  grind
 have h4:=Rat.mul_le_mul_of_nonneg_left h3 (Rat.le_of_lt hE)
 have h5:(u*u-a)*w*(u*u*w)*4=u*u-a:=by grind
 grind
theorem approx {a:Rat} (ha:0<a) {ε:Rat} (hε:0<ε):∃ u:Rat,0<u∧a<u*u∧u*u<a+ε:=by
 have hall:∀ n:Nat,∃ u:Rat,0<u∧a<u*u∧((2^n:Nat):Rat)*(u*u-a)≤(a+1)*(a+1)-a:=fun n=>by
  induction n with
  | zero=>exact ⟨a+1,by grind,by have:=Rat.mul_pos ha ha;grind,by rw [Nat.pow_zero];show (1:Rat)*_≤_;grind⟩
  | succ n ih =>
    obtain ⟨u,h1,h2,h3⟩:=ih
    obtain ⟨v,k1,k2,k3⟩:=half_step ha h1 h2
    refine ⟨v,k1,k2,?_⟩
    have hp:(0:Rat)≤((2^n:Nat):Rat):=Rat.natCast_nonneg
    have h4:=Rat.mul_le_mul_of_nonneg_left k3 hp
    rw [Nat.pow_succ,Rat.natCast_mul]
    show ((2^n:Nat):Rat)*(2:Rat)*_≤_
    grind
 obtain ⟨w,hw⟩:∃ w:Rat,ε*w=1:=⟨ε⁻¹,Rat.mul_inv_cancel _ (by grind)⟩
 have hw0:0<w:=by
  by_cases h1:0<w
  · exact h1
  · have h2:=Rat.mul_nonneg (Rat.le_of_lt hε) (show 0≤-w by grind)
    grind
 obtain ⟨n,hn⟩:=rat_arch (((a+1)*(a+1)-a)*w)
 obtain ⟨u,h1,h2,h3⟩:=hall n
 refine ⟨u,h1,h2,?_⟩
 have h4:(n:Rat)≤((2^n:Nat):Rat):=Rat.natCast_le_natCast.2 (Nat.le_of_lt Nat.lt_two_pow_self)
 have h5:=mul_lt hn hε
 have h6:=Rat.mul_le_mul_of_nonneg_right h4 (Rat.le_of_lt hε)
 have hp:(0:Rat)<((2^n:Nat):Rat):=by
  have:(0:Rat)<(1:Rat):=by decide
  have h7:((1:Nat):Rat)≤((2^n:Nat):Rat):=Rat.natCast_le_natCast.2 Nat.one_le_two_pow
  grind
 by_cases h8:u*u<a+ε
 · exact h8
 · have h9:=Rat.mul_le_mul_of_nonneg_left (show ε≤u*u-a by grind) (Rat.le_of_lt hp)
   have h10:((a+1)*(a+1)-a)*w*ε=(a+1)*(a+1)-a:=by grind
   rw [h10] at h5
   exact absurd (Rat.le_trans h6 (Rat.le_trans h9 h3)) (Rat.not_le.2 h5)
end Go.Proofs.YtdbhahiieokplaaGreatDoor.Sg


namespace Go.Proofs.YtdbhahiieokplaaGreatDoor.Sg
theorem exists_inv {x:Rat} (hx:0<x):∃ w:Rat,0<w∧x*w=1:=by
 obtain ⟨w,hw⟩:∃ w:Rat,x*w=1:=⟨x⁻¹,Rat.mul_inv_cancel _ (by grind)⟩
 refine ⟨w,?_,hw⟩
 by_cases h1:0<w
 · exact h1
 · have h2:=Rat.mul_nonneg (Rat.le_of_lt hx) (show 0≤-w by grind)
   grind
theorem frac_n (n:Nat):(0:Rat)<1 / ((n:Rat)+1):=by
 have h:(0:Rat)≤(n:Rat):=Rat.natCast_nonneg
 obtain ⟨w,hw,e⟩:=exists_inv (show (0:Rat)<(n:Rat)+1 by grind)
 have:1 / ((n:Rat)+1)=w:=by grind
 rw [this]
 exact hw
noncomputable def up (a:Rat) (n:Nat):Rat:=if h:0<a then Classical.choose (approx h (frac_n n)) else 0
end Go.Proofs.YtdbhahiieokplaaGreatDoor.Sg


namespace Go.Proofs.YtdbhahiieokplaaGreatDoor.Sg
def NSq (a:Rat):Prop:=∀ z:Rat,z*z≠a
end Go.Proofs.YtdbhahiieokplaaGreatDoor.Sg


namespace Go.Proofs.YtdbhahiieokplaaGreatDoor.Sg
structure Rl where
 p:Rat
 a:Rat
 s:Int
structure Rl.Ok (x:Rl):Prop where
 sg:x.s=1∨x.s=-1
 form:(x.a=0∧x.s=1)∨(0<x.a∧NSq x.a)
noncomputable def Rl.val (x:Rl) (n:Nat):Rat:=x.p+(x.s:Rat)*up x.a n
theorem Rl.ext' {x y:Rl} (h1:x.p=y.p) (h2:x.a=y.a) (h3:x.s=y.s):x=y:=by
 cases x
 cases y
 simp_all
end Go.Proofs.YtdbhahiieokplaaGreatDoor.Sg


namespace Go.Proofs.YtdbhahiieokplaaGreatDoor.Sg
end Go.Proofs.YtdbhahiieokplaaGreatDoor.Sg


namespace Go.Proofs.YtdbhahiieokplaaGreatDoor.Sg
def Rl.of (q:Rat):Rl:=⟨q,0,1⟩
theorem of_ok (q:Rat):(Rl.of q).Ok:=⟨.inl rfl,.inl ⟨rfl,rfl⟩⟩
end Go.Proofs.YtdbhahiieokplaaGreatDoor.Sg


namespace Go.Proofs.YtdbhahiieokplaaGreatDoor.Sg
end Go.Proofs.YtdbhahiieokplaaGreatDoor.Sg


namespace Go.Proofs.YtdbhahiieokplaaGreatDoor.Sg
end Go.Proofs.YtdbhahiieokplaaGreatDoor.Sg


namespace Go.Proofs.YtdbhahiieokplaaGreatDoor.Sg
end Go.Proofs.YtdbhahiieokplaaGreatDoor.Sg


namespace Go.Proofs.YtdbhahiieokplaaGreatDoor.Sg
def Rl.inv (x:Rl) (m:Rat):Rl:=⟨x.p*m,x.a*(m*m),if 0<m then -x.s else x.s⟩
def Rl.add (x:Rl) (r:Rat):Rl:=⟨x.p+r,x.a,x.s⟩
end Go.Proofs.YtdbhahiieokplaaGreatDoor.Sg


namespace Go.Proofs.YtdbhahiieokplaaGreatDoor.Sg
end Go.Proofs.YtdbhahiieokplaaGreatDoor.Sg


namespace Go.Proofs.YtdbhahiieokplaaGreatDoor.Sg
end Go.Proofs.YtdbhahiieokplaaGreatDoor.Sg


namespace Go.Proofs.YtdbhahiieokplaaGreatDoor.Sg
end Go.Proofs.YtdbhahiieokplaaGreatDoor.Sg


namespace Go.Proofs.YtdbhahiieokplaaGreatDoor.Sg
def Rl.neg (x:Rl):Rl:=⟨-x.p,x.a,if x.a=0 then 1 else -x.s⟩
theorem neg_ok {x:Rl} (hx:x.Ok):x.neg.Ok:=by
 have hs:=hx.sg
 unfold Rl.neg
 by_cases h:x.a=0
 · exact ⟨.inl (if_pos h),.inl ⟨h,if_pos h⟩⟩
 · refine ⟨?_,?_⟩
   · show (if x.a=0 then (1:Int) else -x.s)=1∨(if x.a=0 then (1:Int) else -x.s)=-1
     rw [if_neg h]
     omega
   · rcases hx.form with ⟨h1,_⟩ | h1
     · exact absurd h1 h
     · exact .inr h1
end Go.Proofs.YtdbhahiieokplaaGreatDoor.Sg


namespace Go.Proofs.YtdbhahiieokplaaGreatDoor.Sg
def Sq (r:Rat):Prop:=∃ z:Rat,0≤z∧z*z=r
open Classical in
noncomputable def rt (r:Rat):Rat:=if h:Sq r then h.choose else 0
theorem root_one {z w:Rat} (hz:0≤z) (hw:0≤w) (h:z*z=w*w):z=w:=by
 by_cases h1:z=w
 · exact h1
 · have h2:(z-w)*(z+w)=0:=by grind
   rcases Rat.mul_eq_zero.1 h2 with h3 | h3<;>grind
theorem rt_eq {z r:Rat} (hz:0≤z) (h:z*z=r):rt r=z:=by
 have hs:Sq r:=⟨z,hz,h⟩
 unfold rt
 rw [dif_pos hs]
 exact root_one hs.choose_spec.1 hz (by rw [hs.choose_spec.2,h])
theorem nsq_sq {r:Rat}:NSq r↔¬Sq r:=by
 constructor
 · rintro h ⟨z,_,e⟩
   exact h z e
 · intro h z e
   by_cases hz:0≤z
   · exact h ⟨z,hz,e⟩
   · exact h ⟨-z,by grind,by grind⟩
open Classical in
noncomputable def mkR (p q r:Rat):Rl:=if Sq r then ⟨p+q*rt r,0,1⟩ else if q=0 then ⟨p,0,1⟩ else ⟨p,q*q*r,if q<0 then -1 else 1⟩
open Classical in
noncomputable def sumP (p:Rat) (s:Int) (r:Rat):Rl:=if Sq r then (if s<0 then ⟨p-rt r,0,1⟩ else ⟨p+rt r,0,1⟩) else ⟨p,r,if s<0 then -1 else 1⟩
theorem nsq_by {r c:Rat} (hc:c≠0) (h:¬Sq r):¬Sq (c*c*r):=by
 rintro ⟨z,hz,e⟩
 obtain ⟨w,hw⟩:∃ w:Rat,c*w=1:=⟨c⁻¹,Rat.mul_inv_cancel _ hc⟩
 refine nsq_sq.2 h (z*w) ?_
 grind
theorem make_same (p q r:Rat):sumP p (sgq q) (q*q*r)=mkR p q r:=by
 have sg:(sgq q<0↔q<0):=by rcases sgq_three q with ⟨k,e⟩ | ⟨k,e⟩ | ⟨k,e⟩<;>rw [e]<;>constructor<;>intro h<;>grind
 unfold sumP mkR
 by_cases hr:Sq r
 · rw [if_pos hr]
   obtain ⟨z,hz,e⟩:=hr
   rw [rt_eq hz e]
   by_cases hq:q<0
   · have h0:0≤-q*z:=Rat.mul_nonneg (by grind) hz
     have h1:(-q*z)*(-q*z)=q*q*r:=by grind
     rw [if_pos ⟨_,h0,h1⟩,if_pos (sg.2 hq),rt_eq h0 h1]
     congr 1
     grind
   · have h0:0≤q*z:=Rat.mul_nonneg (by grind) hz
     have h1:(q*z)*(q*z)=q*q*r:=by grind
     rw [if_pos ⟨_,h0,h1⟩,if_neg (fun h=>hq (sg.1 h)),rt_eq h0 h1]
 · rw [if_neg hr]
   by_cases hq:q=0
   · subst hq
     have h1:(0:Rat)*0=0*0*r:=by grind
     rw [if_pos ⟨0,by grind,h1⟩,if_pos rfl,if_neg (fun h=>absurd (sg.1 h) (by grind)),rt_eq (z:=0) (by grind) h1]
     congr 1
     grind
   · rw [if_neg (nsq_by hq hr),if_neg hq]
     congr 1
     by_cases h:q<0
     · rw [if_pos (sg.2 h),if_pos h]
     · rw [if_neg (fun k=>h (sg.1 k)),if_neg h]
theorem ok_cases {x:Rl} (hx:x.Ok):(x.a=0∧x.s=1)∨(0<x.a∧¬Sq x.a):=by
 rcases hx.form with h | ⟨h1,h2⟩
 · exact .inl h
 · exact .inr ⟨h1,nsq_sq.1 h2⟩
theorem mkR_zero (p q:Rat):mkR p q 0=Rl.of p:=by
 unfold mkR Rl.of
 have h:Sq 0:=⟨0,by grind,by grind⟩
 rw [if_pos h,rt_eq (z:=0) (by grind) (by grind)]
 congr 1
 grind
def Rl.scale (x:Rl) (r:Rat):Rl:=if x.a=0 then ⟨x.p*r,0,1⟩ else ⟨x.p*r,x.a*(r*r),if r<0 then -x.s else x.s⟩
theorem scale_mk {x:Rl} (hx:x.Ok) {r:Rat} (hr:r≠0):mkR (x.p*r) (r*(x.s:Rat)) x.a=x.scale r:=by
 rcases ok_cases hx with ⟨h1,h2⟩ | ⟨h1,h2⟩
 · unfold Rl.scale
   rw [h1,mkR_zero,if_pos rfl]
   rfl
 · unfold mkR Rl.scale
   rw [if_neg h2,if_neg (show x.a≠0 by grind)]
   rcases hx.sg with e | e
   · rw [e]
     have e1:r*((1:Int):Rat)=r:=by show r*(1:Rat)=r;grind
     rw [e1,if_neg hr]
     exact Rl.ext' rfl (by show r*r*x.a=_;grind) rfl
   · rw [e]
     have e1:r*((-1:Int):Rat)=-r:=by show r*(-1:Rat)=-r;grind
     rw [e1,if_neg (by grind)]
     refine Rl.ext' rfl (by show -r*-r*x.a=_;grind) ?_
     show (if -r<0 then (-1:Int) else 1)=if r<0 then - -1 else -1
     by_cases h:r<0
     · rw [if_neg (by grind),if_pos h]
       rfl
     · rw [if_pos (by grind),if_neg h]
end Go.Proofs.YtdbhahiieokplaaGreatDoor.Sg


namespace Go.Proofs.YtdbhahiieokplaaGreatDoor.Sg
theorem add_back (x:Rl) (r:Rat):(x.add r).add (-r)=x:=Rl.ext' (by show x.p+r+-r=x.p;grind) rfl rfl
end Go.Proofs.YtdbhahiieokplaaGreatDoor.Sg


namespace Go.Proofs.YtdbhahiieokplaaGreatDoor.Sg
end Go.Proofs.YtdbhahiieokplaaGreatDoor.Sg
