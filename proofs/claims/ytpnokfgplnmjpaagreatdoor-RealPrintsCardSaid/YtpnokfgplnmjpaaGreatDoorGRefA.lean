import Derived.Test.YtpnokfgplnmjpaaGreatDoorGSgQ
import Derived.Test.YtpnokfgplnmjpaaGreatDoorChecked
import Derived.WalkKit
import Derived.WalkSpells
import Derived.WalkLawsBesides
import Derived.Lib.Hide
import Derived.Deep.QuietTactic
import Derived.Deep.OwnRows
set_option linter.unusedSimpArgs false
set_option linter.unusedVariables false

namespace Go.Proofs.YtpnokfgplnmjpaaGreatDoor
open Go.RowKit

def Rd (w:World) (K:IntKind) (A:Option Addr) (n:Nat) (f:Nat→Nat):Prop :=
 0<n→∃ g o,A=some ⟨g,o,none⟩∧g<w.heap.size∧∀ i,i<n→w.cell? ⟨g,o+i,none⟩=some (.int K (f i:Int))

section
variable {w w':World} {K:IntKind} {A:Option Addr} {n:Nat} {f g:Nat→Nat}

theorem Rd.nil (w:World) (K:IntKind) (A:Option Addr) (f:Nat→Nat):Rd w K A 0 f:=fun h=>absurd h (by omega)

theorem Rd.below (h:Rd w K A n f) (hb:Below w.heap.size w w'):Rd w' K A n f:=fun hn=>by
 obtain ⟨g,o,e,hg,hc⟩:=h hn
 exact ⟨g,o,e,Nat.lt_of_lt_of_le hg hb.size,fun i hi=>(hb.cell (p:=⟨g,o+i,none⟩) hg).trans (hc i hi)⟩

theorem Rd.alloc (h:Rd w K A n f) (o:Obj):Rd (w.alloc o) K A n f:=h.below ((Below.refl _ _).alloc (Nat.le_refl _) o)
theorem Rd.drew (h:Rd w K A n f):Rd w.drew K A n f:=h
theorem Rd.drewN (h:Rd w K A n f) (k:Nat):Rd (w.drewN k) K A n f:=h

theorem Rd.congr (h:Rd w K A n f) (e:∀ i,i<n→f i=g i):Rd w K A n g:=fun hn=>by
 obtain ⟨b,o,h1,hg,hc⟩:=h hn
 exact ⟨b,o,h1,hg,fun i hi=>by rw [hc i hi,e i hi]⟩

theorem Rd.take (h:Rd w K A n f) {m:Nat} (hm:m≤n):Rd w K A m f:=fun hn=>by
 obtain ⟨b,o,h1,hg,hc⟩:=h (by omega)
 exact ⟨b,o,h1,hg,fun i hi=>hc i (by omega)⟩
end

def nums (K:IntKind) (f:Nat→Nat) (n:Nat):List Value:=(List.range n).map fun i=>.int K (f i:Int)

theorem nums_succ (K:IntKind) (f:Nat→Nat) (n:Nat):nums K f (n+1)=nums K f n++[.int K (f n:Int)]:=by
 simp [nums,List.range_succ]
theorem nums_length (K:IntKind) (f:Nat→Nat) (n:Nat):(nums K f n).length=n:=by simp [nums]
theorem nums_get (K:IntKind) (f:Nat→Nat) (n i:Nat) (h:i<n):(nums K f n)[i]?=some (.int K (f i:Int)):=by
 simp [nums,h]
theorem nums_congr {K:IntKind} {f g:Nat→Nat} {n:Nat} (h:∀ i,i<n→f i=g i):nums K f n=nums K g n:=by
 apply List.ext_getElem?
 intro i
 by_cases hi:i<n
 · rw [nums_get _ _ _ _ hi,nums_get _ _ _ _ hi,h i hi]
 · rw [List.getElem?_eq_none (by rw [nums_length];omega),List.getElem?_eq_none (by rw [nums_length];omega)]

def enc (z:Int):Value:=.agg #[.bool (decide (z<0)),.string (mag z.natAbs)]

theorem enc_of {neg:Bool} {s:ByteArray} (h:Canon neg s):Value.agg #[.bool neg,.string s]=enc (ival neg s):=by
 obtain ⟨h1,h2⟩:=canon_eq h
 unfold enc
 rw [←h1,←h2]

theorem enc_form (z:Int):∃ b m,enc z=.agg #[.bool b,.string m]:=⟨_,_,rfl⟩

theorem enc_eq {neg:Bool} {s:ByteArray} {z:Int} (h:Canon neg s) (hz:ival neg s=z):Value.agg #[.bool neg,.string s]=enc z:=by rw [←hz];exact enc_of h

theorem below_draws {B:Nat} {a w:World} (h:Below B a w) (n:Nat):Below B a (w.drewN n):=⟨h.os,h.tape,h.output,h.size,h.block⟩

structure Dg (w:World) (K:IntKind) (b:Nat) (A:Option Addr) (n V:Nat):Prop where
 lt:V<b^n
 rd:Rd w K A n (D b V)

theorem Dg.below {w w':World} {K:IntKind} {b:Nat} {A:Option Addr} {n V:Nat} (h:Dg w K b A n V) (hb:Below w.heap.size w w'):Dg w' K b A n V:=⟨h.lt,h.rd.below hb⟩
theorem Dg.alloc {w:World} {K:IntKind} {b:Nat} {A:Option Addr} {n V:Nat} (h:Dg w K b A n V) (o:Obj):Dg (w.alloc o) K b A n V:=⟨h.lt,h.rd.alloc o⟩
theorem Dg.drewN {w:World} {K:IntKind} {b:Nat} {A:Option Addr} {n V:Nat} (h:Dg w K b A n V) (k:Nat):Dg (w.drewN k) K b A n V:=⟨h.lt,h.rd⟩
theorem Dg.drew {w:World} {K:IntKind} {b:Nat} {A:Option Addr} {n V:Nat} (h:Dg w K b A n V):Dg w.drew K b A n V:=⟨h.lt,h.rd⟩

def RetZ (w:World) (z:Int) (e:Ending) (w':World):Prop:=e=.returned (enc z)∧Below w.heap.size w w'

def RetV (w:World) (v:Value) (e:Ending) (w':World):Prop:=e=.returned v∧w=w'

def bytesOf (f:Nat→Nat) (n:Nat):ByteArray:=⟨((List.range n).map fun i=>UInt8.ofNat (f i)).toArray⟩

theorem bytesOf_size (f:Nat→Nat) (n:Nat):(bytesOf f n).size=n:=by simp [bytesOf,ByteArray.size]
theorem bytesOf_get (f:Nat→Nat) (n i:Nat) (h:i<(bytesOf f n).size):(bytesOf f n)[i]=UInt8.ofNat (f i):=by
 simp [bytesOf,ByteArray.getElem_eq_getElem_data]
theorem bytesOf_dig {f:Nat→Nat} {n:Nat} (hf:∀ i,i<n→f i<256) (i:Nat) (h:i<n):dig (bytesOf f n) i=f (n-1-i):=by
 unfold dig
 rw [dif_pos (by rw [bytesOf_size];exact h),bytesOf_get]
 simp only [bytesOf_size,UInt8.toNat_ofNat']
 exact Nat.mod_eq_of_lt (hf _ (by omega))
theorem bytesOf_val {f:Nat→Nat} {n:Nat} (hf:∀ i,i<n→f i<256):bval (bytesOf f n)=val 256 (fun i=>f (n-1-i)) n:=by
 unfold bval
 rw [bytesOf_size]
 exact val_congr fun i hi=>bytesOf_dig hf i hi
theorem bytesOf_lead {f:Nat→Nat} {n:Nat} (h0:0<n→f 0≠0) (hf:∀ i,i<n→f i<256):Lead (bytesOf f n):=by
 intro h
 rw [bytesOf_get]
 rw [bytesOf_size] at h
 simp only [UInt8.toNat_ofNat']
 rw [Nat.mod_eq_of_lt (hf 0 h)]
 exact h0 h

theorem str_of_cells (w:World) (src dst E:TypeId) (hs:Tryz.prog.underlying src=some (.slice E)) (he:Tryz.prog.underlying E=some (.int .u8)) (hd:Tryz.prog.underlying dst=some .string) (g o n c:Nat) (f:Nat→Nat) (hf:∀ i,i<n→f i<256)
  (hc:∀ i,i<n→w.cell? ⟨g,o+i,none⟩=some (.int .u8 (f i:Int))):(convert src dst (.slice (some ⟨g,o,none⟩) n c)).run Tryz.prog w=.ok (.string (bytesOf f n)) w:=by
 have h:=run_convert_bytes_back (P:=Tryz.prog) w src dst E ⟨g,o,none⟩ c ((List.range n).map fun i=>UInt8.ofNat (f i)) hs he hd (fun j hj=>by
  have hj':j<n:=by simpa using hj
  rw [Addr.add_lit,hc j hj']
  simp [Nat.mod_eq_of_lt (hf j hj')])
 simpa [bytesOf] using h

def sgn (neg:Bool) (v:Nat):Int:=if neg then -(v:Int) else v

theorem intTy_info:(Tryz.prog.info? 3).map (fun i=>(i.zero,i.size,i.bytes))=some (some (.int .i64 0),1,8):=by kernel_rfl
theorem byteTy_info:(Tryz.prog.info? 5).map (fun i=>(i.zero,i.size,i.bytes))=some (some (.int .u8 0),1,1):=by kernel_rfl

theorem quietV {f:FuncId} {args:Array Value} {w:World} {n:Nat} {v:Value} (h:Calls Tryz.prog f args (w.drewN n) (RetV (w.drewN n) v)) :
 Calls Tryz.prog f args (w.drewN n) fun e w''=>e=.returned v∧∃ m,w''=w.drewN m:=h.mono fun _ _ ⟨he,hm⟩=>⟨he,n,hm.symm⟩

theorem heap_one (w:World) (o:Obj):(w.alloc o).heap[w.heap.size]?=some o:=heap_alloc_new w o
theorem heap_two (w:World) (o o':Obj):((w.alloc o).alloc o').heap[w.heap.size+1]?=some o':=by
 have:=heap_alloc_new (w.alloc o) o'
 simpa using this
theorem heap_three (w:World) (o o' o'':Obj):(((w.alloc o).alloc o').alloc o'').heap[w.heap.size+2]?=some o'':=by
 have:=heap_alloc_new ((w.alloc o).alloc o') o''
 simpa using this

theorem res2 {W w:World} {B g:Nat} {T:TypeId} {v0 v1:Value} (h0:W.heap[g]?=some (.cells #[v0,v1] T (0,0))) (hb:Below B W w) (hg:g<B) :
  w.cell? ⟨g,0,none⟩=some v0∧w.cell? ⟨g,1,none⟩=some v1∧w.frozen? ⟨g,0,none⟩=false∧w.frozen? ⟨g,1,none⟩=false:=by
 have h:w.heap[g]?=some (.cells #[v0,v1] T (0,0)):=(hb.block g hg).trans h0
 refine ⟨?_,?_,?_,?_⟩<;>simp [World.cell?,World.frozen?,h]

end Go.Proofs.YtpnokfgplnmjpaaGreatDoor


namespace Go.Proofs.YtpnokfgplnmjpaaGreatDoor
open Go.RowKit

theorem number_value {neg:Bool} {f:Nat→Nat} {k n:Nat} (hf:∀ i,i<n→f i<256) (hk:k≤n) (hz:∀ i,k≤i→i<n→f i=0) (ht:0<k→f (k-1)≠0) :
  Value.agg #[.bool (neg && decide ((0:Int)<k)),.string (bytesOf (fun j=>f (k-1-j)) k)]=enc (sgn neg (val 256 f n)):=by
 have hv:bval (bytesOf (fun j=>f (k-1-j)) k)=val 256 f n:=by
  rw [bytesOf_val (fun i hi=>hf _ (by omega)),val_zeros hk hz]
  exact val_congr fun i hi=>by rw [show k-1-(k-1-i)=i by omega]
 refine enc_eq ⟨bytesOf_lead (fun h=>by simpa using ht h) (fun i hi=>hf _ (by omega)),fun h=>?_⟩ ?_
 · rw [bytesOf_size] at h;simp [h]
 · unfold ival sgn
   rw [hv]
   by_cases h0:0<k
   · simp [h0]
   · have:k=0:=by omega
     subst this
     rw [val_zeros (Nat.zero_le n) hz]
     simp [val]

end Go.Proofs.YtpnokfgplnmjpaaGreatDoor
