import Derived.Test.YtpnokfgplnmjpaaGreatDoorGSgH
import Derived.Test.YtpnokfgplnmjpaaGreatDoorChecked
import Derived.WalkKit
import Derived.WalkSpells
import Derived.WalkLawsBesides
import Derived.Lib.Hide
import Derived.Deep.QuietTactic
import Derived.Deep.OwnRows
set_option linter.unusedSimpArgs false
set_option linter.unusedVariables false

namespace Go.Proofs.YtpnokfgplnmjpaaGreatDoor
open Go.RowKit

def Rd (w:World) (K:IntKind) (A:Option Addr) (n:Nat) (f:Nat→Nat):Prop :=
 0<n→∃ g o,A=some ⟨g,o,none⟩∧g<w.heap.size∧∀ i,i<n→w.cell? ⟨g,o+i,none⟩=some (.int K (f i:Int))

section
variable {w w':World} {K:IntKind} {A:Option Addr} {n:Nat} {f g:Nat→Nat}

theorem Rd.nil (w:World) (K:IntKind) (A:Option Addr) (f:Nat→Nat):Rd w K A 0 f:=fun h=>absurd h (by omega)

theorem Rd.below (h:Rd w K A n f) (hb:Below w.heap.size w w'):Rd w' K A n f:=fun hn=>by
 obtain ⟨g,o,e,hg,hc⟩:=h hn
 exact ⟨g,o,e,Nat.lt_of_lt_of_le hg hb.size,fun i hi=>(hb.cell (p:=⟨g,o+i,none⟩) hg).trans (hc i hi)⟩

theorem Rd.alloc (h:Rd w K A n f) (o:Obj):Rd (w.alloc o) K A n f:=h.below ((Below.refl _ _).alloc (Nat.le_refl _) o)
theorem Rd.drew (h:Rd w K A n f):Rd w.drew K A n f:=h
theorem Rd.drewN (h:Rd w K A n f) (k:Nat):Rd (w.drewN k) K A n f:=h

theorem Rd.congr (h:Rd w K A n f) (e:∀ i,i<n→f i=g i):Rd w K A n g:=fun hn=>by
 obtain ⟨b,o,h1,hg,hc⟩:=h hn
 exact ⟨b,o,h1,hg,fun i hi=>by rw [hc i hi,e i hi]⟩

theorem Rd.take (h:Rd w K A n f) {m:Nat} (hm:m≤n):Rd w K A m f:=fun hn=>by
 obtain ⟨b,o,h1,hg,hc⟩:=h (by omega)
 exact ⟨b,o,h1,hg,fun i hi=>hc i (by omega)⟩
end

def nums (K:IntKind) (f:Nat→Nat) (n:Nat):List Value:=(List.range n).map fun i=>.int K (f i:Int)

theorem nums_succ (K:IntKind) (f:Nat→Nat) (n:Nat):nums K f (n+1)=nums K f n++[.int K (f n:Int)]:=by
 simp [nums,List.range_succ]
theorem nums_length (K:IntKind) (f:Nat→Nat) (n:Nat):(nums K f n).length=n:=by simp [nums]
theorem nums_get (K:IntKind) (f:Nat→Nat) (n i:Nat) (h:i<n):(nums K f n)[i]?=some (.int K (f i:Int)):=by
 simp [nums,h]
theorem nums_congr {K:IntKind} {f g:Nat→Nat} {n:Nat} (h:∀ i,i<n→f i=g i):nums K f n=nums K g n:=by
 apply List.ext_getElem?
 intro i
 by_cases hi:i<n
 · rw [nums_get _ _ _ _ hi,nums_get _ _ _ _ hi,h i hi]
 · rw [List.getElem?_eq_none (by rw [nums_length];omega),List.getElem?_eq_none (by rw [nums_length];omega)]

theorem Rd.of_own {w:World} {base:Nat} {E:TypeId} {K:IntKind} {v:Value} {n:Nat} {f:Nat→Nat} (h:w.ownsRow base E 1 v n (nums K f n)) :
  ∃ A c,v=.slice A n c∧Rd w K A n f:=by
 rcases h.2 with ⟨rfl,rfl⟩ | ⟨g,cap,cur,rfl,hb,hg,_,_,_,ht⟩
 · exact ⟨none,0,rfl,Rd.nil _ _ _ _⟩
 · refine ⟨_,cap,rfl,fun _=>⟨g,0,rfl,(Array.getElem?_eq_some_iff.1 hg).1,fun i hi=>?_⟩⟩
   rw [Nat.zero_add,cell_of_row w g i cur E (0,0) hg]
   have:=nums_get K f n i hi
   rw [←ht,List.getElem?_take] at this
   split at this
   · simpa using this
   · cases this

def enc (z:Int):Value:=.agg #[.bool (decide (z<0)),.string (mag z.natAbs)]

theorem enc_of {neg:Bool} {s:ByteArray} (h:Canon neg s):Value.agg #[.bool neg,.string s]=enc (ival neg s):=by
 obtain ⟨h1,h2⟩:=canon_eq h
 unfold enc
 rw [←h1,←h2]

theorem enc_form (z:Int):∃ b m,enc z=.agg #[.bool b,.string m]:=⟨_,_,rfl⟩

theorem enc_eq {neg:Bool} {s:ByteArray} {z:Int} (h:Canon neg s) (hz:ival neg s=z):Value.agg #[.bool neg,.string s]=enc z:=by rw [←hz];exact enc_of h

theorem below_draws {B:Nat} {a w:World} (h:Below B a w) (n:Nat):Below B a (w.drewN n):=⟨h.os,h.tape,h.output,h.size,h.block⟩

structure Dg (w:World) (K:IntKind) (b:Nat) (A:Option Addr) (n V:Nat):Prop where
 lt:V<b^n
 rd:Rd w K A n (D b V)

theorem Dg.below {w w':World} {K:IntKind} {b:Nat} {A:Option Addr} {n V:Nat} (h:Dg w K b A n V) (hb:Below w.heap.size w w'):Dg w' K b A n V:=⟨h.lt,h.rd.below hb⟩
theorem Dg.alloc {w:World} {K:IntKind} {b:Nat} {A:Option Addr} {n V:Nat} (h:Dg w K b A n V) (o:Obj):Dg (w.alloc o) K b A n V:=⟨h.lt,h.rd.alloc o⟩
theorem Dg.drewN {w:World} {K:IntKind} {b:Nat} {A:Option Addr} {n V:Nat} (h:Dg w K b A n V) (k:Nat):Dg (w.drewN k) K b A n V:=⟨h.lt,h.rd⟩
theorem Dg.drew {w:World} {K:IntKind} {b:Nat} {A:Option Addr} {n V:Nat} (h:Dg w K b A n V):Dg w.drew K b A n V:=⟨h.lt,h.rd⟩

def RetG (w:World) (K:IntKind) (b V N:Nat) (e:Ending) (w':World):Prop:=∃ A n c,n≤N∧e=.returned (.slice A n c)∧Dg w' K b A n V∧Below w.heap.size w w'

def RetZ (w:World) (z:Int) (e:Ending) (w':World):Prop:=e=.returned (enc z)∧Below w.heap.size w w'

def RetV (w:World) (v:Value) (e:Ending) (w':World):Prop:=e=.returned v∧w=w'

def bytesOf (f:Nat→Nat) (n:Nat):ByteArray:=⟨((List.range n).map fun i=>UInt8.ofNat (f i)).toArray⟩

theorem bytesOf_size (f:Nat→Nat) (n:Nat):(bytesOf f n).size=n:=by simp [bytesOf,ByteArray.size]
theorem bytesOf_get (f:Nat→Nat) (n i:Nat) (h:i<(bytesOf f n).size):(bytesOf f n)[i]=UInt8.ofNat (f i):=by
 simp [bytesOf,ByteArray.getElem_eq_getElem_data]
theorem bytesOf_dig {f:Nat→Nat} {n:Nat} (hf:∀ i,i<n→f i<256) (i:Nat) (h:i<n):dig (bytesOf f n) i=f (n-1-i):=by
 unfold dig
 rw [dif_pos (by rw [bytesOf_size];exact h),bytesOf_get]
 simp only [bytesOf_size,UInt8.toNat_ofNat']
 exact Nat.mod_eq_of_lt (hf _ (by omega))
theorem bytesOf_val {f:Nat→Nat} {n:Nat} (hf:∀ i,i<n→f i<256):bval (bytesOf f n)=val 256 (fun i=>f (n-1-i)) n:=by
 unfold bval
 rw [bytesOf_size]
 exact val_congr fun i hi=>bytesOf_dig hf i hi
theorem bytesOf_lead {f:Nat→Nat} {n:Nat} (h0:0<n→f 0≠0) (hf:∀ i,i<n→f i<256):Lead (bytesOf f n):=by
 intro h
 rw [bytesOf_get]
 rw [bytesOf_size] at h
 simp only [UInt8.toNat_ofNat']
 rw [Nat.mod_eq_of_lt (hf 0 h)]
 exact h0 h

theorem str_of_cells (w:World) (src dst E:TypeId) (hs:Tryz.prog.underlying src=some (.slice E)) (he:Tryz.prog.underlying E=some (.int .u8)) (hd:Tryz.prog.underlying dst=some .string) (g o n c:Nat) (f:Nat→Nat) (hf:∀ i,i<n→f i<256)
  (hc:∀ i,i<n→w.cell? ⟨g,o+i,none⟩=some (.int .u8 (f i:Int))):(convert src dst (.slice (some ⟨g,o,none⟩) n c)).run Tryz.prog w=.ok (.string (bytesOf f n)) w:=by
 have h:=run_convert_bytes_back (P:=Tryz.prog) w src dst E ⟨g,o,none⟩ c ((List.range n).map fun i=>UInt8.ofNat (f i)) hs he hd (fun j hj=>by
  have hj':j<n:=by simpa using hj
  rw [Addr.add_lit,hc j hj']
  simp [Nat.mod_eq_of_lt (hf j hj')])
 simpa [bytesOf] using h

def sgn (neg:Bool) (v:Nat):Int:=if neg then -(v:Int) else v

theorem intTy_info:(Tryz.prog.info? 3).map (fun i=>(i.zero,i.size,i.bytes))=some (some (.int .i64 0),1,8):=by kernel_rfl
theorem byteTy_info:(Tryz.prog.info? 5).map (fun i=>(i.zero,i.size,i.bytes))=some (some (.int .u8 0),1,1):=by kernel_rfl

theorem quietV {f:FuncId} {args:Array Value} {w:World} {n:Nat} {v:Value} (h:Calls Tryz.prog f args (w.drewN n) (RetV (w.drewN n) v)) :
 Calls Tryz.prog f args (w.drewN n) fun e w''=>e=.returned v∧∃ m,w''=w.drewN m:=h.mono fun _ _ ⟨he,hm⟩=>⟨he,n,hm.symm⟩

theorem heap_one (w:World) (o:Obj):(w.alloc o).heap[w.heap.size]?=some o:=heap_alloc_new w o
theorem heap_two (w:World) (o o':Obj):((w.alloc o).alloc o').heap[w.heap.size+1]?=some o':=by
 have:=heap_alloc_new (w.alloc o) o'
 simpa using this
theorem heap_three (w:World) (o o' o'':Obj):(((w.alloc o).alloc o').alloc o'').heap[w.heap.size+2]?=some o'':=by
 have:=heap_alloc_new ((w.alloc o).alloc o') o''
 simpa using this

theorem res2 {W w:World} {B g:Nat} {T:TypeId} {v0 v1:Value} (h0:W.heap[g]?=some (.cells #[v0,v1] T (0,0))) (hb:Below B W w) (hg:g<B) :
  w.cell? ⟨g,0,none⟩=some v0∧w.cell? ⟨g,1,none⟩=some v1∧w.frozen? ⟨g,0,none⟩=false∧w.frozen? ⟨g,1,none⟩=false:=by
 have h:w.heap[g]?=some (.cells #[v0,v1] T (0,0)):=(hb.block g hg).trans h0
 refine ⟨?_,?_,?_,?_⟩<;>simp [World.cell?,World.frozen?,h]

end Go.Proofs.YtpnokfgplnmjpaaGreatDoor


namespace Go.Proofs.YtpnokfgplnmjpaaGreatDoor
open Go.RowKit

theorem own_mono {w:World} {base base':Nat} {e:TypeId} {size:Nat} {v:Value} {n:Nat} {xs:List Value} (h:w.ownsRow base e size v n xs) (hb:base'≤base):w.ownsRow base' e size v n xs:=by
 refine ⟨h.1,?_⟩
 rcases h.2 with h2 | ⟨g,cap,cur,hv,hg,r⟩
 · exact Or.inl h2
 · exact Or.inr ⟨g,cap,cur,hv,by omega,r⟩

set_option maxHeartbeats 400000 in
set_option maxRecDepth 100000 in
theorem digits_own (neg:Bool) (s:ByteArray) (w:World) (hs:s.size≤1099511627776) :
  Calls Tryz.prog 155 #[.agg #[.bool neg,.string s]] w fun e w'=>∃ v,e=.returned v∧w'.ownsRow w.heap.size 3 1 v s.size (nums .i64 (dig s) s.size)∧Below w.heap.size w w':=by
 obtain ⟨i0,hi,hz0,hz1,hz2⟩:=info_parts intTy_info
 go_enter Tryz.func155,Tryz.ntmps155
 go_wp2
 go_loopw [3,4] (fun v i wr=>∃ k:Nat,k≤s.size∧i=.int .i64 ((s.size:Int)-1-k)∧wr.ownsRow (w.heap.size+1) 3 1 v k (nums .i64 (dig s) k) ∧
   wr.cell? ⟨w.heap.size,1,none⟩=some (.string s)∧Below w.heap.size w wr∧w.heap.size+1≤wr.heap.size)
  (fun _ i _=>(intOf i+1).toNat)
 case atStart=>exact ⟨0,Nat.zero_le _,by simp,World.ownsRow_nil _ _ _ _,by simp,(Below.refl _ _).alloc (Nat.le_refl _) _,by simp⟩
 case round =>
  obtain ⟨k,hk,rfl,hown,hcell,hnx,hsz⟩:=hrel
  by_cases hlt:k<s.size
  · have hx:(s[s.size-1-k]'(by omega)).toNat=dig s k:=by unfold dig;rw [dif_pos hlt]
    have hd:=dig_lt s k
    go_wp2_with (at_builtin;refine wpList_append_own _ rfl _ _ 102 rfl (w.heap.size+1) 3 i0 (.int .i64 0) 1 8 Tryz.underlying102 hi hz0 hz1 hz2 rfl (by decide) _ _ _ rfl (hown.alloc _) ⟨wr.heap.size,0,none⟩ 1 1 [.int .i64 (dig s k:Int)] rfl rfl ?c1 ?c2 ?c3 ?c4 ?c5 ?_)
    case c1 =>
     intro j u hj
     match j,hj with
     | 0,hj=>simp at hj;subst hj;simp [Addr.add]
    case c2=>intro u hu;simp at hu;subst hu;rfl
    case c3=>unfold maxLen;omega
    case c4=>omega
    case c5=>simp;omega
    intro v' w1 hown' hgrow _
    have hown2:w1.ownsRow (w.heap.size+1) 3 1 v' (k+1) (nums .i64 (dig s) (k+1)):=by rw [nums_succ];exact hown'
    have hb1:Below (w.heap.size+1) wr w1:=((Below.refl _ _).alloc hsz _).grown hgrow (by simp;omega) (fun g hg=>((hown.lt) g hg).1)
    have hcell1:w1.cell? ⟨w.heap.size,1,none⟩=some (.string s):=(hb1.cell (p:=⟨w.heap.size,1,none⟩) (by simp)).trans hcell
    have hsz1:=hb1.size
    clear hgrow hown' hown hcell
    go_wp2
    go_roundw
    case rel=>exact ⟨k+1,by omega,by go_num,hown2,hcell1,hnx.trans (hb1.mono (by omega)),by omega⟩
    case measure=>simp [intOf];omega
  · obtain rfl:k=s.size:=by omega
    go_wp2
    go_ret
    exact ⟨_,rfl,own_mono hown (by omega),hnx⟩

theorem digits_any (neg:Bool) (s:ByteArray) (w:World) (hs:s.size≤1099511627776) :
  Calls Tryz.prog 155 #[.agg #[.bool neg,.string s]] w (RetG w .i64 256 (bval s) s.size) :=
 (digits_own neg s w hs).mono fun _ _ ⟨_,he,hown,hb⟩=>by
  obtain ⟨A,c,rfl,hr⟩:=Rd.of_own hown
  exact ⟨A,_,c,Nat.le_refl _,he,⟨bval_lt s,hr.congr fun i _=>dig_eq s i⟩,hb⟩

theorem number_value {neg:Bool} {f:Nat→Nat} {k n:Nat} (hf:∀ i,i<n→f i<256) (hk:k≤n) (hz:∀ i,k≤i→i<n→f i=0) (ht:0<k→f (k-1)≠0) :
  Value.agg #[.bool (neg && decide ((0:Int)<k)),.string (bytesOf (fun j=>f (k-1-j)) k)]=enc (sgn neg (val 256 f n)):=by
 have hv:bval (bytesOf (fun j=>f (k-1-j)) k)=val 256 f n:=by
  rw [bytesOf_val (fun i hi=>hf _ (by omega)),val_zeros hk hz]
  exact val_congr fun i hi=>by rw [show k-1-(k-1-i)=i by omega]
 refine enc_eq ⟨bytesOf_lead (fun h=>by simpa using ht h) (fun i hi=>hf _ (by omega)),fun h=>?_⟩ ?_
 · rw [bytesOf_size] at h;simp [h]
 · unfold ival sgn
   rw [hv]
   by_cases h0:0<k
   · simp [h0]
   · have:k=0:=by omega
     subst this
     rw [val_zeros (Nat.zero_le n) hz]
     simp [val]

theorem top_of (f:Nat→Nat) (n:Nat):∃ k,k≤n∧(∀ i,k≤i→i<n→f i=0)∧(0<k→f (k-1)≠0):=by
 induction n with
 | zero=>exact ⟨0,Nat.le_refl _,fun i h1 h2=>by omega,fun h=>by omega⟩
 | succ n ih =>
   by_cases e:f n=0
   · obtain ⟨k,h1,h2,h3⟩:=ih
     refine ⟨k,by omega,fun i h4 h5=>?_,h3⟩
     by_cases ei:i=n
     · rw [ei,e]
     · exact h2 i h4 (by omega)
   · exact ⟨n+1,Nat.le_refl _,fun i h1 h2=>by omega,fun _=>e⟩

set_option maxHeartbeats 1000000 in
set_option maxRecDepth 100000 in
theorem number_own (neg:Bool) (A:Option Addr) (n c:Nat) (f:Nat→Nat) (w:World) (hn:n≤1099511627776) (hf:∀ i,i<n→f i<256) (hr:Rd w .i64 A n f) :
  Calls Tryz.prog 154 #[.bool neg,.slice A n c] w (RetZ w (sgn neg (val 256 f n))):=by
 obtain ⟨k0,hk0,hz,ht⟩:=top_of f n
 have HV:=Lib.hid (number_value (neg:=neg) hf hk0 hz ht)
 have HZ:=Lib.hid hz
 have HT:=Lib.hid ht
 have HF:=Lib.hid hf
 clear hz ht hf
 have HR:=Lib.hid hr
 clear hr
 go_enter Tryz.func154,Tryz.ntmps154
 go_wp2
 go_loop [5] (fun i=>∃ k:Nat,k≤n∧k0≤k∧i=.int .i64 k) (fun i=>(intOf i).toNat)
 case atStart=>exact ⟨n,Nat.le_refl _,hk0,rfl⟩
 case round =>
  obtain ⟨k,hk,hkk,rfl⟩:=hrel
  by_cases h0:k0<k
  · have hr:=HR.out
    obtain ⟨g,o,rfl,hg,hcell⟩:=hr (by omega)
    have hc1:w.cell? ⟨g,o+(k-1),none⟩=some (.int .i64 0):=by rw [hcell (k-1) (by omega),HZ.out (k-1) (by omega) (by omega)];rfl
    clear hcell hr
    go_wp2
    go_round
    case rel=>exact ⟨k-1,by omega,by omega,by go_num⟩
    case measure=>simp [intOf];omega
  · obtain rfl:k=k0:=by omega
    have hmk:=fun W=>run_make_row' (P:=Tryz.prog) 151 5 (.int .u8 0) 1 Tryz.underlying151 byteTy_info rfl .i64 .i64 k (by omega) (by omega) W
    by_cases h1:0<k
    · have hr:=HR.out
      obtain ⟨g,o,rfl,hg,hcell⟩:=hr (by omega)
      have hc1:w.cell? ⟨g,o+(k-1),none⟩=some (.int .i64 (f (k-1):Int)):=hcell (k-1) (by omega)
      have hne:((f (k-1):Int)==0)=false:=by have:=HT.out h1;simp;omega
      have HC:=Lib.hid hcell
      clear hcell hr
      go_wp2
      go_loopw [7] (fun i wr=>∃ j:Nat,j≤k∧i=.int .i64 j∧wr.rowIs (w.heap.size+1) 5 k (fun m=>.int .u8 ((if k-1-m<j then f (k-1-m) else 0:Nat):Int)) ∧
       Below (w.heap.size+1) (w.alloc (.cells #[.bool false,.string ⟨#[]⟩] 23)) wr) (fun i _=>k-(intOf i).toNat)
      case atStart=>exact ⟨0,Nat.zero_le _,rfl,by simpa using World.rowIs_made (w.alloc (.cells #[.bool false,.string ⟨#[]⟩] 23)) (.int .u8 0) k 5,(Below.refl _ _).alloc (by simp) _⟩
      case round =>
       obtain ⟨j,hj,rfl,hrow,hbl⟩:=hrel
       by_cases hjk:j<k
       · have hcj : wr.cell? ⟨g, o + j, none⟩ = some (.int .i64 (f j : Int)) := by
          rw [hbl.cell (p:=⟨g,o+j,none⟩) (by show g<_;omega),World.cell?_alloc_past _ _ _ hg];exact HC.out j (by omega)
         have hcs:=hrow.cell (i:=k-1-j) (by omega)
         have hfs:=hrow.frozen (k-1-j)
         have hfj:=HF.out j (by omega)
         go_wp2
         go_roundw
         case rel =>
          refine ⟨j+1,by omega,by go_num,(hrow.set (k-1-j) _).congr fun m hm=>?_,hbl.setCell (by simp) _⟩
          by_cases e:m=k-1-j
          · rw [if_pos e,if_pos (by omega),show k-1-m=j by omega]
          · rw [if_neg e]
            by_cases e2:k-1-m<j
            · rw [if_pos e2,if_pos (by omega)]
            · rw [if_neg e2,if_neg (by omega)]
         case measure=>simp [intOf];omega
       · obtain rfl:j=k:=by omega
         have hstr:=str_of_cells wr 151 9 5 Tryz.underlying151 Tryz.underlying5 Tryz.underlying9 (w.heap.size+1) 0 j j (fun i=>f (j-1-i)) (fun i hi=>HF.out _ (by omega)) (fun i hi=>by
          rw [Nat.zero_add,hrow.cell hi,if_pos (by omega)])
         have hc0:wr.cell? ⟨w.heap.size,0,none⟩=some (.bool false):=(hbl.cell (p:=⟨w.heap.size,0,none⟩) (by simp)).trans (by simp)
         have hc1:wr.cell? ⟨w.heap.size,1,none⟩=some (.string ⟨#[]⟩):=(hbl.cell (p:=⟨w.heap.size,1,none⟩) (by simp)).trans (by simp)
         have hf0:wr.frozen? ⟨w.heap.size,0,none⟩=false:=(hbl.frozen (p:=⟨w.heap.size,0,none⟩) (by simp)).trans (by simp)
         have hf1:wr.frozen? ⟨w.heap.size,1,none⟩=false:=(hbl.frozen (p:=⟨w.heap.size,1,none⟩) (by simp)).trans (by simp)
         have hbelow:Below w.heap.size w ((wr.setCell ⟨w.heap.size,0,none⟩ (.bool neg)).setCell ⟨w.heap.size,1,none⟩ (.string (bytesOf (fun i=>f (j-1-i)) j))):=((((Below.refl _ _).alloc (Nat.le_refl _) _).trans (hbl.mono (by omega))).setCell (by simp) _).setCell (by simp) _
         cases neg
         all_goals
          go_wp2
          refine bodyPost_ret (v:=.agg #[_,.string (bytesOf (fun i=>f (j-1-i)) j)]) (by simp [results,Tryz.results154,go_sem,hc0,hc1];rfl) rfl ⟨?_,hbelow⟩
          have hv:=HV.out
          simp [h1] at hv
          rw [hv]
    · go_wp2
      go_loopw [7] (fun i wr=>i=.int .i64 0∧wr=(w.alloc (.cells #[.bool false,.string ⟨#[]⟩] 23)).alloc (.cells (madeCells #[.int .u8 0] k) 5)) (fun _ _=>0)
      case atStart=>exact ⟨rfl,rfl⟩
      case round =>
       obtain ⟨rfl,rfl⟩:=hrel
       have hstr:=fun W=>str_of_cells W 151 9 5 Tryz.underlying151 Tryz.underlying5 Tryz.underlying9 (w.heap.size+1) 0 k k (fun i=>f (k-1-i)) (fun i hi=>by omega) (fun i hi=>by omega)
       cases neg
       all_goals
        go_wp2
        refine bodyPost_ret (v:=.agg #[_,.string (bytesOf (fun i=>f (k-1-i)) k)]) (by simp [results,Tryz.results154,go_sem];rfl) rfl ⟨?_,?_⟩
        · have hv:=HV.out
          simp [h1] at hv
          rw [hv]
        · exact ((Below.refl _ _).alloc (Nat.le_refl _) _).alloc (by simp) _

theorem number_any (neg:Bool) (A:Option Addr) (n c V:Nat) (w:World) (hn:n≤1099511627776) (hr:Dg w .i64 256 A n V) :
  Calls Tryz.prog 154 #[.bool neg,.slice A n c] w (RetZ w (sgn neg V)):=by
 have h:=number_own neg A n c (D 256 V) w hn (fun i _=>D_lt (by omega) V i) hr.rd
 rw [val_D,Nat.mod_eq_of_lt hr.lt] at h
 exact h

end Go.Proofs.YtpnokfgplnmjpaaGreatDoor


namespace Go.Proofs.YtpnokfgplnmjpaaGreatDoor.Sg

def sgq (x:Rat):Int:=if x<0 then -1 else if x=0 then 0 else 1
theorem sgq_neg {x:Rat} (h:x<0):sgq x=-1:=by unfold sgq;rw [if_pos h]
theorem sgq_zero {x:Rat} (h:x=0):sgq x=0:=by unfold sgq;rw [if_neg (by grind),if_pos h]
theorem sgq_pos {x:Rat} (h:0<x):sgq x=1:=by unfold sgq;rw [if_neg (by grind),if_neg (by grind)]
theorem sgq_three (x:Rat):(x<0∧sgq x=-1)∨(x=0∧sgq x=0)∨(0<x∧sgq x=1):=by
 by_cases h:x<0
 · exact .inl ⟨h,sgq_neg h⟩
 · by_cases h0:x=0
   · exact .inr (.inl ⟨h0,sgq_zero h0⟩)
   · exact .inr (.inr ⟨by grind,sgq_pos (by grind)⟩)
theorem sgq_minus (x:Rat):sgq (-x)=- sgq x:=by
 rcases sgq_three x with ⟨h,e⟩ | ⟨h,e⟩ | ⟨h,e⟩
 · rw [e,sgq_pos (by grind)];rfl
 · rw [e,sgq_zero (by grind)];rfl
 · rw [e,sgq_neg (by grind)]
def sg2 (a b r:Rat):Int :=
 if sgq a=sgq b*sgq r∨sgq b*sgq r=0 then sgq a else if sgq a=0 then sgq b*sgq r else
  if 0<sgq (a*a-b*b*r) then sgq a else if sgq (a*a-b*b*r)<0 then sgq b*sgq r else 0
def sos (p:Rat) (s:Int) (r:Rat):Int:=if sgq p≠-s then s else s*sgq (r-p*p)
def rts (s:Int) (a:Rat) (t:Int) (b:Rat):Int:=if s*sgq a≠t*sgq b then (if s*sgq a>t*sgq b then 1 else -1) else s*sgq a*sgq (a-b)
def cmpP (d:Rat) (s:Int) (a:Rat) (t:Int) (b:Rat):Int :=
 if sos d s a≠t then sos d s a else if sgq (2*d)=0 then t*sgq (d*d+a-b) else t*sos (d*d+a-b) (sgq (2*d)*s) (2*d*(2*d)*a)
def cmpF (d:Rat) (s:Int) (a:Rat) (t:Int) (b:Rat) (e:Rat):Int :=
 if sgq d=rts s a t b∨rts s a t b=0 then sgq d else if sgq d=0 then rts s a t b else
  if 0<sg2 (d*d-(a+b)) e (a*b) then sgq d else if sg2 (d*d-(a+b)) e (a*b)<0 then rts s a t b else 0

section
variable {d a b:Rat}
theorem sq_pos' (h:d≠0):0<d*d:=by
 by_cases h1:0<d
 · exact Rat.mul_pos h1 h1
 · have:=Rat.mul_pos (show 0 < -d by grind) (show 0 < -d by grind)
   grind
theorem ident (d a b:Rat):4*(a*b)-(d*d-(a+b))*(d*d-(a+b))=2*d*(2*d)*a-(d*d+a-b)*(d*d+a-b):=by grind
theorem sg2_two {R:Rat} (hR:0<R) (g:Rat):sg2 g 2 R=if g<0 then (if 0<g*g-4*R then -1 else if g*g-4*R=0 then 0 else 1) else 1:=by
 unfold sg2
 rw [sgq_pos hR,show sgq (2:Rat)=1 from by decide,show (2:Rat)*2*R=4*R from by grind]
 rcases sgq_three g with ⟨h,e⟩ | ⟨h,e⟩ | ⟨h,e⟩<;>rcases sgq_three (g*g-4*R) with ⟨k,f⟩ | ⟨k,f⟩ | ⟨k,f⟩<;>rw [e,f]<;>grind
theorem sg2_mtwo {R:Rat} (hR:0<R) (g:Rat):sg2 g (-2) R=if 0<g then (if 0<g*g-4*R then 1 else if g*g-4*R=0 then 0 else -1) else -1:=by
 unfold sg2
 rw [sgq_pos hR,show sgq (-2:Rat)=-1 from by decide,show (-2:Rat)*-2*R=4*R from by grind]
 rcases sgq_three g with ⟨h,e⟩ | ⟨h,e⟩ | ⟨h,e⟩<;>rcases sgq_three (g*g-4*R) with ⟨k,f⟩ | ⟨k,f⟩ | ⟨k,f⟩<;>rw [e,f]<;>grind
theorem mul_lt {x y z:Rat} (h:x<y) (hz:0<z):x*z<y*z:=by
 have:=Rat.mul_pos (show 0<y-x by grind) hz
 grind
theorem sq_lt {x y:Rat} (h1:-y<x) (h2:x<y):x*x<y*y:=by
 have:=Rat.mul_pos (show 0<y-x by grind) (show 0<y+x by grind)
 grind
theorem sq_le {x y:Rat} (h1:-y≤x) (h2:x≤y):x*x≤y*y:=by
 by_cases h3:x=y
 · rw [h3];exact Rat.le_refl
 · by_cases h4:x=-y
   · rw [h4];grind
   · exact Rat.le_of_lt (sq_lt (by grind) (by grind))
theorem cmp_pp (ha:0<a) (hb:0<b) (hn:d*d≠a):cmpP d 1 a 1 b=cmpF d 1 a 1 b 2:=by
 have hab:0<a*b:=Rat.mul_pos ha hb
 have I:=ident d a b
 have hr:rts 1 a 1 b=sgq (a-b):=by unfold rts;rw [sgq_pos ha,sgq_pos hb];simp
 unfold cmpP cmpF
 rw [hr,sg2_two hab]
 clear hr
 generalize hg:d*d-(a+b)=g at *
 generalize hf:d*d+a-b=f at *
 have hgf:g=f-2*a:=by grind
 have hR:2*d*(2*d)*a=4*(a*b)-g*g+f*f:=by grind
 have hR2:2*d*(2*d)*a-f*f=4*(a*b)-g*g:=by grind
 unfold sos
 rw [hR2]
 rcases sgq_three d with ⟨h,e⟩ | ⟨h,e⟩ | ⟨h,e⟩
 · have e2:=sgq_neg (show 2*d<0 by grind)
   rw [e,e2]
   have hdd:=sq_pos' (show d≠0 by grind)
   rcases sgq_three (a-d*d) with ⟨k,ek⟩ | ⟨k,ek⟩ | ⟨k,ek⟩
   · rw [ek]
     rcases sgq_three (a-b) with ⟨l,el⟩ | ⟨l,el⟩ | ⟨l,el⟩<;>rw [el]
     · grind
     · grind
     · by_cases hg0:g<0
       · have h1:=sq_lt (x:=g) (y:=b) (by grind) (by grind)
         have h2:=mul_lt (show b<a by grind) hb
         grind
       · grind
   · exact absurd (show d*d=a by grind) hn
   · rw [ek]
     have hfq:b≥a→0<f→0<4*(a*b)-g*g:=fun h1 h2=>by
      have h3:=sq_le (x:=f) (y:=d*d) (by grind) (by grind)
      have h4:=mul_lt (show d*d<a by grind) hdd
      have h5:=Rat.mul_pos ha hdd
      grind
     rcases sgq_three (a-b) with ⟨l,el⟩ | ⟨l,el⟩ | ⟨l,el⟩<;>rw [el]<;>rcases sgq_three f with ⟨m,em⟩ | ⟨m,em⟩ | ⟨m,em⟩<;>rw [em]<;>rcases sgq_three (4*(a*b)-g*g) with ⟨n,en⟩ | ⟨n,en⟩ | ⟨n,en⟩<;>rw [en]<;>grind
 · have e2:=sgq_zero (show 2*d=0 by grind)
   rw [e,e2]
   have hfa:f=a-b:=by grind
   rw [hfa]
   rcases sgq_three (a-b) with ⟨l,el⟩ | ⟨l,el⟩ | ⟨l,el⟩<;>rw [el]<;>grind
 · have e2:=sgq_pos (show 0<2*d by grind)
   rw [e,e2]
   have hdd:=sq_pos' (show d≠0 by grind)
   have hfg:a<b→0≤f→g<0→0<4*(a*b)-g*g:=fun h1 h2 h3=>by
    have h4:=sq_le (x:=g) (y:=2*a) (by grind) (by grind)
    have h5:=mul_lt h1 ha
    grind
   rcases sgq_three (a-b) with ⟨l,el⟩ | ⟨l,el⟩ | ⟨l,el⟩<;>rw [el]<;>rcases sgq_three f with ⟨m,em⟩ | ⟨m,em⟩ | ⟨m,em⟩<;>rw [em]<;>rcases sgq_three (4*(a*b)-g*g) with ⟨n,en⟩ | ⟨n,en⟩ | ⟨n,en⟩<;>rw [en]<;>grind
theorem cmp_pm (ha:0<a) (hb:0<b) (hn:d*d≠a):cmpP d 1 a (-1) b=cmpF d 1 a (-1) b (-2):=by
 have hab:0<a*b:=Rat.mul_pos ha hb
 have I:=ident d a b
 have hr:rts 1 a (-1) b=1:=by unfold rts;rw [sgq_pos ha,sgq_pos hb];simp
 unfold cmpP cmpF
 rw [hr,sg2_mtwo hab]
 clear hr
 generalize hg:d*d-(a+b)=g at *
 generalize hf:d*d+a-b=f at *
 have hgf:g=f-2*a:=by grind
 have hR2:2*d*(2*d)*a-f*f=4*(a*b)-g*g:=by grind
 unfold sos
 rw [hR2]
 rcases sgq_three d with ⟨h,e⟩ | ⟨h,e⟩ | ⟨h,e⟩
 · have e2:=sgq_neg (show 2*d<0 by grind)
   rw [e,e2]
   have hdd:=sq_pos' (show d≠0 by grind)
   rcases sgq_three (a-d*d) with ⟨k,ek⟩ | ⟨k,ek⟩ | ⟨k,ek⟩
   · rw [ek]
     have hfg:0<f→g≤0→0<4*(a*b)-g*g:=fun h1 h2=>by
      have h3:=sq_le (x:=f) (y:=2*a) (by grind) (by grind)
      have h4:=mul_lt (show a<d*d by grind) ha
      grind
     rcases sgq_three f with ⟨m,em⟩ | ⟨m,em⟩ | ⟨m,em⟩<;>rw [em]<;>rcases sgq_three (4*(a*b)-g*g) with ⟨n,en⟩ | ⟨n,en⟩ | ⟨n,en⟩<;>rw [en]<;>grind
   · exact absurd (show d*d=a by grind) hn
   · rw [ek]
     grind
 · have e2:=sgq_zero (show 2*d=0 by grind)
   rw [e,e2]
   grind
 · have e2:=sgq_pos (show 0<2*d by grind)
   rw [e,e2]
   grind
theorem sos_neg (d:Rat) (s:Int) (a:Rat):sos (-d) (-s) a=- sos d s a:=by
 unfold sos
 rw [sgq_minus,show -d*-d=d*d from by grind]
 by_cases h:sgq d=-s
 · rw [if_neg (by omega),if_neg (by omega),Int.neg_mul]
 · rw [if_pos (by omega),if_pos h]
theorem cmpP_neg (d:Rat) (s:Int) (a:Rat) (t:Int) (b:Rat):cmpP (-d) (-s) a (-t) b=- cmpP d s a t b:=by
 unfold cmpP
 rw [sos_neg,show 2*-d=-(2*d) from by grind,sgq_minus,show -d*-d=d*d from by grind,show -(2*d)*-(2*d)=2*d*(2*d) from by grind,Int.neg_mul_neg]
 by_cases h:sos d s a=t
 · rw [if_neg (show ¬(-sos d s a≠-t) by omega),if_neg (show ¬(sos d s a≠t) by omega)]
   by_cases h2:sgq (2*d)=0
   · rw [if_pos (show -sgq (2*d)=0 by omega),if_pos h2,Int.neg_mul]
   · rw [if_neg (show ¬-sgq (2*d)=0 by omega),if_neg h2,Int.neg_mul]
 · rw [if_pos (show -sos d s a≠-t by omega),if_pos h]
theorem rts_neg (s:Int) (a:Rat) (t:Int) (b:Rat):rts (-s) a (-t) b=- rts s a t b:=by
 unfold rts
 rw [Int.neg_mul,Int.neg_mul]
 generalize s*sgq a=x
 generalize t*sgq b=y
 by_cases h:x=y
 · rw [if_neg (by omega),if_neg (by omega),Int.neg_mul]
 · rw [if_pos (by omega),if_pos h]
   by_cases h2:x>y
   · rw [if_neg (by omega),if_pos h2]
   · rw [if_pos (by omega),if_neg h2]
     rfl
theorem cmpF_neg (d:Rat) (s:Int) (a:Rat) (t:Int) (b e:Rat):cmpF (-d) (-s) a (-t) b e=- cmpF d s a t b e:=by
 unfold cmpF
 rw [rts_neg,sgq_minus,show -d*-d=d*d from by grind]
 generalize rts s a t b=B
 generalize sgq d=A
 generalize sg2 (d*d-(a+b)) e (a*b)=C
 by_cases h1:A=B∨B=0
 · rw [if_pos (by omega),if_pos h1]
 · rw [if_neg (by omega),if_neg h1]
   by_cases h2:A=0
   · rw [if_pos (by omega),if_pos h2]
   · rw [if_neg (by omega),if_neg h2]
     by_cases h3:0<C
     · rw [if_pos h3,if_pos h3]
     · rw [if_neg h3,if_neg h3]
       by_cases h4:C<0
       · rw [if_pos h4,if_pos h4]
       · rw [if_neg h4,if_neg h4]
         rfl
theorem cmp_all (ha:0<a) (hb:0<b) (hn:d*d≠a) {s t:Int} (hs:s=1∨s=-1) (ht:t=1∨t=-1):cmpP d s a t b=cmpF d s a t b (if s=t then 2 else -2):=by
 have hn2:-d*-d≠a:=by rw [show -d*-d=d*d from by grind];exact hn
 have hp:=cmp_pp (d:=-d) ha hb hn2
 have hm:=cmp_pm (d:=-d) ha hb hn2
 rcases hs with rfl | rfl<;>rcases ht with rfl | rfl
 · exact cmp_pp ha hb hn
 · exact cmp_pm ha hb hn
 · have h1:=cmpP_neg d (-1) a 1 b
   have h2:=cmpF_neg d (-1) a 1 b (-2)
   rw [show (-(-1:Int))=1 from rfl] at h1 h2
   rw [if_neg (by decide)]
   omega
 · have h1:=cmpP_neg d (-1) a (-1) b
   have h2:=cmpF_neg d (-1) a (-1) b 2
   rw [show (-(-1:Int))=1 from rfl] at h1 h2
   rw [if_pos rfl]
   omega
theorem sos_sg2 {p r:Rat} (hr:0<r):sos p 1 r=sg2 p 1 r∧sos p (-1) r=sg2 p (-1) r:=by
 unfold sos sg2
 rw [sgq_pos hr,show sgq (1:Rat)=1 from by decide,show sgq (-1:Rat)=-1 from by decide,show (1:Rat)*1*r=r from by grind,show (-1:Rat)*-1*r=r from by grind]
 have h:=sgq_minus (r-p*p)
 rw [show -(r-p*p)=p*p-r from by grind] at h
 rw [h]
 rcases sgq_three p with ⟨k,e⟩ | ⟨k,e⟩ | ⟨k,e⟩<;>rcases sgq_three (r-p*p) with ⟨l,f⟩ | ⟨l,f⟩ | ⟨l,f⟩<;>rw [e,f]<;>grind
end
end Go.Proofs.YtpnokfgplnmjpaaGreatDoor.Sg


namespace Go.Proofs.YtpnokfgplnmjpaaGreatDoor.Sg
theorem rat_arch (x:Rat):∃ n:Nat,x<(n:Rat):=by
 refine ⟨x.num.natAbs+1,?_⟩
 rw [Rat.lt_iff]
 show x.num*((((x.num.natAbs+1:Nat):Rat)).den:Int)<(((x.num.natAbs+1:Nat):Rat)).num*(x.den:Int)
 rw [Rat.den_natCast,Rat.num_natCast]
 have h:=x.den_pos
 have h1:(1:Int)≤(x.den:Int):=by omega
 have h2:=Int.mul_le_mul_of_nonneg_left h1 (show (0:Int)≤((x.num.natAbs+1:Nat):Int) by omega)
 omega
theorem half_step {a u:Rat} (ha:0<a) (hu:0<u) (h:a<u*u):∃ v:Rat,0<v∧a<v*v∧2*(v*v-a)≤u*u-a:=by
 have hne:(2*u:Rat)≠0:=by grind
 obtain ⟨w,hw⟩:∃ w:Rat,2*u*w=1:=⟨(2*u)⁻¹,Rat.mul_inv_cancel _ hne⟩
 have hw0:0<w:=by
  by_cases h1:0<w
  · exact h1
  · have h2:=Rat.mul_nonneg (show 0≤2*u by grind) (show 0≤-w by grind)
    grind
 have hE:0<(u*u-a)*w:=Rat.mul_pos (by grind) hw0
 have e:(u*u+a)*w*((u*u+a)*w)-a=(u*u-a)*w*((u*u-a)*w):=by grind
 have hEE:=Rat.mul_pos hE hE
 refine ⟨(u*u+a)*w,Rat.mul_pos (by grind) hw0,by grind,?_⟩
 rw [e]
 have h3:(u*u-a)*w≤u*u*w:=by
  have:=Rat.mul_pos ha hw0
  grind
 have h4:=Rat.mul_le_mul_of_nonneg_left h3 (Rat.le_of_lt hE)
 have h5:(u*u-a)*w*(u*u*w)*4=u*u-a:=by grind
 grind
theorem approx {a:Rat} (ha:0<a) {ε:Rat} (hε:0<ε):∃ u:Rat,0<u∧a<u*u∧u*u<a+ε:=by
 have hall:∀ n:Nat,∃ u:Rat,0<u∧a<u*u∧((2^n:Nat):Rat)*(u*u-a)≤(a+1)*(a+1)-a:=fun n=>by
  induction n with
  | zero=>exact ⟨a+1,by grind,by have:=Rat.mul_pos ha ha;grind,by rw [Nat.pow_zero];show (1:Rat)*_≤_;grind⟩
  | succ n ih =>
    obtain ⟨u,h1,h2,h3⟩:=ih
    obtain ⟨v,k1,k2,k3⟩:=half_step ha h1 h2
    refine ⟨v,k1,k2,?_⟩
    have hp:(0:Rat)≤((2^n:Nat):Rat):=Rat.natCast_nonneg
    have h4:=Rat.mul_le_mul_of_nonneg_left k3 hp
    rw [Nat.pow_succ,Rat.natCast_mul]
    show ((2^n:Nat):Rat)*(2:Rat)*_≤_
    grind
 obtain ⟨w,hw⟩:∃ w:Rat,ε*w=1:=⟨ε⁻¹,Rat.mul_inv_cancel _ (by grind)⟩
 have hw0:0<w:=by
  by_cases h1:0<w
  · exact h1
  · have h2:=Rat.mul_nonneg (Rat.le_of_lt hε) (show 0≤-w by grind)
    grind
 obtain ⟨n,hn⟩:=rat_arch (((a+1)*(a+1)-a)*w)
 obtain ⟨u,h1,h2,h3⟩:=hall n
 refine ⟨u,h1,h2,?_⟩
 have h4:(n:Rat)≤((2^n:Nat):Rat):=Rat.natCast_le_natCast.2 (Nat.le_of_lt Nat.lt_two_pow_self)
 have h5:=mul_lt hn hε
 have h6:=Rat.mul_le_mul_of_nonneg_right h4 (Rat.le_of_lt hε)
 have hp:(0:Rat)<((2^n:Nat):Rat):=by
  have:(0:Rat)<(1:Rat):=by decide
  have h7:((1:Nat):Rat)≤((2^n:Nat):Rat):=Rat.natCast_le_natCast.2 Nat.one_le_two_pow
  grind
 by_cases h8:u*u<a+ε
 · exact h8
 · have h9:=Rat.mul_le_mul_of_nonneg_left (show ε≤u*u-a by grind) (Rat.le_of_lt hp)
   have h10:((a+1)*(a+1)-a)*w*ε=(a+1)*(a+1)-a:=by grind
   rw [h10] at h5
   exact absurd (Rat.le_trans h6 (Rat.le_trans h9 h3)) (Rat.not_le.2 h5)
end Go.Proofs.YtpnokfgplnmjpaaGreatDoor.Sg


namespace Go.Proofs.YtpnokfgplnmjpaaGreatDoor.Sg
def Ev (P:Nat→Prop):Prop:=∃ N,∀ n,N≤n→P n
theorem Ev.and {P Q:Nat→Prop} (h:Ev P) (k:Ev Q):Ev (fun n=>P n∧Q n):=by
 obtain ⟨N,h⟩:=h
 obtain ⟨M,k⟩:=k
 exact ⟨N+M,fun n hn=>⟨h n (by omega),k n (by omega)⟩⟩
theorem Ev.mono {P Q:Nat→Prop} (h:Ev P) (k:∀ n,P n→Q n):Ev Q:=by
 obtain ⟨N,h⟩:=h
 exact ⟨N,fun n hn=>k n (h n hn)⟩
theorem Ev.all {P:Nat→Prop} (h:∀ n,P n):Ev P:=⟨0,fun n _=>h n⟩
theorem Ev.some {P:Nat→Prop} (h:Ev P):∃ n,P n:=by
 obtain ⟨N,h⟩:=h
 exact ⟨N,h N (Nat.le_refl _)⟩
theorem exists_inv {x:Rat} (hx:0<x):∃ w:Rat,0<w∧x*w=1:=by
 obtain ⟨w,hw⟩:∃ w:Rat,x*w=1:=⟨x⁻¹,Rat.mul_inv_cancel _ (by grind)⟩
 refine ⟨w,?_,hw⟩
 by_cases h1:0<w
 · exact h1
 · have h2:=Rat.mul_nonneg (Rat.le_of_lt hx) (show 0≤-w by grind)
   grind
theorem frac_n (n:Nat):(0:Rat)<1 / ((n:Rat)+1):=by
 have h:(0:Rat)≤(n:Rat):=Rat.natCast_nonneg
 obtain ⟨w,hw,e⟩:=exists_inv (show (0:Rat)<(n:Rat)+1 by grind)
 have:1 / ((n:Rat)+1)=w:=by grind
 rw [this]
 exact hw
noncomputable def up (a:Rat) (n:Nat):Rat:=if h:0<a then Classical.choose (approx h (frac_n n)) else 0
theorem up_spec {a:Rat} (h:0<a) (n:Nat):0<up a n∧a<up a n*up a n∧up a n*up a n<a+1 / ((n:Rat)+1):=by
 unfold up
 rw [dif_pos h]
 exact Classical.choose_spec (approx h (frac_n n))
theorem frac_small {ε:Rat} (h:0<ε):Ev (fun n=>1 / ((n:Rat)+1)<ε):=by
 obtain ⟨w,hw,e⟩:=exists_inv h
 obtain ⟨N,hN⟩:=rat_arch w
 refine ⟨N,fun n hn=>?_⟩
 have h1:(N:Rat)≤(n:Rat):=Rat.natCast_le_natCast.2 hn
 have h0:(0:Rat)≤(n:Rat):=Rat.natCast_nonneg
 obtain ⟨v,hv,f⟩:=exists_inv (show (0:Rat)<(n:Rat)+1 by grind)
 have h2:1 / ((n:Rat)+1)=v:=by grind
 show 1 / ((n:Rat)+1)<ε
 rw [h2]
 have h3:=Rat.mul_pos hv (show (0:Rat)<(n:Rat)+1-w by grind)
 have h4:v*w<1:=by grind
 have h5:=mul_lt h4 h
 have h6:v*w*ε=v:=by grind
 rw [h6,Rat.one_mul] at h5
 exact h5
theorem up_close {a:Rat} (h:0<a) {ε:Rat} (hε:0<ε):Ev (fun n=>up a n*up a n<a+ε) :=
 (frac_small hε).mono fun n hn=>by have:=(up_spec h n).2.2;grind
theorem up_le {a:Rat} (h:0<a) (n:Nat):up a n<a+2:=by
 obtain ⟨h1,h2,h3⟩:=up_spec h n
 have h0:(0:Rat)≤(n:Rat):=Rat.natCast_nonneg
 obtain ⟨v,hv,f⟩:=exists_inv (show (0:Rat)<(n:Rat)+1 by grind)
 have h4:1 / ((n:Rat)+1)=v:=by grind
 rw [h4] at h3
 have h5:v≤1:=by
  have:=Rat.mul_nonneg (Rat.le_of_lt hv) h0
  grind
 by_cases h6:up a n<a+2
 · exact h6
 · have h7:=sq_le (x:=a+2) (y:=up a n) (by grind) (by grind)
   have h8:=Rat.mul_pos h h
   grind
theorem up_ge {a:Rat} (h:0<a):∃ c:Rat,0<c∧∀ n,c≤up a n:=by
 by_cases h1:a<1
 · refine ⟨a,h,fun n=>?_⟩
   obtain ⟨k1,k2,_⟩:=up_spec h n
   by_cases h2:a≤up a n
   · exact h2
   · have:=sq_le (x:=up a n) (y:=a) (by grind) (by grind)
     have:=mul_lt h1 h
     grind
 · refine ⟨1,by decide,fun n=>?_⟩
   obtain ⟨k1,k2,_⟩:=up_spec h n
   by_cases h2:1≤up a n
   · exact h2
   · have:=sq_lt (x:=up a n) (y:=1) (by grind) (by grind)
     grind

theorem sg2_one {A B a:Rat} (ha:0<a) (h:sg2 A B a=1):(0<A∧0≤B)∨(0<B∧0≤A)∨(0<A∧B<0∧B*B*a<A*A)∨(A<0∧0<B∧A*A<B*B*a):=by
 unfold sg2 at h
 rw [sgq_pos ha] at h
 rcases sgq_three A with ⟨k,e⟩ | ⟨k,e⟩ | ⟨k,e⟩<;>rcases sgq_three B with ⟨l,f⟩ | ⟨l,f⟩ | ⟨l,f⟩<;>rcases sgq_three (A*A-B*B*a) with ⟨m,g⟩ | ⟨m,g⟩ | ⟨m,g⟩<;>rw [e,f,g] at h<;>grind
theorem ev_pos {A B a:Rat} (ha:0<a) (h:sg2 A B a=1):∃ δ:Rat,0<δ∧Ev (fun n=>δ≤A+B*up a n):=by
 obtain ⟨c,hc,hcu⟩:=up_ge ha
 rcases sg2_one ha h with ⟨h1,h2⟩ | ⟨h1,h2⟩ | ⟨h1,h2,h3⟩ | ⟨h1,h2,h3⟩
 · refine ⟨A,h1,Ev.all fun n=>?_⟩
   have:=Rat.mul_nonneg h2 (Rat.le_of_lt (up_spec ha n).1)
   grind
 · refine ⟨B*c,Rat.mul_pos h1 hc,Ev.all fun n=>?_⟩
   have:=Rat.mul_le_mul_of_nonneg_left (hcu n) (Rat.le_of_lt h1)
   grind
 · -- A is greater than the root's multiple
   have hM:0<A+-B*(a+2):=by have:=Rat.mul_pos (show 0 < -B by grind) (show 0<a+2 by grind);grind
   obtain ⟨w,hw,ew⟩:=exists_inv hM
   have hBB:0<B*B:=sq_pos' (by grind)
   obtain ⟨v,hv,ev⟩:=exists_inv hBB
   have hD:0<A*A-B*B*a:=by grind
   have hDw:=Rat.mul_pos hD hw
   have hDv:=Rat.mul_pos hD hv
   refine ⟨(A*A-B*B*a)*w / 2,by grind,(up_close ha (ε:=(A*A-B*B*a)*v / 2) (by grind)).mono fun n hn=>?_⟩
   obtain ⟨k1,k2,_⟩:=up_spec ha n
   have k3:=up_le ha n
   have k4:B*B*(up a n*up a n)≤B*B*(a+(A*A-B*B*a)*v / 2):=Rat.mul_le_mul_of_nonneg_left (Rat.le_of_lt hn) (Rat.le_of_lt hBB)
   have k5:B*B*(a+(A*A-B*B*a)*v / 2)=B*B*a+(A*A-B*B*a) / 2:=by grind
   have k6:(A*A-B*B*a) / 2≤(A+B*up a n)*(A-B*up a n):=by grind
   have k7:0<A-B*up a n:=by have:=Rat.mul_pos (show 0 < -B by grind) k1;grind
   have k8:A-B*up a n≤A+-B*(a+2):=by have:=Rat.mul_le_mul_of_nonneg_left (Rat.le_of_lt k3) (show 0≤-B by grind);grind
   by_cases k9:(A*A-B*B*a)*w / 2≤A+B*up a n
   · exact k9
   · exfalso
     have l1:=mul_lt (show A+B*up a n<(A*A-B*B*a)*w / 2 by grind) k7
     have l2:=Rat.mul_le_mul_of_nonneg_left k8 (show 0≤(A*A-B*B*a)*w / 2 by grind)
     have l3:(A*A-B*B*a)*w / 2*(A+-B*(a+2))=(A*A-B*B*a) / 2:=by grind
     grind
 · -- the root's multiple is greater
   have hM:0<B*(a+2)-A:=by have:=Rat.mul_pos h2 (show 0<a+2 by grind);grind
   obtain ⟨w,hw,ew⟩:=exists_inv hM
   have hD:0<B*B*a-A*A:=by grind
   have hDw:=Rat.mul_pos hD hw
   refine ⟨(B*B*a-A*A)*w,hDw,Ev.all fun n=>?_⟩
   obtain ⟨k1,k2,_⟩:=up_spec ha n
   have k3:=up_le ha n
   have hBB:0<B*B:=sq_pos' (by grind)
   have k4:B*B*a≤B*B*(up a n*up a n):=Rat.mul_le_mul_of_nonneg_left (Rat.le_of_lt k2) (Rat.le_of_lt hBB)
   have k6:B*B*a-A*A≤(A+B*up a n)*(B*up a n-A):=by grind
   have k7:0<B*up a n-A:=by have:=Rat.mul_pos h2 k1;grind
   have k8:B*up a n-A≤B*(a+2)-A:=by have:=Rat.mul_le_mul_of_nonneg_left (Rat.le_of_lt k3) (Rat.le_of_lt h2);grind
   by_cases k9:(B*B*a-A*A)*w≤A+B*up a n
   · exact k9
   · exfalso
     have l1:=mul_lt (show A+B*up a n<(B*B*a-A*A)*w by grind) k7
     have l2:=Rat.mul_le_mul_of_nonneg_left k8 (Rat.le_of_lt hDw)
     have l3:(B*B*a-A*A)*w*(B*(a+2)-A)=B*B*a-A*A:=by grind
     grind
theorem sg2_neg {A B a:Rat}:sg2 (-A) (-B) a=- sg2 A B a:=by
 unfold sg2
 rw [sgq_minus,sgq_minus,show -A*-A - -B*-B*a=A*A-B*B*a from by grind,Int.neg_mul]
 generalize sgq A=x
 generalize sgq B*sgq a=y
 generalize sgq (A*A-B*B*a)=z
 by_cases h1:x=y∨y=0
 · rw [if_pos (show -x=-y∨-y=0 by omega),if_pos h1]
 · rw [if_neg (show ¬(-x=-y∨-y=0) by omega),if_neg h1]
   by_cases h2:x=0
   · rw [if_pos (show -x=0 by omega),if_pos h2]
   · rw [if_neg (show ¬-x=0 by omega),if_neg h2]
     by_cases h3:0<z
     · rw [if_pos h3,if_pos h3]
     · rw [if_neg h3,if_neg h3]
       by_cases h4:z<0
       · rw [if_pos h4,if_pos h4]
       · rw [if_neg h4,if_neg h4]
         rfl
theorem ev_neg {A B a:Rat} (ha:0<a) (h:sg2 A B a=-1):∃ δ:Rat,0<δ∧Ev (fun n=>A+B*up a n≤-δ):=by
 have h1:=@sg2_neg A B a
 obtain ⟨δ,h2,h3⟩:=ev_pos ha (show sg2 (-A) (-B) a=1 by omega)
 exact ⟨δ,h2,h3.mono fun n hn=>by grind⟩
end Go.Proofs.YtpnokfgplnmjpaaGreatDoor.Sg


namespace Go.Proofs.YtpnokfgplnmjpaaGreatDoor.Sg
def NSq (a:Rat):Prop:=∀ z:Rat,z*z≠a
theorem sg2_ns {A B a:Rat} (ha:0<a) (hn:NSq a) (h:sg2 A B a=0):A=0∧B=0:=by
 unfold sg2 at h
 rw [sgq_pos ha] at h
 by_cases hB:B=0
 · rw [sgq_zero hB] at h
   rcases sgq_three A with ⟨k,e⟩ | ⟨k,e⟩ | ⟨k,e⟩<;>rw [e] at h<;>grind
 · exfalso
   obtain ⟨w,hw⟩:∃ w:Rat,B*w=1:=⟨B⁻¹,Rat.mul_inv_cancel _ hB⟩
   have hsq:A*A-B*B*a≠0:=fun e=>hn (A*w) (by grind)
   rcases sgq_three A with ⟨k,e⟩ | ⟨k,e⟩ | ⟨k,e⟩<;>rcases sgq_three B with ⟨l,f⟩ | ⟨l,f⟩ | ⟨l,f⟩<;>rcases sgq_three (A*A-B*B*a) with ⟨m,g⟩ | ⟨m,g⟩ | ⟨m,g⟩<;>rw [e,f,g] at h<;>grind
theorem sg2_three (A B a:Rat):sg2 A B a=-1∨sg2 A B a=0∨sg2 A B a=1:=by
 unfold sg2
 rcases sgq_three A with ⟨k,e⟩ | ⟨k,e⟩ | ⟨k,e⟩<;>rcases sgq_three B with ⟨l,f⟩ | ⟨l,f⟩ | ⟨l,f⟩<;>rcases sgq_three a with ⟨m,g⟩ | ⟨m,g⟩ | ⟨m,g⟩<;>rcases sgq_three (A*A-B*B*a) with ⟨o,i⟩ | ⟨o,i⟩ | ⟨o,i⟩<;>rw [e,f,g,i]<;>decide
theorem last_step {f d a:Rat} (ha:0<a) {s:Int} (hs:s=1∨s=-1) (hd:d≠0):sos f (sgq (2*d)*s) (2*d*(2*d)*a)=sg2 f (2*d*(s:Rat)) a:=by
 have hR:0<2*d*(2*d)*a:=Rat.mul_pos (sq_pos' (show 2*d≠0 by grind)) ha
 have key:∀ B:Rat,B*B=2*d*(2*d)→sg2 f B a=if sgq f=sgq B∨sgq B=0 then sgq f else if sgq f=0 then sgq B else if 0<sgq (f*f-2*d*(2*d)*a) then sgq f else if sgq (f*f-2*d*(2*d)*a)<0 then sgq B else 0:=fun B hB=>by
  unfold sg2
  rw [sgq_pos ha,Int.mul_one,hB]
 have h:=sgq_minus (f*f-2*d*(2*d)*a)
 rw [show -(f*f-2*d*(2*d)*a)=2*d*(2*d)*a-f*f from by grind] at h
 unfold sos
 rw [h]
 rcases hs with rfl | rfl
 · rw [show 2*d*((1:Int):Rat)=2*d from by show 2*d*(1:Rat)=2*d;grind,key (2*d) rfl]
   rcases sgq_three (2*d) with ⟨l,g⟩ | ⟨l,g⟩ | ⟨l,g⟩<;>rcases sgq_three f with ⟨k,e⟩ | ⟨k,e⟩ | ⟨k,e⟩<;>rcases sgq_three (f*f-2*d*(2*d)*a) with ⟨m,i⟩ | ⟨m,i⟩ | ⟨m,i⟩<;>rw [g,e,i]<;>grind
 · have hm:=sgq_minus (2*d)
   rw [show 2*d*((-1:Int):Rat)=-(2*d) from by show 2*d*(-1:Rat)=-(2*d);grind,key (-(2*d)) (by grind),hm]
   rcases sgq_three (2*d) with ⟨l,g⟩ | ⟨l,g⟩ | ⟨l,g⟩<;>rcases sgq_three f with ⟨k,e⟩ | ⟨k,e⟩ | ⟨k,e⟩<;>rcases sgq_three (f*f-2*d*(2*d)*a) with ⟨m,i⟩ | ⟨m,i⟩ | ⟨m,i⟩<;>rw [g,e,i]<;>grind
theorem sos_any {p r:Rat} (hr:0<r) {s:Int} (hs:s=1∨s=-1):sos p s r=sg2 p (s:Rat) r:=by
 rcases hs with rfl | rfl
 · exact (sos_sg2 hr).1
 · exact (sos_sg2 hr).2
theorem cmpP_eq {d a b:Rat} (ha:0<a) {s t:Int} (hs:s=1∨s=-1):cmpP d s a t b=if sg2 d (s:Rat) a≠t then sg2 d (s:Rat) a else t*sg2 (d*d+a-b) (2*d*(s:Rat)) a:=by
 unfold cmpP
 rw [sos_any ha hs]
 by_cases h:sg2 d (s:Rat) a=t
 · rw [if_neg (show ¬(sg2 d (s:Rat) a≠t) by omega),if_neg (show ¬(sg2 d (s:Rat) a≠t) by omega)]
   by_cases hd:d=0
   · rw [if_pos (sgq_zero (show 2*d=0 by grind))]
     congr 1
     unfold sg2
     rw [sgq_zero (show 2*d*(s:Rat)=0 by grind),Int.zero_mul,if_pos (.inr rfl)]
   · rw [if_neg (fun e=>by rcases sgq_three (2*d) with ⟨k,e2⟩ | ⟨k,e2⟩ | ⟨k,e2⟩<;>grind),last_step ha hs hd]
 · rw [if_pos h,if_pos h]
theorem pm_sq {s:Int} (hs:s=1∨s=-1):(s:Rat)*(s:Rat)=1:=by
 rcases hs with rfl | rfl
 · show (1:Rat)*(1:Rat)=1
   grind
 · show (-1:Rat)*(-1:Rat)=1
   grind
theorem cmp_ev {d a b:Rat} (ha:0<a) (hb:0<b) (na:NSq a) {s t:Int} (hs:s=1∨s=-1) (ht:t=1∨t=-1) :
  (cmpP d s a t b=1→Ev (fun n=>0<d+(s:Rat)*up a n-(t:Rat)*up b n))∧(cmpP d s a t b=-1→Ev (fun n=>d+(s:Rat)*up a n-(t:Rat)*up b n<0))∧(cmpP d s a t b=0→d=0∧s=t∧a=b):=by
 have hss:=pm_sq hs
 rw [cmpP_eq ha hs]
 have h3:=sg2_three d (s:Rat) a
 have hn0:sg2 d (s:Rat) a≠0:=fun e=>by
  have:=(sg2_ns ha na e).2
  rcases hs with rfl | rfl
  · exact absurd this (by decide)
  · exact absurd this (by decide)
 by_cases h:sg2 d (s:Rat) a=t
 · rw [if_neg (show ¬(sg2 d (s:Rat) a≠t) by omega)]
   have hsq:∀ n,(d+(s:Rat)*up a n)*(d+(s:Rat)*up a n)-up b n*up b n=(d*d+a-b+2*d*(s:Rat)*up a n)+(up a n*up a n-a)-(up b n*up b n-b):=fun n=>by grind
   have pos:sg2 (d*d+a-b) (2*d*(s:Rat)) a=1→Ev (fun n=>up b n*up b n<(d+(s:Rat)*up a n)*(d+(s:Rat)*up a n)):=fun e=>by
    obtain ⟨δ,k1,k2⟩:=ev_pos ha e
    exact (k2.and (up_close hb k1)).mono fun n hn=>by have:=hsq n;have:=(up_spec ha n).2.1;grind
   have neg:sg2 (d*d+a-b) (2*d*(s:Rat)) a=-1→Ev (fun n=>(d+(s:Rat)*up a n)*(d+(s:Rat)*up a n)<up b n*up b n):=fun e=>by
    obtain ⟨δ,k1,k2⟩:=ev_neg ha e
    exact (k2.and (up_close ha k1)).mono fun n hn=>by have:=hsq n;have:=(up_spec hb n).2.1;grind
   have zero:sg2 (d*d+a-b) (2*d*(s:Rat)) a=0→d=0∧s=t∧a=b:=fun e=>by
    obtain ⟨e1,e2⟩:=sg2_ns ha na e
    have hd:d=0:=by
     rcases hs with rfl | rfl
     · have:2*d*(1:Rat)=0:=e2;grind
     · have:2*d*(-1:Rat)=0:=e2;grind
    refine ⟨hd,?_,by grind⟩
    subst hd
    rw [←h]
    unfold sg2
    rw [sgq_pos ha,Int.mul_one,sgq_zero rfl]
    rcases hs with rfl | rfl
    · rw [show sgq ((1:Int):Rat)=1 from by decide];rfl
    · rw [show sgq ((-1:Int):Rat)=-1 from by decide];rfl
   rcases ht with rfl | rfl
   · obtain ⟨δ,k1,k2⟩:=ev_pos ha h
     refine ⟨fun e=>?_,fun e=>?_,fun e=>zero (by omega)⟩
     · refine (k2.and (pos (by omega))).mono fun n hn=>?_
       show 0<d+(s:Rat)*up a n-(1:Rat)*up b n
       by_cases h9:up b n<d+(s:Rat)*up a n
       · grind
       · have:=sq_le (x:=d+(s:Rat)*up a n) (y:=up b n) (by have:=(up_spec hb n).1;grind) (by grind);grind
     · refine (k2.and (neg (by omega))).mono fun n hn=>?_
       show d+(s:Rat)*up a n-(1:Rat)*up b n<0
       by_cases h9:d+(s:Rat)*up a n<up b n
       · grind
       · have:=sq_le (x:=up b n) (y:=d+(s:Rat)*up a n) (by have:=(up_spec hb n).1;grind) (by grind);grind
   · obtain ⟨δ,k1,k2⟩:=ev_neg ha h
     refine ⟨fun e=>?_,fun e=>?_,fun e=>zero (by omega)⟩
     · refine (k2.and (neg (by omega))).mono fun n hn=>?_
       show 0<d+(s:Rat)*up a n-(-1:Rat)*up b n
       by_cases h9:-(d+(s:Rat)*up a n)<up b n
       · grind
       · have:=sq_le (x:=up b n) (y:=-(d+(s:Rat)*up a n)) (by have:=(up_spec hb n).1;grind) (by grind);grind
     · refine (k2.and (pos (by omega))).mono fun n hn=>?_
       show d+(s:Rat)*up a n-(-1:Rat)*up b n<0
       by_cases h9:up b n < -(d+(s:Rat)*up a n)
       · grind
       · have:=sq_le (x:=-(d+(s:Rat)*up a n)) (y:=up b n) (by have:=(up_spec hb n).1;grind) (by grind);grind
 · rw [if_pos h]
   refine ⟨fun e=>?_,fun e=>?_,fun e=>absurd e hn0⟩
   · obtain ⟨δ,k1,k2⟩:=ev_pos ha e
     have ht2:t=-1:=by omega
     subst ht2
     refine k2.mono fun n hn=>?_
     show 0<d+(s:Rat)*up a n-(-1:Rat)*up b n
     have:=(up_spec hb n).1
     grind
   · obtain ⟨δ,k1,k2⟩:=ev_neg ha e
     have ht2:t=1:=by omega
     subst ht2
     refine k2.mono fun n hn=>?_
     show d+(s:Rat)*up a n-(1:Rat)*up b n<0
     have:=(up_spec hb n).1
     grind
end Go.Proofs.YtpnokfgplnmjpaaGreatDoor.Sg
