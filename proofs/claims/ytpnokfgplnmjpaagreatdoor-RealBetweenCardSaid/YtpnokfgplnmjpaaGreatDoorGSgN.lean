import Derived.Test.YtpnokfgplnmjpaaGreatDoorGPk
import Derived.Test.YtpnokfgplnmjpaaGreatDoorGSgH
import Derived.Test.YtpnokfgplnmjpaaGreatDoorChecked
import Derived.WalkKit
import Derived.WalkSpells
import Derived.WalkLawsBesides
import Derived.Lib.Hide
import Derived.Deep.QuietTactic
import Derived.Deep.OwnRows
set_option linter.unusedSimpArgs false
set_option linter.unusedVariables false
set_option maxRecDepth 100000
set_option maxHeartbeats 1000000
namespace Go.Proofs.YtpnokfgplnmjpaaGreatDoor
open Go.RowKit
def Rd (w:World) (K:IntKind) (A:Option Addr) (n:Nat) (f:Nat→Nat):Prop :=
 0<n→∃ g o,A=some ⟨g,o,none⟩∧g<w.heap.size∧∀ i,i<n→w.cell? ⟨g,o+i,none⟩=some (.int K (f i:Int))
section
variable {w w':World} {K:IntKind} {A:Option Addr} {n:Nat} {f g:Nat→Nat}
theorem Rd.nil (w:World) (K:IntKind) (A:Option Addr) (f:Nat→Nat):Rd w K A 0 f:=fun h=>absurd h om
theorem Rd.below (h:Rd w K A n f) (hb:Below w.heap.size w w'):Rd w' K A n f:=fun hn=>by
 obtain ⟨g,o,e,hg,hc⟩:=h hn;exact ⟨g,o,e,Nat.lt_of_lt_of_le hg hb.size,fun i hi=>(hb.cell (p:=⟨g,o+i,none⟩) hg).trans (hc i hi)⟩
theorem Rd.alloc (h:Rd w K A n f) (o:Obj):Rd (w.alloc o) K A n f:=h.below ((Below.refl _ _).alloc (Nat.le_refl _) o)
theorem Rd.drew (h:Rd w K A n f):Rd w.drew K A n f:=h
theorem Rd.drewN (h:Rd w K A n f) (k:Nat):Rd (w.drewN k) K A n f:=h
theorem Rd.congr (h:Rd w K A n f) (e:∀ i,i<n→f i=g i):Rd w K A n g:=fun hn=>by
 obtain ⟨b,o,h1,hg,hc⟩:=h hn;exact ⟨b,o,h1,hg,fun i hi=>by rw [hc i hi,e i hi]⟩
theorem Rd.take (h:Rd w K A n f) {m:Nat} (hm:m≤n):Rd w K A m f:=fun hn=>by
 obtain ⟨b,o,h1,hg,hc⟩:=h om;exact ⟨b,o,h1,hg,fun i hi=>hc i om⟩
end
def nums (K:IntKind) (f:Nat→Nat) (n:Nat):List Value:=(List.range n).map fun i=>.int K (f i:Int)
theorem nums_succ (K:IntKind) (f:Nat→Nat) (n:Nat):nums K f (n+1)=nums K f n++[.int K (f n:Int)]:=by
 simp [nums,List.range_succ]
theorem nums_length (K:IntKind) (f:Nat→Nat) (n:Nat):(nums K f n).length=n:=by simp [nums]
theorem nums_get (K:IntKind) (f:Nat→Nat) (n i:Nat) (h:i<n):(nums K f n)[i]?=some (.int K (f i:Int)):=by
 simp [nums,h]
theorem nums_congr {K:IntKind} {f g:Nat→Nat} {n:Nat} (h:∀ i,i<n→f i=g i):nums K f n=nums K g n:=by
 apply List.ext_getElem?;intro i;by_cases hi:i<n
 · rw [nums_get _ _ _ _ hi,nums_get _ _ _ _ hi,h i hi]
 · rw [List.getElem?_eq_none (by rw [nums_length];omega),List.getElem?_eq_none (by rw [nums_length];omega)]
theorem Rd.of_own {w:World} {base:Nat} {E:TypeId} {K:IntKind} {v:Value} {n:Nat} {f:Nat→Nat} (h:w.ownsRow base E 1 v n (nums K f n)) :
  ∃ A c,v=.slice A n c∧Rd w K A n f:=by
 rcases h.2 with ⟨rfl,rfl⟩ | ⟨g,cap,cur,rfl,hb,hg,_,_,_,ht⟩
 · exact ⟨none,0,rfl,Rd.nil _ _ _ _⟩
 · refine ⟨_,cap,rfl,fun _=>⟨g,0,rfl,(Array.getElem?_eq_some_iff.1 hg).1,fun i hi=>?_⟩⟩;rw [Nat.zero_add,cell_of_row w g i cur E (0,0) hg];have:=nums_get K f n i hi;rw [←ht,List.getElem?_take] at this
   split at this
   · simpa using this
   · cases this
def enc (z:Int):Value:=.agg #[.bool (decide (z<0)),.string (mag z.natAbs)]
theorem enc_of {neg:Bool} {s:ByteArray} (h:Canon neg s):Value.agg #[.bool neg,.string s]=enc (ival neg s):=by
 obtain ⟨h1,h2⟩:=canon_eq h;unfold enc;rw [←h1,←h2]
theorem enc_form (z:Int):∃ b m,enc z=.agg #[.bool b,.string m]:=⟨_,_,rfl⟩
theorem enc_eq {neg:Bool} {s:ByteArray} {z:Int} (h:Canon neg s) (hz:ival neg s=z):Value.agg #[.bool neg,.string s]=enc z:=by rw [←hz];exact enc_of h
theorem below_draws {B:Nat} {a w:World} (h:Below B a w) (n:Nat):Below B a (w.drewN n):=⟨h.os,h.tape,h.output,h.size,h.block⟩
structure Dg (w:World) (K:IntKind) (b:Nat) (A:Option Addr) (n V:Nat):Prop where
 lt:V<b^n
 rd:Rd w K A n (D b V)
theorem Dg.below {w w':World} {K:IntKind} {b:Nat} {A:Option Addr} {n V:Nat} (h:Dg w K b A n V) (hb:Below w.heap.size w w'):Dg w' K b A n V:=⟨h.lt,h.rd.below hb⟩
theorem Dg.alloc {w:World} {K:IntKind} {b:Nat} {A:Option Addr} {n V:Nat} (h:Dg w K b A n V) (o:Obj):Dg (w.alloc o) K b A n V:=⟨h.lt,h.rd.alloc o⟩
theorem Dg.drewN {w:World} {K:IntKind} {b:Nat} {A:Option Addr} {n V:Nat} (h:Dg w K b A n V) (k:Nat):Dg (w.drewN k) K b A n V:=⟨h.lt,h.rd⟩
theorem Dg.drew {w:World} {K:IntKind} {b:Nat} {A:Option Addr} {n V:Nat} (h:Dg w K b A n V):Dg w.drew K b A n V:=⟨h.lt,h.rd⟩
def RetG (w:World) (K:IntKind) (b V N:Nat) (e:Ending) (w':World):Prop:=∃ A n c,n≤N∧e=.returned (.slice A n c)∧Dg w' K b A n V∧Below w.heap.size w w'
def RetZ (w:World) (z:Int) (e:Ending) (w':World):Prop:=e=.returned (enc z)∧Below w.heap.size w w'
def RetV (w:World) (v:Value) (e:Ending) (w':World):Prop:=e=.returned v∧w=w'
def bytesOf (f:Nat→Nat) (n:Nat):ByteArray:=⟨((List.range n).map fun i=>UInt8.ofNat (f i)).toArray⟩
theorem bytesOf_size (f:Nat→Nat) (n:Nat):(bytesOf f n).size=n:=by simp [bytesOf,ByteArray.size]
theorem bytesOf_get (f:Nat→Nat) (n i:Nat) (h:i<(bytesOf f n).size):(bytesOf f n)[i]=UInt8.ofNat (f i):=by
 simp [bytesOf,ByteArray.getElem_eq_getElem_data]
theorem bytesOf_dig {f:Nat→Nat} {n:Nat} (hf:∀ i,i<n→f i<256) (i:Nat) (h:i<n):dig (bytesOf f n) i=f (n-1-i):=by
 unfold dig;rw [dif_pos (by rw [bytesOf_size];exact h),bytesOf_get];simp only [bytesOf_size,UInt8.toNat_ofNat'];exact Nat.mod_eq_of_lt (hf _ om)
theorem bytesOf_val {f:Nat→Nat} {n:Nat} (hf:∀ i,i<n→f i<256):bval (bytesOf f n)=val 256 (fun i=>f (n-1-i)) n:=by
 unfold bval;rw [bytesOf_size];exact val_congr fun i hi=>bytesOf_dig hf i hi
theorem bytesOf_lead {f:Nat→Nat} {n:Nat} (h0:0<n→f 0≠0) (hf:∀ i,i<n→f i<256):Lead (bytesOf f n):=by
 intro h;rw [bytesOf_get];rw [bytesOf_size] at h;simp only [UInt8.toNat_ofNat'];rw [Nat.mod_eq_of_lt (hf 0 h)];exact h0 h
theorem str_of_cells (w:World) (src dst E:TypeId) (hs:Tryz.prog.underlying src=some (.slice E)) (he:Tryz.prog.underlying E=some (.int .u8)) (hd:Tryz.prog.underlying dst=some .string) (g o n c:Nat) (f:Nat→Nat) (hf:∀ i,i<n→f i<256)
  (hc:∀ i,i<n→w.cell? ⟨g,o+i,none⟩=some (.int .u8 (f i:Int))):(convert src dst (.slice (some ⟨g,o,none⟩) n c)).run Tryz.prog w=.ok (.string (bytesOf f n)) w:=by
 have h:=run_convert_bytes_back (P:=Tryz.prog) w src dst E ⟨g,o,none⟩ c ((List.range n).map fun i=>UInt8.ofNat (f i)) hs he hd (fun j hj=>by
  have hj':j<n:=by simpa using hj
  rw [Addr.add_lit,hc j hj'];simp [Nat.mod_eq_of_lt (hf j hj')])
 simpa [bytesOf] using h
def sgn (neg:Bool) (v:Nat):Int:=if neg then -(v:Int) else v
theorem intTy_info:(Tryz.prog.info? 3).map (fun i=>(i.zero,i.size,i.bytes))=some (some (.int .i64 0),1,8):=by kernel_rfl
theorem byteTy_info:(Tryz.prog.info? 5).map (fun i=>(i.zero,i.size,i.bytes))=some (some (.int .u8 0),1,1):=by kernel_rfl
theorem quietV {f:FuncId} {args:Array Value} {w:World} {n:Nat} {v:Value} (h:Calls Tryz.prog f args (w.drewN n) (RetV (w.drewN n) v)) :
 Calls Tryz.prog f args (w.drewN n) fun e w''=>e=.returned v∧∃ m,w''=w.drewN m:=h.mono fun _ _ ⟨he,hm⟩=>⟨he,n,hm.symm⟩
theorem heap_one (w:World) (o:Obj):(w.alloc o).heap[w.heap.size]?=some o:=heap_alloc_new w o
theorem heap_two (w:World) (o o':Obj):((w.alloc o).alloc o').heap[w.heap.size+1]?=some o':=by
 have:=heap_alloc_new (w.alloc o) o';simpa using this
theorem heap_three (w:World) (o o' o'':Obj):(((w.alloc o).alloc o').alloc o'').heap[w.heap.size+2]?=some o'':=by
 have:=heap_alloc_new ((w.alloc o).alloc o') o'';simpa using this
theorem res2 {W w:World} {B g:Nat} {T:TypeId} {v0 v1:Value} (h0:W.heap[g]?=some (.cells #[v0,v1] T (0,0))) (hb:Below B W w) (hg:g<B) :
  w.cell? ⟨g,0,none⟩=some v0∧w.cell? ⟨g,1,none⟩=some v1∧w.frozen? ⟨g,0,none⟩=false∧w.frozen? ⟨g,1,none⟩=false:=by
 have h:w.heap[g]?=some (.cells #[v0,v1] T (0,0)):=(hb.block g hg).trans h0;exact k83
theorem own_mono {w:World} {base base':Nat} {e:TypeId} {size:Nat} {v:Value} {n:Nat} {xs:List Value} (h:w.ownsRow base e size v n xs) (hb:base'≤base):w.ownsRow base' e size v n xs:=by
 refine ⟨h.1,?_⟩;rcases h.2 with h2 | ⟨g,cap,cur,hv,hg,r⟩
 · exact Or.inl h2
 · exact Or.inr ⟨g,cap,cur,hv,om,r⟩
theorem digits_own (neg:Bool) (s:ByteArray) (w:World) (hs:s.size≤1099511627776) :
  Calls Tryz.prog 155 #[.agg #[.bool neg,.string s]] w fun e w'=>∃ v,e=.returned v∧w'.ownsRow w.heap.size 3 1 v s.size (nums .i64 (dig s) s.size)∧Below w.heap.size w w':=by
 obtain ⟨i0,hi,hz0,hz1,hz2⟩:=info_parts intTy_info;go_enter Tryz.func155,Tryz.ntmps155;go_wp2
 go_loopw [3,4] (fun v i wr=>∃ k:Nat,k≤s.size∧i=.int .i64 ((s.size:Int)-1-k)∧wr.ownsRow (w.heap.size+1) 3 1 v k (nums .i64 (dig s) k) ∧
   wr.cell? ⟨w.heap.size,1,none⟩=some (.string s)∧Below w.heap.size w wr∧w.heap.size+1≤wr.heap.size)
  (fun _ i _=>(intOf i+1).toNat)
 case atStart=>exact ⟨0,Nat.zero_le _,by simp,World.ownsRow_nil _ _ _ _,by simp,(Below.refl _ _).alloc (Nat.le_refl _) _,by simp⟩
 case round =>
  obtain ⟨k,hk,rfl,hown,hcell,hnx,hsz⟩:=hrel;by_cases hlt:k<s.size
  · exact k21
  · obtain rfl:k=s.size:=om;go_wp2
    go_ret
    exact ⟨_,rfl,own_mono hown om,hnx⟩
theorem digits_any (neg:Bool) (s:ByteArray) (w:World) (hs:s.size≤1099511627776) :
  Calls Tryz.prog 155 #[.agg #[.bool neg,.string s]] w (RetG w .i64 256 (bval s) s.size) :=
 (digits_own neg s w hs).mono fun _ _ ⟨_,he,hown,hb⟩=>by
  obtain ⟨A,c,rfl,hr⟩:=Rd.of_own hown;exact ⟨A,_,c,Nat.le_refl _,he,⟨bval_lt s,hr.congr fun i _=>dig_eq s i⟩,hb⟩
theorem number_value {neg:Bool} {f:Nat→Nat} {k n:Nat} (hf:∀ i,i<n→f i<256) (hk:k≤n) (hz:∀ i,k≤i→i<n→f i=0) (ht:0<k→f (k-1)≠0) :
  Value.agg #[.bool (neg && decide ((0:Int)<k)),.string (bytesOf (fun j=>f (k-1-j)) k)]=enc (sgn neg (val 256 f n)):=by
 have hv:bval (bytesOf (fun j=>f (k-1-j)) k)=val 256 f n:=by
  rw [bytesOf_val (fun i hi=>hf _ om),val_zeros hk hz];exact val_congr fun i hi=>by rw [show k-1-(k-1-i)=i by omega]
 refine enc_eq ⟨bytesOf_lead (fun h=>by simpa using ht h) (fun i hi=>hf _ om),fun h=>?_⟩ ?_
 · rw [bytesOf_size] at h;simp [h]
 · unfold ival sgn;rw [hv];by_cases h0:0<k
   · simp [h0]
   · have:k=0:=om;subst this;rw [val_zeros (Nat.zero_le n) hz];simp [val]
theorem top_of (f:Nat→Nat) (n:Nat):∃ k,k≤n∧(∀ i,k≤i→i<n→f i=0)∧(0<k→f (k-1)≠0):=by
 induction n with
 | zero=>exact ⟨0,Nat.le_refl _,fun i h1 h2=>om,fun h=>om⟩
 | succ n ih =>
   by_cases e:f n=0
   · obtain ⟨k,h1,h2,h3⟩:=ih;refine ⟨k,om,fun i h4 h5=>?_,h3⟩;by_cases ei:i=n
     · rw [ei,e]
     · exact h2 i h4 om
   · exact ⟨n+1,Nat.le_refl _,fun i h1 h2=>om,fun _=>e⟩
theorem number_own (neg:Bool) (A:Option Addr) (n c:Nat) (f:Nat→Nat) (w:World) (hn:n≤1099511627776) (hf:∀ i,i<n→f i<256) (hr:Rd w .i64 A n f) :
  Calls Tryz.prog 154 #[.bool neg,.slice A n c] w (RetZ w (sgn neg (val 256 f n))):=by
 obtain ⟨k0,hk0,hz,ht⟩:=top_of f n;have HV:=Lib.hid (number_value (neg:=neg) hf hk0 hz ht);have HZ:=Lib.hid hz;have HT:=Lib.hid ht;have HF:=Lib.hid hf;clear hz ht hf;have HR:=Lib.hid hr;clear hr;go_enter Tryz.func154,Tryz.ntmps154;go_wp2
 go_loop [5] (fun i=>∃ k:Nat,k≤n∧k0≤k∧i=.int .i64 k) (fun i=>(intOf i).toNat)
 case atStart=>exact ⟨n,Nat.le_refl _,hk0,rfl⟩
 case round =>
  obtain ⟨k,hk,hkk,rfl⟩:=hrel;by_cases h0:k0<k
  · have hr:=HR.out;obtain ⟨g,o,rfl,hg,hcell⟩:=hr om;have hc1:w.cell? ⟨g,o+(k-1),none⟩=some (.int .i64 0):=by rw [hcell (k-1) om,HZ.out (k-1) om om];rfl
    clear hcell hr;exact k112
  · obtain rfl:k=k0:=om;have hmk:=fun W=>run_make_row' (P:=Tryz.prog) 151 5 (.int .u8 0) 1 Tryz.underlying151 byteTy_info rfl .i64 .i64 k om om W
    by_cases h1:0<k
    · have hr:=HR.out;obtain ⟨g,o,rfl,hg,hcell⟩:=hr om;have hc1:w.cell? ⟨g,o+(k-1),none⟩=some (.int .i64 (f (k-1):Int)):=hcell (k-1) om;have hne:((f (k-1):Int)==0)=false:=by have:=HT.out h1;simp;omega
      have HC:=Lib.hid hcell;clear hcell hr;go_wp2
      go_loopw [7] (fun i wr=>∃ j:Nat,j≤k∧i=.int .i64 j∧wr.rowIs (w.heap.size+1) 5 k (fun m=>.int .u8 ((if k-1-m<j then f (k-1-m) else 0:Nat):Int)) ∧
       Below (w.heap.size+1) (w.alloc (.cells #[.bool false,.string ⟨#[]⟩] 23)) wr) (fun i _=>k-(intOf i).toNat)
      case atStart=>exact ⟨0,Nat.zero_le _,rfl,by simpa using World.rowIs_made (w.alloc (.cells #[.bool false,.string ⟨#[]⟩] 23)) (.int .u8 0) k 5,(Below.refl _ _).alloc (by simp) _⟩
      case round =>
       obtain ⟨j,hj,rfl,hrow,hbl⟩:=hrel;by_cases hjk:j<k
       · have hcj : wr.cell? ⟨g, o + j, none⟩ = some (.int .i64 (f j : Int)) := by
          exact k113
         have hcs:=hrow.cell (i:=k-1-j) om;have hfs:=hrow.frozen (k-1-j);have hfj:=HF.out j om;exact k44
       · obtain rfl:j=k:=om
         have hstr:=str_of_cells wr 151 9 5 Tryz.underlying151 Tryz.underlying5 Tryz.underlying9 (w.heap.size+1) 0 j j (fun i=>f (j-1-i)) (fun i hi=>HF.out _ om) (fun i hi=>by
          rw [Nat.zero_add,hrow.cell hi,if_pos om])
         have hc0:wr.cell? ⟨w.heap.size,0,none⟩=some (.bool false):=(hbl.cell (p:=⟨w.heap.size,0,none⟩) (by simp)).trans (by simp);have hc1:wr.cell? ⟨w.heap.size,1,none⟩=some (.string ⟨#[]⟩):=(hbl.cell (p:=⟨w.heap.size,1,none⟩) (by simp)).trans (by simp);have hf0:wr.frozen? ⟨w.heap.size,0,none⟩=false:=(hbl.frozen (p:=⟨w.heap.size,0,none⟩) (by simp)).trans (by simp);have hf1:wr.frozen? ⟨w.heap.size,1,none⟩=false:=(hbl.frozen (p:=⟨w.heap.size,1,none⟩) (by simp)).trans (by simp);have hbelow:Below w.heap.size w ((wr.setCell ⟨w.heap.size,0,none⟩ (.bool neg)).setCell ⟨w.heap.size,1,none⟩ (.string (bytesOf (fun i=>f (j-1-i)) j))):=((((Below.refl _ _).alloc (Nat.le_refl _) _).trans (hbl.mono om)).setCell (by simp) _).setCell (by simp) _;cases neg
         all_goals
          go_wp2
          refine bodyPost_ret (v:=.agg #[_,.string (bytesOf (fun i=>f (j-1-i)) j)]) (by simp [results,Tryz.results154,go_sem,hc0,hc1];rfl) rfl ⟨?_,hbelow⟩;have hv:=HV.out;simp [h1] at hv;rw [hv]
    · go_wp2
      go_loopw [7] (fun i wr=>i=.int .i64 0∧wr=(w.alloc (.cells #[.bool false,.string ⟨#[]⟩] 23)).alloc (.cells (madeCells #[.int .u8 0] k) 5)) (fun _ _=>0)
      case atStart=>exact ⟨rfl,rfl⟩
      case round =>
       obtain ⟨rfl,rfl⟩:=hrel;have hstr:=fun W=>str_of_cells W 151 9 5 Tryz.underlying151 Tryz.underlying5 Tryz.underlying9 (w.heap.size+1) 0 k k (fun i=>f (k-1-i)) (fun i hi=>om) (fun i hi=>om)
       cases neg
       all_goals
        go_wp2
        refine bodyPost_ret (v:=.agg #[_,.string (bytesOf (fun i=>f (k-1-i)) k)]) (by simp [results,Tryz.results154,go_sem];rfl) rfl ⟨?_,?_⟩
        · have hv:=HV.out;simp [h1] at hv;rw [hv]
        · exact ((Below.refl _ _).alloc (Nat.le_refl _) _).alloc (by simp) _
theorem number_any (neg:Bool) (A:Option Addr) (n c V:Nat) (w:World) (hn:n≤1099511627776) (hr:Dg w .i64 256 A n V) :
  Calls Tryz.prog 154 #[.bool neg,.slice A n c] w (RetZ w (sgn neg V)):=by
 have h:=number_own neg A n c (D 256 V) w hn (fun i _=>D_lt om V i) hr.rd;rw [val_D,Nat.mod_eq_of_lt hr.lt] at h;exact h
end Go.Proofs.YtpnokfgplnmjpaaGreatDoor
namespace Go.Proofs.YtpnokfgplnmjpaaGreatDoor.Sg
def Ev (P:Nat→Prop):Prop:=∃ N,∀ n,N≤n→P n
theorem Ev.and {P Q:Nat→Prop} (h:Ev P) (k:Ev Q):Ev (fun n=>P n∧Q n):=by
 obtain ⟨N,h⟩:=h;obtain ⟨M,k⟩:=k;exact ⟨N+M,fun n hn=>⟨h n om,k n om⟩⟩
theorem Ev.mono {P Q:Nat→Prop} (h:Ev P) (k:∀ n,P n→Q n):Ev Q:=by
 obtain ⟨N,h⟩:=h;exact ⟨N,fun n hn=>k n (h n hn)⟩
theorem Ev.all {P:Nat→Prop} (h:∀ n,P n):Ev P:=⟨0,fun n _=>h n⟩
theorem Ev.some {P:Nat→Prop} (h:Ev P):∃ n,P n:=by
 obtain ⟨N,h⟩:=h;exact ⟨N,h N (Nat.le_refl _)⟩
theorem exists_inv {x:Rat} (hx:0<x):∃ w:Rat,0<w∧x*w=1:=by
 obtain ⟨w,hw⟩:∃ w:Rat,x*w=1:=⟨x⁻¹,Rat.mul_inv_cancel _ (by grind)⟩
 refine ⟨w,?_,hw⟩;by_cases h1:0<w
 · exact h1
 · have h2:=Rat.mul_nonneg (Rat.le_of_lt hx) (show 0≤-w by grind);grind
theorem frac_n (n:Nat):(0:Rat)<1 / ((n:Rat)+1):=by
 have h:(0:Rat)≤(n:Rat):=Rat.natCast_nonneg;obtain ⟨w,hw,e⟩:=exists_inv (show (0:Rat)<(n:Rat)+1 by grind);have:1 / ((n:Rat)+1)=w:=by grind
 rw [this];exact hw
noncomputable def up (a:Rat) (n:Nat):Rat:=if h:0<a then Classical.choose (approx h (frac_n n)) else 0
theorem up_spec {a:Rat} (h:0<a) (n:Nat):0<up a n∧a<up a n*up a n∧up a n*up a n<a+1 / ((n:Rat)+1):=by
 unfold up;rw [dif_pos h];exact Classical.choose_spec (approx h (frac_n n))
theorem frac_small {ε:Rat} (h:0<ε):Ev (fun n=>1 / ((n:Rat)+1)<ε):=by
 obtain ⟨w,hw,e⟩:=exists_inv h;obtain ⟨N,hN⟩:=rat_arch w;refine ⟨N,fun n hn=>?_⟩;have h1:(N:Rat)≤(n:Rat):=Rat.natCast_le_natCast.2 hn;have h0:(0:Rat)≤(n:Rat):=Rat.natCast_nonneg;obtain ⟨v,hv,f⟩:=exists_inv (show (0:Rat)<(n:Rat)+1 by grind);have h2:1 / ((n:Rat)+1)=v:=by grind
 show 1 / ((n:Rat)+1)<ε;rw [h2];have h3:=Rat.mul_pos hv (show (0:Rat)<(n:Rat)+1-w by grind);have h4:v*w<1:=by grind
 have h5:=mul_lt h4 h;have h6:v*w*ε=v:=by grind
 rw [h6,Rat.one_mul] at h5;exact h5
theorem up_close {a:Rat} (h:0<a) {ε:Rat} (hε:0<ε):Ev (fun n=>up a n*up a n<a+ε) :=
 (frac_small hε).mono fun n hn=>by have:=(up_spec h n).2.2;grind
theorem up_le {a:Rat} (h:0<a) (n:Nat):up a n<a+2:=by
 obtain ⟨h1,h2,h3⟩:=up_spec h n;have h0:(0:Rat)≤(n:Rat):=Rat.natCast_nonneg;obtain ⟨v,hv,f⟩:=exists_inv (show (0:Rat)<(n:Rat)+1 by grind);have h4:1 / ((n:Rat)+1)=v:=by grind
 rw [h4] at h3
 have h5:v≤1:=by
  have:=Rat.mul_nonneg (Rat.le_of_lt hv) h0;grind
 by_cases h6:up a n<a+2
 · exact h6
 · have h7:=sq_le (x:=a+2) (y:=up a n) (by grind) (by grind);have h8:=Rat.mul_pos h h;grind
theorem up_ge {a:Rat} (h:0<a):∃ c:Rat,0<c∧∀ n,c≤up a n:=by
 by_cases h1:a<1
 · refine ⟨a,h,fun n=>?_⟩;obtain ⟨k1,k2,_⟩:=up_spec h n;by_cases h2:a≤up a n
   · exact h2
   · have:=sq_le (x:=up a n) (y:=a) (by grind) (by grind);have:=mul_lt h1 h;grind
 · refine ⟨1,by decide,fun n=>?_⟩;obtain ⟨k1,k2,_⟩:=up_spec h n;exact k119
theorem sg2_one {A B a:Rat} (ha:0<a) (h:sg2 A B a=1):(0<A∧0≤B)∨(0<B∧0≤A)∨(0<A∧B<0∧B*B*a<A*A)∨(A<0∧0<B∧A*A<B*B*a):=by
 unfold sg2 at h;rw [sgq_pos ha] at h;exact k76
theorem ev_pos {A B a:Rat} (ha:0<a) (h:sg2 A B a=1):∃ δ:Rat,0<δ∧Ev (fun n=>δ≤A+B*up a n):=by
 obtain ⟨c,hc,hcu⟩:=up_ge ha;rcases sg2_one ha h with ⟨h1,h2⟩ | ⟨h1,h2⟩ | ⟨h1,h2,h3⟩ | ⟨h1,h2,h3⟩
 · refine ⟨A,h1,Ev.all fun n=>?_⟩;have:=Rat.mul_nonneg h2 (Rat.le_of_lt (up_spec ha n).1);grind
 · refine ⟨B*c,Rat.mul_pos h1 hc,Ev.all fun n=>?_⟩;have:=Rat.mul_le_mul_of_nonneg_left (hcu n) (Rat.le_of_lt h1);grind
 · -- A is greater than the root's multiple
   have hM:0<A+-B*(a+2):=by have:=Rat.mul_pos (show 0 < -B by grind) (show 0<a+2 by grind);grind
   obtain ⟨w,hw,ew⟩:=exists_inv hM;have hBB:0<B*B:=sq_pos' (by grind);obtain ⟨v,hv,ev⟩:=exists_inv hBB;have hD:0<A*A-B*B*a:=by grind
   have hDw:=Rat.mul_pos hD hw;have hDv:=Rat.mul_pos hD hv;refine ⟨(A*A-B*B*a)*w / 2,by grind,(up_close ha (ε:=(A*A-B*B*a)*v / 2) (by grind)).mono fun n hn=>?_⟩;exact k27
 · -- the root's multiple is greater
   have hM:0<B*(a+2)-A:=by have:=Rat.mul_pos h2 (show 0<a+2 by grind);grind
   obtain ⟨w,hw,ew⟩:=exists_inv hM;have hD:0<B*B*a-A*A:=by grind
   have hDw:=Rat.mul_pos hD hw;refine ⟨(B*B*a-A*A)*w,hDw,Ev.all fun n=>?_⟩;exact k29
theorem sg2_neg {A B a:Rat}:sg2 (-A) (-B) a=- sg2 A B a:=by
 unfold sg2;rw [sgq_minus,sgq_minus,show -A*-A - -B*-B*a=A*A-B*B*a from by grind,Int.neg_mul];generalize sgq A=x;generalize sgq B*sgq a=y;generalize sgq (A*A-B*B*a)=z;by_cases h1:x=y∨y=0
 · rw [if_pos (show -x=-y∨-y=0 by omega),if_pos h1]
 · rw [if_neg (show ¬(-x=-y∨-y=0) by omega),if_neg h1];by_cases h2:x=0
   · rw [if_pos (show -x=0 by omega),if_pos h2]
   · rw [if_neg (show ¬-x=0 by omega),if_neg h2];by_cases h3:0<z
     · rw [if_pos h3,if_pos h3]
     · rw [if_neg h3,if_neg h3];by_cases h4:z<0
       · rw [if_pos h4,if_pos h4]
       · rw [if_neg h4,if_neg h4]
         rfl
theorem ev_neg {A B a:Rat} (ha:0<a) (h:sg2 A B a=-1):∃ δ:Rat,0<δ∧Ev (fun n=>A+B*up a n≤-δ):=by
 have h1:=@sg2_neg A B a;obtain ⟨δ,h2,h3⟩:=ev_pos ha (show sg2 (-A) (-B) a=1 by omega);exact ⟨δ,h2,h3.mono fun n hn=>by grind⟩
def NSq (a:Rat):Prop:=∀ z:Rat,z*z≠a
theorem sg2_ns {A B a:Rat} (ha:0<a) (hn:NSq a) (h:sg2 A B a=0):A=0∧B=0:=by
 unfold sg2 at h;rw [sgq_pos ha] at h;by_cases hB:B=0
 · rw [sgq_zero hB] at h;rcases sgq_three A with ⟨k,e⟩ | ⟨k,e⟩ | ⟨k,e⟩<;>rw [e] at h<;>grind
 · exfalso;obtain ⟨w,hw⟩:∃ w:Rat,B*w=1:=⟨B⁻¹,Rat.mul_inv_cancel _ hB⟩
   have hsq:A*A-B*B*a≠0:=fun e=>hn (A*w) (by grind)
   exact k76
theorem sg2_three (A B a:Rat):sg2 A B a=-1∨sg2 A B a=0∨sg2 A B a=1:=by
 unfold sg2;rcases sgq_three A with ⟨k,e⟩ | ⟨k,e⟩ | ⟨k,e⟩<;>rcases sgq_three B with ⟨l,f⟩ | ⟨l,f⟩ | ⟨l,f⟩<;>rcases sgq_three a with ⟨m,g⟩ | ⟨m,g⟩ | ⟨m,g⟩<;>rcases sgq_three (A*A-B*B*a) with ⟨o,i⟩ | ⟨o,i⟩ | ⟨o,i⟩<;>rw [e,f,g,i]<;>decide
theorem last_step {f d a:Rat} (ha:0<a) {s:Int} (hs:s=1∨s=-1) (hd:d≠0):sos f (sgq (2*d)*s) (2*d*(2*d)*a)=sg2 f (2*d*(s:Rat)) a:=by
 have hR:0<2*d*(2*d)*a:=Rat.mul_pos (sq_pos' (show 2*d≠0 by grind)) ha
 have key:∀ B:Rat,B*B=2*d*(2*d)→sg2 f B a=if sgq f=sgq B∨sgq B=0 then sgq f else if sgq f=0 then sgq B else if 0<sgq (f*f-2*d*(2*d)*a) then sgq f else if sgq (f*f-2*d*(2*d)*a)<0 then sgq B else 0:=fun B hB=>by
  unfold sg2;rw [sgq_pos ha,Int.mul_one,hB]
 have h:=sgq_minus (f*f-2*d*(2*d)*a);rw [show -(f*f-2*d*(2*d)*a)=2*d*(2*d)*a-f*f from by grind] at h;unfold sos;rw [h];rcases hs with rfl | rfl
 · rw [show 2*d*((1:Int):Rat)=2*d from by show 2*d*(1:Rat)=2*d;grind,key (2*d) rfl];exact k71
 · have hm:=sgq_minus (2*d);rw [show 2*d*((-1:Int):Rat)=-(2*d) from by show 2*d*(-1:Rat)=-(2*d);grind,key (-(2*d)) (by grind),hm];exact k71
theorem sos_any {p r:Rat} (hr:0<r) {s:Int} (hs:s=1∨s=-1):sos p s r=sg2 p (s:Rat) r:=by
 rcases hs with rfl | rfl
 · exact (sos_sg2 hr).1
 · exact (sos_sg2 hr).2
theorem cmpP_eq {d a b:Rat} (ha:0<a) {s t:Int} (hs:s=1∨s=-1):cmpP d s a t b=if sg2 d (s:Rat) a≠t then sg2 d (s:Rat) a else t*sg2 (d*d+a-b) (2*d*(s:Rat)) a:=by
 unfold cmpP;rw [sos_any ha hs];by_cases h:sg2 d (s:Rat) a=t
 · rw [if_neg (show ¬(sg2 d (s:Rat) a≠t) by omega),if_neg (show ¬(sg2 d (s:Rat) a≠t) by omega)];by_cases hd:d=0
   · rw [if_pos (sgq_zero (show 2*d=0 by grind))]
     congr 1
     unfold sg2;rw [sgq_zero (show 2*d*(s:Rat)=0 by grind),Int.zero_mul,if_pos (.inr rfl)]
   · rw [if_neg (fun e=>by rcases sgq_three (2*d) with ⟨k,e2⟩ | ⟨k,e2⟩ | ⟨k,e2⟩<;>grind),last_step ha hs hd]
 · rw [if_pos h,if_pos h]
theorem pm_sq {s:Int} (hs:s=1∨s=-1):(s:Rat)*(s:Rat)=1:=by
 rcases hs with rfl | rfl
 · show (1:Rat)*(1:Rat)=1;grind
 · show (-1:Rat)*(-1:Rat)=1;grind
theorem cmp_ev {d a b:Rat} (ha:0<a) (hb:0<b) (na:NSq a) {s t:Int} (hs:s=1∨s=-1) (ht:t=1∨t=-1) :
  (cmpP d s a t b=1→Ev (fun n=>0<d+(s:Rat)*up a n-(t:Rat)*up b n))∧(cmpP d s a t b=-1→Ev (fun n=>d+(s:Rat)*up a n-(t:Rat)*up b n<0))∧(cmpP d s a t b=0→d=0∧s=t∧a=b):=by
 have hss:=pm_sq hs;rw [cmpP_eq ha hs];have h3:=sg2_three d (s:Rat) a
 have hn0:sg2 d (s:Rat) a≠0:=fun e=>by
  exact k66
 by_cases h:sg2 d (s:Rat) a=t
 · rw [if_neg (show ¬(sg2 d (s:Rat) a≠t) by omega)];have hsq:∀ n,(d+(s:Rat)*up a n)*(d+(s:Rat)*up a n)-up b n*up b n=(d*d+a-b+2*d*(s:Rat)*up a n)+(up a n*up a n-a)-(up b n*up b n-b):=fun n=>by grind
   have pos:sg2 (d*d+a-b) (2*d*(s:Rat)) a=1→Ev (fun n=>up b n*up b n<(d+(s:Rat)*up a n)*(d+(s:Rat)*up a n)):=fun e=>by
    obtain ⟨δ,k1,k2⟩:=ev_pos ha e;exact (k2.and (up_close hb k1)).mono fun n hn=>by have:=hsq n;have:=(up_spec ha n).2.1;grind
   have neg:sg2 (d*d+a-b) (2*d*(s:Rat)) a=-1→Ev (fun n=>(d+(s:Rat)*up a n)*(d+(s:Rat)*up a n)<up b n*up b n):=fun e=>by
    obtain ⟨δ,k1,k2⟩:=ev_neg ha e;exact (k2.and (up_close ha k1)).mono fun n hn=>by have:=hsq n;have:=(up_spec hb n).2.1;grind
   have zero:sg2 (d*d+a-b) (2*d*(s:Rat)) a=0→d=0∧s=t∧a=b:=fun e=>by
    obtain ⟨e1,e2⟩:=sg2_ns ha na e
    have hd:d=0:=by
     rcases hs with rfl | rfl
     · have:2*d*(1:Rat)=0:=e2;grind
     · have:2*d*(-1:Rat)=0:=e2;grind
    refine ⟨hd,?_,by grind⟩;subst hd;rw [←h];unfold sg2;rw [sgq_pos ha,Int.mul_one,sgq_zero rfl];rcases hs with rfl | rfl
    · rw [show sgq ((1:Int):Rat)=1 from by decide];rfl
    · rw [show sgq ((-1:Int):Rat)=-1 from by decide];rfl
   rcases ht with rfl | rfl
   · obtain ⟨δ,k1,k2⟩:=ev_pos ha h;refine ⟨fun e=>?_,fun e=>?_,fun e=>zero om⟩
     · refine (k2.and (pos om)).mono fun n hn=>?_
       show 0<d+(s:Rat)*up a n-(1:Rat)*up b n;by_cases h9:up b n<d+(s:Rat)*up a n
       · grind
       · have:=sq_le (x:=d+(s:Rat)*up a n) (y:=up b n) (by have:=(up_spec hb n).1;grind) (by grind);grind
     · refine (k2.and (neg om)).mono fun n hn=>?_
       show d+(s:Rat)*up a n-(1:Rat)*up b n<0;by_cases h9:d+(s:Rat)*up a n<up b n
       · grind
       · have:=sq_le (x:=up b n) (y:=d+(s:Rat)*up a n) (by have:=(up_spec hb n).1;grind) (by grind);grind
   · obtain ⟨δ,k1,k2⟩:=ev_neg ha h;refine ⟨fun e=>?_,fun e=>?_,fun e=>zero om⟩
     · refine (k2.and (neg om)).mono fun n hn=>?_
       show 0<d+(s:Rat)*up a n-(-1:Rat)*up b n;by_cases h9:-(d+(s:Rat)*up a n)<up b n
       · grind
       · have:=sq_le (x:=up b n) (y:=-(d+(s:Rat)*up a n)) (by have:=(up_spec hb n).1;grind) (by grind);grind
     · refine (k2.and (pos om)).mono fun n hn=>?_
       show d+(s:Rat)*up a n-(-1:Rat)*up b n<0;by_cases h9:up b n < -(d+(s:Rat)*up a n)
       · grind
       · have:=sq_le (x:=-(d+(s:Rat)*up a n)) (y:=up b n) (by have:=(up_spec hb n).1;grind) (by grind);grind
 · rw [if_pos h];refine ⟨fun e=>?_,fun e=>?_,fun e=>absurd e hn0⟩
   · obtain ⟨δ,k1,k2⟩:=ev_pos ha e;have ht2:t=-1:=om;subst ht2;refine k2.mono fun n hn=>?_
     show 0<d+(s:Rat)*up a n-(-1:Rat)*up b n;have:=(up_spec hb n).1;grind
   · obtain ⟨δ,k1,k2⟩:=ev_neg ha e;have ht2:t=1:=om;subst ht2;refine k2.mono fun n hn=>?_
     show d+(s:Rat)*up a n-(1:Rat)*up b n<0;have:=(up_spec hb n).1;grind
structure Rl where
 p:Rat
 a:Rat
 s:Int
structure Rl.Ok (x:Rl):Prop where
 sg:x.s=1∨x.s=-1
 form:(x.a=0∧x.s=1)∨(0<x.a∧NSq x.a)
noncomputable def Rl.val (x:Rl) (n:Nat):Rat:=x.p+(x.s:Rat)*up x.a n
def cmpX (x y:Rl):Int :=
 if x.a=y.a∧x.s=y.s then sgq (x.p-y.p)
 else if y.a=0 then sos (x.p-y.p) x.s x.a
 else if x.a=0 then-sos (y.p-x.p) y.s y.a
 else cmpP (x.p-y.p) x.s x.a y.s y.a
theorem up_zero (n:Nat):up 0 n=0:=by
 unfold up;rw [dif_neg dc]
theorem Rl.ext' {x y:Rl} (h1:x.p=y.p) (h2:x.a=y.a) (h3:x.s=y.s):x=y:=by
 cases x;cases y
 simp_all
structure Says (x y:Rl) (c:Int):Prop where
 three:c=-1∨c=0∨c=1
 gt:c=1→Ev (fun n=>y.val n<x.val n)
 lt:c=-1→Ev (fun n=>x.val n<y.val n)
 eq:c=0→x=y
theorem Says.neg {x y:Rl} {c:Int} (h:Says x y c):Says y x (-c) :=
 ⟨by have:=h.three;omega,fun e=>h.lt om,fun e=>h.gt om,fun e=>(h.eq om).symm⟩
theorem says_root {x y:Rl} (hx:x.Ok) (hxa:0<x.a) (hya:y.a=0):Says x y (sos (x.p-y.p) x.s x.a):=by
 have hn:NSq x.a:=by
  rcases hx.form with ⟨h,_⟩ | ⟨_,h⟩
  · exact absurd hxa (by rw [h];decide)
  · exact h
 have hv:∀ n,y.val n=y.p:=fun n=>by unfold Rl.val;rw [hya,up_zero];grind
 rw [sos_any hxa hx.sg];refine ⟨sg2_three _ _ _,fun e=>?_,fun e=>?_,fun e=>?_⟩
 · obtain ⟨δ,h1,h2⟩:=ev_pos hxa e;exact h2.mono fun n hn2=>by rw [hv];unfold Rl.val;grind
 · obtain ⟨δ,h1,h2⟩:=ev_neg hxa e;exact h2.mono fun n hn2=>by rw [hv];unfold Rl.val;grind
 · have h:=(sg2_ns hxa hn e).2;exfalso;rcases hx.sg with h1 | h1
   · rw [h1] at h;exact absurd h dc
   · rw [h1] at h;exact absurd h dc
theorem cmp_says {x y:Rl} (hx:x.Ok) (hy:y.Ok):Says x y (cmpX x y):=by
 unfold cmpX;by_cases h:x.a=y.a∧x.s=y.s
 · rw [if_pos h];have hv:∀ n,x.val n-y.val n=x.p-y.p:=fun n=>by unfold Rl.val;rw [h.1,h.2];grind
   refine ⟨?_,fun e=>Ev.all fun n=>?_,fun e=>Ev.all fun n=>?_,fun e=>?_⟩
   · rcases sgq_three (x.p-y.p) with ⟨_,e⟩ | ⟨_,e⟩ | ⟨_,e⟩<;>omega
   · rcases sgq_three (x.p-y.p) with ⟨k,e2⟩ | ⟨k,e2⟩ | ⟨k,e2⟩
     · omega
     · omega
     · have:=hv n;grind
   · rcases sgq_three (x.p-y.p) with ⟨k,e2⟩ | ⟨k,e2⟩ | ⟨k,e2⟩
     · have:=hv n;grind
     · omega
     · omega
   · rcases sgq_three (x.p-y.p) with ⟨k,e2⟩ | ⟨k,e2⟩ | ⟨k,e2⟩
     · omega
     · exact Rl.ext' (by grind) h.1 h.2
     · omega
 · rw [if_neg h];by_cases hy0:y.a=0
   · rw [if_pos hy0]
     have hxa:0<x.a:=by
      rcases hx.form with ⟨h1,h2⟩ | ⟨h1,_⟩
      · exact k87
      · exact h1
     exact says_root hx hxa hy0
   · rw [if_neg hy0]
     have hya:0<y.a:=by
      rcases hy.form with ⟨h1,_⟩ | ⟨h1,_⟩
      · exact absurd h1 hy0
      · exact h1
     by_cases hx0:x.a=0
     · rw [if_pos hx0];exact (says_root hy hya hx0).neg
     · rw [if_neg hx0]
       have hxa:0<x.a:=by
        rcases hx.form with ⟨h1,_⟩ | ⟨h1,_⟩
        · exact absurd h1 hx0
        · exact h1
       have hn:NSq x.a:=by
        rcases hx.form with ⟨h1,_⟩ | ⟨_,h1⟩
        · exact absurd h1 hx0
        · exact h1
       obtain ⟨h1,h2,h3⟩:=cmp_ev (d:=x.p-y.p) hxa hya hn hx.sg hy.sg;refine ⟨?_,fun e=>(h1 e).mono fun n hn2=>by unfold Rl.val;grind,fun e=>(h2 e).mono fun n hn2=>by unfold Rl.val;grind,fun e=>?_⟩
       · rw [cmpP_eq hxa hx.sg];have k1:=sg2_three (x.p-y.p) (x.s:Rat) x.a;have k2:=sg2_three ((x.p-y.p)*(x.p-y.p)+x.a-y.a) (2*(x.p-y.p)*(x.s:Rat)) x.a
         split
         · exact k1
         · rcases hy.sg with e | e<;>rw [e]<;>omega
       · obtain ⟨k1,k2,k3⟩:=h3 e;exact Rl.ext' (by grind) k3 k2
theorem says_one {x y:Rl} {c c':Int} (h:Says x y c) (h':Says x y c'):c=c':=by
 have key:∀ {c c':Int},Says x y c→Says x y c'→c=1→c'=1:=fun {c c'} h h' e=>by
  have k:=h.gt e;rcases h'.three with e2 | e2 | e2
  · obtain ⟨n,k1,k2⟩:=(k.and (h'.lt e2)).some;exact absurd (Rat.le_of_lt k1) (Rat.not_le.2 k2)
  · obtain ⟨n,k1⟩:=k.some;rw [h'.eq e2] at k1;exact absurd k1 Rat.lt_irrefl
  · exact e2
 have key2:∀ {c c':Int},Says x y c→Says x y c'→c=-1→c'=-1:=fun {c c'} h h' e=>by
  have k:=h.lt e;rcases h'.three with e2 | e2 | e2
  · exact e2
  · obtain ⟨n,k1⟩:=k.some;rw [h'.eq e2] at k1;exact absurd k1 Rat.lt_irrefl
  · obtain ⟨n,k1,k2⟩:=(k.and (h'.gt e2)).some;exact absurd (Rat.le_of_lt k1) (Rat.not_le.2 k2)
 rcases h.three with e | e | e
 · rw [e,key2 h h' e]
 · rcases h'.three with e2 | e2 | e2
   · have:=key2 h' h e2;omega
   · omega
   · have:=key h' h e2;omega
 · rw [e,key h h' e]
theorem cmp_anti {x y:Rl} (hx:x.Ok) (hy:y.Ok):cmpX y x=- cmpX x y:=says_one (cmp_says hy hx) (cmp_says hx hy).neg
theorem cmp_zero {x y:Rl} (hx:x.Ok) (hy:y.Ok):cmpX x y=0↔x=y:=by
 refine ⟨(cmp_says hx hy).eq,?_⟩;rintro rfl;unfold cmpX;rw [if_pos ⟨rfl,rfl⟩,sgq_zero (by grind)]
theorem cmp_trans {x y z:Rl} (hx:x.Ok) (hy:y.Ok) (hz:z.Ok) (h1:cmpX x y=-1) (h2:cmpX y z=-1):cmpX x z=-1:=by
 have k:=((cmp_says hx hy).lt h1).and ((cmp_says hy hz).lt h2);have h:=cmp_says hx hz;rcases h.three with e | e | e
 · exact e
 · obtain ⟨n,k1,k2⟩:=k.some;rw [h.eq e] at k1;exact absurd (Rat.le_of_lt k1) (Rat.not_le.2 k2)
 · obtain ⟨n,⟨k1,k2⟩,k3⟩:=(k.and (h.gt e)).some;exact absurd (Rat.le_trans (Rat.le_of_lt k1) (Rat.le_of_lt k2)) (Rat.not_le.2 k3)
def refX (x y:Rl):Int:=cmpF (x.p-y.p) x.s x.a y.s y.a (if x.s=y.s then 2 else -2)
theorem sg2_nought (g e:Rat):sg2 g e 0=sgq g:=by
 unfold sg2;rw [sgq_zero (x:=0) rfl,Int.mul_zero,if_pos (.inr rfl)]
theorem ref_prog {x y:Rl} (hx:x.Ok) (hy:y.Ok):refX x y=cmpX x y:=by
 unfold refX cmpX;by_cases h:x.a=y.a∧x.s=y.s
 · rw [if_pos h];unfold cmpF
   have hr:rts x.s x.a y.s y.a=0:=by
    unfold rts;rw [h.1,h.2,if_neg om,sgq_zero (show y.a-y.a=0 by grind),Int.mul_zero]
   rw [hr,if_pos (.inr rfl)]
 · rw [if_neg h];generalize hd:x.p-y.p=d;by_cases hy0:y.a=0
   · rw [if_pos hy0]
     have hxa:0<x.a∧NSq x.a:=by
      rcases hx.form with ⟨h1,h2⟩ | h1
      · exact k87
      · exact h1
     have hr:rts x.s x.a y.s y.a=x.s:=by
      unfold rts;rw [hy0,sgq_pos hxa.1,sgq_zero (x:=0) rfl];rcases hx.sg with e | e<;>rw [e]<;>simp
     unfold cmpF sos;rw [hr,hy0,show x.a*0=0 from by grind,sg2_nought,show d*d-(x.a+0)=-(x.a-d*d) from by grind,sgq_minus];have hn:=hxa.2 d;rcases hx.sg with e | e<;>rw [e]<;>rcases sgq_three d with ⟨k,f⟩ | ⟨k,f⟩ | ⟨k,f⟩<;>rw [f]<;>rcases sgq_three (x.a-d*d) with ⟨l,g⟩ | ⟨l,g⟩ | ⟨l,g⟩<;>rw [g]<;>first | rfl | decide | (exfalso;grind)
   · rw [if_neg hy0]
     have hya:0<y.a∧NSq y.a:=by
      rcases hy.form with ⟨h1,_⟩ | h1
      · exact absurd h1 hy0
      · exact h1
     by_cases hx0:x.a=0
     · rw [if_pos hx0]
       have hr:rts x.s x.a y.s y.a=-y.s:=by
        unfold rts;rw [hx0,sgq_pos hya.1,sgq_zero (x:=0) rfl];rcases hy.sg with e | e<;>rw [e]<;>simp
       have hd2:y.p-x.p=-d:=by grind
       unfold cmpF sos;rw [hr,hx0,show 0*y.a=0 from by grind,sg2_nought,hd2,sgq_minus,show d*d-(0+y.a)=-(y.a-d*d) from by grind,sgq_minus,show -d*-d=d*d from by grind];have hn:=hya.2 d;rcases hy.sg with e | e<;>rw [e]<;>rcases sgq_three d with ⟨k,f⟩ | ⟨k,f⟩ | ⟨k,f⟩<;>rw [f]<;>rcases sgq_three (y.a-d*d) with ⟨l,g⟩ | ⟨l,g⟩ | ⟨l,g⟩<;>rw [g]<;>first | rfl | decide | (exfalso;grind)
     · rw [if_neg hx0]
       have hxa:0<x.a∧NSq x.a:=by
        rcases hx.form with ⟨h1,_⟩ | h1
        · exact absurd h1 hx0
        · exact h1
       exact (cmp_all hxa.1 hya.1 (hxa.2 d) hx.sg hy.sg).symm
def Rl.of (q:Rat):Rl:=⟨q,0,1⟩
theorem of_ok (q:Rat):(Rl.of q).Ok:=⟨.inl rfl,.inl ⟨rfl,rfl⟩⟩
theorem cmp_of (p q:Rat):cmpX (Rl.of p) (Rl.of q)=sgq (p-q):=by
 unfold cmpX Rl.of;rw [if_pos ⟨rfl,rfl⟩]
theorem cmp_root {x:Rl} (hxa:0<x.a) (q:Rat):cmpX x (Rl.of q)=sos (x.p-q) x.s x.a:=by
 unfold cmpX Rl.of;rw [if_neg (fun h=>by have:=h.1;dsimp only at this;grind),if_pos rfl]
theorem cmp_three {x y:Rl} (hx:x.Ok) (hy:y.Ok):cmpX x y=-1∨cmpX x y=0∨cmpX x y=1:=(cmp_says hx hy).three
theorem cmp_le {x y z:Rl} (hx:x.Ok) (hy:y.Ok) (hz:z.Ok) (h1:cmpX x y≤0) (h2:cmpX y z<0):cmpX x z<0:=by
 rcases cmp_three hx hy with e | e | e
 · rcases cmp_three hy hz with f | f | f
   · have:=cmp_trans hx hy hz e f;omega
   · omega
   · omega
 · rw [(cmp_zero hx hy).1 e];exact h2
 · omega
theorem times_den (q:Rat):q*((q.den:Int):Rat)=(q.num:Rat):=by
 have h:=Rat.num_divInt_den q
 have e:Rat.divInt q.num q.den*Rat.divInt (q.den:Int) 1=Rat.divInt q.num 1:=by
  rw [Rat.divInt_mul_divInt,Rat.divInt_eq_divInt_iff (by have:=q.den_pos;omega) om,Int.mul_one,Int.mul_one]
 rw [h] at e
 have e1:∀ z:Int,Rat.divInt z 1=(z:Rat):=fun z=>by
  rw [show (1:Int)=((1:Nat):Int) from rfl,Rat.divInt_ofNat];exact Rat.mkRat_one z
 rw [e1,e1] at e;exact e
theorem floor_root {p a D:Rat} {s:Int} (hs:s=1∨s=-1) (hn:NSq a) (hD:0<D) {M r F:Rat} {N:Rat} (hM:p*D=M) (hN:a*(D*D)=N) (hr0:0≤r) (hr1:r*r≤N) (hr2:N<(r+1)*(r+1))
  (h1:s=1→F*D≤M+r∧M+r+1≤(F+1)*D) (h2:s=-1→F*D≤M-1-r∧M-r≤(F+1)*D):sos (p-F) s a=1∧sos (p-(F+1)) s a=-1:=by
 obtain ⟨w,hw,ew⟩:=exists_inv hD;have hDD:=Rat.mul_pos hD hD
 -- squares over the denominator
 have up1:∀ z:Rat,(z*D)*(z*D)<N→z*z<a:=fun z h=>by
  by_cases h3:z*z<a
  · exact h3
  · have:=Rat.mul_le_mul_of_nonneg_right (show a≤z*z by grind) (Rat.le_of_lt hDD);grind
 have up2:∀ z:Rat,N<(z*D)*(z*D)→a<z*z:=fun z h=>by
  by_cases h3:a<z*z
  · exact h3
  · have:=Rat.mul_le_mul_of_nonneg_right (show z*z≤a by grind) (Rat.le_of_lt hDD);grind
 have up3:∀ z:Rat,(z*D)*(z*D)≤N→z*z<a:=fun z h=>by
  by_cases h3:z*z<a
  · exact h3
  · have h4:=hn z;have:=mul_lt (show a<z*z by grind) hDD;grind
 have sgn:∀ z:Rat,0<z*D→0<z:=fun z h=>by
  have h9:=Rat.mul_pos h hw;have e:z*D*w=z:=by grind
  rw [e] at h9;exact h9
 unfold sos;rcases hs with rfl | rfl
 · obtain ⟨k1,k2⟩:=h1 rfl;constructor
   · rcases sgq_three (p-F) with ⟨l,e⟩ | ⟨l,e⟩ | ⟨l,e⟩
     · have h3:=Rat.mul_pos (show 0 < -(p-F) by grind) hD;have h4:=sq_le (x:=(p-F)*D) (y:=r) (by grind) (by grind);have h5:=up3 (p-F) (by grind);rw [e,sgq_pos (show 0<a-(p-F)*(p-F) by grind)];decide
     · rw [e,if_pos dc]
     · rw [e,if_pos dc]
   · have h3:(p-(F+1))*D≤-(r+1):=by grind
     have h4:=sq_le (x:=r+1) (y:=-((p-(F+1))*D)) (by grind) (by grind);have h5:=up2 (p-(F+1)) (by grind);have h6:=sgn (-(p-(F+1))) (by grind);rw [sgq_neg (show p-(F+1)<0 by grind),sgq_neg (show a-(p-(F+1))*(p-(F+1))<0 by grind)];decide
 · obtain ⟨k1,k2⟩:=h2 rfl;constructor
   · have h3:r+1≤(p-F)*D:=by grind
     have h4:=sq_le (x:=r+1) (y:=(p-F)*D) (by grind) (by grind);have h5:=up2 (p-F) (by grind);have h6:=sgn (p-F) (by grind);rw [sgq_pos h6,sgq_neg (show a-(p-F)*(p-F)<0 by grind)];decide
   · rcases sgq_three (p-(F+1)) with ⟨l,e⟩ | ⟨l,e⟩ | ⟨l,e⟩
     · rw [e,if_pos dc]
     · rw [e,if_pos dc]
     · have h3:=Rat.mul_pos l hD;have h4:=sq_le (x:=(p-(F+1))*D) (y:=r) (by grind) (by grind);have h5:=up3 (p-(F+1)) (by grind);rw [e,sgq_pos (show 0<a-(p-(F+1))*(p-(F+1)) by grind)];decide
theorem gap {X Y M δ:Rat} (hδ:0<δ) (hY:0≤Y) (hX:0≤X) (h:δ≤X*X-Y*Y) (hXM:X≤M) {w:Rat} (ew:(2*M)*w=1):δ*w≤X-Y:=by
 have hXY:0<X-Y:=by
  by_cases h1:Y<X
  · grind
  · have:=sq_le (x:=X) (y:=Y) (by grind) (by grind);grind
 by_cases h2:δ*w≤X-Y
 · exact h2
 · exfalso;have h3:=Rat.mul_le_mul_of_nonneg_left (show X+Y≤2*M by grind) (Rat.le_of_lt hXY);have h4:(X-Y)*(X+Y)=X*X-Y*Y:=by grind
   have h5:=Rat.mul_pos (show 0<2*M by grind) (show 0<δ*w-(X-Y) by grind);have h6:2*M*(δ*w)=δ:=by grind
   grind
theorem row_bound {a:Rat} (ha:0<a) (d:Rat) {s:Int} (hs:s=1∨s=-1) (n:Nat):d+(s:Rat)*up a n≤(d*d+1)+a+2∧-((d*d+1)+a+2)≤d+(s:Rat)*up a n:=by
 have h1:=up_le ha n;have h2:=(up_spec ha n).1
 have h3:d≤d*d+1∧-(d*d+1)≤d:=by
  have e1:0≤(d-1)*(d-1):=by
   by_cases h:d-1=0
   · rw [h];grind
   · exact Rat.le_of_lt (sq_pos' h)
  have e2:0≤(d+1)*(d+1):=by
   by_cases h:d+1=0
   · rw [h];grind
   · exact Rat.le_of_lt (sq_pos' h)
  have e3:0≤d*d:=by
   exact k60
  constructor<;>grind
 rcases hs with rfl | rfl
 · show d+(1:Rat)*up a n≤_∧_≤d+(1:Rat)*up a n;constructor<;>grind
 · show d+(-1:Rat)*up a n≤_∧_≤d+(-1:Rat)*up a n;constructor<;>grind
theorem cmp_gap {d a b:Rat} (ha:0<a) (hb:0<b) (na:NSq a) {s t:Int} (hs:s=1∨s=-1) (ht:t=1∨t=-1) (hc:cmpP d s a t b=-1):∃ δ:Rat,0<δ∧Ev (fun n=>d+(s:Rat)*up a n-(t:Rat)*up b n≤-δ):=by
 have hss:=pm_sq hs;rw [cmpP_eq ha hs] at hc
 have hn0:sg2 d (s:Rat) a≠0:=fun e=>by
  exact k66
 have hM:0<(d*d+1)+a+2+(b+2):=by
  have e3:0≤d*d:=by
   exact k60
  grind
 have e3:0≤d*d:=by
  exact k60
 obtain ⟨w,hw,ew⟩:=exists_inv (show 0<2*((d*d+1)+a+2+(b+2)) by grind);by_cases h:sg2 d (s:Rat) a=t
 · rw [if_neg (show ¬(sg2 d (s:Rat) a≠t) by omega)] at hc;have hsq:∀ n,(d+(s:Rat)*up a n)*(d+(s:Rat)*up a n)-up b n*up b n=(d*d+a-b+2*d*(s:Rat)*up a n)+(up a n*up a n-a)-(up b n*up b n-b):=fun n=>by grind
   rcases ht with rfl | rfl
   · obtain ⟨δ,k1,k2⟩:=ev_neg ha (show sg2 (d*d+a-b) (2*d*(s:Rat)) a=-1 by omega);obtain ⟨δ',k1',k2'⟩:=ev_pos ha h;refine ⟨δ / 2*w,Rat.mul_pos (by grind) hw,((k2.and (up_close ha (ε:=δ / 2) (by grind))).and k2').mono fun n hn=>?_⟩;exact k59
   · obtain ⟨δ,k1,k2⟩:=ev_pos ha (show sg2 (d*d+a-b) (2*d*(s:Rat)) a=1 by omega);obtain ⟨δ',k1',k2'⟩:=ev_neg ha h;refine ⟨δ / 2*w,Rat.mul_pos (by grind) hw,((k2.and (up_close hb (ε:=δ / 2) (by grind))).and k2').mono fun n hn=>?_⟩;exact k55
 · rw [if_pos h] at hc;obtain ⟨δ,k1,k2⟩:=ev_neg ha hc;have ht2:t=1:=om;subst ht2;refine ⟨δ,k1,k2.mono fun n hn=>?_⟩;show d+(s:Rat)*up a n-(1:Rat)*up b n≤-δ;have:=(up_spec hb n).1;grind
theorem up_cauchy {a:Rat} (ha:0<a) {ε:Rat} (hε:0<ε):∃ N,∀ n m,N≤n→N≤m→up a n-up a m≤ε:=by
 obtain ⟨c,hc,hcu⟩:=up_ge ha;obtain ⟨N,hN⟩:=up_close ha (ε:=ε*c) (Rat.mul_pos hε hc);refine ⟨N,fun n m hn hm=>?_⟩;have h1:=hN n hn;obtain ⟨k1,k2,_⟩:=up_spec ha n;obtain ⟨l1,l2,_⟩:=up_spec ha m;have h2:=hcu n;by_cases h3:up a n-up a m≤ε
 · exact h3
 · exfalso;have h4:=Rat.mul_pos (show 0<up a n-up a m-ε by grind) (show 0<up a n+up a m by grind);have h5:(up a n-up a m)*(up a n+up a m)=up a n*up a n-up a m*up a m:=by grind
   have h6:=Rat.mul_le_mul_of_nonneg_left (show c≤up a n+up a m by grind) (Rat.le_of_lt hε);grind
theorem cmp_far {x y:Rl} (hx:x.Ok) (hy:y.Ok) (h:cmpX x y=-1):∃ δ:Rat,0<δ∧Ev (fun n=>x.val n-y.val n≤-δ):=by
 unfold cmpX at h;by_cases h1:x.a=y.a∧x.s=y.s
 · rw [if_pos h1] at h;have hv:∀ n,x.val n-y.val n=x.p-y.p:=fun n=>by unfold Rl.val;rw [h1.1,h1.2];grind
   rcases sgq_three (x.p-y.p) with ⟨k,e⟩ | ⟨k,e⟩ | ⟨k,e⟩
   · exact ⟨-(x.p-y.p),by grind,Ev.all fun n=>by rw [hv n];grind⟩
   · omega
   · omega
 · rw [if_neg h1] at h
   have pos:∀ {z:Rl},z.Ok→z.a≠0→0<z.a∧NSq z.a:=fun {z} hz hn=>by
    rcases hz.form with ⟨e,_⟩ | e
    · exact absurd e hn
    · exact e
   by_cases hy0:y.a=0
   · rw [if_pos hy0] at h
     have hx0:x.a≠0:=fun hx0=>by
      exact k82
     obtain ⟨ha,_⟩:=pos hx hx0;rw [sos_any ha hx.sg] at h;obtain ⟨δ,k1,k2⟩:=ev_neg ha h;refine ⟨δ,k1,k2.mono fun n hn=>?_⟩;unfold Rl.val;rw [hy0,up_zero];grind
   · rw [if_neg hy0] at h;obtain ⟨hb,nb⟩:=pos hy hy0;by_cases hx0:x.a=0
     · rw [if_pos hx0,sos_any hb hy.sg] at h;obtain ⟨δ,k1,k2⟩:=ev_pos hb (show sg2 (y.p-x.p) (y.s:Rat) y.a=1 by omega);refine ⟨δ,k1,k2.mono fun n hn=>?_⟩;unfold Rl.val;rw [hx0,up_zero];grind
     · rw [if_neg hx0] at h;obtain ⟨ha,na⟩:=pos hx hx0;obtain ⟨δ,k1,k2⟩:=cmp_gap ha hb na hx.sg hy.sg h;refine ⟨δ,k1,k2.mono fun n hn=>?_⟩;unfold Rl.val;grind
theorem cmp_of_ev {x y:Rl} (hx:x.Ok) (hy:y.Ok) (h:Ev (fun n=>x.val n<y.val n)):cmpX x y=-1:=by
 have s:=cmp_says hx hy;rcases s.three with e | e | e
 · exact e
 · obtain ⟨n,hn⟩:=h.some;rw [s.eq e] at hn;grind
 · obtain ⟨n,hn,hn2⟩:=(h.and (s.gt e)).some;grind
theorem val_cauchy {x:Rl} (hx:x.Ok) {ε:Rat} (hε:0<ε):∃ N,∀ n m,N≤n→N≤m→x.val n-x.val m≤ε:=by
 rcases hx.form with ⟨e,_⟩ | ⟨ha,_⟩
 · refine ⟨0,fun n m _ _=>?_⟩;unfold Rl.val;rw [e,up_zero,up_zero];grind
 · obtain ⟨N,hN⟩:=up_cauchy ha hε;refine ⟨N,fun n m hn hm=>?_⟩;have h1:=hN n m hn hm;have h2:=hN m n hm hn;unfold Rl.val;rcases hx.sg with e | e<;>rw [e]
   · show x.p+(1:Rat)*_-(x.p+(1:Rat)*_)≤ε;grind
   · show x.p+(-1:Rat)*_-(x.p+(-1:Rat)*_)≤ε;grind
theorem val_of (q:Rat) (n:Nat):(Rl.of q).val n=q:=by
 unfold Rl.val Rl.of;show q+_*up 0 n=q;rw [up_zero];grind
theorem dense {x y:Rl} (hx:x.Ok) (hy:y.Ok) (h:cmpX x y=-1):∃ q:Rat,cmpX x (Rl.of q)=-1∧cmpX (Rl.of q) y=-1:=by
 obtain ⟨δ,hδ,N,hN⟩:=cmp_far hx hy h;obtain ⟨A,hA⟩:=val_cauchy hx (ε:=δ / 4) (by grind);obtain ⟨B,hB⟩:=val_cauchy hy (ε:=δ / 4) (by grind);have k:=hN (N+A+B) om;refine ⟨(x.val (N+A+B)+y.val (N+A+B)) / 2,cmp_of_ev hx (of_ok _) ⟨N+A+B,fun n hn=>?_⟩,cmp_of_ev (of_ok _) hy ⟨N+A+B,fun n hn=>?_⟩⟩
 · have h1:=hA n (N+A+B) om om;have h2:=val_of ((x.val (N+A+B)+y.val (N+A+B)) / 2) n;dsimp only at k ⊢;grind
 · have h1:=hB (N+A+B) n om om;have h2:=val_of ((x.val (N+A+B)+y.val (N+A+B)) / 2) n;dsimp only at k ⊢;grind
theorem sg2_pp {A B C D a:Rat} (ha:0<a) (hn:NSq a) (h1:sg2 A B a=1) (h2:sg2 C D a=1):sg2 (A*C+B*D*a) (A*D+B*C) a=1:=by
 obtain ⟨δ,k1,k2⟩:=ev_pos ha h1;obtain ⟨γ,l1,l2⟩:=ev_pos ha h2;have hp:=Rat.mul_pos k1 l1
 have e0:0≤(B*D)*(B*D):=by
  by_cases h:B*D=0
  · rw [h];grind
  · exact Rat.le_of_lt (sq_pos' h)
 obtain ⟨w,hw,ew⟩:=exists_inv (show 0<2*((B*D)*(B*D)+1) by grind);have hb:=(up_close ha (ε:=δ*γ*w) (Rat.mul_pos hp hw))
 have key:Ev (fun n=>δ*γ / 2≤(A*C+B*D*a)+(A*D+B*C)*up a n):=by
  refine ((k2.and l2).and hb).mono fun n hn=>?_
  obtain ⟨⟨m1,m2⟩,m3⟩:=hn;have m4:=(up_spec ha n).2.1
  have e1:B*D≤(B*D)*(B*D)+1∧0<(B*D)*(B*D)+1:=by
   have:0≤(B*D-1)*(B*D-1):=by
    by_cases h:B*D-1=0
    · rw [h];grind
    · exact Rat.le_of_lt (sq_pos' h)
   constructor<;>grind
  have e2:=Rat.mul_le_mul_of_nonneg_left e1.1 (show 0≤up a n*up a n-a by grind);have e3:=Rat.mul_le_mul_of_nonneg_left (show up a n*up a n-a≤δ*γ*w by grind) (Rat.le_of_lt e1.2);have e4:=Rat.mul_le_mul_of_nonneg_left m2 (show 0≤A+B*up a n by grind);have e5:=Rat.mul_le_mul_of_nonneg_right m1 (Rat.le_of_lt l1);have e6:((B*D)*(B*D)+1)*(δ*γ*w)=δ*γ / 2:=by grind
  have e7:(A*C+B*D*a)+(A*D+B*C)*up a n=(A+B*up a n)*(C+D*up a n)-(up a n*up a n-a)*(B*D):=by grind
  have e8:=Rat.le_trans e5 e4;rw [e6] at e3;rw [e7];grind
 rcases sg2_three (A*C+B*D*a) (A*D+B*C) a with e | e | e
 · exfalso;obtain ⟨η,o1,o2⟩:=ev_neg ha e;obtain ⟨n,n1,n2⟩:=(key.and o2).some;grind
 · exfalso;obtain ⟨z1,z2⟩:=sg2_ns ha hn e;obtain ⟨n,n1⟩:=key.some;rw [z1,z2] at n1;grind
 · exact e
theorem sg2_mul {A B C D a:Rat} (ha:0<a) (hn:NSq a):sg2 (A*C+B*D*a) (A*D+B*C) a=sg2 A B a*sg2 C D a:=by
 have neg:∀ {A B:Rat},sg2 A B a=-1→sg2 (-A) (-B) a=1:=fun {A B} h=>by rw [sg2_neg,h];rfl
 rcases sg2_three A B a with e | e | e
 · rcases sg2_three C D a with f | f | f
   · have h:=sg2_pp ha hn (neg e) (neg f);rw [show -A*-C+-B*-D*a=A*C+B*D*a by grind,show -A*-D+-B*-C=A*D+B*C by grind] at h;rw [e,f,h]
     rfl
   · exact k99
   · have h:=sg2_pp ha hn (neg e) f;rw [show -A*C+-B*D*a=-(A*C+B*D*a) by grind,show -A*D+-B*C=-(A*D+B*C) by grind,sg2_neg] at h;rw [e,f];omega
 · obtain ⟨z1,z2⟩:=sg2_ns ha hn e;subst z1 z2;rw [show 0*C+0*D*a=0 by grind,show 0*D+0*C=(0:Rat) by grind,e,Int.zero_mul]
 · rcases sg2_three C D a with f | f | f
   · have h:=sg2_pp ha hn e (neg f);rw [show A*-C+B*-D*a=-(A*C+B*D*a) by grind,show A*-D+B*-C=-(A*D+B*C) by grind,sg2_neg] at h;rw [e,f];omega
   · exact k99
   · rw [e,f,sg2_pp ha hn e f]
     rfl
theorem sg2_cc {A B a c:Rat} (ha:0<a) (hc:0<c):sg2 A B (a*(c*c))=sg2 A (B*c) a:=by
 have h1:sgq (a*(c*c))=1:=sgq_pos (Rat.mul_pos ha (Rat.mul_pos hc hc))
 have h2:sgq (B*c)=sgq B:=by
  rcases sgq_three B with ⟨k,e⟩ | ⟨k,e⟩ | ⟨k,e⟩<;>rw [e]
  · have:=Rat.mul_pos (show 0 < -B by grind) hc;exact sgq_neg (by grind)
  · exact sgq_zero (by rw [k];grind)
  · exact sgq_pos (Rat.mul_pos k hc)
 unfold sg2;rw [h1,h2,sgq_pos ha,show A*A-B*c*(B*c)*a=A*A-B*B*(a*(c*c)) by grind]
theorem sg2_by {A B a c:Rat} (ha:0<a) (hn:NSq a) (hc:0<c):sg2 (c*A) (c*B) a=sg2 A B a:=by
 have h:=sg2_mul (A:=A) (B:=B) (C:=c) (D:=0) ha hn;rw [show A*c+B*0*a=c*A by grind,show A*0+B*c=c*B by grind] at h;rw [h]
 have e:sg2 c 0 a=1:=by
  unfold sg2;rw [sgq_zero (x:=0) rfl,Int.zero_mul,sgq_pos hc]
  rfl
 rw [e,Int.mul_one]
theorem cmp_sg2 {x:Rl} (hx:x.Ok) (hxa:0<x.a) (q:Rat):cmpX x (Rl.of q)=sg2 (x.p-q) (x.s:Rat) x.a:=by
 rw [cmp_root hxa,sos_any hxa hx.sg]
def Rl.inv (x:Rl) (m:Rat):Rl:=⟨x.p*m,x.a*(m*m),if 0<m then -x.s else x.s⟩
theorem inv_cmp {x:Rl} (hx:x.Ok) (hxa:0<x.a) (hn:NSq x.a) (h0:cmpX x (Rl.of 0)=1) {m:Rat} (hm:(x.p*x.p-x.a)*m=1) {q u:Rat} (hu:0<u) (hq:u*q=1) :
  cmpX (x.inv m) (Rl.of u)=- cmpX x (Rl.of q):=by
 have hm0:m≠0:=fun e=>by rw [e] at hm;grind
 have hss:=pm_sq hx.sg;have hR:0<(x.inv m).a:=Rat.mul_pos hxa (sq_pos' hm0)
 have key:cmpX (x.inv m) (Rl.of u)=sg2 (x.p*m-u) (-((x.s:Rat)*m)) x.a:=by
  rw [cmp_root hR];by_cases hp:0<m
  · have e:(x.inv m).s=-x.s:=if_pos hp;have h2:(x.inv m).s=1∨(x.inv m).s=-1:=by have:=hx.sg;omega
    rw [sos_any hR h2,e];show sg2 (x.p*m-u) ((-x.s:Int):Rat) (x.a*(m*m))=_;rw [sg2_cc hxa hp,Rat.intCast_neg,Rat.neg_mul]
  · have e:(x.inv m).s=x.s:=if_neg hp;rw [sos_any hR (by rw [e];exact hx.sg),e];show sg2 (x.p*m-u) (x.s:Rat) (x.a*(m*m))=_;rw [show x.a*(m*m)=x.a*(-m*-m) by grind,sg2_cc hxa (by grind),Rat.mul_neg]
 have h1:=sg2_mul (A:=x.p*m-u) (B:=-((x.s:Rat)*m)) (C:=x.p) (D:=(x.s:Rat)) hxa hn
 have e0:sg2 x.p (x.s:Rat) x.a=1:=by
  rw [cmp_sg2 hx hxa] at h0;rw [←h0]
  congr 1
  grind
 rw [e0,Int.mul_one,←key] at h1;rw [←h1,cmp_sg2 hx hxa,←sg2_neg,←sg2_by (A:=-(x.p-q)) hxa hn hu]
 congr 1<;>grind
def Rl.add (x:Rl) (r:Rat):Rl:=⟨x.p+r,x.a,x.s⟩
theorem add_cmp (x y:Rl) (r:Rat):cmpX (x.add r) (y.add r)=cmpX x y:=by
 unfold cmpX Rl.add;dsimp only;rw [show x.p+r-(y.p+r)=x.p-y.p by grind,show y.p+r-(x.p+r)=y.p-x.p by grind]
theorem add_ok {x:Rl} (hx:x.Ok) (r:Rat):(x.add r).Ok:=⟨hx.sg,hx.form⟩
theorem add_of (q r:Rat):(Rl.of q).add r=Rl.of (q+r):=rfl
theorem inv_ok {x:Rl} (hx:x.Ok) (hxa:0<x.a) (hn:NSq x.a) {m:Rat} (hm0:m≠0):(x.inv m).Ok:=by
 refine ⟨?_,.inr ⟨Rat.mul_pos hxa (sq_pos' hm0),fun z hz=>?_⟩⟩
 · show (if 0<m then -x.s else x.s)=1∨(if 0<m then -x.s else x.s)=-1;have:=hx.sg
   split<;>omega
 · obtain ⟨w,hw⟩:∃ w:Rat,m*w=1:=⟨m⁻¹,Rat.mul_inv_cancel _ hm0⟩
   refine hn (z*w) ?_;have:z*z=x.a*(m*m):=hz;grind
theorem of_lt {a b:Rat}:cmpX (Rl.of a) (Rl.of b)=-1↔a<b:=by
 exact k111
theorem of_le {a b:Rat}:cmpX (Rl.of a) (Rl.of b)≤0↔a≤b:=by
 exact k111
theorem lt_le {x y z:Rl} (hx:x.Ok) (hy:y.Ok) (hz:z.Ok) (h1:cmpX x y=-1) (h2:cmpX y z≤0):cmpX x z=-1:=by
 rcases cmp_three hy hz with e | e | e
 · exact cmp_trans hx hy hz h1 e
 · rw [←(cmp_zero hy hz).1 e];exact h1
 · omega
theorem le_lt {x y z:Rl} (hx:x.Ok) (hy:y.Ok) (hz:z.Ok) (h1:cmpX x y≤0) (h2:cmpX y z=-1):cmpX x z=-1:=by
 have:=cmp_le hx hy hz h1 om;have:=cmp_three hx hz;omega
structure InvR (x z:Rl):Prop where
 ok:z.Ok
 pos:cmpX (Rl.of 0) z=-1
 cmp:∀ q u:Rat,0<u→u*q=1→cmpX z (Rl.of u)=- cmpX x (Rl.of q)
theorem invR_of {p u:Rat} (hp:0<p) (h:p*u=1):InvR (Rl.of p) (Rl.of u):=by
 have hu:0<u:=by
  by_cases h1:0<u
  · exact h1
  · have:=Rat.mul_le_mul_of_nonneg_left (show u≤0 by grind) (Rat.le_of_lt hp);grind
 refine ⟨of_ok _,of_lt.2 hu,fun q v hv hq=>?_⟩;rw [cmp_of,cmp_of];have e1:u-v=(u*v)*(q-p):=by grind
 have huv:=Rat.mul_pos hu hv;rcases sgq_three (p-q) with ⟨k,e⟩ | ⟨k,e⟩ | ⟨k,e⟩<;>rw [e]
 · have:=Rat.mul_pos huv (show 0<q-p by grind);rw [sgq_pos (by grind)]
   rfl
 · rw [sgq_zero (by rw [e1,show q-p=0 by grind];grind)]
   rfl
 · have:=Rat.mul_pos huv (show 0<p-q by grind);rw [sgq_neg (by grind)]
theorem invR_root {x:Rl} (hx:x.Ok) (hxa:0<x.a) (hn:NSq x.a) (h0:cmpX x (Rl.of 0)=1) {m:Rat} (hm:(x.p*x.p-x.a)*m=1):InvR x (x.inv m):=by
 have hm0:m≠0:=fun e=>by rw [e] at hm;grind
 have hz:=inv_ok hx hxa hn hm0;refine ⟨hz,?_,fun q u hu hq=>inv_cmp hx hxa hn h0 hm hu hq⟩
 -- a fraction above x
 have hxa2:=fun n=>up_le hxa n
 let b:Rat:=x.p*x.p+x.a+4
 have hb:0<b∧x.p+x.a+2≤b:=by
  have e1:∀ t:Rat,0≤t*t:=fun t=>by
   by_cases h:t=0
   · rw [h];grind
   · exact Rat.le_of_lt (sq_pos' h)
  have:=e1 x.p;have:=e1 (x.p-1);show 0<x.p*x.p+x.a+4∧x.p+x.a+2≤x.p*x.p+x.a+4;constructor<;>grind
 obtain ⟨w,hw,ew⟩:=exists_inv hb.1
 have h1:cmpX x (Rl.of b)=-1:=by
  refine cmp_of_ev hx (of_ok _) (Ev.all fun n=>?_);rw [val_of];unfold Rl.val;have h3:=hxa2 n;have h4:=(up_spec hxa n).1;rcases hx.sg with e | e<;>rw [e]
  · show x.p+(1:Rat)*_<b;grind
  · show x.p+(-1:Rat)*_<b;grind
 have h2:=inv_cmp hx hxa hn h0 hm hw (q:=b) (by grind);rw [h1] at h2;have h3:cmpX (Rl.of w) (x.inv m)=-1:=by rw [cmp_anti hz (of_ok w),h2];rfl
 exact cmp_trans (of_ok _) (of_ok _) hz (of_lt.2 hw) h3
structure In (x y:Rl) (p q:Nat):Prop where
 den:0<q
 low:cmpX x (Rl.of ((p:Rat) / (q:Rat)))=-1
 high:cmpX (Rl.of ((p:Rat) / (q:Rat))) y=-1
inductive Run (iv:Rl→Rl):Rl→Rl→Nat→Nat→Prop
 | top {x y:Rl} (f:Nat) (h1:cmpX (Rl.of (f:Rat)) x≤0) (h2:cmpX x (Rl.of ((f:Rat)+1))=-1) (h3:cmpX y (Rl.of ((f:Rat)+1))=1):Run iv x y (f+1) 1
 | turn {x y : Rl} {n m : Nat} (f : Nat) (h1 : cmpX (Rl.of (f : Rat)) x ≤ 0) (h2 : cmpX x (Rl.of ((f : Rat) + 1)) = -1) (h3 : cmpX y (Rl.of ((f : Rat) + 1)) ≠ 1) (h4 : x.add (-(f : Rat)) ≠ Rl.of 0)
    (h5:Run iv (iv (y.add (-(f:Rat)))) (iv (x.add (-(f:Rat)))) n m):Run iv x y (f*n+m) n
 | zero {x y : Rl} {n m : Nat} (f : Nat) (h1 : cmpX (Rl.of (f : Rat)) x ≤ 0) (h2 : cmpX x (Rl.of ((f : Rat) + 1)) = -1) (h3 : cmpX y (Rl.of ((f : Rat) + 1)) ≠ 1) (h4 : x.add (-(f : Rat)) = Rl.of 0)
    (h5:Run iv (iv (y.add (-(f:Rat)))) ((iv (y.add (-(f:Rat)))).add 2) n m):Run iv x y (f*n+m) n
theorem cast_pos {q:Nat} (h:0<q):(0:Rat)<(q:Rat):=Rat.natCast_lt_natCast.2 h
theorem div_mul {p q:Rat} (h:0<q):p / q*q=p:=by
 rw [Rat.div_def,Rat.mul_assoc,Rat.inv_mul_cancel _ (by grind),Rat.mul_one]
theorem lt_div {f p q:Nat} (hq:0<q):(f:Rat)<(p:Rat) / (q:Rat)↔f*q<p:=by
 have h0:=cast_pos hq;have h1:=div_mul (p:=(p:Rat)) h0;rw [←Rat.natCast_lt_natCast,Rat.natCast_mul];constructor
 · intro h;have:=Rat.mul_pos (show 0<(p:Rat) / (q:Rat)-(f:Rat) by grind) h0;grind
 · intro h;by_cases h2:(f:Rat)<(p:Rat) / (q:Rat)
   · exact h2
   · have:=Rat.mul_le_mul_of_nonneg_right (show (p:Rat) / (q:Rat)≤(f:Rat) by grind) (Rat.le_of_lt h0);grind
theorem div_lt {f p q:Nat} (hq:0<q):(p:Rat) / (q:Rat)<(f:Rat)↔p<f*q:=by
 have h0:=cast_pos hq;have h1:=div_mul (p:=(p:Rat)) h0;rw [←Rat.natCast_lt_natCast,Rat.natCast_mul];constructor
 · intro h;have:=Rat.mul_pos (show 0<(f:Rat)-(p:Rat) / (q:Rat) by grind) h0;grind
 · intro h;by_cases h2:(p:Rat) / (q:Rat)<(f:Rat)
   · exact h2
   · have:=Rat.mul_le_mul_of_nonneg_right (show (f:Rat)≤(p:Rat) / (q:Rat) by grind) (Rat.le_of_lt h0);grind
theorem floor_ex {x:Rl} (hx:x.Ok) (h0:cmpX (Rl.of 0) x≤0) (k:Nat) (hk:cmpX x (Rl.of ((k:Rat)+1))=-1):∃ f:Nat,cmpX (Rl.of (f:Rat)) x≤0∧cmpX x (Rl.of ((f:Rat)+1))=-1:=by
 induction k with
 | zero=>exact ⟨0,h0,hk⟩
 | succ k ih =>
   by_cases h:cmpX x (Rl.of ((k:Rat)+1))=-1
   · exact ih h
   · refine ⟨k+1,?_,hk⟩;have h1:=cmp_three hx (of_ok ((k:Rat)+1));have h2:=cmp_anti hx (of_ok ((k:Rat)+1));have h3:((k+1:Nat):Rat)=(k:Rat)+1:=by rw [Rat.natCast_add];rfl
     rw [h3,h2];omega
end Go.Proofs.YtpnokfgplnmjpaaGreatDoor.Sg
