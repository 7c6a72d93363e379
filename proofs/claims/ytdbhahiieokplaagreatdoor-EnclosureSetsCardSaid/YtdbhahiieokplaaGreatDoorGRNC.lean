import Derived.Test.YtdbhahiieokplaaGreatDoorGSgQ
import Derived.Deep.RegionHeld3
import Derived.Deep.DrawnRows
import Derived.Deep.QuietTactic
import Derived.BigQuiet
set_option linter.unusedSimpArgs false
set_option linter.unusedVariables false

namespace Go.Proofs.YtdbhahiieokplaaGreatDoor
open Go.RowKit
attribute [local go_sem ↓] Go.wp_at_zero Go.wp_at_succ

theorem RetZ.form {w:World} {z:Int} {e:Ending} {w':World} (h:RetZ w z e w'):∃ b m,Hid (enc z=.agg #[.bool b,.string m])∧e=.returned (.agg #[.bool b,.string m])∧Below w.heap.size w w':=⟨_,_,rfl,h.1,h.2⟩

theorem heap_fst (w:World) (o o':Obj):((w.alloc o).alloc o').heap[w.heap.size]?=some o:=(Below.heap_alloc _ _ _ (by simp)).trans (heap_one w o)

theorem nat_bits (a:Nat) (ha:a<18446744073709551616):(BitVec.ofInt 64 (a:Int)).toNat=a:=by
 rw [BitVec.ofInt_natCast,BitVec.toNat_ofNat];exact Nat.mod_eq_of_lt (by omega)

theorem bits_or_u64 (a b:Nat) (ha:a<18446744073709551616) (hb:b<18446744073709551616):bits .or .u64 (a:Int) (b:Int)=((a ||| b:Nat):Int):=by
 have hx:a ||| b<2^64:=Nat.or_lt_two_pow (by omega) (by omega)
 show IntKind.u64.wrap ((BitVec.ofInt 64 (a:Int) ||| BitVec.ofInt 64 (b:Int)).toNat:Int)=_
 rw [BitVec.toNat_or,nat_bits a ha,nat_bits b hb,IntKind.wrap_u64]
 omega

theorem or_byte (v c:Nat) (hv:v<72057594037927936) (hc:c<256):bits .or .u64 (IntKind.u64.wrap ((v:Int)*256)) (IntKind.u64.wrap (c:Int))=((v*256+c:Nat):Int):=by
 have e1:IntKind.u64.wrap ((v:Int)*256)=((2^8*v:Nat):Int):=by rw [IntKind.wrap_u64];omega
 have e2:IntKind.u64.wrap (c:Int)=(c:Int):=by rw [IntKind.wrap_u64];omega
 rw [e1,e2,bits_or_u64 _ _ (by omega) (by omega),←Nat.two_pow_add_eq_or_of_lt (by omega)]
 omega

def pre (s:ByteArray) (k:Nat):Nat:=bval s / 256^(s.size-k)

theorem pre_zero (s:ByteArray):pre s 0=0:=by
 unfold pre
 rw [Nat.sub_zero]
 exact Nat.div_eq_of_lt (bval_lt s)
theorem pre_all (s:ByteArray):pre s s.size=bval s:=by simp [pre]
theorem pre_lt (s:ByteArray) (k:Nat) (hk:k≤s.size):pre s k<256^k:=by
 unfold pre
 apply Nat.div_lt_of_lt_mul
 rw [←Nat.pow_add,Nat.sub_add_cancel hk]
 exact bval_lt s
theorem pre_succ (s:ByteArray) (k:Nat) (hk:k<s.size):pre s (k+1)=pre s k*256+(s[k]).toNat:=by
 have h:=div_D 256 (bval s) (s.size-(k+1))
 rw [show s.size-(k+1)+1=s.size-k by omega,←dig_eq] at h
 have hd:dig s (s.size-(k+1))=(s[k]).toNat:=by
  unfold dig
  rw [dif_pos (by omega)]
  congr 2
  omega
 rw [hd] at h
 unfold pre
 omega

theorem pow256_7 {k:Nat} (h:k≤7):(256:Nat)^k≤72057594037927936:=Nat.pow_le_pow_right (n:=256) (by omega) h

set_option maxHeartbeats 1000000 in
set_option maxRecDepth 100000 in
theorem word_any (s:ByteArray) (hs:s.size≤8) (w:World) :
  Calls Tryz.prog 164 #[.string s] w (RetV w (.int .u64 (bval s:Nat))):=by
 go_enter Tryz.func164,Tryz.ntmps164
 go_wp2
 go_loop [3,7] (fun v i=>∃ k:Nat,k≤s.size∧i=.int .i64 k∧v=.int .u64 (pre s k:Nat)) (fun _ i=>s.size-(intOf i).toNat)
 case atStart=>exact ⟨0,by omega,rfl,by rw [pre_zero];rfl⟩
 case round =>
  obtain ⟨k,hk,rfl,rfl⟩:=hrel
  by_cases hlt:k<s.size
  · go_wp2
    go_round
    case rel=>exact ⟨k+1,by omega,by go_num,by rw [or_byte _ _ (Nat.lt_of_lt_of_le (pre_lt s k hk) (pow256_7 (by omega))) (UInt8.toNat_lt _),pre_succ s k hlt]⟩
    case measure=>simp [intOf];omega
  · obtain rfl:k=s.size:=by omega
    go_wp2
    go_ret
    exact ⟨by rw [pre_all];rfl,rfl⟩

def RetW (W:World) (X Y:Nat) (ok:Bool) (e:Ending) (w':World):Prop:=e=.returned (.tuple #[.int .u64 (X:Int),.int .u64 (Y:Int),.bool ok])∧Below W.heap.size W w'

set_option maxHeartbeats 1000000 in
set_option maxRecDepth 100000 in
theorem words_yes (na nb:Bool) (a b:ByteArray) (ha:a.size≤8) (hb:b.size≤8) (w:World) :
  Calls Tryz.prog 137 #[.agg #[.bool na,.string a],.agg #[.bool nb,.string b]] w (RetW w (bval a) (bval b) true):=by
 go_enter Tryz.func137,Tryz.ntmps137
 go_wp2
 go_quiet ((go_at_call 164;exact quietV (word_any _ (by assumption) _)))
 go_wp2
 go_ret3
 exact ⟨rfl,below_draws (((Below.refl _ _).alloc (Nat.le_refl _) _).alloc (by simp) _) _⟩

set_option maxHeartbeats 1000000 in
set_option maxRecDepth 100000 in
theorem words_no (na nb:Bool) (a b:ByteArray) (h:8<a.size∨8<b.size) (w:World) :
  Calls Tryz.prog 137 #[.agg #[.bool na,.string a],.agg #[.bool nb,.string b]] w (RetW w 0 0 false):=by
 by_cases h1:8<a.size
 all_goals
  go_enter Tryz.func137,Tryz.ntmps137
  go_wp2
  go_ret3
  exact ⟨rfl,((Below.refl _ _).alloc (Nat.le_refl _) _).alloc (by simp) _⟩
end Go.Proofs.YtdbhahiieokplaaGreatDoor


namespace Go.Proofs.YtdbhahiieokplaaGreatDoor
open Go.RowKit

theorem car_pos_le {b n m X Y k:Nat} (hb:2≤b) (hX:X<b^n) (hY:Y<b^m) (h:0<car b X 1 Y k):k≤n∨k≤m:=by
 rcases Nat.lt_or_ge n k with h1 | h1
 · rcases Nat.lt_or_ge m k with h2 | h2
   · exfalso
     have p1:b^n≤b^(k-1):=Nat.pow_le_pow_right (by omega) (by omega)
     have p2:b^m≤b^(k-1):=Nat.pow_le_pow_right (by omega) (by omega)
     have p3:b^k=b^(k-1)*b:=by rw [←Nat.pow_succ];congr 1;omega
     have p4:b^(k-1)*2≤b^(k-1)*b:=Nat.mul_le_mul_left _ hb
     rw [car_end (by omega) (by omega),Nat.div_eq_of_lt (by omega)] at h
     omega
   · exact .inr h2
 · exact .inl h1

theorem own_next {w1:World} {base:Nat} {E:TypeId} {K:IntKind} {v:Value} {k:Nat} {f:Nat→Nat} {d:Nat} (h:w1.ownsRow base E 1 v (k+1) (nums K f k++[.int K (d:Int)])) (hd:d=f k):w1.ownsRow base E 1 v (k+1) (nums K f (k+1)):=by
 rw [nums_succ,←hd];exact h

theorem one_cell {w:World} {u v:Value} {t:TypeId}:∀ j x,[v][j]?=some x→u=v→(w.alloc (.cells #[u] t)).cell? ((⟨w.heap.size,0,none⟩:Addr).add j)=some x:=by
 intro j x hj he
 match j,hj with
 | 0,hj=>simp at hj;subst hj;subst he;simp [Addr.add]

end Go.Proofs.YtdbhahiieokplaaGreatDoor


namespace Go.Proofs.YtdbhahiieokplaaGreatDoor
open Go.RowKit

end Go.Proofs.YtdbhahiieokplaaGreatDoor


namespace Go.Proofs.YtdbhahiieokplaaGreatDoor
open Go.RowKit
attribute [local go_sem ↓] Go.wp_at_zero Go.wp_at_succ

def canonB (neg:Bool) (s:ByteArray):Bool:=if h:0<s.size then (s[0]'h).toNat != 0 else !neg

end Go.Proofs.YtdbhahiieokplaaGreatDoor


namespace Go.Proofs.YtdbhahiieokplaaGreatDoor
open Go

section
variable {P:Program} {ops:Array Oper} {Q:Exit→Act→World→Prop} {md:Region.Mode} {S:World→Prop} {L:List Nat}

def waits (md:Region.Mode) (ops:Array Oper) (i:Nat):Nat→Nat→Bool
 | 0,_=>false
 | f+1,j=>match ops[j]? with
   | some o=>o.after.any fun e=>Region.binds md e && (e.on==i || waits md ops i f e.on)
   | none=>false

def closedB (md:Region.Mode) (ops:Array Oper) (listed:Array Bool):Bool :=
 (List.range ops.size).all fun j=>!listed.getD j false || ((ops[j]?).map (·.after.all fun e=>!Region.binds md e || listed.getD e.on false)).getD false

def Closed (md:Region.Mode) (ops:Array Oper) (listed:Array Bool):Prop:=∀ j o,ops[j]?=some o→listed.getD j false=true→∀ e∈o.after,Region.binds md e=true→listed.getD e.on false=true

theorem closed_of {listed:Array Bool} (h:closedB md ops listed=true):Closed md ops listed:=fun j o ho hj e he hb=>by
 simp only [closedB,List.all_eq_true,List.mem_range] at h
 have h1:=h j (Array.getElem?_eq_some_iff.1 ho).1
 simp only [hj,ho,Bool.not_true,Bool.false_or,Option.map_some,Option.getD_some] at h1
 have h2:=Array.all_eq_true_iff_forall_mem.1 h1 e he
 simpa [hb] using h2

theorem closed_set {listed:Array Bool} {j:Nat} (h:Closed md ops listed) (hj:j∈Region.ready md ops listed):Closed md ops (listed.setIfInBounds j true):=fun k o ho hk e he hb=>by
 by_cases hjk:j=k
 · subst hjk
   obtain ⟨_,o',ho',hall⟩:=mem_ready.1 hj
   rw [ho] at ho'
   injection ho' with ho'
   subst ho'
   exact getD_set_true (hall e he hb)
 · rw [getD_set_ne false hjk] at hk
   exact getD_set_true (h k o ho hk e he hb)

theorem waits_listed {listed:Array Bool} {i:Nat} (h:Closed md ops listed):∀ (f j:Nat),waits md ops i f j=true→listed.getD j false=true→listed.getD i false=true:=by
 intro f
 induction f with
 | zero=>intro j hw;simp [waits] at hw
 | succ f ih =>
   intro j hw hj
   unfold waits at hw
   cases ho:ops[j]? with
   | none=>rw [ho] at hw;simp at hw
   | some o =>
     rw [ho] at hw
     obtain ⟨e,he,hb⟩:=Array.any_eq_true'.1 hw
     simp only [Bool.and_eq_true,Bool.or_eq_true,beq_iff_eq] at hb
     have h1:=h j o ho hj e he hb.1
     rcases hb.2 with h2 | h2
     · rw [←h2];exact h1
     · exact ih e.on h2 h1

theorem waits_ready {listed:Array Bool} {i j f:Nat} (h:Closed md ops listed) (hj:j∈Region.ready md ops listed) (hw:waits md ops i f j=true) (hi:i∈Region.ready md ops listed):False:=by
 obtain ⟨_,o,ho,hall⟩:=mem_ready.1 hj
 have h0:=(mem_ready.1 hi).1
 have h1:listed.getD i false=true:=by
  cases f with
  | zero=>simp [waits] at hw
  | succ f =>
    unfold waits at hw
    rw [ho] at hw
    obtain ⟨e,he,hb⟩:=Array.any_eq_true'.1 hw
    simp only [Bool.and_eq_true,Bool.or_eq_true,beq_iff_eq] at hb
    have h2:=hall e he hb.1
    rcases hb.2 with h3 | h3
    · rw [←h3];exact h2
    · exact waits_listed h f e.on h3 h2
 rcases Nat.lt_or_ge i listed.size with h' | h'
 · simp [h'] at h0 h1;rw [h0] at h1;cases h1
 · simp [Array.getElem?_eq_none h'] at h1

def wpLate (P:Program) (md:Region.Mode) (ops:Array Oper) (Q:Exit→Act→World→Prop) (S:World→Prop) (L:List Nat):Nat→Array Bool→Act→World→Prop
 | 0,listed,a,w=>Region.ready md ops listed=[]∧Q .normal a w
 | fuel+1,listed,a,w =>
   (Region.ready md ops listed=[]→Q .normal a w) ∧
   ∀ i∈Region.ready md ops listed,wpOp P ops Q i (fun a' w'=>(L.contains i=true∨(S w→S w'))∧wpLate P md ops Q S L fuel (listed.setIfInBounds i true) a' w') a w

theorem wpAny_of_late:∀ (fuel:Nat) (listed:Array Bool) (a:Act) (w:World),wpLate P md ops Q S L fuel listed a w→wpAny P md ops Q fuel listed a w
 | 0,_,_,_,h=>h
 | fuel+1,_,_,_,h=>⟨h.1,fun i hi=>wpOp_mono (fun a' w' h'=>wpAny_of_late fuel _ a' w' h'.2) (h.2 i hi)⟩

theorem wpLate_first {S':World→Prop} {i:Nat} {oi:Oper} {v:Value} (hi:ops[i]?=some oi) (hsel:∀ (j:Nat) (o:Oper) cs b,ops[j]?=some o→o.op≠.select cs b)
  (hQ:∀ c a w,Q (.panic c) (a.put oi.dst v) w→Q (.panic c) a w) (hst:∀ j w w',(∀ f,waits md ops i f j=false)→(L.contains j=true∨(S w→S w'))→S' w→S' w') :
  ∀ (fuel:Nat) (listed:Array Bool) (a:Act) (w:World),Closed md ops listed →
    (∀ j oj,ops[j]?=some oj→j≠i→listed.getD j true=false→(∀ e∈oj.after,Region.binds md e=true→e.on≠i)→oi.apart ops oj=true) →
    i∈Region.ready md ops listed→YieldsIf P ops S' oi v a→S' w →
    wpLate P md ops Q S L fuel (listed.setIfInBounds i true) (a.put oi.dst v) w→wpLate P md ops Q S L (fuel+1) listed a w:=by
 intro fuel
 induction fuel with
 | zero =>
   intro listed a w _ _ hr hy hS H
   refine ⟨fun h=>(by rw [h] at hr;cases hr),fun j hj=>?_⟩
   by_cases hji:j=i
   · subst hji;exact hy.wpOp hi hS ⟨.inr id,H⟩
   · have:=ready_mono hj hji
     rw [H.1] at this
     cases this
 | succ fuel ih =>
   intro listed a w hcl hfree hr hy hS H
   refine ⟨fun h=>(by rw [h] at hr;cases hr),fun j hj=>?_⟩
   by_cases hji:j=i
   · subst hji;exact hy.wpOp hi hS ⟨.inr id,H⟩
   · have h1:=H.2 j (ready_mono hj hji)
     obtain ⟨hjun,oj,hoj,hall⟩:=mem_ready.1 hj
     have hnw:∀ f,waits md ops i f j=false:=fun f=>by
      cases hw:waits md ops i f j
      · rfl
      · exact (waits_ready hcl hj hw hr).elim
     have hnot:∀ e∈oj.after,Region.binds md e=true→e.on≠i:=fun e he hb heq=>by
      have h1:=hall e he hb
      have h0:=(mem_ready.1 hr).1
      rw [heq] at h1
      rcases Nat.lt_or_ge i listed.size with h' | h'
      · simp [h'] at h0 h1;rw [h0] at h1;cases h1
      · simp [Array.getElem?_eq_none h'] at h1
     have h2:=wpOp_putIf hoj (hfree j oj hoj hji hjun hnot) (fun cs b=>hsel i oi cs b hi) (fun cs b=>hsel j oj cs b hoj) hQ hy h1
     have hfree':∀ k ok,ops[k]?=some ok→k≠i→(listed.setIfInBounds j true).getD k true=false →
       (∀ e∈ok.after,Region.binds md e=true→e.on≠i)→oi.apart ops ok=true:=fun k ok hk hki hun hno=>by
      refine hfree k ok hk hki ?_ hno
      by_cases hjk:j=k
      · subst hjk;exact hjun
      · rw [getD_set_ne true hjk] at hun;exact hun
     refine wpOp_mono (fun a' w' h3=>⟨h3.2.1,ih (listed.setIfInBounds j true) a' w' (closed_set hcl hj) hfree' (ready_mono hr (Ne.symm hji)) h3.1 (hst j w w' hnw h3.2.1 hS) ?_⟩) h2
     rw [Array.setIfInBounds_comm _ _ hji]
     exact h3.2.2


theorem wpLate_take {i:Nat} {oi:Oper} {v:Value} {fuel:Nat} {listed:Array Bool} {a:Act} {w:World} (hi:ops[i]?=some oi)
  (hs:Region.noSelect ops=true) (hf:Region.free md ops listed i=true) (hr:(Region.ready md ops listed).contains i=true) (hc:closedB md ops listed=true) (hl:L.all (fun j=>waits md ops i ops.size j)=true)
  (hQ:∀ c a w,Q (.panic c) (a.put oi.dst v) w→Q (.panic c) a w) (hy:YieldsIf P ops S oi v a) (hS:S w)
  (h:wpLate P md ops Q S L fuel (listed.setIfInBounds i true) (a.put oi.dst v) w):wpLate P md ops Q S L (fuel+1) listed a w :=
 wpLate_first hi (Region.noSelect_spec hs) hQ (fun j w w' hnw hk hS=>by
  rcases hk with hk | hk
  · have h1:=List.all_eq_true.1 hl j (by simpa using hk)
    rw [hnw ops.size] at h1
    cases h1
  · exact hk hS) fuel listed a w (closed_of hc) (Region.free_spec hi hf) (by simpa using hr) hy hS h

theorem wpLate_free {i:Nat} {oi:Oper} {v:Value} {fuel:Nat} {listed:Array Bool} {a:Act} {w:World} (hi:ops[i]?=some oi)
  (hs:Region.noSelect ops=true) (hf:Region.free md ops listed i=true) (hr:(Region.ready md ops listed).contains i=true) (hc:closedB md ops listed=true)
  (hQ:∀ c a w,Q (.panic c) (a.put oi.dst v) w→Q (.panic c) a w) (hy:YieldsIf P ops (fun _=>True) oi v a)
  (h:wpLate P md ops Q S L fuel (listed.setIfInBounds i true) (a.put oi.dst v) w):wpLate P md ops Q S L (fuel+1) listed a w :=
 wpLate_first (S':=fun _=>True) hi (Region.noSelect_spec hs) hQ (fun _ _ _ _ _ _=>trivial) fuel listed a w (closed_of hc) (Region.free_spec hi hf) (by simpa using hr) hy trivial h

theorem wpLate_one {i:Nat} {o:Oper} {fuel:Nat} {listed:Array Bool} {a:Act} {w:World} (hr:Region.ready md ops listed=[i]) (ho:ops[i]?=some o)
  (h:∀ K':Act→World→Prop,Shut (∀ a' w',(L.contains i=true∨(S w→S w'))→wpLate P md ops Q S L fuel (listed.setIfInBounds i true) a' w'→K' a' w')→if Region.wanted o (yielded ops a.tmps)=true then Oper.wp P o a w K' Q else K' (a.put o.dst undef) w) :
  wpLate P md ops Q S L (fuel+1) listed a w :=
 ⟨fun h0=>(by rw [h0] at hr;cases hr),fun j hj=>by
  rw [hr] at hj
  obtain rfl:j=i:=by simpa using hj
  exact wpOp_step ho (fun K' hK=>h K' (fun a w hS hW=>hK a w ⟨hS,hW⟩))⟩

theorem wpLate_done {listed:Array Bool} {a:Act} {w:World} (hr:Region.ready md ops listed=[]) (h:Q .normal a w):∀ fuel,wpLate P md ops Q S L fuel listed a w
 | 0=>⟨hr,h⟩
 | _+1=>⟨fun _=>h,by rw [hr];simp⟩

theorem wp_region_late {id:Nat} {a:Act} {w:World} (hm:P.follows .mixedOrders=true) (h:wpLate P .any ops Q S L ops.size (Array.replicate ops.size false) a w.drew):(Code.region id ops true).wp P Q a w :=
 wp_region_any hm (wpAny_of_late _ _ _ _ h)
end
end Go.Proofs.YtdbhahiieokplaaGreatDoor


namespace Go.Proofs.YtdbhahiieokplaaGreatDoor
open Go.RowKit

end Go.Proofs.YtdbhahiieokplaaGreatDoor
