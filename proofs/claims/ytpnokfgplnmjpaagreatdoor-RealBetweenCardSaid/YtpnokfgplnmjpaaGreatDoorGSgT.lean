import Derived.Test.YtpnokfgplnmjpaaGreatDoorGPk
import Derived.Test.YtpnokfgplnmjpaaGreatDoorGSgN
import Derived.Deep.RegionHeld3
import Derived.Deep.DrawnRows
import Derived.Deep.QuietTactic
import Derived.BigQuiet
set_option linter.unusedSimpArgs false
set_option linter.unusedVariables false
set_option maxRecDepth 100000
set_option maxHeartbeats 1000000
open Go.Lib (hid)
namespace Go.Proofs.YtpnokfgplnmjpaaGreatDoor
open Go.RowKit
attribute [local go_sem ↓] Go.wp_at_zero Go.wp_at_succ
theorem RetZ.form {w:World} {z:Int} {e:Ending} {w':World} (h:RetZ w z e w'):∃ b m,Hid (enc z=.agg #[.bool b,.string m])∧e=.returned (.agg #[.bool b,.string m])∧Below w.heap.size w w':=⟨_,_,rfl,h.1,h.2⟩
theorem heap_fst (w:World) (o o':Obj):((w.alloc o).alloc o').heap[w.heap.size]?=some o:=(Below.heap_alloc _ _ _ (by simp)).trans (heap_one w o)
theorem nat_bits (a:Nat) (ha:a<18446744073709551616):(BitVec.ofInt 64 (a:Int)).toNat=a:=by
 rw [BitVec.ofInt_natCast,BitVec.toNat_ofNat];exact Nat.mod_eq_of_lt om
theorem bits_or_u64 (a b:Nat) (ha:a<18446744073709551616) (hb:b<18446744073709551616):bits .or .u64 (a:Int) (b:Int)=((a ||| b:Nat):Int):=by
 have hx:a ||| b<2^64:=Nat.or_lt_two_pow om om
 show IntKind.u64.wrap ((BitVec.ofInt 64 (a:Int) ||| BitVec.ofInt 64 (b:Int)).toNat:Int)=_;rw [BitVec.toNat_or,nat_bits a ha,nat_bits b hb,IntKind.wrap_u64];omega
theorem or_byte (v c:Nat) (hv:v<72057594037927936) (hc:c<256):bits .or .u64 (IntKind.u64.wrap ((v:Int)*256)) (IntKind.u64.wrap (c:Int))=((v*256+c:Nat):Int):=by
 have e1:IntKind.u64.wrap ((v:Int)*256)=((2^8*v:Nat):Int):=by rw [IntKind.wrap_u64];omega
 have e2:IntKind.u64.wrap (c:Int)=(c:Int):=by rw [IntKind.wrap_u64];omega
 rw [e1,e2,bits_or_u64 _ _ om om,←Nat.two_pow_add_eq_or_of_lt om];omega
def pre (s:ByteArray) (k:Nat):Nat:=bval s / 256^(s.size-k)
theorem pre_zero (s:ByteArray):pre s 0=0:=by
 unfold pre;rw [Nat.sub_zero];exact Nat.div_eq_of_lt (bval_lt s)
theorem pre_all (s:ByteArray):pre s s.size=bval s:=by simp [pre]
theorem pre_lt (s:ByteArray) (k:Nat) (hk:k≤s.size):pre s k<256^k:=by
 unfold pre;apply Nat.div_lt_of_lt_mul;rw [←Nat.pow_add,Nat.sub_add_cancel hk];exact bval_lt s
theorem pre_succ (s:ByteArray) (k:Nat) (hk:k<s.size):pre s (k+1)=pre s k*256+(s[k]).toNat:=by
 have h:=div_D 256 (bval s) (s.size-(k+1));rw [show s.size-(k+1)+1=s.size-k by omega,←dig_eq] at h
 have hd:dig s (s.size-(k+1))=(s[k]).toNat:=by
  unfold dig;rw [dif_pos om]
  congr 2
  omega
 rw [hd] at h;unfold pre;omega
theorem pow256_7 {k:Nat} (h:k≤7):(256:Nat)^k≤72057594037927936:=Nat.pow_le_pow_right (n:=256) om h
theorem word_any (s:ByteArray) (hs:s.size≤8) (w:World) :
  Calls Tryz.prog 176 #[.string s] w (RetV w (.int .u64 (bval s:Nat))):=by
 go_enter Tryz.func176,Tryz.ntmps176;go_wp2
 go_loop [3,7] (fun v i=>∃ k:Nat,k≤s.size∧i=.int .i64 k∧v=.int .u64 (pre s k:Nat)) (fun _ i=>s.size-(intOf i).toNat)
 case atStart=>exact ⟨0,om,rfl,by rw [pre_zero];rfl⟩
 case round =>
  obtain ⟨k,hk,rfl,rfl⟩:=hrel;by_cases hlt:k<s.size
  · go_wp2
    go_round
    case rel=>exact ⟨k+1,om,by go_num,by rw [or_byte _ _ (Nat.lt_of_lt_of_le (pre_lt s k hk) (pow256_7 om)) (UInt8.toNat_lt _),pre_succ s k hlt]⟩
    case measure=>simp [intOf];omega
  · obtain rfl:k=s.size:=om;go_wp2
    go_ret
    exact ⟨by rw [pre_all];rfl,rfl⟩
def RetW (W:World) (X Y:Nat) (ok:Bool) (e:Ending) (w':World):Prop:=e=.returned (.tuple #[.int .u64 (X:Int),.int .u64 (Y:Int),.bool ok])∧Below W.heap.size W w'
theorem words_yes (na nb:Bool) (a b:ByteArray) (ha:a.size≤8) (hb:b.size≤8) (w:World) :
  Calls Tryz.prog 141 #[.agg #[.bool na,.string a],.agg #[.bool nb,.string b]] w (RetW w (bval a) (bval b) true):=by
 go_enter Tryz.func141,Tryz.ntmps141;go_wp2
 go_quiet ((go_at_call 176;exact quietV (word_any _ (by assumption) _)))
 go_wp2
 go_ret3
 exact ⟨rfl,below_draws (((Below.refl _ _).alloc (Nat.le_refl _) _).alloc (by simp) _) _⟩
theorem words_no (na nb:Bool) (a b:ByteArray) (h:8<a.size∨8<b.size) (w:World) :
  Calls Tryz.prog 141 #[.agg #[.bool na,.string a],.agg #[.bool nb,.string b]] w (RetW w 0 0 false):=by
 by_cases h1:8<a.size
 all_goals
  go_enter Tryz.func141,Tryz.ntmps141;go_wp2
  go_ret3
  exact ⟨rfl,((Below.refl _ _).alloc (Nat.le_refl _) _).alloc (by simp) _⟩
end Go.Proofs.YtpnokfgplnmjpaaGreatDoor
namespace Go.Proofs.YtpnokfgplnmjpaaGreatDoor
open Go.RowKit
theorem at_any (A:Option Addr) (n c V i:Nat) (w:World) (hn:n≤1099511627776) (hi:i≤1099511627776) (h:Dg w .i64 256 A n V) :
  Calls Tryz.prog 189 #[.slice A n c,.int .i64 (i:Int)] w (RetV w (.int .i64 (D 256 V i:Nat))):=by
 by_cases hlt:i<n
 · obtain ⟨g,o,rfl,hg,hc⟩:=h.rd om;have hci:=hc i hlt;clear hc;go_enter Tryz.func189,Tryz.ntmps189;go_wp2
   go_ret
   exact ⟨rfl,rfl⟩
 · have hz:=D_zero_of (b:=256) om h.lt (i:=i) om;rw [hz];clear hz;go_enter Tryz.func189,Tryz.ntmps189;go_wp2
   go_ret
   exact ⟨rfl,rfl⟩
theorem car_pos_le {b n m X Y k:Nat} (hb:2≤b) (hX:X<b^n) (hY:Y<b^m) (h:0<car b X 1 Y k):k≤n∨k≤m:=by
 rcases Nat.lt_or_ge n k with h1 | h1
 · rcases Nat.lt_or_ge m k with h2 | h2
   · exfalso;have p1:b^n≤b^(k-1):=Nat.pow_le_pow_right om om;have p2:b^m≤b^(k-1):=Nat.pow_le_pow_right om om;have p3:b^k=b^(k-1)*b:=by rw [←Nat.pow_succ];congr 1;omega
     have p4:b^(k-1)*2≤b^(k-1)*b:=Nat.mul_le_mul_left _ hb;rw [car_end om om,Nat.div_eq_of_lt om] at h;omega
   · exact .inr h2
 · exact .inl h1
theorem own_next {w1:World} {base:Nat} {E:TypeId} {K:IntKind} {v:Value} {k:Nat} {f:Nat→Nat} {d:Nat} (h:w1.ownsRow base E 1 v (k+1) (nums K f k++[.int K (d:Int)])) (hd:d=f k):w1.ownsRow base E 1 v (k+1) (nums K f (k+1)):=by
 rw [nums_succ,←hd];exact h
theorem one_cell {w:World} {u v:Value} {t:TypeId}:∀ j x,[v][j]?=some x→u=v→(w.alloc (.cells #[u] t)).cell? ((⟨w.heap.size,0,none⟩:Addr).add j)=some x:=by
 intro j x hj he
 match j,hj with
 | 0,hj=>simp at hj;subst hj;subst he;simp [Addr.add]
end Go.Proofs.YtpnokfgplnmjpaaGreatDoor
namespace Go.Proofs.YtpnokfgplnmjpaaGreatDoor
open Go.RowKit
attribute [local go_sem ↓] Go.wp_at_zero Go.wp_at_succ
def canonB (neg:Bool) (s:ByteArray):Bool:=if h:0<s.size then (s[0]'h).toNat != 0 else !neg
end Go.Proofs.YtpnokfgplnmjpaaGreatDoor
namespace Go.Proofs.YtpnokfgplnmjpaaGreatDoor
open Go
section
variable {P:Program} {ops:Array Oper} {Q:Exit→Act→World→Prop} {md:Region.Mode} {S:World→Prop} {L:List Nat}
def waits (md:Region.Mode) (ops:Array Oper) (i:Nat):Nat→Nat→Bool
 | 0,_=>false
 | f+1,j=>match ops[j]? with
   | some o=>o.after.any fun e=>Region.binds md e && (e.on==i || waits md ops i f e.on)
   | none=>false
def closedB (md:Region.Mode) (ops:Array Oper) (listed:Array Bool):Bool :=
 (List.range ops.size).all fun j=>!listed.getD j false || ((ops[j]?).map (·.after.all fun e=>!Region.binds md e || listed.getD e.on false)).getD false
def Closed (md:Region.Mode) (ops:Array Oper) (listed:Array Bool):Prop:=∀ j o,ops[j]?=some o→listed.getD j false=true→∀ e∈o.after,Region.binds md e=true→listed.getD e.on false=true
theorem closed_of {listed:Array Bool} (h:closedB md ops listed=true):Closed md ops listed:=fun j o ho hj e he hb=>by
 simp only [closedB,List.all_eq_true,List.mem_range] at h;have h1:=h j (Array.getElem?_eq_some_iff.1 ho).1;simp only [hj,ho,Bool.not_true,Bool.false_or,Option.map_some,Option.getD_some] at h1;have h2:=Array.all_eq_true_iff_forall_mem.1 h1 e he;simpa [hb] using h2
theorem closed_set {listed:Array Bool} {j:Nat} (h:Closed md ops listed) (hj:j∈Region.ready md ops listed):Closed md ops (listed.setIfInBounds j true):=fun k o ho hk e he hb=>by
 by_cases hjk:j=k
 · subst hjk;obtain ⟨_,o',ho',hall⟩:=mem_ready.1 hj;rw [ho] at ho'
   injection ho' with ho'
   subst ho';exact getD_set_true (hall e he hb)
 · rw [getD_set_ne false hjk] at hk;exact getD_set_true (h k o ho hk e he hb)
theorem waits_listed {listed:Array Bool} {i:Nat} (h:Closed md ops listed):∀ (f j:Nat),waits md ops i f j=true→listed.getD j false=true→listed.getD i false=true:=by
 intro f;induction f with
 | zero=>intro j hw;simp [waits] at hw
 | succ f ih =>
   intro j hw hj;unfold waits at hw;cases ho:ops[j]? with
   | none=>rw [ho] at hw;simp at hw
   | some o =>
     rw [ho] at hw;obtain ⟨e,he,hb⟩:=Array.any_eq_true'.1 hw;simp only [Bool.and_eq_true,Bool.or_eq_true,beq_iff_eq] at hb;have h1:=h j o ho hj e he hb.1;rcases hb.2 with h2 | h2
     · rw [←h2];exact h1
     · exact ih e.on h2 h1
theorem waits_ready {listed:Array Bool} {i j f:Nat} (h:Closed md ops listed) (hj:j∈Region.ready md ops listed) (hw:waits md ops i f j=true) (hi:i∈Region.ready md ops listed):False:=by
 obtain ⟨_,o,ho,hall⟩:=mem_ready.1 hj;have h0:=(mem_ready.1 hi).1
 have h1:listed.getD i false=true:=by
  cases f with
  | zero=>simp [waits] at hw
  | succ f =>
    unfold waits at hw;rw [ho] at hw;obtain ⟨e,he,hb⟩:=Array.any_eq_true'.1 hw;simp only [Bool.and_eq_true,Bool.or_eq_true,beq_iff_eq] at hb;have h2:=hall e he hb.1;rcases hb.2 with h3 | h3
    · rw [←h3];exact h2
    · exact waits_listed h f e.on h3 h2
 exact k97
def wpLate (P:Program) (md:Region.Mode) (ops:Array Oper) (Q:Exit→Act→World→Prop) (S:World→Prop) (L:List Nat):Nat→Array Bool→Act→World→Prop
 | 0,listed,a,w=>Region.ready md ops listed=[]∧Q .normal a w
 | fuel+1,listed,a,w =>
   (Region.ready md ops listed=[]→Q .normal a w) ∧
   ∀ i∈Region.ready md ops listed,wpOp P ops Q i (fun a' w'=>(L.contains i=true∨(S w→S w'))∧wpLate P md ops Q S L fuel (listed.setIfInBounds i true) a' w') a w
theorem wpAny_of_late:∀ (fuel:Nat) (listed:Array Bool) (a:Act) (w:World),wpLate P md ops Q S L fuel listed a w→wpAny P md ops Q fuel listed a w
 | 0,_,_,_,h=>h
 | fuel+1,_,_,_,h=>⟨h.1,fun i hi=>wpOp_mono (fun a' w' h'=>wpAny_of_late fuel _ a' w' h'.2) (h.2 i hi)⟩
theorem wpLate_first {S':World→Prop} {i:Nat} {oi:Oper} {v:Value} (hi:ops[i]?=some oi) (hsel:∀ (j:Nat) (o:Oper) cs b,ops[j]?=some o→o.op≠.select cs b)
  (hQ:∀ c a w,Q (.panic c) (a.put oi.dst v) w→Q (.panic c) a w) (hst:∀ j w w',(∀ f,waits md ops i f j=false)→(L.contains j=true∨(S w→S w'))→S' w→S' w') :
  ∀ (fuel:Nat) (listed:Array Bool) (a:Act) (w:World),Closed md ops listed →
    (∀ j oj,ops[j]?=some oj→j≠i→listed.getD j true=false→(∀ e∈oj.after,Region.binds md e=true→e.on≠i)→oi.apart ops oj=true) →
    i∈Region.ready md ops listed→YieldsIf P ops S' oi v a→S' w →
    wpLate P md ops Q S L fuel (listed.setIfInBounds i true) (a.put oi.dst v) w→wpLate P md ops Q S L (fuel+1) listed a w:=by
 intro fuel;induction fuel with
 | zero =>
   intro listed a w _ _ hr hy hS H;refine ⟨fun h=>(by rw [h] at hr;cases hr),fun j hj=>?_⟩;by_cases hji:j=i
   · subst hji;exact hy.wpOp hi hS ⟨.inr id,H⟩
   · have:=ready_mono hj hji;rw [H.1] at this;cases this
 | succ fuel ih =>
   intro listed a w hcl hfree hr hy hS H;refine ⟨fun h=>(by rw [h] at hr;cases hr),fun j hj=>?_⟩;by_cases hji:j=i
   · subst hji;exact hy.wpOp hi hS ⟨.inr id,H⟩
   · have h1:=H.2 j (ready_mono hj hji);obtain ⟨hjun,oj,hoj,hall⟩:=mem_ready.1 hj
     have hnw:∀ f,waits md ops i f j=false:=fun f=>by
      cases hw:waits md ops i f j
      · rfl
      · exact (waits_ready hcl hj hw hr).elim
     have hnot:∀ e∈oj.after,Region.binds md e=true→e.on≠i:=fun e he hb heq=>by
      have h1:=hall e he hb;have h0:=(mem_ready.1 hr).1;rw [heq] at h1;exact k97
     have h2:=wpOp_putIf hoj (hfree j oj hoj hji hjun hnot) (fun cs b=>hsel i oi cs b hi) (fun cs b=>hsel j oj cs b hoj) hQ hy h1
     have hfree':∀ k ok,ops[k]?=some ok→k≠i→(listed.setIfInBounds j true).getD k true=false →
       (∀ e∈ok.after,Region.binds md e=true→e.on≠i)→oi.apart ops ok=true:=fun k ok hk hki hun hno=>by
      refine hfree k ok hk hki ?_ hno;by_cases hjk:j=k
      · subst hjk;exact hjun
      · rw [getD_set_ne true hjk] at hun;exact hun
     refine wpOp_mono (fun a' w' h3=>⟨h3.2.1,ih (listed.setIfInBounds j true) a' w' (closed_set hcl hj) hfree' (ready_mono hr (Ne.symm hji)) h3.1 (hst j w w' hnw h3.2.1 hS) ?_⟩) h2;rw [Array.setIfInBounds_comm _ _ hji];exact h3.2.2
theorem wpLate_take {i:Nat} {oi:Oper} {v:Value} {fuel:Nat} {listed:Array Bool} {a:Act} {w:World} (hi:ops[i]?=some oi)
  (hs:Region.noSelect ops=true) (hf:Region.free md ops listed i=true) (hr:(Region.ready md ops listed).contains i=true) (hc:closedB md ops listed=true) (hl:L.all (fun j=>waits md ops i ops.size j)=true)
  (hQ:∀ c a w,Q (.panic c) (a.put oi.dst v) w→Q (.panic c) a w) (hy:YieldsIf P ops S oi v a) (hS:S w)
  (h:wpLate P md ops Q S L fuel (listed.setIfInBounds i true) (a.put oi.dst v) w):wpLate P md ops Q S L (fuel+1) listed a w :=
 wpLate_first hi (Region.noSelect_spec hs) hQ (fun j w w' hnw hk hS=>by
  rcases hk with hk | hk
  · have h1:=List.all_eq_true.1 hl j (by simpa using hk);rw [hnw ops.size] at h1;cases h1
  · exact hk hS) fuel listed a w (closed_of hc) (Region.free_spec hi hf) (by simpa using hr) hy hS h
theorem wpLate_free {i:Nat} {oi:Oper} {v:Value} {fuel:Nat} {listed:Array Bool} {a:Act} {w:World} (hi:ops[i]?=some oi)
  (hs:Region.noSelect ops=true) (hf:Region.free md ops listed i=true) (hr:(Region.ready md ops listed).contains i=true) (hc:closedB md ops listed=true)
  (hQ:∀ c a w,Q (.panic c) (a.put oi.dst v) w→Q (.panic c) a w) (hy:YieldsIf P ops (fun _=>True) oi v a)
  (h:wpLate P md ops Q S L fuel (listed.setIfInBounds i true) (a.put oi.dst v) w):wpLate P md ops Q S L (fuel+1) listed a w :=
 wpLate_first (S':=fun _=>True) hi (Region.noSelect_spec hs) hQ (fun _ _ _ _ _ _=>trivial) fuel listed a w (closed_of hc) (Region.free_spec hi hf) (by simpa using hr) hy trivial h
theorem wpLate_one {i:Nat} {o:Oper} {fuel:Nat} {listed:Array Bool} {a:Act} {w:World} (hr:Region.ready md ops listed=[i]) (ho:ops[i]?=some o)
  (h:∀ K':Act→World→Prop,Shut (∀ a' w',(L.contains i=true∨(S w→S w'))→wpLate P md ops Q S L fuel (listed.setIfInBounds i true) a' w'→K' a' w')→if Region.wanted o (yielded ops a.tmps)=true then Oper.wp P o a w K' Q else K' (a.put o.dst undef) w) :
  wpLate P md ops Q S L (fuel+1) listed a w :=
 ⟨fun h0=>(by rw [h0] at hr;cases hr),fun j hj=>by
  rw [hr] at hj;obtain rfl:j=i:=by simpa using hj
  exact wpOp_step ho (fun K' hK=>h K' (fun a w hS hW=>hK a w ⟨hS,hW⟩))⟩
theorem wpLate_done {listed:Array Bool} {a:Act} {w:World} (hr:Region.ready md ops listed=[]) (h:Q .normal a w):∀ fuel,wpLate P md ops Q S L fuel listed a w
 | 0=>⟨hr,h⟩
 | _+1=>⟨fun _=>h,by rw [hr];simp⟩
theorem wp_region_late {id:Nat} {a:Act} {w:World} (hm:P.follows .mixedOrders=true) (h:wpLate P .any ops Q S L ops.size (Array.replicate ops.size false) a w.drew):(Code.region id ops true).wp P Q a w :=
 wp_region_any hm (wpAny_of_late _ _ _ _ h)
end
end Go.Proofs.YtpnokfgplnmjpaaGreatDoor
namespace Go.Proofs.YtpnokfgplnmjpaaGreatDoor.Sg
theorem flip {x z:Rl} (h:InvR x z) {a b:Nat} (ha:0<a) (hb:0<b):cmpX z (Rl.of ((a:Rat) / (b:Rat)))=- cmpX x (Rl.of ((b:Rat) / (a:Rat))):=by
 have h1:=cast_pos ha;have h2:=cast_pos hb;have e1:=div_mul (p:=(a:Rat)) h2;have e2:=div_mul (p:=(b:Rat)) h1
 have h3:(0:Rat)<(a:Rat) / (b:Rat):=by
  have:=(lt_div (f:=0) (p:=a) hb).2 om;exact this
 refine h.cmp _ _ h3 ?_;have h4:((a:Rat) / (b:Rat)*((b:Rat) / (a:Rat))-1)*((a:Rat)*(b:Rat))=0:=by grind
 have h5:=Rat.mul_pos h1 h2;rcases Rat.mul_eq_zero.1 h4 with h6 | h6
 · grind
 · grind
theorem shift_frac (f a b:Nat) (ha:0<a):(Rl.of (((f*a+b:Nat):Rat) / (a:Rat))).add (-(f:Rat))=Rl.of ((b:Rat) / (a:Rat)):=by
 rw [add_of]
 congr 1
 have h1:=cast_pos ha;have e1:=div_mul (p:=((f*a+b:Nat):Rat)) h1;have e2:=div_mul (p:=(b:Rat)) h1;rw [Rat.natCast_add,Rat.natCast_mul] at e1 ⊢;have h4:(((f:Rat)*(a:Rat)+(b:Rat)) / (a:Rat)+-(f:Rat)-(b:Rat) / (a:Rat))*(a:Rat)=0:=by grind
 rcases Rat.mul_eq_zero.1 h4 with h6 | h6
 · grind
 · grind
theorem in_shift {x y:Rl} {f a b:Nat}:In x y (f*a+b) a↔0<a∧cmpX (x.add (-(f:Rat))) (Rl.of ((b:Rat) / (a:Rat)))=-1∧cmpX (Rl.of ((b:Rat) / (a:Rat))) (y.add (-(f:Rat)))=-1:=by
 constructor
 · rintro ⟨h1,h2,h3⟩;rw [←shift_frac f a b h1,add_cmp,add_cmp];exact ⟨h1,h2,h3⟩
 · rintro ⟨h1,h2,h3⟩;rw [←shift_frac f a b h1,add_cmp] at h2 h3;exact ⟨h1,h2,h3⟩
theorem in_turn {x y z w:Rl} {f a b:Nat} (hx:(x.add (-(f:Rat))).Ok) (h0:cmpX (Rl.of 0) (x.add (-(f:Rat)))≤0) (hz:InvR (y.add (-(f:Rat))) z) (hw:InvR (x.add (-(f:Rat))) w) (hy:(y.add (-(f:Rat))).Ok) :
  In z w a b↔In x y (f*a+b) a:=by
 rw [in_shift];constructor
 · rintro ⟨h1,h2,h3⟩
   have ha:0<a:=by
    exact k116
   have e1:=flip hz ha h1;have e2:=flip hw ha h1;have a1:=cmp_anti hw.ok (of_ok ((a:Rat) / (b:Rat)));have a2:=cmp_anti hy (of_ok ((b:Rat) / (a:Rat)));exact ⟨ha,om,om⟩
 · rintro ⟨ha,h2,h3⟩
   have h1:0<b:=by
    have h4:=le_lt (of_ok _) hx (of_ok _) h0 h2;have:=(lt_div (f:=0) ha).1 (of_lt.1 h4);omega
   have e1:=flip hz ha h1;have e2:=flip hw ha h1;have a1:=cmp_anti hw.ok (of_ok ((a:Rat) / (b:Rat)));have a2:=cmp_anti hy (of_ok ((b:Rat) / (a:Rat)));exact ⟨h1,om,om⟩
theorem in_zero {x y z:Rl} {f a b:Nat} (h0:x.add (-(f:Rat))=Rl.of 0) (hz:InvR (y.add (-(f:Rat))) z) (hy:(y.add (-(f:Rat))).Ok) :
  (0<b∧cmpX z (Rl.of ((a:Rat) / (b:Rat)))=-1)↔In x y (f*a+b) a:=by
 rw [in_shift,h0];constructor
 · rintro ⟨h1,h2⟩
   have ha:0<a:=by
    exact k116
   have e1:=flip hz ha h1;have a2:=cmp_anti hy (of_ok ((b:Rat) / (a:Rat)));exact ⟨ha,of_lt.2 ((lt_div (f:=0) ha).2 om),om⟩
 · rintro ⟨ha,h2,h3⟩
   have h1:0<b:=by
    have:=(lt_div (f:=0) ha).1 (of_lt.1 h2);omega
   have e1:=flip hz ha h1;have a2:=cmp_anti hy (of_ok ((b:Rat) / (a:Rat)));exact ⟨h1,om⟩
theorem run_simp {iv:Rl→Rl} (hiv:∀ x:Rl,x.Ok→cmpX (Rl.of 0) x=-1→InvR x (iv x)) (N:Nat) :
  ∀ {x y:Rl} {p q:Nat},q≤N→x.Ok→y.Ok→cmpX (Rl.of 0) x≤0→In x y p q→∃ n m,Run iv x y n m∧SimpP (In x y) n m:=by
 induction N with
 | zero=>intro x y p q hq _ _ _ h;exact absurd h.den om
 | succ N ih =>
   intro x y p q hq hx hy h0 h;have nat1:∀ f:Nat,((f+1:Nat):Rat)=(f:Rat)+1:=fun f=>by rw [Rat.natCast_add];rfl
   have hxy:cmpX x y=-1:=cmp_trans hx (of_ok _) hy h.low h.high
   obtain ⟨f,f1,f2⟩:=floor_ex hx h0 p (by
    refine cmp_trans hx (of_ok _) (of_ok _) h.low (of_lt.2 ?_);rw [←nat1];have:=Nat.mul_le_mul_left (p+1) h.den;exact (div_lt h.den).2 om)
   have hlow:∀ p q,In x y p q→0<q∧f*q<p:=fun p q k =>
    ⟨k.den,(lt_div k.den).1 (of_lt.1 (le_lt (of_ok _) hx (of_ok _) f1 k.low))⟩
   by_cases f3:cmpX y (Rl.of ((f:Rat)+1))=1
   · refine ⟨f+1,1,.top f f1 f2 f3,simpP_int ?_ hlow⟩
     have e:((f+1:Nat):Rat) / ((1:Nat):Rat)=(f:Rat)+1:=by
      have:=div_mul (p:=((f+1:Nat):Rat)) (q:=((1:Nat):Rat)) dc;exact k124
     refine ⟨om,by rw [e];exact f2,?_⟩;rw [e,cmp_anti hy (of_ok _),f3]
   · have hx':=add_ok hx (-(f:Rat));have hy':=add_ok hy (-(f:Rat))
     have g0:cmpX (Rl.of 0) (x.add (-(f:Rat)))≤0:=by
      rw [show Rl.of 0=(Rl.of (f:Rat)).add (-(f:Rat)) by rw [add_of];congr 1;grind,add_cmp];exact f1
     have gy:cmpX (Rl.of 0) (y.add (-(f:Rat)))=-1:=le_lt (of_ok _) hx' hy' g0 (by rw [add_cmp];exact hxy);have hz:=hiv _ hy' gy
     -- the fraction inside,less the whole part
     have hp:=(hlow p q h).2;have hpq:In x y (f*q+(p-f*q)) q:=by rw [show f*q+(p-f*q)=p by omega];exact h
     have hsm:p-f*q<q:=by
      have k1:=lt_le (of_ok _) hy (of_ok ((f:Rat)+1)) h.high (by have:=cmp_three hy (of_ok ((f:Rat)+1));omega);have k2:=of_lt.1 k1;rw [←nat1] at k2;have:=(div_lt h.den).1 k2;rw [Nat.add_mul] at this;omega
     by_cases f4:x.add (-(f:Rat))=Rl.of 0
     · -- the inverse has no upper end
       have h1:=(in_zero f4 hz hy').2 hpq;have zle:cmpX (Rl.of 0) (iv (y.add (-(f:Rat))))≤0:=by rw [hz.pos];decide
       obtain ⟨g,g1,g2⟩:=floor_ex hz.ok zle q (by
        refine cmp_trans hz.ok (of_ok _) (of_ok _) h1.2 (of_lt.2 ?_);rw [←nat1];have:=Nat.mul_le_mul_left (q+1) h1.1;exact (div_lt h1.1).2 om)
       have g3:cmpX ((iv (y.add (-(f:Rat)))).add 2) (Rl.of ((g:Rat)+1))=1:=by
        have k1:=lt_le (of_ok ((g:Rat)+1)) (of_ok ((g:Rat)+2)) (add_ok hz.ok 2) (of_lt.2 (by grind)) (by
         rw [←add_of,add_cmp];exact g1)
        rw [cmp_anti (of_ok _) (add_ok hz.ok 2),k1]
        rfl
       refine ⟨f*(g+1)+1,g+1,.zero f f1 f2 f3 f4 (.top g g1 g2 g3),simpP_turn (fun p q k=>(hlow p q k).2) ?_⟩;refine SimpP.congr (I:=fun a b=>0<b∧cmpX (iv (y.add (-(f:Rat)))) (Rl.of ((a:Rat) / (b:Rat)))=-1) ?_ (fun a b=>in_zero f4 hz hy');refine simpP_int ⟨om,?_⟩ fun p q k=>⟨k.1,(lt_div k.1).1 (of_lt.1 (le_lt (of_ok _) hz.ok (of_ok _) g1 k.2))⟩
       have e:((g+1:Nat):Rat) / ((1:Nat):Rat)=(g:Rat)+1:=by
        have:=div_mul (p:=((g+1:Nat):Rat)) (q:=((1:Nat):Rat)) dc;exact k124
       rw [e];exact g2
     · have gx : cmpX (Rl.of 0) (x.add (-(f : Rat))) = -1 := by
        rcases cmp_three (of_ok 0) hx' with e | e | e
        · exact e
        · exact absurd ((cmp_zero (of_ok 0) hx').1 e).symm f4
        · omega
       have hw:=hiv _ hx' gx;have k:=(in_turn hx' g0 hz hw hy').2 hpq;obtain ⟨n,m,r1,r2⟩:=ih om hz.ok hw.ok (by rw [hz.pos];decide) k;exact ⟨f*n+m,n,.turn f f1 f2 f3 f4 r1,simpP_turn (fun p q k=>(hlow p q k).2) (r2.congr fun a b=>in_turn hx' g0 hz hw hy')⟩
def Rl.neg (x:Rl):Rl:=⟨-x.p,x.a,if x.a=0 then 1 else -x.s⟩
theorem neg_ok {x:Rl} (hx:x.Ok):x.neg.Ok:=by
 have hs:=hx.sg;unfold Rl.neg;by_cases h:x.a=0
 · exact ⟨.inl (if_pos h),.inl ⟨h,if_pos h⟩⟩
 · refine ⟨?_,?_⟩
   · show (if x.a=0 then (1:Int) else -x.s)=1∨(if x.a=0 then (1:Int) else -x.s)=-1;rw [if_neg h];omega
   · rcases hx.form with ⟨h1,_⟩ | h1
     · exact absurd h1 h
     · exact .inr h1
theorem neg_val (x:Rl) (n:Nat):x.neg.val n=-x.val n:=by
 unfold Rl.val Rl.neg;dsimp only;by_cases h:x.a=0
 · rw [h,up_zero];grind
 · rw [if_neg h,Rat.intCast_neg];grind
theorem neg_cmp {x y:Rl} (hx:x.Ok) (hy:y.Ok):cmpX x.neg y.neg=cmpX y x:=by
 have s:=cmp_says hy hx
 have lt:∀ {x y:Rl},x.Ok→y.Ok→cmpX y x=-1→cmpX x.neg y.neg=-1:=fun {x y} hx hy h =>
  cmp_of_ev (neg_ok hx) (neg_ok hy) (((cmp_says hy hx).lt h).mono fun n hn=>by rw [neg_val,neg_val];grind)
 rcases s.three with e | e | e
 · rw [lt hx hy e,e]
 · rw [s.eq e];rw [(cmp_zero (neg_ok hx) (neg_ok hx)).2 rfl,(cmp_zero hx hx).2 rfl]
 · have h:=lt hy hx (by rw [cmp_anti hy hx,e]);rw [cmp_anti (neg_ok hy) (neg_ok hx),h,e]
   rfl
theorem neg_of (q:Rat):(Rl.of q).neg=Rl.of (-q):=by
 unfold Rl.neg Rl.of;rw [if_pos rfl]
theorem ref_den {x y:Rl} (hx:x.Ok) (hy:y.Ok) {n m k:Nat} (h:SimpP (In x y) n m) (h1:cmpX (Rl.of ((k:Rat) / (m:Rat))) x≤0) (h2:cmpX x (Rl.of (((k+1:Nat):Rat) / (m:Rat)))=-1):k+1=n:=by
 have hm:=h.inn.den;have h0:=cast_pos hm
 have le:∀ p q:Nat,p≤q→(p:Rat) / (m:Rat)≤(q:Rat) / (m:Rat):=fun p q hpq=>by
  have e1:=div_mul (p:=(p:Rat)) h0;have e2:=div_mul (p:=(q:Rat)) h0;have e3:(p:Rat)≤(q:Rat):=Rat.natCast_le_natCast.2 hpq;by_cases h3:(p:Rat) / (m:Rat)≤(q:Rat) / (m:Rat)
  · exact h3
  · have:=Rat.mul_pos (show 0<(p:Rat) / (m:Rat)-(q:Rat) / (m:Rat) by grind) h0;grind
 have h3:=of_lt.1 (le_lt (of_ok _) hx (of_ok _) h1 h.inn.low)
 have h4:k<n:=by
  by_cases h5:k<n
  · exact h5
  · have:=le n k om;grind
 have h5:In x y (k+1) m:=⟨hm,h2,le_lt (of_ok _) (of_ok _) hy (of_le.2 (le _ _ h4)) h.inn.high⟩;have:=(h.min _ _ h5).1;omega
theorem cross (a b c d:Nat) (hb:0<b) (hd:0<d) (h:a*d≤c*b):(a:Rat) / (b:Rat)≤(c:Rat) / (d:Rat):=by
 have e1:=div_mul (p:=(a:Rat)) (cast_pos hb);have e2:=div_mul (p:=(c:Rat)) (cast_pos hd)
 have e3:(a:Rat)*(d:Rat)≤(c:Rat)*(b:Rat):=by
  rw [←Rat.natCast_mul,←Rat.natCast_mul];exact Rat.natCast_le_natCast.2 h
 have hb':=cast_pos hb;have hd':=cast_pos hd;generalize (a:Rat) / (b:Rat)=X at *;generalize (c:Rat) / (d:Rat)=Y at *;by_cases h3:X≤Y
 · exact h3
 · have h4:=Rat.mul_pos hb' hd';have h5:=Rat.mul_pos (show 0<X-Y by grind) h4;have h6:(X-Y)*((b:Rat)*(d:Rat))=(X*(b:Rat))*(d:Rat)-(Y*(d:Rat))*(b:Rat):=by grind
   rw [e1,e2] at h6;grind
theorem in_less {x y:Rl} (hx:x.Ok) (hy:y.Ok) {n m:Nat} (hm:2≤m) (h1:In x y n m) (h2:In x y (n+1) m):In x y (n-n / m) (m-1):=by
 have e:=Nat.div_add_mod n m;have hr:=Nat.mod_lt n (show 0<m by omega);have hq:n / m≤n:=Nat.div_le_self n m;generalize n / m=q at *;generalize n%m=r at *;obtain ⟨j,rfl⟩:∃ j,n=j+q:=⟨n-q,om⟩
 obtain ⟨l,rfl⟩:∃ l,m=l+1:=⟨m-1,om⟩
 rw [show j+q-q=j by omega,show l+1-1=l by omega];have hl:0<l:=om;rw [Nat.add_mul,Nat.one_mul] at e;refine ⟨hl,lt_le hx (of_ok _) (of_ok _) h1.low (of_le.2 (cross _ _ _ _ om hl ?_)),le_lt (of_ok _) (of_ok _) hy (of_le.2 (cross _ _ _ _ hl om ?_)) h2.high⟩
 · rw [Nat.add_mul,Nat.mul_add];have:=Nat.mul_comm q l;omega
 · rw [Nat.mul_add,Nat.add_mul,Nat.add_mul];have:=Nat.mul_comm q l;omega
theorem in_only {x y:Rl} (hx:x.Ok) (hy:y.Ok) {n m p:Nat} (h:SimpP (In x y) n m) (hm:2≤m) (hp:In x y p m):p=n:=by
 have h1:=(h.min _ _ hp).1;by_cases h2:p=n
 · exact h2
 · exfalso;have h0:=cast_pos h.inn.den
   have h3:In x y (n+1) m:=by
    refine ⟨h.inn.den,?_,?_⟩
    · refine lt_le hx (of_ok _) (of_ok _) h.inn.low (of_le.2 ?_);have e1:=div_mul (p:=(n:Rat)) h0;have e2:=div_mul (p:=((n+1:Nat):Rat)) h0;have e3:(n:Rat)≤((n+1:Nat):Rat):=Rat.natCast_le_natCast.2 om;by_cases h3:(n:Rat) / (m:Rat)≤((n+1:Nat):Rat) / (m:Rat)
      · exact h3
      · have:=Rat.mul_pos (show 0<(n:Rat) / (m:Rat)-((n+1:Nat):Rat) / (m:Rat) by grind) h0;grind
    · refine le_lt (of_ok _) (of_ok _) hy (of_le.2 ?_) hp.high;have e1:=div_mul (p:=(p:Rat)) h0;have e2:=div_mul (p:=((n+1:Nat):Rat)) h0;have e3:((n+1:Nat):Rat)≤(p:Rat):=Rat.natCast_le_natCast.2 om;by_cases h3:((n+1:Nat):Rat) / (m:Rat)≤(p:Rat) / (m:Rat)
      · exact h3
      · have:=Rat.mul_pos (show 0<((n+1:Nat):Rat) / (m:Rat)-(p:Rat) / (m:Rat) by grind) h0;grind
   have:=(h.min _ _ (in_less hx hy hm h.inn h3)).2;omega
def Sq (r:Rat):Prop:=∃ z:Rat,0≤z∧z*z=r
open Classical in
noncomputable def rt (r:Rat):Rat:=if h:Sq r then h.choose else 0
theorem root_one {z w:Rat} (hz:0≤z) (hw:0≤w) (h:z*z=w*w):z=w:=by
 by_cases h1:z=w
 · exact h1
 · have h2:(z-w)*(z+w)=0:=by grind
   rcases Rat.mul_eq_zero.1 h2 with h3 | h3<;>grind
theorem rt_eq {z r:Rat} (hz:0≤z) (h:z*z=r):rt r=z:=by
 have hs:Sq r:=⟨z,hz,h⟩;unfold rt;rw [dif_pos hs];exact root_one hs.choose_spec.1 hz (by rw [hs.choose_spec.2,h])
theorem nsq_sq {r:Rat}:NSq r↔¬Sq r:=by
 constructor
 · rintro h ⟨z,_,e⟩;exact h z e
 · intro h z e;by_cases hz:0≤z
   · exact h ⟨z,hz,e⟩
   · exact h ⟨-z,by grind,by grind⟩
open Classical in
noncomputable def mkR (p q r:Rat):Rl:=if Sq r then ⟨p+q*rt r,0,1⟩ else if q=0 then ⟨p,0,1⟩ else ⟨p,q*q*r,if q<0 then -1 else 1⟩
open Classical in
noncomputable def sumP (p:Rat) (s:Int) (r:Rat):Rl:=if Sq r then (if s<0 then ⟨p-rt r,0,1⟩ else ⟨p+rt r,0,1⟩) else ⟨p,r,if s<0 then -1 else 1⟩
theorem nsq_by {r c:Rat} (hc:c≠0) (h:¬Sq r):¬Sq (c*c*r):=by
 rintro ⟨z,hz,e⟩;obtain ⟨w,hw⟩:∃ w:Rat,c*w=1:=⟨c⁻¹,Rat.mul_inv_cancel _ hc⟩
 refine nsq_sq.2 h (z*w) ?_;grind
theorem make_same (p q r:Rat):sumP p (sgq q) (q*q*r)=mkR p q r:=by
 have sg:(sgq q<0↔q<0):=by rcases sgq_three q with ⟨k,e⟩ | ⟨k,e⟩ | ⟨k,e⟩<;>rw [e]<;>constructor<;>intro h<;>grind
 unfold sumP mkR;by_cases hr:Sq r
 · rw [if_pos hr];obtain ⟨z,hz,e⟩:=hr;rw [rt_eq hz e];by_cases hq:q<0
   · have h0:0≤-q*z:=Rat.mul_nonneg (by grind) hz;have h1:(-q*z)*(-q*z)=q*q*r:=by grind
     rw [if_pos ⟨_,h0,h1⟩,if_pos (sg.2 hq),rt_eq h0 h1]
     congr 1
     grind
   · have h0:0≤q*z:=Rat.mul_nonneg (by grind) hz;have h1:(q*z)*(q*z)=q*q*r:=by grind
     rw [if_pos ⟨_,h0,h1⟩,if_neg (fun h=>hq (sg.1 h)),rt_eq h0 h1]
 · rw [if_neg hr];by_cases hq:q=0
   · subst hq;have h1:(0:Rat)*0=0*0*r:=by grind
     rw [if_pos ⟨0,by grind,h1⟩,if_pos rfl,if_neg (fun h=>absurd (sg.1 h) (by grind)),rt_eq (z:=0) (by grind) h1]
     congr 1
     grind
   · rw [if_neg (nsq_by hq hr),if_neg hq]
     congr 1
     by_cases h:q<0
     · rw [if_pos (sg.2 h),if_pos h]
     · rw [if_neg (fun k=>h (sg.1 k)),if_neg h]
theorem ok_cases {x:Rl} (hx:x.Ok):(x.a=0∧x.s=1)∨(0<x.a∧¬Sq x.a):=by
 rcases hx.form with h | ⟨h1,h2⟩
 · exact .inl h
 · exact .inr ⟨h1,nsq_sq.1 h2⟩
theorem mkR_zero (p q:Rat):mkR p q 0=Rl.of p:=by
 unfold mkR Rl.of;have h:Sq 0:=⟨0,by grind,by grind⟩;rw [if_pos h,rt_eq (z:=0) (by grind) (by grind)]
 congr 1
 grind
theorem add_mk {x:Rl} (hx:x.Ok) (r:Rat):mkR (x.p+r) (x.s:Rat) x.a=x.add r:=by
 rcases ok_cases hx with ⟨h1,h2⟩ | ⟨h1,h2⟩
 · rw [h1,mkR_zero];exact Rl.ext' rfl h1.symm h2.symm
 · unfold mkR;rw [if_neg h2];rcases hx.sg with e | e
   · rw [e,if_neg dc,if_neg dc];exact Rl.ext' rfl (by show (1:Rat)*1*x.a=x.a;grind) e.symm
   · rw [e,if_neg dc,if_pos dc];exact Rl.ext' rfl (by show (-1:Rat)*-1*x.a=x.a;grind) e.symm
def Rl.scale (x:Rl) (r:Rat):Rl:=if x.a=0 then ⟨x.p*r,0,1⟩ else ⟨x.p*r,x.a*(r*r),if r<0 then -x.s else x.s⟩
theorem scale_mk {x:Rl} (hx:x.Ok) {r:Rat} (hr:r≠0):mkR (x.p*r) (r*(x.s:Rat)) x.a=x.scale r:=by
 rcases ok_cases hx with ⟨h1,h2⟩ | ⟨h1,h2⟩
 · unfold Rl.scale;rw [h1,mkR_zero,if_pos rfl]
   rfl
 · unfold mkR Rl.scale;rw [if_neg h2,if_neg (show x.a≠0 by grind)];rcases hx.sg with e | e
   · rw [e];have e1:r*((1:Int):Rat)=r:=by show r*(1:Rat)=r;grind
     rw [e1,if_neg hr];exact Rl.ext' rfl (by show r*r*x.a=_;grind) rfl
   · rw [e];have e1:r*((-1:Int):Rat)=-r:=by show r*(-1:Rat)=-r;grind
     rw [e1,if_neg (by grind)];refine Rl.ext' rfl (by show -r*-r*x.a=_;grind) ?_;show (if -r<0 then (-1:Int) else 1)=if r<0 then - -1 else -1
     by_cases h:r<0
     · rw [if_neg (by grind),if_pos h]
       rfl
     · rw [if_pos (by grind),if_neg h]
theorem neg_scale {x:Rl} (hx:x.Ok):x.scale (-1)=x.neg:=by
 unfold Rl.scale Rl.neg;rcases ok_cases hx with ⟨h1,_⟩ | ⟨h1,_⟩
 · rw [if_pos h1,if_pos h1,h1]
   congr 1
   grind
 · rw [if_neg (show x.a≠0 by grind),if_neg (show x.a≠0 by grind),if_pos (by grind)]
   congr 1<;>grind
theorem add_back (x:Rl) (r:Rat):(x.add r).add (-r)=x:=Rl.ext' (by show x.p+r+-r=x.p;grind) rfl rfl
theorem inv_mk {x:Rl} (hx:x.Ok) (hxa:0<x.a) {m:Rat} (hm:m≠0):mkR (x.p*m) (-(x.s:Rat)*m) x.a=x.inv m:=by
 have h2:¬Sq x.a:=by
  rcases ok_cases hx with ⟨h1,_⟩ | ⟨_,h⟩
  · grind
  · exact h
 have hs:∀ s:Int,s=1∨s=-1→(-(s:Rat)*m=0→False)∧-(s:Rat)*m*(-(s:Rat)*m)*x.a=x.a*(m*m)∧(if -(s:Rat)*m<0 then (-1:Int) else 1)=if 0<m then -s else s:=fun s hs=>by
  rcases hs with rfl | rfl
  · have e:-((1:Int):Rat)*m=-m:=by show -(1:Rat)*m=-m;grind
    rw [e];refine ⟨fun h=>hm (by grind),by grind,?_⟩;by_cases h:0<m
    · rw [if_pos (by grind),if_pos h]
    · rw [if_neg (by grind),if_neg h]
  · have e:-((-1:Int):Rat)*m=m:=by show -(-1:Rat)*m=m;grind
    rw [e];refine ⟨fun h=>hm h,by grind,?_⟩;by_cases h:0<m
    · rw [if_neg (by grind),if_pos h]
      rfl
    · rw [if_pos (by grind),if_neg h]
 obtain ⟨k1,k2,k3⟩:=hs _ hx.sg;unfold mkR Rl.inv;rw [if_neg h2,if_neg k1,k2,k3]
theorem in_neg {x y:Rl} (hx:x.Ok) (hy:y.Ok) {p q:Nat}:In y.neg x.neg p q↔0<q∧cmpX x (Rl.of (-((p:Rat) / (q:Rat))))=-1∧cmpX (Rl.of (-((p:Rat) / (q:Rat)))) y=-1:=by
 have e1:cmpX y.neg (Rl.of ((p:Rat) / (q:Rat)))=cmpX (Rl.of (-((p:Rat) / (q:Rat)))) y:=by
  have h:=neg_cmp hy (of_ok (-((p:Rat) / (q:Rat))));rw [neg_of,show - -((p:Rat) / (q:Rat))=(p:Rat) / (q:Rat) by grind] at h;exact h
 have e2:cmpX (Rl.of ((p:Rat) / (q:Rat))) x.neg=cmpX x (Rl.of (-((p:Rat) / (q:Rat)))):=by
  have h:=neg_cmp (of_ok (-((p:Rat) / (q:Rat)))) hx;rw [neg_of,show - -((p:Rat) / (q:Rat))=(p:Rat) / (q:Rat) by grind] at h;exact h
 constructor
 · rintro ⟨h1,h2,h3⟩;exact ⟨h1,by rw [←e2];exact h3,by rw [←e1];exact h2⟩
 · rintro ⟨h1,h2,h3⟩;exact ⟨h1,by rw [e1];exact h3,by rw [e2];exact h2⟩
theorem between_ex {iv:Rl→Rl} (hiv:∀ x:Rl,x.Ok→cmpX (Rl.of 0) x=-1→InvR x (iv x)) {x y:Rl} (hx:x.Ok) (hy:y.Ok) (h0:cmpX (Rl.of 0) x≤0) (h:cmpX x y=-1):∃ n m,Run iv x y n m∧SimpP (In x y) n m:=by
 obtain ⟨r,h1,h2⟩:=dense hx hy h;have hr:0<r:=of_lt.1 (le_lt (of_ok _) hx (of_ok _) h0 h1)
 have hn:0<r.num:=by
  have e2:=times_den r;have h5:(0:Rat)<((r.den:Int):Rat):=by rw [Rat.intCast_natCast];exact cast_pos r.den_pos
  have h6:=Rat.mul_pos hr h5;rw [e2] at h6;exact Rat.intCast_lt_intCast.1 h6
 have e:((r.num.toNat:Nat):Rat) / (r.den:Rat)=r:=by
  have e1:=div_mul (p:=((r.num.toNat:Nat):Rat)) (cast_pos r.den_pos);have e2:=times_den r
  have e3:((r.num.toNat:Nat):Rat)=(r.num:Rat):=by
   rw [←Rat.intCast_natCast,Int.toNat_of_nonneg om]
  rw [e3] at e1 ⊢;rw [Rat.intCast_natCast] at e2;have h5:=cast_pos r.den_pos;generalize (r.num:Rat) / (r.den:Rat)=X at *;have h6:(X-r)*(r.den:Rat)=0:=by grind
  rcases Rat.mul_eq_zero.1 h6 with h7 | h7<;>grind
 exact run_simp hiv r.den (Nat.le_refl _) hx hy h0 (p:=r.num.toNat) ⟨r.den_pos,by rw [e];exact h1,by rw [e];exact h2⟩
end Go.Proofs.YtpnokfgplnmjpaaGreatDoor.Sg
namespace Go.Proofs.YtpnokfgplnmjpaaGreatDoor
open Go.RowKit
theorem order_anyN (A B:Option Addr) (n m c d X Y:Nat) (w:World) (hn:n≤1000000000000) (hm:m≤1000000000000) (hx:Dg w .i64 256 A n X) (hy:Dg w .i64 256 B m Y) :
  Calls Tryz.prog 156 #[.slice A n c,.slice B m d] w (RetV w (.int .i64 (ord X Y))):=by
 have hstep:∀ j,X / 256^(j+1)=Y / 256^(j+1)→D 256 X j=D 256 Y j→X / 256^j=Y / 256^j:=fun j h1 h2=>by rw [div_D 256 X j,div_D 256 Y j,h1,h2]
 have hlo:∀ j,X / 256^(j+1)=Y / 256^(j+1)→D 256 X j<D 256 Y j→ord X Y=-1:=fun j h1 h2=>ord_lt (lt_of_digit h1 h2)
 have hhi:∀ j,X / 256^(j+1)=Y / 256^(j+1)→D 256 Y j<D 256 X j→ord X Y=1:=fun j h1 h2=>ord_gt (lt_of_digit h1.symm h2)
 have hst:∀ N,n≤N→m≤N→X / 256^N=Y / 256^N:=fun N h1 h2=>by
  have a1:256^n≤256^N:=Nat.pow_le_pow_right om h1;have a2:256^m≤256^N:=Nat.pow_le_pow_right om h2;have a3:=hx.lt;have a4:=hy.lt;rw [Nat.div_eq_of_lt om,Nat.div_eq_of_lt om]
 have HX:=hid hx;have HY:=hid hy;have HS:=hid hstep;have HL:=hid hlo;have HH:=hid hhi;have HT:=hid hst;clear hx hy hstep hlo hhi hst;by_cases hnm:n<m
 all_goals
  go_enter Tryz.func156,Tryz.ntmps156;go_wp2
  go_loop [5] (fun i=>∃ k:Nat,k≤1000000000000∧i=.int .i64 ((k:Int)-1)∧X / 256^k=Y / 256^k) (fun i=>(intOf i+1).toNat)
  case atStart=>first | exact ⟨m,hm,rfl,HT.out _ om om⟩ | exact ⟨n,hn,rfl,HT.out _ om om⟩
  case round =>
   obtain ⟨k,hk,rfl,heq⟩:=hrel;have HE:=hid heq;clear heq;rcases k with _ | j
   · have e:(((0:Nat):Int)-1)=-1:=rfl;rw [e];go_wp2
     go_ret
     have h:=HE.out;simp at h;subst h;exact ⟨congrArg (fun z=>Ending.returned (.int .i64 z)) (ord_eq X).symm,rfl⟩
   · have e:(((j+1:Nat):Int)-1)=(j:Int):=om;rw [e];clear e;rcases Nat.lt_trichotomy (D 256 X j) (D 256 Y j) with h | h | h
     · go_wp2_with fail
       refine (at_any A n c X j _ om om HX.out).mono ?_;rintro e w' ⟨rfl,rfl⟩;go_wp2_with fail
       refine (at_any B m d Y j _ om om HY.out).mono ?_;rintro e w' ⟨rfl,rfl⟩;go_wp2
       go_ret
       exact ⟨congrArg (fun z=>Ending.returned (.int .i64 z)) (HL.out j HE.out h).symm,rfl⟩
     · have HD:=hid h;have h1:D 256 X j≤D 256 Y j:=om;have h2:D 256 Y j≤D 256 X j:=om;clear h;go_wp2_with fail
       refine (at_any A n c X j _ om om HX.out).mono ?_;rintro e w' ⟨rfl,rfl⟩;go_wp2_with fail
       refine (at_any B m d Y j _ om om HY.out).mono ?_;rintro e w' ⟨rfl,rfl⟩;go_wp2_with fail
       refine (at_any A n c X j _ om om HX.out).mono ?_;rintro e w' ⟨rfl,rfl⟩;go_wp2_with fail
       refine (at_any B m d Y j _ om om HY.out).mono ?_;rintro e w' ⟨rfl,rfl⟩;go_wp2
       go_round
       case rel=>exact ⟨j,om,by go_num,HS.out j HE.out HD.out⟩
       case measure=>simp [intOf]<;>omega
     · go_wp2_with fail
       refine (at_any A n c X j _ om om HX.out).mono ?_;rintro e w' ⟨rfl,rfl⟩;go_wp2_with fail
       refine (at_any B m d Y j _ om om HY.out).mono ?_;rintro e w' ⟨rfl,rfl⟩;go_wp2_with fail
       refine (at_any A n c X j _ om om HX.out).mono ?_;rintro e w' ⟨rfl,rfl⟩;go_wp2_with fail
       refine (at_any B m d Y j _ om om HY.out).mono ?_;rintro e w' ⟨rfl,rfl⟩;go_wp2
       go_ret
       exact ⟨congrArg (fun z=>Ending.returned (.int .i64 z)) (HH.out j HE.out h).symm,rfl⟩
end Go.Proofs.YtpnokfgplnmjpaaGreatDoor
namespace Go.Proofs.YtpnokfgplnmjpaaGreatDoor.Sg
theorem frac_room {q:Rat} {c d:Int} (hc:c≠0) (h:(c:Rat)*q=(d:Rat)):q.num.natAbs≤d.natAbs∧q.den≤c.natAbs:=by
 have ht:=times_den q
 have h1:c*q.num=d*(q.den:Int):=by
  have h2:((c*q.num:Int):Rat)=((d*(q.den:Int):Int):Rat):=by
   rw [Rat.intCast_mul,Rat.intCast_mul];grind
  exact Rat.intCast_inj.1 h2
 have h3:c.natAbs*q.num.natAbs=d.natAbs*q.den:=by
  have:=congrArg Int.natAbs h1
  rwa [Int.natAbs_mul,Int.natAbs_mul,Int.natAbs_natCast] at this
 have hr:=q.reduced;constructor
 · by_cases hd:d=0
   · subst hd
     have:q.num.natAbs=0:=by
      rcases Nat.mul_eq_zero.1 (h3.trans (by simp)) with h | h
      · omega
      · exact h
     omega
   · refine Nat.le_of_dvd om (hr.dvd_of_dvd_mul_right ?_);rw [←h3];exact Nat.dvd_mul_left _ _
 · refine Nat.le_of_dvd om (hr.symm.dvd_of_dvd_mul_right ?_);rw [h3];exact Nat.dvd_mul_left _ _
def Fm (M:Nat) (x:Rl):Prop :=
 (x.a=0∧∃ u v:Int,v≠0∧(v:Rat)*x.p=(u:Rat)∧u.natAbs≤M∧v.natAbs≤M) ∨
 (0<x.a∧NSq x.a∧∃ A B C:Int,A≠0∧((2*A:Int):Rat)*x.p=((-B:Int):Rat)∧((4*(A*A):Int):Rat)*x.a=((B*B-4*(A*C):Int):Rat)∧A.natAbs≤M∧B.natAbs≤M∧C.natAbs≤M∧(B*B-4*(A*C)).natAbs≤M)
theorem Fm.room {M:Nat} {x:Rl} (h:Fm M x) (hM:1≤M):x.p.num.natAbs≤M∧x.p.den≤2*M∧x.a.num.natAbs≤M∧x.a.den≤4*(M*M):=by
 have hMM:M≤M*M:=Nat.le_mul_of_pos_left M hM;rcases h with ⟨h0,u,v,hv,e,h1,h2⟩ | ⟨h0,-,A,B,C,hA,e1,e2,h1,h2,h3,h4⟩
 · obtain ⟨r1,r2⟩:=frac_room hv e;rw [h0];exact ⟨om,om,by show 0≤M;omega,by show 1≤_;omega⟩
 · obtain ⟨r1,r2⟩:=frac_room om e1;have hAA:A*A≠0:=fun e=>by rcases Int.mul_eq_zero.1 e with e | e<;>exact hA e
   obtain ⟨r3,r4⟩:=frac_room om e2;have h5:(A*A).natAbs≤M*M:=by rw [Int.natAbs_mul];exact Nat.mul_le_mul h1 h1
   exact ⟨om,om,om,om⟩
theorem sq_nat (x:Int):x.natAbs≤(x*x).natAbs:=by
 rw [Int.natAbs_mul];rcases Nat.eq_zero_or_pos x.natAbs with h | h
 · omega
 · exact Nat.le_mul_of_pos_left _ h
theorem sq_int (x:Int):0≤x*x:=by
 rcases Int.le_total 0 x with h | h
 · exact Int.mul_nonneg h h
 · exact Int.mul_nonneg_of_nonpos_of_nonpos h h
theorem pos_root {y:Rl} (hy:y.Ok) (ha:0<y.a) (h0:cmpX (Rl.of 0) y=-1) (hp:y.a<y.p*y.p):0<y.p:=by
 have h1:cmpX y (Rl.of 0)=1:=by rw [cmp_anti (of_ok 0) hy,h0];rfl
 rw [cmp_root ha] at h1;unfold sos at h1;rcases sgq_three (y.p-0) with ⟨k,e⟩ | ⟨k,e⟩ | ⟨k,e⟩
 · exfalso;rw [e] at h1;rw [sgq_neg (x:=y.a-(y.p-0)*(y.p-0)) (by grind)] at h1;rcases hy.sg with s | s<;>rw [s] at h1<;>revert h1<;>decide
 · exfalso;have:y.p=0:=by grind
   rw [this] at hp;grind
 · grind
theorem Fm.shift {M:Nat} {x:Rl} (h:Fm M x) (n:Nat) (hy:(x.add (-(n:Rat))).Ok) (h0:cmpX (Rl.of 0) (x.add (-(n:Rat)))=-1):Fm M (x.add (-(n:Rat))):=by
 have hn:((n:Int):Rat)=(n:Rat):=Rat.intCast_natCast n;rcases h with ⟨ha,u,v,hv,e,h1,h2⟩ | ⟨ha,hq,A,B,C,hA,e1,e2,h1,h2,h3,h4⟩
 · refine .inl ⟨ha,u-(n:Int)*v,v,hv,?_,?_,h2⟩
   · show (v:Rat)*(x.p+-(n:Rat))=_;rw [Rat.intCast_sub,Rat.intCast_mul,hn];grind
   · -- the part above is positive
     have hp:0<x.p+-(n:Rat):=by
      have hs:(x.add (-(n:Rat)))=Rl.of (x.p+-(n:Rat)):=by
       rcases ok_cases hy with ⟨_,s⟩ | ⟨k,_⟩
       · exact Rl.ext' rfl ha s
       · have:(x.add (-(n:Rat))).a=x.a:=rfl;rw [this,ha] at k;exact absurd k dc
      rw [hs] at h0;have:=of_lt.1 h0;exact this
     have e':((u-(n:Int)*v:Int):Rat)=(v:Rat)*(x.p+-(n:Rat)):=by
      rw [Rat.intCast_sub,Rat.intCast_mul,hn];grind
     rcases Int.lt_or_lt_of_ne hv with hneg | hpos
     · have h5 : ((u - (n : Int) * v : Int) : Rat) < 0 := by
        rw [e'];have:=Rat.mul_pos (show 0 < -(v:Rat) by rw [←Rat.intCast_neg];exact Rat.intCast_pos.2 om) hp;grind
       have h6:u-(n:Int)*v<0:=by
        have h7:((u-(n:Int)*v:Int):Rat)<((0:Int):Rat):=h5;exact Rat.intCast_lt_intCast.1 h7
       have h8:(n:Int)*v≤0:=Int.mul_nonpos_of_nonneg_of_nonpos om om;omega
     · have h5 : (0 : Rat) < ((u - (n : Int) * v : Int) : Rat) := by
        rw [e'];exact Rat.mul_pos (Rat.intCast_pos.2 hpos) hp
       have h6:0<u-(n:Int)*v:=Rat.intCast_pos.1 h5;have h8:0≤(n:Int)*v:=Int.mul_nonneg om om;omega
 · -- the quadratic moved
   obtain ⟨B',hB'⟩:∃ B',B'=B+2*(A*(n:Int)):=⟨_,rfl⟩
   obtain ⟨C',hC'⟩:∃ C',C'=A*((n:Int)*(n:Int))+B*(n:Int)+C:=⟨_,rfl⟩
   have hD:B'*B'-4*(A*C')=B*B-4*(A*C):=by rw [hB',hC'];grind
   have f1:((2*A:Int):Rat)*(x.p+-(n:Rat))=((-B':Int):Rat):=by
    have h6:((2:Int):Rat)=2:=rfl;rw [hB'];simp only [Rat.intCast_neg,Rat.intCast_add,Rat.intCast_mul] at e1 ⊢;rw [hn,h6];rw [h6] at e1;grind
   have f2:((4*(A*A):Int):Rat)*x.a=((B'*B'-4*(A*C'):Int):Rat):=by rw [hD];exact e2
   have hAA:=sq_int A;have hBB:=sq_int B'
   have hA2:0<A*A:=by
    rcases Int.lt_or_lt_of_ne hA with h | h
    · exact Int.mul_pos_of_neg_of_neg h h
    · exact Int.mul_pos h h
   have key:B'.natAbs≤M∧C'.natAbs≤M:=by
    rcases Int.lt_trichotomy (A*C') 0 with g | g | g
    · -- roots of two signs
      have b1:=sq_nat B';have b2:(A*C').natAbs=A.natAbs*C'.natAbs:=Int.natAbs_mul _ _;have b3:C'.natAbs≤A.natAbs*C'.natAbs:=Nat.le_mul_of_pos_left _ om;rw [←hD] at h4;omega
    · -- a square
      exfalso;rw [g] at f2
      have hA4:((2*A:Int):Rat)≠0:=fun e=>by
       have:(2*A:Int)=0:=Rat.intCast_inj.1 e;omega
      obtain ⟨w,hw⟩:∃ w:Rat,((2*A:Int):Rat)*w=1:=⟨_,Rat.mul_inv_cancel _ hA4⟩
      refine hq ((B':Rat)*w) ?_;rw [Rat.intCast_mul] at hw;rw [Rat.intCast_mul,Rat.intCast_mul,Rat.intCast_sub,Rat.intCast_mul,Rat.intCast_mul] at f2;have h5:((4:Int):Rat)=4:=rfl;have h6:((2:Int):Rat)=2:=rfl;have h7:((0:Int):Rat)=0:=rfl;rw [h5,h7] at f2;rw [h6] at hw;have h8:(B':Rat)*(B':Rat)=4*((A:Rat)*(A:Rat))*x.a:=by grind
      have h9:((B':Rat)*w)*((B':Rat)*w)=(2*(A:Rat)*w)*(2*(A:Rat)*w)*x.a:=by grind
      rw [h9,hw];grind
    · -- both roots are positive
      have hp2:x.a<(x.p+-(n:Rat))*(x.p+-(n:Rat)):=by
       have g':(0:Rat)<((A*C':Int):Rat):=Rat.intCast_pos.2 g;have hAA':(0:Rat)<((A*A:Int):Rat):=Rat.intCast_pos.2 hA2;rw [Rat.intCast_mul] at g' hAA';rw [Rat.intCast_mul,Rat.intCast_mul,Rat.intCast_sub,Rat.intCast_mul,Rat.intCast_mul,Rat.intCast_mul] at f2;rw [Rat.intCast_mul,Rat.intCast_neg] at f1;have h5:((4:Int):Rat)=4:=rfl;have h6:((2:Int):Rat)=2:=rfl;rw [h5] at f2;rw [h6] at f1;generalize x.p+-(n:Rat)=P at *;have h7:4*((A:Rat)*(A:Rat))*(P*P-x.a)=4*((A:Rat)*(C':Rat)):=by grind
       rcases Rat.le_total (a:=P*P) (b:=x.a) with h8 | h8
       · exfalso;have:=Rat.mul_le_mul_of_nonneg_left (show P*P-x.a≤0 by grind) (Rat.le_of_lt hAA');grind
       · rcases Rat.le_iff_lt_or_eq.1 h8 with h9 | h9
         · exact h9
         · exfalso;rw [h9] at h7;grind
      have hpp:=pos_root (y:=x.add (-(n:Rat))) hy ha h0 hp2;have hpp':0<x.p+-(n:Rat):=hpp
      -- the signs of the coefficients
      have hAB:A*B'<0:=by
       have hAA':(0:Rat)<((A*A:Int):Rat):=Rat.intCast_pos.2 hA2;have h5:=Rat.mul_pos hAA' hpp'
       have h6:((A*B':Int):Rat)<((0:Int):Rat):=by
        rw [Rat.intCast_mul] at h5 ⊢;rw [Rat.intCast_mul,Rat.intCast_neg] at f1;have h7:((2:Int):Rat)=2:=rfl;have h8:((0:Int):Rat)=0:=rfl;rw [h7] at f1;rw [h8]
        have h9:(A:Rat)*(B':Rat)=-(2*((A:Rat)*(A:Rat)*(x.p+-(n:Rat)))):=by
         generalize x.p+-(n:Rat)=P at *;clear e1 e2 f2 h5 hp2;grind
        rw [h9];generalize (A:Rat)*(A:Rat)*(x.p+-(n:Rat))=Y at *;clear e1 e2 f1 f2 hp2;grind
       exact Rat.intCast_lt_intCast.1 h6
      have nn:(0:Int)≤(n:Int):=om;have nn2:(0:Int)≤(n:Int)*(n:Int):=Int.mul_nonneg nn nn;have hC0:C=C'-B'*(n:Int)+A*((n:Int)*(n:Int)):=by rw [hC',hB'];grind
      rcases Int.lt_or_lt_of_ne hA with hneg | hpos
      · have b1 : 0 < B' := by
         rcases Int.lt_or_le 0 B' with h | h
         · exact h
         · have:=Int.mul_nonneg_of_nonpos_of_nonpos (Int.le_of_lt hneg) h;omega
        have c1:C'<0:=by
         rcases Int.lt_or_le C' 0 with h | h
         · exact h
         · have:=Int.mul_nonpos_of_nonpos_of_nonneg (Int.le_of_lt hneg) h;omega
        have d1:A*(n:Int)≤0:=Int.mul_nonpos_of_nonpos_of_nonneg (Int.le_of_lt hneg) nn;have d2:0≤B'*(n:Int):=Int.mul_nonneg (Int.le_of_lt b1) nn;have d3:A*((n:Int)*(n:Int))≤0:=Int.mul_nonpos_of_nonpos_of_nonneg (Int.le_of_lt hneg) nn2;omega
      · have b1 : B' < 0 := by
         rcases Int.lt_or_le B' 0 with h | h
         · exact h
         · have:=Int.mul_nonneg (Int.le_of_lt hpos) h;omega
        have c1:0<C':=by
         rcases Int.lt_or_le 0 C' with h | h
         · exact h
         · have:=Int.mul_nonpos_of_nonneg_of_nonpos (Int.le_of_lt hpos) h;omega
        have d1:0≤A*(n:Int):=Int.mul_nonneg (Int.le_of_lt hpos) nn;have d2:B'*(n:Int)≤0:=Int.mul_nonpos_of_nonpos_of_nonneg (Int.le_of_lt b1) nn;have d3:0≤A*((n:Int)*(n:Int)):=Int.mul_nonneg (Int.le_of_lt hpos) nn2;omega
   exact .inr ⟨ha,hq,A,B',C',hA,f1,f2,h1,key.1,key.2,by rw [hD];exact h4⟩
theorem Fm.turn {M:Nat} {y:Rl} (h:Fm M y) (hy:y.Ok) (ha:0<y.a) {m:Rat} (hm:(y.p*y.p-y.a)*m=1):Fm M (y.inv m):=by
 rcases h with ⟨h0,_⟩ | ⟨-,hq,A,B,C,hA,e1,e2,h1,h2,h3,h4⟩
 · rw [h0] at ha;exact absurd ha dc
 · have hm0:m≠0:=fun e=>by rw [e] at hm;grind
   have hz:=inv_ok hy ha hq hm0;rcases ok_cases hz with ⟨k,_⟩ | ⟨k1,k2⟩
   · have:0<(y.inv m).a:=Rat.mul_pos ha (sq_pos' hm0);rw [k] at this;exact absurd this dc
   have e1':=e1;have e2':=e2;rw [Rat.intCast_mul,Rat.intCast_neg] at e1';rw [Rat.intCast_mul,Rat.intCast_mul,Rat.intCast_sub,Rat.intCast_mul,Rat.intCast_mul,Rat.intCast_mul] at e2';have h5:((4:Int):Rat)=4:=rfl;have h6:((2:Int):Rat)=2:=rfl;rw [h6] at e1';rw [h5] at e2';have hAr:(A:Rat)≠0:=fun e=>hA (Rat.intCast_inj.1 e)
   -- the norm is C / A
   have hN:(A:Rat)*(y.p*y.p-y.a)=(C:Rat):=by
    have h7:4*(A:Rat)*((A:Rat)*(y.p*y.p-y.a)-(C:Rat))=0:=by grind
    rcases Rat.mul_eq_zero.1 h7 with h8 | h8
    · exfalso;rcases Rat.mul_eq_zero.1 h8 with h9 | h9
      · exact absurd h9 dc
      · exact hAr h9
    · grind
   have hCm:(C:Rat)*m=(A:Rat):=by rw [←hN,Rat.mul_assoc,hm,Rat.mul_one]
   have hC:C≠0:=fun e=>by
    rw [e] at hCm;have:((0:Int):Rat)=0:=rfl;rw [this] at hCm;exact hAr (by grind)
   refine .inr ⟨k1,nsq_sq.2 k2,C,B,A,hC,?_,?_,h3,h2,h1,by rw [Int.mul_comm C A];exact h4⟩
   · show _*(y.p*m)=_;rw [Rat.intCast_mul,Rat.intCast_neg,h6];grind
   · show _*(y.a*(m*m))=_;rw [Rat.intCast_mul,Rat.intCast_mul,Rat.intCast_sub,Rat.intCast_mul,Rat.intCast_mul,Rat.intCast_mul,h5];have:4*((C:Rat)*(C:Rat))*(y.a*(m*m))=4*(((C:Rat)*m)*((C:Rat)*m))*y.a:=by grind
     rw [this,hCm];grind
theorem Fm.flip {M:Nat} {p:Rat} (h:Fm M (Rl.of p)) (hp:p≠0):Fm M (Rl.of (1 / p)):=by
 rcases h with ⟨h0,u,v,hv,e,h1,h2⟩ | ⟨h0,_⟩
 · have e:(v:Rat)*p=(u:Rat):=e
   have hu:u≠0:=fun hu=>by
    rw [hu] at e;have:((0:Int):Rat)=0:=rfl;rw [this] at e;rcases Rat.mul_eq_zero.1 e with h | h
    · exact hv (Rat.intCast_inj.1 h)
    · exact hp h
   refine .inl ⟨rfl,v,u,hu,?_,h2,h1⟩;show (u:Rat)*(1 / p)=(v:Rat);rw [←e];have:=Rat.mul_inv_cancel p hp;grind
 · exact absurd h0 (show ¬(0:Rat)<0 by decide)
theorem fm_small {x:Rl} (ok:x.Ok) {n:Nat} (h1:x.p.num.natAbs<n) (h2:x.p.den<n) (h3:x.a.num.natAbs<n) (h4:x.a.den<n):Fm (4*(n*n*n*n*n*n)) x:=by
 have hn:1≤n:=om;have up:∀ a b c d e f:Nat,a≤n→b≤n→c≤n→d≤n→e≤n→f≤n→a*b*c*d*e*f≤n*n*n*n*n*n:=fun a b c d e f ha hb hc hd he hf=>Nat.mul_le_mul (Nat.mul_le_mul (Nat.mul_le_mul (Nat.mul_le_mul (Nat.mul_le_mul ha hb) hc) hd) he) hf
 have hp:=times_den x.p;have ha:=times_den x.a;rcases ok_cases ok with ⟨k,_⟩ | ⟨k1,k2⟩
 · refine .inl ⟨k,x.p.num,(x.p.den:Int),by have:=x.p.den_pos;omega,by rw [Rat.mul_comm];exact hp,?_,?_⟩
   · have:=up x.p.num.natAbs 1 1 1 1 1 om hn hn hn hn hn;omega
   · have:=up x.p.den 1 1 1 1 1 om hn hn hn hn hn;omega
 · obtain ⟨P,hP⟩:∃ P,P=x.p.num:=⟨_,rfl⟩
   obtain ⟨Q,hQ⟩:∃ Q:Int,Q=(x.p.den:Int):=⟨_,rfl⟩
   obtain ⟨W,hW⟩:∃ W,W=x.a.num:=⟨_,rfl⟩
   obtain ⟨Z,hZ⟩:∃ Z:Int,Z=(x.a.den:Int):=⟨_,rfl⟩
   rw [←hP,←hQ] at hp;rw [←hW,←hZ] at ha;have q1:Q.natAbs<n:=by rw [hQ];exact h2
   have z1:Z.natAbs<n:=by rw [hZ];exact h4
   rw [←hP] at h1;rw [←hW] at h3;have hQ0:Q≠0:=by have:=x.p.den_pos;omega
   have hZ0:Z≠0:=by have:=x.a.den_pos;omega
   have hA0:Q*Q*Z≠0:=fun e=>by
    rcases Int.mul_eq_zero.1 e with e | e
    · rcases Int.mul_eq_zero.1 e with e | e<;>exact hQ0 e
    · exact hZ0 e
   have s1:(Q*Q*Z).natAbs≤n*n*n*n*n*n:=by
    rw [Int.natAbs_mul,Int.natAbs_mul];have:=up Q.natAbs Q.natAbs Z.natAbs 1 1 1 om om om hn hn hn;omega
   have s2:(P*Q*Z).natAbs≤n*n*n*n*n*n:=by
    rw [Int.natAbs_mul,Int.natAbs_mul];have:=up P.natAbs Q.natAbs Z.natAbs 1 1 1 om om om hn hn hn;omega
   have s3:(P*P*Z).natAbs≤n*n*n*n*n*n:=by
    rw [Int.natAbs_mul,Int.natAbs_mul];have:=up P.natAbs P.natAbs Z.natAbs 1 1 1 om om om hn hn hn;omega
   have s4:(Q*Q*W).natAbs≤n*n*n*n*n*n:=by
    rw [Int.natAbs_mul,Int.natAbs_mul];have:=up Q.natAbs Q.natAbs W.natAbs 1 1 1 om om om hn hn hn;omega
   have s5:(Q*Q*Q*Q*Z*W).natAbs≤n*n*n*n*n*n:=by
    rw [Int.natAbs_mul,Int.natAbs_mul,Int.natAbs_mul,Int.natAbs_mul,Int.natAbs_mul];exact up Q.natAbs Q.natAbs Q.natAbs Q.natAbs Z.natAbs W.natAbs om om om om om om
   have hD:(-2*(P*Q*Z))*(-2*(P*Q*Z))-4*((Q*Q*Z)*(P*P*Z-Q*Q*W))=4*(Q*Q*Q*Q*Z*W):=by grind
   refine .inr ⟨k1,nsq_sq.2 k2,Q*Q*Z,-2*(P*Q*Z),P*P*Z-Q*Q*W,hA0,?_,?_,om,om,om,by rw [hD];omega⟩
   · rw [show (2*(Q*Q*Z):Int)=2*(Q*Z)*Q by grind,show (-(-2*(P*Q*Z)):Int)=2*(Q*Z)*P by grind,Rat.intCast_mul,Rat.intCast_mul (2*(Q*Z)) P,←hp];grind
   · rw [hD,show (4*(Q*Q*Z*(Q*Q*Z)):Int)=4*(Q*Q*Q*Q*Z)*Z by grind,show (4*(Q*Q*Q*Q*Z*W):Int)=4*(Q*Q*Q*Q*Z)*W by grind,Rat.intCast_mul,Rat.intCast_mul (4*(Q*Q*Q*Q*Z)) W,←ha];grind
end Go.Proofs.YtpnokfgplnmjpaaGreatDoor.Sg
