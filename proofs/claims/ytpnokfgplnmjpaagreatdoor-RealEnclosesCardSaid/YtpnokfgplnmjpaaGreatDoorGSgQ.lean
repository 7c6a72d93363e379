import Derived.Test.YtpnokfgplnmjpaaGreatDoorGSgD
import Derived.Deep.RegionHeld3
import Derived.Deep.DrawnRows
import Derived.Deep.QuietTactic
import Derived.BigQuiet
import Derived.Test.YtpnokfgplnmjpaaGreatDoorGSgH
set_option linter.unusedSimpArgs false
set_option linter.unusedVariables false

namespace Go.Proofs.YtpnokfgplnmjpaaGreatDoor
open Go.RowKit
attribute [local go_sem ↓] Go.wp_at_zero Go.wp_at_succ

theorem RetZ.form {w:World} {z:Int} {e:Ending} {w':World} (h:RetZ w z e w'):∃ b m,Hid (enc z=.agg #[.bool b,.string m])∧e=.returned (.agg #[.bool b,.string m])∧Below w.heap.size w w':=⟨_,_,rfl,h.1,h.2⟩

theorem heap_fst (w:World) (o o':Obj):((w.alloc o).alloc o').heap[w.heap.size]?=some o:=(Below.heap_alloc _ _ _ (by simp)).trans (heap_one w o)

theorem nat_bits (a:Nat) (ha:a<18446744073709551616):(BitVec.ofInt 64 (a:Int)).toNat=a:=by
 rw [BitVec.ofInt_natCast,BitVec.toNat_ofNat];exact Nat.mod_eq_of_lt (by omega)

theorem bits_or_u64 (a b:Nat) (ha:a<18446744073709551616) (hb:b<18446744073709551616):bits .or .u64 (a:Int) (b:Int)=((a ||| b:Nat):Int):=by
 have hx:a ||| b<2^64:=Nat.or_lt_two_pow (by omega) (by omega)
 show IntKind.u64.wrap ((BitVec.ofInt 64 (a:Int) ||| BitVec.ofInt 64 (b:Int)).toNat:Int)=_
 rw [BitVec.toNat_or,nat_bits a ha,nat_bits b hb,IntKind.wrap_u64]
 omega

theorem or_byte (v c:Nat) (hv:v<72057594037927936) (hc:c<256):bits .or .u64 (IntKind.u64.wrap ((v:Int)*256)) (IntKind.u64.wrap (c:Int))=((v*256+c:Nat):Int):=by
 have e1:IntKind.u64.wrap ((v:Int)*256)=((2^8*v:Nat):Int):=by rw [IntKind.wrap_u64];omega
 have e2:IntKind.u64.wrap (c:Int)=(c:Int):=by rw [IntKind.wrap_u64];omega
 rw [e1,e2,bits_or_u64 _ _ (by omega) (by omega),←Nat.two_pow_add_eq_or_of_lt (by omega)]
 omega

def pre (s:ByteArray) (k:Nat):Nat:=bval s / 256^(s.size-k)

theorem pre_zero (s:ByteArray):pre s 0=0:=by
 unfold pre
 rw [Nat.sub_zero]
 exact Nat.div_eq_of_lt (bval_lt s)
theorem pre_all (s:ByteArray):pre s s.size=bval s:=by simp [pre]
theorem pre_lt (s:ByteArray) (k:Nat) (hk:k≤s.size):pre s k<256^k:=by
 unfold pre
 apply Nat.div_lt_of_lt_mul
 rw [←Nat.pow_add,Nat.sub_add_cancel hk]
 exact bval_lt s
theorem pre_succ (s:ByteArray) (k:Nat) (hk:k<s.size):pre s (k+1)=pre s k*256+(s[k]).toNat:=by
 have h:=div_D 256 (bval s) (s.size-(k+1))
 rw [show s.size-(k+1)+1=s.size-k by omega,←dig_eq] at h
 have hd:dig s (s.size-(k+1))=(s[k]).toNat:=by
  unfold dig
  rw [dif_pos (by omega)]
  congr 2
  omega
 rw [hd] at h
 unfold pre
 omega

theorem pow256_7 {k:Nat} (h:k≤7):(256:Nat)^k≤72057594037927936:=Nat.pow_le_pow_right (n:=256) (by omega) h

set_option maxHeartbeats 1000000 in
set_option maxRecDepth 100000 in
theorem word_any (s:ByteArray) (hs:s.size≤8) (w:World) :
  Calls Tryz.prog 176 #[.string s] w (RetV w (.int .u64 (bval s:Nat))):=by
 go_enter Tryz.func176,Tryz.ntmps176
 go_wp2
 go_loop [3,7] (fun v i=>∃ k:Nat,k≤s.size∧i=.int .i64 k∧v=.int .u64 (pre s k:Nat)) (fun _ i=>s.size-(intOf i).toNat)
 case atStart=>exact ⟨0,by omega,rfl,by rw [pre_zero];rfl⟩
 case round =>
  obtain ⟨k,hk,rfl,rfl⟩:=hrel
  by_cases hlt:k<s.size
  · go_wp2
    go_round
    case rel=>exact ⟨k+1,by omega,by go_num,by rw [or_byte _ _ (Nat.lt_of_lt_of_le (pre_lt s k hk) (pow256_7 (by omega))) (UInt8.toNat_lt _),pre_succ s k hlt]⟩
    case measure=>simp [intOf];omega
  · obtain rfl:k=s.size:=by omega
    go_wp2
    go_ret
    exact ⟨by rw [pre_all];rfl,rfl⟩

def RetW (W:World) (X Y:Nat) (ok:Bool) (e:Ending) (w':World):Prop:=e=.returned (.tuple #[.int .u64 (X:Int),.int .u64 (Y:Int),.bool ok])∧Below W.heap.size W w'

set_option maxHeartbeats 1000000 in
set_option maxRecDepth 100000 in
theorem words_yes (na nb:Bool) (a b:ByteArray) (ha:a.size≤8) (hb:b.size≤8) (w:World) :
  Calls Tryz.prog 141 #[.agg #[.bool na,.string a],.agg #[.bool nb,.string b]] w (RetW w (bval a) (bval b) true):=by
 go_enter Tryz.func141,Tryz.ntmps141
 go_wp2
 go_quiet ((go_at_call 176;exact quietV (word_any _ (by assumption) _)))
 go_wp2
 go_ret3
 exact ⟨rfl,below_draws (((Below.refl _ _).alloc (Nat.le_refl _) _).alloc (by simp) _) _⟩

set_option maxHeartbeats 1000000 in
set_option maxRecDepth 100000 in
theorem words_no (na nb:Bool) (a b:ByteArray) (h:8<a.size∨8<b.size) (w:World) :
  Calls Tryz.prog 141 #[.agg #[.bool na,.string a],.agg #[.bool nb,.string b]] w (RetW w 0 0 false):=by
 by_cases h1:8<a.size
 all_goals
  go_enter Tryz.func141,Tryz.ntmps141
  go_wp2
  go_ret3
  exact ⟨rfl,((Below.refl _ _).alloc (Nat.le_refl _) _).alloc (by simp) _⟩
end Go.Proofs.YtpnokfgplnmjpaaGreatDoor


namespace Go.Proofs.YtpnokfgplnmjpaaGreatDoor
open Go.RowKit

set_option maxHeartbeats 400000 in
set_option maxRecDepth 100000 in
theorem at_any (A:Option Addr) (n c V i:Nat) (w:World) (hn:n≤1099511627776) (hi:i≤1099511627776) (h:Dg w .i64 256 A n V) :
  Calls Tryz.prog 189 #[.slice A n c,.int .i64 (i:Int)] w (RetV w (.int .i64 (D 256 V i:Nat))):=by
 by_cases hlt:i<n
 · obtain ⟨g,o,rfl,hg,hc⟩:=h.rd (by omega)
   have hci:=hc i hlt
   clear hc
   go_enter Tryz.func189,Tryz.ntmps189
   go_wp2
   go_ret
   exact ⟨rfl,rfl⟩
 · have hz:=D_zero_of (b:=256) (by omega) h.lt (i:=i) (by omega)
   rw [hz]
   clear hz
   go_enter Tryz.func189,Tryz.ntmps189
   go_wp2
   go_ret
   exact ⟨rfl,rfl⟩

theorem car_pos_le {b n m X Y k:Nat} (hb:2≤b) (hX:X<b^n) (hY:Y<b^m) (h:0<car b X 1 Y k):k≤n∨k≤m:=by
 rcases Nat.lt_or_ge n k with h1 | h1
 · rcases Nat.lt_or_ge m k with h2 | h2
   · exfalso
     have p1:b^n≤b^(k-1):=Nat.pow_le_pow_right (by omega) (by omega)
     have p2:b^m≤b^(k-1):=Nat.pow_le_pow_right (by omega) (by omega)
     have p3:b^k=b^(k-1)*b:=by rw [←Nat.pow_succ];congr 1;omega
     have p4:b^(k-1)*2≤b^(k-1)*b:=Nat.mul_le_mul_left _ hb
     rw [car_end (by omega) (by omega),Nat.div_eq_of_lt (by omega)] at h
     omega
   · exact .inr h2
 · exact .inl h1

theorem own_next {w1:World} {base:Nat} {E:TypeId} {K:IntKind} {v:Value} {k:Nat} {f:Nat→Nat} {d:Nat} (h:w1.ownsRow base E 1 v (k+1) (nums K f k++[.int K (d:Int)])) (hd:d=f k):w1.ownsRow base E 1 v (k+1) (nums K f (k+1)):=by
 rw [nums_succ,←hd];exact h

theorem one_cell {w:World} {u v:Value} {t:TypeId}:∀ j x,[v][j]?=some x→u=v→(w.alloc (.cells #[u] t)).cell? ((⟨w.heap.size,0,none⟩:Addr).add j)=some x:=by
 intro j x hj he
 match j,hj with
 | 0,hj=>simp at hj;subst hj;subst he;simp [Addr.add]

end Go.Proofs.YtpnokfgplnmjpaaGreatDoor


namespace Go.Proofs.YtpnokfgplnmjpaaGreatDoor
open Go.RowKit

end Go.Proofs.YtpnokfgplnmjpaaGreatDoor


namespace Go.Proofs.YtpnokfgplnmjpaaGreatDoor
open Go.RowKit
attribute [local go_sem ↓] Go.wp_at_zero Go.wp_at_succ

def canonB (neg:Bool) (s:ByteArray):Bool:=if h:0<s.size then (s[0]'h).toNat != 0 else !neg

end Go.Proofs.YtpnokfgplnmjpaaGreatDoor


namespace Go.Proofs.YtpnokfgplnmjpaaGreatDoor
open Go

section
variable {P:Program} {ops:Array Oper} {Q:Exit→Act→World→Prop} {md:Region.Mode} {S:World→Prop} {L:List Nat}

def waits (md:Region.Mode) (ops:Array Oper) (i:Nat):Nat→Nat→Bool
 | 0,_=>false
 | f+1,j=>match ops[j]? with
   | some o=>o.after.any fun e=>Region.binds md e && (e.on==i || waits md ops i f e.on)
   | none=>false

def closedB (md:Region.Mode) (ops:Array Oper) (listed:Array Bool):Bool :=
 (List.range ops.size).all fun j=>!listed.getD j false || ((ops[j]?).map (·.after.all fun e=>!Region.binds md e || listed.getD e.on false)).getD false

def Closed (md:Region.Mode) (ops:Array Oper) (listed:Array Bool):Prop:=∀ j o,ops[j]?=some o→listed.getD j false=true→∀ e∈o.after,Region.binds md e=true→listed.getD e.on false=true

theorem closed_of {listed:Array Bool} (h:closedB md ops listed=true):Closed md ops listed:=fun j o ho hj e he hb=>by
 simp only [closedB,List.all_eq_true,List.mem_range] at h
 have h1:=h j (Array.getElem?_eq_some_iff.1 ho).1
 simp only [hj,ho,Bool.not_true,Bool.false_or,Option.map_some,Option.getD_some] at h1
 have h2:=Array.all_eq_true_iff_forall_mem.1 h1 e he
 simpa [hb] using h2

theorem closed_set {listed:Array Bool} {j:Nat} (h:Closed md ops listed) (hj:j∈Region.ready md ops listed):Closed md ops (listed.setIfInBounds j true):=fun k o ho hk e he hb=>by
 by_cases hjk:j=k
 · subst hjk
   obtain ⟨_,o',ho',hall⟩:=mem_ready.1 hj
   rw [ho] at ho'
   injection ho' with ho'
   subst ho'
   exact getD_set_true (hall e he hb)
 · rw [getD_set_ne false hjk] at hk
   exact getD_set_true (h k o ho hk e he hb)

theorem waits_listed {listed:Array Bool} {i:Nat} (h:Closed md ops listed):∀ (f j:Nat),waits md ops i f j=true→listed.getD j false=true→listed.getD i false=true:=by
 intro f
 induction f with
 | zero=>intro j hw;simp [waits] at hw
 | succ f ih =>
   intro j hw hj
   unfold waits at hw
   cases ho:ops[j]? with
   | none=>rw [ho] at hw;simp at hw
   | some o =>
     rw [ho] at hw
     obtain ⟨e,he,hb⟩:=Array.any_eq_true'.1 hw
     simp only [Bool.and_eq_true,Bool.or_eq_true,beq_iff_eq] at hb
     have h1:=h j o ho hj e he hb.1
     rcases hb.2 with h2 | h2
     · rw [←h2];exact h1
     · exact ih e.on h2 h1

theorem waits_ready {listed:Array Bool} {i j f:Nat} (h:Closed md ops listed) (hj:j∈Region.ready md ops listed) (hw:waits md ops i f j=true) (hi:i∈Region.ready md ops listed):False:=by
 obtain ⟨_,o,ho,hall⟩:=mem_ready.1 hj
 have h0:=(mem_ready.1 hi).1
 have h1:listed.getD i false=true:=by
  cases f with
  | zero=>simp [waits] at hw
  | succ f =>
    unfold waits at hw
    rw [ho] at hw
    obtain ⟨e,he,hb⟩:=Array.any_eq_true'.1 hw
    simp only [Bool.and_eq_true,Bool.or_eq_true,beq_iff_eq] at hb
    have h2:=hall e he hb.1
    rcases hb.2 with h3 | h3
    · rw [←h3];exact h2
    · exact waits_listed h f e.on h3 h2
 rcases Nat.lt_or_ge i listed.size with h' | h'
 · simp [h'] at h0 h1;rw [h0] at h1;cases h1
 · simp [Array.getElem?_eq_none h'] at h1

def wpLate (P:Program) (md:Region.Mode) (ops:Array Oper) (Q:Exit→Act→World→Prop) (S:World→Prop) (L:List Nat):Nat→Array Bool→Act→World→Prop
 | 0,listed,a,w=>Region.ready md ops listed=[]∧Q .normal a w
 | fuel+1,listed,a,w =>
   (Region.ready md ops listed=[]→Q .normal a w) ∧
   ∀ i∈Region.ready md ops listed,wpOp P ops Q i (fun a' w'=>(L.contains i=true∨(S w→S w'))∧wpLate P md ops Q S L fuel (listed.setIfInBounds i true) a' w') a w

theorem wpAny_of_late:∀ (fuel:Nat) (listed:Array Bool) (a:Act) (w:World),wpLate P md ops Q S L fuel listed a w→wpAny P md ops Q fuel listed a w
 | 0,_,_,_,h=>h
 | fuel+1,_,_,_,h=>⟨h.1,fun i hi=>wpOp_mono (fun a' w' h'=>wpAny_of_late fuel _ a' w' h'.2) (h.2 i hi)⟩

theorem wpLate_first {S':World→Prop} {i:Nat} {oi:Oper} {v:Value} (hi:ops[i]?=some oi) (hsel:∀ (j:Nat) (o:Oper) cs b,ops[j]?=some o→o.op≠.select cs b)
  (hQ:∀ c a w,Q (.panic c) (a.put oi.dst v) w→Q (.panic c) a w) (hst:∀ j w w',(∀ f,waits md ops i f j=false)→(L.contains j=true∨(S w→S w'))→S' w→S' w') :
  ∀ (fuel:Nat) (listed:Array Bool) (a:Act) (w:World),Closed md ops listed →
    (∀ j oj,ops[j]?=some oj→j≠i→listed.getD j true=false→(∀ e∈oj.after,Region.binds md e=true→e.on≠i)→oi.apart ops oj=true) →
    i∈Region.ready md ops listed→YieldsIf P ops S' oi v a→S' w →
    wpLate P md ops Q S L fuel (listed.setIfInBounds i true) (a.put oi.dst v) w→wpLate P md ops Q S L (fuel+1) listed a w:=by
 intro fuel
 induction fuel with
 | zero =>
   intro listed a w _ _ hr hy hS H
   refine ⟨fun h=>(by rw [h] at hr;cases hr),fun j hj=>?_⟩
   by_cases hji:j=i
   · subst hji;exact hy.wpOp hi hS ⟨.inr id,H⟩
   · have:=ready_mono hj hji
     rw [H.1] at this
     cases this
 | succ fuel ih =>
   intro listed a w hcl hfree hr hy hS H
   refine ⟨fun h=>(by rw [h] at hr;cases hr),fun j hj=>?_⟩
   by_cases hji:j=i
   · subst hji;exact hy.wpOp hi hS ⟨.inr id,H⟩
   · have h1:=H.2 j (ready_mono hj hji)
     obtain ⟨hjun,oj,hoj,hall⟩:=mem_ready.1 hj
     have hnw:∀ f,waits md ops i f j=false:=fun f=>by
      cases hw:waits md ops i f j
      · rfl
      · exact (waits_ready hcl hj hw hr).elim
     have hnot:∀ e∈oj.after,Region.binds md e=true→e.on≠i:=fun e he hb heq=>by
      have h1:=hall e he hb
      have h0:=(mem_ready.1 hr).1
      rw [heq] at h1
      rcases Nat.lt_or_ge i listed.size with h' | h'
      · simp [h'] at h0 h1;rw [h0] at h1;cases h1
      · simp [Array.getElem?_eq_none h'] at h1
     have h2:=wpOp_putIf hoj (hfree j oj hoj hji hjun hnot) (fun cs b=>hsel i oi cs b hi) (fun cs b=>hsel j oj cs b hoj) hQ hy h1
     have hfree':∀ k ok,ops[k]?=some ok→k≠i→(listed.setIfInBounds j true).getD k true=false →
       (∀ e∈ok.after,Region.binds md e=true→e.on≠i)→oi.apart ops ok=true:=fun k ok hk hki hun hno=>by
      refine hfree k ok hk hki ?_ hno
      by_cases hjk:j=k
      · subst hjk;exact hjun
      · rw [getD_set_ne true hjk] at hun;exact hun
     refine wpOp_mono (fun a' w' h3=>⟨h3.2.1,ih (listed.setIfInBounds j true) a' w' (closed_set hcl hj) hfree' (ready_mono hr (Ne.symm hji)) h3.1 (hst j w w' hnw h3.2.1 hS) ?_⟩) h2
     rw [Array.setIfInBounds_comm _ _ hji]
     exact h3.2.2


theorem wpLate_take {i:Nat} {oi:Oper} {v:Value} {fuel:Nat} {listed:Array Bool} {a:Act} {w:World} (hi:ops[i]?=some oi)
  (hs:Region.noSelect ops=true) (hf:Region.free md ops listed i=true) (hr:(Region.ready md ops listed).contains i=true) (hc:closedB md ops listed=true) (hl:L.all (fun j=>waits md ops i ops.size j)=true)
  (hQ:∀ c a w,Q (.panic c) (a.put oi.dst v) w→Q (.panic c) a w) (hy:YieldsIf P ops S oi v a) (hS:S w)
  (h:wpLate P md ops Q S L fuel (listed.setIfInBounds i true) (a.put oi.dst v) w):wpLate P md ops Q S L (fuel+1) listed a w :=
 wpLate_first hi (Region.noSelect_spec hs) hQ (fun j w w' hnw hk hS=>by
  rcases hk with hk | hk
  · have h1:=List.all_eq_true.1 hl j (by simpa using hk)
    rw [hnw ops.size] at h1
    cases h1
  · exact hk hS) fuel listed a w (closed_of hc) (Region.free_spec hi hf) (by simpa using hr) hy hS h

theorem wpLate_free {i:Nat} {oi:Oper} {v:Value} {fuel:Nat} {listed:Array Bool} {a:Act} {w:World} (hi:ops[i]?=some oi)
  (hs:Region.noSelect ops=true) (hf:Region.free md ops listed i=true) (hr:(Region.ready md ops listed).contains i=true) (hc:closedB md ops listed=true)
  (hQ:∀ c a w,Q (.panic c) (a.put oi.dst v) w→Q (.panic c) a w) (hy:YieldsIf P ops (fun _=>True) oi v a)
  (h:wpLate P md ops Q S L fuel (listed.setIfInBounds i true) (a.put oi.dst v) w):wpLate P md ops Q S L (fuel+1) listed a w :=
 wpLate_first (S':=fun _=>True) hi (Region.noSelect_spec hs) hQ (fun _ _ _ _ _ _=>trivial) fuel listed a w (closed_of hc) (Region.free_spec hi hf) (by simpa using hr) hy trivial h

theorem wpLate_one {i:Nat} {o:Oper} {fuel:Nat} {listed:Array Bool} {a:Act} {w:World} (hr:Region.ready md ops listed=[i]) (ho:ops[i]?=some o)
  (h:∀ K':Act→World→Prop,Shut (∀ a' w',(L.contains i=true∨(S w→S w'))→wpLate P md ops Q S L fuel (listed.setIfInBounds i true) a' w'→K' a' w')→if Region.wanted o (yielded ops a.tmps)=true then Oper.wp P o a w K' Q else K' (a.put o.dst undef) w) :
  wpLate P md ops Q S L (fuel+1) listed a w :=
 ⟨fun h0=>(by rw [h0] at hr;cases hr),fun j hj=>by
  rw [hr] at hj
  obtain rfl:j=i:=by simpa using hj
  exact wpOp_step ho (fun K' hK=>h K' (fun a w hS hW=>hK a w ⟨hS,hW⟩))⟩

theorem wpLate_done {listed:Array Bool} {a:Act} {w:World} (hr:Region.ready md ops listed=[]) (h:Q .normal a w):∀ fuel,wpLate P md ops Q S L fuel listed a w
 | 0=>⟨hr,h⟩
 | _+1=>⟨fun _=>h,by rw [hr];simp⟩

theorem wp_region_late {id:Nat} {a:Act} {w:World} (hm:P.follows .mixedOrders=true) (h:wpLate P .any ops Q S L ops.size (Array.replicate ops.size false) a w.drew):(Code.region id ops true).wp P Q a w :=
 wp_region_any hm (wpAny_of_late _ _ _ _ h)
end
end Go.Proofs.YtpnokfgplnmjpaaGreatDoor


namespace Go.Proofs.YtpnokfgplnmjpaaGreatDoor.Sg
structure Rl where
 p:Rat
 a:Rat
 s:Int
structure Rl.Ok (x:Rl):Prop where
 sg:x.s=1∨x.s=-1
 form:(x.a=0∧x.s=1)∨(0<x.a∧NSq x.a)
noncomputable def Rl.val (x:Rl) (n:Nat):Rat:=x.p+(x.s:Rat)*up x.a n
def cmpX (x y:Rl):Int :=
 if x.a=y.a∧x.s=y.s then sgq (x.p-y.p)
 else if y.a=0 then sos (x.p-y.p) x.s x.a
 else if x.a=0 then-sos (y.p-x.p) y.s y.a
 else cmpP (x.p-y.p) x.s x.a y.s y.a
theorem up_zero (n:Nat):up 0 n=0:=by
 unfold up
 rw [dif_neg (by decide)]
theorem Rl.ext' {x y:Rl} (h1:x.p=y.p) (h2:x.a=y.a) (h3:x.s=y.s):x=y:=by
 cases x
 cases y
 simp_all
structure Says (x y:Rl) (c:Int):Prop where
 three:c=-1∨c=0∨c=1
 gt:c=1→Ev (fun n=>y.val n<x.val n)
 lt:c=-1→Ev (fun n=>x.val n<y.val n)
 eq:c=0→x=y
theorem Says.neg {x y:Rl} {c:Int} (h:Says x y c):Says y x (-c) :=
 ⟨by have:=h.three;omega,fun e=>h.lt (by omega),fun e=>h.gt (by omega),fun e=>(h.eq (by omega)).symm⟩
theorem says_root {x y:Rl} (hx:x.Ok) (hxa:0<x.a) (hya:y.a=0):Says x y (sos (x.p-y.p) x.s x.a):=by
 have hn:NSq x.a:=by
  rcases hx.form with ⟨h,_⟩ | ⟨_,h⟩
  · exact absurd hxa (by rw [h];decide)
  · exact h
 have hv:∀ n,y.val n=y.p:=fun n=>by unfold Rl.val;rw [hya,up_zero];grind
 rw [sos_any hxa hx.sg]
 refine ⟨sg2_three _ _ _,fun e=>?_,fun e=>?_,fun e=>?_⟩
 · obtain ⟨δ,h1,h2⟩:=ev_pos hxa e
   exact h2.mono fun n hn2=>by rw [hv];unfold Rl.val;grind
 · obtain ⟨δ,h1,h2⟩:=ev_neg hxa e
   exact h2.mono fun n hn2=>by rw [hv];unfold Rl.val;grind
 · have h:=(sg2_ns hxa hn e).2
   exfalso
   rcases hx.sg with h1 | h1
   · rw [h1] at h
     exact absurd h (by decide)
   · rw [h1] at h
     exact absurd h (by decide)
theorem cmp_says {x y:Rl} (hx:x.Ok) (hy:y.Ok):Says x y (cmpX x y):=by
 unfold cmpX
 by_cases h:x.a=y.a∧x.s=y.s
 · rw [if_pos h]
   have hv:∀ n,x.val n-y.val n=x.p-y.p:=fun n=>by unfold Rl.val;rw [h.1,h.2];grind
   refine ⟨?_,fun e=>Ev.all fun n=>?_,fun e=>Ev.all fun n=>?_,fun e=>?_⟩
   · rcases sgq_three (x.p-y.p) with ⟨_,e⟩ | ⟨_,e⟩ | ⟨_,e⟩<;>omega
   · rcases sgq_three (x.p-y.p) with ⟨k,e2⟩ | ⟨k,e2⟩ | ⟨k,e2⟩
     · omega
     · omega
     · have:=hv n;grind
   · rcases sgq_three (x.p-y.p) with ⟨k,e2⟩ | ⟨k,e2⟩ | ⟨k,e2⟩
     · have:=hv n;grind
     · omega
     · omega
   · rcases sgq_three (x.p-y.p) with ⟨k,e2⟩ | ⟨k,e2⟩ | ⟨k,e2⟩
     · omega
     · exact Rl.ext' (by grind) h.1 h.2
     · omega
 · rw [if_neg h]
   by_cases hy0:y.a=0
   · rw [if_pos hy0]
     have hxa:0<x.a:=by
      rcases hx.form with ⟨h1,h2⟩ | ⟨h1,_⟩
      · exfalso
        rcases hy.form with ⟨h3,h4⟩ | ⟨h3,_⟩
        · exact h ⟨by rw [h1,h3],by rw [h2,h4]⟩
        · rw [hy0] at h3;exact absurd h3 (by decide)
      · exact h1
     exact says_root hx hxa hy0
   · rw [if_neg hy0]
     have hya:0<y.a:=by
      rcases hy.form with ⟨h1,_⟩ | ⟨h1,_⟩
      · exact absurd h1 hy0
      · exact h1
     by_cases hx0:x.a=0
     · rw [if_pos hx0]
       exact (says_root hy hya hx0).neg
     · rw [if_neg hx0]
       have hxa:0<x.a:=by
        rcases hx.form with ⟨h1,_⟩ | ⟨h1,_⟩
        · exact absurd h1 hx0
        · exact h1
       have hn:NSq x.a:=by
        rcases hx.form with ⟨h1,_⟩ | ⟨_,h1⟩
        · exact absurd h1 hx0
        · exact h1
       obtain ⟨h1,h2,h3⟩:=cmp_ev (d:=x.p-y.p) hxa hya hn hx.sg hy.sg
       refine ⟨?_,fun e=>(h1 e).mono fun n hn2=>by unfold Rl.val;grind,fun e=>(h2 e).mono fun n hn2=>by unfold Rl.val;grind,fun e=>?_⟩
       · rw [cmpP_eq hxa hx.sg]
         have k1:=sg2_three (x.p-y.p) (x.s:Rat) x.a
         have k2:=sg2_three ((x.p-y.p)*(x.p-y.p)+x.a-y.a) (2*(x.p-y.p)*(x.s:Rat)) x.a
         split
         · exact k1
         · rcases hy.sg with e | e<;>rw [e]<;>omega
       · obtain ⟨k1,k2,k3⟩:=h3 e
         exact Rl.ext' (by grind) k3 k2
theorem says_one {x y:Rl} {c c':Int} (h:Says x y c) (h':Says x y c'):c=c':=by
 have key:∀ {c c':Int},Says x y c→Says x y c'→c=1→c'=1:=fun {c c'} h h' e=>by
  have k:=h.gt e
  rcases h'.three with e2 | e2 | e2
  · obtain ⟨n,k1,k2⟩:=(k.and (h'.lt e2)).some
    exact absurd (Rat.le_of_lt k1) (Rat.not_le.2 k2)
  · obtain ⟨n,k1⟩:=k.some
    rw [h'.eq e2] at k1
    exact absurd k1 Rat.lt_irrefl
  · exact e2
 have key2:∀ {c c':Int},Says x y c→Says x y c'→c=-1→c'=-1:=fun {c c'} h h' e=>by
  have k:=h.lt e
  rcases h'.three with e2 | e2 | e2
  · exact e2
  · obtain ⟨n,k1⟩:=k.some
    rw [h'.eq e2] at k1
    exact absurd k1 Rat.lt_irrefl
  · obtain ⟨n,k1,k2⟩:=(k.and (h'.gt e2)).some
    exact absurd (Rat.le_of_lt k1) (Rat.not_le.2 k2)
 rcases h.three with e | e | e
 · rw [e,key2 h h' e]
 · rcases h'.three with e2 | e2 | e2
   · have:=key2 h' h e2;omega
   · omega
   · have:=key h' h e2;omega
 · rw [e,key h h' e]
theorem cmp_anti {x y:Rl} (hx:x.Ok) (hy:y.Ok):cmpX y x=- cmpX x y:=says_one (cmp_says hy hx) (cmp_says hx hy).neg
theorem cmp_zero {x y:Rl} (hx:x.Ok) (hy:y.Ok):cmpX x y=0↔x=y:=by
 refine ⟨(cmp_says hx hy).eq,?_⟩
 rintro rfl
 unfold cmpX
 rw [if_pos ⟨rfl,rfl⟩,sgq_zero (by grind)]
theorem cmp_trans {x y z:Rl} (hx:x.Ok) (hy:y.Ok) (hz:z.Ok) (h1:cmpX x y=-1) (h2:cmpX y z=-1):cmpX x z=-1:=by
 have k:=((cmp_says hx hy).lt h1).and ((cmp_says hy hz).lt h2)
 have h:=cmp_says hx hz
 rcases h.three with e | e | e
 · exact e
 · obtain ⟨n,k1,k2⟩:=k.some
   rw [h.eq e] at k1
   exact absurd (Rat.le_of_lt k1) (Rat.not_le.2 k2)
 · obtain ⟨n,⟨k1,k2⟩,k3⟩:=(k.and (h.gt e)).some
   exact absurd (Rat.le_trans (Rat.le_of_lt k1) (Rat.le_of_lt k2)) (Rat.not_le.2 k3)
end Go.Proofs.YtpnokfgplnmjpaaGreatDoor.Sg


namespace Go.Proofs.YtpnokfgplnmjpaaGreatDoor.Sg
def refX (x y:Rl):Int:=cmpF (x.p-y.p) x.s x.a y.s y.a (if x.s=y.s then 2 else -2)
theorem sg2_nought (g e:Rat):sg2 g e 0=sgq g:=by
 unfold sg2
 rw [sgq_zero (x:=0) rfl,Int.mul_zero,if_pos (.inr rfl)]
theorem ref_prog {x y:Rl} (hx:x.Ok) (hy:y.Ok):refX x y=cmpX x y:=by
 unfold refX cmpX
 by_cases h:x.a=y.a∧x.s=y.s
 · rw [if_pos h]
   unfold cmpF
   have hr:rts x.s x.a y.s y.a=0:=by
    unfold rts
    rw [h.1,h.2,if_neg (by omega),sgq_zero (show y.a-y.a=0 by grind),Int.mul_zero]
   rw [hr,if_pos (.inr rfl)]
 · rw [if_neg h]
   generalize hd:x.p-y.p=d
   by_cases hy0:y.a=0
   · rw [if_pos hy0]
     have hxa:0<x.a∧NSq x.a:=by
      rcases hx.form with ⟨h1,h2⟩ | h1
      · exfalso
        rcases hy.form with ⟨h3,h4⟩ | ⟨h3,_⟩
        · exact h ⟨by rw [h1,h3],by rw [h2,h4]⟩
        · rw [hy0] at h3;exact absurd h3 (by decide)
      · exact h1
     have hr:rts x.s x.a y.s y.a=x.s:=by
      unfold rts
      rw [hy0,sgq_pos hxa.1,sgq_zero (x:=0) rfl]
      rcases hx.sg with e | e<;>rw [e]<;>simp
     unfold cmpF sos
     rw [hr,hy0,show x.a*0=0 from by grind,sg2_nought,show d*d-(x.a+0)=-(x.a-d*d) from by grind,sgq_minus]
     have hn:=hxa.2 d
     rcases hx.sg with e | e<;>rw [e]<;>rcases sgq_three d with ⟨k,f⟩ | ⟨k,f⟩ | ⟨k,f⟩<;>rw [f]<;>rcases sgq_three (x.a-d*d) with ⟨l,g⟩ | ⟨l,g⟩ | ⟨l,g⟩<;>rw [g]<;>first | rfl | decide | (exfalso;grind)
   · rw [if_neg hy0]
     have hya:0<y.a∧NSq y.a:=by
      rcases hy.form with ⟨h1,_⟩ | h1
      · exact absurd h1 hy0
      · exact h1
     by_cases hx0:x.a=0
     · rw [if_pos hx0]
       have hr:rts x.s x.a y.s y.a=-y.s:=by
        unfold rts
        rw [hx0,sgq_pos hya.1,sgq_zero (x:=0) rfl]
        rcases hy.sg with e | e<;>rw [e]<;>simp
       have hd2:y.p-x.p=-d:=by grind
       unfold cmpF sos
       rw [hr,hx0,show 0*y.a=0 from by grind,sg2_nought,hd2,sgq_minus,show d*d-(0+y.a)=-(y.a-d*d) from by grind,sgq_minus,show -d*-d=d*d from by grind]
       have hn:=hya.2 d
       rcases hy.sg with e | e<;>rw [e]<;>rcases sgq_three d with ⟨k,f⟩ | ⟨k,f⟩ | ⟨k,f⟩<;>rw [f]<;>rcases sgq_three (y.a-d*d) with ⟨l,g⟩ | ⟨l,g⟩ | ⟨l,g⟩<;>rw [g]<;>first | rfl | decide | (exfalso;grind)
     · rw [if_neg hx0]
       have hxa:0<x.a∧NSq x.a:=by
        rcases hx.form with ⟨h1,_⟩ | h1
        · exact absurd h1 hx0
        · exact h1
       exact (cmp_all hxa.1 hya.1 (hxa.2 d) hx.sg hy.sg).symm
end Go.Proofs.YtpnokfgplnmjpaaGreatDoor.Sg


namespace Go.Proofs.YtpnokfgplnmjpaaGreatDoor.Sg
def Rl.of (q:Rat):Rl:=⟨q,0,1⟩
theorem of_ok (q:Rat):(Rl.of q).Ok:=⟨.inl rfl,.inl ⟨rfl,rfl⟩⟩
theorem cmp_of (p q:Rat):cmpX (Rl.of p) (Rl.of q)=sgq (p-q):=by
 unfold cmpX Rl.of
 rw [if_pos ⟨rfl,rfl⟩]
theorem cmp_root {x:Rl} (hxa:0<x.a) (q:Rat):cmpX x (Rl.of q)=sos (x.p-q) x.s x.a:=by
 unfold cmpX Rl.of
 rw [if_neg (fun h=>by have:=h.1;dsimp only at this;grind),if_pos rfl]
theorem cmp_three {x y:Rl} (hx:x.Ok) (hy:y.Ok):cmpX x y=-1∨cmpX x y=0∨cmpX x y=1:=(cmp_says hx hy).three
theorem cmp_le {x y z:Rl} (hx:x.Ok) (hy:y.Ok) (hz:z.Ok) (h1:cmpX x y≤0) (h2:cmpX y z<0):cmpX x z<0:=by
 rcases cmp_three hx hy with e | e | e
 · rcases cmp_three hy hz with f | f | f
   · have:=cmp_trans hx hy hz e f;omega
   · omega
   · omega
 · rw [(cmp_zero hx hy).1 e]
   exact h2
 · omega
theorem times_den (q:Rat):q*((q.den:Int):Rat)=(q.num:Rat):=by
 have h:=Rat.num_divInt_den q
 have e:Rat.divInt q.num q.den*Rat.divInt (q.den:Int) 1=Rat.divInt q.num 1:=by
  rw [Rat.divInt_mul_divInt,Rat.divInt_eq_divInt_iff (by have:=q.den_pos;omega) (by omega),Int.mul_one,Int.mul_one]
 rw [h] at e
 have e1:∀ z:Int,Rat.divInt z 1=(z:Rat):=fun z=>by
  rw [show (1:Int)=((1:Nat):Int) from rfl,Rat.divInt_ofNat]
  exact Rat.mkRat_one z
 rw [e1,e1] at e
 exact e
theorem floor_root {p a D:Rat} {s:Int} (hs:s=1∨s=-1) (hn:NSq a) (hD:0<D) {M r F:Rat} {N:Rat} (hM:p*D=M) (hN:a*(D*D)=N) (hr0:0≤r) (hr1:r*r≤N) (hr2:N<(r+1)*(r+1))
  (h1:s=1→F*D≤M+r∧M+r+1≤(F+1)*D) (h2:s=-1→F*D≤M-1-r∧M-r≤(F+1)*D):sos (p-F) s a=1∧sos (p-(F+1)) s a=-1:=by
 obtain ⟨w,hw,ew⟩:=exists_inv hD
 have hDD:=Rat.mul_pos hD hD
 -- squares over the denominator
 have up1:∀ z:Rat,(z*D)*(z*D)<N→z*z<a:=fun z h=>by
  by_cases h3:z*z<a
  · exact h3
  · have:=Rat.mul_le_mul_of_nonneg_right (show a≤z*z by grind) (Rat.le_of_lt hDD)
    grind
 have up2:∀ z:Rat,N<(z*D)*(z*D)→a<z*z:=fun z h=>by
  by_cases h3:a<z*z
  · exact h3
  · have:=Rat.mul_le_mul_of_nonneg_right (show z*z≤a by grind) (Rat.le_of_lt hDD)
    grind
 have up3:∀ z:Rat,(z*D)*(z*D)≤N→z*z<a:=fun z h=>by
  by_cases h3:z*z<a
  · exact h3
  · have h4:=hn z
    have:=mul_lt (show a<z*z by grind) hDD
    grind
 have sgn:∀ z:Rat,0<z*D→0<z:=fun z h=>by
  have h9:=Rat.mul_pos h hw
  have e:z*D*w=z:=by grind
  rw [e] at h9
  exact h9
 unfold sos
 rcases hs with rfl | rfl
 · obtain ⟨k1,k2⟩:=h1 rfl
   constructor
   · rcases sgq_three (p-F) with ⟨l,e⟩ | ⟨l,e⟩ | ⟨l,e⟩
     · have h3:=Rat.mul_pos (show 0 < -(p-F) by grind) hD
       have h4:=sq_le (x:=(p-F)*D) (y:=r) (by grind) (by grind)
       have h5:=up3 (p-F) (by grind)
       rw [e,sgq_pos (show 0<a-(p-F)*(p-F) by grind)]
       decide
     · rw [e,if_pos (by decide)]
     · rw [e,if_pos (by decide)]
   · have h3:(p-(F+1))*D≤-(r+1):=by grind
     have h4:=sq_le (x:=r+1) (y:=-((p-(F+1))*D)) (by grind) (by grind)
     have h5:=up2 (p-(F+1)) (by grind)
     have h6:=sgn (-(p-(F+1))) (by grind)
     rw [sgq_neg (show p-(F+1)<0 by grind),sgq_neg (show a-(p-(F+1))*(p-(F+1))<0 by grind)]
     decide
 · obtain ⟨k1,k2⟩:=h2 rfl
   constructor
   · have h3:r+1≤(p-F)*D:=by grind
     have h4:=sq_le (x:=r+1) (y:=(p-F)*D) (by grind) (by grind)
     have h5:=up2 (p-F) (by grind)
     have h6:=sgn (p-F) (by grind)
     rw [sgq_pos h6,sgq_neg (show a-(p-F)*(p-F)<0 by grind)]
     decide
   · rcases sgq_three (p-(F+1)) with ⟨l,e⟩ | ⟨l,e⟩ | ⟨l,e⟩
     · rw [e,if_pos (by decide)]
     · rw [e,if_pos (by decide)]
     · have h3:=Rat.mul_pos l hD
       have h4:=sq_le (x:=(p-(F+1))*D) (y:=r) (by grind) (by grind)
       have h5:=up3 (p-(F+1)) (by grind)
       rw [e,sgq_pos (show 0<a-(p-(F+1))*(p-(F+1)) by grind)]
       decide
end Go.Proofs.YtpnokfgplnmjpaaGreatDoor.Sg


namespace Go.Proofs.YtpnokfgplnmjpaaGreatDoor.Sg
end Go.Proofs.YtpnokfgplnmjpaaGreatDoor.Sg


namespace Go.Proofs.YtpnokfgplnmjpaaGreatDoor.Sg
theorem cmp_of_ev {x y:Rl} (hx:x.Ok) (hy:y.Ok) (h:Ev (fun n=>x.val n<y.val n)):cmpX x y=-1:=by
 have s:=cmp_says hx hy
 rcases s.three with e | e | e
 · exact e
 · obtain ⟨n,hn⟩:=h.some
   rw [s.eq e] at hn
   grind
 · obtain ⟨n,hn,hn2⟩:=(h.and (s.gt e)).some
   grind
end Go.Proofs.YtpnokfgplnmjpaaGreatDoor.Sg


namespace Go.Proofs.YtpnokfgplnmjpaaGreatDoor.Sg
end Go.Proofs.YtpnokfgplnmjpaaGreatDoor.Sg


namespace Go.Proofs.YtpnokfgplnmjpaaGreatDoor.Sg
def Rl.inv (x:Rl) (m:Rat):Rl:=⟨x.p*m,x.a*(m*m),if 0<m then -x.s else x.s⟩
def Rl.add (x:Rl) (r:Rat):Rl:=⟨x.p+r,x.a,x.s⟩
theorem add_ok {x:Rl} (hx:x.Ok) (r:Rat):(x.add r).Ok:=⟨hx.sg,hx.form⟩
theorem inv_ok {x:Rl} (hx:x.Ok) (hxa:0<x.a) (hn:NSq x.a) {m:Rat} (hm0:m≠0):(x.inv m).Ok:=by
 refine ⟨?_,.inr ⟨Rat.mul_pos hxa (sq_pos' hm0),fun z hz=>?_⟩⟩
 · show (if 0<m then -x.s else x.s)=1∨(if 0<m then -x.s else x.s)=-1
   have:=hx.sg
   split<;>omega
 · obtain ⟨w,hw⟩:∃ w:Rat,m*w=1:=⟨m⁻¹,Rat.mul_inv_cancel _ hm0⟩
   refine hn (z*w) ?_
   have:z*z=x.a*(m*m):=hz
   grind
end Go.Proofs.YtpnokfgplnmjpaaGreatDoor.Sg


namespace Go.Proofs.YtpnokfgplnmjpaaGreatDoor.Sg
theorem of_lt {a b:Rat}:cmpX (Rl.of a) (Rl.of b)=-1↔a<b:=by
 rw [cmp_of]
 rcases sgq_three (a-b) with ⟨k,e⟩ | ⟨k,e⟩ | ⟨k,e⟩<;>rw [e]<;>constructor<;>intro h<;>grind
theorem of_le {a b:Rat}:cmpX (Rl.of a) (Rl.of b)≤0↔a≤b:=by
 rw [cmp_of]
 rcases sgq_three (a-b) with ⟨k,e⟩ | ⟨k,e⟩ | ⟨k,e⟩<;>rw [e]<;>constructor<;>intro h<;>grind
theorem lt_le {x y z:Rl} (hx:x.Ok) (hy:y.Ok) (hz:z.Ok) (h1:cmpX x y=-1) (h2:cmpX y z≤0):cmpX x z=-1:=by
 rcases cmp_three hy hz with e | e | e
 · exact cmp_trans hx hy hz h1 e
 · rw [←(cmp_zero hy hz).1 e]
   exact h1
 · omega
theorem le_lt {x y z:Rl} (hx:x.Ok) (hy:y.Ok) (hz:z.Ok) (h1:cmpX x y≤0) (h2:cmpX y z=-1):cmpX x z=-1:=by
 have:=cmp_le hx hy hz h1 (by omega)
 have:=cmp_three hx hz
 omega
end Go.Proofs.YtpnokfgplnmjpaaGreatDoor.Sg


namespace Go.Proofs.YtpnokfgplnmjpaaGreatDoor.Sg
end Go.Proofs.YtpnokfgplnmjpaaGreatDoor.Sg


namespace Go.Proofs.YtpnokfgplnmjpaaGreatDoor.Sg
end Go.Proofs.YtpnokfgplnmjpaaGreatDoor.Sg


namespace Go.Proofs.YtpnokfgplnmjpaaGreatDoor.Sg
def Rl.neg (x:Rl):Rl:=⟨-x.p,x.a,if x.a=0 then 1 else -x.s⟩
theorem neg_ok {x:Rl} (hx:x.Ok):x.neg.Ok:=by
 have hs:=hx.sg
 unfold Rl.neg
 by_cases h:x.a=0
 · exact ⟨.inl (if_pos h),.inl ⟨h,if_pos h⟩⟩
 · refine ⟨?_,?_⟩
   · show (if x.a=0 then (1:Int) else -x.s)=1∨(if x.a=0 then (1:Int) else -x.s)=-1
     rw [if_neg h]
     omega
   · rcases hx.form with ⟨h1,_⟩ | h1
     · exact absurd h1 h
     · exact .inr h1
end Go.Proofs.YtpnokfgplnmjpaaGreatDoor.Sg


namespace Go.Proofs.YtpnokfgplnmjpaaGreatDoor.Sg
def Sq (r:Rat):Prop:=∃ z:Rat,0≤z∧z*z=r
open Classical in
noncomputable def rt (r:Rat):Rat:=if h:Sq r then h.choose else 0
theorem root_one {z w:Rat} (hz:0≤z) (hw:0≤w) (h:z*z=w*w):z=w:=by
 by_cases h1:z=w
 · exact h1
 · have h2:(z-w)*(z+w)=0:=by grind
   rcases Rat.mul_eq_zero.1 h2 with h3 | h3<;>grind
theorem rt_eq {z r:Rat} (hz:0≤z) (h:z*z=r):rt r=z:=by
 have hs:Sq r:=⟨z,hz,h⟩
 unfold rt
 rw [dif_pos hs]
 exact root_one hs.choose_spec.1 hz (by rw [hs.choose_spec.2,h])
theorem nsq_sq {r:Rat}:NSq r↔¬Sq r:=by
 constructor
 · rintro h ⟨z,_,e⟩
   exact h z e
 · intro h z e
   by_cases hz:0≤z
   · exact h ⟨z,hz,e⟩
   · exact h ⟨-z,by grind,by grind⟩
open Classical in
noncomputable def mkR (p q r:Rat):Rl:=if Sq r then ⟨p+q*rt r,0,1⟩ else if q=0 then ⟨p,0,1⟩ else ⟨p,q*q*r,if q<0 then -1 else 1⟩
open Classical in
noncomputable def sumP (p:Rat) (s:Int) (r:Rat):Rl:=if Sq r then (if s<0 then ⟨p-rt r,0,1⟩ else ⟨p+rt r,0,1⟩) else ⟨p,r,if s<0 then -1 else 1⟩
theorem nsq_by {r c:Rat} (hc:c≠0) (h:¬Sq r):¬Sq (c*c*r):=by
 rintro ⟨z,hz,e⟩
 obtain ⟨w,hw⟩:∃ w:Rat,c*w=1:=⟨c⁻¹,Rat.mul_inv_cancel _ hc⟩
 refine nsq_sq.2 h (z*w) ?_
 grind
theorem make_same (p q r:Rat):sumP p (sgq q) (q*q*r)=mkR p q r:=by
 have sg:(sgq q<0↔q<0):=by rcases sgq_three q with ⟨k,e⟩ | ⟨k,e⟩ | ⟨k,e⟩<;>rw [e]<;>constructor<;>intro h<;>grind
 unfold sumP mkR
 by_cases hr:Sq r
 · rw [if_pos hr]
   obtain ⟨z,hz,e⟩:=hr
   rw [rt_eq hz e]
   by_cases hq:q<0
   · have h0:0≤-q*z:=Rat.mul_nonneg (by grind) hz
     have h1:(-q*z)*(-q*z)=q*q*r:=by grind
     rw [if_pos ⟨_,h0,h1⟩,if_pos (sg.2 hq),rt_eq h0 h1]
     congr 1
     grind
   · have h0:0≤q*z:=Rat.mul_nonneg (by grind) hz
     have h1:(q*z)*(q*z)=q*q*r:=by grind
     rw [if_pos ⟨_,h0,h1⟩,if_neg (fun h=>hq (sg.1 h)),rt_eq h0 h1]
 · rw [if_neg hr]
   by_cases hq:q=0
   · subst hq
     have h1:(0:Rat)*0=0*0*r:=by grind
     rw [if_pos ⟨0,by grind,h1⟩,if_pos rfl,if_neg (fun h=>absurd (sg.1 h) (by grind)),rt_eq (z:=0) (by grind) h1]
     congr 1
     grind
   · rw [if_neg (nsq_by hq hr),if_neg hq]
     congr 1
     by_cases h:q<0
     · rw [if_pos (sg.2 h),if_pos h]
     · rw [if_neg (fun k=>h (sg.1 k)),if_neg h]
theorem ok_cases {x:Rl} (hx:x.Ok):(x.a=0∧x.s=1)∨(0<x.a∧¬Sq x.a):=by
 rcases hx.form with h | ⟨h1,h2⟩
 · exact .inl h
 · exact .inr ⟨h1,nsq_sq.1 h2⟩
theorem mkR_zero (p q:Rat):mkR p q 0=Rl.of p:=by
 unfold mkR Rl.of
 have h:Sq 0:=⟨0,by grind,by grind⟩
 rw [if_pos h,rt_eq (z:=0) (by grind) (by grind)]
 congr 1
 grind
theorem add_mk {x:Rl} (hx:x.Ok) (r:Rat):mkR (x.p+r) (x.s:Rat) x.a=x.add r:=by
 rcases ok_cases hx with ⟨h1,h2⟩ | ⟨h1,h2⟩
 · rw [h1,mkR_zero]
   exact Rl.ext' rfl h1.symm h2.symm
 · unfold mkR
   rw [if_neg h2]
   rcases hx.sg with e | e
   · rw [e,if_neg (by decide),if_neg (by decide)]
     exact Rl.ext' rfl (by show (1:Rat)*1*x.a=x.a;grind) e.symm
   · rw [e,if_neg (by decide),if_pos (by decide)]
     exact Rl.ext' rfl (by show (-1:Rat)*-1*x.a=x.a;grind) e.symm
def Rl.scale (x:Rl) (r:Rat):Rl:=if x.a=0 then ⟨x.p*r,0,1⟩ else ⟨x.p*r,x.a*(r*r),if r<0 then -x.s else x.s⟩
theorem scale_mk {x:Rl} (hx:x.Ok) {r:Rat} (hr:r≠0):mkR (x.p*r) (r*(x.s:Rat)) x.a=x.scale r:=by
 rcases ok_cases hx with ⟨h1,h2⟩ | ⟨h1,h2⟩
 · unfold Rl.scale
   rw [h1,mkR_zero,if_pos rfl]
   rfl
 · unfold mkR Rl.scale
   rw [if_neg h2,if_neg (show x.a≠0 by grind)]
   rcases hx.sg with e | e
   · rw [e]
     have e1:r*((1:Int):Rat)=r:=by show r*(1:Rat)=r;grind
     rw [e1,if_neg hr]
     exact Rl.ext' rfl (by show r*r*x.a=_;grind) rfl
   · rw [e]
     have e1:r*((-1:Int):Rat)=-r:=by show r*(-1:Rat)=-r;grind
     rw [e1,if_neg (by grind)]
     refine Rl.ext' rfl (by show -r*-r*x.a=_;grind) ?_
     show (if -r<0 then (-1:Int) else 1)=if r<0 then - -1 else -1
     by_cases h:r<0
     · rw [if_neg (by grind),if_pos h]
       rfl
     · rw [if_pos (by grind),if_neg h]
end Go.Proofs.YtpnokfgplnmjpaaGreatDoor.Sg


namespace Go.Proofs.YtpnokfgplnmjpaaGreatDoor.Sg
end Go.Proofs.YtpnokfgplnmjpaaGreatDoor.Sg
