import Derived.Test.YtpnokfgplnmjpaaGreatDoorGPk
import Derived.Test.YtpnokfgplnmjpaaGreatDoorGLawA
import Derived.Shelf.Spec.BitsCarry
import Derived.Test.YtpnokfgplnmjpaaGreatDoorGSgT
import Derived.Test.YtpnokfgplnmjpaaGreatDoorGQC
set_option linter.unusedSimpArgs false
set_option linter.unusedVariables false
set_option maxRecDepth 100000
set_option maxHeartbeats 4000000
open Go.Lib (hid)
open Go.Proofs.Tryz (prog)
namespace Go.Proofs.YtpnokfgplnmjpaaGreatDoor
open Go.RowKit
attribute [local go_sem ↓] Go.wp_at_zero Go.wp_at_succ
def RetRoom (w:World) (v:Value) (n:Nat) (e:Ending) (w':World):Prop :=
 ∃ g c T cur,e=.returned (.slice (some ⟨g,0,none⟩) n c)∧n≤c∧w'.heap[g]?=some (.cells cur T (0,0))∧c≤cur.size∧(∀ i,i<n→cur[i]?=some (.int .u64 0))∧w.grownBy w' v.ownBlock∧(v.ownBlock=some g∨w.heap.size≤g)
theorem room_new (v:Value) (n:Nat) (A:Option Addr) (m c:Nat) (hv:v=.slice A m c) (w:World) (hn:n≤1000000000) (hc:c<n) :
  Calls prog 179 #[v,.int .i64 (n:Int)] w (RetRoom w v n):=by
 subst hv;have hmk:=fun W=>run_make_row' (P:=prog) 131 124 (.int .u64 0) 8 Tryz.underlying131 natInfo rfl .i64 .i64 n om om W
 go_enter Tryz.func179,Tryz.ntmps179;go_wp2
 go_ret
 refine ⟨w.heap.size,n,124,_,rfl,Nat.le_refl _,heap_one _ _,?_,fun i hi=>?_,World.grownBy_alloc _ _ _,.inr (Nat.le_refl _)⟩
 · simp [madeCells]
 · simp [madeCells,hi,Nat.mod_one]
theorem zeroU64 (w:World):(zeroValue 124).run prog w=.ok (.int .u64 0) w:=by kernel_rfl
theorem zeros_list (n:Nat):(Builtin.zeroCells #[.int .u64 0] n).toList=List.replicate n (.int .u64 0):=by
 apply List.ext_getElem?;intro i;by_cases hi:i<n
 · simp [Builtin.zeroCells,hi,Nat.mod_one]
 · rw [List.getElem?_eq_none (by simp [Builtin.zeroCells];omega),List.getElem?_eq_none (by simp;omega)]
theorem run_clear (n g c:Nat) (cur:Array Value) (T:TypeId) (w:World) (h0:0<n) (hn:n≤cur.size) (hg:w.heap[g]?=some (.cells cur T (0,0))) :
  (Builtin.clear_ #[131] 0 #[.slice (some ⟨g,0,none⟩) n c]).run prog w=.ok (.tuple #[]) (w.setRow g ((List.replicate n (Value.int .u64 0))++cur.toList.drop n).toArray):=by
 have hst:=run_storeCells_at prog g 0 T (List.replicate n (.int .u64 0)) 0 cur w hg (by simpa using hn) (by intro v hv;rw [List.eq_of_mem_replicate hv];rfl);have hu:prog.underlying 131=some (.slice 124):=Tryz.underlying131;obtain ⟨m,rfl⟩:∃ m,n=m+1:=⟨n-1,om⟩
 simp only [Nat.zero_add,List.take_zero,List.nil_append,List.length_replicate] at hst;simp [Builtin.clear_,run_underlying hu,zeroU64,zeros_list,Value.cells,hst,Result.andThen]
theorem room_old (n g c:Nat) (cur:Array Value) (T:TypeId) (w:World) (hn:n≤1000000000) (hc:n≤c) (hcm:c≤maxLen) (hg:w.heap[g]?=some (.cells cur T (0,0))) (hcs:c≤cur.size) :
  Calls prog 179 #[.slice (some ⟨g,0,none⟩) 0 c,.int .i64 (n:Int)] w (RetRoom w (.slice (some ⟨g,0,none⟩) 0 c) n):=by
 unfold maxLen at hcm;by_cases h0:0<n
 · have hrun:=run_clear n g c cur T w h0 om hg;have HG:=hid hg;clear hg;go_enter Tryz.func179,Tryz.ntmps179;go_wp2
   go_ret
   have hl:(((List.replicate n (Value.int .u64 0))++cur.toList.drop n).toArray).size=cur.size:=by simp;omega
   refine ⟨g,c,T,_,rfl,hc,setRow_heap w g cur _ T _ HG.out,by rw [hl];exact hcs,fun i hi=>?_,⟨rfl,rfl,rfl,by simp [World.setRow],fun k _ hk=>setRow_other w g k _ (fun e=>hk (by simp [Value.ownBlock,e]))⟩,.inl (by simp [Value.ownBlock])⟩;simp [List.getElem?_append,hi]
 · obtain rfl:n=0:=om
   have hrun:(Builtin.clear_ #[131] 0 #[.slice (some ⟨g,0,none⟩) 0 c]).run prog w=.ok (.tuple #[]) w:=by
    have hu:prog.underlying 131=some (.slice 124):=Tryz.underlying131;simp [Builtin.clear_,run_underlying hu,Result.andThen]
   have HG:=hid hg;clear hg;go_enter Tryz.func179,Tryz.ntmps179;go_wp2
   go_ret
   exact ⟨g,c,T,cur,rfl,hc,HG.out,hcs,fun i hi=>om,World.grownBy.refl _ _,.inl (by simp [Value.ownBlock])⟩
theorem room_any (v:Value) (base n:Nat) (w:World) (hn:n≤1000000000) (hv:Own w base v 0 []) (h0:0<n∨v.ownBlock≠none):Calls prog 179 #[v,.int .i64 (n:Int)] w (RetRoom w v n):=by
 rcases hv.2 with ⟨rfl,_⟩ | ⟨g,cap,cur,T,rfl,hb,hg,_,hm,hcs,_⟩
 · exact room_new _ n none 0 0 rfl w hn (h0.resolve_right (fun h=>h rfl))
 · by_cases hc:cap<n
   · exact room_new _ n _ 0 cap rfl w hn hc
   · exact room_old n g cap cur T w hn om hm hg hcs
def Lies (w:World) (g:Nat) (n:Nat) (f:Nat→Nat):Prop:=∃ cur T,w.heap[g]?=some (.cells cur T (0,0))∧n≤cur.size∧∀ i,i<n→cur[i]?=some (.int .u64 (f i:Int))
theorem Lies.cell {w:World} {g n:Nat} {f:Nat→Nat} (h:Lies w g n f) {i:Nat} (hi:i<n):w.cell? ⟨g,i,none⟩=some (.int .u64 (f i:Int)):=by
 obtain ⟨cur,T,hg,_,hc⟩:=h;rw [cell_of_row w g i cur T (0,0) hg];exact hc i hi
theorem Lies.frozen {w:World} {g n:Nat} {f:Nat→Nat} (h:Lies w g n f) (i:Nat):w.frozen? ⟨g,i,none⟩=false:=by
 obtain ⟨cur,T,hg,_,_⟩:=h;simp [World.frozen?,hg]
theorem Lies.lt {w:World} {g n:Nat} {f:Nat→Nat} (h:Lies w g n f):g<w.heap.size:=by
 obtain ⟨cur,T,hg,_,_⟩:=h;exact (Array.getElem?_eq_some_iff.1 hg).1
theorem Lies.congr {w:World} {g n:Nat} {f f':Nat→Nat} (h:Lies w g n f) (e:∀ i,i<n→f i=f' i):Lies w g n f':=by
 obtain ⟨cur,T,hg,hn,hc⟩:=h;exact ⟨cur,T,hg,hn,fun i hi=>by rw [hc i hi,e i hi]⟩
theorem Lies.set {w:World} {g n:Nat} {f:Nat→Nat} (h:Lies w g n f) (i:Nat) (x:Nat):Lies (w.setCell ⟨g,i,none⟩ (.int .u64 (x:Int))) g n (fun j=>if j=i then x else f j):=by
 obtain ⟨cur,T,hg,hn,hc⟩:=h;refine ⟨cur.setIfInBounds i (.int .u64 (x:Int)),T,?_,by simpa using hn,fun j hj=>?_⟩
 · simp [World.setCell,Array.getElem?_modify,hg]
 · rw [Array.getElem?_setIfInBounds];by_cases e:j=i
   · subst e;have:j<cur.size:=om;simp [this]
   · rw [if_neg (fun h=>e h.symm)];show cur[j]?=some (.int .u64 ((if j=i then x else f j:Nat):Int));rw [if_neg e];exact hc j hj
theorem Lies.of_block {w w':World} {g n:Nat} {f:Nat→Nat} (h:Lies w g n f) (e:w'.heap[g]?=w.heap[g]?):Lies w' g n f:=by
 obtain ⟨cur,T,hg,r⟩:=h;exact ⟨cur,T,e.trans hg,r⟩
theorem Lies.rd {w:World} {g n:Nat} {f:Nat→Nat} (h:Lies w g n f):Rd w .u64 (some ⟨g,0,none⟩) n f:=fun _=>⟨g,0,rfl,h.lt,fun i hi=>by rw [Nat.zero_add];exact h.cell hi⟩
theorem Lies.of_room {w:World} {g n c:Nat} {T:TypeId} {cur:Array Value} (hg:w.heap[g]?=some (.cells cur T (0,0))) (hn:n≤c) (hc:c≤cur.size) (h:∀ i,i<n→cur[i]?=some (.int .u64 0)):Lies w g n (fun _=>0):=⟨cur,T,hg,om,fun i hi=>h i hi⟩
theorem Rd.grown {w w':World} {K:IntKind} {A:Option Addr} {n:Nat} {f:Nat→Nat} {row:Option Nat} (h:Rd w K A n f) (hg:w.grownBy w' row) (hne:∀ k,row=some k→∀ a,A=some a→a.block≠k):Rd w' K A n f:=fun hn=>by
 obtain ⟨g,o,e,hlt,hc⟩:=h hn;refine ⟨g,o,e,Nat.lt_of_lt_of_le hlt hg.size,fun i hi=>?_⟩;rw [World.cell?_of_block (w:=w) (hg.block g hlt (fun e2=>hne g e2.symm _ e rfl))];exact hc i hi
theorem add64_fn (x y c:Nat) (hc:c≤1) (w:World) (s o:Nat) (hs:(x+y+c)%18446744073709551616=s) (ho:(x+y+c) / 18446744073709551616=o) :
  (callFunc 187 #[.int .u64 (x:Int),.int .u64 (y:Int),.int .u64 (c:Int)]).run prog w=.ok (.value (.tuple #[.int .u64 (s:Int),.int .u64 (o:Int)])) w:=by
 rw [run_callFunc_extern Tryz.func187 kx kx kx (e:=add64Entry) kx,run_add64 x y c om om om om];subst hs;subst ho;simp only [Result.andThen]
 congr 5<;>omega
theorem sub64_fn (x y b:Nat) (hb:b≤1) (w:World) (d o:Nat) (hd:(x+18446744073709551616-y-b)%18446744073709551616=d) (ho:(if x<y+b then 1 else 0)=o) :
  (callFunc 188 #[.int .u64 (x:Int),.int .u64 (y:Int),.int .u64 (b:Int)]).run prog w=.ok (.value (.tuple #[.int .u64 (d:Int),.int .u64 (o:Int)])) w:=by
 rw [run_callFunc_extern Tryz.func188 kx kx kx (e:=sub64Entry) kx,run_sub64 x y b hb,←hd,←ho]
 rfl
theorem step_words (x f s c:Nat) (hx:x<18446744073709551616) (hf:f<18446744073709551616) (hs:s<18446744073709551616) (hc:c<18446744073709551616) :
  (x*f%18446744073709551616+s) / 18446744073709551616≤1 ∧
  x*f / 18446744073709551616+(x*f%18446744073709551616+s) / 18446744073709551616<18446744073709551616 ∧
  ((x*f%18446744073709551616+s)%18446744073709551616+c) / 18446744073709551616≤1 ∧
  x*f / 18446744073709551616+(x*f%18446744073709551616+s) / 18446744073709551616+((x*f%18446744073709551616+s)%18446744073709551616+c) / 18446744073709551616<18446744073709551616 ∧
  ((x*f%18446744073709551616+s)%18446744073709551616+c)%18446744073709551616=(s+x*f+c)%18446744073709551616 ∧
  x*f / 18446744073709551616+(x*f%18446744073709551616+s) / 18446744073709551616+((x*f%18446744073709551616+s)%18446744073709551616+c) / 18446744073709551616=(s+x*f+c) / 18446744073709551616:=by
 have h1:x*f≤18446744073709551615*18446744073709551615:=Nat.mul_le_mul om om;generalize x*f=p at *;omega
theorem add64_0 (x y s o:Nat) (hs:(x+y)%18446744073709551616=s) (ho:(x+y) / 18446744073709551616=o) (w:World) :
  (callFunc 187 #[.int .u64 (x:Int),.int .u64 (y:Int),.int .u64 0]).run prog w=.ok (.value (.tuple #[.int .u64 (s:Int),.int .u64 (o:Int)])) w :=
 add64_fn x y 0 om w s o hs ho
def RetAM (w:World) (g:Nat) (N:Nat) (F:Nat→Nat) (cy:Nat) (e:Ending) (w':World):Prop :=
 e=.returned (.int .u64 (cy:Int))∧Lies w' g N F∧w.grownBy w' (some g)
theorem grown_set {a w:World} {g:Nat} (h:a.grownBy w (some g)) (i:Nat) (u:Value):a.grownBy (w.setCell ⟨g,i,none⟩ u) (some g) :=
 ⟨h.os,h.tape,h.output,by simpa [World.setCell] using h.size,fun k hk hne=>(Below.heap_setCell w ⟨g,i,none⟩ u k (fun e=>hne (by rw [e]))).trans (h.block k hk hne)⟩
def amF (f:Nat→Nat) (o n U fac X:Nat) (k:Nat) (j:Nat):Nat:=if o≤j∧j<o+k then D B64 (U+fac*X) (j-o) else f j
theorem addMultiple_any (g o N n c:Nat) (f:Nat→Nat) (A:Option Addr) (m cx U X fac:Nat) (w:World) (hN:o+m≤N) (hn:n=m) (hc:n≤c) (hm:m≤1000000000) (hL:Lies w g N f) (hU:∀ i,i<m→f (o+i)=D B64 U i)
  (hX:Rd w .u64 A m (D B64 X)) (hne:0<m→∀ a,A=some a→a.block≠g) (hf:fac<18446744073709551616) :
  Calls prog 180 #[.slice (some ⟨g,o,none⟩) n c,.slice A m cx,.int .u64 (fac:Int)] w (RetAM w g N (amF f o n U fac X m) (car B64 U fac X m)):=by
 subst hn;have HX:=hid hX;have HN:=hid hne;have HU:=hid hU;have HL:=hid hL;clear hX hne hU hL;go_enter Tryz.func180,Tryz.ntmps180;go_wp2
 go_loopw [7,14] (fun cy i wr=>∃ k:Nat,k≤n∧i=.int .i64 k∧cy=.int .u64 (car B64 U fac X k:Nat)∧Lies wr g N (amF f o n U fac X k)∧w.grownBy wr (some g)) (fun _ i _=>n-(intOf i).toNat)
 case atStart =>
  refine ⟨0,Nat.zero_le _,rfl,by rw [car_zero];rfl,HL.out.congr fun i hi=>?_,World.grownBy.refl _ _⟩;unfold amF;rw [if_neg om]
 case round =>
  obtain ⟨k,hk,rfl,rfl,hlies,hg⟩:=hrel;by_cases hlt:k<n
  · have hxr:=(HX.out.grown hg (fun q hq a ha=>by injection hq with hq;subst hq;exact HN.out om a ha));obtain ⟨gx,ox,hA,hgx,hcx⟩:=hxr om;have hne2:gx≠g:=HN.out om _ hA;subst hA;have hxk:=hcx k hlt;have hcell:=hlies.cell (i:=o+k) om;have hfro:=hlies.frozen (o+k);have hval:amF f o n U fac X k (o+k)=D B64 U k:=by unfold amF;rw [if_neg om,HU.out k hlt]
    rw [hval] at hcell;clear hval hxr hcx;have hdx:=D64_lt X k;have hdu:=D64_lt U k;have hcl:=car_lt B64_pos (x:=fac) (by rw [B64_eq];exact hf) U X k;obtain ⟨hs1,hs2⟩:=car_step B64_pos U fac X k;rw [B64_eq] at hs1 hs2;rw [←B64_eq] at hs1 hs2;obtain ⟨t1,t2,t3,t4,t5,t6⟩:=step_words (D B64 X k) fac (D B64 U k) (car B64 U fac X k) hdx hf hdu om;have hlo1:D B64 X k*fac%18446744073709551616<18446744073709551616:=Nat.mod_lt _ om;obtain ⟨hi,hhi⟩:∃ v,D B64 X k*fac / 18446744073709551616=v:=⟨_,rfl⟩
    obtain ⟨lo,hlo⟩:∃ v,D B64 X k*fac%18446744073709551616=v:=⟨_,rfl⟩
    rw [hhi,hlo] at t2 t4 t6;rw [hlo] at t1 t3 t5 hlo1;obtain ⟨s1,hs1'⟩:∃ v,(lo+D B64 U k)%18446744073709551616=v:=⟨_,rfl⟩
    obtain ⟨o1,ho1⟩:∃ v,(lo+D B64 U k) / 18446744073709551616=v:=⟨_,rfl⟩
    rw [ho1] at t1 t2 t4 t6;rw [hs1'] at t3 t4 t5 t6;obtain ⟨s2,hs2'⟩:∃ v,(s1+car B64 U fac X k)%18446744073709551616=v:=⟨_,rfl⟩
    obtain ⟨o2,ho2⟩:∃ v,(s1+car B64 U fac X k) / 18446744073709551616=v:=⟨_,rfl⟩
    rw [ho2] at t3 t4 t6;rw [hs2'] at t5;have hm64:=fun W=>mul64_any (D B64 X k) fac hdx hf hi lo hhi hlo W
    have ha1:=add64_0 lo (D B64 U k) s1 o1 hs1' ho1;have ha2:=add64_0 s1 (car B64 U fac X k) s2 o2 hs2' ho2;have hdig:s2=D B64 (U+fac*X) k:=by rw [t5,←hs2,B64_eq,Nat.mul_comm fac]
    have hcar:hi+o1+o2=car B64 U fac X (k+1):=by rw [t6,←hs1,B64_eq,Nat.mul_comm fac]
    have HM64:=hid hm64;have HDIG:=hid hdig;have HCAR:=hid hcar;have HL2:=hid hlies;clear t5 t6 hs1 hs2 hm64 hdig hcar hhi hlo hs1' ho1 hs2' ho2 hlies;generalize car B64 U fac X k=cy at *;generalize D B64 X k=xk at *;generalize D B64 U k=uk at *;go_wp2_with fail
    refine (HM64.out _).mono ?_;rintro e w' ⟨rfl,rfl⟩;go_wp2
    go_roundw
    case rel =>
     refine ⟨k+1,om,by go_num,by rw [←HCAR.out];go_num,(HL2.out.set (o+k) s2).congr fun j hj=>?_,grown_set hg _ _⟩;unfold amF;exact k70
    case measure=>simp [intOf]<;>omega
  · obtain rfl:k=n:=om;go_wp2
    go_ret
    exact ⟨rfl,hlies,hg⟩
theorem D_low {b P Z k j:Nat} (hb:0<b) (hj:j<k):D b (P+b^k*Z) j=D b P j:=by
 unfold D
 have e:b^k=b^j*(b*b^(k-j-1)):=by
  rw [←Nat.pow_succ',←Nat.pow_add];congr 1;omega
 rw [e,Nat.mul_assoc,Nat.add_mul_div_left _ _ (Nat.pow_pos hb),Nat.mul_assoc,Nat.add_mul_mod_self_left]
theorem D_high {b P k j:Nat} (hj:k≤j):D b P j=D b (P / b^k) (j-k):=by
 unfold D;rw [Nat.div_div_eq_div_mul,←Nat.pow_add]
 congr 3
 omega
theorem times_step {X Y k n m:Nat} (hX:X<B64^n) (hk:k<m) (f:Nat→Nat) (hf:∀ j,j<n+m→f j=D B64 (X*(Y%B64^k)) j) :
  (∀ i,i<n→f (k+i)=D B64 (X*(Y%B64^k) / B64^k) i) ∧
  ∀ j,j<n+m→(if j=k+n then car B64 (X*(Y%B64^k) / B64^k) (D B64 Y k) X n else amF f k n (X*(Y%B64^k) / B64^k) (D B64 Y k) X n j)=D B64 (X*(Y%B64^(k+1))) j:=by
 have hp:0<B64^k:=Nat.pow_pos B64_pos;have hyk:Y%B64^k<B64^k:=Nat.mod_lt _ hp
 have hP:X*(Y%B64^k) / B64^k≤X:=by
  apply Nat.div_le_of_le_mul;rw [Nat.mul_comm];exact Nat.mul_le_mul_right _ (Nat.le_of_lt hyk)
 have hP2:X*(Y%B64^(k+1))=X*(Y%B64^k)+B64^k*(D B64 Y k*X):=by
  rw [mod_succ,Nat.mul_add,Nat.mul_left_comm,Nat.mul_comm X (D B64 Y k)]
 have hU:(X*(Y%B64^(k+1))) / B64^k=X*(Y%B64^k) / B64^k+D B64 Y k*X:=by
  rw [hP2,Nat.add_mul_div_left _ _ hp]
 have hPlt:X*(Y%B64^k)<B64^(n+k):=by rw [Nat.pow_add];exact Nat.mul_lt_mul'' hX hyk
 have hyk1:Y%B64^(k+1)<B64^(k+1):=Nat.mod_lt _ (Nat.pow_pos B64_pos);have hP1lt:X*(Y%B64^(k+1))<B64^(n+(k+1)):=by rw [Nat.pow_add B64 n];exact Nat.mul_lt_mul'' hX hyk1
 refine ⟨fun i hi=>?_,fun j hj=>?_⟩
 · rw [hf _ om,D_high (k:=k) om,Nat.add_sub_cancel_left]
 · by_cases e:j=k+n
   · rw [if_pos e,e,D_high (P:=X*(Y%B64^(k+1))) (k:=k) om,hU,Nat.add_sub_cancel_left,car_end (Nat.lt_of_le_of_lt hP hX) hX];show _=(X*(Y%B64^k) / B64^k+D B64 Y k*X) / B64^n%B64;refine (Nat.mod_eq_of_lt (Nat.div_lt_of_lt_mul ?_)).symm;have h1:D B64 Y k*X≤(B64-1)*X:=Nat.mul_le_mul_right _ (Nat.le_sub_one_of_lt (D_lt B64_pos Y k))
     have h2:(B64-1)*X+X=B64*X:=by
      rw [←Nat.succ_mul];exact congrArg (·*X) (Nat.succ_pred_eq_of_pos B64_pos)
     have h3:B64*X<B64*B64^n:=Nat.mul_lt_mul_of_pos_left hX B64_pos;rw [Nat.mul_comm (B64^n) B64];omega
   · rw [if_neg e];unfold amF;by_cases e2:k≤j∧j<k+n
     · rw [if_pos e2,D_high (P:=X*(Y%B64^(k+1))) (k:=k) e2.1,hU]
     · rw [if_neg e2,hf j hj];by_cases e3:j<k
       · rw [hP2,D_low B64_pos e3]
       · rw [D_zero_of B64_pos hPlt om,D_zero_of B64_pos hP1lt om]
theorem times_any (v:Value) (base:Nat) (A Bq:Option Addr) (n m c d X Y:Nat) (w:World) (hn:n≤100000000) (hm:m≤100000000) (h0:0<n+m∨v.ownBlock≠none) (hv:Own w base v 0 []) (hbase:base≤w.heap.size)
  (hx:Ng w A n c X) (hy:Ng w Bq m d Y) (hxa:∀ a,A=some a→some a.block≠v.ownBlock) (hya:∀ a,Bq=some a→some a.block≠v.ownBlock) :
  Calls prog 145 #[v,.slice A n c,.slice Bq m d] w (RetU w v (X*Y) (n+m)):=by
 have HX:=hid hx;have HY:=hid hy;have HXA:=hid hxa;have HYA:=hid hya;have HV:=hid hv;have H0:=hid h0;clear hx hy hxa hya hv h0;go_enter Tryz.func145,Tryz.ntmps145;go_wp2_with fail
 rw [show (n:Int)+(m:Int)=((n+m:Nat):Int) from by omega];refine (room_any v base (n+m) _ om HV.out H0.out).mono ?_;rintro e w1 ⟨g,cr,T,cur,rfl,hcr,hgc,hcs,hz,hg1,hgb⟩;have HL0:=hid (Lies.of_room hgc hcr hcs hz);have HG1:=hid hg1;have HGB:=hid hgb
 have hgx:∀ a,A=some a→a.block<w.heap.size→a.block≠g:=fun a ha hlt e=>by
  rcases HGB.out with h | h
  · exact HXA.out a ha (by rw [e,h])
  · omega
 have hgy:∀ a,Bq=some a→a.block<w.heap.size→a.block≠g:=fun a ha hlt e=>by
  exact k92
 have HGX:=hid hgx;have HGY:=hid hgy;clear hgc hcs hz hg1 hgb hgx hgy;go_wp2
 go_loopw [18] (fun i wr=>∃ k:Nat,k≤m∧i=.int .i64 k∧Lies wr g (n+m) (D B64 (X*(Y%B64^k)))∧w1.grownBy wr (some g)) (fun i _=>m-(intOf i).toNat)
 case atStart =>
  refine ⟨0,Nat.zero_le _,rfl,HL0.out.congr fun i hi=>?_,World.grownBy.refl _ _⟩;simp [D,Nat.mod_one]
 case round =>
  obtain ⟨k,hk,rfl,hlies,hgr⟩:=hrel
  have hg2:w.grownBy wr v.ownBlock:=grown_none HG1.out hgr (by
   rcases HGB.out with h | h
   · exact .inr (.inl h.symm)
   · exact .inr (.inr (fun q hq=>by injection hq with hq;omega)))
  have hxr:Rd wr .u64 A n (D B64 X):=HX.out.rd.grown hg2 (fun q hq a ha e=>HXA.out a ha (by rw [hq,e]));by_cases hlt:k<m
  · obtain ⟨gy,oy,hB,hgy0,hcy0⟩:=HY.out.rd om;have hgyn:gy≠g:=HGY.out _ hB hgy0;have hyk:wr.cell? ⟨gy,oy+k,none⟩=some (.int .u64 (D B64 Y k:Int)):=(World.cell?_of_block (w:=w) (a:=⟨gy,oy+k,none⟩) (hg2.block gy hgy0 (fun e=>HYA.out _ hB e))).trans (hcy0 k hlt);have hgyw:gy<wr.heap.size:=Nat.lt_of_lt_of_le hgy0 hg2.size;subst hB;clear hcy0;have hdy:=D64_lt Y k;obtain ⟨st1,st2⟩:=times_step (Y:=Y) HX.out.lt hlt (D B64 (X*(Y%B64^k))) (fun j hj=>rfl)
    have hxne:0<n→∀ a,A=some a→a.block≠g:=fun h0' a ha=>by
     obtain ⟨gx,ox,hA,hgx,_⟩:=HX.out.rd h0';rw [hA] at ha
     injection ha with ha
     subst ha;exact HGX.out _ hA hgx
    have HAM:=hid (fun W (hW:W.heap[g]?=wr.heap[g]?) (hxW:Rd W .u64 A n (D B64 X)) (L:Nat) (hLn:L=n)=>addMultiple_any g k (n+m) L (cr-k) (D B64 (X*(Y%B64^k))) A n c (X*(Y%B64^k) / B64^k) X (D B64 Y k) W om hLn om om (hlies.of_block hW) st1 hxW hxne hdy);have HST2:=hid st2;have HXR:=hid hxr;have HLI:=hid hlies;have hi1:(0:Int)≤(k:Int):=om;have hi2:(k:Int)<(m:Int):=om;have hi3:(k:Int)+(n:Int)≤(cr:Int):=om;have hi4:(k:Int)≤(k:Int)+(n:Int):=om;have hi6:¬cr=k:=om;have hi5:(k:Int)+(n:Int)<(n:Int)+(m:Int):=om;have hi7:(0:Int)≤(k:Int)+(n:Int):=om;have hi9:((k:Int)+(n:Int)).toNat=k+n:=om;have hw1:IntKind.i64.wrap ((k:Int)+(n:Int))=(k:Int)+(n:Int):=IntWalk.i64_in _ om;clear st1 st2 hxr hlies;generalize D B64 Y k=yk at *;go_wp2_with fail
    go_region_held3 (fun w'=>w'.cell? ⟨gy,oy+k,none⟩=some (.int .u64 (yk:Int)))
     (first
      | go_keep
      | exact (World.cell?_of_block (w:=wr) (a:=⟨gy,oy+k,none⟩) (hgr2.block gy hgyw (fun e=>hgyn (by injection e)))).trans hyk
      | exact (World.cell?_of_block (w:=wr) (a:=⟨gy,oy+k,none⟩) ((Below.heap_setCell _ _ _ gy hgyn).trans (hgr2.block gy hgyw (fun e=>hgyn (by injection e))))).trans hyk)
     (first
      | (go_at_call 180;refine (HAM.out _ ?_ ?_ _ ?_).mono ?_;(rfl);(exact HXR.out);(omega);rintro e w2 ⟨rfl,hl2,hgr2⟩;have hcs:=hl2.cell (i:=k+n) om;have hfs:=hl2.frozen (k+n)))
    go_wp2
    go_roundw
    case rel =>
     have hd1:w1.grownBy wr.drew (some g):=⟨hgr.os,hgr.tape,hgr.output,hgr.size,hgr.block⟩;exact ⟨k+1,om,by go_num,(hl2.set (k+n) _).congr HST2.out,grown_set (grown_none hd1 hgr2 (.inr (.inl rfl))) _ _⟩
    case measure=>simp [intOf]<;>omega
  · obtain rfl:k=m:=om;have hYm:Y%B64^k=Y:=Nat.mod_eq_of_lt HY.out.lt;rw [hYm] at hlies;have hng:Ng wr (some ⟨g,0,none⟩) (n+k) cr (X*Y):=⟨by rw [Nat.pow_add];exact Nat.mul_lt_mul'' HX.out.lt HY.out.lt,hcr,hlies.rd⟩;have HNG:=hid hng;clear hYm hlies hng;go_wp2_with fail
    refine (trim_any (some ⟨g,0,none⟩) (n+k) cr (X*Y) _ om HNG.out).mono ?_;rintro e w' ⟨q,hq,rfl,hnm,rfl⟩;have HNM:=hid hnm;clear hnm;go_wp2
    go_ret
    refine ⟨_,q,cr,hq,rfl,HNM.out,hg2,?_⟩;rcases HGB.out with h | h
    · exact .inl (by rw [h];rfl)
    · exact .inr (fun z hz=>by simp [Value.ownBlock] at hz;omega)
def arr16:Obj:=.cells #[.int .u64 0,.int .u64 0,.int .u64 0,.int .u64 0,.int .u64 0,.int .u64 0,.int .u64 0,.int .u64 0,.int .u64 0,.int .u64 0,.int .u64 0,.int .u64 0,.int .u64 0,.int .u64 0,.int .u64 0,.int .u64 0] 132
def Is16 (w:World) (g:Nat):Prop:=∃ cur,w.heap[g]?=some (.cells cur 132 (0,0))∧16≤cur.size
theorem Is16.own {w:World} {g:Nat} (h:Is16 w g):Own w 0 (.slice (some ⟨g,0,none⟩) 0 16) 0 []:=by
 obtain ⟨cur,hg,hs⟩:=h;exact Own.start hg (Nat.zero_le _) hs (by simp [maxLen])
theorem Is16.keep {w w':World} {g:Nat} (h:Is16 w g) (e:w'.heap[g]?=w.heap[g]?):Is16 w' g:=by
 obtain ⟨cur,hg,hs⟩:=h;exact ⟨cur,e.trans hg,hs⟩
theorem Is16.lt {w:World} {g:Nat} (h:Is16 w g):g<w.heap.size:=by
 obtain ⟨cur,hg,_⟩:=h;exact (Array.getElem?_eq_some_iff.1 hg).1
theorem heap_three_all (w:World) (o1 o2 o3:Obj):(((w.alloc o1).alloc o2).alloc o3).heap[w.heap.size]?=some o1∧(((w.alloc o1).alloc o2).alloc o3).heap[w.heap.size+1]?=some o2∧(((w.alloc o1).alloc o2).alloc o3).heap[w.heap.size+2]?=some o3 :=
 ⟨(Below.heap_alloc _ _ _ sm).trans (heap_fst _ _ _),(Below.heap_alloc _ _ _ sm).trans (heap_two _ _ _),heap_three _ _ _ _⟩
theorem keep_cell {W w2:World} {g p o:Nat} {v:Value} (hg:W.grownBy w2 (some g)) (hp:p<W.heap.size) (hne:p≠g) (h:W.cell? ⟨p,o,none⟩=some v):w2.cell? ⟨p,o,none⟩=some v :=
 (World.cell?_of_block (w:=W) (a:=⟨p,o,none⟩) (hg.block p hp (fun e=>hne (by injection e)))).trans h
theorem keep_16 {W w2:World} {g p:Nat} (hg:W.grownBy w2 (some g)) (hne:p≠g) (h:Is16 W p):Is16 w2 p:=h.keep (hg.block p h.lt (fun e=>hne (by injection e)))
theorem below_of_grown {a b:World} {B g:Nat} (hg:a.grownBy b (some g)) (hB:B≤a.heap.size) (hb:B≤g):Below B a b:=(Below.refl B a).grown hg hB (fun k hk=>by injection hk with hk;omega)
theorem apart {A:Option Addr} {n c g p S:Nat} (h:Value.ownBlock (.slice A n c)=some g∨∀ k,Value.ownBlock (.slice A n c)=some k→S≤k) (hne:g≠p) (hS:p<S):∀ a,A=some a→a.block≠p:=fun a ha=>by
 subst ha;rcases h with h | h
 · simp [Value.ownBlock] at h;omega
 · have:=h a.block rfl;omega
theorem row_eq {g q:Nat} (h:(Value.slice (some ⟨g,0,none⟩) 0 16).ownBlock=some q):g=q:=by simpa [Value.ownBlock] using h
theorem mul_long (na nb:Bool) (a b:ByteArray) (ha:a.size≤400000000) (hb:b.size≤400000000) (h:8<a.size∨8<b.size) (w:World) :
  Calls prog 95 #[.agg #[.bool na,.string a],.agg #[.bool nb,.string b]] w (RetZ w (sgn (na != nb) (bval a*bval b))):=by
 go_enter Tryz.func95,Tryz.ntmps95;go_wp2_with fail
 refine (words_no na nb a b h _).mono ?_;rintro e w1 ⟨rfl,hb1⟩;obtain ⟨k1,k2,k3⟩:=heap_three_all w (.cells #[.bool na,.string a] 23) (.cells #[.bool nb,.string b] 23) (.cells #[.bool false,.string ⟨#[]⟩] 23);have HK3:=hid k3;obtain ⟨c0,c1,_,_⟩:=res2 (g:=w.heap.size) (by exact k1) hb1 sm;obtain ⟨c2,c3,_,_⟩:=res2 (g:=w.heap.size+1) (by exact k2) hb1 sm;have hsz:w.heap.size+3≤w1.heap.size:=by have:=hb1.size;simp at this;omega
 have HB1:=hid hb1;clear k1 k2 k3 hb1;have hw2:∃ W,W=((w1.alloc arr16).alloc arr16).alloc arr16:=⟨_,rfl⟩
 obtain ⟨W,hW⟩:=hw2;obtain ⟨l1,l2,l3⟩:=heap_three_all w1 arr16 arr16 arr16;rw [←hW] at l1 l2 l3;have hbW:Below w1.heap.size w1 W:=by rw [hW];exact ((((Below.refl _ _).alloc (Nat.le_refl _) _).alloc (by simp) _).alloc sm _)
 have hszW:W.heap.size=w1.heap.size+3:=by rw [hW];simp
 have iA:Is16 W w1.heap.size:=⟨_,l1,by simp⟩;have iB:Is16 W (w1.heap.size+1):=⟨_,l2,by simp⟩;have iC:Is16 W (w1.heap.size+2):=⟨_,l3,by simp⟩;have c0':=(hbW.cell (p:=⟨w.heap.size,0,none⟩) (by show w.heap.size<_;omega)).trans c0;have c1':=(hbW.cell (p:=⟨w.heap.size,1,none⟩) (by show w.heap.size<_;omega)).trans c1;have c2':=(hbW.cell (p:=⟨w.heap.size+1,0,none⟩) (by show w.heap.size+1<_;omega)).trans c2;have c3':=(hbW.cell (p:=⟨w.heap.size+1,1,none⟩) (by show w.heap.size+1<_;omega)).trans c3;have HU1:=hid (fun V (hV:Is16 V w1.heap.size)=>unpack_any (.slice (some ⟨w1.heap.size,0,none⟩) 0 16) a 0 V om (Nat.zero_le _) hV.own);have HU2:=hid (fun V (hV:Is16 V (w1.heap.size+1))=>unpack_any (.slice (some ⟨w1.heap.size+1,0,none⟩) 0 16) b 0 V om (Nat.zero_le _) hV.own);have IA:=hid iA;have IB:=hid iB;have IC:=hid iC;have HW:=hid hW;have HBW:=hid hbW;have HSW:=hid hszW;clear l1 l2 l3 hbW hszW iA iB iC c0 c1 c2 c3 hW;go_wp2_with fail
 have hw9:((w1.alloc arr16).alloc arr16).alloc arr16=W:=HW.out.symm;unfold arr16 at hw9;rw [hw9];clear hw9;have hp1:w.heap.size<W.heap.size:=by have:=HSW.out;omega
 have hp2:w.heap.size+1<W.heap.size:=by have:=HSW.out;omega
 go_region_held3 (fun w'=>w'.cell? ⟨w.heap.size,1,none⟩=some (.string a)∧w'.cell? ⟨w.heap.size+1,1,none⟩=some (.string b))
  (first
   | go_keep
   | exact ⟨y1,y2⟩
   | exact ⟨z1,z2⟩)
  (first
   | (go_at_call 144;(with_reducible refine (HU1.out _ ?_).mono ?_);(exact IA.out.keep rfl);rintro e w2 ⟨A1,n1,d1,hn1,rfl,hm1,hg2,hbk1⟩;have z1:=keep_cell (W:=W.drew) (g:=w1.heap.size) hg2 hp1 om c1';have z2:=keep_cell (W:=W.drew) (g:=w1.heap.size) hg2 hp2 om c3';have hq1:=Nat.lt_of_lt_of_le hp1 hg2.size;have hq2:=Nat.lt_of_lt_of_le hp2 hg2.size)
   | (go_at_call 144;(with_reducible refine (HU2.out _ ?_).mono ?_);(exact keep_16 (W:=W.drew) (g:=w1.heap.size) hg2 om (IB.out.keep rfl));rintro e w3 ⟨A2,n2,d2,hn2,rfl,hm2,hg3,hbk2⟩;have y1:=keep_cell (g:=w1.heap.size+1) hg3 hq1 om z1;have y2:=keep_cell (g:=w1.heap.size+1) hg3 hq2 om z2))
 have hs2:W.heap.size≤w2.heap.size:=hg2.size;have hs3:w2.heap.size≤w3.heap.size:=hg3.size;have hsW:=HSW.out;have ax:=apart (g:=w1.heap.size) (p:=w1.heap.size+1) hbk1 om (by show _<W.heap.size;omega);have axC:=apart (g:=w1.heap.size) (p:=w1.heap.size+2) hbk1 om (by show _<W.heap.size;omega);have ayC:=apart (g:=w1.heap.size+1) (p:=w1.heap.size+2) hbk2 om om;have hx3:Ng w3 A1 n1 d1 (bval a):=⟨hm1.lt,hm1.cap,hm1.rd.grown hg3 (fun q hq z hz e=>ax z hz (e.trans (row_eq hq).symm))⟩;have i2:=keep_16 (W:=W.drew) (g:=w1.heap.size) hg2 om (IC.out.keep rfl);have i3:=keep_16 (g:=w1.heap.size+1) hg3 om i2;have hbl:Below w1.heap.size w1 w3:=((HBW.out.drew).trans (below_of_grown (g:=w1.heap.size) hg2 (by show _≤W.heap.size;omega) (Nat.le_refl _))).trans (below_of_grown (g:=w1.heap.size+1) hg3 om om);have HT:=hid (times_any (.slice (some ⟨w1.heap.size+2,0,none⟩) 0 16) 0 A1 A2 n1 n2 d1 d2 (bval a) (bval b) w3 om om (.inr (by simp [Value.ownBlock])) i3.own (Nat.zero_le _) hx3 hm2.toNg (fun z hz e=>axC z hz (by injection e)) (fun z hz e=>ayC z hz (by injection e)));have HBL:=hid hbl;have HN1:=hid hn1;have HN2:=hid hn2;have HS3:=hid hs3;have HS2:=hid hs2;clear hg2 hg3 hbk1 hbk2 hm1 hm2 ax axC ayC hx3 i2 i3 hbl hn1 hn2 z1 z2 y1 y2 c0' c1' c2' c3' hq1 hq2 hp1 hp2 hs2 hs3 hsW;go_wp2_with fail
 refine HT.out.mono ?_;rintro e w4 ⟨A4,n4,d4,hn4,rfl,hm4,hg4,_⟩;have HM4:=hid hm4;have HG4:=hid hg4;have HN4:=hid hn4;clear hm4 hg4 hn4;go_wp2_with fail
 refine (pack_any _ A4 n4 d4 _ _ (by have:=HN4.out;have:=HN1.out;have:=HN2.out;omega) HM4.out.toNg).mono fun e w5 h=>?_
 obtain ⟨b2,m2,HB2,rfl,hb5⟩:=h.form;have hs4:w3.heap.size≤w4.heap.size:=HG4.out.size;have hbl4:Below w1.heap.size w1 w5:=(HBL.out.trans (below_of_grown (g:=w1.heap.size+2) HG4.out (by have:=HS3.out;have:=HS2.out;have:=HSW.out;omega) om)).trans (hb5.mono (by have:=HS3.out;have:=HS2.out;have:=HSW.out;omega));have hall:=HB1.out.trans (hbl4.mono HB1.out.size);obtain ⟨p0,p1,g0,g1⟩:=res2 (g:=w.heap.size+2) (by exact HK3.out) hall sm;have HALL:=hid hall;clear h hb5 hbl4 hall hs4;go_wp2
 refine bodyPost_ret (v:=.agg #[.bool b2,.string m2]) (by simp [results,Tryz.results95,go_sem,p0,p1]) rfl ⟨?_,?_⟩
 · rw [←HB2.out];exact k88
 · exact ((Below.trans ((((Below.refl _ _).alloc (Nat.le_refl _) _).alloc sm _).alloc sm _) (HALL.out.mono (B':=w.heap.size) sm)).setCell sm _).setCell sm _
theorem mul_pair (na nb:Bool) (a b:ByteArray) (ha:a.size≤400000000) (hb:b.size≤400000000) (w:World) :
  Calls prog 95 #[.agg #[.bool na,.string a],.agg #[.bool nb,.string b]] w (RetZ w (sgn (na != nb) (bval a*bval b))):=by
 by_cases h1:8<a.size
 · exact mul_long na nb a b ha hb (.inl h1) w
 · by_cases h2:8<b.size
   · exact mul_long na nb a b ha hb (.inr h2) w
   · exact mul_short na nb a b om om w
theorem sgn_mul (x y:Int):sgn (decide (x<0) != decide (y<0)) (x.natAbs*y.natAbs)=x*y:=by
 rcases Int.natAbs_eq x with h | h<;>rcases Int.natAbs_eq y with h' | h'<;>unfold sgn
 all_goals
  generalize x.natAbs=p at *;generalize y.natAbs=q at *;subst h;subst h'
 · have a1:¬((p:Int)<0):=om;have a2:¬((q:Int)<0):=om;simp [a1,a2]
 · rcases Nat.eq_zero_or_pos q with hq | hq
   · subst hq;simp
   · have:¬((p:Int)<0):=om;have h2:(-(q:Int))<0:=om;simp [this,h2,hq,Int.mul_neg,Int.neg_mul]
 · rcases Nat.eq_zero_or_pos p with hq | hq
   · subst hq;simp
   · have:¬((q:Int)<0):=om;have h2:(-(p:Int))<0:=om;simp [this,h2,hq,Int.mul_neg,Int.neg_mul]
 · rcases Nat.eq_zero_or_pos p with hq | hq
   · subst hq;simp
   · rcases Nat.eq_zero_or_pos q with hq' | hq'
     · subst hq';simp
     · have h1:(-(q:Int))<0:=om;have h2:(-(p:Int))<0:=om;simp [h1,h2,hq,hq',Int.mul_neg,Int.neg_mul]
theorem mul_any (x y:Int) (h1:(mag x.natAbs).size≤100000) (h2:(mag y.natAbs).size≤100000) (w:World):Calls prog 95 #[enc x,enc y] w (RetZ w (x*y)):=by
 have h:=mul_pair (decide (x<0)) (decide (y<0)) (mag x.natAbs) (mag y.natAbs) om om w;rw [bval_mag,bval_mag,sgn_mul] at h;exact h
theorem prod_step {b X Y i n m:Nat} (hb:2≤b) (hY:Y<b^m) (hi:i<n) (j:Nat) :
  (if i≤j∧j<i+(m+1) then D b (X%b^i*Y / b^i+D b X i*Y) (j-i) else D b (X%b^i*Y) j)=D b (X%b^(i+1)*Y) j:=by
 have hp:0<b^i:=Nat.pow_pos om;have hP2:X%b^(i+1)*Y=X%b^i*Y+b^i*(D b X i*Y):=by rw [mod_succ,Nat.add_mul,Nat.mul_assoc]
 have hU:X%b^(i+1)*Y / b^i=X%b^i*Y / b^i+D b X i*Y:=by rw [hP2,Nat.add_mul_div_left _ _ hp]
 have hxi:X%b^i<b^i:=Nat.mod_lt _ hp;have hxi1:X%b^(i+1)<b^(i+1):=Nat.mod_lt _ (Nat.pow_pos om);have hPlt:X%b^i*Y<b^(i+m):=by rw [Nat.pow_add];exact Nat.mul_lt_mul'' hxi hY
 have hP1lt:X%b^(i+1)*Y<b^(i+1+m):=by rw [Nat.pow_add b (i+1)];exact Nat.mul_lt_mul'' hxi1 hY
 by_cases e:i≤j∧j<i+(m+1)
 · rw [if_pos e,D_high (P:=X%b^(i+1)*Y) (k:=i) e.1,hU]
 · rw [if_neg e];by_cases e3:j<i
   · rw [hP2,D_low om e3]
   · rw [D_zero_of om hPlt om,D_zero_of om hP1lt om]
theorem product_any (A B:Option Addr) (n m c d X Y:Nat) (w:World) (hn:n≤100000000) (hm:m≤100000000) (hx:Dg w .i64 256 A n X) (hy:Dg w .i64 256 B m Y) :
  Calls prog 157 #[.slice A n c,.slice B m d] w (RetG w .i64 256 (X*Y) (n+m+1)):=by
 have HX:=hid hx;have HY:=hid hy;clear hx hy;have hmk:=fun W=>run_make_row' (P:=prog) 102 3 (.int .i64 0) 8 Tryz.underlying102 intTy_info rfl .i64 .i64 (n+m+1) om om W
 have ec:((n+m+1:Nat):Int)=(n:Int)+(m:Int)+1:=om;rw [ec] at hmk;clear ec;go_enter Tryz.func157,Tryz.ntmps157;go_wp2
 go_loopw [6] (fun iv wr=>∃ i:Nat,i≤n∧iv=.int .i64 i∧wr.rowIs w.heap.size 3 (n+m+1) (fun j=>.int .i64 (D 256 (X%256^i*Y) j:Int))∧Below w.heap.size w wr) (fun iv _=>n-(intOf iv).toNat)
 case atStart =>
  exact k89
 case round =>
  obtain ⟨i,hi,rfl,hrow,hbl⟩:=hrel;by_cases hlt:i<n
  · obtain ⟨wo,rfl⟩:∃ wo:World,wo=wr:=⟨_,rfl⟩
    obtain ⟨g,o,rfl,hg,hcx⟩:=HX.out.rd om;have hxi0:=hcx i hlt;clear hcx;have hdx:=D_lt (b:=256) om X i;have HROW:=hid hrow;have HBL:=hid hbl;clear hrow hbl;go_wp2
    go_loopw [7,8] (fun cy kv wr=>∃ k:Nat,k≤m+1∧kv=.int .i64 k∧cy=.int .i64 (car 256 (X%256^i*Y / 256^i) (D 256 X i) Y k:Nat) ∧
     wr.rowIs w.heap.size 3 (n+m+1) (fun j=>.int .i64 ((if i≤j∧j<i+k then D 256 (X%256^i*Y / 256^i+D 256 X i*Y) (j-i) else D 256 (X%256^i*Y) j:Nat):Int))∧Below w.heap.size w wr) (fun _ kv _=>m+1-(intOf kv).toNat)
    case atStart =>
     exact k108
    case round =>
     obtain ⟨k,hk,rfl,rfl,hrow,hbl⟩:=hrel;by_cases hkt:k<m+1
     · have hxi:wr.cell? ⟨g,o+i,none⟩=some (.int .i64 (D 256 X i:Int)):=(hbl.cell (p:=⟨g,o+i,none⟩) hg).trans hxi0;have hci:=hrow.cell (i:=i+k) om;have hfi:=hrow.frozen (i+k);rw [if_neg om] at hci;have hDh:D 256 (X%256^i*Y) (i+k)=D 256 (X%256^i*Y / 256^i) k:=by rw [D_high (k:=i) om,Nat.add_sub_cancel_left]
       rw [hDh] at hci;obtain ⟨hs1,hs2⟩:=car_step (b:=256) om (X%256^i*Y / 256^i) (D 256 X i) Y k;have hcl:=car_lt (b:=256) om hdx (X%256^i*Y / 256^i) Y k;have hdu:=D_lt (b:=256) om (X%256^i*Y / 256^i) k;have hdy:=D_lt (b:=256) om Y k;have hpb:D 256 X i*D 256 Y k≤255*255:=Nat.mul_le_mul om om;have hpe:((D 256 X i:Nat):Int)*((D 256 Y k:Nat):Int)=((D 256 X i*D 256 Y k:Nat):Int):=by simp
       have HYr:=hid (HY.out.below hbl);have HR:=hid hrow;generalize D 256 X i*D 256 Y k=p at *;generalize car 256 (X%256^i*Y / 256^i) (D 256 X i) Y k=cy at *;generalize hug:D 256 (X%256^i*Y / 256^i) k=u at *;have HS1:=hid hs1;have HS2:=hid hs2;have hi1:(0:Int)≤(i:Int)+(k:Int):=om;have hi2:(i:Int)+(k:Int)<(n:Int)+(m:Int)+1:=om;have hi3:((i:Int)+(k:Int)).toNat=i+k:=om;have e0:IntKind.i64.wrap ((i:Int)+(k:Int))=(i:Int)+(k:Int):=IntWalk.i64_in _ om;have e1:IntKind.i64.wrap (p:Int)=(p:Int):=IntWalk.i64_in _ om;have e2:IntKind.i64.wrap ((u:Int)+(p:Int))=(u:Int)+(p:Int):=IntWalk.i64_in _ om;have e3:IntKind.i64.wrap ((u:Int)+(p:Int)+(cy:Int))=(u:Int)+(p:Int)+(cy:Int):=IntWalk.i64_in _ om;have HUG:=hid hug;clear hs1 hs2 hDh hrow hug;go_wp2_with fail
       go_quiet ((go_at_call 189;exact quietV (at_any B m d Y k _ om om (HYr.out.drewN _))))
       clear e0 e1 e2 e3;exact k34
     · obtain rfl:k=m+1:=om
       have hn2:wr.rowIs w.heap.size 3 (n+m+1) (fun j=>.int .i64 (D 256 (X%256^(i+1)*Y) j:Int)):=hrow.congr fun j hj=>by
        rw [prod_step (b:=256) om HY.out.lt hlt j]
       clear hrow;exact k104
  · obtain rfl:i=n:=om;have hXm:X%256^i=X:=Nat.mod_eq_of_lt HX.out.lt;rw [hXm] at hrow;have HR:=hid hrow;clear hXm hrow;go_wp2
    go_ret
    refine ⟨_,i+m+1,_,Nat.le_refl _,rfl,⟨?_,fun _=>⟨_,0,rfl,HR.out.lt,fun j hj=>?_⟩⟩,hbl⟩
    · rw [Nat.pow_succ,Nat.pow_add];have h1:=Nat.mul_lt_mul'' HX.out.lt HY.out.lt;omega
    · rw [Nat.zero_add];exact HR.out.cell hj
theorem heap_three_top (w:World) (o1 o2 o3:Obj):(((w.alloc o1).alloc o2).alloc o3).heap[w.heap.size+2]?=some o3:=heap_three w o1 o2 o3
theorem refMul_pair (na nb:Bool) (a b:ByteArray) (ha:a.size≤100000) (hb:b.size≤100000) (w:World) :
  Calls prog 105 #[.agg #[.bool na,.string a],.agg #[.bool nb,.string b]] w (RetZ w (sgn (na != nb) (bval a*bval b))):=by
 have HU1:=hid (fun V=>digits_any na a V om);have HU2:=hid (fun V=>digits_any nb b V om);have hne1:¬(w.heap.size=w.heap.size+1+1):=om;have hne2:¬(w.heap.size+1+1=w.heap.size):=om;go_enter Tryz.func105,Tryz.ntmps105;go_wp2_with fail
 go_region_held3 (fun w'=>w'.cell? ⟨w.heap.size,0,none⟩=some (.bool na)∧w'.cell? ⟨w.heap.size,1,none⟩=some (.string a)∧w'.cell? ⟨w.heap.size+1,0,none⟩=some (.bool nb)∧w'.cell? ⟨w.heap.size+1,1,none⟩=some (.string b)∧w.heap.size+3≤w'.heap.size)
  (first
   | go_keep
   | (go_split_ands
      have hb9:=‹Below _ _ _›;refine ⟨?_,?_,?_,?_,?_⟩
      · (rw [hb9.cell sm];first | assumption | simp)
      · (rw [hb9.cell sm];first | assumption | simp)
      · (rw [hb9.cell sm];first | assumption | simp)
      · (rw [hb9.cell sm];first | assumption | simp)
      · (have:=hb9.size;simp at this ⊢;omega)))
  (first
   | (go_at_call 155;(with_reducible refine (HU1.out _).mono ?_);rintro e w1 ⟨A1,n1,c1,hn1,rfl,hd1,hb1⟩)
   | (go_at_call 155;(with_reducible refine (HU2.out _).mono ?_);rintro e w2 ⟨A2,n2,c2,hn2,rfl,hd2,hb2⟩)
   | (go_at_call 157;refine (product_any A1 A2 n1 n2 c1 c2 (bval a) (bval b) _ ?_ ?_ ?_ ?_).mono ?_;(omega);(omega);(exact hd1.below hb2);(exact hd2);rintro e w3 ⟨A3,n3,c3,hn3,rfl,hd3,hb3⟩)
   | (go_at_call 154;refine (number_any _ A3 n3 c3 (bval a*bval b) _ ?_ ?_).mono ?_;(omega);(exact hd3);rintro e w4 ⟨rfl,hb4⟩;obtain ⟨bz,mz,hbm⟩:=enc_form (sgn (!na==nb) (bval a*bval b));rw [hbm];have HBM:=hid hbm;clear hbm;obtain ⟨q0,q1,f0,f1⟩:=res2 (g:=w.heap.size+2) (by exact heap_three_top _ _ _ _) (hb1.trans ((hb2.trans ((hb3.trans (hb4.mono hb3.size)).mono hb2.size)).mono hb1.size)) sm))
 go_wp2
 refine bodyPost_ret (v:=.agg #[.bool bz,.string mz]) (by simp [results,Tryz.results105,go_sem,q0,q1]) rfl ⟨?_,?_⟩
 · rw [←HBM.out];exact k88
 · have h0:Below w.heap.size w (((w.alloc (.cells #[.bool na,.string a] 23)).alloc (.cells #[.bool nb,.string b] 23)).alloc (.cells #[.bool false,.string ⟨#[]⟩] 23)).drew:=((((Below.refl _ _).alloc (Nat.le_refl _) _).alloc sm _).alloc sm _).drew;have s1:=Nat.le_trans h0.size hb1.size;have s2:=Nat.le_trans s1 hb2.size;have s3:=Nat.le_trans s2 hb3.size;exact (((((h0.trans (hb1.mono h0.size)).trans (hb2.mono s1)).trans (hb3.mono s2)).trans (hb4.mono s3)).setCell sm _).setCell sm _
theorem refMul_any (x y:Int) (h1:(mag x.natAbs).size≤100000) (h2:(mag y.natAbs).size≤100000) (w:World):Calls prog 105 #[enc x,enc y] w (RetZ w (x*y)):=by
 have h:=refMul_pair (decide (x<0)) (decide (y<0)) (mag x.natAbs) (mag y.natAbs) om om w;rw [bval_mag,bval_mag,sgn_mul] at h;exact h
def left (n:Int) (k:Nat):Int:=if n<0 then -((n.natAbs / 256^k:Nat):Int) else ((n.natAbs / 256^k:Nat):Int)
theorem digits_end {V k:Nat} (hV:V≤9223372036854775808) (h:V / 256^k≠0):k<8:=by
 rcases Nat.lt_or_ge k 8 with h1 | h1
 · exact h1
 · have h2:(256:Nat)^8≤256^k:=Nat.pow_le_pow_right om h1;have h3:(256:Nat)^8=18446744073709551616:=by decide
   exact absurd (Nat.div_eq_of_lt om) h
theorem digits_all {V k:Nat} (h:V / 256^k=0):V<256^k:=by
 have hp:0<256^k:=Nat.pow_pos om;rcases Nat.lt_or_ge V (256^k) with h1 | h1
 · exact h1
 · have:=Nat.div_pos h1 hp;omega
theorem refFromInt_pos (V:Nat) (hV:V≤9223372036854775807) (w:World) :
  Calls prog 102 #[.int .i64 (V:Int)] w (RetZ w V):=by
 obtain ⟨i0,hi,hz0,hz1,hz2⟩:=info_parts intTy_info;have hn0:decide ((V:Int)<0)=false:=by simp<;>omega
 go_enter Tryz.func102,Tryz.ntmps102;go_wp2
 go_loopw [0,3] (fun nv out wr=>∃ k q:Nat,k≤8∧Hid (V / 256^k=q)∧nv=.int .i64 (q:Int)∧q≤V∧wr.ownsRow (w.heap.size+1) 3 1 out k (nums .i64 (D 256 V) k)∧Below (w.heap.size+1) (w.alloc (.cells #[.bool false,.string ⟨#[]⟩] 23)) wr∧w.heap.size+1≤wr.heap.size)
  (fun nv _ _=>(intOf nv).toNat)
 case atStart=>exact ⟨0,V,om,by show _=_;simp,rfl,Nat.le_refl _,World.ownsRow_nil _ _ _ _,by simpa using Below.refl _ _,by simp⟩
 case round =>
  obtain ⟨k,q,hk,HQ,rfl,hqV,hown,hbl,hsz⟩:=hrel;by_cases h0:q=0
  · subst h0;have hlt:=digits_all HQ.out;obtain ⟨A1,c1,rfl,hr1⟩:=Rd.of_own hown;have HD:=hid (show Dg wr .i64 256 A1 k V from ⟨hlt,hr1⟩);clear hlt hr1 hown;go_wp2_with fail
    refine (number_any false A1 k c1 V _ om HD.out).mono fun e w2 h=>?_
    obtain ⟨bz,mz,HZ,rfl,hb2⟩:=h.form;have hall:=hbl.trans (hb2.mono om);obtain ⟨q0,q1,f0,f1⟩:=res2 (g:=w.heap.size) (by exact heap_one _ _) hall (by simp);have HALL:=hid hall;clear h hb2 hall hbl;go_wp2
    refine bodyPost_ret (v:=.agg #[.bool bz,.string mz]) (by simp [results,Tryz.results102,go_sem,q0,q1]) rfl ⟨by rw [←HZ.out];rfl,?_⟩;exact ((((Below.refl _ _).alloc (Nat.le_refl _) _).trans (HALL.out.mono om)).setCell (by simp) _).setCell (by simp) _
  · have hk8:=digits_end (V:=V) (k:=k) om (by rw [HQ.out];exact h0);have hne:((q:Int) != 0)=true:=by simp;omega
    have hd:D 256 V k=q%256:=by unfold D;rw [HQ.out]
    have hq2:V / 256^(k+1)=q / 256:=by rw [Nat.pow_succ,←Nat.div_div_eq_div_mul,HQ.out]
    have HD:=hid hd;have HQ2:=hid hq2;clear hd hq2;go_wp2_with (at_builtin;refine wpList_append_own _ rfl _ _ 102 rfl (w.heap.size+1) 3 i0 (.int .i64 0) 1 8 Tryz.underlying102 hi hz0 hz1 hz2 rfl dc _ _ _ rfl (hown.alloc _) ⟨wr.heap.size,0,none⟩ 1 1 [.int .i64 ((q%256:Nat):Int)] rfl rfl ?_ ?_ ?_ ?_ ?_ ?_)
    · intro j u hj;exact one_cell j u hj (by go_num)
    · intro u hu;simp at hu;subst hu;rfl
    · unfold maxLen;omega
    · omega
    · simp;omega
    intro v' w2 hown' hgrow _;have hown2:=own_next hown' HD.out.symm;have hb2:Below (w.heap.size+1) wr w2:=((Below.refl _ _).alloc hsz _).grown hgrow (by simp;omega) (fun g hg=>((hown.lt) g hg).1);have hs2:=hb2.size;clear hgrow hown' hown;go_wp2
    go_roundw
    case rel=>exact ⟨k+1,q / 256,om,HQ2,by go_num,om,hown2,hbl.trans hb2,om⟩
    case measure=>simp [intOf];omega
theorem prod_rest {X Y i m:Nat} (hY:Y<256^m):X%256^i*Y / 256^i<256^m:=by
 apply Nat.div_lt_of_lt_mul;exact Nat.mul_lt_mul'' (Nat.mod_lt _ (Nat.pow_pos om)) hY
theorem prod_car {X Y i m k:Nat} (hY:Y<256^m) (hk:m<k):car 256 (X%256^i*Y / 256^i) (D 256 X i) Y k=0:=by
 have h1:=prod_rest (X:=X) (i:=i) hY;have h2:256^(m+1)≤256^k:=Nat.pow_le_pow_right om hk;have h3:=D_lt (b:=256) om X i;have h4:D 256 X i*Y≤255*Y:=Nat.mul_le_mul_right Y om;rw [Nat.pow_succ] at h2;rw [car_end om om,Nat.div_eq_of_lt];omega
theorem prod_end {X Y i m k:Nat} (hY:Y<256^m) (hk:m≤k) (hz:car 256 (X%256^i*Y / 256^i) (D 256 X i) Y k=0) (j:Nat) :
  (if i≤j∧j<i+k then D 256 (X%256^i*Y / 256^i+D 256 X i*Y) (j-i) else D 256 (X%256^i*Y) j)=D 256 (X%256^(i+1)*Y) j:=by
 have hp:0<256^i:=Nat.pow_pos om;have hP2:X%256^(i+1)*Y=X%256^i*Y+256^i*(D 256 X i*Y):=by rw [mod_succ,Nat.add_mul,Nat.mul_assoc]
 have hU:X%256^(i+1)*Y / 256^i=X%256^i*Y / 256^i+D 256 X i*Y:=by rw [hP2,Nat.add_mul_div_left _ _ hp]
 have hmk:256^m≤256^k:=Nat.pow_le_pow_right om hk;have hlt:=lt_of_car (b:=256) om (Nat.lt_of_lt_of_le (prod_rest (X:=X) (i:=i) hY) hmk) (Nat.lt_of_lt_of_le hY hmk) hz;by_cases e:i≤j∧j<i+k
 · rw [if_pos e,D_high (P:=X%256^(i+1)*Y) (k:=i) e.1,hU]
 · rw [if_neg e];by_cases e3:j<i
   · rw [hP2,D_low om e3]
   · rw [D_high (P:=X%256^(i+1)*Y) (k:=i) om,hU,D_zero_of om hlt om,D_high (P:=X%256^i*Y) (k:=i) om,D_zero_of om (Nat.lt_of_lt_of_le (prod_rest (X:=X) (i:=i) hY) hmk) om]
theorem rtimes (A B:Option Addr) (n m c d X Y:Nat) (w:World) (hn:n≤10000000) (hm:m≤10000000) (hx:Dg w .i64 256 A n X) (hy:Dg w .i64 256 B m Y) :
  Calls prog 122 #[.slice A n c,.slice B m d] w (RetTr w (X*Y)):=by
 have HX:=hid hx;have HY:=hid hy;clear hx hy;have hmk:=fun W=>run_make_row' (P:=prog) 102 3 (.int .i64 0) 8 Tryz.underlying102 intTy_info rfl .i64 .i64 (n+m+1) om om W
 have ec:((n+m+1:Nat):Int)=(n:Int)+(m:Int)+1:=om;rw [ec] at hmk;clear ec;go_enter Tryz.func122,Tryz.ntmps122;go_wp2
 go_loopw [6] (fun iv wr=>∃ i:Nat,i≤n∧iv=.int .i64 i∧wr.rowIs w.heap.size 3 (n+m+1) (fun j=>.int .i64 (D 256 (X%256^i*Y) j:Int))∧Below w.heap.size w wr) (fun iv _=>n-(intOf iv).toNat)
 case atStart =>
  exact k89
 case round =>
  obtain ⟨i,hi,rfl,hrow,hbl⟩:=hrel;by_cases hlt:i<n
  · obtain ⟨wo,rfl⟩:∃ wo:World,wo=wr:=⟨_,rfl⟩
    obtain ⟨g,o,rfl,hg,hcx⟩:=HX.out.rd om;have hxi0:=hcx i hlt;clear hcx;have hdx:=D_lt (b:=256) om X i;have HROW:=hid hrow;have HBL:=hid hbl;clear hrow hbl;go_wp2
    go_loopw [7,8] (fun cy kv wr=>∃ k:Nat,k≤m+1∧kv=.int .i64 k∧cy=.int .i64 (car 256 (X%256^i*Y / 256^i) (D 256 X i) Y k:Nat) ∧
     wr.rowIs w.heap.size 3 (n+m+1) (fun j=>.int .i64 ((if i≤j∧j<i+k then D 256 (X%256^i*Y / 256^i+D 256 X i*Y) (j-i) else D 256 (X%256^i*Y) j:Nat):Int))∧Below w.heap.size w wr) (fun _ kv _=>m+2-(intOf kv).toNat)
    case atStart =>
     exact k108
    case round =>
     obtain ⟨k,hk,rfl,rfl,hrow,hbl⟩:=hrel;have HEND:=hid (fun h1 h2=>prod_end (X:=X) (i:=i) (k:=k) HY.out.lt h1 h2)
     have hcp:0<car 256 (X%256^i*Y / 256^i) (D 256 X i) Y k→k≤m:=fun h=>by
      rcases Nat.lt_or_ge m k with h1 | h1
      · rw [prod_car HY.out.lt h1] at h;omega
      · exact h1
     by_cases hgo:k<m∨0<car 256 (X%256^i*Y / 256^i) (D 256 X i) Y k
     · have hkm:k≤m:=by rcases hgo with h | h;omega;exact hcp h
       have hxi:wr.cell? ⟨g,o+i,none⟩=some (.int .i64 (D 256 X i:Int)):=(hbl.cell (p:=⟨g,o+i,none⟩) hg).trans hxi0;have hci:=hrow.cell (i:=i+k) om;have hfi:=hrow.frozen (i+k);rw [if_neg om] at hci;have hDh:D 256 (X%256^i*Y) (i+k)=D 256 (X%256^i*Y / 256^i) k:=by rw [D_high (k:=i) om,Nat.add_sub_cancel_left]
       rw [hDh] at hci;obtain ⟨hs1,hs2⟩:=car_step (b:=256) om (X%256^i*Y / 256^i) (D 256 X i) Y k;have hcl:=car_lt (b:=256) om hdx (X%256^i*Y / 256^i) Y k;have hdu:=D_lt (b:=256) om (X%256^i*Y / 256^i) k;have hdy:=D_lt (b:=256) om Y k;have hpb:D 256 X i*D 256 Y k≤255*255:=Nat.mul_le_mul om om;have hpe:((D 256 X i:Nat):Int)*((D 256 Y k:Nat):Int)=((D 256 X i*D 256 Y k:Nat):Int):=by simp
       have HP0:=hid (fun h:m≤k=>show D 256 X i*D 256 Y k=0 by rw [D_zero_of (b:=256) om HY.out.lt h,Nat.mul_zero]);have HR:=hid hrow
       have hyk:k<m→∃ g' o',B=some ⟨g',o',none⟩∧wr.cell? ⟨g',o'+k,none⟩=some (.int .i64 (D 256 Y k:Int)):=fun h=>by
        obtain ⟨g',o',e,_,hc⟩:=(HY.out.rd.below hbl) om;exact ⟨g',o',e,hc k h⟩
       have HYK:=hid hyk;clear hyk;generalize D 256 X i*D 256 Y k=p at *;generalize car 256 (X%256^i*Y / 256^i) (D 256 X i) Y k=cy at *;generalize hug:D 256 (X%256^i*Y / 256^i) k=u at *;have HS1:=hid hs1;have HS2:=hid hs2;have hi1:(0:Int)≤(i:Int)+(k:Int):=om;have hi2:(i:Int)+(k:Int)<(n:Int)+(m:Int)+1:=om;have hi3:((i:Int)+(k:Int)).toNat=i+k:=om;have HUG:=hid hug;clear hs1 hs2 hDh hrow hug hcp;by_cases hkt:k<m
       · obtain ⟨g',o',rfl,hc2⟩:=HYK.out hkt;have e1:IntKind.i64.wrap (p:Int)=(p:Int):=IntWalk.i64_in _ om;have e2:IntKind.i64.wrap ((u:Int)+(cy:Int))=(u:Int)+(cy:Int):=IntWalk.i64_in _ om;have e3:IntKind.i64.wrap ((u:Int)+(cy:Int)+(p:Int))=(u:Int)+(cy:Int)+(p:Int):=IntWalk.i64_in _ om;clear hgo;go_wp2_with fail
         go_quiet (fail)
         clear e1 e2 e3;exact k34
       · have hcy:0<cy:=om;clear hgo;go_wp2
         go_roundw
         case rel =>
          have hp0:=HP0.out om;refine ⟨k+1,om,by go_num,by rw [←HS1.out];go_num,(World.rowIs.set (w:=wr) HR.out (i+k) _).congr fun j hj=>?_,hbl.setCell (Nat.le_refl _) _⟩;by_cases e:j=i+k
          · rw [if_pos e,if_pos om,e,Nat.add_sub_cancel_left,←HS2.out];go_num
          · rw [if_neg e];by_cases e2:i≤j∧j<i+k
            · rw [if_pos e2,if_pos om]
            · rw [if_neg e2,if_neg om]
         case measure=>simp [intOf]<;>omega
     · have hn2 : wr.rowIs w.heap.size 3 (n + m + 1) (fun j => .int .i64 (D 256 (X % 256 ^ (i + 1) * Y) j : Int)) := hrow.congr fun j hj => by
        rw [HEND.out om om j]
       have hk1:¬k<m:=om;have hk2:¬0<car 256 (X%256^i*Y / 256^i) (D 256 X i) Y k:=om;clear hrow hgo hcp;exact k104
  · obtain rfl:i=n:=om;have hXm:X%256^i=X:=Nat.mod_eq_of_lt HX.out.lt;rw [hXm] at hrow;have HR:=hid hrow;clear hXm hrow
    have hd:Dg wr .i64 256 (some ⟨w.heap.size,0,none⟩) (i+m+1) (X*Y):=by
     refine ⟨?_,fun _=>⟨_,0,rfl,HR.out.lt,fun j hj=>?_⟩⟩
     · rw [Nat.pow_succ,Nat.pow_add];have h1:=Nat.mul_lt_mul'' HX.out.lt HY.out.lt;omega
     · rw [Nat.zero_add];exact HR.out.cell hj
    have HD:=hid hd;clear hd;have HT:=hid (fun W (h:Dg W .i64 256 (some ⟨w.heap.size,0,none⟩) (i+m+1) (X*Y))=>rtrim_any (some ⟨w.heap.size,0,none⟩) (i+m+1) (i+m+1) (X*Y) W om (Nat.le_refl _) h);have ec:((i+m+1:Nat):Int)=(i:Int)+(m:Int)+1:=om;have HE:=hid ec;clear ec;go_wp2_with fail
    refine (HT.out _ HD.out).mono ?_;rintro e w' ⟨rfl,rfl⟩;go_wp2
    go_ret
    exact ⟨_,_,_,rfl,Tr.of (Nat.le_refl _) (fun h=>by cases h) HD.out,hbl,fun a ha=>by injection ha with ha;subst ha;exact Nat.le_refl _⟩
end Go.Proofs.YtpnokfgplnmjpaaGreatDoor
namespace Go.Proofs.YtpnokfgplnmjpaaGreatDoor
open Go.RowKit
theorem long_step (X:Nat) {Y k:Nat} (hY:0<Y) :
  X / 256^k%Y=(256*(X / 256^(k+1)%Y)+D 256 X k)%Y∧D 256 (X / Y) k=(256*(X / 256^(k+1)%Y)+D 256 X k) / Y∧256*(X / 256^(k+1)%Y)+D 256 X k<256*Y:=by
 have h1:=div_D 256 X k;have h2:=Nat.div_add_mod (X / 256^(k+1)) Y;have h3:=Nat.mod_lt (X / 256^(k+1)) hY;have h4:=D_lt (b:=256) om X k
 have e0:D 256 (X / Y) k=X / 256^k / Y%256:=by
  unfold D;rw [Nat.div_div_eq_div_mul,Nat.div_div_eq_div_mul,Nat.mul_comm Y]
 generalize X / 256^(k+1) / Y=q at *;generalize X / 256^(k+1)%Y=r at *;generalize D 256 X k=e at *
 have e1:X / 256^k=Y*(256*q)+(256*r+e):=by
  rw [h1,←h2,Nat.mul_add,Nat.mul_left_comm];omega
 have h5:(256*r+e) / Y<256:=Nat.div_lt_of_lt_mul (by rw [Nat.mul_comm];omega);refine ⟨?_,?_,om⟩
 · rw [e1,Nat.mul_add_mod]
 · rw [e0,e1,Nat.mul_add_div hY];generalize (256*r+e) / Y=H at *;clear e0 e1 h1 h2 h3;omega
theorem D_front (R e:Nat) (he:e<256) (j:Nat):D 256 (256*R+e) j=if j=0 then e else D 256 R (j-1):=by
 rcases j with _ | j
 · rw [if_pos rfl];unfold D;rw [Nat.pow_zero,Nat.div_one];omega
 · rw [if_neg om,Nat.add_sub_cancel];unfold D;rw [Nat.pow_succ',←Nat.div_div_eq_div_mul,show (256*R+e) / 256=R by omega]
theorem nums_front (R e n:Nat) (he:e<256):[Value.int .i64 (e:Int)]++nums .i64 (D 256 R) n=nums .i64 (D 256 (256*R+e)) (n+1):=by
 apply List.ext_getElem?;intro i;rcases i with _ | i
 · rw [nums_get _ _ _ _ om,D_front R e he,if_pos rfl];rfl
 · rw [List.cons_append,List.nil_append,List.getElem?_cons_succ];by_cases hi:i<n
   · rw [nums_get _ _ _ _ hi,nums_get _ _ _ _ om,D_front R e he,if_neg om,Nat.add_sub_cancel]
   · rw [List.getElem?_eq_none (by rw [nums_length];omega),List.getElem?_eq_none (by rw [nums_length];omega)]
theorem front_lt {R e n:Nat} (he:e<256) (h:R<256^n):256*R+e<256^(n+1):=by
 rw [Nat.pow_succ];omega
theorem take_more {T Y t s:Nat} (h:s*Y≤T-t*Y) (ht:t*Y≤T):(t+s)*Y≤T∧T-t*Y-s*Y=T-(t+s)*Y:=by
 rw [Nat.add_mul];omega
theorem take_all {T Y t:Nat} (hY:0<Y) (ht:t*Y≤T) (h:T-t*Y<Y):t=T / Y∧T-t*Y=T%Y:=by
 have h1:T / Y=t:=by
  rw [show T=Y*t+(T-t*Y) by rw [Nat.mul_comm Y];omega,Nat.mul_add_div hY,Nat.div_eq_of_lt h];omega
 have h2:=Nat.div_add_mod T Y;rw [h1,Nat.mul_comm] at h2;exact ⟨h1.symm,om⟩
theorem take_le {T Y t:Nat} (hY:0<Y):t*Y≤T↔t≤T / Y:=(Nat.le_div_iff_mul_le hY).symm
theorem take_lt {T Y t:Nat} (hY:0<Y) (ht:t*Y≤T):Y≤T-t*Y↔t<T / Y:=by
 rw [show t<T / Y↔t+1≤T / Y from Iff.rfl,←take_le hY,Nat.add_mul];omega
end Go.Proofs.YtpnokfgplnmjpaaGreatDoor
