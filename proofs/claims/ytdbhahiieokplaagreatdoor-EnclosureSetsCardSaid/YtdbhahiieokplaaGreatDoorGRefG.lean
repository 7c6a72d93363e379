import Derived.Test.YtdbhahiieokplaaGreatDoorGLawA
import Derived.Shelf.Spec.BitsCarry
import Derived.Test.YtdbhahiieokplaaGreatDoorGRNC
set_option linter.unusedSimpArgs false
set_option linter.unusedVariables false

namespace Go.Proofs.YtdbhahiieokplaaGreatDoor
open Go.RowKit
attribute [local go_sem ↓] Go.wp_at_zero Go.wp_at_succ

def RetRoom (w:World) (v:Value) (n:Nat) (e:Ending) (w':World):Prop :=
 ∃ g c T cur,e=.returned (.slice (some ⟨g,0,none⟩) n c)∧n≤c∧w'.heap[g]?=some (.cells cur T (0,0))∧c≤cur.size∧(∀ i,i<n→cur[i]?=some (.int .u64 0))∧w.grownBy w' v.ownBlock∧(v.ownBlock=some g∨w.heap.size≤g)

set_option maxHeartbeats 1000000 in
set_option maxRecDepth 100000 in
theorem room_new (v:Value) (n:Nat) (A:Option Addr) (m c:Nat) (hv:v=.slice A m c) (w:World) (hn:n≤1000000000) (hc:c<n) :
  Calls Tryz.prog 167 #[v,.int .i64 (n:Int)] w (RetRoom w v n):=by
 subst hv
 have hmk:=fun W=>run_make_row' (P:=Tryz.prog) 153 146 (.int .u64 0) 8 Tryz.underlying153 natInfo rfl .i64 .i64 n (by omega) (by omega) W
 go_enter Tryz.func167,Tryz.ntmps167
 go_wp2
 go_ret
 refine ⟨w.heap.size,n,146,_,rfl,Nat.le_refl _,heap_one _ _,?_,fun i hi=>?_,World.grownBy_alloc _ _ _,.inr (Nat.le_refl _)⟩
 · simp [madeCells]
 · simp [madeCells,hi,Nat.mod_one]

theorem zeroU64 (w:World):(zeroValue 146).run Tryz.prog w=.ok (.int .u64 0) w:=by kernel_rfl

theorem zeros_list (n:Nat):(Builtin.zeroCells #[.int .u64 0] n).toList=List.replicate n (.int .u64 0):=by
 apply List.ext_getElem?
 intro i
 by_cases hi:i<n
 · simp [Builtin.zeroCells,hi,Nat.mod_one]
 · rw [List.getElem?_eq_none (by simp [Builtin.zeroCells];omega),List.getElem?_eq_none (by simp;omega)]

theorem run_clear (n g c:Nat) (cur:Array Value) (T:TypeId) (w:World) (h0:0<n) (hn:n≤cur.size) (hg:w.heap[g]?=some (.cells cur T (0,0))) :
  (Builtin.clear_ #[153] 0 #[.slice (some ⟨g,0,none⟩) n c]).run Tryz.prog w=.ok (.tuple #[]) (w.setRow g ((List.replicate n (Value.int .u64 0))++cur.toList.drop n).toArray):=by
 have hst:=run_storeCells_at Tryz.prog g 0 T (List.replicate n (.int .u64 0)) 0 cur w hg (by simpa using hn) (by intro v hv;rw [List.eq_of_mem_replicate hv];rfl)
 have hu:Tryz.prog.underlying 153=some (.slice 146):=Tryz.underlying153
 obtain ⟨m,rfl⟩:∃ m,n=m+1:=⟨n-1,by omega⟩
 simp only [Nat.zero_add,List.take_zero,List.nil_append,List.length_replicate] at hst
 simp [Builtin.clear_,run_underlying hu,zeroU64,zeros_list,Value.cells,hst,Result.andThen]

set_option maxHeartbeats 1000000 in
set_option maxRecDepth 100000 in
theorem room_old (n g c:Nat) (cur:Array Value) (T:TypeId) (w:World) (hn:n≤1000000000) (hc:n≤c) (hcm:c≤maxLen) (hg:w.heap[g]?=some (.cells cur T (0,0))) (hcs:c≤cur.size) :
  Calls Tryz.prog 167 #[.slice (some ⟨g,0,none⟩) 0 c,.int .i64 (n:Int)] w (RetRoom w (.slice (some ⟨g,0,none⟩) 0 c) n):=by
 unfold maxLen at hcm
 by_cases h0:0<n
 · have hrun:=run_clear n g c cur T w h0 (by omega) hg
   have HG:=Lib.hid hg
   clear hg
   go_enter Tryz.func167,Tryz.ntmps167
   go_wp2
   go_ret
   have hl:(((List.replicate n (Value.int .u64 0))++cur.toList.drop n).toArray).size=cur.size:=by simp;omega
   refine ⟨g,c,T,_,rfl,hc,setRow_heap w g cur _ T _ HG.out,by rw [hl];exact hcs,fun i hi=>?_,⟨rfl,rfl,rfl,by simp [World.setRow],fun k _ hk=>setRow_other w g k _ (fun e=>hk (by simp [Value.ownBlock,e]))⟩,.inl (by simp [Value.ownBlock])⟩
   simp [List.getElem?_append,hi]
 · obtain rfl:n=0:=by omega
   have hrun:(Builtin.clear_ #[153] 0 #[.slice (some ⟨g,0,none⟩) 0 c]).run Tryz.prog w=.ok (.tuple #[]) w:=by
    have hu:Tryz.prog.underlying 153=some (.slice 146):=Tryz.underlying153
    simp [Builtin.clear_,run_underlying hu,Result.andThen]
   have HG:=Lib.hid hg
   clear hg
   go_enter Tryz.func167,Tryz.ntmps167
   go_wp2
   go_ret
   exact ⟨g,c,T,cur,rfl,hc,HG.out,hcs,fun i hi=>by omega,World.grownBy.refl _ _,.inl (by simp [Value.ownBlock])⟩

theorem room_any (v:Value) (base n:Nat) (w:World) (hn:n≤1000000000) (hv:Own w base v 0 []) (h0:0<n∨v.ownBlock≠none):Calls Tryz.prog 167 #[v,.int .i64 (n:Int)] w (RetRoom w v n):=by
 rcases hv.2 with ⟨rfl,_⟩ | ⟨g,cap,cur,T,rfl,hb,hg,_,hm,hcs,_⟩
 · exact room_new _ n none 0 0 rfl w hn (h0.resolve_right (fun h=>h rfl))
 · by_cases hc:cap<n
   · exact room_new _ n _ 0 cap rfl w hn hc
   · exact room_old n g cap cur T w hn (by omega) hm hg hcs

def Lies (w:World) (g:Nat) (n:Nat) (f:Nat→Nat):Prop:=∃ cur T,w.heap[g]?=some (.cells cur T (0,0))∧n≤cur.size∧∀ i,i<n→cur[i]?=some (.int .u64 (f i:Int))

theorem Lies.cell {w:World} {g n:Nat} {f:Nat→Nat} (h:Lies w g n f) {i:Nat} (hi:i<n):w.cell? ⟨g,i,none⟩=some (.int .u64 (f i:Int)):=by
 obtain ⟨cur,T,hg,_,hc⟩:=h
 rw [cell_of_row w g i cur T (0,0) hg]
 exact hc i hi
theorem Lies.frozen {w:World} {g n:Nat} {f:Nat→Nat} (h:Lies w g n f) (i:Nat):w.frozen? ⟨g,i,none⟩=false:=by
 obtain ⟨cur,T,hg,_,_⟩:=h
 simp [World.frozen?,hg]
theorem Lies.lt {w:World} {g n:Nat} {f:Nat→Nat} (h:Lies w g n f):g<w.heap.size:=by
 obtain ⟨cur,T,hg,_,_⟩:=h
 exact (Array.getElem?_eq_some_iff.1 hg).1
theorem Lies.congr {w:World} {g n:Nat} {f f':Nat→Nat} (h:Lies w g n f) (e:∀ i,i<n→f i=f' i):Lies w g n f':=by
 obtain ⟨cur,T,hg,hn,hc⟩:=h
 exact ⟨cur,T,hg,hn,fun i hi=>by rw [hc i hi,e i hi]⟩
theorem Lies.set {w:World} {g n:Nat} {f:Nat→Nat} (h:Lies w g n f) (i:Nat) (x:Nat):Lies (w.setCell ⟨g,i,none⟩ (.int .u64 (x:Int))) g n (fun j=>if j=i then x else f j):=by
 obtain ⟨cur,T,hg,hn,hc⟩:=h
 refine ⟨cur.setIfInBounds i (.int .u64 (x:Int)),T,?_,by simpa using hn,fun j hj=>?_⟩
 · simp [World.setCell,Array.getElem?_modify,hg]
 · rw [Array.getElem?_setIfInBounds]
   by_cases e:j=i
   · subst e
     have:j<cur.size:=by omega
     simp [this]
   · rw [if_neg (fun h=>e h.symm)]
     show cur[j]?=some (.int .u64 ((if j=i then x else f j:Nat):Int))
     rw [if_neg e]
     exact hc j hj
theorem Lies.of_block {w w':World} {g n:Nat} {f:Nat→Nat} (h:Lies w g n f) (e:w'.heap[g]?=w.heap[g]?):Lies w' g n f:=by
 obtain ⟨cur,T,hg,r⟩:=h
 exact ⟨cur,T,e.trans hg,r⟩
theorem Lies.rd {w:World} {g n:Nat} {f:Nat→Nat} (h:Lies w g n f):Rd w .u64 (some ⟨g,0,none⟩) n f:=fun _=>⟨g,0,rfl,h.lt,fun i hi=>by rw [Nat.zero_add];exact h.cell hi⟩
theorem Lies.of_room {w:World} {g n c:Nat} {T:TypeId} {cur:Array Value} (hg:w.heap[g]?=some (.cells cur T (0,0))) (hn:n≤c) (hc:c≤cur.size) (h:∀ i,i<n→cur[i]?=some (.int .u64 0)):Lies w g n (fun _=>0):=⟨cur,T,hg,by omega,fun i hi=>h i hi⟩

theorem Rd.grown {w w':World} {K:IntKind} {A:Option Addr} {n:Nat} {f:Nat→Nat} {row:Option Nat} (h:Rd w K A n f) (hg:w.grownBy w' row) (hne:∀ k,row=some k→∀ a,A=some a→a.block≠k):Rd w' K A n f:=fun hn=>by
 obtain ⟨g,o,e,hlt,hc⟩:=h hn
 refine ⟨g,o,e,Nat.lt_of_lt_of_le hlt hg.size,fun i hi=>?_⟩
 rw [World.cell?_of_block (w:=w) (hg.block g hlt (fun e2=>hne g e2.symm _ e rfl))]
 exact hc i hi

theorem add64_fn (x y c:Nat) (hc:c≤1) (w:World) (s o:Nat) (hs:(x+y+c)%18446744073709551616=s) (ho:(x+y+c) / 18446744073709551616=o) :
  (callFunc 188 #[.int .u64 (x:Int),.int .u64 (y:Int),.int .u64 (c:Int)]).run Tryz.prog w=.ok (.value (.tuple #[.int .u64 (s:Int),.int .u64 (o:Int)])) w:=by
 rw [run_callFunc_extern Tryz.func188 (by kernel_rfl) (by kernel_rfl) (by kernel_rfl) (e:=add64Entry) (by kernel_rfl),run_add64 x y c (by omega) (by omega) (by omega) (by omega)]
 subst hs
 subst ho
 simp only [Result.andThen]
 congr 5<;>omega

theorem sub64_fn (x y b:Nat) (hb:b≤1) (w:World) (d o:Nat) (hd:(x+18446744073709551616-y-b)%18446744073709551616=d) (ho:(if x<y+b then 1 else 0)=o) :
  (callFunc 192 #[.int .u64 (x:Int),.int .u64 (y:Int),.int .u64 (b:Int)]).run Tryz.prog w=.ok (.value (.tuple #[.int .u64 (d:Int),.int .u64 (o:Int)])) w:=by
 rw [run_callFunc_extern Tryz.func192 (by kernel_rfl) (by kernel_rfl) (by kernel_rfl) (e:=sub64Entry) (by kernel_rfl),run_sub64 x y b hb,←hd,←ho]
 rfl
end Go.Proofs.YtdbhahiieokplaaGreatDoor


namespace Go.Proofs.YtdbhahiieokplaaGreatDoor
open Go.RowKit
attribute [local go_sem ↓] Go.wp_at_zero Go.wp_at_succ

theorem step_words (x f s c:Nat) (hx:x<18446744073709551616) (hf:f<18446744073709551616) (hs:s<18446744073709551616) (hc:c<18446744073709551616) :
  (x*f%18446744073709551616+s) / 18446744073709551616≤1 ∧
  x*f / 18446744073709551616+(x*f%18446744073709551616+s) / 18446744073709551616<18446744073709551616 ∧
  ((x*f%18446744073709551616+s)%18446744073709551616+c) / 18446744073709551616≤1 ∧
  x*f / 18446744073709551616+(x*f%18446744073709551616+s) / 18446744073709551616+((x*f%18446744073709551616+s)%18446744073709551616+c) / 18446744073709551616<18446744073709551616 ∧
  ((x*f%18446744073709551616+s)%18446744073709551616+c)%18446744073709551616=(s+x*f+c)%18446744073709551616 ∧
  x*f / 18446744073709551616+(x*f%18446744073709551616+s) / 18446744073709551616+((x*f%18446744073709551616+s)%18446744073709551616+c) / 18446744073709551616=(s+x*f+c) / 18446744073709551616:=by
 have h1:x*f≤18446744073709551615*18446744073709551615:=Nat.mul_le_mul (by omega) (by omega)
 generalize x*f=p at *
 omega

theorem add64_0 (x y s o:Nat) (hs:(x+y)%18446744073709551616=s) (ho:(x+y) / 18446744073709551616=o) (w:World) :
  (callFunc 188 #[.int .u64 (x:Int),.int .u64 (y:Int),.int .u64 0]).run Tryz.prog w=.ok (.value (.tuple #[.int .u64 (s:Int),.int .u64 (o:Int)])) w :=
 add64_fn x y 0 (by omega) w s o hs ho

def RetAM (w:World) (g:Nat) (N:Nat) (F:Nat→Nat) (cy:Nat) (e:Ending) (w':World):Prop :=
 e=.returned (.int .u64 (cy:Int))∧Lies w' g N F∧w.grownBy w' (some g)

theorem grown_set {a w:World} {g:Nat} (h:a.grownBy w (some g)) (i:Nat) (u:Value):a.grownBy (w.setCell ⟨g,i,none⟩ u) (some g) :=
 ⟨h.os,h.tape,h.output,by simpa [World.setCell] using h.size,fun k hk hne=>(Below.heap_setCell w ⟨g,i,none⟩ u k (fun e=>hne (by rw [e]))).trans (h.block k hk hne)⟩

def amF (f:Nat→Nat) (o n U fac X:Nat) (k:Nat) (j:Nat):Nat:=if o≤j∧j<o+k then D B64 (U+fac*X) (j-o) else f j

set_option maxHeartbeats 2000000 in
set_option maxRecDepth 100000 in
theorem addMultiple_any (g o N n c:Nat) (f:Nat→Nat) (A:Option Addr) (m cx U X fac:Nat) (w:World) (hN:o+m≤N) (hn:n=m) (hc:n≤c) (hm:m≤1000000000) (hL:Lies w g N f) (hU:∀ i,i<m→f (o+i)=D B64 U i)
  (hX:Rd w .u64 A m (D B64 X)) (hne:0<m→∀ a,A=some a→a.block≠g) (hf:fac<18446744073709551616) :
  Calls Tryz.prog 168 #[.slice (some ⟨g,o,none⟩) n c,.slice A m cx,.int .u64 (fac:Int)] w (RetAM w g N (amF f o n U fac X m) (car B64 U fac X m)):=by
 subst hn
 have HX:=Lib.hid hX
 have HN:=Lib.hid hne
 have HU:=Lib.hid hU
 have HL:=Lib.hid hL
 clear hX hne hU hL
 go_enter Tryz.func168,Tryz.ntmps168
 go_wp2
 go_loopw [7,14] (fun cy i wr=>∃ k:Nat,k≤n∧i=.int .i64 k∧cy=.int .u64 (car B64 U fac X k:Nat)∧Lies wr g N (amF f o n U fac X k)∧w.grownBy wr (some g)) (fun _ i _=>n-(intOf i).toNat)
 case atStart =>
  refine ⟨0,Nat.zero_le _,rfl,by rw [car_zero];rfl,HL.out.congr fun i hi=>?_,World.grownBy.refl _ _⟩
  unfold amF
  rw [if_neg (by omega)]
 case round =>
  obtain ⟨k,hk,rfl,rfl,hlies,hg⟩:=hrel
  by_cases hlt:k<n
  · have hxr:=(HX.out.grown hg (fun q hq a ha=>by injection hq with hq;subst hq;exact HN.out (by omega) a ha))
    obtain ⟨gx,ox,hA,hgx,hcx⟩:=hxr (by omega)
    have hne2:gx≠g:=HN.out (by omega) _ hA
    subst hA
    have hxk:=hcx k hlt
    have hcell:=hlies.cell (i:=o+k) (by omega)
    have hfro:=hlies.frozen (o+k)
    have hval:amF f o n U fac X k (o+k)=D B64 U k:=by unfold amF;rw [if_neg (by omega),HU.out k hlt]
    rw [hval] at hcell
    clear hval hxr hcx
    have hdx:=D64_lt X k
    have hdu:=D64_lt U k
    have hcl:=car_lt B64_pos (x:=fac) (by rw [B64_eq];exact hf) U X k
    obtain ⟨hs1,hs2⟩:=car_step B64_pos U fac X k
    rw [B64_eq] at hs1 hs2
    rw [←B64_eq] at hs1 hs2
    obtain ⟨t1,t2,t3,t4,t5,t6⟩:=step_words (D B64 X k) fac (D B64 U k) (car B64 U fac X k) hdx hf hdu (by omega)
    have hlo1:D B64 X k*fac%18446744073709551616<18446744073709551616:=Nat.mod_lt _ (by omega)
    obtain ⟨hi,hhi⟩:∃ v,D B64 X k*fac / 18446744073709551616=v:=⟨_,rfl⟩
    obtain ⟨lo,hlo⟩:∃ v,D B64 X k*fac%18446744073709551616=v:=⟨_,rfl⟩
    rw [hhi,hlo] at t2 t4 t6
    rw [hlo] at t1 t3 t5 hlo1
    obtain ⟨s1,hs1'⟩:∃ v,(lo+D B64 U k)%18446744073709551616=v:=⟨_,rfl⟩
    obtain ⟨o1,ho1⟩:∃ v,(lo+D B64 U k) / 18446744073709551616=v:=⟨_,rfl⟩
    rw [ho1] at t1 t2 t4 t6
    rw [hs1'] at t3 t4 t5 t6
    obtain ⟨s2,hs2'⟩:∃ v,(s1+car B64 U fac X k)%18446744073709551616=v:=⟨_,rfl⟩
    obtain ⟨o2,ho2⟩:∃ v,(s1+car B64 U fac X k) / 18446744073709551616=v:=⟨_,rfl⟩
    rw [ho2] at t3 t4 t6
    rw [hs2'] at t5
    have hm64:=fun W=>mul64_any (D B64 X k) fac hdx hf hi lo hhi hlo W
    have ha1:=add64_0 lo (D B64 U k) s1 o1 hs1' ho1
    have ha2:=add64_0 s1 (car B64 U fac X k) s2 o2 hs2' ho2
    have hdig:s2=D B64 (U+fac*X) k:=by rw [t5,←hs2,B64_eq,Nat.mul_comm fac]
    have hcar:hi+o1+o2=car B64 U fac X (k+1):=by rw [t6,←hs1,B64_eq,Nat.mul_comm fac]
    have HM64:=Lib.hid hm64
    have HDIG:=Lib.hid hdig
    have HCAR:=Lib.hid hcar
    have HL2:=Lib.hid hlies
    clear t5 t6 hs1 hs2 hm64 hdig hcar hhi hlo hs1' ho1 hs2' ho2 hlies
    generalize car B64 U fac X k=cy at *
    generalize D B64 X k=xk at *
    generalize D B64 U k=uk at *
    go_wp2_with fail
    refine (HM64.out _).mono ?_
    rintro e w' ⟨rfl,rfl⟩
    go_wp2
    go_roundw
    case rel =>
     refine ⟨k+1,by omega,by go_num,by rw [←HCAR.out];go_num,(HL2.out.set (o+k) s2).congr fun j hj=>?_,grown_set hg _ _⟩
     unfold amF
     by_cases e:j=o+k
     · rw [if_pos e,if_pos (by omega),e,Nat.add_sub_cancel_left,HDIG.out]
     · rw [if_neg e]
       by_cases e2:o≤j∧j<o+k
       · rw [if_pos e2,if_pos (by omega)]
       · rw [if_neg e2,if_neg (by omega)]
    case measure=>simp [intOf]<;>omega
  · obtain rfl:k=n:=by omega
    go_wp2
    go_ret
    exact ⟨rfl,hlies,hg⟩
end Go.Proofs.YtdbhahiieokplaaGreatDoor


namespace Go.Proofs.YtdbhahiieokplaaGreatDoor
open Go.RowKit
attribute [local go_sem ↓] Go.wp_at_zero Go.wp_at_succ

theorem D_low {b P Z k j:Nat} (hb:0<b) (hj:j<k):D b (P+b^k*Z) j=D b P j:=by
 unfold D
 have e:b^k=b^j*(b*b^(k-j-1)):=by
  rw [←Nat.pow_succ',←Nat.pow_add];congr 1;omega
 rw [e,Nat.mul_assoc,Nat.add_mul_div_left _ _ (Nat.pow_pos hb),Nat.mul_assoc,Nat.add_mul_mod_self_left]

theorem D_high {b P k j:Nat} (hj:k≤j):D b P j=D b (P / b^k) (j-k):=by
 unfold D
 rw [Nat.div_div_eq_div_mul,←Nat.pow_add]
 congr 3
 omega

theorem times_step {X Y k n m:Nat} (hX:X<B64^n) (hk:k<m) (f:Nat→Nat) (hf:∀ j,j<n+m→f j=D B64 (X*(Y%B64^k)) j) :
  (∀ i,i<n→f (k+i)=D B64 (X*(Y%B64^k) / B64^k) i) ∧
  ∀ j,j<n+m→(if j=k+n then car B64 (X*(Y%B64^k) / B64^k) (D B64 Y k) X n else amF f k n (X*(Y%B64^k) / B64^k) (D B64 Y k) X n j)=D B64 (X*(Y%B64^(k+1))) j:=by
 have hp:0<B64^k:=Nat.pow_pos B64_pos
 have hyk:Y%B64^k<B64^k:=Nat.mod_lt _ hp
 have hP:X*(Y%B64^k) / B64^k≤X:=by
  apply Nat.div_le_of_le_mul
  rw [Nat.mul_comm]
  exact Nat.mul_le_mul_right _ (Nat.le_of_lt hyk)
 have hP2:X*(Y%B64^(k+1))=X*(Y%B64^k)+B64^k*(D B64 Y k*X):=by
  rw [mod_succ,Nat.mul_add,Nat.mul_left_comm,Nat.mul_comm X (D B64 Y k)]
 have hU:(X*(Y%B64^(k+1))) / B64^k=X*(Y%B64^k) / B64^k+D B64 Y k*X:=by
  rw [hP2,Nat.add_mul_div_left _ _ hp]
 have hPlt:X*(Y%B64^k)<B64^(n+k):=by rw [Nat.pow_add];exact Nat.mul_lt_mul'' hX hyk
 have hyk1:Y%B64^(k+1)<B64^(k+1):=Nat.mod_lt _ (Nat.pow_pos B64_pos)
 have hP1lt:X*(Y%B64^(k+1))<B64^(n+(k+1)):=by rw [Nat.pow_add B64 n];exact Nat.mul_lt_mul'' hX hyk1
 refine ⟨fun i hi=>?_,fun j hj=>?_⟩
 · rw [hf _ (by omega),D_high (k:=k) (by omega),Nat.add_sub_cancel_left]
 · by_cases e:j=k+n
   · rw [if_pos e,e,D_high (P:=X*(Y%B64^(k+1))) (k:=k) (by omega),hU,Nat.add_sub_cancel_left,car_end (Nat.lt_of_le_of_lt hP hX) hX]
     show _=(X*(Y%B64^k) / B64^k+D B64 Y k*X) / B64^n%B64
     refine (Nat.mod_eq_of_lt (Nat.div_lt_of_lt_mul ?_)).symm
     have h1:D B64 Y k*X≤(B64-1)*X:=Nat.mul_le_mul_right _ (Nat.le_sub_one_of_lt (D_lt B64_pos Y k))
     have h2:(B64-1)*X+X=B64*X:=by
      rw [←Nat.succ_mul];exact congrArg (·*X) (Nat.succ_pred_eq_of_pos B64_pos)
     have h3:B64*X<B64*B64^n:=Nat.mul_lt_mul_of_pos_left hX B64_pos
     rw [Nat.mul_comm (B64^n) B64]
     omega
   · rw [if_neg e]
     unfold amF
     by_cases e2:k≤j∧j<k+n
     · rw [if_pos e2,D_high (P:=X*(Y%B64^(k+1))) (k:=k) e2.1,hU]
     · rw [if_neg e2,hf j hj]
       by_cases e3:j<k
       · rw [hP2,D_low B64_pos e3]
       · rw [D_zero_of B64_pos hPlt (by omega),D_zero_of B64_pos hP1lt (by omega)]

set_option maxHeartbeats 4000000 in
set_option maxRecDepth 100000 in
theorem times_any (v:Value) (base:Nat) (A Bq:Option Addr) (n m c d X Y:Nat) (w:World) (hn:n≤100000000) (hm:m≤100000000) (h0:0<n+m∨v.ownBlock≠none) (hv:Own w base v 0 []) (hbase:base≤w.heap.size)
  (hx:Ng w A n c X) (hy:Ng w Bq m d Y) (hxa:∀ a,A=some a→some a.block≠v.ownBlock) (hya:∀ a,Bq=some a→some a.block≠v.ownBlock) :
  Calls Tryz.prog 141 #[v,.slice A n c,.slice Bq m d] w (RetU w v (X*Y) (n+m)):=by
 have HX:=Lib.hid hx
 have HY:=Lib.hid hy
 have HXA:=Lib.hid hxa
 have HYA:=Lib.hid hya
 have HV:=Lib.hid hv
 have H0:=Lib.hid h0
 clear hx hy hxa hya hv h0
 go_enter Tryz.func141,Tryz.ntmps141
 go_wp2_with fail
 rw [show (n:Int)+(m:Int)=((n+m:Nat):Int) from by omega]
 refine (room_any v base (n+m) _ (by omega) HV.out H0.out).mono ?_
 rintro e w1 ⟨g,cr,T,cur,rfl,hcr,hgc,hcs,hz,hg1,hgb⟩
 have HL0:=Lib.hid (Lies.of_room hgc hcr hcs hz)
 have HG1:=Lib.hid hg1
 have HGB:=Lib.hid hgb
 have hgx:∀ a,A=some a→a.block<w.heap.size→a.block≠g:=fun a ha hlt e=>by
  rcases HGB.out with h | h
  · exact HXA.out a ha (by rw [e,h])
  · omega
 have hgy:∀ a,Bq=some a→a.block<w.heap.size→a.block≠g:=fun a ha hlt e=>by
  rcases HGB.out with h | h
  · exact HYA.out a ha (by rw [e,h])
  · omega
 have HGX:=Lib.hid hgx
 have HGY:=Lib.hid hgy
 clear hgc hcs hz hg1 hgb hgx hgy
 go_wp2
 go_loopw [18] (fun i wr=>∃ k:Nat,k≤m∧i=.int .i64 k∧Lies wr g (n+m) (D B64 (X*(Y%B64^k)))∧w1.grownBy wr (some g)) (fun i _=>m-(intOf i).toNat)
 case atStart =>
  refine ⟨0,Nat.zero_le _,rfl,HL0.out.congr fun i hi=>?_,World.grownBy.refl _ _⟩
  simp [D,Nat.mod_one]
 case round =>
  obtain ⟨k,hk,rfl,hlies,hgr⟩:=hrel
  have hg2:w.grownBy wr v.ownBlock:=grown_none HG1.out hgr (by
   rcases HGB.out with h | h
   · exact .inr (.inl h.symm)
   · exact .inr (.inr (fun q hq=>by injection hq with hq;omega)))
  have hxr:Rd wr .u64 A n (D B64 X):=HX.out.rd.grown hg2 (fun q hq a ha e=>HXA.out a ha (by rw [hq,e]))
  by_cases hlt:k<m
  · obtain ⟨gy,oy,hB,hgy0,hcy0⟩:=HY.out.rd (by omega)
    have hgyn:gy≠g:=HGY.out _ hB hgy0
    have hyk:wr.cell? ⟨gy,oy+k,none⟩=some (.int .u64 (D B64 Y k:Int)):=(World.cell?_of_block (w:=w) (a:=⟨gy,oy+k,none⟩) (hg2.block gy hgy0 (fun e=>HYA.out _ hB e))).trans (hcy0 k hlt)
    have hgyw:gy<wr.heap.size:=Nat.lt_of_lt_of_le hgy0 hg2.size
    subst hB
    clear hcy0
    have hdy:=D64_lt Y k
    obtain ⟨st1,st2⟩:=times_step (Y:=Y) HX.out.lt hlt (D B64 (X*(Y%B64^k))) (fun j hj=>rfl)
    have hxne:0<n→∀ a,A=some a→a.block≠g:=fun h0' a ha=>by
     obtain ⟨gx,ox,hA,hgx,_⟩:=HX.out.rd h0'
     rw [hA] at ha
     injection ha with ha
     subst ha
     exact HGX.out _ hA hgx
    have HAM:=Lib.hid (fun W (hW:W.heap[g]?=wr.heap[g]?) (hxW:Rd W .u64 A n (D B64 X)) (L:Nat) (hLn:L=n)=>addMultiple_any g k (n+m) L (cr-k) (D B64 (X*(Y%B64^k))) A n c (X*(Y%B64^k) / B64^k) X (D B64 Y k) W (by omega) hLn (by omega) (by omega) (hlies.of_block hW) st1 hxW hxne hdy)
    have HST2:=Lib.hid st2
    have HXR:=Lib.hid hxr
    have HLI:=Lib.hid hlies
    have hi1:(0:Int)≤(k:Int):=by omega
    have hi2:(k:Int)<(m:Int):=by omega
    have hi3:(k:Int)+(n:Int)≤(cr:Int):=by omega
    have hi4:(k:Int)≤(k:Int)+(n:Int):=by omega
    have hi6:¬cr=k:=by omega
    have hi5:(k:Int)+(n:Int)<(n:Int)+(m:Int):=by omega
    have hi7:(0:Int)≤(k:Int)+(n:Int):=by omega
    have hi9:((k:Int)+(n:Int)).toNat=k+n:=by omega
    have hw1:IntKind.i64.wrap ((k:Int)+(n:Int))=(k:Int)+(n:Int):=IntWalk.i64_in _ (by omega)
    clear st1 st2 hxr hlies
    generalize D B64 Y k=yk at *
    go_wp2_with fail
    go_region_held3 (fun w'=>w'.cell? ⟨gy,oy+k,none⟩=some (.int .u64 (yk:Int)))
     (first
      | go_keep
      | exact (World.cell?_of_block (w:=wr) (a:=⟨gy,oy+k,none⟩) (hgr2.block gy hgyw (fun e=>hgyn (by injection e)))).trans hyk
      | exact (World.cell?_of_block (w:=wr) (a:=⟨gy,oy+k,none⟩) ((Below.heap_setCell _ _ _ gy hgyn).trans (hgr2.block gy hgyw (fun e=>hgyn (by injection e))))).trans hyk)
     (first
      | (go_at_call 168;refine (HAM.out _ ?_ ?_ _ ?_).mono ?_;(rfl);(exact HXR.out);(omega);rintro e w2 ⟨rfl,hl2,hgr2⟩;have hcs:=hl2.cell (i:=k+n) (by omega);have hfs:=hl2.frozen (k+n)))
    go_wp2
    go_roundw
    case rel =>
     have hd1:w1.grownBy wr.drew (some g):=⟨hgr.os,hgr.tape,hgr.output,hgr.size,hgr.block⟩
     exact ⟨k+1,by omega,by go_num,(hl2.set (k+n) _).congr HST2.out,grown_set (grown_none hd1 hgr2 (.inr (.inl rfl))) _ _⟩
    case measure=>simp [intOf]<;>omega
  · obtain rfl:k=m:=by omega
    have hYm:Y%B64^k=Y:=Nat.mod_eq_of_lt HY.out.lt
    rw [hYm] at hlies
    have hng:Ng wr (some ⟨g,0,none⟩) (n+k) cr (X*Y):=⟨by rw [Nat.pow_add];exact Nat.mul_lt_mul'' HX.out.lt HY.out.lt,hcr,hlies.rd⟩
    have HNG:=Lib.hid hng
    clear hYm hlies hng
    go_wp2_with fail
    refine (trim_any (some ⟨g,0,none⟩) (n+k) cr (X*Y) _ (by omega) HNG.out).mono ?_
    rintro e w' ⟨q,hq,rfl,hnm,rfl⟩
    have HNM:=Lib.hid hnm
    clear hnm
    go_wp2
    go_ret
    refine ⟨_,q,cr,hq,rfl,HNM.out,hg2,?_⟩
    rcases HGB.out with h | h
    · exact .inl (by rw [h];rfl)
    · exact .inr (fun z hz=>by simp [Value.ownBlock] at hz;omega)
end Go.Proofs.YtdbhahiieokplaaGreatDoor


namespace Go.Proofs.YtdbhahiieokplaaGreatDoor
open Go.RowKit
attribute [local go_sem ↓] Go.wp_at_zero Go.wp_at_succ

def arr16:Obj:=.cells #[.int .u64 0,.int .u64 0,.int .u64 0,.int .u64 0,.int .u64 0,.int .u64 0,.int .u64 0,.int .u64 0,.int .u64 0,.int .u64 0,.int .u64 0,.int .u64 0,.int .u64 0,.int .u64 0,.int .u64 0,.int .u64 0] 154

def Is16 (w:World) (g:Nat):Prop:=∃ cur,w.heap[g]?=some (.cells cur 154 (0,0))∧16≤cur.size

theorem Is16.own {w:World} {g:Nat} (h:Is16 w g):Own w 0 (.slice (some ⟨g,0,none⟩) 0 16) 0 []:=by
 obtain ⟨cur,hg,hs⟩:=h
 exact Own.start hg (Nat.zero_le _) hs (by simp [maxLen])
theorem Is16.keep {w w':World} {g:Nat} (h:Is16 w g) (e:w'.heap[g]?=w.heap[g]?):Is16 w' g:=by
 obtain ⟨cur,hg,hs⟩:=h
 exact ⟨cur,e.trans hg,hs⟩
theorem Is16.lt {w:World} {g:Nat} (h:Is16 w g):g<w.heap.size:=by
 obtain ⟨cur,hg,_⟩:=h
 exact (Array.getElem?_eq_some_iff.1 hg).1

theorem heap_three_all (w:World) (o1 o2 o3:Obj):(((w.alloc o1).alloc o2).alloc o3).heap[w.heap.size]?=some o1∧(((w.alloc o1).alloc o2).alloc o3).heap[w.heap.size+1]?=some o2∧(((w.alloc o1).alloc o2).alloc o3).heap[w.heap.size+2]?=some o3 :=
 ⟨(Below.heap_alloc _ _ _ (by simp<;>omega)).trans (heap_fst _ _ _),(Below.heap_alloc _ _ _ (by simp<;>omega)).trans (heap_two _ _ _),heap_three _ _ _ _⟩

theorem keep_cell {W w2:World} {g p o:Nat} {v:Value} (hg:W.grownBy w2 (some g)) (hp:p<W.heap.size) (hne:p≠g) (h:W.cell? ⟨p,o,none⟩=some v):w2.cell? ⟨p,o,none⟩=some v :=
 (World.cell?_of_block (w:=W) (a:=⟨p,o,none⟩) (hg.block p hp (fun e=>hne (by injection e)))).trans h
theorem keep_16 {W w2:World} {g p:Nat} (hg:W.grownBy w2 (some g)) (hne:p≠g) (h:Is16 W p):Is16 w2 p:=h.keep (hg.block p h.lt (fun e=>hne (by injection e)))

theorem below_of_grown {a b:World} {B g:Nat} (hg:a.grownBy b (some g)) (hB:B≤a.heap.size) (hb:B≤g):Below B a b:=(Below.refl B a).grown hg hB (fun k hk=>by injection hk with hk;omega)

theorem apart {A:Option Addr} {n c g p S:Nat} (h:Value.ownBlock (.slice A n c)=some g∨∀ k,Value.ownBlock (.slice A n c)=some k→S≤k) (hne:g≠p) (hS:p<S):∀ a,A=some a→a.block≠p:=fun a ha=>by
 subst ha
 rcases h with h | h
 · simp [Value.ownBlock] at h;omega
 · have:=h a.block rfl;omega

theorem row_eq {g q:Nat} (h:(Value.slice (some ⟨g,0,none⟩) 0 16).ownBlock=some q):g=q:=by simpa [Value.ownBlock] using h

set_option maxHeartbeats 4000000 in
set_option maxRecDepth 100000 in
theorem mul_long (na nb:Bool) (a b:ByteArray) (ha:a.size≤400000000) (hb:b.size≤400000000) (h:8<a.size∨8<b.size) (w:World) :
  Calls Tryz.prog 99 #[.agg #[.bool na,.string a],.agg #[.bool nb,.string b]] w (RetZ w (sgn (na != nb) (bval a*bval b))):=by
 go_enter Tryz.func99,Tryz.ntmps99
 go_wp2_with fail
 refine (words_no na nb a b h _).mono ?_
 rintro e w1 ⟨rfl,hb1⟩
 obtain ⟨k1,k2,k3⟩:=heap_three_all w (.cells #[.bool na,.string a] 23) (.cells #[.bool nb,.string b] 23) (.cells #[.bool false,.string ⟨#[]⟩] 23)
 have HK3:=Lib.hid k3
 obtain ⟨c0,c1,_,_⟩:=res2 (g:=w.heap.size) (by exact k1) hb1 (by simp<;>omega)
 obtain ⟨c2,c3,_,_⟩:=res2 (g:=w.heap.size+1) (by exact k2) hb1 (by simp<;>omega)
 have hsz:w.heap.size+3≤w1.heap.size:=by have:=hb1.size;simp at this;omega
 have HB1:=Lib.hid hb1
 clear k1 k2 k3 hb1
 have hw2:∃ W,W=((w1.alloc arr16).alloc arr16).alloc arr16:=⟨_,rfl⟩
 obtain ⟨W,hW⟩:=hw2
 obtain ⟨l1,l2,l3⟩:=heap_three_all w1 arr16 arr16 arr16
 rw [←hW] at l1 l2 l3
 have hbW:Below w1.heap.size w1 W:=by rw [hW];exact ((((Below.refl _ _).alloc (Nat.le_refl _) _).alloc (by simp) _).alloc (by simp<;>omega) _)
 have hszW:W.heap.size=w1.heap.size+3:=by rw [hW];simp
 have iA:Is16 W w1.heap.size:=⟨_,l1,by simp⟩
 have iB:Is16 W (w1.heap.size+1):=⟨_,l2,by simp⟩
 have iC:Is16 W (w1.heap.size+2):=⟨_,l3,by simp⟩
 have c0':=(hbW.cell (p:=⟨w.heap.size,0,none⟩) (by show w.heap.size<_;omega)).trans c0
 have c1':=(hbW.cell (p:=⟨w.heap.size,1,none⟩) (by show w.heap.size<_;omega)).trans c1
 have c2':=(hbW.cell (p:=⟨w.heap.size+1,0,none⟩) (by show w.heap.size+1<_;omega)).trans c2
 have c3':=(hbW.cell (p:=⟨w.heap.size+1,1,none⟩) (by show w.heap.size+1<_;omega)).trans c3
 have HU1:=Lib.hid (fun V (hV:Is16 V w1.heap.size)=>unpack_any (.slice (some ⟨w1.heap.size,0,none⟩) 0 16) a 0 V (by omega) (Nat.zero_le _) hV.own)
 have HU2:=Lib.hid (fun V (hV:Is16 V (w1.heap.size+1))=>unpack_any (.slice (some ⟨w1.heap.size+1,0,none⟩) 0 16) b 0 V (by omega) (Nat.zero_le _) hV.own)
 have IA:=Lib.hid iA
 have IB:=Lib.hid iB
 have IC:=Lib.hid iC
 have HW:=Lib.hid hW
 have HBW:=Lib.hid hbW
 have HSW:=Lib.hid hszW
 clear l1 l2 l3 hbW hszW iA iB iC c0 c1 c2 c3 hW
 go_wp2_with fail
 have hw9:((w1.alloc arr16).alloc arr16).alloc arr16=W:=HW.out.symm
 unfold arr16 at hw9
 rw [hw9]
 clear hw9
 have hp1:w.heap.size<W.heap.size:=by have:=HSW.out;omega
 have hp2:w.heap.size+1<W.heap.size:=by have:=HSW.out;omega
 go_region_held3 (fun w'=>w'.cell? ⟨w.heap.size,1,none⟩=some (.string a)∧w'.cell? ⟨w.heap.size+1,1,none⟩=some (.string b))
  (first
   | go_keep
   | exact ⟨y1,y2⟩
   | exact ⟨z1,z2⟩)
  (first
   | (go_at_call 140;(with_reducible refine (HU1.out _ ?_).mono ?_);(exact IA.out.keep rfl);rintro e w2 ⟨A1,n1,d1,hn1,rfl,hm1,hg2,hbk1⟩;have z1:=keep_cell (W:=W.drew) (g:=w1.heap.size) hg2 hp1 (by omega) c1';have z2:=keep_cell (W:=W.drew) (g:=w1.heap.size) hg2 hp2 (by omega) c3';have hq1:=Nat.lt_of_lt_of_le hp1 hg2.size;have hq2:=Nat.lt_of_lt_of_le hp2 hg2.size)
   | (go_at_call 140;(with_reducible refine (HU2.out _ ?_).mono ?_);(exact keep_16 (W:=W.drew) (g:=w1.heap.size) hg2 (by omega) (IB.out.keep rfl));rintro e w3 ⟨A2,n2,d2,hn2,rfl,hm2,hg3,hbk2⟩;have y1:=keep_cell (g:=w1.heap.size+1) hg3 hq1 (by omega) z1;have y2:=keep_cell (g:=w1.heap.size+1) hg3 hq2 (by omega) z2))
 have hs2:W.heap.size≤w2.heap.size:=hg2.size
 have hs3:w2.heap.size≤w3.heap.size:=hg3.size
 have hsW:=HSW.out
 have ax:=apart (g:=w1.heap.size) (p:=w1.heap.size+1) hbk1 (by omega) (by show _<W.heap.size;omega)
 have axC:=apart (g:=w1.heap.size) (p:=w1.heap.size+2) hbk1 (by omega) (by show _<W.heap.size;omega)
 have ayC:=apart (g:=w1.heap.size+1) (p:=w1.heap.size+2) hbk2 (by omega) (by omega)
 have hx3:Ng w3 A1 n1 d1 (bval a):=⟨hm1.lt,hm1.cap,hm1.rd.grown hg3 (fun q hq z hz e=>ax z hz (e.trans (row_eq hq).symm))⟩
 have i2:=keep_16 (W:=W.drew) (g:=w1.heap.size) hg2 (by omega) (IC.out.keep rfl)
 have i3:=keep_16 (g:=w1.heap.size+1) hg3 (by omega) i2
 have hbl:Below w1.heap.size w1 w3:=((HBW.out.drew).trans (below_of_grown (g:=w1.heap.size) hg2 (by show _≤W.heap.size;omega) (Nat.le_refl _))).trans (below_of_grown (g:=w1.heap.size+1) hg3 (by omega) (by omega))
 have HT:=Lib.hid (times_any (.slice (some ⟨w1.heap.size+2,0,none⟩) 0 16) 0 A1 A2 n1 n2 d1 d2 (bval a) (bval b) w3 (by omega) (by omega) (.inr (by simp [Value.ownBlock])) i3.own (Nat.zero_le _) hx3 hm2.toNg (fun z hz e=>axC z hz (by injection e)) (fun z hz e=>ayC z hz (by injection e)))
 have HBL:=Lib.hid hbl
 have HN1:=Lib.hid hn1
 have HN2:=Lib.hid hn2
 have HS3:=Lib.hid hs3
 have HS2:=Lib.hid hs2
 clear hg2 hg3 hbk1 hbk2 hm1 hm2 ax axC ayC hx3 i2 i3 hbl hn1 hn2 z1 z2 y1 y2 c0' c1' c2' c3' hq1 hq2 hp1 hp2 hs2 hs3 hsW
 go_wp2_with fail
 refine HT.out.mono ?_
 rintro e w4 ⟨A4,n4,d4,hn4,rfl,hm4,hg4,_⟩
 have HM4:=Lib.hid hm4
 have HG4:=Lib.hid hg4
 have HN4:=Lib.hid hn4
 clear hm4 hg4 hn4
 go_wp2_with fail
 refine (pack_any _ A4 n4 d4 _ _ (by have:=HN4.out;have:=HN1.out;have:=HN2.out;omega) HM4.out.toNg).mono fun e w5 h=>?_
 obtain ⟨b2,m2,HB2,rfl,hb5⟩:=h.form
 have hs4:w3.heap.size≤w4.heap.size:=HG4.out.size
 have hbl4:Below w1.heap.size w1 w5:=(HBL.out.trans (below_of_grown (g:=w1.heap.size+2) HG4.out (by have:=HS3.out;have:=HS2.out;have:=HSW.out;omega) (by omega))).trans (hb5.mono (by have:=HS3.out;have:=HS2.out;have:=HSW.out;omega))
 have hall:=HB1.out.trans (hbl4.mono HB1.out.size)
 obtain ⟨p0,p1,g0,g1⟩:=res2 (g:=w.heap.size+2) (by exact HK3.out) hall (by simp<;>omega)
 have HALL:=Lib.hid hall
 clear h hb5 hbl4 hall hs4
 go_wp2
 refine bodyPost_ret (v:=.agg #[.bool b2,.string m2]) (by simp [results,Tryz.results99,go_sem,p0,p1]) rfl ⟨?_,?_⟩
 · rw [←HB2.out]
   have e:(!na==nb)=(na != nb):=by cases na<;>cases nb<;>rfl
   first | rw [e] | rfl
 · exact ((Below.trans ((((Below.refl _ _).alloc (Nat.le_refl _) _).alloc (by simp<;>omega) _).alloc (by simp<;>omega) _) (HALL.out.mono (B':=w.heap.size) (by simp<;>omega))).setCell (by simp<;>omega) _).setCell (by simp<;>omega) _

theorem mul_pair (na nb:Bool) (a b:ByteArray) (ha:a.size≤400000000) (hb:b.size≤400000000) (w:World) :
  Calls Tryz.prog 99 #[.agg #[.bool na,.string a],.agg #[.bool nb,.string b]] w (RetZ w (sgn (na != nb) (bval a*bval b))):=by
 by_cases h1:8<a.size
 · exact mul_long na nb a b ha hb (.inl h1) w
 · by_cases h2:8<b.size
   · exact mul_long na nb a b ha hb (.inr h2) w
   · exact mul_short na nb a b (by omega) (by omega) w

theorem sgn_mul (x y:Int):sgn (decide (x<0) != decide (y<0)) (x.natAbs*y.natAbs)=x*y:=by
 rcases Int.natAbs_eq x with h | h<;>rcases Int.natAbs_eq y with h' | h'<;>unfold sgn
 all_goals
  generalize x.natAbs=p at *
  generalize y.natAbs=q at *
  subst h
  subst h'
 · have a1:¬((p:Int)<0):=by omega
   have a2:¬((q:Int)<0):=by omega
   simp [a1,a2]
 · rcases Nat.eq_zero_or_pos q with hq | hq
   · subst hq;simp
   · have:¬((p:Int)<0):=by omega
     have h2:(-(q:Int))<0:=by omega
     simp [this,h2,hq,Int.mul_neg,Int.neg_mul]
 · rcases Nat.eq_zero_or_pos p with hq | hq
   · subst hq;simp
   · have:¬((q:Int)<0):=by omega
     have h2:(-(p:Int))<0:=by omega
     simp [this,h2,hq,Int.mul_neg,Int.neg_mul]
 · rcases Nat.eq_zero_or_pos p with hq | hq
   · subst hq;simp
   · rcases Nat.eq_zero_or_pos q with hq' | hq'
     · subst hq';simp
     · have h1:(-(q:Int))<0:=by omega
       have h2:(-(p:Int))<0:=by omega
       simp [h1,h2,hq,hq',Int.mul_neg,Int.neg_mul]

theorem mul_any (x y:Int) (h1:(mag x.natAbs).size≤100000) (h2:(mag y.natAbs).size≤100000) (w:World):Calls Tryz.prog 99 #[enc x,enc y] w (RetZ w (x*y)):=by
 have h:=mul_pair (decide (x<0)) (decide (y<0)) (mag x.natAbs) (mag y.natAbs) (by omega) (by omega) w
 rw [bval_mag,bval_mag,sgn_mul] at h
 exact h
end Go.Proofs.YtdbhahiieokplaaGreatDoor


namespace Go.Proofs.YtdbhahiieokplaaGreatDoor
open Go.RowKit
attribute [local go_sem ↓] Go.wp_at_zero Go.wp_at_succ

end Go.Proofs.YtdbhahiieokplaaGreatDoor


namespace Go.Proofs.YtdbhahiieokplaaGreatDoor
open Go.RowKit
attribute [local go_sem ↓] Go.wp_at_zero Go.wp_at_succ

end Go.Proofs.YtdbhahiieokplaaGreatDoor


namespace Go.Proofs.YtdbhahiieokplaaGreatDoor
open Go.RowKit
attribute [local go_sem ↓] Go.wp_at_zero Go.wp_at_succ

end Go.Proofs.YtdbhahiieokplaaGreatDoor


namespace Go.Proofs.YtdbhahiieokplaaGreatDoor
open Go.RowKit
attribute [local go_sem ↓] Go.wp_at_zero Go.wp_at_succ

def left (n:Int) (k:Nat):Int:=if n<0 then -((n.natAbs / 256^k:Nat):Int) else ((n.natAbs / 256^k:Nat):Int)

end Go.Proofs.YtdbhahiieokplaaGreatDoor
