import Derived.Test.YtdbhahiieokplaaGreatDoorGRLF
import Derived.Test.YtdbhahiieokplaaGreatDoorGKtD
import Derived.Test.YtdbhahiieokplaaGreatDoorGQR
import Derived.Test.YtdbhahiieokplaaGreatDoorGRMR
import Derived.Test.YtdbhahiieokplaaGreatDoorGRGC
import Derived.Test.YtdbhahiieokplaaGreatDoorGQW
set_option linter.unusedSimpArgs false
set_option linter.unusedVariables false
namespace Go.Proofs.YtdbhahiieokplaaGreatDoor
open Go.RowKit
attribute [local go_sem ↓] Go.wp_at_zero Go.wp_at_succ

theorem Sz.inv {n:Nat} {q:Rat} (h:Sz n q):Sz (n+1) (1 / q):=by
 have e:(1:Rat) / q=q⁻¹:=by grind
 rw [e]
 have h1:=h.1
 have h2:=h.2
 have h3:=Rat.num_inv q
 have h4:=Rat.den_inv q
 have hm:256^n<256^(n+1):=by rw [Nat.pow_succ];have:=Nat.pow_pos (a:=256) (n:=n) (by decide);omega
 have hp:=Nat.pow_pos (a:=256) (n:=n) (by decide)
 refine ⟨?_,?_⟩
 · rw [h3,Int.natAbs_mul]
   rcases Int.lt_trichotomy q.num 0 with h | h | h
   · rw [Int.sign_eq_neg_one_of_neg h];simp;omega
   · rw [h];simp;omega
   · rw [Int.sign_eq_one_of_pos h];simp;omega
 · rw [h4]
   split
   · omega
   · omega

set_option maxHeartbeats 8000000 in
set_option maxRecDepth 100000 in
theorem rscale_rat {p r:Rat} {b1 b2 b3:Bool} {m1 k1 m2 k2 m3 k3:ByteArray} {s1:Bool} (hp:Rq p b1 m1 k1) (hr:Rq r b2 m2 k2) (h3:Rq (p*r) b3 m3 k3) (zp:Sz 5000 p) (zr:Sz 5000 r) (w:World) (hE:Env w) :
  Calls Tryz.prog 120 #[.agg #[.bool b1,.string m1,.bool false,.string k1,.bool false,.string ⟨#[]⟩,.bool false,.string ⟨#[]⟩,.bool s1],.agg #[.bool b2,.string m2,.bool false,.string k2]] w (RetB w (.agg #[.bool b3,.string m3,.bool false,.string k3,.bool false,.string ⟨#[]⟩,.bool false,.string ⟨#[]⟩,.bool false])):=by
 have C1:=kn w (isRat_yes b1 s1 m1 k1)
 have C2:=ke hE (mul_z hp hr h3 (zp.up (by omega)) (zr.up (by omega)))
 have C3:=kn w (fromRat_any b3 m3 k3)
 have RS:=Lib.hid Tryz.results120
 clear hp hr h3 zp zr hE
 go_enter Tryz.func120,Tryz.ntmps120
 exact wk0

set_option maxHeartbeats 8000000 in
set_option maxRecDepth 100000 in
theorem rscale_0 {x:Sg.Rl} {b1 c1 s1:Bool} {m1 k1 n1 l1:ByteArray} (hx:Rv x b1 m1 k1 c1 n1 l1 s1) (h0:x.a≠0) (w:World) :
  Calls Tryz.prog 120 #[.agg #[.bool b1,.string m1,.bool false,.string k1,.bool c1,.string n1,.bool false,.string l1,.bool s1],.agg #[.bool false,.string ⟨#[]⟩,.bool false,.string ⟨#[]⟩]] w (RetB w (.agg #[.bool false,.string ⟨#[]⟩,.bool false,.string ⟨#[]⟩,.bool false,.string ⟨#[]⟩,.bool false,.string ⟨#[]⟩,.bool false])):=by
 have e0:=Sg.sgq_zero (x:=0) rfl
 have C1:=kn w (isRat_no hx h0)
 have C2:=kn w (sign_z Rq.zero)
 have RS:=Lib.hid Tryz.results120
 clear hx h0
 go_enter Tryz.func120,Tryz.ntmps120
 exact wk0

set_option maxHeartbeats 8000000 in
set_option maxRecDepth 100000 in
theorem rscale_irr {x:Sg.Rl} {r:Rat} {b1 c1 s1:Bool} {m1 k1 n1 l1:ByteArray} {b2 b3 b4:Bool} {m2 k2 m3 k3 m4 k4:ByteArray} (hx:Rv x b1 m1 k1 c1 n1 l1 s1) (hx0:x.a≠0) (hr:Rq r b2 m2 k2) (hr0:r≠0) (h3:Rq (x.p*r) b3 m3 k3) (h4:Rq (x.a*(r*r)) b4 m4 k4) (zx:Rz 4000 x) (zr:Sz 2000 r) (w:World) (hE:Env w) :
  Calls Tryz.prog 120 #[.agg #[.bool b1,.string m1,.bool false,.string k1,.bool c1,.string n1,.bool false,.string l1,.bool s1],.agg #[.bool b2,.string m2,.bool false,.string k2]] w (RetB w (.agg #[.bool b3,.string m3,.bool false,.string k3,.bool b4,.string m4,.bool false,.string k4,.bool (s1 != decide (Sg.sgq r<0))])):=by
 obtain ⟨b5,m5,k5,h5⟩:=Rq.some_ (r*r)
 have z5:=zr.mul zr
 have hs0:¬Sg.sgq r=0:=by rcases Sg.sgq_three r with ⟨_,e⟩ | ⟨e,_⟩ | ⟨_,e⟩<;>first | exact absurd e hr0 | (rw [e];decide)
 have C1:=kn w (isRat_no hx hx0)
 have C2:=kn w (sign_z hr)
 have C3:=ke hE (mul_z hr hr h5 (zr.up (by omega)) (zr.up (by omega)))
 have C4:=ke hE (mul_z hx.p hr h3 (zx.p.up (by omega)) (zr.up (by omega)))
 have C5:=ke hE (mul_z hx.r h5 h4 (zx.r.up (by omega)) (z5.up (by omega)))
 have E1:Hid (∀ {p:Prop} (h:p:=by exact bodyPost_ret (v:=.agg #[.bool b3,.string m3,.bool false,.string k3,.bool b4,.string m4,.bool false,.string k4,.bool (s1 != decide (Sg.sgq r<0))]) (by simp [results,Tryz.results120,go_sem,F]<;>(cases s1<;>cases decide (Sg.sgq r<0)<;>rfl)) rfl ⟨rfl,X.out.bel⟩),p):=@fun _ h=>h
 have RS:=Lib.hid Tryz.results120
 clear hx hx0 hr hr0 h3 h4 h5 z5 zx zr hE
 go_enter Tryz.func120,Tryz.ntmps120
 exact wk0

end Go.Proofs.YtdbhahiieokplaaGreatDoor


namespace Go.Proofs.YtdbhahiieokplaaGreatDoor
open Go.RowKit
attribute [local go_sem ↓] Go.wp_at_zero Go.wp_at_succ

theorem Sb.last {w W:World} {l:List (Nat×Array Value×TypeId)} {rs:List (Option Addr×Nat×Nat×Nat)} {g:Nat} {cs:Array Value} {T:TypeId} (h:Sb w (l++[(g,cs,T)]) rs W):w.heap.size≤g∧W.heap[g]?=some (.cells cs T (0,0)) :=
 ⟨h.lo (g,cs,T) (by simp),h.k (g,cs,T) (by simp)⟩
end Go.Proofs.YtdbhahiieokplaaGreatDoor


namespace Go.Proofs.YtdbhahiieokplaaGreatDoor
open Go.RowKit
attribute [local go_sem ↓] Go.wp_at_zero Go.wp_at_succ
attribute [local go_sem] undef yielded

set_option maxHeartbeats 1000000 in
set_option maxRecDepth 100000 in
theorem isInteger_neg (b:Bool) (m k:ByteArray) (w:World):Calls Tryz.prog 98 #[.agg #[.bool b,.string m,.bool true,.string k]] w (RetB w (.bool false)):=by
 go_enter Tryz.func98,Tryz.ntmps98
 go_wp2
 go_ret
 exact ⟨rfl,below_new _ _⟩

theorem rq_cases (b:Bool) (m:ByteArray) (c:Bool) (k:ByteArray) :
  (c=false∧∃ q,Rq q b m k)∨canonB b m=false∨(canonB b m=true∧canonB c k=false)∨(canonB b m=true∧canonB c k=true∧c=true)∨(canonB b m=true∧canonB c k=true∧c=false∧k=⟨#[1]⟩) ∨
  (∃ (x:Int) (d:Nat),enc x=.agg #[.bool b,.string m]∧c=false∧k=mag d∧2≤d∧Nat.gcd x.natAbs d≠1):=by
 cases h1:canonB b m
 · exact .inr (.inl rfl)
 cases h2:canonB c k
 · exact .inr (.inr (.inl ⟨rfl,rfl⟩))
 obtain ⟨x,hx⟩:=canon_form h1
 obtain ⟨y,hy⟩:=canon_form h2
 cases c
 · obtain ⟨e1,e2⟩:=enc_parts hy
   have hy0:¬y<0:=of_decide_eq_false e1.symm
   obtain ⟨d,rfl⟩:∃ d:Nat,y=(d:Int):=⟨y.natAbs,by omega⟩
   rw [Int.natAbs_natCast] at e2
   rcases Nat.lt_or_ge d 2 with hd | hd
   · rcases Nat.lt_or_ge d 1 with hd1 | hd1
     · obtain rfl:d=0:=by omega
       exact .inl ⟨rfl,_,by rw [e2,mag_nil];exact rq_int hx⟩
     · obtain rfl:d=1:=by omega
       exact .inr (.inr (.inr (.inr (.inl ⟨rfl,rfl,rfl,by rw [e2,mag_one]⟩))))
   · by_cases hg:Nat.gcd x.natAbs d=1
     · obtain ⟨n1,d1⟩:=rat_of_coprime (n:=x) (d:=d) (by omega) hg
       exact .inl ⟨rfl,mkRat x d,by rw [n1];exact hx,by rw [d1,e2];unfold dm;rw [if_neg (by omega)]⟩
     · exact .inr (.inr (.inr (.inr (.inr ⟨x,d,hx,rfl,e2,hd,hg⟩))))
 · exact .inr (.inr (.inr (.inl ⟨rfl,rfl,rfl⟩)))

theorem checkV_of {b:Bool} {m:ByteArray} (h:canonB b m=true):checkV b m=0:=by unfold checkV;rw [h];rfl
theorem checkV_no {b:Bool} {m:ByteArray} (h:canonB b m=false):checkV b m=5:=by unfold checkV;rw [h];rfl

set_option maxHeartbeats 16000000 in
set_option maxRecDepth 100000 in
theorem ratCheck_no (b:Bool) (m:ByteArray) (c:Bool) (k:ByteArray) (s1:m.size≤100000) (s2:k.size≤100000) (hno:¬(c=false∧∃ q,Rq q b m k)) (w:World) (hE:Env w) :
  Calls Tryz.prog 70 #[.agg #[.bool b,.string m,.bool c,.string k]] w (RetB w (.int .i64 5)):=by
 have HC1:=Lib.hid (fun V=>check_any b m V)
 have HC2:=Lib.hid (fun V=>check_any c k V)
 have HE:=Lib.hid (fun V (h:Below w.heap.size w V)=>hE.next h)
 clear hE
 rcases rq_cases b m c k with h | h | ⟨h1,h2⟩ | ⟨h1,h2,h3⟩ | ⟨h1,h2,h3,h4⟩ | ⟨x,d,hx,h3,h4,h5,h6⟩
 · exact absurd h hno
 · rw [checkV_no h] at HC1
   clear h hno
   have X:=Lib.hid ((Sb.start w).new #[.bool b,.string m,.bool c,.string k] 25)
   have X:=Lib.hid (X.out.pick [0] [(w.heap.size,#[.bool b,.string m,.bool c,.string k],25)] [] (by simp) (by decide) (by simp))
   obtain ⟨a0,a1,a2,a3⟩:=X.out.c4 (i:=0) rfl
   go_enter Tryz.func70,Tryz.ntmps70
   go_wp2_with fail
   refine (HC1.out _).mono ?_
   rintro e w1 ⟨rfl,hb9⟩
   have X:=Lib.hid (X.out.next hb9)
   clear hb9
   clear a0 a1 a2 a3
   go_wp2
   go_ret
   exact ⟨rfl,X.out.bel⟩
 · rw [checkV_of h1] at HC1
   rw [checkV_no h2] at HC2
   clear h1 h2 hno
   have X:=Lib.hid ((Sb.start w).new #[.bool b,.string m,.bool c,.string k] 25)
   have X:=Lib.hid (X.out.pick [0] [(w.heap.size,#[.bool b,.string m,.bool c,.string k],25)] [] (by simp) (by decide) (by simp))
   obtain ⟨a0,a1,a2,a3⟩:=X.out.c4 (i:=0) rfl
   go_enter Tryz.func70,Tryz.ntmps70
   go_wp2_with fail
   refine (HC1.out _).mono ?_
   rintro e w1 ⟨rfl,hb9⟩
   have X:=Lib.hid (X.out.next hb9)
   clear hb9
   clear a0 a1 a2 a3
   obtain ⟨a0,a1,a2,a3⟩:=X.out.c4 (i:=0) rfl
   go_wp2_with fail
   refine (HC2.out _).mono ?_
   rintro e w2 ⟨rfl,hb9⟩
   have X:=Lib.hid (X.out.next hb9)
   clear hb9
   clear a0 a1 a2 a3
   go_wp2
   go_ret
   exact ⟨rfl,X.out.bel⟩
 · rw [checkV_of h1] at HC1
   rw [checkV_of h2] at HC2
   clear h1 h2 hno
   subst h3
   have HI:=Lib.hid (fun V=>isInteger_neg b m k V)
   have X:=Lib.hid ((Sb.start w).new #[.bool b,.string m,.bool true,.string k] 25)
   have X:=Lib.hid (X.out.pick [0] [(w.heap.size,#[.bool b,.string m,.bool true,.string k],25)] [] (by simp) (by decide) (by simp))
   obtain ⟨a0,a1,a2,a3⟩:=X.out.c4 (i:=0) rfl
   go_enter Tryz.func70,Tryz.ntmps70
   go_wp2_with fail
   refine (HC1.out _).mono ?_
   rintro e w1 ⟨rfl,hb9⟩
   have X:=Lib.hid (X.out.next hb9)
   clear hb9
   clear a0 a1 a2 a3
   obtain ⟨a0,a1,a2,a3⟩:=X.out.c4 (i:=0) rfl
   go_wp2_with fail
   refine (HC2.out _).mono ?_
   rintro e w2 ⟨rfl,hb9⟩
   have X:=Lib.hid (X.out.next hb9)
   clear hb9
   clear a0 a1 a2 a3
   obtain ⟨a0,a1,a2,a3⟩:=X.out.c4 (i:=0) rfl
   go_wp2_with fail
   refine (HI.out _).mono ?_
   rintro e w3 ⟨rfl,hb9⟩
   have X:=Lib.hid (X.out.next hb9)
   clear hb9
   clear a0 a1 a2 a3
   go_upto_region 5 with fail
   refine wp_region_late (S:=fun w'=>(w'.cell? ⟨w.heap.size,0,none⟩=some (.bool b)∧w'.cell? ⟨w.heap.size,1,none⟩=some (.string m)∧w'.cell? ⟨w.heap.size,2,none⟩=some (.bool true)∧w'.cell? ⟨w.heap.size,3,none⟩=some (.string k))∧(w'.cell? ⟨0,0,none⟩=some (.bool false)∧w'.cell? ⟨0,1,none⟩=some (.string ⟨#[1]⟩))) (L:=[]) (by kernel_rfl) ?_
   have X:=Lib.hid X.out.drew
   obtain ⟨V0,hV⟩:=wexi X.out
   rw [←hV] at X ⊢
   clear hV
   refine tk (i:=0) (oi:=⟨some 18,_,_,_,_,_⟩) (v:=_) rfl (by kernel_rfl) (fun _ _ _ h=>h) (⟨X.out.c4 (i:=0) rfl,⟨(HE.out _ X.out.bel).o0,(HE.out _ X.out.bel).o1⟩⟩) (Or.inl ⟨by rfl,by intro w hSw;(try dsimp only at hSw);(first | (go_simp;done) | (go_simp;with_reducible rfl))⟩) ?_
   try simp only [Act.put,seti,set0,setS]
   refine tk (i:=1) (oi:=⟨some 19,_,_,_,_,_⟩) (v:=_) rfl (by kernel_rfl) (fun _ _ _ h=>h) (⟨X.out.c4 (i:=0) rfl,⟨(HE.out _ X.out.bel).o0,(HE.out _ X.out.bel).o1⟩⟩) (Or.inl ⟨by rfl,by intro w hSw;(try dsimp only at hSw);(first | (go_simp;done) | (go_simp;with_reducible rfl))⟩) ?_
   try simp only [Act.put,seti,set0,setS]
   refine tk (i:=2) (oi:=⟨some 20,_,_,_,_,_⟩) (v:=_) rfl (by kernel_rfl) (fun _ _ _ h=>h) (⟨X.out.c4 (i:=0) rfl,⟨(HE.out _ X.out.bel).o0,(HE.out _ X.out.bel).o1⟩⟩) (Or.inl ⟨by rfl,by intro w hSw;(try dsimp only at hSw);(first | (go_simp;done) | (go_simp;with_reducible rfl))⟩) ?_
   try simp only [Act.put,seti,set0,setS]
   refine tk (i:=3) (oi:=⟨some 21,_,_,_,_,_⟩) (v:=_) rfl (by kernel_rfl) (fun _ _ _ h=>h) (⟨X.out.c4 (i:=0) rfl,⟨(HE.out _ X.out.bel).o0,(HE.out _ X.out.bel).o1⟩⟩) (Or.inl ⟨by rfl,by intro w hSw;(try dsimp only at hSw);(first | (go_simp;done) | (go_simp;with_reducible rfl))⟩) ?_
   try simp only [Act.put,seti,set0,setS]
   refine tk (i:=4) (oi:=⟨some 22,_,_,_,_,_⟩) (v:=undef) rfl (by kernel_rfl) (fun _ _ _ h=>h) (⟨X.out.c4 (i:=0) rfl,⟨(HE.out _ X.out.bel).o0,(HE.out _ X.out.bel).o1⟩⟩) (Or.inr ⟨by rfl,rfl⟩) ?_
   try simp only [Act.put,seti,set0,setS]
   refine tk (i:=5) (oi:=⟨some 23,_,_,_,_,_⟩) (v:=undef) rfl (by kernel_rfl) (fun _ _ _ h=>h) (⟨X.out.c4 (i:=0) rfl,⟨(HE.out _ X.out.bel).o0,(HE.out _ X.out.bel).o1⟩⟩) (Or.inr ⟨by rfl,rfl⟩) ?_
   try simp only [Act.put,seti,set0,setS]
   refine tk (i:=6) (oi:=⟨some 24,_,_,_,_,_⟩) (v:=undef) rfl (by kernel_rfl) (fun _ _ _ h=>h) (⟨X.out.c4 (i:=0) rfl,⟨(HE.out _ X.out.bel).o0,(HE.out _ X.out.bel).o1⟩⟩) (Or.inr ⟨by rfl,rfl⟩) ?_
   try simp only [Act.put,seti,set0,setS]
   refine tk (i:=7) (oi:=⟨some 25,_,_,_,_,_⟩) (v:=undef) rfl (by kernel_rfl) (fun _ _ _ h=>h) (⟨X.out.c4 (i:=0) rfl,⟨(HE.out _ X.out.bel).o0,(HE.out _ X.out.bel).o1⟩⟩) (Or.inr ⟨by rfl,rfl⟩) ?_
   try simp only [Act.put,seti,set0,setS]
   refine tk (i:=8) (oi:=⟨some 26,_,_,_,_,_⟩) (v:=_) rfl (by kernel_rfl) (fun _ _ _ h=>h) (⟨X.out.c4 (i:=0) rfl,⟨(HE.out _ X.out.bel).o0,(HE.out _ X.out.bel).o1⟩⟩) (Or.inl ⟨by rfl,by intro w hSw;(try dsimp only at hSw);(first | (go_simp;done) | (go_simp;with_reducible rfl))⟩) ?_
   try simp only [Act.put,seti,set0,setS]
   refine tk (i:=9) (oi:=⟨some 27,_,_,_,_,_⟩) (v:=_) rfl (by kernel_rfl) (fun _ _ _ h=>h) (⟨X.out.c4 (i:=0) rfl,⟨(HE.out _ X.out.bel).o0,(HE.out _ X.out.bel).o1⟩⟩) (Or.inl ⟨by rfl,by intro w hSw;(try dsimp only at hSw);(first | (go_simp;done) | (go_simp;with_reducible rfl))⟩) ?_
   try simp only [Act.put,seti,set0,setS]
   refine tk (i:=10) (oi:=⟨some 28,_,_,_,_,_⟩) (v:=undef) rfl (by kernel_rfl) (fun _ _ _ h=>h) (⟨X.out.c4 (i:=0) rfl,⟨(HE.out _ X.out.bel).o0,(HE.out _ X.out.bel).o1⟩⟩) (Or.inr ⟨by rfl,rfl⟩) ?_
   try simp only [Act.put,seti,set0,setS]
   refine tk (i:=11) (oi:=⟨some 29,_,_,_,_,_⟩) (v:=undef) rfl (by kernel_rfl) (fun _ _ _ h=>h) (⟨X.out.c4 (i:=0) rfl,⟨(HE.out _ X.out.bel).o0,(HE.out _ X.out.bel).o1⟩⟩) (Or.inr ⟨by rfl,rfl⟩) ?_
   try simp only [Act.put,seti,set0,setS]
   refine tk (i:=12) (oi:=⟨some 30,_,_,_,_,_⟩) (v:=undef) rfl (by kernel_rfl) (fun _ _ _ h=>h) (⟨X.out.c4 (i:=0) rfl,⟨(HE.out _ X.out.bel).o0,(HE.out _ X.out.bel).o1⟩⟩) (Or.inr ⟨by rfl,rfl⟩) ?_
   try simp only [Act.put,seti,set0,setS]
   refine tk (i:=13) (oi:=⟨some 31,_,_,_,_,_⟩) (v:=undef) rfl (by kernel_rfl) (fun _ _ _ h=>h) (⟨X.out.c4 (i:=0) rfl,⟨(HE.out _ X.out.bel).o0,(HE.out _ X.out.bel).o1⟩⟩) (Or.inr ⟨by rfl,rfl⟩) ?_
   try simp only [Act.put,seti,set0,setS]
   refine tk (i:=14) (oi:=⟨some 32,_,_,_,_,_⟩) (v:=undef) rfl (by kernel_rfl) (fun _ _ _ h=>h) (⟨X.out.c4 (i:=0) rfl,⟨(HE.out _ X.out.bel).o0,(HE.out _ X.out.bel).o1⟩⟩) (Or.inr ⟨by rfl,rfl⟩) ?_
   try simp only [Act.put,seti,set0,setS]
   refine tk (i:=15) (oi:=⟨some 33,_,_,_,_,_⟩) (v:=undef) rfl (by kernel_rfl) (fun _ _ _ h=>h) (⟨X.out.c4 (i:=0) rfl,⟨(HE.out _ X.out.bel).o0,(HE.out _ X.out.bel).o1⟩⟩) (Or.inr ⟨by rfl,rfl⟩) ?_
   try simp only [Act.put,seti,set0,setS]
   refine tk (i:=16) (oi:=⟨some 34,_,_,_,_,_⟩) (v:=undef) rfl (by kernel_rfl) (fun _ _ _ h=>h) (⟨X.out.c4 (i:=0) rfl,⟨(HE.out _ X.out.bel).o0,(HE.out _ X.out.bel).o1⟩⟩) (Or.inr ⟨by rfl,rfl⟩) ?_
   try simp only [Act.put,seti,set0,setS]
   refine tk (i:=17) (oi:=⟨some 35,_,_,_,_,_⟩) (v:=_) rfl (by kernel_rfl) (fun _ _ _ h=>h) (⟨X.out.c4 (i:=0) rfl,⟨(HE.out _ X.out.bel).o0,(HE.out _ X.out.bel).o1⟩⟩) (Or.inl ⟨by rfl,by intro w hSw;(try dsimp only at hSw);(first | (go_simp;done) | (go_simp;with_reducible rfl))⟩) ?_
   try simp only [Act.put,seti,set0,setS]
   refine tk (i:=18) (oi:=⟨some 17,_,_,_,_,_⟩) (v:=_) rfl (by kernel_rfl) (fun _ _ _ h=>h) (⟨X.out.c4 (i:=0) rfl,⟨(HE.out _ X.out.bel).o0,(HE.out _ X.out.bel).o1⟩⟩) (Or.inl ⟨by rfl,by intro w hSw;(try dsimp only at hSw);(first | (go_simp;done) | (go_simp;with_reducible rfl))⟩) ?_
   try simp only [Act.put,seti,set0,setS]
   refine wpLate_done (by kernel_rfl) ?_ _
   go_wp2
   go_ret
   exact ⟨rfl,X.out.bel⟩
 · rw [checkV_of h1] at HC1
   rw [checkV_of h2] at HC2
   subst h3
   have HI:=Lib.hid (fun V=>isInteger_no b m k (by rw [h4];exact fun h=>by cases h) V)
   have hl1:k.toList=[1]:=by rw [h4,ByteArray.toList_eq]
   clear h1 h2 hno h4
   have X:=Lib.hid ((Sb.start w).new #[.bool b,.string m,.bool false,.string k] 25)
   have X:=Lib.hid (X.out.pick [0] [(w.heap.size,#[.bool b,.string m,.bool false,.string k],25)] [] (by simp) (by decide) (by simp))
   obtain ⟨a0,a1,a2,a3⟩:=X.out.c4 (i:=0) rfl
   go_enter Tryz.func70,Tryz.ntmps70
   go_wp2_with fail
   refine (HC1.out _).mono ?_
   rintro e w1 ⟨rfl,hb9⟩
   have X:=Lib.hid (X.out.next hb9)
   clear hb9
   clear a0 a1 a2 a3
   obtain ⟨a0,a1,a2,a3⟩:=X.out.c4 (i:=0) rfl
   go_wp2_with fail
   refine (HC2.out _).mono ?_
   rintro e w2 ⟨rfl,hb9⟩
   have X:=Lib.hid (X.out.next hb9)
   clear hb9
   clear a0 a1 a2 a3
   obtain ⟨a0,a1,a2,a3⟩:=X.out.c4 (i:=0) rfl
   go_wp2_with fail
   refine (HI.out _).mono ?_
   rintro e w3 ⟨rfl,hb9⟩
   have X:=Lib.hid (X.out.next hb9)
   clear hb9
   clear a0 a1 a2 a3
   go_upto_region 5 with fail
   refine wp_region_late (S:=fun w'=>(w'.cell? ⟨w.heap.size,0,none⟩=some (.bool b)∧w'.cell? ⟨w.heap.size,1,none⟩=some (.string m)∧w'.cell? ⟨w.heap.size,2,none⟩=some (.bool false)∧w'.cell? ⟨w.heap.size,3,none⟩=some (.string k))∧(w'.cell? ⟨0,0,none⟩=some (.bool false)∧w'.cell? ⟨0,1,none⟩=some (.string ⟨#[1]⟩))) (L:=[]) (by kernel_rfl) ?_
   have X:=Lib.hid X.out.drew
   obtain ⟨V0,hV⟩:=wexi X.out
   rw [←hV] at X ⊢
   clear hV
   refine tk (i:=0) (oi:=⟨some 18,_,_,_,_,_⟩) (v:=_) rfl (by kernel_rfl) (fun _ _ _ h=>h) (⟨X.out.c4 (i:=0) rfl,⟨(HE.out _ X.out.bel).o0,(HE.out _ X.out.bel).o1⟩⟩) (Or.inl ⟨by rfl,by intro w hSw;(try dsimp only at hSw);(first | (go_simp;done) | (go_simp;with_reducible rfl))⟩) ?_
   try simp only [Act.put,seti,set0,setS]
   refine tk (i:=1) (oi:=⟨some 19,_,_,_,_,_⟩) (v:=_) rfl (by kernel_rfl) (fun _ _ _ h=>h) (⟨X.out.c4 (i:=0) rfl,⟨(HE.out _ X.out.bel).o0,(HE.out _ X.out.bel).o1⟩⟩) (Or.inl ⟨by rfl,by intro w hSw;(try dsimp only at hSw);(first | (go_simp;done) | (go_simp;with_reducible rfl))⟩) ?_
   try simp only [Act.put,seti,set0,setS]
   refine tk (i:=2) (oi:=⟨some 20,_,_,_,_,_⟩) (v:=_) rfl (by kernel_rfl) (fun _ _ _ h=>h) (⟨X.out.c4 (i:=0) rfl,⟨(HE.out _ X.out.bel).o0,(HE.out _ X.out.bel).o1⟩⟩) (Or.inl ⟨by rfl,by intro w hSw;(try dsimp only at hSw);(first | (go_simp;done) | (go_simp;with_reducible rfl))⟩) ?_
   try simp only [Act.put,seti,set0,setS]
   refine tk (i:=3) (oi:=⟨some 21,_,_,_,_,_⟩) (v:=_) rfl (by kernel_rfl) (fun _ _ _ h=>h) (⟨X.out.c4 (i:=0) rfl,⟨(HE.out _ X.out.bel).o0,(HE.out _ X.out.bel).o1⟩⟩) (Or.inl ⟨by rfl,by intro w hSw;(try dsimp only at hSw);(first | (go_simp;done) | (go_simp;with_reducible rfl))⟩) ?_
   try simp only [Act.put,seti,set0,setS]
   refine tk (i:=4) (oi:=⟨some 22,_,_,_,_,_⟩) (v:=_) rfl (by kernel_rfl) (fun _ _ _ h=>h) (⟨X.out.c4 (i:=0) rfl,⟨(HE.out _ X.out.bel).o0,(HE.out _ X.out.bel).o1⟩⟩) (Or.inl ⟨by rfl,by intro w hSw;(try dsimp only at hSw);(first | (go_simp;done) | (go_simp;with_reducible rfl))⟩) ?_
   try simp only [Act.put,seti,set0,setS]
   refine tk (i:=5) (oi:=⟨some 23,_,_,_,_,_⟩) (v:=_) rfl (by kernel_rfl) (fun _ _ _ h=>h) (⟨X.out.c4 (i:=0) rfl,⟨(HE.out _ X.out.bel).o0,(HE.out _ X.out.bel).o1⟩⟩) (Or.inl ⟨by rfl,by intro w hSw;(try dsimp only at hSw);(first | (go_simp;done) | (go_simp;with_reducible rfl))⟩) ?_
   try simp only [Act.put,seti,set0,setS]
   refine tk (i:=6) (oi:=⟨some 24,_,_,_,_,_⟩) (v:=_) rfl (by kernel_rfl) (fun _ _ _ h=>h) (⟨X.out.c4 (i:=0) rfl,⟨(HE.out _ X.out.bel).o0,(HE.out _ X.out.bel).o1⟩⟩) (Or.inl ⟨by rfl,by intro w hSw;(try dsimp only at hSw);(first | (go_simp;done) | (go_simp;with_reducible rfl))⟩) ?_
   try simp only [Act.put,seti,set0,setS]
   refine tk (i:=7) (oi:=⟨some 25,_,_,_,_,_⟩) (v:=_) rfl (by kernel_rfl) (fun _ _ _ h=>h) (⟨X.out.c4 (i:=0) rfl,⟨(HE.out _ X.out.bel).o0,(HE.out _ X.out.bel).o1⟩⟩) (Or.inl ⟨by rfl,by intro w hSw;(try dsimp only at hSw);(first | (go_simp;done) | (go_simp;with_reducible rfl))⟩) ?_
   try simp only [Act.put,seti,set0,setS]
   refine tk (i:=8) (oi:=⟨some 26,_,_,_,_,_⟩) (v:=_) rfl (by kernel_rfl) (fun _ _ _ h=>h) (⟨X.out.c4 (i:=0) rfl,⟨(HE.out _ X.out.bel).o0,(HE.out _ X.out.bel).o1⟩⟩) (Or.inl ⟨by rfl,by intro w hSw;(try dsimp only at hSw);(first | (go_simp;done) | (go_simp;with_reducible rfl))⟩) ?_
   try simp only [Act.put,seti,set0,setS]
   refine tk (i:=9) (oi:=⟨some 27,_,_,_,_,_⟩) (v:=_) rfl (by kernel_rfl) (fun _ _ _ h=>h) (⟨X.out.c4 (i:=0) rfl,⟨(HE.out _ X.out.bel).o0,(HE.out _ X.out.bel).o1⟩⟩) (Or.inl ⟨by rfl,by intro w hSw;(try dsimp only at hSw);(first | (go_simp;done) | (go_simp;with_reducible rfl))⟩) ?_
   try simp only [Act.put,seti,set0,setS]
   refine tk (i:=10) (oi:=⟨some 28,_,_,_,_,_⟩) (v:=undef) rfl (by kernel_rfl) (fun _ _ _ h=>h) (⟨X.out.c4 (i:=0) rfl,⟨(HE.out _ X.out.bel).o0,(HE.out _ X.out.bel).o1⟩⟩) (Or.inr ⟨by rfl,rfl⟩) ?_
   try simp only [Act.put,seti,set0,setS]
   refine tk (i:=11) (oi:=⟨some 29,_,_,_,_,_⟩) (v:=undef) rfl (by kernel_rfl) (fun _ _ _ h=>h) (⟨X.out.c4 (i:=0) rfl,⟨(HE.out _ X.out.bel).o0,(HE.out _ X.out.bel).o1⟩⟩) (Or.inr ⟨by rfl,rfl⟩) ?_
   try simp only [Act.put,seti,set0,setS]
   refine tk (i:=12) (oi:=⟨some 30,_,_,_,_,_⟩) (v:=undef) rfl (by kernel_rfl) (fun _ _ _ h=>h) (⟨X.out.c4 (i:=0) rfl,⟨(HE.out _ X.out.bel).o0,(HE.out _ X.out.bel).o1⟩⟩) (Or.inr ⟨by rfl,rfl⟩) ?_
   try simp only [Act.put,seti,set0,setS]
   refine tk (i:=13) (oi:=⟨some 31,_,_,_,_,_⟩) (v:=undef) rfl (by kernel_rfl) (fun _ _ _ h=>h) (⟨X.out.c4 (i:=0) rfl,⟨(HE.out _ X.out.bel).o0,(HE.out _ X.out.bel).o1⟩⟩) (Or.inr ⟨by rfl,rfl⟩) ?_
   try simp only [Act.put,seti,set0,setS]
   refine tk (i:=14) (oi:=⟨some 32,_,_,_,_,_⟩) (v:=undef) rfl (by kernel_rfl) (fun _ _ _ h=>h) (⟨X.out.c4 (i:=0) rfl,⟨(HE.out _ X.out.bel).o0,(HE.out _ X.out.bel).o1⟩⟩) (Or.inr ⟨by rfl,rfl⟩) ?_
   try simp only [Act.put,seti,set0,setS]
   refine tk (i:=15) (oi:=⟨some 33,_,_,_,_,_⟩) (v:=undef) rfl (by kernel_rfl) (fun _ _ _ h=>h) (⟨X.out.c4 (i:=0) rfl,⟨(HE.out _ X.out.bel).o0,(HE.out _ X.out.bel).o1⟩⟩) (Or.inr ⟨by rfl,rfl⟩) ?_
   try simp only [Act.put,seti,set0,setS]
   refine tk (i:=16) (oi:=⟨some 34,_,_,_,_,_⟩) (v:=undef) rfl (by kernel_rfl) (fun _ _ _ h=>h) (⟨X.out.c4 (i:=0) rfl,⟨(HE.out _ X.out.bel).o0,(HE.out _ X.out.bel).o1⟩⟩) (Or.inr ⟨by rfl,rfl⟩) ?_
   try simp only [Act.put,seti,set0,setS]
   refine tk (i:=17) (oi:=⟨some 35,_,_,_,_,_⟩) (v:=_) rfl (by kernel_rfl) (fun _ _ _ h=>h) (⟨X.out.c4 (i:=0) rfl,⟨(HE.out _ X.out.bel).o0,(HE.out _ X.out.bel).o1⟩⟩) (Or.inl ⟨by rfl,by intro w hSw;(try dsimp only at hSw);(first | (go_simp;done) | (go_simp;with_reducible rfl))⟩) ?_
   try simp only [Act.put,seti,set0,setS]
   refine tk (i:=18) (oi:=⟨some 17,_,_,_,_,_⟩) (v:=_) rfl (by kernel_rfl) (fun _ _ _ h=>h) (⟨X.out.c4 (i:=0) rfl,⟨(HE.out _ X.out.bel).o0,(HE.out _ X.out.bel).o1⟩⟩) (Or.inl ⟨by rfl,by intro w hSw;(try dsimp only at hSw);(first | (go_simp;done) | (go_simp;with_reducible rfl))⟩) ?_
   try simp only [Act.put,seti,set0,setS]
   refine wpLate_done (by kernel_rfl) ?_ _
   go_wp2
   go_ret
   exact ⟨rfl,X.out.bel⟩
 · rw [checkV_of (canon_yes hx)] at HC1
   subst h3
   have hyd:enc ((d:Nat):Int)=.agg #[.bool false,.string k]:=by rw [h4];exact enc_mag d
   rw [checkV_of (canon_yes hyd)] at HC2
   have HI:=Lib.hid (fun V=>isInteger_no b m k (by rw [h4];exact mag_no_nil (by omega)) V)
   have hkn:=toList_ne (l:=[1]) (show k≠⟨#[1]⟩ from by rw [h4];exact mag_no_one (by omega))
   have hkn2:¬[1]=k.toList:=fun e=>hkn e.symm
   have HG:=Lib.hid (fun V (hV:Env V)=>gcd_f hx hyd (bg:=false) (mg:=mag (Nat.gcd x.natAbs d)) (by rw [Int.natAbs_natCast];exact enc_mag _) (by omega) (by omega) V hV.tab)
   have hgn:=toList_ne (l:=[1]) (mag_no_one h6)
   have hgn2:¬[1]=(mag (Nat.gcd x.natAbs d)).toList:=fun e=>hgn e.symm
   generalize mag (Nat.gcd x.natAbs d)=mg at *
   clear hno h4 h5 h6 hx hyd
   have X:=Lib.hid ((Sb.start w).new #[.bool b,.string m,.bool false,.string k] 25)
   have X:=Lib.hid (X.out.pick [0] [(w.heap.size,#[.bool b,.string m,.bool false,.string k],25)] [] (by simp) (by decide) (by simp))
   obtain ⟨a0,a1,a2,a3⟩:=X.out.c4 (i:=0) rfl
   go_enter Tryz.func70,Tryz.ntmps70
   go_wp2_with fail
   refine (HC1.out _).mono ?_
   rintro e w1 ⟨rfl,hb9⟩
   have X:=Lib.hid (X.out.next hb9)
   clear hb9
   clear a0 a1 a2 a3
   obtain ⟨a0,a1,a2,a3⟩:=X.out.c4 (i:=0) rfl
   go_wp2_with fail
   refine (HC2.out _).mono ?_
   rintro e w2 ⟨rfl,hb9⟩
   have X:=Lib.hid (X.out.next hb9)
   clear hb9
   clear a0 a1 a2 a3
   obtain ⟨a0,a1,a2,a3⟩:=X.out.c4 (i:=0) rfl
   go_wp2_with fail
   refine (HI.out _).mono ?_
   rintro e w3 ⟨rfl,hb9⟩
   have X:=Lib.hid (X.out.next hb9)
   clear hb9
   clear a0 a1 a2 a3
   go_upto_region 5 with fail
   refine wp_region_late (S:=fun w'=>(w'.cell? ⟨w.heap.size,0,none⟩=some (.bool b)∧w'.cell? ⟨w.heap.size,1,none⟩=some (.string m)∧w'.cell? ⟨w.heap.size,2,none⟩=some (.bool false)∧w'.cell? ⟨w.heap.size,3,none⟩=some (.string k))∧(w'.cell? ⟨0,0,none⟩=some (.bool false)∧w'.cell? ⟨0,1,none⟩=some (.string ⟨#[1]⟩))) (L:=[]) (by kernel_rfl) ?_
   have X:=Lib.hid X.out.drew
   obtain ⟨V0,hV⟩:=wexi X.out
   rw [←hV] at X ⊢
   clear hV
   refine tk (i:=0) (oi:=⟨some 18,_,_,_,_,_⟩) (v:=_) rfl (by kernel_rfl) (fun _ _ _ h=>h) (⟨X.out.c4 (i:=0) rfl,⟨(HE.out _ X.out.bel).o0,(HE.out _ X.out.bel).o1⟩⟩) (Or.inl ⟨by rfl,by intro w hSw;(try dsimp only at hSw);(first | (go_simp;done) | (go_simp;with_reducible rfl))⟩) ?_
   try simp only [Act.put,seti,set0,setS]
   refine tk (i:=1) (oi:=⟨some 19,_,_,_,_,_⟩) (v:=_) rfl (by kernel_rfl) (fun _ _ _ h=>h) (⟨X.out.c4 (i:=0) rfl,⟨(HE.out _ X.out.bel).o0,(HE.out _ X.out.bel).o1⟩⟩) (Or.inl ⟨by rfl,by intro w hSw;(try dsimp only at hSw);(first | (go_simp;done) | (go_simp;with_reducible rfl))⟩) ?_
   try simp only [Act.put,seti,set0,setS]
   refine tk (i:=2) (oi:=⟨some 20,_,_,_,_,_⟩) (v:=_) rfl (by kernel_rfl) (fun _ _ _ h=>h) (⟨X.out.c4 (i:=0) rfl,⟨(HE.out _ X.out.bel).o0,(HE.out _ X.out.bel).o1⟩⟩) (Or.inl ⟨by rfl,by intro w hSw;(try dsimp only at hSw);(first | (go_simp;done) | (go_simp;with_reducible rfl))⟩) ?_
   try simp only [Act.put,seti,set0,setS]
   refine tk (i:=3) (oi:=⟨some 21,_,_,_,_,_⟩) (v:=_) rfl (by kernel_rfl) (fun _ _ _ h=>h) (⟨X.out.c4 (i:=0) rfl,⟨(HE.out _ X.out.bel).o0,(HE.out _ X.out.bel).o1⟩⟩) (Or.inl ⟨by rfl,by intro w hSw;(try dsimp only at hSw);(first | (go_simp;done) | (go_simp;with_reducible rfl))⟩) ?_
   try simp only [Act.put,seti,set0,setS]
   refine tk (i:=4) (oi:=⟨some 22,_,_,_,_,_⟩) (v:=_) rfl (by kernel_rfl) (fun _ _ _ h=>h) (⟨X.out.c4 (i:=0) rfl,⟨(HE.out _ X.out.bel).o0,(HE.out _ X.out.bel).o1⟩⟩) (Or.inl ⟨by rfl,by intro w hSw;(try dsimp only at hSw);(first | (go_simp;done) | (go_simp;with_reducible rfl))⟩) ?_
   try simp only [Act.put,seti,set0,setS]
   refine tk (i:=5) (oi:=⟨some 23,_,_,_,_,_⟩) (v:=_) rfl (by kernel_rfl) (fun _ _ _ h=>h) (⟨X.out.c4 (i:=0) rfl,⟨(HE.out _ X.out.bel).o0,(HE.out _ X.out.bel).o1⟩⟩) (Or.inl ⟨by rfl,by intro w hSw;(try dsimp only at hSw);(first | (go_simp;done) | (go_simp;with_reducible rfl))⟩) ?_
   try simp only [Act.put,seti,set0,setS]
   refine tk (i:=6) (oi:=⟨some 24,_,_,_,_,_⟩) (v:=_) rfl (by kernel_rfl) (fun _ _ _ h=>h) (⟨X.out.c4 (i:=0) rfl,⟨(HE.out _ X.out.bel).o0,(HE.out _ X.out.bel).o1⟩⟩) (Or.inl ⟨by rfl,by intro w hSw;(try dsimp only at hSw);(first | (go_simp;done) | (go_simp;with_reducible rfl))⟩) ?_
   try simp only [Act.put,seti,set0,setS]
   refine tk (i:=7) (oi:=⟨some 25,_,_,_,_,_⟩) (v:=_) rfl (by kernel_rfl) (fun _ _ _ h=>h) (⟨X.out.c4 (i:=0) rfl,⟨(HE.out _ X.out.bel).o0,(HE.out _ X.out.bel).o1⟩⟩) (Or.inl ⟨by rfl,by intro w hSw;(try dsimp only at hSw);(first | (go_simp;done) | (go_simp;with_reducible rfl))⟩) ?_
   try simp only [Act.put,seti,set0,setS]
   refine tk (i:=8) (oi:=⟨some 26,_,_,_,_,_⟩) (v:=_) rfl (by kernel_rfl) (fun _ _ _ h=>h) (⟨X.out.c4 (i:=0) rfl,⟨(HE.out _ X.out.bel).o0,(HE.out _ X.out.bel).o1⟩⟩) (Or.inl ⟨by rfl,by intro w hSw;(try dsimp only at hSw);(first | (go_simp;done) | (go_simp;with_reducible rfl))⟩) ?_
   try simp only [Act.put,seti,set0,setS]
   refine tk (i:=9) (oi:=⟨some 27,_,_,_,_,_⟩) (v:=_) rfl (by kernel_rfl) (fun _ _ _ h=>h) (⟨X.out.c4 (i:=0) rfl,⟨(HE.out _ X.out.bel).o0,(HE.out _ X.out.bel).o1⟩⟩) (Or.inl ⟨by rfl,by intro w hSw;(try dsimp only at hSw);(first | (go_simp;done) | (go_simp;with_reducible rfl))⟩) ?_
   try simp only [Act.put,seti,set0,setS]
   refine tk (i:=10) (oi:=⟨some 28,_,_,_,_,_⟩) (v:=_) rfl (by kernel_rfl) (fun _ _ _ h=>h) (⟨X.out.c4 (i:=0) rfl,⟨(HE.out _ X.out.bel).o0,(HE.out _ X.out.bel).o1⟩⟩) (Or.inl ⟨by rfl,by intro w hSw;(try dsimp only at hSw);(first | (go_simp;done) | (go_simp;with_reducible rfl))⟩) ?_
   try simp only [Act.put,seti,set0,setS]
   refine tk (i:=11) (oi:=⟨some 29,_,_,_,_,_⟩) (v:=_) rfl (by kernel_rfl) (fun _ _ _ h=>h) (⟨X.out.c4 (i:=0) rfl,⟨(HE.out _ X.out.bel).o0,(HE.out _ X.out.bel).o1⟩⟩) (Or.inl ⟨by rfl,by intro w hSw;(try dsimp only at hSw);(first | (go_simp;done) | (go_simp;with_reducible rfl))⟩) ?_
   try simp only [Act.put,seti,set0,setS]
   refine tk (i:=12) (oi:=⟨some 30,_,_,_,_,_⟩) (v:=_) rfl (by kernel_rfl) (fun _ _ _ h=>h) (⟨X.out.c4 (i:=0) rfl,⟨(HE.out _ X.out.bel).o0,(HE.out _ X.out.bel).o1⟩⟩) (Or.inl ⟨by rfl,by intro w hSw;(try dsimp only at hSw);(first | (go_simp;done) | (go_simp;with_reducible rfl))⟩) ?_
   try simp only [Act.put,seti,set0,setS]
   refine tk (i:=13) (oi:=⟨some 31,_,_,_,_,_⟩) (v:=_) rfl (by kernel_rfl) (fun _ _ _ h=>h) (⟨X.out.c4 (i:=0) rfl,⟨(HE.out _ X.out.bel).o0,(HE.out _ X.out.bel).o1⟩⟩) (Or.inl ⟨by rfl,by intro w hSw;(try dsimp only at hSw);(first | (go_simp;done) | (go_simp;with_reducible rfl))⟩) ?_
   try simp only [Act.put,seti,set0,setS]
   refine tk (i:=15) (oi:=⟨some 33,_,_,_,_,_⟩) (v:=_) rfl (by kernel_rfl) (fun _ _ _ h=>h) (⟨X.out.c4 (i:=0) rfl,⟨(HE.out _ X.out.bel).o0,(HE.out _ X.out.bel).o1⟩⟩) (Or.inl ⟨by rfl,by intro w hSw;(try dsimp only at hSw);(first | (go_simp;done) | (go_simp;with_reducible rfl))⟩) ?_
   try simp only [Act.put,seti,set0,setS]
   refine wpLate_one (i:=14) (o:=⟨some 32,_,_,_,_,_⟩) (by kernel_rfl) rfl (fun K hK=>?_)
   go_simp
   (go_at_call 115;refine (HG.out _ (HE.out _ X.out.bel)).mono ?_;rintro e u1 ⟨rfl,hb9⟩;have X:=Lib.hid (X.out.next hb9);clear hb9)
   try go_wp2_with fail
   refine hK.out _ _ (Or.inr (fun _=>⟨X.out.c4 (i:=0) rfl,⟨(HE.out _ X.out.bel).o0,(HE.out _ X.out.bel).o1⟩⟩)) ?_
   clear hK K
   try simp only [Act.put,seti,set0,setS]
   refine tk (i:=16) (oi:=⟨some 34,_,_,_,_,_⟩) (v:=_) rfl (by kernel_rfl) (fun _ _ _ h=>h) (⟨X.out.c4 (i:=0) rfl,⟨(HE.out _ X.out.bel).o0,(HE.out _ X.out.bel).o1⟩⟩) (Or.inl ⟨by rfl,by intro w hSw;(try dsimp only at hSw);(first | (go_simp;done) | (go_simp;with_reducible rfl))⟩) ?_
   try simp only [Act.put,seti,set0,setS]
   refine tk (i:=17) (oi:=⟨some 35,_,_,_,_,_⟩) (v:=_) rfl (by kernel_rfl) (fun _ _ _ h=>h) (⟨X.out.c4 (i:=0) rfl,⟨(HE.out _ X.out.bel).o0,(HE.out _ X.out.bel).o1⟩⟩) (Or.inl ⟨by rfl,by intro w hSw;(try dsimp only at hSw);(first | (go_simp;done) | (go_simp;with_reducible rfl))⟩) ?_
   try simp only [Act.put,seti,set0,setS]
   refine tk (i:=18) (oi:=⟨some 17,_,_,_,_,_⟩) (v:=_) rfl (by kernel_rfl) (fun _ _ _ h=>h) (⟨X.out.c4 (i:=0) rfl,⟨(HE.out _ X.out.bel).o0,(HE.out _ X.out.bel).o1⟩⟩) (Or.inl ⟨by rfl,by intro w hSw;(try dsimp only at hSw);(first | (go_simp;done) | (go_simp;with_reducible rfl))⟩) ?_
   try simp only [Act.put,seti,set0,setS]
   refine wpLate_done (by kernel_rfl) ?_ _
   go_wp2
   go_ret
   exact ⟨rfl,X.out.bel⟩
end Go.Proofs.YtdbhahiieokplaaGreatDoor


namespace Go.Proofs.YtdbhahiieokplaaGreatDoor
open Go.RowKit
attribute [local go_sem ↓] Go.wp_at_zero Go.wp_at_succ

end Go.Proofs.YtdbhahiieokplaaGreatDoor


namespace Go.Proofs.YtdbhahiieokplaaGreatDoor
open Go.RowKit
attribute [local go_sem ↓] Go.wp_at_zero Go.wp_at_succ

theorem at_ {M:World→Prop} (g:Nat) (k:Nat) {W:World} {y:Value} (h:M (W.setCell ⟨g,k,none⟩ y)):M (W.setCell ⟨g,k,none⟩ y):=h

end Go.Proofs.YtdbhahiieokplaaGreatDoor


namespace Go.Proofs.YtdbhahiieokplaaGreatDoor
open Go.RowKit
attribute [local go_sem ↓] Go.wp_at_zero Go.wp_at_succ

set_option maxHeartbeats 4000000 in
set_option maxRecDepth 100000 in
theorem ratFloor_f {p:Rat} {b bz:Bool} {m k mz:ByteArray} (h:Rq p b m k) (hz:enc (p.num / (p.den:Int))=.agg #[.bool bz,.string mz]) (s1:m.size≤100000) (s2:(mag p.den).size≤100000) (w:World) :
  Calls Tryz.prog 152 #[.agg #[.bool b,.string m,.bool false,.string k]] w (RetB w (.agg #[.bool bz,.string mz])):=by
 by_cases hden:p.den=1
 · obtain rfl:=h.den1 hden
   have hn:=h.num
   rw [hden,show (((1:Nat):Int))=1 from rfl,Int.ediv_one,hn] at hz
   obtain ⟨rfl,rfl⟩:b=bz∧m=mz:=by cases hz;exact ⟨rfl,rfl⟩
   have X:=Lib.hid (((Sb.start w).new #[.bool b,.string m,.bool false,.string ⟨#[]⟩] 25).new #[.bool false,.string ⟨#[]⟩] 23)
   have X:=Lib.hid (X.out.pick [0,1] [(w.heap.size,#[.bool b,.string m,.bool false,.string ⟨#[]⟩],25),(w.heap.size+1,#[.bool false,.string ⟨#[]⟩],23)] [] (by simp) (by decide) (by simp))
   clear h hz hden hn s2
   go_enter Tryz.func152,Tryz.ntmps152
   obtain ⟨a0,a1,a2,a3⟩:=X.out.c4 (i:=0) rfl
   go_wp2_with fail
   refine (isInteger_yes b m _).mono ?_
   rintro e u1 ⟨rfl,hb9⟩
   have X:=Lib.hid (X.out.next hb9)
   clear hb9
   clear a0 a1 a2 a3
   obtain ⟨a0,a1,a2,a3⟩:=X.out.c4 (i:=0) rfl
   obtain ⟨x0,x1⟩:=X.out.c2 (i:=1) rfl
   obtain ⟨y0,y1⟩:=X.out.f2 (i:=1) rfl
   go_wp2
   have X:=Lib.hid (X.out.set2 (i:=1) rfl (.bool b) (.string m))
   obtain ⟨p0,p1⟩:=X.out.c2 (i:=1) rfl
   exact bodyPost_ret (v:=.agg #[.bool b,.string m]) (by simp [results,Tryz.results152,go_sem,p0,p1]) rfl ⟨rfl,X.out.bel⟩
 · obtain rfl:=h.den2 hden
   have HNO:=Lib.hid (isInteger_no b m (mag p.den) (mag_no_nil p.den_nz))
   obtain ⟨br,mr,hr⟩:=enc_form (p.num%(p.den:Int))
   have hd0:=p.den_nz
   have HDM:=Lib.hid (fun V=>divMod_f h.num (enc_mag p.den) (by omega) (by omega) (by omega) hz hr rfl rfl V)
   generalize Go.Proofs.YtdbhahiieokplaaGreatDoor.mag p.den=k at *
   have X:=Lib.hid (((Sb.start w).new #[.bool b,.string m,.bool false,.string k] 25).new #[.bool false,.string ⟨#[]⟩] 23)
   have X:=Lib.hid (X.out.pick [0,1] [(w.heap.size,#[.bool b,.string m,.bool false,.string k],25),(w.heap.size+1,#[.bool false,.string ⟨#[]⟩],23)] [] (by simp) (by decide) (by simp))
   clear h hz hden hr hd0 s1 s2
   go_enter Tryz.func152,Tryz.ntmps152
   obtain ⟨a0,a1,a2,a3⟩:=X.out.c4 (i:=0) rfl
   go_wp2_with fail
   refine (HNO.out _).mono ?_
   rintro e u1 ⟨rfl,hb9⟩
   have X:=Lib.hid (X.out.next hb9)
   clear hb9
   clear a0 a1 a2 a3
   obtain ⟨a0,a1,a2,a3⟩:=X.out.c4 (i:=0) rfl
   go_wp2_with fail
   refine (HDM.out _).mono ?_
   rintro e u2 ⟨rfl,hb9⟩
   have X:=Lib.hid (X.out.next hb9)
   clear hb9
   clear a0 a1 a2 a3
   go_upto_region 4 with fail
   have X:=Lib.hid ((X.out.new #[.bool bz,.string mz] 23).new #[.bool br,.string mr] 23)
   obtain ⟨W1,hV⟩:=wexi X.out
   rw [←hV] at X ⊢
   clear hV
   obtain ⟨a0,a1⟩:=X.out.c2 (i:=2) rfl
   obtain ⟨x0,x1⟩:=X.out.c2 (i:=1) rfl
   obtain ⟨y0,y1⟩:=X.out.f2 (i:=1) rfl
   go_wp2
   have X:=Lib.hid (X.out.set2 (i:=1) rfl (.bool bz) (.string mz))
   obtain ⟨p0,p1⟩:=X.out.c2 (i:=1) rfl
   exact bodyPost_ret (v:=.agg #[.bool bz,.string mz]) (by simp [results,Tryz.results152,go_sem,p0,p1]) rfl ⟨rfl,X.out.bel⟩

end Go.Proofs.YtdbhahiieokplaaGreatDoor


namespace Go.Proofs.YtdbhahiieokplaaGreatDoor
open Go.RowKit
attribute [local go_sem ↓] Go.wp_at_zero Go.wp_at_succ

set_option maxHeartbeats 8000000 in
set_option maxRecDepth 100000 in
theorem prat_w (w:World) {b1:Bool} {m1 k1:ByteArray} {n d:Int} (hw0:IntKind.i64.wrap (n)=n) (hw1:IntKind.i64.wrap (d)=d) (hw2:IntKind.i64.wrap (d+1)=d+1) (HO:∀ V,Below w.heap.size w V→Calls Tryz.prog 53 #[.int .i64 (n),.int .i64 (d+1)] V (RetB V (.agg #[.bool b1,.string m1,.bool false,.string k1]))) :
  Calls Tryz.prog 17 #[.agg #[.int .i32 n,.int .u16 d]] w (RetB w (.agg #[.bool b1,.string m1,.bool false,.string k1])):=by
 have C1:=Lib.hid HO
 have RS:=Lib.hid Tryz.results17
 clear HO 
 go_enter Tryz.func17,Tryz.ntmps17
 exact wk0

set_option maxHeartbeats 8000000 in
set_option maxRecDepth 100000 in
theorem pof_1 (w:World) {b1 b2:Bool} {m1 k1 m2 k2:ByteArray} {n1 d1 n2 d2 c:Int} (h:0<c) (H1:∀ V,Below w.heap.size w V→Calls Tryz.prog 17 #[.agg #[.int .i32 n1,.int .u16 d1]] V (RetB V (.agg #[.bool b1,.string m1,.bool false,.string k1]))) (H2:∀ V,Below w.heap.size w V→Calls Tryz.prog 17 #[.agg #[.int .i32 n2,.int .u16 d2]] V (RetB V (.agg #[.bool b2,.string m2,.bool false,.string k2]))) (HC:∀ V,Below w.heap.size w V→Calls Tryz.prog 15 #[.agg #[.bool b1,.string m1,.bool false,.string k1],.agg #[.bool b2,.string m2,.bool false,.string k2]] V (RetB V (.int .i64 (c)))) :
  Calls Tryz.prog 26 #[.agg #[.int .i32 n1,.int .u16 d1,.int .i32 n2,.int .u16 d2]] w (RetB w (.agg #[.bool b2,.string m2,.bool false,.string k2,.bool b1,.string m1,.bool false,.string k1])):=by
 have C1:=Lib.hid H1
 have C2:=Lib.hid H2
 have C3:=Lib.hid HC
 have RS:=Lib.hid Tryz.results26
 clear H1 H2 HC 
 go_enter Tryz.func26,Tryz.ntmps26
 exact wk0

set_option maxHeartbeats 8000000 in
set_option maxRecDepth 100000 in
theorem pof_2 (w:World) {b1 b2:Bool} {m1 k1 m2 k2:ByteArray} {n1 d1 n2 d2 c:Int} (h:¬0<c) (H1:∀ V,Below w.heap.size w V→Calls Tryz.prog 17 #[.agg #[.int .i32 n1,.int .u16 d1]] V (RetB V (.agg #[.bool b1,.string m1,.bool false,.string k1]))) (H2:∀ V,Below w.heap.size w V→Calls Tryz.prog 17 #[.agg #[.int .i32 n2,.int .u16 d2]] V (RetB V (.agg #[.bool b2,.string m2,.bool false,.string k2]))) (HC:∀ V,Below w.heap.size w V→Calls Tryz.prog 15 #[.agg #[.bool b1,.string m1,.bool false,.string k1],.agg #[.bool b2,.string m2,.bool false,.string k2]] V (RetB V (.int .i64 (c)))) :
  Calls Tryz.prog 26 #[.agg #[.int .i32 n1,.int .u16 d1,.int .i32 n2,.int .u16 d2]] w (RetB w (.agg #[.bool b1,.string m1,.bool false,.string k1,.bool b2,.string m2,.bool false,.string k2])):=by
 have C1:=Lib.hid H1
 have C2:=Lib.hid H2
 have C3:=Lib.hid HC
 have RS:=Lib.hid Tryz.results26
 clear H1 H2 HC 
 go_enter Tryz.func26,Tryz.ntmps26
 exact wk0

set_option maxHeartbeats 8000000 in
set_option maxRecDepth 100000 in
theorem low_any {b1 b2:Bool} {m1 k1 m2 k2:ByteArray} (w:World) :
  Calls Tryz.prog 29 #[.agg #[.bool b1,.string m1,.bool false,.string k1,.bool b2,.string m2,.bool false,.string k2]] w (RetB w (.agg #[.bool b1,.string m1,.bool false,.string k1,.bool b2,.string m2,.bool false,.string k2])):=by
 have RS:=Lib.hid Tryz.results29
 go_enter Tryz.func29,Tryz.ntmps29
 exact wk0

set_option maxHeartbeats 8000000 in
set_option maxRecDepth 100000 in
theorem within_w (w:World) {b1 b2 b3 b4 b5 b6:Bool} {m1 k1 m2 k2 m3 k3 m4 k4 m5 k5 m6 k6:ByteArray} {x y:Int} (e1:x.tmod 17=y) (e2:IntKind.u8.wrap y=y) (e3:IntKind.i64.wrap y=y) (HO:∀ V,Below w.heap.size w V→Calls Tryz.prog 53 #[.int .i64 (y),.int .i64 (16)] V (RetB V (.agg #[.bool b3,.string m3,.bool false,.string k3]))) (HS:∀ V,Below w.heap.size w V→Calls Tryz.prog 44 #[.agg #[.bool b2,.string m2,.bool false,.string k2],.agg #[.bool b1,.string m1,.bool false,.string k1]] V (RetB V (.agg #[.bool b4,.string m4,.bool false,.string k4]))) (HM:∀ V,Below w.heap.size w V→Calls Tryz.prog 45 #[.agg #[.bool b3,.string m3,.bool false,.string k3],.agg #[.bool b4,.string m4,.bool false,.string k4]] V (RetB V (.agg #[.bool b5,.string m5,.bool false,.string k5]))) (HA:∀ V,Below w.heap.size w V→Calls Tryz.prog 43 #[.agg #[.bool b1,.string m1,.bool false,.string k1],.agg #[.bool b5,.string m5,.bool false,.string k5]] V (RetB V (.agg #[.bool b6,.string m6,.bool false,.string k6]))) :
  Calls Tryz.prog 41 #[.agg #[.bool b1,.string m1,.bool false,.string k1,.bool b2,.string m2,.bool false,.string k2],.int .u8 x] w (RetB w (.agg #[.bool b6,.string m6,.bool false,.string k6])):=by
 have C1:=Lib.hid HO
 have C2:=Lib.hid HS
 have C3:=Lib.hid HM
 have C4:=Lib.hid HA
 have RS:=Lib.hid Tryz.results41
 clear HO HS HM HA 
 go_enter Tryz.func41,Tryz.ntmps41
 exact wk0
end Go.Proofs.YtdbhahiieokplaaGreatDoor
