import Derived.Test.YtpnokfgplnmjpaaGreatDoorGRefM
import Derived.Test.YtpnokfgplnmjpaaGreatDoorGSgQ
import Derived.Test.YtpnokfgplnmjpaaGreatDoorGRefL
import Derived.WalkLawsBesides
set_option linter.unusedSimpArgs false
set_option linter.unusedVariables false

namespace Go.Proofs.YtpnokfgplnmjpaaGreatDoor
open Go.RowKit
attribute [local go_sem ↓] Go.wp_at_zero Go.wp_at_succ

theorem D_nought (b k:Nat):D b 0 k=0:=by simp [D]

theorem digit_step (g a b k X Y:Nat) (w:World) (ha:a<18446744073709551616) (hb:b<18446744073709551616) (hle:b*Y≤a*X) (hd:Df w g a b (car B64 0 a X k) (car B64 0 b Y k) (bor B64 (a*X) (b*Y) k)) :
  Calls Tryz.prog 241 #[.pointer (some ⟨g,0,none⟩),.int .u64 (D B64 X k:Int),.int .u64 (D B64 Y k:Int)] w (RetDg w g (D B64 (a*X-b*Y) k) a b (car B64 0 a X (k+1)) (car B64 0 b Y (k+1)) (bor B64 (a*X) (b*Y) (k+1))):=by
 obtain ⟨s1,s2⟩:=car_step B64_pos 0 a X k
 obtain ⟨t1,t2⟩:=car_step B64_pos 0 b Y k
 rw [D_nought,Nat.zero_add] at s1 s2 t1 t2
 rw [Nat.zero_add] at s2 t2
 have c1:=car_lt B64_pos (x:=a) (by rw [B64_eq];exact ha) 0 X k
 have c2:=car_lt B64_pos (x:=b) (by rw [B64_eq];exact hb) 0 Y k
 have hbl:=bor_le B64 (a*X) (b*Y) k
 have hs1:=bor_step B64_pos (a*X) (b*Y) k
 have hs2:=sub_digit (D64_lt (a*X) k) (D64_lt (b*Y) k) hbl (dif_digit B64_pos hle k)
 exact digit_any g a b _ _ _ (D B64 X k) (D B64 Y k) (D B64 (a*X) k) (D B64 (b*Y) k) _ _ _ _ w ha hb (by omega) (by omega) (D64_lt _ _) (D64_lt _ _) hbl (by rw [←B64_eq];exact s2) (by rw [←B64_eq];exact s1) (by rw [←B64_eq];exact t2) (by rw [←B64_eq];exact t1) hs2 hs1.symm hd

def Cp (w:World) (g c:Nat):Prop:=∃ cur T,w.heap[g]?=some (.cells cur T (0,0))∧c≤cur.size

theorem Cp.of_block {w w':World} {g c:Nat} (h:Cp w g c) (e:w'.heap[g]?=w.heap[g]?):Cp w' g c:=by
 obtain ⟨cur,T,h1,h2⟩:=h
 exact ⟨cur,T,e.trans h1,h2⟩
theorem Cp.set {w:World} {g c:Nat} (h:Cp w g c) (i:Nat) (v:Value):Cp (w.setCell ⟨g,i,none⟩ v) g c:=by
 obtain ⟨cur,T,h1,h2⟩:=h
 refine ⟨cur.setIfInBounds i v,T,?_,by simpa using h2⟩
 simp [World.setCell,Array.getElem?_modify,h1]

theorem Own.lies {w:World} {base:Nat} {A:Option Addr} {n c:Nat} {f:Nat→Nat} (h:Own w base (.slice A n c) n (nums .u64 f n)) (hn:0<n) :
  ∃ g,A=some ⟨g,0,none⟩∧Lies w g n f∧Cp w g c∧n≤c∧c≤maxLen∧base≤g:=by
 rcases h.2 with ⟨_,h3⟩ | ⟨g,cap,cur,T,hv,hg,hh,h4,h5,h6,h7⟩
 · omega
 · injection hv with a1 a2 a3
   subst a1 a3
   refine ⟨g,rfl,⟨cur,T,hh,by omega,fun i hi=>?_⟩,⟨cur,T,hh,h6⟩,h4,h5,hg⟩
   have:=nums_get .u64 f n i hi
   rw [←h7,List.getElem?_take_of_lt hi,Array.getElem?_toList] at this
   exact this
theorem Own.of_lies {w:World} {base g n c:Nat} {f:Nat→Nat} (h:Lies w g n f) (hc:Cp w g c) (hn:n≤c) (hm:c≤maxLen) (hb:base≤g):Own w base (.slice (some ⟨g,0,none⟩) n c) n (nums .u64 f n):=by
 obtain ⟨cur,T,h1,_,h3⟩:=h
 obtain ⟨cur',T',h1',h2'⟩:=hc
 rw [h1] at h1'
 injection h1' with e
 injection e with e1 e2
 subst e1
 exact Own.of_cells h1 hb hn hm h2' h3

structure Ow (w:World) (base:Nat) (A:Option Addr) (n c V:Nat):Prop where
 own:Own w base (.slice A n c) n (nums .u64 (D B64 V) n)
 lt:V<B64^n
 top:0<n→B64^(n-1)≤V

theorem Ow.nm {w:World} {base:Nat} {A:Option Addr} {n c V:Nat} (h:Ow w base A n c V):Nm w A n c V:=by
 obtain ⟨A',c',e,h1,h2⟩:=h.own.rd
 injection e with e1 e2 e3
 subst e1 e3
 exact ⟨⟨h.lt,h1,h2⟩,h.top⟩

structure Ds (W:World) (base gx gy g1 g2 n cx cy X Y a b c d k:Nat) (w:World):Prop where
 lx:Lies w gx n (fun j=>if j<k then D B64 (a*X-b*Y) j else D B64 X j)
 ly:Lies w gy n (fun j=>if j<k then D B64 (c*Y-d*X) j else D B64 Y j)
 px:Cp w gx cx
 py:Cp w gy cy
 f1:Df w g1 a b (car B64 0 a X k) (car B64 0 b Y k) (bor B64 (a*X) (b*Y) k)
 f2:Df w g2 c d (car B64 0 c Y k) (car B64 0 d X k) (bor B64 (c*Y) (d*X) k)
 bel:Below base W w

def RetTwo (W:World) (base gx gy n cx cy R S:Nat) (e:Ending) (w:World):Prop :=
 ∃ k l,k≤n∧l≤n∧e=.returned (.tuple #[.slice (some ⟨gx,0,none⟩) k cx,.slice (some ⟨gy,0,none⟩) l cy])∧Ow w base (some ⟨gx,0,none⟩) k cx R∧Ow w base (some ⟨gy,0,none⟩) l cy S∧Below base W w

set_option maxHeartbeats 8000000 in
set_option maxRecDepth 100000 in
theorem differences_any (base gx gy n cx cy X Y a b c d:Nat) (w:World) (hn:n≤100000000) (ha:a<18446744073709551616) (hb:b<18446744073709551616) (hc:c<18446744073709551616) (hd:d<18446744073709551616)
  (h1:b*Y≤a*X) (h2:d*X≤c*Y) (hR:a*X-b*Y<B64^n) (hS:c*Y-d*X<B64^n) (hX:Lies w gx n (D B64 X)) (hY:Lies w gy n (D B64 Y)) (hpx:Cp w gx cx) (hpy:Cp w gy cy) (hcx:n≤cx) (hcy:n≤cy) (hmx:cx≤maxLen) (hmy:cy≤maxLen)
  (hxy:gx≠gy) (hbx:base≤gx) (hby:base≤gy) :
  Calls Tryz.prog 225 #[.slice (some ⟨gx,0,none⟩) n cx,.slice (some ⟨gy,0,none⟩) n cy,.int .u64 (a:Int),.int .u64 (b:Int),.int .u64 (c:Int),.int .u64 (d:Int)] w (RetTwo w base gx gy n cx cy (a*X-b*Y) (c*Y-d*X)):=by
 have hbw:base≤w.heap.size:=by have:=hX.lt;omega
 have lgx:=hX.lt
 have lgy:=hY.lt
 have HX:=Lib.hid hX
 have HY:=Lib.hid hY
 have HPX:=Lib.hid hpx
 have HPY:=Lib.hid hpy
 have H1:=Lib.hid h1
 have H2:=Lib.hid h2
 have HR:=Lib.hid hR
 have HS:=Lib.hid hS
 clear hX hY hpx hpy h1 h2 hR hS
 go_enter Tryz.func225,Tryz.ntmps225
 go_wp2
 go_loopw [25] (fun i wr=>∃ k:Nat,k≤n∧i=.int .i64 k∧Ds w base gx gy w.heap.size (w.heap.size+1) n cx cy X Y a b c d k wr) (fun i _=>n-(intOf i).toNat)
 case atStart =>
  have e1:=heap_fst w (.cells #[.int .u64 (a:Int),.int .u64 (b:Int),.int .u64 0,.int .u64 0,.int .u64 0] 226) (.cells #[.int .u64 (c:Int),.int .u64 (d:Int),.int .u64 0,.int .u64 0,.int .u64 0] 226)
  have e2:=heap_two w (.cells #[.int .u64 (a:Int),.int .u64 (b:Int),.int .u64 0,.int .u64 0,.int .u64 0] 226) (.cells #[.int .u64 (c:Int),.int .u64 (d:Int),.int .u64 0,.int .u64 0,.int .u64 0] 226)
  have hbl:Below w.heap.size w ((w.alloc (.cells #[.int .u64 (a:Int),.int .u64 (b:Int),.int .u64 0,.int .u64 0,.int .u64 0] 226)).alloc (.cells #[.int .u64 (c:Int),.int .u64 (d:Int),.int .u64 0,.int .u64 0,.int .u64 0] 226)):=((Below.refl _ _).alloc (Nat.le_refl _) _).alloc (by simp) _
  refine ⟨0,Nat.zero_le _,rfl,⟨(HX.out.below hbl lgx).congr fun j _=>by rw [if_neg (by omega)],(HY.out.below hbl lgy).congr fun j _=>by rw [if_neg (by omega)],HPX.out.of_block (hbl.block gx lgx),HPY.out.of_block (hbl.block gy lgy),?_,?_,hbl.mono hbw⟩⟩
  · show _=_
    rw [car_zero,car_zero,bor_zero]
    exact e1
  · show _=_
    rw [car_zero,car_zero,bor_zero]
    exact e2
 case round =>
  obtain ⟨k,hk,rfl,hds⟩:=hrel
  by_cases hlt:k<n
  · have cX:=hds.lx.cell (i:=k) hlt
    have cY:=hds.ly.cell (i:=k) hlt
    have fX:=hds.lx.frozen k
    have fY:=hds.ly.frozen k
    rw [if_neg (by omega)] at cX cY
    have hsw:=hds.bel.size
    have DF1:=Lib.hid hds.f1
    have DF20:=Lib.hid hds.f2
    have l1:=hds.f1.lt
    have l2:=hds.f2.lt
    have lx1:gx<wr.heap.size:=by omega
    have lx2:gx≠w.heap.size:=by omega
    have ly1:gy<wr.heap.size:=by omega
    have ly2:gy≠w.heap.size:=by omega
    have HDS:=Lib.hid hds
    have hD1:=fun V (hV:Df V w.heap.size a b (car B64 0 a X k) (car B64 0 b Y k) (bor B64 (a*X) (b*Y) k))=>digit_step w.heap.size a b k X Y V ha hb H1.out hV
    have hD2:=fun V (hV:Df V (w.heap.size+1) c d (car B64 0 c Y k) (car B64 0 d X k) (bor B64 (c*Y) (d*X) k))=>digit_step (w.heap.size+1) c d k Y X V hc hd H2.out hV
    have HD1:=Lib.hid hD1
    have HD2:=Lib.hid hD2
    clear hD1 hD2 hds
    generalize D B64 X k=xk at *
    generalize D B64 Y k=yk at *
    obtain ⟨rk,hrk⟩:∃ r,D B64 (a*X-b*Y) k=r:=⟨_,rfl⟩
    obtain ⟨sk,hsk⟩:∃ r,D B64 (c*Y-d*X) k=r:=⟨_,rfl⟩
    rw [hrk] at HD1
    rw [hsk] at HD2
    have HRK:=Lib.hid hrk
    have HSK:=Lib.hid hsk
    clear hrk hsk
    have i0:(0:Int)≤(k:Int):=by omega
    have i1:(k:Int)<(n:Int):=by omega
    go_wp2_with fail
    refine wp_region_late (S:=fun w'=>w'.cell? ⟨gx,k,none⟩=some (.int .u64 (xk:Int))∧w'.cell? ⟨gy,k,none⟩=some (.int .u64 (yk:Int))) (L:=[22,23,24,25]) (by kernel_rfl) ?_
    have hHeld:wr.drew.cell? ⟨gx,k,none⟩=some (.int .u64 (xk:Int))∧wr.drew.cell? ⟨gy,k,none⟩=some (.int .u64 (yk:Int)):=⟨cX,cY⟩
    refine wpLate_free (i:=0) (oi:=⟨some 28,_,_,_,_,_⟩) (v:=?_) rfl (by kernel_rfl) (by kernel_rfl) (by kernel_rfl) (by kernel_rfl) (fun _ _ _ h=>h) (Or.inl ⟨by rfl,?_⟩) ?_
    rotate_left
    · intro w hSw;(try dsimp only at hSw);(first | (go_simp;done) | (go_simp;with_reducible rfl))
    try simp only [Act.put,List.setIfInBounds_toArray,List.set_cons_zero,List.set_cons_succ]
    refine wpLate_free (i:=1) (oi:=⟨some 29,_,_,_,_,_⟩) (v:=?_) rfl (by kernel_rfl) (by kernel_rfl) (by kernel_rfl) (by kernel_rfl) (fun _ _ _ h=>h) (Or.inl ⟨by rfl,?_⟩) ?_
    rotate_left
    · intro w hSw;(try dsimp only at hSw);(first | (go_simp;done) | (go_simp;with_reducible rfl))
    try simp only [Act.put,List.setIfInBounds_toArray,List.set_cons_zero,List.set_cons_succ]
    refine wpLate_free (i:=2) (oi:=⟨some 30,_,_,_,_,_⟩) (v:=?_) rfl (by kernel_rfl) (by kernel_rfl) (by kernel_rfl) (by kernel_rfl) (fun _ _ _ h=>h) (Or.inl ⟨by rfl,?_⟩) ?_
    rotate_left
    · intro w hSw;(try dsimp only at hSw);(first | (go_simp;done) | (go_simp;with_reducible rfl))
    try simp only [Act.put,List.setIfInBounds_toArray,List.set_cons_zero,List.set_cons_succ]
    refine wpLate_free (i:=3) (oi:=⟨some 31,_,_,_,_,_⟩) (v:=?_) rfl (by kernel_rfl) (by kernel_rfl) (by kernel_rfl) (by kernel_rfl) (fun _ _ _ h=>h) (Or.inl ⟨by rfl,?_⟩) ?_
    rotate_left
    · intro w hSw;(try dsimp only at hSw);(first | (go_simp;done) | (go_simp;with_reducible rfl))
    try simp only [Act.put,List.setIfInBounds_toArray,List.set_cons_zero,List.set_cons_succ]
    refine wpLate_free (i:=4) (oi:=⟨some 32,_,_,_,_,_⟩) (v:=?_) rfl (by kernel_rfl) (by kernel_rfl) (by kernel_rfl) (by kernel_rfl) (fun _ _ _ h=>h) (Or.inl ⟨by rfl,?_⟩) ?_
    rotate_left
    · intro w hSw;(try dsimp only at hSw);(first | (go_simp;done) | (go_simp;with_reducible rfl))
    try simp only [Act.put,List.setIfInBounds_toArray,List.set_cons_zero,List.set_cons_succ]
    refine wpLate_free (i:=5) (oi:=⟨some 33,_,_,_,_,_⟩) (v:=?_) rfl (by kernel_rfl) (by kernel_rfl) (by kernel_rfl) (by kernel_rfl) (fun _ _ _ h=>h) (Or.inl ⟨by rfl,?_⟩) ?_
    rotate_left
    · intro w hSw;(try dsimp only at hSw);(first | (go_simp;done) | (go_simp;with_reducible rfl))
    try simp only [Act.put,List.setIfInBounds_toArray,List.set_cons_zero,List.set_cons_succ]
    refine wpLate_free (i:=6) (oi:=⟨some 34,_,_,_,_,_⟩) (v:=?_) rfl (by kernel_rfl) (by kernel_rfl) (by kernel_rfl) (by kernel_rfl) (fun _ _ _ h=>h) (Or.inl ⟨by rfl,?_⟩) ?_
    rotate_left
    · intro w hSw;(try dsimp only at hSw);(first | (go_simp;done) | (go_simp;with_reducible rfl))
    try simp only [Act.put,List.setIfInBounds_toArray,List.set_cons_zero,List.set_cons_succ]
    refine wpLate_take (i:=7) (oi:=⟨some 35,_,_,_,_,_⟩) (v:=?_) rfl (by kernel_rfl) (by kernel_rfl) (by kernel_rfl) (by kernel_rfl) (by kernel_rfl) (fun _ _ _ h=>h) (Or.inl ⟨by rfl,?_⟩) hHeld ?_
    rotate_left
    · intro w hSw;(try dsimp only at hSw);(first | (go_simp;done) | (go_simp;with_reducible rfl))
    try simp only [Act.put,List.setIfInBounds_toArray,List.set_cons_zero,List.set_cons_succ]
    refine wpLate_free (i:=8) (oi:=⟨some 36,_,_,_,_,_⟩) (v:=?_) rfl (by kernel_rfl) (by kernel_rfl) (by kernel_rfl) (by kernel_rfl) (fun _ _ _ h=>h) (Or.inl ⟨by rfl,?_⟩) ?_
    rotate_left
    · intro w hSw;(try dsimp only at hSw);(first | (go_simp;done) | (go_simp;with_reducible rfl))
    try simp only [Act.put,List.setIfInBounds_toArray,List.set_cons_zero,List.set_cons_succ]
    refine wpLate_free (i:=9) (oi:=⟨some 37,_,_,_,_,_⟩) (v:=?_) rfl (by kernel_rfl) (by kernel_rfl) (by kernel_rfl) (by kernel_rfl) (fun _ _ _ h=>h) (Or.inl ⟨by rfl,?_⟩) ?_
    rotate_left
    · intro w hSw;(try dsimp only at hSw);(first | (go_simp;done) | (go_simp;with_reducible rfl))
    try simp only [Act.put,List.setIfInBounds_toArray,List.set_cons_zero,List.set_cons_succ]
    refine wpLate_free (i:=10) (oi:=⟨some 38,_,_,_,_,_⟩) (v:=?_) rfl (by kernel_rfl) (by kernel_rfl) (by kernel_rfl) (by kernel_rfl) (fun _ _ _ h=>h) (Or.inl ⟨by rfl,?_⟩) ?_
    rotate_left
    · intro w hSw;(try dsimp only at hSw);(first | (go_simp;done) | (go_simp;with_reducible rfl))
    try simp only [Act.put,List.setIfInBounds_toArray,List.set_cons_zero,List.set_cons_succ]
    refine wpLate_take (i:=11) (oi:=⟨some 39,_,_,_,_,_⟩) (v:=?_) rfl (by kernel_rfl) (by kernel_rfl) (by kernel_rfl) (by kernel_rfl) (by kernel_rfl) (fun _ _ _ h=>h) (Or.inl ⟨by rfl,?_⟩) hHeld ?_
    rotate_left
    · intro w hSw;(try dsimp only at hSw);(first | (go_simp;done) | (go_simp;with_reducible rfl))
    try simp only [Act.put,List.setIfInBounds_toArray,List.set_cons_zero,List.set_cons_succ]
    refine wpLate_free (i:=13) (oi:=⟨some 41,_,_,_,_,_⟩) (v:=?_) rfl (by kernel_rfl) (by kernel_rfl) (by kernel_rfl) (by kernel_rfl) (fun _ _ _ h=>h) (Or.inl ⟨by rfl,?_⟩) ?_
    rotate_left
    · intro w hSw;(try dsimp only at hSw);(first | (go_simp;done) | (go_simp;with_reducible rfl))
    try simp only [Act.put,List.setIfInBounds_toArray,List.set_cons_zero,List.set_cons_succ]
    refine wpLate_free (i:=14) (oi:=⟨some 42,_,_,_,_,_⟩) (v:=?_) rfl (by kernel_rfl) (by kernel_rfl) (by kernel_rfl) (by kernel_rfl) (fun _ _ _ h=>h) (Or.inl ⟨by rfl,?_⟩) ?_
    rotate_left
    · intro w hSw;(try dsimp only at hSw);(first | (go_simp;done) | (go_simp;with_reducible rfl))
    try simp only [Act.put,List.setIfInBounds_toArray,List.set_cons_zero,List.set_cons_succ]
    refine wpLate_free (i:=15) (oi:=⟨some 43,_,_,_,_,_⟩) (v:=?_) rfl (by kernel_rfl) (by kernel_rfl) (by kernel_rfl) (by kernel_rfl) (fun _ _ _ h=>h) (Or.inl ⟨by rfl,?_⟩) ?_
    rotate_left
    · intro w hSw;(try dsimp only at hSw);(first | (go_simp;done) | (go_simp;with_reducible rfl))
    try simp only [Act.put,List.setIfInBounds_toArray,List.set_cons_zero,List.set_cons_succ]
    refine wpLate_take (i:=16) (oi:=⟨some 44,_,_,_,_,_⟩) (v:=?_) rfl (by kernel_rfl) (by kernel_rfl) (by kernel_rfl) (by kernel_rfl) (by kernel_rfl) (fun _ _ _ h=>h) (Or.inl ⟨by rfl,?_⟩) hHeld ?_
    rotate_left
    · intro w hSw;(try dsimp only at hSw);(first | (go_simp;done) | (go_simp;with_reducible rfl))
    try simp only [Act.put,List.setIfInBounds_toArray,List.set_cons_zero,List.set_cons_succ]
    refine wpLate_free (i:=17) (oi:=⟨some 45,_,_,_,_,_⟩) (v:=?_) rfl (by kernel_rfl) (by kernel_rfl) (by kernel_rfl) (by kernel_rfl) (fun _ _ _ h=>h) (Or.inl ⟨by rfl,?_⟩) ?_
    rotate_left
    · intro w hSw;(try dsimp only at hSw);(first | (go_simp;done) | (go_simp;with_reducible rfl))
    try simp only [Act.put,List.setIfInBounds_toArray,List.set_cons_zero,List.set_cons_succ]
    refine wpLate_free (i:=18) (oi:=⟨some 46,_,_,_,_,_⟩) (v:=?_) rfl (by kernel_rfl) (by kernel_rfl) (by kernel_rfl) (by kernel_rfl) (fun _ _ _ h=>h) (Or.inl ⟨by rfl,?_⟩) ?_
    rotate_left
    · intro w hSw;(try dsimp only at hSw);(first | (go_simp;done) | (go_simp;with_reducible rfl))
    try simp only [Act.put,List.setIfInBounds_toArray,List.set_cons_zero,List.set_cons_succ]
    refine wpLate_free (i:=19) (oi:=⟨some 47,_,_,_,_,_⟩) (v:=?_) rfl (by kernel_rfl) (by kernel_rfl) (by kernel_rfl) (by kernel_rfl) (fun _ _ _ h=>h) (Or.inl ⟨by rfl,?_⟩) ?_
    rotate_left
    · intro w hSw;(try dsimp only at hSw);(first | (go_simp;done) | (go_simp;with_reducible rfl))
    try simp only [Act.put,List.setIfInBounds_toArray,List.set_cons_zero,List.set_cons_succ]
    refine wpLate_take (i:=20) (oi:=⟨some 48,_,_,_,_,_⟩) (v:=?_) rfl (by kernel_rfl) (by kernel_rfl) (by kernel_rfl) (by kernel_rfl) (by kernel_rfl) (fun _ _ _ h=>h) (Or.inl ⟨by rfl,?_⟩) hHeld ?_
    rotate_left
    · intro w hSw;(try dsimp only at hSw);(first | (go_simp;done) | (go_simp;with_reducible rfl))
    try simp only [Act.put,List.setIfInBounds_toArray,List.set_cons_zero,List.set_cons_succ]
    refine wpLate_one (i:=12) (o:=⟨some 40,_,_,_,_,_⟩) (by kernel_rfl) rfl (fun K hK=>?_)
    go_simp
    (go_at_call 241;(with_reducible refine (HD1.out _ ?_).mono ?_);(exact DF1.out);rintro e w2 ⟨rfl,hf1,hg1⟩)
    try go_wp2_with fail
    refine hK.out _ _ (Or.inr (fun h=>⟨keep_cell hg1 lx1 lx2 h.1,keep_cell hg1 ly1 ly2 h.2⟩)) ?_
    clear hK K
    try simp only [Act.put,List.setIfInBounds_toArray,List.set_cons_zero,List.set_cons_succ]
    have DF2:=Lib.hid (DF20.out.of_block (hg1.block _ (by show _<wr.heap.size;omega) (fun e=>by injection e with e;omega)))
    refine wpLate_one (i:=21) (o:=⟨some 49,_,_,_,_,_⟩) (by kernel_rfl) rfl (fun K hK=>?_)
    go_simp
    (go_at_call 241;(with_reducible refine (HD2.out _ ?_).mono ?_);(exact DF2.out);rintro e w3 ⟨rfl,hf2,hg2⟩)
    try go_wp2_with fail
    refine hK.out _ _ (Or.inr (fun h=>⟨keep_cell hg2 (by have:=hg1.size;simp at this;omega) (by omega) h.1,keep_cell hg2 (by have:=hg1.size;simp at this;omega) (by omega) h.2⟩)) ?_
    clear hK K
    try simp only [Act.put,List.setIfInBounds_toArray,List.set_cons_zero,List.set_cons_succ]
    have z2:wr.heap.size≤w2.heap.size:=by have:=hg1.size;simpa using this
    have z3:w2.heap.size≤w3.heap.size:=hg2.size
    have b2:∀ g,g<wr.heap.size→g≠w.heap.size→w2.heap[g]?=wr.heap[g]?:=fun g h1 h2=>hg1.block g (by show g<wr.heap.size;exact h1) (fun e=>by injection e with e;omega)
    have b3:∀ g,g<wr.heap.size→g≠w.heap.size+1→w3.heap[g]?=w2.heap[g]?:=fun g h1 h2=>hg2.block g (by omega) (fun e=>by injection e with e;omega)
    have X3:=(HDS.out.lx.of_block (b2 gx lx1 lx2)).of_block (b3 gx lx1 (by omega))
    have Y3:=(HDS.out.ly.of_block (b2 gy ly1 ly2)).of_block (b3 gy ly1 (by omega))
    have PX3:=(HDS.out.px.of_block (b2 gx lx1 lx2)).of_block (b3 gx lx1 (by omega))
    have PY3:=(HDS.out.py.of_block (b2 gy ly1 ly2)).of_block (b3 gy ly1 (by omega))
    have F13:=hf1.of_block (b3 w.heap.size (by omega) (by omega))
    have B3:Below base w w3:=(HDS.out.bel.drew.trans (below_of_grown (B:=base) hg1 (by show base≤wr.heap.size;omega) (by omega))).trans (below_of_grown (B:=base) hg2 (by omega) (by omega))
    have X4:=X3.set k rk
    have Y4:=Y3.other (b:=gx) k (.int .u64 (rk:Int)) (Ne.symm hxy)
    have s1:=X3.cell (i:=k) hlt
    have s2:=X3.frozen k
    have s3:=Y4.cell (i:=k) hlt
    have s4:=Y4.frozen k
    have X5:=X4.other (b:=gy) k (.int .u64 (sk:Int)) hxy
    have Y5:=Y4.set k sk
    have PX5:=(PX3.set k (.int .u64 (rk:Int))).of_block (Below.heap_setCell _ ⟨gy,k,none⟩ (.int .u64 (sk:Int)) gx hxy)
    have PY5:=(PY3.of_block (Below.heap_setCell w3 ⟨gx,k,none⟩ (.int .u64 (rk:Int)) gy (Ne.symm hxy))).set k (.int .u64 (sk:Int))
    have F15:=(F13.of_block (Below.heap_setCell w3 ⟨gx,k,none⟩ (.int .u64 (rk:Int)) w.heap.size (by show w.heap.size≠gx;omega))).of_block (Below.heap_setCell _ ⟨gy,k,none⟩ (.int .u64 (sk:Int)) w.heap.size (by show w.heap.size≠gy;omega))
    have F25:=(hf2.of_block (Below.heap_setCell w3 ⟨gx,k,none⟩ (.int .u64 (rk:Int)) (w.heap.size+1) (by show w.heap.size+1≠gx;omega))).of_block (Below.heap_setCell _ ⟨gy,k,none⟩ (.int .u64 (sk:Int)) (w.heap.size+1) (by show w.heap.size+1≠gy;omega))
    have B5:=(B3.setCell (p:=⟨gx,k,none⟩) hbx (.int .u64 (rk:Int))).setCell (p:=⟨gy,k,none⟩) hby (.int .u64 (sk:Int))
    have HX5:=Lib.hid X5
    have HY5:=Lib.hid Y5
    have HP5:=Lib.hid (And.intro PX5 PY5)
    have HF5:=Lib.hid (And.intro F15 F25)
    have HB5:=Lib.hid B5
    clear z2 z3 b2 b3 X3 Y3 PX3 PY3 F13 B3 X4 Y4 X5 Y5 PX5 PY5 F15 F25 B5 hf1 hf2 hg1 hg2 hHeld cX cY fX fY DF1 DF20 DF2 HD1 HD2
    refine wpLate_free (i:=22) (oi:=⟨some 50,_,_,_,_,_⟩) (v:=?_) rfl (by kernel_rfl) (by kernel_rfl) (by kernel_rfl) (by kernel_rfl) (fun _ _ _ h=>h) (Or.inl ⟨by rfl,?_⟩) ?_
    rotate_left
    · intro w hSw;(try dsimp only at hSw);(first | (go_simp;done) | (go_simp;with_reducible rfl))
    try simp only [Act.put,List.setIfInBounds_toArray,List.set_cons_zero,List.set_cons_succ]
    refine wpLate_one (i:=23) (o:=⟨none,_,_,_,_,_⟩) (by kernel_rfl) rfl (fun K hK=>?_)
    go_simp
    refine hK.out _ _ (Or.inl (by rfl)) ?_
    clear hK K
    try simp only [Act.put,List.setIfInBounds_toArray,List.set_cons_zero,List.set_cons_succ]
    refine wpLate_free (i:=24) (oi:=⟨some 51,_,_,_,_,_⟩) (v:=?_) rfl (by kernel_rfl) (by kernel_rfl) (by kernel_rfl) (by kernel_rfl) (fun _ _ _ h=>h) (Or.inl ⟨by rfl,?_⟩) ?_
    rotate_left
    · intro w hSw;(try dsimp only at hSw);(first | (go_simp;done) | (go_simp;with_reducible rfl))
    try simp only [Act.put,List.setIfInBounds_toArray,List.set_cons_zero,List.set_cons_succ]
    refine wpLate_one (i:=25) (o:=⟨none,_,_,_,_,_⟩) (by kernel_rfl) rfl (fun K hK=>?_)
    go_simp
    refine hK.out _ _ (Or.inl (by rfl)) ?_
    clear hK K
    try simp only [Act.put,List.setIfInBounds_toArray,List.set_cons_zero,List.set_cons_succ]
    refine wpLate_done (by kernel_rfl) ?_ _
    go_wp2
    go_roundw
    case rel =>
     refine ⟨k+1,by omega,by go_num,⟨HX5.out.congr fun j hj=>?_,HY5.out.congr fun j hj=>?_,HP5.out.1,HP5.out.2,HF5.out.1,HF5.out.2,HB5.out⟩⟩
     · by_cases e:j=k
       · rw [if_pos e,if_pos (by omega),e,HRK.out]
       · rw [if_neg e]
         by_cases e2:j<k
         · rw [if_pos e2,if_pos (by omega)]
         · rw [if_neg e2,if_neg (by omega)]
     · by_cases e:j=k
       · rw [if_pos e,if_pos (by omega),e,HSK.out]
       · rw [if_neg e]
         by_cases e2:j<k
         · rw [if_pos e2,if_pos (by omega)]
         · rw [if_neg e2,if_neg (by omega)]
    case measure=>simp [intOf]<;>omega
  · obtain rfl:k=n:=by omega
    have LX:=hds.lx.congr (f':=D B64 (a*X-b*Y)) fun j hj=>by rw [if_pos hj]
    have LY:=hds.ly.congr (f':=D B64 (c*Y-d*X)) fun j hj=>by rw [if_pos hj]
    have O1:=Own.of_lies (base:=base) LX hds.px hcx hmx hbx
    have O2:=Own.of_lies (base:=base) LY hds.py hcy hmy hby
    have N1:Ng wr (some ⟨gx,0,none⟩) k cx (a*X-b*Y):=⟨HR.out,hcx,LX.rd⟩
    have N2:Ng wr (some ⟨gy,0,none⟩) k cy (c*Y-d*X):=⟨HS.out,hcy,LY.rd⟩
    have HBL:=Lib.hid hds.bel
    have HO1:=Lib.hid O1
    have HO2:=Lib.hid O2
    have HN1:=Lib.hid N1
    have HN2:=Lib.hid N2
    clear hds LX LY O1 O2 N1 N2
    generalize a*X-b*Y=R at *
    generalize c*Y-d*X=S at *
    go_wp2_with (first
     | ((with_reducible refine (trim_any (some ⟨gx,0,none⟩) k cx R _ (by omega) HN1.out).mono ?_);rintro e w1 ⟨kr,hkr,rfl,hnr,rfl⟩)
     | ((with_reducible refine (trim_any (some ⟨gy,0,none⟩) k cy S _ (by omega) HN2.out).mono ?_);rintro e w1 ⟨ks,hks,rfl,hns,rfl⟩))
    go_ret2
    exact ⟨kr,ks,hkr,hks,rfl,⟨HO1.out.take hkr,hnr.lt,hnr.top⟩,⟨HO2.out.take hks,hns.lt,hns.top⟩,HBL.out⟩
end Go.Proofs.YtpnokfgplnmjpaaGreatDoor


namespace Go.Proofs.YtpnokfgplnmjpaaGreatDoor
open Go.RowKit
attribute [local go_sem ↓] Go.wp_at_zero Go.wp_at_succ

def bvL:List UInt8→Nat
 | []=>0
 | c :: l=>c.toNat*256^l.length+bvL l

theorem bvL_lt:∀ l:List UInt8,bvL l<256^l.length
 | []=>by simp [bvL]
 | c :: l=>by
   have h1:=bvL_lt l
   have h2:=UInt8.toNat_lt c
   have h3:(c.toNat+1)*256^l.length≤256*256^l.length:=Nat.mul_le_mul_right _ h2
   rw [Nat.add_mul] at h3
   simp only [bvL,List.length_cons,Nat.pow_succ]
   rw [Nat.mul_comm (256^l.length) 256]
   omega

theorem bvL_snoc (c:UInt8):∀ l:List UInt8,bvL (l++[c])=bvL l*256+c.toNat
 | []=>by simp [bvL]
 | d :: l=>by
   simp only [List.cons_append,bvL,bvL_snoc c l,List.length_append,List.length_cons,List.length_nil,Nat.zero_add]
   rw [Nat.pow_succ,Nat.add_mul,Nat.mul_assoc]
   omega

theorem bvL_take (s:ByteArray):∀ k,k≤s.size→bvL (s.data.toList.take k)=pre s k
 | 0,_=>by simp [bvL,pre_zero]
 | k+1,hk=>by
   have hl : k < s.data.toList.length := by have : s.data.toList.length = s.size := by simp
                                            omega
   rw [List.take_succ_eq_append_getElem hl,bvL_snoc,bvL_take s k (by omega),pre_succ s k (by omega)]
   rfl

theorem bvL_bval (s:ByteArray):bvL s.toList=bval s:=by
 rw [ByteArray.toList_eq,←pre_all s,←bvL_take s s.size (Nat.le_refl _)]
 have:s.data.toList.length=s.size:=by simp
 rw [←this,List.take_length]

theorem bytesLess_val:∀ (l k:List UInt8),l.length=k.length→Op.bytesLess l k=decide (bvL l<bvL k)
 | [],[],_=>by simp [Op.bytesLess,bvL]
 | a :: l,b :: k,h=>by
   have hl:l.length=k.length:=by simpa using h
   have ih:=bytesLess_val l k hl
   have h1:=bvL_lt l
   have h2:=bvL_lt k
   simp only [Op.bytesLess,ih,bvL,←hl]
   rw [←hl] at h2
   generalize bvL l=p at *
   generalize bvL k=q at *
   have hlt:(a<b)↔a.toNat<b.toNat:=UInt8.lt_iff_toNat_lt
   have heq:(a=b)↔a.toNat=b.toNat:=UInt8.toNat_inj.symm
   generalize 256^l.length=r at *
   by_cases c1:a.toNat<b.toNat
   · have c2:a<b:=hlt.2 c1
     have:(a.toNat+1)*r≤b.toNat*r:=Nat.mul_le_mul_right _ c1
     rw [Nat.add_mul] at this
     have c3:a.toNat*r+p<b.toNat*r+q:=by omega
     simp [c2,c3]
   · have c2:¬a<b:=fun h=>c1 (hlt.1 h)
     by_cases c3:a.toNat=b.toNat
     · have c4:a=b:=heq.2 c3
       subst c4
       simp
     · have c4:¬a=b:=fun h=>c3 (heq.1 h)
       have:(b.toNat+1)*r≤a.toNat*r:=Nat.mul_le_mul_right _ (by omega)
       rw [Nat.add_mul] at this
       have c5:¬a.toNat*r+p<b.toNat*r+q:=by omega
       simp [c2,c4,c5]

theorem less_val {s t:ByteArray} (h:s.size=t.size):Op.bytesLess s.toList t.toList=decide (bval s<bval t):=by
 rw [bytesLess_val,bvL_bval,bvL_bval]
 rw [ByteArray.toList_eq,ByteArray.toList_eq]
 simpa using h

theorem eq_val {s t:ByteArray} (h:s.size=t.size):(s.toList==t.toList)=decide (bval s=bval t):=by
 have hl:=less_val h
 have hr:=less_val h.symm
 by_cases e:bval s=bval t
 · have : s = t := by
    refine ext_bytes h fun i h1 h2=>?_
    have hv:val 256 (dig s) s.size=val 256 (dig t) s.size:=by
     have h4:bval s=val 256 (dig s) s.size:=rfl
     have h5:bval t=val 256 (dig t) t.size:=rfl
     rw [←h4,e,h5,h]
    have hd:=val_inj (fun i _=>dig_lt s i) (fun i _=>dig_lt t i) hv (s.size-1-i) (by omega)
    unfold dig at hd
    rw [dif_pos (by omega),dif_pos (by omega)] at hd
    have e1:s.size-1-(s.size-1-i)=i:=by omega
    have e2:t.size-1-(s.size-1-i)=i:=by omega
    have hd':(s[i]).toNat=(t[i]).toNat:=by simpa [e1,e2] using hd
    exact UInt8.toNat_inj.1 hd'
   subst this
   simp
 · rw [decide_eq_false e]
   cases hb:s.toList==t.toList with
   | false=>rfl
   | true =>
     have:s.toList=t.toList:=by simpa using hb
     rw [←bvL_bval,←bvL_bval,this] at e
     exact absurd rfl e

set_option maxRecDepth 100000 in
theorem nan_str (s:ByteArray) (w:World):Calls Tryz.prog 226 #[.string s] w (RetV w (.bool false)):=by
 go_enter Tryz.func226,Tryz.ntmps226
 go_wp2
 go_ret
 exact ⟨by simp,rfl⟩

set_option maxHeartbeats 1000000 in
set_option maxRecDepth 100000 in
theorem cmp_str (s t:ByteArray) (h:s.size=t.size) (w:World):Calls Tryz.prog 208 #[.string s,.string t] w (RetV w (.int .i64 (ord (bval s) (bval t)))):=by
 have hl:=less_val h
 have he:=eq_val h
 have HN:=Lib.hid (fun x V=>nan_str x V)
 rcases Nat.lt_trichotomy (bval s) (bval t) with c | c | c
 · rw [decide_eq_true c] at hl
   rw [ord_lt c]
   clear c he h
   go_enter Tryz.func208,Tryz.ntmps208
   go_wp2_with fail
   refine (HN.out _ _).mono ?_
   rintro e w' ⟨rfl,rfl⟩
   go_wp2_with fail
   refine (HN.out _ _).mono ?_
   rintro e w' ⟨rfl,rfl⟩
   go_wp2
   go_ret
   exact ⟨rfl,rfl⟩
 · rw [decide_eq_false (by omega)] at hl
   rw [decide_eq_true c] at he
   rw [c,ord_eq]
   clear c h
   go_enter Tryz.func208,Tryz.ntmps208
   go_wp2_with fail
   refine (HN.out _ _).mono ?_
   rintro e w' ⟨rfl,rfl⟩
   go_wp2_with fail
   refine (HN.out _ _).mono ?_
   rintro e w' ⟨rfl,rfl⟩
   go_wp2
   go_ret
   exact ⟨rfl,rfl⟩
 · rw [decide_eq_false (by omega)] at hl he
   rw [ord_gt c]
   clear c h
   go_enter Tryz.func208,Tryz.ntmps208
   go_wp2_with fail
   refine (HN.out _ _).mono ?_
   rintro e w' ⟨rfl,rfl⟩
   go_wp2_with fail
   refine (HN.out _ _).mono ?_
   rintro e w' ⟨rfl,rfl⟩
   go_wp2
   go_ret
   exact ⟨rfl,rfl⟩

theorem ord_size {s t:ByteArray} (hs:Lead s) (ht:Lead t) (h:s.size≠t.size):ord (bval s) (bval t)=Lib.compareInt s.size t.size:=by
 have key:∀ {s t:ByteArray},Lead t→s.size<t.size→bval s<bval t:=fun {s t} ht hlt=>by
  have h1:=bval_lt s
  have h2:=val_pos (b:=256) (f:=dig t) (n:=t.size) (by omega) (by omega) (dig_top ht (by omega))
  have h3:256^s.size≤256^(t.size-1):=Nat.pow_le_pow_right (by omega) (by omega)
  have h4:bval t=val 256 (dig t) t.size:=rfl
  omega
 unfold Lib.compareInt
 by_cases c:s.size<t.size
 · rw [ord_lt (key ht c),if_pos (by omega)]
 · rw [ord_gt (key hs (by omega)),if_neg (by omega),if_pos (by omega)]

set_option maxHeartbeats 1000000 in
set_option maxRecDepth 100000 in
theorem cmpMag_any (s t:ByteArray) (hs:Lead s) (ht:Lead t) (w:World):Calls Tryz.prog 175 #[.string s,.string t] w (RetV w (.int .i64 (ord (bval s) (bval t)))):=by
 by_cases h:s.size=t.size
 · have hne:((s.size:Int) != (t.size:Int))=false:=by simp;omega
   have HC:=Lib.hid (fun V=>cmp_str s t h V)
   generalize ord (bval s) (bval t)=o at *
   clear h hs ht
   go_enter Tryz.func175,Tryz.ntmps175
   go_wp2_with fail
   refine (HC.out _).mono ?_
   rintro e w' ⟨rfl,rfl⟩
   go_wp2
   go_ret
   exact ⟨rfl,rfl⟩
 · have hne:((s.size:Int) != (t.size:Int))=true:=by simp;omega
   have HC:=Lib.hid (fun V=>Tryz.cmp_Compare_int (s.size:Int) (t.size:Int) V)
   rw [ord_size hs ht h]
   clear h hs ht
   go_enter Tryz.func175,Tryz.ntmps175
   go_wp2_with fail
   refine (HC.out _).mono ?_
   rintro e w' ⟨rfl,rfl⟩
   go_wp2
   go_ret
   exact ⟨rfl,rfl⟩
end Go.Proofs.YtpnokfgplnmjpaaGreatDoor


namespace Go.Proofs.YtpnokfgplnmjpaaGreatDoor
open Go.RowKit
attribute [local go_sem ↓] Go.wp_at_zero Go.wp_at_succ

def sgP (b:Bool) (m:ByteArray):Int:=if m.size=0 then 0 else if b then -1 else 1

theorem sgP_enc {x:Int} {b:Bool} {m:ByteArray} (h:enc x=.agg #[.bool b,.string m]):sgP b m=x.sign:=by
 obtain ⟨rfl,rfl⟩:=enc_parts h
 have hz:(mag x.natAbs).size=0↔x.natAbs=0:=mag_zero_iff
 unfold sgP
 rcases Int.lt_trichotomy x 0 with h | h | h
 · rw [Int.sign_eq_neg_one_of_neg h,if_neg (by rw [hz];omega),decide_eq_true h];rfl
 · subst h;rw [if_pos (hz.2 rfl)];rfl
 · rw [Int.sign_eq_one_of_pos h,if_neg (by rw [hz];omega),decide_eq_false (by omega)];rfl

set_option maxHeartbeats 1000000 in
set_option maxRecDepth 100000 in
theorem Sign_pair (b:Bool) (m:ByteArray) (w:World):Calls Tryz.prog 127 #[.agg #[.bool b,.string m]] w (RetB w (.int .i64 (sgP b m))):=by
 by_cases h:0<m.size
 · have he:=empty_no h
   have hv:sgP b m=if b then -1 else 1:=by unfold sgP;rw [if_neg (by omega)]
   rw [hv]
   clear hv
   cases b
   all_goals
    go_enter Tryz.func127,Tryz.ntmps127
    go_wp2
    go_ret
    exact ⟨rfl,(Below.refl _ _).alloc (Nat.le_refl _) _⟩
 · have he:=empty_yes h
   have hv:sgP b m=0:=by unfold sgP;rw [if_pos (by omega)]
   rw [hv]
   clear hv
   go_enter Tryz.func127,Tryz.ntmps127
   go_wp2
   go_ret
   exact ⟨rfl,(Below.refl _ _).alloc (Nat.le_refl _) _⟩

theorem Sign_f {x:Int} {b:Bool} {m:ByteArray} (hx:enc x=.agg #[.bool b,.string m]) (w:World):Calls Tryz.prog 127 #[.agg #[.bool b,.string m]] w (RetB w (.int .i64 x.sign)):=by
 rw [←sgP_enc hx];exact Sign_pair b m w

theorem lead_enc {x:Int} {b:Bool} {m:ByteArray} (h:enc x=.agg #[.bool b,.string m]):Lead m:=by
 obtain ⟨rfl,rfl⟩:=enc_parts h
 exact lead_mag _

structure K2 (w:World) (T:TypeId) (v0 v1 v2 v3:Value) (w1:World):Prop where
 k0:w1.heap[w.heap.size]?=some (.cells #[v0,v1] T (0,0))
 k1:w1.heap[w.heap.size+1]?=some (.cells #[v2,v3] T (0,0))
 sz:w.heap.size+2≤w1.heap.size
 bel:Below w.heap.size w w1
theorem K2.start (w:World) (T:TypeId) (v0 v1 v2 v3:Value):K2 w T v0 v1 v2 v3 ((w.alloc (.cells #[v0,v1] T)).alloc (.cells #[v2,v3] T)) :=
 ⟨heap_fst _ _ _,heap_two _ _ _,by simp,((Below.refl _ _).alloc (Nat.le_refl _) _).alloc (by simp) _⟩
theorem K2.next {w:World} {T:TypeId} {v0 v1 v2 v3:Value} {w1 w2:World} (h:K2 w T v0 v1 v2 v3 w1) (hb:Below w1.heap.size w1 w2):K2 w T v0 v1 v2 v3 w2:=by
 have hs:=h.sz
 refine ⟨(hb.block _ (by omega)).trans h.k0,(hb.block _ (by omega)).trans h.k1,?_,h.bel.trans (hb.mono h.bel.size)⟩
 have:=hb.size
 omega
theorem K2.drew {w:World} {T:TypeId} {v0 v1 v2 v3:Value} {w1:World} (h:K2 w T v0 v1 v2 v3 w1):K2 w T v0 v1 v2 v3 w1.drew:=h.next (Below.refl _ _).drew
theorem K2.zx {w:World} {T:TypeId} {b1 b2:Bool} {m1 m2:ByteArray} {w1:World} (h:K2 w T (.bool b1) (.string m1) (.bool b2) (.string m2) w1) :
  w1.cell? ⟨w.heap.size,0,none⟩=some (.bool b1)∧w1.cell? ⟨w.heap.size,1,none⟩=some (.string m1)∧w1.cell? ⟨w.heap.size+1,0,none⟩=some (.bool b2)∧w1.cell? ⟨w.heap.size+1,1,none⟩=some (.string m2) :=
 ⟨(blk_cells h.k0).1,(blk_cells h.k0).2.1,(blk_cells h.k1).1,(blk_cells h.k1).2.1⟩

theorem compareInt_lt {a b:Int} (h:a<b):Lib.compareInt a b=-1:=by unfold Lib.compareInt;rw [if_pos h]
theorem compareInt_gt {a b:Int} (h:b<a):Lib.compareInt a b=1:=by unfold Lib.compareInt;rw [if_neg (by omega),if_pos h]

set_option maxHeartbeats 2000000 in
set_option maxRecDepth 100000 in
theorem Compare_f {x y:Int} {b1 b2:Bool} {m1 m2:ByteArray} (hx:enc x=.agg #[.bool b1,.string m1]) (hy:enc y=.agg #[.bool b2,.string m2]) (w:World) :
  Calls Tryz.prog 139 #[.agg #[.bool b1,.string m1],.agg #[.bool b2,.string m2]] w (RetB w (.int .i64 (cmpZ x y))):=by
 have HS1:=Lib.hid (fun V=>Sign_f hx V)
 have HS2:=Lib.hid (fun V=>Sign_f hy V)
 have hm:=fun V=>cmpMag_any m1 m2 (lead_enc hx) (lead_enc hy) V
 have hdf:=cmpZ_diff (x:=x) (y:=y)
 have hsm:=cmpZ_same (x:=x) (y:=y)
 have hin:=cmpZ_in x y
 have e1:bval m1=x.natAbs:=by rw [(enc_parts hx).2,bval_mag]
 have e2:bval m2=y.natAbs:=by rw [(enc_parts hy).2,bval_mag]
 rw [e1,e2] at hm
 have HM:=Lib.hid hm
 have K0:=Lib.hid (K2.start w 23 (.bool b1) (.string m1) (.bool b2) (.string m2))
 generalize cmpZ x y=r at *
 generalize x.sign=sx at *
 generalize y.sign=sy at *
 generalize x.natAbs=X at *
 generalize y.natAbs=Y at *
 clear hm hx hy e1 e2
 have hne1:¬(w.heap.size=w.heap.size+1):=by omega
 have hne2:¬(w.heap.size+1=w.heap.size):=by omega
 have hq:(sx != sy)=decide (sx≠sy):=by by_cases h:sx=sy<;>simp [h]
 have HQ:=Lib.hid hq
 clear hq
 by_cases hs:sx=sy
 all_goals
  have hq:=HQ.out
  first
  | (rw [decide_eq_false (by simpa using hs)] at hq)
  | (rw [decide_eq_true hs] at hq)
  have HSS:=Lib.hid hs
  have HDF:=Lib.hid hdf
  have HSM:=Lib.hid hsm
  clear hs hdf hsm
  go_enter Tryz.func139,Tryz.ntmps139
  go_wp2_with fail
  go_region_held3 (fun w'=>w'.cell? ⟨w.heap.size,0,none⟩=some (.bool b1)∧w'.cell? ⟨w.heap.size,1,none⟩=some (.string m1)∧w'.cell? ⟨w.heap.size+1,0,none⟩=some (.bool b2)∧w'.cell? ⟨w.heap.size+1,1,none⟩=some (.string m2))
   (first
    | go_keep
    | exact KB.out.zx
    | exact KA.out.zx)
   (first
    | (go_at_call 127;(with_reducible refine (HS1.out _).mono ?_);rintro e w1 ⟨rfl,hb1⟩;have KA:=Lib.hid (K0.out.drew.next hb1))
    | (go_at_call 127;(with_reducible refine (HS2.out _).mono ?_);rintro e w2 ⟨rfl,hb2⟩;have KB:=Lib.hid (KA.out.next hb2)))
 · obtain ⟨z0,z1,z2,z3⟩:=KB.out.zx
   obtain ⟨o,ho⟩:∃ o,ord X Y=o:=⟨_,rfl⟩
   rw [ho] at HM
   have hr:=HSM.out HSS.out
   rw [ho] at hr
   have hw1:IntKind.i64.wrap (sx*o)=r:=by rw [hr,Int.mul_comm];rw [hr] at hin;exact IntWalk.i64_in _ (by omega)
   have HR:=Lib.hid hr
   clear hr ho hb1 hb2
   go_wp2_with fail
   refine (HM.out _).mono ?_
   rintro e w3 ⟨rfl,rfl⟩
   go_wp2
   go_ret
   exact ⟨by first | rfl | (rw [hw1]),KB.out.bel⟩
 · have hr:=HDF.out HSS.out
   have hc:Lib.compareInt sx sy=r:=by
    rw [hr]
    by_cases h:sx<sy
    · rw [compareInt_lt h,if_pos h]
    · rw [compareInt_gt (by have:=HSS.out;omega),if_neg h]
   have HC:=Lib.hid (fun V=>Tryz.cmp_Compare_int sx sy V)
   have HCC:=Lib.hid hc
   clear hr hc hb1 hb2
   go_wp2_with fail
   refine (HC.out _).mono ?_
   rintro e w3 ⟨rfl,rfl⟩
   go_wp2
   go_ret
   exact ⟨congrArg (fun z=>Ending.returned (.int .i64 z)) HCC.out,KB.out.bel⟩
end Go.Proofs.YtpnokfgplnmjpaaGreatDoor


namespace Go.Proofs.YtpnokfgplnmjpaaGreatDoor
open Go.RowKit
attribute [local go_sem ↓] Go.wp_at_zero Go.wp_at_succ

end Go.Proofs.YtpnokfgplnmjpaaGreatDoor


namespace Go.Proofs.YtpnokfgplnmjpaaGreatDoor
open Go.RowKit
attribute [local go_sem ↓] Go.wp_at_zero Go.wp_at_succ

end Go.Proofs.YtpnokfgplnmjpaaGreatDoor


namespace Go.Proofs.YtpnokfgplnmjpaaGreatDoor
open Go.RowKit
attribute [local go_sem ↓] Go.wp_at_zero Go.wp_at_succ

def rt:Nat→Nat
 | 0=>0
 | n+1=>if (rt n+1)*(rt n+1)≤n+1 then rt n+1 else rt n

theorem sq_lt {a b:Nat} (h:a*a<b*b):a<b:=by
 rcases Nat.lt_or_ge a b with h1 | h1
 · exact h1
 · exact absurd (Nat.mul_le_mul h1 h1) (by omega)

theorem rt_spec (x:Nat):rt x*rt x≤x∧x<(rt x+1)*(rt x+1):=by
 induction x with
 | zero=>exact ⟨Nat.le_refl _,by decide⟩
 | succ n ih =>
   unfold rt
   split
   · refine ⟨by assumption,?_⟩
     have e:(rt n+1+1)*(rt n+1+1)=(rt n+1)*(rt n+1)+2*(rt n+1)+1:=by
      generalize rt n+1=a
      rw [Nat.add_mul,Nat.mul_add];omega
     omega
   · omega

theorem rt_unique {x r:Nat} (h1:r*r≤x) (h2:x<(r+1)*(r+1)):rt x=r:=by
 obtain ⟨a1,a2⟩:=rt_spec x
 have b1:=sq_lt (Nat.lt_of_le_of_lt a1 h2)
 have b2:=sq_lt (Nat.lt_of_le_of_lt h1 a2)
 omega

theorem rt_le {x G:Nat} (h:x<(G+1)*(G+1)):rt x≤G:=by
 have:=sq_lt (Nat.lt_of_le_of_lt (rt_spec x).1 h)
 omega

theorem newton_ge {x G:Nat} (h0:0<G):rt x≤(G+x / G) / 2:=by
 obtain ⟨h1,_⟩:=rt_spec x
 generalize rt x=r at *
 have hq:x<G*(x / G+1):=by
  have:=Nat.div_add_mod x G
  have:=Nat.mod_lt x h0
  rw [Nat.mul_add]
  omega
 generalize x / G=q at *
 rcases Nat.lt_or_ge (G+q) (2*r) with h | h
 · exfalso
   rcases Nat.le_total G r with hg | hg
   · obtain ⟨d,rfl⟩:=Nat.le.dest hg
     have a1:G*(q+1)≤G*(G+2*d):=Nat.mul_le_mul_left _ (by omega)
     have a2:(G+d)*(G+d)=G*(G+2*d)+d*d:=by
      rw [Nat.add_mul,Nat.mul_add,Nat.mul_add,Nat.mul_add,Nat.mul_comm d G,Nat.mul_left_comm G 2 d];omega
     omega
   · obtain ⟨d,rfl⟩:=Nat.le.dest hg
     obtain ⟨k,rfl⟩:∃ k,r=d+k:=⟨r-d,by omega⟩
     have a1:(d+k+d)*(q+1)≤(d+k+d)*k:=Nat.mul_le_mul_left _ (by omega)
     have a2:(d+k)*(d+k)=(d+k+d)*k+d*d:=by
      simp only [Nat.add_mul,Nat.mul_add,Nat.mul_comm k d];omega
     omega
 · omega

theorem newton_stop {x G:Nat} (h0:0<G) (h1:rt x≤G) (h2:G≤(G+x / G) / 2):rt x=G:=by
 have a1:G≤x / G:=by omega
 have a2:G*G≤x:=by
  have:=Nat.div_mul_le_self x G
  exact Nat.le_trans (Nat.mul_le_mul_right G a1) this
 have:=sq_lt (Nat.lt_of_le_of_lt a2 (rt_spec x).2)
 omega

theorem newton_bound {x G:Nat} (h0:0<G) (h1:rt x≤G):x / G≤G+2:=by
 have a1:=(rt_spec x).2
 have a2:(rt x+1)*(rt x+1)≤(G+1)*(G+1):=Nat.mul_le_mul (by omega) (by omega)
 have a3:(G+1)*(G+1)=G*(G+2)+1:=by simp only [Nat.add_mul,Nat.mul_add];omega
 have:x / G<G+3:=Nat.div_lt_of_lt_mul (by
  have:G*(G+3)=G*(G+2)+G:=by rw [←Nat.mul_succ]
  omega)
 omega

theorem rt_pos {x:Nat} (h:0<x):0<rt x:=by
 rcases Nat.eq_zero_or_pos (rt x) with h1 | h1
 · have:=(rt_spec x).2
   rw [h1] at this
   omega
 · exact h1

set_option maxHeartbeats 2000000 in
set_option maxRecDepth 100000 in
theorem wordRoot_any (x:Nat) (h0:0<x) (hx:x<18446744073709551616) (w:World) :
  Calls Tryz.prog 181 #[.int .u64 (x:Int)] w (fun e w'=>e=.returned (.int .u64 ((rt x:Nat):Int))∧Drew w w'):=by
 obtain ⟨l1,l2,l3⟩:=bitLen_bounds x (by omega) hx
 have l4:=Lib.bitLen_le x 64 (by omega) (by omega)
 have hl:=fun V=>Tryz.bits_Len64 (x:Int) V (by omega) (by omega)
 simp only [Int.toNat_natCast] at hl
 generalize Lib.bitLen x=L at *
 have HL:=Lib.hid hl
 clear hl
 obtain ⟨s,hs⟩:∃ s,(L+1) / 2=s:=⟨_,rfl⟩
 have hs1:((L:Int)+1) / 2=(s:Int):=by omega
 have hst:x<2^s*2^s:=by
  rw [←Nat.pow_add]
  exact Nat.lt_of_lt_of_le l3 (Nat.pow_le_pow_right (by omega) (by omega))
 have hs32:s≤32:=by omega
 have hp32:2^s≤4294967296:=Nat.pow_le_pow_right (n:=2) (by omega) hs32
 have hp0:0<2^s:=Nat.pow_pos (by omega)
 have HST:=Lib.hid hst
 clear hst l1 l2 l3 hs
 go_enter Tryz.func181,Tryz.ntmps181
 go_wp2_with fail
 refine (HL.out _).mono ?_
 rintro e w1 ⟨rfl,rfl⟩
 go_wp2_with fail
 have hw2:IntKind.u64.wrap ((2:Int)^s)=((2^s:Nat):Int):=by
  have e2:((2^s:Nat):Int)=(2:Int)^s:=by simp
  rw [←e2]
  exact IntWalk.u64_in _ (by omega)
 go_loopw [3] (fun m wr=>∃ G:Nat,m=.int .u64 (G:Int)∧rt x≤G∧0<G∧G≤4294967296∧Drew w1 wr) (fun m _=>(intOf m).toNat)
 case atStart =>
  exact ⟨2^s,by rw [hw2],rt_le (Nat.lt_trans HST.out (Nat.mul_lt_mul'' (Nat.lt_succ_self _) (Nat.lt_succ_self _))),hp0,hp32,Drew.refl _⟩
 case round =>
  obtain ⟨G,rfl,hG,hG0,hG32,hdr⟩:=hrel
  have hb:=newton_bound hG0 hG
  have hge:=newton_ge (x:=x) hG0
  have hsp:=fun h=>newton_stop hG0 hG h
  have hdv:((x:Int) / (G:Int))=((x / G:Nat):Int):=by simp
  have hne:((G:Int)==0)=false:=by simp;omega
  obtain ⟨N,hN⟩:∃ N,(G+x / G) / 2=N:=⟨_,rfl⟩
  rw [hN] at hge hsp
  have hN2:((G:Int)+((x / G:Nat):Int)) / 2=(N:Int):=by rw [←hN];omega
  have hNr:N≤4294967297:=by omega
  have HSP:=Lib.hid hsp
  have HGE:=Lib.hid hge
  clear hsp hge hN
  generalize x / G=Q at *
  by_cases hst:G≤N
  · go_wp2_with fail
    go_ret
    exact ⟨by rw [HSP.out hst];rfl,hdr⟩
  · go_wp2
    go_roundw
    case rel =>
     have:=HGE.out
     have:=rt_pos h0
     exact ⟨N,by rw [hN2],HGE.out,by omega,by omega,hdr⟩
    case measure=>simp [intOf]<;>omega

end Go.Proofs.YtpnokfgplnmjpaaGreatDoor


namespace Go.Proofs.YtpnokfgplnmjpaaGreatDoor
open Go.RowKit
attribute [local go_sem ↓] Go.wp_at_zero Go.wp_at_succ

theorem divMod_any (na nb:Bool) (a b:ByteArray) (ha:a.size≤400000000) (hb:b.size≤400000000) (h0:bval b≠0) (w:World) :
  Calls Tryz.prog 100 #[.agg #[.bool na,.string a],.agg #[.bool nb,.string b]] w (RetQ w (sgn na (bval a) / sgn nb (bval b)) (sgn na (bval a)%sgn nb (bval b)) 0):=by
 by_cases hs:8<a.size∨8<b.size
 · refine divMod_deep na nb a b ha hb 0 0 false (.inl rfl) (fun V=>words_no na nb a b hs V) w _ (fun h=>absurd h h0) (fun _ w' b1 m1 b2 m2 h1 h2 hw=>⟨?_,hw⟩)
   rw [h1.out,h2.out]
 · exact divMod_short na nb a b (by omega) (by omega) h0 w

section
variable {x y q r:Int} {b1 b2 b3 b4:Bool} {m1 m2 m3 m4:ByteArray} (hx:enc x=.agg #[.bool b1,.string m1]) (hy:enc y=.agg #[.bool b2,.string m2]) (s1:m1.size≤400000000) (s2:m2.size≤400000000)
include hx hy s1 s2 in
theorem divMod_f (h0:y≠0) (hq:enc q=.agg #[.bool b3,.string m3]) (hr:enc r=.agg #[.bool b4,.string m4]) (e1:q=x / y) (e2:r=x%y) (w:World) :
  Calls Tryz.prog 100 #[.agg #[.bool b1,.string m1],.agg #[.bool b2,.string m2]] w (RetB w (.tuple #[.agg #[.bool b3,.string m3],.agg #[.bool b4,.string m4],.int .i64 0])):=by
 subst e1
 subst e2
 have hb:bval m2≠0:=fun h=>h0 (by rw [←enc_sgn hy,h];cases b2<;>rfl)
 have h:=divMod_any b1 b2 m1 m2 s1 s2 hb w
 rw [enc_sgn hx,enc_sgn hy] at h
 unfold RetQ at h
 rw [hq,hr] at h
 exact h
include hy s1 s2 in
end

end Go.Proofs.YtpnokfgplnmjpaaGreatDoor


namespace Go.Proofs.YtpnokfgplnmjpaaGreatDoor
open Go.RowKit
attribute [local go_sem ↓] Go.wp_at_zero Go.wp_at_succ

structure B4 (w:World) (T:TypeId) (v0 v1 v2 v3 q0 q1 r0 r1:Value) (w1:World):Prop where
 k0:w1.heap[w.heap.size]?=some (.cells #[v0,v1] T (0,0))
 k1:w1.heap[w.heap.size+1]?=some (.cells #[v2,v3] T (0,0))
 k2:w1.heap[w.heap.size+2]?=some (.cells #[q0,q1] T (0,0))
 k3:w1.heap[w.heap.size+3]?=some (.cells #[r0,r1] T (0,0))
 sz:w.heap.size+4≤w1.heap.size
 bel:Below w.heap.size w w1

section
variable {w w1 w2:World} {T:TypeId} {v0 v1 v2 v3 q0 q1 r0 r1:Value}
theorem B4.start (w:World) (T:TypeId) (v0 v1 v2 v3:Value):B4 w T v0 v1 v2 v3 (.bool false) (.string ⟨#[]⟩) (.bool false) (.string ⟨#[]⟩) ((((w.alloc (.cells #[v0,v1] T)).alloc (.cells #[v2,v3] T)).alloc (.cells #[.bool false,.string ⟨#[]⟩] T)).alloc (.cells #[.bool false,.string ⟨#[]⟩] T)):=by
 have h:=K4.start w T v0 v1 v2 v3
 exact ⟨h.k0,h.k1,h.k2,h.k3,h.sz,h.bel⟩
theorem B4.next (h:B4 w T v0 v1 v2 v3 q0 q1 r0 r1 w1) (hb:Below w1.heap.size w1 w2):B4 w T v0 v1 v2 v3 q0 q1 r0 r1 w2:=by
 have hs:=h.sz
 refine ⟨(hb.block _ (by omega)).trans h.k0,(hb.block _ (by omega)).trans h.k1,(hb.block _ (by omega)).trans h.k2,(hb.block _ (by omega)).trans h.k3,?_,h.bel.trans (hb.mono h.bel.size)⟩
 have:=hb.size
 omega
theorem two_set {W:World} {g:Nat} {x0 x1:Value} (h:W.heap[g]?=some (.cells #[x0,x1] T (0,0))) (x y:Value):((W.setCell ⟨g,0,none⟩ x).setCell ⟨g,1,none⟩ y).heap[g]?=some (.cells #[x,y] T (0,0)):=by
 simp [World.setCell,Array.getElem?_modify,h]
theorem two_other {W:World} {g k:Nat} (hne:k≠g) (x y:Value):((W.setCell ⟨g,0,none⟩ x).setCell ⟨g,1,none⟩ y).heap[k]?=W.heap[k]? :=
 (Below.heap_setCell _ ⟨g,1,none⟩ y k hne).trans (Below.heap_setCell _ ⟨g,0,none⟩ x k hne)
theorem two_size {W:World} {g:Nat} (x y:Value):((W.setCell ⟨g,0,none⟩ x).setCell ⟨g,1,none⟩ y).heap.size=W.heap.size:=by simp [World.setCell]
theorem B4.setR (h:B4 w T v0 v1 v2 v3 q0 q1 r0 r1 w1) (x y:Value):B4 w T v0 v1 v2 v3 q0 q1 x y ((w1.setCell ⟨w.heap.size+3,0,none⟩ x).setCell ⟨w.heap.size+3,1,none⟩ y) :=
 ⟨(two_other (by omega) x y).trans h.k0,(two_other (by omega) x y).trans h.k1,(two_other (by omega) x y).trans h.k2,two_set h.k3 x y,by rw [two_size];exact h.sz,(h.bel.setCell (by show w.heap.size≤w.heap.size+3;omega) _).setCell (by show w.heap.size≤w.heap.size+3;omega) _⟩
end

end Go.Proofs.YtpnokfgplnmjpaaGreatDoor
