import Derived.Test.YtdbhahiieokplaaGreatDoorGStH
import Derived.Test.YtdbhahiieokplaaGreatDoorGRNA
import Derived.StringKeys
import Derived.Test.YtdbhahiieokplaaGreatDoorGRNC
import Derived.Deep.RegionLaw
import Derived.Test.YtdbhahiieokplaaGreatDoorGSgH
import Derived.Test.YtdbhahiieokplaaGreatDoorGIntW
set_option linter.unusedSimpArgs false
set_option linter.unusedVariables false

namespace Go.Proofs.YtdbhahiieokplaaGreatDoor
open Go.RowKit
attribute [local go_sem ↓] Go.wp_at_zero Go.wp_at_succ

theorem str_ne {s t:ByteArray} (h:s≠t):(s.data.toList==t.data.toList)=false∧(s.toList==t.toList)=false:=by
 have hnt:¬s.data.toList=t.data.toList:=fun e=>h (by cases s;cases t;simp at e;rw [e])
 have hnl:(s.data.toList==t.data.toList)=false:=by simpa using hnt
 exact ⟨hnl,by rw [ByteArray.toList_eq,ByteArray.toList_eq];exact hnl⟩

theorem below_two (w1:World) (o1 o2:Obj):Below w1.heap.size w1 ((w1.alloc o1).alloc o2):=((Below.refl _ _).alloc (Nat.le_refl _) _).alloc (by simp) _
theorem toList_ne {s:ByteArray} {l:List UInt8} (h:s≠⟨l.toArray⟩):¬s.toList=l:=fun e=>h (by
 rw [ByteArray.toList_eq] at e
 cases s
 simp at e
 rw [←e])
theorem enc_mag (n:Nat):enc (n:Int)=.agg #[.bool false,.string (mag n)]:=by
 unfold enc
 have h:decide ((n:Int)<0)=false:=by simp
 rw [h,Int.natAbs_natCast]
theorem mag_ne {n m:Nat} (h:n≠m):mag n≠mag m:=fun e=>h (mag_inj e)
theorem mag_one:mag 1=⟨#[1]⟩:=by
 have h:magL 1=[1]:=by rw [magL_pos (by decide),show 1 / 256=0 from rfl,magL_zero];rfl
 unfold mag
 rw [h]
theorem mag_no_nil {n:Nat} (h:n≠0):mag n≠⟨#[]⟩:=by rw [←mag_nil];exact mag_ne h
theorem mag_no_one {n:Nat} (h:n≠1):mag n≠⟨#[1]⟩:=by rw [←mag_one];exact mag_ne h

set_option maxHeartbeats 1000000 in
set_option maxRecDepth 100000 in
theorem isInteger_yes (b:Bool) (m:ByteArray) (w:World):Calls Tryz.prog 98 #[.agg #[.bool b,.string m,.bool false,.string ⟨#[]⟩]] w (RetB w (.bool true)):=by
 go_enter Tryz.func98,Tryz.ntmps98
 go_wp2
 go_ret
 exact ⟨rfl,below_new _ _⟩

set_option maxHeartbeats 1000000 in
set_option maxRecDepth 100000 in
theorem isInteger_no (b:Bool) (m k:ByteArray) (hk:k≠⟨#[]⟩) (w:World):Calls Tryz.prog 98 #[.agg #[.bool b,.string m,.bool false,.string k]] w (RetB w (.bool false)):=by
 obtain ⟨h1,h2⟩:=str_ne hk
 have hs:0<k.size:=by
  rcases Nat.eq_zero_or_pos k.size with h | h
  · exact absurd (ext_bytes (t:=⟨#[]⟩) h (fun i h1 _=>by omega)) hk
  · exact h
 have h3:=empty_no hs
 clear hk
 go_enter Tryz.func98,Tryz.ntmps98
 go_wp2
 go_ret
 exact ⟨rfl,below_new _ _⟩

theorem Rq.mag {q:Rat} {b:Bool} {m k:ByteArray} (h:Rq q b m k):b=decide (q.num<0)∧m=Go.Proofs.YtdbhahiieokplaaGreatDoor.mag q.num.natAbs:=enc_parts h.num
theorem Rq.den1 {q:Rat} {b:Bool} {m k:ByteArray} (h:Rq q b m k) (h1:q.den=1):k=⟨#[]⟩:=by rw [h.den,h1,dm_one]
theorem Rq.den2 {q:Rat} {b:Bool} {m k:ByteArray} (h:Rq q b m k) (h1:q.den≠1):k=Go.Proofs.YtdbhahiieokplaaGreatDoor.mag q.den:=by rw [h.den];unfold dm;rw [if_neg h1]

set_option maxHeartbeats 1000000 in
set_option maxRecDepth 100000 in
theorem den_f {q:Rat} {b:Bool} {m k:ByteArray} (h:Rq q b m k) (w:World) (hE:Env w):Calls Tryz.prog 100 #[.agg #[.bool b,.string m,.bool false,.string k]] w (RetB w (.agg #[.bool false,.string (mag q.den)])):=by
 have KK:=Lib.hid (Kb.start w #[.bool b,.string m,.bool false,.string k] #[.bool false,.string ⟨#[]⟩] 25 23)
 have HE:=Lib.hid hE
 by_cases hden:q.den=1
 · obtain rfl:=h.den1 hden
   rw [hden,mag_one]
   clear h hE hden
   go_enter Tryz.func100,Tryz.ntmps100
   go_wp2_with fail
   refine (isInteger_yes b m _).mono ?_
   rintro e w1 ⟨rfl,hb1⟩
   have K1:=Lib.hid (KK.out.next hb1)
   obtain ⟨p0,p1,f0,f1⟩:=blk_cells K1.out.k2
   have hE1:=HE.out.next K1.out.bel
   have o0:=hE1.o0
   have o1:=hE1.o1
   clear hb1 hE1
   go_wp2
   exact bodyPost_ret (v:=.agg #[.bool false,.string ⟨#[1]⟩]) (by simp [results,Tryz.results100,go_sem,p0,p1]) rfl ⟨rfl,below_set2 K1.out.bel (by omega) _ _⟩
 · obtain rfl:=h.den2 hden
   have HNO:=Lib.hid (isInteger_no b m (mag q.den) (mag_no_nil q.den_nz))
   generalize Go.Proofs.YtdbhahiieokplaaGreatDoor.mag q.den=k at *
   clear h hE hden
   go_enter Tryz.func100,Tryz.ntmps100
   go_wp2_with fail
   refine (HNO.out _).mono ?_
   rintro e w1 ⟨rfl,hb1⟩
   have K1:=Lib.hid (KK.out.next hb1)
   obtain ⟨p0,p1,f0,f1⟩:=blk_cells K1.out.k2
   obtain ⟨q0,q1,q2,q3⟩:=blk4 K1.out.k1
   clear hb1
   go_wp2
   exact bodyPost_ret (v:=.agg #[.bool false,.string k]) (by simp [results,Tryz.results100,go_sem,p0,p1]) rfl ⟨rfl,below_set2 K1.out.bel (by omega) _ _⟩

set_option maxHeartbeats 1000000 in
set_option maxRecDepth 100000 in
theorem coprime_f (b:Bool) (m:ByteArray) (d:Nat) (w:World) (hE:Env w):Calls Tryz.prog 104 #[.agg #[.bool b,.string m],.agg #[.bool false,.string (mag d)]] w (RetB w (.agg #[.bool b,.string m,.bool false,.string (dm d)])):=by
 have hlt:=hE.lt
 have o0:=hE.o0
 have o1:=hE.o1
 have KK:=Lib.hid (Kc.start w #[.bool b,.string m] #[.bool false,.string (mag d)] #[.bool false,.string ⟨#[]⟩,.bool false,.string ⟨#[]⟩] 23 23 25)
 have hE0:=hE.next KK.out.bel
 have g0:=hE0.o0
 have g1:=hE0.o1
 clear hE hE0 o0 o1
 by_cases hden:d=1
 · subst hden
   rw [dm_one,mag_one]
   rw [mag_one] at KK g0 g1
   obtain ⟨t0,t1,t2,t3⟩:=blk4 KK.out.k3
   obtain ⟨f0,f1,f2,f3⟩:=fro4 KK.out.k3
   go_enter Tryz.func104,Tryz.ntmps104
   go_wp2
   exact bodyPost_ret (v:=.agg #[.bool b,.string m,.bool false,.string ⟨#[]⟩]) (by simp [results,Tryz.results104,go_sem,t0,t1,t2,t3]) rfl ⟨rfl,(Kc.start w _ _ _ _ _ _).bel⟩
 · have hdm:dm d=mag d:=by unfold dm;rw [if_neg hden]
   rw [hdm]
   have hk1:=toList_ne (mag_no_one hden)
   generalize mag d=k at *
   obtain ⟨t0,t1,t2,t3⟩:=blk4 KK.out.k3
   obtain ⟨f0,f1,f2,f3⟩:=fro4 KK.out.k3
   clear hdm hden
   go_enter Tryz.func104,Tryz.ntmps104
   go_wp2
   exact bodyPost_ret (v:=.agg #[.bool b,.string m,.bool false,.string k]) (by simp [results,Tryz.results104,go_sem,t0,t1,t2,t3]) rfl ⟨rfl,(Kc.start w _ _ _ _ _ _).bel⟩

set_option maxHeartbeats 1000000 in
set_option maxRecDepth 100000 in
theorem common_f {x:Int} {b c:Bool} {m mg:ByteArray} {d:Nat} (hx:enc x=.agg #[.bool b,.string m]) (hg:enc ((Nat.gcd x.natAbs d:Nat):Int)=.agg #[.bool c,.string mg]) (h1:m.size≤100000) (h2:(mag d).size≤100000) (w:World) (hE:Env w) :
  Calls Tryz.prog 101 #[.agg #[.bool b,.string m],.agg #[.bool false,.string (mag d)]] w (RetB w (.agg #[.bool c,.string mg])):=by
 have KK:=Lib.hid (Kc.start w #[.bool b,.string m] #[.bool false,.string (mag d)] #[.bool false,.string ⟨#[]⟩] 23 23 23)
 have hlt:=hE.lt
 have hE0:=hE.next KK.out.bel
 have HE0:=Lib.hid hE0
 have g0:=hE0.o0
 have g1:=hE0.o1
 clear hE hE0
 by_cases hden:d=1
 · subst hden
   rw [Nat.gcd_one_right,show (((1:Nat):Int))=1 from rfl,show enc 1=.agg #[.bool false,.string ⟨#[1]⟩] from by rw [←mag_one];rfl] at hg
   injection hg with hg
   have hc:c=false∧mg=⟨#[1]⟩:=by
    simp at hg
    exact ⟨by first | exact hg.1 | exact hg.1.symm,by first | exact hg.2 | exact hg.2.symm⟩
   obtain ⟨rfl,rfl⟩:=hc
   rw [mag_one]
   rw [mag_one] at KK g0 g1
   obtain ⟨p0,p1,f0,f1⟩:=blk_cells KK.out.k3
   clear hx hg h2 HE0
   go_enter Tryz.func101,Tryz.ntmps101
   go_wp2
   exact bodyPost_ret (v:=.agg #[.bool false,.string ⟨#[1]⟩]) (by simp [results,Tryz.results101,go_sem,p0,p1]) rfl ⟨rfl,(Kc.start w _ _ _ _ _ _).bel⟩
 · have hk1:=toList_ne (mag_no_one hden)
   have HG:=Lib.hid (fun V (hV:Env V)=>gcd_f hx (show enc (d:Int)=.agg #[.bool false,.string (mag d)] from enc_mag d) (bg:=c) (mg:=mg) (by rw [Int.natAbs_natCast];exact hg) (by omega) (by omega) V hV.tab)
   generalize mag d=k at *
   clear hx hg hden h1 h2
   go_enter Tryz.func101,Tryz.ntmps101
   go_wp2_with fail
   refine (HG.out _ HE0.out).mono ?_
   rintro e w1 ⟨rfl,hb1⟩
   have K1:=Lib.hid (KK.out.next hb1)
   obtain ⟨p0,p1,f0,f1⟩:=blk_cells K1.out.k3
   clear hb1 g0 g1
   go_wp2
   exact bodyPost_ret (v:=.agg #[.bool c,.string mg]) (by simp [results,Tryz.results101,go_sem,p0,p1]) rfl ⟨rfl,below_set2 K1.out.bel (by omega) _ _⟩

set_option maxHeartbeats 1000000 in
set_option maxRecDepth 100000 in
theorem quotient_f {x z:Int} {b c:Bool} {m mz:ByteArray} {d:Nat} (hx:enc x=.agg #[.bool b,.string m]) (hz:enc z=.agg #[.bool c,.string mz]) (e:z=x / (d:Int)) (h1:m.size≤100000) (h2:(mag d).size≤100000) (h0:d≠0) (w:World) (hE:Env w) :
  Calls Tryz.prog 103 #[.agg #[.bool b,.string m],.agg #[.bool false,.string (mag d)]] w (RetB w (.agg #[.bool c,.string mz])):=by
 have KK:=Lib.hid (Kc.start w #[.bool b,.string m] #[.bool false,.string (mag d)] #[.bool false,.string ⟨#[]⟩] 23 23 23)
 have hlt:=hE.lt
 have hE0:=hE.next KK.out.bel
 have g0:=hE0.o0
 have g1:=hE0.o1
 clear hE hE0
 by_cases hden:d=1
 · subst hden
   have e2:z=x:=by rw [e];simp
   rw [e2,hx] at hz
   injection hz with hz
   have hc:b=c∧m=mz:=by simpa using hz
   obtain ⟨rfl,rfl⟩:=hc
   rw [mag_one]
   rw [mag_one] at KK g0 g1
   obtain ⟨p0,p1,f0,f1⟩:=blk_cells KK.out.k3
   clear hx hz h2 e e2
   go_enter Tryz.func103,Tryz.ntmps103
   go_wp2
   exact bodyPost_ret (v:=.agg #[.bool b,.string m]) (by simp [results,Tryz.results103,go_sem,p0,p1]) rfl ⟨rfl,(Kc.start w _ _ _ _ _ _).bel⟩
 · have hk1:=toList_ne (mag_no_one hden)
   obtain ⟨br,mr,hr⟩:=enc_form (x%(d:Int))
   have HD:=Lib.hid (fun V=>divMod_f hx (show enc (d:Int)=.agg #[.bool false,.string (mag d)] from enc_mag d) (by omega) (by omega) (by omega) hz hr e rfl V)
   generalize mag d=k at *
   clear hx hz hden h1 h2 e hr h0
   go_enter Tryz.func103,Tryz.ntmps103
   go_wp2_with fail
   refine (HD.out _).mono ?_
   rintro e w1 ⟨rfl,hb1⟩
   have K1:=Lib.hid (KK.out.next hb1)
   have K2:=Lib.hid (fun o1 o2=>K1.out.next (below_two w1 o1 o2))
   have p0:=fun o1 o2=>(blk_cells (K2.out o1 o2).k3).1
   have p1:=fun o1 o2=>(blk_cells (K2.out o1 o2).k3).2.1
   have f0:=fun o1 o2=>(blk_cells (K2.out o1 o2).k3).2.2.1
   have f1:=fun o1 o2=>(blk_cells (K2.out o1 o2).k3).2.2.2
   clear hb1 g0 g1
   go_wp2
   exact bodyPost_ret (v:=.agg #[.bool c,.string mz]) (by simp [results,Tryz.results103,go_sem,p0,p1]) rfl ⟨rfl,below_set2 (K2.out _ _).bel (by omega) _ _⟩
end Go.Proofs.YtdbhahiieokplaaGreatDoor


namespace Go.Proofs.YtdbhahiieokplaaGreatDoor
open Go.RowKit
attribute [local go_sem ↓] Go.wp_at_zero Go.wp_at_succ

structure Bq (g:Nat) (cs:Array Value) (T:TypeId) (wx:World):Prop where
 k:wx.heap[g]?=some (.cells cs T (0,0))
 lt:g<wx.heap.size
theorem Bq.new (w:World) (cs:Array Value) (T:TypeId):Bq w.heap.size cs T (w.alloc (.cells cs T)):=⟨heap_one _ _,by simp⟩
theorem Bq.next {g:Nat} {cs:Array Value} {T:TypeId} {w1 w2:World} (h:Bq g cs T w1) (hb:Below w1.heap.size w1 w2):Bq g cs T w2:=⟨(hb.block _ h.lt).trans h.k,Nat.lt_of_lt_of_le h.lt hb.size⟩
theorem Bq.drew {g:Nat} {cs:Array Value} {T:TypeId} {w1:World} (h:Bq g cs T w1):Bq g cs T w1.drew:=h.next (Below.refl _ _).drew

theorem qoth4 {W:World} {g k:Nat} (hne:k≠g) (x y z u:Value):((((W.setCell ⟨g,0,none⟩ x).setCell ⟨g,1,none⟩ y).setCell ⟨g,2,none⟩ z).setCell ⟨g,3,none⟩ u).heap[k]?=W.heap[k]? :=
 (Below.heap_setCell _ ⟨g,3,none⟩ u k hne).trans ((Below.heap_setCell _ ⟨g,2,none⟩ z k hne).trans ((Below.heap_setCell _ ⟨g,1,none⟩ y k hne).trans (Below.heap_setCell _ ⟨g,0,none⟩ x k hne)))
theorem qset4 {W:World} {g:Nat} {T:TypeId} {x0 x1 x2 x3:Value} (h:W.heap[g]?=some (.cells #[x0,x1,x2,x3] T (0,0))) (x y z u:Value):((((W.setCell ⟨g,0,none⟩ x).setCell ⟨g,1,none⟩ y).setCell ⟨g,2,none⟩ z).setCell ⟨g,3,none⟩ u).heap[g]?=some (.cells #[x,y,z,u] T (0,0)):=by
 simp [World.setCell,Array.getElem?_modify,h]
theorem qsz4 {W:World} {g:Nat} (x y z u:Value):((((W.setCell ⟨g,0,none⟩ x).setCell ⟨g,1,none⟩ y).setCell ⟨g,2,none⟩ z).setCell ⟨g,3,none⟩ u).heap.size=W.heap.size:=by simp [World.setCell]
theorem Kc.setR {w w1:World} {c1 c2:Array Value} {T1 T2 T3:TypeId} {x0 x1 x2 x3:Value} (h:Kc w c1 c2 #[x0,x1,x2,x3] T1 T2 T3 w1) (x y z u:Value) :
  Kc w c1 c2 #[x,y,z,u] T1 T2 T3 ((((w1.setCell ⟨w.heap.size+1+1,0,none⟩ x).setCell ⟨w.heap.size+1+1,1,none⟩ y).setCell ⟨w.heap.size+1+1,2,none⟩ z).setCell ⟨w.heap.size+1+1,3,none⟩ u) :=
 ⟨(qoth4 (by omega) x y z u).trans h.k1,(qoth4 (by omega) x y z u).trans h.k2,qset4 h.k3 x y z u,by rw [qsz4];exact h.sz,below_set4 h.bel (by omega) _ _ _ _⟩
theorem Bq.set4 {g g':Nat} {cs:Array Value} {T:TypeId} {W:World} (h:Bq g cs T W) (hne:g≠g') (x y z u:Value):Bq g cs T ((((W.setCell ⟨g',0,none⟩ x).setCell ⟨g',1,none⟩ y).setCell ⟨g',2,none⟩ z).setCell ⟨g',3,none⟩ u) :=
 ⟨(qoth4 hne x y z u).trans h.k,by rw [qsz4];exact h.lt⟩

set_option maxHeartbeats 8000000 in
set_option maxRecDepth 100000 in
theorem make_pos {x y:Int} {b1 b2 b3:Bool} {m1 m2 m3 k3:ByteArray} (hx:enc x=.agg #[.bool b1,.string m1]) (hy:enc y=.agg #[.bool b2,.string m2]) (hq:Rq (Rat.divInt x y) b3 m3 k3) (h0:0<y) (s1:m1.size≤100000) (s2:m2.size≤100000) (w:World) (hE:Env w) :
  Calls Tryz.prog 121 #[.agg #[.bool b1,.string m1],.agg #[.bool b2,.string m2]] w (RetB w (.tuple #[.agg #[.bool b3,.string m3,.bool false,.string k3],.int .i64 0])):=by
 obtain ⟨d,rfl⟩:∃ d:Nat,y=(d:Int):=⟨y.natAbs,by omega⟩
 have hd0:0<d:=by omega
 have hne1:¬(w.heap.size=w.heap.size+1+1):=by omega
 have hne2:¬(w.heap.size+1+1=w.heap.size):=by omega
 have hne3:¬(w.heap.size+1=w.heap.size+1+1):=by omega
 have hne4:¬(w.heap.size+1+1=w.heap.size+1):=by omega
 have hy2:=hy
 rw [enc_mag d] at hy2
 have hbm:false=b2∧mag d=m2:=by injection hy2 with h;simpa using h
 obtain ⟨rfl,rfl⟩:=hbm
 have hsg:Int.sign (d:Int)=1:=Int.sign_eq_one_of_pos (by omega)
 have HSG:=Lib.hid (fun V=>Sign_f hy V)
 rw [hsg] at HSG
 have HE:=Lib.hid (fun V (h:Below w.heap.size w V)=>hE.next h)
 obtain ⟨G,hG⟩:∃ G,Nat.gcd x.natAbs d=G:=⟨_,rfl⟩
 have hG0:0<G:=hG ▸ Nat.gcd_pos_of_pos_right _ hd0
 obtain ⟨bg,mg,hg⟩:=enc_form (G:Int)
 have hg2:=hg
 rw [enc_mag G] at hg2
 have hbg:false=bg∧mag G=mg:=by injection hg2 with h;simpa using h
 obtain ⟨rfl,rfl⟩:=hbg
 have sG:(mag G).size≤100000:=by
  have h1:nd G≤nd d:=nd_mono (hG ▸ Nat.gcd_le_right _ hd0)
  exact Nat.le_trans h1 s2
 obtain ⟨e1,e2⟩:=divInt_parts x (d:Int) (by omega)
 have HCO:=Lib.hid (fun V (hV:Env V)=>common_f (d:=d) hx (c:=false) (mg:=mag G) (by rw [hG];exact hg) s1 s2 V hV)
 have HQ1:=Lib.hid (fun V (hV:Env V)=>quotient_f (d:=G) hx (c:=b3) (mz:=m3) (z:=x / (G:Int)) (by rw [←hG];have h:=hq.num;rw [e1] at h;rw [hsg,Int.one_mul,Int.natAbs_natCast] at h;exact h) rfl s1 sG (by omega) V hV)
 have HQ2:=Lib.hid (fun V (hV:Env V)=>quotient_f (d:=G) (enc_mag d) (c:=false) (mz:=mag (d / G)) (z:=((d / G:Nat):Int)) (enc_mag _) (by rw [Int.natCast_ediv]) s2 sG (by omega) V hV)
 have hk3:k3=dm (d / G):=by rw [hq.den,e2,←hG];rw [Int.natAbs_natCast]
 have HCP:=Lib.hid (fun V (hV:Env V)=>coprime_f b3 m3 (d / G) V hV)
 rw [←hk3] at HCP
 clear hg hg2 hk3 e1 e2 sG hG hG0
 generalize mag (d / G)=kd at *
 generalize mag G=kg at *
 have KK:=Lib.hid (Kc.start w #[.bool b1,.string m1] #[.bool false,.string (mag d)] #[.bool false,.string ⟨#[]⟩,.bool false,.string ⟨#[]⟩] 23 23 25)
 clear hx hy hy2 hq hE h0 hsg
 generalize mag d=k2 at *
 go_enter Tryz.func121,Tryz.ntmps121
 go_wp2_with fail
 refine (HSG.out _).mono ?_
 rintro e w1 ⟨rfl,hb1⟩
 have K1:=Lib.hid (KK.out.next hb1)
 obtain ⟨x0,x1,_,_⟩:=blk_cells K1.out.k2
 clear hb1
 go_wp2_with fail
 refine (HSG.out _).mono ?_
 rintro e w2 ⟨rfl,hb2⟩
 have K2:=Lib.hid (K1.out.next hb2)
 clear hb2 x0 x1
 obtain ⟨a0,a1,_,_⟩:=blk_cells K2.out.k1
 obtain ⟨a2,a3,_,_⟩:=blk_cells K2.out.k2
 go_wp2_with fail
 refine (HCO.out _ (HE.out _ K2.out.bel)).mono ?_
 rintro e w3 ⟨rfl,hb3⟩
 have K3:=Lib.hid (K2.out.next hb3)
 have K4:=Lib.hid (K3.out.next (below_new w3 (.cells #[.bool false,.string kg] 23))).drew
 have B4:=Lib.hid (Bq.new w3 #[.bool false,.string kg] 23).drew
 obtain ⟨p0,p1,_,_⟩:=blk_cells K4.out.k1
 obtain ⟨p2,p3,_,_⟩:=blk_cells K4.out.k2
 obtain ⟨p4,p5,_,_⟩:=blk_cells B4.out.k
 have hne5:w3.heap.size≠w.heap.size+1+1:=by have:=K3.out.sz;omega
 clear hb3 a0 a1 a2 a3
 go_wp2_with fail
 go_region_held3 (fun w'=>w'.cell? ⟨w.heap.size,0,none⟩=some (.bool b1)∧w'.cell? ⟨w.heap.size,1,none⟩=some (.string m1)∧w'.cell? ⟨w.heap.size+1,0,none⟩=some (.bool false)∧w'.cell? ⟨w.heap.size+1,1,none⟩=some (.string k2)∧w'.cell? ⟨w3.heap.size,0,none⟩=some (.bool false)∧w'.cell? ⟨w3.heap.size,1,none⟩=some (.string kg))
  (first
   | exact ⟨v0,v1,v2,v3,v4,v5⟩
   | exact ⟨s0,s1,s2,s3,s4,s5⟩
   | exact ⟨r0,r1,r2,r3,r4,r5⟩
   | exact ⟨q0,q1,q2,q3,q4,q5⟩
   | exact ⟨p0,p1,p2,p3,p4,p5⟩
   | go_keep)
  (first
   | (go_at_call 103;(with_reducible refine (HQ1.out _ (HE.out _ K4.out.bel)).mono ?_);rintro e w5 ⟨rfl,hb5⟩;have K5:=Lib.hid (K4.out.next hb5);have B5:=Lib.hid (B4.out.next hb5);obtain ⟨q0,q1,_,_⟩:=blk_cells K5.out.k1;obtain ⟨q2,q3,_,_⟩:=blk_cells K5.out.k2;obtain ⟨q4,q5,_,_⟩:=blk_cells B5.out.k)
   | (go_at_call 103;(with_reducible refine (HQ2.out _ (HE.out _ K5.out.bel)).mono ?_);rintro e w6 ⟨rfl,hb6⟩;have K6:=Lib.hid (K5.out.next hb6);have B6:=Lib.hid (B5.out.next hb6);obtain ⟨r0,r1,_,_⟩:=blk_cells K6.out.k1;obtain ⟨r2,r3,_,_⟩:=blk_cells K6.out.k2;obtain ⟨r4,r5,_,_⟩:=blk_cells B6.out.k)
   | (go_at_call 104;(with_reducible refine (HCP.out _ (HE.out _ K6.out.bel)).mono ?_);rintro e w7 ⟨rfl,hb7⟩;have K7:=Lib.hid (K6.out.next hb7);have B7:=Lib.hid (B6.out.next hb7);obtain ⟨s0,s1,_,_⟩:=blk_cells K7.out.k1;obtain ⟨s2,s3,_,_⟩:=blk_cells K7.out.k2;obtain ⟨s4,s5,_,_⟩:=blk_cells B7.out.k;obtain ⟨t0,t1,t2,t3⟩:=blk4 K7.out.k3;obtain ⟨f0,f1,f2,f3⟩:=fro4 K7.out.k3;have K8:=Lib.hid (K7.out.setR (.bool b3) (.string m3) (.bool false) (.string k3));have B8:=Lib.hid (B7.out.set4 hne5 (.bool b3) (.string m3) (.bool false) (.string k3));obtain ⟨v0,v1,_,_⟩:=blk_cells K8.out.k1;obtain ⟨v2,v3,_,_⟩:=blk_cells K8.out.k2;obtain ⟨v4,v5,_,_⟩:=blk_cells B8.out.k))
 go_wp2
 exact bodyPost_ret (v:=.tuple #[.agg #[.bool b3,.string m3,.bool false,.string k3],.int .i64 0]) (by simp [results,Tryz.results121,go_sem,t0,t1,t2,t3]) rfl ⟨rfl,K8.out.bel⟩
end Go.Proofs.YtdbhahiieokplaaGreatDoor


namespace Go.Proofs.YtdbhahiieokplaaGreatDoor
open Go.RowKit
attribute [local go_sem ↓] Go.wp_at_zero Go.wp_at_succ

set_option maxHeartbeats 1000000 in
set_option maxRecDepth 100000 in
theorem ratSign_f {q:Rat} {b:Bool} {m k:ByteArray} (h:Rq q b m k) (w:World):Calls Tryz.prog 95 #[.agg #[.bool b,.string m,.bool false,.string k]] w (RetB w (.int .i64 q.num.sign)):=by
 have HS:=Lib.hid (fun V=>Sign_f h.num V)
 have HB:=Lib.hid (below_new w (.cells #[.bool b,.string m,.bool false,.string k] 25))
 generalize q.num.sign=s at *
 clear h
 go_enter Tryz.func95,Tryz.ntmps95
 go_wp2_with fail
 refine (HS.out _).mono ?_
 rintro e w1 ⟨rfl,hb1⟩
 have B1:=Lib.hid (below_step HB.out (Nat.le_refl _) hb1)
 clear hb1
 go_wp2
 go_ret
 exact ⟨rfl,B1.out⟩

theorem one_of {x:Int} {b:Bool} {m:ByteArray} (h:enc x=.agg #[.bool b,.string m]) (h1:x=1):b=false∧m=⟨#[1]⟩:=by
 obtain ⟨e1,e2⟩:=enc_parts h
 subst h1
 exact ⟨by rw [e1];rfl,by rw [e2];exact mag_one⟩
theorem not_one {x:Int} {b:Bool} {m:ByteArray} (h:enc x=.agg #[.bool b,.string m]) (h1:x≠1):b=true∨(b=false∧¬m.toList=[1]∧¬[1]=m.toList):=by
 obtain ⟨e1,e2⟩:=enc_parts h
 cases b
 · right
   have h2:¬x<0:=of_decide_eq_false e1.symm
   have h3:m≠⟨#[1]⟩:=by rw [e2];exact mag_no_one (by omega)
   have h4:=toList_ne (l:=[1]) h3
   exact ⟨rfl,h4,fun e=>h4 e.symm⟩
 · exact .inl rfl

set_option maxHeartbeats 2000000 in
set_option maxRecDepth 100000 in
theorem ratTimes_f {x y z:Int} {b1 b2 b3:Bool} {m1 m2 m3:ByteArray} (hx:enc x=.agg #[.bool b1,.string m1]) (hy:enc y=.agg #[.bool b2,.string m2]) (hz:enc z=.agg #[.bool b3,.string m3]) (e:z=x*y) (s1:m1.size≤100000) (s2:m2.size≤100000) (w:World) (hE:Env w) :
  Calls Tryz.prog 102 #[.agg #[.bool b1,.string m1],.agg #[.bool b2,.string m2]] w (RetB w (.agg #[.bool b3,.string m3])):=by
 have KK:=Lib.hid (Kc.start w #[.bool b1,.string m1] #[.bool b2,.string m2] #[.bool false,.string ⟨#[]⟩] 23 23 23)
 have hlt:=hE.lt
 have hE0:=hE.next KK.out.bel
 have g0:=hE0.o0
 have g1:=hE0.o1
 clear hE hE0
 by_cases hx1:x=1
 · obtain ⟨rfl,rfl⟩:=one_of hx hx1
   rw [e,hx1,Int.one_mul,hy] at hz
   have hc:b2=b3∧m2=m3:=by injection hz with hz;simpa using hz
   obtain ⟨rfl,rfl⟩:=hc
   obtain ⟨p0,p1,f0,f1⟩:=blk_cells KK.out.k3
   clear hx hy hz hx1 e
   go_enter Tryz.func102,Tryz.ntmps102
   go_wp2
   exact bodyPost_ret (v:=.agg #[.bool b2,.string m2]) (by simp [results,Tryz.results102,go_sem,p0,p1]) rfl ⟨rfl,(Kc.start w _ _ _ _ _ _).bel⟩
 · by_cases hy1:y=1
   · obtain ⟨rfl,rfl⟩:=one_of hy hy1
     rw [e,hy1,Int.mul_one,hx] at hz
     have hc:b1=b3∧m1=m3:=by injection hz with hz;simpa using hz
     obtain ⟨rfl,rfl⟩:=hc
     obtain ⟨p0,p1,f0,f1⟩:=blk_cells KK.out.k3
     have hno:=not_one hx hx1
     clear hx hy hz hx1 hy1 e
     rcases hno with rfl | ⟨rfl,hn1,hn2⟩
     all_goals
      go_enter Tryz.func102,Tryz.ntmps102
      go_wp2
      exact bodyPost_ret (v:=.agg #[.bool _,.string m1]) (by simp [results,Tryz.results102,go_sem,p0,p1]) rfl ⟨rfl,(Kc.start w _ _ _ _ _ _).bel⟩
   · have HM:=Lib.hid (fun V=>mul_f hx hy (by omega) (by omega) hz e V)
     have hno:=not_one hx hx1
     have hno2:=not_one hy hy1
     clear hx hy hz hx1 hy1 e
     rcases hno with rfl | ⟨rfl,hn1,hn2⟩<;>rcases hno2 with rfl | ⟨rfl,hn3,hn4⟩
     all_goals
      go_enter Tryz.func102,Tryz.ntmps102
      go_wp2_with fail
      refine (HM.out _).mono ?_
      rintro e w1 ⟨rfl,hb1⟩
      have K1:=Lib.hid (KK.out.next hb1)
      obtain ⟨p0,p1,f0,f1⟩:=blk_cells K1.out.k3
      clear hb1 g0 g1
      go_wp2
      exact bodyPost_ret (v:=.agg #[.bool b3,.string m3]) (by simp [results,Tryz.results102,go_sem,p0,p1]) rfl ⟨rfl,below_set2 K1.out.bel (by omega) _ _⟩

theorem canon_enc {x:Int} {b:Bool} {m:ByteArray} (h:enc x=.agg #[.bool b,.string m]):checkV b m=0:=by
 obtain ⟨e1,e2⟩:=enc_parts h
 unfold checkV
 rw [if_pos]
 unfold canonB
 split
 · rename_i h1
   have h2:=lead_enc h h1
   simpa using h2
 · rename_i h1
   have h2:x.natAbs=0:=mag_zero_iff.1 (by rw [←e2];omega)
   have h3:x=0:=by omega
   rw [e1,h3];rfl

set_option maxHeartbeats 4000000 in
set_option maxRecDepth 100000 in
theorem ratCheck_f {q:Rat} {b:Bool} {m k:ByteArray} (h:Rq q b m k) (s1:m.size≤100000) (s2:k.size≤100000) (w:World) (hE:Env w) :
  Calls Tryz.prog 70 #[.agg #[.bool b,.string m,.bool false,.string k]] w (RetB w (.int .i64 0)):=by
 have HC1:=Lib.hid (fun V=>check_any b m V)
 rw [canon_enc h.num] at HC1
 have hk:checkV false k=0:=by
  rw [h.den]
  unfold dm
  split
  · exact canon_enc (enc_mag 0)
  · exact canon_enc (enc_mag q.den)
 have HC2:=Lib.hid (fun V=>check_any false k V)
 rw [hk] at HC2
 have HE:=Lib.hid (fun V (hb:Below w.heap.size w V)=>hE.next hb)
 have KK:=Lib.hid (Bq.new w #[.bool b,.string m,.bool false,.string k] 25)
 have BB:=Lib.hid (below_new w (.cells #[.bool b,.string m,.bool false,.string k] 25))
 by_cases hden:q.den=1
 · obtain rfl:=h.den1 hden
   clear h hk hE hden
   go_enter Tryz.func70,Tryz.ntmps70
   go_wp2_with fail
   refine (HC1.out _).mono ?_
   rintro e w1 ⟨rfl,hb1⟩
   have K1:=Lib.hid (KK.out.next hb1)
   have B1:=Lib.hid (below_step BB.out (Nat.le_refl _) hb1)
   obtain ⟨p0,p1,p2,p3⟩:=blk4 K1.out.k
   clear hb1
   go_wp2_with fail
   refine (HC2.out _).mono ?_
   rintro e w2 ⟨rfl,hb2⟩
   have K2:=Lib.hid (K1.out.next hb2)
   have B2:=Lib.hid (below_step B1.out (Nat.le_refl _) hb2)
   obtain ⟨q0,q1,q2,q3⟩:=blk4 K2.out.k
   clear hb2 p0 p1 p2 p3
   go_wp2_with fail
   refine (isInteger_yes b m _).mono ?_
   rintro e w3 ⟨rfl,hb3⟩
   have B3:=Lib.hid (below_step B2.out (Nat.le_refl _) hb3)
   clear hb3
   go_wp2
   go_ret
   exact ⟨rfl,B3.out⟩
 · obtain rfl:=h.den2 hden
   have HNO:=Lib.hid (isInteger_no b m (mag q.den) (mag_no_nil q.den_nz))
   have hk1:=toList_ne (l:=[1]) (mag_no_one hden)
   have hg:Nat.gcd q.num.natAbs q.den=1:=q.reduced
   have HG:=Lib.hid (fun V (hV:Env V)=>gcd_f h.num (enc_mag q.den) (bg:=false) (mg:=⟨#[1]⟩) (by rw [Int.natAbs_natCast,hg,←mag_one];exact enc_mag 1) (by omega) (by omega) V hV.tab)
   generalize Go.Proofs.YtdbhahiieokplaaGreatDoor.mag q.den=k at *
   clear h hk hE hden hg
   go_enter Tryz.func70,Tryz.ntmps70
   go_wp2_with fail
   refine (HC1.out _).mono ?_
   rintro e w1 ⟨rfl,hb1⟩
   have K1:=Lib.hid (KK.out.next hb1)
   have B1:=Lib.hid (below_step BB.out (Nat.le_refl _) hb1)
   obtain ⟨p0,p1,p2,p3⟩:=blk4 K1.out.k
   clear hb1
   go_wp2_with fail
   refine (HC2.out _).mono ?_
   rintro e w2 ⟨rfl,hb2⟩
   have K2:=Lib.hid (K1.out.next hb2)
   have B2:=Lib.hid (below_step B1.out (Nat.le_refl _) hb2)
   obtain ⟨q0,q1,q2,q3⟩:=blk4 K2.out.k
   clear hb2 p0 p1 p2 p3
   go_wp2_with fail
   refine (HNO.out _).mono ?_
   rintro e w3 ⟨rfl,hb3⟩
   have K3:=Lib.hid (K2.out.next hb3).drew
   have B3:=Lib.hid (below_step B2.out (Nat.le_refl _) hb3).drew
   have E3:=Lib.hid (HE.out _ B3.out)
   obtain ⟨r0,r1,r2,r3⟩:=blk4 K3.out.k
   have g0:=E3.out.o0
   have g1:=E3.out.o1
   simp only [World.cell?_drew] at r0 r1 r2 r3 g0 g1
   clear hb3 q0 q1 q2 q3
   go_wp2_with fail
   go_region_held3 (fun w'=>w'.cell? ⟨w.heap.size,0,none⟩=some (.bool b)∧w'.cell? ⟨w.heap.size,1,none⟩=some (.string m)∧w'.cell? ⟨w.heap.size,2,none⟩=some (.bool false)∧w'.cell? ⟨w.heap.size,3,none⟩=some (.string k)∧w'.cell? ⟨0,0,none⟩=some (.bool false)∧w'.cell? ⟨0,1,none⟩=some (.string ⟨#[1]⟩))
    (first
     | exact ⟨s0,s1,s2,s3,E4.out.o0,E4.out.o1⟩
     | exact ⟨r0,r1,r2,r3,g0,g1⟩
     | go_keep)
    (first
     | (go_at_call 115;(with_reducible refine (HG.out _ E3.out).mono ?_);rintro e w4 ⟨rfl,hb4⟩;have K4:=Lib.hid (K3.out.next hb4);have B4:=Lib.hid (below_step B3.out (Nat.le_refl _) hb4);have E4:=Lib.hid (HE.out _ B4.out);obtain ⟨s0,s1,s2,s3⟩:=blk4 K4.out.k))
   go_wp2
   go_ret
   exact ⟨rfl,B4.out⟩
end Go.Proofs.YtdbhahiieokplaaGreatDoor


namespace Go.Proofs.YtdbhahiieokplaaGreatDoor
open Go.RowKit
attribute [local go_sem ↓] Go.wp_at_zero Go.wp_at_succ

end Go.Proofs.YtdbhahiieokplaaGreatDoor


namespace Go.Proofs.YtdbhahiieokplaaGreatDoor
open Go.RowKit
attribute [local go_sem ↓] Go.wp_at_zero Go.wp_at_succ

end Go.Proofs.YtdbhahiieokplaaGreatDoor


namespace Go.Proofs.YtdbhahiieokplaaGreatDoor
open Go.RowKit
attribute [local go_sem ↓] Go.wp_at_zero Go.wp_at_succ

end Go.Proofs.YtdbhahiieokplaaGreatDoor


namespace Go.Proofs.YtdbhahiieokplaaGreatDoor
open Go.RowKit
attribute [local go_sem ↓] Go.wp_at_zero Go.wp_at_succ

set_option maxHeartbeats 8000000 in
set_option maxRecDepth 100000 in
theorem make_neg {x y:Int} {b1 b2 b3:Bool} {m1 m2 m3 k3:ByteArray} (hx:enc x=.agg #[.bool b1,.string m1]) (hy:enc y=.agg #[.bool b2,.string m2]) (hq:Rq (Rat.divInt x y) b3 m3 k3) (h0:y<0) (s1:m1.size≤100000) (s2:m2.size≤100000) (w:World) (hE:Env w) :
  Calls Tryz.prog 121 #[.agg #[.bool b1,.string m1],.agg #[.bool b2,.string m2]] w (RetB w (.tuple #[.agg #[.bool b3,.string m3,.bool false,.string k3],.int .i64 0])):=by
 obtain ⟨d,rfl⟩:∃ d:Nat,y=-(d:Int):=⟨y.natAbs,by omega⟩
 have hd0:0<d:=by omega
 obtain ⟨bn,hbn⟩:∃ c,enc (-x)=.agg #[.bool c,.string m1]:=⟨_,enc_neg hx⟩
 have hm2:m2=mag d:=by rw [(enc_parts hy).2];congr 1;omega
 have hnd:enc (-(-(d:Int)))=.agg #[.bool false,.string (mag d)]:=by rw [Int.neg_neg];exact enc_mag d
 subst hm2
 have hsg:Int.sign (-(d:Int))=-1:=Int.sign_eq_neg_one_of_neg (by omega)
 have HSG:=Lib.hid (fun V=>Sign_f hy V)
 rw [hsg] at HSG
 have HN1:=Lib.hid (fun V=>negate_f hx hbn V)
 have HN2:=Lib.hid (fun V=>negate_f hy hnd V)
 have HE:=Lib.hid (fun V (h:Below w.heap.size w V)=>hE.next h)
 obtain ⟨G,hG⟩:∃ G,Nat.gcd (-x).natAbs d=G:=⟨_,rfl⟩
 have hG0:0<G:=hG ▸ Nat.gcd_pos_of_pos_right _ hd0
 obtain ⟨bg,mg,hg⟩:=enc_form (G:Int)
 have hg2:=hg
 rw [enc_mag G] at hg2
 have hbg:false=bg∧mag G=mg:=by injection hg2 with h;simpa using h
 obtain ⟨rfl,rfl⟩:=hbg
 have sG:(mag G).size≤100000:=by
  have h1:nd G≤nd d:=nd_mono (hG ▸ Nat.gcd_le_right _ hd0)
  exact Nat.le_trans h1 s2
 obtain ⟨e1,e2⟩:=divInt_parts x (-(d:Int)) (by omega)
 have HCO:=Lib.hid (fun V (hV:Env V)=>common_f (d:=d) hbn (c:=false) (mg:=mag G) (by rw [hG];exact hg) s1 s2 V hV)
 have HQ1:=Lib.hid (fun V (hV:Env V)=>quotient_f (d:=G) hbn (c:=b3) (mz:=m3) (z:=(-x) / (G:Int)) (by rw [←hG];have h:=hq.num;rw [e1] at h;rw [hsg,Int.natAbs_neg,Int.natAbs_natCast] at h;rw [Int.natAbs_neg,←Int.neg_one_mul];exact h) rfl s1 sG (by omega) V hV)
 have HQ2:=Lib.hid (fun V (hV:Env V)=>quotient_f (d:=G) (enc_mag d) (c:=false) (mz:=mag (d / G)) (z:=((d / G:Nat):Int)) (enc_mag _) (by rw [Int.natCast_ediv]) s2 sG (by omega) V hV)
 have hk3:k3=dm (d / G):=by rw [hq.den,e2,←hG];rw [Int.natAbs_neg,Int.natAbs_neg,Int.natAbs_natCast]
 have HCP:=Lib.hid (fun V (hV:Env V)=>coprime_f b3 m3 (d / G) V hV)
 rw [←hk3] at HCP
 clear hg hg2 hk3 e1 e2 sG hG hG0
 generalize mag (d / G)=kd at *
 generalize mag G=kg at *
 have KK:=Lib.hid (Kc.start w #[.bool b1,.string m1] #[.bool b2,.string (mag d)] #[.bool false,.string ⟨#[]⟩,.bool false,.string ⟨#[]⟩] 23 23 25)
 clear hx hy hq hE h0 hsg hbn hnd
 generalize mag d=k2 at *
 go_enter Tryz.func121,Tryz.ntmps121
 go_wp2_with fail
 refine (HSG.out _).mono ?_
 rintro e w1 ⟨rfl,hb1⟩
 have K1:=Lib.hid (KK.out.next hb1)
 obtain ⟨x0,x1,_,_⟩:=blk_cells K1.out.k2
 clear hb1
 go_wp2_with fail
 refine (HSG.out _).mono ?_
 rintro e w9 ⟨rfl,hb9⟩
 have K9:=Lib.hid (K1.out.next hb9).drew
 have hHeld:w9.drew.cell? ⟨w.heap.size,0,none⟩=some (.bool b1)∧w9.drew.cell? ⟨w.heap.size,1,none⟩=some (.string m1)∧w9.drew.cell? ⟨w.heap.size+1,0,none⟩=some (.bool b2)∧w9.drew.cell? ⟨w.heap.size+1,1,none⟩=some (.string k2):=⟨(blk_cells K9.out.k1).1,(blk_cells K9.out.k1).2.1,(blk_cells K9.out.k2).1,(blk_cells K9.out.k2).2.1⟩
 have HHELD:=Lib.hid hHeld
 clear hb9 x0 x1 hHeld
 go_wp2_with fail
 refine wp_region_late (S:=fun w'=>w'.cell? ⟨w.heap.size,0,none⟩=some (.bool b1)∧w'.cell? ⟨w.heap.size,1,none⟩=some (.string m1)∧w'.cell? ⟨w.heap.size+1,0,none⟩=some (.bool b2)∧w'.cell? ⟨w.heap.size+1,1,none⟩=some (.string k2)) (L:=[4,5]) (by kernel_rfl) ?_
 have hHeld:=HHELD.out
 refine wpLate_take (i:=0) (oi:=⟨some 14,_,_,_,_,_⟩) (v:=?_) rfl (by kernel_rfl) (by kernel_rfl) (by kernel_rfl) (by kernel_rfl) (by kernel_rfl) (fun _ _ _ h=>h) (Or.inl ⟨by rfl,?_⟩) hHeld ?_
 rotate_left
 · intro w hSw;(try dsimp only at hSw);(first | (go_simp;done) | (go_simp;with_reducible rfl))
 try simp only [Act.put,List.setIfInBounds_toArray,List.set_cons_zero,List.set_cons_succ]
 refine wpLate_take (i:=2) (oi:=⟨some 16,_,_,_,_,_⟩) (v:=?_) rfl (by kernel_rfl) (by kernel_rfl) (by kernel_rfl) (by kernel_rfl) (by kernel_rfl) (fun _ _ _ h=>h) (Or.inl ⟨by rfl,?_⟩) hHeld ?_
 rotate_left
 · intro w hSw;(try dsimp only at hSw);(first | (go_simp;done) | (go_simp;with_reducible rfl))
 try simp only [Act.put,List.setIfInBounds_toArray,List.set_cons_zero,List.set_cons_succ]
 refine wpLate_one (i:=1) (o:=⟨some 15,_,_,_,_,_⟩) (by kernel_rfl) rfl (fun K hK=>?_)
 go_simp
 (go_at_call 131;refine (HN1.out _).mono ?_;rintro e w10 ⟨rfl,hb10⟩;have K10:=Lib.hid (K9.out.next hb10))
 try go_wp2_with fail
 refine hK.out _ _ (Or.inr (fun _=>⟨(blk_cells K10.out.k1).1,(blk_cells K10.out.k1).2.1,(blk_cells K10.out.k2).1,(blk_cells K10.out.k2).2.1⟩)) ?_
 clear hK K
 try simp only [Act.put,List.setIfInBounds_toArray,List.set_cons_zero,List.set_cons_succ]
 refine wpLate_one (i:=3) (o:=⟨some 17,_,_,_,_,_⟩) (by kernel_rfl) rfl (fun K hK=>?_)
 go_simp
 (go_at_call 131;refine (HN2.out _).mono ?_;rintro e w11 ⟨rfl,hb11⟩;have K11:=Lib.hid (K10.out.next hb11);have K12:=Lib.hid (K11.out.set1 (.bool bn) (.string m1));have K2:=Lib.hid (K12.out.set2 (.bool false) (.string k2));obtain ⟨z0,z1,z2,z3⟩:=blk_cells K11.out.k1;obtain ⟨z4,z5,z6,z7⟩:=blk_cells K12.out.k2;obtain ⟨z8,z9,z10,z11⟩:=blk_cells K11.out.k2)
 try go_wp2_with fail
 refine hK.out _ _ (Or.inr (fun _=>⟨(blk_cells K11.out.k1).1,(blk_cells K11.out.k1).2.1,(blk_cells K11.out.k2).1,(blk_cells K11.out.k2).2.1⟩)) ?_
 clear hK K
 try simp only [Act.put,List.setIfInBounds_toArray,List.set_cons_zero,List.set_cons_succ]
 refine wpLate_one (i:=4) (o:=⟨none,_,_,_,_,_⟩) (by kernel_rfl) rfl (fun K hK=>?_)
 go_simp
 refine hK.out _ _ (Or.inl (by rfl)) ?_
 clear hK K
 try simp only [Act.put,List.setIfInBounds_toArray,List.set_cons_zero,List.set_cons_succ]
 refine wpLate_one (i:=5) (o:=⟨none,_,_,_,_,_⟩) (by kernel_rfl) rfl (fun K hK=>?_)
 go_simp
 refine hK.out _ _ (Or.inl (by rfl)) ?_
 clear hK K
 try simp only [Act.put,List.setIfInBounds_toArray,List.set_cons_zero,List.set_cons_succ]
 refine wpLate_done (by kernel_rfl) ?_ _
 obtain ⟨w2,hw2⟩:∃ W,W=((((w11.setCell ⟨w.heap.size,0,none⟩ (.bool bn)).setCell ⟨w.heap.size,1,none⟩ (.string m1)).setCell ⟨w.heap.size+1,0,none⟩ (.bool false)).setCell ⟨w.heap.size+1,1,none⟩ (.string k2)):=⟨_,rfl⟩
 rw [←hw2]
 rw [←hw2] at K2
 clear z0 z1 z2 z3 z4 z5 z6 z7 z8 z9 z10 z11 hb10 hb11 hHeld hw2
 obtain ⟨a0,a1,_,_⟩:=blk_cells K2.out.k1
 obtain ⟨a2,a3,_,_⟩:=blk_cells K2.out.k2
 go_wp2_with fail
 refine (HCO.out _ (HE.out _ K2.out.bel)).mono ?_
 rintro e w3 ⟨rfl,hb3⟩
 have K3:=Lib.hid (K2.out.next hb3)
 have K4:=Lib.hid (K3.out.next (below_new w3 (.cells #[.bool false,.string kg] 23))).drew
 have B4:=Lib.hid (Bq.new w3 #[.bool false,.string kg] 23).drew
 obtain ⟨p0,p1,_,_⟩:=blk_cells K4.out.k1
 obtain ⟨p2,p3,_,_⟩:=blk_cells K4.out.k2
 obtain ⟨p4,p5,_,_⟩:=blk_cells B4.out.k
 have hne5:w3.heap.size≠w.heap.size+1+1:=by have:=K3.out.sz;omega
 clear hb3 a0 a1 a2 a3
 go_wp2_with fail
 go_region_held3 (fun w'=>w'.cell? ⟨w.heap.size,0,none⟩=some (.bool bn)∧w'.cell? ⟨w.heap.size,1,none⟩=some (.string m1)∧w'.cell? ⟨w.heap.size+1,0,none⟩=some (.bool false)∧w'.cell? ⟨w.heap.size+1,1,none⟩=some (.string k2)∧w'.cell? ⟨w3.heap.size,0,none⟩=some (.bool false)∧w'.cell? ⟨w3.heap.size,1,none⟩=some (.string kg))
  (first
   | exact ⟨v0,v1,v2,v3,v4,v5⟩
   | exact ⟨s0,s1,s2,s3,s4,s5⟩
   | exact ⟨r0,r1,r2,r3,r4,r5⟩
   | exact ⟨q0,q1,q2,q3,q4,q5⟩
   | exact ⟨p0,p1,p2,p3,p4,p5⟩
   | go_keep)
  (first
   | (go_at_call 103;(with_reducible refine (HQ1.out _ (HE.out _ K4.out.bel)).mono ?_);rintro e w5 ⟨rfl,hb5⟩;have K5:=Lib.hid (K4.out.next hb5);have B5:=Lib.hid (B4.out.next hb5);obtain ⟨q0,q1,_,_⟩:=blk_cells K5.out.k1;obtain ⟨q2,q3,_,_⟩:=blk_cells K5.out.k2;obtain ⟨q4,q5,_,_⟩:=blk_cells B5.out.k)
   | (go_at_call 103;(with_reducible refine (HQ2.out _ (HE.out _ K5.out.bel)).mono ?_);rintro e w6 ⟨rfl,hb6⟩;have K6:=Lib.hid (K5.out.next hb6);have B6:=Lib.hid (B5.out.next hb6);obtain ⟨r0,r1,_,_⟩:=blk_cells K6.out.k1;obtain ⟨r2,r3,_,_⟩:=blk_cells K6.out.k2;obtain ⟨r4,r5,_,_⟩:=blk_cells B6.out.k)
   | (go_at_call 104;(with_reducible refine (HCP.out _ (HE.out _ K6.out.bel)).mono ?_);rintro e w7 ⟨rfl,hb7⟩;have K7:=Lib.hid (K6.out.next hb7);have B7:=Lib.hid (B6.out.next hb7);obtain ⟨s0,s1,_,_⟩:=blk_cells K7.out.k1;obtain ⟨s2,s3,_,_⟩:=blk_cells K7.out.k2;obtain ⟨s4,s5,_,_⟩:=blk_cells B7.out.k;obtain ⟨t0,t1,t2,t3⟩:=blk4 K7.out.k3;obtain ⟨f0,f1,f2,f3⟩:=fro4 K7.out.k3;have K8:=Lib.hid (K7.out.setR (.bool b3) (.string m3) (.bool false) (.string k3));have B8:=Lib.hid (B7.out.set4 hne5 (.bool b3) (.string m3) (.bool false) (.string k3));obtain ⟨v0,v1,_,_⟩:=blk_cells K8.out.k1;obtain ⟨v2,v3,_,_⟩:=blk_cells K8.out.k2;obtain ⟨v4,v5,_,_⟩:=blk_cells B8.out.k))
 go_wp2
 exact bodyPost_ret (v:=.tuple #[.agg #[.bool b3,.string m3,.bool false,.string k3],.int .i64 0]) (by simp [results,Tryz.results121,go_sem,t0,t1,t2,t3]) rfl ⟨rfl,K8.out.bel⟩

theorem make_f {x y:Int} {b1 b2 b3:Bool} {m1 m2 m3 k3:ByteArray} (hx:enc x=.agg #[.bool b1,.string m1]) (hy:enc y=.agg #[.bool b2,.string m2]) (hq:Rq (Rat.divInt x y) b3 m3 k3) (h0:y≠0) (s1:m1.size≤100000) (s2:m2.size≤100000) (w:World) (hE:Env w) :
  Calls Tryz.prog 121 #[.agg #[.bool b1,.string m1],.agg #[.bool b2,.string m2]] w (RetB w (.tuple #[.agg #[.bool b3,.string m3,.bool false,.string k3],.int .i64 0])):=by
 rcases Int.lt_or_lt_of_ne h0 with h | h
 · exact make_neg hx hy hq h s1 s2 w hE
 · exact make_pos hx hy hq h s1 s2 w hE
end Go.Proofs.YtdbhahiieokplaaGreatDoor


namespace Go.Proofs.YtdbhahiieokplaaGreatDoor
open Go.RowKit
attribute [local go_sem ↓] Go.wp_at_zero Go.wp_at_succ

theorem blk5 {W:World} {g:Nat} {T:TypeId} {v0 v1 v2 v3 v4:Value} (h:W.heap[g]?=some (.cells #[v0,v1,v2,v3,v4] T (0,0))) :
  W.cell? ⟨g,0,none⟩=some v0∧W.cell? ⟨g,1,none⟩=some v1∧W.cell? ⟨g,2,none⟩=some v2∧W.cell? ⟨g,3,none⟩=some v3∧W.cell? ⟨g,4,none⟩=some v4:=by
 refine ⟨?_,?_,?_,?_,?_⟩<;>simp [World.cell?,World.frozen?,h]

theorem cmpZ_lt {x y:Int} (h:x<y):cmpZ x y=-1:=by unfold cmpZ;simp [h]
theorem cmpZ_gt {x y:Int} (h:y<x):cmpZ x y=1:=by unfold cmpZ;rw [if_neg (by omega),if_pos h]
theorem cmpZ_eq0 {x y:Int} (h:x=y):cmpZ x y=0:=by subst h;unfold cmpZ;simp

end Go.Proofs.YtdbhahiieokplaaGreatDoor
