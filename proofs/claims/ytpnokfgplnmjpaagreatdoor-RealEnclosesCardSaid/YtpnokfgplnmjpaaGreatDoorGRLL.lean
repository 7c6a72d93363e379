import Derived.Test.YtpnokfgplnmjpaaGreatDoorGRLG
import Derived.Test.YtpnokfgplnmjpaaGreatDoorGQT
import Derived.Test.YtpnokfgplnmjpaaGreatDoorGRCA
import Derived.Test.YtpnokfgplnmjpaaGreatDoorGRHK
import Derived.Test.YtpnokfgplnmjpaaGreatDoorGRGB
import Derived.Test.YtpnokfgplnmjpaaGreatDoorGRCB
set_option linter.unusedSimpArgs false
set_option linter.unusedVariables false

namespace Go.Proofs.YtpnokfgplnmjpaaGreatDoor
open Go.RowKit
attribute [local go_sem ↓] Go.wp_at_zero Go.wp_at_succ

theorem Rq.dsize {q:Rat} {b:Bool} {m k:ByteArray} {n:Nat} (h:Rq q b m k) (hs:(Go.Proofs.YtpnokfgplnmjpaaGreatDoor.mag q.den).size≤n):k.size≤n:=by
 by_cases hd:q.den=1
 · rw [h.den1 hd];exact Nat.zero_le _
 · rw [h.den2 hd];exact hs

set_option maxHeartbeats 8000000 in
set_option maxRecDepth 100000 in
theorem fmk_sq {p q r:Rat} {b1 b2 b3 b6:Bool} {m1 k1 m2 k2 m3 k3 m6 k6:ByteArray} (hp:Rq p b1 m1 k1) (hq:Rq q b2 m2 k2) (hr:Rq r b3 m3 k3) (hs:Sg.Sq r) (h6:Rq (p+q*Sg.rt r) b6 m6 k6) (zp:Sz 2000 p) (zq:Sz 2000 q) (zr:Sz (7999+1) r) (w:World) :
  Calls Tryz.prog 29 #[.agg #[.bool b1,.string m1,.bool false,.string k1],.agg #[.bool b2,.string m2,.bool false,.string k2],.agg #[.bool b3,.string m3,.bool false,.string k3]] w (RetB w (.agg #[.bool b6,.string m6,.bool false,.string k6,.bool false,.string ⟨#[]⟩,.bool false,.string ⟨#[]⟩,.bool false])):=by
 obtain ⟨b4,m4,k4,h4⟩:=Rq.some_ (Sg.rt r)
 obtain ⟨b5,m5,k5,h5⟩:=Rq.some_ (q*Sg.rt r)
 have z4:=zr.root
 have z5:Sz 10000 (q*Sg.rt r):=zq.mul z4
 have C1:=kn w ((root_yes_z hr (zr.up (by omega)) hs h4).2)
 have C2:=kn w (rmul_z hq h4 h5 (zq.up (by omega)) (z4.up (by omega)))
 have C3:=kn w (radd_z hp h5 h6 (zp.up (by omega)) z5)
 have RS:=Lib.hid Tryz.results29
 clear hp hq hr hs h6 zp zq zr h4 h5 z4 z5
 go_enter Tryz.func29,Tryz.ntmps29
 exact wk0

set_option maxHeartbeats 8000000 in
set_option maxRecDepth 100000 in
theorem fmk_zero {r:Rat} {b1 b3:Bool} {m1 k1 m3 k3:ByteArray} (hr:Rq r b3 m3 k3) (hs:¬Sg.Sq r) (zr:Sz 9000 r) (w:World) :
  Calls Tryz.prog 29 #[.agg #[.bool b1,.string m1,.bool false,.string k1],.agg #[.bool false,.string ⟨#[]⟩,.bool false,.string ⟨#[]⟩],.agg #[.bool b3,.string m3,.bool false,.string k3]] w (RetB w (.agg #[.bool b1,.string m1,.bool false,.string k1,.bool false,.string ⟨#[]⟩,.bool false,.string ⟨#[]⟩,.bool false])):=by
 have C1:=kn w ((root_no_z hr zr hs).2)
 have C2:=kn w (zero_any)
 have RS:=Lib.hid Tryz.results29
 clear hr hs zr
 go_enter Tryz.func29,Tryz.ntmps29
 exact wk0

set_option maxHeartbeats 8000000 in
set_option maxRecDepth 100000 in
theorem fmk_irr_true {q r:Rat} {b1 b3 b5:Bool} {m1 k1 m3 k3 m5 k5:ByteArray} {m2 k2:ByteArray} (hq:Rq q true m2 k2) (hq0:q≠0) (hr:Rq r b3 m3 k3) (hs:¬Sg.Sq r) (h5:Rq (q*q*r) b5 m5 k5) (zq:Sz 2000 q) (zr:Sz 2000 r) (w:World) :
  Calls Tryz.prog 29 #[.agg #[.bool b1,.string m1,.bool false,.string k1],.agg #[.bool true,.string m2,.bool false,.string k2],.agg #[.bool b3,.string m3,.bool false,.string k3]] w (RetB w (.agg #[.bool b1,.string m1,.bool false,.string k1,.bool b5,.string m5,.bool false,.string k5,.bool (decide (Sg.sgq q<0))])):=by
 obtain ⟨b4,m4,k4,h4⟩:=Rq.some_ (q*q)
 have hn:=hq.ne hq0
 obtain ⟨e1,e2⟩:=str_ne hn
 have e3:=empty_no (size_pos hn)
 have z4:=zq.mul zq
 have C1:=kn w ((root_no_z hr (zr.up (by omega)) hs).2)
 have C2:=kn w (zero_any)
 have C3:=kn w (rmul_z hq hq h4 (zq.up (by omega)) (zq.up (by omega)))
 have C4:=kn w (rmul_z h4 hr h5 (z4.up (by omega)) (zr.up (by omega)))
 have C5:=kn w (rsign_z hq)
 have RS:=Lib.hid Tryz.results29
 clear hq hq0 hr hs h5 zq zr h4 hn z4
 go_enter Tryz.func29,Tryz.ntmps29
 exact wk0

set_option maxHeartbeats 8000000 in
set_option maxRecDepth 100000 in
theorem fmk_irr_false {q r:Rat} {b1 b3 b5:Bool} {m1 k1 m3 k3 m5 k5:ByteArray} {m2 k2:ByteArray} (hq:Rq q false m2 k2) (hq0:q≠0) (hr:Rq r b3 m3 k3) (hs:¬Sg.Sq r) (h5:Rq (q*q*r) b5 m5 k5) (zq:Sz 2000 q) (zr:Sz 2000 r) (w:World) :
  Calls Tryz.prog 29 #[.agg #[.bool b1,.string m1,.bool false,.string k1],.agg #[.bool false,.string m2,.bool false,.string k2],.agg #[.bool b3,.string m3,.bool false,.string k3]] w (RetB w (.agg #[.bool b1,.string m1,.bool false,.string k1,.bool b5,.string m5,.bool false,.string k5,.bool (decide (Sg.sgq q<0))])):=by
 obtain ⟨b4,m4,k4,h4⟩:=Rq.some_ (q*q)
 have hn:=hq.ne hq0
 obtain ⟨e1,e2⟩:=str_ne hn
 have e3:=empty_no (size_pos hn)
 have z4:=zq.mul zq
 have C1:=kn w ((root_no_z hr (zr.up (by omega)) hs).2)
 have C2:=kn w (zero_any)
 have C3:=kn w (rmul_z hq hq h4 (zq.up (by omega)) (zq.up (by omega)))
 have C4:=kn w (rmul_z h4 hr h5 (z4.up (by omega)) (zr.up (by omega)))
 have C5:=kn w (rsign_z hq)
 have RS:=Lib.hid Tryz.results29
 clear hq hq0 hr hs h5 zq zr h4 hn z4
 go_enter Tryz.func29,Tryz.ntmps29
 exact wk0

theorem sgq_lt {q:Rat}:Sg.sgq q<0↔q<0:=by
 rcases Sg.sgq_three q with ⟨h,e⟩ | ⟨h,e⟩ | ⟨h,e⟩<;>rw [e]
 · simp [h]
 · subst h;simp
 · constructor
   · intro h1;omega
   · intro h1;grind
theorem fmk_f {p q r:Rat} {b1 b2 b3:Bool} {m1 k1 m2 k2 m3 k3:ByteArray} {b6 c6 s6:Bool} {m6 k6 n6 l6:ByteArray} (hp:Rq p b1 m1 k1) (hq:Rq q b2 m2 k2) (hr:Rq r b3 m3 k3) (zp:Sz 2000 p) (zq:Sz 2000 q) (zr:Sz 2000 r) (h6:Rv (Sg.mkR p q r) b6 m6 k6 c6 n6 l6 s6) (w:World) :
  Calls Tryz.prog 29 #[.agg #[.bool b1,.string m1,.bool false,.string k1],.agg #[.bool b2,.string m2,.bool false,.string k2],.agg #[.bool b3,.string m3,.bool false,.string k3]] w (RetB w (.agg #[.bool b6,.string m6,.bool false,.string k6,.bool c6,.string n6,.bool false,.string l6,.bool s6])):=by
 unfold Sg.mkR at h6
 by_cases hs:Sg.Sq r
 · rw [if_pos hs] at h6
   obtain ⟨rfl,rfl,rfl⟩:=h6.r.nought.1 rfl
   obtain rfl:s6=false:=h6.neg
   exact fmk_sq hp hq hr hs h6.p zp zq (zr.up (by omega)) w
 · rw [if_neg hs] at h6
   by_cases hq0:q=0
   · rw [if_pos hq0] at h6
     obtain ⟨rfl,rfl,rfl⟩:=h6.r.nought.1 rfl
     obtain rfl:s6=false:=h6.neg
     obtain ⟨rfl,rfl,rfl⟩:=hq.nought.1 hq0
     obtain ⟨rfl,rfl,rfl⟩:=h6.p.inj hp
     exact fmk_zero hr hs (zr.up (by omega)) w
   · rw [if_neg hq0] at h6
     obtain ⟨rfl,rfl,rfl⟩:=h6.p.inj hp
     obtain rfl:s6=decide (Sg.sgq q<0):=by
      rw [h6.neg]
      by_cases h:q<0
      · simp [h,sgq_lt.2 h]
      · have h':¬Sg.sgq q<0:=fun e=>h (sgq_lt.1 e)
        simp [h,h']
     cases b2
     · exact fmk_irr_false hq hq0 hr hs h6.r zq zr w
     · exact fmk_irr_true hq hq0 hr hs h6.r zq zr w

set_option maxHeartbeats 8000000 in
set_option maxRecDepth 100000 in
theorem rchk_rat {p:Rat} {b1:Bool} {m1 k1:ByteArray} (hp:Rq p b1 m1 k1) (zp:Sz 10000 p) (w:World) (hE:Env w) :
  Calls Tryz.prog 18 #[.agg #[.bool b1,.string m1,.bool false,.string k1,.bool false,.string ⟨#[]⟩,.bool false,.string ⟨#[]⟩,.bool false]] w (RetB w (.int .i64 0)):=by
 have t1:=(zp.m hp (Nat.le_refl _)).1
 have t2:=hp.dsize (zp.m hp (Nat.le_refl _)).2
 have C1:=ke hE (ratCheck_f hp (by omega) (by omega))
 have C2:=ke hE (ratCheck_f Rq.zero (by decide) (by decide))
 have C3:=kn w (isRat_yes b1 false m1 k1)
 clear hp zp t1 t2 hE
 go_enter Tryz.func18,Tryz.ntmps18
 exact wk0

set_option maxHeartbeats 8000000 in
set_option maxRecDepth 100000 in
theorem rchk_irr {x:Sg.Rl} {b1 c1 s1:Bool} {m1 k1 n1 l1:ByteArray} (hx:Rv x b1 m1 k1 c1 n1 l1 s1) (hx0:0<x.a) (hn:¬Sg.Sq x.a) (zx:Rz 9000 x) (w:World) (hE:Env w) :
  Calls Tryz.prog 18 #[.agg #[.bool b1,.string m1,.bool false,.string k1,.bool c1,.string n1,.bool false,.string l1,.bool s1]] w (RetB w (.int .i64 0)):=by
 have t1:=((zx.p.up (by omega)).m hx.p (Nat.le_refl _)).1
 have t2:=hx.p.dsize ((zx.p.up (by omega)).m hx.p (Nat.le_refl _)).2
 have t3:=((zx.r.up (by omega)).m hx.r (Nat.le_refl _)).1
 have t4:=hx.r.dsize ((zx.r.up (by omega)).m hx.r (Nat.le_refl _)).2
 have hne:x.a≠0:=by grind
 have C4:=Lib.hid (fun V (_:Below w.heap.size w V)=>sign_z hx.r V)
 rw [Sg.sgq_pos hx0] at C4
 have C1:=ke hE (ratCheck_f hx.p (by omega) (by omega))
 have C2:=ke hE (ratCheck_f hx.r (by omega) (by omega))
 have C3:=kn w (isRat_no hx hne)
 have C5:=ke hE ((root_no_z hx.r zx.r hn).1)
 clear hx hx0 hn zx t1 t2 t3 t4 hne hE
 go_enter Tryz.func18,Tryz.ntmps18
 exact wk0

theorem rchk_ok {x:Sg.Rl} {b1 c1 s1:Bool} {m1 k1 n1 l1:ByteArray} (hx:Rv x b1 m1 k1 c1 n1 l1 s1) (ok:x.Ok) (zx:Rz 9000 x) (w:World) (hE:Env w):Calls Tryz.prog 18 #[.agg #[.bool b1,.string m1,.bool false,.string k1,.bool c1,.string n1,.bool false,.string l1,.bool s1]] w (RetB w (.int .i64 0)):=by
 rcases Sg.ok_cases ok with ⟨ha,e⟩ | ⟨ha,hn⟩
 · obtain ⟨rfl,rfl,rfl⟩:=hx.r.nought.1 ha
   obtain rfl:s1=false:=by rw [hx.neg,e];rfl
   exact rchk_rat hx.p (zx.p.up (by omega)) w hE
 · exact rchk_irr hx ha hn zx w hE
end Go.Proofs.YtpnokfgplnmjpaaGreatDoor


namespace Go.Proofs.YtpnokfgplnmjpaaGreatDoor
open Go.RowKit
attribute [local go_sem ↓] Go.wp_at_zero Go.wp_at_succ

theorem at_ {M:World→Prop} (g:Nat) (k:Nat) {W:World} {y:Value} (h:M (W.setCell ⟨g,k,none⟩ y)):M (W.setCell ⟨g,k,none⟩ y):=h

set_option maxHeartbeats 8000000 in
set_option maxRecDepth 100000 in
theorem simp_next (w:World) {z1:Bool} {y1:ByteArray} {b1 c1 s1:Bool} {m1 k1 n1 l1:ByteArray} {b2 c2 s2:Bool} {m2 k2 n2 l2:ByteArray} {b3:Bool} {m3 k3:ByteArray} {c:Int} (hc:0<c) (HF:∀ V,Below w.heap.size w V→Calls Tryz.prog 52 #[.agg #[.bool b1,.string m1,.bool false,.string k1,.bool c1,.string n1,.bool false,.string l1,.bool s1]] V (RetB V (.agg #[.bool z1,.string y1]))) (HW:∀ V,Below w.heap.size w V→Calls Tryz.prog 73 #[.int .i64 (1)] V (RetB V (.agg #[.bool false,.string ⟨#[1]⟩,.bool false,.string ⟨#[]⟩]))) (HA:∀ V,Below w.heap.size w V→Calls Tryz.prog 89 #[.agg #[.bool z1,.string y1,.bool false,.string ⟨#[]⟩],.agg #[.bool false,.string ⟨#[1]⟩,.bool false,.string ⟨#[]⟩]] V (RetB V (.agg #[.bool b3,.string m3,.bool false,.string k3]))) (HC:∀ V,Below w.heap.size w V→Calls Tryz.prog 38 #[.agg #[.bool b2,.string m2,.bool false,.string k2,.bool c2,.string n2,.bool false,.string l2,.bool s2],.agg #[.bool b3,.string m3,.bool false,.string k3]] V (RetB V (.int .i64 c))) :
  Calls Tryz.prog 109 #[.agg #[.bool b1,.string m1,.bool false,.string k1,.bool c1,.string n1,.bool false,.string l1,.bool s1],.agg #[.bool b2,.string m2,.bool false,.string k2,.bool c2,.string n2,.bool false,.string l2,.bool s2]] w (RetB w (.agg #[.bool b3,.string m3,.bool false,.string k3])):=by
 have C1:=Lib.hid HF
 have C2:=Lib.hid HW
 have C3:=Lib.hid HA
 have C4:=Lib.hid HC
 have U1:Hid (∀ {p:Prop} (h:p:=by ((fail_if_success (go_not_at_region 2));(fail_if_success (have:=hLL));obtain ⟨LL,hLL⟩:=lexi X.out;go_cut [6] (fun s0 wx=>∃ g0,s0=.pointer (some ⟨g0,0,none⟩)∧Sb w (LL++[(g0,#[.bool b3,.string m3,.bool false,.string k3],25)]) [] wx);all_goals exact wkc)),p):=@fun _ h=>h
 have RS:=Lib.hid Tryz.results109
 clear HF HW HA HC 
 go_enter Tryz.func109,Tryz.ntmps109
 exact wk0

set_option maxHeartbeats 8000000 in
set_option maxRecDepth 100000 in
theorem simp_rec (w:World) {z1:Bool} {y1:ByteArray} {b1 c1 s1:Bool} {m1 k1 n1 l1:ByteArray} {b2 c2 s2:Bool} {m2 k2 n2 l2:ByteArray} {b5 c5 s5:Bool} {m5 k5 n5 l5:ByteArray} {b6 c6 s6:Bool} {m6 k6 n6 l6:ByteArray} {b7 c7 s7:Bool} {m7 k7 n7 l7:ByteArray} {b8 c8 s8:Bool} {m8 k8 n8 l8:ByteArray} {b3 b4 b9 b10 b11:Bool} {m3 k3 m4 k4 m9 k9 m10 k10 m11 k11:ByteArray} {c:Int} (hc:¬0<c) (HF:∀ V,Below w.heap.size w V→Calls Tryz.prog 52 #[.agg #[.bool b1,.string m1,.bool false,.string k1,.bool c1,.string n1,.bool false,.string l1,.bool s1]] V (RetB V (.agg #[.bool z1,.string y1]))) (HW:∀ V,Below w.heap.size w V→Calls Tryz.prog 73 #[.int .i64 (1)] V (RetB V (.agg #[.bool false,.string ⟨#[1]⟩,.bool false,.string ⟨#[]⟩]))) (HA:∀ V,Below w.heap.size w V→Calls Tryz.prog 89 #[.agg #[.bool z1,.string y1,.bool false,.string ⟨#[]⟩],.agg #[.bool false,.string ⟨#[1]⟩,.bool false,.string ⟨#[]⟩]] V (RetB V (.agg #[.bool b3,.string m3,.bool false,.string k3]))) (HC:∀ V,Below w.heap.size w V→Calls Tryz.prog 38 #[.agg #[.bool b2,.string m2,.bool false,.string k2,.bool c2,.string n2,.bool false,.string l2,.bool s2],.agg #[.bool b3,.string m3,.bool false,.string k3]] V (RetB V (.int .i64 c))) (HN:∀ V,Below w.heap.size w V→Calls Tryz.prog 80 #[.agg #[.bool z1,.string y1,.bool false,.string ⟨#[]⟩]] V (RetB V (.agg #[.bool b4,.string m4,.bool false,.string k4]))) (HS1:∀ V,Below w.heap.size w V→Calls Tryz.prog 44 #[.agg #[.bool b1,.string m1,.bool false,.string k1,.bool c1,.string n1,.bool false,.string l1,.bool s1],.agg #[.bool b4,.string m4,.bool false,.string k4]] V (RetB V (.agg #[.bool b5,.string m5,.bool false,.string k5,.bool c5,.string n5,.bool false,.string l5,.bool s5]))) (HS2:∀ V,Below w.heap.size w V→Calls Tryz.prog 44 #[.agg #[.bool b2,.string m2,.bool false,.string k2,.bool c2,.string n2,.bool false,.string l2,.bool s2],.agg #[.bool b4,.string m4,.bool false,.string k4]] V (RetB V (.agg #[.bool b6,.string m6,.bool false,.string k6,.bool c6,.string n6,.bool false,.string l6,.bool s6]))) (HI1:∀ V,Below w.heap.size w V→Calls Tryz.prog 50 #[.agg #[.bool b6,.string m6,.bool false,.string k6,.bool c6,.string n6,.bool false,.string l6,.bool s6]] V (RetB V (.tuple #[.agg #[.bool b7,.string m7,.bool false,.string k7,.bool c7,.string n7,.bool false,.string l7,.bool s7],.int .i64 0]))) (HI2:∀ V,Below w.heap.size w V→Calls Tryz.prog 50 #[.agg #[.bool b5,.string m5,.bool false,.string k5,.bool c5,.string n5,.bool false,.string l5,.bool s5]] V (RetB V (.tuple #[.agg #[.bool b8,.string m8,.bool false,.string k8,.bool c8,.string n8,.bool false,.string l8,.bool s8],.int .i64 0]))) (HR:∀ V,Below w.heap.size w V→Calls Tryz.prog 109 #[.agg #[.bool b7,.string m7,.bool false,.string k7,.bool c7,.string n7,.bool false,.string l7,.bool s7],.agg #[.bool b8,.string m8,.bool false,.string k8,.bool c8,.string n8,.bool false,.string l8,.bool s8]] V (RetB V (.agg #[.bool b9,.string m9,.bool false,.string k9]))) (HD:∀ V,Below w.heap.size w V→Calls Tryz.prog 79 #[.agg #[.bool false,.string ⟨#[1]⟩,.bool false,.string ⟨#[]⟩],.agg #[.bool b9,.string m9,.bool false,.string k9]] V (RetB V (.agg #[.bool b10,.string m10,.bool false,.string k10]))) (HZ:∀ V,Below w.heap.size w V→Calls Tryz.prog 89 #[.agg #[.bool z1,.string y1,.bool false,.string ⟨#[]⟩],.agg #[.bool b10,.string m10,.bool false,.string k10]] V (RetB V (.agg #[.bool b11,.string m11,.bool false,.string k11]))) :
  Calls Tryz.prog 109 #[.agg #[.bool b1,.string m1,.bool false,.string k1,.bool c1,.string n1,.bool false,.string l1,.bool s1],.agg #[.bool b2,.string m2,.bool false,.string k2,.bool c2,.string n2,.bool false,.string l2,.bool s2]] w (RetB w (.agg #[.bool b11,.string m11,.bool false,.string k11])):=by
 have C1:=Lib.hid HF
 have C2:=Lib.hid HW
 have C3:=Lib.hid HA
 have C4:=Lib.hid HC
 have C5:=Lib.hid HN
 have C6:=Lib.hid HS1
 have C7:=Lib.hid HS2
 have C8:=Lib.hid HI1
 have C9:=Lib.hid HI2
 have C10:=Lib.hid HR
 have C11:=Lib.hid HD
 have C12:=Lib.hid HZ
 have U1:Hid (∀ {p:Prop} (h:p:=by ((fail_if_success (go_not_at_region 2));(fail_if_success (have:=hLL));obtain ⟨LL,hLL⟩:=lexi X.out;go_cut [6] (fun s0 wx=>∃ g0,s0=.pointer (some ⟨g0,0,none⟩)∧Sb w (LL++[(g0,#[.bool b3,.string m3,.bool false,.string k3],25)]) [] wx);all_goals exact wkc)),p):=@fun _ h=>h
 have RS:=Lib.hid Tryz.results109
 clear HF HW HA HC HN HS1 HS2 HI1 HI2 HR HD HZ 
 go_enter Tryz.func109,Tryz.ntmps109
 exact wk0

set_option maxHeartbeats 8000000 in
set_option maxRecDepth 100000 in
theorem simp_open (w:World) {z1:Bool} {y1:ByteArray} {b1 c1 s1:Bool} {m1 k1 n1 l1:ByteArray} {b2 c2 s2:Bool} {m2 k2 n2 l2:ByteArray} {b5 c5 s5:Bool} {m5 k5 n5 l5:ByteArray} {b6 c6 s6:Bool} {m6 k6 n6 l6:ByteArray} {b7 c7 s7:Bool} {m7 k7 n7 l7:ByteArray} {b8 c8 s8:Bool} {m8 k8 n8 l8:ByteArray} {b3 b4 b9 b10 b11:Bool} {m3 k3 m4 k4 m9 k9 m10 k10 m11 k11:ByteArray} {c:Int} (hc:¬0<c) (HF:∀ V,Below w.heap.size w V→Calls Tryz.prog 52 #[.agg #[.bool b1,.string m1,.bool false,.string k1,.bool c1,.string n1,.bool false,.string l1,.bool s1]] V (RetB V (.agg #[.bool z1,.string y1]))) (HW:∀ V,Below w.heap.size w V→Calls Tryz.prog 73 #[.int .i64 (1)] V (RetB V (.agg #[.bool false,.string ⟨#[1]⟩,.bool false,.string ⟨#[]⟩]))) (HA:∀ V,Below w.heap.size w V→Calls Tryz.prog 89 #[.agg #[.bool z1,.string y1,.bool false,.string ⟨#[]⟩],.agg #[.bool false,.string ⟨#[1]⟩,.bool false,.string ⟨#[]⟩]] V (RetB V (.agg #[.bool b3,.string m3,.bool false,.string k3]))) (HC:∀ V,Below w.heap.size w V→Calls Tryz.prog 38 #[.agg #[.bool b2,.string m2,.bool false,.string k2,.bool c2,.string n2,.bool false,.string l2,.bool s2],.agg #[.bool b3,.string m3,.bool false,.string k3]] V (RetB V (.int .i64 c))) (HN:∀ V,Below w.heap.size w V→Calls Tryz.prog 80 #[.agg #[.bool z1,.string y1,.bool false,.string ⟨#[]⟩]] V (RetB V (.agg #[.bool b4,.string m4,.bool false,.string k4]))) (HS1:∀ V,Below w.heap.size w V→Calls Tryz.prog 44 #[.agg #[.bool b1,.string m1,.bool false,.string k1,.bool c1,.string n1,.bool false,.string l1,.bool s1],.agg #[.bool b4,.string m4,.bool false,.string k4]] V (RetB V (.agg #[.bool b5,.string m5,.bool false,.string k5,.bool c5,.string n5,.bool false,.string l5,.bool s5]))) (HS2:∀ V,Below w.heap.size w V→Calls Tryz.prog 44 #[.agg #[.bool b2,.string m2,.bool false,.string k2,.bool c2,.string n2,.bool false,.string l2,.bool s2],.agg #[.bool b4,.string m4,.bool false,.string k4]] V (RetB V (.agg #[.bool b6,.string m6,.bool false,.string k6,.bool c6,.string n6,.bool false,.string l6,.bool s6]))) (HI1:∀ V,Below w.heap.size w V→Calls Tryz.prog 50 #[.agg #[.bool b6,.string m6,.bool false,.string k6,.bool c6,.string n6,.bool false,.string l6,.bool s6]] V (RetB V (.tuple #[.agg #[.bool b7,.string m7,.bool false,.string k7,.bool c7,.string n7,.bool false,.string l7,.bool s7],.int .i64 0]))) (HI2:∀ V,Below w.heap.size w V→Calls Tryz.prog 50 #[.agg #[.bool b5,.string m5,.bool false,.string k5,.bool c5,.string n5,.bool false,.string l5,.bool s5]] V (RetB V (.tuple #[.agg #[.bool false,.string ⟨#[]⟩,.bool false,.string ⟨#[]⟩,.bool false,.string ⟨#[]⟩,.bool false,.string ⟨#[]⟩,.bool false],.int .i64 6]))) (HW2:∀ V,Below w.heap.size w V→Calls Tryz.prog 73 #[.int .i64 (2)] V (RetB V (.agg #[.bool false,.string ⟨#[2]⟩,.bool false,.string ⟨#[]⟩]))) (HS3:∀ V,Below w.heap.size w V→Calls Tryz.prog 44 #[.agg #[.bool b7,.string m7,.bool false,.string k7,.bool c7,.string n7,.bool false,.string l7,.bool s7],.agg #[.bool false,.string ⟨#[2]⟩,.bool false,.string ⟨#[]⟩]] V (RetB V (.agg #[.bool b8,.string m8,.bool false,.string k8,.bool c8,.string n8,.bool false,.string l8,.bool s8]))) (HR:∀ V,Below w.heap.size w V→Calls Tryz.prog 109 #[.agg #[.bool b7,.string m7,.bool false,.string k7,.bool c7,.string n7,.bool false,.string l7,.bool s7],.agg #[.bool b8,.string m8,.bool false,.string k8,.bool c8,.string n8,.bool false,.string l8,.bool s8]] V (RetB V (.agg #[.bool b9,.string m9,.bool false,.string k9]))) (HD:∀ V,Below w.heap.size w V→Calls Tryz.prog 79 #[.agg #[.bool false,.string ⟨#[1]⟩,.bool false,.string ⟨#[]⟩],.agg #[.bool b9,.string m9,.bool false,.string k9]] V (RetB V (.agg #[.bool b10,.string m10,.bool false,.string k10]))) (HZ:∀ V,Below w.heap.size w V→Calls Tryz.prog 89 #[.agg #[.bool z1,.string y1,.bool false,.string ⟨#[]⟩],.agg #[.bool b10,.string m10,.bool false,.string k10]] V (RetB V (.agg #[.bool b11,.string m11,.bool false,.string k11]))) :
  Calls Tryz.prog 109 #[.agg #[.bool b1,.string m1,.bool false,.string k1,.bool c1,.string n1,.bool false,.string l1,.bool s1],.agg #[.bool b2,.string m2,.bool false,.string k2,.bool c2,.string n2,.bool false,.string l2,.bool s2]] w (RetB w (.agg #[.bool b11,.string m11,.bool false,.string k11])):=by
 have C1:=Lib.hid HF
 have C2:=Lib.hid HW
 have C3:=Lib.hid HA
 have C4:=Lib.hid HC
 have C5:=Lib.hid HN
 have C6:=Lib.hid HS1
 have C7:=Lib.hid HS2
 have C8:=Lib.hid HI1
 have C9:=Lib.hid HI2
 have C10:=Lib.hid HW2
 have C11:=Lib.hid HS3
 have C12:=Lib.hid HR
 have C13:=Lib.hid HD
 have C14:=Lib.hid HZ
 have U1:Hid (∀ {p:Prop} (h:p:=by ((fail_if_success (go_not_at_region 2));(fail_if_success (have:=hLL));obtain ⟨LL,hLL⟩:=lexi X.out;go_cut [6] (fun s0 wx=>∃ g0,s0=.pointer (some ⟨g0,0,none⟩)∧Sb w (LL++[(g0,#[.bool b3,.string m3,.bool false,.string k3],25)]) [] wx);all_goals exact wkc)),p):=@fun _ h=>h
 have RS:=Lib.hid Tryz.results109
 clear HF HW HA HC HN HS1 HS2 HI1 HI2 HW2 HS3 HR HD HZ 
 go_enter Tryz.func109,Tryz.ntmps109
 exact wk0

set_option maxHeartbeats 8000000 in
set_option maxRecDepth 100000 in
theorem btw_pos (w:World) {b1 c1 s1:Bool} {m1 k1 n1 l1:ByteArray} {b2 c2 s2:Bool} {m2 k2 n2 l2:ByteArray} {b3:Bool} {m3 k3:ByteArray} {c s:Int} (hc:c<0) (hs:0≤s) (HC1:∀ V,Below w.heap.size w V→Calls Tryz.prog 18 #[.agg #[.bool b1,.string m1,.bool false,.string k1,.bool c1,.string n1,.bool false,.string l1,.bool s1]] V (RetB V (.int .i64 (0)))) (HC2:∀ V,Below w.heap.size w V→Calls Tryz.prog 18 #[.agg #[.bool b2,.string m2,.bool false,.string k2,.bool c2,.string n2,.bool false,.string l2,.bool s2]] V (RetB V (.int .i64 (0)))) (HC:∀ V,Below w.heap.size w V→Calls Tryz.prog 34 #[.agg #[.bool b1,.string m1,.bool false,.string k1,.bool c1,.string n1,.bool false,.string l1,.bool s1],.agg #[.bool b2,.string m2,.bool false,.string k2,.bool c2,.string n2,.bool false,.string l2,.bool s2]] V (RetB V (.int .i64 c))) (HI:∀ V,Below w.heap.size w V→Calls Tryz.prog 70 #[.agg #[.bool b1,.string m1,.bool false,.string k1,.bool c1,.string n1,.bool false,.string l1,.bool s1]] V (RetB V (.bool false))) (HS:∀ V,Below w.heap.size w V→Calls Tryz.prog 39 #[.agg #[.bool b1,.string m1,.bool false,.string k1,.bool c1,.string n1,.bool false,.string l1,.bool s1]] V (RetB V (.int .i64 s))) (HR:∀ V,Below w.heap.size w V→Calls Tryz.prog 109 #[.agg #[.bool b1,.string m1,.bool false,.string k1,.bool c1,.string n1,.bool false,.string l1,.bool s1],.agg #[.bool b2,.string m2,.bool false,.string k2,.bool c2,.string n2,.bool false,.string l2,.bool s2]] V (RetB V (.agg #[.bool b3,.string m3,.bool false,.string k3]))) :
  Calls Tryz.prog 56 #[.agg #[.bool b1,.string m1,.bool false,.string k1,.bool c1,.string n1,.bool false,.string l1,.bool s1],.agg #[.bool b2,.string m2,.bool false,.string k2,.bool c2,.string n2,.bool false,.string l2,.bool s2]] w (RetB w (.tuple #[.agg #[.bool b3,.string m3,.bool false,.string k3],.int .i64 0])):=by
 have C1:=Lib.hid HC1
 have C2:=Lib.hid HC2
 have C3:=Lib.hid HC
 have C4:=Lib.hid HI
 have C5:=Lib.hid HS
 have C6:=Lib.hid HR
 have RS:=Lib.hid Tryz.results56
 clear HC1 HC2 HC HI HS HR 
 go_enter Tryz.func56,Tryz.ntmps56
 exact wk0
end Go.Proofs.YtpnokfgplnmjpaaGreatDoor


namespace Go.Proofs.YtpnokfgplnmjpaaGreatDoor
open Go.RowKit
attribute [local go_sem ↓] Go.wp_at_zero Go.wp_at_succ

theorem floor_parts (b:Bool) {x:Int} {N D:Nat} (hx:x=sgn b N) (hD:0<D) :
  (b=false→x / (D:Int)=sgn b (N / D))∧(b=true→N%D=0→x / (D:Int)=sgn b (N / D))∧(b=true→0<N%D→x / (D:Int)=sgn b (N / D)-1):=by
 subst hx
 have h1:=Nat.div_add_mod N D
 have h2:=Nat.mod_lt N hD
 refine ⟨?_,?_,?_⟩
 · rintro rfl
   simp [sgn]
 · rintro rfl h0
   have h3:(N:Int)=(D:Int)*((N / D:Nat):Int):=by
    rw [h0,Nat.add_zero] at h1
    rw [←Int.natCast_mul,h1]
   simp only [sgn,if_true]
   rw [h3,Int.neg_ediv_of_dvd ⟨_,rfl⟩,Int.mul_ediv_cancel_left _ (by omega)]
 · rintro rfl h0
   have h3:-(N:Int)=((D:Int)-((N%D:Nat):Int))+(-((N / D:Nat):Int)-1)*(D:Int):=by
    have h4:(N:Int)=(D:Int)*((N / D:Nat):Int)+((N%D:Nat):Int):=by
     rw [←Int.natCast_mul,←Int.natCast_add,h1]
    rw [Int.sub_mul,Int.neg_mul,Int.mul_comm (((N / D:Nat):Int)),Int.one_mul]
    omega
   simp only [sgn,if_true]
   rw [h3,Int.add_mul_ediv_right _ _ (by omega),Int.ediv_eq_zero_of_lt (by omega) (by omega),Int.zero_add]

set_option maxHeartbeats 4000000 in
set_option maxRecDepth 100000 in
theorem ratFloor_f {p:Rat} {b bz:Bool} {m k mz:ByteArray} (h:Rq p b m k) (hz:enc (p.num / (p.den:Int))=.agg #[.bool bz,.string mz]) (s1:m.size≤100000) (s2:(mag p.den).size≤100000) (w:World) :
  Calls Tryz.prog 93 #[.agg #[.bool b,.string m,.bool false,.string k]] w (RetB w (.agg #[.bool bz,.string mz])):=by
 by_cases hden:p.den=1
 · obtain rfl:=h.den1 hden
   have hn:=h.num
   rw [hden,show (((1:Nat):Int))=1 from rfl,Int.ediv_one,hn] at hz
   obtain ⟨rfl,rfl⟩:b=bz∧m=mz:=by cases hz;exact ⟨rfl,rfl⟩
   have X:=Lib.hid (((Sb.start w).new #[.bool b,.string m,.bool false,.string ⟨#[]⟩] 25).new #[.bool false,.string ⟨#[]⟩] 23)
   have X:=Lib.hid (X.out.pick [0,1] [(w.heap.size,#[.bool b,.string m,.bool false,.string ⟨#[]⟩],25),(w.heap.size+1,#[.bool false,.string ⟨#[]⟩],23)] [] (by simp) (by decide) (by simp))
   clear h hz hden hn s2
   go_enter Tryz.func93,Tryz.ntmps93
   obtain ⟨a0,a1,a2,a3⟩:=X.out.c4 (i:=0) rfl
   go_wp2_with fail
   refine (isInteger_yes b m _).mono ?_
   rintro e u1 ⟨rfl,hb9⟩
   have X:=Lib.hid (X.out.next hb9)
   clear hb9
   clear a0 a1 a2 a3
   obtain ⟨a0,a1,a2,a3⟩:=X.out.c4 (i:=0) rfl
   obtain ⟨x0,x1⟩:=X.out.c2 (i:=1) rfl
   obtain ⟨y0,y1⟩:=X.out.f2 (i:=1) rfl
   go_wp2
   have X:=Lib.hid (X.out.set2 (i:=1) rfl (.bool b) (.string m))
   obtain ⟨p0,p1⟩:=X.out.c2 (i:=1) rfl
   exact bodyPost_ret (v:=.agg #[.bool b,.string m]) (by simp [results,Tryz.results93,go_sem,p0,p1]) rfl ⟨rfl,X.out.bel⟩
 · obtain rfl:=h.den2 hden
   have HNO:=Lib.hid (isInteger_no b m (mag p.den) (mag_no_nil p.den_nz))
   obtain ⟨br,mr,hr⟩:=enc_form (p.num%(p.den:Int))
   have hd0:=p.den_nz
   have HDM:=Lib.hid (fun V=>divMod_f h.num (enc_mag p.den) (by omega) (by omega) (by omega) hz hr rfl rfl V)
   generalize Go.Proofs.YtpnokfgplnmjpaaGreatDoor.mag p.den=k at *
   have X:=Lib.hid (((Sb.start w).new #[.bool b,.string m,.bool false,.string k] 25).new #[.bool false,.string ⟨#[]⟩] 23)
   have X:=Lib.hid (X.out.pick [0,1] [(w.heap.size,#[.bool b,.string m,.bool false,.string k],25),(w.heap.size+1,#[.bool false,.string ⟨#[]⟩],23)] [] (by simp) (by decide) (by simp))
   clear h hz hden hr hd0 s1 s2
   go_enter Tryz.func93,Tryz.ntmps93
   obtain ⟨a0,a1,a2,a3⟩:=X.out.c4 (i:=0) rfl
   go_wp2_with fail
   refine (HNO.out _).mono ?_
   rintro e u1 ⟨rfl,hb9⟩
   have X:=Lib.hid (X.out.next hb9)
   clear hb9
   clear a0 a1 a2 a3
   obtain ⟨a0,a1,a2,a3⟩:=X.out.c4 (i:=0) rfl
   go_wp2_with fail
   refine (HDM.out _).mono ?_
   rintro e u2 ⟨rfl,hb9⟩
   have X:=Lib.hid (X.out.next hb9)
   clear hb9
   clear a0 a1 a2 a3
   go_upto_region 4 with fail
   have X:=Lib.hid ((X.out.new #[.bool bz,.string mz] 23).new #[.bool br,.string mr] 23)
   obtain ⟨W1,hV⟩:=wexi X.out
   rw [←hV] at X ⊢
   clear hV
   obtain ⟨a0,a1⟩:=X.out.c2 (i:=2) rfl
   obtain ⟨x0,x1⟩:=X.out.c2 (i:=1) rfl
   obtain ⟨y0,y1⟩:=X.out.f2 (i:=1) rfl
   go_wp2
   have X:=Lib.hid (X.out.set2 (i:=1) rfl (.bool bz) (.string mz))
   obtain ⟨p0,p1⟩:=X.out.c2 (i:=1) rfl
   exact bodyPost_ret (v:=.agg #[.bool bz,.string mz]) (by simp [results,Tryz.results93,go_sem,p0,p1]) rfl ⟨rfl,X.out.bel⟩

set_option maxHeartbeats 8000000 in
set_option maxRecDepth 100000 in
theorem rFloor_pos {p:Rat} {bz:Bool} {m k mz:ByteArray} (h:Rq p false m k) (hz:enc (p.num / (p.den:Int))=.agg #[.bool bz,.string mz]) (s1:m.size≤9000) (s2:(mag p.den).size≤9000) (w:World) :
  Calls Tryz.prog 106 #[.agg #[.bool false,.string m,.bool false,.string k]] w (RetB w (.agg #[.bool bz,.string mz,.bool false,.string ⟨#[]⟩])):=by
 have hk:k.size≤9000:=by
  by_cases hd:p.den=1
  · rw [h.den1 hd];exact Nat.zero_le _
  · rw [h.den2 hd];exact s2
 have HF:=Lib.hid (fun V=>rof2 h (by omega) (by omega) V)
 have n0:nd p.num.natAbs≤9000:=by unfold nd;rw [←h.mag.2];exact s1
 have n1':nd p.den≤9000:=s2
 have hfl:=floor_parts false h.sg p.den_pos
 obtain ⟨bo,mo,ho⟩:=enc_form (sgn false (p.num.natAbs / p.den))
 rw [hfl.1 rfl,ho] at hz
 obtain ⟨rfl,rfl⟩:bz=bo∧mz=mo:=by cases hz;exact ⟨rfl,rfl⟩
 have HPOS:=Lib.hid p.den_pos
 have HWH:=Lib.hid (fun (A:Option Addr) (n c:Nat) (V:World) (ht:Tr V A n c (p.num.natAbs / p.den))=>rwhole false A n c (p.num.natAbs / p.den) V (by have:=ht.ln;have:=nd_div p.num.natAbs p.den;omega) ht.cap ht.dg)
 have hwh:=fun (A:Option Addr) (n c:Nat) (V:World) (ht:Tr V A n c (p.num.natAbs / p.den))=>rwhole false A n c (p.num.natAbs / p.den) V (by have:=ht.ln;have:=nd_div p.num.natAbs p.den;omega) ht.cap ht.dg
 unfold RetZ at hwh
 simp only [ho] at hwh
 have HWH:=Lib.hid hwh
 have HN0:=Lib.hid n0
 have HN1:=Lib.hid n1'
 have X:=Lib.hid (((Sb.start w).new #[.bool false,.string m,.bool false,.string k] 25).new #[.bool false,.string ⟨#[]⟩,.bool false,.string ⟨#[]⟩] 25)
 have X:=Lib.hid (X.out.pick [0,1] [(w.heap.size,#[.bool false,.string m,.bool false,.string k],25),(w.heap.size+1,#[.bool false,.string ⟨#[]⟩,.bool false,.string ⟨#[]⟩],25)] [] (by simp) (by decide) (by simp))
 clear h hz hfl ho hk n0 n1' s1 s2 hwh
 generalize p.num.natAbs=NN at *
 generalize p.den=DD at *
 go_enter Tryz.func106,Tryz.ntmps106
 obtain ⟨a0,a1,a2,a3⟩:=X.out.c4 (i:=0) rfl
 go_wp2_with fail
 refine (HF.out _).mono ?_
 rintro e u1 ⟨A1,n1,c1,B1,n2,c2,rfl,ht9,hu9,hb9,hf9,hg9⟩
 have X:=Lib.hid (X.out.row2 hb9 ht9 hu9 hf9 hg9)
 clear hb9 ht9 hu9 hf9 hg9 a0 a1 a2 a3
 go_upto_region 2 with fail
 have X:=Lib.hid (X.out.new #[.bool false,.slice A1 n1 c1,.slice B1 n2 c2] 110)
 obtain ⟨gF,hgF⟩:∃ g,g=u1.heap.size:=⟨_,rfl⟩
 rw [←hgF] at X ⊢
 obtain ⟨W1,hV⟩:=wexi X.out
 rw [←hV] at X ⊢
 clear hV
 clear hgF
 obtain ⟨f0,f1,f2⟩:=X.out.c3 (i:=2) rfl
 go_wp2_with fail
 refine (rdivide _ _ _ _ _ _ _ _ _ (by have:=(X.out.rw (i:=0) rfl).ln;have:=HN0.out;omega) (by have:=(X.out.rw (i:=1) rfl).ln;have:=HN1.out;omega) (X.out.rw (i:=0) rfl) (X.out.rw (i:=1) rfl) HPOS.out).mono ?_
 rintro e u2 ⟨A4,n4,c4,A5,n5,c5,rfl,ht4,ht5,hb9⟩
 have X:=Lib.hid (X.out.next hb9)
 have T4:=Lib.hid ht4
 have hn5:=ht5.ln
 clear hb9 ht4 ht5 f0 f1 f2
 clear hn5
 obtain ⟨f0,f1,f2⟩:=X.out.c3 (i:=2) rfl
 go_wp2_with fail
 refine (HWH.out _ _ _ _ T4.out).mono ?_
 rintro e u3 ⟨rfl,hb9⟩
 have X:=Lib.hid (X.out.next hb9)
 clear hb9 f0 f1 f2
 go_upto_region 4 with fail
 have X:=Lib.hid (X.out.new #[.bool bz,.string mz,.bool false,.string ⟨#[]⟩] 25)
 obtain ⟨gO,hgO⟩:∃ g,g=u3.heap.size:=⟨_,rfl⟩
 rw [←hgO] at X ⊢
 obtain ⟨W2,hV⟩:=wexi X.out
 rw [←hV] at X ⊢
 clear hV
 clear hgO
 obtain ⟨f0,f1,f2⟩:=X.out.c3 (i:=2) rfl
 obtain ⟨o0,o1,o2,o3⟩:=X.out.c4 (i:=3) rfl
 obtain ⟨x0,x1,x2,x3⟩:=X.out.c4 (i:=1) rfl
 obtain ⟨y0,y1,y2,y3⟩:=X.out.f4 (i:=1) rfl
 go_wp2
 have X:=Lib.hid (X.out.set4 (i:=1) rfl (.bool bz) (.string mz) (.bool false) (.string ⟨#[]⟩))
 obtain ⟨p0,p1,p2,p3⟩:=X.out.c4 (i:=1) rfl
 exact bodyPost_ret (v:=.agg #[.bool bz,.string mz,.bool false,.string ⟨#[]⟩]) (by simp [results,Tryz.results106,go_sem,p0,p1,p2,p3]) rfl ⟨rfl,X.out.bel⟩

set_option maxHeartbeats 8000000 in
set_option maxRecDepth 100000 in
theorem rFloor_neg {p:Rat} {bz:Bool} {m k mz:ByteArray} (h:Rq p true m k) (hrem:p.num.natAbs%p.den=0) (hz:enc (p.num / (p.den:Int))=.agg #[.bool bz,.string mz]) (s1:m.size≤9000) (s2:(mag p.den).size≤9000) (w:World) :
  Calls Tryz.prog 106 #[.agg #[.bool true,.string m,.bool false,.string k]] w (RetB w (.agg #[.bool bz,.string mz,.bool false,.string ⟨#[]⟩])):=by
 have hk:k.size≤9000:=by
  by_cases hd:p.den=1
  · rw [h.den1 hd];exact Nat.zero_le _
  · rw [h.den2 hd];exact s2
 have HF:=Lib.hid (fun V=>rof2 h (by omega) (by omega) V)
 have n0:nd p.num.natAbs≤9000:=by unfold nd;rw [←h.mag.2];exact s1
 have n1':nd p.den≤9000:=s2
 have hfl:=floor_parts true h.sg p.den_pos
 obtain ⟨bo,mo,ho⟩:=enc_form (sgn true (p.num.natAbs / p.den))
 rw [hfl.2.1 rfl hrem,ho] at hz
 obtain ⟨rfl,rfl⟩:bz=bo∧mz=mo:=by cases hz;exact ⟨rfl,rfl⟩
 have hr0:nd (p.num.natAbs%p.den)=0:=by rw [hrem];exact nd_zero
 have HPOS:=Lib.hid p.den_pos
 have HWH:=Lib.hid (fun (A:Option Addr) (n c:Nat) (V:World) (ht:Tr V A n c (p.num.natAbs / p.den))=>rwhole true A n c (p.num.natAbs / p.den) V (by have:=ht.ln;have:=nd_div p.num.natAbs p.den;omega) ht.cap ht.dg)
 have hwh:=fun (A:Option Addr) (n c:Nat) (V:World) (ht:Tr V A n c (p.num.natAbs / p.den))=>rwhole true A n c (p.num.natAbs / p.den) V (by have:=ht.ln;have:=nd_div p.num.natAbs p.den;omega) ht.cap ht.dg
 unfold RetZ at hwh
 simp only [ho] at hwh
 have HWH:=Lib.hid hwh
 have HN0:=Lib.hid n0
 have HN1:=Lib.hid n1'
 have HR0:=Lib.hid hr0
 have X:=Lib.hid (((Sb.start w).new #[.bool true,.string m,.bool false,.string k] 25).new #[.bool false,.string ⟨#[]⟩,.bool false,.string ⟨#[]⟩] 25)
 have X:=Lib.hid (X.out.pick [0,1] [(w.heap.size,#[.bool true,.string m,.bool false,.string k],25),(w.heap.size+1,#[.bool false,.string ⟨#[]⟩,.bool false,.string ⟨#[]⟩],25)] [] (by simp) (by decide) (by simp))
 clear h hz hfl ho hk n0 n1' s1 s2 hwh hrem hr0
 generalize p.num.natAbs=NN at *
 generalize p.den=DD at *
 go_enter Tryz.func106,Tryz.ntmps106
 obtain ⟨a0,a1,a2,a3⟩:=X.out.c4 (i:=0) rfl
 go_wp2_with fail
 refine (HF.out _).mono ?_
 rintro e u1 ⟨A1,n1,c1,B1,n2,c2,rfl,ht9,hu9,hb9,hf9,hg9⟩
 have X:=Lib.hid (X.out.row2 hb9 ht9 hu9 hf9 hg9)
 clear hb9 ht9 hu9 hf9 hg9 a0 a1 a2 a3
 go_upto_region 2 with fail
 have X:=Lib.hid (X.out.new #[.bool true,.slice A1 n1 c1,.slice B1 n2 c2] 110)
 obtain ⟨gF,hgF⟩:∃ g,g=u1.heap.size:=⟨_,rfl⟩
 rw [←hgF] at X ⊢
 obtain ⟨W1,hV⟩:=wexi X.out
 rw [←hV] at X ⊢
 clear hV
 clear hgF
 obtain ⟨f0,f1,f2⟩:=X.out.c3 (i:=2) rfl
 go_wp2_with fail
 refine (rdivide _ _ _ _ _ _ _ _ _ (by have:=(X.out.rw (i:=0) rfl).ln;have:=HN0.out;omega) (by have:=(X.out.rw (i:=1) rfl).ln;have:=HN1.out;omega) (X.out.rw (i:=0) rfl) (X.out.rw (i:=1) rfl) HPOS.out).mono ?_
 rintro e u2 ⟨A4,n4,c4,A5,n5,c5,rfl,ht4,ht5,hb9⟩
 have X:=Lib.hid (X.out.next hb9)
 have T4:=Lib.hid ht4
 have hn5:=ht5.ln
 clear hb9 ht4 ht5 f0 f1 f2
 obtain rfl:n5=0:=by rw [hn5];exact HR0.out
 clear hn5
 obtain ⟨f0,f1,f2⟩:=X.out.c3 (i:=2) rfl
 go_wp2_with fail
 refine (HWH.out _ _ _ _ T4.out).mono ?_
 rintro e u3 ⟨rfl,hb9⟩
 have X:=Lib.hid (X.out.next hb9)
 clear hb9 f0 f1 f2
 go_upto_region 4 with fail
 have X:=Lib.hid (X.out.new #[.bool bz,.string mz,.bool false,.string ⟨#[]⟩] 25)
 obtain ⟨gO,hgO⟩:∃ g,g=u3.heap.size:=⟨_,rfl⟩
 rw [←hgO] at X ⊢
 obtain ⟨W2,hV⟩:=wexi X.out
 rw [←hV] at X ⊢
 clear hV
 clear hgO
 obtain ⟨f0,f1,f2⟩:=X.out.c3 (i:=2) rfl
 obtain ⟨o0,o1,o2,o3⟩:=X.out.c4 (i:=3) rfl
 obtain ⟨x0,x1,x2,x3⟩:=X.out.c4 (i:=1) rfl
 obtain ⟨y0,y1,y2,y3⟩:=X.out.f4 (i:=1) rfl
 go_wp2
 have X:=Lib.hid (X.out.set4 (i:=1) rfl (.bool bz) (.string mz) (.bool false) (.string ⟨#[]⟩))
 obtain ⟨p0,p1,p2,p3⟩:=X.out.c4 (i:=1) rfl
 exact bodyPost_ret (v:=.agg #[.bool bz,.string mz,.bool false,.string ⟨#[]⟩]) (by simp [results,Tryz.results106,go_sem,p0,p1,p2,p3]) rfl ⟨rfl,X.out.bel⟩

set_option maxHeartbeats 8000000 in
set_option maxRecDepth 100000 in
theorem rFloor_rem {p:Rat} {bz:Bool} {m k mz:ByteArray} (h:Rq p true m k) (hrem:0<p.num.natAbs%p.den) (hz:enc (p.num / (p.den:Int))=.agg #[.bool bz,.string mz]) (s1:m.size≤9000) (s2:(mag p.den).size≤9000) (w:World) :
  Calls Tryz.prog 106 #[.agg #[.bool true,.string m,.bool false,.string k]] w (RetB w (.agg #[.bool bz,.string mz,.bool false,.string ⟨#[]⟩])):=by
 have hk:k.size≤9000:=by
  by_cases hd:p.den=1
  · rw [h.den1 hd];exact Nat.zero_le _
  · rw [h.den2 hd];exact s2
 have HF:=Lib.hid (fun V=>rof2 h (by omega) (by omega) V)
 have n0:nd p.num.natAbs≤9000:=by unfold nd;rw [←h.mag.2];exact s1
 have n1':nd p.den≤9000:=s2
 have hfl:=floor_parts true h.sg p.den_pos
 obtain ⟨bo,mo,ho⟩:=enc_form (sgn true (p.num.natAbs / p.den))
 have h1:=rq_int ho
 have h2:=rq_int hz
 obtain ⟨b1,m1,k1,h3⟩:=Rq.some_ (1:Rat)
 have h1s:Sz 1 (1:Rat):=⟨by decide,by decide⟩
 have y3:=h1s.m h3 (by omega)
 have hmo:mo.size≤10000:=by
  rw [(enc_parts ho).2,sgn_natAbs]
  exact Nat.le_trans (nd_div p.num.natAbs p.den) (by omega)
 have hd1:(mag ((sgn true (p.num.natAbs / p.den):Int):Rat).den).size≤10000:=by rw [Rat.den_intCast];exact (h1s.m h3 (by omega)).2
 have HOF:=Lib.hid (fun V=>rOf_f (x:=1) (y:=1) (by rw [divInt_1];exact h3) (by decide) (by decide) (by decide) (by decide) (by decide) V)
 have HSB:=Lib.hid (fun V=>rSub_f h1 h3 (by rw [hfl.2.2 rfl hrem] at h2;rw [show ((sgn true (p.num.natAbs / p.den):Int):Rat)-1=((sgn true (p.num.natAbs / p.den)-1:Int):Rat) from (Rat.intCast_sub _ 1).symm];exact h2) hmo y3.1 hd1 y3.2 V)
 have hr0:0<nd (p.num.natAbs%p.den):=nd_pos hrem
 have HPOS:=Lib.hid p.den_pos
 have HWH:=Lib.hid (fun (A:Option Addr) (n c:Nat) (V:World) (ht:Tr V A n c (p.num.natAbs / p.den))=>rwhole true A n c (p.num.natAbs / p.den) V (by have:=ht.ln;have:=nd_div p.num.natAbs p.den;omega) ht.cap ht.dg)
 have hwh:=fun (A:Option Addr) (n c:Nat) (V:World) (ht:Tr V A n c (p.num.natAbs / p.den))=>rwhole true A n c (p.num.natAbs / p.den) V (by have:=ht.ln;have:=nd_div p.num.natAbs p.den;omega) ht.cap ht.dg
 unfold RetZ at hwh
 simp only [ho] at hwh
 have HWH:=Lib.hid hwh
 have HN0:=Lib.hid n0
 have HN1:=Lib.hid n1'
 have HR0:=Lib.hid hr0
 have X:=Lib.hid (((Sb.start w).new #[.bool true,.string m,.bool false,.string k] 25).new #[.bool false,.string ⟨#[]⟩,.bool false,.string ⟨#[]⟩] 25)
 have X:=Lib.hid (X.out.pick [0,1] [(w.heap.size,#[.bool true,.string m,.bool false,.string k],25),(w.heap.size+1,#[.bool false,.string ⟨#[]⟩,.bool false,.string ⟨#[]⟩],25)] [] (by simp) (by decide) (by simp))
 clear h hz hfl ho hk n0 n1' s1 s2 hwh hrem hr0 h1 h2 h3 h1s y3 hmo hd1
 generalize p.num.natAbs=NN at *
 generalize p.den=DD at *
 go_enter Tryz.func106,Tryz.ntmps106
 obtain ⟨a0,a1,a2,a3⟩:=X.out.c4 (i:=0) rfl
 go_wp2_with fail
 refine (HF.out _).mono ?_
 rintro e u1 ⟨A1,n1,c1,B1,n2,c2,rfl,ht9,hu9,hb9,hf9,hg9⟩
 have X:=Lib.hid (X.out.row2 hb9 ht9 hu9 hf9 hg9)
 clear hb9 ht9 hu9 hf9 hg9 a0 a1 a2 a3
 go_upto_region 2 with fail
 have X:=Lib.hid (X.out.new #[.bool true,.slice A1 n1 c1,.slice B1 n2 c2] 110)
 obtain ⟨gF,hgF⟩:∃ g,g=u1.heap.size:=⟨_,rfl⟩
 rw [←hgF] at X ⊢
 obtain ⟨W1,hV⟩:=wexi X.out
 rw [←hV] at X ⊢
 clear hV
 clear hgF
 obtain ⟨f0,f1,f2⟩:=X.out.c3 (i:=2) rfl
 go_wp2_with fail
 refine (rdivide _ _ _ _ _ _ _ _ _ (by have:=(X.out.rw (i:=0) rfl).ln;have:=HN0.out;omega) (by have:=(X.out.rw (i:=1) rfl).ln;have:=HN1.out;omega) (X.out.rw (i:=0) rfl) (X.out.rw (i:=1) rfl) HPOS.out).mono ?_
 rintro e u2 ⟨A4,n4,c4,A5,n5,c5,rfl,ht4,ht5,hb9⟩
 have X:=Lib.hid (X.out.next hb9)
 have T4:=Lib.hid ht4
 have hn5:=ht5.ln
 clear hb9 ht4 ht5 f0 f1 f2
 have hn6:0<n5:=by rw [hn5];exact HR0.out
 have hn7:decide (0<(n5:Int))=true:=decide_eq_true (by omega)
 clear hn5
 obtain ⟨f0,f1,f2⟩:=X.out.c3 (i:=2) rfl
 go_wp2_with fail
 refine (HWH.out _ _ _ _ T4.out).mono ?_
 rintro e u3 ⟨rfl,hb9⟩
 have X:=Lib.hid (X.out.next hb9)
 clear hb9 f0 f1 f2
 go_upto_region 4 with fail
 have X:=Lib.hid (X.out.new #[.bool bo,.string mo,.bool false,.string ⟨#[]⟩] 25)
 obtain ⟨gO,hgO⟩:∃ g,g=u3.heap.size:=⟨_,rfl⟩
 rw [←hgO] at X ⊢
 obtain ⟨W2,hV⟩:=wexi X.out
 rw [←hV] at X ⊢
 clear hV
 clear hgO
 obtain ⟨f0,f1,f2⟩:=X.out.c3 (i:=2) rfl
 go_upto_region 5 with fail
 clear f0 f1 f2
 refine wp_region_late (S:=fun w'=>(w'.cell? ⟨gO,0,none⟩=some (.bool bo)∧w'.cell? ⟨gO,1,none⟩=some (.string mo)∧w'.cell? ⟨gO,2,none⟩=some (.bool false)∧w'.cell? ⟨gO,3,none⟩=some (.string ⟨#[]⟩))) (L:=[3]) (by kernel_rfl) ?_
 have X:=Lib.hid X.out.drew
 obtain ⟨V0,hV⟩:=wexi X.out
 rw [←hV] at X ⊢
 clear hV
 refine tk (i:=0) (oi:=⟨some 29,_,_,_,_,_⟩) (v:=_) rfl (by kernel_rfl) (fun _ _ _ h=>h) (X.out.c4 (i:=3) rfl) (Or.inl ⟨by rfl,by intro w hSw;(try dsimp only at hSw);(first | (go_simp;done) | (go_simp;with_reducible rfl))⟩) ?_
 try simp only [Act.put,seti,set0,setS]
 refine wpLate_one (i:=1) (o:=⟨some 30,_,_,_,_,_⟩) (by kernel_rfl) rfl (fun K hK=>?_)
 go_simp
 (go_at_call 59;refine (HOF.out _).mono ?_;rintro e u1 ⟨rfl,hb9⟩;have X:=Lib.hid (X.out.next hb9);clear hb9)
 try go_wp2_with fail
 refine hK.out _ _ (Or.inr (fun _=>X.out.c4 (i:=3) rfl)) ?_
 clear hK K
 try simp only [Act.put,seti,set0,setS]
 refine wpLate_one (i:=2) (o:=⟨some 31,_,_,_,_,_⟩) (by kernel_rfl) rfl (fun K hK=>?_)
 go_simp
 (go_at_call 83;refine (HSB.out _).mono ?_;rintro e u2 ⟨rfl,hb9⟩;have X:=Lib.hid (X.out.next hb9);clear hb9)
 try go_wp2_with fail
 refine hK.out _ _ (Or.inr (fun _=>X.out.c4 (i:=3) rfl)) ?_
 clear hK K
 try simp only [Act.put,seti,set0,setS]
 refine wpLate_one (i:=3) (o:=⟨none,_,_,_,_,_⟩) (by kernel_rfl) rfl (fun K hK=>?_)
 obtain ⟨x0,x1,x2,x3⟩:=X.out.c4 (i:=3) rfl
 obtain ⟨y0,y1,y2,y3⟩:=X.out.f4 (i:=3) rfl
 have X:=Lib.hid (X.out.set4 (i:=3) rfl (.bool bz) (.string mz) (.bool false) (.string ⟨#[]⟩))
 go_simp
 refine hK.out _ _ (Or.inl (by rfl)) ?_
 clear hK K x0 x1 x2 x3 y0 y1 y2 y3
 try simp only [Act.put,seti,set0,setS]
 obtain ⟨W3,hV⟩:=wexi X.out
 rw [←hV] at X ⊢
 clear hV
 refine wpLate_done (by kernel_rfl) ?_ _
 obtain ⟨o0,o1,o2,o3⟩:=X.out.c4 (i:=3) rfl
 obtain ⟨x0,x1,x2,x3⟩:=X.out.c4 (i:=1) rfl
 obtain ⟨y0,y1,y2,y3⟩:=X.out.f4 (i:=1) rfl
 go_wp2
 have X:=Lib.hid (X.out.set4 (i:=1) rfl (.bool bz) (.string mz) (.bool false) (.string ⟨#[]⟩))
 obtain ⟨p0,p1,p2,p3⟩:=X.out.c4 (i:=1) rfl
 exact bodyPost_ret (v:=.agg #[.bool bz,.string mz,.bool false,.string ⟨#[]⟩]) (by simp [results,Tryz.results106,go_sem,p0,p1,p2,p3]) rfl ⟨rfl,X.out.bel⟩

theorem rFloor_f {p:Rat} {b bz:Bool} {m k mz:ByteArray} (h:Rq p b m k) (hz:enc (p.num / (p.den:Int))=.agg #[.bool bz,.string mz]) (s1:m.size≤9000) (s2:(mag p.den).size≤9000) (w:World) :
  Calls Tryz.prog 106 #[.agg #[.bool b,.string m,.bool false,.string k]] w (RetB w (.agg #[.bool bz,.string mz,.bool false,.string ⟨#[]⟩])):=by
 cases b
 · exact rFloor_pos h hz s1 s2 w
 · rcases Nat.eq_zero_or_pos (p.num.natAbs%p.den) with e | e
   · exact rFloor_neg h e hz s1 s2 w
   · exact rFloor_rem h e hz s1 s2 w
end Go.Proofs.YtpnokfgplnmjpaaGreatDoor


namespace Go.Proofs.YtpnokfgplnmjpaaGreatDoor
open Go.RowKit
attribute [local go_sem ↓] Go.wp_at_zero Go.wp_at_succ
attribute [local go_sem] undef yielded

set_option maxHeartbeats 1000000 in
set_option maxRecDepth 100000 in
theorem num_any (b:Bool) (m:ByteArray) (c:Bool) (k:ByteArray) (w:World):Calls Tryz.prog 96 #[.agg #[.bool b,.string m,.bool c,.string k]] w (RetB w (.agg #[.bool b,.string m])):=by
 have KK:=Lib.hid (Kb.start w #[.bool b,.string m,.bool c,.string k] #[.bool false,.string ⟨#[]⟩] 25 23)
 obtain ⟨p0,p1,p2,p3⟩:=blk4 KK.out.k1
 obtain ⟨t0,t1,f0,f1⟩:=blk_cells KK.out.k2
 go_enter Tryz.func96,Tryz.ntmps96
 go_wp2
 exact bodyPost_ret (v:=.agg #[.bool b,.string m]) (by simp [results,Tryz.results96,go_sem,t0,t1]) rfl ⟨rfl,(Kb.start w _ _ _ _).bel⟩

end Go.Proofs.YtpnokfgplnmjpaaGreatDoor


namespace Go.Proofs.YtpnokfgplnmjpaaGreatDoor
open Go.RowKit
attribute [local go_sem ↓] Go.wp_at_zero Go.wp_at_succ

def Zs (n:Nat) (z:Int):Prop:=z.natAbs<256^n
theorem Zs.sz {n:Nat} {z:Int} (hz:Zs n z) {b:Bool} {m:ByteArray} (h:enc z=.agg #[.bool b,.string m]):m.size≤n:=by
 rw [(enc_parts h).2]
 exact mag_size_le hz
theorem Zs.mul {n m:Nat} {x y:Int} (hx:Zs n x) (hy:Zs m y):Zs (n+m) (x*y):=by
 unfold Zs
 rw [Int.natAbs_mul,Nat.pow_add]
 exact Nat.mul_lt_mul'' hx hy
theorem Zs.root {n:Nat} {x:Int} (h:Zs n x):Zs n ((rt x.natAbs:Nat):Int):=by
 unfold Zs
 rw [Int.natAbs_natCast]
 exact Nat.lt_of_le_of_lt (rt_self _) h
theorem Zs.below {n:Nat} {x:Int} (h:Zs n x):Zs (n+1) (-1-x):=by
 unfold Zs at h ⊢
 rw [Nat.pow_succ]
 have:=Nat.pow_pos (a:=256) (n:=n) (by decide)
 generalize 256^n=Z at *
 omega
theorem Sz.n {n:Nat} {q:Rat} (h:Sz n q):Zs n q.num:=h.1
theorem Sz.d {n:Nat} {q:Rat} (h:Sz n q):Zs n (q.den:Int):=by unfold Zs;rw [Int.natAbs_natCast];exact h.2
def fN (x:Sg.Rl):Int:=((x.p.den:Int)*(x.a.den:Int))*(x.p.den:Int)*x.a.num
def floorV (x:Sg.Rl):Int:=if x.a=0 then x.p.num / (x.p.den:Int) else (x.p.num*(x.a.den:Int)+(if x.s<0 then -1-((rt (fN x).natAbs:Nat):Int) else ((rt (fN x).natAbs:Nat):Int))) / ((x.p.den:Int)*(x.a.den:Int))
theorem fN_pos {x:Sg.Rl} (h:0<x.a):0≤fN x:=by
 unfold fN
 have h1:0<x.a.num:=num_pos_iff.2 h
 have h2:(0:Int)<x.p.den:=by have:=x.p.den_pos;omega
 have h3:(0:Int)<x.a.den:=by have:=x.a.den_pos;omega
 exact Int.le_of_lt (Int.mul_pos (Int.mul_pos (Int.mul_pos h2 h3) h2) h1)

set_option maxHeartbeats 8000000 in
set_option maxRecDepth 100000 in
theorem rfloor_rat {p:Rat} {b1:Bool} {m1 k1:ByteArray} {s1:Bool} {b2:Bool} {m2:ByteArray} (hp:Rq p b1 m1 k1) (hz:enc (p.num / (p.den:Int))=.agg #[.bool b2,.string m2]) (zp:Sz 10000 p) (w:World) :
  Calls Tryz.prog 52 #[.agg #[.bool b1,.string m1,.bool false,.string k1,.bool false,.string ⟨#[]⟩,.bool false,.string ⟨#[]⟩,.bool s1]] w (RetB w (.agg #[.bool b2,.string m2])):=by
 have t1:=zp.m hp (Nat.le_refl _)
 have C1:=kn w (isRat_yes b1 s1 m1 k1)
 have C2:=kn w (ratFloor_f hp hz (by omega) (by omega))
 have RS:=Lib.hid Tryz.results52
 clear hp hz zp t1
 go_enter Tryz.func52,Tryz.ntmps52
 exact wk0

theorem zret {F:FuncId} {A:Array Value} {z:Int} {b:Bool} {m:ByteArray} (hz:enc z=.agg #[.bool b,.string m]) {w:World} (h:Calls Tryz.prog F A w (RetZ w z)):Calls Tryz.prog F A w (RetB w (.agg #[.bool b,.string m])):=by
 unfold RetZ at h;rw [hz] at h;exact h
theorem Zs.of_size {n:Nat} {x:Int} {b:Bool} {m:ByteArray} (hx:enc x=.agg #[.bool b,.string m]) (s:m.size≤n):Zs n x:=by
 unfold Zs
 have:=bval_lt m
 rw [(enc_parts hx).2,bval_mag] at this
 exact Nat.lt_of_lt_of_le this (Nat.pow_le_pow_right (by decide) (by rw [←(enc_parts hx).2];exact s))
theorem Zs.plus {n:Nat} {x y:Int} (zx:Zs n x) (zy:Zs n y):Zs (n+1) (x+y):=by
 unfold Zs at *
 rw [Nat.pow_succ]
 have:=Nat.pow_pos (a:=256) (n:=n) (by decide)
 generalize 256^n=Z at *
 omega
theorem sum_size {x y:Int} {b1 b2 b3:Bool} {m1 m2 m3:ByteArray} (hx:enc x=.agg #[.bool b1,.string m1]) (hy:enc y=.agg #[.bool b2,.string m2]) (s1:m1.size≤9000) (s2:m2.size≤9000) (h:enc (x+y)=.agg #[.bool b3,.string m3]):m3.size≤100000:=by
 have zx:=Zs.of_size hx s1
 have zy:=Zs.of_size hy s2
 have:=zx.plus zy
 exact Nat.le_trans (this.sz h) (by decide)

set_option maxHeartbeats 8000000 in
set_option maxRecDepth 100000 in
theorem rfloor_irr {x:Sg.Rl} {b1 c1 s1:Bool} {m1 k1 n1 l1:ByteArray} {b2:Bool} {m2:ByteArray} (hx:Rv x b1 m1 k1 c1 n1 l1 s1) (hx0:0<x.a) (hne:x.a≠0) (hz:enc (floorV x)=.agg #[.bool b2,.string m2]) (zx:Rz 2000 x) (w:World) (hE:Env w) :
  Calls Tryz.prog 52 #[.agg #[.bool b1,.string m1,.bool false,.string k1,.bool c1,.string n1,.bool false,.string l1,.bool s1]] w (RetB w (.agg #[.bool b2,.string m2])):=by
 have hs:s1=decide (x.s<0):=hx.neg
 obtain ⟨f,hf⟩:∃ f:Int,f=floorV x:=⟨_,rfl⟩
 rw [←hf] at hz
 unfold floorV at hf
 rw [if_neg hne] at hf
 obtain ⟨N,hN⟩:∃ N,N=fN x:=⟨_,rfl⟩
 have hN0:0≤N:=by rw [hN];exact fN_pos hx0
 have zN:Zs 8000 N:=by rw [hN];exact ((zx.p.d.mul zx.r.d).mul zx.p.d).mul zx.r.n
 have eN:N=(x.p.den:Int)*(x.a.den:Int)*(x.p.den:Int)*x.a.num:=hN
 rw [←hN] at hf
 have zb:=zx.p.d
 have zd:=zx.r.d
 have hb0:(x.p.den:Int)≠0:=by have:=x.p.den_pos;omega
 have hd0:(x.a.den:Int)≠0:=by have:=x.a.den_pos;omega
 have eb:enc (x.p.den:Int)=.agg #[.bool false,.string (mag x.p.den)]:=enc_mag _
 have ed:enc (x.a.den:Int)=.agg #[.bool false,.string (mag x.a.den)]:=enc_mag _
 have ea:=hx.r.num
 have en:=hx.p.num
 have za:=zx.r.n
 have zn:=zx.p.n
 have C2:=Lib.hid (fun V (hb:Below w.heap.size w V)=>den_f hx.p V (hE.next hb))
 have C3:=Lib.hid (fun V (hb:Below w.heap.size w V)=>den_f hx.r V (hE.next hb))
 generalize (x.p.den:Int)=b at *
 generalize (x.a.den:Int)=d at *
 generalize mag x.p.den=yb at *
 generalize mag x.a.den=yd at *
 generalize x.p.num=n at *
 generalize x.a.num=a at *
 obtain ⟨z1,y1,e1⟩:=enc_form (b*d)
 obtain ⟨z2,y2,e2⟩:=enc_form (n*d)
 obtain ⟨z3,y3,e3⟩:=enc_form (b*d*b)
 obtain ⟨z4,y4,e4⟩:=enc_form N
 have zr:=zN.root
 have hr0:enc ((rt N.natAbs:Nat):Int)=enc ((rt N.natAbs:Nat):Int):=rfl
 obtain ⟨z5,y5,e5⟩:=enc_form ((rt N.natAbs:Nat):Int)
 have C10:=Lib.hid (fun V (_:Below w.heap.size w V)=>sqrt_f e4 hN0 (Nat.le_trans (zN.sz e4) (by decide)) e5 V)
 generalize ((rt N.natAbs:Nat):Int)=r at *
 obtain ⟨z6,y6,e6⟩:=enc_form (-1:Int)
 obtain ⟨z7,y7,e7⟩:=enc_form (-1-r)
 obtain ⟨z8,y8,e8⟩:=enc_form (n*d+r)
 obtain ⟨z9,y9,e9⟩:=enc_form (n*d+(-1-r))
 obtain ⟨z10,y10,e10⟩:=enc_form ((n*d+(if s1 then -1-r else r))%(b*d))
 have t1:=(zb.mul zd).sz e1
 have t2:=(zn.mul zd).sz e2
 have t3:=((zb.mul zd).mul zb).sz e3
 have t4:=zN.sz e4
 have t5:=zr.sz e5
 have t6:y6.size≤1:=Zs.sz (n:=1) (z:=-1) (by unfold Zs;decide) e6
 have t7:=zr.below.sz e7
 have t8:y8.size≤100000:=sum_size e2 e5 (by omega) (by omega) e8
 have t9:y9.size≤100000:=sum_size e2 e7 (by omega) (by omega) e9
 have tb:=zb.sz eb
 have td:=zd.sz ed
 have tn:=zn.sz en
 have ta:=za.sz ea
 have hden:b*d≠0:=Int.mul_ne_zero hb0 hd0
 have C15:=Lib.hid (fun V (_:Below w.heap.size w V) (h:s1=false)=>divMod_f e8 e1 (Nat.le_trans t8 (by decide)) (by omega) hden hz (by rw [h] at e10;exact e10) (by rw [hf,if_neg (by rw [h] at hs;simpa using hs.symm)]) rfl V)
 have C16:=Lib.hid (fun V (_:Below w.heap.size w V) (h:s1=true)=>divMod_f e9 e1 (Nat.le_trans t9 (by decide)) (by omega) hden hz (by rw [h] at e10;exact e10) (by rw [hf,if_pos (by rw [h] at hs;simpa using hs.symm)]) rfl V)
 have C11:=Lib.hid (fun V (_:Below w.heap.size w V)=>zret e6 (fromInt_any (-1) (by omega) (by omega) V))
 have C1:=kn w (isRat_no hx hne)
 have C4:=kn w (mul_f eb ed (by omega) (by omega) e1 rfl)
 have C5:=kn w (num_any b1 m1 false k1)
 have C6:=kn w (mul_f en ed (by omega) (by omega) e2 rfl)
 have C7:=kn w (mul_f e1 eb (by omega) (by omega) e3 rfl)
 have C8:=kn w (num_any c1 n1 false l1)
 have C9:=kn w (mul_f e3 ea (by omega) (by omega) e4 eN)
 have C12:=kn w (sub_f e6 e5 (by omega) (by omega) e7 rfl)
 have C13:=kn w (add_f e2 e5 (by omega) (by omega) e8 rfl)
 have C14:=kn w (add_f e2 e7 (by omega) (by omega) e9 rfl)
 have Z1:Hid (∀ {p:Prop} (h:p:=by ((refine (fun (hh:s1=false)=>?_) ?_;rotate_left;assumption;subst hh);all_goals exact wk)),p):=@fun _ h=>h
 have Z2:Hid (∀ {p:Prop} (h:p:=by ((refine (fun (hh:s1=true)=>?_) ?_;rotate_left;assumption;subst hh);all_goals exact wk)),p):=@fun _ h=>h
 have U1:Hid (∀ {p:Prop} (h:p:=by ((fail_if_success (go_not_at_region 3));(fail_if_success (have:=hLL));obtain ⟨LL,hLL⟩:=lexi X.out;go_cut [3,4] (fun s0 s1 wx=>∃ g0 g1,s0=.pointer (some ⟨g0,0,none⟩)∧s1=.pointer (some ⟨g1,0,none⟩)∧Sb w (LL++[(g0,#[.bool false,.string yb],23),(g1,#[.bool false,.string yd],23)]) [] wx);all_goals exact wkc)),p):=@fun _ h=>h
 have U2:Hid (∀ {p:Prop} (h:p:=by ((fail_if_success (go_not_at_region 5));(fail_if_success (have:=hLL));obtain ⟨LL,hLL⟩:=lexi X.out;go_cut [6] (fun s0 wx=>∃ g0,s0=.pointer (some ⟨g0,0,none⟩)∧Sb w (LL++[(g0,#[.bool z2,.string y2],23)]) [] wx);all_goals exact wkc)),p):=@fun _ h=>h
 have U3:Hid (∀ {p:Prop} (h:p:=by ((fail_if_success (go_not_at_region 6));(fail_if_success (have:=hLL));obtain ⟨LL,hLL⟩:=lexi X.out;go_cut [7] (fun s0 wx=>∃ g0,s0=.pointer (some ⟨g0,0,none⟩)∧Sb w (LL++[(g0,#[.bool z5,.string y5],23)]) [] wx);all_goals exact wkc)),p):=@fun _ h=>h
 have U4:Hid (∀ {p:Prop} (h:p:=by ((fail_if_success (go_not_at_region 9));(fail_if_success (have:=hLL));obtain ⟨LL,hLL⟩:=lexi X.out;go_cut [9,10] (fun s0 s1 wx=>∃ g0 g1,s0=.pointer (some ⟨g0,0,none⟩)∧s1=.pointer (some ⟨g1,0,none⟩)∧Sb w (LL++[(g0,#[.bool b2,.string m2],23),(g1,#[.bool z10,.string y10],23)]) [] wx);all_goals exact wkc)),p):=@fun _ h=>h
 have M1:Hid (∀ {p:Prop} (h:p:=by first | exact ⟨_,_,rfl,rfl,X.out.pick [0,1,2,3] _ [] rfl (by decide) (by simp)⟩ | exact ⟨_,_,rfl,rfl,X.out.pick [0,1,3,2] _ [] rfl (by decide) (by simp)⟩ | exact ⟨_,_,rfl,rfl,X.out.pick [0,1,2,3,4,5,6,7,8] _ [] rfl (by decide) (by simp)⟩ | exact ⟨_,_,rfl,rfl,X.out.pick [0,1,2,3,4,5,6,8,7] _ [] rfl (by decide) (by simp)⟩),p):=@fun _ h=>h
 have RS:=Lib.hid Tryz.results52
 clear hx hx0 hz zx hs hf hN hN0 zN eN zb zd hb0 hd0 eb ed ea en za zn e1 e2 e3 e4 zr hr0 e5 e6 e7 e8 e9 e10 t1 t2 t3 t4 t5 t6 t7 t8 t9 tb td tn ta hden hE
 go_enter Tryz.func52,Tryz.ntmps52
 exact wk0

theorem rfloor_f {x:Sg.Rl} {b1 c1 s1:Bool} {m1 k1 n1 l1:ByteArray} {b2:Bool} {m2:ByteArray} (hx:Rv x b1 m1 k1 c1 n1 l1 s1) (ok:x.Ok) (hz:enc (floorV x)=.agg #[.bool b2,.string m2]) (zx:Rz 2000 x) (w:World) (hE:Env w):Calls Tryz.prog 52 #[.agg #[.bool b1,.string m1,.bool false,.string k1,.bool c1,.string n1,.bool false,.string l1,.bool s1]] w (RetB w (.agg #[.bool b2,.string m2])):=by
 by_cases h0:x.a=0
 · obtain ⟨rfl,rfl,rfl⟩:=hx.r.nought.1 h0
   unfold floorV at hz
   rw [if_pos h0] at hz
   exact rfloor_rat hx.p hz (zx.p.up (by omega)) w
 · exact rfloor_irr hx (ok_pos ok h0) h0 hz zx w hE
end Go.Proofs.YtpnokfgplnmjpaaGreatDoor


namespace Go.Proofs.YtpnokfgplnmjpaaGreatDoor
open Go.RowKit
attribute [local go_sem ↓] Go.wp_at_zero Go.wp_at_succ

theorem nsq_nat {n r:Nat} (h1:r*r<n) (h2:n<(r+1)*(r+1)):Sg.NSq (n:Rat):=by
 intro z e
 obtain ⟨s1,s2⟩:=sq_parts z
 rw [e] at s1
 have h3:((n:Rat)).num=(n:Int):=rfl
 rw [h3] at s1
 generalize z.num.natAbs=m at s1
 have h4:n=m*m:=by exact_mod_cast s1
 rcases Nat.lt_or_ge r m with h | h
 · have:=Nat.mul_le_mul (show r+1≤m from h) (show r+1≤m from h)
   rw [←h4] at this
   exact absurd h2 (Nat.not_lt.2 this)
 · have:=Nat.mul_le_mul h h
   rw [←h4] at this
   exact absurd h1 (Nat.not_lt.2 this)
theorem nsq_two:Sg.NSq 2:=nsq_nat (n:=2) (r:=1) (by decide) (by decide)
theorem rt_two:rt 2=1:=rt_unique (by decide) (by decide)
theorem rt_four:rt 4=2:=rt_unique (by decide) (by decide)
theorem qo:Rq 1 false ⟨#[1]⟩ ⟨#[]⟩:=⟨by rw [←mag_one];exact enc_mag 1,by rw [show (1:Rat).den=1 from rfl];exact dm_one.symm⟩
theorem qt:Rq 2 false ⟨#[2]⟩ ⟨#[]⟩:=⟨by rw [←mag_2];exact enc_mag 2,by rw [show (2:Rat).den=1 from rfl];exact dm_one.symm⟩
theorem qz:Rq 0 false ⟨#[]⟩ ⟨#[]⟩:=Rq.zero
theorem Rq.int_ {q:Rat} (h:q.den=1):∃ b m,Rq q b m ⟨#[]⟩:=by
 obtain ⟨b,m,k,hq⟩:=Rq.some_ q
 obtain rfl:=hq.den1 h
 exact ⟨b,m,hq⟩

set_option maxHeartbeats 8000000 in
theorem simp3 {bmo:Bool} {mmo:ByteArray} {bmt:Bool} {mmt:ByteArray} {bth:Bool} {mth:ByteArray} {bei:Bool} {mei:ByteArray} {bst:Bool} {mst:ByteArray} {bh3:Bool} {mh3:ByteArray} {kh3:ByteArray} {bh1:Bool} {mh1:ByteArray} {kh1:ByteArray} {bot:Bool} {mot:ByteArray} {kot:ByteArray} {bs3:Bool} {ms3:ByteArray} {ks3:ByteArray} {bt7:Bool} {mt7:ByteArray} {kt7:ByteArray} {btn:Bool} {mtn:ByteArray} {ktn:ByteArray} (qmo:Rq (-1) bmo mmo ⟨#[]⟩) (qmt:Rq (-2) bmt mmt ⟨#[]⟩) (qth:Rq (3) bth mth ⟨#[]⟩) (qei:Rq (8) bei mei ⟨#[]⟩) (qst:Rq (72) bst mst ⟨#[]⟩) (qh3:Rq (3 / 2) bh3 mh3 kh3) (qh1:Rq (1 / 2) bh1 mh1 kh1) (qot:Rq (1 / 3) bot mot kot) (qs3:Rq (7 / 3) bs3 ms3 ks3) (qt7:Rq (3 / 7) bt7 mt7 kt7) (qtn:Rq (10 / 7) btn mtn ktn) (w:World) (hE:Env w) :
  Calls Tryz.prog 109 #[.agg #[.bool false,.string ⟨#[1]⟩,.bool false,.string ⟨#[]⟩,.bool false,.string ⟨#[2]⟩,.bool false,.string ⟨#[]⟩,.bool false],.agg #[.bool bth,.string mth,.bool false,.string ⟨#[]⟩,.bool false,.string ⟨#[2]⟩,.bool false,.string ⟨#[]⟩,.bool false]] w (RetB w (.agg #[.bool bth,.string mth,.bool false,.string ⟨#[]⟩])):=by
 have HF:∀ V,Below w.heap.size w V→Calls Tryz.prog 52 #[.agg #[.bool false,.string ⟨#[1]⟩,.bool false,.string ⟨#[]⟩,.bool false,.string ⟨#[2]⟩,.bool false,.string ⟨#[]⟩,.bool false]] V (RetB V (.agg #[.bool false,.string ⟨#[2]⟩])):=fun V hb=>rfloor_f (⟨qo,qt,by decide⟩:Rv (⟨1,2,1⟩:Sg.Rl) false ⟨#[1]⟩ ⟨#[]⟩ false ⟨#[2]⟩ ⟨#[]⟩ false) (show ((⟨1,2,1⟩:Sg.Rl)).Ok from ⟨.inl rfl,.inr ⟨by decide +kernel,nsq_two⟩⟩) (by rw [show floorV (⟨1,2,1⟩:Sg.Rl)=2 from by unfold floorV fN;simp [rt_two,rt_four]<;>decide +kernel];exact qt.num) (show Rz 2000 (⟨1,2,1⟩:Sg.Rl) from ⟨(show Sz 1 _ from ⟨by decide +kernel,by decide +kernel⟩).up (by omega),(show Sz 1 _ from ⟨by decide +kernel,by decide +kernel⟩).up (by omega)⟩) V (hE.next hb)
 have HW:∀ V,Below w.heap.size w V→Calls Tryz.prog 73 #[.int .i64 (1)] V (RetB V (.agg #[.bool false,.string ⟨#[1]⟩,.bool false,.string ⟨#[]⟩])):=fun V hb=>rFromInt_f (x:=1) qo.num (by omega) (by omega) V
 have HA:∀ V,Below w.heap.size w V→Calls Tryz.prog 89 #[.agg #[.bool false,.string ⟨#[2]⟩,.bool false,.string ⟨#[]⟩],.agg #[.bool false,.string ⟨#[1]⟩,.bool false,.string ⟨#[]⟩]] V (RetB V (.agg #[.bool bth,.string mth,.bool false,.string ⟨#[]⟩])):=fun V hb=>add_z qt qo (by rw [show ((2:Rat)+(1))=3 from by decide +kernel];exact qth) ((show Sz 1 (2) from ⟨by decide +kernel,by decide +kernel⟩).up (by omega)) ((show Sz 1 (1) from ⟨by decide +kernel,by decide +kernel⟩).up (by omega)) V (hE.next hb)
 have HC:∀ V,Below w.heap.size w V→Calls Tryz.prog 38 #[.agg #[.bool bth,.string mth,.bool false,.string ⟨#[]⟩,.bool false,.string ⟨#[2]⟩,.bool false,.string ⟨#[]⟩,.bool false],.agg #[.bool bth,.string mth,.bool false,.string ⟨#[]⟩]] V (RetB V (.int .i64 (1))):=fun V hb=>by have h:=crat_f (⟨qth,qt,by decide⟩:Rv (⟨3,2,1⟩:Sg.Rl) bth mth ⟨#[]⟩ false ⟨#[2]⟩ ⟨#[]⟩ false) (show ((⟨3,2,1⟩:Sg.Rl)).Ok from ⟨.inl rfl,.inr ⟨by decide +kernel,nsq_two⟩⟩) qth (show Rz 1500 (⟨3,2,1⟩:Sg.Rl) from ⟨(show Sz 1 _ from ⟨by decide +kernel,by decide +kernel⟩).up (by omega),(show Sz 1 _ from ⟨by decide +kernel,by decide +kernel⟩).up (by omega)⟩) ((show Sz 1 (3) from ⟨by decide +kernel,by decide +kernel⟩).up (by omega)) V (hE.next hb);rw [show Sg.cmpX (⟨3,2,1⟩:Sg.Rl) (Sg.Rl.of (3))=1 from by decide +kernel] at h;exact h
 exact simp_next w (by decide) HF HW HA HC

set_option maxHeartbeats 8000000 in
theorem simp2 {bmo:Bool} {mmo:ByteArray} {bmt:Bool} {mmt:ByteArray} {bth:Bool} {mth:ByteArray} {bei:Bool} {mei:ByteArray} {bst:Bool} {mst:ByteArray} {bh3:Bool} {mh3:ByteArray} {kh3:ByteArray} {bh1:Bool} {mh1:ByteArray} {kh1:ByteArray} {bot:Bool} {mot:ByteArray} {kot:ByteArray} {bs3:Bool} {ms3:ByteArray} {ks3:ByteArray} {bt7:Bool} {mt7:ByteArray} {kt7:ByteArray} {btn:Bool} {mtn:ByteArray} {ktn:ByteArray} (qmo:Rq (-1) bmo mmo ⟨#[]⟩) (qmt:Rq (-2) bmt mmt ⟨#[]⟩) (qth:Rq (3) bth mth ⟨#[]⟩) (qei:Rq (8) bei mei ⟨#[]⟩) (qst:Rq (72) bst mst ⟨#[]⟩) (qh3:Rq (3 / 2) bh3 mh3 kh3) (qh1:Rq (1 / 2) bh1 mh1 kh1) (qot:Rq (1 / 3) bot mot kot) (qs3:Rq (7 / 3) bs3 ms3 ks3) (qt7:Rq (3 / 7) bt7 mt7 kt7) (qtn:Rq (10 / 7) btn mtn ktn) (w:World) (hE:Env w) :
  Calls Tryz.prog 109 #[.agg #[.bool false,.string ⟨#[2]⟩,.bool false,.string ⟨#[]⟩,.bool false,.string ⟨#[]⟩,.bool false,.string ⟨#[]⟩,.bool false],.agg #[.bool false,.string ⟨#[1]⟩,.bool false,.string ⟨#[]⟩,.bool false,.string ⟨#[2]⟩,.bool false,.string ⟨#[]⟩,.bool false]] w (RetB w (.agg #[.bool bs3,.string ms3,.bool false,.string ks3])):=by
 have HF:∀ V,Below w.heap.size w V→Calls Tryz.prog 52 #[.agg #[.bool false,.string ⟨#[2]⟩,.bool false,.string ⟨#[]⟩,.bool false,.string ⟨#[]⟩,.bool false,.string ⟨#[]⟩,.bool false]] V (RetB V (.agg #[.bool false,.string ⟨#[2]⟩])):=fun V hb=>rfloor_f (⟨qt,Rq.zero,by decide⟩:Rv (⟨2,0,1⟩:Sg.Rl) false ⟨#[2]⟩ ⟨#[]⟩ false ⟨#[]⟩ ⟨#[]⟩ false) (show ((⟨2,0,1⟩:Sg.Rl)).Ok from ⟨.inl rfl,.inl ⟨rfl,rfl⟩⟩) (by rw [show floorV (⟨2,0,1⟩:Sg.Rl)=2 from by unfold floorV fN;simp [rt_two,rt_four]<;>decide +kernel];exact qt.num) (show Rz 2000 (⟨2,0,1⟩:Sg.Rl) from ⟨(show Sz 1 _ from ⟨by decide +kernel,by decide +kernel⟩).up (by omega),(show Sz 1 _ from ⟨by decide +kernel,by decide +kernel⟩).up (by omega)⟩) V (hE.next hb)
 have HW:∀ V,Below w.heap.size w V→Calls Tryz.prog 73 #[.int .i64 (1)] V (RetB V (.agg #[.bool false,.string ⟨#[1]⟩,.bool false,.string ⟨#[]⟩])):=fun V hb=>rFromInt_f (x:=1) qo.num (by omega) (by omega) V
 have HA:∀ V,Below w.heap.size w V→Calls Tryz.prog 89 #[.agg #[.bool false,.string ⟨#[2]⟩,.bool false,.string ⟨#[]⟩],.agg #[.bool false,.string ⟨#[1]⟩,.bool false,.string ⟨#[]⟩]] V (RetB V (.agg #[.bool bth,.string mth,.bool false,.string ⟨#[]⟩])):=fun V hb=>add_z qt qo (by rw [show ((2:Rat)+(1))=3 from by decide +kernel];exact qth) ((show Sz 1 (2) from ⟨by decide +kernel,by decide +kernel⟩).up (by omega)) ((show Sz 1 (1) from ⟨by decide +kernel,by decide +kernel⟩).up (by omega)) V (hE.next hb)
 have HC:∀ V,Below w.heap.size w V→Calls Tryz.prog 38 #[.agg #[.bool false,.string ⟨#[1]⟩,.bool false,.string ⟨#[]⟩,.bool false,.string ⟨#[2]⟩,.bool false,.string ⟨#[]⟩,.bool false],.agg #[.bool bth,.string mth,.bool false,.string ⟨#[]⟩]] V (RetB V (.int .i64 (-1))):=fun V hb=>by have h:=crat_f (⟨qo,qt,by decide⟩:Rv (⟨1,2,1⟩:Sg.Rl) false ⟨#[1]⟩ ⟨#[]⟩ false ⟨#[2]⟩ ⟨#[]⟩ false) (show ((⟨1,2,1⟩:Sg.Rl)).Ok from ⟨.inl rfl,.inr ⟨by decide +kernel,nsq_two⟩⟩) qth (show Rz 1500 (⟨1,2,1⟩:Sg.Rl) from ⟨(show Sz 1 _ from ⟨by decide +kernel,by decide +kernel⟩).up (by omega),(show Sz 1 _ from ⟨by decide +kernel,by decide +kernel⟩).up (by omega)⟩) ((show Sz 1 (3) from ⟨by decide +kernel,by decide +kernel⟩).up (by omega)) V (hE.next hb);rw [show Sg.cmpX (⟨1,2,1⟩:Sg.Rl) (Sg.Rl.of (3))=-1 from by decide +kernel] at h;exact h
 have HN:∀ V,Below w.heap.size w V→Calls Tryz.prog 80 #[.agg #[.bool false,.string ⟨#[2]⟩,.bool false,.string ⟨#[]⟩]] V (RetB V (.agg #[.bool bmt,.string mmt,.bool false,.string ⟨#[]⟩])):=fun V hb=>ratNeg_f qt (by rw [show (-(2):Rat)=-2 from by decide +kernel];exact qmt) V
 have HS1:∀ V,Below w.heap.size w V→Calls Tryz.prog 44 #[.agg #[.bool false,.string ⟨#[2]⟩,.bool false,.string ⟨#[]⟩,.bool false,.string ⟨#[]⟩,.bool false,.string ⟨#[]⟩,.bool false],.agg #[.bool bmt,.string mmt,.bool false,.string ⟨#[]⟩]] V (RetB V (.agg #[.bool false,.string ⟨#[]⟩,.bool false,.string ⟨#[]⟩,.bool false,.string ⟨#[]⟩,.bool false,.string ⟨#[]⟩,.bool false])):=fun V hb=>rshift_f (⟨qt,Rq.zero,by decide⟩:Rv (⟨2,0,1⟩:Sg.Rl) false ⟨#[2]⟩ ⟨#[]⟩ false ⟨#[]⟩ ⟨#[]⟩ false) qmt (by rw [show (((⟨2,0,1⟩:Sg.Rl)).p+(-2):Rat)=0 from by decide +kernel];exact qz) (show Rz 5000 (⟨2,0,1⟩:Sg.Rl) from ⟨(show Sz 1 _ from ⟨by decide +kernel,by decide +kernel⟩).up (by omega),(show Sz 1 _ from ⟨by decide +kernel,by decide +kernel⟩).up (by omega)⟩) ((show Sz 1 (-2) from ⟨by decide +kernel,by decide +kernel⟩).up (by omega)) V (hE.next hb)
 have HS2:∀ V,Below w.heap.size w V→Calls Tryz.prog 44 #[.agg #[.bool false,.string ⟨#[1]⟩,.bool false,.string ⟨#[]⟩,.bool false,.string ⟨#[2]⟩,.bool false,.string ⟨#[]⟩,.bool false],.agg #[.bool bmt,.string mmt,.bool false,.string ⟨#[]⟩]] V (RetB V (.agg #[.bool bmo,.string mmo,.bool false,.string ⟨#[]⟩,.bool false,.string ⟨#[2]⟩,.bool false,.string ⟨#[]⟩,.bool false])):=fun V hb=>rshift_f (⟨qo,qt,by decide⟩:Rv (⟨1,2,1⟩:Sg.Rl) false ⟨#[1]⟩ ⟨#[]⟩ false ⟨#[2]⟩ ⟨#[]⟩ false) qmt (by rw [show (((⟨1,2,1⟩:Sg.Rl)).p+(-2):Rat)=-1 from by decide +kernel];exact qmo) (show Rz 5000 (⟨1,2,1⟩:Sg.Rl) from ⟨(show Sz 1 _ from ⟨by decide +kernel,by decide +kernel⟩).up (by omega),(show Sz 1 _ from ⟨by decide +kernel,by decide +kernel⟩).up (by omega)⟩) ((show Sz 1 (-2) from ⟨by decide +kernel,by decide +kernel⟩).up (by omega)) V (hE.next hb)
 have HI1:∀ V,Below w.heap.size w V→Calls Tryz.prog 50 #[.agg #[.bool bmo,.string mmo,.bool false,.string ⟨#[]⟩,.bool false,.string ⟨#[2]⟩,.bool false,.string ⟨#[]⟩,.bool false]] V (RetB V (.tuple #[.agg #[.bool false,.string ⟨#[1]⟩,.bool false,.string ⟨#[]⟩,.bool false,.string ⟨#[2]⟩,.bool false,.string ⟨#[]⟩,.bool false],.int .i64 0])):=fun V hb=>rinv_irr (m:=-1) (⟨qmo,qt,by decide⟩:Rv (⟨-1,2,1⟩:Sg.Rl) bmo mmo ⟨#[]⟩ false ⟨#[2]⟩ ⟨#[]⟩ false) (by decide +kernel) (by decide +kernel) (by decide +kernel) (by rw [show (((⟨-1,2,1⟩:Sg.Rl)).p*(-1):Rat)=1 from by decide +kernel];exact qo) (by rw [show (((⟨-1,2,1⟩:Sg.Rl)).a*((-1)*(-1)):Rat)=2 from by decide +kernel];exact qt) (show Rz 600 (⟨-1,2,1⟩:Sg.Rl) from ⟨(show Sz 1 _ from ⟨by decide +kernel,by decide +kernel⟩).up (by omega),(show Sz 1 _ from ⟨by decide +kernel,by decide +kernel⟩).up (by omega)⟩) V (hE.next hb)
 have HI2:∀ V,Below w.heap.size w V→Calls Tryz.prog 50 #[.agg #[.bool false,.string ⟨#[]⟩,.bool false,.string ⟨#[]⟩,.bool false,.string ⟨#[]⟩,.bool false,.string ⟨#[]⟩,.bool false]] V (RetB V (.tuple #[.agg #[.bool false,.string ⟨#[]⟩,.bool false,.string ⟨#[]⟩,.bool false,.string ⟨#[]⟩,.bool false,.string ⟨#[]⟩,.bool false],.int .i64 6])):=fun V hb=>rinv_0 V
 have HW2:∀ V,Below w.heap.size w V→Calls Tryz.prog 73 #[.int .i64 (2)] V (RetB V (.agg #[.bool false,.string ⟨#[2]⟩,.bool false,.string ⟨#[]⟩])):=fun V hb=>rFromInt_f (x:=2) qt.num (by omega) (by omega) V
 have HS3:∀ V,Below w.heap.size w V→Calls Tryz.prog 44 #[.agg #[.bool false,.string ⟨#[1]⟩,.bool false,.string ⟨#[]⟩,.bool false,.string ⟨#[2]⟩,.bool false,.string ⟨#[]⟩,.bool false],.agg #[.bool false,.string ⟨#[2]⟩,.bool false,.string ⟨#[]⟩]] V (RetB V (.agg #[.bool bth,.string mth,.bool false,.string ⟨#[]⟩,.bool false,.string ⟨#[2]⟩,.bool false,.string ⟨#[]⟩,.bool false])):=fun V hb=>rshift_f (⟨qo,qt,by decide⟩:Rv (⟨1,2,1⟩:Sg.Rl) false ⟨#[1]⟩ ⟨#[]⟩ false ⟨#[2]⟩ ⟨#[]⟩ false) qt (by rw [show (((⟨1,2,1⟩:Sg.Rl)).p+(2):Rat)=3 from by decide +kernel];exact qth) (show Rz 5000 (⟨1,2,1⟩:Sg.Rl) from ⟨(show Sz 1 _ from ⟨by decide +kernel,by decide +kernel⟩).up (by omega),(show Sz 1 _ from ⟨by decide +kernel,by decide +kernel⟩).up (by omega)⟩) ((show Sz 1 (2) from ⟨by decide +kernel,by decide +kernel⟩).up (by omega)) V (hE.next hb)
 have HR:∀ V,Below w.heap.size w V→Calls Tryz.prog 109 #[.agg #[.bool false,.string ⟨#[1]⟩,.bool false,.string ⟨#[]⟩,.bool false,.string ⟨#[2]⟩,.bool false,.string ⟨#[]⟩,.bool false],.agg #[.bool bth,.string mth,.bool false,.string ⟨#[]⟩,.bool false,.string ⟨#[2]⟩,.bool false,.string ⟨#[]⟩,.bool false]] V (RetB V (.agg #[.bool bth,.string mth,.bool false,.string ⟨#[]⟩])):=fun V hb=>simp3 qmo qmt qth qei qst qh3 qh1 qot qs3 qt7 qtn V (hE.next hb)
 have HD:∀ V,Below w.heap.size w V→Calls Tryz.prog 79 #[.agg #[.bool false,.string ⟨#[1]⟩,.bool false,.string ⟨#[]⟩],.agg #[.bool bth,.string mth,.bool false,.string ⟨#[]⟩]] V (RetB V (.agg #[.bool bot,.string mot,.bool false,.string kot])):=fun V hb=>ratio_f qo qth (by rw [show ((1) / (3):Rat)=1 / 3 from by decide +kernel];exact qot) (by decide +kernel) ((show Sz 1 (1) from ⟨by decide +kernel,by decide +kernel⟩).up (by omega)) ((show Sz 1 (3) from ⟨by decide +kernel,by decide +kernel⟩).up (by omega)) V (hE.next hb)
 have HZ:∀ V,Below w.heap.size w V→Calls Tryz.prog 89 #[.agg #[.bool false,.string ⟨#[2]⟩,.bool false,.string ⟨#[]⟩],.agg #[.bool bot,.string mot,.bool false,.string kot]] V (RetB V (.agg #[.bool bs3,.string ms3,.bool false,.string ks3])):=fun V hb=>add_z qt qot (by rw [show ((2:Rat)+(1 / 3))=7 / 3 from by decide +kernel];exact qs3) ((show Sz 1 (2) from ⟨by decide +kernel,by decide +kernel⟩).up (by omega)) ((show Sz 1 (1 / 3) from ⟨by decide +kernel,by decide +kernel⟩).up (by omega)) V (hE.next hb)
 exact simp_open w (by decide) HF HW HA HC HN HS1 HS2 HI1 HI2 HW2 HS3 HR HD HZ

set_option maxHeartbeats 8000000 in
theorem simp1 {bmo:Bool} {mmo:ByteArray} {bmt:Bool} {mmt:ByteArray} {bth:Bool} {mth:ByteArray} {bei:Bool} {mei:ByteArray} {bst:Bool} {mst:ByteArray} {bh3:Bool} {mh3:ByteArray} {kh3:ByteArray} {bh1:Bool} {mh1:ByteArray} {kh1:ByteArray} {bot:Bool} {mot:ByteArray} {kot:ByteArray} {bs3:Bool} {ms3:ByteArray} {ks3:ByteArray} {bt7:Bool} {mt7:ByteArray} {kt7:ByteArray} {btn:Bool} {mtn:ByteArray} {ktn:ByteArray} (qmo:Rq (-1) bmo mmo ⟨#[]⟩) (qmt:Rq (-2) bmt mmt ⟨#[]⟩) (qth:Rq (3) bth mth ⟨#[]⟩) (qei:Rq (8) bei mei ⟨#[]⟩) (qst:Rq (72) bst mst ⟨#[]⟩) (qh3:Rq (3 / 2) bh3 mh3 kh3) (qh1:Rq (1 / 2) bh1 mh1 kh1) (qot:Rq (1 / 3) bot mot kot) (qs3:Rq (7 / 3) bs3 ms3 ks3) (qt7:Rq (3 / 7) bt7 mt7 kt7) (qtn:Rq (10 / 7) btn mtn ktn) (w:World) (hE:Env w) :
  Calls Tryz.prog 109 #[.agg #[.bool false,.string ⟨#[]⟩,.bool false,.string ⟨#[]⟩,.bool false,.string ⟨#[2]⟩,.bool false,.string ⟨#[]⟩,.bool false],.agg #[.bool bh3,.string mh3,.bool false,.string kh3,.bool false,.string ⟨#[]⟩,.bool false,.string ⟨#[]⟩,.bool false]] w (RetB w (.agg #[.bool btn,.string mtn,.bool false,.string ktn])):=by
 have HF:∀ V,Below w.heap.size w V→Calls Tryz.prog 52 #[.agg #[.bool false,.string ⟨#[]⟩,.bool false,.string ⟨#[]⟩,.bool false,.string ⟨#[2]⟩,.bool false,.string ⟨#[]⟩,.bool false]] V (RetB V (.agg #[.bool false,.string ⟨#[1]⟩])):=fun V hb=>rfloor_f (⟨qz,qt,by decide⟩:Rv (⟨0,2,1⟩:Sg.Rl) false ⟨#[]⟩ ⟨#[]⟩ false ⟨#[2]⟩ ⟨#[]⟩ false) (show ((⟨0,2,1⟩:Sg.Rl)).Ok from ⟨.inl rfl,.inr ⟨by decide +kernel,nsq_two⟩⟩) (by rw [show floorV (⟨0,2,1⟩:Sg.Rl)=1 from by unfold floorV fN;simp [rt_two,rt_four]<;>decide +kernel];exact qo.num) (show Rz 2000 (⟨0,2,1⟩:Sg.Rl) from ⟨(show Sz 1 _ from ⟨by decide +kernel,by decide +kernel⟩).up (by omega),(show Sz 1 _ from ⟨by decide +kernel,by decide +kernel⟩).up (by omega)⟩) V (hE.next hb)
 have HW:∀ V,Below w.heap.size w V→Calls Tryz.prog 73 #[.int .i64 (1)] V (RetB V (.agg #[.bool false,.string ⟨#[1]⟩,.bool false,.string ⟨#[]⟩])):=fun V hb=>rFromInt_f (x:=1) qo.num (by omega) (by omega) V
 have HA:∀ V,Below w.heap.size w V→Calls Tryz.prog 89 #[.agg #[.bool false,.string ⟨#[1]⟩,.bool false,.string ⟨#[]⟩],.agg #[.bool false,.string ⟨#[1]⟩,.bool false,.string ⟨#[]⟩]] V (RetB V (.agg #[.bool false,.string ⟨#[2]⟩,.bool false,.string ⟨#[]⟩])):=fun V hb=>add_z qo qo (by rw [show ((1:Rat)+(1))=2 from by decide +kernel];exact qt) ((show Sz 1 (1) from ⟨by decide +kernel,by decide +kernel⟩).up (by omega)) ((show Sz 1 (1) from ⟨by decide +kernel,by decide +kernel⟩).up (by omega)) V (hE.next hb)
 have HC:∀ V,Below w.heap.size w V→Calls Tryz.prog 38 #[.agg #[.bool bh3,.string mh3,.bool false,.string kh3,.bool false,.string ⟨#[]⟩,.bool false,.string ⟨#[]⟩,.bool false],.agg #[.bool false,.string ⟨#[2]⟩,.bool false,.string ⟨#[]⟩]] V (RetB V (.int .i64 (-1))):=fun V hb=>by have h:=crat_f (⟨qh3,Rq.zero,by decide⟩:Rv (⟨3 / 2,0,1⟩:Sg.Rl) bh3 mh3 kh3 false ⟨#[]⟩ ⟨#[]⟩ false) (show ((⟨3 / 2,0,1⟩:Sg.Rl)).Ok from ⟨.inl rfl,.inl ⟨rfl,rfl⟩⟩) qt (show Rz 1500 (⟨3 / 2,0,1⟩:Sg.Rl) from ⟨(show Sz 1 _ from ⟨by decide +kernel,by decide +kernel⟩).up (by omega),(show Sz 1 _ from ⟨by decide +kernel,by decide +kernel⟩).up (by omega)⟩) ((show Sz 1 (2) from ⟨by decide +kernel,by decide +kernel⟩).up (by omega)) V (hE.next hb);rw [show Sg.cmpX (⟨3 / 2,0,1⟩:Sg.Rl) (Sg.Rl.of (2))=-1 from by decide +kernel] at h;exact h
 have HN:∀ V,Below w.heap.size w V→Calls Tryz.prog 80 #[.agg #[.bool false,.string ⟨#[1]⟩,.bool false,.string ⟨#[]⟩]] V (RetB V (.agg #[.bool bmo,.string mmo,.bool false,.string ⟨#[]⟩])):=fun V hb=>ratNeg_f qo (by rw [show (-(1):Rat)=-1 from by decide +kernel];exact qmo) V
 have HS1:∀ V,Below w.heap.size w V→Calls Tryz.prog 44 #[.agg #[.bool false,.string ⟨#[]⟩,.bool false,.string ⟨#[]⟩,.bool false,.string ⟨#[2]⟩,.bool false,.string ⟨#[]⟩,.bool false],.agg #[.bool bmo,.string mmo,.bool false,.string ⟨#[]⟩]] V (RetB V (.agg #[.bool bmo,.string mmo,.bool false,.string ⟨#[]⟩,.bool false,.string ⟨#[2]⟩,.bool false,.string ⟨#[]⟩,.bool false])):=fun V hb=>rshift_f (⟨qz,qt,by decide⟩:Rv (⟨0,2,1⟩:Sg.Rl) false ⟨#[]⟩ ⟨#[]⟩ false ⟨#[2]⟩ ⟨#[]⟩ false) qmo (by rw [show (((⟨0,2,1⟩:Sg.Rl)).p+(-1):Rat)=-1 from by decide +kernel];exact qmo) (show Rz 5000 (⟨0,2,1⟩:Sg.Rl) from ⟨(show Sz 1 _ from ⟨by decide +kernel,by decide +kernel⟩).up (by omega),(show Sz 1 _ from ⟨by decide +kernel,by decide +kernel⟩).up (by omega)⟩) ((show Sz 1 (-1) from ⟨by decide +kernel,by decide +kernel⟩).up (by omega)) V (hE.next hb)
 have HS2:∀ V,Below w.heap.size w V→Calls Tryz.prog 44 #[.agg #[.bool bh3,.string mh3,.bool false,.string kh3,.bool false,.string ⟨#[]⟩,.bool false,.string ⟨#[]⟩,.bool false],.agg #[.bool bmo,.string mmo,.bool false,.string ⟨#[]⟩]] V (RetB V (.agg #[.bool bh1,.string mh1,.bool false,.string kh1,.bool false,.string ⟨#[]⟩,.bool false,.string ⟨#[]⟩,.bool false])):=fun V hb=>rshift_f (⟨qh3,Rq.zero,by decide⟩:Rv (⟨3 / 2,0,1⟩:Sg.Rl) bh3 mh3 kh3 false ⟨#[]⟩ ⟨#[]⟩ false) qmo (by rw [show (((⟨3 / 2,0,1⟩:Sg.Rl)).p+(-1):Rat)=1 / 2 from by decide +kernel];exact qh1) (show Rz 5000 (⟨3 / 2,0,1⟩:Sg.Rl) from ⟨(show Sz 1 _ from ⟨by decide +kernel,by decide +kernel⟩).up (by omega),(show Sz 1 _ from ⟨by decide +kernel,by decide +kernel⟩).up (by omega)⟩) ((show Sz 1 (-1) from ⟨by decide +kernel,by decide +kernel⟩).up (by omega)) V (hE.next hb)
 have HI1:∀ V,Below w.heap.size w V→Calls Tryz.prog 50 #[.agg #[.bool bh1,.string mh1,.bool false,.string kh1,.bool false,.string ⟨#[]⟩,.bool false,.string ⟨#[]⟩,.bool false]] V (RetB V (.tuple #[.agg #[.bool false,.string ⟨#[2]⟩,.bool false,.string ⟨#[]⟩,.bool false,.string ⟨#[]⟩,.bool false,.string ⟨#[]⟩,.bool false],.int .i64 0])):=fun V hb=>rinv_rat qh1 (by decide +kernel) (by rw [show (1 / (1 / 2):Rat)=2 from by decide +kernel];exact qt) ((show Sz 1 (1 / 2) from ⟨by decide +kernel,by decide +kernel⟩).up (by omega)) V (hE.next hb)
 have HI2:∀ V,Below w.heap.size w V→Calls Tryz.prog 50 #[.agg #[.bool bmo,.string mmo,.bool false,.string ⟨#[]⟩,.bool false,.string ⟨#[2]⟩,.bool false,.string ⟨#[]⟩,.bool false]] V (RetB V (.tuple #[.agg #[.bool false,.string ⟨#[1]⟩,.bool false,.string ⟨#[]⟩,.bool false,.string ⟨#[2]⟩,.bool false,.string ⟨#[]⟩,.bool false],.int .i64 0])):=fun V hb=>rinv_irr (m:=-1) (⟨qmo,qt,by decide⟩:Rv (⟨-1,2,1⟩:Sg.Rl) bmo mmo ⟨#[]⟩ false ⟨#[2]⟩ ⟨#[]⟩ false) (by decide +kernel) (by decide +kernel) (by decide +kernel) (by rw [show (((⟨-1,2,1⟩:Sg.Rl)).p*(-1):Rat)=1 from by decide +kernel];exact qo) (by rw [show (((⟨-1,2,1⟩:Sg.Rl)).a*((-1)*(-1)):Rat)=2 from by decide +kernel];exact qt) (show Rz 600 (⟨-1,2,1⟩:Sg.Rl) from ⟨(show Sz 1 _ from ⟨by decide +kernel,by decide +kernel⟩).up (by omega),(show Sz 1 _ from ⟨by decide +kernel,by decide +kernel⟩).up (by omega)⟩) V (hE.next hb)
 have HR:∀ V,Below w.heap.size w V→Calls Tryz.prog 109 #[.agg #[.bool false,.string ⟨#[2]⟩,.bool false,.string ⟨#[]⟩,.bool false,.string ⟨#[]⟩,.bool false,.string ⟨#[]⟩,.bool false],.agg #[.bool false,.string ⟨#[1]⟩,.bool false,.string ⟨#[]⟩,.bool false,.string ⟨#[2]⟩,.bool false,.string ⟨#[]⟩,.bool false]] V (RetB V (.agg #[.bool bs3,.string ms3,.bool false,.string ks3])):=fun V hb=>simp2 qmo qmt qth qei qst qh3 qh1 qot qs3 qt7 qtn V (hE.next hb)
 have HD:∀ V,Below w.heap.size w V→Calls Tryz.prog 79 #[.agg #[.bool false,.string ⟨#[1]⟩,.bool false,.string ⟨#[]⟩],.agg #[.bool bs3,.string ms3,.bool false,.string ks3]] V (RetB V (.agg #[.bool bt7,.string mt7,.bool false,.string kt7])):=fun V hb=>ratio_f qo qs3 (by rw [show ((1) / (7 / 3):Rat)=3 / 7 from by decide +kernel];exact qt7) (by decide +kernel) ((show Sz 1 (1) from ⟨by decide +kernel,by decide +kernel⟩).up (by omega)) ((show Sz 1 (7 / 3) from ⟨by decide +kernel,by decide +kernel⟩).up (by omega)) V (hE.next hb)
 have HZ:∀ V,Below w.heap.size w V→Calls Tryz.prog 89 #[.agg #[.bool false,.string ⟨#[1]⟩,.bool false,.string ⟨#[]⟩],.agg #[.bool bt7,.string mt7,.bool false,.string kt7]] V (RetB V (.agg #[.bool btn,.string mtn,.bool false,.string ktn])):=fun V hb=>add_z qo qt7 (by rw [show ((1:Rat)+(3 / 7))=10 / 7 from by decide +kernel];exact qtn) ((show Sz 1 (1) from ⟨by decide +kernel,by decide +kernel⟩).up (by omega)) ((show Sz 1 (3 / 7) from ⟨by decide +kernel,by decide +kernel⟩).up (by omega)) V (hE.next hb)
 exact simp_rec w (by decide) HF HW HA HC HN HS1 HS2 HI1 HI2 HR HD HZ

set_option maxHeartbeats 8000000 in
theorem known_between {bmo:Bool} {mmo:ByteArray} {bmt:Bool} {mmt:ByteArray} {bth:Bool} {mth:ByteArray} {bei:Bool} {mei:ByteArray} {bst:Bool} {mst:ByteArray} {bh3:Bool} {mh3:ByteArray} {kh3:ByteArray} {bh1:Bool} {mh1:ByteArray} {kh1:ByteArray} {bot:Bool} {mot:ByteArray} {kot:ByteArray} {bs3:Bool} {ms3:ByteArray} {ks3:ByteArray} {bt7:Bool} {mt7:ByteArray} {kt7:ByteArray} {btn:Bool} {mtn:ByteArray} {ktn:ByteArray} (qmo:Rq (-1) bmo mmo ⟨#[]⟩) (qmt:Rq (-2) bmt mmt ⟨#[]⟩) (qth:Rq (3) bth mth ⟨#[]⟩) (qei:Rq (8) bei mei ⟨#[]⟩) (qst:Rq (72) bst mst ⟨#[]⟩) (qh3:Rq (3 / 2) bh3 mh3 kh3) (qh1:Rq (1 / 2) bh1 mh1 kh1) (qot:Rq (1 / 3) bot mot kot) (qs3:Rq (7 / 3) bs3 ms3 ks3) (qt7:Rq (3 / 7) bt7 mt7 kt7) (qtn:Rq (10 / 7) btn mtn ktn) (w:World) (hE:Env w) :
  Calls Tryz.prog 56 #[.agg #[.bool false,.string ⟨#[]⟩,.bool false,.string ⟨#[]⟩,.bool false,.string ⟨#[2]⟩,.bool false,.string ⟨#[]⟩,.bool false],.agg #[.bool bh3,.string mh3,.bool false,.string kh3,.bool false,.string ⟨#[]⟩,.bool false,.string ⟨#[]⟩,.bool false]] w (RetB w (.tuple #[.agg #[.bool btn,.string mtn,.bool false,.string ktn],.int .i64 0])):=by
 have HC1:∀ V,Below w.heap.size w V→Calls Tryz.prog 18 #[.agg #[.bool false,.string ⟨#[]⟩,.bool false,.string ⟨#[]⟩,.bool false,.string ⟨#[2]⟩,.bool false,.string ⟨#[]⟩,.bool false]] V (RetB V (.int .i64 (0))):=fun V hb=>rchk_ok (⟨qz,qt,by decide⟩:Rv (⟨0,2,1⟩:Sg.Rl) false ⟨#[]⟩ ⟨#[]⟩ false ⟨#[2]⟩ ⟨#[]⟩ false) (show ((⟨0,2,1⟩:Sg.Rl)).Ok from ⟨.inl rfl,.inr ⟨by decide +kernel,nsq_two⟩⟩) (show Rz 9000 (⟨0,2,1⟩:Sg.Rl) from ⟨(show Sz 1 _ from ⟨by decide +kernel,by decide +kernel⟩).up (by omega),(show Sz 1 _ from ⟨by decide +kernel,by decide +kernel⟩).up (by omega)⟩) V (hE.next hb)
 have HC2:∀ V,Below w.heap.size w V→Calls Tryz.prog 18 #[.agg #[.bool bh3,.string mh3,.bool false,.string kh3,.bool false,.string ⟨#[]⟩,.bool false,.string ⟨#[]⟩,.bool false]] V (RetB V (.int .i64 (0))):=fun V hb=>rchk_ok (⟨qh3,Rq.zero,by decide⟩:Rv (⟨3 / 2,0,1⟩:Sg.Rl) bh3 mh3 kh3 false ⟨#[]⟩ ⟨#[]⟩ false) (show ((⟨3 / 2,0,1⟩:Sg.Rl)).Ok from ⟨.inl rfl,.inl ⟨rfl,rfl⟩⟩) (show Rz 9000 (⟨3 / 2,0,1⟩:Sg.Rl) from ⟨(show Sz 1 _ from ⟨by decide +kernel,by decide +kernel⟩).up (by omega),(show Sz 1 _ from ⟨by decide +kernel,by decide +kernel⟩).up (by omega)⟩) V (hE.next hb)
 have HC:∀ V,Below w.heap.size w V→Calls Tryz.prog 34 #[.agg #[.bool false,.string ⟨#[]⟩,.bool false,.string ⟨#[]⟩,.bool false,.string ⟨#[2]⟩,.bool false,.string ⟨#[]⟩,.bool false],.agg #[.bool bh3,.string mh3,.bool false,.string kh3,.bool false,.string ⟨#[]⟩,.bool false,.string ⟨#[]⟩,.bool false]] V (RetB V (.int .i64 (-1))):=fun V hb=>by have h:=cmp_yrat (⟨qz,qt,by decide⟩:Rv (⟨0,2,1⟩:Sg.Rl) false ⟨#[]⟩ ⟨#[]⟩ false ⟨#[2]⟩ ⟨#[]⟩ false) (⟨qh3,Rq.zero,by decide⟩:Rv (⟨3 / 2,0,1⟩:Sg.Rl) bh3 mh3 kh3 false ⟨#[]⟩ ⟨#[]⟩ false) (show ((⟨0,2,1⟩:Sg.Rl)).Ok from ⟨.inl rfl,.inr ⟨by decide +kernel,nsq_two⟩⟩) (by decide +kernel) (show Rz 1500 (⟨0,2,1⟩:Sg.Rl) from ⟨(show Sz 1 _ from ⟨by decide +kernel,by decide +kernel⟩).up (by omega),(show Sz 1 _ from ⟨by decide +kernel,by decide +kernel⟩).up (by omega)⟩) (show Rz 1500 (⟨3 / 2,0,1⟩:Sg.Rl) from ⟨(show Sz 1 _ from ⟨by decide +kernel,by decide +kernel⟩).up (by omega),(show Sz 1 _ from ⟨by decide +kernel,by decide +kernel⟩).up (by omega)⟩) V (hE.next hb);rw [show Sg.cmpX (⟨0,2,1⟩:Sg.Rl) (Sg.Rl.of ((⟨3 / 2,0,1⟩:Sg.Rl)).p)=-1 from by decide +kernel] at h;exact h
 have HI:∀ V,Below w.heap.size w V→Calls Tryz.prog 70 #[.agg #[.bool false,.string ⟨#[]⟩,.bool false,.string ⟨#[]⟩,.bool false,.string ⟨#[2]⟩,.bool false,.string ⟨#[]⟩,.bool false]] V (RetB V (.bool false)):=fun V hb=>isRat_no (⟨qz,qt,by decide⟩:Rv (⟨0,2,1⟩:Sg.Rl) false ⟨#[]⟩ ⟨#[]⟩ false ⟨#[2]⟩ ⟨#[]⟩ false) (by decide +kernel) V
 have HS:∀ V,Below w.heap.size w V→Calls Tryz.prog 39 #[.agg #[.bool false,.string ⟨#[]⟩,.bool false,.string ⟨#[]⟩,.bool false,.string ⟨#[2]⟩,.bool false,.string ⟨#[]⟩,.bool false]] V (RetB V (.int .i64 1)):=fun V hb=>by have h:=rsgn_f (⟨qz,qt,by decide⟩:Rv (⟨0,2,1⟩:Sg.Rl) false ⟨#[]⟩ ⟨#[]⟩ false ⟨#[2]⟩ ⟨#[]⟩ false) (show ((⟨0,2,1⟩:Sg.Rl)).Ok from ⟨.inl rfl,.inr ⟨by decide +kernel,nsq_two⟩⟩) (show Rz 1500 (⟨0,2,1⟩:Sg.Rl) from ⟨(show Sz 1 _ from ⟨by decide +kernel,by decide +kernel⟩).up (by omega),(show Sz 1 _ from ⟨by decide +kernel,by decide +kernel⟩).up (by omega)⟩) V (hE.next hb);rw [show Sg.cmpX (⟨0,2,1⟩:Sg.Rl) (Sg.Rl.of 0)=1 from by decide +kernel] at h;exact h
 have HR:∀ V,Below w.heap.size w V→Calls Tryz.prog 109 #[.agg #[.bool false,.string ⟨#[]⟩,.bool false,.string ⟨#[]⟩,.bool false,.string ⟨#[2]⟩,.bool false,.string ⟨#[]⟩,.bool false],.agg #[.bool bh3,.string mh3,.bool false,.string kh3,.bool false,.string ⟨#[]⟩,.bool false,.string ⟨#[]⟩,.bool false]] V (RetB V (.agg #[.bool btn,.string mtn,.bool false,.string ktn])):=fun V hb=>simp1 qmo qmt qth qei qst qh3 qh1 qot qs3 qt7 qtn V (hE.next hb)
 exact btw_pos w (by decide) (by decide) HC1 HC2 HC HI HS HR
end Go.Proofs.YtpnokfgplnmjpaaGreatDoor
