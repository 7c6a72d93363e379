import Derived.Test.YtpnokfgplnmjpaaGreatDoorGRLG
import Derived.Test.YtpnokfgplnmjpaaGreatDoorGRCB
import Derived.Test.YtpnokfgplnmjpaaGreatDoorGRCA
import Derived.Test.YtpnokfgplnmjpaaGreatDoorGRLN
import Derived.Test.YtpnokfgplnmjpaaGreatDoorGRLL
import Derived.Test.YtpnokfgplnmjpaaGreatDoorGRefG
import Derived.Test.YtpnokfgplnmjpaaGreatDoorGLawA
import Derived.Deep.RegionWith
import Derived.Deep.DeepCutAuto
import Derived.Test.YtpnokfgplnmjpaaGreatDoorGRNA
import Derived.Test.YtpnokfgplnmjpaaGreatDoorGRMP
import Derived.Test.YtpnokfgplnmjpaaGreatDoorGRMQ
import Derived.Test.YtpnokfgplnmjpaaGreatDoorGRMR
set_option linter.unusedSimpArgs false
set_option linter.unusedVariables false

namespace Go.Proofs.YtpnokfgplnmjpaaGreatDoor
open Go.RowKit
attribute [local go_sem ↓] Go.wp_at_zero Go.wp_at_succ

theorem wrap_small {x:Int} (h1:-9223372036854775808≤x) (h2:x≤9223372036854775807):IntKind.i64.wrap x=x:=by
 rw [IntKind.wrap_i64]
 omega

set_option maxHeartbeats 8000000 in
set_option maxRecDepth 100000 in
theorem bytes_w (b1 d1:Bool) (m1 k1:ByteArray) (hm:m1.size≤140737488351232) (hk:k1.size≤140737488351232) (w:World) :
  Calls Tryz.prog 16 #[.agg #[.bool b1,.string m1,.bool d1,.string k1]] w (RetB w (.int .i64 ((m1.size:Int)+(k1.size:Int)))):=by
 have hw:IntKind.i64.wrap ((m1.size:Int)+(k1.size:Int))=(m1.size:Int)+(k1.size:Int):=wrap_small (by omega) (by omega)
 go_enter Tryz.func16,Tryz.ntmps16
 exact wk0

set_option maxHeartbeats 8000000 in
set_option maxRecDepth 100000 in
theorem fchk_bad1 (w:World) {b1 d1 c1 e1 s1:Bool} {m1 k1 n1 l1:ByteArray} (HC1:∀ V,Below w.heap.size w V→Calls Tryz.prog 57 #[.agg #[.bool b1,.string m1,.bool d1,.string k1]] V (RetB V (.bool false))) :
  Calls Tryz.prog 17 #[.agg #[.bool b1,.string m1,.bool d1,.string k1,.bool c1,.string n1,.bool e1,.string l1,.bool s1]] w (RetB w (.bool false)):=by
 have C1:=Lib.hid HC1
 clear HC1 
 go_enter Tryz.func17,Tryz.ntmps17
 exact wk0

set_option maxHeartbeats 8000000 in
set_option maxRecDepth 100000 in
theorem fchk_bad2 (w:World) {b1 d1 c1 e1 s1:Bool} {m1 k1 n1 l1:ByteArray} (HC1:∀ V,Below w.heap.size w V→Calls Tryz.prog 57 #[.agg #[.bool b1,.string m1,.bool d1,.string k1]] V (RetB V (.bool true))) (HC2:∀ V,Below w.heap.size w V→Calls Tryz.prog 57 #[.agg #[.bool c1,.string n1,.bool e1,.string l1]] V (RetB V (.bool false))) :
  Calls Tryz.prog 17 #[.agg #[.bool b1,.string m1,.bool d1,.string k1,.bool c1,.string n1,.bool e1,.string l1,.bool s1]] w (RetB w (.bool false)):=by
 have C1:=Lib.hid HC1
 have C2:=Lib.hid HC2
 clear HC1 HC2 
 go_enter Tryz.func17,Tryz.ntmps17
 exact wk0

set_option maxHeartbeats 8000000 in
set_option maxRecDepth 100000 in
theorem fchk_zero (w:World) {b1 d1 s1:Bool} {m1 k1:ByteArray} (HC1:∀ V,Below w.heap.size w V→Calls Tryz.prog 57 #[.agg #[.bool b1,.string m1,.bool d1,.string k1]] V (RetB V (.bool true))) (HC2:∀ V,Below w.heap.size w V→Calls Tryz.prog 57 #[.agg #[.bool false,.string ⟨#[]⟩,.bool false,.string ⟨#[]⟩]] V (RetB V (.bool true))) (HS:∀ V,Below w.heap.size w V→Calls Tryz.prog 28 #[.agg #[.bool false,.string ⟨#[]⟩,.bool false,.string ⟨#[]⟩]] V (RetB V (.int .i64 (0)))) (HZ:∀ V,Below w.heap.size w V→Calls Tryz.prog 24 #[] V (RetB V (.agg #[.bool false,.string ⟨#[]⟩,.bool false,.string ⟨#[]⟩]))) :
  Calls Tryz.prog 17 #[.agg #[.bool b1,.string m1,.bool d1,.string k1,.bool false,.string ⟨#[]⟩,.bool false,.string ⟨#[]⟩,.bool s1]] w (RetB w (.bool (!s1))):=by
 have C1:=Lib.hid HC1
 have C2:=Lib.hid HC2
 have C3:=Lib.hid HS
 have C4:=Lib.hid HZ
 clear HC1 HC2 HS HZ 
 go_enter Tryz.func17,Tryz.ntmps17
 exact wk0

set_option maxHeartbeats 8000000 in
set_option maxRecDepth 100000 in
theorem fchk_neg (w:World) {b1 d1 s1:Bool} {m1 k1 n1 l1:ByteArray} (HC1:∀ V,Below w.heap.size w V→Calls Tryz.prog 57 #[.agg #[.bool b1,.string m1,.bool d1,.string k1]] V (RetB V (.bool true))) (HC2:∀ V,Below w.heap.size w V→Calls Tryz.prog 57 #[.agg #[.bool true,.string n1,.bool false,.string l1]] V (RetB V (.bool true))) (HS:∀ V,Below w.heap.size w V→Calls Tryz.prog 28 #[.agg #[.bool true,.string n1,.bool false,.string l1]] V (RetB V (.int .i64 (-1)))) (HZ:∀ V,Below w.heap.size w V→Calls Tryz.prog 24 #[] V (RetB V (.agg #[.bool false,.string ⟨#[]⟩,.bool false,.string ⟨#[]⟩]))) :
  Calls Tryz.prog 17 #[.agg #[.bool b1,.string m1,.bool d1,.string k1,.bool true,.string n1,.bool false,.string l1,.bool s1]] w (RetB w (.bool false)):=by
 have C1:=Lib.hid HC1
 have C2:=Lib.hid HC2
 have C3:=Lib.hid HS
 have C4:=Lib.hid HZ
 clear HC1 HC2 HS HZ 
 go_enter Tryz.func17,Tryz.ntmps17
 exact wk0

set_option maxHeartbeats 8000000 in
set_option maxRecDepth 100000 in
theorem fchk_pos (w:World) {b1 d1 c1 e1 s1:Bool} {m1 k1 n1 l1:ByteArray} {o:Bool} {b2 c2:Bool} {m2 k2:ByteArray} (HC1:∀ V,Below w.heap.size w V→Calls Tryz.prog 57 #[.agg #[.bool b1,.string m1,.bool d1,.string k1]] V (RetB V (.bool true))) (HC2:∀ V,Below w.heap.size w V→Calls Tryz.prog 57 #[.agg #[.bool c1,.string n1,.bool e1,.string l1]] V (RetB V (.bool true))) (HS:∀ V,Below w.heap.size w V→Calls Tryz.prog 28 #[.agg #[.bool c1,.string n1,.bool e1,.string l1]] V (RetB V (.int .i64 1))) (HR:∀ V,Below w.heap.size w V→Calls Tryz.prog 68 #[.agg #[.bool c1,.string n1,.bool e1,.string l1]] V (RetB V (.tuple #[.agg #[.bool b2,.string m2,.bool c2,.string k2],.bool o]))) :
  Calls Tryz.prog 17 #[.agg #[.bool b1,.string m1,.bool d1,.string k1,.bool c1,.string n1,.bool e1,.string l1,.bool s1]] w (RetB w (.bool (!o))):=by
 have C1:=Lib.hid HC1
 have C2:=Lib.hid HC2
 have C3:=Lib.hid HS
 have C4:=Lib.hid HR
 clear HC1 HC2 HS HR 
 go_enter Tryz.func17,Tryz.ntmps17
 exact wk0

set_option maxHeartbeats 8000000 in
set_option maxRecDepth 100000 in
theorem small_no1 (w:World) {b1 d1 c1 e1 s1:Bool} {m1 k1 n1 l1:ByteArray} (h:¬(m1.size:Int)+(k1.size:Int)≤8) (HB1:∀ V,Below w.heap.size w V→Calls Tryz.prog 16 #[.agg #[.bool b1,.string m1,.bool d1,.string k1]] V (RetB V (.int .i64 ((m1.size:Int)+(k1.size:Int))))) :
  Calls Tryz.prog 22 #[.agg #[.bool b1,.string m1,.bool d1,.string k1,.bool c1,.string n1,.bool e1,.string l1,.bool s1]] w (RetB w (.bool false)):=by
 have C1:=Lib.hid HB1
 clear HB1 
 go_enter Tryz.func22,Tryz.ntmps22
 exact wk0

set_option maxHeartbeats 8000000 in
set_option maxRecDepth 100000 in
theorem small_no2 (w:World) {b1 d1 c1 e1 s1:Bool} {m1 k1 n1 l1:ByteArray} (h:(m1.size:Int)+(k1.size:Int)≤8) (h':¬(n1.size:Int)+(l1.size:Int)≤8) (HB1:∀ V,Below w.heap.size w V→Calls Tryz.prog 16 #[.agg #[.bool b1,.string m1,.bool d1,.string k1]] V (RetB V (.int .i64 ((m1.size:Int)+(k1.size:Int))))) (HB2:∀ V,Below w.heap.size w V→Calls Tryz.prog 16 #[.agg #[.bool c1,.string n1,.bool e1,.string l1]] V (RetB V (.int .i64 ((n1.size:Int)+(l1.size:Int))))) :
  Calls Tryz.prog 22 #[.agg #[.bool b1,.string m1,.bool d1,.string k1,.bool c1,.string n1,.bool e1,.string l1,.bool s1]] w (RetB w (.bool false)):=by
 have C1:=Lib.hid HB1
 have C2:=Lib.hid HB2
 clear HB1 HB2 
 go_enter Tryz.func22,Tryz.ntmps22
 exact wk0

set_option maxHeartbeats 8000000 in
set_option maxRecDepth 100000 in
theorem small_chk (w:World) {b1 d1 c1 e1 s1:Bool} {m1 k1 n1 l1:ByteArray} {o:Bool} (h:(m1.size:Int)+(k1.size:Int)≤8) (h':(n1.size:Int)+(l1.size:Int)≤8) (HB1:∀ V,Below w.heap.size w V→Calls Tryz.prog 16 #[.agg #[.bool b1,.string m1,.bool d1,.string k1]] V (RetB V (.int .i64 ((m1.size:Int)+(k1.size:Int))))) (HB2:∀ V,Below w.heap.size w V→Calls Tryz.prog 16 #[.agg #[.bool c1,.string n1,.bool e1,.string l1]] V (RetB V (.int .i64 ((n1.size:Int)+(l1.size:Int))))) (HC:∀ V,Below w.heap.size w V→Calls Tryz.prog 17 #[.agg #[.bool b1,.string m1,.bool d1,.string k1,.bool c1,.string n1,.bool e1,.string l1,.bool s1]] V (RetB V (.bool o))) :
  Calls Tryz.prog 22 #[.agg #[.bool b1,.string m1,.bool d1,.string k1,.bool c1,.string n1,.bool e1,.string l1,.bool s1]] w (RetB w (.bool o)):=by
 have C1:=Lib.hid HB1
 have C2:=Lib.hid HB2
 have C3:=Lib.hid HC
 clear HB1 HB2 HC 
 go_enter Tryz.func22,Tryz.ntmps22
 exact wk0

theorem sz8 {q:Rat} {b:Bool} {m k:ByteArray} (h:Rq q b m k) (hm:m.size≤8) (hk:k.size≤8):Sz 8 q:=by
 have h1:=bval_lt m
 rw [h.bval] at h1
 refine ⟨Nat.lt_of_lt_of_le h1 (Nat.pow_le_pow_right (by decide) hm),?_⟩
 by_cases hd:q.den=1
 · rw [hd];decide
 · have h2:=bval_lt k
   rw [h.den2 hd,bval_mag] at h2
   rw [h.den2 hd] at hk
   exact Nat.lt_of_lt_of_le h2 (Nat.pow_le_pow_right (by decide) hk)
theorem small_or (b1 d1 c1 e1 s1:Bool) (m1 k1 n1 l1:ByteArray) (t1:m1.size≤140737488351232) (t2:k1.size≤140737488351232) (t3:n1.size≤140737488351232) (t4:l1.size≤140737488351232) :
  ∃ o,(∀ V,Calls Tryz.prog 22 #[.agg #[.bool b1,.string m1,.bool d1,.string k1,.bool c1,.string n1,.bool e1,.string l1,.bool s1]] V (RetB V (.bool o)))∧(o=true→d1=false∧e1=false∧∃ x:Sg.Rl,x.Ok∧Rv x b1 m1 k1 c1 n1 l1 s1∧Rz 8 x):=by
 have HB1:=fun (w V:World) (_:Below w.heap.size w V)=>bytes_w b1 d1 m1 k1 t1 t2 V
 have HB2:=fun (w V:World) (_:Below w.heap.size w V)=>bytes_w c1 e1 n1 l1 t3 t4 V
 by_cases h:(m1.size:Int)+(k1.size:Int)≤8
 · by_cases h':(n1.size:Int)+(l1.size:Int)≤8
   · by_cases hp:d1=false∧∃ q,Rq q b1 m1 k1
     · by_cases hr:e1=false∧∃ q,Rq q c1 n1 l1
       · obtain ⟨rfl,p,hp⟩:=hp
         obtain ⟨rfl,r,hr⟩:=hr
         have C1:=fun (w V:World) (_:Below w.heap.size w V)=>rCheck_yes hp (by omega) (by omega) V
         have C2:=fun (w V:World) (_:Below w.heap.size w V)=>rCheck_yes hr (by omega) (by omega) V
         have C3:=fun (w V:World) (_:Below w.heap.size w V)=>rsign_z hr V
         have zp:=sz8 hp (by omega) (by omega)
         have zr:=sz8 hr (by omega) (by omega)
         rcases Sg.sgq_three r with ⟨g,e⟩ | ⟨g,e⟩ | ⟨g,e⟩
         · obtain rfl:c1=true:=by rw [hr.mag.1];exact decide_eq_true (num_neg_iff.2 g)
           rw [e] at C3
           exact ⟨false,fun V=>small_chk V h h' (HB1 V) (HB2 V) (fun V _=>fchk_neg V (C1 V) (C2 V) (C3 V) (fun V _=>zero_any V)),fun h=>by cases h⟩
         · obtain ⟨rfl,rfl,rfl⟩:=hr.nought.1 g
           rw [e] at C3
           refine ⟨!s1,fun V=>small_chk V h h' (HB1 V) (HB2 V) (fun V _=>fchk_zero V (C1 V) (C2 V) (C3 V) (fun V _=>zero_any V)),fun hs=>⟨rfl,rfl,⟨p,0,1⟩,⟨.inl rfl,.inl ⟨rfl,rfl⟩⟩,⟨hp,Rq.zero,?_⟩,⟨zp,Sz.zero 7⟩⟩⟩
           simpa using hs
         · rw [e] at C3
           by_cases hs:Sg.Sq r
           · obtain ⟨b2,m2,k2,h2⟩:=Rq.some_ (Sg.rt r)
             exact ⟨false,fun V=>small_chk V h h' (HB1 V) (HB2 V) (fun V _=>fchk_pos V (C1 V) (C2 V) (C3 V) (fun V _=>(root_yes_z hr (zr.up (by omega)) hs h2).2 V)),fun h=>by cases h⟩
           · refine ⟨true,fun V=>small_chk V h h' (HB1 V) (HB2 V) (fun V _=>fchk_pos V (C1 V) (C2 V) (C3 V) (fun V _=>(root_no_z hr (zr.up (by omega)) hs).2 V)),fun _=>⟨rfl,rfl,⟨p,r,if s1 then -1 else 1⟩,⟨?_,.inr ⟨g,Sg.nsq_sq.2 hs⟩⟩,⟨hp,hr,?_⟩,⟨zp,zr⟩⟩⟩
             · cases s1<;>simp
             · cases s1<;>simp
       · obtain ⟨rfl,p,hp⟩:=hp
         exact ⟨false,fun V=>small_chk V h h' (HB1 V) (HB2 V) (fun V _=>fchk_bad2 V (fun V _=>rCheck_yes hp (by omega) (by omega) V) (fun V _=>rCheck_no c1 n1 e1 l1 (by omega) (by omega) hr V)),fun h=>by cases h⟩
     · exact ⟨false,fun V=>small_chk V h h' (HB1 V) (HB2 V) (fun V _=>fchk_bad1 V (fun V _=>rCheck_no b1 m1 d1 k1 (by omega) (by omega) hp V)),fun h=>by cases h⟩
   · exact ⟨false,fun V=>small_no2 V h h' (HB1 V) (HB2 V),fun h=>by cases h⟩
 · exact ⟨false,fun V=>small_no1 V h (HB1 V),fun h=>by cases h⟩
end Go.Proofs.YtpnokfgplnmjpaaGreatDoor


namespace Go.Proofs.YtpnokfgplnmjpaaGreatDoor
open Go.RowKit
attribute [local go_sem ↓] Go.wp_at_zero Go.wp_at_succ

theorem Sz.whole {n:Int} (h:n.natAbs≤255):Sz 1 (n:Rat):=⟨by show (n:Rat).num.natAbs<256^1;rw [Rat.num_intCast];omega,by show (n:Rat).den<256^1;rw [Rat.den_intCast];decide⟩
def rtsI (x y c:Int):Int:=if x≠y then (if x>y then 1 else -1) else x*c
def sg2I (x y c:Int):Int:=if x=y∨y=0 then x else if x=0 then y else if 0<c then x else if c<0 then y else 0
theorem sg2I_cases {a b c:Int} (ha:a=-1∨a=0∨a=1) (hb:b=-1∨b=0∨b=1) (hc:c=-1∨c=0∨c=1) :
  (b=a∧sg2I a b c=a)∨(b=0∧(a==0)=false∧sg2I a b c=a)∨(a=0∧(0==b)=false∧(b==0)=false∧sg2I a b c=b)∨((a==b)=false∧(b==0)=false∧(a==0)=false∧((c=-1∧sg2I a b c=b)∨(c=0∧sg2I a b c=0)∨(c=1∧sg2I a b c=a))):=by
 rcases ha with rfl | rfl | rfl<;>rcases hb with rfl | rfl | rfl<;>rcases hc with rfl | rfl | rfl<;>decide

set_option maxHeartbeats 8000000 in
set_option maxRecDepth 100000 in
theorem froots_w (w:World) {b1 b2:Bool} {m1 k1 m2 k2:ByteArray} {s x t y X Y c:Int} (hX:IntKind.i64.wrap (s*x)=X) (hY:IntKind.i64.wrap (t*y)=Y) (hc:IntKind.i64.wrap (X*c)=X*c) (HA:∀ V,Below w.heap.size w V→Calls Tryz.prog 28 #[.agg #[.bool b1,.string m1,.bool false,.string k1]] V (RetB V (.int .i64 (x)))) (HB:∀ V,Below w.heap.size w V→Calls Tryz.prog 28 #[.agg #[.bool b2,.string m2,.bool false,.string k2]] V (RetB V (.int .i64 (y)))) (HC:∀ V,Below w.heap.size w V→Calls Tryz.prog 140 #[.agg #[.bool b1,.string m1,.bool false,.string k1],.agg #[.bool b2,.string m2,.bool false,.string k2]] V (RetB V (.int .i64 (c)))) :
  Calls Tryz.prog 91 #[.int .i64 (s),.agg #[.bool b1,.string m1,.bool false,.string k1],.int .i64 (t),.agg #[.bool b2,.string m2,.bool false,.string k2]] w (RetB w (.int .i64 (rtsI X Y c))):=by
 obtain ⟨o,ho⟩:∃ o,o=rtsI X Y c:=⟨_,rfl⟩
 rw [←ho]
 unfold rtsI at ho
 have P1:=Lib.hid (show (X != Y)=true→Y<X→o=1 from fun h k=>by rw [ho,if_pos (by simpa using h),if_pos k])
 have P2:=Lib.hid (show (X != Y)=true→X≤Y→o=-1 from fun h k=>by rw [ho,if_pos (by simpa using h),if_neg (by omega)])
 have P3:=Lib.hid (show (X != Y)=false→o=X*c from fun h=>by rw [ho,if_neg (by simpa using h)])
 clear ho
 have C1:=Lib.hid HA
 have C2:=Lib.hid HB
 have C3:=Lib.hid HC
 clear HA HB HC 
 go_enter Tryz.func91,Tryz.ntmps91
 exact wk0

set_option maxHeartbeats 8000000 in
set_option maxRecDepth 100000 in
theorem fsigns_w (w:World) {b1 b2 b3 b4 b5 b6:Bool} {m1 k1 m2 k2 m3 k3 m4 k4 m5 k5 m6 k6:ByteArray} {x y z t c:Int} (hx:x=-1∨x=0∨x=1) (ht:IntKind.i64.wrap (y*z)=t) (hy:t=-1∨t=0∨t=1) (hc:c=-1∨c=0∨c=1) (HA:∀ V,Below w.heap.size w V→Calls Tryz.prog 28 #[.agg #[.bool b1,.string m1,.bool false,.string k1]] V (RetB V (.int .i64 (x)))) (HB:∀ V,Below w.heap.size w V→Calls Tryz.prog 28 #[.agg #[.bool b2,.string m2,.bool false,.string k2]] V (RetB V (.int .i64 (y)))) (HC:∀ V,Below w.heap.size w V→Calls Tryz.prog 28 #[.agg #[.bool b3,.string m3,.bool false,.string k3]] V (RetB V (.int .i64 (z)))) (HD:∀ V,Below w.heap.size w V→Calls Tryz.prog 78 #[.agg #[.bool b1,.string m1,.bool false,.string k1],.agg #[.bool b1,.string m1,.bool false,.string k1]] V (RetB V (.agg #[.bool b4,.string m4,.bool false,.string k4]))) (HE:∀ V,Below w.heap.size w V→Calls Tryz.prog 78 #[.agg #[.bool b2,.string m2,.bool false,.string k2],.agg #[.bool b2,.string m2,.bool false,.string k2]] V (RetB V (.agg #[.bool b5,.string m5,.bool false,.string k5]))) (HF:∀ V,Below w.heap.size w V→Calls Tryz.prog 78 #[.agg #[.bool b5,.string m5,.bool false,.string k5],.agg #[.bool b3,.string m3,.bool false,.string k3]] V (RetB V (.agg #[.bool b6,.string m6,.bool false,.string k6]))) (HG:∀ V,Below w.heap.size w V→Calls Tryz.prog 140 #[.agg #[.bool b4,.string m4,.bool false,.string k4],.agg #[.bool b6,.string m6,.bool false,.string k6]] V (RetB V (.int .i64 (c)))) :
  Calls Tryz.prog 92 #[.agg #[.bool b1,.string m1,.bool false,.string k1],.agg #[.bool b2,.string m2,.bool false,.string k2],.agg #[.bool b3,.string m3,.bool false,.string k3]] w (RetB w (.int .i64 (sg2I x t c))):=by
 have hk:=sg2I_cases hx hy hc
 obtain ⟨o,ho⟩:∃ o,o=sg2I x t c:=⟨_,rfl⟩
 rw [←ho] at hk ⊢
 clear ho hx hy hc
 have C1:=Lib.hid HA
 have C2:=Lib.hid HB
 have C3:=Lib.hid HC
 have C4:=Lib.hid HD
 have C5:=Lib.hid HE
 have C6:=Lib.hid HF
 have C7:=Lib.hid HG
 rcases hk with ⟨rfl,rfl⟩ | ⟨rfl,h1,rfl⟩ | ⟨rfl,h1,h2,rfl⟩ | ⟨h1,h2,h3,⟨rfl,rfl⟩ | ⟨rfl,rfl⟩ | ⟨rfl,rfl⟩⟩
 all_goals
  clear HA HB HC HD HE HF HG 
  go_enter Tryz.func92,Tryz.ntmps92
  exact wk0

set_option maxHeartbeats 8000000 in
set_option maxRecDepth 100000 in
theorem fcmp_w (w:World) {b1 c1 s1:Bool} {m1 k1 n1 l1:ByteArray} {b2 c2 s2:Bool} {m2 k2 n2 l2:ByteArray} {b3 b4 b5 b6 b7 b8:Bool} {m3 k3 m4 k4 m5 k5 m6 k6 m7 k7 m8 k8:ByteArray} {s t a b c:Int} (hs:s=1∨s=-1) (ht:t=1∨t=-1) (hx:a=-1∨a=0∨a=1) (hy:b=-1∨b=0∨b=1) (hc:c=-1∨c=0∨c=1) (HD:∀ V,Below w.heap.size w V→Calls Tryz.prog 83 #[.agg #[.bool b1,.string m1,.bool false,.string k1],.agg #[.bool b2,.string m2,.bool false,.string k2]] V (RetB V (.agg #[.bool b3,.string m3,.bool false,.string k3]))) (HS:∀ V,Below w.heap.size w V→Calls Tryz.prog 28 #[.agg #[.bool b3,.string m3,.bool false,.string k3]] V (RetB V (.int .i64 (a)))) (HX:∀ V,Below w.heap.size w V→Calls Tryz.prog 85 #[.agg #[.bool b1,.string m1,.bool false,.string k1,.bool c1,.string n1,.bool false,.string l1,.bool s1]] V (RetB V (.int .i64 (s)))) (HY:∀ V,Below w.heap.size w V→Calls Tryz.prog 85 #[.agg #[.bool b2,.string m2,.bool false,.string k2,.bool c2,.string n2,.bool false,.string l2,.bool s2]] V (RetB V (.int .i64 (t)))) (HR:∀ V,Below w.heap.size w V→Calls Tryz.prog 91 #[.int .i64 (s),.agg #[.bool c1,.string n1,.bool false,.string l1],.int .i64 (t),.agg #[.bool c2,.string n2,.bool false,.string l2]] V (RetB V (.int .i64 (b)))) (HM:∀ V,Below w.heap.size w V→Calls Tryz.prog 78 #[.agg #[.bool b3,.string m3,.bool false,.string k3],.agg #[.bool b3,.string m3,.bool false,.string k3]] V (RetB V (.agg #[.bool b4,.string m4,.bool false,.string k4]))) (HA:∀ V,Below w.heap.size w V→Calls Tryz.prog 77 #[.agg #[.bool c1,.string n1,.bool false,.string l1],.agg #[.bool c2,.string n2,.bool false,.string l2]] V (RetB V (.agg #[.bool b5,.string m5,.bool false,.string k5]))) (HQ:∀ V,Below w.heap.size w V→Calls Tryz.prog 83 #[.agg #[.bool b4,.string m4,.bool false,.string k4],.agg #[.bool b5,.string m5,.bool false,.string k5]] V (RetB V (.agg #[.bool b6,.string m6,.bool false,.string k6]))) (HW:∀ V,Below w.heap.size w V→Calls Tryz.prog 21 #[.int .i64 (2*s*t)] V (RetB V (.agg #[.bool b7,.string m7,.bool false,.string k7]))) (HP:∀ V,Below w.heap.size w V→Calls Tryz.prog 78 #[.agg #[.bool c1,.string n1,.bool false,.string l1],.agg #[.bool c2,.string n2,.bool false,.string l2]] V (RetB V (.agg #[.bool b8,.string m8,.bool false,.string k8]))) (HG:∀ V,Below w.heap.size w V→Calls Tryz.prog 92 #[.agg #[.bool b6,.string m6,.bool false,.string k6],.agg #[.bool b7,.string m7,.bool false,.string k7],.agg #[.bool b8,.string m8,.bool false,.string k8]] V (RetB V (.int .i64 (c)))) :
  Calls Tryz.prog 37 #[.agg #[.bool b1,.string m1,.bool false,.string k1,.bool c1,.string n1,.bool false,.string l1,.bool s1],.agg #[.bool b2,.string m2,.bool false,.string k2,.bool c2,.string n2,.bool false,.string l2,.bool s2]] w (RetB w (.int .i64 (sg2I a b c))):=by
 have hv:IntKind.i64.wrap (2*s)=2*s∧IntKind.i64.wrap (2*s*t)=2*s*t:=by rcases hs with rfl | rfl<;>rcases ht with rfl | rfl<;>exact ⟨by decide,by decide⟩
 obtain ⟨hv1,hv2⟩:=hv
 have hk:=sg2I_cases hx hy hc
 obtain ⟨o,ho⟩:∃ o,o=sg2I a b c:=⟨_,rfl⟩
 rw [←ho] at hk ⊢
 clear ho hx hy hc hs ht
 have C1:=Lib.hid HD
 have C2:=Lib.hid HS
 have C3:=Lib.hid HX
 have C4:=Lib.hid HY
 have C5:=Lib.hid HR
 have C6:=Lib.hid HM
 have C7:=Lib.hid HA
 have C8:=Lib.hid HQ
 have C9:=Lib.hid HW
 have C10:=Lib.hid HP
 have C11:=Lib.hid HG
 rcases hk with ⟨rfl,rfl⟩ | ⟨rfl,h1,rfl⟩ | ⟨rfl,h1,h2,rfl⟩ | ⟨h1,h2,h3,⟨rfl,rfl⟩ | ⟨rfl,rfl⟩ | ⟨rfl,rfl⟩⟩
 all_goals
  have U1:Hid (∀ {p:Prop} (h:p:=by ((fail_if_success (go_not_at_region 7));(fail_if_success (have:=hLL));obtain ⟨LL,hLL⟩:=lexi X.out;go_cut [8] (fun s0 wx=>∃ g0,s0=.pointer (some ⟨g0,0,none⟩)∧Sb w (LL++[(g0,#[.bool b6,.string m6,.bool false,.string k6],25)]) [] wx);all_goals exact wkc)),p):=@fun _ h=>h
  clear HD HS HX HY HR HM HA HQ HW HP HG 
  go_enter Tryz.func37,Tryz.ntmps37
  exact wk0

theorem pm_three {s c:Int} (hs:s=1∨s=-1) (h:c=-1∨c=0∨c=1):s*c=-1∨s*c=0∨s*c=1:=by rcases hs with rfl | rfl<;>omega
theorem ok_nn {x:Sg.Rl} (ok:x.Ok):0≤x.a:=by
 rcases Sg.ok_cases ok with ⟨h,_⟩ | ⟨h,_⟩<;>grind
theorem froots_f {a b:Rat} {b1 b2:Bool} {m1 k1 m2 k2:ByteArray} (hp:Rq a b1 m1 k1) (hq:Rq b b2 m2 k2) (h1:0≤a) (h2:0≤b) (zp:Sz 10000 a) (zq:Sz 10000 b) {s t:Int} (hs:s=1∨s=-1) (ht:t=1∨t=-1) (w:World) :
  Calls Tryz.prog 91 #[.int .i64 (s),.agg #[.bool b1,.string m1,.bool false,.string k1],.int .i64 (t),.agg #[.bool b2,.string m2,.bool false,.string k2]] w (RetB w (.int .i64 (Sg.rts s a t b))) :=
 froots_w w (wrap_ts hs (sgq_abs a)) (wrap_ts ht (sgq_abs b)) (by rcases pm_three hs (sgq_abs a) with e | e | e<;>rcases sgq_abs (a-b) with f | f | f<;>rw [e,f]<;>decide) (fun V _=>rsign_z hp V) (fun V _=>rsign_z hq V) (fun V _=>rcmp_z hp hq zp zq V)
theorem fsigns_f {a b r:Rat} {b1 b2 b3:Bool} {m1 k1 m2 k2 m3 k3:ByteArray} (ha:Rq a b1 m1 k1) (hb:Rq b b2 m2 k2) (hr:Rq r b3 m3 k3) (hb0:Sg.sgq b=1∨Sg.sgq b=-1) (h:0≤r) (za:Sz 4000 a) (zb:Sz 2000 b) (zr:Sz 4000 r) (w:World) :
  Calls Tryz.prog 92 #[.agg #[.bool b1,.string m1,.bool false,.string k1],.agg #[.bool b2,.string m2,.bool false,.string k2],.agg #[.bool b3,.string m3,.bool false,.string k3]] w (RetB w (.int .i64 (Sg.sg2 a b r))):=by
 obtain ⟨b4,m4,k4,h4⟩:=Rq.some_ (a*a)
 obtain ⟨b5,m5,k5,h5⟩:=Rq.some_ (b*b)
 obtain ⟨b6,m6,k6,h6⟩:=Rq.some_ (b*b*r)
 have z5:=zb.mul zb
 exact fsigns_w w (sgq_abs a) (wrap_ts hb0 (sgq_abs r)) (pm_three hb0 (sgq_abs r)) (sgq_abs (a*a-b*b*r)) (fun V _=>rsign_z ha V) (fun V _=>rsign_z hb V) (fun V _=>rsign_z hr V) (fun V _=>rmul_z ha ha h4 (za.up (by omega)) (za.up (by omega)) V) (fun V _=>rmul_z hb hb h5 (zb.up (by omega)) (zb.up (by omega)) V) (fun V _=>rmul_z h5 hr h6 (z5.up (by omega)) (zr.up (by omega)) V) (fun V _=>rcmp_z h4 h6 ((za.mul za).up (by omega)) ((z5.mul zr).up (by omega)) V)
theorem rts_abs (s:Int) (a:Rat) (t:Int) (b:Rat) (hs:s=1∨s=-1) (ht:t=1∨t=-1):Sg.rts s a t b=-1∨Sg.rts s a t b=0∨Sg.rts s a t b=1:=by
 unfold Sg.rts
 rcases sgq_abs a with e | e | e<;>rcases sgq_abs b with f | f | f<;>rcases sgq_abs (a-b) with g | g | g<;>rw [e,f,g]<;>rcases hs with rfl | rfl<;>rcases ht with rfl | rfl<;>decide
theorem whole_q {n:Int} (h:n.natAbs≤255):∃ b m,Rq (n:Rat) b m ⟨#[]⟩∧∀ V,Calls Tryz.prog 21 #[.int .i64 n] V (RetB V (.agg #[.bool b,.string m,.bool false,.string ⟨#[]⟩])):=by
 obtain ⟨b,m,k,hq⟩:=Rq.some_ (n:Rat)
 obtain rfl:=hq.den1 (Rat.den_intCast n)
 exact ⟨b,m,hq,fun V=>whole_f (by have h1:=hq.num;rw [Rat.num_intCast] at h1;exact h1) (by omega) (by omega) V⟩
theorem fcmp_f {x y:Sg.Rl} {b1 c1 s1 b2 c2 s2:Bool} {m1 k1 n1 l1 m2 k2 n2 l2:ByteArray} (hx:Rv x b1 m1 k1 c1 n1 l1 s1) (hy:Rv y b2 m2 k2 c2 n2 l2 s2) (okx:x.Ok) (oky:y.Ok) (zx:Rz 500 x) (zy:Rz 500 y) (w:World):Calls Tryz.prog 37 #[.agg #[.bool b1,.string m1,.bool false,.string k1,.bool c1,.string n1,.bool false,.string l1,.bool s1],.agg #[.bool b2,.string m2,.bool false,.string k2,.bool c2,.string n2,.bool false,.string l2,.bool s2]] w (RetB w (.int .i64 (Sg.cmpX x y))):=by
 rw [←Sg.ref_prog okx oky]
 obtain ⟨b3,m3,k3,h3⟩:=Rq.some_ (x.p-y.p)
 obtain ⟨b4,m4,k4,h4⟩:=Rq.some_ ((x.p-y.p)*(x.p-y.p))
 obtain ⟨b5,m5,k5,h5⟩:=Rq.some_ (x.a+y.a)
 obtain ⟨b6,m6,k6,h6⟩:=Rq.some_ ((x.p-y.p)*(x.p-y.p)-(x.a+y.a))
 obtain ⟨b8,m8,k8,h8⟩:=Rq.some_ (x.a*y.a)
 have sx:=okx.sg
 have sy:=oky.sg
 obtain ⟨b7,m7,h7,HW⟩:=whole_q (n:=2*x.s*y.s) (by rcases sx with e | e<;>rcases sy with f | f<;>rw [e,f]<;>decide)
 have z3:=zx.p.sub zy.p
 have z4:=z3.mul z3
 have z5:=zx.r.add zy.r
 have z6:=z4.sub z5
 have z8:=zx.r.mul zy.r
 have e7:((2*x.s*y.s:Int):Rat)=if x.s=y.s then 2 else -2:=by rcases sx with e | e<;>rcases sy with f | f<;>rw [e,f]<;>decide +kernel
 have hs7:Sg.sgq ((2*x.s*y.s:Int):Rat)=1∨Sg.sgq ((2*x.s*y.s:Int):Rat)=-1:=by rcases sx with e | e<;>rcases sy with f | f<;>rw [e,f]<;>decide +kernel
 have z7:Sz 2000 ((2*x.s*y.s:Int):Rat):=(Sz.whole (by rcases sx with e | e<;>rcases sy with f | f<;>rw [e,f]<;>decide)).up (by omega)
 have h:=fcmp_w w sx sy (sgq_abs (x.p-y.p)) (rts_abs x.s x.a y.s y.a sx sy) (Sg.sg2_three ((x.p-y.p)*(x.p-y.p)-(x.a+y.a)) ((2*x.s*y.s:Int):Rat) (x.a*y.a)) (fun V _=>rsub_z hx.p hy.p h3 (zx.p.up (by omega)) (zy.p.up (by omega)) V) (fun V _=>rsign_z h3 V) (fun V _=>side_f hx sx V) (fun V _=>side_f hy sy V) (fun V _=>froots_f hx.r hy.r (ok_nn okx) (ok_nn oky) (zx.r.up (by omega)) (zy.r.up (by omega)) sx sy V)
  (fun V _=>rmul_z h3 h3 h4 (z3.up (by omega)) (z3.up (by omega)) V) (fun V _=>radd_z hx.r hy.r h5 (zx.r.up (by omega)) (zy.r.up (by omega)) V) (fun V _=>rsub_z h4 h5 h6 (z4.up (by omega)) (z5.up (by omega)) V) (fun V _=>HW V) (fun V _=>rmul_z hx.r hy.r h8 (zx.r.up (by omega)) (zy.r.up (by omega)) V)
  (fun V _=>fsigns_f h6 h7 h8 hs7 (Rat.mul_nonneg (ok_nn okx) (ok_nn oky)) (z6.up (by omega)) z7 (z8.up (by omega)) V)
 rw [e7] at h
 exact h
end Go.Proofs.YtpnokfgplnmjpaaGreatDoor


namespace Go.Proofs.YtpnokfgplnmjpaaGreatDoor
open Go.RowKit
attribute [local go_sem ↓] Go.wp_at_zero Go.wp_at_succ

end Go.Proofs.YtpnokfgplnmjpaaGreatDoor


namespace Go.Proofs.YtpnokfgplnmjpaaGreatDoor
open Go.RowKit
attribute [local go_sem ↓] Go.wp_at_zero Go.wp_at_succ

set_option maxHeartbeats 8000000 in
set_option maxRecDepth 100000 in
theorem fscale_w (w:World) {b1 c1 s1:Bool} {m1 k1 n1 l1:ByteArray} {b6 c6 s6:Bool} {m6 k6 n6 l6:ByteArray} {b2 b3 b4 b5:Bool} {m2 k2 m3 k3 m4 k4 m5 k5:ByteArray} {s:Int} (HA:∀ V,Below w.heap.size w V→Calls Tryz.prog 78 #[.agg #[.bool b1,.string m1,.bool false,.string k1],.agg #[.bool b2,.string m2,.bool false,.string k2]] V (RetB V (.agg #[.bool b3,.string m3,.bool false,.string k3]))) (HS:∀ V,Below w.heap.size w V→Calls Tryz.prog 85 #[.agg #[.bool b1,.string m1,.bool false,.string k1,.bool c1,.string n1,.bool false,.string l1,.bool s1]] V (RetB V (.int .i64 (s)))) (HW:∀ V,Below w.heap.size w V→Calls Tryz.prog 21 #[.int .i64 (s)] V (RetB V (.agg #[.bool b4,.string m4,.bool false,.string k4]))) (HB:∀ V,Below w.heap.size w V→Calls Tryz.prog 78 #[.agg #[.bool b2,.string m2,.bool false,.string k2],.agg #[.bool b4,.string m4,.bool false,.string k4]] V (RetB V (.agg #[.bool b5,.string m5,.bool false,.string k5]))) (HM:∀ V,Below w.heap.size w V→Calls Tryz.prog 29 #[.agg #[.bool b3,.string m3,.bool false,.string k3],.agg #[.bool b5,.string m5,.bool false,.string k5],.agg #[.bool c1,.string n1,.bool false,.string l1]] V (RetB V (.agg #[.bool b6,.string m6,.bool false,.string k6,.bool c6,.string n6,.bool false,.string l6,.bool s6]))) :
  Calls Tryz.prog 48 #[.agg #[.bool b1,.string m1,.bool false,.string k1,.bool c1,.string n1,.bool false,.string l1,.bool s1],.agg #[.bool b2,.string m2,.bool false,.string k2]] w (RetB w (.agg #[.bool b6,.string m6,.bool false,.string k6,.bool c6,.string n6,.bool false,.string l6,.bool s6])):=by
 have C1:=Lib.hid HA
 have C2:=Lib.hid HS
 have C3:=Lib.hid HW
 have C4:=Lib.hid HB
 have C5:=Lib.hid HM
 have RS:=Lib.hid Tryz.results48
 clear HA HS HW HB HM 
 go_enter Tryz.func48,Tryz.ntmps48
 exact wk0

set_option maxHeartbeats 8000000 in
set_option maxRecDepth 100000 in
theorem fneg_w (w:World) {b1 c1 s1:Bool} {m1 k1 n1 l1:ByteArray} {b6 c6 s6:Bool} {m6 k6 n6 l6:ByteArray} {b2:Bool} {m2 k2:ByteArray} (HW:∀ V,Below w.heap.size w V→Calls Tryz.prog 21 #[.int .i64 (-1)] V (RetB V (.agg #[.bool b2,.string m2,.bool false,.string k2]))) (HC:∀ V,Below w.heap.size w V→Calls Tryz.prog 48 #[.agg #[.bool b1,.string m1,.bool false,.string k1,.bool c1,.string n1,.bool false,.string l1,.bool s1],.agg #[.bool b2,.string m2,.bool false,.string k2]] V (RetB V (.agg #[.bool b6,.string m6,.bool false,.string k6,.bool c6,.string n6,.bool false,.string l6,.bool s6]))) :
  Calls Tryz.prog 46 #[.agg #[.bool b1,.string m1,.bool false,.string k1,.bool c1,.string n1,.bool false,.string l1,.bool s1]] w (RetB w (.agg #[.bool b6,.string m6,.bool false,.string k6,.bool c6,.string n6,.bool false,.string l6,.bool s6])):=by
 have C1:=Lib.hid HW
 have C2:=Lib.hid HC
 have RS:=Lib.hid Tryz.results46
 clear HW HC 
 go_enter Tryz.func46,Tryz.ntmps46
 exact wk0

noncomputable def Sg.Rl.scl (x:Sg.Rl) (r:Rat):Sg.Rl:=Sg.mkR (x.p*r) (r*(x.s:Rat)) x.a
def Sg.Rl.nm (x:Sg.Rl):Rat:=x.p*x.p-x.a
noncomputable def Sg.Rl.iv (x:Sg.Rl):Sg.Rl:=Sg.mkR (x.p / x.nm) (((-x.s:Int):Rat) / x.nm) x.a
theorem pm_le {s:Int} (hs:s=1∨s=-1):s.natAbs≤255∧(-s).natAbs≤255:=by rcases hs with rfl | rfl<;>decide
theorem fscale_f {x:Sg.Rl} {r:Rat} {b1 c1 s1:Bool} {m1 k1 n1 l1:ByteArray} {b2:Bool} {m2 k2:ByteArray} {b6 c6 s6:Bool} {m6 k6 n6 l6:ByteArray} (hx:Rv x b1 m1 k1 c1 n1 l1 s1) (ok:x.Ok) (hr:Rq r b2 m2 k2) (h6:Rv (x.scl r) b6 m6 k6 c6 n6 l6 s6) (zx:Rz 500 x) (zr:Sz 500 r) (w:World):Calls Tryz.prog 48 #[.agg #[.bool b1,.string m1,.bool false,.string k1,.bool c1,.string n1,.bool false,.string l1,.bool s1],.agg #[.bool b2,.string m2,.bool false,.string k2]] w (RetB w (.agg #[.bool b6,.string m6,.bool false,.string k6,.bool c6,.string n6,.bool false,.string l6,.bool s6])):=by
 obtain ⟨b3,m3,k3,h3⟩:=Rq.some_ (x.p*r)
 obtain ⟨b4,m4,h4,HW⟩:=whole_q (pm_le ok.sg).1
 obtain ⟨b5,m5,k5,h5⟩:=Rq.some_ (r*(x.s:Rat))
 have z3:=zx.p.mul zr
 have z4:=(Sz.whole (pm_le ok.sg).1)
 have z5:=zr.mul z4
 exact fscale_w w (fun V _=>rmul_z hx.p hr h3 (zx.p.up (by omega)) (zr.up (by omega)) V) (fun V _=>side_f hx ok.sg V) (fun V _=>HW V) (fun V _=>rmul_z hr h4 h5 (zr.up (by omega)) (z4.up (by omega)) V) (fun V _=>fmk_f h3 h5 hx.r (z3.up (by omega)) (z5.up (by omega)) (zx.r.up (by omega)) h6 V)
theorem scl_neg {x:Sg.Rl} (ok:x.Ok):x.scl (-1)=x.neg:=by
 unfold Sg.Rl.scl
 rw [Sg.scale_mk ok (by decide),Sg.neg_scale ok]
theorem fneg_f {x:Sg.Rl} {b1 c1 s1 b6 c6 s6:Bool} {m1 k1 n1 l1 m6 k6 n6 l6:ByteArray} (hx:Rv x b1 m1 k1 c1 n1 l1 s1) (ok:x.Ok) (h6:Rv x.neg b6 m6 k6 c6 n6 l6 s6) (zx:Rz 500 x) (w:World):Calls Tryz.prog 46 #[.agg #[.bool b1,.string m1,.bool false,.string k1,.bool c1,.string n1,.bool false,.string l1,.bool s1]] w (RetB w (.agg #[.bool b6,.string m6,.bool false,.string k6,.bool c6,.string n6,.bool false,.string l6,.bool s6])):=by
 obtain ⟨b2,m2,h2,HW⟩:=whole_q (n:=-1) (by decide)
 rw [←scl_neg ok] at h6
 exact fneg_w w (fun V _=>HW V) (fun V _=>fscale_f hx ok h2 h6 zx ((Sz.whole (n:=-1) (by decide)).up (by omega)) V)
end Go.Proofs.YtpnokfgplnmjpaaGreatDoor


namespace Go.Proofs.YtpnokfgplnmjpaaGreatDoor
open Go.RowKit
attribute [local go_sem ↓] Go.wp_at_zero Go.wp_at_succ

theorem ediv_abs {x d:Int} (hd:0<d):(x / d).natAbs≤x.natAbs:=by
 rcases Int.le_total 0 x with h | h
 · have h1:=Int.ediv_nonneg h (Int.le_of_lt hd)
   have h2:=Int.ediv_le_self d h
   omega
 · have h1 : x ≤ x / d := (Int.le_ediv_iff_mul_le hd).2 (by
    have:x*d≤x*1:=Int.mul_le_mul_of_nonpos_left h (by omega)
    omega)
   have h2:x / d≤0:=by
    have:=Int.ediv_le_ediv hd h
    simpa using this
   omega
theorem Zs.up {n m:Nat} {z:Int} (h:Zs n z) (hm:n≤m):Zs m z:=Nat.lt_of_lt_of_le h (Nat.pow_le_pow_right (by decide) hm)
theorem Zs.div {n:Nat} {x d:Int} (h:Zs n x) (hd:0<d):Zs n (x / d):=Nat.lt_of_le_of_lt (ediv_abs hd) h
theorem Zs.one (n:Nat):Zs (n+1) 1:=by
 show 1<256^(n+1)
 rw [Nat.pow_succ]
 have:=Nat.pow_pos (a:=256) (n:=n) (by decide)
 omega
theorem Zs.sz' {n:Nat} {z:Int} (h:Zs (n+1) z):Sz (n+1) (z:Rat):=⟨by rw [Rat.num_intCast];exact h,by rw [Rat.den_intCast];exact Zs.one n⟩
theorem rq_z (z:Int):∃ b m,enc z=.agg #[.bool b,.string m]∧Rq (z:Rat) b m ⟨#[]⟩:=by
 obtain ⟨b,m,k,h⟩:=Rq.some_ (z:Rat)
 obtain rfl:=h.den1 (Rat.den_intCast z)
 have h1:=h.num
 rw [Rat.num_intCast] at h1
 exact ⟨b,m,h1,h⟩
theorem den_pos (q:Rat):(0:Rat)<(q.den:Int):=by
 have h:(0:Int)<(q.den:Int):=by have:=q.den_pos;omega
 exact Rat.intCast_pos.2 h
theorem cast_le {a b:Int} (h:a≤b):(a:Rat)≤(b:Rat):=Rat.intCast_le_intCast.2 h
theorem floorV_spec {x:Sg.Rl} (ok:x.Ok):Sg.cmpX (Sg.Rl.of (floorV x:Rat)) x≤0∧Sg.cmpX x (Sg.Rl.of ((floorV x:Rat)+1))=-1:=by
 unfold floorV
 rcases Sg.ok_cases ok with ⟨ha,hs⟩ | ⟨ha,hq⟩
 · rw [if_pos ha]
   have hx:x=Sg.Rl.of x.p:=Sg.Rl.ext' rfl ha hs
   have hd:=den_pos x.p
   have ht:=Sg.times_den x.p
   have hdi:(0:Int)<(x.p.den:Int):=by have:=x.p.den_pos;omega
   obtain ⟨F,hF⟩:∃ F,x.p.num / (x.p.den:Int)=F:=⟨_,rfl⟩
   have h1:F*(x.p.den:Int)≤x.p.num:=by rw [←hF];exact Int.ediv_mul_le _ (by omega)
   have h2:x.p.num<(F+1)*(x.p.den:Int):=by rw [←hF];exact Int.lt_ediv_add_one_mul_self _ hdi
   have h1':=cast_le h1
   have h2':((x.p.num:Int):Rat)<(((F+1)*(x.p.den:Int):Int):Rat):=Rat.intCast_lt_intCast.2 h2
   rw [Rat.intCast_mul] at h1' h2'
   rw [show ((F+1:Int):Rat)=(F:Rat)+1 by rw [Rat.intCast_add];rfl] at h2'
   rw [hF]
   rw [hx]
   generalize ((x.p.den:Int):Rat)=D at *
   rw [←ht] at h1' h2'
   refine ⟨Sg.of_le.2 ?_,Sg.of_lt.2 ?_⟩
   · exact Rat.le_of_mul_le_mul_right h1' hd
   · rcases Rat.le_total (a:=(F:Rat)+1) (b:=x.p) with h | h
     · have:=Rat.mul_le_mul_of_nonneg_right h (Rat.le_of_lt hd)
       grind
     · rcases Rat.le_iff_lt_or_eq.1 h with h | h
       · exact h
       · rw [h] at h2';grind
 · have hne:x.a≠0:=by grind
   rw [if_neg hne]
   have hnsq:Sg.NSq x.a:=Sg.nsq_sq.2 hq
   have hd1:=den_pos x.p
   have hd2:=den_pos x.a
   have ht1:=Sg.times_den x.p
   have ht2:=Sg.times_den x.a
   have hDi:(0:Int)<(x.p.den:Int)*(x.a.den:Int):=Int.mul_pos (by have:=x.p.den_pos;omega) (by have:=x.a.den_pos;omega)
   have hD:(0:Rat)<(((x.p.den:Int)*(x.a.den:Int):Int):Rat):=Rat.intCast_pos.2 hDi
   have hfn:=fN_pos ha
   obtain ⟨r,hr⟩:∃ r,rt (fN x).natAbs=r:=⟨_,rfl⟩
   have hsp:=rt_spec (fN x).natAbs
   rw [hr] at hsp ⊢
   obtain ⟨D,hDe⟩:∃ D,(x.p.den:Int)*(x.a.den:Int)=D:=⟨_,rfl⟩
   obtain ⟨M,hMe⟩:∃ M,x.p.num*(x.a.den:Int)=M:=⟨_,rfl⟩
   have hM:x.p*(D:Rat)=(M:Rat):=by
    rw [←hDe,←hMe,Rat.intCast_mul,Rat.intCast_mul,←ht1]
    grind
   have hN:x.a*((D:Rat)*(D:Rat))=(fN x:Rat):=by
    unfold fN
    rw [←hDe,Rat.intCast_mul,Rat.intCast_mul,Rat.intCast_mul,←ht2]
    grind
   rw [hDe] at hD hDi ⊢
   rw [hMe]
   have e1:((r*r:Nat):Int)≤fN x:=by have:=hsp.1;omega
   have e2:fN x<(((r+1)*(r+1):Nat):Int):=by have:=hsp.2;omega
   have e1':=cast_le e1
   have e2':((fN x:Int):Rat)<((((r+1)*(r+1):Nat):Int):Rat):=Rat.intCast_lt_intCast.2 e2
   have c1:(((r*r:Nat):Int):Rat)=((r:Int):Rat)*((r:Int):Rat):=by rw [←Rat.intCast_mul];congr 1
   have c2:((((r+1)*(r+1):Nat):Int):Rat)=(((r:Int):Rat)+1)*(((r:Int):Rat)+1):=by
    rw [show ((((r+1)*(r+1):Nat):Int))=((r:Int)+1)*((r:Int)+1) by simp,Rat.intCast_mul,Rat.intCast_add]
    rfl
   rw [c1] at e1'
   rw [c2] at e2'
   have hr0:(0:Rat)≤((r:Int):Rat):=by have:=cast_le (show (0:Int)≤(r:Int) by omega);simpa using this
   obtain ⟨F,hF⟩:∃ F,(M+(if x.s<0 then -1-(r:Int) else (r:Int))) / D=F:=⟨_,rfl⟩
   have h1:F*D≤M+(if x.s<0 then -1-(r:Int) else (r:Int)):=by rw [←hF];exact Int.ediv_mul_le _ (by omega)
   have h2:M+(if x.s<0 then -1-(r:Int) else (r:Int))<(F+1)*D:=by rw [←hF];exact Int.lt_ediv_add_one_mul_self _ hDi
   rw [hF]
   have key:=Sg.floor_root (p:=x.p) (a:=x.a) (D:=(D:Rat)) (s:=x.s) ok.sg hnsq hD (M:=(M:Rat)) (r:=((r:Int):Rat)) (F:=(F:Rat)) (N:=(fN x:Rat)) hM hN hr0 e1' e2'
    (fun hs=>by
     rw [if_neg (by omega)] at h1 h2
     have g1:=cast_le h1
     have g2:=cast_le (show M+(r:Int)+1≤(F+1)*D by omega)
     rw [Rat.intCast_mul,Rat.intCast_add] at g1
     rw [Rat.intCast_mul,Rat.intCast_add,Rat.intCast_add,Rat.intCast_add] at g2
     exact ⟨g1,g2⟩)
    (fun hs=>by
     rw [if_pos (by omega)] at h1 h2
     have g1:=cast_le (show F*D≤M-1-(r:Int) by omega)
     have g2:=cast_le (show M-(r:Int)≤(F+1)*D by omega)
     rw [Rat.intCast_mul,Rat.intCast_sub,Rat.intCast_sub] at g1
     rw [Rat.intCast_mul,Rat.intCast_sub,Rat.intCast_add] at g2
     exact ⟨g1,g2⟩)
   constructor
   · rw [Sg.cmp_anti ok (Sg.of_ok _),Sg.cmp_root ha,key.1]
     decide
   · rw [Sg.cmp_root ha]
     exact key.2
theorem floor_between {x:Sg.Rl} (ok:x.Ok) {m n F:Int} (h1:Sg.cmpX (Sg.Rl.of (m:Rat)) x≤0) (h2:Sg.cmpX x (Sg.Rl.of (n:Rat))=-1) (g1:Sg.cmpX (Sg.Rl.of (F:Rat)) x≤0) (g2:Sg.cmpX x (Sg.Rl.of ((F:Rat)+1))=-1):m≤F∧F<n:=by
 constructor
 · have h:Sg.cmpX (Sg.Rl.of (m:Rat)) (Sg.Rl.of ((F:Rat)+1))=-1:=Sg.le_lt (Sg.of_ok _) ok (Sg.of_ok _) h1 g2
   have h3:=Sg.of_lt.1 h
   rw [show (F:Rat)+1=((F+1:Int):Rat) by rw [Rat.intCast_add];rfl] at h3
   have:=Rat.intCast_lt_intCast.1 h3
   omega
 · have h:Sg.cmpX (Sg.Rl.of (F:Rat)) (Sg.Rl.of (n:Rat))=-1:=Sg.le_lt (Sg.of_ok _) ok (Sg.of_ok _) g1 h2
   exact Rat.intCast_lt_intCast.1 (Sg.of_lt.1 h)
theorem near_root {x:Sg.Rl} (ok:x.Ok) {root n:Rat} (h0:0≤root) (hz:x.a=0→root=0) (h1:root*root≤x.a) (h2:x.a<(root+1)*(root+1)) (g1:n≤x.p+(x.s:Rat)*root) (g2:x.p+(x.s:Rat)*root<n+1) :
  Sg.cmpX (Sg.Rl.of (n-1)) x≤0∧Sg.cmpX x (Sg.Rl.of (n+2))=-1:=by
 rcases Sg.ok_cases ok with ⟨ha,hs⟩ | ⟨ha,hq⟩
 · have hx:x=Sg.Rl.of x.p:=Sg.Rl.ext' rfl ha hs
   rw [hz ha] at g1 g2
   rw [hx]
   exact ⟨Sg.of_le.2 (by show n-1≤x.p;grind),Sg.of_lt.2 (by show x.p<n+2;grind)⟩
 · rw [Sg.cmp_anti ok (Sg.of_ok _),Sg.cmp_root ha,Sg.cmp_root ha]
   have hpos:0<root+1:=by grind
   unfold Sg.sos
   rcases ok.sg with hs | hs
   · rw [hs] at g1 g2 ⊢
     rw [show (((1:Int):Int):Rat)=1 from rfl] at g1 g2
     constructor
     · by_cases hp:x.p-(n-1)<0
       · rw [Sg.sgq_neg hp,if_neg (by decide)]
         have h3:(x.p-(n-1))*(x.p-(n-1))<root*root:=Sg.sq_lt (by grind) (by grind)
         rw [Sg.sgq_pos (by grind)];decide
       · rcases Sg.sgq_three (x.p-(n-1)) with ⟨h,e⟩ | ⟨h,e⟩ | ⟨h,e⟩
         · exact absurd h hp
         · rw [e,if_pos (by decide)];decide
         · rw [e,if_pos (by decide)];decide
     · have hp:x.p-(n+2)<0:=by grind
       rw [Sg.sgq_neg hp,if_neg (by decide)]
       have h3:(root+1)*(root+1)≤(x.p-(n+2))*(x.p-(n+2)):=by
        have:=Sg.sq_le (x:=root+1) (y:=-(x.p-(n+2))) (by grind) (by grind)
        grind
       rw [Sg.sgq_neg (by grind)]
       decide
   · rw [hs] at g1 g2 ⊢
     rw [show (((-1:Int):Int):Rat)=-1 from rfl] at g1 g2
     constructor
     · have hp:0<x.p-(n-1):=by grind
       rw [Sg.sgq_pos hp,if_neg (by decide)]
       have h3:(root+1)*(root+1)≤(x.p-(n-1))*(x.p-(n-1)):=Sg.sq_le (by grind) (by grind)
       rw [Sg.sgq_neg (by grind)]
       decide
     · by_cases hp:0<x.p-(n+2)
       · rw [Sg.sgq_pos hp,if_neg (by decide)]
         have h3:(x.p-(n+2))*(x.p-(n+2))<root*root:=Sg.sq_lt (by grind) (by grind)
         rw [Sg.sgq_pos (by grind)];decide
       · rcases Sg.sgq_three (x.p-(n+2)) with ⟨h,e⟩ | ⟨h,e⟩ | ⟨h,e⟩
         · rw [e,if_pos (by decide)]
         · rw [e,if_pos (by decide)]
         · exact absurd h hp
theorem root_frac {a:Rat} (h:0≤a) {r:Nat} (hr:rt (a.num*(a.den:Int)).natAbs=r):(0:Rat)≤Rat.divInt (r:Int) (a.den:Int)∧(a=0→Rat.divInt (r:Int) (a.den:Int)=0)∧Rat.divInt (r:Int) (a.den:Int)*Rat.divInt (r:Int) (a.den:Int)≤a∧a<(Rat.divInt (r:Int) (a.den:Int)+1)*(Rat.divInt (r:Int) (a.den:Int)+1):=by
 have hd:=den_pos a
 have hdi:(0:Int)<(a.den:Int):=by have:=a.den_pos;omega
 have ht:=Sg.times_den a
 have hd1:(1:Rat)≤((a.den:Int):Rat):=cast_le (show (1:Int)≤(a.den:Int) by omega)
 have hn:0≤a.num:=Rat.num_nonneg.2 h
 have hnn:0≤a.num*(a.den:Int):=Int.mul_nonneg hn (by omega)
 have hsp:=rt_spec (a.num*(a.den:Int)).natAbs
 rw [hr] at hsp
 have e1:((r*r:Nat):Int)≤a.num*(a.den:Int):=by have:=hsp.1;omega
 have e2:a.num*(a.den:Int)<(((r+1)*(r+1):Nat):Int):=by have:=hsp.2;omega
 have e1':=cast_le e1
 have e2':((a.num*(a.den:Int):Int):Rat)<((((r+1)*(r+1):Nat):Int):Rat):=Rat.intCast_lt_intCast.2 e2
 have c1:(((r*r:Nat):Int):Rat)=((r:Int):Rat)*((r:Int):Rat):=by rw [←Rat.intCast_mul];congr 1
 have c2:((((r+1)*(r+1):Nat):Int):Rat)=(((r:Int):Rat)+1)*(((r:Int):Rat)+1):=by
  rw [show ((((r+1)*(r+1):Nat):Int))=((r:Int)+1)*((r:Int)+1) by simp,Rat.intCast_mul,Rat.intCast_add]
  rfl
 rw [c1,Rat.intCast_mul] at e1'
 rw [c2,Rat.intCast_mul] at e2'
 have hr0:(0:Rat)≤((r:Int):Rat):=by have:=cast_le (show (0:Int)≤(r:Int) by omega);simpa using this
 have hz:a=0→r=0:=fun e=>by
  rw [e] at hr
  rw [←hr]
  exact rt_unique (r:=0) (by decide) (by decide)
 obtain ⟨v,hv⟩:∃ v,Rat.divInt (r:Int) (a.den:Int)=v:=⟨_,rfl⟩
 have hvd:v*((a.den:Int):Rat)=((r:Int):Rat):=by
  rw [←hv,Rat.divInt_eq_div]
  generalize ((a.den:Int):Rat)=D at *
  generalize ((r:Int):Rat)=R at *
  grind
 rw [hv]
 rw [←ht] at e1' e2'
 generalize ((a.den:Int):Rat)=D at *
 have hz2:a=0→v=0:=fun e=>by
  have h1:((r:Int):Rat)=0:=by rw [hz e];rfl
  rw [h1] at hvd
  grind
 generalize ((r:Int):Rat)=R at *
 subst hvd
 have hDD:0<D*D:=Rat.mul_pos hd hd
 refine ⟨?_,hz2,?_,?_⟩
 · rcases Rat.le_total (a:=0) (b:=v) with h | h
   · exact h
   · by_cases h':v<0
     · have:=Sg.mul_lt h' hd
       grind
     · grind
 · refine Rat.le_of_mul_le_mul_right (c:=D*D) ?_ hDD
   grind
 · rcases Rat.le_total (a:=(v+1)*(v+1)) (b:=a) with h | h
   · exfalso
     have h3:=Rat.mul_le_mul_of_nonneg_right h (Rat.le_of_lt hDD)
     have h4:(v*D+1)*(v*D+1)≤(v*D+D)*(v*D+D):=Sg.sq_le (by grind) (by grind)
     grind
   · rcases Rat.le_iff_lt_or_eq.1 h with h | h
     · exact h
     · exfalso
       have h4:(v*D+1)*(v*D+1)≤(v*D+D)*(v*D+D):=Sg.sq_le (by grind) (by grind)
       rw [h] at e2'
       grind
end Go.Proofs.YtpnokfgplnmjpaaGreatDoor


namespace Go.Proofs.YtpnokfgplnmjpaaGreatDoor
open Go.RowKit
attribute [local go_sem ↓] Go.wp_at_zero Go.wp_at_succ

end Go.Proofs.YtpnokfgplnmjpaaGreatDoor


namespace Go.Proofs.YtpnokfgplnmjpaaGreatDoor
open Go.RowKit
attribute [local go_sem ↓] Go.wp_at_zero Go.wp_at_succ

set_option maxHeartbeats 8000000 in
set_option maxRecDepth 100000 in
theorem ceil_w (w:World) {b1 c1 s1:Bool} {m1 k1 n1 l1:ByteArray} {b2 c2 s2:Bool} {m2 k2 n2 l2:ByteArray} {b3:Bool} {m3:ByteArray} {b4:Bool} {m4:ByteArray} (HN:∀ V,Below w.heap.size w V→Calls Tryz.prog 43 #[.agg #[.bool b1,.string m1,.bool false,.string k1,.bool c1,.string n1,.bool false,.string l1,.bool s1]] V (RetB V (.agg #[.bool b2,.string m2,.bool false,.string k2,.bool c2,.string n2,.bool false,.string l2,.bool s2]))) (HF:∀ V,Below w.heap.size w V→Calls Tryz.prog 52 #[.agg #[.bool b2,.string m2,.bool false,.string k2,.bool c2,.string n2,.bool false,.string l2,.bool s2]] V (RetB V (.agg #[.bool b3,.string m3]))) (HG:∀ V,Below w.heap.size w V→Calls Tryz.prog 107 #[.agg #[.bool b3,.string m3]] V (RetB V (.agg #[.bool b4,.string m4]))) :
  Calls Tryz.prog 54 #[.agg #[.bool b1,.string m1,.bool false,.string k1,.bool c1,.string n1,.bool false,.string l1,.bool s1]] w (RetB w (.agg #[.bool b4,.string m4])):=by
 have C1:=Lib.hid HN
 have C2:=Lib.hid HF
 have C3:=Lib.hid HG
 have RS:=Lib.hid Tryz.results54
 clear HN HF HG 
 go_enter Tryz.func54,Tryz.ntmps54
 exact wk0

set_option maxHeartbeats 8000000 in
set_option maxRecDepth 100000 in
theorem fceil_w (w:World) {b1 c1 s1:Bool} {m1 k1 n1 l1:ByteArray} {b2 c2 s2:Bool} {m2 k2 n2 l2:ByteArray} {b3:Bool} {m3:ByteArray} {b4:Bool} {m4:ByteArray} (HN:∀ V,Below w.heap.size w V→Calls Tryz.prog 46 #[.agg #[.bool b1,.string m1,.bool false,.string k1,.bool c1,.string n1,.bool false,.string l1,.bool s1]] V (RetB V (.agg #[.bool b2,.string m2,.bool false,.string k2,.bool c2,.string n2,.bool false,.string l2,.bool s2]))) (HF:∀ V,Below w.heap.size w V→Calls Tryz.prog 53 #[.agg #[.bool b2,.string m2,.bool false,.string k2,.bool c2,.string n2,.bool false,.string l2,.bool s2]] V (RetB V (.agg #[.bool b3,.string m3,.bool false,.string ⟨#[]⟩]))) (HG:∀ V,Below w.heap.size w V→Calls Tryz.prog 49 #[.agg #[.bool b3,.string m3,.bool false,.string ⟨#[]⟩]] V (RetB V (.agg #[.bool b4,.string m4,.bool false,.string ⟨#[]⟩]))) :
  Calls Tryz.prog 55 #[.agg #[.bool b1,.string m1,.bool false,.string k1,.bool c1,.string n1,.bool false,.string l1,.bool s1]] w (RetB w (.agg #[.bool b4,.string m4,.bool false,.string ⟨#[]⟩])):=by
 have C1:=Lib.hid HN
 have C2:=Lib.hid HF
 have C3:=Lib.hid HG
 have RS:=Lib.hid Tryz.results55
 clear HN HF HG 
 go_enter Tryz.func55,Tryz.ntmps55
 exact wk0

theorem floorV_size {x:Sg.Rl} (ok:x.Ok) {n:Nat} (zx:Rz (n+1) x):Zs (5*n+20) (floorV x):=by
 unfold floorV
 split
 · exact (zx.p.n.div (by have:=x.p.den_pos;omega)).up (by omega)
 · refine Zs.div ?_ (Int.mul_pos (by have:=x.p.den_pos;omega) (by have:=x.a.den_pos;omega))
   have zN:Zs (4*(n+1)) (fN x):=(((zx.p.d.mul zx.r.d).mul zx.p.d).mul zx.r.n).up (by omega)
   have zr:Zs (4*(n+1)) ((rt (fN x).natAbs:Nat):Int):=zN.root
   have zm:=zx.p.n.mul zx.r.d
   have zr2:Zs (4*(n+1)+1) (if x.s<0 then -1-((rt (fN x).natAbs:Nat):Int) else ((rt (fN x).natAbs:Nat):Int)):=by
    split
    · exact zr.below
    · exact zr.up (by omega)
   exact ((zm.up (show _≤4*(n+1)+1 by omega)).plus zr2).up (by omega)
theorem fOf_z {w V:World} (_:Below w.heap.size w V) {b:Bool} {m k:ByteArray}:Calls Tryz.prog 20 #[.agg #[.bool b,.string m,.bool false,.string k]] V (RetB V (.agg #[.bool b,.string m,.bool false,.string k,.bool false,.string ⟨#[]⟩,.bool false,.string ⟨#[]⟩,.bool false])):=of_any _ _ _ V
theorem ffloor_f {x:Sg.Rl} {b1 c1 s1:Bool} {m1 k1 n1 l1:ByteArray} {b6:Bool} {m6:ByteArray} (hx:Rv x b1 m1 k1 c1 n1 l1 s1) (ok:x.Ok) (zx:Rz 50 x) (h6:enc (floorV x)=.agg #[.bool b6,.string m6]) (w:World):Calls Tryz.prog 53 #[.agg #[.bool b1,.string m1,.bool false,.string k1,.bool c1,.string n1,.bool false,.string l1,.bool s1]] w (RetB w (.agg #[.bool b6,.string m6,.bool false,.string ⟨#[]⟩])):=by
 obtain ⟨F,hF⟩:∃ F,floorV x=F:=⟨_,rfl⟩
 have zF0:=floorV_size ok (n:=49) ⟨zx.p,zx.r⟩
 obtain ⟨g1,g2⟩:=floorV_spec ok
 rw [hF] at h6 g1 g2 zF0
 obtain ⟨b6',m6',e6,h6'⟩:=rq_z F
 rw [e6] at h6
 injection h6 with h6
 injection h6 with h6
 injection h6 with h61 h62
 injection h62 with h62 _
 injection h61 with h61
 injection h62 with h62
 subst h61 h62
 have zF:Zs (299+1) F:=zF0.up (by omega)
 have zF1:Zs (300+1) (F+1):=zF.plus (Zs.one 299)
 have zE:Zs (300+1) (F-1):=zF.plus (y:=-1) (Zs.one 299)
 obtain ⟨b7,m7,e7,h7⟩:=rq_z (F+1)
 obtain ⟨b8,m8,e8,h8⟩:=rq_z (F-1)
 have ha:0≤x.a:=by
  rcases Sg.ok_cases ok with ⟨h,_⟩ | ⟨h,_⟩<;>grind
 obtain ⟨md,emd,hmd⟩:∃ md,enc (x.a.den:Int)=.agg #[.bool false,.string md]∧((l1=⟨#[]⟩∧md=⟨#[1]⟩)∨(l1≠⟨#[]⟩∧md=l1)):=by
  refine ⟨_,enc_mag _,?_⟩
  by_cases hd:x.a.den=1
  · exact .inl ⟨hx.r.den1 hd,by rw [hd];exact mag_one⟩
  · have:=hx.r.den2 hd
    exact .inr ⟨by rw [this];exact mag_no_nil (by have:=x.a.den_pos;omega),this.symm⟩
 obtain ⟨b20,m20,e20⟩:=enc_form (x.a.num*(x.a.den:Int))
 have hn0:0≤x.a.num*(x.a.den:Int):=Int.mul_nonneg (Rat.num_nonneg.2 ha) (by omega)
 obtain ⟨r,hr⟩:∃ r,rt (x.a.num*(x.a.den:Int)).natAbs=r:=⟨_,rfl⟩
 obtain ⟨b21,m21,e21⟩:=enc_form (r:Int)
 obtain ⟨q0,qz,q1,q2⟩:=root_frac ha hr
 obtain ⟨root,hroot⟩:∃ v,Rat.divInt (r:Int) (x.a.den:Int)=v:=⟨_,rfl⟩
 rw [hroot] at q0 qz q1 q2
 obtain ⟨b2,m2,k2,h2⟩:=Rq.some_ root
 obtain ⟨b3,m3,h3,HW⟩:=whole_q (pm_le ok.sg).1
 obtain ⟨b4,m4,k4,h4⟩:=Rq.some_ ((x.s:Rat)*root)
 obtain ⟨b5,m5,k5,h5⟩:=Rq.some_ (x.p+(x.s:Rat)*root)
 have zN:Zs 100 (x.a.num*(x.a.den:Int)):=zx.r.n.mul zx.r.d
 have zr:Zs 100 (r:Int):=by rw [←hr];exact zN.root
 have zd:Zs 50 (x.a.den:Int):=zx.r.d
 have zroot:Sz 151 root:=by
  have h1:Sz 50 ((x.a.den:Int):Rat):=(show Zs (49+1) (x.a.den:Int) from zd).sz'
  have h2:Sz 100 ((r:Int):Rat):=(show Zs (99+1) (r:Int) from zr).sz'
  rw [←hroot,Rat.divInt_eq_div]
  exact (h2.by_ h1).up (by omega)
 have z3:Sz 1 (x.s:Rat):=Sz.whole (pm_le ok.sg).1
 have z4:=z3.mul zroot
 have z5:Sz 400 (x.p+(x.s:Rat)*root):=(zx.p.add z4).up (by omega)
 obtain ⟨n0,hn0e⟩:∃ n0,(x.p+(x.s:Rat)*root).num / ((x.p+(x.s:Rat)*root).den:Int)=n0:=⟨_,rfl⟩
 have hfl:(n0:Rat)≤x.p+(x.s:Rat)*root∧x.p+(x.s:Rat)*root<(n0:Rat)+1:=by
  have hs:=floorV_spec (Sg.of_ok (x.p+(x.s:Rat)*root))
  have e:floorV (Sg.Rl.of (x.p+(x.s:Rat)*root))=n0:=by unfold floorV;exact (if_pos (show (Sg.Rl.of (x.p+(x.s:Rat)*root)).a=0 from rfl)).trans hn0e
  rw [e] at hs
  exact ⟨Sg.of_le.1 hs.1,Sg.of_lt.1 hs.2⟩
 obtain ⟨u1,u2⟩:=near_root ok q0 qz q1 q2 hfl.1 hfl.2
 rw [show (n0:Rat)-1=((n0-1:Int):Rat) by rw [Rat.intCast_sub];rfl] at u1
 rw [show (n0:Rat)+2=((n0+2:Int):Rat) by rw [Rat.intCast_add];rfl] at u2
 obtain ⟨v1,v2⟩:=floor_between ok u1 u2 g1 g2
 have hsq:bval m20=(x.a.num*(x.a.den:Int)).natAbs:=by rw [(enc_parts e20).2,bval_mag]
 have s20:m20.size≤100000:=Nat.le_trans (zN.sz e20) (by decide)
 have D1:=fun V (_:Below w.heap.size w V)=>zret (show enc (1:Int)=.agg #[.bool false,.string ⟨#[1]⟩] by rw [←mag_one];exact enc_mag 1) (refFromInt_pos 1 (by omega) V)
 have D2:=fun V (_:Below w.heap.size w V)=>zret e20 (by have h:=refMul_any x.a.num (x.a.den:Int) (by have:=zx.r.n.sz hx.r.num;rw [(enc_parts hx.r.num).2] at this;omega) (by have:=zd.sz emd;rw [(enc_parts emd).2] at this;omega) V;rw [hx.r.num,emd] at h;exact h)
 have D3:=fun V (_:Below w.heap.size w V)=>zret e21 (by have h:=refSqrt_any b20 m20 V s20;rw [hsq,hr] at h;exact h)
 have D4:=fun V (_:Below w.heap.size w V)=>rmake_f e21 emd (by rw [hroot];exact h2) (by have:=x.a.den_pos;omega) (Nat.le_trans (zr.sz e21) (by decide)) (Nat.le_trans (zd.sz emd) (by decide)) V
 have D5:=fun V (_:Below w.heap.size w V)=>side_f hx ok.sg V
 have D6:=fun V (_:Below w.heap.size w V)=>HW V
 have D7:=fun V (_:Below w.heap.size w V)=>rmul_z h3 h2 h4 (z3.up (by omega)) (zroot.up (by omega)) V
 have D8:=fun V (_:Below w.heap.size w V)=>radd_z hx.p h4 h5 (zx.p.up (by omega)) (z4.up (by omega)) V
 have zz:Sz (299+1) 0:=Sz.zero 299
 have K1:=fun V (_:Below w.heap.size w V)=>fcmp_f (x:=Sg.Rl.of (F:Rat)) ⟨h6',Rq.zero,rfl⟩ hx (Sg.of_ok _) ok ⟨zF.sz'.up (by omega),zz.up (by omega)⟩ ⟨zx.p.up (by omega),zx.r.up (by omega)⟩ V
 have K2:=fun V (_:Below w.heap.size w V)=>fcmp_f (x:=Sg.Rl.of ((F+1:Int):Rat)) ⟨h7,Rq.zero,rfl⟩ hx (Sg.of_ok _) ok ⟨zF1.sz'.up (by omega),zz.up (by omega)⟩ ⟨zx.p.up (by omega),zx.r.up (by omega)⟩ V
 have K3:=fun V (_:Below w.heap.size w V)=>fcmp_f (x:=Sg.Rl.of ((F-1:Int):Rat)) ⟨h8,Rq.zero,rfl⟩ hx (Sg.of_ok _) ok ⟨zE.sz'.up (by omega),zz.up (by omega)⟩ ⟨zx.p.up (by omega),zx.r.up (by omega)⟩ V
 have c1:((F+1:Int):Rat)=(F:Rat)+1:=by rw [Rat.intCast_add];rfl
 have c2:((F-1:Int):Rat)=(F:Rat)-1:=by rw [Rat.intCast_sub];rfl
 have k2:Sg.cmpX (Sg.Rl.of ((F+1:Int):Rat)) x=1:=by rw [Sg.cmp_anti ok (Sg.of_ok _),c1,g2];rfl
 have k3:Sg.cmpX (Sg.Rl.of ((F-1:Int):Rat)) x=-1:=Sg.lt_le (Sg.of_ok _) (Sg.of_ok _) ok (Sg.of_lt.2 (by rw [c2];grind)) g1
 rw [k2] at K2
 rw [k3] at K3
 have zo:Sz 1 1:=⟨by decide +kernel,by decide +kernel⟩
 have A1:=fun V (_:Below w.heap.size w V)=>radd_z h6' qo (by rw [←c1];exact h7) (zF.sz'.up (by omega)) (zo.up (by omega)) V
 have A2:=fun V (_:Below w.heap.size w V)=>rsub_z h7 qo (by rw [c1,show (F:Rat)+1-1=F by grind];exact h6') (zF1.sz'.up (by omega)) (zo.up (by omega)) V
 have A3:=fun V (_:Below w.heap.size w V)=>radd_z h8 qo (by rw [c2,show (F:Rat)-1+1=F by grind];exact h6') (zE.sz'.up (by omega)) (zo.up (by omega)) V
 have HFl:∀ {b:Bool} {m:ByteArray},enc n0=.agg #[.bool b,.string m]→∀ V,Below w.heap.size w V→Calls Tryz.prog 106 #[.agg #[.bool b5,.string m5,.bool false,.string k5]] V (RetB V (.agg #[.bool b,.string m,.bool false,.string ⟨#[]⟩])):=fun h V _=>rFloor_f h5 (by rw [hn0e];exact h) (Nat.le_trans (z5.n.sz h5.num) (by decide)) (by have:=z5.d.sz (enc_mag _);omega) V
 have O:=fun V (_:Below w.heap.size w V)=>one_any V
 have three:n0=F∨n0=F+1∨n0=F-1:=by omega
 rcases three with rfl | rfl | rfl
 · exact ffloor_eq (b8:=b8) (m8:=m8) w hmd g1 (by omega) (fun V hb=>fOf_z hb) D1 D2 D3 D4 D5 D6 D7 D8 (HFl e6) K1 O A1 K2
 · exact ffloor_gt (b8:=b8) (m8:=m8) w hmd g1 (by omega) (fun V hb=>fOf_z hb) D1 D2 D3 D4 D5 D6 D7 D8 (HFl e7) K1 O A1 K2 A2
 · exact ffloor_lt w hmd g1 (by omega) (fun V hb=>fOf_z hb) D1 D2 D3 D4 D5 D6 D7 D8 (HFl e8) K1 O A1 K2 K3 A3
end Go.Proofs.YtpnokfgplnmjpaaGreatDoor


namespace Go.Proofs.YtpnokfgplnmjpaaGreatDoor
open Go.RowKit
attribute [local go_sem ↓] Go.wp_at_zero Go.wp_at_succ

end Go.Proofs.YtpnokfgplnmjpaaGreatDoor


namespace Go.Proofs.YtpnokfgplnmjpaaGreatDoor
open Go.RowKit
attribute [local go_sem ↓] Go.wp_at_zero Go.wp_at_succ

set_option maxHeartbeats 8000000 in
set_option maxRecDepth 100000 in
theorem floors_no (w:World) {b1 d1 c1 e1 s1:Bool} {m1 k1 n1 l1:ByteArray} (HK:∀ V,Below w.heap.size w V→Calls Tryz.prog 15 #[] V (RetB V (.bool true))) (HS:∀ V,Below w.heap.size w V→Calls Tryz.prog 22 #[.agg #[.bool b1,.string m1,.bool d1,.string k1,.bool c1,.string n1,.bool e1,.string l1,.bool s1]] V (RetB V (.bool false))) :
  Calls Tryz.prog 10 #[.agg #[.bool b1,.string m1,.bool d1,.string k1,.bool c1,.string n1,.bool e1,.string l1,.bool s1]] w (RetB w (.bool true)):=by
 have C1:=Lib.hid HK
 have C2:=Lib.hid HS
 clear HK HS 
 go_enter Tryz.func10,Tryz.ntmps10
 exact wk0

set_option maxHeartbeats 8000000 in
set_option maxRecDepth 100000 in
theorem floors_yes (w:World) {b1 c1 s1:Bool} {m1 k1 n1 l1:ByteArray} {b3:Bool} {m3:ByteArray} {b4:Bool} {m4:ByteArray} (HK:∀ V,Below w.heap.size w V→Calls Tryz.prog 15 #[] V (RetB V (.bool true))) (HS:∀ V,Below w.heap.size w V→Calls Tryz.prog 22 #[.agg #[.bool b1,.string m1,.bool false,.string k1,.bool c1,.string n1,.bool false,.string l1,.bool s1]] V (RetB V (.bool true))) (HF:∀ V,Below w.heap.size w V→Calls Tryz.prog 52 #[.agg #[.bool b1,.string m1,.bool false,.string k1,.bool c1,.string n1,.bool false,.string l1,.bool s1]] V (RetB V (.agg #[.bool b3,.string m3]))) (GF:∀ V,Below w.heap.size w V→Calls Tryz.prog 53 #[.agg #[.bool b1,.string m1,.bool false,.string k1,.bool c1,.string n1,.bool false,.string l1,.bool s1]] V (RetB V (.agg #[.bool b3,.string m3,.bool false,.string ⟨#[]⟩]))) (HC:∀ V,Below w.heap.size w V→Calls Tryz.prog 54 #[.agg #[.bool b1,.string m1,.bool false,.string k1,.bool c1,.string n1,.bool false,.string l1,.bool s1]] V (RetB V (.agg #[.bool b4,.string m4]))) (GC:∀ V,Below w.heap.size w V→Calls Tryz.prog 55 #[.agg #[.bool b1,.string m1,.bool false,.string k1,.bool c1,.string n1,.bool false,.string l1,.bool s1]] V (RetB V (.agg #[.bool b4,.string m4,.bool false,.string ⟨#[]⟩]))) :
  Calls Tryz.prog 10 #[.agg #[.bool b1,.string m1,.bool false,.string k1,.bool c1,.string n1,.bool false,.string l1,.bool s1]] w (RetB w (.bool true)):=by
 have C1:=Lib.hid HK
 have C2:=Lib.hid HS
 have C3:=Lib.hid HF
 have C4:=Lib.hid GF
 have C5:=Lib.hid HC
 have C6:=Lib.hid GC
 clear HK HS HF GF HC GC 
 go_enter Tryz.func10,Tryz.ntmps10
 exact wk0

theorem rceil_f {x:Sg.Rl} {b1 c1 s1:Bool} {m1 k1 n1 l1:ByteArray} {b4:Bool} {m4:ByteArray} (hx:Rv x b1 m1 k1 c1 n1 l1 s1) (ok:x.Ok) (zx:Rz 50 x) (h4:enc (-floorV x.neg)=.agg #[.bool b4,.string m4]) (w:World) (hE:Env w):Calls Tryz.prog 54 #[.agg #[.bool b1,.string m1,.bool false,.string k1,.bool c1,.string n1,.bool false,.string l1,.bool s1]] w (RetB w (.agg #[.bool b4,.string m4])):=by
 obtain ⟨b2,m2,k2,c2,n2,l2,s2,h2⟩:=Rv.some_ x.neg
 obtain ⟨b3,m3,h3⟩:=enc_form (floorV x.neg)
 have zn:Rz 50 x.neg:=⟨zx.p.minus,zx.r⟩
 exact ceil_w w (fun V _=>rneg_f hx ok h2 V) (fun V hb=>rfloor_f h2 (Sg.neg_ok ok) h3 ⟨zn.p.up (by omega),zn.r.up (by omega)⟩ V (hE.next hb)) (fun V _=>negate_f h3 h4 V)
theorem fceil_f {x:Sg.Rl} {b1 c1 s1:Bool} {m1 k1 n1 l1:ByteArray} {b4:Bool} {m4:ByteArray} (hx:Rv x b1 m1 k1 c1 n1 l1 s1) (ok:x.Ok) (zx:Rz 50 x) (h4:enc (-floorV x.neg)=.agg #[.bool b4,.string m4]) (w:World):Calls Tryz.prog 55 #[.agg #[.bool b1,.string m1,.bool false,.string k1,.bool c1,.string n1,.bool false,.string l1,.bool s1]] w (RetB w (.agg #[.bool b4,.string m4,.bool false,.string ⟨#[]⟩])):=by
 obtain ⟨b2,m2,k2,c2,n2,l2,s2,h2⟩:=Rv.some_ x.neg
 obtain ⟨b3,m3,h3,h3'⟩:=rq_z (floorV x.neg)
 obtain ⟨b5,m5,h5,h5'⟩:=rq_z (-floorV x.neg)
 rw [h5] at h4
 injection h4 with h4
 injection h4 with h4
 injection h4 with h41 h42
 injection h42 with h42 _
 injection h41 with h41
 injection h42 with h42
 subst h41 h42
 have zn:Rz 50 x.neg:=⟨zx.p.minus,zx.r⟩
 exact fceil_w w (fun V _=>fneg_f hx ok h2 ⟨zx.p.up (by omega),zx.r.up (by omega)⟩ V) (fun V _=>ffloor_f h2 (Sg.neg_ok ok) zn h3 V) (fun V _=>rNeg_f h3' (by rw [←Rat.intCast_neg];exact h5') V)
theorem floors_all (b1:Bool) (m1:ByteArray) (d1:Bool) (k1:ByteArray) (c1:Bool) (n1:ByteArray) (e1:Bool) (l1:ByteArray) (s1:Bool) (tm1:m1.size≤140737488351232) (tk1:k1.size≤140737488351232) (tn1:n1.size≤140737488351232) (tl1:l1.size≤140737488351232) (w:World) (hE:Env w):Calls Tryz.prog 10 #[.agg #[.bool b1,.string m1,.bool d1,.string k1,.bool c1,.string n1,.bool e1,.string l1,.bool s1]] w (RetB w (.bool true)):=by
 obtain ⟨o1,H1,P1⟩:=small_or b1 d1 c1 e1 s1 m1 k1 n1 l1 tm1 tk1 tn1 tl1
 have HK:=fun V (hb:Below w.heap.size w V)=>rknown3 V (hE.next hb)
 cases o1
 · exact floors_no w HK (fun V _=>H1 V)
 obtain ⟨rfl,rfl,x,ok,hx,zx⟩:=P1 rfl
 obtain ⟨b3,m3,h3⟩:=enc_form (floorV x)
 obtain ⟨b4,m4,h4⟩:=enc_form (-floorV x.neg)
 have z:Rz 50 x:=⟨zx.p.up (by omega),zx.r.up (by omega)⟩
 exact floors_yes w HK (fun V _=>H1 V) (fun V hb=>rfloor_f hx ok h3 ⟨zx.p.up (by omega),zx.r.up (by omega)⟩ V (hE.next hb)) (fun V _=>ffloor_f hx ok z h3 V) (fun V hb=>rceil_f hx ok z h4 V (hE.next hb)) (fun V _=>fceil_f hx ok z h4 V)
end Go.Proofs.YtpnokfgplnmjpaaGreatDoor
