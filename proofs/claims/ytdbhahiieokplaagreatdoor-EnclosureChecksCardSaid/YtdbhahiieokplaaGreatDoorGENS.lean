import Derived.Test.YtdbhahiieokplaaGreatDoorGENR
import Derived.Test.YtdbhahiieokplaaGreatDoorGENZ
import Derived.Test.YtdbhahiieokplaaGreatDoorGENE
import Derived.Test.YtdbhahiieokplaaGreatDoorGRLN
set_option linter.unusedSimpArgs false
set_option linter.unusedVariables false

namespace Go.Proofs.YtdbhahiieokplaaGreatDoor
open Go.RowKit
attribute [local go_sem ↓] Go.wp_at_zero Go.wp_at_succ

theorem sz_of {q:Rat} {b:Bool} {m k:ByteArray} {n:Nat} (h:Rq q b m k) (hn:0<n) (hm:m.size≤n) (hk:k.size≤n):Sz n q:=by
 have h1:=bval_lt m
 rw [h.bval] at h1
 refine ⟨Nat.lt_of_lt_of_le h1 (Nat.pow_le_pow_right (by decide) hm),?_⟩
 by_cases hd:q.den=1
 · rw [hd]
   exact Nat.one_lt_pow (by omega) (by decide)
 · have h2:=bval_lt k
   rw [h.den2 hd,bval_mag] at h2
   rw [h.den2 hd] at hk
   exact Nat.lt_of_lt_of_le h2 (Nat.pow_le_pow_right (by decide) hk)
theorem cut_size (m:ByteArray):(m.extract 0 (min m.size 20)).size≤20:=by simp;omega
theorem small_f {b1 d1:Bool} {m1 k1:ByteArray} (V:World) (hm:m1.size≤140737488351232) (hk:k1.size≤140737488351232):Calls Tryz.prog 13 #[.agg #[.bool b1,.string m1,.bool d1,.string k1]] V (RetB V (.agg #[.bool b1,.string (m1.extract 0 (min m1.size 20)),.bool d1,.string (k1.extract 0 (min k1.size 20))])) :=
 small5_w V hm hk (by omega) (by omega) (by omega) (by omega) (by omega) (by omega) (by omega) (by omega) rfl rfl
theorem checks_all (b1:Bool) (m1:ByteArray) (d1:Bool) (k1:ByteArray) (tm1:m1.size≤140737488351232) (tk1:k1.size≤140737488351232) (b2:Bool) (m2:ByteArray) (d2:Bool) (k2:ByteArray) (tm2:m2.size≤140737488351232) (tk2:k2.size≤140737488351232) (n5 d5:Int) (na5:-2147483648≤n5) (nb5:n5≤2147483647) (da5:0≤d5) (db5:d5≤65535) (w:World) (hE:Env w):Calls Tryz.prog 3 #[.agg #[.bool b1,.string m1,.bool d1,.string k1],.agg #[.bool b2,.string m2,.bool d2,.string k2],.agg #[.int .i32 n5,.int .u16 d5]] w (RetB w (.bool true)):=by
 have hE':=fun V (hb:Below w.heap.size w V)=>hE.next hb
 obtain ⟨b5,m5,k5,h5⟩:=Rq.some_ (Rat.divInt n5 (d5+1))
 have s1:=cut_size m1
 have s2:=cut_size k1
 have s3:=cut_size m2
 have s4:=cut_size k2
 by_cases g3:d1=false∧∃ q,Rq q b1 (m1.extract 0 (min m1.size 20)) (k1.extract 0 (min k1.size 20))
 · by_cases g4:d2=false∧∃ q,Rq q b2 (m2.extract 0 (min m2.size 20)) (k2.extract 0 (min k2.size 20))
   · obtain ⟨rfl,p,h3⟩:=g3
     obtain ⟨rfl,q,h4⟩:=g4
     have z3:=sz_of h3 (by decide) s1 s2
     have z4:=sz_of h4 (by decide) s3 s4
     by_cases h:p≤q
     · have hc:¬0<cmpQ p q:=by have:=cmpQ_le.2 h;omega
       exact chk5_4 w hc (fun V hb=>rknown5 V (hE' V hb)) (fun V _=>small_f V tm1 tk1) (fun V _=>small_f V tm2 tk2) (fun V _=>prat_f na5 nb5 da5 db5 h5 V) (fun V _=>exact_any V) (fun V _=>rCheck_yes h3 (by omega) (by omega) V) (fun V _=>rCheck_yes h4 (by omega) (by omega) V) (fun V _=>qcmp h3 h4 (z3.up (by omega)) (z4.up (by omega)) V) (fun V hb=>echk_4 V hc (fun V2 hb2=>ratCheck_f h3 (by omega) (by omega) V2 ((hE' V hb).next hb2)) (fun V2 hb2=>ratCheck_f h4 (by omega) (by omega) V2 ((hE' V hb).next hb2)) (fun V2 hb2=>pcmp h3 h4 (z3.up (by omega)) (z4.up (by omega)) V2 ((hE' V hb).next hb2)))
     · have hc:0<cmpQ p q:=by have:=mt cmpQ_le.1 h;omega
       exact chk5_3 w hc (fun V hb=>rknown5 V (hE' V hb)) (fun V _=>small_f V tm1 tk1) (fun V _=>small_f V tm2 tk2) (fun V _=>prat_f na5 nb5 da5 db5 h5 V) (fun V _=>exact_any V) (fun V _=>rCheck_yes h3 (by omega) (by omega) V) (fun V _=>rCheck_yes h4 (by omega) (by omega) V) (fun V _=>qcmp h3 h4 (z3.up (by omega)) (z4.up (by omega)) V) (fun V hb=>echk_3 V hc (fun V2 hb2=>ratCheck_f h3 (by omega) (by omega) V2 ((hE' V hb).next hb2)) (fun V2 hb2=>ratCheck_f h4 (by omega) (by omega) V2 ((hE' V hb).next hb2)) (fun V2 hb2=>pcmp h3 h4 (z3.up (by omega)) (z4.up (by omega)) V2 ((hE' V hb).next hb2)))
   · obtain ⟨rfl,p,h3⟩:=g3
     exact chk5_2 w (fun V hb=>rknown5 V (hE' V hb)) (fun V _=>small_f V tm1 tk1) (fun V _=>small_f V tm2 tk2) (fun V _=>prat_f na5 nb5 da5 db5 h5 V) (fun V _=>exact_any V) (fun V _=>rCheck_yes h3 (by omega) (by omega) V) (fun V _=>rCheck_no _ _ _ _ (by omega) (by omega) g4 V) (fun V hb=>echk_2 V (fun V2 hb2=>ratCheck_f h3 (by omega) (by omega) V2 ((hE' V hb).next hb2)) (fun V2 hb2=>ratCheck_no _ _ _ _ (by omega) (by omega) g4 V2 ((hE' V hb).next hb2)))
 · exact chk5_1 w (fun V hb=>rknown5 V (hE' V hb)) (fun V _=>small_f V tm1 tk1) (fun V _=>small_f V tm2 tk2) (fun V _=>prat_f na5 nb5 da5 db5 h5 V) (fun V _=>exact_any V) (fun V _=>rCheck_no _ _ _ _ (by omega) (by omega) g3 V) (fun V hb=>echk_1 V (fun V2 hb2=>ratCheck_no _ _ _ _ (by omega) (by omega) g3 V2 ((hE' V hb).next hb2)))
end Go.Proofs.YtdbhahiieokplaaGreatDoor
