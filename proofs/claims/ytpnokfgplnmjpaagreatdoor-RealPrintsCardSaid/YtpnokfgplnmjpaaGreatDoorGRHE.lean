import Derived.Test.YtpnokfgplnmjpaaGreatDoorGRMJ
import Derived.Test.YtpnokfgplnmjpaaGreatDoorGRHK
import Derived.Test.YtpnokfgplnmjpaaGreatDoorGSgQ
import Derived.Test.YtpnokfgplnmjpaaGreatDoorGRHJ
import Derived.Test.YtpnokfgplnmjpaaGreatDoorGQT
import Derived.Test.YtpnokfgplnmjpaaGreatDoorGRCA
import Derived.Test.YtpnokfgplnmjpaaGreatDoorGRFB
set_option linter.unusedSimpArgs false
set_option linter.unusedVariables false

namespace Go.Proofs.YtpnokfgplnmjpaaGreatDoor
open Go.RowKit

structure EnvM (w:World):Prop where
 env:EnvT w
 lt:4<w.heap.size
 cell:∃ m,w.cell? ⟨4,0,none⟩=some (.int .i64 m)
theorem EnvM.next {w w':World} (h:EnvM w) (hb:Below w.heap.size w w'):EnvM w' :=
 ⟨h.env.next hb,Nat.lt_of_lt_of_le h.lt hb.size,by obtain ⟨m,hm⟩:=h.cell;exact ⟨m,(hb.cell (p:=⟨4,0,none⟩) h.lt).trans hm⟩⟩
theorem envM_of {W:World} (h:EnvT W) (hS:W.ShapedOpen Tryz.prog):EnvM W:=by
 have hc:∃ m,W.cell? ⟨4,0,none⟩=some (.int .i64 m):=Tryz.laysM219.s1_3 W hS
 refine ⟨h,?_,hc⟩
 obtain ⟨m,hm⟩:=hc
 refine Nat.lt_of_not_le fun hle=>?_
 simp [World.cell?,Array.getElem?_eq_none hle] at hm

theorem cut_f (s sep:ByteArray) {x y:List UInt8} {o:Bool} (h:Lib.cut s.data.toList sep.data.toList=(x,y,o)) (hs:s.size≤4096) (w:World) (hE:EnvM w) :
  Calls Tryz.prog 164 #[.string s,.string sep] w (RetB w (.tuple #[.string ⟨x.toArray⟩,.string ⟨y.toArray⟩,.bool o])):=by
 obtain ⟨m,hm⟩:=hE.cell
 refine (Tryz.strings_Cut s sep m w (by omega) hm).mono ?_
 rintro e w' ⟨rfl,n,rfl⟩
 rw [h]
 exact ⟨rfl,below_drewN (Below.refl _ _) n⟩
theorem cutPrefix_f (s p:ByteArray) {x:List UInt8} {o:Bool} (h1:Lib.trimPrefix s.data.toList p.data.toList=x) (h2:Lib.hasPrefix s.data.toList p.data.toList=o) (w:World) :
  Calls Tryz.prog 202 #[.string s,.string p] w (RetB w (.tuple #[.string ⟨x.toArray⟩,.bool o])):=by
 refine (Tryz.strings_CutPrefix s p w).mono ?_
 rintro e w' ⟨rfl,rfl⟩
 rw [h1,h2]
 exact ⟨rfl,Below.refl _ _⟩
theorem cutSuffix_f (s p:ByteArray) {x:List UInt8} {o:Bool} (h1:Lib.trimSuffix s.data.toList p.data.toList=x) (h2:Lib.hasSuffix s.data.toList p.data.toList=o) (hs:s.size≤4096) (w:World) :
  Calls Tryz.prog 166 #[.string s,.string p] w (RetB w (.tuple #[.string ⟨x.toArray⟩,.bool o])):=by
 refine (Tryz.strings_CutSuffix s p w (by omega)).mono ?_
 rintro e w' ⟨rfl,rfl⟩
 rw [h1,h2]
 exact ⟨rfl,Below.refl _ _⟩
theorem trimSuffix_f (s p:ByteArray) {x:List UInt8} (h1:Lib.trimSuffix s.data.toList p.data.toList=x) (hs:s.size≤4096) (w:World) :
  Calls Tryz.prog 167 #[.string s,.string p] w (RetB w (.string ⟨x.toArray⟩)):=by
 refine (Tryz.strings_TrimSuffix s p w (by omega)).mono ?_
 rintro e w' ⟨rfl,rfl⟩
 rw [h1]
 exact ⟨rfl,Below.refl _ _⟩

theorem printed_sign (q:Rat):printed (decide (q.num<0)) q.num.natAbs=if q.num<0 then 45 :: Lib.decDigits q.num.natAbs else Lib.decDigits q.num.natAbs:=by
 by_cases h:q.num<0
 · rw [decide_eq_true h,if_pos h,printed_neg (by omega),printed_nat]
 · rw [decide_eq_false h,if_neg h,printed_nat]
theorem ftext_int {q:Rat} (hd:q.den=1):ftext q=printed (decide (q.num<0)) q.num.natAbs:=by
 rw [printed_sign]
 unfold ftext fbody
 rw [if_pos hd]
theorem ftext_part {q:Rat} (hd:q.den≠1):ftext q=printed (decide (q.num<0)) q.num.natAbs++47 :: printed false q.den:=by
 rw [printed_sign,printed_nat]
 unfold ftext fbody
 rw [if_neg hd]
 split<;>simp
theorem print_f {q:Rat} {b:Bool} {m k:ByteArray} (h:Rq q b m k) (z:Sz 60 q) (w:World) (hE:EnvT w) :
  Calls Tryz.prog 115 #[.agg #[.bool b,.string m,.bool false,.string k]] w (RetB w (.string ⟨(ftext q).toArray⟩)):=by
 have hz:=z.m h (by omega)
 by_cases hd:q.den=1
 · have:=ratPrint_int h hd (by omega) w hE
   rwa [h.mag.1,←ftext_int hd,←h.mag.1] at this
 · have:=ratPrint_part h hd (by omega) (by rw [h.den2 hd];omega) w hE
   rwa [cat_two,h.mag.1,←ftext_part hd,←h.mag.1] at this
theorem rprint_f {q:Rat} {b:Bool} {m k:ByteArray} (h:Rq q b m k) (z:Sz 60 q) (w:World) :
  Calls Tryz.prog 117 #[.agg #[.bool b,.string m,.bool false,.string k]] w (RetB w (.string ⟨(ftext q).toArray⟩)):=by
 have hm:=h.mag.2
 have s1:m.size≤60:=by rw [hm];exact mag_size_le z.1
 have hN:bval m=q.num.natAbs:=by rw [hm,bval_mag]
 have l1:=printed_len false z.1
 have l2:=printed_len false z.2
 have hb:=h.mag.1
 by_cases hd:q.den=1
 · obtain rfl:=h.den1 hd
   rw [ftext_int hd,←hb]
   cases b
   · exact rPrint_pi hN rfl (by rw [text_size];omega) (by omega) w
   · have hn:q.num<0:=of_decide_eq_true hb.symm
     rw [printed_neg (by omega),←cat_one]
     exact rPrint_ni hN rfl (by rw [text_size];omega) (by omega) w
 · have hk:=h.den2 hd
   have s2:k.size≤60:=by rw [hk];exact mag_size_le z.2
   have hD:bval k=q.den:=by rw [hk,bval_mag]
   have hk0:k≠⟨#[]⟩:=by rw [hk];exact mag_no_nil q.den_nz
   rw [ftext_part hd,←hb,←cat_two]
   cases b
   · exact rPrint_pf hN hD rfl rfl (by rw [text_size];omega) (by rw [text_size];omega) (by omega) (by omega) hk0 w
   · have hn:q.num<0:=of_decide_eq_true hb.symm
     rw [printed_neg (by omega),←cat_one]
     exact rPrint_nf hN hD rfl rfl (by rw [text_size];omega) (by rw [text_size];omega) (by omega) (by omega) hk0 w

theorem of_pq {w:World} {q:Rat} {b:Bool} {m k:ByteArray} {e0:Int} {e:Ending} {w':World} (hq:Rq q b m k) (h:RetPq w q e0 e w'):RetB w (.tuple #[.agg #[.bool b,.string m,.bool false,.string k],.int .i64 e0]) e w':=by
 obtain ⟨b2,m2,k2,rfl,hq2,hb⟩:=h
 obtain ⟨rfl,rfl,rfl⟩:=hq2.inj hq
 exact ⟨rfl,hb⟩
theorem parse_both (t:ByteArray) (ht:t.size≤4096):∃ (q:Rat) (b:Bool) (m k:ByteArray) (e0:Int),Rq q b m k∧Pv t.data.toList q e0∧(∀ V,Env V→Calls Tryz.prog 221 #[.string t] V (RetB V (.tuple #[.agg #[.bool b,.string m,.bool false,.string k],.int .i64 e0])))∧(∀ V,Calls Tryz.prog 118 #[.string t] V (RetB V (.tuple #[.agg #[.bool b,.string m,.bool false,.string k],.int .i64 e0]))):=by
 obtain ⟨q,e0,hpq⟩:=pv_some t.data.toList
 obtain ⟨b,m,k,hq⟩:=Rq.some_ q
 refine ⟨q,b,m,k,e0,hq,hpq,?_⟩
 unfold Pv at hpq
 by_cases h:∃ r,t.data.toList=45 :: r
 · obtain ⟨r,hr⟩:=h
   have h1:=trim_yes r
   rw [←hr] at h1
   have hl:=congrArg List.length hr
   rw [size_list,List.length_cons] at hl
   rw [h1.1,h1.2] at hpq
   refine ⟨fun V hV=>(ratParse_in t V hV r true h1.1 h1.2 ht (by omega) q e0 hpq).mono fun e w' h=>of_pq hq h,fun V=>(rParse_in t true r (.inl ⟨rfl,?_⟩) ht q e0 hpq V).mono fun e w' h=>of_pq hq h⟩
   rw [←hr]
 · have h2:∀ r,t.data.toList≠45 :: r:=fun r e=>h ⟨r,e⟩
   have h1:=trim_not h2
   rw [h1.1,h1.2] at hpq
   exact ⟨fun V hV=>(ratParse_in t V hV t.data.toList false h1.1 h1.2 ht (by rw [size_list];omega) q e0 hpq).mono fun e w' h=>of_pq hq h,fun V=>(rParse_in t false t.data.toList (.inr ⟨rfl,rfl,h2⟩) ht q e0 hpq V).mono fun e w' h=>of_pq hq h⟩

theorem of_retE {w:World} {z err:Int} {b:Bool} {m:ByteArray} {e:Ending} {w':World} (hz:enc z=.agg #[.bool b,.string m]) (h:RetE w z err e w'):RetB w (.tuple #[.agg #[.bool b,.string m],.int .i64 err]) e w':=by
 obtain ⟨b2,m2,h2,rfl,hb⟩:=h
 have h3:=h2.out.symm.trans hz
 injection h3 with h3
 injection h3 with h3
 injection h3 with h31 h32
 injection h32 with h32 _
 injection h31 with h31
 injection h32 with h32
 subst h31 h32
 exact ⟨rfl,hb⟩
theorem enc_10:enc 10=.agg #[.bool false,.string ⟨#[10]⟩]:=(enc_eq (neg:=false) (s:=⟨#[10]⟩) ⟨fun _=>(by decide:(10:UInt8).toNat≠0),fun h=>by simp [ByteArray.size] at h⟩ (by decide)).symm
theorem nil_of_size {d:ByteArray} (h:d.size=0):d=⟨#[]⟩:=by
 apply ByteArray.ext
 exact Array.eq_empty_of_size_eq_zero h
theorem readInt_any (d:ByteArray) (hd:d.size≤64):∃ (z:Int) (b:Bool) (m:ByteArray),enc z=.agg #[.bool b,.string m]∧z.natAbs<256^30∧(Dgs d.data.toList→z=(val10 d.data.toList:Int))∧∀ w,Env w→Calls Tryz.prog 203 #[.string d] w (RetB w (.agg #[.bool b,.string m])):=by
 by_cases h0:d.size=0
 · obtain rfl:=nil_of_size h0
   exact ⟨0,false,⟨#[]⟩,enc_zero,by decide,fun h=>absurd rfl h.1,fun w _=>readInt_0 w⟩
 · obtain ⟨q,b1,m1,k1,e,hq,hv,hc,-⟩:=parse_both d (by omega)
   have z:=hv.room (by rw [size_list];omega)
   obtain ⟨b2,m2,h2⟩:=enc_form ((10:Int)^d.size)
   have z2:m2.size≤100000:=by
    rw [(enc_parts h2).2]
    refine Nat.le_trans (mag_size_le (k:=64) ?_) (by decide)
    rw [Int.natAbs_pow]
    exact Nat.lt_of_le_of_lt (Nat.pow_le_pow_right (n:=10) (by decide) hd) (by decide)
   have z1:m1.size≤100000:=by rw [hq.mag.2];exact Nat.le_trans (mag_size_le z.1) (by decide)
   refine ⟨q.num,b1,m1,hq.num,z.1,fun h=>?_,fun w hE=>?_⟩
   · rw [(hv.one (digits_pv h)).1];rfl
   · exact readInt_w w rfl hd (by omega) (fun V hb => hc V (hE.next hb)) (fun V _ => known_from 10 _ enc_10 (by decide) (by decide) V)
      (fun V _=>(pow_any 10 d.size (by decide) hd false ⟨#[10]⟩ enc_10 V).mono fun e w' h=>of_retE h2 h)
      (fun V _=>mul_f enc_zero h2 (by decide) z2 enc_zero (by rw [Int.zero_mul]) V) (fun V _=>num_any _ _ _ _ V)
      (fun V _=>add_f enc_zero hq.num (by decide) z1 hq.num (by rw [Int.zero_add]) V)

theorem make_any {x y:Int} {b1 b2:Bool} {m1 m2:ByteArray} (hx:enc x=.agg #[.bool b1,.string m1]) (hy:enc y=.agg #[.bool b2,.string m2]) (sx:x.natAbs<256^30) (sy:y.natAbs<256^30) :
  ∃ (q:Rat) (b:Bool) (m k:ByteArray) (e:Int),Rq q b m k∧Sz 60 q∧(y≠0→q=Rat.divInt x y)∧∀ w,Env w→Calls Tryz.prog 114 #[.agg #[.bool b1,.string m1],.agg #[.bool b2,.string m2]] w (RetB w (.tuple #[.agg #[.bool b,.string m,.bool false,.string k],.int .i64 e])):=by
 have t1:m1.size≤100000:=by rw [(enc_parts hx).2];exact Nat.le_trans (mag_size_le sx) (by decide)
 have t2:m2.size≤100000:=by rw [(enc_parts hy).2];exact Nat.le_trans (mag_size_le sy) (by decide)
 by_cases h0:y=0
 · subst h0
   obtain rfl:m2=⟨#[]⟩:=by rw [(enc_parts hy).2];exact mag_nil
   exact ⟨0,_,_,_,_,Rq.zero,Sz.zero 59,fun h=>absurd rfl h,fun w _=>make_zero b1 b2 m1 hy w⟩
 · obtain ⟨b,m,k,hq⟩:=Rq.some_ (Rat.divInt x y)
   refine ⟨_,b,m,k,0,hq,?_,fun _=>rfl,fun w hE=>make_f hx hy hq h0 t1 t2 w hE⟩
   rw [Rat.divInt_eq_div]
   exact Sz.quo (n:=30) (m:=30) ⟨sx,by show 1<_;decide⟩ ⟨sy,by show 1<_;decide⟩ h0
theorem list_size (l:List UInt8):(⟨l.toArray⟩:ByteArray).size=l.length:=text_size l
theorem neg_any {x:Int} {b:Bool} {m:ByteArray} (hx:enc x=.agg #[.bool b,.string m]):∃ c k,enc (-x)=.agg #[.bool c,.string k]∧∀ w,Calls Tryz.prog 107 #[.agg #[.bool b,.string m]] w (RetB w (.agg #[.bool c,.string k])):=by
 obtain ⟨c,k,hk⟩:=enc_form (-x)
 exact ⟨c,k,hk,fun w=>negate_f hx hk w⟩
theorem readFrac_any (t:ByteArray) (ht:t.size≤64):∃ (q:Rat) (b:Bool) (m k:ByteArray),Rq q b m k∧Sz 60 q∧(∀ q0,t.data.toList=ftext q0→q=q0)∧∀ w,EnvM w→Calls Tryz.prog 165 #[.string t] w (RetB w (.agg #[.bool b,.string m,.bool false,.string k])):=by
 obtain ⟨d,hd⟩:∃ d,Lib.trimPrefix t.data.toList [45]=d:=⟨_,rfl⟩
 obtain ⟨ng,hn⟩:∃ g,Lib.hasPrefix t.data.toList [45]=g:=⟨_,rfl⟩
 obtain ⟨x,y,ok,hc⟩:∃ x y o,Lib.cut d [47]=(x,y,o):=⟨_,_,_,rfl⟩
 have ld:d.length≤64:=by rw [←hd];exact Nat.le_trans (prefix_len _ _) (by rw [size_list];exact ht)
 have lx:x.length≤64:=by have h:=(cut_len d [47]).1;rw [hc] at h;exact Nat.le_trans h ld
 have ly:y.length≤64:=by have h:=(cut_len d [47]).2;rw [hc] at h;exact Nat.le_trans h ld
 have HC:=fun (w V:World) (_:Below w.heap.size w V)=>cutPrefix_f t ⟨#[45]⟩ hd hn V
 have HD:=fun (w:World) (hE:EnvM w) (V:World) (hb:Below w.heap.size w V)=>cut_f ⟨d.toArray⟩ ⟨#[47]⟩ hc (by rw [list_size];omega) V (hE.next hb)
 obtain ⟨z1,b1,m1,e1,s1,v1,c1⟩:=readInt_any ⟨x.toArray⟩ (by rw [list_size];omega)
 have HR:=fun (w:World) (hE:EnvM w) (V:World) (hb:Below w.heap.size w V)=>c1 V (hE.next hb).env.env
 have HI:=fun (w V:World) (_:Below w.heap.size w V)=>known_from 1 (.agg #[.bool false,.string ⟨#[1]⟩]) enc_1 (by decide) (by decide) V
 have key:∀ q0,t.data.toList=ftext q0→d=fbody q0∧ng=decide (q0.num<0):=fun q0 h=>by
  have h1:=ftext_sign q0
  rw [←h] at h1
  exact ⟨hd.symm.trans h1.1,hn.symm.trans h1.2⟩
 have dig:∀ n,val10 (Lib.decDigits n)=n:=fun n=>(dec_digits n).2
 obtain ⟨z3,b3,m3,e3,s3,v3,c3⟩:∃ (z:Int) (b:Bool) (m:ByteArray),enc z=.agg #[.bool b,.string m]∧z.natAbs<256^30∧(z=if ng then -z1 else z1)∧(ng=true→∀ V,Calls Tryz.prog 107 #[.agg #[.bool b1,.string m1]] V (RetB V (.agg #[.bool b,.string m]))):=by
  cases ng
  · exact ⟨z1,b1,m1,e1,s1,rfl,fun h=>by cases h⟩
  · obtain ⟨c,k,hk,hN⟩:=neg_any e1
    exact ⟨-z1,c,k,hk,by rw [Int.natAbs_neg];exact s1,rfl,fun _=>hN⟩
 have num:∀ q0:Rat,ng=decide (q0.num<0)→z1=(q0.num.natAbs:Int)→z3=q0.num:=fun q0 h1 h2=>by
  rw [v3,h1,h2]
  by_cases h:q0.num<0
  · rw [decide_eq_true h,if_pos rfl];omega
  · rw [decide_eq_false h,if_neg (by decide)];omega
 have same:ng=false→b3=b1∧m3=m1:=fun h=>by
  have h4:z3=z1:=by rw [v3,h];rfl
  have h5:=enc_parts e3
  have h6:=enc_parts e1
  rw [h4] at h5
  exact ⟨h5.1.trans h6.1.symm,h5.2.trans h6.2.symm⟩
 cases ok
 · obtain ⟨q,b,m,k,e,hq,zq,hv,hM⟩:=make_any (y:=1) e3 (b2:=false) (m2:=⟨#[1]⟩) enc_1 s3 (by decide)
   refine ⟨q,b,m,k,hq,zq,fun q0 h=>?_,fun w hE=>?_⟩
   · obtain ⟨h1,h2⟩:=key q0 h
     by_cases h3:q0.den=1
     · have h4:fbody q0=Lib.decDigits q0.num.natAbs:=by unfold fbody;rw [if_pos h3]
       have h5:=cut_no (c:=47) (t:=[]) (l:=d) (fun b hb=>digit_no_slash ((dec_digits _).1 b (by rw [h1,h4] at hb;exact hb)))
       rw [hc] at h5
       injection h5 with h5 _
       have h6:x=Lib.decDigits q0.num.natAbs:=by rw [h5,h1,h4]
       rw [hv (by decide),num q0 h2 (by rw [v1 (by rw [h6];exact dec_dgs _),h6];exact congrArg Int.ofNat (dig _))]
       have h7:=Rat.num_divInt_den q0
       rw [h3] at h7
       exact h7
     · have h4:fbody q0=Lib.decDigits q0.num.natAbs++([47]++Lib.decDigits q0.den):=by unfold fbody;rw [if_neg h3];rfl
       have h5:=cut_at (c:=47) (t:=[]) (r:=Lib.decDigits q0.den) (p:=Lib.decDigits q0.num.natAbs) (fun b hb=>digit_no_slash ((dec_digits _).1 b hb))
       rw [←h4,←h1,hc] at h5
       injection h5 with _ h5
       injection h5 with _ h5
       cases h5
   · cases ng
     · obtain ⟨rfl,rfl⟩:=same rfl
       exact readFr_00 w (b2:=false) (m2:=⟨#[]⟩) (b3:=false) (m3:=⟨#[]⟩) (HC w) (HD w hE) (HR w hE) (HI w) (fun V hb=>hM V (hE.next hb).env.env)
     · exact readFr_10 w (b2:=false) (m2:=⟨#[]⟩) (HC w) (HD w hE) (HR w hE) (HI w) (fun V _=>c3 rfl V) (fun V hb=>hM V (hE.next hb).env.env)
 · obtain ⟨z2,b2,m2,e2,s2,v2,c2⟩:=readInt_any ⟨y.toArray⟩ (by rw [list_size];omega)
   have HS:=fun (w:World) (hE:EnvM w) (V:World) (hb:Below w.heap.size w V)=>c2 V (hE.next hb).env.env
   obtain ⟨q,b,m,k,e,hq,zq,hv,hM⟩:=make_any e3 e2 s3 s2
   refine ⟨q,b,m,k,hq,zq,fun q0 h=>?_,fun w hE=>?_⟩
   · obtain ⟨h1,h2⟩:=key q0 h
     by_cases h3:q0.den=1
     · have h4:fbody q0=Lib.decDigits q0.num.natAbs:=by unfold fbody;rw [if_pos h3]
       have h5:=cut_no (c:=47) (t:=[]) (l:=d) (fun b hb=>digit_no_slash ((dec_digits _).1 b (by rw [h1,h4] at hb;exact hb)))
       rw [hc] at h5
       injection h5 with _ h5
       injection h5 with _ h5
       cases h5
     · have h4:fbody q0=Lib.decDigits q0.num.natAbs++([47]++Lib.decDigits q0.den):=by unfold fbody;rw [if_neg h3];rfl
       have h5:=cut_at (c:=47) (t:=[]) (r:=Lib.decDigits q0.den) (p:=Lib.decDigits q0.num.natAbs) (fun b hb=>digit_no_slash ((dec_digits _).1 b hb))
       rw [←h4,←h1,hc] at h5
       injection h5 with h5 h6
       injection h6 with h6 _
       have h7:z2=(q0.den:Int):=by rw [v2 (by rw [h6];exact dec_dgs _),h6];exact congrArg Int.ofNat (dig _)
       have h8:=q0.den_nz
       rw [hv (by omega),num q0 h2 (by rw [v1 (by rw [h5];exact dec_dgs _),h5];exact congrArg Int.ofNat (dig _)),h7]
       exact Rat.num_divInt_den q0
   · cases ng
     · obtain ⟨rfl,rfl⟩:=same rfl
       exact readFr_01 w (b3:=false) (m3:=⟨#[]⟩) (HC w) (HD w hE) (HR w hE) (HI w) (HS w hE) (fun V hb=>hM V (hE.next hb).env.env)
     · exact readFr_11 w (HC w) (HD w hE) (HR w hE) (HI w) (HS w hE) (fun V _=>c3 rfl V) (fun V hb=>hM V (hE.next hb).env.env)

theorem ok_sign {x:Sg.Rl} (ok:x.Ok) (h:x.a=0):decide (x.s<0)=false:=by
 rcases Sg.ok_cases ok with ⟨_,e⟩ | ⟨e,_⟩
 · rw [e];rfl
 · rw [h] at e;exact absurd e (by decide)
theorem rtext_cut (x:Sg.Rl):Lib.cut (rtext x) [115,113,114,116,40]=if x.a=0 then (ftext x.p,[],false) else (ftext x.p++[if x.s<0 then 45 else 43],ftext x.a++[41],true):=by
 unfold rtext
 by_cases h:x.a=0
 · rw [if_pos h,if_pos h]
   exact cut_no no_s
 · rw [if_neg h,if_neg h]
   refine cut_at (t:=[113,114,116,40]) fun b hb=>?_
   rcases List.mem_append.1 hb with hb | hb
   · exact no_s b hb
   · rw [List.mem_singleton.1 hb]
     split<;>decide
theorem sign_cut (x:Sg.Rl):Lib.trimSuffix (Lib.trimSuffix (ftext x.p++[if x.s<0 then 45 else 43]) [45]) [43]=ftext x.p∧Lib.hasSuffix (ftext x.p++[if x.s<0 then 45 else 43]) [45]=decide (x.s<0):=by
 have h0:=(suffix_no (c:=43) (p:=ftext x.p) (fun q e=>no_plus (q:=x.p) 43 (by rw [e];simp) rfl)).1
 by_cases h:x.s<0
 · rw [if_pos h,decide_eq_true h,(suffix_at _ _).1,(suffix_at _ _).2]
   exact ⟨h0,rfl⟩
 · rw [if_neg h,decide_eq_false h,(suffix_no (c:=45) (fun q=>snoc_ne (by decide))).1,(suffix_no (c:=45) (fun q=>snoc_ne (by decide))).2]
   exact ⟨(suffix_at _ _).1,rfl⟩
theorem read_any (s:ByteArray) (hs:s.size≤4096) {x y:List UInt8} {o:Bool} (hc:Lib.cut s.data.toList [115,113,114,116,40]=(x,y,o)) (hp:o=false→s.size≤64) (hq:o=true→(Lib.trimSuffix (Lib.trimSuffix x [45]) [43]).length≤64∧(Lib.trimSuffix y [41]).length≤64) :
  ∃ (p r:Rat) (b1:Bool) (m1 k1:ByteArray) (c1:Bool) (n1 l1:ByteArray) (s1:Bool),Rq p b1 m1 k1∧Rq r c1 n1 l1∧Sz 60 p∧Sz 60 r∧(∀ x0:Sg.Rl,x0.Ok→s.data.toList=rtext x0→p=x0.p∧r=x0.a∧s1=decide (x0.s<0)) ∧
    ∀ w,EnvM w→Calls Tryz.prog 116 #[.string s] w (RetB w (.agg #[.bool b1,.string m1,.bool false,.string k1,.bool c1,.string n1,.bool false,.string l1,.bool s1])):=by
 have HC:=fun (w:World) (hE:EnvM w) (V:World) (hb:Below w.heap.size w V)=>cut_f s ⟨#[115,113,114,116,40]⟩ hc hs V (hE.next hb)
 have lx:x.length≤4096:=by have h:=(cut_len s.data.toList [115,113,114,116,40]).1;rw [hc,size_list] at h;exact Nat.le_trans h hs
 have ly:y.length≤4096:=by have h:=(cut_len s.data.toList [115,113,114,116,40]).2;rw [hc,size_list] at h;exact Nat.le_trans h hs
 cases o
 · obtain ⟨p,b1,m1,k1,h1,z1,v1,c1⟩:=readFrac_any s (hp rfl)
   refine ⟨p,0,b1,m1,k1,false,⟨#[]⟩,⟨#[]⟩,false,h1,Rq.zero,z1,Sz.zero 59,fun x0 ok h=>?_,fun w hE=>read_rat w (HC w hE) (fun V hb=>c1 V (hE.next hb)) (fun V _=>fromRat_any _ _ _ V)⟩
   have h2:=rtext_cut x0
   rw [←h,hc] at h2
   by_cases h0:x0.a=0
   · refine ⟨v1 x0.p ?_,h0.symm,(ok_sign ok h0).symm⟩
     rw [h]
     unfold rtext
     rw [if_pos h0]
   · rw [if_neg h0] at h2
     injection h2 with _ h2
     injection h2 with _ h2
     cases h2
 · obtain ⟨hu,hv⟩:=hq rfl
   obtain ⟨x2,hx2⟩:∃ l,Lib.trimSuffix x [45]=l:=⟨_,rfl⟩
   obtain ⟨n,hn⟩:∃ n,Lib.hasSuffix x [45]=n:=⟨_,rfl⟩
   rw [hx2] at hu
   obtain ⟨u,hu2⟩:∃ l,Lib.trimSuffix x2 [43]=l:=⟨_,rfl⟩
   obtain ⟨v,hv2⟩:∃ l,Lib.trimSuffix y [41]=l:=⟨_,rfl⟩
   rw [hu2] at hu
   rw [hv2] at hv
   have lx2:x2.length≤4096:=by rw [←hx2];exact Nat.le_trans (suffix_len _ _) lx
   obtain ⟨p,b1,m1,k1,h1,z1,v1,c1⟩:=readFrac_any ⟨u.toArray⟩ (by rw [list_size];omega)
   obtain ⟨r,b2,m2,k2,h2,z2,v2,c2⟩:=readFrac_any ⟨v.toArray⟩ (by rw [list_size];omega)
   refine ⟨p,r,b1,m1,k1,b2,m2,k2,n,h1,h2,z1,z2,fun x0 ok h=>?_,fun w hE=>read_irr w (HC w hE) (fun V _=>cutSuffix_f ⟨x.toArray⟩ ⟨#[45]⟩ hx2 hn (by rw [list_size];omega) V) (fun V _=>trimSuffix_f ⟨x2.toArray⟩ ⟨#[43]⟩ hu2 (by rw [list_size];omega) V) (fun V hb=>c1 V (hE.next hb)) (fun V _=>trimSuffix_f ⟨y.toArray⟩ ⟨#[41]⟩ hv2 (by rw [list_size];omega) V) (fun V hb=>c2 V (hE.next hb))⟩
   have h3:=rtext_cut x0
   rw [←h,hc] at h3
   by_cases h0:x0.a=0
   · rw [if_pos h0] at h3
     injection h3 with _ h3
     injection h3 with _ h3
     cases h3
   · rw [if_neg h0] at h3
     injection h3 with h3 h4
     injection h4 with h4 _
     have h5:=sign_cut x0
     rw [←h3,hx2,hu2,hn] at h5
     have h6:=(suffix_at (ftext x0.a) [41]).1
     rw [←h4,hv2] at h6
     exact ⟨v1 _ h5.1,v2 _ h6,h5.2⟩
end Go.Proofs.YtpnokfgplnmjpaaGreatDoor


namespace Go.Proofs.YtpnokfgplnmjpaaGreatDoor
open Go.RowKit
attribute [local go_sem ↓] Go.wp_at_zero Go.wp_at_succ

theorem root_yes_z {q:Rat} {b:Bool} {m k:ByteArray} (h:Rq q b m k) (zq:Sz 9000 q) (hs:Sg.Sq q) {b2:Bool} {m2 k2:ByteArray} (hr:Rq (Sg.rt q) b2 m2 k2) :
  (∀ V,Env V→Calls Tryz.prog 72 #[.agg #[.bool b,.string m,.bool false,.string k]] V (RetB V (.tuple #[.agg #[.bool b2,.string m2,.bool false,.string k2],.bool true]))) ∧
   (∀ V,Calls Tryz.prog 68 #[.agg #[.bool b,.string m,.bool false,.string k]] V (RetB V (.tuple #[.agg #[.bool b2,.string m2,.bool false,.string k2],.bool true]))):=by
 obtain ⟨z,hz,e⟩:=hs
 rw [Sg.rt_eq hz e] at hr
 obtain ⟨s1,s2⟩:=sq_parts z
 rw [e] at s1 s2
 have hn:¬z.num<0:=by rw [num_neg_iff];grind
 obtain ⟨e1,e2⟩:=hr.mag
 rw [decide_eq_false hn] at e1
 have e3:=hr.den
 subst e1 e2 e3
 have hm:=h.mag
 have hb:b=false:=by rw [hm.1,s1];exact decide_eq_false (by omega)
 subst hb
 have t1:=zq.1
 have t2:=zq.2
 have n1:q.num.natAbs=z.num.natAbs*z.num.natAbs:=by rw [s1,Int.natAbs_natCast]
 refine ⟨fun V hV=>ratRoot_yes h s1 s2 (by rw [←n1];exact Nat.le_trans (mag_size_le t1) (by omega)) (by rw [←s2];exact Nat.le_trans (mag_size_le t2) (by omega)) V hV,fun V=>?_⟩
 have r1:rt q.num.natAbs=z.num.natAbs:=by rw [n1,rt_square]
 have r2:rt q.den=z.den:=by rw [s2,rt_square]
 have g:=rRoot_yes (mR:=mag z.num.natAbs) (kR:=dm z.den) h (by rw [r1,n1]) (by rw [r2,s2]) (by rw [r1,r2];exact rq_nat z.den_pos z.reduced) (by rw [hm.2];exact Nat.le_trans (mag_size_le t1) (by omega)) (Nat.le_trans (mag_size_le t2) (by omega)) V
 exact g

theorem root_no_z {q:Rat} {b:Bool} {m k:ByteArray} (h:Rq q b m k) (zq:Sz 9000 q) (hs:¬Sg.Sq q) :
  (∀ V,Env V→Calls Tryz.prog 72 #[.agg #[.bool b,.string m,.bool false,.string k]] V (RetB V (.tuple #[.agg #[.bool false,.string ⟨#[]⟩,.bool false,.string ⟨#[]⟩],.bool false]))) ∧
   (∀ V,Calls Tryz.prog 68 #[.agg #[.bool b,.string m,.bool false,.string k]] V (RetB V (.tuple #[.agg #[.bool false,.string ⟨#[]⟩,.bool false,.string ⟨#[]⟩],.bool false]))):=by
 have t1:m.size≤9000:=(by rw [h.mag.2];exact Nat.le_trans (mag_size_le zq.1) (by omega))
 have t2:(mag q.den).size≤9000:=Nat.le_trans (mag_size_le zq.2) (by omega)
 cases b
 · have hn:¬q.num<0:=of_decide_eq_false h.mag.1.symm
   have hm:=h.mag.2
   by_cases h1:rt q.num.natAbs*rt q.num.natAbs=q.num.natAbs
   · by_cases h2:rt q.den*rt q.den=q.den
     · exfalso
       refine hs ⟨mkRat (rt q.num.natAbs) (rt q.den),?_,?_⟩
       · rw [←Rat.num_nonneg,(mkRat_parts _ (Nat.pos_iff_ne_zero.1 (rt_pos q.den_pos))).1]
         exact Int.ediv_nonneg (by omega) (by omega)
       · obtain ⟨p1,p2⟩:=mkRat_parts ((rt q.num.natAbs:Nat):Int) (Nat.pos_iff_ne_zero.1 (rt_pos q.den_pos))
         have hc:=root_cop h1 h2 q.reduced
         rw [Int.natAbs_natCast,hc] at p1 p2
         rw [Int.natCast_one,Int.ediv_one] at p1
         rw [Nat.div_one] at p2
         obtain ⟨s1,s2⟩:=sq_parts (mkRat ((rt q.num.natAbs:Nat):Int) (rt q.den))
         rw [p1,Int.natAbs_natCast,h1] at s1
         rw [p2,h2] at s2
         refine Rat.ext ?_ s2
         rw [s1]
         omega
     · exact ⟨fun V hV=>ratRoot_no2 h h1.symm h2 (by rw [h1,←hm];omega) (by omega) V hV,fun V=>rRoot_no2 h h1 h2 t1 t2 V⟩
   · exact ⟨fun V _=>ratRoot_no1 h (.inr h1) (by omega) V,fun V=>rRoot_no1 h h1 t1 t2 V⟩
 · have hn:q.num<0:=of_decide_eq_true h.mag.1.symm
   exact ⟨fun V _=>ratRoot_no1 h (.inl hn) (by omega) V,fun V=>rRoot_neg h t1 t2 V⟩

theorem Sz.root {n:Nat} {q:Rat} (h:Sz (n+1) q):Sz (n+1) (Sg.rt q):=by
 by_cases hs:Sg.Sq q
 · obtain ⟨z,hz,e⟩:=hs
   rw [Sg.rt_eq hz e]
   obtain ⟨s1,s2⟩:=sq_parts z
   rw [e] at s1 s2
   have t1:=h.1
   have t2:=h.2
   rw [s1,Int.natAbs_natCast] at t1
   rw [s2] at t2
   exact ⟨Nat.lt_of_le_of_lt (Nat.le_mul_self _) t1,Nat.lt_of_le_of_lt (Nat.le_mul_self _) t2⟩
 · unfold Sg.rt
   rw [dif_neg hs]
   exact Sz.zero n
end Go.Proofs.YtpnokfgplnmjpaaGreatDoor


namespace Go.Proofs.YtpnokfgplnmjpaaGreatDoor
open Go.RowKit
attribute [local go_sem ↓] Go.wp_at_zero Go.wp_at_succ

theorem sgq_abs (q:Rat):Sg.sgq q=-1∨Sg.sgq q=0∨Sg.sgq q=1:=by
 rcases Sg.sgq_three q with ⟨-,e⟩ | ⟨-,e⟩ | ⟨-,e⟩<;>rw [e]<;>simp
theorem wrap_ts {t c:Int} (ht:t=1∨t=-1) (h:c=-1∨c=0∨c=1):IntKind.i64.wrap (t*c)=t*c:=by
 rcases ht with rfl | rfl<;>rcases h with rfl | rfl | rfl<;>decide
theorem wrap_st {t c:Int} (ht:t=1∨t=-1) (h:c=-1∨c=0∨c=1):IntKind.i64.wrap (c*t)=c*t:=by rw [Int.mul_comm];exact wrap_ts ht h
theorem sos_abs (p:Rat) {s:Int} (hs:s=1∨s=-1) (r:Rat):Sg.sos p s r=-1∨Sg.sos p s r=0∨Sg.sos p s r=1:=by
 unfold Sg.sos
 split
 · omega
 · rcases sgq_abs (r-p*p) with e | e | e<;>rcases hs with rfl | rfl<;>rw [e]<;>simp

set_option maxHeartbeats 8000000 in
set_option maxRecDepth 100000 in
theorem sos_f {p r:Rat} {b1 b2:Bool} {m1 k1 m2 k2:ByteArray} (hp:Rq p b1 m1 k1) (hr:Rq r b2 m2 k2) (zp:Sz 4000 p) (zr:Sz 9000 r) {s:Int} (hs:s=1∨s=-1) (w:World) (hE:Env w) :
  Calls Tryz.prog 87 #[.agg #[.bool b1,.string m1,.bool false,.string k1],.int .i64 s,.agg #[.bool b2,.string m2,.bool false,.string k2]] w (RetB w (.int .i64 (Sg.sos p s r))):=by
 obtain ⟨b3,m3,k3,h3⟩:=Rq.some_ (p*p)
 have P1:=Lib.hid (show (Sg.sgq p != -s)=true→Sg.sos p s r=s from fun h=>by unfold Sg.sos;rw [if_pos (by simpa using h)])
 have P2:=Lib.hid (show (Sg.sgq p != -s)=false→Sg.sos p s r=s*Sg.sgq (r-p*p) from fun h=>by unfold Sg.sos;rw [if_neg (by simpa using h)])
 have hw:=wrap_ts hs (sgq_abs (r-p*p))
 have C1:=kn w (sign_z hp)
 have C2:=ke hE (mul_z hp hp h3 (zp.up (by omega)) (zp.up (by omega)))
 have C3:=ke hE (cmp_z hr h3 (zr.up (by omega)) ((zp.mul zp).up (by omega)))
 clear hp hr zp zr h3 hE
 go_enter Tryz.func87,Tryz.ntmps87
 exact wk0

theorem cmp_rat0 {x:Sg.Rl} (ok:x.Ok) (h0:x.a=0) (r:Rat):Sg.cmpX x (Sg.Rl.of r)=Sg.sgq (x.p-r):=by
 rcases Sg.ok_cases ok with ⟨_,h2⟩ | ⟨h2,-⟩
 · rw [show x=Sg.Rl.of x.p from Sg.Rl.ext' rfl h0 h2];exact Sg.cmp_of _ _
 · grind
theorem ok_pos {x:Sg.Rl} (ok:x.Ok) (h0:¬x.a=0):0<x.a:=by
 rcases Sg.ok_cases ok with ⟨h1,-⟩ | ⟨h1,-⟩
 · exact absurd h1 h0
 · exact h1

set_option maxHeartbeats 8000000 in
set_option maxRecDepth 100000 in
theorem crat_f {x:Sg.Rl} {r:Rat} {b1 c1 s1:Bool} {m1 k1 n1 l1:ByteArray} {b2:Bool} {m2 k2:ByteArray} (hx:Rv x b1 m1 k1 c1 n1 l1 s1) (ok:x.Ok) (hr:Rq r b2 m2 k2) (zx:Rz 1500 x) (zr:Sz 1500 r) (w:World) (hE:Env w) :
  Calls Tryz.prog 38 #[.agg #[.bool b1,.string m1,.bool false,.string k1,.bool c1,.string n1,.bool false,.string l1,.bool s1],.agg #[.bool b2,.string m2,.bool false,.string k2]] w (RetB w (.int .i64 (Sg.cmpX x (Sg.Rl.of r)))):=by
 obtain ⟨b3,m3,k3,h3⟩:=Rq.some_ (x.p-r)
 have P1:=Lib.hid (show x.a=0→Sg.cmpX x (Sg.Rl.of r)=Sg.sgq (x.p-r) from fun h=>cmp_rat0 ok h r)
 have P2:=Lib.hid (show ¬x.a=0→Sg.cmpX x (Sg.Rl.of r)=Sg.sos (x.p-r) x.s x.a from fun h=>Sg.cmp_root (ok_pos ok h) r)
 have C1:=kn w (isRat_f hx)
 have C2:=ke hE (cmp_z hx.p hr (zx.p.up (by omega)) (zr.up (by omega)))
 have C3:=ke hE (sub_z hx.p hr h3 (zx.p.up (by omega)) (zr.up (by omega)))
 have C4:=kn w (rootSign_f hx ok.sg)
 have C5:=ke hE (sos_f h3 hx.r ((zx.p.sub zr).up (by omega)) (zx.r.up (by omega)) ok.sg)
 clear hx ok hr zx zr h3 hE
 go_enter Tryz.func38,Tryz.ntmps38
 exact wk0

set_option maxHeartbeats 8000000 in
set_option maxRecDepth 100000 in
theorem rsgn_f {x:Sg.Rl} {b1 c1 s1:Bool} {m1 k1 n1 l1:ByteArray} (hx:Rv x b1 m1 k1 c1 n1 l1 s1) (ok:x.Ok) (zx:Rz 1500 x) (w:World) (hE:Env w) :
  Calls Tryz.prog 39 #[.agg #[.bool b1,.string m1,.bool false,.string k1,.bool c1,.string n1,.bool false,.string l1,.bool s1]] w (RetB w (.int .i64 (Sg.cmpX x (Sg.Rl.of 0)))):=by
 have e0:x.p-0=x.p:=by grind
 have P1:=Lib.hid (show x.a=0→Sg.cmpX x (Sg.Rl.of 0)=Sg.sgq x.p from fun h=>by rw [cmp_rat0 ok h,e0])
 have P2:=Lib.hid (show ¬x.a=0→Sg.cmpX x (Sg.Rl.of 0)=Sg.sos x.p x.s x.a from fun h=>by rw [Sg.cmp_root (ok_pos ok h),e0])
 have C1:=kn w (isRat_f hx)
 have C2:=kn w (sign_z hx.p)
 have C3:=kn w (rootSign_f hx ok.sg)
 have C4:=ke hE (sos_f hx.p hx.r (zx.p.up (by omega)) (zx.r.up (by omega)) ok.sg)
 clear hx ok zx e0 hE
 go_enter Tryz.func39,Tryz.ntmps39
 exact wk0
end Go.Proofs.YtpnokfgplnmjpaaGreatDoor


namespace Go.Proofs.YtpnokfgplnmjpaaGreatDoor
open Go.RowKit
attribute [local go_sem ↓] Go.wp_at_zero Go.wp_at_succ

theorem wrap_small {x:Int} (h1:-9223372036854775808≤x) (h2:x≤9223372036854775807):IntKind.i64.wrap x=x:=by
 rw [IntKind.wrap_i64]
 omega

set_option maxHeartbeats 8000000 in
set_option maxRecDepth 100000 in
theorem bytes_w (b1 d1:Bool) (m1 k1:ByteArray) (hm:m1.size≤140737488351232) (hk:k1.size≤140737488351232) (w:World) :
  Calls Tryz.prog 16 #[.agg #[.bool b1,.string m1,.bool d1,.string k1]] w (RetB w (.int .i64 ((m1.size:Int)+(k1.size:Int)))):=by
 have hw:IntKind.i64.wrap ((m1.size:Int)+(k1.size:Int))=(m1.size:Int)+(k1.size:Int):=wrap_small (by omega) (by omega)
 go_enter Tryz.func16,Tryz.ntmps16
 exact wk0

set_option maxHeartbeats 8000000 in
set_option maxRecDepth 100000 in
theorem fchk_bad1 (w:World) {b1 d1 c1 e1 s1:Bool} {m1 k1 n1 l1:ByteArray} (HC1:∀ V,Below w.heap.size w V→Calls Tryz.prog 57 #[.agg #[.bool b1,.string m1,.bool d1,.string k1]] V (RetB V (.bool false))) :
  Calls Tryz.prog 17 #[.agg #[.bool b1,.string m1,.bool d1,.string k1,.bool c1,.string n1,.bool e1,.string l1,.bool s1]] w (RetB w (.bool false)):=by
 have C1:=Lib.hid HC1
 clear HC1 
 go_enter Tryz.func17,Tryz.ntmps17
 exact wk0

set_option maxHeartbeats 8000000 in
set_option maxRecDepth 100000 in
theorem fchk_bad2 (w:World) {b1 d1 c1 e1 s1:Bool} {m1 k1 n1 l1:ByteArray} (HC1:∀ V,Below w.heap.size w V→Calls Tryz.prog 57 #[.agg #[.bool b1,.string m1,.bool d1,.string k1]] V (RetB V (.bool true))) (HC2:∀ V,Below w.heap.size w V→Calls Tryz.prog 57 #[.agg #[.bool c1,.string n1,.bool e1,.string l1]] V (RetB V (.bool false))) :
  Calls Tryz.prog 17 #[.agg #[.bool b1,.string m1,.bool d1,.string k1,.bool c1,.string n1,.bool e1,.string l1,.bool s1]] w (RetB w (.bool false)):=by
 have C1:=Lib.hid HC1
 have C2:=Lib.hid HC2
 clear HC1 HC2 
 go_enter Tryz.func17,Tryz.ntmps17
 exact wk0

set_option maxHeartbeats 8000000 in
set_option maxRecDepth 100000 in
theorem fchk_zero (w:World) {b1 d1 s1:Bool} {m1 k1:ByteArray} (HC1:∀ V,Below w.heap.size w V→Calls Tryz.prog 57 #[.agg #[.bool b1,.string m1,.bool d1,.string k1]] V (RetB V (.bool true))) (HC2:∀ V,Below w.heap.size w V→Calls Tryz.prog 57 #[.agg #[.bool false,.string ⟨#[]⟩,.bool false,.string ⟨#[]⟩]] V (RetB V (.bool true))) (HS:∀ V,Below w.heap.size w V→Calls Tryz.prog 28 #[.agg #[.bool false,.string ⟨#[]⟩,.bool false,.string ⟨#[]⟩]] V (RetB V (.int .i64 (0)))) (HZ:∀ V,Below w.heap.size w V→Calls Tryz.prog 24 #[] V (RetB V (.agg #[.bool false,.string ⟨#[]⟩,.bool false,.string ⟨#[]⟩]))) :
  Calls Tryz.prog 17 #[.agg #[.bool b1,.string m1,.bool d1,.string k1,.bool false,.string ⟨#[]⟩,.bool false,.string ⟨#[]⟩,.bool s1]] w (RetB w (.bool (!s1))):=by
 have C1:=Lib.hid HC1
 have C2:=Lib.hid HC2
 have C3:=Lib.hid HS
 have C4:=Lib.hid HZ
 clear HC1 HC2 HS HZ 
 go_enter Tryz.func17,Tryz.ntmps17
 exact wk0

set_option maxHeartbeats 8000000 in
set_option maxRecDepth 100000 in
theorem fchk_neg (w:World) {b1 d1 s1:Bool} {m1 k1 n1 l1:ByteArray} (HC1:∀ V,Below w.heap.size w V→Calls Tryz.prog 57 #[.agg #[.bool b1,.string m1,.bool d1,.string k1]] V (RetB V (.bool true))) (HC2:∀ V,Below w.heap.size w V→Calls Tryz.prog 57 #[.agg #[.bool true,.string n1,.bool false,.string l1]] V (RetB V (.bool true))) (HS:∀ V,Below w.heap.size w V→Calls Tryz.prog 28 #[.agg #[.bool true,.string n1,.bool false,.string l1]] V (RetB V (.int .i64 (-1)))) (HZ:∀ V,Below w.heap.size w V→Calls Tryz.prog 24 #[] V (RetB V (.agg #[.bool false,.string ⟨#[]⟩,.bool false,.string ⟨#[]⟩]))) :
  Calls Tryz.prog 17 #[.agg #[.bool b1,.string m1,.bool d1,.string k1,.bool true,.string n1,.bool false,.string l1,.bool s1]] w (RetB w (.bool false)):=by
 have C1:=Lib.hid HC1
 have C2:=Lib.hid HC2
 have C3:=Lib.hid HS
 have C4:=Lib.hid HZ
 clear HC1 HC2 HS HZ 
 go_enter Tryz.func17,Tryz.ntmps17
 exact wk0

set_option maxHeartbeats 8000000 in
set_option maxRecDepth 100000 in
theorem fchk_pos (w:World) {b1 d1 c1 e1 s1:Bool} {m1 k1 n1 l1:ByteArray} {o:Bool} {b2 c2:Bool} {m2 k2:ByteArray} (HC1:∀ V,Below w.heap.size w V→Calls Tryz.prog 57 #[.agg #[.bool b1,.string m1,.bool d1,.string k1]] V (RetB V (.bool true))) (HC2:∀ V,Below w.heap.size w V→Calls Tryz.prog 57 #[.agg #[.bool c1,.string n1,.bool e1,.string l1]] V (RetB V (.bool true))) (HS:∀ V,Below w.heap.size w V→Calls Tryz.prog 28 #[.agg #[.bool c1,.string n1,.bool e1,.string l1]] V (RetB V (.int .i64 1))) (HR:∀ V,Below w.heap.size w V→Calls Tryz.prog 68 #[.agg #[.bool c1,.string n1,.bool e1,.string l1]] V (RetB V (.tuple #[.agg #[.bool b2,.string m2,.bool c2,.string k2],.bool o]))) :
  Calls Tryz.prog 17 #[.agg #[.bool b1,.string m1,.bool d1,.string k1,.bool c1,.string n1,.bool e1,.string l1,.bool s1]] w (RetB w (.bool (!o))):=by
 have C1:=Lib.hid HC1
 have C2:=Lib.hid HC2
 have C3:=Lib.hid HS
 have C4:=Lib.hid HR
 clear HC1 HC2 HS HR 
 go_enter Tryz.func17,Tryz.ntmps17
 exact wk0

set_option maxHeartbeats 8000000 in
set_option maxRecDepth 100000 in
theorem small_no1 (w:World) {b1 d1 c1 e1 s1:Bool} {m1 k1 n1 l1:ByteArray} (h:¬(m1.size:Int)+(k1.size:Int)≤8) (HB1:∀ V,Below w.heap.size w V→Calls Tryz.prog 16 #[.agg #[.bool b1,.string m1,.bool d1,.string k1]] V (RetB V (.int .i64 ((m1.size:Int)+(k1.size:Int))))) :
  Calls Tryz.prog 22 #[.agg #[.bool b1,.string m1,.bool d1,.string k1,.bool c1,.string n1,.bool e1,.string l1,.bool s1]] w (RetB w (.bool false)):=by
 have C1:=Lib.hid HB1
 clear HB1 
 go_enter Tryz.func22,Tryz.ntmps22
 exact wk0

set_option maxHeartbeats 8000000 in
set_option maxRecDepth 100000 in
theorem small_no2 (w:World) {b1 d1 c1 e1 s1:Bool} {m1 k1 n1 l1:ByteArray} (h:(m1.size:Int)+(k1.size:Int)≤8) (h':¬(n1.size:Int)+(l1.size:Int)≤8) (HB1:∀ V,Below w.heap.size w V→Calls Tryz.prog 16 #[.agg #[.bool b1,.string m1,.bool d1,.string k1]] V (RetB V (.int .i64 ((m1.size:Int)+(k1.size:Int))))) (HB2:∀ V,Below w.heap.size w V→Calls Tryz.prog 16 #[.agg #[.bool c1,.string n1,.bool e1,.string l1]] V (RetB V (.int .i64 ((n1.size:Int)+(l1.size:Int))))) :
  Calls Tryz.prog 22 #[.agg #[.bool b1,.string m1,.bool d1,.string k1,.bool c1,.string n1,.bool e1,.string l1,.bool s1]] w (RetB w (.bool false)):=by
 have C1:=Lib.hid HB1
 have C2:=Lib.hid HB2
 clear HB1 HB2 
 go_enter Tryz.func22,Tryz.ntmps22
 exact wk0

set_option maxHeartbeats 8000000 in
set_option maxRecDepth 100000 in
theorem small_chk (w:World) {b1 d1 c1 e1 s1:Bool} {m1 k1 n1 l1:ByteArray} {o:Bool} (h:(m1.size:Int)+(k1.size:Int)≤8) (h':(n1.size:Int)+(l1.size:Int)≤8) (HB1:∀ V,Below w.heap.size w V→Calls Tryz.prog 16 #[.agg #[.bool b1,.string m1,.bool d1,.string k1]] V (RetB V (.int .i64 ((m1.size:Int)+(k1.size:Int))))) (HB2:∀ V,Below w.heap.size w V→Calls Tryz.prog 16 #[.agg #[.bool c1,.string n1,.bool e1,.string l1]] V (RetB V (.int .i64 ((n1.size:Int)+(l1.size:Int))))) (HC:∀ V,Below w.heap.size w V→Calls Tryz.prog 17 #[.agg #[.bool b1,.string m1,.bool d1,.string k1,.bool c1,.string n1,.bool e1,.string l1,.bool s1]] V (RetB V (.bool o))) :
  Calls Tryz.prog 22 #[.agg #[.bool b1,.string m1,.bool d1,.string k1,.bool c1,.string n1,.bool e1,.string l1,.bool s1]] w (RetB w (.bool o)):=by
 have C1:=Lib.hid HB1
 have C2:=Lib.hid HB2
 have C3:=Lib.hid HC
 clear HB1 HB2 HC 
 go_enter Tryz.func22,Tryz.ntmps22
 exact wk0

theorem sz8 {q:Rat} {b:Bool} {m k:ByteArray} (h:Rq q b m k) (hm:m.size≤8) (hk:k.size≤8):Sz 8 q:=by
 have h1:=bval_lt m
 rw [h.bval] at h1
 refine ⟨Nat.lt_of_lt_of_le h1 (Nat.pow_le_pow_right (by decide) hm),?_⟩
 by_cases hd:q.den=1
 · rw [hd];decide
 · have h2:=bval_lt k
   rw [h.den2 hd,bval_mag] at h2
   rw [h.den2 hd] at hk
   exact Nat.lt_of_lt_of_le h2 (Nat.pow_le_pow_right (by decide) hk)
theorem small_or (b1 d1 c1 e1 s1:Bool) (m1 k1 n1 l1:ByteArray) (t1:m1.size≤140737488351232) (t2:k1.size≤140737488351232) (t3:n1.size≤140737488351232) (t4:l1.size≤140737488351232) :
  ∃ o,(∀ V,Calls Tryz.prog 22 #[.agg #[.bool b1,.string m1,.bool d1,.string k1,.bool c1,.string n1,.bool e1,.string l1,.bool s1]] V (RetB V (.bool o)))∧(o=true→d1=false∧e1=false∧∃ x:Sg.Rl,x.Ok∧Rv x b1 m1 k1 c1 n1 l1 s1∧Rz 8 x):=by
 have HB1:=fun (w V:World) (_:Below w.heap.size w V)=>bytes_w b1 d1 m1 k1 t1 t2 V
 have HB2:=fun (w V:World) (_:Below w.heap.size w V)=>bytes_w c1 e1 n1 l1 t3 t4 V
 by_cases h:(m1.size:Int)+(k1.size:Int)≤8
 · by_cases h':(n1.size:Int)+(l1.size:Int)≤8
   · by_cases hp:d1=false∧∃ q,Rq q b1 m1 k1
     · by_cases hr:e1=false∧∃ q,Rq q c1 n1 l1
       · obtain ⟨rfl,p,hp⟩:=hp
         obtain ⟨rfl,r,hr⟩:=hr
         have C1:=fun (w V:World) (_:Below w.heap.size w V)=>rCheck_yes hp (by omega) (by omega) V
         have C2:=fun (w V:World) (_:Below w.heap.size w V)=>rCheck_yes hr (by omega) (by omega) V
         have C3:=fun (w V:World) (_:Below w.heap.size w V)=>rsign_z hr V
         have zp:=sz8 hp (by omega) (by omega)
         have zr:=sz8 hr (by omega) (by omega)
         rcases Sg.sgq_three r with ⟨g,e⟩ | ⟨g,e⟩ | ⟨g,e⟩
         · obtain rfl:c1=true:=by rw [hr.mag.1];exact decide_eq_true (num_neg_iff.2 g)
           rw [e] at C3
           exact ⟨false,fun V=>small_chk V h h' (HB1 V) (HB2 V) (fun V _=>fchk_neg V (C1 V) (C2 V) (C3 V) (fun V _=>zero_any V)),fun h=>by cases h⟩
         · obtain ⟨rfl,rfl,rfl⟩:=hr.nought.1 g
           rw [e] at C3
           refine ⟨!s1,fun V=>small_chk V h h' (HB1 V) (HB2 V) (fun V _=>fchk_zero V (C1 V) (C2 V) (C3 V) (fun V _=>zero_any V)),fun hs=>⟨rfl,rfl,⟨p,0,1⟩,⟨.inl rfl,.inl ⟨rfl,rfl⟩⟩,⟨hp,Rq.zero,?_⟩,⟨zp,Sz.zero 7⟩⟩⟩
           simpa using hs
         · rw [e] at C3
           by_cases hs:Sg.Sq r
           · obtain ⟨b2,m2,k2,h2⟩:=Rq.some_ (Sg.rt r)
             exact ⟨false,fun V=>small_chk V h h' (HB1 V) (HB2 V) (fun V _=>fchk_pos V (C1 V) (C2 V) (C3 V) (fun V _=>(root_yes_z hr (zr.up (by omega)) hs h2).2 V)),fun h=>by cases h⟩
           · refine ⟨true,fun V=>small_chk V h h' (HB1 V) (HB2 V) (fun V _=>fchk_pos V (C1 V) (C2 V) (C3 V) (fun V _=>(root_no_z hr (zr.up (by omega)) hs).2 V)),fun _=>⟨rfl,rfl,⟨p,r,if s1 then -1 else 1⟩,⟨?_,.inr ⟨g,Sg.nsq_sq.2 hs⟩⟩,⟨hp,hr,?_⟩,⟨zp,zr⟩⟩⟩
             · cases s1<;>simp
             · cases s1<;>simp
       · obtain ⟨rfl,p,hp⟩:=hp
         exact ⟨false,fun V=>small_chk V h h' (HB1 V) (HB2 V) (fun V _=>fchk_bad2 V (fun V _=>rCheck_yes hp (by omega) (by omega) V) (fun V _=>rCheck_no c1 n1 e1 l1 (by omega) (by omega) hr V)),fun h=>by cases h⟩
     · exact ⟨false,fun V=>small_chk V h h' (HB1 V) (HB2 V) (fun V _=>fchk_bad1 V (fun V _=>rCheck_no b1 m1 d1 k1 (by omega) (by omega) hp V)),fun h=>by cases h⟩
   · exact ⟨false,fun V=>small_no2 V h h' (HB1 V) (HB2 V),fun h=>by cases h⟩
 · exact ⟨false,fun V=>small_no1 V h (HB1 V),fun h=>by cases h⟩
end Go.Proofs.YtpnokfgplnmjpaaGreatDoor


namespace Go.Proofs.YtpnokfgplnmjpaaGreatDoor
open Go.RowKit
attribute [local go_sem ↓] Go.wp_at_zero Go.wp_at_succ

set_option maxHeartbeats 8000000 in
set_option maxRecDepth 100000 in
theorem norm_f {x:Sg.Rl} {b1 c1 s1:Bool} {m1 k1 n1 l1:ByteArray} {b3:Bool} {m3 k3:ByteArray} (hx:Rv x b1 m1 k1 c1 n1 l1 s1) (hr:Rq (x.p*x.p-x.a) b3 m3 k3) (zx:Rz 2000 x) (w:World) (hE:Env w) :
  Calls Tryz.prog 90 #[.agg #[.bool b1,.string m1,.bool false,.string k1,.bool c1,.string n1,.bool false,.string l1,.bool s1]] w (RetB w (.agg #[.bool b3,.string m3,.bool false,.string k3])):=by
 obtain ⟨b4,m4,k4,h4⟩:=Rq.some_ (x.p*x.p)
 have C1:=ke hE (mul_z hx.p hx.p h4 (zx.p.up (by omega)) (zx.p.up (by omega)))
 have C2:=ke hE (sub_z h4 hx.r hr ((zx.p.mul zx.p).up (by omega)) (zx.r.up (by omega)))
 have RS:=Lib.hid Tryz.results90
 clear hx hr zx h4 hE
 go_enter Tryz.func90,Tryz.ntmps90
 exact wk0

set_option maxHeartbeats 8000000 in
set_option maxRecDepth 100000 in
theorem sum_no {r:Rat} {b1 b2:Bool} {m1 k1 m2 k2:ByteArray} (hr:Rq r b2 m2 k2) (zr:Sz 9000 r) (hn:¬Sg.Sq r) (s:Int) (w:World) (hE:Env w) :
  Calls Tryz.prog 76 #[.agg #[.bool b1,.string m1,.bool false,.string k1],.int .i64 s,.agg #[.bool b2,.string m2,.bool false,.string k2]] w (RetB w (.agg #[.bool b1,.string m1,.bool false,.string k1,.bool b2,.string m2,.bool false,.string k2,.bool (decide (s<0))])):=by
 have C1:=ke hE ((root_no_z hr zr hn).1)
 have RS:=Lib.hid Tryz.results76
 clear hr zr hn hE
 go_enter Tryz.func76,Tryz.ntmps76
 exact wk0

set_option maxHeartbeats 8000000 in
set_option maxRecDepth 100000 in
theorem sum_yes {p r:Rat} {b1 b2 b4:Bool} {m1 k1 m2 k2 m4 k4:ByteArray} (hp:Rq p b1 m1 k1) (hr:Rq r b2 m2 k2) (zp:Sz 9000 p) (zr:Sz (8999+1) r) (hn:Sg.Sq r) (s:Int) (h4:Rq (if s<0 then p-Sg.rt r else p+Sg.rt r) b4 m4 k4) (w:World) (hE:Env w) :
  Calls Tryz.prog 76 #[.agg #[.bool b1,.string m1,.bool false,.string k1],.int .i64 s,.agg #[.bool b2,.string m2,.bool false,.string k2]] w (RetB w (.agg #[.bool b4,.string m4,.bool false,.string k4,.bool false,.string ⟨#[]⟩,.bool false,.string ⟨#[]⟩,.bool false])):=by
 obtain ⟨b3,m3,k3,h3⟩:=Rq.some_ (Sg.rt r)
 have z3:=zr.root
 have C2:=Lib.hid (fun V (hb:Below w.heap.size w V) (h:s<0)=>sub_z hp h3 (by rw [if_pos h] at h4;exact h4) (zp.up (by omega)) (z3.up (by omega)) V (hE.next hb))
 have C3:=Lib.hid (fun V (hb:Below w.heap.size w V) (h:¬s<0)=>add_z hp h3 (by rw [if_neg h] at h4;exact h4) (zp.up (by omega)) (z3.up (by omega)) V (hE.next hb))
 have C1:=ke hE ((root_yes_z hr zr hn h3).1)
 have C4:=kn w (fromRat_any b4 m4 k4)
 have RS:=Lib.hid Tryz.results76
 clear hp hr zp zr hn h3 h4 z3 hE
 go_enter Tryz.func76,Tryz.ntmps76
 exact wk0

theorem sum_f {p r:Rat} {b1 b2:Bool} {m1 k1 m2 k2:ByteArray} {b3 c3 s3:Bool} {m3 k3 n3 l3:ByteArray} (hp:Rq p b1 m1 k1) (hr:Rq r b2 m2 k2) (zp:Sz 9000 p) (zr:Sz 9000 r) (s:Int) (h3:Rv (Sg.sumP p s r) b3 m3 k3 c3 n3 l3 s3) (w:World) (hE:Env w) :
  Calls Tryz.prog 76 #[.agg #[.bool b1,.string m1,.bool false,.string k1],.int .i64 s,.agg #[.bool b2,.string m2,.bool false,.string k2]] w (RetB w (.agg #[.bool b3,.string m3,.bool false,.string k3,.bool c3,.string n3,.bool false,.string l3,.bool s3])):=by
 unfold Sg.sumP at h3
 by_cases hn:Sg.Sq r
 · rw [if_pos hn] at h3
   have e:(if s<0 then (⟨p-Sg.rt r,0,1⟩:Sg.Rl) else ⟨p+Sg.rt r,0,1⟩)=⟨if s<0 then p-Sg.rt r else p+Sg.rt r,0,1⟩:=by split<;>rfl
   rw [e] at h3
   obtain ⟨rfl,rfl,rfl⟩:=h3.r.nought.1 rfl
   obtain rfl:s3=false:=h3.neg
   exact sum_yes hp hr zp zr hn s h3.p w hE
 · rw [if_neg hn] at h3
   obtain ⟨rfl,rfl,rfl⟩:=h3.p.inj hp
   obtain ⟨rfl,rfl,rfl⟩:=h3.r.inj hr
   obtain rfl:s3=decide (s<0):=by
    rw [h3.neg]
    by_cases h:s<0
    · simp [h]
    · simp [h]
   exact sum_no hr zr hn s w hE

set_option maxHeartbeats 8000000 in
set_option maxRecDepth 100000 in
theorem rmk_f {p q r:Rat} {b1 b2 b3:Bool} {m1 k1 m2 k2 m3 k3:ByteArray} {b6 c6 s6:Bool} {m6 k6 n6 l6:ByteArray} (hp:Rq p b1 m1 k1) (hq:Rq q b2 m2 k2) (hr:Rq r b3 m3 k3) (h0:¬r<0) (zp:Sz 2000 p) (zq:Sz 2000 q) (zr:Sz 2000 r) (h6:Rv (Sg.mkR p q r) b6 m6 k6 c6 n6 l6 s6) (w:World) (hE:Env w) :
  Calls Tryz.prog 27 #[.agg #[.bool b1,.string m1,.bool false,.string k1],.agg #[.bool b2,.string m2,.bool false,.string k2],.agg #[.bool b3,.string m3,.bool false,.string k3]] w (RetB w (.tuple #[.agg #[.bool b6,.string m6,.bool false,.string k6,.bool c6,.string n6,.bool false,.string l6,.bool s6],.int .i64 0])):=by
 obtain ⟨b4,m4,k4,h4⟩:=Rq.some_ (q*q)
 obtain ⟨b5,m5,k5,h5⟩:=Rq.some_ (q*q*r)
 have z4:=zq.mul zq
 have z5:=z4.mul zr
 rw [←Sg.make_same] at h6
 have hr0:¬Sg.sgq r<0:=by rcases Sg.sgq_three r with ⟨e,_⟩ | ⟨_,e⟩ | ⟨_,e⟩<;>first | exact absurd e h0 | (rw [e];decide)
 have hr1:0≤Sg.sgq r:=by omega
 have C5:=Lib.hid (fun V (hb:Below w.heap.size w V)=>sum_f hp h5 (zp.up (by omega)) (z5.up (by omega)) (Sg.sgq q) h6 V (hE.next hb))
 have C1:=kn w (sign_z hr)
 have C3:=ke hE (mul_z hq hq h4 (zq.up (by omega)) (zq.up (by omega)))
 have C4:=ke hE (mul_z h4 hr h5 (z4.up (by omega)) (zr.up (by omega)))
 have C2:=kn w (sign_z hq)
 have U1:Hid (∀ {p:Prop} (h:p:=by ((fail_if_success (go_not_at_region 3));(fail_if_success (have:=hLL));obtain ⟨LL,hLL⟩:=lexi X.out;go_cut [8] (fun s0 wx=>∃ g0,s0=.pointer (some ⟨g0,0,none⟩)∧Sb w (LL++[(g0,#[.bool b5,.string m5,.bool false,.string k5],25)]) [] wx);all_goals exact wkc)),p):=@fun _ h=>h
 have RS:=Lib.hid Tryz.results27
 clear hp hq hr h0 zp zq zr h6 h4 h5 z4 z5 hE
 go_enter Tryz.func27,Tryz.ntmps27
 exact wk0

set_option maxHeartbeats 8000000 in
set_option maxRecDepth 100000 in
theorem rshift_f {x:Sg.Rl} {r:Rat} {b1 c1 s1:Bool} {m1 k1 n1 l1:ByteArray} {b2 b3:Bool} {m2 k2 m3 k3:ByteArray} (hx:Rv x b1 m1 k1 c1 n1 l1 s1) (hr:Rq r b2 m2 k2) (h3:Rq (x.p+r) b3 m3 k3) (zx:Rz 5000 x) (zr:Sz 5000 r) (w:World) (hE:Env w) :
  Calls Tryz.prog 44 #[.agg #[.bool b1,.string m1,.bool false,.string k1,.bool c1,.string n1,.bool false,.string l1,.bool s1],.agg #[.bool b2,.string m2,.bool false,.string k2]] w (RetB w (.agg #[.bool b3,.string m3,.bool false,.string k3,.bool c1,.string n1,.bool false,.string l1,.bool s1])):=by
 have C1:=ke hE (add_z hx.p hr h3 (zx.p.up (by omega)) (zr.up (by omega)))
 have RS:=Lib.hid Tryz.results44
 clear hx hr h3 zx zr hE
 go_enter Tryz.func44,Tryz.ntmps44
 exact wk0
end Go.Proofs.YtpnokfgplnmjpaaGreatDoor


namespace Go.Proofs.YtpnokfgplnmjpaaGreatDoor
open Go.RowKit
attribute [local go_sem ↓] Go.wp_at_zero Go.wp_at_succ

theorem inv_ne {q:Rat} (h:q≠0):1 / q≠0:=by
 intro e
 have h1:q*(1 / q)=1:=by grind
 rw [e] at h1
 grind
theorem Sz.inv {n:Nat} {q:Rat} (h:Sz n q):Sz (n+1) (1 / q):=by
 have e:(1:Rat) / q=q⁻¹:=by grind
 rw [e]
 have h1:=h.1
 have h2:=h.2
 have h3:=Rat.num_inv q
 have h4:=Rat.den_inv q
 have hm:256^n<256^(n+1):=by rw [Nat.pow_succ];have:=Nat.pow_pos (a:=256) (n:=n) (by decide);omega
 have hp:=Nat.pow_pos (a:=256) (n:=n) (by decide)
 refine ⟨?_,?_⟩
 · rw [h3,Int.natAbs_mul]
   rcases Int.lt_trichotomy q.num 0 with h | h | h
   · rw [Int.sign_eq_neg_one_of_neg h];simp;omega
   · rw [h];simp;omega
   · rw [Int.sign_eq_one_of_pos h];simp;omega
 · rw [h4]
   split
   · omega
   · omega

set_option maxHeartbeats 8000000 in
set_option maxRecDepth 100000 in
theorem rscale_irr {x:Sg.Rl} {r:Rat} {b1 c1 s1:Bool} {m1 k1 n1 l1:ByteArray} {b2 b3 b4:Bool} {m2 k2 m3 k3 m4 k4:ByteArray} (hx:Rv x b1 m1 k1 c1 n1 l1 s1) (hx0:x.a≠0) (hr:Rq r b2 m2 k2) (hr0:r≠0) (h3:Rq (x.p*r) b3 m3 k3) (h4:Rq (x.a*(r*r)) b4 m4 k4) (zx:Rz 4000 x) (zr:Sz 2000 r) (w:World) (hE:Env w) :
  Calls Tryz.prog 45 #[.agg #[.bool b1,.string m1,.bool false,.string k1,.bool c1,.string n1,.bool false,.string l1,.bool s1],.agg #[.bool b2,.string m2,.bool false,.string k2]] w (RetB w (.agg #[.bool b3,.string m3,.bool false,.string k3,.bool b4,.string m4,.bool false,.string k4,.bool (s1 != decide (Sg.sgq r<0))])):=by
 obtain ⟨b5,m5,k5,h5⟩:=Rq.some_ (r*r)
 have z5:=zr.mul zr
 have hs0:¬Sg.sgq r=0:=by rcases Sg.sgq_three r with ⟨_,e⟩ | ⟨e,_⟩ | ⟨_,e⟩<;>first | exact absurd e hr0 | (rw [e];decide)
 have C1:=kn w (isRat_no hx hx0)
 have C2:=kn w (sign_z hr)
 have C3:=ke hE (mul_z hr hr h5 (zr.up (by omega)) (zr.up (by omega)))
 have C4:=ke hE (mul_z hx.p hr h3 (zx.p.up (by omega)) (zr.up (by omega)))
 have C5:=ke hE (mul_z hx.r h5 h4 (zx.r.up (by omega)) (z5.up (by omega)))
 have E1:Hid (∀ {p:Prop} (h:p:=by exact bodyPost_ret (v:=.agg #[.bool b3,.string m3,.bool false,.string k3,.bool b4,.string m4,.bool false,.string k4,.bool (s1 != decide (Sg.sgq r<0))]) (by simp [results,Tryz.results45,go_sem,F]<;>(cases s1<;>cases decide (Sg.sgq r<0)<;>rfl)) rfl ⟨rfl,X.out.bel⟩),p):=@fun _ h=>h
 have RS:=Lib.hid Tryz.results45
 clear hx hx0 hr hr0 h3 h4 h5 z5 zx zr hE
 go_enter Tryz.func45,Tryz.ntmps45
 exact wk0

set_option maxHeartbeats 8000000 in
set_option maxRecDepth 100000 in
theorem rinv_0  (w:World) :
  Calls Tryz.prog 50 #[.agg #[.bool false,.string ⟨#[]⟩,.bool false,.string ⟨#[]⟩,.bool false,.string ⟨#[]⟩,.bool false,.string ⟨#[]⟩,.bool false]] w (RetB w (.tuple #[.agg #[.bool false,.string ⟨#[]⟩,.bool false,.string ⟨#[]⟩,.bool false,.string ⟨#[]⟩,.bool false,.string ⟨#[]⟩,.bool false],.int .i64 6])):=by
 have RS:=Lib.hid Tryz.results50
 go_enter Tryz.func50,Tryz.ntmps50
 exact wk0

set_option maxHeartbeats 8000000 in
set_option maxRecDepth 100000 in
theorem rinv_rat {p:Rat} {b1 b2:Bool} {m1 k1 m2 k2:ByteArray} (hp:Rq p b1 m1 k1) (hp0:p≠0) (h2:Rq (1 / p) b2 m2 k2) (zp:Sz 5000 p) (w:World) (hE:Env w) :
  Calls Tryz.prog 50 #[.agg #[.bool b1,.string m1,.bool false,.string k1,.bool false,.string ⟨#[]⟩,.bool false,.string ⟨#[]⟩,.bool false]] w (RetB w (.tuple #[.agg #[.bool b2,.string m2,.bool false,.string k2,.bool false,.string ⟨#[]⟩,.bool false,.string ⟨#[]⟩,.bool false],.int .i64 0])):=by
 have o1:=(show Rq 1 false ⟨#[1]⟩ ⟨#[]⟩ from ⟨by rw [←mag_one];exact enc_mag 1,by rw [show (1:Rat).den=1 from rfl];exact dm_one.symm⟩)
 have hn:=hp.ne hp0
 obtain ⟨e1,e2⟩:=str_ne hn
 have e3:=empty_no (size_pos hn)
 have z1:Sz 1 1:=⟨by decide,by decide⟩
 have hp1:p.num≠0:=fun e=>hp0 (Rat.num_eq_zero.1 e)
 have C1:=kn w (isRat_yes b1 false m1 k1)
 have C2:=kn w (rFromInt_f (x:=1) o1.num (by omega) (by omega))
 have C3:=ke hE (ratio_f o1 hp h2 hp1 (z1.up (by omega)) (zp.up (by omega)))
 have C4:=kn w (fromRat_any b2 m2 k2)
 have RS:=Lib.hid Tryz.results50
 clear hp hp0 h2 zp o1 hn z1 hp1 hE
 go_enter Tryz.func50,Tryz.ntmps50
 exact wk0

set_option maxHeartbeats 8000000 in
set_option maxRecDepth 100000 in
theorem rinv_irr {x:Sg.Rl} {m:Rat} {b1 s1:Bool} {m1 k1 n1 l1:ByteArray} {b3 b4:Bool} {m3 k3 m4 k4:ByteArray} (hx:Rv x b1 m1 k1 false n1 l1 s1) (hx0:x.a≠0) (hm:m=1 / (x.p*x.p-x.a)) (hm0:x.p*x.p-x.a≠0) (h3:Rq (x.p*m) b3 m3 k3) (h4:Rq (x.a*(m*m)) b4 m4 k4) (zx:Rz 600 x) (w:World) (hE:Env w) :
  Calls Tryz.prog 50 #[.agg #[.bool b1,.string m1,.bool false,.string k1,.bool false,.string n1,.bool false,.string l1,.bool s1]] w (RetB w (.tuple #[.agg #[.bool b3,.string m3,.bool false,.string k3,.bool b4,.string m4,.bool false,.string k4,.bool ((!s1) != decide (Sg.sgq m<0))],.int .i64 0])):=by
 have o1:=(show Rq 1 false ⟨#[1]⟩ ⟨#[]⟩ from ⟨by rw [←mag_one];exact enc_mag 1,by rw [show (1:Rat).den=1 from rfl];exact dm_one.symm⟩)
 have hn:=hx.r.ne hx0
 obtain ⟨e1,e2⟩:=str_ne hn
 have e3:=empty_no (size_pos hn)
 have z1:Sz 1 1:=⟨by decide,by decide⟩
 obtain ⟨b5,m5,k5,h5⟩:=Rq.some_ (x.p*x.p-x.a)
 obtain ⟨b6,m6,k6,h6⟩:=Rq.some_ m
 have z5:Sz 1801 (x.p*x.p-x.a):=(zx.p.mul zx.p).sub zx.r
 have z6:Sz 1802 m:=by rw [hm];exact z5.inv
 have hp1:(x.p*x.p-x.a).num≠0:=fun e=>hm0 (Rat.num_eq_zero.1 e)
 have hm1:m≠0:=by rw [hm];exact inv_ne hm0
 have hc:Rv (⟨x.p,x.a,if s1 then 1 else -1⟩:Sg.Rl) b1 m1 k1 false n1 l1 (!s1):=⟨hx.p,hx.r,by cases s1<;>simp⟩
 have zc:Rz 600 (⟨x.p,x.a,if s1 then 1 else -1⟩:Sg.Rl):=⟨zx.p,zx.r⟩
 have C5:=Lib.hid (fun V (hb:Below w.heap.size w V)=>rscale_irr hc hx0 h6 hm1 h3 h4 ⟨zx.p.up (by omega),zx.r.up (by omega)⟩ (z6.up (by omega)) V (hE.next hb))
 have C1:=kn w (isRat_no hx hx0)
 have C2:=kn w (rFromInt_f (x:=1) o1.num (by omega) (by omega))
 have C3:=ke hE (norm_f hx h5 ⟨zx.p.up (by omega),zx.r.up (by omega)⟩)
 have C4:=ke hE (ratio_f o1 h5 (by rw [←hm];exact h6) hp1 (z1.up (by omega)) (z5.up (by omega)))
 have RS:=Lib.hid Tryz.results50
 clear hx hx0 hm hm0 h3 h4 zx o1 hn z1 h5 h6 z5 z6 hp1 hm1 hc zc hE
 go_enter Tryz.func50,Tryz.ntmps50
 exact wk0
end Go.Proofs.YtpnokfgplnmjpaaGreatDoor


namespace Go.Proofs.YtpnokfgplnmjpaaGreatDoor
open Go.RowKit
attribute [local go_sem ↓] Go.wp_at_zero Go.wp_at_succ

theorem Sz.by_ {n m:Nat} {p q:Rat} (hp:Sz n p) (hq:Sz m q):Sz (n+(m+1)) (p / q):=by
 have e:p / q=p*(1 / q):=by grind
 rw [e]
 exact hp.mul hq.inv
theorem Sb.last {w W:World} {l:List (Nat×Array Value×TypeId)} {rs:List (Option Addr×Nat×Nat×Nat)} {g:Nat} {cs:Array Value} {T:TypeId} (h:Sb w (l++[(g,cs,T)]) rs W):w.heap.size≤g∧W.heap[g]?=some (.cells cs T (0,0)) :=
 ⟨h.lo (g,cs,T) (by simp),h.k (g,cs,T) (by simp)⟩
def RetLs (w:World) (cs:Array Value) (T:TypeId) (n:Nat) (e:Ending) (w':World):Prop:=∃ g,e=.returned (.tuple #[.slice (some ⟨g,0,none⟩) n n,.int .i64 0])∧w.heap.size≤g∧w'.heap[g]?=some (.cells cs T (0,0))∧Below w.heap.size w w'

set_option maxHeartbeats 8000000 in
set_option maxRecDepth 100000 in
theorem roots_two_false {q1 q2 q3 p:Rat} {b1 b2:Bool} {m1 k1 m2 k2:ByteArray} {m3 k3:ByteArray} {b10 c10 s10 b11 c11 s11:Bool} {m10 k10 n10 l10 m11 k11 n11 l11:ByteArray} (h1:Rq q1 b1 m1 k1) (h2:Rq q2 b2 m2 k2) (h3:Rq q3 false m3 k3) (h30:q3≠0) (z1q:Sz 100 q1) (z2q:Sz 100 q2) (z3q:Sz 100 q3) (hp:p=-q2 / (2*q3)) (hpos:0<p*p-q1 / q3) (h10:Rv (Sg.sumP p (-1) (p*p-q1 / q3)) b10 m10 k10 c10 n10 l10 s10) (h11:Rv (Sg.sumP p 1 (p*p-q1 / q3)) b11 m11 k11 c11 n11 l11 s11) (w:World) (hE:Env w) :
  Calls Tryz.prog 31 #[.agg #[.bool b1,.string m1,.bool false,.string k1,.bool b2,.string m2,.bool false,.string k2,.bool false,.string m3,.bool false,.string k3]] w (RetLs w #[.bool b10,.string m10,.bool false,.string k10,.bool c10,.string n10,.bool false,.string l10,.bool s10,.bool b11,.string m11,.bool false,.string k11,.bool c11,.string n11,.bool false,.string l11,.bool s11] 27 2):=by
 have hn:=h3.ne h30
 obtain ⟨u1,u2⟩:=str_ne hn
 have u3:=empty_no (size_pos hn)
 have h3n:q3.num≠0:=fun e=>h30 (Rat.num_eq_zero.1 e)
 obtain ⟨b4,m4,k4,h4⟩:=Rq.some_ (-q2)
 obtain ⟨b5,m5,k5,h5⟩:=Rq.some_ (2*q3)
 obtain ⟨b6,m6,k6,h6⟩:=Rq.some_ p
 obtain ⟨b7,m7,k7,h7⟩:=Rq.some_ (q1 / q3)
 obtain ⟨b8,m8,k8,h8⟩:=Rq.some_ (p*p)
 obtain ⟨b9,m9,k9,h9⟩:=Rq.some_ (p*p-q1 / q3)
 have e2:Rq 2 false ⟨#[2]⟩ ⟨#[]⟩:=⟨by rw [←mag_2];exact enc_mag 2,by rw [show (2:Rat).den=1 from rfl];exact dm_one.symm⟩
 have z2:Sz 1 2:=⟨by decide,by decide⟩
 have z5:=z2.mul z3q
 have h50:(2*q3).num≠0:=fun e=>by have:=Rat.num_eq_zero.1 e;grind
 have z4:Sz 100 (-q2):=z2q.minus
 have z6:Sz 202 p:=by rw [hp];exact z4.by_ z5
 have z7:Sz 201 (q1 / q3):=z1q.by_ z3q
 have z8:=z6.mul z6
 have z9:Sz 606 (p*p-q1 / q3):=z8.sub z7
 have C8:=Lib.hid (fun V (_:Below w.heap.size w V)=>sign_z h9 V)
 rw [Sg.sgq_pos hpos] at C8
 have C1:=kn w (ratNeg_f h2 h4)
 have C2:=kn w (rFromInt_f (x:=2) e2.num (by omega) (by omega))
 have C3:=ke hE (mul_z e2 h3 h5 (z2.up (by omega)) (z3q.up (by omega)))
 have C4:=ke hE (ratio_f h4 h5 (by rw [←hp];exact h6) h50 (z4.up (by omega)) (z5.up (by omega)))
 have C5:=ke hE (ratio_f h1 h3 h7 h3n (z1q.up (by omega)) (z3q.up (by omega)))
 have C6:=ke hE (mul_z h6 h6 h8 (z6.up (by omega)) (z6.up (by omega)))
 have C7:=ke hE (sub_z h8 h7 h9 (z8.up (by omega)) (z7.up (by omega)))
 have C9:=ke hE (sum_f h6 h9 (z6.up (by omega)) (z9.up (by omega)) (-1) h10)
 have C10:=ke hE (sum_f h6 h9 (z6.up (by omega)) (z9.up (by omega)) 1 h11)
 have U1:Hid (∀ {p:Prop} (h:p:=by ((fail_if_success (go_not_at_region 8));(fail_if_success (have:=hLL));obtain ⟨LL,hLL⟩:=lexi X.out;go_cut [5] (fun s0 wx=>∃ g0,s0=.pointer (some ⟨g0,0,none⟩)∧Sb w (LL++[(g0,#[.bool b6,.string m6,.bool false,.string k6],25)]) [] wx);all_goals exact wkc)),p):=@fun _ h=>h
 have U2:Hid (∀ {p:Prop} (h:p:=by ((fail_if_success (go_not_at_region 10));(fail_if_success (have:=hLL));obtain ⟨LL,hLL⟩:=lexi X.out;go_cut [7] (fun s0 wx=>∃ g0,s0=.pointer (some ⟨g0,0,none⟩)∧Sb w (LL++[(g0,#[.bool b9,.string m9,.bool false,.string k9],25)]) [] wx);all_goals exact wkc)),p):=@fun _ h=>h
 have E1:Hid (∀ {p:Prop} (h:p:=by exact bodyPost_ret (v:=.tuple #[.slice (some ⟨_,0,none⟩) 2 2,.int .i64 0]) (by simp [results,Tryz.results31,go_sem]<;>rfl) rfl ⟨_,rfl,X.out.last.1,X.out.last.2,X.out.bel⟩),p):=@fun _ h=>h
 clear h1 h2 h3 h30 z1q z2q z3q hp hpos h10 h11 hn h3n h4 h5 h6 h7 h8 h9 e2 z2 z5 h50 z4 z6 z7 z8 z9 hE
 go_enter Tryz.func31,Tryz.ntmps31
 go_upto_region 1 with fail
 refine gs1 (M:=fun W=>Code.wp _ _ _ _ W) (fun V X0=>?_)
 have X:=Lib.hid X0
 clear X0
 have F:=X.out.facts
 simp only [Facts,cellsAt,List.take_succ_cons,List.take_zero,Nat.reduceAdd,and_true,List.set_cons_succ,List.set_cons_zero,List.cons_append,List.nil_append] at F
 go_upto_region 2 with fail
 refine an X.out (fun V X0=>?_)
 replace X:=Lib.hid X0
 clear X0
 replace F:=X.out.facts
 simp only [Facts,cellsAt,List.take_succ_cons,List.take_zero,Nat.reduceAdd,and_true,List.set_cons_succ,List.set_cons_zero,List.cons_append,List.nil_append] at F
 obtain ⟨LL,hLL⟩:=lexi X.out
 go_cut [9] (fun s9 wx=>s9=.bool false∧Sb w LL [] wx)
 case first =>
  go_wp2_with fail
  all_goals (go_meet;subst hLL;exact ⟨rfl,X.out⟩)
 obtain ⟨rfl,hX⟩:=hcut
 subst hLL
 replace X:=Lib.hid hX
 clear hX
 replace F:=X.out.facts
 simp only [Facts,cellsAt,List.take_succ_cons,List.take_zero,Nat.reduceAdd,and_true,List.set_cons_succ,List.set_cons_zero,List.cons_append,List.nil_append] at F
 exact wk
end Go.Proofs.YtpnokfgplnmjpaaGreatDoor


namespace Go.Proofs.YtpnokfgplnmjpaaGreatDoor
open Go.RowKit
attribute [local go_sem ↓] Go.wp_at_zero Go.wp_at_succ

set_option maxHeartbeats 8000000 in
set_option maxRecDepth 100000 in
theorem cmp_yrat {x y:Sg.Rl} {b1 b2 s1:Bool} {m1 k1 m2 k2 n1 l1:ByteArray} (hx:Rv x b1 m1 k1 false n1 l1 s1) (hy:Rv y b2 m2 k2 false ⟨#[]⟩ ⟨#[]⟩ false) (ok:x.Ok) (h0:x.a≠0) (zx:Rz 1500 x) (zy:Rz 1500 y) (w:World) (hE:Env w) :
  Calls Tryz.prog 34 #[.agg #[.bool b1,.string m1,.bool false,.string k1,.bool false,.string n1,.bool false,.string l1,.bool s1],.agg #[.bool b2,.string m2,.bool false,.string k2,.bool false,.string ⟨#[]⟩,.bool false,.string ⟨#[]⟩,.bool false]] w (RetB w (.int .i64 (Sg.cmpX x (Sg.Rl.of y.p)))):=by
 have hn:=hx.r.ne h0
 obtain ⟨h1,h2⟩:=str_ne hn
 have h3:=empty_no (size_pos hn)
 clear hn
 have C1:=kn w (isRat_yes b2 false m2 k2)
 have C2:=ke hE (crat_f hx ok hy.p zx zy.p)
 clear hx hy ok h0 zx zy hE
 go_enter Tryz.func34,Tryz.ntmps34
 exact wk0

set_option maxHeartbeats 8000000 in
set_option maxRecDepth 100000 in
theorem cmp_irr {x y:Sg.Rl} {b1 b2 s1 s2:Bool} {m1 k1 n1 l1 m2 k2 n2 l2:ByteArray} (hx:Rv x b1 m1 k1 false n1 l1 s1) (hy:Rv y b2 m2 k2 false n2 l2 s2) (okx:x.Ok) (oky:y.Ok) (hx0:x.a≠0) (hy0:y.a≠0) (zx:Rz 500 x) (zy:Rz 500 y) (hdf:n1≠n2∨(n1=n2∧l1≠l2)∨(n1=n2∧l1=l2∧s1=!s2)) (w:World) (hE:Env w) :
  Calls Tryz.prog 34 #[.agg #[.bool b1,.string m1,.bool false,.string k1,.bool false,.string n1,.bool false,.string l1,.bool s1],.agg #[.bool b2,.string m2,.bool false,.string k2,.bool false,.string n2,.bool false,.string l2,.bool s2]] w (RetB w (.int .i64 (Sg.cmpP (x.p-y.p) x.s x.a y.s y.a))):=by
 obtain ⟨b3,m3,k3,h3⟩:=Rq.some_ (x.p-y.p)
 have zd:Sz 1001 (x.p-y.p):=zx.p.sub zy.p
 obtain ⟨d,hd⟩:∃ d,d=x.p-y.p:=⟨_,rfl⟩
 rw [←hd] at h3 zd ⊢
 obtain ⟨b4,m4,k4,h4⟩:=Rq.some_ (d*d)
 obtain ⟨b5,m5,k5,h5⟩:=Rq.some_ (d*d+x.a)
 obtain ⟨b6,m6,k6,h6⟩:=Rq.some_ (d*d+x.a-y.a)
 obtain ⟨b7,m7,k7,h7⟩:=Rq.some_ (2*d)
 obtain ⟨b8,m8,k8,h8⟩:=Rq.some_ (2*d*(2*d))
 obtain ⟨b9,m9,k9,h9⟩:=Rq.some_ (2*d*(2*d)*x.a)
 have z4:Sz 2002 (d*d):=zd.mul zd
 have z5:Sz 2503 (d*d+x.a):=z4.add zx.r
 have z6:Sz 3004 (d*d+x.a-y.a):=z5.sub zy.r
 have e2:Rq 2 false ⟨#[2]⟩ ⟨#[]⟩:=⟨by rw [←mag_2];exact enc_mag 2,by rw [show (2:Rat).den=1 from rfl];exact dm_one.symm⟩
 have z2:Sz 1 2:=⟨by decide,by decide⟩
 have z7:Sz 1002 (2*d):=z2.mul zd
 have z8:Sz 2004 (2*d*(2*d)):=z7.mul z7
 have z9:Sz 2504 (2*d*(2*d)*x.a):=z8.mul zx.r
 have sx:=okx.sg
 have sy:=oky.sg
 have hc:=sos_abs d sx x.a
 have hw1:=wrap_ts sy (sgq_abs (d*d+x.a-y.a))
 have hw2:=wrap_st sx (sgq_abs (2*d))
 have HP:∀ e,Sg.cmpP d x.s x.a y.s y.a=e↔Sg.cmpP d x.s x.a y.s y.a=e:=fun _=>Iff.rfl
 unfold Sg.cmpP at HP ⊢
 obtain ⟨o,ho⟩:∃ o,o=(if Sg.sos d x.s x.a≠y.s then Sg.sos d x.s x.a else if Sg.sgq (2*d)=0 then y.s*Sg.sgq (d*d+x.a-y.a) else y.s*Sg.sos (d*d+x.a-y.a) (Sg.sgq (2*d)*x.s) (2*d*(2*d)*x.a)):=⟨_,rfl⟩
 rw [←ho]
 clear HP
 have P1:=Lib.hid (show (Sg.sos d x.s x.a != y.s)=true→o=Sg.sos d x.s x.a from fun h=>by rw [ho,if_pos (by simpa using h)])
 have P2:=Lib.hid (show (Sg.sos d x.s x.a != y.s)=false→(Sg.sgq (2*d)==0)=true→o=y.s*Sg.sgq (d*d+x.a-y.a) from fun h e=>by rw [ho,if_neg (by simpa using h),if_pos (by simpa using e)])
 have P3:=Lib.hid (show (Sg.sos d x.s x.a != y.s)=false→(Sg.sgq (2*d)==0)=false→o=y.s*Sg.sos (d*d+x.a-y.a) (Sg.sgq (2*d)*x.s) (2*d*(2*d)*x.a) from fun h e=>by rw [ho,if_neg (by simpa using h),if_neg (by simpa using e)])
 clear ho
 have C3:=Lib.hid (fun V (hb:Below w.heap.size w V)=>sub_z hx.p hy.p (by rw [←hd];exact h3) (zx.p.up (by omega)) (zy.p.up (by omega)) V (hE.next hb))
 have C6:=Lib.hid (fun V (hb:Below w.heap.size w V)=>sos_f h3 hx.r (zd.up (by omega)) (zx.r.up (by omega)) sx V (hE.next hb))
 have HD:=Lib.hid hdf
 have hc1:Sg.sos (d*d+x.a-y.a) (Sg.sgq (2*d)*x.s) (2*d*(2*d)*x.a)=-1∨Sg.sos (d*d+x.a-y.a) (Sg.sgq (2*d)*x.s) (2*d*(2*d)*x.a)=0∨Sg.sos (d*d+x.a-y.a) (Sg.sgq (2*d)*x.s) (2*d*(2*d)*x.a)=1:=by
  rcases sgq_abs (2*d) with e | e | e
  · exact sos_abs _ (by rw [e];omega) _
  · right;left;rw [e];unfold Sg.sos;split<;>simp
  · exact sos_abs _ (by rw [e];omega) _
 have hw3:=wrap_ts sy hc1
 have C16:=Lib.hid (show ∀ V,Below w.heap.size w V→(Sg.sgq (2*d)==0)=false→Calls Tryz.prog 87 #[.agg #[.bool b6,.string m6,.bool false,.string k6],.int .i64 (Sg.sgq (2*d)*x.s),.agg #[.bool b9,.string m9,.bool false,.string k9]] V (RetB V (.int .i64 (Sg.sos (d*d+x.a-y.a) (Sg.sgq (2*d)*x.s) (2*d*(2*d)*x.a)))) from fun V hb h=>sos_f h6 h9 (z6.up (by omega)) (z9.up (by omega)) (by
  rcases sgq_abs (2*d) with e | e | e
  · rw [e];omega
  · rw [e] at h;simp at h
  · rw [e];omega) V (hE.next hb))
 clear hc1
 have C12:=Lib.hid (fun V (hb:Below w.heap.size w V)=>sign_z h7 V)
 have C13:=Lib.hid (fun V (hb:Below w.heap.size w V)=>sign_z h6 V)
 generalize Sg.sos (d*d+x.a-y.a) (Sg.sgq (2*d)*x.s) (2*d*(2*d)*x.a)=c1 at *
 generalize Sg.sgq (d*d+x.a-y.a)=c0 at *
 generalize Sg.sgq (2*d)=v at *
 generalize Sg.sos d x.s x.a=u at *
 have C1:=kn w (isRat_no hx hx0)
 have C2:=kn w (isRat_no hy hy0)
 have C4:=kn w (rootSign_f hx sx)
 have C5:=kn w (rootSign_f hy sy)
 have C7:=ke hE (mul_z h3 h3 h4 (zd.up (by omega)) (zd.up (by omega)))
 have C8:=ke hE (add_z h4 hx.r h5 (z4.up (by omega)) (zx.r.up (by omega)))
 have C9:=ke hE (sub_z h5 hy.r h6 (z5.up (by omega)) (zy.r.up (by omega)))
 have C10:=kn w (rFromInt_f (x:=2) e2.num (by omega) (by omega))
 have C11:=ke hE (mul_z e2 h3 h7 (z2.up (by omega)) (zd.up (by omega)))
 have C14:=ke hE (mul_z h7 h7 h8 (z7.up (by omega)) (z7.up (by omega)))
 have C15:=ke hE (mul_z h8 hx.r h9 (z8.up (by omega)) (zx.r.up (by omega)))
 have U1:Hid (∀ {p:Prop} (h:p:=by ((fail_if_success (go_not_at_region 11));(fail_if_success (have:=hLL));obtain ⟨LL,hLL⟩:=lexi X.out;go_cut [8] (fun s0 wx=>∃ g0,s0=.pointer (some ⟨g0,0,none⟩)∧Sb w (LL++[(g0,#[.bool b6,.string m6,.bool false,.string k6],25)]) [] wx);all_goals exact wkc)),p):=@fun _ h=>h
 have U2:Hid (∀ {p:Prop} (h:p:=by ((fail_if_success (go_not_at_region 12));(fail_if_success (have:=hLL));obtain ⟨LL,hLL⟩:=lexi X.out;go_cut [9] (fun s0 wx=>∃ g0,s0=.pointer (some ⟨g0,0,none⟩)∧Sb w (LL++[(g0,#[.bool b7,.string m7,.bool false,.string k7],25)]) [] wx);all_goals exact wkc)),p):=@fun _ h=>h
 have U3:Hid (∀ {p:Prop} (h:p:=by ((fail_if_success (go_not_at_region 15));(fail_if_success (have:=hLL));obtain ⟨LL,hLL⟩:=lexi X.out;go_cut [10] (fun s0 wx=>∃ g0,s0=.pointer (some ⟨g0,0,none⟩)∧Sb w (LL++[(g0,#[.bool b9,.string m9,.bool false,.string k9],25)]) [] wx);all_goals exact wkc)),p):=@fun _ h=>h
 clear hx hy okx oky hx0 hy0 zx zy h3 h4 h5 h6 h7 h8 h9 zd z2 z4 z5 z6 z7 z8 z9 e2 hd hdf hE
 go_enter Tryz.func34,Tryz.ntmps34
 go_upto_region 1 with fail
 refine gs2 (M:=fun W=>Code.wp _ _ _ _ W) (fun V X0=>?_)
 have X:=Lib.hid X0
 clear X0
 have F:=X.out.facts
 simp only [Facts,cellsAt,List.take_succ_cons,List.take_zero,Nat.reduceAdd,and_true,List.set_cons_succ,List.set_cons_zero,List.cons_append,List.nil_append] at F
 go_cut [11] (fun s11 wx=>s11=.bool false∧Sb w [(w.heap.size,#[.bool b1,.string m1,.bool false,.string k1,.bool false,.string n1,.bool false,.string l1,.bool s1],27),(w.heap.size+1,#[.bool b2,.string m2,.bool false,.string k2,.bool false,.string n2,.bool false,.string l2,.bool s2],27)] [] wx)
 case first =>
  rcases HD.out with hn | ⟨rfl,hn⟩ | ⟨rfl,rfl,hs⟩
  · obtain ⟨h1,h2⟩:=str_ne hn
    clear HD
    go_wp2_with fail
    go_meet
    exact ⟨rfl,X.out⟩
  · obtain ⟨h1,h2⟩:=str_ne hn
    clear HD
    go_wp2_with fail
    go_meet
    exact ⟨rfl,X.out⟩
  · clear HD
    cases s2<;>(obtain rfl:=hs) <;>
     (go_wp2_with fail
      go_meet
      exact ⟨rfl,X.out⟩)
 obtain ⟨rfl,hX⟩:=hcut
 replace X:=Lib.hid hX
 clear hX HD
 replace F:=X.out.facts
 simp only [Facts,cellsAt,List.take_succ_cons,List.take_zero,Nat.reduceAdd,and_true,List.set_cons_succ,List.set_cons_zero,List.cons_append,List.nil_append] at F
 exact wk
end Go.Proofs.YtpnokfgplnmjpaaGreatDoor


namespace Go.Proofs.YtpnokfgplnmjpaaGreatDoor
open Go.RowKit
attribute [local go_sem ↓] Go.wp_at_zero Go.wp_at_succ

theorem Rq.dsize {q:Rat} {b:Bool} {m k:ByteArray} {n:Nat} (h:Rq q b m k) (hs:(Go.Proofs.YtpnokfgplnmjpaaGreatDoor.mag q.den).size≤n):k.size≤n:=by
 by_cases hd:q.den=1
 · rw [h.den1 hd];exact Nat.zero_le _
 · rw [h.den2 hd];exact hs

set_option maxHeartbeats 8000000 in
set_option maxRecDepth 100000 in
theorem fmk_sq {p q r:Rat} {b1 b2 b3 b6:Bool} {m1 k1 m2 k2 m3 k3 m6 k6:ByteArray} (hp:Rq p b1 m1 k1) (hq:Rq q b2 m2 k2) (hr:Rq r b3 m3 k3) (hs:Sg.Sq r) (h6:Rq (p+q*Sg.rt r) b6 m6 k6) (zp:Sz 2000 p) (zq:Sz 2000 q) (zr:Sz (7999+1) r) (w:World) :
  Calls Tryz.prog 29 #[.agg #[.bool b1,.string m1,.bool false,.string k1],.agg #[.bool b2,.string m2,.bool false,.string k2],.agg #[.bool b3,.string m3,.bool false,.string k3]] w (RetB w (.agg #[.bool b6,.string m6,.bool false,.string k6,.bool false,.string ⟨#[]⟩,.bool false,.string ⟨#[]⟩,.bool false])):=by
 obtain ⟨b4,m4,k4,h4⟩:=Rq.some_ (Sg.rt r)
 obtain ⟨b5,m5,k5,h5⟩:=Rq.some_ (q*Sg.rt r)
 have z4:=zr.root
 have z5:Sz 10000 (q*Sg.rt r):=zq.mul z4
 have C1:=kn w ((root_yes_z hr (zr.up (by omega)) hs h4).2)
 have C2:=kn w (rmul_z hq h4 h5 (zq.up (by omega)) (z4.up (by omega)))
 have C3:=kn w (radd_z hp h5 h6 (zp.up (by omega)) z5)
 have RS:=Lib.hid Tryz.results29
 clear hp hq hr hs h6 zp zq zr h4 h5 z4 z5
 go_enter Tryz.func29,Tryz.ntmps29
 exact wk0

set_option maxHeartbeats 8000000 in
set_option maxRecDepth 100000 in
theorem fmk_zero {r:Rat} {b1 b3:Bool} {m1 k1 m3 k3:ByteArray} (hr:Rq r b3 m3 k3) (hs:¬Sg.Sq r) (zr:Sz 9000 r) (w:World) :
  Calls Tryz.prog 29 #[.agg #[.bool b1,.string m1,.bool false,.string k1],.agg #[.bool false,.string ⟨#[]⟩,.bool false,.string ⟨#[]⟩],.agg #[.bool b3,.string m3,.bool false,.string k3]] w (RetB w (.agg #[.bool b1,.string m1,.bool false,.string k1,.bool false,.string ⟨#[]⟩,.bool false,.string ⟨#[]⟩,.bool false])):=by
 have C1:=kn w ((root_no_z hr zr hs).2)
 have C2:=kn w (zero_any)
 have RS:=Lib.hid Tryz.results29
 clear hr hs zr
 go_enter Tryz.func29,Tryz.ntmps29
 exact wk0

set_option maxHeartbeats 8000000 in
set_option maxRecDepth 100000 in
theorem fmk_irr_true {q r:Rat} {b1 b3 b5:Bool} {m1 k1 m3 k3 m5 k5:ByteArray} {m2 k2:ByteArray} (hq:Rq q true m2 k2) (hq0:q≠0) (hr:Rq r b3 m3 k3) (hs:¬Sg.Sq r) (h5:Rq (q*q*r) b5 m5 k5) (zq:Sz 2000 q) (zr:Sz 2000 r) (w:World) :
  Calls Tryz.prog 29 #[.agg #[.bool b1,.string m1,.bool false,.string k1],.agg #[.bool true,.string m2,.bool false,.string k2],.agg #[.bool b3,.string m3,.bool false,.string k3]] w (RetB w (.agg #[.bool b1,.string m1,.bool false,.string k1,.bool b5,.string m5,.bool false,.string k5,.bool (decide (Sg.sgq q<0))])):=by
 obtain ⟨b4,m4,k4,h4⟩:=Rq.some_ (q*q)
 have hn:=hq.ne hq0
 obtain ⟨e1,e2⟩:=str_ne hn
 have e3:=empty_no (size_pos hn)
 have z4:=zq.mul zq
 have C1:=kn w ((root_no_z hr (zr.up (by omega)) hs).2)
 have C2:=kn w (zero_any)
 have C3:=kn w (rmul_z hq hq h4 (zq.up (by omega)) (zq.up (by omega)))
 have C4:=kn w (rmul_z h4 hr h5 (z4.up (by omega)) (zr.up (by omega)))
 have C5:=kn w (rsign_z hq)
 have RS:=Lib.hid Tryz.results29
 clear hq hq0 hr hs h5 zq zr h4 hn z4
 go_enter Tryz.func29,Tryz.ntmps29
 exact wk0

set_option maxHeartbeats 8000000 in
set_option maxRecDepth 100000 in
theorem fmk_irr_false {q r:Rat} {b1 b3 b5:Bool} {m1 k1 m3 k3 m5 k5:ByteArray} {m2 k2:ByteArray} (hq:Rq q false m2 k2) (hq0:q≠0) (hr:Rq r b3 m3 k3) (hs:¬Sg.Sq r) (h5:Rq (q*q*r) b5 m5 k5) (zq:Sz 2000 q) (zr:Sz 2000 r) (w:World) :
  Calls Tryz.prog 29 #[.agg #[.bool b1,.string m1,.bool false,.string k1],.agg #[.bool false,.string m2,.bool false,.string k2],.agg #[.bool b3,.string m3,.bool false,.string k3]] w (RetB w (.agg #[.bool b1,.string m1,.bool false,.string k1,.bool b5,.string m5,.bool false,.string k5,.bool (decide (Sg.sgq q<0))])):=by
 obtain ⟨b4,m4,k4,h4⟩:=Rq.some_ (q*q)
 have hn:=hq.ne hq0
 obtain ⟨e1,e2⟩:=str_ne hn
 have e3:=empty_no (size_pos hn)
 have z4:=zq.mul zq
 have C1:=kn w ((root_no_z hr (zr.up (by omega)) hs).2)
 have C2:=kn w (zero_any)
 have C3:=kn w (rmul_z hq hq h4 (zq.up (by omega)) (zq.up (by omega)))
 have C4:=kn w (rmul_z h4 hr h5 (z4.up (by omega)) (zr.up (by omega)))
 have C5:=kn w (rsign_z hq)
 have RS:=Lib.hid Tryz.results29
 clear hq hq0 hr hs h5 zq zr h4 hn z4
 go_enter Tryz.func29,Tryz.ntmps29
 exact wk0

theorem sgq_lt {q:Rat}:Sg.sgq q<0↔q<0:=by
 rcases Sg.sgq_three q with ⟨h,e⟩ | ⟨h,e⟩ | ⟨h,e⟩<;>rw [e]
 · simp [h]
 · subst h;simp
 · constructor
   · intro h1;omega
   · intro h1;grind
theorem fmk_f {p q r:Rat} {b1 b2 b3:Bool} {m1 k1 m2 k2 m3 k3:ByteArray} {b6 c6 s6:Bool} {m6 k6 n6 l6:ByteArray} (hp:Rq p b1 m1 k1) (hq:Rq q b2 m2 k2) (hr:Rq r b3 m3 k3) (zp:Sz 2000 p) (zq:Sz 2000 q) (zr:Sz 2000 r) (h6:Rv (Sg.mkR p q r) b6 m6 k6 c6 n6 l6 s6) (w:World) :
  Calls Tryz.prog 29 #[.agg #[.bool b1,.string m1,.bool false,.string k1],.agg #[.bool b2,.string m2,.bool false,.string k2],.agg #[.bool b3,.string m3,.bool false,.string k3]] w (RetB w (.agg #[.bool b6,.string m6,.bool false,.string k6,.bool c6,.string n6,.bool false,.string l6,.bool s6])):=by
 unfold Sg.mkR at h6
 by_cases hs:Sg.Sq r
 · rw [if_pos hs] at h6
   obtain ⟨rfl,rfl,rfl⟩:=h6.r.nought.1 rfl
   obtain rfl:s6=false:=h6.neg
   exact fmk_sq hp hq hr hs h6.p zp zq (zr.up (by omega)) w
 · rw [if_neg hs] at h6
   by_cases hq0:q=0
   · rw [if_pos hq0] at h6
     obtain ⟨rfl,rfl,rfl⟩:=h6.r.nought.1 rfl
     obtain rfl:s6=false:=h6.neg
     obtain ⟨rfl,rfl,rfl⟩:=hq.nought.1 hq0
     obtain ⟨rfl,rfl,rfl⟩:=h6.p.inj hp
     exact fmk_zero hr hs (zr.up (by omega)) w
   · rw [if_neg hq0] at h6
     obtain ⟨rfl,rfl,rfl⟩:=h6.p.inj hp
     obtain rfl:s6=decide (Sg.sgq q<0):=by
      rw [h6.neg]
      by_cases h:q<0
      · simp [h,sgq_lt.2 h]
      · have h':¬Sg.sgq q<0:=fun e=>h (sgq_lt.1 e)
        simp [h,h']
     cases b2
     · exact fmk_irr_false hq hq0 hr hs h6.r zq zr w
     · exact fmk_irr_true hq hq0 hr hs h6.r zq zr w

set_option maxHeartbeats 8000000 in
set_option maxRecDepth 100000 in
theorem rchk_rat {p:Rat} {b1:Bool} {m1 k1:ByteArray} (hp:Rq p b1 m1 k1) (zp:Sz 10000 p) (w:World) (hE:Env w) :
  Calls Tryz.prog 18 #[.agg #[.bool b1,.string m1,.bool false,.string k1,.bool false,.string ⟨#[]⟩,.bool false,.string ⟨#[]⟩,.bool false]] w (RetB w (.int .i64 0)):=by
 have t1:=(zp.m hp (Nat.le_refl _)).1
 have t2:=hp.dsize (zp.m hp (Nat.le_refl _)).2
 have C1:=ke hE (ratCheck_f hp (by omega) (by omega))
 have C2:=ke hE (ratCheck_f Rq.zero (by decide) (by decide))
 have C3:=kn w (isRat_yes b1 false m1 k1)
 clear hp zp t1 t2 hE
 go_enter Tryz.func18,Tryz.ntmps18
 exact wk0

set_option maxHeartbeats 8000000 in
set_option maxRecDepth 100000 in
theorem rchk_irr {x:Sg.Rl} {b1 c1 s1:Bool} {m1 k1 n1 l1:ByteArray} (hx:Rv x b1 m1 k1 c1 n1 l1 s1) (hx0:0<x.a) (hn:¬Sg.Sq x.a) (zx:Rz 9000 x) (w:World) (hE:Env w) :
  Calls Tryz.prog 18 #[.agg #[.bool b1,.string m1,.bool false,.string k1,.bool c1,.string n1,.bool false,.string l1,.bool s1]] w (RetB w (.int .i64 0)):=by
 have t1:=((zx.p.up (by omega)).m hx.p (Nat.le_refl _)).1
 have t2:=hx.p.dsize ((zx.p.up (by omega)).m hx.p (Nat.le_refl _)).2
 have t3:=((zx.r.up (by omega)).m hx.r (Nat.le_refl _)).1
 have t4:=hx.r.dsize ((zx.r.up (by omega)).m hx.r (Nat.le_refl _)).2
 have hne:x.a≠0:=by grind
 have C4:=Lib.hid (fun V (_:Below w.heap.size w V)=>sign_z hx.r V)
 rw [Sg.sgq_pos hx0] at C4
 have C1:=ke hE (ratCheck_f hx.p (by omega) (by omega))
 have C2:=ke hE (ratCheck_f hx.r (by omega) (by omega))
 have C3:=kn w (isRat_no hx hne)
 have C5:=ke hE ((root_no_z hx.r zx.r hn).1)
 clear hx hx0 hn zx t1 t2 t3 t4 hne hE
 go_enter Tryz.func18,Tryz.ntmps18
 exact wk0

theorem rchk_ok {x:Sg.Rl} {b1 c1 s1:Bool} {m1 k1 n1 l1:ByteArray} (hx:Rv x b1 m1 k1 c1 n1 l1 s1) (ok:x.Ok) (zx:Rz 9000 x) (w:World) (hE:Env w):Calls Tryz.prog 18 #[.agg #[.bool b1,.string m1,.bool false,.string k1,.bool c1,.string n1,.bool false,.string l1,.bool s1]] w (RetB w (.int .i64 0)):=by
 rcases Sg.ok_cases ok with ⟨ha,e⟩ | ⟨ha,hn⟩
 · obtain ⟨rfl,rfl,rfl⟩:=hx.r.nought.1 ha
   obtain rfl:s1=false:=by rw [hx.neg,e];rfl
   exact rchk_rat hx.p (zx.p.up (by omega)) w hE
 · exact rchk_irr hx ha hn zx w hE
end Go.Proofs.YtpnokfgplnmjpaaGreatDoor


namespace Go.Proofs.YtpnokfgplnmjpaaGreatDoor
open Go.RowKit
attribute [local go_sem ↓] Go.wp_at_zero Go.wp_at_succ

theorem at_ {M:World→Prop} (g:Nat) (k:Nat) {W:World} {y:Value} (h:M (W.setCell ⟨g,k,none⟩ y)):M (W.setCell ⟨g,k,none⟩ y):=h

set_option maxHeartbeats 8000000 in
set_option maxRecDepth 100000 in
theorem simp_next (w:World) {z1:Bool} {y1:ByteArray} {b1 c1 s1:Bool} {m1 k1 n1 l1:ByteArray} {b2 c2 s2:Bool} {m2 k2 n2 l2:ByteArray} {b3:Bool} {m3 k3:ByteArray} {c:Int} (hc:0<c) (HF:∀ V,Below w.heap.size w V→Calls Tryz.prog 52 #[.agg #[.bool b1,.string m1,.bool false,.string k1,.bool c1,.string n1,.bool false,.string l1,.bool s1]] V (RetB V (.agg #[.bool z1,.string y1]))) (HW:∀ V,Below w.heap.size w V→Calls Tryz.prog 73 #[.int .i64 (1)] V (RetB V (.agg #[.bool false,.string ⟨#[1]⟩,.bool false,.string ⟨#[]⟩]))) (HA:∀ V,Below w.heap.size w V→Calls Tryz.prog 89 #[.agg #[.bool z1,.string y1,.bool false,.string ⟨#[]⟩],.agg #[.bool false,.string ⟨#[1]⟩,.bool false,.string ⟨#[]⟩]] V (RetB V (.agg #[.bool b3,.string m3,.bool false,.string k3]))) (HC:∀ V,Below w.heap.size w V→Calls Tryz.prog 38 #[.agg #[.bool b2,.string m2,.bool false,.string k2,.bool c2,.string n2,.bool false,.string l2,.bool s2],.agg #[.bool b3,.string m3,.bool false,.string k3]] V (RetB V (.int .i64 c))) :
  Calls Tryz.prog 109 #[.agg #[.bool b1,.string m1,.bool false,.string k1,.bool c1,.string n1,.bool false,.string l1,.bool s1],.agg #[.bool b2,.string m2,.bool false,.string k2,.bool c2,.string n2,.bool false,.string l2,.bool s2]] w (RetB w (.agg #[.bool b3,.string m3,.bool false,.string k3])):=by
 have C1:=Lib.hid HF
 have C2:=Lib.hid HW
 have C3:=Lib.hid HA
 have C4:=Lib.hid HC
 have U1:Hid (∀ {p:Prop} (h:p:=by ((fail_if_success (go_not_at_region 2));(fail_if_success (have:=hLL));obtain ⟨LL,hLL⟩:=lexi X.out;go_cut [6] (fun s0 wx=>∃ g0,s0=.pointer (some ⟨g0,0,none⟩)∧Sb w (LL++[(g0,#[.bool b3,.string m3,.bool false,.string k3],25)]) [] wx);all_goals exact wkc)),p):=@fun _ h=>h
 have RS:=Lib.hid Tryz.results109
 clear HF HW HA HC 
 go_enter Tryz.func109,Tryz.ntmps109
 exact wk0

set_option maxHeartbeats 8000000 in
set_option maxRecDepth 100000 in
theorem simp_rec (w:World) {z1:Bool} {y1:ByteArray} {b1 c1 s1:Bool} {m1 k1 n1 l1:ByteArray} {b2 c2 s2:Bool} {m2 k2 n2 l2:ByteArray} {b5 c5 s5:Bool} {m5 k5 n5 l5:ByteArray} {b6 c6 s6:Bool} {m6 k6 n6 l6:ByteArray} {b7 c7 s7:Bool} {m7 k7 n7 l7:ByteArray} {b8 c8 s8:Bool} {m8 k8 n8 l8:ByteArray} {b3 b4 b9 b10 b11:Bool} {m3 k3 m4 k4 m9 k9 m10 k10 m11 k11:ByteArray} {c:Int} (hc:¬0<c) (HF:∀ V,Below w.heap.size w V→Calls Tryz.prog 52 #[.agg #[.bool b1,.string m1,.bool false,.string k1,.bool c1,.string n1,.bool false,.string l1,.bool s1]] V (RetB V (.agg #[.bool z1,.string y1]))) (HW:∀ V,Below w.heap.size w V→Calls Tryz.prog 73 #[.int .i64 (1)] V (RetB V (.agg #[.bool false,.string ⟨#[1]⟩,.bool false,.string ⟨#[]⟩]))) (HA:∀ V,Below w.heap.size w V→Calls Tryz.prog 89 #[.agg #[.bool z1,.string y1,.bool false,.string ⟨#[]⟩],.agg #[.bool false,.string ⟨#[1]⟩,.bool false,.string ⟨#[]⟩]] V (RetB V (.agg #[.bool b3,.string m3,.bool false,.string k3]))) (HC:∀ V,Below w.heap.size w V→Calls Tryz.prog 38 #[.agg #[.bool b2,.string m2,.bool false,.string k2,.bool c2,.string n2,.bool false,.string l2,.bool s2],.agg #[.bool b3,.string m3,.bool false,.string k3]] V (RetB V (.int .i64 c))) (HN:∀ V,Below w.heap.size w V→Calls Tryz.prog 80 #[.agg #[.bool z1,.string y1,.bool false,.string ⟨#[]⟩]] V (RetB V (.agg #[.bool b4,.string m4,.bool false,.string k4]))) (HS1:∀ V,Below w.heap.size w V→Calls Tryz.prog 44 #[.agg #[.bool b1,.string m1,.bool false,.string k1,.bool c1,.string n1,.bool false,.string l1,.bool s1],.agg #[.bool b4,.string m4,.bool false,.string k4]] V (RetB V (.agg #[.bool b5,.string m5,.bool false,.string k5,.bool c5,.string n5,.bool false,.string l5,.bool s5]))) (HS2:∀ V,Below w.heap.size w V→Calls Tryz.prog 44 #[.agg #[.bool b2,.string m2,.bool false,.string k2,.bool c2,.string n2,.bool false,.string l2,.bool s2],.agg #[.bool b4,.string m4,.bool false,.string k4]] V (RetB V (.agg #[.bool b6,.string m6,.bool false,.string k6,.bool c6,.string n6,.bool false,.string l6,.bool s6]))) (HI1:∀ V,Below w.heap.size w V→Calls Tryz.prog 50 #[.agg #[.bool b6,.string m6,.bool false,.string k6,.bool c6,.string n6,.bool false,.string l6,.bool s6]] V (RetB V (.tuple #[.agg #[.bool b7,.string m7,.bool false,.string k7,.bool c7,.string n7,.bool false,.string l7,.bool s7],.int .i64 0]))) (HI2:∀ V,Below w.heap.size w V→Calls Tryz.prog 50 #[.agg #[.bool b5,.string m5,.bool false,.string k5,.bool c5,.string n5,.bool false,.string l5,.bool s5]] V (RetB V (.tuple #[.agg #[.bool b8,.string m8,.bool false,.string k8,.bool c8,.string n8,.bool false,.string l8,.bool s8],.int .i64 0]))) (HR:∀ V,Below w.heap.size w V→Calls Tryz.prog 109 #[.agg #[.bool b7,.string m7,.bool false,.string k7,.bool c7,.string n7,.bool false,.string l7,.bool s7],.agg #[.bool b8,.string m8,.bool false,.string k8,.bool c8,.string n8,.bool false,.string l8,.bool s8]] V (RetB V (.agg #[.bool b9,.string m9,.bool false,.string k9]))) (HD:∀ V,Below w.heap.size w V→Calls Tryz.prog 79 #[.agg #[.bool false,.string ⟨#[1]⟩,.bool false,.string ⟨#[]⟩],.agg #[.bool b9,.string m9,.bool false,.string k9]] V (RetB V (.agg #[.bool b10,.string m10,.bool false,.string k10]))) (HZ:∀ V,Below w.heap.size w V→Calls Tryz.prog 89 #[.agg #[.bool z1,.string y1,.bool false,.string ⟨#[]⟩],.agg #[.bool b10,.string m10,.bool false,.string k10]] V (RetB V (.agg #[.bool b11,.string m11,.bool false,.string k11]))) :
  Calls Tryz.prog 109 #[.agg #[.bool b1,.string m1,.bool false,.string k1,.bool c1,.string n1,.bool false,.string l1,.bool s1],.agg #[.bool b2,.string m2,.bool false,.string k2,.bool c2,.string n2,.bool false,.string l2,.bool s2]] w (RetB w (.agg #[.bool b11,.string m11,.bool false,.string k11])):=by
 have C1:=Lib.hid HF
 have C2:=Lib.hid HW
 have C3:=Lib.hid HA
 have C4:=Lib.hid HC
 have C5:=Lib.hid HN
 have C6:=Lib.hid HS1
 have C7:=Lib.hid HS2
 have C8:=Lib.hid HI1
 have C9:=Lib.hid HI2
 have C10:=Lib.hid HR
 have C11:=Lib.hid HD
 have C12:=Lib.hid HZ
 have U1:Hid (∀ {p:Prop} (h:p:=by ((fail_if_success (go_not_at_region 2));(fail_if_success (have:=hLL));obtain ⟨LL,hLL⟩:=lexi X.out;go_cut [6] (fun s0 wx=>∃ g0,s0=.pointer (some ⟨g0,0,none⟩)∧Sb w (LL++[(g0,#[.bool b3,.string m3,.bool false,.string k3],25)]) [] wx);all_goals exact wkc)),p):=@fun _ h=>h
 have RS:=Lib.hid Tryz.results109
 clear HF HW HA HC HN HS1 HS2 HI1 HI2 HR HD HZ 
 go_enter Tryz.func109,Tryz.ntmps109
 exact wk0

set_option maxHeartbeats 8000000 in
set_option maxRecDepth 100000 in
theorem simp_open (w:World) {z1:Bool} {y1:ByteArray} {b1 c1 s1:Bool} {m1 k1 n1 l1:ByteArray} {b2 c2 s2:Bool} {m2 k2 n2 l2:ByteArray} {b5 c5 s5:Bool} {m5 k5 n5 l5:ByteArray} {b6 c6 s6:Bool} {m6 k6 n6 l6:ByteArray} {b7 c7 s7:Bool} {m7 k7 n7 l7:ByteArray} {b8 c8 s8:Bool} {m8 k8 n8 l8:ByteArray} {b3 b4 b9 b10 b11:Bool} {m3 k3 m4 k4 m9 k9 m10 k10 m11 k11:ByteArray} {c:Int} (hc:¬0<c) (HF:∀ V,Below w.heap.size w V→Calls Tryz.prog 52 #[.agg #[.bool b1,.string m1,.bool false,.string k1,.bool c1,.string n1,.bool false,.string l1,.bool s1]] V (RetB V (.agg #[.bool z1,.string y1]))) (HW:∀ V,Below w.heap.size w V→Calls Tryz.prog 73 #[.int .i64 (1)] V (RetB V (.agg #[.bool false,.string ⟨#[1]⟩,.bool false,.string ⟨#[]⟩]))) (HA:∀ V,Below w.heap.size w V→Calls Tryz.prog 89 #[.agg #[.bool z1,.string y1,.bool false,.string ⟨#[]⟩],.agg #[.bool false,.string ⟨#[1]⟩,.bool false,.string ⟨#[]⟩]] V (RetB V (.agg #[.bool b3,.string m3,.bool false,.string k3]))) (HC:∀ V,Below w.heap.size w V→Calls Tryz.prog 38 #[.agg #[.bool b2,.string m2,.bool false,.string k2,.bool c2,.string n2,.bool false,.string l2,.bool s2],.agg #[.bool b3,.string m3,.bool false,.string k3]] V (RetB V (.int .i64 c))) (HN:∀ V,Below w.heap.size w V→Calls Tryz.prog 80 #[.agg #[.bool z1,.string y1,.bool false,.string ⟨#[]⟩]] V (RetB V (.agg #[.bool b4,.string m4,.bool false,.string k4]))) (HS1:∀ V,Below w.heap.size w V→Calls Tryz.prog 44 #[.agg #[.bool b1,.string m1,.bool false,.string k1,.bool c1,.string n1,.bool false,.string l1,.bool s1],.agg #[.bool b4,.string m4,.bool false,.string k4]] V (RetB V (.agg #[.bool b5,.string m5,.bool false,.string k5,.bool c5,.string n5,.bool false,.string l5,.bool s5]))) (HS2:∀ V,Below w.heap.size w V→Calls Tryz.prog 44 #[.agg #[.bool b2,.string m2,.bool false,.string k2,.bool c2,.string n2,.bool false,.string l2,.bool s2],.agg #[.bool b4,.string m4,.bool false,.string k4]] V (RetB V (.agg #[.bool b6,.string m6,.bool false,.string k6,.bool c6,.string n6,.bool false,.string l6,.bool s6]))) (HI1:∀ V,Below w.heap.size w V→Calls Tryz.prog 50 #[.agg #[.bool b6,.string m6,.bool false,.string k6,.bool c6,.string n6,.bool false,.string l6,.bool s6]] V (RetB V (.tuple #[.agg #[.bool b7,.string m7,.bool false,.string k7,.bool c7,.string n7,.bool false,.string l7,.bool s7],.int .i64 0]))) (HI2:∀ V,Below w.heap.size w V→Calls Tryz.prog 50 #[.agg #[.bool b5,.string m5,.bool false,.string k5,.bool c5,.string n5,.bool false,.string l5,.bool s5]] V (RetB V (.tuple #[.agg #[.bool false,.string ⟨#[]⟩,.bool false,.string ⟨#[]⟩,.bool false,.string ⟨#[]⟩,.bool false,.string ⟨#[]⟩,.bool false],.int .i64 6]))) (HW2:∀ V,Below w.heap.size w V→Calls Tryz.prog 73 #[.int .i64 (2)] V (RetB V (.agg #[.bool false,.string ⟨#[2]⟩,.bool false,.string ⟨#[]⟩]))) (HS3:∀ V,Below w.heap.size w V→Calls Tryz.prog 44 #[.agg #[.bool b7,.string m7,.bool false,.string k7,.bool c7,.string n7,.bool false,.string l7,.bool s7],.agg #[.bool false,.string ⟨#[2]⟩,.bool false,.string ⟨#[]⟩]] V (RetB V (.agg #[.bool b8,.string m8,.bool false,.string k8,.bool c8,.string n8,.bool false,.string l8,.bool s8]))) (HR:∀ V,Below w.heap.size w V→Calls Tryz.prog 109 #[.agg #[.bool b7,.string m7,.bool false,.string k7,.bool c7,.string n7,.bool false,.string l7,.bool s7],.agg #[.bool b8,.string m8,.bool false,.string k8,.bool c8,.string n8,.bool false,.string l8,.bool s8]] V (RetB V (.agg #[.bool b9,.string m9,.bool false,.string k9]))) (HD:∀ V,Below w.heap.size w V→Calls Tryz.prog 79 #[.agg #[.bool false,.string ⟨#[1]⟩,.bool false,.string ⟨#[]⟩],.agg #[.bool b9,.string m9,.bool false,.string k9]] V (RetB V (.agg #[.bool b10,.string m10,.bool false,.string k10]))) (HZ:∀ V,Below w.heap.size w V→Calls Tryz.prog 89 #[.agg #[.bool z1,.string y1,.bool false,.string ⟨#[]⟩],.agg #[.bool b10,.string m10,.bool false,.string k10]] V (RetB V (.agg #[.bool b11,.string m11,.bool false,.string k11]))) :
  Calls Tryz.prog 109 #[.agg #[.bool b1,.string m1,.bool false,.string k1,.bool c1,.string n1,.bool false,.string l1,.bool s1],.agg #[.bool b2,.string m2,.bool false,.string k2,.bool c2,.string n2,.bool false,.string l2,.bool s2]] w (RetB w (.agg #[.bool b11,.string m11,.bool false,.string k11])):=by
 have C1:=Lib.hid HF
 have C2:=Lib.hid HW
 have C3:=Lib.hid HA
 have C4:=Lib.hid HC
 have C5:=Lib.hid HN
 have C6:=Lib.hid HS1
 have C7:=Lib.hid HS2
 have C8:=Lib.hid HI1
 have C9:=Lib.hid HI2
 have C10:=Lib.hid HW2
 have C11:=Lib.hid HS3
 have C12:=Lib.hid HR
 have C13:=Lib.hid HD
 have C14:=Lib.hid HZ
 have U1:Hid (∀ {p:Prop} (h:p:=by ((fail_if_success (go_not_at_region 2));(fail_if_success (have:=hLL));obtain ⟨LL,hLL⟩:=lexi X.out;go_cut [6] (fun s0 wx=>∃ g0,s0=.pointer (some ⟨g0,0,none⟩)∧Sb w (LL++[(g0,#[.bool b3,.string m3,.bool false,.string k3],25)]) [] wx);all_goals exact wkc)),p):=@fun _ h=>h
 have RS:=Lib.hid Tryz.results109
 clear HF HW HA HC HN HS1 HS2 HI1 HI2 HW2 HS3 HR HD HZ 
 go_enter Tryz.func109,Tryz.ntmps109
 exact wk0

set_option maxHeartbeats 8000000 in
set_option maxRecDepth 100000 in
theorem btw_pos (w:World) {b1 c1 s1:Bool} {m1 k1 n1 l1:ByteArray} {b2 c2 s2:Bool} {m2 k2 n2 l2:ByteArray} {b3:Bool} {m3 k3:ByteArray} {c s:Int} (hc:c<0) (hs:0≤s) (HC1:∀ V,Below w.heap.size w V→Calls Tryz.prog 18 #[.agg #[.bool b1,.string m1,.bool false,.string k1,.bool c1,.string n1,.bool false,.string l1,.bool s1]] V (RetB V (.int .i64 (0)))) (HC2:∀ V,Below w.heap.size w V→Calls Tryz.prog 18 #[.agg #[.bool b2,.string m2,.bool false,.string k2,.bool c2,.string n2,.bool false,.string l2,.bool s2]] V (RetB V (.int .i64 (0)))) (HC:∀ V,Below w.heap.size w V→Calls Tryz.prog 34 #[.agg #[.bool b1,.string m1,.bool false,.string k1,.bool c1,.string n1,.bool false,.string l1,.bool s1],.agg #[.bool b2,.string m2,.bool false,.string k2,.bool c2,.string n2,.bool false,.string l2,.bool s2]] V (RetB V (.int .i64 c))) (HI:∀ V,Below w.heap.size w V→Calls Tryz.prog 70 #[.agg #[.bool b1,.string m1,.bool false,.string k1,.bool c1,.string n1,.bool false,.string l1,.bool s1]] V (RetB V (.bool false))) (HS:∀ V,Below w.heap.size w V→Calls Tryz.prog 39 #[.agg #[.bool b1,.string m1,.bool false,.string k1,.bool c1,.string n1,.bool false,.string l1,.bool s1]] V (RetB V (.int .i64 s))) (HR:∀ V,Below w.heap.size w V→Calls Tryz.prog 109 #[.agg #[.bool b1,.string m1,.bool false,.string k1,.bool c1,.string n1,.bool false,.string l1,.bool s1],.agg #[.bool b2,.string m2,.bool false,.string k2,.bool c2,.string n2,.bool false,.string l2,.bool s2]] V (RetB V (.agg #[.bool b3,.string m3,.bool false,.string k3]))) :
  Calls Tryz.prog 56 #[.agg #[.bool b1,.string m1,.bool false,.string k1,.bool c1,.string n1,.bool false,.string l1,.bool s1],.agg #[.bool b2,.string m2,.bool false,.string k2,.bool c2,.string n2,.bool false,.string l2,.bool s2]] w (RetB w (.tuple #[.agg #[.bool b3,.string m3,.bool false,.string k3],.int .i64 0])):=by
 have C1:=Lib.hid HC1
 have C2:=Lib.hid HC2
 have C3:=Lib.hid HC
 have C4:=Lib.hid HI
 have C5:=Lib.hid HS
 have C6:=Lib.hid HR
 have RS:=Lib.hid Tryz.results56
 clear HC1 HC2 HC HI HS HR 
 go_enter Tryz.func56,Tryz.ntmps56
 exact wk0
end Go.Proofs.YtpnokfgplnmjpaaGreatDoor


namespace Go.Proofs.YtpnokfgplnmjpaaGreatDoor
open Go.RowKit
attribute [local go_sem ↓] Go.wp_at_zero Go.wp_at_succ

set_option maxHeartbeats 4000000 in
set_option maxRecDepth 100000 in
theorem ratFloor_f {p:Rat} {b bz:Bool} {m k mz:ByteArray} (h:Rq p b m k) (hz:enc (p.num / (p.den:Int))=.agg #[.bool bz,.string mz]) (s1:m.size≤100000) (s2:(mag p.den).size≤100000) (w:World) :
  Calls Tryz.prog 93 #[.agg #[.bool b,.string m,.bool false,.string k]] w (RetB w (.agg #[.bool bz,.string mz])):=by
 by_cases hden:p.den=1
 · obtain rfl:=h.den1 hden
   have hn:=h.num
   rw [hden,show (((1:Nat):Int))=1 from rfl,Int.ediv_one,hn] at hz
   obtain ⟨rfl,rfl⟩:b=bz∧m=mz:=by cases hz;exact ⟨rfl,rfl⟩
   have X:=Lib.hid (((Sb.start w).new #[.bool b,.string m,.bool false,.string ⟨#[]⟩] 25).new #[.bool false,.string ⟨#[]⟩] 23)
   have X:=Lib.hid (X.out.pick [0,1] [(w.heap.size,#[.bool b,.string m,.bool false,.string ⟨#[]⟩],25),(w.heap.size+1,#[.bool false,.string ⟨#[]⟩],23)] [] (by simp) (by decide) (by simp))
   clear h hz hden hn s2
   go_enter Tryz.func93,Tryz.ntmps93
   obtain ⟨a0,a1,a2,a3⟩:=X.out.c4 (i:=0) rfl
   go_wp2_with fail
   refine (isInteger_yes b m _).mono ?_
   rintro e u1 ⟨rfl,hb9⟩
   have X:=Lib.hid (X.out.next hb9)
   clear hb9
   clear a0 a1 a2 a3
   obtain ⟨a0,a1,a2,a3⟩:=X.out.c4 (i:=0) rfl
   obtain ⟨x0,x1⟩:=X.out.c2 (i:=1) rfl
   obtain ⟨y0,y1⟩:=X.out.f2 (i:=1) rfl
   go_wp2
   have X:=Lib.hid (X.out.set2 (i:=1) rfl (.bool b) (.string m))
   obtain ⟨p0,p1⟩:=X.out.c2 (i:=1) rfl
   exact bodyPost_ret (v:=.agg #[.bool b,.string m]) (by simp [results,Tryz.results93,go_sem,p0,p1]) rfl ⟨rfl,X.out.bel⟩
 · obtain rfl:=h.den2 hden
   have HNO:=Lib.hid (isInteger_no b m (mag p.den) (mag_no_nil p.den_nz))
   obtain ⟨br,mr,hr⟩:=enc_form (p.num%(p.den:Int))
   have hd0:=p.den_nz
   have HDM:=Lib.hid (fun V=>divMod_f h.num (enc_mag p.den) (by omega) (by omega) (by omega) hz hr rfl rfl V)
   generalize Go.Proofs.YtpnokfgplnmjpaaGreatDoor.mag p.den=k at *
   have X:=Lib.hid (((Sb.start w).new #[.bool b,.string m,.bool false,.string k] 25).new #[.bool false,.string ⟨#[]⟩] 23)
   have X:=Lib.hid (X.out.pick [0,1] [(w.heap.size,#[.bool b,.string m,.bool false,.string k],25),(w.heap.size+1,#[.bool false,.string ⟨#[]⟩],23)] [] (by simp) (by decide) (by simp))
   clear h hz hden hr hd0 s1 s2
   go_enter Tryz.func93,Tryz.ntmps93
   obtain ⟨a0,a1,a2,a3⟩:=X.out.c4 (i:=0) rfl
   go_wp2_with fail
   refine (HNO.out _).mono ?_
   rintro e u1 ⟨rfl,hb9⟩
   have X:=Lib.hid (X.out.next hb9)
   clear hb9
   clear a0 a1 a2 a3
   obtain ⟨a0,a1,a2,a3⟩:=X.out.c4 (i:=0) rfl
   go_wp2_with fail
   refine (HDM.out _).mono ?_
   rintro e u2 ⟨rfl,hb9⟩
   have X:=Lib.hid (X.out.next hb9)
   clear hb9
   clear a0 a1 a2 a3
   go_upto_region 4 with fail
   have X:=Lib.hid ((X.out.new #[.bool bz,.string mz] 23).new #[.bool br,.string mr] 23)
   obtain ⟨W1,hV⟩:=wexi X.out
   rw [←hV] at X ⊢
   clear hV
   obtain ⟨a0,a1⟩:=X.out.c2 (i:=2) rfl
   obtain ⟨x0,x1⟩:=X.out.c2 (i:=1) rfl
   obtain ⟨y0,y1⟩:=X.out.f2 (i:=1) rfl
   go_wp2
   have X:=Lib.hid (X.out.set2 (i:=1) rfl (.bool bz) (.string mz))
   obtain ⟨p0,p1⟩:=X.out.c2 (i:=1) rfl
   exact bodyPost_ret (v:=.agg #[.bool bz,.string mz]) (by simp [results,Tryz.results93,go_sem,p0,p1]) rfl ⟨rfl,X.out.bel⟩

end Go.Proofs.YtpnokfgplnmjpaaGreatDoor
