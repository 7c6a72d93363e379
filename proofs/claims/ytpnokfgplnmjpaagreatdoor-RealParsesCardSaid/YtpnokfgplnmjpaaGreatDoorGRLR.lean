import Derived.Test.YtpnokfgplnmjpaaGreatDoorGRMI
import Derived.Test.YtpnokfgplnmjpaaGreatDoorGRLM
import Derived.Test.YtpnokfgplnmjpaaGreatDoorGRHB
import Derived.Test.YtpnokfgplnmjpaaGreatDoorGQT
import Derived.Test.YtpnokfgplnmjpaaGreatDoorGRCA
import Derived.Test.YtpnokfgplnmjpaaGreatDoorGRHE
import Derived.Test.YtpnokfgplnmjpaaGreatDoorGQW
set_option linter.unusedSimpArgs false
set_option linter.unusedVariables false

namespace Go.Proofs.YtpnokfgplnmjpaaGreatDoor
open Go.RowKit

structure EnvM (w:World):Prop where
 env:EnvT w
 lt:4<w.heap.size
 cell:∃ m,w.cell? ⟨4,0,none⟩=some (.int .i64 m)
theorem EnvM.next {w w':World} (h:EnvM w) (hb:Below w.heap.size w w'):EnvM w' :=
 ⟨h.env.next hb,Nat.lt_of_lt_of_le h.lt hb.size,by obtain ⟨m,hm⟩:=h.cell;exact ⟨m,(hb.cell (p:=⟨4,0,none⟩) h.lt).trans hm⟩⟩
theorem envM_of {W:World} (h:EnvT W) (hS:W.ShapedOpen Tryz.prog):EnvM W:=by
 have hc:∃ m,W.cell? ⟨4,0,none⟩=some (.int .i64 m):=Tryz.laysM219.s1_3 W hS
 refine ⟨h,?_,hc⟩
 obtain ⟨m,hm⟩:=hc
 refine Nat.lt_of_not_le fun hle=>?_
 simp [World.cell?,Array.getElem?_eq_none hle] at hm

theorem cut_f (s sep:ByteArray) {x y:List UInt8} {o:Bool} (h:Lib.cut s.data.toList sep.data.toList=(x,y,o)) (hs:s.size≤4096) (w:World) (hE:EnvM w) :
  Calls Tryz.prog 164 #[.string s,.string sep] w (RetB w (.tuple #[.string ⟨x.toArray⟩,.string ⟨y.toArray⟩,.bool o])):=by
 obtain ⟨m,hm⟩:=hE.cell
 refine (Tryz.strings_Cut s sep m w (by omega) hm).mono ?_
 rintro e w' ⟨rfl,n,rfl⟩
 rw [h]
 exact ⟨rfl,below_drewN (Below.refl _ _) n⟩
theorem cutPrefix_f (s p:ByteArray) {x:List UInt8} {o:Bool} (h1:Lib.trimPrefix s.data.toList p.data.toList=x) (h2:Lib.hasPrefix s.data.toList p.data.toList=o) (w:World) :
  Calls Tryz.prog 202 #[.string s,.string p] w (RetB w (.tuple #[.string ⟨x.toArray⟩,.bool o])):=by
 refine (Tryz.strings_CutPrefix s p w).mono ?_
 rintro e w' ⟨rfl,rfl⟩
 rw [h1,h2]
 exact ⟨rfl,Below.refl _ _⟩
theorem cutSuffix_f (s p:ByteArray) {x:List UInt8} {o:Bool} (h1:Lib.trimSuffix s.data.toList p.data.toList=x) (h2:Lib.hasSuffix s.data.toList p.data.toList=o) (hs:s.size≤4096) (w:World) :
  Calls Tryz.prog 166 #[.string s,.string p] w (RetB w (.tuple #[.string ⟨x.toArray⟩,.bool o])):=by
 refine (Tryz.strings_CutSuffix s p w (by omega)).mono ?_
 rintro e w' ⟨rfl,rfl⟩
 rw [h1,h2]
 exact ⟨rfl,Below.refl _ _⟩
theorem trimSuffix_f (s p:ByteArray) {x:List UInt8} (h1:Lib.trimSuffix s.data.toList p.data.toList=x) (hs:s.size≤4096) (w:World) :
  Calls Tryz.prog 167 #[.string s,.string p] w (RetB w (.string ⟨x.toArray⟩)):=by
 refine (Tryz.strings_TrimSuffix s p w (by omega)).mono ?_
 rintro e w' ⟨rfl,rfl⟩
 rw [h1]
 exact ⟨rfl,Below.refl _ _⟩

theorem printed_sign (q:Rat):printed (decide (q.num<0)) q.num.natAbs=if q.num<0 then 45 :: Lib.decDigits q.num.natAbs else Lib.decDigits q.num.natAbs:=by
 by_cases h:q.num<0
 · rw [decide_eq_true h,if_pos h,printed_neg (by omega),printed_nat]
 · rw [decide_eq_false h,if_neg h,printed_nat]
theorem ftext_int {q:Rat} (hd:q.den=1):ftext q=printed (decide (q.num<0)) q.num.natAbs:=by
 rw [printed_sign]
 unfold ftext fbody
 rw [if_pos hd]
theorem ftext_part {q:Rat} (hd:q.den≠1):ftext q=printed (decide (q.num<0)) q.num.natAbs++47 :: printed false q.den:=by
 rw [printed_sign,printed_nat]
 unfold ftext fbody
 rw [if_neg hd]
 split<;>simp
theorem print_f {q:Rat} {b:Bool} {m k:ByteArray} (h:Rq q b m k) (z:Sz 60 q) (w:World) (hE:EnvT w) :
  Calls Tryz.prog 115 #[.agg #[.bool b,.string m,.bool false,.string k]] w (RetB w (.string ⟨(ftext q).toArray⟩)):=by
 have hz:=z.m h (by omega)
 by_cases hd:q.den=1
 · have:=ratPrint_int h hd (by omega) w hE
   rwa [h.mag.1,←ftext_int hd,←h.mag.1] at this
 · have:=ratPrint_part h hd (by omega) (by rw [h.den2 hd];omega) w hE
   rwa [cat_two,h.mag.1,←ftext_part hd,←h.mag.1] at this
theorem rprint_f {q:Rat} {b:Bool} {m k:ByteArray} (h:Rq q b m k) (z:Sz 60 q) (w:World) :
  Calls Tryz.prog 117 #[.agg #[.bool b,.string m,.bool false,.string k]] w (RetB w (.string ⟨(ftext q).toArray⟩)):=by
 have hm:=h.mag.2
 have s1:m.size≤60:=by rw [hm];exact mag_size_le z.1
 have hN:bval m=q.num.natAbs:=by rw [hm,bval_mag]
 have l1:=printed_len false z.1
 have l2:=printed_len false z.2
 have hb:=h.mag.1
 by_cases hd:q.den=1
 · obtain rfl:=h.den1 hd
   rw [ftext_int hd,←hb]
   cases b
   · exact rPrint_pi hN rfl (by rw [text_size];omega) (by omega) w
   · have hn:q.num<0:=of_decide_eq_true hb.symm
     rw [printed_neg (by omega),←cat_one]
     exact rPrint_ni hN rfl (by rw [text_size];omega) (by omega) w
 · have hk:=h.den2 hd
   have s2:k.size≤60:=by rw [hk];exact mag_size_le z.2
   have hD:bval k=q.den:=by rw [hk,bval_mag]
   have hk0:k≠⟨#[]⟩:=by rw [hk];exact mag_no_nil q.den_nz
   rw [ftext_part hd,←hb,←cat_two]
   cases b
   · exact rPrint_pf hN hD rfl rfl (by rw [text_size];omega) (by rw [text_size];omega) (by omega) (by omega) hk0 w
   · have hn:q.num<0:=of_decide_eq_true hb.symm
     rw [printed_neg (by omega),←cat_one]
     exact rPrint_nf hN hD rfl rfl (by rw [text_size];omega) (by rw [text_size];omega) (by omega) (by omega) hk0 w

theorem of_pq {w:World} {q:Rat} {b:Bool} {m k:ByteArray} {e0:Int} {e:Ending} {w':World} (hq:Rq q b m k) (h:RetPq w q e0 e w'):RetB w (.tuple #[.agg #[.bool b,.string m,.bool false,.string k],.int .i64 e0]) e w':=by
 obtain ⟨b2,m2,k2,rfl,hq2,hb⟩:=h
 obtain ⟨rfl,rfl,rfl⟩:=hq2.inj hq
 exact ⟨rfl,hb⟩
theorem parse_both (t:ByteArray) (ht:t.size≤4096):∃ (q:Rat) (b:Bool) (m k:ByteArray) (e0:Int),Rq q b m k∧Pv t.data.toList q e0∧(∀ V,Env V→Calls Tryz.prog 221 #[.string t] V (RetB V (.tuple #[.agg #[.bool b,.string m,.bool false,.string k],.int .i64 e0])))∧(∀ V,Calls Tryz.prog 118 #[.string t] V (RetB V (.tuple #[.agg #[.bool b,.string m,.bool false,.string k],.int .i64 e0]))):=by
 obtain ⟨q,e0,hpq⟩:=pv_some t.data.toList
 obtain ⟨b,m,k,hq⟩:=Rq.some_ q
 refine ⟨q,b,m,k,e0,hq,hpq,?_⟩
 unfold Pv at hpq
 by_cases h:∃ r,t.data.toList=45 :: r
 · obtain ⟨r,hr⟩:=h
   have h1:=trim_yes r
   rw [←hr] at h1
   have hl:=congrArg List.length hr
   rw [size_list,List.length_cons] at hl
   rw [h1.1,h1.2] at hpq
   refine ⟨fun V hV=>(ratParse_in t V hV r true h1.1 h1.2 ht (by omega) q e0 hpq).mono fun e w' h=>of_pq hq h,fun V=>(rParse_in t true r (.inl ⟨rfl,?_⟩) ht q e0 hpq V).mono fun e w' h=>of_pq hq h⟩
   rw [←hr]
 · have h2:∀ r,t.data.toList≠45 :: r:=fun r e=>h ⟨r,e⟩
   have h1:=trim_not h2
   rw [h1.1,h1.2] at hpq
   exact ⟨fun V hV=>(ratParse_in t V hV t.data.toList false h1.1 h1.2 ht (by rw [size_list];omega) q e0 hpq).mono fun e w' h=>of_pq hq h,fun V=>(rParse_in t false t.data.toList (.inr ⟨rfl,rfl,h2⟩) ht q e0 hpq V).mono fun e w' h=>of_pq hq h⟩

theorem of_retE {w:World} {z err:Int} {b:Bool} {m:ByteArray} {e:Ending} {w':World} (hz:enc z=.agg #[.bool b,.string m]) (h:RetE w z err e w'):RetB w (.tuple #[.agg #[.bool b,.string m],.int .i64 err]) e w':=by
 obtain ⟨b2,m2,h2,rfl,hb⟩:=h
 have h3:=h2.out.symm.trans hz
 injection h3 with h3
 injection h3 with h3
 injection h3 with h31 h32
 injection h32 with h32 _
 injection h31 with h31
 injection h32 with h32
 subst h31 h32
 exact ⟨rfl,hb⟩
theorem enc_10:enc 10=.agg #[.bool false,.string ⟨#[10]⟩]:=(enc_eq (neg:=false) (s:=⟨#[10]⟩) ⟨fun _=>(by decide:(10:UInt8).toNat≠0),fun h=>by simp [ByteArray.size] at h⟩ (by decide)).symm
theorem nil_of_size {d:ByteArray} (h:d.size=0):d=⟨#[]⟩:=by
 apply ByteArray.ext
 exact Array.eq_empty_of_size_eq_zero h
theorem readInt_any (d:ByteArray) (hd:d.size≤64):∃ (z:Int) (b:Bool) (m:ByteArray),enc z=.agg #[.bool b,.string m]∧z.natAbs<256^30∧(Dgs d.data.toList→z=(val10 d.data.toList:Int))∧∀ w,Env w→Calls Tryz.prog 203 #[.string d] w (RetB w (.agg #[.bool b,.string m])):=by
 by_cases h0:d.size=0
 · obtain rfl:=nil_of_size h0
   exact ⟨0,false,⟨#[]⟩,enc_zero,by decide,fun h=>absurd rfl h.1,fun w _=>readInt_0 w⟩
 · obtain ⟨q,b1,m1,k1,e,hq,hv,hc,-⟩:=parse_both d (by omega)
   have z:=hv.room (by rw [size_list];omega)
   obtain ⟨b2,m2,h2⟩:=enc_form ((10:Int)^d.size)
   have z2:m2.size≤100000:=by
    rw [(enc_parts h2).2]
    refine Nat.le_trans (mag_size_le (k:=64) ?_) (by decide)
    rw [Int.natAbs_pow]
    exact Nat.lt_of_le_of_lt (Nat.pow_le_pow_right (n:=10) (by decide) hd) (by decide)
   have z1:m1.size≤100000:=by rw [hq.mag.2];exact Nat.le_trans (mag_size_le z.1) (by decide)
   refine ⟨q.num,b1,m1,hq.num,z.1,fun h=>?_,fun w hE=>?_⟩
   · rw [(hv.one (digits_pv h)).1];rfl
   · exact readInt_w w rfl hd (by omega) (fun V hb => hc V (hE.next hb)) (fun V _ => known_from 10 _ enc_10 (by decide) (by decide) V)
      (fun V _=>(pow_any 10 d.size (by decide) hd false ⟨#[10]⟩ enc_10 V).mono fun e w' h=>of_retE h2 h)
      (fun V _=>mul_f enc_zero h2 (by decide) z2 enc_zero (by rw [Int.zero_mul]) V) (fun V _=>num_any _ _ _ _ V)
      (fun V _=>add_f enc_zero hq.num (by decide) z1 hq.num (by rw [Int.zero_add]) V)

theorem make_any {x y:Int} {b1 b2:Bool} {m1 m2:ByteArray} (hx:enc x=.agg #[.bool b1,.string m1]) (hy:enc y=.agg #[.bool b2,.string m2]) (sx:x.natAbs<256^30) (sy:y.natAbs<256^30) :
  ∃ (q:Rat) (b:Bool) (m k:ByteArray) (e:Int),Rq q b m k∧Sz 60 q∧(y≠0→q=Rat.divInt x y)∧∀ w,Env w→Calls Tryz.prog 114 #[.agg #[.bool b1,.string m1],.agg #[.bool b2,.string m2]] w (RetB w (.tuple #[.agg #[.bool b,.string m,.bool false,.string k],.int .i64 e])):=by
 have t1:m1.size≤100000:=by rw [(enc_parts hx).2];exact Nat.le_trans (mag_size_le sx) (by decide)
 have t2:m2.size≤100000:=by rw [(enc_parts hy).2];exact Nat.le_trans (mag_size_le sy) (by decide)
 by_cases h0:y=0
 · subst h0
   obtain rfl:m2=⟨#[]⟩:=by rw [(enc_parts hy).2];exact mag_nil
   exact ⟨0,_,_,_,_,Rq.zero,Sz.zero 59,fun h=>absurd rfl h,fun w _=>make_zero b1 b2 m1 hy w⟩
 · obtain ⟨b,m,k,hq⟩:=Rq.some_ (Rat.divInt x y)
   refine ⟨_,b,m,k,0,hq,?_,fun _=>rfl,fun w hE=>make_f hx hy hq h0 t1 t2 w hE⟩
   rw [Rat.divInt_eq_div]
   exact Sz.quo (n:=30) (m:=30) ⟨sx,by show 1<_;decide⟩ ⟨sy,by show 1<_;decide⟩ h0
theorem list_size (l:List UInt8):(⟨l.toArray⟩:ByteArray).size=l.length:=text_size l
theorem neg_any {x:Int} {b:Bool} {m:ByteArray} (hx:enc x=.agg #[.bool b,.string m]):∃ c k,enc (-x)=.agg #[.bool c,.string k]∧∀ w,Calls Tryz.prog 107 #[.agg #[.bool b,.string m]] w (RetB w (.agg #[.bool c,.string k])):=by
 obtain ⟨c,k,hk⟩:=enc_form (-x)
 exact ⟨c,k,hk,fun w=>negate_f hx hk w⟩
theorem readFrac_any (t:ByteArray) (ht:t.size≤64):∃ (q:Rat) (b:Bool) (m k:ByteArray),Rq q b m k∧Sz 60 q∧(∀ q0,t.data.toList=ftext q0→q=q0)∧∀ w,EnvM w→Calls Tryz.prog 165 #[.string t] w (RetB w (.agg #[.bool b,.string m,.bool false,.string k])):=by
 obtain ⟨d,hd⟩:∃ d,Lib.trimPrefix t.data.toList [45]=d:=⟨_,rfl⟩
 obtain ⟨ng,hn⟩:∃ g,Lib.hasPrefix t.data.toList [45]=g:=⟨_,rfl⟩
 obtain ⟨x,y,ok,hc⟩:∃ x y o,Lib.cut d [47]=(x,y,o):=⟨_,_,_,rfl⟩
 have ld:d.length≤64:=by rw [←hd];exact Nat.le_trans (prefix_len _ _) (by rw [size_list];exact ht)
 have lx:x.length≤64:=by have h:=(cut_len d [47]).1;rw [hc] at h;exact Nat.le_trans h ld
 have ly:y.length≤64:=by have h:=(cut_len d [47]).2;rw [hc] at h;exact Nat.le_trans h ld
 have HC:=fun (w V:World) (_:Below w.heap.size w V)=>cutPrefix_f t ⟨#[45]⟩ hd hn V
 have HD:=fun (w:World) (hE:EnvM w) (V:World) (hb:Below w.heap.size w V)=>cut_f ⟨d.toArray⟩ ⟨#[47]⟩ hc (by rw [list_size];omega) V (hE.next hb)
 obtain ⟨z1,b1,m1,e1,s1,v1,c1⟩:=readInt_any ⟨x.toArray⟩ (by rw [list_size];omega)
 have HR:=fun (w:World) (hE:EnvM w) (V:World) (hb:Below w.heap.size w V)=>c1 V (hE.next hb).env.env
 have HI:=fun (w V:World) (_:Below w.heap.size w V)=>known_from 1 (.agg #[.bool false,.string ⟨#[1]⟩]) enc_1 (by decide) (by decide) V
 have key:∀ q0,t.data.toList=ftext q0→d=fbody q0∧ng=decide (q0.num<0):=fun q0 h=>by
  have h1:=ftext_sign q0
  rw [←h] at h1
  exact ⟨hd.symm.trans h1.1,hn.symm.trans h1.2⟩
 have dig:∀ n,val10 (Lib.decDigits n)=n:=fun n=>(dec_digits n).2
 obtain ⟨z3,b3,m3,e3,s3,v3,c3⟩:∃ (z:Int) (b:Bool) (m:ByteArray),enc z=.agg #[.bool b,.string m]∧z.natAbs<256^30∧(z=if ng then -z1 else z1)∧(ng=true→∀ V,Calls Tryz.prog 107 #[.agg #[.bool b1,.string m1]] V (RetB V (.agg #[.bool b,.string m]))):=by
  cases ng
  · exact ⟨z1,b1,m1,e1,s1,rfl,fun h=>by cases h⟩
  · obtain ⟨c,k,hk,hN⟩:=neg_any e1
    exact ⟨-z1,c,k,hk,by rw [Int.natAbs_neg];exact s1,rfl,fun _=>hN⟩
 have num:∀ q0:Rat,ng=decide (q0.num<0)→z1=(q0.num.natAbs:Int)→z3=q0.num:=fun q0 h1 h2=>by
  rw [v3,h1,h2]
  by_cases h:q0.num<0
  · rw [decide_eq_true h,if_pos rfl];omega
  · rw [decide_eq_false h,if_neg (by decide)];omega
 have same:ng=false→b3=b1∧m3=m1:=fun h=>by
  have h4:z3=z1:=by rw [v3,h];rfl
  have h5:=enc_parts e3
  have h6:=enc_parts e1
  rw [h4] at h5
  exact ⟨h5.1.trans h6.1.symm,h5.2.trans h6.2.symm⟩
 cases ok
 · obtain ⟨q,b,m,k,e,hq,zq,hv,hM⟩:=make_any (y:=1) e3 (b2:=false) (m2:=⟨#[1]⟩) enc_1 s3 (by decide)
   refine ⟨q,b,m,k,hq,zq,fun q0 h=>?_,fun w hE=>?_⟩
   · obtain ⟨h1,h2⟩:=key q0 h
     by_cases h3:q0.den=1
     · have h4:fbody q0=Lib.decDigits q0.num.natAbs:=by unfold fbody;rw [if_pos h3]
       have h5:=cut_no (c:=47) (t:=[]) (l:=d) (fun b hb=>digit_no_slash ((dec_digits _).1 b (by rw [h1,h4] at hb;exact hb)))
       rw [hc] at h5
       injection h5 with h5 _
       have h6:x=Lib.decDigits q0.num.natAbs:=by rw [h5,h1,h4]
       rw [hv (by decide),num q0 h2 (by rw [v1 (by rw [h6];exact dec_dgs _),h6];exact congrArg Int.ofNat (dig _))]
       have h7:=Rat.num_divInt_den q0
       rw [h3] at h7
       exact h7
     · have h4:fbody q0=Lib.decDigits q0.num.natAbs++([47]++Lib.decDigits q0.den):=by unfold fbody;rw [if_neg h3];rfl
       have h5:=cut_at (c:=47) (t:=[]) (r:=Lib.decDigits q0.den) (p:=Lib.decDigits q0.num.natAbs) (fun b hb=>digit_no_slash ((dec_digits _).1 b hb))
       rw [←h4,←h1,hc] at h5
       injection h5 with _ h5
       injection h5 with _ h5
       cases h5
   · cases ng
     · obtain ⟨rfl,rfl⟩:=same rfl
       exact readFr_00 w (b2:=false) (m2:=⟨#[]⟩) (b3:=false) (m3:=⟨#[]⟩) (HC w) (HD w hE) (HR w hE) (HI w) (fun V hb=>hM V (hE.next hb).env.env)
     · exact readFr_10 w (b2:=false) (m2:=⟨#[]⟩) (HC w) (HD w hE) (HR w hE) (HI w) (fun V _=>c3 rfl V) (fun V hb=>hM V (hE.next hb).env.env)
 · obtain ⟨z2,b2,m2,e2,s2,v2,c2⟩:=readInt_any ⟨y.toArray⟩ (by rw [list_size];omega)
   have HS:=fun (w:World) (hE:EnvM w) (V:World) (hb:Below w.heap.size w V)=>c2 V (hE.next hb).env.env
   obtain ⟨q,b,m,k,e,hq,zq,hv,hM⟩:=make_any e3 e2 s3 s2
   refine ⟨q,b,m,k,hq,zq,fun q0 h=>?_,fun w hE=>?_⟩
   · obtain ⟨h1,h2⟩:=key q0 h
     by_cases h3:q0.den=1
     · have h4:fbody q0=Lib.decDigits q0.num.natAbs:=by unfold fbody;rw [if_pos h3]
       have h5:=cut_no (c:=47) (t:=[]) (l:=d) (fun b hb=>digit_no_slash ((dec_digits _).1 b (by rw [h1,h4] at hb;exact hb)))
       rw [hc] at h5
       injection h5 with _ h5
       injection h5 with _ h5
       cases h5
     · have h4:fbody q0=Lib.decDigits q0.num.natAbs++([47]++Lib.decDigits q0.den):=by unfold fbody;rw [if_neg h3];rfl
       have h5:=cut_at (c:=47) (t:=[]) (r:=Lib.decDigits q0.den) (p:=Lib.decDigits q0.num.natAbs) (fun b hb=>digit_no_slash ((dec_digits _).1 b hb))
       rw [←h4,←h1,hc] at h5
       injection h5 with h5 h6
       injection h6 with h6 _
       have h7:z2=(q0.den:Int):=by rw [v2 (by rw [h6];exact dec_dgs _),h6];exact congrArg Int.ofNat (dig _)
       have h8:=q0.den_nz
       rw [hv (by omega),num q0 h2 (by rw [v1 (by rw [h5];exact dec_dgs _),h5];exact congrArg Int.ofNat (dig _)),h7]
       exact Rat.num_divInt_den q0
   · cases ng
     · obtain ⟨rfl,rfl⟩:=same rfl
       exact readFr_01 w (b3:=false) (m3:=⟨#[]⟩) (HC w) (HD w hE) (HR w hE) (HI w) (HS w hE) (fun V hb=>hM V (hE.next hb).env.env)
     · exact readFr_11 w (HC w) (HD w hE) (HR w hE) (HI w) (HS w hE) (fun V _=>c3 rfl V) (fun V hb=>hM V (hE.next hb).env.env)

theorem ok_sign {x:Sg.Rl} (ok:x.Ok) (h:x.a=0):decide (x.s<0)=false:=by
 rcases Sg.ok_cases ok with ⟨_,e⟩ | ⟨e,_⟩
 · rw [e];rfl
 · rw [h] at e;exact absurd e (by decide)
theorem rtext_cut (x:Sg.Rl):Lib.cut (rtext x) [115,113,114,116,40]=if x.a=0 then (ftext x.p,[],false) else (ftext x.p++[if x.s<0 then 45 else 43],ftext x.a++[41],true):=by
 unfold rtext
 by_cases h:x.a=0
 · rw [if_pos h,if_pos h]
   exact cut_no no_s
 · rw [if_neg h,if_neg h]
   refine cut_at (t:=[113,114,116,40]) fun b hb=>?_
   rcases List.mem_append.1 hb with hb | hb
   · exact no_s b hb
   · rw [List.mem_singleton.1 hb]
     split<;>decide
theorem sign_cut (x:Sg.Rl):Lib.trimSuffix (Lib.trimSuffix (ftext x.p++[if x.s<0 then 45 else 43]) [45]) [43]=ftext x.p∧Lib.hasSuffix (ftext x.p++[if x.s<0 then 45 else 43]) [45]=decide (x.s<0):=by
 have h0:=(suffix_no (c:=43) (p:=ftext x.p) (fun q e=>no_plus (q:=x.p) 43 (by rw [e];simp) rfl)).1
 by_cases h:x.s<0
 · rw [if_pos h,decide_eq_true h,(suffix_at _ _).1,(suffix_at _ _).2]
   exact ⟨h0,rfl⟩
 · rw [if_neg h,decide_eq_false h,(suffix_no (c:=45) (fun q=>snoc_ne (by decide))).1,(suffix_no (c:=45) (fun q=>snoc_ne (by decide))).2]
   exact ⟨(suffix_at _ _).1,rfl⟩
theorem read_any (s:ByteArray) (hs:s.size≤4096) {x y:List UInt8} {o:Bool} (hc:Lib.cut s.data.toList [115,113,114,116,40]=(x,y,o)) (hp:o=false→s.size≤64) (hq:o=true→(Lib.trimSuffix (Lib.trimSuffix x [45]) [43]).length≤64∧(Lib.trimSuffix y [41]).length≤64) :
  ∃ (p r:Rat) (b1:Bool) (m1 k1:ByteArray) (c1:Bool) (n1 l1:ByteArray) (s1:Bool),Rq p b1 m1 k1∧Rq r c1 n1 l1∧Sz 60 p∧Sz 60 r∧(∀ x0:Sg.Rl,x0.Ok→s.data.toList=rtext x0→p=x0.p∧r=x0.a∧s1=decide (x0.s<0)) ∧
    ∀ w,EnvM w→Calls Tryz.prog 116 #[.string s] w (RetB w (.agg #[.bool b1,.string m1,.bool false,.string k1,.bool c1,.string n1,.bool false,.string l1,.bool s1])):=by
 have HC:=fun (w:World) (hE:EnvM w) (V:World) (hb:Below w.heap.size w V)=>cut_f s ⟨#[115,113,114,116,40]⟩ hc hs V (hE.next hb)
 have lx:x.length≤4096:=by have h:=(cut_len s.data.toList [115,113,114,116,40]).1;rw [hc,size_list] at h;exact Nat.le_trans h hs
 have ly:y.length≤4096:=by have h:=(cut_len s.data.toList [115,113,114,116,40]).2;rw [hc,size_list] at h;exact Nat.le_trans h hs
 cases o
 · obtain ⟨p,b1,m1,k1,h1,z1,v1,c1⟩:=readFrac_any s (hp rfl)
   refine ⟨p,0,b1,m1,k1,false,⟨#[]⟩,⟨#[]⟩,false,h1,Rq.zero,z1,Sz.zero 59,fun x0 ok h=>?_,fun w hE=>read_rat w (HC w hE) (fun V hb=>c1 V (hE.next hb)) (fun V _=>fromRat_any _ _ _ V)⟩
   have h2:=rtext_cut x0
   rw [←h,hc] at h2
   by_cases h0:x0.a=0
   · refine ⟨v1 x0.p ?_,h0.symm,(ok_sign ok h0).symm⟩
     rw [h]
     unfold rtext
     rw [if_pos h0]
   · rw [if_neg h0] at h2
     injection h2 with _ h2
     injection h2 with _ h2
     cases h2
 · obtain ⟨hu,hv⟩:=hq rfl
   obtain ⟨x2,hx2⟩:∃ l,Lib.trimSuffix x [45]=l:=⟨_,rfl⟩
   obtain ⟨n,hn⟩:∃ n,Lib.hasSuffix x [45]=n:=⟨_,rfl⟩
   rw [hx2] at hu
   obtain ⟨u,hu2⟩:∃ l,Lib.trimSuffix x2 [43]=l:=⟨_,rfl⟩
   obtain ⟨v,hv2⟩:∃ l,Lib.trimSuffix y [41]=l:=⟨_,rfl⟩
   rw [hu2] at hu
   rw [hv2] at hv
   have lx2:x2.length≤4096:=by rw [←hx2];exact Nat.le_trans (suffix_len _ _) lx
   obtain ⟨p,b1,m1,k1,h1,z1,v1,c1⟩:=readFrac_any ⟨u.toArray⟩ (by rw [list_size];omega)
   obtain ⟨r,b2,m2,k2,h2,z2,v2,c2⟩:=readFrac_any ⟨v.toArray⟩ (by rw [list_size];omega)
   refine ⟨p,r,b1,m1,k1,b2,m2,k2,n,h1,h2,z1,z2,fun x0 ok h=>?_,fun w hE=>read_irr w (HC w hE) (fun V _=>cutSuffix_f ⟨x.toArray⟩ ⟨#[45]⟩ hx2 hn (by rw [list_size];omega) V) (fun V _=>trimSuffix_f ⟨x2.toArray⟩ ⟨#[43]⟩ hu2 (by rw [list_size];omega) V) (fun V hb=>c1 V (hE.next hb)) (fun V _=>trimSuffix_f ⟨y.toArray⟩ ⟨#[41]⟩ hv2 (by rw [list_size];omega) V) (fun V hb=>c2 V (hE.next hb))⟩
   have h3:=rtext_cut x0
   rw [←h,hc] at h3
   by_cases h0:x0.a=0
   · rw [if_pos h0] at h3
     injection h3 with _ h3
     injection h3 with _ h3
     cases h3
   · rw [if_neg h0] at h3
     injection h3 with h3 h4
     injection h4 with h4 _
     have h5:=sign_cut x0
     rw [←h3,hx2,hu2,hn] at h5
     have h6:=(suffix_at (ftext x0.a) [41]).1
     rw [←h4,hv2] at h6
     exact ⟨v1 _ h5.1,v2 _ h6,h5.2⟩
end Go.Proofs.YtpnokfgplnmjpaaGreatDoor


namespace Go.Proofs.YtpnokfgplnmjpaaGreatDoor
open Go.RowKit
attribute [local go_sem ↓] Go.wp_at_zero Go.wp_at_succ

set_option maxHeartbeats 8000000 in
set_option maxRecDepth 100000 in
theorem fparse_a1 (w:World) {s:ByteArray} {K:Nat} {b1:Bool} {m1 k1:ByteArray} {e:Int} (he:¬e=0) (HB:Hid (∀ k:Nat,k<K→∃ x:Nat,(∀ h,(s[k]'h).toNat=x)∧((x:Int)==115)=false∧¬(x:Int)=115∧(k:Int)<(s.size:Int)∧((k:Int)==(s.size:Int))=false)) (hK:K=s.size) (hs:s.size≤4096) (HP:∀ V,Below w.heap.size w V→Calls Tryz.prog 118 #[.string s] V (RetB V (.tuple #[.agg #[.bool b1,.string m1,.bool false,.string k1],.int .i64 e]))) (HO:∀ V,Below w.heap.size w V→Calls Tryz.prog 20 #[.agg #[.bool b1,.string m1,.bool false,.string k1]] V (RetB V (.agg #[.bool b1,.string m1,.bool false,.string k1,.bool false,.string ⟨#[]⟩,.bool false,.string ⟨#[]⟩,.bool false]))) :
  Calls Tryz.prog 66 #[.string s] w (RetB w (.tuple #[.agg #[.bool b1,.string m1,.bool false,.string k1,.bool false,.string ⟨#[]⟩,.bool false,.string ⟨#[]⟩,.bool false],.bool false])):=by
 have e0:((s.size:Int)==(s.size:Int))=true:=by simp
 have he2:(e==0)=false:=by simpa using he
 have C1:=Lib.hid HP
 have C2:=Lib.hid HO
 have Z1:Hid (∀ {p:Prop} (h:p:=by ((fail_if_success (fail_if_success (with_reducible refine wp_loop_rounds 1 ?_)));clear F;(go_loopw [4] (fun iv wr=>∃ k:Nat,k≤K∧iv=.int .i64 (k:Int)∧Sb w [(w.heap.size,#[.bool false,.string ⟨#[]⟩,.bool false,.string ⟨#[]⟩,.bool false,.string ⟨#[]⟩,.bool false,.string ⟨#[]⟩,.bool false],27)] [] wr) (fun iv _=>K-(intOf iv).toNat));(case atStart=>exact ⟨0,Nat.zero_le _,rfl,X.out⟩);(case round=>obtain ⟨k,hk,rfl,hX⟩:=hrel;replace X:=Lib.hid hX;clear hX;replace F:=X.out.facts;simp only [Facts,cellsAt,List.take_succ_cons,List.take_zero,Nat.reduceAdd,and_true,List.set_cons_succ,List.set_cons_zero,List.cons_append,List.nil_append] at F;by_cases hlt:k<K;(obtain ⟨x,hx,hx1,hx2,hx3,hx4⟩:=HB.out k hlt;exact wk);(obtain rfl:k=K:=Nat.le_antisymm hk (Nat.le_of_not_lt hlt);subst hK;exact wk));all_goals exact wk)),p):=@fun _ h=>h
 have Z2:Hid (∀ {p:Prop} (h:p:=by ((go_roundw);(case rel=>exact ⟨k+1,hlt,by go_num,X.out⟩);(case measure=>(simp [intOf]<;>first | omega | exact Nat.sub_lt_sub_left hlt (Nat.lt_succ_self k)));all_goals exact wk)),p):=@fun _ h=>h
 have RS:=Lib.hid Tryz.results66
 clear HP HO 
 go_enter Tryz.func66,Tryz.ntmps66
 exact wk0

set_option maxHeartbeats 8000000 in
set_option maxRecDepth 100000 in
theorem fparse_a2 (w:World) {s:ByteArray} {K:Nat} {b1:Bool} {m1 k1:ByteArray} {t:ByteArray} (hne:t≠s) (HB:Hid (∀ k:Nat,k<K→∃ x:Nat,(∀ h,(s[k]'h).toNat=x)∧((x:Int)==115)=false∧¬(x:Int)=115∧(k:Int)<(s.size:Int)∧((k:Int)==(s.size:Int))=false)) (hK:K=s.size) (hs:s.size≤4096) (HP:∀ V,Below w.heap.size w V→Calls Tryz.prog 118 #[.string s] V (RetB V (.tuple #[.agg #[.bool b1,.string m1,.bool false,.string k1],.int .i64 0]))) (HO:∀ V,Below w.heap.size w V→Calls Tryz.prog 20 #[.agg #[.bool b1,.string m1,.bool false,.string k1]] V (RetB V (.agg #[.bool b1,.string m1,.bool false,.string k1,.bool false,.string ⟨#[]⟩,.bool false,.string ⟨#[]⟩,.bool false]))) (HQ:∀ V,Below w.heap.size w V→Calls Tryz.prog 117 #[.agg #[.bool b1,.string m1,.bool false,.string k1]] V (RetB V (.string t))) :
  Calls Tryz.prog 66 #[.string s] w (RetB w (.tuple #[.agg #[.bool b1,.string m1,.bool false,.string k1,.bool false,.string ⟨#[]⟩,.bool false,.string ⟨#[]⟩,.bool false],.bool false])):=by
 have e0:((s.size:Int)==(s.size:Int))=true:=by simp
 obtain ⟨e1,e2⟩:=str_ne hne
 clear hne
 have C1:=Lib.hid HP
 have C2:=Lib.hid HO
 have C3:=Lib.hid HQ
 have Z1:Hid (∀ {p:Prop} (h:p:=by ((fail_if_success (fail_if_success (with_reducible refine wp_loop_rounds 1 ?_)));clear F;(go_loopw [4] (fun iv wr=>∃ k:Nat,k≤K∧iv=.int .i64 (k:Int)∧Sb w [(w.heap.size,#[.bool false,.string ⟨#[]⟩,.bool false,.string ⟨#[]⟩,.bool false,.string ⟨#[]⟩,.bool false,.string ⟨#[]⟩,.bool false],27)] [] wr) (fun iv _=>K-(intOf iv).toNat));(case atStart=>exact ⟨0,Nat.zero_le _,rfl,X.out⟩);(case round=>obtain ⟨k,hk,rfl,hX⟩:=hrel;replace X:=Lib.hid hX;clear hX;replace F:=X.out.facts;simp only [Facts,cellsAt,List.take_succ_cons,List.take_zero,Nat.reduceAdd,and_true,List.set_cons_succ,List.set_cons_zero,List.cons_append,List.nil_append] at F;by_cases hlt:k<K;(obtain ⟨x,hx,hx1,hx2,hx3,hx4⟩:=HB.out k hlt;exact wk);(obtain rfl:k=K:=Nat.le_antisymm hk (Nat.le_of_not_lt hlt);subst hK;exact wk));all_goals exact wk)),p):=@fun _ h=>h
 have Z2:Hid (∀ {p:Prop} (h:p:=by ((go_roundw);(case rel=>exact ⟨k+1,hlt,by go_num,X.out⟩);(case measure=>(simp [intOf]<;>first | omega | exact Nat.sub_lt_sub_left hlt (Nat.lt_succ_self k)));all_goals exact wk)),p):=@fun _ h=>h
 have RS:=Lib.hid Tryz.results66
 clear HP HO HQ 
 go_enter Tryz.func66,Tryz.ntmps66
 exact wk0

set_option maxHeartbeats 8000000 in
set_option maxRecDepth 100000 in
theorem fparse_a3 (w:World) {s:ByteArray} {K:Nat} {b1:Bool} {m1 k1:ByteArray} (HB:Hid (∀ k:Nat,k<K→∃ x:Nat,(∀ h,(s[k]'h).toNat=x)∧((x:Int)==115)=false∧¬(x:Int)=115∧(k:Int)<(s.size:Int)∧((k:Int)==(s.size:Int))=false)) (hK:K=s.size) (hs:s.size≤4096) (HP:∀ V,Below w.heap.size w V→Calls Tryz.prog 118 #[.string s] V (RetB V (.tuple #[.agg #[.bool b1,.string m1,.bool false,.string k1],.int .i64 0]))) (HO:∀ V,Below w.heap.size w V→Calls Tryz.prog 20 #[.agg #[.bool b1,.string m1,.bool false,.string k1]] V (RetB V (.agg #[.bool b1,.string m1,.bool false,.string k1,.bool false,.string ⟨#[]⟩,.bool false,.string ⟨#[]⟩,.bool false]))) (HQ:∀ V,Below w.heap.size w V→Calls Tryz.prog 117 #[.agg #[.bool b1,.string m1,.bool false,.string k1]] V (RetB V (.string s))) :
  Calls Tryz.prog 66 #[.string s] w (RetB w (.tuple #[.agg #[.bool b1,.string m1,.bool false,.string k1,.bool false,.string ⟨#[]⟩,.bool false,.string ⟨#[]⟩,.bool false],.bool true])):=by
 have e0:((s.size:Int)==(s.size:Int))=true:=by simp
 have C1:=Lib.hid HP
 have C2:=Lib.hid HO
 have C3:=Lib.hid HQ
 have Z1:Hid (∀ {p:Prop} (h:p:=by ((fail_if_success (fail_if_success (with_reducible refine wp_loop_rounds 1 ?_)));clear F;(go_loopw [4] (fun iv wr=>∃ k:Nat,k≤K∧iv=.int .i64 (k:Int)∧Sb w [(w.heap.size,#[.bool false,.string ⟨#[]⟩,.bool false,.string ⟨#[]⟩,.bool false,.string ⟨#[]⟩,.bool false,.string ⟨#[]⟩,.bool false],27)] [] wr) (fun iv _=>K-(intOf iv).toNat));(case atStart=>exact ⟨0,Nat.zero_le _,rfl,X.out⟩);(case round=>obtain ⟨k,hk,rfl,hX⟩:=hrel;replace X:=Lib.hid hX;clear hX;replace F:=X.out.facts;simp only [Facts,cellsAt,List.take_succ_cons,List.take_zero,Nat.reduceAdd,and_true,List.set_cons_succ,List.set_cons_zero,List.cons_append,List.nil_append] at F;by_cases hlt:k<K;(obtain ⟨x,hx,hx1,hx2,hx3,hx4⟩:=HB.out k hlt;exact wk);(obtain rfl:k=K:=Nat.le_antisymm hk (Nat.le_of_not_lt hlt);subst hK;exact wk));all_goals exact wk)),p):=@fun _ h=>h
 have Z2:Hid (∀ {p:Prop} (h:p:=by ((go_roundw);(case rel=>exact ⟨k+1,hlt,by go_num,X.out⟩);(case measure=>(simp [intOf]<;>first | omega | exact Nat.sub_lt_sub_left hlt (Nat.lt_succ_self k)));all_goals exact wk)),p):=@fun _ h=>h
 have RS:=Lib.hid Tryz.results66
 clear HP HO HQ 
 go_enter Tryz.func66,Tryz.ntmps66
 exact wk0
end Go.Proofs.YtpnokfgplnmjpaaGreatDoor


namespace Go.Proofs.YtpnokfgplnmjpaaGreatDoor
open Go.RowKit
attribute [local go_sem ↓] Go.wp_at_zero Go.wp_at_succ

set_option maxHeartbeats 8000000 in
set_option maxRecDepth 100000 in
theorem fparse_b1 (w:World) {s:ByteArray} {K:Nat}  (HB:Hid (∀ k:Nat,k<K→∃ x:Nat,(∀ h,(s[k]'h).toNat=x)∧((x:Int)==115)=false∧¬(x:Int)=115∧(k:Int)<(s.size:Int)∧((k:Int)==(s.size:Int))=false)) (hK1:(K:Int)<(s.size:Int)) (hs:s.size≤4096) (HX:∀ h,(s[K]'h).toNat=115) (h1:(K:Int)<2)  :
  Calls Tryz.prog 66 #[.string s] w (RetB w (.tuple #[.agg #[.bool false,.string ⟨#[]⟩,.bool false,.string ⟨#[]⟩,.bool false,.string ⟨#[]⟩,.bool false,.string ⟨#[]⟩,.bool false],.bool false])):=by
 have e0:((K:Int)==(s.size:Int))=false:=by simpa using (show ¬(K:Int)=(s.size:Int) by omega)
 have e7:IntKind.i64.wrap ((K:Int)+7)=(K:Int)+7:=IntWalk.i64_in _ (by omega)
 have e5:IntKind.i64.wrap ((K:Int)+5)=(K:Int)+5:=IntWalk.i64_in _ (by omega)
 have Z1:Hid (∀ {p:Prop} (h:p:=by ((fail_if_success (fail_if_success (with_reducible refine wp_loop_rounds 1 ?_)));clear F;(go_loopw [4] (fun iv wr=>∃ k:Nat,k≤K∧iv=.int .i64 (k:Int)∧Sb w [(w.heap.size,#[.bool false,.string ⟨#[]⟩,.bool false,.string ⟨#[]⟩,.bool false,.string ⟨#[]⟩,.bool false,.string ⟨#[]⟩,.bool false],27)] [] wr) (fun iv _=>K-(intOf iv).toNat));(case atStart=>exact ⟨0,Nat.zero_le _,rfl,X.out⟩);(case round=>obtain ⟨k,hk,rfl,hX⟩:=hrel;replace X:=Lib.hid hX;clear hX;replace F:=X.out.facts;simp only [Facts,cellsAt,List.take_succ_cons,List.take_zero,Nat.reduceAdd,and_true,List.set_cons_succ,List.set_cons_zero,List.cons_append,List.nil_append] at F;by_cases hlt:k<K;(obtain ⟨x,hx,hx1,hx2,hx3,hx4⟩:=HB.out k hlt;exact wk);(obtain rfl:k=K:=Nat.le_antisymm hk (Nat.le_of_not_lt hlt);skip;exact wk));all_goals exact wk)),p):=@fun _ h=>h
 have Z2:Hid (∀ {p:Prop} (h:p:=by ((go_roundw);(case rel=>exact ⟨k+1,hlt,by go_num,X.out⟩);(case measure=>(simp [intOf]<;>first | omega | exact Nat.sub_lt_sub_left hlt (Nat.lt_succ_self k)));all_goals exact wk)),p):=@fun _ h=>h
 have RS:=Lib.hid Tryz.results66
 go_enter Tryz.func66,Tryz.ntmps66
 exact wk0

set_option maxHeartbeats 8000000 in
set_option maxRecDepth 100000 in
theorem fparse_b2 (w:World) {s:ByteArray} {K:Nat}  (HB:Hid (∀ k:Nat,k<K→∃ x:Nat,(∀ h,(s[k]'h).toNat=x)∧((x:Int)==115)=false∧¬(x:Int)=115∧(k:Int)<(s.size:Int)∧((k:Int)==(s.size:Int))=false)) (hK1:(K:Int)<(s.size:Int)) (hs:s.size≤4096) (HX:∀ h,(s[K]'h).toNat=115) (h1:¬(K:Int)<2) (h2:(s.size:Int)<(K:Int)+7)  :
  Calls Tryz.prog 66 #[.string s] w (RetB w (.tuple #[.agg #[.bool false,.string ⟨#[]⟩,.bool false,.string ⟨#[]⟩,.bool false,.string ⟨#[]⟩,.bool false,.string ⟨#[]⟩,.bool false],.bool false])):=by
 have e0:((K:Int)==(s.size:Int))=false:=by simpa using (show ¬(K:Int)=(s.size:Int) by omega)
 have e7:IntKind.i64.wrap ((K:Int)+7)=(K:Int)+7:=IntWalk.i64_in _ (by omega)
 have e5:IntKind.i64.wrap ((K:Int)+5)=(K:Int)+5:=IntWalk.i64_in _ (by omega)
 have Z1:Hid (∀ {p:Prop} (h:p:=by ((fail_if_success (fail_if_success (with_reducible refine wp_loop_rounds 1 ?_)));clear F;(go_loopw [4] (fun iv wr=>∃ k:Nat,k≤K∧iv=.int .i64 (k:Int)∧Sb w [(w.heap.size,#[.bool false,.string ⟨#[]⟩,.bool false,.string ⟨#[]⟩,.bool false,.string ⟨#[]⟩,.bool false,.string ⟨#[]⟩,.bool false],27)] [] wr) (fun iv _=>K-(intOf iv).toNat));(case atStart=>exact ⟨0,Nat.zero_le _,rfl,X.out⟩);(case round=>obtain ⟨k,hk,rfl,hX⟩:=hrel;replace X:=Lib.hid hX;clear hX;replace F:=X.out.facts;simp only [Facts,cellsAt,List.take_succ_cons,List.take_zero,Nat.reduceAdd,and_true,List.set_cons_succ,List.set_cons_zero,List.cons_append,List.nil_append] at F;by_cases hlt:k<K;(obtain ⟨x,hx,hx1,hx2,hx3,hx4⟩:=HB.out k hlt;exact wk);(obtain rfl:k=K:=Nat.le_antisymm hk (Nat.le_of_not_lt hlt);skip;exact wk));all_goals exact wk)),p):=@fun _ h=>h
 have Z2:Hid (∀ {p:Prop} (h:p:=by ((go_roundw);(case rel=>exact ⟨k+1,hlt,by go_num,X.out⟩);(case measure=>(simp [intOf]<;>first | omega | exact Nat.sub_lt_sub_left hlt (Nat.lt_succ_self k)));all_goals exact wk)),p):=@fun _ h=>h
 have RS:=Lib.hid Tryz.results66
 go_enter Tryz.func66,Tryz.ntmps66
 exact wk0

set_option maxHeartbeats 8000000 in
set_option maxRecDepth 100000 in
theorem fparse_b3 (w:World) {s:ByteArray} {K:Nat} {q:ByteArray} {S1:Nat} (HB:Hid (∀ k:Nat,k<K→∃ x:Nat,(∀ h,(s[k]'h).toNat=x)∧((x:Int)==115)=false∧¬(x:Int)=115∧(k:Int)<(s.size:Int)∧((k:Int)==(s.size:Int))=false)) (hK1:(K:Int)<(s.size:Int)) (hs:s.size≤4096) (HX:∀ h,(s[K]'h).toNat=115) (h1:¬(K:Int)<2) (h2:¬(s.size:Int)<(K:Int)+7) (hS1:S1+1=s.size) (hq:s.extract K (K+5)=q) (hne:q≠⟨#[115,113,114,116,40]⟩)  :
  Calls Tryz.prog 66 #[.string s] w (RetB w (.tuple #[.agg #[.bool false,.string ⟨#[]⟩,.bool false,.string ⟨#[]⟩,.bool false,.string ⟨#[]⟩,.bool false,.string ⟨#[]⟩,.bool false],.bool false])):=by
 have e0:((K:Int)==(s.size:Int))=false:=by simpa using (show ¬(K:Int)=(s.size:Int) by omega)
 have e7:IntKind.i64.wrap ((K:Int)+7)=(K:Int)+7:=IntWalk.i64_in _ (by omega)
 have e5:IntKind.i64.wrap ((K:Int)+5)=(K:Int)+5:=IntWalk.i64_in _ (by omega)
 have e6:((K:Int)+5).toNat=K+5:=by omega
 have e8:IntKind.i64.wrap ((s.size:Int)-1)=(S1:Int):=by rw [IntWalk.i64_in _ (by omega)];omega
 have g1:(q.data.toList==[115,113,114,116,40])=false:=(str_ne hne).1
 have g2:(q.toList==[115,113,114,116,40])=false:=by rw [ByteArray.toList_eq];exact g1
 clear hne
 have Z1:Hid (∀ {p:Prop} (h:p:=by ((fail_if_success (fail_if_success (with_reducible refine wp_loop_rounds 1 ?_)));clear F;(go_loopw [4] (fun iv wr=>∃ k:Nat,k≤K∧iv=.int .i64 (k:Int)∧Sb w [(w.heap.size,#[.bool false,.string ⟨#[]⟩,.bool false,.string ⟨#[]⟩,.bool false,.string ⟨#[]⟩,.bool false,.string ⟨#[]⟩,.bool false],27)] [] wr) (fun iv _=>K-(intOf iv).toNat));(case atStart=>exact ⟨0,Nat.zero_le _,rfl,X.out⟩);(case round=>obtain ⟨k,hk,rfl,hX⟩:=hrel;replace X:=Lib.hid hX;clear hX;replace F:=X.out.facts;simp only [Facts,cellsAt,List.take_succ_cons,List.take_zero,Nat.reduceAdd,and_true,List.set_cons_succ,List.set_cons_zero,List.cons_append,List.nil_append] at F;by_cases hlt:k<K;(obtain ⟨x,hx,hx1,hx2,hx3,hx4⟩:=HB.out k hlt;exact wk);(obtain rfl:k=K:=Nat.le_antisymm hk (Nat.le_of_not_lt hlt);skip;exact wk));all_goals exact wk)),p):=@fun _ h=>h
 have Z2:Hid (∀ {p:Prop} (h:p:=by ((go_roundw);(case rel=>exact ⟨k+1,hlt,by go_num,X.out⟩);(case measure=>(simp [intOf]<;>first | omega | exact Nat.sub_lt_sub_left hlt (Nat.lt_succ_self k)));all_goals exact wk)),p):=@fun _ h=>h
 have RS:=Lib.hid Tryz.results66
 go_enter Tryz.func66,Tryz.ntmps66
 exact wk0

set_option maxHeartbeats 8000000 in
set_option maxRecDepth 100000 in
theorem fparse_b4 (w:World) {s:ByteArray} {K:Nat} {S1 y:Nat} (HB:Hid (∀ k:Nat,k<K→∃ x:Nat,(∀ h,(s[k]'h).toNat=x)∧((x:Int)==115)=false∧¬(x:Int)=115∧(k:Int)<(s.size:Int)∧((k:Int)==(s.size:Int))=false)) (hK1:(K:Int)<(s.size:Int)) (hs:s.size≤4096) (HX:∀ h,(s[K]'h).toNat=115) (h1:¬(K:Int)<2) (h2:¬(s.size:Int)<(K:Int)+7) (hS1:S1+1=s.size) (hq:s.extract K (K+5)=⟨#[115,113,114,116,40]⟩) (hy:∀ h,(s[S1]'h).toNat=y) (hy1:¬(y:Int)=41)  :
  Calls Tryz.prog 66 #[.string s] w (RetB w (.tuple #[.agg #[.bool false,.string ⟨#[]⟩,.bool false,.string ⟨#[]⟩,.bool false,.string ⟨#[]⟩,.bool false,.string ⟨#[]⟩,.bool false],.bool false])):=by
 have e0:((K:Int)==(s.size:Int))=false:=by simpa using (show ¬(K:Int)=(s.size:Int) by omega)
 have e7:IntKind.i64.wrap ((K:Int)+7)=(K:Int)+7:=IntWalk.i64_in _ (by omega)
 have e5:IntKind.i64.wrap ((K:Int)+5)=(K:Int)+5:=IntWalk.i64_in _ (by omega)
 have e6:((K:Int)+5).toNat=K+5:=by omega
 have e8:IntKind.i64.wrap ((s.size:Int)-1)=(S1:Int):=by rw [IntWalk.i64_in _ (by omega)];omega
 have hy2:((y:Int)==41)=false:=by simpa using hy1
 have Z1:Hid (∀ {p:Prop} (h:p:=by ((fail_if_success (fail_if_success (with_reducible refine wp_loop_rounds 1 ?_)));clear F;(go_loopw [4] (fun iv wr=>∃ k:Nat,k≤K∧iv=.int .i64 (k:Int)∧Sb w [(w.heap.size,#[.bool false,.string ⟨#[]⟩,.bool false,.string ⟨#[]⟩,.bool false,.string ⟨#[]⟩,.bool false,.string ⟨#[]⟩,.bool false],27)] [] wr) (fun iv _=>K-(intOf iv).toNat));(case atStart=>exact ⟨0,Nat.zero_le _,rfl,X.out⟩);(case round=>obtain ⟨k,hk,rfl,hX⟩:=hrel;replace X:=Lib.hid hX;clear hX;replace F:=X.out.facts;simp only [Facts,cellsAt,List.take_succ_cons,List.take_zero,Nat.reduceAdd,and_true,List.set_cons_succ,List.set_cons_zero,List.cons_append,List.nil_append] at F;by_cases hlt:k<K;(obtain ⟨x,hx,hx1,hx2,hx3,hx4⟩:=HB.out k hlt;exact wk);(obtain rfl:k=K:=Nat.le_antisymm hk (Nat.le_of_not_lt hlt);skip;exact wk));all_goals exact wk)),p):=@fun _ h=>h
 have Z2:Hid (∀ {p:Prop} (h:p:=by ((go_roundw);(case rel=>exact ⟨k+1,hlt,by go_num,X.out⟩);(case measure=>(simp [intOf]<;>first | omega | exact Nat.sub_lt_sub_left hlt (Nat.lt_succ_self k)));all_goals exact wk)),p):=@fun _ h=>h
 have RS:=Lib.hid Tryz.results66
 go_enter Tryz.func66,Tryz.ntmps66
 exact wk0

set_option maxHeartbeats 8000000 in
set_option maxRecDepth 100000 in
theorem fparse_c1 (w:World) {s:ByteArray} {K:Nat} {u v:ByteArray} {S1 K1 z:Nat} {n:Bool} {b1 b2:Bool} {m1 k1 m2 k2:ByteArray} {e f:Int} (he:¬e=0) (HB:Hid (∀ k:Nat,k<K→∃ x:Nat,(∀ h,(s[k]'h).toNat=x)∧((x:Int)==115)=false∧¬(x:Int)=115∧(k:Int)<(s.size:Int)∧((k:Int)==(s.size:Int))=false)) (hK1:(K:Int)<(s.size:Int)) (hs:s.size≤4096) (HX:∀ h,(s[K]'h).toNat=115) (h1:¬(K:Int)<2) (h2:¬(s.size:Int)<(K:Int)+7) (hS1:S1+1=s.size) (hq:s.extract K (K+5)=⟨#[115,113,114,116,40]⟩) (hy:∀ h,(s[S1]'h).toNat=41) (hK2:K1+1=K) (hu:s.extract 0 K1=u) (hv:s.extract (K+5) S1=v) (hz:∀ h,(s[K1]'h).toNat=z) (hn:((z:Int)==45)=n) (HP:∀ V,Below w.heap.size w V→Calls Tryz.prog 118 #[.string u] V (RetB V (.tuple #[.agg #[.bool b1,.string m1,.bool false,.string k1],.int .i64 e]))) (HR:∀ V,Below w.heap.size w V→Calls Tryz.prog 118 #[.string v] V (RetB V (.tuple #[.agg #[.bool b2,.string m2,.bool false,.string k2],.int .i64 f]))) :
  Calls Tryz.prog 66 #[.string s] w (RetB w (.tuple #[.agg #[.bool false,.string ⟨#[]⟩,.bool false,.string ⟨#[]⟩,.bool false,.string ⟨#[]⟩,.bool false,.string ⟨#[]⟩,.bool false],.bool false])):=by
 have e0:((K:Int)==(s.size:Int))=false:=by simpa using (show ¬(K:Int)=(s.size:Int) by omega)
 have e7:IntKind.i64.wrap ((K:Int)+7)=(K:Int)+7:=IntWalk.i64_in _ (by omega)
 have e5:IntKind.i64.wrap ((K:Int)+5)=(K:Int)+5:=IntWalk.i64_in _ (by omega)
 have e6:((K:Int)+5).toNat=K+5:=by omega
 have e8:IntKind.i64.wrap ((s.size:Int)-1)=(S1:Int):=by rw [IntWalk.i64_in _ (by omega)];omega
 have e9:IntKind.i64.wrap ((K:Int)-1)=(K1:Int):=by rw [IntWalk.i64_in _ (by omega)];omega
 have hl1:(K1:Int)≤(s.size:Int):=by omega
 have hl2:(K:Int)+5≤(S1:Int):=by omega
 have hl3:(S1:Int)≤(s.size:Int):=by omega
 have hl4:(K1:Int)<(s.size:Int):=by omega
 have he2:(e==0)=false:=by simpa using he
 have C1:=Lib.hid HP
 have C2:=Lib.hid HR
 have Z1:Hid (∀ {p:Prop} (h:p:=by ((fail_if_success (fail_if_success (with_reducible refine wp_loop_rounds 1 ?_)));clear F;(go_loopw [4] (fun iv wr=>∃ k:Nat,k≤K∧iv=.int .i64 (k:Int)∧Sb w [(w.heap.size,#[.bool false,.string ⟨#[]⟩,.bool false,.string ⟨#[]⟩,.bool false,.string ⟨#[]⟩,.bool false,.string ⟨#[]⟩,.bool false],27)] [] wr) (fun iv _=>K-(intOf iv).toNat));(case atStart=>exact ⟨0,Nat.zero_le _,rfl,X.out⟩);(case round=>obtain ⟨k,hk,rfl,hX⟩:=hrel;replace X:=Lib.hid hX;clear hX;replace F:=X.out.facts;simp only [Facts,cellsAt,List.take_succ_cons,List.take_zero,Nat.reduceAdd,and_true,List.set_cons_succ,List.set_cons_zero,List.cons_append,List.nil_append] at F;by_cases hlt:k<K;(obtain ⟨x,hx,hx1,hx2,hx3,hx4⟩:=HB.out k hlt;exact wk);(obtain rfl:k=K:=Nat.le_antisymm hk (Nat.le_of_not_lt hlt);skip;exact wk));all_goals exact wk)),p):=@fun _ h=>h
 have Z2:Hid (∀ {p:Prop} (h:p:=by ((go_roundw);(case rel=>exact ⟨k+1,hlt,by go_num,X.out⟩);(case measure=>(simp [intOf]<;>first | omega | exact Nat.sub_lt_sub_left hlt (Nat.lt_succ_self k)));all_goals exact wk)),p):=@fun _ h=>h
 have RS:=Lib.hid Tryz.results66
 clear HP HR 
 go_enter Tryz.func66,Tryz.ntmps66
 exact wk0

set_option maxHeartbeats 8000000 in
set_option maxRecDepth 100000 in
theorem fparse_c2 (w:World) {s:ByteArray} {K:Nat} {u v:ByteArray} {S1 K1 z:Nat} {n:Bool} {b1 b2:Bool} {m1 k1 m2 k2:ByteArray} {e f:Int} (hf:¬f=0) (HB:Hid (∀ k:Nat,k<K→∃ x:Nat,(∀ h,(s[k]'h).toNat=x)∧((x:Int)==115)=false∧¬(x:Int)=115∧(k:Int)<(s.size:Int)∧((k:Int)==(s.size:Int))=false)) (hK1:(K:Int)<(s.size:Int)) (hs:s.size≤4096) (HX:∀ h,(s[K]'h).toNat=115) (h1:¬(K:Int)<2) (h2:¬(s.size:Int)<(K:Int)+7) (hS1:S1+1=s.size) (hq:s.extract K (K+5)=⟨#[115,113,114,116,40]⟩) (hy:∀ h,(s[S1]'h).toNat=41) (hK2:K1+1=K) (hu:s.extract 0 K1=u) (hv:s.extract (K+5) S1=v) (hz:∀ h,(s[K1]'h).toNat=z) (hn:((z:Int)==45)=n) (HP:∀ V,Below w.heap.size w V→Calls Tryz.prog 118 #[.string u] V (RetB V (.tuple #[.agg #[.bool b1,.string m1,.bool false,.string k1],.int .i64 0]))) (HR:∀ V,Below w.heap.size w V→Calls Tryz.prog 118 #[.string v] V (RetB V (.tuple #[.agg #[.bool b2,.string m2,.bool false,.string k2],.int .i64 f]))) :
  Calls Tryz.prog 66 #[.string s] w (RetB w (.tuple #[.agg #[.bool false,.string ⟨#[]⟩,.bool false,.string ⟨#[]⟩,.bool false,.string ⟨#[]⟩,.bool false,.string ⟨#[]⟩,.bool false],.bool false])):=by
 have e0:((K:Int)==(s.size:Int))=false:=by simpa using (show ¬(K:Int)=(s.size:Int) by omega)
 have e7:IntKind.i64.wrap ((K:Int)+7)=(K:Int)+7:=IntWalk.i64_in _ (by omega)
 have e5:IntKind.i64.wrap ((K:Int)+5)=(K:Int)+5:=IntWalk.i64_in _ (by omega)
 have e6:((K:Int)+5).toNat=K+5:=by omega
 have e8:IntKind.i64.wrap ((s.size:Int)-1)=(S1:Int):=by rw [IntWalk.i64_in _ (by omega)];omega
 have e9:IntKind.i64.wrap ((K:Int)-1)=(K1:Int):=by rw [IntWalk.i64_in _ (by omega)];omega
 have hl1:(K1:Int)≤(s.size:Int):=by omega
 have hl2:(K:Int)+5≤(S1:Int):=by omega
 have hl3:(S1:Int)≤(s.size:Int):=by omega
 have hl4:(K1:Int)<(s.size:Int):=by omega
 have he2:(f==0)=false:=by simpa using hf
 have C1:=Lib.hid HP
 have C2:=Lib.hid HR
 have Z1:Hid (∀ {p:Prop} (h:p:=by ((fail_if_success (fail_if_success (with_reducible refine wp_loop_rounds 1 ?_)));clear F;(go_loopw [4] (fun iv wr=>∃ k:Nat,k≤K∧iv=.int .i64 (k:Int)∧Sb w [(w.heap.size,#[.bool false,.string ⟨#[]⟩,.bool false,.string ⟨#[]⟩,.bool false,.string ⟨#[]⟩,.bool false,.string ⟨#[]⟩,.bool false],27)] [] wr) (fun iv _=>K-(intOf iv).toNat));(case atStart=>exact ⟨0,Nat.zero_le _,rfl,X.out⟩);(case round=>obtain ⟨k,hk,rfl,hX⟩:=hrel;replace X:=Lib.hid hX;clear hX;replace F:=X.out.facts;simp only [Facts,cellsAt,List.take_succ_cons,List.take_zero,Nat.reduceAdd,and_true,List.set_cons_succ,List.set_cons_zero,List.cons_append,List.nil_append] at F;by_cases hlt:k<K;(obtain ⟨x,hx,hx1,hx2,hx3,hx4⟩:=HB.out k hlt;exact wk);(obtain rfl:k=K:=Nat.le_antisymm hk (Nat.le_of_not_lt hlt);skip;exact wk));all_goals exact wk)),p):=@fun _ h=>h
 have Z2:Hid (∀ {p:Prop} (h:p:=by ((go_roundw);(case rel=>exact ⟨k+1,hlt,by go_num,X.out⟩);(case measure=>(simp [intOf]<;>first | omega | exact Nat.sub_lt_sub_left hlt (Nat.lt_succ_self k)));all_goals exact wk)),p):=@fun _ h=>h
 have RS:=Lib.hid Tryz.results66
 clear HP HR 
 go_enter Tryz.func66,Tryz.ntmps66
 exact wk0

set_option maxHeartbeats 8000000 in
set_option maxRecDepth 100000 in
theorem fparse_c3 (w:World) {s:ByteArray} {K:Nat} {u v:ByteArray} {S1 K1 z:Nat} {n:Bool} {b1 b2:Bool} {m1 k1 m2 k2:ByteArray} {e f:Int} (HB:Hid (∀ k:Nat,k<K→∃ x:Nat,(∀ h,(s[k]'h).toNat=x)∧((x:Int)==115)=false∧¬(x:Int)=115∧(k:Int)<(s.size:Int)∧((k:Int)==(s.size:Int))=false)) (hK1:(K:Int)<(s.size:Int)) (hs:s.size≤4096) (HX:∀ h,(s[K]'h).toNat=115) (h1:¬(K:Int)<2) (h2:¬(s.size:Int)<(K:Int)+7) (hS1:S1+1=s.size) (hq:s.extract K (K+5)=⟨#[115,113,114,116,40]⟩) (hy:∀ h,(s[S1]'h).toNat=41) (hK2:K1+1=K) (hu:s.extract 0 K1=u) (hv:s.extract (K+5) S1=v) (hz:∀ h,(s[K1]'h).toNat=z) (hn:((z:Int)==45)=n) (HP:∀ V,Below w.heap.size w V→Calls Tryz.prog 118 #[.string u] V (RetB V (.tuple #[.agg #[.bool b1,.string m1,.bool false,.string k1],.int .i64 0]))) (HR:∀ V,Below w.heap.size w V→Calls Tryz.prog 118 #[.string v] V (RetB V (.tuple #[.agg #[.bool b2,.string m2,.bool false,.string k2],.int .i64 0]))) (HC:∀ V,Below w.heap.size w V→Calls Tryz.prog 17 #[.agg #[.bool b1,.string m1,.bool false,.string k1,.bool b2,.string m2,.bool false,.string k2,.bool n]] V (RetB V (.bool false))) :
  Calls Tryz.prog 66 #[.string s] w (RetB w (.tuple #[.agg #[.bool false,.string ⟨#[]⟩,.bool false,.string ⟨#[]⟩,.bool false,.string ⟨#[]⟩,.bool false,.string ⟨#[]⟩,.bool false],.bool false])):=by
 have e0:((K:Int)==(s.size:Int))=false:=by simpa using (show ¬(K:Int)=(s.size:Int) by omega)
 have e7:IntKind.i64.wrap ((K:Int)+7)=(K:Int)+7:=IntWalk.i64_in _ (by omega)
 have e5:IntKind.i64.wrap ((K:Int)+5)=(K:Int)+5:=IntWalk.i64_in _ (by omega)
 have e6:((K:Int)+5).toNat=K+5:=by omega
 have e8:IntKind.i64.wrap ((s.size:Int)-1)=(S1:Int):=by rw [IntWalk.i64_in _ (by omega)];omega
 have e9:IntKind.i64.wrap ((K:Int)-1)=(K1:Int):=by rw [IntWalk.i64_in _ (by omega)];omega
 have hl1:(K1:Int)≤(s.size:Int):=by omega
 have hl2:(K:Int)+5≤(S1:Int):=by omega
 have hl3:(S1:Int)≤(s.size:Int):=by omega
 have hl4:(K1:Int)<(s.size:Int):=by omega
 have C1:=Lib.hid HP
 have C2:=Lib.hid HR
 have C3:=Lib.hid HC
 have Z1:Hid (∀ {p:Prop} (h:p:=by ((fail_if_success (fail_if_success (with_reducible refine wp_loop_rounds 1 ?_)));clear F;(go_loopw [4] (fun iv wr=>∃ k:Nat,k≤K∧iv=.int .i64 (k:Int)∧Sb w [(w.heap.size,#[.bool false,.string ⟨#[]⟩,.bool false,.string ⟨#[]⟩,.bool false,.string ⟨#[]⟩,.bool false,.string ⟨#[]⟩,.bool false],27)] [] wr) (fun iv _=>K-(intOf iv).toNat));(case atStart=>exact ⟨0,Nat.zero_le _,rfl,X.out⟩);(case round=>obtain ⟨k,hk,rfl,hX⟩:=hrel;replace X:=Lib.hid hX;clear hX;replace F:=X.out.facts;simp only [Facts,cellsAt,List.take_succ_cons,List.take_zero,Nat.reduceAdd,and_true,List.set_cons_succ,List.set_cons_zero,List.cons_append,List.nil_append] at F;by_cases hlt:k<K;(obtain ⟨x,hx,hx1,hx2,hx3,hx4⟩:=HB.out k hlt;exact wk);(obtain rfl:k=K:=Nat.le_antisymm hk (Nat.le_of_not_lt hlt);skip;exact wk));all_goals exact wk)),p):=@fun _ h=>h
 have Z2:Hid (∀ {p:Prop} (h:p:=by ((go_roundw);(case rel=>exact ⟨k+1,hlt,by go_num,X.out⟩);(case measure=>(simp [intOf]<;>first | omega | exact Nat.sub_lt_sub_left hlt (Nat.lt_succ_self k)));all_goals exact wk)),p):=@fun _ h=>h
 have RS:=Lib.hid Tryz.results66
 clear HP HR HC 
 go_enter Tryz.func66,Tryz.ntmps66
 exact wk0

set_option maxHeartbeats 8000000 in
set_option maxRecDepth 100000 in
theorem fparse_c4 (w:World) {s:ByteArray} {K:Nat} {u v:ByteArray} {S1 K1 z:Nat} {n:Bool} {b1 b2:Bool} {m1 k1 m2 k2:ByteArray} {e f:Int} {t:ByteArray} (hne:t≠s) (HB:Hid (∀ k:Nat,k<K→∃ x:Nat,(∀ h,(s[k]'h).toNat=x)∧((x:Int)==115)=false∧¬(x:Int)=115∧(k:Int)<(s.size:Int)∧((k:Int)==(s.size:Int))=false)) (hK1:(K:Int)<(s.size:Int)) (hs:s.size≤4096) (HX:∀ h,(s[K]'h).toNat=115) (h1:¬(K:Int)<2) (h2:¬(s.size:Int)<(K:Int)+7) (hS1:S1+1=s.size) (hq:s.extract K (K+5)=⟨#[115,113,114,116,40]⟩) (hy:∀ h,(s[S1]'h).toNat=41) (hK2:K1+1=K) (hu:s.extract 0 K1=u) (hv:s.extract (K+5) S1=v) (hz:∀ h,(s[K1]'h).toNat=z) (hn:((z:Int)==45)=n) (HP:∀ V,Below w.heap.size w V→Calls Tryz.prog 118 #[.string u] V (RetB V (.tuple #[.agg #[.bool b1,.string m1,.bool false,.string k1],.int .i64 0]))) (HR:∀ V,Below w.heap.size w V→Calls Tryz.prog 118 #[.string v] V (RetB V (.tuple #[.agg #[.bool b2,.string m2,.bool false,.string k2],.int .i64 0]))) (HC:∀ V,Below w.heap.size w V→Calls Tryz.prog 17 #[.agg #[.bool b1,.string m1,.bool false,.string k1,.bool b2,.string m2,.bool false,.string k2,.bool n]] V (RetB V (.bool true))) (HQ:∀ V,Below w.heap.size w V→Calls Tryz.prog 65 #[.agg #[.bool b1,.string m1,.bool false,.string k1,.bool b2,.string m2,.bool false,.string k2,.bool n]] V (RetB V (.string t))) :
  Calls Tryz.prog 66 #[.string s] w (RetB w (.tuple #[.agg #[.bool false,.string ⟨#[]⟩,.bool false,.string ⟨#[]⟩,.bool false,.string ⟨#[]⟩,.bool false,.string ⟨#[]⟩,.bool false],.bool false])):=by
 have e0:((K:Int)==(s.size:Int))=false:=by simpa using (show ¬(K:Int)=(s.size:Int) by omega)
 have e7:IntKind.i64.wrap ((K:Int)+7)=(K:Int)+7:=IntWalk.i64_in _ (by omega)
 have e5:IntKind.i64.wrap ((K:Int)+5)=(K:Int)+5:=IntWalk.i64_in _ (by omega)
 have e6:((K:Int)+5).toNat=K+5:=by omega
 have e8:IntKind.i64.wrap ((s.size:Int)-1)=(S1:Int):=by rw [IntWalk.i64_in _ (by omega)];omega
 have e9:IntKind.i64.wrap ((K:Int)-1)=(K1:Int):=by rw [IntWalk.i64_in _ (by omega)];omega
 have hl1:(K1:Int)≤(s.size:Int):=by omega
 have hl2:(K:Int)+5≤(S1:Int):=by omega
 have hl3:(S1:Int)≤(s.size:Int):=by omega
 have hl4:(K1:Int)<(s.size:Int):=by omega
 obtain ⟨g1,g2⟩:=str_ne hne
 clear hne
 have C1:=Lib.hid HP
 have C2:=Lib.hid HR
 have C3:=Lib.hid HC
 have C4:=Lib.hid HQ
 have Z1:Hid (∀ {p:Prop} (h:p:=by ((fail_if_success (fail_if_success (with_reducible refine wp_loop_rounds 1 ?_)));clear F;(go_loopw [4] (fun iv wr=>∃ k:Nat,k≤K∧iv=.int .i64 (k:Int)∧Sb w [(w.heap.size,#[.bool false,.string ⟨#[]⟩,.bool false,.string ⟨#[]⟩,.bool false,.string ⟨#[]⟩,.bool false,.string ⟨#[]⟩,.bool false],27)] [] wr) (fun iv _=>K-(intOf iv).toNat));(case atStart=>exact ⟨0,Nat.zero_le _,rfl,X.out⟩);(case round=>obtain ⟨k,hk,rfl,hX⟩:=hrel;replace X:=Lib.hid hX;clear hX;replace F:=X.out.facts;simp only [Facts,cellsAt,List.take_succ_cons,List.take_zero,Nat.reduceAdd,and_true,List.set_cons_succ,List.set_cons_zero,List.cons_append,List.nil_append] at F;by_cases hlt:k<K;(obtain ⟨x,hx,hx1,hx2,hx3,hx4⟩:=HB.out k hlt;exact wk);(obtain rfl:k=K:=Nat.le_antisymm hk (Nat.le_of_not_lt hlt);skip;exact wk));all_goals exact wk)),p):=@fun _ h=>h
 have Z2:Hid (∀ {p:Prop} (h:p:=by ((go_roundw);(case rel=>exact ⟨k+1,hlt,by go_num,X.out⟩);(case measure=>(simp [intOf]<;>first | omega | exact Nat.sub_lt_sub_left hlt (Nat.lt_succ_self k)));all_goals exact wk)),p):=@fun _ h=>h
 have RS:=Lib.hid Tryz.results66
 clear HP HR HC HQ 
 go_enter Tryz.func66,Tryz.ntmps66
 exact wk0

set_option maxHeartbeats 8000000 in
set_option maxRecDepth 100000 in
theorem fparse_c5 (w:World) {s:ByteArray} {K:Nat} {u v:ByteArray} {S1 K1 z:Nat} {n:Bool} {b1 b2:Bool} {m1 k1 m2 k2:ByteArray} {e f:Int} (HB:Hid (∀ k:Nat,k<K→∃ x:Nat,(∀ h,(s[k]'h).toNat=x)∧((x:Int)==115)=false∧¬(x:Int)=115∧(k:Int)<(s.size:Int)∧((k:Int)==(s.size:Int))=false)) (hK1:(K:Int)<(s.size:Int)) (hs:s.size≤4096) (HX:∀ h,(s[K]'h).toNat=115) (h1:¬(K:Int)<2) (h2:¬(s.size:Int)<(K:Int)+7) (hS1:S1+1=s.size) (hq:s.extract K (K+5)=⟨#[115,113,114,116,40]⟩) (hy:∀ h,(s[S1]'h).toNat=41) (hK2:K1+1=K) (hu:s.extract 0 K1=u) (hv:s.extract (K+5) S1=v) (hz:∀ h,(s[K1]'h).toNat=z) (hn:((z:Int)==45)=n) (HP:∀ V,Below w.heap.size w V→Calls Tryz.prog 118 #[.string u] V (RetB V (.tuple #[.agg #[.bool b1,.string m1,.bool false,.string k1],.int .i64 0]))) (HR:∀ V,Below w.heap.size w V→Calls Tryz.prog 118 #[.string v] V (RetB V (.tuple #[.agg #[.bool b2,.string m2,.bool false,.string k2],.int .i64 0]))) (HC:∀ V,Below w.heap.size w V→Calls Tryz.prog 17 #[.agg #[.bool b1,.string m1,.bool false,.string k1,.bool b2,.string m2,.bool false,.string k2,.bool n]] V (RetB V (.bool true))) (HQ:∀ V,Below w.heap.size w V→Calls Tryz.prog 65 #[.agg #[.bool b1,.string m1,.bool false,.string k1,.bool b2,.string m2,.bool false,.string k2,.bool n]] V (RetB V (.string s))) :
  Calls Tryz.prog 66 #[.string s] w (RetB w (.tuple #[.agg #[.bool b1,.string m1,.bool false,.string k1,.bool b2,.string m2,.bool false,.string k2,.bool n],.bool true])):=by
 have e0:((K:Int)==(s.size:Int))=false:=by simpa using (show ¬(K:Int)=(s.size:Int) by omega)
 have e7:IntKind.i64.wrap ((K:Int)+7)=(K:Int)+7:=IntWalk.i64_in _ (by omega)
 have e5:IntKind.i64.wrap ((K:Int)+5)=(K:Int)+5:=IntWalk.i64_in _ (by omega)
 have e6:((K:Int)+5).toNat=K+5:=by omega
 have e8:IntKind.i64.wrap ((s.size:Int)-1)=(S1:Int):=by rw [IntWalk.i64_in _ (by omega)];omega
 have e9:IntKind.i64.wrap ((K:Int)-1)=(K1:Int):=by rw [IntWalk.i64_in _ (by omega)];omega
 have hl1:(K1:Int)≤(s.size:Int):=by omega
 have hl2:(K:Int)+5≤(S1:Int):=by omega
 have hl3:(S1:Int)≤(s.size:Int):=by omega
 have hl4:(K1:Int)<(s.size:Int):=by omega
 have C1:=Lib.hid HP
 have C2:=Lib.hid HR
 have C3:=Lib.hid HC
 have C4:=Lib.hid HQ
 have Z1:Hid (∀ {p:Prop} (h:p:=by ((fail_if_success (fail_if_success (with_reducible refine wp_loop_rounds 1 ?_)));clear F;(go_loopw [4] (fun iv wr=>∃ k:Nat,k≤K∧iv=.int .i64 (k:Int)∧Sb w [(w.heap.size,#[.bool false,.string ⟨#[]⟩,.bool false,.string ⟨#[]⟩,.bool false,.string ⟨#[]⟩,.bool false,.string ⟨#[]⟩,.bool false],27)] [] wr) (fun iv _=>K-(intOf iv).toNat));(case atStart=>exact ⟨0,Nat.zero_le _,rfl,X.out⟩);(case round=>obtain ⟨k,hk,rfl,hX⟩:=hrel;replace X:=Lib.hid hX;clear hX;replace F:=X.out.facts;simp only [Facts,cellsAt,List.take_succ_cons,List.take_zero,Nat.reduceAdd,and_true,List.set_cons_succ,List.set_cons_zero,List.cons_append,List.nil_append] at F;by_cases hlt:k<K;(obtain ⟨x,hx,hx1,hx2,hx3,hx4⟩:=HB.out k hlt;exact wk);(obtain rfl:k=K:=Nat.le_antisymm hk (Nat.le_of_not_lt hlt);skip;exact wk));all_goals exact wk)),p):=@fun _ h=>h
 have Z2:Hid (∀ {p:Prop} (h:p:=by ((go_roundw);(case rel=>exact ⟨k+1,hlt,by go_num,X.out⟩);(case measure=>(simp [intOf]<;>first | omega | exact Nat.sub_lt_sub_left hlt (Nat.lt_succ_self k)));all_goals exact wk)),p):=@fun _ h=>h
 have RS:=Lib.hid Tryz.results66
 clear HP HR HC HQ 
 go_enter Tryz.func66,Tryz.ntmps66
 exact wk0
end Go.Proofs.YtpnokfgplnmjpaaGreatDoor


namespace Go.Proofs.YtpnokfgplnmjpaaGreatDoor
open Go.RowKit
attribute [local go_sem ↓] Go.wp_at_zero Go.wp_at_succ

set_option maxHeartbeats 8000000 in
set_option maxRecDepth 100000 in
theorem parses_long (w:World) {s:ByteArray} (hl:¬(s.size:Int)≤60) (HK:∀ V,Below w.heap.size w V→Calls Tryz.prog 15 #[] V (RetB V (.bool true))) :
  Calls Tryz.prog 14 #[.string s] w (RetB w (.bool true)):=by
 have hl2:60<(s.size:Int):=by omega
 clear hl
 have C1:=Lib.hid HK
 clear HK 
 go_enter Tryz.func14,Tryz.ntmps14
 exact wk0

set_option maxHeartbeats 8000000 in
set_option maxRecDepth 100000 in
theorem parses_no (w:World) {s:ByteArray} {b2 c2 s2:Bool} {m2 k2 n2 l2:ByteArray} (hl:(s.size:Int)≤60) (HK:∀ V,Below w.heap.size w V→Calls Tryz.prog 15 #[] V (RetB V (.bool true))) (HP:∀ V,Below w.heap.size w V→Calls Tryz.prog 64 #[.string s] V (RetB V (.tuple #[.agg #[.bool false,.string ⟨#[]⟩,.bool false,.string ⟨#[]⟩,.bool false,.string ⟨#[]⟩,.bool false,.string ⟨#[]⟩,.bool false],.int .i64 15]))) (HR:∀ V,Below w.heap.size w V→Calls Tryz.prog 66 #[.string s] V (RetB V (.tuple #[.agg #[.bool b2,.string m2,.bool false,.string k2,.bool c2,.string n2,.bool false,.string l2,.bool s2],.bool false]))) :
  Calls Tryz.prog 14 #[.string s] w (RetB w (.bool true)):=by
 have hl2:¬60<(s.size:Int):=by omega
 clear hl
 have C1:=Lib.hid HK
 have C2:=Lib.hid HP
 have C3:=Lib.hid HR
 clear HK HP HR 
 go_enter Tryz.func14,Tryz.ntmps14
 exact wk0

set_option maxHeartbeats 8000000 in
set_option maxRecDepth 100000 in
theorem parses_yes (w:World) {s:ByteArray} {b1 c1 s1:Bool} {m1 k1 n1 l1:ByteArray} (hl:(s.size:Int)≤60) (HK:∀ V,Below w.heap.size w V→Calls Tryz.prog 15 #[] V (RetB V (.bool true))) (HP:∀ V,Below w.heap.size w V→Calls Tryz.prog 64 #[.string s] V (RetB V (.tuple #[.agg #[.bool b1,.string m1,.bool false,.string k1,.bool c1,.string n1,.bool false,.string l1,.bool s1],.int .i64 0]))) (HR:∀ V,Below w.heap.size w V→Calls Tryz.prog 66 #[.string s] V (RetB V (.tuple #[.agg #[.bool b1,.string m1,.bool false,.string k1,.bool c1,.string n1,.bool false,.string l1,.bool s1],.bool true]))) :
  Calls Tryz.prog 14 #[.string s] w (RetB w (.bool true)):=by
 have hl2:¬60<(s.size:Int):=by omega
 clear hl
 have C1:=Lib.hid HK
 have C2:=Lib.hid HP
 have C3:=Lib.hid HR
 clear HK HP HR 
 go_enter Tryz.func14,Tryz.ntmps14
 exact wk0
end Go.Proofs.YtpnokfgplnmjpaaGreatDoor


namespace Go.Proofs.YtpnokfgplnmjpaaGreatDoor
open Go.RowKit
attribute [local go_sem ↓] Go.wp_at_zero Go.wp_at_succ

set_option maxHeartbeats 8000000 in
set_option maxRecDepth 100000 in
theorem cmp_yrat {x y:Sg.Rl} {b1 b2 s1:Bool} {m1 k1 m2 k2 n1 l1:ByteArray} (hx:Rv x b1 m1 k1 false n1 l1 s1) (hy:Rv y b2 m2 k2 false ⟨#[]⟩ ⟨#[]⟩ false) (ok:x.Ok) (h0:x.a≠0) (zx:Rz 1500 x) (zy:Rz 1500 y) (w:World) (hE:Env w) :
  Calls Tryz.prog 34 #[.agg #[.bool b1,.string m1,.bool false,.string k1,.bool false,.string n1,.bool false,.string l1,.bool s1],.agg #[.bool b2,.string m2,.bool false,.string k2,.bool false,.string ⟨#[]⟩,.bool false,.string ⟨#[]⟩,.bool false]] w (RetB w (.int .i64 (Sg.cmpX x (Sg.Rl.of y.p)))):=by
 have hn:=hx.r.ne h0
 obtain ⟨h1,h2⟩:=str_ne hn
 have h3:=empty_no (size_pos hn)
 clear hn
 have C1:=kn w (isRat_yes b2 false m2 k2)
 have C2:=ke hE (crat_f hx ok hy.p zx zy.p)
 clear hx hy ok h0 zx zy hE
 go_enter Tryz.func34,Tryz.ntmps34
 exact wk0

set_option maxHeartbeats 8000000 in
set_option maxRecDepth 100000 in
theorem cmp_irr {x y:Sg.Rl} {b1 b2 s1 s2:Bool} {m1 k1 n1 l1 m2 k2 n2 l2:ByteArray} (hx:Rv x b1 m1 k1 false n1 l1 s1) (hy:Rv y b2 m2 k2 false n2 l2 s2) (okx:x.Ok) (oky:y.Ok) (hx0:x.a≠0) (hy0:y.a≠0) (zx:Rz 500 x) (zy:Rz 500 y) (hdf:n1≠n2∨(n1=n2∧l1≠l2)∨(n1=n2∧l1=l2∧s1=!s2)) (w:World) (hE:Env w) :
  Calls Tryz.prog 34 #[.agg #[.bool b1,.string m1,.bool false,.string k1,.bool false,.string n1,.bool false,.string l1,.bool s1],.agg #[.bool b2,.string m2,.bool false,.string k2,.bool false,.string n2,.bool false,.string l2,.bool s2]] w (RetB w (.int .i64 (Sg.cmpP (x.p-y.p) x.s x.a y.s y.a))):=by
 obtain ⟨b3,m3,k3,h3⟩:=Rq.some_ (x.p-y.p)
 have zd:Sz 1001 (x.p-y.p):=zx.p.sub zy.p
 obtain ⟨d,hd⟩:∃ d,d=x.p-y.p:=⟨_,rfl⟩
 rw [←hd] at h3 zd ⊢
 obtain ⟨b4,m4,k4,h4⟩:=Rq.some_ (d*d)
 obtain ⟨b5,m5,k5,h5⟩:=Rq.some_ (d*d+x.a)
 obtain ⟨b6,m6,k6,h6⟩:=Rq.some_ (d*d+x.a-y.a)
 obtain ⟨b7,m7,k7,h7⟩:=Rq.some_ (2*d)
 obtain ⟨b8,m8,k8,h8⟩:=Rq.some_ (2*d*(2*d))
 obtain ⟨b9,m9,k9,h9⟩:=Rq.some_ (2*d*(2*d)*x.a)
 have z4:Sz 2002 (d*d):=zd.mul zd
 have z5:Sz 2503 (d*d+x.a):=z4.add zx.r
 have z6:Sz 3004 (d*d+x.a-y.a):=z5.sub zy.r
 have e2:Rq 2 false ⟨#[2]⟩ ⟨#[]⟩:=⟨by rw [←mag_2];exact enc_mag 2,by rw [show (2:Rat).den=1 from rfl];exact dm_one.symm⟩
 have z2:Sz 1 2:=⟨by decide,by decide⟩
 have z7:Sz 1002 (2*d):=z2.mul zd
 have z8:Sz 2004 (2*d*(2*d)):=z7.mul z7
 have z9:Sz 2504 (2*d*(2*d)*x.a):=z8.mul zx.r
 have sx:=okx.sg
 have sy:=oky.sg
 have hc:=sos_abs d sx x.a
 have hw1:=wrap_ts sy (sgq_abs (d*d+x.a-y.a))
 have hw2:=wrap_st sx (sgq_abs (2*d))
 have HP:∀ e,Sg.cmpP d x.s x.a y.s y.a=e↔Sg.cmpP d x.s x.a y.s y.a=e:=fun _=>Iff.rfl
 unfold Sg.cmpP at HP ⊢
 obtain ⟨o,ho⟩:∃ o,o=(if Sg.sos d x.s x.a≠y.s then Sg.sos d x.s x.a else if Sg.sgq (2*d)=0 then y.s*Sg.sgq (d*d+x.a-y.a) else y.s*Sg.sos (d*d+x.a-y.a) (Sg.sgq (2*d)*x.s) (2*d*(2*d)*x.a)):=⟨_,rfl⟩
 rw [←ho]
 clear HP
 have P1:=Lib.hid (show (Sg.sos d x.s x.a != y.s)=true→o=Sg.sos d x.s x.a from fun h=>by rw [ho,if_pos (by simpa using h)])
 have P2:=Lib.hid (show (Sg.sos d x.s x.a != y.s)=false→(Sg.sgq (2*d)==0)=true→o=y.s*Sg.sgq (d*d+x.a-y.a) from fun h e=>by rw [ho,if_neg (by simpa using h),if_pos (by simpa using e)])
 have P3:=Lib.hid (show (Sg.sos d x.s x.a != y.s)=false→(Sg.sgq (2*d)==0)=false→o=y.s*Sg.sos (d*d+x.a-y.a) (Sg.sgq (2*d)*x.s) (2*d*(2*d)*x.a) from fun h e=>by rw [ho,if_neg (by simpa using h),if_neg (by simpa using e)])
 clear ho
 have C3:=Lib.hid (fun V (hb:Below w.heap.size w V)=>sub_z hx.p hy.p (by rw [←hd];exact h3) (zx.p.up (by omega)) (zy.p.up (by omega)) V (hE.next hb))
 have C6:=Lib.hid (fun V (hb:Below w.heap.size w V)=>sos_f h3 hx.r (zd.up (by omega)) (zx.r.up (by omega)) sx V (hE.next hb))
 have HD:=Lib.hid hdf
 have hc1:Sg.sos (d*d+x.a-y.a) (Sg.sgq (2*d)*x.s) (2*d*(2*d)*x.a)=-1∨Sg.sos (d*d+x.a-y.a) (Sg.sgq (2*d)*x.s) (2*d*(2*d)*x.a)=0∨Sg.sos (d*d+x.a-y.a) (Sg.sgq (2*d)*x.s) (2*d*(2*d)*x.a)=1:=by
  rcases sgq_abs (2*d) with e | e | e
  · exact sos_abs _ (by rw [e];omega) _
  · right;left;rw [e];unfold Sg.sos;split<;>simp
  · exact sos_abs _ (by rw [e];omega) _
 have hw3:=wrap_ts sy hc1
 have C16:=Lib.hid (show ∀ V,Below w.heap.size w V→(Sg.sgq (2*d)==0)=false→Calls Tryz.prog 87 #[.agg #[.bool b6,.string m6,.bool false,.string k6],.int .i64 (Sg.sgq (2*d)*x.s),.agg #[.bool b9,.string m9,.bool false,.string k9]] V (RetB V (.int .i64 (Sg.sos (d*d+x.a-y.a) (Sg.sgq (2*d)*x.s) (2*d*(2*d)*x.a)))) from fun V hb h=>sos_f h6 h9 (z6.up (by omega)) (z9.up (by omega)) (by
  rcases sgq_abs (2*d) with e | e | e
  · rw [e];omega
  · rw [e] at h;simp at h
  · rw [e];omega) V (hE.next hb))
 clear hc1
 have C12:=Lib.hid (fun V (hb:Below w.heap.size w V)=>sign_z h7 V)
 have C13:=Lib.hid (fun V (hb:Below w.heap.size w V)=>sign_z h6 V)
 generalize Sg.sos (d*d+x.a-y.a) (Sg.sgq (2*d)*x.s) (2*d*(2*d)*x.a)=c1 at *
 generalize Sg.sgq (d*d+x.a-y.a)=c0 at *
 generalize Sg.sgq (2*d)=v at *
 generalize Sg.sos d x.s x.a=u at *
 have C1:=kn w (isRat_no hx hx0)
 have C2:=kn w (isRat_no hy hy0)
 have C4:=kn w (rootSign_f hx sx)
 have C5:=kn w (rootSign_f hy sy)
 have C7:=ke hE (mul_z h3 h3 h4 (zd.up (by omega)) (zd.up (by omega)))
 have C8:=ke hE (add_z h4 hx.r h5 (z4.up (by omega)) (zx.r.up (by omega)))
 have C9:=ke hE (sub_z h5 hy.r h6 (z5.up (by omega)) (zy.r.up (by omega)))
 have C10:=kn w (rFromInt_f (x:=2) e2.num (by omega) (by omega))
 have C11:=ke hE (mul_z e2 h3 h7 (z2.up (by omega)) (zd.up (by omega)))
 have C14:=ke hE (mul_z h7 h7 h8 (z7.up (by omega)) (z7.up (by omega)))
 have C15:=ke hE (mul_z h8 hx.r h9 (z8.up (by omega)) (zx.r.up (by omega)))
 have U1:Hid (∀ {p:Prop} (h:p:=by ((fail_if_success (go_not_at_region 11));(fail_if_success (have:=hLL));obtain ⟨LL,hLL⟩:=lexi X.out;go_cut [8] (fun s0 wx=>∃ g0,s0=.pointer (some ⟨g0,0,none⟩)∧Sb w (LL++[(g0,#[.bool b6,.string m6,.bool false,.string k6],25)]) [] wx);all_goals exact wkc)),p):=@fun _ h=>h
 have U2:Hid (∀ {p:Prop} (h:p:=by ((fail_if_success (go_not_at_region 12));(fail_if_success (have:=hLL));obtain ⟨LL,hLL⟩:=lexi X.out;go_cut [9] (fun s0 wx=>∃ g0,s0=.pointer (some ⟨g0,0,none⟩)∧Sb w (LL++[(g0,#[.bool b7,.string m7,.bool false,.string k7],25)]) [] wx);all_goals exact wkc)),p):=@fun _ h=>h
 have U3:Hid (∀ {p:Prop} (h:p:=by ((fail_if_success (go_not_at_region 15));(fail_if_success (have:=hLL));obtain ⟨LL,hLL⟩:=lexi X.out;go_cut [10] (fun s0 wx=>∃ g0,s0=.pointer (some ⟨g0,0,none⟩)∧Sb w (LL++[(g0,#[.bool b9,.string m9,.bool false,.string k9],25)]) [] wx);all_goals exact wkc)),p):=@fun _ h=>h
 clear hx hy okx oky hx0 hy0 zx zy h3 h4 h5 h6 h7 h8 h9 zd z2 z4 z5 z6 z7 z8 z9 e2 hd hdf hE
 go_enter Tryz.func34,Tryz.ntmps34
 go_upto_region 1 with fail
 refine gs2 (M:=fun W=>Code.wp _ _ _ _ W) (fun V X0=>?_)
 have X:=Lib.hid X0
 clear X0
 have F:=X.out.facts
 simp only [Facts,cellsAt,List.take_succ_cons,List.take_zero,Nat.reduceAdd,and_true,List.set_cons_succ,List.set_cons_zero,List.cons_append,List.nil_append] at F
 go_cut [11] (fun s11 wx=>s11=.bool false∧Sb w [(w.heap.size,#[.bool b1,.string m1,.bool false,.string k1,.bool false,.string n1,.bool false,.string l1,.bool s1],27),(w.heap.size+1,#[.bool b2,.string m2,.bool false,.string k2,.bool false,.string n2,.bool false,.string l2,.bool s2],27)] [] wx)
 case first =>
  rcases HD.out with hn | ⟨rfl,hn⟩ | ⟨rfl,rfl,hs⟩
  · obtain ⟨h1,h2⟩:=str_ne hn
    clear HD
    go_wp2_with fail
    go_meet
    exact ⟨rfl,X.out⟩
  · obtain ⟨h1,h2⟩:=str_ne hn
    clear HD
    go_wp2_with fail
    go_meet
    exact ⟨rfl,X.out⟩
  · clear HD
    cases s2<;>(obtain rfl:=hs) <;>
     (go_wp2_with fail
      go_meet
      exact ⟨rfl,X.out⟩)
 obtain ⟨rfl,hX⟩:=hcut
 replace X:=Lib.hid hX
 clear hX HD
 replace F:=X.out.facts
 simp only [Facts,cellsAt,List.take_succ_cons,List.take_zero,Nat.reduceAdd,and_true,List.set_cons_succ,List.set_cons_zero,List.cons_append,List.nil_append] at F
 exact wk
end Go.Proofs.YtpnokfgplnmjpaaGreatDoor


namespace Go.Proofs.YtpnokfgplnmjpaaGreatDoor
open Go.RowKit
attribute [local go_sem ↓] Go.wp_at_zero Go.wp_at_succ

theorem Rq.dsize {q:Rat} {b:Bool} {m k:ByteArray} {n:Nat} (h:Rq q b m k) (hs:(Go.Proofs.YtpnokfgplnmjpaaGreatDoor.mag q.den).size≤n):k.size≤n:=by
 by_cases hd:q.den=1
 · rw [h.den1 hd];exact Nat.zero_le _
 · rw [h.den2 hd];exact hs

set_option maxHeartbeats 8000000 in
set_option maxRecDepth 100000 in
theorem fmk_sq {p q r:Rat} {b1 b2 b3 b6:Bool} {m1 k1 m2 k2 m3 k3 m6 k6:ByteArray} (hp:Rq p b1 m1 k1) (hq:Rq q b2 m2 k2) (hr:Rq r b3 m3 k3) (hs:Sg.Sq r) (h6:Rq (p+q*Sg.rt r) b6 m6 k6) (zp:Sz 2000 p) (zq:Sz 2000 q) (zr:Sz (7999+1) r) (w:World) :
  Calls Tryz.prog 29 #[.agg #[.bool b1,.string m1,.bool false,.string k1],.agg #[.bool b2,.string m2,.bool false,.string k2],.agg #[.bool b3,.string m3,.bool false,.string k3]] w (RetB w (.agg #[.bool b6,.string m6,.bool false,.string k6,.bool false,.string ⟨#[]⟩,.bool false,.string ⟨#[]⟩,.bool false])):=by
 obtain ⟨b4,m4,k4,h4⟩:=Rq.some_ (Sg.rt r)
 obtain ⟨b5,m5,k5,h5⟩:=Rq.some_ (q*Sg.rt r)
 have z4:=zr.root
 have z5:Sz 10000 (q*Sg.rt r):=zq.mul z4
 have C1:=kn w ((root_yes_z hr (zr.up (by omega)) hs h4).2)
 have C2:=kn w (rmul_z hq h4 h5 (zq.up (by omega)) (z4.up (by omega)))
 have C3:=kn w (radd_z hp h5 h6 (zp.up (by omega)) z5)
 have RS:=Lib.hid Tryz.results29
 clear hp hq hr hs h6 zp zq zr h4 h5 z4 z5
 go_enter Tryz.func29,Tryz.ntmps29
 exact wk0

set_option maxHeartbeats 8000000 in
set_option maxRecDepth 100000 in
theorem fmk_zero {r:Rat} {b1 b3:Bool} {m1 k1 m3 k3:ByteArray} (hr:Rq r b3 m3 k3) (hs:¬Sg.Sq r) (zr:Sz 9000 r) (w:World) :
  Calls Tryz.prog 29 #[.agg #[.bool b1,.string m1,.bool false,.string k1],.agg #[.bool false,.string ⟨#[]⟩,.bool false,.string ⟨#[]⟩],.agg #[.bool b3,.string m3,.bool false,.string k3]] w (RetB w (.agg #[.bool b1,.string m1,.bool false,.string k1,.bool false,.string ⟨#[]⟩,.bool false,.string ⟨#[]⟩,.bool false])):=by
 have C1:=kn w ((root_no_z hr zr hs).2)
 have C2:=kn w (zero_any)
 have RS:=Lib.hid Tryz.results29
 clear hr hs zr
 go_enter Tryz.func29,Tryz.ntmps29
 exact wk0

set_option maxHeartbeats 8000000 in
set_option maxRecDepth 100000 in
theorem fmk_irr_true {q r:Rat} {b1 b3 b5:Bool} {m1 k1 m3 k3 m5 k5:ByteArray} {m2 k2:ByteArray} (hq:Rq q true m2 k2) (hq0:q≠0) (hr:Rq r b3 m3 k3) (hs:¬Sg.Sq r) (h5:Rq (q*q*r) b5 m5 k5) (zq:Sz 2000 q) (zr:Sz 2000 r) (w:World) :
  Calls Tryz.prog 29 #[.agg #[.bool b1,.string m1,.bool false,.string k1],.agg #[.bool true,.string m2,.bool false,.string k2],.agg #[.bool b3,.string m3,.bool false,.string k3]] w (RetB w (.agg #[.bool b1,.string m1,.bool false,.string k1,.bool b5,.string m5,.bool false,.string k5,.bool (decide (Sg.sgq q<0))])):=by
 obtain ⟨b4,m4,k4,h4⟩:=Rq.some_ (q*q)
 have hn:=hq.ne hq0
 obtain ⟨e1,e2⟩:=str_ne hn
 have e3:=empty_no (size_pos hn)
 have z4:=zq.mul zq
 have C1:=kn w ((root_no_z hr (zr.up (by omega)) hs).2)
 have C2:=kn w (zero_any)
 have C3:=kn w (rmul_z hq hq h4 (zq.up (by omega)) (zq.up (by omega)))
 have C4:=kn w (rmul_z h4 hr h5 (z4.up (by omega)) (zr.up (by omega)))
 have C5:=kn w (rsign_z hq)
 have RS:=Lib.hid Tryz.results29
 clear hq hq0 hr hs h5 zq zr h4 hn z4
 go_enter Tryz.func29,Tryz.ntmps29
 exact wk0

set_option maxHeartbeats 8000000 in
set_option maxRecDepth 100000 in
theorem fmk_irr_false {q r:Rat} {b1 b3 b5:Bool} {m1 k1 m3 k3 m5 k5:ByteArray} {m2 k2:ByteArray} (hq:Rq q false m2 k2) (hq0:q≠0) (hr:Rq r b3 m3 k3) (hs:¬Sg.Sq r) (h5:Rq (q*q*r) b5 m5 k5) (zq:Sz 2000 q) (zr:Sz 2000 r) (w:World) :
  Calls Tryz.prog 29 #[.agg #[.bool b1,.string m1,.bool false,.string k1],.agg #[.bool false,.string m2,.bool false,.string k2],.agg #[.bool b3,.string m3,.bool false,.string k3]] w (RetB w (.agg #[.bool b1,.string m1,.bool false,.string k1,.bool b5,.string m5,.bool false,.string k5,.bool (decide (Sg.sgq q<0))])):=by
 obtain ⟨b4,m4,k4,h4⟩:=Rq.some_ (q*q)
 have hn:=hq.ne hq0
 obtain ⟨e1,e2⟩:=str_ne hn
 have e3:=empty_no (size_pos hn)
 have z4:=zq.mul zq
 have C1:=kn w ((root_no_z hr (zr.up (by omega)) hs).2)
 have C2:=kn w (zero_any)
 have C3:=kn w (rmul_z hq hq h4 (zq.up (by omega)) (zq.up (by omega)))
 have C4:=kn w (rmul_z h4 hr h5 (z4.up (by omega)) (zr.up (by omega)))
 have C5:=kn w (rsign_z hq)
 have RS:=Lib.hid Tryz.results29
 clear hq hq0 hr hs h5 zq zr h4 hn z4
 go_enter Tryz.func29,Tryz.ntmps29
 exact wk0

theorem sgq_lt {q:Rat}:Sg.sgq q<0↔q<0:=by
 rcases Sg.sgq_three q with ⟨h,e⟩ | ⟨h,e⟩ | ⟨h,e⟩<;>rw [e]
 · simp [h]
 · subst h;simp
 · constructor
   · intro h1;omega
   · intro h1;grind
theorem fmk_f {p q r:Rat} {b1 b2 b3:Bool} {m1 k1 m2 k2 m3 k3:ByteArray} {b6 c6 s6:Bool} {m6 k6 n6 l6:ByteArray} (hp:Rq p b1 m1 k1) (hq:Rq q b2 m2 k2) (hr:Rq r b3 m3 k3) (zp:Sz 2000 p) (zq:Sz 2000 q) (zr:Sz 2000 r) (h6:Rv (Sg.mkR p q r) b6 m6 k6 c6 n6 l6 s6) (w:World) :
  Calls Tryz.prog 29 #[.agg #[.bool b1,.string m1,.bool false,.string k1],.agg #[.bool b2,.string m2,.bool false,.string k2],.agg #[.bool b3,.string m3,.bool false,.string k3]] w (RetB w (.agg #[.bool b6,.string m6,.bool false,.string k6,.bool c6,.string n6,.bool false,.string l6,.bool s6])):=by
 unfold Sg.mkR at h6
 by_cases hs:Sg.Sq r
 · rw [if_pos hs] at h6
   obtain ⟨rfl,rfl,rfl⟩:=h6.r.nought.1 rfl
   obtain rfl:s6=false:=h6.neg
   exact fmk_sq hp hq hr hs h6.p zp zq (zr.up (by omega)) w
 · rw [if_neg hs] at h6
   by_cases hq0:q=0
   · rw [if_pos hq0] at h6
     obtain ⟨rfl,rfl,rfl⟩:=h6.r.nought.1 rfl
     obtain rfl:s6=false:=h6.neg
     obtain ⟨rfl,rfl,rfl⟩:=hq.nought.1 hq0
     obtain ⟨rfl,rfl,rfl⟩:=h6.p.inj hp
     exact fmk_zero hr hs (zr.up (by omega)) w
   · rw [if_neg hq0] at h6
     obtain ⟨rfl,rfl,rfl⟩:=h6.p.inj hp
     obtain rfl:s6=decide (Sg.sgq q<0):=by
      rw [h6.neg]
      by_cases h:q<0
      · simp [h,sgq_lt.2 h]
      · have h':¬Sg.sgq q<0:=fun e=>h (sgq_lt.1 e)
        simp [h,h']
     cases b2
     · exact fmk_irr_false hq hq0 hr hs h6.r zq zr w
     · exact fmk_irr_true hq hq0 hr hs h6.r zq zr w

set_option maxHeartbeats 8000000 in
set_option maxRecDepth 100000 in
theorem rchk_rat {p:Rat} {b1:Bool} {m1 k1:ByteArray} (hp:Rq p b1 m1 k1) (zp:Sz 10000 p) (w:World) (hE:Env w) :
  Calls Tryz.prog 18 #[.agg #[.bool b1,.string m1,.bool false,.string k1,.bool false,.string ⟨#[]⟩,.bool false,.string ⟨#[]⟩,.bool false]] w (RetB w (.int .i64 0)):=by
 have t1:=(zp.m hp (Nat.le_refl _)).1
 have t2:=hp.dsize (zp.m hp (Nat.le_refl _)).2
 have C1:=ke hE (ratCheck_f hp (by omega) (by omega))
 have C2:=ke hE (ratCheck_f Rq.zero (by decide) (by decide))
 have C3:=kn w (isRat_yes b1 false m1 k1)
 clear hp zp t1 t2 hE
 go_enter Tryz.func18,Tryz.ntmps18
 exact wk0

set_option maxHeartbeats 8000000 in
set_option maxRecDepth 100000 in
theorem rchk_irr {x:Sg.Rl} {b1 c1 s1:Bool} {m1 k1 n1 l1:ByteArray} (hx:Rv x b1 m1 k1 c1 n1 l1 s1) (hx0:0<x.a) (hn:¬Sg.Sq x.a) (zx:Rz 9000 x) (w:World) (hE:Env w) :
  Calls Tryz.prog 18 #[.agg #[.bool b1,.string m1,.bool false,.string k1,.bool c1,.string n1,.bool false,.string l1,.bool s1]] w (RetB w (.int .i64 0)):=by
 have t1:=((zx.p.up (by omega)).m hx.p (Nat.le_refl _)).1
 have t2:=hx.p.dsize ((zx.p.up (by omega)).m hx.p (Nat.le_refl _)).2
 have t3:=((zx.r.up (by omega)).m hx.r (Nat.le_refl _)).1
 have t4:=hx.r.dsize ((zx.r.up (by omega)).m hx.r (Nat.le_refl _)).2
 have hne:x.a≠0:=by grind
 have C4:=Lib.hid (fun V (_:Below w.heap.size w V)=>sign_z hx.r V)
 rw [Sg.sgq_pos hx0] at C4
 have C1:=ke hE (ratCheck_f hx.p (by omega) (by omega))
 have C2:=ke hE (ratCheck_f hx.r (by omega) (by omega))
 have C3:=kn w (isRat_no hx hne)
 have C5:=ke hE ((root_no_z hx.r zx.r hn).1)
 clear hx hx0 hn zx t1 t2 t3 t4 hne hE
 go_enter Tryz.func18,Tryz.ntmps18
 exact wk0

theorem rchk_ok {x:Sg.Rl} {b1 c1 s1:Bool} {m1 k1 n1 l1:ByteArray} (hx:Rv x b1 m1 k1 c1 n1 l1 s1) (ok:x.Ok) (zx:Rz 9000 x) (w:World) (hE:Env w):Calls Tryz.prog 18 #[.agg #[.bool b1,.string m1,.bool false,.string k1,.bool c1,.string n1,.bool false,.string l1,.bool s1]] w (RetB w (.int .i64 0)):=by
 rcases Sg.ok_cases ok with ⟨ha,e⟩ | ⟨ha,hn⟩
 · obtain ⟨rfl,rfl,rfl⟩:=hx.r.nought.1 ha
   obtain rfl:s1=false:=by rw [hx.neg,e];rfl
   exact rchk_rat hx.p (zx.p.up (by omega)) w hE
 · exact rchk_irr hx ha hn zx w hE
end Go.Proofs.YtpnokfgplnmjpaaGreatDoor


namespace Go.Proofs.YtpnokfgplnmjpaaGreatDoor
open Go.RowKit
attribute [local go_sem ↓] Go.wp_at_zero Go.wp_at_succ

theorem at_ {M:World→Prop} (g:Nat) (k:Nat) {W:World} {y:Value} (h:M (W.setCell ⟨g,k,none⟩ y)):M (W.setCell ⟨g,k,none⟩ y):=h

set_option maxHeartbeats 8000000 in
set_option maxRecDepth 100000 in
theorem simp_next (w:World) {z1:Bool} {y1:ByteArray} {b1 c1 s1:Bool} {m1 k1 n1 l1:ByteArray} {b2 c2 s2:Bool} {m2 k2 n2 l2:ByteArray} {b3:Bool} {m3 k3:ByteArray} {c:Int} (hc:0<c) (HF:∀ V,Below w.heap.size w V→Calls Tryz.prog 52 #[.agg #[.bool b1,.string m1,.bool false,.string k1,.bool c1,.string n1,.bool false,.string l1,.bool s1]] V (RetB V (.agg #[.bool z1,.string y1]))) (HW:∀ V,Below w.heap.size w V→Calls Tryz.prog 73 #[.int .i64 (1)] V (RetB V (.agg #[.bool false,.string ⟨#[1]⟩,.bool false,.string ⟨#[]⟩]))) (HA:∀ V,Below w.heap.size w V→Calls Tryz.prog 89 #[.agg #[.bool z1,.string y1,.bool false,.string ⟨#[]⟩],.agg #[.bool false,.string ⟨#[1]⟩,.bool false,.string ⟨#[]⟩]] V (RetB V (.agg #[.bool b3,.string m3,.bool false,.string k3]))) (HC:∀ V,Below w.heap.size w V→Calls Tryz.prog 38 #[.agg #[.bool b2,.string m2,.bool false,.string k2,.bool c2,.string n2,.bool false,.string l2,.bool s2],.agg #[.bool b3,.string m3,.bool false,.string k3]] V (RetB V (.int .i64 c))) :
  Calls Tryz.prog 109 #[.agg #[.bool b1,.string m1,.bool false,.string k1,.bool c1,.string n1,.bool false,.string l1,.bool s1],.agg #[.bool b2,.string m2,.bool false,.string k2,.bool c2,.string n2,.bool false,.string l2,.bool s2]] w (RetB w (.agg #[.bool b3,.string m3,.bool false,.string k3])):=by
 have C1:=Lib.hid HF
 have C2:=Lib.hid HW
 have C3:=Lib.hid HA
 have C4:=Lib.hid HC
 have U1:Hid (∀ {p:Prop} (h:p:=by ((fail_if_success (go_not_at_region 2));(fail_if_success (have:=hLL));obtain ⟨LL,hLL⟩:=lexi X.out;go_cut [6] (fun s0 wx=>∃ g0,s0=.pointer (some ⟨g0,0,none⟩)∧Sb w (LL++[(g0,#[.bool b3,.string m3,.bool false,.string k3],25)]) [] wx);all_goals exact wkc)),p):=@fun _ h=>h
 have RS:=Lib.hid Tryz.results109
 clear HF HW HA HC 
 go_enter Tryz.func109,Tryz.ntmps109
 exact wk0

set_option maxHeartbeats 8000000 in
set_option maxRecDepth 100000 in
theorem simp_rec (w:World) {z1:Bool} {y1:ByteArray} {b1 c1 s1:Bool} {m1 k1 n1 l1:ByteArray} {b2 c2 s2:Bool} {m2 k2 n2 l2:ByteArray} {b5 c5 s5:Bool} {m5 k5 n5 l5:ByteArray} {b6 c6 s6:Bool} {m6 k6 n6 l6:ByteArray} {b7 c7 s7:Bool} {m7 k7 n7 l7:ByteArray} {b8 c8 s8:Bool} {m8 k8 n8 l8:ByteArray} {b3 b4 b9 b10 b11:Bool} {m3 k3 m4 k4 m9 k9 m10 k10 m11 k11:ByteArray} {c:Int} (hc:¬0<c) (HF:∀ V,Below w.heap.size w V→Calls Tryz.prog 52 #[.agg #[.bool b1,.string m1,.bool false,.string k1,.bool c1,.string n1,.bool false,.string l1,.bool s1]] V (RetB V (.agg #[.bool z1,.string y1]))) (HW:∀ V,Below w.heap.size w V→Calls Tryz.prog 73 #[.int .i64 (1)] V (RetB V (.agg #[.bool false,.string ⟨#[1]⟩,.bool false,.string ⟨#[]⟩]))) (HA:∀ V,Below w.heap.size w V→Calls Tryz.prog 89 #[.agg #[.bool z1,.string y1,.bool false,.string ⟨#[]⟩],.agg #[.bool false,.string ⟨#[1]⟩,.bool false,.string ⟨#[]⟩]] V (RetB V (.agg #[.bool b3,.string m3,.bool false,.string k3]))) (HC:∀ V,Below w.heap.size w V→Calls Tryz.prog 38 #[.agg #[.bool b2,.string m2,.bool false,.string k2,.bool c2,.string n2,.bool false,.string l2,.bool s2],.agg #[.bool b3,.string m3,.bool false,.string k3]] V (RetB V (.int .i64 c))) (HN:∀ V,Below w.heap.size w V→Calls Tryz.prog 80 #[.agg #[.bool z1,.string y1,.bool false,.string ⟨#[]⟩]] V (RetB V (.agg #[.bool b4,.string m4,.bool false,.string k4]))) (HS1:∀ V,Below w.heap.size w V→Calls Tryz.prog 44 #[.agg #[.bool b1,.string m1,.bool false,.string k1,.bool c1,.string n1,.bool false,.string l1,.bool s1],.agg #[.bool b4,.string m4,.bool false,.string k4]] V (RetB V (.agg #[.bool b5,.string m5,.bool false,.string k5,.bool c5,.string n5,.bool false,.string l5,.bool s5]))) (HS2:∀ V,Below w.heap.size w V→Calls Tryz.prog 44 #[.agg #[.bool b2,.string m2,.bool false,.string k2,.bool c2,.string n2,.bool false,.string l2,.bool s2],.agg #[.bool b4,.string m4,.bool false,.string k4]] V (RetB V (.agg #[.bool b6,.string m6,.bool false,.string k6,.bool c6,.string n6,.bool false,.string l6,.bool s6]))) (HI1:∀ V,Below w.heap.size w V→Calls Tryz.prog 50 #[.agg #[.bool b6,.string m6,.bool false,.string k6,.bool c6,.string n6,.bool false,.string l6,.bool s6]] V (RetB V (.tuple #[.agg #[.bool b7,.string m7,.bool false,.string k7,.bool c7,.string n7,.bool false,.string l7,.bool s7],.int .i64 0]))) (HI2:∀ V,Below w.heap.size w V→Calls Tryz.prog 50 #[.agg #[.bool b5,.string m5,.bool false,.string k5,.bool c5,.string n5,.bool false,.string l5,.bool s5]] V (RetB V (.tuple #[.agg #[.bool b8,.string m8,.bool false,.string k8,.bool c8,.string n8,.bool false,.string l8,.bool s8],.int .i64 0]))) (HR:∀ V,Below w.heap.size w V→Calls Tryz.prog 109 #[.agg #[.bool b7,.string m7,.bool false,.string k7,.bool c7,.string n7,.bool false,.string l7,.bool s7],.agg #[.bool b8,.string m8,.bool false,.string k8,.bool c8,.string n8,.bool false,.string l8,.bool s8]] V (RetB V (.agg #[.bool b9,.string m9,.bool false,.string k9]))) (HD:∀ V,Below w.heap.size w V→Calls Tryz.prog 79 #[.agg #[.bool false,.string ⟨#[1]⟩,.bool false,.string ⟨#[]⟩],.agg #[.bool b9,.string m9,.bool false,.string k9]] V (RetB V (.agg #[.bool b10,.string m10,.bool false,.string k10]))) (HZ:∀ V,Below w.heap.size w V→Calls Tryz.prog 89 #[.agg #[.bool z1,.string y1,.bool false,.string ⟨#[]⟩],.agg #[.bool b10,.string m10,.bool false,.string k10]] V (RetB V (.agg #[.bool b11,.string m11,.bool false,.string k11]))) :
  Calls Tryz.prog 109 #[.agg #[.bool b1,.string m1,.bool false,.string k1,.bool c1,.string n1,.bool false,.string l1,.bool s1],.agg #[.bool b2,.string m2,.bool false,.string k2,.bool c2,.string n2,.bool false,.string l2,.bool s2]] w (RetB w (.agg #[.bool b11,.string m11,.bool false,.string k11])):=by
 have C1:=Lib.hid HF
 have C2:=Lib.hid HW
 have C3:=Lib.hid HA
 have C4:=Lib.hid HC
 have C5:=Lib.hid HN
 have C6:=Lib.hid HS1
 have C7:=Lib.hid HS2
 have C8:=Lib.hid HI1
 have C9:=Lib.hid HI2
 have C10:=Lib.hid HR
 have C11:=Lib.hid HD
 have C12:=Lib.hid HZ
 have U1:Hid (∀ {p:Prop} (h:p:=by ((fail_if_success (go_not_at_region 2));(fail_if_success (have:=hLL));obtain ⟨LL,hLL⟩:=lexi X.out;go_cut [6] (fun s0 wx=>∃ g0,s0=.pointer (some ⟨g0,0,none⟩)∧Sb w (LL++[(g0,#[.bool b3,.string m3,.bool false,.string k3],25)]) [] wx);all_goals exact wkc)),p):=@fun _ h=>h
 have RS:=Lib.hid Tryz.results109
 clear HF HW HA HC HN HS1 HS2 HI1 HI2 HR HD HZ 
 go_enter Tryz.func109,Tryz.ntmps109
 exact wk0

set_option maxHeartbeats 8000000 in
set_option maxRecDepth 100000 in
theorem simp_open (w:World) {z1:Bool} {y1:ByteArray} {b1 c1 s1:Bool} {m1 k1 n1 l1:ByteArray} {b2 c2 s2:Bool} {m2 k2 n2 l2:ByteArray} {b5 c5 s5:Bool} {m5 k5 n5 l5:ByteArray} {b6 c6 s6:Bool} {m6 k6 n6 l6:ByteArray} {b7 c7 s7:Bool} {m7 k7 n7 l7:ByteArray} {b8 c8 s8:Bool} {m8 k8 n8 l8:ByteArray} {b3 b4 b9 b10 b11:Bool} {m3 k3 m4 k4 m9 k9 m10 k10 m11 k11:ByteArray} {c:Int} (hc:¬0<c) (HF:∀ V,Below w.heap.size w V→Calls Tryz.prog 52 #[.agg #[.bool b1,.string m1,.bool false,.string k1,.bool c1,.string n1,.bool false,.string l1,.bool s1]] V (RetB V (.agg #[.bool z1,.string y1]))) (HW:∀ V,Below w.heap.size w V→Calls Tryz.prog 73 #[.int .i64 (1)] V (RetB V (.agg #[.bool false,.string ⟨#[1]⟩,.bool false,.string ⟨#[]⟩]))) (HA:∀ V,Below w.heap.size w V→Calls Tryz.prog 89 #[.agg #[.bool z1,.string y1,.bool false,.string ⟨#[]⟩],.agg #[.bool false,.string ⟨#[1]⟩,.bool false,.string ⟨#[]⟩]] V (RetB V (.agg #[.bool b3,.string m3,.bool false,.string k3]))) (HC:∀ V,Below w.heap.size w V→Calls Tryz.prog 38 #[.agg #[.bool b2,.string m2,.bool false,.string k2,.bool c2,.string n2,.bool false,.string l2,.bool s2],.agg #[.bool b3,.string m3,.bool false,.string k3]] V (RetB V (.int .i64 c))) (HN:∀ V,Below w.heap.size w V→Calls Tryz.prog 80 #[.agg #[.bool z1,.string y1,.bool false,.string ⟨#[]⟩]] V (RetB V (.agg #[.bool b4,.string m4,.bool false,.string k4]))) (HS1:∀ V,Below w.heap.size w V→Calls Tryz.prog 44 #[.agg #[.bool b1,.string m1,.bool false,.string k1,.bool c1,.string n1,.bool false,.string l1,.bool s1],.agg #[.bool b4,.string m4,.bool false,.string k4]] V (RetB V (.agg #[.bool b5,.string m5,.bool false,.string k5,.bool c5,.string n5,.bool false,.string l5,.bool s5]))) (HS2:∀ V,Below w.heap.size w V→Calls Tryz.prog 44 #[.agg #[.bool b2,.string m2,.bool false,.string k2,.bool c2,.string n2,.bool false,.string l2,.bool s2],.agg #[.bool b4,.string m4,.bool false,.string k4]] V (RetB V (.agg #[.bool b6,.string m6,.bool false,.string k6,.bool c6,.string n6,.bool false,.string l6,.bool s6]))) (HI1:∀ V,Below w.heap.size w V→Calls Tryz.prog 50 #[.agg #[.bool b6,.string m6,.bool false,.string k6,.bool c6,.string n6,.bool false,.string l6,.bool s6]] V (RetB V (.tuple #[.agg #[.bool b7,.string m7,.bool false,.string k7,.bool c7,.string n7,.bool false,.string l7,.bool s7],.int .i64 0]))) (HI2:∀ V,Below w.heap.size w V→Calls Tryz.prog 50 #[.agg #[.bool b5,.string m5,.bool false,.string k5,.bool c5,.string n5,.bool false,.string l5,.bool s5]] V (RetB V (.tuple #[.agg #[.bool false,.string ⟨#[]⟩,.bool false,.string ⟨#[]⟩,.bool false,.string ⟨#[]⟩,.bool false,.string ⟨#[]⟩,.bool false],.int .i64 6]))) (HW2:∀ V,Below w.heap.size w V→Calls Tryz.prog 73 #[.int .i64 (2)] V (RetB V (.agg #[.bool false,.string ⟨#[2]⟩,.bool false,.string ⟨#[]⟩]))) (HS3:∀ V,Below w.heap.size w V→Calls Tryz.prog 44 #[.agg #[.bool b7,.string m7,.bool false,.string k7,.bool c7,.string n7,.bool false,.string l7,.bool s7],.agg #[.bool false,.string ⟨#[2]⟩,.bool false,.string ⟨#[]⟩]] V (RetB V (.agg #[.bool b8,.string m8,.bool false,.string k8,.bool c8,.string n8,.bool false,.string l8,.bool s8]))) (HR:∀ V,Below w.heap.size w V→Calls Tryz.prog 109 #[.agg #[.bool b7,.string m7,.bool false,.string k7,.bool c7,.string n7,.bool false,.string l7,.bool s7],.agg #[.bool b8,.string m8,.bool false,.string k8,.bool c8,.string n8,.bool false,.string l8,.bool s8]] V (RetB V (.agg #[.bool b9,.string m9,.bool false,.string k9]))) (HD:∀ V,Below w.heap.size w V→Calls Tryz.prog 79 #[.agg #[.bool false,.string ⟨#[1]⟩,.bool false,.string ⟨#[]⟩],.agg #[.bool b9,.string m9,.bool false,.string k9]] V (RetB V (.agg #[.bool b10,.string m10,.bool false,.string k10]))) (HZ:∀ V,Below w.heap.size w V→Calls Tryz.prog 89 #[.agg #[.bool z1,.string y1,.bool false,.string ⟨#[]⟩],.agg #[.bool b10,.string m10,.bool false,.string k10]] V (RetB V (.agg #[.bool b11,.string m11,.bool false,.string k11]))) :
  Calls Tryz.prog 109 #[.agg #[.bool b1,.string m1,.bool false,.string k1,.bool c1,.string n1,.bool false,.string l1,.bool s1],.agg #[.bool b2,.string m2,.bool false,.string k2,.bool c2,.string n2,.bool false,.string l2,.bool s2]] w (RetB w (.agg #[.bool b11,.string m11,.bool false,.string k11])):=by
 have C1:=Lib.hid HF
 have C2:=Lib.hid HW
 have C3:=Lib.hid HA
 have C4:=Lib.hid HC
 have C5:=Lib.hid HN
 have C6:=Lib.hid HS1
 have C7:=Lib.hid HS2
 have C8:=Lib.hid HI1
 have C9:=Lib.hid HI2
 have C10:=Lib.hid HW2
 have C11:=Lib.hid HS3
 have C12:=Lib.hid HR
 have C13:=Lib.hid HD
 have C14:=Lib.hid HZ
 have U1:Hid (∀ {p:Prop} (h:p:=by ((fail_if_success (go_not_at_region 2));(fail_if_success (have:=hLL));obtain ⟨LL,hLL⟩:=lexi X.out;go_cut [6] (fun s0 wx=>∃ g0,s0=.pointer (some ⟨g0,0,none⟩)∧Sb w (LL++[(g0,#[.bool b3,.string m3,.bool false,.string k3],25)]) [] wx);all_goals exact wkc)),p):=@fun _ h=>h
 have RS:=Lib.hid Tryz.results109
 clear HF HW HA HC HN HS1 HS2 HI1 HI2 HW2 HS3 HR HD HZ 
 go_enter Tryz.func109,Tryz.ntmps109
 exact wk0

set_option maxHeartbeats 8000000 in
set_option maxRecDepth 100000 in
theorem btw_pos (w:World) {b1 c1 s1:Bool} {m1 k1 n1 l1:ByteArray} {b2 c2 s2:Bool} {m2 k2 n2 l2:ByteArray} {b3:Bool} {m3 k3:ByteArray} {c s:Int} (hc:c<0) (hs:0≤s) (HC1:∀ V,Below w.heap.size w V→Calls Tryz.prog 18 #[.agg #[.bool b1,.string m1,.bool false,.string k1,.bool c1,.string n1,.bool false,.string l1,.bool s1]] V (RetB V (.int .i64 (0)))) (HC2:∀ V,Below w.heap.size w V→Calls Tryz.prog 18 #[.agg #[.bool b2,.string m2,.bool false,.string k2,.bool c2,.string n2,.bool false,.string l2,.bool s2]] V (RetB V (.int .i64 (0)))) (HC:∀ V,Below w.heap.size w V→Calls Tryz.prog 34 #[.agg #[.bool b1,.string m1,.bool false,.string k1,.bool c1,.string n1,.bool false,.string l1,.bool s1],.agg #[.bool b2,.string m2,.bool false,.string k2,.bool c2,.string n2,.bool false,.string l2,.bool s2]] V (RetB V (.int .i64 c))) (HI:∀ V,Below w.heap.size w V→Calls Tryz.prog 70 #[.agg #[.bool b1,.string m1,.bool false,.string k1,.bool c1,.string n1,.bool false,.string l1,.bool s1]] V (RetB V (.bool false))) (HS:∀ V,Below w.heap.size w V→Calls Tryz.prog 39 #[.agg #[.bool b1,.string m1,.bool false,.string k1,.bool c1,.string n1,.bool false,.string l1,.bool s1]] V (RetB V (.int .i64 s))) (HR:∀ V,Below w.heap.size w V→Calls Tryz.prog 109 #[.agg #[.bool b1,.string m1,.bool false,.string k1,.bool c1,.string n1,.bool false,.string l1,.bool s1],.agg #[.bool b2,.string m2,.bool false,.string k2,.bool c2,.string n2,.bool false,.string l2,.bool s2]] V (RetB V (.agg #[.bool b3,.string m3,.bool false,.string k3]))) :
  Calls Tryz.prog 56 #[.agg #[.bool b1,.string m1,.bool false,.string k1,.bool c1,.string n1,.bool false,.string l1,.bool s1],.agg #[.bool b2,.string m2,.bool false,.string k2,.bool c2,.string n2,.bool false,.string l2,.bool s2]] w (RetB w (.tuple #[.agg #[.bool b3,.string m3,.bool false,.string k3],.int .i64 0])):=by
 have C1:=Lib.hid HC1
 have C2:=Lib.hid HC2
 have C3:=Lib.hid HC
 have C4:=Lib.hid HI
 have C5:=Lib.hid HS
 have C6:=Lib.hid HR
 have RS:=Lib.hid Tryz.results56
 clear HC1 HC2 HC HI HS HR 
 go_enter Tryz.func56,Tryz.ntmps56
 exact wk0
end Go.Proofs.YtpnokfgplnmjpaaGreatDoor


namespace Go.Proofs.YtpnokfgplnmjpaaGreatDoor
open Go.RowKit
attribute [local go_sem ↓] Go.wp_at_zero Go.wp_at_succ

def Zs (n:Nat) (z:Int):Prop:=z.natAbs<256^n
theorem Zs.sz {n:Nat} {z:Int} (hz:Zs n z) {b:Bool} {m:ByteArray} (h:enc z=.agg #[.bool b,.string m]):m.size≤n:=by
 rw [(enc_parts h).2]
 exact mag_size_le hz
theorem Zs.mul {n m:Nat} {x y:Int} (hx:Zs n x) (hy:Zs m y):Zs (n+m) (x*y):=by
 unfold Zs
 rw [Int.natAbs_mul,Nat.pow_add]
 exact Nat.mul_lt_mul'' hx hy
theorem Zs.root {n:Nat} {x:Int} (h:Zs n x):Zs n ((rt x.natAbs:Nat):Int):=by
 unfold Zs
 rw [Int.natAbs_natCast]
 exact Nat.lt_of_le_of_lt (rt_self _) h
theorem Zs.below {n:Nat} {x:Int} (h:Zs n x):Zs (n+1) (-1-x):=by
 unfold Zs at h ⊢
 rw [Nat.pow_succ]
 have:=Nat.pow_pos (a:=256) (n:=n) (by decide)
 generalize 256^n=Z at *
 omega
theorem Sz.n {n:Nat} {q:Rat} (h:Sz n q):Zs n q.num:=h.1
theorem Sz.d {n:Nat} {q:Rat} (h:Sz n q):Zs n (q.den:Int):=by unfold Zs;rw [Int.natAbs_natCast];exact h.2
def fN (x:Sg.Rl):Int:=((x.p.den:Int)*(x.a.den:Int))*(x.p.den:Int)*x.a.num
def floorV (x:Sg.Rl):Int:=if x.a=0 then x.p.num / (x.p.den:Int) else (x.p.num*(x.a.den:Int)+(if x.s<0 then -1-((rt (fN x).natAbs:Nat):Int) else ((rt (fN x).natAbs:Nat):Int))) / ((x.p.den:Int)*(x.a.den:Int))
theorem fN_pos {x:Sg.Rl} (h:0<x.a):0≤fN x:=by
 unfold fN
 have h1:0<x.a.num:=num_pos_iff.2 h
 have h2:(0:Int)<x.p.den:=by have:=x.p.den_pos;omega
 have h3:(0:Int)<x.a.den:=by have:=x.a.den_pos;omega
 exact Int.le_of_lt (Int.mul_pos (Int.mul_pos (Int.mul_pos h2 h3) h2) h1)

set_option maxHeartbeats 8000000 in
set_option maxRecDepth 100000 in
theorem rfloor_rat {p:Rat} {b1:Bool} {m1 k1:ByteArray} {s1:Bool} {b2:Bool} {m2:ByteArray} (hp:Rq p b1 m1 k1) (hz:enc (p.num / (p.den:Int))=.agg #[.bool b2,.string m2]) (zp:Sz 10000 p) (w:World) :
  Calls Tryz.prog 52 #[.agg #[.bool b1,.string m1,.bool false,.string k1,.bool false,.string ⟨#[]⟩,.bool false,.string ⟨#[]⟩,.bool s1]] w (RetB w (.agg #[.bool b2,.string m2])):=by
 have t1:=zp.m hp (Nat.le_refl _)
 have C1:=kn w (isRat_yes b1 s1 m1 k1)
 have C2:=kn w (ratFloor_f hp hz (by omega) (by omega))
 have RS:=Lib.hid Tryz.results52
 clear hp hz zp t1
 go_enter Tryz.func52,Tryz.ntmps52
 exact wk0

theorem zret {F:FuncId} {A:Array Value} {z:Int} {b:Bool} {m:ByteArray} (hz:enc z=.agg #[.bool b,.string m]) {w:World} (h:Calls Tryz.prog F A w (RetZ w z)):Calls Tryz.prog F A w (RetB w (.agg #[.bool b,.string m])):=by
 unfold RetZ at h;rw [hz] at h;exact h
theorem Zs.of_size {n:Nat} {x:Int} {b:Bool} {m:ByteArray} (hx:enc x=.agg #[.bool b,.string m]) (s:m.size≤n):Zs n x:=by
 unfold Zs
 have:=bval_lt m
 rw [(enc_parts hx).2,bval_mag] at this
 exact Nat.lt_of_lt_of_le this (Nat.pow_le_pow_right (by decide) (by rw [←(enc_parts hx).2];exact s))
theorem Zs.plus {n:Nat} {x y:Int} (zx:Zs n x) (zy:Zs n y):Zs (n+1) (x+y):=by
 unfold Zs at *
 rw [Nat.pow_succ]
 have:=Nat.pow_pos (a:=256) (n:=n) (by decide)
 generalize 256^n=Z at *
 omega
theorem sum_size {x y:Int} {b1 b2 b3:Bool} {m1 m2 m3:ByteArray} (hx:enc x=.agg #[.bool b1,.string m1]) (hy:enc y=.agg #[.bool b2,.string m2]) (s1:m1.size≤9000) (s2:m2.size≤9000) (h:enc (x+y)=.agg #[.bool b3,.string m3]):m3.size≤100000:=by
 have zx:=Zs.of_size hx s1
 have zy:=Zs.of_size hy s2
 have:=zx.plus zy
 exact Nat.le_trans (this.sz h) (by decide)

set_option maxHeartbeats 8000000 in
set_option maxRecDepth 100000 in
theorem rfloor_irr {x:Sg.Rl} {b1 c1 s1:Bool} {m1 k1 n1 l1:ByteArray} {b2:Bool} {m2:ByteArray} (hx:Rv x b1 m1 k1 c1 n1 l1 s1) (hx0:0<x.a) (hne:x.a≠0) (hz:enc (floorV x)=.agg #[.bool b2,.string m2]) (zx:Rz 2000 x) (w:World) (hE:Env w) :
  Calls Tryz.prog 52 #[.agg #[.bool b1,.string m1,.bool false,.string k1,.bool c1,.string n1,.bool false,.string l1,.bool s1]] w (RetB w (.agg #[.bool b2,.string m2])):=by
 have hs:s1=decide (x.s<0):=hx.neg
 obtain ⟨f,hf⟩:∃ f:Int,f=floorV x:=⟨_,rfl⟩
 rw [←hf] at hz
 unfold floorV at hf
 rw [if_neg hne] at hf
 obtain ⟨N,hN⟩:∃ N,N=fN x:=⟨_,rfl⟩
 have hN0:0≤N:=by rw [hN];exact fN_pos hx0
 have zN:Zs 8000 N:=by rw [hN];exact ((zx.p.d.mul zx.r.d).mul zx.p.d).mul zx.r.n
 have eN:N=(x.p.den:Int)*(x.a.den:Int)*(x.p.den:Int)*x.a.num:=hN
 rw [←hN] at hf
 have zb:=zx.p.d
 have zd:=zx.r.d
 have hb0:(x.p.den:Int)≠0:=by have:=x.p.den_pos;omega
 have hd0:(x.a.den:Int)≠0:=by have:=x.a.den_pos;omega
 have eb:enc (x.p.den:Int)=.agg #[.bool false,.string (mag x.p.den)]:=enc_mag _
 have ed:enc (x.a.den:Int)=.agg #[.bool false,.string (mag x.a.den)]:=enc_mag _
 have ea:=hx.r.num
 have en:=hx.p.num
 have za:=zx.r.n
 have zn:=zx.p.n
 have C2:=Lib.hid (fun V (hb:Below w.heap.size w V)=>den_f hx.p V (hE.next hb))
 have C3:=Lib.hid (fun V (hb:Below w.heap.size w V)=>den_f hx.r V (hE.next hb))
 generalize (x.p.den:Int)=b at *
 generalize (x.a.den:Int)=d at *
 generalize mag x.p.den=yb at *
 generalize mag x.a.den=yd at *
 generalize x.p.num=n at *
 generalize x.a.num=a at *
 obtain ⟨z1,y1,e1⟩:=enc_form (b*d)
 obtain ⟨z2,y2,e2⟩:=enc_form (n*d)
 obtain ⟨z3,y3,e3⟩:=enc_form (b*d*b)
 obtain ⟨z4,y4,e4⟩:=enc_form N
 have zr:=zN.root
 have hr0:enc ((rt N.natAbs:Nat):Int)=enc ((rt N.natAbs:Nat):Int):=rfl
 obtain ⟨z5,y5,e5⟩:=enc_form ((rt N.natAbs:Nat):Int)
 have C10:=Lib.hid (fun V (_:Below w.heap.size w V)=>sqrt_f e4 hN0 (Nat.le_trans (zN.sz e4) (by decide)) e5 V)
 generalize ((rt N.natAbs:Nat):Int)=r at *
 obtain ⟨z6,y6,e6⟩:=enc_form (-1:Int)
 obtain ⟨z7,y7,e7⟩:=enc_form (-1-r)
 obtain ⟨z8,y8,e8⟩:=enc_form (n*d+r)
 obtain ⟨z9,y9,e9⟩:=enc_form (n*d+(-1-r))
 obtain ⟨z10,y10,e10⟩:=enc_form ((n*d+(if s1 then -1-r else r))%(b*d))
 have t1:=(zb.mul zd).sz e1
 have t2:=(zn.mul zd).sz e2
 have t3:=((zb.mul zd).mul zb).sz e3
 have t4:=zN.sz e4
 have t5:=zr.sz e5
 have t6:y6.size≤1:=Zs.sz (n:=1) (z:=-1) (by unfold Zs;decide) e6
 have t7:=zr.below.sz e7
 have t8:y8.size≤100000:=sum_size e2 e5 (by omega) (by omega) e8
 have t9:y9.size≤100000:=sum_size e2 e7 (by omega) (by omega) e9
 have tb:=zb.sz eb
 have td:=zd.sz ed
 have tn:=zn.sz en
 have ta:=za.sz ea
 have hden:b*d≠0:=Int.mul_ne_zero hb0 hd0
 have C15:=Lib.hid (fun V (_:Below w.heap.size w V) (h:s1=false)=>divMod_f e8 e1 (Nat.le_trans t8 (by decide)) (by omega) hden hz (by rw [h] at e10;exact e10) (by rw [hf,if_neg (by rw [h] at hs;simpa using hs.symm)]) rfl V)
 have C16:=Lib.hid (fun V (_:Below w.heap.size w V) (h:s1=true)=>divMod_f e9 e1 (Nat.le_trans t9 (by decide)) (by omega) hden hz (by rw [h] at e10;exact e10) (by rw [hf,if_pos (by rw [h] at hs;simpa using hs.symm)]) rfl V)
 have C11:=Lib.hid (fun V (_:Below w.heap.size w V)=>zret e6 (fromInt_any (-1) (by omega) (by omega) V))
 have C1:=kn w (isRat_no hx hne)
 have C4:=kn w (mul_f eb ed (by omega) (by omega) e1 rfl)
 have C5:=kn w (num_any b1 m1 false k1)
 have C6:=kn w (mul_f en ed (by omega) (by omega) e2 rfl)
 have C7:=kn w (mul_f e1 eb (by omega) (by omega) e3 rfl)
 have C8:=kn w (num_any c1 n1 false l1)
 have C9:=kn w (mul_f e3 ea (by omega) (by omega) e4 eN)
 have C12:=kn w (sub_f e6 e5 (by omega) (by omega) e7 rfl)
 have C13:=kn w (add_f e2 e5 (by omega) (by omega) e8 rfl)
 have C14:=kn w (add_f e2 e7 (by omega) (by omega) e9 rfl)
 have Z1:Hid (∀ {p:Prop} (h:p:=by ((refine (fun (hh:s1=false)=>?_) ?_;rotate_left;assumption;subst hh);all_goals exact wk)),p):=@fun _ h=>h
 have Z2:Hid (∀ {p:Prop} (h:p:=by ((refine (fun (hh:s1=true)=>?_) ?_;rotate_left;assumption;subst hh);all_goals exact wk)),p):=@fun _ h=>h
 have U1:Hid (∀ {p:Prop} (h:p:=by ((fail_if_success (go_not_at_region 3));(fail_if_success (have:=hLL));obtain ⟨LL,hLL⟩:=lexi X.out;go_cut [3,4] (fun s0 s1 wx=>∃ g0 g1,s0=.pointer (some ⟨g0,0,none⟩)∧s1=.pointer (some ⟨g1,0,none⟩)∧Sb w (LL++[(g0,#[.bool false,.string yb],23),(g1,#[.bool false,.string yd],23)]) [] wx);all_goals exact wkc)),p):=@fun _ h=>h
 have U2:Hid (∀ {p:Prop} (h:p:=by ((fail_if_success (go_not_at_region 5));(fail_if_success (have:=hLL));obtain ⟨LL,hLL⟩:=lexi X.out;go_cut [6] (fun s0 wx=>∃ g0,s0=.pointer (some ⟨g0,0,none⟩)∧Sb w (LL++[(g0,#[.bool z2,.string y2],23)]) [] wx);all_goals exact wkc)),p):=@fun _ h=>h
 have U3:Hid (∀ {p:Prop} (h:p:=by ((fail_if_success (go_not_at_region 6));(fail_if_success (have:=hLL));obtain ⟨LL,hLL⟩:=lexi X.out;go_cut [7] (fun s0 wx=>∃ g0,s0=.pointer (some ⟨g0,0,none⟩)∧Sb w (LL++[(g0,#[.bool z5,.string y5],23)]) [] wx);all_goals exact wkc)),p):=@fun _ h=>h
 have U4:Hid (∀ {p:Prop} (h:p:=by ((fail_if_success (go_not_at_region 9));(fail_if_success (have:=hLL));obtain ⟨LL,hLL⟩:=lexi X.out;go_cut [9,10] (fun s0 s1 wx=>∃ g0 g1,s0=.pointer (some ⟨g0,0,none⟩)∧s1=.pointer (some ⟨g1,0,none⟩)∧Sb w (LL++[(g0,#[.bool b2,.string m2],23),(g1,#[.bool z10,.string y10],23)]) [] wx);all_goals exact wkc)),p):=@fun _ h=>h
 have M1:Hid (∀ {p:Prop} (h:p:=by first | exact ⟨_,_,rfl,rfl,X.out.pick [0,1,2,3] _ [] rfl (by decide) (by simp)⟩ | exact ⟨_,_,rfl,rfl,X.out.pick [0,1,3,2] _ [] rfl (by decide) (by simp)⟩ | exact ⟨_,_,rfl,rfl,X.out.pick [0,1,2,3,4,5,6,7,8] _ [] rfl (by decide) (by simp)⟩ | exact ⟨_,_,rfl,rfl,X.out.pick [0,1,2,3,4,5,6,8,7] _ [] rfl (by decide) (by simp)⟩),p):=@fun _ h=>h
 have RS:=Lib.hid Tryz.results52
 clear hx hx0 hz zx hs hf hN hN0 zN eN zb zd hb0 hd0 eb ed ea en za zn e1 e2 e3 e4 zr hr0 e5 e6 e7 e8 e9 e10 t1 t2 t3 t4 t5 t6 t7 t8 t9 tb td tn ta hden hE
 go_enter Tryz.func52,Tryz.ntmps52
 exact wk0

theorem rfloor_f {x:Sg.Rl} {b1 c1 s1:Bool} {m1 k1 n1 l1:ByteArray} {b2:Bool} {m2:ByteArray} (hx:Rv x b1 m1 k1 c1 n1 l1 s1) (ok:x.Ok) (hz:enc (floorV x)=.agg #[.bool b2,.string m2]) (zx:Rz 2000 x) (w:World) (hE:Env w):Calls Tryz.prog 52 #[.agg #[.bool b1,.string m1,.bool false,.string k1,.bool c1,.string n1,.bool false,.string l1,.bool s1]] w (RetB w (.agg #[.bool b2,.string m2])):=by
 by_cases h0:x.a=0
 · obtain ⟨rfl,rfl,rfl⟩:=hx.r.nought.1 h0
   unfold floorV at hz
   rw [if_pos h0] at hz
   exact rfloor_rat hx.p hz (zx.p.up (by omega)) w
 · exact rfloor_irr hx (ok_pos ok h0) h0 hz zx w hE
end Go.Proofs.YtpnokfgplnmjpaaGreatDoor


namespace Go.Proofs.YtpnokfgplnmjpaaGreatDoor
open Go.RowKit
attribute [local go_sem ↓] Go.wp_at_zero Go.wp_at_succ

theorem nsq_nat {n r:Nat} (h1:r*r<n) (h2:n<(r+1)*(r+1)):Sg.NSq (n:Rat):=by
 intro z e
 obtain ⟨s1,s2⟩:=sq_parts z
 rw [e] at s1
 have h3:((n:Rat)).num=(n:Int):=rfl
 rw [h3] at s1
 generalize z.num.natAbs=m at s1
 have h4:n=m*m:=by exact_mod_cast s1
 rcases Nat.lt_or_ge r m with h | h
 · have:=Nat.mul_le_mul (show r+1≤m from h) (show r+1≤m from h)
   rw [←h4] at this
   exact absurd h2 (Nat.not_lt.2 this)
 · have:=Nat.mul_le_mul h h
   rw [←h4] at this
   exact absurd h1 (Nat.not_lt.2 this)
theorem nsq_two:Sg.NSq 2:=nsq_nat (n:=2) (r:=1) (by decide) (by decide)
theorem rt_two:rt 2=1:=rt_unique (by decide) (by decide)
theorem rt_four:rt 4=2:=rt_unique (by decide) (by decide)
theorem qo:Rq 1 false ⟨#[1]⟩ ⟨#[]⟩:=⟨by rw [←mag_one];exact enc_mag 1,by rw [show (1:Rat).den=1 from rfl];exact dm_one.symm⟩
theorem qt:Rq 2 false ⟨#[2]⟩ ⟨#[]⟩:=⟨by rw [←mag_2];exact enc_mag 2,by rw [show (2:Rat).den=1 from rfl];exact dm_one.symm⟩
theorem qz:Rq 0 false ⟨#[]⟩ ⟨#[]⟩:=Rq.zero
theorem Rq.int_ {q:Rat} (h:q.den=1):∃ b m,Rq q b m ⟨#[]⟩:=by
 obtain ⟨b,m,k,hq⟩:=Rq.some_ q
 obtain rfl:=hq.den1 h
 exact ⟨b,m,hq⟩

set_option maxHeartbeats 8000000 in
theorem simp3 {bmo:Bool} {mmo:ByteArray} {bmt:Bool} {mmt:ByteArray} {bth:Bool} {mth:ByteArray} {bei:Bool} {mei:ByteArray} {bst:Bool} {mst:ByteArray} {bh3:Bool} {mh3:ByteArray} {kh3:ByteArray} {bh1:Bool} {mh1:ByteArray} {kh1:ByteArray} {bot:Bool} {mot:ByteArray} {kot:ByteArray} {bs3:Bool} {ms3:ByteArray} {ks3:ByteArray} {bt7:Bool} {mt7:ByteArray} {kt7:ByteArray} {btn:Bool} {mtn:ByteArray} {ktn:ByteArray} (qmo:Rq (-1) bmo mmo ⟨#[]⟩) (qmt:Rq (-2) bmt mmt ⟨#[]⟩) (qth:Rq (3) bth mth ⟨#[]⟩) (qei:Rq (8) bei mei ⟨#[]⟩) (qst:Rq (72) bst mst ⟨#[]⟩) (qh3:Rq (3 / 2) bh3 mh3 kh3) (qh1:Rq (1 / 2) bh1 mh1 kh1) (qot:Rq (1 / 3) bot mot kot) (qs3:Rq (7 / 3) bs3 ms3 ks3) (qt7:Rq (3 / 7) bt7 mt7 kt7) (qtn:Rq (10 / 7) btn mtn ktn) (w:World) (hE:Env w) :
  Calls Tryz.prog 109 #[.agg #[.bool false,.string ⟨#[1]⟩,.bool false,.string ⟨#[]⟩,.bool false,.string ⟨#[2]⟩,.bool false,.string ⟨#[]⟩,.bool false],.agg #[.bool bth,.string mth,.bool false,.string ⟨#[]⟩,.bool false,.string ⟨#[2]⟩,.bool false,.string ⟨#[]⟩,.bool false]] w (RetB w (.agg #[.bool bth,.string mth,.bool false,.string ⟨#[]⟩])):=by
 have HF:∀ V,Below w.heap.size w V→Calls Tryz.prog 52 #[.agg #[.bool false,.string ⟨#[1]⟩,.bool false,.string ⟨#[]⟩,.bool false,.string ⟨#[2]⟩,.bool false,.string ⟨#[]⟩,.bool false]] V (RetB V (.agg #[.bool false,.string ⟨#[2]⟩])):=fun V hb=>rfloor_f (⟨qo,qt,by decide⟩:Rv (⟨1,2,1⟩:Sg.Rl) false ⟨#[1]⟩ ⟨#[]⟩ false ⟨#[2]⟩ ⟨#[]⟩ false) (show ((⟨1,2,1⟩:Sg.Rl)).Ok from ⟨.inl rfl,.inr ⟨by decide +kernel,nsq_two⟩⟩) (by rw [show floorV (⟨1,2,1⟩:Sg.Rl)=2 from by unfold floorV fN;simp [rt_two,rt_four]<;>decide +kernel];exact qt.num) (show Rz 2000 (⟨1,2,1⟩:Sg.Rl) from ⟨(show Sz 1 _ from ⟨by decide +kernel,by decide +kernel⟩).up (by omega),(show Sz 1 _ from ⟨by decide +kernel,by decide +kernel⟩).up (by omega)⟩) V (hE.next hb)
 have HW:∀ V,Below w.heap.size w V→Calls Tryz.prog 73 #[.int .i64 (1)] V (RetB V (.agg #[.bool false,.string ⟨#[1]⟩,.bool false,.string ⟨#[]⟩])):=fun V hb=>rFromInt_f (x:=1) qo.num (by omega) (by omega) V
 have HA:∀ V,Below w.heap.size w V→Calls Tryz.prog 89 #[.agg #[.bool false,.string ⟨#[2]⟩,.bool false,.string ⟨#[]⟩],.agg #[.bool false,.string ⟨#[1]⟩,.bool false,.string ⟨#[]⟩]] V (RetB V (.agg #[.bool bth,.string mth,.bool false,.string ⟨#[]⟩])):=fun V hb=>add_z qt qo (by rw [show ((2:Rat)+(1))=3 from by decide +kernel];exact qth) ((show Sz 1 (2) from ⟨by decide +kernel,by decide +kernel⟩).up (by omega)) ((show Sz 1 (1) from ⟨by decide +kernel,by decide +kernel⟩).up (by omega)) V (hE.next hb)
 have HC:∀ V,Below w.heap.size w V→Calls Tryz.prog 38 #[.agg #[.bool bth,.string mth,.bool false,.string ⟨#[]⟩,.bool false,.string ⟨#[2]⟩,.bool false,.string ⟨#[]⟩,.bool false],.agg #[.bool bth,.string mth,.bool false,.string ⟨#[]⟩]] V (RetB V (.int .i64 (1))):=fun V hb=>by have h:=crat_f (⟨qth,qt,by decide⟩:Rv (⟨3,2,1⟩:Sg.Rl) bth mth ⟨#[]⟩ false ⟨#[2]⟩ ⟨#[]⟩ false) (show ((⟨3,2,1⟩:Sg.Rl)).Ok from ⟨.inl rfl,.inr ⟨by decide +kernel,nsq_two⟩⟩) qth (show Rz 1500 (⟨3,2,1⟩:Sg.Rl) from ⟨(show Sz 1 _ from ⟨by decide +kernel,by decide +kernel⟩).up (by omega),(show Sz 1 _ from ⟨by decide +kernel,by decide +kernel⟩).up (by omega)⟩) ((show Sz 1 (3) from ⟨by decide +kernel,by decide +kernel⟩).up (by omega)) V (hE.next hb);rw [show Sg.cmpX (⟨3,2,1⟩:Sg.Rl) (Sg.Rl.of (3))=1 from by decide +kernel] at h;exact h
 exact simp_next w (by decide) HF HW HA HC

set_option maxHeartbeats 8000000 in
theorem simp2 {bmo:Bool} {mmo:ByteArray} {bmt:Bool} {mmt:ByteArray} {bth:Bool} {mth:ByteArray} {bei:Bool} {mei:ByteArray} {bst:Bool} {mst:ByteArray} {bh3:Bool} {mh3:ByteArray} {kh3:ByteArray} {bh1:Bool} {mh1:ByteArray} {kh1:ByteArray} {bot:Bool} {mot:ByteArray} {kot:ByteArray} {bs3:Bool} {ms3:ByteArray} {ks3:ByteArray} {bt7:Bool} {mt7:ByteArray} {kt7:ByteArray} {btn:Bool} {mtn:ByteArray} {ktn:ByteArray} (qmo:Rq (-1) bmo mmo ⟨#[]⟩) (qmt:Rq (-2) bmt mmt ⟨#[]⟩) (qth:Rq (3) bth mth ⟨#[]⟩) (qei:Rq (8) bei mei ⟨#[]⟩) (qst:Rq (72) bst mst ⟨#[]⟩) (qh3:Rq (3 / 2) bh3 mh3 kh3) (qh1:Rq (1 / 2) bh1 mh1 kh1) (qot:Rq (1 / 3) bot mot kot) (qs3:Rq (7 / 3) bs3 ms3 ks3) (qt7:Rq (3 / 7) bt7 mt7 kt7) (qtn:Rq (10 / 7) btn mtn ktn) (w:World) (hE:Env w) :
  Calls Tryz.prog 109 #[.agg #[.bool false,.string ⟨#[2]⟩,.bool false,.string ⟨#[]⟩,.bool false,.string ⟨#[]⟩,.bool false,.string ⟨#[]⟩,.bool false],.agg #[.bool false,.string ⟨#[1]⟩,.bool false,.string ⟨#[]⟩,.bool false,.string ⟨#[2]⟩,.bool false,.string ⟨#[]⟩,.bool false]] w (RetB w (.agg #[.bool bs3,.string ms3,.bool false,.string ks3])):=by
 have HF:∀ V,Below w.heap.size w V→Calls Tryz.prog 52 #[.agg #[.bool false,.string ⟨#[2]⟩,.bool false,.string ⟨#[]⟩,.bool false,.string ⟨#[]⟩,.bool false,.string ⟨#[]⟩,.bool false]] V (RetB V (.agg #[.bool false,.string ⟨#[2]⟩])):=fun V hb=>rfloor_f (⟨qt,Rq.zero,by decide⟩:Rv (⟨2,0,1⟩:Sg.Rl) false ⟨#[2]⟩ ⟨#[]⟩ false ⟨#[]⟩ ⟨#[]⟩ false) (show ((⟨2,0,1⟩:Sg.Rl)).Ok from ⟨.inl rfl,.inl ⟨rfl,rfl⟩⟩) (by rw [show floorV (⟨2,0,1⟩:Sg.Rl)=2 from by unfold floorV fN;simp [rt_two,rt_four]<;>decide +kernel];exact qt.num) (show Rz 2000 (⟨2,0,1⟩:Sg.Rl) from ⟨(show Sz 1 _ from ⟨by decide +kernel,by decide +kernel⟩).up (by omega),(show Sz 1 _ from ⟨by decide +kernel,by decide +kernel⟩).up (by omega)⟩) V (hE.next hb)
 have HW:∀ V,Below w.heap.size w V→Calls Tryz.prog 73 #[.int .i64 (1)] V (RetB V (.agg #[.bool false,.string ⟨#[1]⟩,.bool false,.string ⟨#[]⟩])):=fun V hb=>rFromInt_f (x:=1) qo.num (by omega) (by omega) V
 have HA:∀ V,Below w.heap.size w V→Calls Tryz.prog 89 #[.agg #[.bool false,.string ⟨#[2]⟩,.bool false,.string ⟨#[]⟩],.agg #[.bool false,.string ⟨#[1]⟩,.bool false,.string ⟨#[]⟩]] V (RetB V (.agg #[.bool bth,.string mth,.bool false,.string ⟨#[]⟩])):=fun V hb=>add_z qt qo (by rw [show ((2:Rat)+(1))=3 from by decide +kernel];exact qth) ((show Sz 1 (2) from ⟨by decide +kernel,by decide +kernel⟩).up (by omega)) ((show Sz 1 (1) from ⟨by decide +kernel,by decide +kernel⟩).up (by omega)) V (hE.next hb)
 have HC:∀ V,Below w.heap.size w V→Calls Tryz.prog 38 #[.agg #[.bool false,.string ⟨#[1]⟩,.bool false,.string ⟨#[]⟩,.bool false,.string ⟨#[2]⟩,.bool false,.string ⟨#[]⟩,.bool false],.agg #[.bool bth,.string mth,.bool false,.string ⟨#[]⟩]] V (RetB V (.int .i64 (-1))):=fun V hb=>by have h:=crat_f (⟨qo,qt,by decide⟩:Rv (⟨1,2,1⟩:Sg.Rl) false ⟨#[1]⟩ ⟨#[]⟩ false ⟨#[2]⟩ ⟨#[]⟩ false) (show ((⟨1,2,1⟩:Sg.Rl)).Ok from ⟨.inl rfl,.inr ⟨by decide +kernel,nsq_two⟩⟩) qth (show Rz 1500 (⟨1,2,1⟩:Sg.Rl) from ⟨(show Sz 1 _ from ⟨by decide +kernel,by decide +kernel⟩).up (by omega),(show Sz 1 _ from ⟨by decide +kernel,by decide +kernel⟩).up (by omega)⟩) ((show Sz 1 (3) from ⟨by decide +kernel,by decide +kernel⟩).up (by omega)) V (hE.next hb);rw [show Sg.cmpX (⟨1,2,1⟩:Sg.Rl) (Sg.Rl.of (3))=-1 from by decide +kernel] at h;exact h
 have HN:∀ V,Below w.heap.size w V→Calls Tryz.prog 80 #[.agg #[.bool false,.string ⟨#[2]⟩,.bool false,.string ⟨#[]⟩]] V (RetB V (.agg #[.bool bmt,.string mmt,.bool false,.string ⟨#[]⟩])):=fun V hb=>ratNeg_f qt (by rw [show (-(2):Rat)=-2 from by decide +kernel];exact qmt) V
 have HS1:∀ V,Below w.heap.size w V→Calls Tryz.prog 44 #[.agg #[.bool false,.string ⟨#[2]⟩,.bool false,.string ⟨#[]⟩,.bool false,.string ⟨#[]⟩,.bool false,.string ⟨#[]⟩,.bool false],.agg #[.bool bmt,.string mmt,.bool false,.string ⟨#[]⟩]] V (RetB V (.agg #[.bool false,.string ⟨#[]⟩,.bool false,.string ⟨#[]⟩,.bool false,.string ⟨#[]⟩,.bool false,.string ⟨#[]⟩,.bool false])):=fun V hb=>rshift_f (⟨qt,Rq.zero,by decide⟩:Rv (⟨2,0,1⟩:Sg.Rl) false ⟨#[2]⟩ ⟨#[]⟩ false ⟨#[]⟩ ⟨#[]⟩ false) qmt (by rw [show (((⟨2,0,1⟩:Sg.Rl)).p+(-2):Rat)=0 from by decide +kernel];exact qz) (show Rz 5000 (⟨2,0,1⟩:Sg.Rl) from ⟨(show Sz 1 _ from ⟨by decide +kernel,by decide +kernel⟩).up (by omega),(show Sz 1 _ from ⟨by decide +kernel,by decide +kernel⟩).up (by omega)⟩) ((show Sz 1 (-2) from ⟨by decide +kernel,by decide +kernel⟩).up (by omega)) V (hE.next hb)
 have HS2:∀ V,Below w.heap.size w V→Calls Tryz.prog 44 #[.agg #[.bool false,.string ⟨#[1]⟩,.bool false,.string ⟨#[]⟩,.bool false,.string ⟨#[2]⟩,.bool false,.string ⟨#[]⟩,.bool false],.agg #[.bool bmt,.string mmt,.bool false,.string ⟨#[]⟩]] V (RetB V (.agg #[.bool bmo,.string mmo,.bool false,.string ⟨#[]⟩,.bool false,.string ⟨#[2]⟩,.bool false,.string ⟨#[]⟩,.bool false])):=fun V hb=>rshift_f (⟨qo,qt,by decide⟩:Rv (⟨1,2,1⟩:Sg.Rl) false ⟨#[1]⟩ ⟨#[]⟩ false ⟨#[2]⟩ ⟨#[]⟩ false) qmt (by rw [show (((⟨1,2,1⟩:Sg.Rl)).p+(-2):Rat)=-1 from by decide +kernel];exact qmo) (show Rz 5000 (⟨1,2,1⟩:Sg.Rl) from ⟨(show Sz 1 _ from ⟨by decide +kernel,by decide +kernel⟩).up (by omega),(show Sz 1 _ from ⟨by decide +kernel,by decide +kernel⟩).up (by omega)⟩) ((show Sz 1 (-2) from ⟨by decide +kernel,by decide +kernel⟩).up (by omega)) V (hE.next hb)
 have HI1:∀ V,Below w.heap.size w V→Calls Tryz.prog 50 #[.agg #[.bool bmo,.string mmo,.bool false,.string ⟨#[]⟩,.bool false,.string ⟨#[2]⟩,.bool false,.string ⟨#[]⟩,.bool false]] V (RetB V (.tuple #[.agg #[.bool false,.string ⟨#[1]⟩,.bool false,.string ⟨#[]⟩,.bool false,.string ⟨#[2]⟩,.bool false,.string ⟨#[]⟩,.bool false],.int .i64 0])):=fun V hb=>rinv_irr (m:=-1) (⟨qmo,qt,by decide⟩:Rv (⟨-1,2,1⟩:Sg.Rl) bmo mmo ⟨#[]⟩ false ⟨#[2]⟩ ⟨#[]⟩ false) (by decide +kernel) (by decide +kernel) (by decide +kernel) (by rw [show (((⟨-1,2,1⟩:Sg.Rl)).p*(-1):Rat)=1 from by decide +kernel];exact qo) (by rw [show (((⟨-1,2,1⟩:Sg.Rl)).a*((-1)*(-1)):Rat)=2 from by decide +kernel];exact qt) (show Rz 600 (⟨-1,2,1⟩:Sg.Rl) from ⟨(show Sz 1 _ from ⟨by decide +kernel,by decide +kernel⟩).up (by omega),(show Sz 1 _ from ⟨by decide +kernel,by decide +kernel⟩).up (by omega)⟩) V (hE.next hb)
 have HI2:∀ V,Below w.heap.size w V→Calls Tryz.prog 50 #[.agg #[.bool false,.string ⟨#[]⟩,.bool false,.string ⟨#[]⟩,.bool false,.string ⟨#[]⟩,.bool false,.string ⟨#[]⟩,.bool false]] V (RetB V (.tuple #[.agg #[.bool false,.string ⟨#[]⟩,.bool false,.string ⟨#[]⟩,.bool false,.string ⟨#[]⟩,.bool false,.string ⟨#[]⟩,.bool false],.int .i64 6])):=fun V hb=>rinv_0 V
 have HW2:∀ V,Below w.heap.size w V→Calls Tryz.prog 73 #[.int .i64 (2)] V (RetB V (.agg #[.bool false,.string ⟨#[2]⟩,.bool false,.string ⟨#[]⟩])):=fun V hb=>rFromInt_f (x:=2) qt.num (by omega) (by omega) V
 have HS3:∀ V,Below w.heap.size w V→Calls Tryz.prog 44 #[.agg #[.bool false,.string ⟨#[1]⟩,.bool false,.string ⟨#[]⟩,.bool false,.string ⟨#[2]⟩,.bool false,.string ⟨#[]⟩,.bool false],.agg #[.bool false,.string ⟨#[2]⟩,.bool false,.string ⟨#[]⟩]] V (RetB V (.agg #[.bool bth,.string mth,.bool false,.string ⟨#[]⟩,.bool false,.string ⟨#[2]⟩,.bool false,.string ⟨#[]⟩,.bool false])):=fun V hb=>rshift_f (⟨qo,qt,by decide⟩:Rv (⟨1,2,1⟩:Sg.Rl) false ⟨#[1]⟩ ⟨#[]⟩ false ⟨#[2]⟩ ⟨#[]⟩ false) qt (by rw [show (((⟨1,2,1⟩:Sg.Rl)).p+(2):Rat)=3 from by decide +kernel];exact qth) (show Rz 5000 (⟨1,2,1⟩:Sg.Rl) from ⟨(show Sz 1 _ from ⟨by decide +kernel,by decide +kernel⟩).up (by omega),(show Sz 1 _ from ⟨by decide +kernel,by decide +kernel⟩).up (by omega)⟩) ((show Sz 1 (2) from ⟨by decide +kernel,by decide +kernel⟩).up (by omega)) V (hE.next hb)
 have HR:∀ V,Below w.heap.size w V→Calls Tryz.prog 109 #[.agg #[.bool false,.string ⟨#[1]⟩,.bool false,.string ⟨#[]⟩,.bool false,.string ⟨#[2]⟩,.bool false,.string ⟨#[]⟩,.bool false],.agg #[.bool bth,.string mth,.bool false,.string ⟨#[]⟩,.bool false,.string ⟨#[2]⟩,.bool false,.string ⟨#[]⟩,.bool false]] V (RetB V (.agg #[.bool bth,.string mth,.bool false,.string ⟨#[]⟩])):=fun V hb=>simp3 qmo qmt qth qei qst qh3 qh1 qot qs3 qt7 qtn V (hE.next hb)
 have HD:∀ V,Below w.heap.size w V→Calls Tryz.prog 79 #[.agg #[.bool false,.string ⟨#[1]⟩,.bool false,.string ⟨#[]⟩],.agg #[.bool bth,.string mth,.bool false,.string ⟨#[]⟩]] V (RetB V (.agg #[.bool bot,.string mot,.bool false,.string kot])):=fun V hb=>ratio_f qo qth (by rw [show ((1) / (3):Rat)=1 / 3 from by decide +kernel];exact qot) (by decide +kernel) ((show Sz 1 (1) from ⟨by decide +kernel,by decide +kernel⟩).up (by omega)) ((show Sz 1 (3) from ⟨by decide +kernel,by decide +kernel⟩).up (by omega)) V (hE.next hb)
 have HZ:∀ V,Below w.heap.size w V→Calls Tryz.prog 89 #[.agg #[.bool false,.string ⟨#[2]⟩,.bool false,.string ⟨#[]⟩],.agg #[.bool bot,.string mot,.bool false,.string kot]] V (RetB V (.agg #[.bool bs3,.string ms3,.bool false,.string ks3])):=fun V hb=>add_z qt qot (by rw [show ((2:Rat)+(1 / 3))=7 / 3 from by decide +kernel];exact qs3) ((show Sz 1 (2) from ⟨by decide +kernel,by decide +kernel⟩).up (by omega)) ((show Sz 1 (1 / 3) from ⟨by decide +kernel,by decide +kernel⟩).up (by omega)) V (hE.next hb)
 exact simp_open w (by decide) HF HW HA HC HN HS1 HS2 HI1 HI2 HW2 HS3 HR HD HZ

set_option maxHeartbeats 8000000 in
theorem simp1 {bmo:Bool} {mmo:ByteArray} {bmt:Bool} {mmt:ByteArray} {bth:Bool} {mth:ByteArray} {bei:Bool} {mei:ByteArray} {bst:Bool} {mst:ByteArray} {bh3:Bool} {mh3:ByteArray} {kh3:ByteArray} {bh1:Bool} {mh1:ByteArray} {kh1:ByteArray} {bot:Bool} {mot:ByteArray} {kot:ByteArray} {bs3:Bool} {ms3:ByteArray} {ks3:ByteArray} {bt7:Bool} {mt7:ByteArray} {kt7:ByteArray} {btn:Bool} {mtn:ByteArray} {ktn:ByteArray} (qmo:Rq (-1) bmo mmo ⟨#[]⟩) (qmt:Rq (-2) bmt mmt ⟨#[]⟩) (qth:Rq (3) bth mth ⟨#[]⟩) (qei:Rq (8) bei mei ⟨#[]⟩) (qst:Rq (72) bst mst ⟨#[]⟩) (qh3:Rq (3 / 2) bh3 mh3 kh3) (qh1:Rq (1 / 2) bh1 mh1 kh1) (qot:Rq (1 / 3) bot mot kot) (qs3:Rq (7 / 3) bs3 ms3 ks3) (qt7:Rq (3 / 7) bt7 mt7 kt7) (qtn:Rq (10 / 7) btn mtn ktn) (w:World) (hE:Env w) :
  Calls Tryz.prog 109 #[.agg #[.bool false,.string ⟨#[]⟩,.bool false,.string ⟨#[]⟩,.bool false,.string ⟨#[2]⟩,.bool false,.string ⟨#[]⟩,.bool false],.agg #[.bool bh3,.string mh3,.bool false,.string kh3,.bool false,.string ⟨#[]⟩,.bool false,.string ⟨#[]⟩,.bool false]] w (RetB w (.agg #[.bool btn,.string mtn,.bool false,.string ktn])):=by
 have HF:∀ V,Below w.heap.size w V→Calls Tryz.prog 52 #[.agg #[.bool false,.string ⟨#[]⟩,.bool false,.string ⟨#[]⟩,.bool false,.string ⟨#[2]⟩,.bool false,.string ⟨#[]⟩,.bool false]] V (RetB V (.agg #[.bool false,.string ⟨#[1]⟩])):=fun V hb=>rfloor_f (⟨qz,qt,by decide⟩:Rv (⟨0,2,1⟩:Sg.Rl) false ⟨#[]⟩ ⟨#[]⟩ false ⟨#[2]⟩ ⟨#[]⟩ false) (show ((⟨0,2,1⟩:Sg.Rl)).Ok from ⟨.inl rfl,.inr ⟨by decide +kernel,nsq_two⟩⟩) (by rw [show floorV (⟨0,2,1⟩:Sg.Rl)=1 from by unfold floorV fN;simp [rt_two,rt_four]<;>decide +kernel];exact qo.num) (show Rz 2000 (⟨0,2,1⟩:Sg.Rl) from ⟨(show Sz 1 _ from ⟨by decide +kernel,by decide +kernel⟩).up (by omega),(show Sz 1 _ from ⟨by decide +kernel,by decide +kernel⟩).up (by omega)⟩) V (hE.next hb)
 have HW:∀ V,Below w.heap.size w V→Calls Tryz.prog 73 #[.int .i64 (1)] V (RetB V (.agg #[.bool false,.string ⟨#[1]⟩,.bool false,.string ⟨#[]⟩])):=fun V hb=>rFromInt_f (x:=1) qo.num (by omega) (by omega) V
 have HA:∀ V,Below w.heap.size w V→Calls Tryz.prog 89 #[.agg #[.bool false,.string ⟨#[1]⟩,.bool false,.string ⟨#[]⟩],.agg #[.bool false,.string ⟨#[1]⟩,.bool false,.string ⟨#[]⟩]] V (RetB V (.agg #[.bool false,.string ⟨#[2]⟩,.bool false,.string ⟨#[]⟩])):=fun V hb=>add_z qo qo (by rw [show ((1:Rat)+(1))=2 from by decide +kernel];exact qt) ((show Sz 1 (1) from ⟨by decide +kernel,by decide +kernel⟩).up (by omega)) ((show Sz 1 (1) from ⟨by decide +kernel,by decide +kernel⟩).up (by omega)) V (hE.next hb)
 have HC:∀ V,Below w.heap.size w V→Calls Tryz.prog 38 #[.agg #[.bool bh3,.string mh3,.bool false,.string kh3,.bool false,.string ⟨#[]⟩,.bool false,.string ⟨#[]⟩,.bool false],.agg #[.bool false,.string ⟨#[2]⟩,.bool false,.string ⟨#[]⟩]] V (RetB V (.int .i64 (-1))):=fun V hb=>by have h:=crat_f (⟨qh3,Rq.zero,by decide⟩:Rv (⟨3 / 2,0,1⟩:Sg.Rl) bh3 mh3 kh3 false ⟨#[]⟩ ⟨#[]⟩ false) (show ((⟨3 / 2,0,1⟩:Sg.Rl)).Ok from ⟨.inl rfl,.inl ⟨rfl,rfl⟩⟩) qt (show Rz 1500 (⟨3 / 2,0,1⟩:Sg.Rl) from ⟨(show Sz 1 _ from ⟨by decide +kernel,by decide +kernel⟩).up (by omega),(show Sz 1 _ from ⟨by decide +kernel,by decide +kernel⟩).up (by omega)⟩) ((show Sz 1 (2) from ⟨by decide +kernel,by decide +kernel⟩).up (by omega)) V (hE.next hb);rw [show Sg.cmpX (⟨3 / 2,0,1⟩:Sg.Rl) (Sg.Rl.of (2))=-1 from by decide +kernel] at h;exact h
 have HN:∀ V,Below w.heap.size w V→Calls Tryz.prog 80 #[.agg #[.bool false,.string ⟨#[1]⟩,.bool false,.string ⟨#[]⟩]] V (RetB V (.agg #[.bool bmo,.string mmo,.bool false,.string ⟨#[]⟩])):=fun V hb=>ratNeg_f qo (by rw [show (-(1):Rat)=-1 from by decide +kernel];exact qmo) V
 have HS1:∀ V,Below w.heap.size w V→Calls Tryz.prog 44 #[.agg #[.bool false,.string ⟨#[]⟩,.bool false,.string ⟨#[]⟩,.bool false,.string ⟨#[2]⟩,.bool false,.string ⟨#[]⟩,.bool false],.agg #[.bool bmo,.string mmo,.bool false,.string ⟨#[]⟩]] V (RetB V (.agg #[.bool bmo,.string mmo,.bool false,.string ⟨#[]⟩,.bool false,.string ⟨#[2]⟩,.bool false,.string ⟨#[]⟩,.bool false])):=fun V hb=>rshift_f (⟨qz,qt,by decide⟩:Rv (⟨0,2,1⟩:Sg.Rl) false ⟨#[]⟩ ⟨#[]⟩ false ⟨#[2]⟩ ⟨#[]⟩ false) qmo (by rw [show (((⟨0,2,1⟩:Sg.Rl)).p+(-1):Rat)=-1 from by decide +kernel];exact qmo) (show Rz 5000 (⟨0,2,1⟩:Sg.Rl) from ⟨(show Sz 1 _ from ⟨by decide +kernel,by decide +kernel⟩).up (by omega),(show Sz 1 _ from ⟨by decide +kernel,by decide +kernel⟩).up (by omega)⟩) ((show Sz 1 (-1) from ⟨by decide +kernel,by decide +kernel⟩).up (by omega)) V (hE.next hb)
 have HS2:∀ V,Below w.heap.size w V→Calls Tryz.prog 44 #[.agg #[.bool bh3,.string mh3,.bool false,.string kh3,.bool false,.string ⟨#[]⟩,.bool false,.string ⟨#[]⟩,.bool false],.agg #[.bool bmo,.string mmo,.bool false,.string ⟨#[]⟩]] V (RetB V (.agg #[.bool bh1,.string mh1,.bool false,.string kh1,.bool false,.string ⟨#[]⟩,.bool false,.string ⟨#[]⟩,.bool false])):=fun V hb=>rshift_f (⟨qh3,Rq.zero,by decide⟩:Rv (⟨3 / 2,0,1⟩:Sg.Rl) bh3 mh3 kh3 false ⟨#[]⟩ ⟨#[]⟩ false) qmo (by rw [show (((⟨3 / 2,0,1⟩:Sg.Rl)).p+(-1):Rat)=1 / 2 from by decide +kernel];exact qh1) (show Rz 5000 (⟨3 / 2,0,1⟩:Sg.Rl) from ⟨(show Sz 1 _ from ⟨by decide +kernel,by decide +kernel⟩).up (by omega),(show Sz 1 _ from ⟨by decide +kernel,by decide +kernel⟩).up (by omega)⟩) ((show Sz 1 (-1) from ⟨by decide +kernel,by decide +kernel⟩).up (by omega)) V (hE.next hb)
 have HI1:∀ V,Below w.heap.size w V→Calls Tryz.prog 50 #[.agg #[.bool bh1,.string mh1,.bool false,.string kh1,.bool false,.string ⟨#[]⟩,.bool false,.string ⟨#[]⟩,.bool false]] V (RetB V (.tuple #[.agg #[.bool false,.string ⟨#[2]⟩,.bool false,.string ⟨#[]⟩,.bool false,.string ⟨#[]⟩,.bool false,.string ⟨#[]⟩,.bool false],.int .i64 0])):=fun V hb=>rinv_rat qh1 (by decide +kernel) (by rw [show (1 / (1 / 2):Rat)=2 from by decide +kernel];exact qt) ((show Sz 1 (1 / 2) from ⟨by decide +kernel,by decide +kernel⟩).up (by omega)) V (hE.next hb)
 have HI2:∀ V,Below w.heap.size w V→Calls Tryz.prog 50 #[.agg #[.bool bmo,.string mmo,.bool false,.string ⟨#[]⟩,.bool false,.string ⟨#[2]⟩,.bool false,.string ⟨#[]⟩,.bool false]] V (RetB V (.tuple #[.agg #[.bool false,.string ⟨#[1]⟩,.bool false,.string ⟨#[]⟩,.bool false,.string ⟨#[2]⟩,.bool false,.string ⟨#[]⟩,.bool false],.int .i64 0])):=fun V hb=>rinv_irr (m:=-1) (⟨qmo,qt,by decide⟩:Rv (⟨-1,2,1⟩:Sg.Rl) bmo mmo ⟨#[]⟩ false ⟨#[2]⟩ ⟨#[]⟩ false) (by decide +kernel) (by decide +kernel) (by decide +kernel) (by rw [show (((⟨-1,2,1⟩:Sg.Rl)).p*(-1):Rat)=1 from by decide +kernel];exact qo) (by rw [show (((⟨-1,2,1⟩:Sg.Rl)).a*((-1)*(-1)):Rat)=2 from by decide +kernel];exact qt) (show Rz 600 (⟨-1,2,1⟩:Sg.Rl) from ⟨(show Sz 1 _ from ⟨by decide +kernel,by decide +kernel⟩).up (by omega),(show Sz 1 _ from ⟨by decide +kernel,by decide +kernel⟩).up (by omega)⟩) V (hE.next hb)
 have HR:∀ V,Below w.heap.size w V→Calls Tryz.prog 109 #[.agg #[.bool false,.string ⟨#[2]⟩,.bool false,.string ⟨#[]⟩,.bool false,.string ⟨#[]⟩,.bool false,.string ⟨#[]⟩,.bool false],.agg #[.bool false,.string ⟨#[1]⟩,.bool false,.string ⟨#[]⟩,.bool false,.string ⟨#[2]⟩,.bool false,.string ⟨#[]⟩,.bool false]] V (RetB V (.agg #[.bool bs3,.string ms3,.bool false,.string ks3])):=fun V hb=>simp2 qmo qmt qth qei qst qh3 qh1 qot qs3 qt7 qtn V (hE.next hb)
 have HD:∀ V,Below w.heap.size w V→Calls Tryz.prog 79 #[.agg #[.bool false,.string ⟨#[1]⟩,.bool false,.string ⟨#[]⟩],.agg #[.bool bs3,.string ms3,.bool false,.string ks3]] V (RetB V (.agg #[.bool bt7,.string mt7,.bool false,.string kt7])):=fun V hb=>ratio_f qo qs3 (by rw [show ((1) / (7 / 3):Rat)=3 / 7 from by decide +kernel];exact qt7) (by decide +kernel) ((show Sz 1 (1) from ⟨by decide +kernel,by decide +kernel⟩).up (by omega)) ((show Sz 1 (7 / 3) from ⟨by decide +kernel,by decide +kernel⟩).up (by omega)) V (hE.next hb)
 have HZ:∀ V,Below w.heap.size w V→Calls Tryz.prog 89 #[.agg #[.bool false,.string ⟨#[1]⟩,.bool false,.string ⟨#[]⟩],.agg #[.bool bt7,.string mt7,.bool false,.string kt7]] V (RetB V (.agg #[.bool btn,.string mtn,.bool false,.string ktn])):=fun V hb=>add_z qo qt7 (by rw [show ((1:Rat)+(3 / 7))=10 / 7 from by decide +kernel];exact qtn) ((show Sz 1 (1) from ⟨by decide +kernel,by decide +kernel⟩).up (by omega)) ((show Sz 1 (3 / 7) from ⟨by decide +kernel,by decide +kernel⟩).up (by omega)) V (hE.next hb)
 exact simp_rec w (by decide) HF HW HA HC HN HS1 HS2 HI1 HI2 HR HD HZ

set_option maxHeartbeats 8000000 in
theorem known_between {bmo:Bool} {mmo:ByteArray} {bmt:Bool} {mmt:ByteArray} {bth:Bool} {mth:ByteArray} {bei:Bool} {mei:ByteArray} {bst:Bool} {mst:ByteArray} {bh3:Bool} {mh3:ByteArray} {kh3:ByteArray} {bh1:Bool} {mh1:ByteArray} {kh1:ByteArray} {bot:Bool} {mot:ByteArray} {kot:ByteArray} {bs3:Bool} {ms3:ByteArray} {ks3:ByteArray} {bt7:Bool} {mt7:ByteArray} {kt7:ByteArray} {btn:Bool} {mtn:ByteArray} {ktn:ByteArray} (qmo:Rq (-1) bmo mmo ⟨#[]⟩) (qmt:Rq (-2) bmt mmt ⟨#[]⟩) (qth:Rq (3) bth mth ⟨#[]⟩) (qei:Rq (8) bei mei ⟨#[]⟩) (qst:Rq (72) bst mst ⟨#[]⟩) (qh3:Rq (3 / 2) bh3 mh3 kh3) (qh1:Rq (1 / 2) bh1 mh1 kh1) (qot:Rq (1 / 3) bot mot kot) (qs3:Rq (7 / 3) bs3 ms3 ks3) (qt7:Rq (3 / 7) bt7 mt7 kt7) (qtn:Rq (10 / 7) btn mtn ktn) (w:World) (hE:Env w) :
  Calls Tryz.prog 56 #[.agg #[.bool false,.string ⟨#[]⟩,.bool false,.string ⟨#[]⟩,.bool false,.string ⟨#[2]⟩,.bool false,.string ⟨#[]⟩,.bool false],.agg #[.bool bh3,.string mh3,.bool false,.string kh3,.bool false,.string ⟨#[]⟩,.bool false,.string ⟨#[]⟩,.bool false]] w (RetB w (.tuple #[.agg #[.bool btn,.string mtn,.bool false,.string ktn],.int .i64 0])):=by
 have HC1:∀ V,Below w.heap.size w V→Calls Tryz.prog 18 #[.agg #[.bool false,.string ⟨#[]⟩,.bool false,.string ⟨#[]⟩,.bool false,.string ⟨#[2]⟩,.bool false,.string ⟨#[]⟩,.bool false]] V (RetB V (.int .i64 (0))):=fun V hb=>rchk_ok (⟨qz,qt,by decide⟩:Rv (⟨0,2,1⟩:Sg.Rl) false ⟨#[]⟩ ⟨#[]⟩ false ⟨#[2]⟩ ⟨#[]⟩ false) (show ((⟨0,2,1⟩:Sg.Rl)).Ok from ⟨.inl rfl,.inr ⟨by decide +kernel,nsq_two⟩⟩) (show Rz 9000 (⟨0,2,1⟩:Sg.Rl) from ⟨(show Sz 1 _ from ⟨by decide +kernel,by decide +kernel⟩).up (by omega),(show Sz 1 _ from ⟨by decide +kernel,by decide +kernel⟩).up (by omega)⟩) V (hE.next hb)
 have HC2:∀ V,Below w.heap.size w V→Calls Tryz.prog 18 #[.agg #[.bool bh3,.string mh3,.bool false,.string kh3,.bool false,.string ⟨#[]⟩,.bool false,.string ⟨#[]⟩,.bool false]] V (RetB V (.int .i64 (0))):=fun V hb=>rchk_ok (⟨qh3,Rq.zero,by decide⟩:Rv (⟨3 / 2,0,1⟩:Sg.Rl) bh3 mh3 kh3 false ⟨#[]⟩ ⟨#[]⟩ false) (show ((⟨3 / 2,0,1⟩:Sg.Rl)).Ok from ⟨.inl rfl,.inl ⟨rfl,rfl⟩⟩) (show Rz 9000 (⟨3 / 2,0,1⟩:Sg.Rl) from ⟨(show Sz 1 _ from ⟨by decide +kernel,by decide +kernel⟩).up (by omega),(show Sz 1 _ from ⟨by decide +kernel,by decide +kernel⟩).up (by omega)⟩) V (hE.next hb)
 have HC:∀ V,Below w.heap.size w V→Calls Tryz.prog 34 #[.agg #[.bool false,.string ⟨#[]⟩,.bool false,.string ⟨#[]⟩,.bool false,.string ⟨#[2]⟩,.bool false,.string ⟨#[]⟩,.bool false],.agg #[.bool bh3,.string mh3,.bool false,.string kh3,.bool false,.string ⟨#[]⟩,.bool false,.string ⟨#[]⟩,.bool false]] V (RetB V (.int .i64 (-1))):=fun V hb=>by have h:=cmp_yrat (⟨qz,qt,by decide⟩:Rv (⟨0,2,1⟩:Sg.Rl) false ⟨#[]⟩ ⟨#[]⟩ false ⟨#[2]⟩ ⟨#[]⟩ false) (⟨qh3,Rq.zero,by decide⟩:Rv (⟨3 / 2,0,1⟩:Sg.Rl) bh3 mh3 kh3 false ⟨#[]⟩ ⟨#[]⟩ false) (show ((⟨0,2,1⟩:Sg.Rl)).Ok from ⟨.inl rfl,.inr ⟨by decide +kernel,nsq_two⟩⟩) (by decide +kernel) (show Rz 1500 (⟨0,2,1⟩:Sg.Rl) from ⟨(show Sz 1 _ from ⟨by decide +kernel,by decide +kernel⟩).up (by omega),(show Sz 1 _ from ⟨by decide +kernel,by decide +kernel⟩).up (by omega)⟩) (show Rz 1500 (⟨3 / 2,0,1⟩:Sg.Rl) from ⟨(show Sz 1 _ from ⟨by decide +kernel,by decide +kernel⟩).up (by omega),(show Sz 1 _ from ⟨by decide +kernel,by decide +kernel⟩).up (by omega)⟩) V (hE.next hb);rw [show Sg.cmpX (⟨0,2,1⟩:Sg.Rl) (Sg.Rl.of ((⟨3 / 2,0,1⟩:Sg.Rl)).p)=-1 from by decide +kernel] at h;exact h
 have HI:∀ V,Below w.heap.size w V→Calls Tryz.prog 70 #[.agg #[.bool false,.string ⟨#[]⟩,.bool false,.string ⟨#[]⟩,.bool false,.string ⟨#[2]⟩,.bool false,.string ⟨#[]⟩,.bool false]] V (RetB V (.bool false)):=fun V hb=>isRat_no (⟨qz,qt,by decide⟩:Rv (⟨0,2,1⟩:Sg.Rl) false ⟨#[]⟩ ⟨#[]⟩ false ⟨#[2]⟩ ⟨#[]⟩ false) (by decide +kernel) V
 have HS:∀ V,Below w.heap.size w V→Calls Tryz.prog 39 #[.agg #[.bool false,.string ⟨#[]⟩,.bool false,.string ⟨#[]⟩,.bool false,.string ⟨#[2]⟩,.bool false,.string ⟨#[]⟩,.bool false]] V (RetB V (.int .i64 1)):=fun V hb=>by have h:=rsgn_f (⟨qz,qt,by decide⟩:Rv (⟨0,2,1⟩:Sg.Rl) false ⟨#[]⟩ ⟨#[]⟩ false ⟨#[2]⟩ ⟨#[]⟩ false) (show ((⟨0,2,1⟩:Sg.Rl)).Ok from ⟨.inl rfl,.inr ⟨by decide +kernel,nsq_two⟩⟩) (show Rz 1500 (⟨0,2,1⟩:Sg.Rl) from ⟨(show Sz 1 _ from ⟨by decide +kernel,by decide +kernel⟩).up (by omega),(show Sz 1 _ from ⟨by decide +kernel,by decide +kernel⟩).up (by omega)⟩) V (hE.next hb);rw [show Sg.cmpX (⟨0,2,1⟩:Sg.Rl) (Sg.Rl.of 0)=1 from by decide +kernel] at h;exact h
 have HR:∀ V,Below w.heap.size w V→Calls Tryz.prog 109 #[.agg #[.bool false,.string ⟨#[]⟩,.bool false,.string ⟨#[]⟩,.bool false,.string ⟨#[2]⟩,.bool false,.string ⟨#[]⟩,.bool false],.agg #[.bool bh3,.string mh3,.bool false,.string kh3,.bool false,.string ⟨#[]⟩,.bool false,.string ⟨#[]⟩,.bool false]] V (RetB V (.agg #[.bool btn,.string mtn,.bool false,.string ktn])):=fun V hb=>simp1 qmo qmt qth qei qst qh3 qh1 qot qs3 qt7 qtn V (hE.next hb)
 exact btw_pos w (by decide) (by decide) HC1 HC2 HC HI HS HR
end Go.Proofs.YtpnokfgplnmjpaaGreatDoor


namespace Go.Proofs.YtpnokfgplnmjpaaGreatDoor
open Go.RowKit
attribute [local go_sem ↓] Go.wp_at_zero Go.wp_at_succ

theorem mk_irr {p q r a:Rat} {s:Int} (h:¬Sg.Sq r) (hq:q≠0) (ha:q*q*r=a) (hs:(if q<0 then -1 else 1)=s):Sg.mkR p q r=⟨p,a,s⟩:=by
 unfold Sg.mkR
 rw [if_neg h,if_neg hq,ha,hs]
theorem sum_irr {p r:Rat} {s:Int} (h:¬Sg.Sq r):Sg.sumP p s r=⟨p,r,if s<0 then -1 else 1⟩:=by
 unfold Sg.sumP
 rw [if_neg h]

set_option maxHeartbeats 8000000 in
set_option maxRecDepth 100000 in
theorem root_w {p q r:Int} {b1 b2 b3:Bool} {m1 m2 m3:ByteArray} {b4 c4 s4:Bool} {m4 k4 n4 l4:ByteArray} (h1:enc p=.agg #[.bool b1,.string m1]) (u1:-9223372036854775808≤p) (v1:p≤9223372036854775807) (h2:enc q=.agg #[.bool b2,.string m2]) (u2:-9223372036854775808≤q) (v2:q≤9223372036854775807) (h3:enc r=.agg #[.bool b3,.string m3]) (u3:-9223372036854775808≤r) (v3:r≤9223372036854775807) (HM:∀ V,Calls Tryz.prog 29 #[.agg #[.bool b1,.string m1,.bool false,.string ⟨#[]⟩],.agg #[.bool b2,.string m2,.bool false,.string ⟨#[]⟩],.agg #[.bool b3,.string m3,.bool false,.string ⟨#[]⟩]] V (RetB V (.agg #[.bool b4,.string m4,.bool false,.string k4,.bool c4,.string n4,.bool false,.string l4,.bool s4]))) (w:World) :
  Calls Tryz.prog 67 #[.int .i64 p,.int .i64 q,.int .i64 r] w (RetB w (.agg #[.bool b4,.string m4,.bool false,.string k4,.bool c4,.string n4,.bool false,.string l4,.bool s4])):=by
 have C4:=Lib.hid (fun V (_:Below w.heap.size w V)=>HM V)
 have C1:=kn w (whole_f h1 u1 v1)
 have C2:=kn w (whole_f h2 u2 v2)
 have C3:=kn w (whole_f h3 u3 v3)
 have RS:=Lib.hid Tryz.results67
 clear HM h1 u1 v1 h2 u2 v2 h3 u3 v3
 go_enter Tryz.func67,Tryz.ntmps67
 exact wk0

set_option maxHeartbeats 8000000 in
set_option maxRecDepth 100000 in
theorem known_w {bmo:Bool} {mmo:ByteArray} {bmt:Bool} {mmt:ByteArray} {bth:Bool} {mth:ByteArray} {bei:Bool} {mei:ByteArray} {bst:Bool} {mst:ByteArray} {bh3:Bool} {mh3:ByteArray} {kh3:ByteArray} {bh1:Bool} {mh1:ByteArray} {kh1:ByteArray} {bot:Bool} {mot:ByteArray} {kot:ByteArray} {bs3:Bool} {ms3:ByteArray} {ks3:ByteArray} {bt7:Bool} {mt7:ByteArray} {kt7:ByteArray} {btn:Bool} {mtn:ByteArray} {ktn:ByteArray} (qmo:Rq (-1) bmo mmo ⟨#[]⟩) (qmt:Rq (-2) bmt mmt ⟨#[]⟩) (qth:Rq (3) bth mth ⟨#[]⟩) (qei:Rq (8) bei mei ⟨#[]⟩) (qst:Rq (72) bst mst ⟨#[]⟩) (qh3:Rq (3 / 2) bh3 mh3 kh3) (qh1:Rq (1 / 2) bh1 mh1 kh1) (qot:Rq (1 / 3) bot mot kot) (qs3:Rq (7 / 3) bs3 ms3 ks3) (qt7:Rq (3 / 7) bt7 mt7 kt7) (qtn:Rq (10 / 7) btn mtn ktn) (w:World) (hE:Env w) :
  Calls Tryz.prog 15 #[] w (RetB w (.bool true)):=by
 have C16:=Lib.hid (show ∀ V,Below w.heap.size w V→Calls Tryz.prog 34 #[.agg #[.bool false,.string ⟨#[1]⟩,.bool false,.string ⟨#[]⟩,.bool false,.string ⟨#[2]⟩,.bool false,.string ⟨#[]⟩,.bool true],.agg #[.bool false,.string ⟨#[1]⟩,.bool false,.string ⟨#[]⟩,.bool false,.string ⟨#[2]⟩,.bool false,.string ⟨#[]⟩,.bool false]] V (RetB V (.int .i64 (-1))) from fun V hb=>by have h:=cmp_irr (⟨qo,qt,by decide⟩:Rv (⟨1,2,-1⟩:Sg.Rl) false ⟨#[1]⟩ ⟨#[]⟩ false ⟨#[2]⟩ ⟨#[]⟩ true) (⟨qo,qt,by decide⟩:Rv (⟨1,2,1⟩:Sg.Rl) false ⟨#[1]⟩ ⟨#[]⟩ false ⟨#[2]⟩ ⟨#[]⟩ false) (show ((⟨1,2,-1⟩:Sg.Rl)).Ok from ⟨.inr rfl,.inr ⟨by decide +kernel,nsq_two⟩⟩) (show ((⟨1,2,1⟩:Sg.Rl)).Ok from ⟨.inl rfl,.inr ⟨by decide +kernel,nsq_two⟩⟩) (by decide +kernel) (by decide +kernel) (show Rz 500 (⟨1,2,-1⟩:Sg.Rl) from ⟨(show Sz 1 _ from ⟨by decide +kernel,by decide +kernel⟩).up (by omega),(show Sz 1 _ from ⟨by decide +kernel,by decide +kernel⟩).up (by omega)⟩) (show Rz 500 (⟨1,2,1⟩:Sg.Rl) from ⟨(show Sz 1 _ from ⟨by decide +kernel,by decide +kernel⟩).up (by omega),(show Sz 1 _ from ⟨by decide +kernel,by decide +kernel⟩).up (by omega)⟩) (.inr (.inr ⟨rfl,rfl,rfl⟩)) V (hE.next hb);rw [show Sg.cmpP ((⟨1,2,-1⟩:Sg.Rl).p-(⟨1,2,1⟩:Sg.Rl).p) (⟨1,2,-1⟩:Sg.Rl).s (⟨1,2,-1⟩:Sg.Rl).a (⟨1,2,1⟩:Sg.Rl).s (⟨1,2,1⟩:Sg.Rl).a=-1 from by decide +kernel] at h;exact h)
 have HRo:=Lib.hid (show ∀ V,Below w.heap.size w V→Calls Tryz.prog 31 #[.agg #[.bool bmo,.string mmo,.bool false,.string ⟨#[]⟩,.bool bmt,.string mmt,.bool false,.string ⟨#[]⟩,.bool false,.string ⟨#[1]⟩,.bool false,.string ⟨#[]⟩]] V (RetLs V #[.bool false,.string ⟨#[1]⟩,.bool false,.string ⟨#[]⟩,.bool false,.string ⟨#[2]⟩,.bool false,.string ⟨#[]⟩,.bool true,.bool false,.string ⟨#[1]⟩,.bool false,.string ⟨#[]⟩,.bool false,.string ⟨#[2]⟩,.bool false,.string ⟨#[]⟩,.bool false] 27 2) from fun V hb=>roots_two_false (p:=1) qmo qmt qo (by decide +kernel) ((show Sz 1 (-1) from ⟨by decide +kernel,by decide +kernel⟩).up (by omega)) ((show Sz 1 (-2) from ⟨by decide +kernel,by decide +kernel⟩).up (by omega)) ((show Sz 1 (1) from ⟨by decide +kernel,by decide +kernel⟩).up (by omega)) (by decide +kernel) (by decide +kernel) (show Rv (Sg.sumP 1 (-1) ((1:Rat)*1 - -1 / 1)) false ⟨#[1]⟩ ⟨#[]⟩ false ⟨#[2]⟩ ⟨#[]⟩ true from by rw [show ((1:Rat)*1 - -1 / 1)=2 from by decide +kernel,show Sg.sumP 1 (-1) 2=(⟨1,2,-1⟩:Sg.Rl) from sum_irr (Sg.nsq_sq.1 nsq_two)];exact (⟨qo,qt,by decide⟩:Rv (⟨1,2,-1⟩:Sg.Rl) false ⟨#[1]⟩ ⟨#[]⟩ false ⟨#[2]⟩ ⟨#[]⟩ true)) (show Rv (Sg.sumP 1 (1) ((1:Rat)*1 - -1 / 1)) false ⟨#[1]⟩ ⟨#[]⟩ false ⟨#[2]⟩ ⟨#[]⟩ false from by rw [show ((1:Rat)*1 - -1 / 1)=2 from by decide +kernel,show Sg.sumP 1 (1) 2=(⟨1,2,1⟩:Sg.Rl) from sum_irr (Sg.nsq_sq.1 nsq_two)];exact (⟨qo,qt,by decide⟩:Rv (⟨1,2,1⟩:Sg.Rl) false ⟨#[1]⟩ ⟨#[]⟩ false ⟨#[2]⟩ ⟨#[]⟩ false)) V (hE.next hb))
 have C1:=kn w (whole_f (x:=-1) qmo.num (by omega) (by omega))
 have C2:=kn w (whole_f (x:=-2) qmt.num (by omega) (by omega))
 have C3:=kn w (whole_f (x:=1) qo.num (by omega) (by omega))
 have C4:=kn w (whole_f (x:=0) qz.num (by omega) (by omega))
 have C5:=kn w (whole_f (x:=3) qth.num (by omega) (by omega))
 have C6:=kn w (whole_f (x:=8) qei.num (by omega) (by omega))
 have C7:=kn w (whole_f (x:=72) qst.num (by omega) (by omega))
 have C8:=kn w (root_w (p:=0) (q:=1) (r:=2) qz.num (by omega) (by omega) qo.num (by omega) (by omega) qt.num (by omega) (by omega) (fun V=>fmk_f qz qo qt ((show Sz 1 (0) from ⟨by decide +kernel,by decide +kernel⟩).up (by omega)) ((show Sz 1 (1) from ⟨by decide +kernel,by decide +kernel⟩).up (by omega)) ((show Sz 1 (2) from ⟨by decide +kernel,by decide +kernel⟩).up (by omega)) (show Rv (Sg.mkR (0) (1) (2)) false ⟨#[]⟩ ⟨#[]⟩ false ⟨#[2]⟩ ⟨#[]⟩ false from by rw [show Sg.mkR (0) (1) (2)=(⟨0,2,1⟩:Sg.Rl) from mk_irr (Sg.nsq_sq.1 nsq_two) (by decide +kernel) (by decide +kernel) (by decide +kernel)];exact (⟨qz,qt,by decide⟩:Rv (⟨0,2,1⟩:Sg.Rl) false ⟨#[]⟩ ⟨#[]⟩ false ⟨#[2]⟩ ⟨#[]⟩ false)) V))
 have C9:=kn w (root_w (p:=1) (q:=-1) (r:=2) qo.num (by omega) (by omega) qmo.num (by omega) (by omega) qt.num (by omega) (by omega) (fun V=>fmk_f qo qmo qt ((show Sz 1 (1) from ⟨by decide +kernel,by decide +kernel⟩).up (by omega)) ((show Sz 1 (-1) from ⟨by decide +kernel,by decide +kernel⟩).up (by omega)) ((show Sz 1 (2) from ⟨by decide +kernel,by decide +kernel⟩).up (by omega)) (show Rv (Sg.mkR (1) (-1) (2)) false ⟨#[1]⟩ ⟨#[]⟩ false ⟨#[2]⟩ ⟨#[]⟩ true from by rw [show Sg.mkR (1) (-1) (2)=(⟨1,2,-1⟩:Sg.Rl) from mk_irr (Sg.nsq_sq.1 nsq_two) (by decide +kernel) (by decide +kernel) (by decide +kernel)];exact (⟨qo,qt,by decide⟩:Rv (⟨1,2,-1⟩:Sg.Rl) false ⟨#[1]⟩ ⟨#[]⟩ false ⟨#[2]⟩ ⟨#[]⟩ true)) V))
 have C10:=kn w (root_w (p:=1) (q:=1) (r:=2) qo.num (by omega) (by omega) qo.num (by omega) (by omega) qt.num (by omega) (by omega) (fun V=>fmk_f qo qo qt ((show Sz 1 (1) from ⟨by decide +kernel,by decide +kernel⟩).up (by omega)) ((show Sz 1 (1) from ⟨by decide +kernel,by decide +kernel⟩).up (by omega)) ((show Sz 1 (2) from ⟨by decide +kernel,by decide +kernel⟩).up (by omega)) (show Rv (Sg.mkR (1) (1) (2)) false ⟨#[1]⟩ ⟨#[]⟩ false ⟨#[2]⟩ ⟨#[]⟩ false from by rw [show Sg.mkR (1) (1) (2)=(⟨1,2,1⟩:Sg.Rl) from mk_irr (Sg.nsq_sq.1 nsq_two) (by decide +kernel) (by decide +kernel) (by decide +kernel)];exact (⟨qo,qt,by decide⟩:Rv (⟨1,2,1⟩:Sg.Rl) false ⟨#[1]⟩ ⟨#[]⟩ false ⟨#[2]⟩ ⟨#[]⟩ false)) V))
 have C11:=kn w (rOf_f (x:=3) (y:=2) (show Rq (Rat.divInt 3 2) bh3 mh3 kh3 from by rw [show Rat.divInt 3 2=3 / 2 from by decide +kernel];exact qh3) (by omega) (by omega) (by omega) (by omega) (by omega))
 have C12:=kn w (rOf_f (x:=10) (y:=7) (show Rq (Rat.divInt 10 7) btn mtn ktn from by rw [show Rat.divInt 10 7=10 / 7 from by decide +kernel];exact qtn) (by omega) (by omega) (by omega) (by omega) (by omega))
 have C13:=kn w (of_any bh3 mh3 kh3)
 have C14:=ke hE (known_between qmo qmt qth qei qst qh3 qh1 qot qs3 qt7 qtn)
 have C15:=ke hE (rmk_f qz qth qei (by decide +kernel) ((show Sz 1 (0) from ⟨by decide +kernel,by decide +kernel⟩).up (by omega)) ((show Sz 1 (3) from ⟨by decide +kernel,by decide +kernel⟩).up (by omega)) ((show Sz 1 (8) from ⟨by decide +kernel,by decide +kernel⟩).up (by omega)) (show Rv (Sg.mkR 0 3 8) false ⟨#[]⟩ ⟨#[]⟩ bst mst ⟨#[]⟩ false from by rw [show Sg.mkR 0 3 8=(⟨0,72,1⟩:Sg.Rl) from mk_irr (Sg.nsq_sq.1 (nsq_nat (n:=8) (r:=2) (by decide) (by decide))) (by decide +kernel) (by decide +kernel) (by decide +kernel)];exact (⟨qz,qst,by decide⟩:Rv (⟨0,72,1⟩:Sg.Rl) false ⟨#[]⟩ ⟨#[]⟩ bst mst ⟨#[]⟩ false)))
 have Z1:Hid (∀ {p:Prop} (h:p:=by ((go_at_call 31;(with_reducible refine (HRo.out _ X.out.bel).mono ?_);rintro e u ⟨gl,rfl,hlo,hk9,hb9⟩;replace X:=Lib.hid (X.out.add hb9 hlo hk9);clear hb9 hlo hk9;replace F:=X.out.facts;simp only [Facts,cellsAt,List.take_succ_cons,List.take_zero,Nat.reduceAdd,and_true,List.set_cons_succ,List.set_cons_zero,List.cons_append,List.nil_append] at F);all_goals exact wk)),p):=@fun _ h=>h
 clear qmo qmt qth qei qst qh3 qh1 qot qs3 qt7 qtn hE
 go_enter Tryz.func15,Tryz.ntmps15
 exact wk0

theorem rknown3 (w:World) (hE:Env w):Calls Tryz.prog 15 #[] w (RetB w (.bool true)):=by
 obtain ⟨bmo,mmo,qmo⟩:=Rq.int_ (q:=-1) rfl
 obtain ⟨bmt,mmt,qmt⟩:=Rq.int_ (q:=-2) rfl
 obtain ⟨bth,mth,qth⟩:=Rq.int_ (q:=3) rfl
 obtain ⟨bei,mei,qei⟩:=Rq.int_ (q:=8) rfl
 obtain ⟨bst,mst,qst⟩:=Rq.int_ (q:=72) rfl
 obtain ⟨bh3,mh3,kh3,qh3⟩:=Rq.some_ (3 / 2)
 obtain ⟨bh1,mh1,kh1,qh1⟩:=Rq.some_ (1 / 2)
 obtain ⟨bot,mot,kot,qot⟩:=Rq.some_ (1 / 3)
 obtain ⟨bs3,ms3,ks3,qs3⟩:=Rq.some_ (7 / 3)
 obtain ⟨bt7,mt7,kt7,qt7⟩:=Rq.some_ (3 / 7)
 obtain ⟨btn,mtn,ktn,qtn⟩:=Rq.some_ (10 / 7)
 exact known_w qmo qmt qth qei qst qh3 qh1 qot qs3 qt7 qtn w hE
end Go.Proofs.YtpnokfgplnmjpaaGreatDoor


namespace Go.Proofs.YtpnokfgplnmjpaaGreatDoor
open Go.RowKit
attribute [local go_sem ↓] Go.wp_at_zero Go.wp_at_succ

end Go.Proofs.YtpnokfgplnmjpaaGreatDoor


namespace Go.Proofs.YtpnokfgplnmjpaaGreatDoor
open Go.RowKit
attribute [local go_sem ↓] Go.wp_at_zero Go.wp_at_succ

end Go.Proofs.YtpnokfgplnmjpaaGreatDoor


namespace Go.Proofs.YtpnokfgplnmjpaaGreatDoor
open Go.RowKit

theorem ftext_60 {q:Rat} (z:Sz 60 q):(ftext q).length≤400:=by
 have h:(256:Nat)^60≤10^(149+1):=by decide
 have:=ftext_len (n:=149) (Nat.lt_of_lt_of_le z.1 h) (Nat.lt_of_lt_of_le z.2 h)
 omega
theorem rtext_rat {x:Sg.Rl} (h:x.a=0):rtext x=ftext x.p:=by unfold rtext;rw [if_pos h]
theorem rtext_irr {x:Sg.Rl} (h:x.a≠0):rtext x=(ftext x.p++[if x.s<0 then 45 else 43])++([115,113,114,116,40]++(ftext x.a++[41])):=by unfold rtext;rw [if_neg h]

theorem pprint_f {x:Sg.Rl} {b1 c1 s1:Bool} {m1 k1 n1 l1:ByteArray} (hx:Rv x b1 m1 k1 c1 n1 l1 s1) (ok:x.Ok) (z:Rz 60 x) (w:World) (hE:EnvM w) :
  Calls Tryz.prog 63 #[.agg #[.bool b1,.string m1,.bool false,.string k1,.bool c1,.string n1,.bool false,.string l1,.bool s1]] w (RetB w (.string ⟨(rtext x).toArray⟩)):=by
 have t1:=ftext_60 z.p
 have t2:=ftext_60 z.r
 by_cases h0:x.a=0
 · have hr:=hx.r
   rw [h0] at hr
   obtain ⟨rfl,rfl,rfl⟩:=hr.nought.1 rfl
   obtain rfl:s1=false:=by rw [hx.neg];exact ok_sign ok h0
   rw [rtext_rat h0]
   exact print_rat w (fun V _=>isRat_yes _ _ _ _ V) (fun V hb=>print_f hx.p z.p V (hE.next hb).env)
 · rw [rtext_irr h0]
   have hs:=hx.neg
   cases s1
   · have h1:¬x.s<0:=of_decide_eq_false hs.symm
     rw [if_neg h1]
     have h:=print_irr_false w (t:=⟨(ftext x.p).toArray⟩) (v:=⟨(ftext x.a).toArray⟩) (by rw [list_size];omega) (by rw [list_size];omega) (fun V _=>isRat_no hx h0 V) (fun V hb=>print_f hx.p z.p V (hE.next hb).env) (fun V hb=>print_f hx.r z.r V (hE.next hb).env)
     have e:((((⟨(ftext x.p).toArray⟩++⟨#[43]⟩)++⟨#[115,113,114,116,40]⟩)++⟨(ftext x.a).toArray⟩)++⟨#[41]⟩:ByteArray)=⟨((ftext x.p++[43])++([115,113,114,116,40]++(ftext x.a++[41]))).toArray⟩:=by
      apply ByteArray.ext
      simp
     rwa [e] at h
   · have h1:x.s<0:=of_decide_eq_true hs.symm
     rw [if_pos h1]
     have h:=print_irr_true w (t:=⟨(ftext x.p).toArray⟩) (v:=⟨(ftext x.a).toArray⟩) (by rw [list_size];omega) (by rw [list_size];omega) (fun V _=>isRat_no hx h0 V) (fun V hb=>print_f hx.p z.p V (hE.next hb).env) (fun V hb=>print_f hx.r z.r V (hE.next hb).env)
     have e:((((⟨(ftext x.p).toArray⟩++⟨#[45]⟩)++⟨#[115,113,114,116,40]⟩)++⟨(ftext x.a).toArray⟩)++⟨#[41]⟩:ByteArray)=⟨((ftext x.p++[45])++([115,113,114,116,40]++(ftext x.a++[41]))).toArray⟩:=by
      apply ByteArray.ext
      simp
     rwa [e] at h
theorem fprint_f {x:Sg.Rl} {b1 c1 s1:Bool} {m1 k1 n1 l1:ByteArray} (hx:Rv x b1 m1 k1 c1 n1 l1 s1) (ok:x.Ok) (z:Rz 60 x) (w:World) :
  Calls Tryz.prog 65 #[.agg #[.bool b1,.string m1,.bool false,.string k1,.bool c1,.string n1,.bool false,.string l1,.bool s1]] w (RetB w (.string ⟨(rtext x).toArray⟩)):=by
 have t1:=ftext_60 z.p
 have t2:=ftext_60 z.r
 by_cases h0:x.a=0
 · have hr:=hx.r
   rw [h0] at hr
   obtain ⟨rfl,rfl,rfl⟩:=hr.nought.1 rfl
   obtain rfl:s1=false:=by rw [hx.neg];exact ok_sign ok h0
   rw [rtext_rat h0]
   exact fprint_rat w (fun V _=>rprint_f hx.p z.p V) (fun V _=>zero_any V)
 · rw [rtext_irr h0]
   have hs:=hx.neg
   cases s1
   · have h1:¬x.s<0:=of_decide_eq_false hs.symm
     rw [if_neg h1]
     have h:=fprint_irr_false w (t:=⟨(ftext x.p).toArray⟩) (v:=⟨(ftext x.a).toArray⟩) (by rw [list_size];omega) (by rw [list_size];omega) (hx.r.ne h0) (fun V _=>rprint_f hx.p z.p V) (fun V _=>zero_any V) (fun V _=>rprint_f hx.r z.r V)
     have e:(((⟨(ftext x.p).toArray⟩++⟨#[43,115,113,114,116,40]⟩)++⟨(ftext x.a).toArray⟩)++⟨#[41]⟩:ByteArray)=⟨((ftext x.p++[43])++([115,113,114,116,40]++(ftext x.a++[41]))).toArray⟩:=by
      apply ByteArray.ext
      simp
     rwa [e] at h
   · have h1:x.s<0:=of_decide_eq_true hs.symm
     rw [if_pos h1]
     have h:=fprint_irr_true w (t:=⟨(ftext x.p).toArray⟩) (v:=⟨(ftext x.a).toArray⟩) (by rw [list_size];omega) (by rw [list_size];omega) (hx.r.ne h0) (fun V _=>rprint_f hx.p z.p V) (fun V _=>zero_any V) (fun V _=>rprint_f hx.r z.r V)
     have e:(((⟨(ftext x.p).toArray⟩++⟨#[45,115,113,114,116,40]⟩)++⟨(ftext x.a).toArray⟩)++⟨#[41]⟩:ByteArray)=⟨((ftext x.p++[45])++([115,113,114,116,40]++(ftext x.a++[41]))).toArray⟩:=by
      apply ByteArray.ext
      simp
     rwa [e] at h

end Go.Proofs.YtpnokfgplnmjpaaGreatDoor


namespace Go.Proofs.YtpnokfgplnmjpaaGreatDoor
open Go.RowKit
attribute [local go_sem ↓] Go.wp_at_zero Go.wp_at_succ

theorem Sz.whole {n:Int} (h:n.natAbs≤255):Sz 1 (n:Rat):=⟨by show (n:Rat).num.natAbs<256^1;rw [Rat.num_intCast];omega,by show (n:Rat).den<256^1;rw [Rat.den_intCast];decide⟩
end Go.Proofs.YtpnokfgplnmjpaaGreatDoor
