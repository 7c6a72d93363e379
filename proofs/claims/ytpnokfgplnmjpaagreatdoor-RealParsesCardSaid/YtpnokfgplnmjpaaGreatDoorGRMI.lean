import Derived.Test.YtpnokfgplnmjpaaGreatDoorGRHE
import Derived.Lib.IndexMore
import Derived.Test.YtpnokfgplnmjpaaGreatDoorGRCA
import Derived.Test.YtpnokfgplnmjpaaGreatDoorGRCB
import Derived.Test.YtpnokfgplnmjpaaGreatDoorGRHB
import Derived.Test.YtpnokfgplnmjpaaGreatDoorGQW
import Derived.Test.YtpnokfgplnmjpaaGreatDoorGQT
set_option linter.unusedSimpArgs false
set_option linter.unusedVariables false

namespace Go.Proofs.YtpnokfgplnmjpaaGreatDoor
open Go.RowKit

theorem index_no {c:UInt8} {t:List UInt8}:∀ l:List UInt8,(∀ b∈l,b≠c)→Lib.index l (c :: t)=-1
 | [],_=>rfl
 | b :: l,h=>by
   have h1:(c :: t).isPrefixOf (b :: l)=false:=by
    have h2:(c==b)=false:=by simpa using (h b (by simp)).symm
    simp [List.isPrefixOf,h2]
   unfold Lib.index
   rw [h1,index_no l (fun x hx=>h x (by simp [hx]))]
   rfl
theorem index_at {c:UInt8} {t r:List UInt8}:∀ p:List UInt8,(∀ b∈p,b≠c)→Lib.index (p++(c :: t++r)) (c :: t)=p.length
 | [],_=>by
   have h1:(c :: t).isPrefixOf (c :: t++r)=true:=by rw [List.isPrefixOf_iff_prefix];exact ⟨r,rfl⟩
   rw [List.nil_append,List.cons_append]
   unfold Lib.index
   rw [List.cons_append] at h1
   rw [h1]
   rfl
 | b :: p,h=>by
   have h1:(c :: t).isPrefixOf (b :: (p++(c :: t++r)))=false:=by
    have h2:(c==b)=false:=by simpa using (h b (by simp)).symm
    simp [List.isPrefixOf,h2]
   rw [List.cons_append]
   unfold Lib.index
   rw [h1,index_at p (fun x hx=>h x (by simp [hx]))]
   have h3:(((p.length:Nat):Int)==-1)=false:=by rw [beq_eq_false_iff_ne];omega
   rw [h3]
   simp
theorem cut_no {c:UInt8} {t l:List UInt8} (h:∀ b∈l,b≠c):Lib.cut l (c :: t)=(l,[],false):=by
 unfold Lib.cut
 rw [index_no l h]
 rfl
theorem cut_at {c:UInt8} {t r p:List UInt8} (h:∀ b∈p,b≠c):Lib.cut (p++(c :: t++r)) (c :: t)=(p,r,true):=by
 unfold Lib.cut
 rw [index_at p h,if_pos (by omega)]
 simp
theorem cut_len (l s:List UInt8):(Lib.cut l s).1.length≤l.length∧(Lib.cut l s).2.1.length≤l.length:=by
 unfold Lib.cut
 split
 · simp;omega
 · simp
theorem suffix_len (l s:List UInt8):(Lib.trimSuffix l s).length≤l.length:=by
 unfold Lib.trimSuffix
 split<;>simp
theorem prefix_len (l s:List UInt8):(Lib.trimPrefix l s).length≤l.length:=by
 unfold Lib.trimPrefix
 split<;>simp
theorem suffix_at (p s:List UInt8):Lib.trimSuffix (p++s) s=p∧Lib.hasSuffix (p++s) s=true:=by
 have h:Lib.hasSuffix (p++s) s=true:=by unfold Lib.hasSuffix;rw [List.isSuffixOf_iff_suffix];exact ⟨p,rfl⟩
 refine ⟨?_,h⟩
 unfold Lib.trimSuffix
 rw [if_pos h]
 simp
theorem suffix_no {c:UInt8} {p:List UInt8} (h:∀ q,p≠q++[c]):Lib.trimSuffix p [c]=p∧Lib.hasSuffix p [c]=false:=by
 have h1:Lib.hasSuffix p [c]=false:=by
  rw [←Bool.not_eq_true]
  unfold Lib.hasSuffix
  rw [List.isSuffixOf_iff_suffix]
  rintro ⟨q,e⟩
  exact h q e.symm
 refine ⟨?_,h1⟩
 unfold Lib.trimSuffix
 rw [if_neg (by rw [h1];decide)]
theorem snoc_ne {p q:List UInt8} {c d:UInt8} (h:d≠c):p++[d]≠q++[c]:=fun e=>h (by simpa using (List.append_inj' e rfl).2)

def fbody (q:Rat):List UInt8:=if q.den=1 then Lib.decDigits q.num.natAbs else Lib.decDigits q.num.natAbs++47 :: Lib.decDigits q.den
def ftext (q:Rat):List UInt8:=if q.num<0 then 45 :: fbody q else fbody q
def rtext (x:Sg.Rl):List UInt8:=if x.a=0 then ftext x.p else (ftext x.p++[if x.s<0 then 45 else 43])++([115,113,114,116,40]++(ftext x.a++[41]))

theorem fbody_mem {q:Rat} {b:UInt8} (h:b∈fbody q):b=47∨digit10 b:=by
 unfold fbody at h
 split at h
 · exact .inr ((dec_digits _).1 b h)
 · rcases List.mem_append.1 h with h | h
   · exact .inr ((dec_digits _).1 b h)
   · rcases List.mem_cons.1 h with h | h
     · exact .inl h
     · exact .inr ((dec_digits _).1 b h)
theorem ftext_mem {q:Rat} {b:UInt8} (h:b∈ftext q):b=45∨b=47∨digit10 b:=by
 unfold ftext at h
 split at h
 · rcases List.mem_cons.1 h with h | h
   · exact .inl h
   · exact .inr (fbody_mem h)
 · exact .inr (fbody_mem h)
theorem ftext_no {q:Rat} {c:UInt8} (h1:c≠45) (h2:c≠47) (h3:¬digit10 c):∀ b∈ftext q,b≠c:=by
 rintro b hb rfl
 rcases ftext_mem hb with h | h | h
 · exact h1 h
 · exact h2 h
 · exact h3 h
theorem no_s {q:Rat}:∀ b∈ftext q,b≠115:=ftext_no (by decide) (by decide) (fun h=>absurd h.2 (by decide))
theorem no_plus {q:Rat}:∀ b∈ftext q,b≠43:=ftext_no (by decide) (by decide) (fun h=>absurd h.1 (by decide))
theorem fbody_ne (q:Rat):fbody q≠[]:=by
 unfold fbody
 split
 · exact dec_ne _
 · simp
theorem ftext_ne (q:Rat):ftext q≠[]:=by
 unfold ftext
 split
 · simp
 · exact fbody_ne q
theorem fbody_head (q:Rat):∀ r,fbody q≠45 :: r:=by
 unfold fbody
 split
 · have:=dec_no q.num.natAbs []
   rwa [List.append_nil] at this
 · exact dec_no _ _
theorem ftext_sign (q:Rat):Lib.trimPrefix (ftext q) [45]=fbody q∧Lib.hasPrefix (ftext q) [45]=decide (q.num<0):=by
 unfold ftext
 by_cases h:q.num<0
 · rw [if_pos h,decide_eq_true h];exact trim_yes _
 · rw [if_neg h,decide_eq_false h];exact trim_not (fbody_head q)

def Pv (l:List UInt8) (q:Rat) (e:Int):Prop:=Pq (Lib.hasPrefix l [45]) (Lib.trimPrefix l [45]) q e
theorem Pv.one {l:List UInt8} {q q':Rat} {e e':Int} (h:Pv l q e) (h':Pv l q' e'):q=q'∧e=e':=Pq.one h h'
theorem pv_some (l:List UInt8):∃ q e,Pv l q e:=pq_some _ _
theorem num_sgn (q:Rat):q.num=sgn (decide (q.num<0)) q.num.natAbs:=by
 by_cases h:q.num<0
 · rw [decide_eq_true h];show q.num=-(q.num.natAbs:Int);omega
 · rw [decide_eq_false h];show q.num=(q.num.natAbs:Int);omega
theorem pv_ftext (q:Rat):Pv (ftext q) q 0:=by
 unfold Pv
 rw [(ftext_sign q).1,(ftext_sign q).2]
 exact pq_printed q _ (num_sgn q)
theorem sgn_abs (b:Bool) (n:Nat):(sgn b n).natAbs=n:=by cases b<;>simp [sgn]
theorem divInt_le {x:Int} {d:Nat} (hd:d≠0):(Rat.divInt x (d:Int)).num.natAbs≤x.natAbs∧(Rat.divInt x (d:Int)).den≤d:=by
 rw [Rat.divInt_ofNat]
 exact mkRat_le x hd
theorem Pq.room {neg:Bool} {l:List UInt8} {q:Rat} {e:Int} (h:Pq neg l q e):q.num.natAbs<10^(l.length+1)∧q.den<10^(l.length+1):=by
 have h1:1<10^(l.length+1):=Nat.one_lt_pow (by omega) (by decide)
 have up:∀ n,n≤l.length→10^n≤10^(l.length+1):=fun n hn=>Nat.pow_le_pow_right (by decide) (by omega)
 cases h with
 | int h =>
   refine ⟨?_,h1⟩
   rw [show ((sgn neg (val10 l):Int):Rat).num=sgn neg (val10 l) from rfl,sgn_abs]
   exact Nat.lt_of_lt_of_le (val10_lt l h.2) (up _ (Nat.le_refl _))
 | frac p r e hp hr h0 =>
   have hl:l.length=p.length+(r.length+1):=by rw [e];simp
   have h2:=divInt_le (x:=sgn neg (val10 p)) h0
   rw [sgn_abs] at h2
   exact ⟨Nat.lt_of_le_of_lt h2.1 (Nat.lt_of_lt_of_le (val10_lt p hp.2) (up _ (by omega))),Nat.lt_of_le_of_lt h2.2 (Nat.lt_of_lt_of_le (val10_lt r hr.2) (up _ (by omega)))⟩
 | zero p r e hp hr h0=>exact ⟨by show 0<_;omega,h1⟩
 | bad _ _=>exact ⟨by show 0<_;omega,h1⟩
theorem Pv.room {l:List UInt8} {q:Rat} {e:Int} (h:Pv l q e) (hl:l.length≤64):Sz 30 q:=by
 have h1:=Pq.room h
 have h2:10^((Lib.trimPrefix l [45]).length+1)≤10^65:=Nat.pow_le_pow_right (by decide) (by have:=prefix_len l [45];omega)
 have h3:(10:Nat)^65<256^30:=by decide
 exact ⟨by omega,by omega⟩
theorem digits_pv {l:List UInt8} (h:Dgs l):Pv l ((val10 l:Int):Rat) 0:=by
 have h1:=trim_not (l:=l) (fun r e=>absurd (h.2 45 (by rw [e];simp)).1 (by decide))
 unfold Pv
 rw [h1.1,h1.2]
 exact .int h
theorem dec_dgs (n:Nat):Dgs (Lib.decDigits n):=⟨dec_ne _,(dec_digits n).1⟩
theorem dec_length {X n:Nat} (h:X<10^(n+1)):(Lib.decDigits X).length≤n+1:=by
 rw [Lib.decDigits_length]
 exact nDigits_le n X h
theorem ftext_len {q:Rat} {n:Nat} (h1:q.num.natAbs<10^(n+1)) (h2:q.den<10^(n+1)):(ftext q).length≤2*n+4:=by
 have l1:=dec_length h1
 have l2:=dec_length h2
 unfold ftext fbody
 split<;>split
 all_goals (try simp only [List.length_cons,List.length_append])
 all_goals omega
end Go.Proofs.YtpnokfgplnmjpaaGreatDoor


namespace Go.Proofs.YtpnokfgplnmjpaaGreatDoor
open Go.RowKit
attribute [local go_sem ↓] Go.wp_at_zero Go.wp_at_succ

set_option maxHeartbeats 32000000 in
set_option maxRecDepth 100000 in
theorem ratCombine_any (OP:FuncId) (hEn:∀ (args:Array Value) (W:World),(callFunc OP args).run Tryz.prog W=.ok (.enter OP args) W) {p q:Rat} {b1 b2 bg bt bn:Bool} {m1 m2 k1 k2 mg mt mn:ByteArray} {t n:Int} {g qa sb' db dd:Nat} (hp:Rq p b1 m1 k1) (hq:Rq q b2 m2 k2) (hint:¬(p.den=1∧q.den=1))
  (hg:g=Nat.gcd p.den q.den) (hqa:qa=p.den / g) (hsb:sb'=q.den / g) (hmg:enc (g:Int)=.agg #[.bool bg,.string mg]) (hmt:enc t=.agg #[.bool bt,.string mt])
  (hOP:∀ (x y:Int) (c1 c2:Bool) (s1 s2:ByteArray),x=p.num*sb'→y=q.num*qa→enc x=.agg #[.bool c1,.string s1]→enc y=.agg #[.bool c2,.string s2]→∀ V,Calls Tryz.prog OP #[.agg #[.bool c1,.string s1],.agg #[.bool c2,.string s2]] V (RetB V (.agg #[.bool bt,.string mt])))
  (hn:n=t / (Nat.gcd t.natAbs g:Nat)) (hdb:db=q.den / Nat.gcd t.natAbs g) (hdd:dd=qa*db) (hmn:enc n=.agg #[.bool bn,.string mn])
  (s1:m1.size≤10000) (s2:m2.size≤10000) (s3:(mag p.den).size≤10000) (s4:(mag q.den).size≤10000) (s5:mt.size≤50000) (w:World) (hE:Env w) :
  Calls Tryz.prog 137 #[.agg #[.bool b1,.string m1,.bool false,.string k1],.agg #[.bool b2,.string m2,.bool false,.string k2],.func (.func OP) #[] #[]] w (RetB w (.agg #[.bool bn,.string mn,.bool false,.string (dm dd)])):=by
 have g0:g≠0:=by rw [hg];exact fun h=>p.den_nz (Nat.eq_zero_of_gcd_eq_zero_left h)
 have hgs:(mag g).size≤10000:=Nat.le_trans (nd_mono (hg ▸ Nat.gcd_le_left _ p.den_pos)) s3
 have hqs:(mag qa).size≤10000:=Nat.le_trans (hqa ▸ nd_div _ _) s3
 have hss:(mag sb').size≤10000:=Nat.le_trans (hsb ▸ nd_div _ _) s4
 have hds:(mag db).size≤10000:=Nat.le_trans (hdb ▸ nd_div _ _) s4
 have hmg2:bg=false∧mg=mag g:=by have h:=enc_parts hmg;exact ⟨by rw [h.1];exact decide_eq_false (by omega),by rw [h.2,Int.natAbs_natCast]⟩
 obtain ⟨rfl,rfl⟩:=hmg2
 obtain ⟨cx,sx,hx⟩:=enc_form (p.num*(sb':Int))
 obtain ⟨cy,sy,hy⟩:=enc_form (q.num*(qa:Int))
 have hv0:Nat.gcd t.natAbs g≠0:=fun h=>g0 (Nat.eq_zero_of_gcd_eq_zero_right h)
 have hvs:(mag (Nat.gcd t.natAbs g)).size≤10000:=Nat.le_trans (nd_mono (Nat.gcd_le_right _ (by omega))) hgs
 have HD1:=Lib.hid (fun V (hV:Env V)=>den_f hp V hV)
 have HD2:=Lib.hid (fun V (hV:Env V)=>den_f hq V hV)
 have HCM:=Lib.hid (fun V (hV:Env V)=>common_f (d:=q.den) (enc_mag p.den) (by rw [Int.natAbs_natCast,←hg];exact hmg) (by omega) (by omega) V hV)
 have HQ1:=Lib.hid (fun V (hV:Env V)=>quotient_f (d:=g) (enc_mag p.den) (enc_mag qa) (by rw [hqa];rfl) (by omega) (by omega) g0 V hV)
 have HQ2:=Lib.hid (fun V (hV:Env V)=>quotient_f (d:=g) (enc_mag q.den) (enc_mag sb') (by rw [hsb];rfl) (by omega) (by omega) g0 V hV)
 have HT1:=Lib.hid (fun V (hV:Env V)=>ratTimes_f hp.num (enc_mag sb') hx rfl (by omega) (by omega) V hV)
 have HT2:=Lib.hid (fun V (hV:Env V)=>ratTimes_f hq.num (enc_mag qa) hy rfl (by omega) (by omega) V hV)
 have HOP:=Lib.hid (hOP _ _ cx cy sx sy rfl rfl hx hy)
 have HGC:=Lib.hid (fun V (hV:Env V)=>gcd_f hmt (enc_mag g) (bg:=false) (mg:=mag (Nat.gcd t.natAbs g)) (by rw [Int.natAbs_natCast];exact enc_mag _) (by omega) (by omega) V hV.tab)
 have HQ3:=Lib.hid (fun V (hV:Env V)=>quotient_f (d:=Nat.gcd t.natAbs g) hmt hmn hn (by omega) (by omega) hv0 V hV)
 have HQ4:=Lib.hid (fun V (hV:Env V)=>quotient_f (d:=Nat.gcd t.natAbs g) (enc_mag q.den) (enc_mag db) (by rw [hdb];rfl) (by omega) (by omega) hv0 V hV)
 have HT3:=Lib.hid (fun V (hV:Env V)=>ratTimes_f (enc_mag qa) (enc_mag db) (enc_mag dd) (by rw [hdd,Int.natCast_mul]) (by omega) (by omega) V hV)
 have HCP:=Lib.hid (fun V (hV:Env V)=>coprime_f bn mn dd V hV)
 have hone:(g=1∧bn=bt∧mn=mt∧db=q.den)∨(g≠1∧¬(mag g).toList=[1]∧¬[1]=(mag g).toList):=by
  by_cases h:g=1
  · left
    rw [h,Nat.gcd_one_right] at hn hdb
    have h1:n=t:=by rw [hn];simp
    rw [h1,hmt] at hmn
    injection hmn with hmn
    have h2:bt=bn∧mt=mn:=by simpa using hmn
    exact ⟨h,h2.1.symm,h2.2.symm,by rw [hdb,Nat.div_one]⟩
  · right
    have h4:=toList_ne (l:=[1]) (mag_no_one h)
    exact ⟨h,h4,fun e=>h4 e.symm⟩
 have HG:=Lib.hid hone
 have HI:=Lib.hid (And.intro hp (And.intro hq hint))
 have HE:=Lib.hid (fun V (h:Below w.heap.size w V)=>hE.next h)
 have X:=Lib.hid ((((Sb.start w).new #[.bool b1,.string m1,.bool false,.string k1] 25).new #[.bool b2,.string m2,.bool false,.string k2] 25).new #[.bool false,.string ⟨#[]⟩,.bool false,.string ⟨#[]⟩] 25)
 have X:=Lib.hid (X.out.pick [0,1,2] [(w.heap.size,#[.bool b1,.string m1,.bool false,.string k1],25),(w.heap.size+1,#[.bool b2,.string m2,.bool false,.string k2],25),(w.heap.size+1+1,#[.bool false,.string ⟨#[]⟩,.bool false,.string ⟨#[]⟩],25)] [] (by simp) (by decide) (by simp))
 generalize hmda:mag p.den=mda at *
 generalize hmdb:mag q.den=mdb at *
 generalize hmq:mag qa=mq at *
 generalize hms:mag sb'=ms at *
 generalize hmd2:mag db=md2 at *
 generalize mag dd=mdd at *
 generalize hmv:mag (Nat.gcd t.natAbs g)=mv at *
 have HM:=Lib.hid (And.intro hmdb hmd2)
 clear hp hq hint hg hqa hsb hmt hOP hn hdb hdd hmn s1 s2 s3 s4 s5 hE hgs hqs hss hds hx hy hv0 hvs hone hmda hmdb hmq hms hmd2 hmv
 generalize hmgg:mag g=mg at *
 have HMG:=Lib.hid hmgg
 clear hmgg hmg g0
 go_enter Tryz.func137,Tryz.ntmps137
 go_upto_region 1 with fail
 go_cut [19] (fun s19 wx=>s19=.bool false∧Sb w [(w.heap.size,#[.bool b1,.string m1,.bool false,.string k1],25),(w.heap.size+1,#[.bool b2,.string m2,.bool false,.string k2],25),(w.heap.size+1+1,#[.bool false,.string ⟨#[]⟩,.bool false,.string ⟨#[]⟩],25)] [] wx)
 case first =>
  obtain ⟨hp,hq,hint⟩:=HI.out
  obtain ⟨a0,a1,a2,a3⟩:=X.out.c4 (i:=0) rfl
  obtain ⟨c0,c1,c2,c3⟩:=X.out.c4 (i:=1) rfl
  by_cases hd1:p.den=1
  · have hd2:q.den≠1:=fun h=>hint ⟨hd1,h⟩
    have hk1:=hp.den1 hd1
    have hi1:=fun V=>isInteger_yes b1 m1 V
    rw [←hk1] at hi1
    have HI1:=Lib.hid hi1
    have HI2:=Lib.hid (fun V=>isInteger_no b2 m2 k2 (by rw [hq.den2 hd2];exact mag_no_nil q.den_nz) V)
    clear hd1 hd2 hp hq hint hi1 hk1
    go_wp2_with fail
    refine (HI1.out _).mono ?_
    rintro e w1 ⟨rfl,hb9⟩
    have X:=Lib.hid (X.out.next hb9)
    clear hb9
    clear a0 a1 a2 a3 c0 c1 c2 c3
    obtain ⟨a0,a1,a2,a3⟩:=X.out.c4 (i:=0) rfl
    obtain ⟨c0,c1,c2,c3⟩:=X.out.c4 (i:=1) rfl
    go_wp2_with fail
    refine (HI2.out _).mono ?_
    rintro e w2 ⟨rfl,hb9⟩
    have X:=Lib.hid (X.out.next hb9)
    clear hb9
    clear a0 a1 a2 a3 c0 c1 c2 c3
    go_wp2_with fail
    go_meet
    exact ⟨rfl,X.out⟩
  · have HI1:=Lib.hid (fun V=>isInteger_no b1 m1 k1 (by rw [hp.den2 hd1];exact mag_no_nil p.den_nz) V)
    clear hd1 hp hq hint
    go_wp2_with fail
    refine (HI1.out _).mono ?_
    rintro e w1 ⟨rfl,hb9⟩
    have X:=Lib.hid (X.out.next hb9)
    clear hb9
    clear a0 a1 a2 a3 c0 c1 c2 c3
    go_wp2_with fail
    go_meet
    exact ⟨rfl,X.out⟩
 obtain ⟨rfl,hX⟩:=hcut
 have X:=Lib.hid hX
 clear hX
 go_upto_region 3 with fail
 go_cut [7,8] (fun s7 s8 wx=>∃ g7 g8,s7=.pointer (some ⟨g7,0,none⟩)∧s8=.pointer (some ⟨g8,0,none⟩)∧Sb w [(w.heap.size,#[.bool b1,.string m1,.bool false,.string k1],25),(w.heap.size+1,#[.bool b2,.string m2,.bool false,.string k2],25),(w.heap.size+1+1,#[.bool false,.string ⟨#[]⟩,.bool false,.string ⟨#[]⟩],25),(g7,#[.bool false,.string mda],23),(g8,#[.bool false,.string mdb],23)] [] wx)
 case first =>
  refine wp_region_any (by kernel_rfl) ?_
  have X:=Lib.hid X.out.drew
  obtain ⟨W0,hV⟩:=wexi X.out
  rw [show ∀ v:World,{ v with drawn:=v.drawn+1 }=v.drew from fun _=>rfl,←hV]
  rw [←hV] at X
  clear hV
  refine rg_run (ef:=[.val (.agg #[.bool b1,.string m1,.bool false,.string k1]),.val (.agg #[.bool false,.string mda]),.val (.agg #[.bool b2,.string m2,.bool false,.string k2]),.val (.agg #[.bool false,.string mdb]),.new #[.bool false,.string ⟨#[]⟩] 23,.new #[.bool false,.string ⟨#[]⟩] 23]) (ds:=[27,28,29,30,7,8]) (by kernel_rfl) (stays_none (by simp)) (by decide) rfl (by intro d hd;simp at hd ⊢;omega) (fun i d o hd ho listed a w1 hR hdep K hK=>?_) 2 (fun a w1 hR=>?_)
  · have X:=Lib.hid (X.out.next hR.bel)
    have HKt:=Lib.hid hK
    have HDp:=Lib.hid hdep
    have sl3:a.tmps.getD 3 undef=.pointer (some ⟨w.heap.size,0,none⟩):=hR.keep 3 (by decide)
    have sl4:a.tmps.getD 4 undef=.pointer (some ⟨w.heap.size+1,0,none⟩):=hR.keep 4 (by decide)
    have HRg:=Lib.hid hR
    clear hK hdep hR
    rcases i with _ | _ | _ | _ | _ | _ | i
    · cases hd
      cases ho
      obtain ⟨x00,x01,x02,x03⟩:=X.out.c4 (i:=0) rfl
      obtain ⟨x10,x11,x12,x13⟩:=X.out.c4 (i:=1) rfl
      go_simp
      exact HKt.out _ _ (Or.inl ⟨rfl,Below.refl _ _⟩)
    · cases hd
      cases ho
      have dd0:a.tmps.getD 27 undef=.agg #[.bool b1,.string m1,.bool false,.string k1]:=HRg.out.val 0 _ (HDp.out 0 (by decide)) rfl
      go_simp
      (go_at_call 94;refine (HD1.out _ (HE.out _ X.out.bel)).mono ?_;rintro e u ⟨rfl,hb9⟩)
      try go_wp2_with fail
      exact HKt.out _ _ (Or.inl ⟨rfl,hb9⟩)
    · cases hd
      cases ho
      obtain ⟨x00,x01,x02,x03⟩:=X.out.c4 (i:=0) rfl
      obtain ⟨x10,x11,x12,x13⟩:=X.out.c4 (i:=1) rfl
      go_simp
      exact HKt.out _ _ (Or.inl ⟨rfl,Below.refl _ _⟩)
    · cases hd
      cases ho
      have dd1:a.tmps.getD 28 undef=.agg #[.bool false,.string mda]:=HRg.out.val 1 _ (HDp.out 1 (by decide)) rfl
      have dd2:a.tmps.getD 29 undef=.agg #[.bool b2,.string m2,.bool false,.string k2]:=HRg.out.val 2 _ (HDp.out 2 (by decide)) rfl
      go_simp
      (go_at_call 94;refine (HD2.out _ (HE.out _ X.out.bel)).mono ?_;rintro e u ⟨rfl,hb9⟩)
      try go_wp2_with fail
      exact HKt.out _ _ (Or.inl ⟨rfl,hb9⟩)
    · cases hd
      cases ho
      go_simp
      exact HKt.out _ _ (Or.inr (Or.inl ⟨_,_,rfl,rfl,rfl⟩))
    · cases hd
      cases ho
      go_simp
      exact HKt.out _ _ (Or.inr (Or.inl ⟨_,_,rfl,rfl,rfl⟩))
    · cases hd
  obtain ⟨g4,hg4,lg4,kg4⟩:=hR.new 4 _ _ (by rfl) rfl
  obtain ⟨g5,hg5,lg5,kg5⟩:=hR.new 5 _ _ (by rfl) rfl
  have vv0:a.tmps.getD 27 undef=.agg #[.bool b1,.string m1,.bool false,.string k1]:=hR.val 0 _ (by rfl) rfl
  have vv1:a.tmps.getD 28 undef=.agg #[.bool false,.string mda]:=hR.val 1 _ (by rfl) rfl
  have vv2:a.tmps.getD 29 undef=.agg #[.bool b2,.string m2,.bool false,.string k2]:=hR.val 2 _ (by rfl) rfl
  have vv3:a.tmps.getD 30 undef=.agg #[.bool false,.string mdb]:=hR.val 3 _ (by rfl) rfl
  replace hg4:a.tmps.getD 7 undef=.pointer (some ⟨g4,0,none⟩):=hg4
  replace hg5:a.tmps.getD 8 undef=.pointer (some ⟨g5,0,none⟩):=hg5
  have hne:g4≠g5:=fun e=>hR.ne 4 5 _ _ _ _ g4 (by decide) (by rfl) (by rfl) rfl rfl hg4 (by rw [e];exact hg5)
  have X:=Lib.hid (X.out.add2 hR.bel lg4 kg4 lg5 kg5 hne)
  have ha:=hR.act
  simp only [List.foldl_cons,List.foldl_nil,seti,set0,setS,vv0,vv1,vv2,vv3,hg4,hg5] at ha
  subst ha
  clear hR vv0 vv1 vv2 vv3 hg4 lg4 kg4 hg5 lg5 kg5 hne
  refine wpAny_of_late (S:=fun _=>True) (L:=[]) _ _ _ _ ?_
  refine wpLate_one (i:=6) (o:=⟨none,_,_,_,_,_⟩) (by kernel_rfl) rfl (fun K hK=>?_)
  obtain ⟨x0,x1⟩:=X.out.c2 (i:=3) rfl
  obtain ⟨y0,y1⟩:=X.out.f2 (i:=3) rfl
  have X:=Lib.hid (X.out.set2 (i:=3) rfl (.bool false) (.string mda))
  go_simp
  refine hK.out _ _ (Or.inr fun _=>trivial) ?_
  clear hK K x0 x1 y0 y1
  obtain ⟨W6,hV⟩:=wexi X.out
  rw [←hV] at X ⊢
  clear hV
  try simp only [Act.put]
  refine wpLate_one (i:=7) (o:=⟨none,_,_,_,_,_⟩) (by kernel_rfl) rfl (fun K hK=>?_)
  obtain ⟨x0,x1⟩:=X.out.c2 (i:=4) rfl
  obtain ⟨y0,y1⟩:=X.out.f2 (i:=4) rfl
  have X:=Lib.hid (X.out.set2 (i:=4) rfl (.bool false) (.string mdb))
  go_simp
  refine hK.out _ _ (Or.inr fun _=>trivial) ?_
  clear hK K x0 x1 y0 y1
  obtain ⟨W7,hV⟩:=wexi X.out
  rw [←hV] at X ⊢
  clear hV
  try simp only [Act.put]
  refine wpLate_done (by kernel_rfl) ?_ _
  go_wp2_with fail
  go_meet
  exact ⟨_,_,rfl,rfl,X.out.pick [0,1,2,3,4] _ [] rfl (by decide) (by simp)⟩
 obtain ⟨g7,g8,rfl,rfl,hX⟩:=hcut
 have X:=Lib.hid hX
 clear hX
 obtain ⟨x0,x1⟩:=X.out.c2 (i:=3) rfl
 obtain ⟨y0,y1⟩:=X.out.c2 (i:=4) rfl
 go_wp2_with fail
 refine (HCM.out _ (HE.out _ X.out.bel)).mono ?_
 rintro e w4 ⟨rfl,hb9⟩
 have X:=Lib.hid (X.out.next hb9)
 clear hb9
 have X:=Lib.hid (X.out.new #[.bool false,.string mg] 23)
 obtain ⟨g9,hg9⟩:∃ g,g=w4.heap.size:=⟨_,rfl⟩
 rw [←hg9] at X
 clear x0 x1 y0 y1
 go_upto_region 5 with fail
 rw [←hg9]
 clear hg9
 go_cut [10,11] (fun s10 s11 wx=>∃ g10 g11,s10=.pointer (some ⟨g10,0,none⟩)∧s11=.pointer (some ⟨g11,0,none⟩)∧Sb w [(w.heap.size,#[.bool b1,.string m1,.bool false,.string k1],25),(w.heap.size+1,#[.bool b2,.string m2,.bool false,.string k2],25),(w.heap.size+1+1,#[.bool false,.string ⟨#[]⟩,.bool false,.string ⟨#[]⟩],25),(g8,#[.bool false,.string mdb],23),(g9,#[.bool false,.string mg],23),(g10,#[.bool false,.string mq],23),(g11,#[.bool false,.string ms],23)] [] wx)
 case first =>
  refine wp_region_any (by kernel_rfl) ?_
  have X:=Lib.hid X.out.drew
  obtain ⟨W0,hV⟩:=wexi X.out
  rw [show ∀ v:World,{ v with drawn:=v.drawn+1 }=v.drew from fun _=>rfl,←hV]
  rw [←hV] at X
  clear hV
  refine rg_run (ef:=[.val (.agg #[.bool false,.string mda]),.val (.agg #[.bool false,.string mg]),.val (.agg #[.bool false,.string mq]),.val (.agg #[.bool false,.string mdb]),.val (.agg #[.bool false,.string mg]),.val (.agg #[.bool false,.string ms]),.new #[.bool false,.string ⟨#[]⟩] 23,.new #[.bool false,.string ⟨#[]⟩] 23]) (ds:=[34,35,36,37,38,39,10,11]) (by kernel_rfl) (stays_none (by simp)) (by decide) rfl (by intro d hd;simp at hd ⊢;omega) (fun i d o hd ho listed a w1 hR hdep K hK=>?_) 2 (fun a w1 hR=>?_)
  · have X:=Lib.hid (X.out.next hR.bel)
    have HKt:=Lib.hid hK
    have HDp:=Lib.hid hdep
    have sl7:a.tmps.getD 7 undef=.pointer (some ⟨g7,0,none⟩):=hR.keep 7 (by decide)
    have sl8:a.tmps.getD 8 undef=.pointer (some ⟨g8,0,none⟩):=hR.keep 8 (by decide)
    have sl9:a.tmps.getD 9 undef=.pointer (some ⟨g9,0,none⟩):=hR.keep 9 (by decide)
    have HRg:=Lib.hid hR
    clear hK hdep hR
    rcases i with _ | _ | _ | _ | _ | _ | _ | _ | i
    · cases hd
      cases ho
      obtain ⟨x30,x31⟩:=X.out.c2 (i:=3) rfl
      obtain ⟨x40,x41⟩:=X.out.c2 (i:=4) rfl
      obtain ⟨x50,x51⟩:=X.out.c2 (i:=5) rfl
      go_simp
      exact HKt.out _ _ (Or.inl ⟨rfl,Below.refl _ _⟩)
    · cases hd
      cases ho
      obtain ⟨x30,x31⟩:=X.out.c2 (i:=3) rfl
      obtain ⟨x40,x41⟩:=X.out.c2 (i:=4) rfl
      obtain ⟨x50,x51⟩:=X.out.c2 (i:=5) rfl
      go_simp
      exact HKt.out _ _ (Or.inl ⟨rfl,Below.refl _ _⟩)
    · cases hd
      cases ho
      have dd0:a.tmps.getD 34 undef=.agg #[.bool false,.string mda]:=HRg.out.val 0 _ (HDp.out 0 (by decide)) rfl
      have dd1:a.tmps.getD 35 undef=.agg #[.bool false,.string mg]:=HRg.out.val 1 _ (HDp.out 1 (by decide)) rfl
      go_simp
      (go_at_call 133;refine (HQ1.out _ (HE.out _ X.out.bel)).mono ?_;rintro e u ⟨rfl,hb9⟩)
      try go_wp2_with fail
      exact HKt.out _ _ (Or.inl ⟨rfl,hb9⟩)
    · cases hd
      cases ho
      obtain ⟨x30,x31⟩:=X.out.c2 (i:=3) rfl
      obtain ⟨x40,x41⟩:=X.out.c2 (i:=4) rfl
      obtain ⟨x50,x51⟩:=X.out.c2 (i:=5) rfl
      go_simp
      exact HKt.out _ _ (Or.inl ⟨rfl,Below.refl _ _⟩)
    · cases hd
      cases ho
      obtain ⟨x30,x31⟩:=X.out.c2 (i:=3) rfl
      obtain ⟨x40,x41⟩:=X.out.c2 (i:=4) rfl
      obtain ⟨x50,x51⟩:=X.out.c2 (i:=5) rfl
      go_simp
      exact HKt.out _ _ (Or.inl ⟨rfl,Below.refl _ _⟩)
    · cases hd
      cases ho
      have dd2:a.tmps.getD 36 undef=.agg #[.bool false,.string mq]:=HRg.out.val 2 _ (HDp.out 2 (by decide)) rfl
      have dd3:a.tmps.getD 37 undef=.agg #[.bool false,.string mdb]:=HRg.out.val 3 _ (HDp.out 3 (by decide)) rfl
      have dd4:a.tmps.getD 38 undef=.agg #[.bool false,.string mg]:=HRg.out.val 4 _ (HDp.out 4 (by decide)) rfl
      go_simp
      (go_at_call 133;refine (HQ2.out _ (HE.out _ X.out.bel)).mono ?_;rintro e u ⟨rfl,hb9⟩)
      try go_wp2_with fail
      exact HKt.out _ _ (Or.inl ⟨rfl,hb9⟩)
    · cases hd
      cases ho
      go_simp
      exact HKt.out _ _ (Or.inr (Or.inl ⟨_,_,rfl,rfl,rfl⟩))
    · cases hd
      cases ho
      go_simp
      exact HKt.out _ _ (Or.inr (Or.inl ⟨_,_,rfl,rfl,rfl⟩))
    · cases hd
  obtain ⟨g6,hg6,lg6,kg6⟩:=hR.new 6 _ _ (by rfl) rfl
  obtain ⟨g7,hg7,lg7,kg7⟩:=hR.new 7 _ _ (by rfl) rfl
  have vv0:a.tmps.getD 34 undef=.agg #[.bool false,.string mda]:=hR.val 0 _ (by rfl) rfl
  have vv1:a.tmps.getD 35 undef=.agg #[.bool false,.string mg]:=hR.val 1 _ (by rfl) rfl
  have vv2:a.tmps.getD 36 undef=.agg #[.bool false,.string mq]:=hR.val 2 _ (by rfl) rfl
  have vv3:a.tmps.getD 37 undef=.agg #[.bool false,.string mdb]:=hR.val 3 _ (by rfl) rfl
  have vv4:a.tmps.getD 38 undef=.agg #[.bool false,.string mg]:=hR.val 4 _ (by rfl) rfl
  have vv5:a.tmps.getD 39 undef=.agg #[.bool false,.string ms]:=hR.val 5 _ (by rfl) rfl
  replace hg6:a.tmps.getD 10 undef=.pointer (some ⟨g6,0,none⟩):=hg6
  replace hg7:a.tmps.getD 11 undef=.pointer (some ⟨g7,0,none⟩):=hg7
  have hne:g6≠g7:=fun e=>hR.ne 6 7 _ _ _ _ g6 (by decide) (by rfl) (by rfl) rfl rfl hg6 (by rw [e];exact hg7)
  have X:=Lib.hid (X.out.add2 hR.bel lg6 kg6 lg7 kg7 hne)
  have ha:=hR.act
  simp only [List.foldl_cons,List.foldl_nil,seti,set0,setS,vv0,vv1,vv2,vv3,vv4,vv5,hg6,hg7] at ha
  subst ha
  clear hR vv0 vv1 vv2 vv3 vv4 vv5 hg6 lg6 kg6 hg7 lg7 kg7 hne
  refine wpAny_of_late (S:=fun _=>True) (L:=[]) _ _ _ _ ?_
  refine wpLate_one (i:=8) (o:=⟨none,_,_,_,_,_⟩) (by kernel_rfl) rfl (fun K hK=>?_)
  obtain ⟨x0,x1⟩:=X.out.c2 (i:=6) rfl
  obtain ⟨y0,y1⟩:=X.out.f2 (i:=6) rfl
  have X:=Lib.hid (X.out.set2 (i:=6) rfl (.bool false) (.string mq))
  go_simp
  refine hK.out _ _ (Or.inr fun _=>trivial) ?_
  clear hK K x0 x1 y0 y1
  obtain ⟨W8,hV⟩:=wexi X.out
  rw [←hV] at X ⊢
  clear hV
  try simp only [Act.put]
  refine wpLate_one (i:=9) (o:=⟨none,_,_,_,_,_⟩) (by kernel_rfl) rfl (fun K hK=>?_)
  obtain ⟨x0,x1⟩:=X.out.c2 (i:=7) rfl
  obtain ⟨y0,y1⟩:=X.out.f2 (i:=7) rfl
  have X:=Lib.hid (X.out.set2 (i:=7) rfl (.bool false) (.string ms))
  go_simp
  refine hK.out _ _ (Or.inr fun _=>trivial) ?_
  clear hK K x0 x1 y0 y1
  obtain ⟨W9,hV⟩:=wexi X.out
  rw [←hV] at X ⊢
  clear hV
  try simp only [Act.put]
  refine wpLate_done (by kernel_rfl) ?_ _
  go_wp2_with fail
  go_meet
  exact ⟨_,_,rfl,rfl,X.out.pick [0,1,2,4,5,6,7] _ [] rfl (by decide) (by simp)⟩
 obtain ⟨g10,g11,rfl,rfl,hX⟩:=hcut
 have X:=Lib.hid hX
 clear hX
 go_upto_region 6 with fail
 go_cut [12] (fun s12 wx=>∃ g12,s12=.pointer (some ⟨g12,0,none⟩)∧Sb w [(w.heap.size+1+1,#[.bool false,.string ⟨#[]⟩,.bool false,.string ⟨#[]⟩],25),(g8,#[.bool false,.string mdb],23),(g9,#[.bool false,.string mg],23),(g10,#[.bool false,.string mq],23),(g12,#[.bool bt,.string mt],23)] [] wx)
 case first =>
  refine wp_region_any (by kernel_rfl) ?_
  have X:=Lib.hid X.out.drew
  obtain ⟨W0,hV⟩:=wexi X.out
  rw [show ∀ v:World,{ v with drawn:=v.drawn+1 }=v.drew from fun _=>rfl,←hV]
  rw [←hV] at X
  clear hV
  refine rg_run (ef:=[.val (.func (.func OP) #[] #[]),.val (.pointer (some ⟨w.heap.size,0,none⟩)),.val (.agg #[.bool b1,.string m1]),.val (.agg #[.bool false,.string ms]),.val (.agg #[.bool cx,.string sx]),.val (.pointer (some ⟨w.heap.size+1,0,none⟩)),.val (.agg #[.bool b2,.string m2]),.val (.agg #[.bool false,.string mq]),.val (.agg #[.bool cy,.string sy]),.val (.agg #[.bool bt,.string mt]),.new #[.bool false,.string ⟨#[]⟩] 23]) (ds:=[40,41,42,43,44,45,46,47,48,49,12]) (by kernel_rfl) (stays_none (by simp)) (by decide) rfl (by intro d hd;simp at hd ⊢;omega) (fun i d o hd ho listed a w1 hR hdep K hK=>?_) 1 (fun a w1 hR=>?_)
  · have X:=Lib.hid (X.out.next hR.bel)
    have HKt:=Lib.hid hK
    have HDp:=Lib.hid hdep
    have sl2:a.tmps.getD 2 undef=.func (.func OP) #[] #[]:=hR.keep 2 (by decide)
    have sl3:a.tmps.getD 3 undef=.pointer (some ⟨w.heap.size,0,none⟩):=hR.keep 3 (by decide)
    have sl4:a.tmps.getD 4 undef=.pointer (some ⟨w.heap.size+1,0,none⟩):=hR.keep 4 (by decide)
    have sl10:a.tmps.getD 10 undef=.pointer (some ⟨g10,0,none⟩):=hR.keep 10 (by decide)
    have sl11:a.tmps.getD 11 undef=.pointer (some ⟨g11,0,none⟩):=hR.keep 11 (by decide)
    have HRg:=Lib.hid hR
    clear hK hdep hR
    rcases i with _ | _ | _ | _ | _ | _ | _ | _ | _ | _ | _ | i
    · cases hd
      cases ho
      go_simp
      exact HKt.out _ _ (Or.inl ⟨rfl,Below.refl _ _⟩)
    · cases hd
      cases ho
      go_simp
      exact HKt.out _ _ (Or.inl ⟨rfl,Below.refl _ _⟩)
    · cases hd
      cases ho
      obtain ⟨x00,x01,x02,x03⟩:=X.out.c4 (i:=0) rfl
      obtain ⟨x10,x11,x12,x13⟩:=X.out.c4 (i:=1) rfl
      obtain ⟨x50,x51⟩:=X.out.c2 (i:=5) rfl
      obtain ⟨x60,x61⟩:=X.out.c2 (i:=6) rfl
      have dd1:a.tmps.getD 41 undef=.pointer (some ⟨w.heap.size,0,none⟩):=HRg.out.val 1 _ (HDp.out 1 (by decide)) rfl
      go_simp
      exact HKt.out _ _ (Or.inl ⟨rfl,Below.refl _ _⟩)
    · cases hd
      cases ho
      obtain ⟨x00,x01,x02,x03⟩:=X.out.c4 (i:=0) rfl
      obtain ⟨x10,x11,x12,x13⟩:=X.out.c4 (i:=1) rfl
      obtain ⟨x50,x51⟩:=X.out.c2 (i:=5) rfl
      obtain ⟨x60,x61⟩:=X.out.c2 (i:=6) rfl
      go_simp
      exact HKt.out _ _ (Or.inl ⟨rfl,Below.refl _ _⟩)
    · cases hd
      cases ho
      have dd2:a.tmps.getD 42 undef=.agg #[.bool b1,.string m1]:=HRg.out.val 2 _ (HDp.out 2 (by decide)) rfl
      have dd3:a.tmps.getD 43 undef=.agg #[.bool false,.string ms]:=HRg.out.val 3 _ (HDp.out 3 (by decide)) rfl
      go_simp
      (go_at_call 132;refine (HT1.out _ (HE.out _ X.out.bel)).mono ?_;rintro e u ⟨rfl,hb9⟩)
      try go_wp2_with fail
      exact HKt.out _ _ (Or.inl ⟨rfl,hb9⟩)
    · cases hd
      cases ho
      go_simp
      exact HKt.out _ _ (Or.inl ⟨rfl,Below.refl _ _⟩)
    · cases hd
      cases ho
      obtain ⟨x00,x01,x02,x03⟩:=X.out.c4 (i:=0) rfl
      obtain ⟨x10,x11,x12,x13⟩:=X.out.c4 (i:=1) rfl
      obtain ⟨x50,x51⟩:=X.out.c2 (i:=5) rfl
      obtain ⟨x60,x61⟩:=X.out.c2 (i:=6) rfl
      have dd5:a.tmps.getD 45 undef=.pointer (some ⟨w.heap.size+1,0,none⟩):=HRg.out.val 5 _ (HDp.out 5 (by decide)) rfl
      go_simp
      exact HKt.out _ _ (Or.inl ⟨rfl,Below.refl _ _⟩)
    · cases hd
      cases ho
      obtain ⟨x00,x01,x02,x03⟩:=X.out.c4 (i:=0) rfl
      obtain ⟨x10,x11,x12,x13⟩:=X.out.c4 (i:=1) rfl
      obtain ⟨x50,x51⟩:=X.out.c2 (i:=5) rfl
      obtain ⟨x60,x61⟩:=X.out.c2 (i:=6) rfl
      go_simp
      exact HKt.out _ _ (Or.inl ⟨rfl,Below.refl _ _⟩)
    · cases hd
      cases ho
      have dd4:a.tmps.getD 44 undef=.agg #[.bool cx,.string sx]:=HRg.out.val 4 _ (HDp.out 4 (by decide)) rfl
      have dd6:a.tmps.getD 46 undef=.agg #[.bool b2,.string m2]:=HRg.out.val 6 _ (HDp.out 6 (by decide)) rfl
      have dd7:a.tmps.getD 47 undef=.agg #[.bool false,.string mq]:=HRg.out.val 7 _ (HDp.out 7 (by decide)) rfl
      go_simp
      (go_at_call 132;refine (HT2.out _ (HE.out _ X.out.bel)).mono ?_;rintro e u ⟨rfl,hb9⟩)
      try go_wp2_with fail
      exact HKt.out _ _ (Or.inl ⟨rfl,hb9⟩)
    · cases hd
      cases ho
      have dd0:a.tmps.getD 40 undef=.func (.func OP) #[] #[]:=HRg.out.val 0 _ (HDp.out 0 (by decide)) rfl
      have dd4:a.tmps.getD 44 undef=.agg #[.bool cx,.string sx]:=HRg.out.val 4 _ (HDp.out 4 (by decide)) rfl
      have dd8:a.tmps.getD 48 undef=.agg #[.bool cy,.string sy]:=HRg.out.val 8 _ (HDp.out 8 (by decide)) rfl
      go_simp
      (refine (HOP.out _).mono ?_;rintro e u ⟨rfl,hb9⟩)
      try go_wp2_with fail
      exact HKt.out _ _ (Or.inl ⟨rfl,hb9⟩)
    · cases hd
      cases ho
      go_simp
      exact HKt.out _ _ (Or.inr (Or.inl ⟨_,_,rfl,rfl,rfl⟩))
    · cases hd
  obtain ⟨g10,hg10,lg10,kg10⟩:=hR.new 10 _ _ (by rfl) rfl
  have vv0:a.tmps.getD 40 undef=.func (.func OP) #[] #[]:=hR.val 0 _ (by rfl) rfl
  have vv1:a.tmps.getD 41 undef=.pointer (some ⟨w.heap.size,0,none⟩):=hR.val 1 _ (by rfl) rfl
  have vv2:a.tmps.getD 42 undef=.agg #[.bool b1,.string m1]:=hR.val 2 _ (by rfl) rfl
  have vv3:a.tmps.getD 43 undef=.agg #[.bool false,.string ms]:=hR.val 3 _ (by rfl) rfl
  have vv4:a.tmps.getD 44 undef=.agg #[.bool cx,.string sx]:=hR.val 4 _ (by rfl) rfl
  have vv5:a.tmps.getD 45 undef=.pointer (some ⟨w.heap.size+1,0,none⟩):=hR.val 5 _ (by rfl) rfl
  have vv6:a.tmps.getD 46 undef=.agg #[.bool b2,.string m2]:=hR.val 6 _ (by rfl) rfl
  have vv7:a.tmps.getD 47 undef=.agg #[.bool false,.string mq]:=hR.val 7 _ (by rfl) rfl
  have vv8:a.tmps.getD 48 undef=.agg #[.bool cy,.string sy]:=hR.val 8 _ (by rfl) rfl
  have vv9:a.tmps.getD 49 undef=.agg #[.bool bt,.string mt]:=hR.val 9 _ (by rfl) rfl
  replace hg10:a.tmps.getD 12 undef=.pointer (some ⟨g10,0,none⟩):=hg10
  have X:=Lib.hid (X.out.add hR.bel lg10 kg10)
  have ha:=hR.act
  simp only [List.foldl_cons,List.foldl_nil,seti,set0,setS,vv0,vv1,vv2,vv3,vv4,vv5,vv6,vv7,vv8,vv9,hg10] at ha
  subst ha
  clear hR vv0 vv1 vv2 vv3 vv4 vv5 vv6 vv7 vv8 vv9 hg10 lg10 kg10
  refine wpAny_of_late (S:=fun _=>True) (L:=[]) _ _ _ _ ?_
  refine wpLate_one (i:=11) (o:=⟨none,_,_,_,_,_⟩) (by kernel_rfl) rfl (fun K hK=>?_)
  obtain ⟨x0,x1⟩:=X.out.c2 (i:=7) rfl
  obtain ⟨y0,y1⟩:=X.out.f2 (i:=7) rfl
  have X:=Lib.hid (X.out.set2 (i:=7) rfl (.bool bt) (.string mt))
  go_simp
  refine hK.out _ _ (Or.inr fun _=>trivial) ?_
  clear hK K x0 x1 y0 y1
  obtain ⟨W11,hV⟩:=wexi X.out
  rw [←hV] at X ⊢
  clear hV
  try simp only [Act.put]
  refine wpLate_done (by kernel_rfl) ?_ _
  go_wp2_with fail
  go_meet
  exact ⟨_,rfl,X.out.pick [2,3,4,5,7] _ [] rfl (by decide) (by simp)⟩
 obtain ⟨g12,rfl,hX⟩:=hcut
 have X:=Lib.hid hX
 clear hX
 go_upto_region 7 with fail
 go_cut [52] (fun s52 wx=>s52=.bool (decide (g≠1))∧Sb w [(w.heap.size+1+1,#[.bool false,.string ⟨#[]⟩,.bool false,.string ⟨#[]⟩],25),(g8,#[.bool false,.string mdb],23),(g9,#[.bool false,.string mg],23),(g10,#[.bool false,.string mq],23),(g12,#[.bool bt,.string mt],23)] [] wx)
 case first =>
  have HEV:=HE.out _ X.out.bel
  have o0:=HEV.o0
  have o1:=HEV.o1
  clear HEV
  obtain ⟨x0,x1⟩:=X.out.c2 (i:=2) rfl
  rcases HG.out with ⟨hg1,hbn,hmn,hdb⟩ | ⟨hg1,hno,hno2⟩
  · have hm1:mg=⟨#[1]⟩:=by rw [←HMG.out,hg1];exact mag_one
    have hl1:mg.toList=[1]:=by rw [hm1,ByteArray.toList_eq]
    have HDC:=Lib.hid (decide_eq_false (show ¬(g≠1) from fun h=>h hg1))
    clear hg1 hbn hmn hdb hm1
    go_wp2_with fail
    go_meet
    exact ⟨by rw [HDC.out],X.out⟩
  · have HDC:=Lib.hid (decide_eq_true hg1)
    clear hg1
    go_wp2_with fail
    go_meet
    exact ⟨by rw [HDC.out],X.out⟩
 obtain ⟨rfl,hX⟩:=hcut
 have X:=Lib.hid hX
 clear hX
 apply_assumption
 go_cut [] (fun wx=>Sb w [(w.heap.size+1+1,#[.bool false,.string ⟨#[]⟩,.bool false,.string ⟨#[]⟩],25),(g10,#[.bool false,.string mq],23),(g12,#[.bool bn,.string mn],23),(g8,#[.bool false,.string md2],23)] [] wx)
 case first =>
  rcases HG.out with ⟨hg1,hbn,hmn,hdb⟩ | ⟨hg1,_,_⟩
  · rw [decide_eq_false (show ¬(g≠1) from fun h=>h hg1)]
    have hdd:md2=mdb:=by rw [←HM.out.1,←HM.out.2,hdb]
    subst hbn
    subst hmn
    subst hdd
    clear hg1 hdb
    go_wp2_with fail
    go_meet
    exact X.out.pick [0,3,4,1] _ [] rfl (by decide) (by simp)
  · rw [decide_eq_true hg1]
    clear hg1
    obtain ⟨x0,x1⟩:=X.out.c2 (i:=2) rfl
    obtain ⟨z0,z1⟩:=X.out.c2 (i:=4) rfl
    go_wp2_with fail
    refine (HGC.out _ (HE.out _ X.out.bel)).mono ?_
    rintro e w8 ⟨rfl,hb9⟩
    have X:=Lib.hid (X.out.next hb9)
    clear hb9
    clear x0 x1 z0 z1
    have X:=Lib.hid (X.out.new #[.bool false,.string mv] 23)
    obtain ⟨g13,hg13⟩:∃ g,g=w8.heap.size:=⟨_,rfl⟩
    rw [←hg13] at X
    go_upto_region 9 with fail
    rw [←hg13]
    clear hg13
    as_aux_lemma =>
     refine wp_region_late (S:=fun w'=>(w'.cell? ⟨g12,0,none⟩=some (.bool bt)∧w'.cell? ⟨g12,1,none⟩=some (.string mt))∧(w'.cell? ⟨g8,0,none⟩=some (.bool false)∧w'.cell? ⟨g8,1,none⟩=some (.string mdb))∧(w'.cell? ⟨g13,0,none⟩=some (.bool false)∧w'.cell? ⟨g13,1,none⟩=some (.string mv))) (L:=[6,7]) (by kernel_rfl) ?_
     have X:=Lib.hid X.out.drew
     obtain ⟨V0,hV⟩:=wexi X.out
     rw [←hV] at X ⊢
     clear hV
     refine tk (i:=0) (oi:=⟨some 56,_,_,_,_,_⟩) (v:=_) rfl (by kernel_rfl) (fun _ _ _ h=>h) (⟨X.out.c2 (i:=4) rfl,X.out.c2 (i:=1) rfl,X.out.c2 (i:=5) rfl⟩) (Or.inl ⟨by rfl,by intro w hSw;(try dsimp only at hSw);(first | (go_simp;done) | (go_simp;with_reducible rfl))⟩) ?_
     try simp only [Act.put,seti,set0,setS]
     refine tk (i:=1) (oi:=⟨some 57,_,_,_,_,_⟩) (v:=_) rfl (by kernel_rfl) (fun _ _ _ h=>h) (⟨X.out.c2 (i:=4) rfl,X.out.c2 (i:=1) rfl,X.out.c2 (i:=5) rfl⟩) (Or.inl ⟨by rfl,by intro w hSw;(try dsimp only at hSw);(first | (go_simp;done) | (go_simp;with_reducible rfl))⟩) ?_
     try simp only [Act.put,seti,set0,setS]
     refine tk (i:=3) (oi:=⟨some 59,_,_,_,_,_⟩) (v:=_) rfl (by kernel_rfl) (fun _ _ _ h=>h) (⟨X.out.c2 (i:=4) rfl,X.out.c2 (i:=1) rfl,X.out.c2 (i:=5) rfl⟩) (Or.inl ⟨by rfl,by intro w hSw;(try dsimp only at hSw);(first | (go_simp;done) | (go_simp;with_reducible rfl))⟩) ?_
     try simp only [Act.put,seti,set0,setS]
     refine tk (i:=4) (oi:=⟨some 60,_,_,_,_,_⟩) (v:=_) rfl (by kernel_rfl) (fun _ _ _ h=>h) (⟨X.out.c2 (i:=4) rfl,X.out.c2 (i:=1) rfl,X.out.c2 (i:=5) rfl⟩) (Or.inl ⟨by rfl,by intro w hSw;(try dsimp only at hSw);(first | (go_simp;done) | (go_simp;with_reducible rfl))⟩) ?_
     try simp only [Act.put,seti,set0,setS]
     refine wpLate_one (i:=2) (o:=⟨some 58,_,_,_,_,_⟩) (by kernel_rfl) rfl (fun K hK=>?_)
     go_simp
     (go_at_call 133;refine (HQ3.out _ (HE.out _ X.out.bel)).mono ?_;rintro e u1 ⟨rfl,hb9⟩;have X:=Lib.hid (X.out.next hb9);clear hb9)
     try go_wp2_with fail
     refine hK.out _ _ (Or.inr (fun _=>⟨X.out.c2 (i:=4) rfl,X.out.c2 (i:=1) rfl,X.out.c2 (i:=5) rfl⟩)) ?_
     clear hK K
     try simp only [Act.put,seti,set0,setS]
     refine wpLate_one (i:=5) (o:=⟨some 61,_,_,_,_,_⟩) (by kernel_rfl) rfl (fun K hK=>?_)
     go_simp
     (go_at_call 133;refine (HQ4.out _ (HE.out _ X.out.bel)).mono ?_;rintro e u2 ⟨rfl,hb9⟩;have X:=Lib.hid (X.out.next hb9);clear hb9)
     try go_wp2_with fail
     refine hK.out _ _ (Or.inr (fun _=>⟨X.out.c2 (i:=4) rfl,X.out.c2 (i:=1) rfl,X.out.c2 (i:=5) rfl⟩)) ?_
     clear hK K
     try simp only [Act.put,seti,set0,setS]
     refine wpLate_one (i:=6) (o:=⟨none,_,_,_,_,_⟩) (by kernel_rfl) rfl (fun K hK=>?_)
     obtain ⟨x0,x1⟩:=X.out.c2 (i:=4) rfl
     obtain ⟨y0,y1⟩:=X.out.f2 (i:=4) rfl
     have X:=Lib.hid (X.out.set2 (i:=4) rfl (.bool bn) (.string mn))
     go_simp
     refine hK.out _ _ (Or.inl (by rfl)) ?_
     clear hK K x0 x1 y0 y1
     try simp only [Act.put,seti,set0,setS]
     obtain ⟨W3,hV⟩:=wexi X.out
     rw [←hV] at X ⊢
     clear hV
     refine wpLate_one (i:=7) (o:=⟨none,_,_,_,_,_⟩) (by kernel_rfl) rfl (fun K hK=>?_)
     obtain ⟨x0,x1⟩:=X.out.c2 (i:=1) rfl
     obtain ⟨y0,y1⟩:=X.out.f2 (i:=1) rfl
     have X:=Lib.hid (X.out.set2 (i:=1) rfl (.bool false) (.string md2))
     go_simp
     refine hK.out _ _ (Or.inl (by rfl)) ?_
     clear hK K x0 x1 y0 y1
     try simp only [Act.put,seti,set0,setS]
     obtain ⟨W4,hV⟩:=wexi X.out
     rw [←hV] at X ⊢
     clear hV
     refine wpLate_done (by kernel_rfl) ?_ _
     go_wp2_with fail
     go_meet
     exact X.out.pick [0,3,4,1] _ [] rfl (by decide) (by simp)
 have X:=Lib.hid hcut
 clear hcut
 go_upto_region 10 with fail
 as_aux_lemma =>
  refine wp_region_late (S:=fun w'=>(w'.cell? ⟨g10,0,none⟩=some (.bool false)∧w'.cell? ⟨g10,1,none⟩=some (.string mq))∧(w'.cell? ⟨g12,0,none⟩=some (.bool bn)∧w'.cell? ⟨g12,1,none⟩=some (.string mn))∧(w'.cell? ⟨g8,0,none⟩=some (.bool false)∧w'.cell? ⟨g8,1,none⟩=some (.string md2))) (L:=[]) (by kernel_rfl) ?_
  have X:=Lib.hid X.out.drew
  obtain ⟨V0,hV⟩:=wexi X.out
  rw [←hV] at X ⊢
  clear hV
  refine tk (i:=0) (oi:=⟨some 62,_,_,_,_,_⟩) (v:=_) rfl (by kernel_rfl) (fun _ _ _ h=>h) (⟨X.out.c2 (i:=1) rfl,X.out.c2 (i:=2) rfl,X.out.c2 (i:=3) rfl⟩) (Or.inl ⟨by rfl,by intro w hSw;(try dsimp only at hSw);(first | (go_simp;done) | (go_simp;with_reducible rfl))⟩) ?_
  try simp only [Act.put,seti,set0,setS]
  refine tk (i:=1) (oi:=⟨some 63,_,_,_,_,_⟩) (v:=_) rfl (by kernel_rfl) (fun _ _ _ h=>h) (⟨X.out.c2 (i:=1) rfl,X.out.c2 (i:=2) rfl,X.out.c2 (i:=3) rfl⟩) (Or.inl ⟨by rfl,by intro w hSw;(try dsimp only at hSw);(first | (go_simp;done) | (go_simp;with_reducible rfl))⟩) ?_
  try simp only [Act.put,seti,set0,setS]
  refine tk (i:=2) (oi:=⟨some 64,_,_,_,_,_⟩) (v:=_) rfl (by kernel_rfl) (fun _ _ _ h=>h) (⟨X.out.c2 (i:=1) rfl,X.out.c2 (i:=2) rfl,X.out.c2 (i:=3) rfl⟩) (Or.inl ⟨by rfl,by intro w hSw;(try dsimp only at hSw);(first | (go_simp;done) | (go_simp;with_reducible rfl))⟩) ?_
  try simp only [Act.put,seti,set0,setS]
  refine wpLate_one (i:=3) (o:=⟨some 65,_,_,_,_,_⟩) (by kernel_rfl) rfl (fun K hK=>?_)
  go_simp
  (go_at_call 132;refine (HT3.out _ (HE.out _ X.out.bel)).mono ?_;rintro e u1 ⟨rfl,hb9⟩;have X:=Lib.hid (X.out.next hb9);clear hb9)
  try go_wp2_with fail
  refine hK.out _ _ (Or.inr (fun _=>⟨X.out.c2 (i:=1) rfl,X.out.c2 (i:=2) rfl,X.out.c2 (i:=3) rfl⟩)) ?_
  clear hK K
  try simp only [Act.put,seti,set0,setS]
  refine wpLate_one (i:=4) (o:=⟨some 66,_,_,_,_,_⟩) (by kernel_rfl) rfl (fun K hK=>?_)
  go_simp
  (go_at_call 129;refine (HCP.out _ (HE.out _ X.out.bel)).mono ?_;rintro e u2 ⟨rfl,hb9⟩;have X:=Lib.hid (X.out.next hb9);clear hb9)
  try go_wp2_with fail
  refine hK.out _ _ (Or.inr (fun _=>⟨X.out.c2 (i:=1) rfl,X.out.c2 (i:=2) rfl,X.out.c2 (i:=3) rfl⟩)) ?_
  clear hK K
  try simp only [Act.put,seti,set0,setS]
  refine wpLate_one (i:=5) (o:=⟨none,_,_,_,_,_⟩) (by kernel_rfl) rfl (fun K hK=>?_)
  obtain ⟨x0,x1,x2,x3⟩:=X.out.c4 (i:=0) rfl
  obtain ⟨y0,y1,y2,y3⟩:=X.out.f4 (i:=0) rfl
  have X:=Lib.hid (X.out.set4 (i:=0) rfl (.bool bn) (.string mn) (.bool false) (.string (dm dd)))
  go_simp
  refine hK.out _ _ (Or.inr (fun _=>⟨X.out.c2 (i:=1) rfl,X.out.c2 (i:=2) rfl,X.out.c2 (i:=3) rfl⟩)) ?_
  clear hK K x0 x1 x2 x3 y0 y1 y2 y3
  try simp only [Act.put,seti,set0,setS]
  obtain ⟨W3,hV⟩:=wexi X.out
  rw [←hV] at X ⊢
  clear hV
  refine wpLate_done (by kernel_rfl) ?_ _
  go_wp2
  obtain ⟨p0,p1,p2,p3⟩:=X.out.c4 (i:=0) rfl
  exact bodyPost_ret (v:=.agg #[.bool bn,.string mn,.bool false,.string (dm dd)]) (by simp [results,Tryz.results137,go_sem,p0,p1,p2,p3]) rfl ⟨rfl,X.out.bel⟩
end Go.Proofs.YtpnokfgplnmjpaaGreatDoor


namespace Go.Proofs.YtpnokfgplnmjpaaGreatDoor
open Go.RowKit
attribute [local go_sem ↓] Go.wp_at_zero Go.wp_at_succ

set_option maxHeartbeats 1000000 in
set_option maxRecDepth 100000 in
theorem enter_add (args:Array Value) (W:World):(callFunc 101 args).run Tryz.prog W=.ok (.enter 101 args) W:=by
 have hf:=Tryz.func101
 simp [callFunc,go_sem,hf]
 first | rfl | kernel_rfl | decide

set_option maxHeartbeats 1000000 in
set_option maxRecDepth 100000 in
theorem enter_sub (args:Array Value) (W:World):(callFunc 98 args).run Tryz.prog W=.ok (.enter 98 args) W:=by
 have hf:=Tryz.func98
 simp [callFunc,go_sem,hf]
 first | rfl | kernel_rfl | decide

set_option maxHeartbeats 4000000 in
set_option maxRecDepth 100000 in
theorem combine_int (OP:FuncId) (hEn:∀ (args:Array Value) (W:World),(callFunc OP args).run Tryz.prog W=.ok (.enter OP args) W) {b1 b2 b3:Bool} {m1 m2 m3:ByteArray} (hop:∀ V,Calls Tryz.prog OP #[.agg #[.bool b1,.string m1],.agg #[.bool b2,.string m2]] V (RetB V (.agg #[.bool b3,.string m3]))) (w:World) :
  Calls Tryz.prog 137 #[.agg #[.bool b1,.string m1,.bool false,.string ⟨#[]⟩],.agg #[.bool b2,.string m2,.bool false,.string ⟨#[]⟩],.func (.func OP) #[] #[]] w (RetB w (.agg #[.bool b3,.string m3,.bool false,.string ⟨#[]⟩])):=by
 have HO:=Lib.hid hop
 have KK:=Lib.hid (Kc.start w #[.bool b1,.string m1,.bool false,.string ⟨#[]⟩] #[.bool b2,.string m2,.bool false,.string ⟨#[]⟩] #[.bool false,.string ⟨#[]⟩,.bool false,.string ⟨#[]⟩] 25 25 25)
 have HI1:=Lib.hid (fun V=>isInteger_yes b1 m1 V)
 have HI2:=Lib.hid (fun V=>isInteger_yes b2 m2 V)
 clear hop
 obtain ⟨p0,p1,p2,p3⟩:=blk4 KK.out.k1
 obtain ⟨q0,q1,q2,q3⟩:=blk4 KK.out.k2
 go_enter Tryz.func137,Tryz.ntmps137
 go_wp2_with fail
 refine (HI1.out _).mono ?_
 rintro e w1 ⟨rfl,hb1⟩
 have KK:=Lib.hid (KK.out.next hb1)
 clear hb1 p0 p1 p2 p3 q0 q1 q2 q3
 obtain ⟨p0,p1,p2,p3⟩:=blk4 KK.out.k1
 obtain ⟨q0,q1,q2,q3⟩:=blk4 KK.out.k2
 go_wp2_with fail
 refine (HI2.out _).mono ?_
 rintro e w2 ⟨rfl,hb2⟩
 have KK:=Lib.hid (KK.out.next hb2)
 clear hb2 p0 p1 p2 p3 q0 q1 q2 q3
 obtain ⟨p0,p1,p2,p3⟩:=blk4 KK.out.k1
 obtain ⟨q0,q1,q2,q3⟩:=blk4 KK.out.k2
 go_wp2_with fail
 refine (HO.out _).mono ?_
 rintro e w3 ⟨rfl,hb3⟩
 have K1:=Lib.hid (KK.out.next hb3)
 obtain ⟨t0,t1,t2,t3⟩:=blk4 K1.out.k3
 obtain ⟨f0,f1,f2,f3⟩:=fro4 K1.out.k3
 clear hb3
 go_wp2
 exact bodyPost_ret (v:=.agg #[.bool b3,.string m3,.bool false,.string ⟨#[]⟩]) (by simp [results,Tryz.results137,go_sem,t0,t1,t2,t3]) rfl ⟨rfl,below_set4 K1.out.bel (by omega) _ _ _ _⟩

set_option maxHeartbeats 4000000 in
set_option maxRecDepth 100000 in
theorem ratAdd_f {p q:Rat} {b1 b2 b3:Bool} {m1 m2 m3 k1 k2 k3:ByteArray} (hp:Rq p b1 m1 k1) (hq:Rq q b2 m2 k2) (hr:Rq (p+q) b3 m3 k3) (s1:m1.size≤10000) (s2:m2.size≤10000) (s3:(mag p.den).size≤10000) (s4:(mag q.den).size≤10000) (w:World) (hE:Env w) :
  Calls Tryz.prog 89 #[.agg #[.bool b1,.string m1,.bool false,.string k1],.agg #[.bool b2,.string m2,.bool false,.string k2]] w (RetB w (.agg #[.bool b3,.string m3,.bool false,.string k3])):=by
 have hcm:∀ V,Env V→Calls Tryz.prog 137 #[.agg #[.bool b1,.string m1,.bool false,.string k1],.agg #[.bool b2,.string m2,.bool false,.string k2],.func (.func 101) #[] #[]] V (RetB V (.agg #[.bool b3,.string m3,.bool false,.string k3])):=by
  intro V hV
  by_cases hint:p.den=1∧q.den=1
  · obtain ⟨h1,h2⟩:=hint
    have hz:p+q=((p.num+q.num:Int):Rat):=by
     rw [int_of_den h1,int_of_den h2]
     simp only [Rat.num_intCast]
     exact (Rat.intCast_add _ _).symm
    rw [hz] at hr
    obtain rfl:=hp.den1 h1
    obtain rfl:=hq.den1 h2
    obtain rfl:=hr.den1 (Rat.den_intCast _)
    have hn:=hr.num
    rw [Rat.num_intCast] at hn
    exact combine_int 101 enter_add (fun V=>add_f hp.num hq.num (by omega) (by omega) hn rfl V) V
  · obtain ⟨bt,mt,ht⟩:=enc_form (p.num*((q.den / Nat.gcd p.den q.den:Nat):Int)+q.num*((p.den / Nat.gcd p.den q.den:Nat):Int))
    obtain ⟨e1,e2⟩:=add_parts p q (g:=Nat.gcd p.den q.den) rfl rfl rfl rfl
    have n1:=nd_mul p.num.natAbs (q.den / Nat.gcd p.den q.den)
    have n2:=nd_mul q.num.natAbs (p.den / Nat.gcd p.den q.den)
    have n3:nd (q.den / Nat.gcd p.den q.den)≤10000:=Nat.le_trans (nd_div _ _) s4
    have n4:nd (p.den / Nat.gcd p.den q.den)≤10000:=Nat.le_trans (nd_div _ _) s3
    have n5:nd p.num.natAbs≤10000:=by unfold nd;rw [←hp.mag.2];exact s1
    have n6:nd q.num.natAbs≤10000:=by unfold nd;rw [←hq.mag.2];exact s2
    have n7:mt.size≤50000:=by
     rw [(enc_parts ht).2]
     refine Nat.le_trans (nd_mono (Y:=p.num.natAbs*(q.den / Nat.gcd p.den q.den)+q.num.natAbs*(p.den / Nat.gcd p.den q.den)) ?_) (Nat.le_trans (nd_add _ _) (by omega))
     have h1:=Int.natAbs_add_le (p.num*((q.den / Nat.gcd p.den q.den:Nat):Int)) (q.num*((p.den / Nat.gcd p.den q.den:Nat):Int))
     rw [Int.natAbs_mul,Int.natAbs_mul,Int.natAbs_natCast,Int.natAbs_natCast] at h1
     exact h1
    obtain ⟨bg,mg,hg⟩:=enc_form ((Nat.gcd p.den q.den:Nat):Int)
    have hmn:=hr.num
    rw [e1] at hmn
    have hk3:=hr.den
    rw [e2] at hk3
    rw [hk3]
    refine ratCombine_any 101 enter_add hp hq hint rfl rfl rfl hg ht ?_ rfl rfl rfl hmn s1 s2 s3 s4 n7 V hV
    intro x y c1 c2 t1 t2 ex ey hx hy U
    have z1:t1.size≤30000:=by
     rw [(enc_parts hx).2,ex,Int.natAbs_mul,Int.natAbs_natCast]
     exact Nat.le_trans n1 (by omega)
    have z2:t2.size≤30000:=by
     rw [(enc_parts hy).2,ey,Int.natAbs_mul,Int.natAbs_natCast]
     exact Nat.le_trans n2 (by omega)
    exact add_f hx hy (by omega) (by omega) ht (by rw [ex,ey]) U
 have HC:=Lib.hid hcm
 have HE:=Lib.hid (fun V (h:Below w.heap.size w V)=>hE.next h)
 have KK:=Lib.hid (Kc.start w #[.bool b1,.string m1,.bool false,.string k1] #[.bool b2,.string m2,.bool false,.string k2] #[.bool false,.string ⟨#[]⟩,.bool false,.string ⟨#[]⟩] 25 25 25)
 obtain ⟨p0,p1,p2,p3⟩:=blk4 KK.out.k1
 obtain ⟨q0,q1,q2,q3⟩:=blk4 KK.out.k2
 clear hp hq hr hcm hE s1 s2 s3 s4
 go_enter Tryz.func89,Tryz.ntmps89
 go_wp2_with fail
 refine (HC.out _ (HE.out _ KK.out.bel)).mono ?_
 rintro e w1 ⟨rfl,hb1⟩
 have K1:=Lib.hid (KK.out.next hb1)
 obtain ⟨t0,t1,t2,t3⟩:=blk4 K1.out.k3
 obtain ⟨f0,f1,f2,f3⟩:=fro4 K1.out.k3
 clear hb1
 go_wp2
 exact bodyPost_ret (v:=.agg #[.bool b3,.string m3,.bool false,.string k3]) (by simp [results,Tryz.results89,go_sem,t0,t1,t2,t3]) rfl ⟨rfl,below_set4 K1.out.bel (by omega) _ _ _ _⟩

set_option maxHeartbeats 4000000 in
set_option maxRecDepth 100000 in
theorem ratSub_f {p q:Rat} {b1 b2 b3:Bool} {m1 m2 m3 k1 k2 k3:ByteArray} (hp:Rq p b1 m1 k1) (hq:Rq q b2 m2 k2) (hr:Rq (p-q) b3 m3 k3) (s1:m1.size≤10000) (s2:m2.size≤10000) (s3:(mag p.den).size≤10000) (s4:(mag q.den).size≤10000) (w:World) (hE:Env w) :
  Calls Tryz.prog 81 #[.agg #[.bool b1,.string m1,.bool false,.string k1],.agg #[.bool b2,.string m2,.bool false,.string k2]] w (RetB w (.agg #[.bool b3,.string m3,.bool false,.string k3])):=by
 have hcm:∀ V,Env V→Calls Tryz.prog 137 #[.agg #[.bool b1,.string m1,.bool false,.string k1],.agg #[.bool b2,.string m2,.bool false,.string k2],.func (.func 98) #[] #[]] V (RetB V (.agg #[.bool b3,.string m3,.bool false,.string k3])):=by
  intro V hV
  by_cases hint:p.den=1∧q.den=1
  · obtain ⟨h1,h2⟩:=hint
    have hz:p-q=((p.num-q.num:Int):Rat):=by
     rw [int_of_den h1,int_of_den h2]
     simp only [Rat.num_intCast]
     exact (Rat.intCast_sub _ _).symm
    rw [hz] at hr
    obtain rfl:=hp.den1 h1
    obtain rfl:=hq.den1 h2
    obtain rfl:=hr.den1 (Rat.den_intCast _)
    have hn:=hr.num
    rw [Rat.num_intCast] at hn
    exact combine_int 98 enter_sub (fun V=>sub_f hp.num hq.num (by omega) (by omega) hn rfl V) V
  · obtain ⟨bt,mt,ht⟩:=enc_form (p.num*((q.den / Nat.gcd p.den q.den:Nat):Int)-q.num*((p.den / Nat.gcd p.den q.den:Nat):Int))
    obtain ⟨e1,e2⟩:=sub_parts p q (g:=Nat.gcd p.den q.den) rfl rfl rfl rfl
    have n1:=nd_mul p.num.natAbs (q.den / Nat.gcd p.den q.den)
    have n2:=nd_mul q.num.natAbs (p.den / Nat.gcd p.den q.den)
    have n3:nd (q.den / Nat.gcd p.den q.den)≤10000:=Nat.le_trans (nd_div _ _) s4
    have n4:nd (p.den / Nat.gcd p.den q.den)≤10000:=Nat.le_trans (nd_div _ _) s3
    have n5:nd p.num.natAbs≤10000:=by unfold nd;rw [←hp.mag.2];exact s1
    have n6:nd q.num.natAbs≤10000:=by unfold nd;rw [←hq.mag.2];exact s2
    have n7:mt.size≤50000:=by
     rw [(enc_parts ht).2]
     refine Nat.le_trans (nd_mono (Y:=p.num.natAbs*(q.den / Nat.gcd p.den q.den)+q.num.natAbs*(p.den / Nat.gcd p.den q.den)) ?_) (Nat.le_trans (nd_add _ _) (by omega))
     have h1:=Int.natAbs_sub_le (p.num*((q.den / Nat.gcd p.den q.den:Nat):Int)) (q.num*((p.den / Nat.gcd p.den q.den:Nat):Int))
     rw [Int.natAbs_mul,Int.natAbs_mul,Int.natAbs_natCast,Int.natAbs_natCast] at h1
     exact h1
    obtain ⟨bg,mg,hg⟩:=enc_form ((Nat.gcd p.den q.den:Nat):Int)
    have hmn:=hr.num
    rw [e1] at hmn
    have hk3:=hr.den
    rw [e2] at hk3
    rw [hk3]
    refine ratCombine_any 98 enter_sub hp hq hint rfl rfl rfl hg ht ?_ rfl rfl rfl hmn s1 s2 s3 s4 n7 V hV
    intro x y c1 c2 t1 t2 ex ey hx hy U
    have z1:t1.size≤30000:=by
     rw [(enc_parts hx).2,ex,Int.natAbs_mul,Int.natAbs_natCast]
     exact Nat.le_trans n1 (by omega)
    have z2:t2.size≤30000:=by
     rw [(enc_parts hy).2,ey,Int.natAbs_mul,Int.natAbs_natCast]
     exact Nat.le_trans n2 (by omega)
    exact sub_f hx hy (by omega) (by omega) ht (by rw [ex,ey]) U
 have HC:=Lib.hid hcm
 have HE:=Lib.hid (fun V (h:Below w.heap.size w V)=>hE.next h)
 have KK:=Lib.hid (Kc.start w #[.bool b1,.string m1,.bool false,.string k1] #[.bool b2,.string m2,.bool false,.string k2] #[.bool false,.string ⟨#[]⟩,.bool false,.string ⟨#[]⟩] 25 25 25)
 obtain ⟨p0,p1,p2,p3⟩:=blk4 KK.out.k1
 obtain ⟨q0,q1,q2,q3⟩:=blk4 KK.out.k2
 clear hp hq hr hcm hE s1 s2 s3 s4
 go_enter Tryz.func81,Tryz.ntmps81
 go_wp2_with fail
 refine (HC.out _ (HE.out _ KK.out.bel)).mono ?_
 rintro e w1 ⟨rfl,hb1⟩
 have K1:=Lib.hid (KK.out.next hb1)
 obtain ⟨t0,t1,t2,t3⟩:=blk4 K1.out.k3
 obtain ⟨f0,f1,f2,f3⟩:=fro4 K1.out.k3
 clear hb1
 go_wp2
 exact bodyPost_ret (v:=.agg #[.bool b3,.string m3,.bool false,.string k3]) (by simp [results,Tryz.results81,go_sem,t0,t1,t2,t3]) rfl ⟨rfl,below_set4 K1.out.bel (by omega) _ _ _ _⟩
end Go.Proofs.YtpnokfgplnmjpaaGreatDoor


namespace Go.Proofs.YtpnokfgplnmjpaaGreatDoor
open Go.RowKit
attribute [local go_sem ↓] Go.wp_at_zero Go.wp_at_succ
theorem mul_z {p q:Rat} {b1 b2:Bool} {m1 m2 k1 k2:ByteArray} {b3:Bool} {m3 k3:ByteArray} (hp:Rq p b1 m1 k1) (hq:Rq q b2 m2 k2) (hr:Rq (p*q) b3 m3 k3) (zp:Sz 10000 p) (zq:Sz 10000 q) (w:World) (hE:Env w) :
 Calls Tryz.prog 75 #[.agg #[.bool b1,.string m1,.bool false,.string k1],.agg #[.bool b2,.string m2,.bool false,.string k2]] w (RetB w (.agg #[.bool b3,.string m3,.bool false,.string k3])):=ratMul_f hp hq hr (zp.m hp (Nat.le_refl _)).1 (zq.m hq (Nat.le_refl _)).1 (zp.m hp (Nat.le_refl _)).2 (zq.m hq (Nat.le_refl _)).2 w hE
theorem rmul_z {p q:Rat} {b1 b2:Bool} {m1 m2 k1 k2:ByteArray} {b3:Bool} {m3 k3:ByteArray} (hp:Rq p b1 m1 k1) (hq:Rq q b2 m2 k2) (hr:Rq (p*q) b3 m3 k3) (zp:Sz 10000 p) (zq:Sz 10000 q) (w:World) :
 Calls Tryz.prog 78 #[.agg #[.bool b1,.string m1,.bool false,.string k1],.agg #[.bool b2,.string m2,.bool false,.string k2]] w (RetB w (.agg #[.bool b3,.string m3,.bool false,.string k3])):=rMul_f hp hq hr (zp.m hp (Nat.le_refl _)).1 (zq.m hq (Nat.le_refl _)).1 (zp.m hp (Nat.le_refl _)).2 (zq.m hq (Nat.le_refl _)).2 w
theorem add_z {p q:Rat} {b1 b2:Bool} {m1 m2 k1 k2:ByteArray} {b3:Bool} {m3 k3:ByteArray} (hp:Rq p b1 m1 k1) (hq:Rq q b2 m2 k2) (hr:Rq (p+q) b3 m3 k3) (zp:Sz 10000 p) (zq:Sz 10000 q) (w:World) (hE:Env w) :
 Calls Tryz.prog 89 #[.agg #[.bool b1,.string m1,.bool false,.string k1],.agg #[.bool b2,.string m2,.bool false,.string k2]] w (RetB w (.agg #[.bool b3,.string m3,.bool false,.string k3])):=ratAdd_f hp hq hr (zp.m hp (Nat.le_refl _)).1 (zq.m hq (Nat.le_refl _)).1 (zp.m hp (Nat.le_refl _)).2 (zq.m hq (Nat.le_refl _)).2 w hE
theorem radd_z {p q:Rat} {b1 b2:Bool} {m1 m2 k1 k2:ByteArray} {b3:Bool} {m3 k3:ByteArray} (hp:Rq p b1 m1 k1) (hq:Rq q b2 m2 k2) (hr:Rq (p+q) b3 m3 k3) (zp:Sz 10000 p) (zq:Sz 10000 q) (w:World) :
 Calls Tryz.prog 77 #[.agg #[.bool b1,.string m1,.bool false,.string k1],.agg #[.bool b2,.string m2,.bool false,.string k2]] w (RetB w (.agg #[.bool b3,.string m3,.bool false,.string k3])):=rAdd_f hp hq hr (zp.m hp (Nat.le_refl _)).1 (zq.m hq (Nat.le_refl _)).1 (zp.m hp (Nat.le_refl _)).2 (zq.m hq (Nat.le_refl _)).2 w
theorem sub_z {p q:Rat} {b1 b2:Bool} {m1 m2 k1 k2:ByteArray} {b3:Bool} {m3 k3:ByteArray} (hp:Rq p b1 m1 k1) (hq:Rq q b2 m2 k2) (hr:Rq (p-q) b3 m3 k3) (zp:Sz 10000 p) (zq:Sz 10000 q) (w:World) (hE:Env w) :
 Calls Tryz.prog 81 #[.agg #[.bool b1,.string m1,.bool false,.string k1],.agg #[.bool b2,.string m2,.bool false,.string k2]] w (RetB w (.agg #[.bool b3,.string m3,.bool false,.string k3])):=ratSub_f hp hq hr (zp.m hp (Nat.le_refl _)).1 (zq.m hq (Nat.le_refl _)).1 (zp.m hp (Nat.le_refl _)).2 (zq.m hq (Nat.le_refl _)).2 w hE
theorem div_z {p q:Rat} {b1 b2:Bool} {m1 m2 k1 k2:ByteArray} {b3:Bool} {m3 k3:ByteArray} (hp:Rq p b1 m1 k1) (hq:Rq q b2 m2 k2) (hr:Rq (p / q) b3 m3 k3) (h0:q.num≠0) (zp:Sz 10000 p) (zq:Sz 10000 q) (w:World) (hE:Env w) :
 Calls Tryz.prog 136 #[.agg #[.bool b1,.string m1,.bool false,.string k1],.agg #[.bool b2,.string m2,.bool false,.string k2]] w (RetB w (.tuple #[.agg #[.bool b3,.string m3,.bool false,.string k3],.int .i64 0])):=ratDiv_f hp hq hr h0 (zp.m hp (Nat.le_refl _)).1 (zq.m hq (Nat.le_refl _)).1 (zp.m hp (Nat.le_refl _)).2 (zq.m hq (Nat.le_refl _)).2 w hE
theorem cmp_z {p q:Rat} {b1 b2:Bool} {m1 m2 k1 k2:ByteArray} (hp:Rq p b1 m1 k1) (hq:Rq q b2 m2 k2) (zp:Sz 10000 p) (zq:Sz 10000 q) (w:World) (hE:Env w) :
  Calls Tryz.prog 86 #[.agg #[.bool b1,.string m1,.bool false,.string k1],.agg #[.bool b2,.string m2,.bool false,.string k2]] w (RetB w (.int .i64 (Sg.sgq (p-q)))):=by
 rw [sgq_cmp]
 exact ratCompare_f hp hq (zp.m hp (Nat.le_refl _)).1 (zq.m hq (Nat.le_refl _)).1 (zp.m hp (Nat.le_refl _)).2 (zq.m hq (Nat.le_refl _)).2 w hE
theorem sign_z {q:Rat} {b:Bool} {m k:ByteArray} (h:Rq q b m k) (w:World):Calls Tryz.prog 71 #[.agg #[.bool b,.string m,.bool false,.string k]] w (RetB w (.int .i64 (Sg.sgq q))):=by
 rw [sgq_num]
 exact ratSign_f h w
theorem rsign_z {q:Rat} {b:Bool} {m k:ByteArray} (h:Rq q b m k) (w:World):Calls Tryz.prog 28 #[.agg #[.bool b,.string m,.bool false,.string k]] w (RetB w (.int .i64 (Sg.sgq q))):=by
 rw [sgq_num]
 exact rSign_f h w
theorem Sz.sub {n m:Nat} {p q:Rat} (hp:Sz n p) (hq:Sz m q):Sz (n+m+1) (p-q):=by
 rw [Rat.sub_eq_add_neg]
 exact hp.add hq.minus
end Go.Proofs.YtpnokfgplnmjpaaGreatDoor


namespace Go.Proofs.YtpnokfgplnmjpaaGreatDoor
open Go.RowKit
attribute [local go_sem ↓] Go.wp_at_zero Go.wp_at_succ

theorem size_pos {n:ByteArray} (h:n≠⟨#[]⟩):0<n.size:=by
 rcases Nat.eq_zero_or_pos n.size with h1 | h1
 · exact absurd (ext_bytes (t:=⟨#[]⟩) h1 (fun i h2 _=>by omega)) h
 · exact h1
theorem Rq.ne {q:Rat} {b:Bool} {m k:ByteArray} (h:Rq q b m k) (h0:q≠0):m≠⟨#[]⟩:=by
 intro e
 have h1:=h.mag.2
 rw [e] at h1
 have h2:¬q.num.natAbs≠0:=fun h3=>mag_no_nil h3 h1.symm
 exact h0 (Rat.num_eq_zero.1 (by omega))

set_option maxHeartbeats 8000000 in
set_option maxRecDepth 100000 in
theorem isRat_yes (b1 s1:Bool) (m1 k1:ByteArray) (w:World) :
  Calls Tryz.prog 70 #[.agg #[.bool b1,.string m1,.bool false,.string k1,.bool false,.string ⟨#[]⟩,.bool false,.string ⟨#[]⟩,.bool s1]] w (RetB w (.bool true)):=by
 go_enter Tryz.func70,Tryz.ntmps70
 exact wk0

set_option maxHeartbeats 8000000 in
set_option maxRecDepth 100000 in
theorem isRat_any (b1 c1 s1:Bool) (m1 k1 n1 l1:ByteArray) (hn:n1≠⟨#[]⟩) (w:World) :
  Calls Tryz.prog 70 #[.agg #[.bool b1,.string m1,.bool false,.string k1,.bool c1,.string n1,.bool false,.string l1,.bool s1]] w (RetB w (.bool false)):=by
 obtain ⟨h1,h2⟩:=str_ne hn
 have h3:=empty_no (size_pos hn)
 clear hn
 go_enter Tryz.func70,Tryz.ntmps70
 exact wk0

theorem isRat_no {b1 c1 s1:Bool} {m1 k1 n1 l1:ByteArray} {x:Sg.Rl} (h:Rv x b1 m1 k1 c1 n1 l1 s1) (h0:x.a≠0) (w:World):Calls Tryz.prog 70 #[.agg #[.bool b1,.string m1,.bool false,.string k1,.bool c1,.string n1,.bool false,.string l1,.bool s1]] w (RetB w (.bool false)):=isRat_any _ _ _ _ _ _ _ (h.r.ne h0) w
theorem isRat_f {b1 c1 s1:Bool} {m1 k1 n1 l1:ByteArray} {x:Sg.Rl} (h:Rv x b1 m1 k1 c1 n1 l1 s1) (w:World):Calls Tryz.prog 70 #[.agg #[.bool b1,.string m1,.bool false,.string k1,.bool c1,.string n1,.bool false,.string l1,.bool s1]] w (RetB w (.bool (decide (x.a=0)))):=by
 by_cases h0:x.a=0
 · rw [decide_eq_true h0]
   obtain ⟨rfl,rfl,rfl⟩:=h.r.nought.1 h0
   exact isRat_yes _ _ _ _ w
 · rw [decide_eq_false h0]
   exact isRat_no h h0 w

set_option maxHeartbeats 8000000 in
set_option maxRecDepth 100000 in
theorem fromRat_any (b1:Bool) (m1 k1:ByteArray) (w:World) :
  Calls Tryz.prog 25 #[.agg #[.bool b1,.string m1,.bool false,.string k1]] w (RetB w (.agg #[.bool b1,.string m1,.bool false,.string k1,.bool false,.string ⟨#[]⟩,.bool false,.string ⟨#[]⟩,.bool false])):=by
 have RS:=Lib.hid Tryz.results25
 go_enter Tryz.func25,Tryz.ntmps25
 exact wk0

set_option maxHeartbeats 8000000 in
set_option maxRecDepth 100000 in
theorem of_any (b1:Bool) (m1 k1:ByteArray) (w:World) :
  Calls Tryz.prog 20 #[.agg #[.bool b1,.string m1,.bool false,.string k1]] w (RetB w (.agg #[.bool b1,.string m1,.bool false,.string k1,.bool false,.string ⟨#[]⟩,.bool false,.string ⟨#[]⟩,.bool false])):=by
 have RS:=Lib.hid Tryz.results20
 go_enter Tryz.func20,Tryz.ntmps20
 exact wk0

set_option maxHeartbeats 8000000 in
set_option maxRecDepth 100000 in
theorem rootSign_any (b1 c1:Bool) (m1 k1 n1 l1:ByteArray) (s1:Bool) {s:Int} (hs:s=if s1 then -1 else 1) (w:World) :
  Calls Tryz.prog 88 #[.agg #[.bool b1,.string m1,.bool false,.string k1,.bool c1,.string n1,.bool false,.string l1,.bool s1]] w (RetB w (.int .i64 s)):=by
 have P1:=Lib.hid (show s1=true→s=-1 from fun h=>by rw [hs,if_pos h])
 have P2:=Lib.hid (show s1=false→s=1 from fun h=>by rw [hs,h];rfl)
 clear hs
 go_enter Tryz.func88,Tryz.ntmps88
 exact wk0

theorem rootSign_f {b1 c1 s1:Bool} {m1 k1 n1 l1:ByteArray} {x:Sg.Rl} (h:Rv x b1 m1 k1 c1 n1 l1 s1) (hs:x.s=1∨x.s=-1) (w:World):Calls Tryz.prog 88 #[.agg #[.bool b1,.string m1,.bool false,.string k1,.bool c1,.string n1,.bool false,.string l1,.bool s1]] w (RetB w (.int .i64 x.s)) :=
 rootSign_any _ _ _ _ _ _ _ (by rw [h.neg];rcases hs with e | e<;>rw [e]<;>decide) w

set_option maxHeartbeats 8000000 in
set_option maxRecDepth 100000 in
theorem whole_f {x:Int} {b:Bool} {m:ByteArray} (hx:enc x=.agg #[.bool b,.string m]) (x1:-9223372036854775808≤x) (x2:x≤9223372036854775807) (w:World) :
  Calls Tryz.prog 21 #[.int .i64 x] w (RetB w (.agg #[.bool b,.string m,.bool false,.string ⟨#[]⟩])):=by
 have C1:=Lib.hid (fun V (_:Below w.heap.size w V)=>show Calls Tryz.prog 74 #[.int .i64 x] V (RetB V (.agg #[.bool b,.string m])) from by have h:=rint_any x x1 x2 V;unfold RetZ at h;rw [hx] at h;exact h)
 clear hx x1 x2
 have RS:=Lib.hid Tryz.results21
 go_enter Tryz.func21,Tryz.ntmps21
 exact wk0

set_option maxHeartbeats 8000000 in
set_option maxRecDepth 100000 in
theorem zero_any  (w:World) :
  Calls Tryz.prog 24 #[] w (RetB w (.agg #[.bool false,.string ⟨#[]⟩,.bool false,.string ⟨#[]⟩])):=by
 have RS:=Lib.hid Tryz.results24
 go_enter Tryz.func24,Tryz.ntmps24
 exact wk0

set_option maxHeartbeats 8000000 in
set_option maxRecDepth 100000 in
theorem ratio_f {p q:Rat} {b1 b2 b3:Bool} {m1 k1 m2 k2 m3 k3:ByteArray} (hp:Rq p b1 m1 k1) (hq:Rq q b2 m2 k2) (hr:Rq (p / q) b3 m3 k3) (h0:q.num≠0) (zp:Sz 10000 p) (zq:Sz 10000 q) (w:World) (hE:Env w) :
  Calls Tryz.prog 79 #[.agg #[.bool b1,.string m1,.bool false,.string k1],.agg #[.bool b2,.string m2,.bool false,.string k2]] w (RetB w (.agg #[.bool b3,.string m3,.bool false,.string k3])):=by
 have C1:=ke hE (div_z hp hq hr h0 zp zq)
 have RS:=Lib.hid Tryz.results79
 clear hp hq hr h0 zp zq hE
 go_enter Tryz.func79,Tryz.ntmps79
 exact wk0
end Go.Proofs.YtpnokfgplnmjpaaGreatDoor


namespace Go.Proofs.YtpnokfgplnmjpaaGreatDoor
open Go.RowKit
attribute [local go_sem ↓] Go.wp_at_zero Go.wp_at_succ

set_option maxHeartbeats 8000000 in
set_option maxRecDepth 100000 in
theorem print_rat (w:World) {b1:Bool} {m1 k1:ByteArray} {t:ByteArray} (HI:∀ V,Below w.heap.size w V→Calls Tryz.prog 70 #[.agg #[.bool b1,.string m1,.bool false,.string k1,.bool false,.string ⟨#[]⟩,.bool false,.string ⟨#[]⟩,.bool false]] V (RetB V (.bool true))) (HP:∀ V,Below w.heap.size w V→Calls Tryz.prog 115 #[.agg #[.bool b1,.string m1,.bool false,.string k1]] V (RetB V (.string t))) :
  Calls Tryz.prog 63 #[.agg #[.bool b1,.string m1,.bool false,.string k1,.bool false,.string ⟨#[]⟩,.bool false,.string ⟨#[]⟩,.bool false]] w (RetB w (.string t)):=by
 have C1:=Lib.hid HI
 have C2:=Lib.hid HP
 clear HI HP 
 go_enter Tryz.func63,Tryz.ntmps63
 exact wk0

set_option maxHeartbeats 8000000 in
set_option maxRecDepth 100000 in
theorem fprint_rat (w:World) {b1:Bool} {m1 k1:ByteArray} {t:ByteArray} (HP:∀ V,Below w.heap.size w V→Calls Tryz.prog 117 #[.agg #[.bool b1,.string m1,.bool false,.string k1]] V (RetB V (.string t))) (HZ:∀ V,Below w.heap.size w V→Calls Tryz.prog 24 #[] V (RetB V (.agg #[.bool false,.string ⟨#[]⟩,.bool false,.string ⟨#[]⟩]))) :
  Calls Tryz.prog 65 #[.agg #[.bool b1,.string m1,.bool false,.string k1,.bool false,.string ⟨#[]⟩,.bool false,.string ⟨#[]⟩,.bool false]] w (RetB w (.string t)):=by
 have C1:=Lib.hid HP
 have C2:=Lib.hid HZ
 clear HP HZ 
 go_enter Tryz.func65,Tryz.ntmps65
 exact wk0

set_option maxHeartbeats 8000000 in
set_option maxRecDepth 100000 in
theorem print_irr_true (w:World) {b1 c1:Bool} {m1 k1 n1 l1:ByteArray} {t v:ByteArray} (ht:t.size≤100000) (hu:v.size≤100000) (HI:∀ V,Below w.heap.size w V→Calls Tryz.prog 70 #[.agg #[.bool b1,.string m1,.bool false,.string k1,.bool c1,.string n1,.bool false,.string l1,.bool true]] V (RetB V (.bool false))) (HP:∀ V,Below w.heap.size w V→Calls Tryz.prog 115 #[.agg #[.bool b1,.string m1,.bool false,.string k1]] V (RetB V (.string t))) (HQ:∀ V,Below w.heap.size w V→Calls Tryz.prog 115 #[.agg #[.bool c1,.string n1,.bool false,.string l1]] V (RetB V (.string v))) :
  Calls Tryz.prog 63 #[.agg #[.bool b1,.string m1,.bool false,.string k1,.bool c1,.string n1,.bool false,.string l1,.bool true]] w (RetB w (.string ((((t++⟨#[45]⟩)++⟨#[115,113,114,116,40]⟩)++v)++⟨#[41]⟩))):=by
 have z0:¬9223372036854775807<t.size+1:=by omega
 have z1:¬9223372036854775807<t.size+1+5:=by omega
 have z2:¬9223372036854775807<t.size+6:=by omega
 have z3:¬9223372036854775807<t.size+1+5+v.size:=by omega
 have z4:¬9223372036854775807<t.size+6+v.size:=by omega
 have z5:¬9223372036854775807<t.size+1+5+v.size+1:=by omega
 have z6:¬9223372036854775807<t.size+6+v.size+1:=by omega
 clear ht hu
 have C1:=Lib.hid HI
 have C2:=Lib.hid HP
 have C3:=Lib.hid HQ
 clear HI HP HQ 
 go_enter Tryz.func63,Tryz.ntmps63
 exact wk0

set_option maxHeartbeats 8000000 in
set_option maxRecDepth 100000 in
theorem fprint_irr_true (w:World) {b1 c1:Bool} {m1 k1 n1 l1:ByteArray} {t v:ByteArray} (ht:t.size≤100000) (hu:v.size≤100000) (hn:n1≠⟨#[]⟩) (HP:∀ V,Below w.heap.size w V→Calls Tryz.prog 117 #[.agg #[.bool b1,.string m1,.bool false,.string k1]] V (RetB V (.string t))) (HZ:∀ V,Below w.heap.size w V→Calls Tryz.prog 24 #[] V (RetB V (.agg #[.bool false,.string ⟨#[]⟩,.bool false,.string ⟨#[]⟩]))) (HQ:∀ V,Below w.heap.size w V→Calls Tryz.prog 117 #[.agg #[.bool c1,.string n1,.bool false,.string l1]] V (RetB V (.string v))) :
  Calls Tryz.prog 65 #[.agg #[.bool b1,.string m1,.bool false,.string k1,.bool c1,.string n1,.bool false,.string l1,.bool true]] w (RetB w (.string (((t++⟨#[45,115,113,114,116,40]⟩)++v)++⟨#[41]⟩))):=by
 obtain ⟨e1,e2⟩:=str_ne hn
 have e3:=empty_no (size_pos hn)
 clear hn
 have z0:¬9223372036854775807<t.size+1:=by omega
 have z1:¬9223372036854775807<t.size+1+5:=by omega
 have z2:¬9223372036854775807<t.size+6:=by omega
 have z3:¬9223372036854775807<t.size+1+5+v.size:=by omega
 have z4:¬9223372036854775807<t.size+6+v.size:=by omega
 have z5:¬9223372036854775807<t.size+1+5+v.size+1:=by omega
 have z6:¬9223372036854775807<t.size+6+v.size+1:=by omega
 clear ht hu
 have C1:=Lib.hid HP
 have C2:=Lib.hid HZ
 have C3:=Lib.hid HQ
 clear HP HZ HQ 
 go_enter Tryz.func65,Tryz.ntmps65
 exact wk0

set_option maxHeartbeats 8000000 in
set_option maxRecDepth 100000 in
theorem print_irr_false (w:World) {b1 c1:Bool} {m1 k1 n1 l1:ByteArray} {t v:ByteArray} (ht:t.size≤100000) (hu:v.size≤100000) (HI:∀ V,Below w.heap.size w V→Calls Tryz.prog 70 #[.agg #[.bool b1,.string m1,.bool false,.string k1,.bool c1,.string n1,.bool false,.string l1,.bool false]] V (RetB V (.bool false))) (HP:∀ V,Below w.heap.size w V→Calls Tryz.prog 115 #[.agg #[.bool b1,.string m1,.bool false,.string k1]] V (RetB V (.string t))) (HQ:∀ V,Below w.heap.size w V→Calls Tryz.prog 115 #[.agg #[.bool c1,.string n1,.bool false,.string l1]] V (RetB V (.string v))) :
  Calls Tryz.prog 63 #[.agg #[.bool b1,.string m1,.bool false,.string k1,.bool c1,.string n1,.bool false,.string l1,.bool false]] w (RetB w (.string ((((t++⟨#[43]⟩)++⟨#[115,113,114,116,40]⟩)++v)++⟨#[41]⟩))):=by
 have z0:¬9223372036854775807<t.size+1:=by omega
 have z1:¬9223372036854775807<t.size+1+5:=by omega
 have z2:¬9223372036854775807<t.size+6:=by omega
 have z3:¬9223372036854775807<t.size+1+5+v.size:=by omega
 have z4:¬9223372036854775807<t.size+6+v.size:=by omega
 have z5:¬9223372036854775807<t.size+1+5+v.size+1:=by omega
 have z6:¬9223372036854775807<t.size+6+v.size+1:=by omega
 clear ht hu
 have C1:=Lib.hid HI
 have C2:=Lib.hid HP
 have C3:=Lib.hid HQ
 clear HI HP HQ 
 go_enter Tryz.func63,Tryz.ntmps63
 exact wk0

set_option maxHeartbeats 8000000 in
set_option maxRecDepth 100000 in
theorem fprint_irr_false (w:World) {b1 c1:Bool} {m1 k1 n1 l1:ByteArray} {t v:ByteArray} (ht:t.size≤100000) (hu:v.size≤100000) (hn:n1≠⟨#[]⟩) (HP:∀ V,Below w.heap.size w V→Calls Tryz.prog 117 #[.agg #[.bool b1,.string m1,.bool false,.string k1]] V (RetB V (.string t))) (HZ:∀ V,Below w.heap.size w V→Calls Tryz.prog 24 #[] V (RetB V (.agg #[.bool false,.string ⟨#[]⟩,.bool false,.string ⟨#[]⟩]))) (HQ:∀ V,Below w.heap.size w V→Calls Tryz.prog 117 #[.agg #[.bool c1,.string n1,.bool false,.string l1]] V (RetB V (.string v))) :
  Calls Tryz.prog 65 #[.agg #[.bool b1,.string m1,.bool false,.string k1,.bool c1,.string n1,.bool false,.string l1,.bool false]] w (RetB w (.string (((t++⟨#[43,115,113,114,116,40]⟩)++v)++⟨#[41]⟩))):=by
 obtain ⟨e1,e2⟩:=str_ne hn
 have e3:=empty_no (size_pos hn)
 clear hn
 have z0:¬9223372036854775807<t.size+1:=by omega
 have z1:¬9223372036854775807<t.size+1+5:=by omega
 have z2:¬9223372036854775807<t.size+6:=by omega
 have z3:¬9223372036854775807<t.size+1+5+v.size:=by omega
 have z4:¬9223372036854775807<t.size+6+v.size:=by omega
 have z5:¬9223372036854775807<t.size+1+5+v.size+1:=by omega
 have z6:¬9223372036854775807<t.size+6+v.size+1:=by omega
 clear ht hu
 have C1:=Lib.hid HP
 have C2:=Lib.hid HZ
 have C3:=Lib.hid HQ
 clear HP HZ HQ 
 go_enter Tryz.func65,Tryz.ntmps65
 exact wk0
end Go.Proofs.YtpnokfgplnmjpaaGreatDoor


namespace Go.Proofs.YtpnokfgplnmjpaaGreatDoor
open Go.RowKit
attribute [local go_sem ↓] Go.wp_at_zero Go.wp_at_succ

theorem ext_all (d:ByteArray):d.extract 0 d.size=d:=by
 apply ByteArray.ext
 rw [ByteArray.data_extract]
 have h:d.size=d.data.size:=rfl
 rw [h,Array.extract_size]
theorem ext_none (d:ByteArray) (L:Nat):d.extract L L=⟨#[]⟩:=by
 apply ByteArray.ext
 simp [ByteArray.data_extract]

set_option maxHeartbeats 8000000 in
set_option maxRecDepth 100000 in
theorem readInt_w (w:World) {b1 b2:Bool} {m1 k1 m2 d:ByteArray} {e:Int} {L:Nat} (hd:d.size=L) (hL:L≤64) (h0:0<L) (HP:∀ V,Below w.heap.size w V→Calls Tryz.prog 221 #[.string d] V (RetB V (.tuple #[.agg #[.bool b1,.string m1,.bool false,.string k1],.int .i64 e]))) (HI:∀ V,Below w.heap.size w V→Calls Tryz.prog 99 #[.int .i64 (10)] V (RetB V (.agg #[.bool false,.string ⟨#[10]⟩]))) (HW:∀ V,Below w.heap.size w V→Calls Tryz.prog 222 #[.agg #[.bool false,.string ⟨#[10]⟩],.int .i64 ((L:Int))] V (RetB V (.tuple #[.agg #[.bool b2,.string m2],.int .i64 0]))) (HM:∀ V,Below w.heap.size w V→Calls Tryz.prog 95 #[.agg #[.bool false,.string ⟨#[]⟩],.agg #[.bool b2,.string m2]] V (RetB V (.agg #[.bool false,.string ⟨#[]⟩]))) (HU:∀ V,Below w.heap.size w V→Calls Tryz.prog 96 #[.agg #[.bool b1,.string m1,.bool false,.string k1]] V (RetB V (.agg #[.bool b1,.string m1]))) (HA:∀ V,Below w.heap.size w V→Calls Tryz.prog 101 #[.agg #[.bool false,.string ⟨#[]⟩],.agg #[.bool b1,.string m1]] V (RetB V (.agg #[.bool b1,.string m1]))) :
  Calls Tryz.prog 203 #[.string d] w (RetB w (.agg #[.bool b1,.string m1])):=by
 have e1:min (L:Int) 64=(L:Int):=by omega
 have e2:d.toList.isEmpty=false:=empty_no (by omega)
 have e3:d.extract 0 L=d:=by rw [←hd];exact ext_all d
 have e4:d.extract L L=⟨#[]⟩:=ext_none d L
 have C1:=Lib.hid HP
 have C2:=Lib.hid HI
 have C3:=Lib.hid HW
 have C4:=Lib.hid HM
 have C5:=Lib.hid HU
 have C6:=Lib.hid HA
 have Z1:Hid (∀ {p:Prop} (h:p:=by ((with_reducible refine wp_loop_rounds 2 ?_);rw [rounds_succ];all_goals exact wk)),p):=@fun _ h=>h
 have Z2:Hid (∀ {p:Prop} (h:p:=by (rw [rounds_succ];all_goals exact wk)),p):=@fun _ h=>h
 have RS:=Lib.hid Tryz.results203
 clear HP HI HW HM HU HA 
 go_enter Tryz.func203,Tryz.ntmps203
 exact wk0

set_option maxHeartbeats 8000000 in
set_option maxRecDepth 100000 in
theorem readInt_0 (w:World)   :
  Calls Tryz.prog 203 #[.string ⟨#[]⟩] w (RetB w (.agg #[.bool false,.string ⟨#[]⟩])):=by
 have Z1:Hid (∀ {p:Prop} (h:p:=by ((with_reducible refine wp_loop_rounds 1 ?_);rw [rounds_succ];all_goals exact wk)),p):=@fun _ h=>h
 have RS:=Lib.hid Tryz.results203
 go_enter Tryz.func203,Tryz.ntmps203
 exact wk0
end Go.Proofs.YtpnokfgplnmjpaaGreatDoor
