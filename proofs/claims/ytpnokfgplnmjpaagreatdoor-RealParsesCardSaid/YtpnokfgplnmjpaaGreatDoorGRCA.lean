import Derived.Test.YtpnokfgplnmjpaaGreatDoorGRPC
import Derived.Test.YtpnokfgplnmjpaaGreatDoorGQT
import Derived.LaidEqlPtr
import Derived.Test.YtpnokfgplnmjpaaGreatDoorGQW
set_option linter.unusedSimpArgs false
set_option linter.unusedVariables false

namespace Go.Proofs.YtpnokfgplnmjpaaGreatDoor
open Go.RowKit
attribute [local go_sem ↓] Go.wp_at_zero Go.wp_at_succ

theorem Seen.num_r {l p r:List UInt8} (h:Seen l false p r):r=[]:=by cases h;rfl

theorem Seen.dig {l p r:List UInt8} {s:Bool} (h:Seen l s p r):(∀ b∈p,digit10 b)∧(∀ b∈r,digit10 b):=by
 cases h with
 | num h=>exact ⟨h,fun b hb=>by simp at hb⟩
 | den h1 h2=>exact ⟨h1,h2⟩

theorem ptrU:Tryz.prog.underlying 222=some (.pointer 221):=by kernel_rfl
theorem numS:(Tryz.prog.info? 221).map (·.size)=some 4:=by kernel_rfl
theorem same_ptr (a:Addr) (W:World):(binOp .eql 222 (.pointer (some a)) (.pointer (some a))).run Tryz.prog W=.ok (.bool true) W:=by
 obtain ⟨j,hj,_⟩:=Option.map_eq_some_iff.1 numS
 exact run_eql_ptr_same W a ptrU hj
theorem Pn.other {g g' n V n' V':Nat} {W:World} (h:Pn g n V W) (h':Pn g' n' V' W) (hne:g≠g'):(binOp .eql 222 (.pointer (some ⟨g,0,none⟩)) (.pointer (some ⟨g',0,none⟩))).run Tryz.prog W=.ok (.bool false) W:=by
 obtain ⟨j,hj,hs⟩:=Option.map_eq_some_iff.1 numS
 obtain ⟨v,l,s,hu,_⟩:=h
 obtain ⟨v',l',s',hu',_⟩:=h'
 exact run_eql_ptr_other W ptrU hj (by rw [hs];omega) (fun e=>by injection e;omega) hu.k hu'.k

def RetPq (w:World) (q:Rat) (e:Int) (x:Ending) (w':World):Prop:=∃ b m k,x=.returned (.tuple #[.agg #[.bool b,.string m,.bool false,.string k],.int .i64 e])∧Rq q b m k∧Below w.heap.size w w'

theorem rq_zero:Rq 0 false ⟨#[]⟩ ⟨#[]⟩:=⟨enc_nought,by rw [show (0:Rat).den=1 from rfl,dm_one]⟩

structure Ps (w:World) (t:ByteArray) (pos:Nat) (p r:List UInt8) (wr:World):Prop where
 res:wr.heap[w.heap.size]?=some (.cells #[.bool false,.string ⟨#[]⟩,.bool false,.string ⟨#[]⟩] 25 (0,0))
 num:Pn (w.heap.size+1) p.length (val10 p) wr
 den:Pn (w.heap.size+2) r.length (val10 r) wr
 it:wr.heap[w.heap.size+3]?=some (.stringIter t pos)
 bel:Below w.heap.size w wr
section
variable {w wr w2:World} {t:ByteArray} {pos:Nat} {p r:List UInt8}
theorem Ps.sz (h:Ps w t pos p r wr):w.heap.size+3<wr.heap.size:=(Array.getElem?_eq_some_iff.1 h.it).1
theorem Ps.move (h:Ps w t pos p r wr) (pos':Nat):Ps w t pos' p r (wr.iterAt (w.heap.size+3) t pos') :=
 ⟨(Lib.iterAt_other _ _ _ _ _ (by omega)).trans h.res,h.num.keep (Lib.iterAt_other _ _ _ _ _ (by omega)),h.den.keep (Lib.iterAt_other _ _ _ _ _ (by omega)),Lib.iterAt_heap _ _ _ _ _ h.it,Lib.below_iterAt h.bel (by omega) _ _⟩
theorem Ps.next (h:Ps w t pos p r wr) (hb:Below wr.heap.size wr w2):Ps w t pos p r w2:=by
 have hs:=h.sz
 exact ⟨(hb.block _ (by omega)).trans h.res,h.num.next hb,h.den.next hb,(hb.block _ (by omega)).trans h.it,h.bel.trans (hb.mono (by omega))⟩
theorem Ps.drew (h:Ps w t pos p r wr):Ps w t pos p r wr.drew:=h.next (Below.refl _ _).drew
theorem Ps.set (h:Ps w t pos p r wr) {g:Nat} (hg:w.heap.size+3<g) (x y:Value):Ps w t pos p r ((wr.setCell ⟨g,0,none⟩ x).setCell ⟨g,1,none⟩ y) :=
 ⟨(qoth (by omega) _ _).trans h.res,h.num.keep (qoth (by omega) _ _),h.den.keep (qoth (by omega) _ _),(qoth (by omega) _ _).trans h.it,below_set2 h.bel (by omega) _ _⟩
theorem Ps.dg1 (h:Ps w t pos p r wr) {e:Ending} {b:UInt8} (hr:RetDgt wr (w.heap.size+1) (p.length+1) (val10 p*10+(b.toNat-48)) e w2):Ps w t pos (p++[b]) r w2:=by
 have hs:=h.sz
 obtain ⟨_,h1,h2,h3,h4⟩:=hr
 exact ⟨(h2 _ (by omega) (by omega)).trans h.res,by rw [val10_snoc,List.length_append];exact h1,h.den.keep (h2 _ (by omega) (by omega)),(h2 _ (by omega) (by omega)).trans h.it,h.bel.trans (h4.mono (by omega))⟩
theorem Ps.dg2 (h:Ps w t pos p r wr) {e:Ending} {b:UInt8} (hr:RetDgt wr (w.heap.size+2) (r.length+1) (val10 r*10+(b.toNat-48)) e w2):Ps w t pos p (r++[b]) w2:=by
 have hs:=h.sz
 obtain ⟨_,h1,h2,h3,h4⟩:=hr
 exact ⟨(h2 _ (by omega) (by omega)).trans h.res,h.num.keep (h2 _ (by omega) (by omega)),by rw [val10_snoc,List.length_append];exact h1,(h2 _ (by omega) (by omega)).trans h.it,h.bel.trans (h4.mono (by omega))⟩
end

set_option maxHeartbeats 8000000 in
set_option maxRecDepth 100000 in
theorem ratParse_in (s:ByteArray) (w:World) (hE:Env w) (d:List UInt8) (neg:Bool) (hd:Lib.trimPrefix s.data.toList [45]=d) (hn:Lib.hasPrefix s.data.toList [45]=neg) (hs:s.size≤4096) (hlen:d.length≤4096) (q:Rat) (e0:Int) (hq:Pq neg d q e0) :
  Calls Tryz.prog 221 #[.string s] w (RetPq w q e0):=by
 have hcp:=fun W=>Tryz.strings_CutPrefix s ⟨#[45]⟩ W
 have e45:(ByteArray.mk #[45]).data.toList=[45]:=rfl
 rw [e45,hd,hn] at hcp
 obtain ⟨t,ht⟩:∃ t:ByteArray,⟨d.toArray⟩=t:=⟨_,rfl⟩
 have htd:t.data.toList=d:=by rw [←ht]
 have hts:t.size≤4096:=by rw [←ht];exact hlen
 rw [ht] at hcp
 have HCP:=Lib.hid hcp
 have HTD:=Lib.hid htd
 have HQ:=Lib.hid hq
 have HE:=Lib.hid (fun V (hb:Below w.heap.size w V)=>hE.next hb)
 clear hcp htd ht e45 hd hn hlen hq hE
 go_enter Tryz.func221,Tryz.ntmps221
 go_wp2_with fail
 refine (HCP.out _).mono ?_
 rintro e w1 ⟨rfl,rfl⟩
 go_wp2_with fail
 have P0:Ps w t 0 [] [] ((((w.alloc (.cells #[.bool false,.string ⟨#[]⟩,.bool false,.string ⟨#[]⟩] 25)).alloc (.cells #[.bool false,.string ⟨#[]⟩,.int .i64 0,.int .i64 0] 221)).alloc (.cells #[.bool false,.string ⟨#[]⟩,.int .i64 0,.int .i64 0] 221)).iter t 0):=by
  have hn1:=Pn.start (w.alloc (.cells #[.bool false,.string ⟨#[]⟩,.bool false,.string ⟨#[]⟩] 25))
  have hn2:=Pn.start ((w.alloc (.cells #[.bool false,.string ⟨#[]⟩,.bool false,.string ⟨#[]⟩] 25)).alloc (.cells #[.bool false,.string ⟨#[]⟩,.int .i64 0,.int .i64 0] 221))
  have hk:=heap_one w (.cells #[.bool false,.string ⟨#[]⟩,.bool false,.string ⟨#[]⟩] 25)
  obtain ⟨V1,hV1⟩:∃ V,V=w.alloc (.cells #[.bool false,.string ⟨#[]⟩,.bool false,.string ⟨#[]⟩] 25):=⟨_,rfl⟩
  have hz1:V1.heap.size=w.heap.size+1:=by rw [hV1];simp
  have hb1:Below w.heap.size w V1:=by rw [hV1];exact below_new _ _
  rw [←hV1] at hn1 hn2 hk ⊢
  obtain ⟨V2,hV2⟩:∃ V,V=V1.alloc (.cells #[.bool false,.string ⟨#[]⟩,.int .i64 0,.int .i64 0] 221):=⟨_,rfl⟩
  have hz2:V2.heap.size=w.heap.size+2:=by rw [hV2];simp [hz1]
  have hb2:Below V1.heap.size V1 V2:=by rw [hV2];exact below_new _ _
  rw [←hV2] at hn1 hn2 ⊢
  obtain ⟨V3,hV3⟩:∃ V,V=V2.alloc (.cells #[.bool false,.string ⟨#[]⟩,.int .i64 0,.int .i64 0] 221):=⟨_,rfl⟩
  have hz3:V3.heap.size=w.heap.size+3:=by rw [hV3];simp [hz2]
  have hb3:Below V2.heap.size V2 V3:=by rw [hV3];exact below_new _ _
  rw [←hV3] at hn2 ⊢
  have hb4:Below V3.heap.size V3 (V3.iter t 0):=below_new _ _
  have hi:=World.iter_heap V3 t 0
  rw [hz1] at hn1
  rw [hz2] at hn2
  rw [hz3] at hi
  exact ⟨(hb4.block _ (by omega)).trans ((hb3.block _ (by omega)).trans ((hb2.block _ (by omega)).trans hk)),((hn1.next hb3).next hb4),hn2.next hb4,hi,((hb1.trans (hb2.mono (by omega))).trans (hb3.mono (by omega))).trans (hb4.mono (by omega))⟩
 have P0:=Lib.hid P0
 go_loopw [8] (fun pv wr=>∃ (pos:Nat) (sl:Bool) (p r:List UInt8),pv=.pointer (some ⟨if sl=true then w.heap.size+2 else w.heap.size+1,0,none⟩)∧pos≤t.size∧Hid (Seen (d.take pos) sl p r)∧Hid (Ps w t pos p r wr)) (fun _ wr=>t.size-wr.iterPos (w.heap.size+3))
 case atStart=>exact ⟨0,false,[],[],by simp,Nat.zero_le _,by rw [List.take_zero];exact seen_nil,P0.out⟩
 case round =>
  obtain ⟨pos,sl,p,r,rfl,hpos,HS,HP⟩:=hrel
  by_cases hlt:pos<t.size
  · have hkl:pos<t.data.toList.length:=hlt
    obtain ⟨b,hb⟩:∃ b,(t.data.toList[pos]'hkl)=b:=⟨_,rfl⟩
    have hsplit:d=d.take pos++b :: d.drop (pos+1):=by
     have h1:=List.take_append_drop pos t.data.toList
     rw [List.drop_eq_getElem_cons hkl,hb,HTD.out] at h1
     exact h1.symm
    have htk:d.take (pos+1)=d.take pos++[b]:=by
     have h1:=List.take_succ_eq_append_getElem hkl
     rw [hb,HTD.out] at h1
     exact h1
    have hnx:∀ ty,(Instr.next (.pointer (some ⟨w.heap.size+3,0,none⟩)) true ty).run Tryz.prog wr=_:=fun ty=>Lib.run_next_any_at wr (w.heap.size+3) t pos ty HP.out.it hlt
    have HP2:=Lib.hid (HP.out.move (pos+(Utf8.decode t pos).2))
    have hx:(128≤(Utf8.decode t pos).1∧¬digit10 b∧b≠47)∨((Utf8.decode t pos).1=b.toNat∧(Utf8.decode t pos).2=1):=by
     by_cases ha:(t[pos]'hlt).toNat<128
     · right
       rw [decode_ascii t pos hlt ha]
       exact ⟨by rw [←hb];rfl,rfl⟩
     · left
       have hbn:(t[pos]'hlt).toNat=b.toNat:=by rw [←hb];rfl
       refine ⟨(decode_high t pos hlt (by omega)).1,fun h=>?_,fun h=>?_⟩
       · have:=h.2;omega
       · rw [h] at hbn;rw [hbn] at ha;exact ha (by decide)
    have hpl:p.length≤4096∧r.length≤4096:=by
     have h1:=HS.out.len
     have h2 : (d.take pos).length ≤ 4096 := by rw [List.length_take]; have : pos ≤ 4096 := by omega
                                                omega
     omega
    obtain ⟨x,hxx⟩:∃ x,(Utf8.decode t pos).1=x:=⟨_,rfl⟩
    obtain ⟨wd,hwd⟩:∃ x,(Utf8.decode t pos).2=x:=⟨_,rfl⟩
    rw [hxx,hwd] at hx
    rw [hxx,hwd] at hnx
    rw [hwd] at HP2
    have HSP:=Lib.hid hsplit
    have HTK:=Lib.hid htk
    clear hb hsplit htk hxx hwd
    have hbad:¬digit10 b→(sl=true∨b≠47)→q=0∧e0=15:=fun h1 h2=>by
     have h3:=HS.out.stop h1 h2 (d.drop (pos+1)) neg
     rw [←HSP.out] at h3
     exact HQ.out.one h3
    have HBAD:=Lib.hid hbad
    have HX:=Lib.hid hx
    clear hbad hx
    obtain ⟨c0,c1,c2,c3⟩:=blk4 HP2.out.res
    obtain ⟨f0,f1,f2,f3⟩:=fro4 HP2.out.res
    cases sl
    case false =>
     have hr0:r=[]:=HS.out.num_r
     have hptr:=same_ptr ⟨w.heap.size+1,0,none⟩
     have HR0:=Lib.hid hr0
     clear hr0
     by_cases h57:57<x
     · obtain ⟨rfl,rfl⟩:q=0∧e0=15:=HBAD.out (by rcases HX.out with ⟨_,h,_⟩ | ⟨h,_⟩;exact h;exact fun h1=>by have:=h1.2;omega) (by rcases HX.out with ⟨_,_,h⟩ | ⟨h,_⟩;exact .inr h;exact .inr (fun h1=>by rw [h1] at h;have:x=47:=h;omega))
       have h48:48≤x:=by omega
       have h57':¬x≤57:=by omega
       have h47:((x:Int)==47)=false:=by simp;omega
       clear HX HBAD
       go_wp2
       exact bodyPost_ret (v:=.tuple #[.agg #[.bool false,.string ⟨#[]⟩,.bool false,.string ⟨#[]⟩],.int .i64 15]) (by simp [results,Tryz.results221,go_sem,c0,c1,c2,c3]) rfl ⟨false,_,_,rfl,rq_zero,below_set4 HP2.out.bel (Nat.le_refl _) _ _ _ _⟩
     by_cases h48:48≤x
     · obtain ⟨dg,hdg⟩:∃ dg,x=dg+48:=⟨x-48,by omega⟩
       have hxb:x=b.toNat:=by
        rcases HX.out with ⟨h,_⟩ | ⟨h,_⟩
        · omega
        · exact h
       have hw1:wd=1:=by
        rcases HX.out with ⟨h,_⟩ | ⟨_,h⟩
        · omega
        · exact h
       have hd10:digit10 b:=⟨by omega,by omega⟩
       have w32:IntKind.i32.wrap ((x:Int)-48)=(dg:Int):=by rw [hdg,show (((dg+48:Nat):Int)-48)=(dg:Int) by omega];exact IntWalk.i32_in _ (by omega)
       have w64:IntKind.i64.wrap (dg:Int)=(dg:Int):=IntWalk.i64_in _ (by omega)
       have HAD:=Lib.hid (fun V (hV:Pn (w.heap.size+1) (p.length) (val10 p) V)=>add_nm (d:=dg) (by omega) (by omega) V hV)
       rw [show dg=b.toNat-48 by omega] at HAD
       have h57':x≤57:=by omega
       have h48':48≤x:=by omega
       have HD10:=Lib.hid hd10
       have HDB:=Lib.hid (show dg=b.toNat-48 by omega)
       subst hw1
       clear HX HBAD hdg hxb hd10
       go_wp2_with fail
       rw [HDB.out]
       refine (HAD.out _ HP2.out.num).mono ?_
       rintro e w3 hr
       obtain rfl:=hr.1
       have HP3:=Lib.hid (HP2.out.dg1 hr)
       clear hr c0 c1 c2 c3 f0 f1 f2 f3
       go_wp2_with fail
       go_roundw
       case rel=>exact ⟨pos+1,false,p++[b],[],by simp,hlt,by rw [HTK.out];exact HS.out.digit_num HD10.out,by have h:=HP3.out;rw [HR0.out] at h;exact h⟩
       case measure=>simp only [World.iterPos,HP3.out.it,HP.out.it];omega
     by_cases h47:x=47
     · have hb47 : b = 47 := by
        rcases HX.out with ⟨h,_⟩ | ⟨h,_⟩
        · omega
        · exact UInt8.toNat_inj.1 (h.symm.trans h47)
       have hw1:wd=1:=by
        rcases HX.out with ⟨h,_⟩ | ⟨_,h⟩
        · omega
        · exact h
       have h48':¬48≤x:=by omega
       subst hw1
       subst h47
       subst hb47
       clear HX HBAD
       go_wp2_with fail
       go_roundw
       case rel=>exact ⟨pos+1,true,p,[],by simp,hlt,by rw [HTK.out];exact HS.out.slash,by have h:=HP2.out;rw [HR0.out] at h;exact h⟩
       case measure=>simp only [World.iterPos,HP2.out.it,HP.out.it];omega
     obtain ⟨rfl,rfl⟩:q=0∧e0=15:=HBAD.out (by rcases HX.out with ⟨_,h,_⟩ | ⟨h,_⟩;exact h;exact fun h1=>by have:=h1.1;omega) (by rcases HX.out with ⟨_,_,h⟩ | ⟨h,_⟩;exact .inr h;exact .inr (fun h1=>by rw [h1] at h;have:x=47:=h;omega))
     have h48:¬48≤x:=by omega
     have h47:((x:Int)==47)=false:=by simp;omega
     clear HX HBAD
     go_wp2
     exact bodyPost_ret (v:=.tuple #[.agg #[.bool false,.string ⟨#[]⟩,.bool false,.string ⟨#[]⟩],.int .i64 15]) (by simp [results,Tryz.results221,go_sem,c0,c1,c2,c3]) rfl ⟨false,_,_,rfl,rq_zero,below_set4 HP2.out.bel (Nat.le_refl _) _ _ _ _⟩
    case true =>
     have hptr:=HP2.out.den.other HP2.out.num (by omega)
     by_cases h57:57<x
     · obtain ⟨rfl,rfl⟩:q=0∧e0=15:=HBAD.out (by rcases HX.out with ⟨_,h,_⟩ | ⟨h,_⟩;exact h;exact fun h1=>by have:=h1.2;omega) (by rcases HX.out with ⟨_,_,h⟩ | ⟨h,_⟩;exact .inr h;exact .inr (fun h1=>by rw [h1] at h;have:x=47:=h;omega))
       have h48:48≤x:=by omega
       have h57':¬x≤57:=by omega
       have h47:((x:Int)==47)=false:=by simp;omega
       clear HX HBAD
       go_wp2
       exact bodyPost_ret (v:=.tuple #[.agg #[.bool false,.string ⟨#[]⟩,.bool false,.string ⟨#[]⟩],.int .i64 15]) (by simp [results,Tryz.results221,go_sem,c0,c1,c2,c3]) rfl ⟨false,_,_,rfl,rq_zero,below_set4 HP2.out.bel (Nat.le_refl _) _ _ _ _⟩
     by_cases h48:48≤x
     · obtain ⟨dg,hdg⟩:∃ dg,x=dg+48:=⟨x-48,by omega⟩
       have hxb:x=b.toNat:=by
        rcases HX.out with ⟨h,_⟩ | ⟨h,_⟩
        · omega
        · exact h
       have hw1:wd=1:=by
        rcases HX.out with ⟨h,_⟩ | ⟨_,h⟩
        · omega
        · exact h
       have hd10:digit10 b:=⟨by omega,by omega⟩
       have w32:IntKind.i32.wrap ((x:Int)-48)=(dg:Int):=by rw [hdg,show (((dg+48:Nat):Int)-48)=(dg:Int) by omega];exact IntWalk.i32_in _ (by omega)
       have w64:IntKind.i64.wrap (dg:Int)=(dg:Int):=IntWalk.i64_in _ (by omega)
       have HAD:=Lib.hid (fun V (hV:Pn (w.heap.size+2) (r.length) (val10 r) V)=>add_nm (d:=dg) (by omega) (by omega) V hV)
       rw [show dg=b.toNat-48 by omega] at HAD
       have h57':x≤57:=by omega
       have h48':48≤x:=by omega
       have HD10:=Lib.hid hd10
       have HDB:=Lib.hid (show dg=b.toNat-48 by omega)
       subst hw1
       clear HX HBAD hdg hxb hd10
       go_wp2_with fail
       rw [HDB.out]
       refine (HAD.out _ HP2.out.den).mono ?_
       rintro e w3 hr
       obtain rfl:=hr.1
       have HP3:=Lib.hid (HP2.out.dg2 hr)
       clear hr c0 c1 c2 c3 f0 f1 f2 f3
       go_wp2_with fail
       go_roundw
       case rel=>exact ⟨pos+1,true,p,r++[b],by simp,hlt,by rw [HTK.out];exact HS.out.digit_den HD10.out,HP3⟩
       case measure=>simp only [World.iterPos,HP3.out.it,HP.out.it];omega
     by_cases h47:x=47
     · obtain ⟨rfl,rfl⟩:q=0∧e0=15:=HBAD.out (by rcases HX.out with ⟨_,h,_⟩ | ⟨h,_⟩;exact h;exact fun h1=>by have:=h1.1;omega) (.inl rfl)
       have h48:¬48≤x:=by omega
       subst h47
       clear HX HBAD
       go_wp2
       exact bodyPost_ret (v:=.tuple #[.agg #[.bool false,.string ⟨#[]⟩,.bool false,.string ⟨#[]⟩],.int .i64 15]) (by simp [results,Tryz.results221,go_sem,c0,c1,c2,c3]) rfl ⟨false,_,_,rfl,rq_zero,below_set4 HP2.out.bel (Nat.le_refl _) _ _ _ _⟩
     obtain ⟨rfl,rfl⟩:q=0∧e0=15:=HBAD.out (by rcases HX.out with ⟨_,h,_⟩ | ⟨h,_⟩;exact h;exact fun h1=>by have:=h1.1;omega) (by rcases HX.out with ⟨_,_,h⟩ | ⟨h,_⟩;exact .inr h;exact .inr (fun h1=>by rw [h1] at h;have:x=47:=h;omega))
     have h48:¬48≤x:=by omega
     have h47:((x:Int)==47)=false:=by simp;omega
     clear HX HBAD
     go_wp2
     exact bodyPost_ret (v:=.tuple #[.agg #[.bool false,.string ⟨#[]⟩,.bool false,.string ⟨#[]⟩],.int .i64 15]) (by simp [results,Tryz.results221,go_sem,c0,c1,c2,c3]) rfl ⟨false,_,_,rfl,rq_zero,below_set4 HP2.out.bel (Nat.le_refl _) _ _ _ _⟩
  · obtain rfl:pos=t.size:=by omega
    have hdt:d.take t.size=d:=by rw [←HTD.out];exact List.take_of_length_le (Nat.le_refl _)
    have hdl:d.length≤4096:=by rw [←HTD.out];exact hts
    have HS':=HS.out
    rw [hdt] at HS'
    have HS:=Lib.hid HS'
    have hpl:=HS.out.len
    have hnx:∀ ty,(Instr.next (.pointer (some ⟨w.heap.size+3,0,none⟩)) true ty).run Tryz.prog wr=_:=fun ty=>Lib.run_next_end_at wr (w.heap.size+3) t t.size ty HP.out.it (by omega)
    have HP0:=HP
    obtain ⟨c0,c1,c2,c3⟩:=blk4 HP.out.res
    obtain ⟨f0,f1,f2,f3⟩:=fro4 HP.out.res
    clear HS' hdt P0
    have HE1:=Lib.hid (fun V (hV:Pn (w.heap.size+1) p.length (val10 p) V)=>empty_nm V hV)
    cases sl
    case false =>
     have hptr:=same_ptr ⟨w.heap.size+1,0,none⟩
     by_cases hp0:p=[]
     · obtain ⟨rfl,rfl⟩:q=0∧e0=15:=HQ.out.one (HS.out.empty (.inl hp0) neg)
       rw [decide_eq_true (show p.length=0 by rw [hp0];rfl)] at HE1
       clear HQ hp0
       go_wp2_with fail
       refine (HE1.out _ HP.out.num).mono ?_
       rintro e w3 ⟨rfl,rfl⟩
       go_wp2
       exact bodyPost_ret (v:=.tuple #[.agg #[.bool false,.string ⟨#[]⟩,.bool false,.string ⟨#[]⟩],.int .i64 15]) (by simp [results,Tryz.results221,go_sem,c0,c1,c2,c3]) rfl ⟨false,_,_,rfl,rq_zero,below_set4 HP.out.bel (Nat.le_refl _) _ _ _ _⟩
     rw [decide_eq_false (show ¬p.length=0 from fun h=>hp0 (List.eq_nil_of_length_eq_zero h))] at HE1
     go_wp2_with fail
     refine (HE1.out _ HP.out.num).mono ?_
     rintro e w3 ⟨rfl,rfl⟩
     go_wp2_with fail
     refine (HE1.out _ HP.out.num).mono ?_
     rintro e w3 ⟨rfl,rfl⟩
     clear hnx
     cases neg
     case false =>
      have HT1:=Lib.hid (fun V (hV:Pn (w.heap.size+1) p.length (val10 p) V)=>total_nm (by omega) V hV)
      have HZ:=Lib.hid (enc_mag (val10 p))
      generalize hmv:mag (val10 p)=mv at HT1 HZ
      have hmv:=Lib.hid hmv
      go_wp2_with fail
      refine (HT1.out _ HP.out.num).mono ?_
      rintro e w5 ⟨rfl,hb5⟩
      have HP:=Lib.hid (HP.out.next hb5)
      have hlt5:w.heap.size+3<w5.heap.size:=HP.out.sz
      have HP:=Lib.hid (HP.out.next (below_new w5 (.cells #[.bool false,.string mv] 23)))
      have BV:=Lib.hid (Bq.new w5 #[.bool false,.string mv] 23)
      obtain ⟨v0,v1,g0,g1⟩:=blk_cells BV.out.k
      clear hb5 c0 c1 c2 c3 f0 f1 f2 f3 hptr
      obtain ⟨c0,c1,c2,c3⟩:=blk4 HP.out.res
      obtain ⟨f0,f1,f2,f3⟩:=fro4 HP.out.res
      have hptr:=same_ptr ⟨w.heap.size+1,0,none⟩
      have hq1:=HQ.out.one (HS.out.whole hp0 false)
      obtain ⟨rfl,rfl⟩:=hq1
      have hrq:Rq (((sgn false (val10 p):Int)):Rat) false mv ⟨#[]⟩:=⟨by rw [Rat.num_intCast,show sgn false (val10 p)=((val10 p:Nat):Int) from rfl];exact HZ.out,by rw [Rat.den_intCast,dm_one]⟩
      have HRQ:=Lib.hid hrq
      clear hrq HQ
      go_wp2_with fail
      exact bodyPost_ret (v:=.tuple #[.agg #[.bool false,.string mv,.bool false,.string ⟨#[]⟩],.int .i64 0]) (by simp [results,Tryz.results221,go_sem,c0,c1,c2,c3]) rfl ⟨false,mv,⟨#[]⟩,rfl,HRQ.out,below_set4 HP.out.bel (Nat.le_refl _) _ _ _ _⟩
     case true =>
      have HT1:=Lib.hid (fun V (hV:Pn (w.heap.size+1) p.length (val10 p) V)=>total_nm (by omega) V hV)
      have HZ:=Lib.hid (enc_mag (val10 p))
      generalize hmv:mag (val10 p)=mv at HT1 HZ
      have hmv:=Lib.hid hmv
      have HN0:=Lib.hid (enc_neg HZ.out)
      have hng:=fun V=>negate_pair false mv V
      generalize hbz:(!false && decide (0<mv.size))=bz at HN0 hng
      have HNG:=Lib.hid hng
      clear hng hbz
      go_wp2_with fail
      refine (HT1.out _ HP.out.num).mono ?_
      rintro e w5 ⟨rfl,hb5⟩
      have HP:=Lib.hid (HP.out.next hb5)
      have hlt5:w.heap.size+3<w5.heap.size:=HP.out.sz
      have HP:=Lib.hid (HP.out.next (below_new w5 (.cells #[.bool false,.string mv] 23)))
      have BV:=Lib.hid (Bq.new w5 #[.bool false,.string mv] 23)
      obtain ⟨v0,v1,g0,g1⟩:=blk_cells BV.out.k
      clear hb5 c0 c1 c2 c3 f0 f1 f2 f3 hptr
      go_wp2_with fail
      refine (HNG.out _).mono ?_
      rintro e w6 ⟨rfl,hb6⟩
      have HP:=Lib.hid (HP.out.next hb6)
      have BV:=Lib.hid (BV.out.next hb6)
      obtain ⟨v0',v1',g0',g1'⟩:=blk_cells BV.out.k
      clear hb6 v0 v1 g0 g1
      have HP:=Lib.hid (HP.out.set hlt5 (.bool bz) (.string mv))
      have BV:=Lib.hid (show Bq w5.heap.size #[.bool bz,.string mv] 23 ((w6.setCell ⟨w5.heap.size,0,none⟩ (.bool bz)).setCell ⟨w5.heap.size,1,none⟩ (.string mv)) from ⟨qset BV.out.k _ _,by rw [qsz];exact BV.out.lt⟩)
      obtain ⟨v0,v1,g0,g1⟩:=blk_cells BV.out.k
      obtain ⟨c0,c1,c2,c3⟩:=blk4 HP.out.res
      obtain ⟨f0,f1,f2,f3⟩:=fro4 HP.out.res
      have hptr:=same_ptr ⟨w.heap.size+1,0,none⟩
      have hq1:=HQ.out.one (HS.out.whole hp0 true)
      obtain ⟨rfl,rfl⟩:=hq1
      have hrq:Rq (((sgn true (val10 p):Int)):Rat) bz mv ⟨#[]⟩:=⟨by rw [Rat.num_intCast,show sgn true (val10 p)=-((val10 p:Nat):Int) from rfl];exact HN0.out,by rw [Rat.den_intCast,dm_one]⟩
      have HRQ:=Lib.hid hrq
      clear hrq HQ
      go_wp2_with fail
      exact bodyPost_ret (v:=.tuple #[.agg #[.bool bz,.string mv,.bool false,.string ⟨#[]⟩],.int .i64 0]) (by simp [results,Tryz.results221,go_sem,c0,c1,c2,c3]) rfl ⟨bz,mv,⟨#[]⟩,rfl,HRQ.out,below_set4 HP.out.bel (Nat.le_refl _) _ _ _ _⟩
    case true =>
     have hptr:=HP.out.den.other HP.out.num (by omega)
     by_cases hp0:p=[]
     · obtain ⟨rfl,rfl⟩:q=0∧e0=15:=HQ.out.one (HS.out.empty (.inl hp0) neg)
       rw [decide_eq_true (show p.length=0 by rw [hp0];rfl)] at HE1
       clear HQ hp0
       go_wp2_with fail
       refine (HE1.out _ HP.out.num).mono ?_
       rintro e w3 ⟨rfl,rfl⟩
       go_wp2
       exact bodyPost_ret (v:=.tuple #[.agg #[.bool false,.string ⟨#[]⟩,.bool false,.string ⟨#[]⟩],.int .i64 15]) (by simp [results,Tryz.results221,go_sem,c0,c1,c2,c3]) rfl ⟨false,_,_,rfl,rq_zero,below_set4 HP.out.bel (Nat.le_refl _) _ _ _ _⟩
     rw [decide_eq_false (show ¬p.length=0 from fun h=>hp0 (List.eq_nil_of_length_eq_zero h))] at HE1
     by_cases hr0:r=[]
     · obtain ⟨rfl,rfl⟩:q=0∧e0=15:=HQ.out.one (HS.out.empty (.inr ⟨rfl,hr0⟩) neg)
       subst hr0
       have HE2:=Lib.hid (fun V (hV:Pn (w.heap.size+2) 0 0 V)=>empty_nm V hV)
       rw [decide_eq_true rfl] at HE2
       clear HQ
       go_wp2_with fail
       refine (HE1.out _ HP.out.num).mono ?_
       rintro e w3 ⟨rfl,rfl⟩
       go_wp2_with fail
       refine (HE2.out _ HP.out.den).mono ?_
       rintro e w3 ⟨rfl,rfl⟩
       go_wp2
       exact bodyPost_ret (v:=.tuple #[.agg #[.bool false,.string ⟨#[]⟩,.bool false,.string ⟨#[]⟩],.int .i64 15]) (by simp [results,Tryz.results221,go_sem,c0,c1,c2,c3]) rfl ⟨false,_,_,rfl,rq_zero,below_set4 HP.out.bel (Nat.le_refl _) _ _ _ _⟩
     have HE2:=Lib.hid (fun V (hV:Pn (w.heap.size+2) r.length (val10 r) V)=>empty_nm V hV)
     rw [decide_eq_false (show ¬r.length=0 from fun h=>hr0 (List.eq_nil_of_length_eq_zero h))] at HE2
     have hpq:=HS.out.parts hp0 hr0 neg
     clear hr0
     go_wp2_with fail
     refine (HE1.out _ HP.out.num).mono ?_
     rintro e w3 ⟨rfl,rfl⟩
     go_wp2_with fail
     refine (HE2.out _ HP.out.den).mono ?_
     rintro e w3 ⟨rfl,rfl⟩
     clear hnx
     rcases hpq with ⟨hr0,hpf⟩ | ⟨hr0,hpz⟩
     · cases neg
       case false =>
        have HT1:=Lib.hid (fun V (hV:Pn (w.heap.size+1) p.length (val10 p) V)=>total_nm (by omega) V hV)
        have HZ:=Lib.hid (enc_mag (val10 p))
        generalize hmv:mag (val10 p)=mv at HT1 HZ
        have hmv:=Lib.hid hmv
        go_wp2_with fail
        refine (HT1.out _ HP.out.num).mono ?_
        rintro e w5 ⟨rfl,hb5⟩
        have HP:=Lib.hid (HP.out.next hb5)
        have hlt5:w.heap.size+3<w5.heap.size:=HP.out.sz
        have HP:=Lib.hid (HP.out.next (below_new w5 (.cells #[.bool false,.string mv] 23)))
        have BV:=Lib.hid (Bq.new w5 #[.bool false,.string mv] 23)
        obtain ⟨v0,v1,g0,g1⟩:=blk_cells BV.out.k
        clear hb5 c0 c1 c2 c3 f0 f1 f2 f3 hptr
        obtain ⟨c0,c1,c2,c3⟩:=blk4 HP.out.res
        obtain ⟨f0,f1,f2,f3⟩:=fro4 HP.out.res
        have hptr:=HP.out.den.other HP.out.num (by omega)
        have HT2:=Lib.hid (fun V (hV:Pn (w.heap.size+2) r.length (val10 r) V)=>total_nm (by omega) V hV)
        have hmv4:mv.size≤100000:=by rw [←hmv.out];exact Nat.le_trans (mag_pow10 (val10_lt p HS.out.dig.1)) (by omega)
        have hmd4:(mag (val10 r)).size≤100000:=Nat.le_trans (mag_pow10 (val10_lt r HS.out.dig.2)) (by omega)
        obtain ⟨rfl,rfl⟩:=HQ.out.one hpf
        obtain ⟨b3,m3,k3,hrq⟩:=Rq.some_ (Rat.divInt (sgn false (val10 p)) (val10 r:Int))
        have hx:enc (sgn false (val10 p))=.agg #[.bool false,.string mv]:=by rw [show sgn false (val10 p)=((val10 p:Nat):Int) from rfl];exact HZ.out
        have HMK:=Lib.hid (fun V (hV:Env V)=>make_f hx (enc_mag (val10 r)) hrq (by omega) hmv4 hmd4 V hV)
        have HRQ:=Lib.hid hrq
        generalize mag (val10 r)=md at *
        clear HQ hmd4 hmv4 hpf hrq hx
        go_wp2_with fail
        clear c0 c1 c2 c3 f0 f1 f2 f3 v0 v1 g0 g1 hptr
        have HNE:=Lib.hid (show w5.heap.size≠w.heap.size by omega)
        have HP:=Lib.hid HP.out.drew
        have BV:=Lib.hid BV.out.drew
        obtain ⟨v0,v1,g0,g1⟩:=blk_cells BV.out.k
        simp only [World.cell?_drew] at v0 v1
        go_region_held3 (fun w'=>w'.cell? ⟨w5.heap.size,0,none⟩=some (.bool false)∧w'.cell? ⟨w5.heap.size,1,none⟩=some (.string mv))
         (first
          | exact ⟨v0,v1⟩
          | exact ⟨(blk_cells (BV.out.set4 (g':=w.heap.size) HNE.out _ _ _ _).k).1,(blk_cells (BV.out.set4 (g':=w.heap.size) HNE.out _ _ _ _).k).2.1⟩
          | go_keep)
         (first
          | (go_at_call 239;(with_reducible refine (HT2.out _ HP.out.den).mono ?_);rintro e w8 ⟨rfl,hb8⟩;have HP:=Lib.hid (HP.out.next hb8);have BV:=Lib.hid (BV.out.next hb8);obtain ⟨v0,v1,g0,g1⟩:=blk_cells BV.out.k)
          | (go_at_call 114;(with_reducible refine (HMK.out _ (HE.out _ HP.out.bel)).mono ?_);rintro e w9 ⟨rfl,hb9⟩;have HP:=Lib.hid (HP.out.next hb9);have BV:=Lib.hid (BV.out.next hb9);obtain ⟨v0,v1,g0,g1⟩:=blk_cells BV.out.k;obtain ⟨c0,c1,c2,c3⟩:=blk4 HP.out.res;obtain ⟨f0,f1,f2,f3⟩:=fro4 HP.out.res))
        go_wp2
        exact bodyPost_ret (v:=.tuple #[.agg #[.bool b3,.string m3,.bool false,.string k3],.int .i64 0]) (by simp [results,Tryz.results221,go_sem,c0,c1,c2,c3]) rfl ⟨b3,m3,k3,rfl,HRQ.out,below_set4 HP.out.bel (Nat.le_refl _) _ _ _ _⟩
       case true =>
        have HT1:=Lib.hid (fun V (hV:Pn (w.heap.size+1) p.length (val10 p) V)=>total_nm (by omega) V hV)
        have HZ:=Lib.hid (enc_mag (val10 p))
        generalize hmv:mag (val10 p)=mv at HT1 HZ
        have hmv:=Lib.hid hmv
        have HN0:=Lib.hid (enc_neg HZ.out)
        have hng:=fun V=>negate_pair false mv V
        generalize hbz:(!false && decide (0<mv.size))=bz at HN0 hng
        have HNG:=Lib.hid hng
        clear hng hbz
        go_wp2_with fail
        refine (HT1.out _ HP.out.num).mono ?_
        rintro e w5 ⟨rfl,hb5⟩
        have HP:=Lib.hid (HP.out.next hb5)
        have hlt5:w.heap.size+3<w5.heap.size:=HP.out.sz
        have HP:=Lib.hid (HP.out.next (below_new w5 (.cells #[.bool false,.string mv] 23)))
        have BV:=Lib.hid (Bq.new w5 #[.bool false,.string mv] 23)
        obtain ⟨v0,v1,g0,g1⟩:=blk_cells BV.out.k
        clear hb5 c0 c1 c2 c3 f0 f1 f2 f3 hptr
        go_wp2_with fail
        refine (HNG.out _).mono ?_
        rintro e w6 ⟨rfl,hb6⟩
        have HP:=Lib.hid (HP.out.next hb6)
        have BV:=Lib.hid (BV.out.next hb6)
        obtain ⟨v0',v1',g0',g1'⟩:=blk_cells BV.out.k
        clear hb6 v0 v1 g0 g1
        have HP:=Lib.hid (HP.out.set hlt5 (.bool bz) (.string mv))
        have BV:=Lib.hid (show Bq w5.heap.size #[.bool bz,.string mv] 23 ((w6.setCell ⟨w5.heap.size,0,none⟩ (.bool bz)).setCell ⟨w5.heap.size,1,none⟩ (.string mv)) from ⟨qset BV.out.k _ _,by rw [qsz];exact BV.out.lt⟩)
        obtain ⟨v0,v1,g0,g1⟩:=blk_cells BV.out.k
        obtain ⟨c0,c1,c2,c3⟩:=blk4 HP.out.res
        obtain ⟨f0,f1,f2,f3⟩:=fro4 HP.out.res
        have hptr:=HP.out.den.other HP.out.num (by omega)
        have HT2:=Lib.hid (fun V (hV:Pn (w.heap.size+2) r.length (val10 r) V)=>total_nm (by omega) V hV)
        have hmv4:mv.size≤100000:=by rw [←hmv.out];exact Nat.le_trans (mag_pow10 (val10_lt p HS.out.dig.1)) (by omega)
        have hmd4:(mag (val10 r)).size≤100000:=Nat.le_trans (mag_pow10 (val10_lt r HS.out.dig.2)) (by omega)
        obtain ⟨rfl,rfl⟩:=HQ.out.one hpf
        obtain ⟨b3,m3,k3,hrq⟩:=Rq.some_ (Rat.divInt (sgn true (val10 p)) (val10 r:Int))
        have hx:enc (sgn true (val10 p))=.agg #[.bool bz,.string mv]:=by rw [show sgn true (val10 p)=-((val10 p:Nat):Int) from rfl];exact HN0.out
        have HMK:=Lib.hid (fun V (hV:Env V)=>make_f hx (enc_mag (val10 r)) hrq (by omega) hmv4 hmd4 V hV)
        have HRQ:=Lib.hid hrq
        generalize mag (val10 r)=md at *
        clear HQ hmd4 hmv4 hpf hrq hx
        go_wp2_with fail
        obtain ⟨W,hWW⟩:∃ W,W=(w6.setCell ⟨w5.heap.size,0,none⟩ (.bool bz)).setCell ⟨w5.heap.size,1,none⟩ (.string mv):=⟨_,rfl⟩
        rw [←hWW] at HP BV ⊢
        clear hWW v0' v1' g0' g1'
        clear c0 c1 c2 c3 f0 f1 f2 f3 v0 v1 g0 g1 hptr
        have HNE:=Lib.hid (show w5.heap.size≠w.heap.size by omega)
        have HP:=Lib.hid HP.out.drew
        have BV:=Lib.hid BV.out.drew
        obtain ⟨v0,v1,g0,g1⟩:=blk_cells BV.out.k
        simp only [World.cell?_drew] at v0 v1
        go_region_held3 (fun w'=>w'.cell? ⟨w5.heap.size,0,none⟩=some (.bool bz)∧w'.cell? ⟨w5.heap.size,1,none⟩=some (.string mv))
         (first
          | exact ⟨v0,v1⟩
          | exact ⟨(blk_cells (BV.out.set4 (g':=w.heap.size) HNE.out _ _ _ _).k).1,(blk_cells (BV.out.set4 (g':=w.heap.size) HNE.out _ _ _ _).k).2.1⟩
          | go_keep)
         (first
          | (go_at_call 239;(with_reducible refine (HT2.out _ HP.out.den).mono ?_);rintro e w8 ⟨rfl,hb8⟩;have HP:=Lib.hid (HP.out.next hb8);have BV:=Lib.hid (BV.out.next hb8);obtain ⟨v0,v1,g0,g1⟩:=blk_cells BV.out.k)
          | (go_at_call 114;(with_reducible refine (HMK.out _ (HE.out _ HP.out.bel)).mono ?_);rintro e w9 ⟨rfl,hb9⟩;have HP:=Lib.hid (HP.out.next hb9);have BV:=Lib.hid (BV.out.next hb9);obtain ⟨v0,v1,g0,g1⟩:=blk_cells BV.out.k;obtain ⟨c0,c1,c2,c3⟩:=blk4 HP.out.res;obtain ⟨f0,f1,f2,f3⟩:=fro4 HP.out.res))
        go_wp2
        exact bodyPost_ret (v:=.tuple #[.agg #[.bool b3,.string m3,.bool false,.string k3],.int .i64 0]) (by simp [results,Tryz.results221,go_sem,c0,c1,c2,c3]) rfl ⟨b3,m3,k3,rfl,HRQ.out,below_set4 HP.out.bel (Nat.le_refl _) _ _ _ _⟩
     · cases neg
       case false =>
        have HT1:=Lib.hid (fun V (hV:Pn (w.heap.size+1) p.length (val10 p) V)=>total_nm (by omega) V hV)
        have HZ:=Lib.hid (enc_mag (val10 p))
        generalize hmv:mag (val10 p)=mv at HT1 HZ
        have hmv:=Lib.hid hmv
        go_wp2_with fail
        refine (HT1.out _ HP.out.num).mono ?_
        rintro e w5 ⟨rfl,hb5⟩
        have HP:=Lib.hid (HP.out.next hb5)
        have hlt5:w.heap.size+3<w5.heap.size:=HP.out.sz
        have HP:=Lib.hid (HP.out.next (below_new w5 (.cells #[.bool false,.string mv] 23)))
        have BV:=Lib.hid (Bq.new w5 #[.bool false,.string mv] 23)
        obtain ⟨v0,v1,g0,g1⟩:=blk_cells BV.out.k
        clear hb5 c0 c1 c2 c3 f0 f1 f2 f3 hptr
        obtain ⟨c0,c1,c2,c3⟩:=blk4 HP.out.res
        obtain ⟨f0,f1,f2,f3⟩:=fro4 HP.out.res
        have hptr:=HP.out.den.other HP.out.num (by omega)
        have HT2:=Lib.hid (fun V (hV:Pn (w.heap.size+2) r.length (val10 r) V)=>total_nm (by omega) V hV)
        have hmv4:mv.size≤100000:=by rw [←hmv.out];exact Nat.le_trans (mag_pow10 (val10_lt p HS.out.dig.1)) (by omega)
        have hmd4:(mag (val10 r)).size≤100000:=Nat.le_trans (mag_pow10 (val10_lt r HS.out.dig.2)) (by omega)
        obtain ⟨rfl,rfl⟩:=HQ.out.one hpz
        rw [show mag (val10 r)=⟨#[]⟩ from by rw [hr0,mag_nil]] at HT2
        have HMK:=Lib.hid (fun V=>make_zero false false mv enc_nought V)
        clear HQ hmd4 hmv4 hpz
        go_wp2_with fail
        clear c0 c1 c2 c3 f0 f1 f2 f3 v0 v1 g0 g1 hptr
        have HNE:=Lib.hid (show w5.heap.size≠w.heap.size by omega)
        have HP:=Lib.hid HP.out.drew
        have BV:=Lib.hid BV.out.drew
        obtain ⟨v0,v1,g0,g1⟩:=blk_cells BV.out.k
        simp only [World.cell?_drew] at v0 v1
        go_region_held3 (fun w'=>w'.cell? ⟨w5.heap.size,0,none⟩=some (.bool false)∧w'.cell? ⟨w5.heap.size,1,none⟩=some (.string mv))
         (first
          | exact ⟨v0,v1⟩
          | exact ⟨(blk_cells (BV.out.set4 (g':=w.heap.size) HNE.out _ _ _ _).k).1,(blk_cells (BV.out.set4 (g':=w.heap.size) HNE.out _ _ _ _).k).2.1⟩
          | go_keep)
         (first
          | (go_at_call 239;(with_reducible refine (HT2.out _ HP.out.den).mono ?_);rintro e w8 ⟨rfl,hb8⟩;have HP:=Lib.hid (HP.out.next hb8);have BV:=Lib.hid (BV.out.next hb8);obtain ⟨v0,v1,g0,g1⟩:=blk_cells BV.out.k)
          | (go_at_call 114;(with_reducible refine (HMK.out _).mono ?_);rintro e w9 ⟨rfl,hb9⟩;have HP:=Lib.hid (HP.out.next hb9);have BV:=Lib.hid (BV.out.next hb9);obtain ⟨v0,v1,g0,g1⟩:=blk_cells BV.out.k;obtain ⟨c0,c1,c2,c3⟩:=blk4 HP.out.res;obtain ⟨f0,f1,f2,f3⟩:=fro4 HP.out.res))
        go_wp2
        exact bodyPost_ret (v:=.tuple #[.agg #[.bool false,.string ⟨#[]⟩,.bool false,.string ⟨#[]⟩],.int .i64 6]) (by simp [results,Tryz.results221,go_sem,c0,c1,c2,c3]) rfl ⟨false,_,_,rfl,rq_zero,below_set4 HP.out.bel (Nat.le_refl _) _ _ _ _⟩
       case true =>
        have HT1:=Lib.hid (fun V (hV:Pn (w.heap.size+1) p.length (val10 p) V)=>total_nm (by omega) V hV)
        have HZ:=Lib.hid (enc_mag (val10 p))
        generalize hmv:mag (val10 p)=mv at HT1 HZ
        have hmv:=Lib.hid hmv
        have HN0:=Lib.hid (enc_neg HZ.out)
        have hng:=fun V=>negate_pair false mv V
        generalize hbz:(!false && decide (0<mv.size))=bz at HN0 hng
        have HNG:=Lib.hid hng
        clear hng hbz
        go_wp2_with fail
        refine (HT1.out _ HP.out.num).mono ?_
        rintro e w5 ⟨rfl,hb5⟩
        have HP:=Lib.hid (HP.out.next hb5)
        have hlt5:w.heap.size+3<w5.heap.size:=HP.out.sz
        have HP:=Lib.hid (HP.out.next (below_new w5 (.cells #[.bool false,.string mv] 23)))
        have BV:=Lib.hid (Bq.new w5 #[.bool false,.string mv] 23)
        obtain ⟨v0,v1,g0,g1⟩:=blk_cells BV.out.k
        clear hb5 c0 c1 c2 c3 f0 f1 f2 f3 hptr
        go_wp2_with fail
        refine (HNG.out _).mono ?_
        rintro e w6 ⟨rfl,hb6⟩
        have HP:=Lib.hid (HP.out.next hb6)
        have BV:=Lib.hid (BV.out.next hb6)
        obtain ⟨v0',v1',g0',g1'⟩:=blk_cells BV.out.k
        clear hb6 v0 v1 g0 g1
        have HP:=Lib.hid (HP.out.set hlt5 (.bool bz) (.string mv))
        have BV:=Lib.hid (show Bq w5.heap.size #[.bool bz,.string mv] 23 ((w6.setCell ⟨w5.heap.size,0,none⟩ (.bool bz)).setCell ⟨w5.heap.size,1,none⟩ (.string mv)) from ⟨qset BV.out.k _ _,by rw [qsz];exact BV.out.lt⟩)
        obtain ⟨v0,v1,g0,g1⟩:=blk_cells BV.out.k
        obtain ⟨c0,c1,c2,c3⟩:=blk4 HP.out.res
        obtain ⟨f0,f1,f2,f3⟩:=fro4 HP.out.res
        have hptr:=HP.out.den.other HP.out.num (by omega)
        have HT2:=Lib.hid (fun V (hV:Pn (w.heap.size+2) r.length (val10 r) V)=>total_nm (by omega) V hV)
        have hmv4:mv.size≤100000:=by rw [←hmv.out];exact Nat.le_trans (mag_pow10 (val10_lt p HS.out.dig.1)) (by omega)
        have hmd4:(mag (val10 r)).size≤100000:=Nat.le_trans (mag_pow10 (val10_lt r HS.out.dig.2)) (by omega)
        obtain ⟨rfl,rfl⟩:=HQ.out.one hpz
        rw [show mag (val10 r)=⟨#[]⟩ from by rw [hr0,mag_nil]] at HT2
        have HMK:=Lib.hid (fun V=>make_zero bz false mv enc_nought V)
        clear HQ hmd4 hmv4 hpz
        go_wp2_with fail
        obtain ⟨W,hWW⟩:∃ W,W=(w6.setCell ⟨w5.heap.size,0,none⟩ (.bool bz)).setCell ⟨w5.heap.size,1,none⟩ (.string mv):=⟨_,rfl⟩
        rw [←hWW] at HP BV ⊢
        clear hWW v0' v1' g0' g1'
        clear c0 c1 c2 c3 f0 f1 f2 f3 v0 v1 g0 g1 hptr
        have HNE:=Lib.hid (show w5.heap.size≠w.heap.size by omega)
        have HP:=Lib.hid HP.out.drew
        have BV:=Lib.hid BV.out.drew
        obtain ⟨v0,v1,g0,g1⟩:=blk_cells BV.out.k
        simp only [World.cell?_drew] at v0 v1
        go_region_held3 (fun w'=>w'.cell? ⟨w5.heap.size,0,none⟩=some (.bool bz)∧w'.cell? ⟨w5.heap.size,1,none⟩=some (.string mv))
         (first
          | exact ⟨v0,v1⟩
          | exact ⟨(blk_cells (BV.out.set4 (g':=w.heap.size) HNE.out _ _ _ _).k).1,(blk_cells (BV.out.set4 (g':=w.heap.size) HNE.out _ _ _ _).k).2.1⟩
          | go_keep)
         (first
          | (go_at_call 239;(with_reducible refine (HT2.out _ HP.out.den).mono ?_);rintro e w8 ⟨rfl,hb8⟩;have HP:=Lib.hid (HP.out.next hb8);have BV:=Lib.hid (BV.out.next hb8);obtain ⟨v0,v1,g0,g1⟩:=blk_cells BV.out.k)
          | (go_at_call 114;(with_reducible refine (HMK.out _).mono ?_);rintro e w9 ⟨rfl,hb9⟩;have HP:=Lib.hid (HP.out.next hb9);have BV:=Lib.hid (BV.out.next hb9);obtain ⟨v0,v1,g0,g1⟩:=blk_cells BV.out.k;obtain ⟨c0,c1,c2,c3⟩:=blk4 HP.out.res;obtain ⟨f0,f1,f2,f3⟩:=fro4 HP.out.res))
        go_wp2
        exact bodyPost_ret (v:=.tuple #[.agg #[.bool false,.string ⟨#[]⟩,.bool false,.string ⟨#[]⟩],.int .i64 6]) (by simp [results,Tryz.results221,go_sem,c0,c1,c2,c3]) rfl ⟨false,_,_,rfl,rq_zero,below_set4 HP.out.bel (Nat.le_refl _) _ _ _ _⟩
end Go.Proofs.YtpnokfgplnmjpaaGreatDoor


namespace Go.Proofs.YtpnokfgplnmjpaaGreatDoor
open Go.RowKit
attribute [local go_sem ↓] Go.wp_at_zero Go.wp_at_succ

theorem bval_lit (c:UInt8):bval ⟨#[c]⟩=c.toNat:=by
 show 0+dig ⟨#[c]⟩ 0*256^0=c.toNat
 rw [show dig ⟨#[c]⟩ 0=c.toNat from rfl]
 simp
theorem lit_one (neg:Bool) (c:UInt8) (x:Int) (hc:c.toNat≠0) (hx:x=sgn neg c.toNat):enc x=.agg #[.bool neg,.string ⟨#[c]⟩]:=by
 rw [hx]
 have h:=enc_eq (neg:=neg) (s:=⟨#[c]⟩) ⟨fun _=>hc,fun h=>by simp [ByteArray.size] at h⟩ (z:=sgn neg c.toNat) (by unfold ival sgn;rw [bval_lit c])
 exact h.symm
theorem mag_lit (c:UInt8) (hc:c.toNat≠0):mag c.toNat=⟨#[c]⟩:=by
 have h:=lit_one false c c.toNat hc rfl
 exact ((enc_parts h).2.trans (by rw [Int.natAbs_natCast])).symm
theorem mag_2:mag 2=⟨#[2]⟩:=mag_lit 2 (by decide)
end Go.Proofs.YtpnokfgplnmjpaaGreatDoor


namespace Go.Proofs.YtpnokfgplnmjpaaGreatDoor
open Go.RowKit
attribute [local go_sem ↓] Go.wp_at_zero Go.wp_at_succ

end Go.Proofs.YtpnokfgplnmjpaaGreatDoor


namespace Go.Proofs.YtpnokfgplnmjpaaGreatDoor
open Go.RowKit

section
variable {W:World} {g g':Nat} {cs:Array Value} {T:TypeId} {x0 x1 x2 x3:Value}
theorem Bq.set2 (h:Bq g cs T W) (hne:g≠g') (x y:Value):Bq g cs T ((W.setCell ⟨g',0,none⟩ x).setCell ⟨g',1,none⟩ y) :=
 ⟨(qoth hne x y).trans h.k,by rw [qsz];exact h.lt⟩
theorem qsz3 (x y z:Value):(((W.setCell ⟨g,0,none⟩ x).setCell ⟨g,1,none⟩ y).setCell ⟨g,2,none⟩ z).heap.size=W.heap.size:=by simp [World.setCell]
theorem Bq.set3 (h:Bq g cs T W) (hne:g≠g') (x y z:Value):Bq g cs T (((W.setCell ⟨g',0,none⟩ x).setCell ⟨g',1,none⟩ y).setCell ⟨g',2,none⟩ z) :=
 ⟨((Below.heap_setCell _ ⟨g',2,none⟩ z g hne).trans (qoth hne x y)).trans h.k,by rw [qsz3];exact h.lt⟩
theorem Bq.self3 (h:Bq g #[x0,x1,x2] T W) (x y z:Value):Bq g #[x,y,z] T (((W.setCell ⟨g,0,none⟩ x).setCell ⟨g,1,none⟩ y).setCell ⟨g,2,none⟩ z) :=
 ⟨by have hk:=h.k;simp [World.setCell,Array.getElem?_modify,hk],by rw [qsz3];exact h.lt⟩
theorem Bq.self4 (h:Bq g #[x0,x1,x2,x3] T W) (x y z u:Value):Bq g #[x,y,z,u] T ((((W.setCell ⟨g,0,none⟩ x).setCell ⟨g,1,none⟩ y).setCell ⟨g,2,none⟩ z).setCell ⟨g,3,none⟩ u) :=
 ⟨by have hk:=h.k;simp [World.setCell,Array.getElem?_modify,hk],by rw [qsz4];exact h.lt⟩
end
end Go.Proofs.YtpnokfgplnmjpaaGreatDoor



namespace Go.Proofs.YtpnokfgplnmjpaaGreatDoor
open Go.RowKit

structure Sb (w:World) (l:List (Nat×Array Value×TypeId)) (rs:List (Option Addr×Nat×Nat×Nat)) (W:World):Prop where
 k:∀ x∈l,W.heap[x.1]?=some (.cells x.2.1 x.2.2 (0,0))
 lo:∀ x∈l,w.heap.size≤x.1
 ne:∀ (i j:Nat) (x y:Nat×Array Value×TypeId),l[i]?=some x→l[j]?=some y→i≠j→x.1≠y.1
 tr:∀ r∈rs,Tr W r.1 r.2.1 r.2.2.1 r.2.2.2
 ap:∀ r∈rs,∀ x∈l,0<r.2.1→∀ a,r.1=some a→a.block≠x.1
 bel:Below w.heap.size w W

theorem Tr.block_lt {W:World} {A:Option Addr} {n c V:Nat} (h:Tr W A n c V) (hn:0<n) {a:Addr} (e:A=some a):a.block<W.heap.size:=by
 obtain ⟨g,o,e',hg,_⟩:=h.dg.rd hn
 rw [e] at e'
 injection e' with e'
 subst e'
 exact hg
theorem Tr.keep {W W2:World} {A:Option Addr} {n c V:Nat} (h:Tr W A n c V) (hk:0<n→∀ a,A=some a→W2.heap[a.block]?=W.heap[a.block]?) (hs:W.heap.size≤W2.heap.size):Tr W2 A n c V :=
 ⟨⟨h.dg.lt,fun hn=>by
   obtain ⟨g,o,e,hg,hc⟩:=h.dg.rd hn
   exact ⟨g,o,e,Nat.lt_of_lt_of_le hg hs,fun j hj=>(World.cell?_of_block (w:=W) (a:=⟨g,o+j,none⟩) (by have h1:=hk hn _ e;exact h1)).trans (hc j hj)⟩⟩,h.ln,h.cap,h.nil⟩

section
variable {w W W2:World} {l l':List (Nat×Array Value×TypeId)} {rs rs':List (Option Addr×Nat×Nat×Nat)} {g:Nat} {cs cs':Array Value} {T:TypeId}
theorem Sb.lt (h:Sb w l rs W) {x:Nat×Array Value×TypeId} (hx:x∈l):x.1<W.heap.size:=(Array.getElem?_eq_some_iff.1 (h.k x hx)).1
theorem Sb.start (w:World):Sb w [] [] w:=⟨fun _ h=>by simp at h,fun _ h=>by simp at h,fun _ _ _ _ h=>by simp at h,fun _ h=>by simp at h,fun _ h=>by simp at h,Below.refl _ _⟩
theorem Sb.next (h:Sb w l rs W) (hb:Below W.heap.size W W2):Sb w l rs W2 :=
 ⟨fun x hx=>(hb.block _ (h.lt hx)).trans (h.k x hx),h.lo,h.ne,fun r hr=>(h.tr r hr).below hb,h.ap,h.bel.trans (hb.mono h.bel.size)⟩
theorem Sb.drew (h:Sb w l rs W):Sb w l rs W.drew:=h.next (Below.refl _ _).drew
theorem Sb.new (h:Sb w l rs W) (cs:Array Value) (T:TypeId):Sb w (l++[(W.heap.size,cs,T)]) rs (W.alloc (.cells cs T)):=by
 have hn:=h.next (below_new W (.cells cs T))
 refine ⟨fun x hx=>?_,fun x hx=>?_,fun i j x y hi hj hij=>?_,hn.tr,fun r hr x hx hn a ha=>?_,hn.bel⟩
 · rcases List.mem_append.1 hx with h1 | h1
   · exact hn.k x h1
   · obtain rfl:x=_:=by simpa using h1
     exact heap_one _ _
 · rcases List.mem_append.1 hx with h1 | h1
   · exact h.lo x h1
   · obtain rfl:x=_:=by simpa using h1
     exact h.bel.size
 · have key : ∀ {i x}, (l ++ [(W.heap.size, cs, T)])[i]? = some x → (i < l.length ∧ l[i]? = some x) ∨ (i = l.length ∧ x.1 = W.heap.size) := by
    intro i x hi
    rcases Nat.lt_trichotomy i l.length with h1 | h1 | h1
    · rw [List.getElem?_append_left h1] at hi
      exact .inl ⟨h1,hi⟩
    · subst h1
      rw [List.getElem?_append_right (Nat.le_refl _)] at hi
      simp at hi
      exact .inr ⟨rfl,by rw [←hi]⟩
    · rw [List.getElem?_append_right (by omega)] at hi
      have:i-l.length≠0:=by omega
      obtain ⟨m,hm⟩:∃ m,i-l.length=m+1:=⟨i-l.length-1,by omega⟩
      rw [hm] at hi
      simp at hi
   rcases key hi with ⟨h1,h2⟩ | ⟨h1,h2⟩<;>rcases key hj with ⟨h3,h4⟩ | ⟨h3,h4⟩
   · exact h.ne i j x y h2 h4 hij
   · have:=h.lt (List.mem_of_getElem? h2);omega
   · have:=h.lt (List.mem_of_getElem? h4);omega
   · omega
 · rcases List.mem_append.1 hx with h1 | h1
   · exact h.ap r hr x h1 hn a ha
   · obtain rfl:x=_:=by simpa using h1
     have:=(h.tr r hr).block_lt hn ha
     show a.block≠W.heap.size
     omega
theorem Sb.row (h:Sb w l rs W) (hb:Below W.heap.size W W2) {A:Option Addr} {n c V:Nat} (ht:Tr W2 A n c V) (hf:∀ a,A=some a→W.heap.size≤a.block):Sb w l (rs++[(A,n,c,V)]) W2:=by
 have hn:=h.next hb
 refine ⟨hn.k,hn.lo,hn.ne,fun r hr=>?_,fun r hr x hx h0 a ha=>?_,hn.bel⟩
 · rcases List.mem_append.1 hr with h1 | h1
   · exact hn.tr r h1
   · obtain rfl:r=_:=by simpa using h1
     exact ht
 · rcases List.mem_append.1 hr with h1 | h1
   · exact h.ap r h1 x hx h0 a ha
   · obtain rfl:r=_:=by simpa using h1
     have h2:=hf a ha
     have h3:=h.lt hx
     omega
theorem Sb.row2 (h:Sb w l rs W) (hb:Below W.heap.size W W2) {A B:Option Addr} {n c V m d U:Nat} (ht:Tr W2 A n c V) (hu:Tr W2 B m d U) (hf:∀ a,A=some a→W.heap.size≤a.block) (hg:∀ a,B=some a→W.heap.size≤a.block):Sb w l (rs++[(A,n,c,V),(B,m,d,U)]) W2:=by
 have hn:=h.next hb
 refine ⟨hn.k,hn.lo,hn.ne,fun r hr=>?_,fun r hr x hx h0 a ha=>?_,hn.bel⟩
 · rcases List.mem_append.1 hr with h1 | h1
   · exact hn.tr r h1
   · rcases (by simpa using h1:r=_∨r=_) with rfl | rfl
     · exact ht
     · exact hu
 · rcases List.mem_append.1 hr with h1 | h1
   · exact h.ap r h1 x hx h0 a ha
   · have h3:=h.lt hx
     rcases (by simpa using h1:r=_∨r=_) with rfl | rfl
     · have h2:=hf a ha
       omega
     · have h2:=hg a ha
       omega
theorem Sb.put (h:Sb w l rs W) {i:Nat} (hl:l[i]?=some (g,cs,T)) (hk:W2.heap[g]?=some (.cells cs' T (0,0))) (ho:∀ k,k≠g→W2.heap[k]?=W.heap[k]?) (hs:W.heap.size≤W2.heap.size) (hb:Below w.heap.size W W2):Sb w (l.set i (g,cs',T)) rs W2:=by
 have hi:i<l.length:=(List.getElem?_eq_some_iff.1 hl).1
 have hm:=List.mem_of_getElem? hl
 have key:∀ {j x},(l.set i (g,cs',T))[j]?=some x→∃ y,l[j]?=some y∧x.1=y.1∧(j≠i→x=y)∧(j=i→x=(g,cs',T)):=by
  intro j x hj
  rw [List.getElem?_set] at hj
  split at hj
  · rename_i h1
    subst h1
    try rw [if_pos hi] at hj
    injection hj with hj
    exact ⟨_,hl,by rw [←hj],fun h=>absurd rfl h,fun _=>hj.symm⟩
  · rename_i h1
    exact ⟨x,hj,rfl,fun _=>rfl,fun h=>absurd h.symm h1⟩
 have mem:∀ {x},x∈l.set i (g,cs',T)→∃ j,(l.set i (g,cs',T))[j]?=some x:=fun hx=>List.getElem?_of_mem hx
 refine ⟨fun x hx=>?_,fun x hx=>?_,fun j j' x y hx hy hne=>?_,fun r hr=>?_,fun r hr x hx h0 a ha=>?_,h.bel.trans hb⟩
 · obtain ⟨j,hj⟩:=mem hx
   obtain ⟨y,h1,h2,h3,h4⟩:=key hj
   by_cases hji:j=i
   · rw [h4 hji];exact hk
   · rw [h3 hji]
     exact (ho _ (h.ne j i y _ h1 hl hji)).trans (h.k y (List.mem_of_getElem? h1))
 · obtain ⟨j,hj⟩:=mem hx
   obtain ⟨y,h1,h2,h3,h4⟩:=key hj
   rw [h2]
   exact h.lo y (List.mem_of_getElem? h1)
 · obtain ⟨x',h1,h2,_,_⟩:=key hx
   obtain ⟨y',h3,h4,_,_⟩:=key hy
   rw [h2,h4]
   exact h.ne j j' x' y' h1 h3 hne
 · exact (h.tr r hr).keep (fun h0 a ha=>ho _ (h.ap r hr _ hm h0 a ha)) hs
 · obtain ⟨j,hj⟩:=mem hx
   obtain ⟨y,h1,h2,h3,h4⟩:=key hj
   rw [h2]
   exact h.ap r hr y (List.mem_of_getElem? h1) h0 a ha
theorem Sb.set2 (h:Sb w l rs W) {i:Nat} {x0 x1:Value} (hl:l[i]?=some (g,#[x0,x1],T)) (x y:Value):Sb w (l.set i (g,#[x,y],T)) rs ((W.setCell ⟨g,0,none⟩ x).setCell ⟨g,1,none⟩ y) :=
 h.put hl (qset (h.k _ (List.mem_of_getElem? hl)) x y) (fun k hk=>qoth hk x y) (Nat.le_of_eq (qsz x y).symm) (below_set2 (Below.refl _ _) (h.lo _ (List.mem_of_getElem? hl)) x y)
theorem Sb.set3 (h:Sb w l rs W) {i:Nat} {x0 x1 x2:Value} (hl:l[i]?=some (g,#[x0,x1,x2],T)) (x y z:Value):Sb w (l.set i (g,#[x,y,z],T)) rs (((W.setCell ⟨g,0,none⟩ x).setCell ⟨g,1,none⟩ y).setCell ⟨g,2,none⟩ z) :=
 h.put hl (Bq.self3 ⟨h.k _ (List.mem_of_getElem? hl),h.lt (List.mem_of_getElem? hl)⟩ x y z).k (fun k hk=>(Below.heap_setCell _ ⟨g,2,none⟩ z k hk).trans (qoth hk x y)) (Nat.le_of_eq (qsz3 x y z).symm) (below_set3 (Below.refl _ _) (h.lo _ (List.mem_of_getElem? hl)) x y z)
theorem Sb.set4 (h:Sb w l rs W) {i:Nat} {x0 x1 x2 x3:Value} (hl:l[i]?=some (g,#[x0,x1,x2,x3],T)) (x y z u:Value):Sb w (l.set i (g,#[x,y,z,u],T)) rs ((((W.setCell ⟨g,0,none⟩ x).setCell ⟨g,1,none⟩ y).setCell ⟨g,2,none⟩ z).setCell ⟨g,3,none⟩ u) :=
 h.put hl (Bq.self4 ⟨h.k _ (List.mem_of_getElem? hl),h.lt (List.mem_of_getElem? hl)⟩ x y z u).k (fun k hk=>qoth4 hk x y z u) (Nat.le_of_eq (qsz4 x y z u).symm) (below_set4 (Below.refl _ _) (h.lo _ (List.mem_of_getElem? hl)) x y z u)
theorem Sb.pick (h:Sb w l rs W) (is:List Nat) (l':List (Nat×Array Value×TypeId)) (rs':List (Option Addr×Nat×Nat×Nat)) (hl:is.map (fun i:Nat=>l[i]?)=l'.map some) (hn:is.Nodup) (hr:∀ r∈rs',r∈rs):Sb w l' rs' W:=by
 have at':∀ {j:Nat} {x:Nat×Array Value×TypeId},l'[j]?=some x→∃ i,is[j]?=some i∧l[i]?=some x:=by
  intro j x hj
  have h1:(l'.map some)[j]?=some (some x):=by rw [List.getElem?_map,hj];rfl
  rw [←hl,List.getElem?_map] at h1
  obtain ⟨i,h2,h3⟩:=Option.map_eq_some_iff.1 h1
  exact ⟨i,h2,h3⟩
 have mem:∀ {x:Nat×Array Value×TypeId},x∈l'→x∈l:=fun hx=>by
  obtain ⟨j,hj⟩:=List.getElem?_of_mem hx
  obtain ⟨i,_,h2⟩:=at' hj
  exact List.mem_of_getElem? h2
 refine ⟨fun x hx=>h.k x (mem hx),fun x hx=>h.lo x (mem hx),fun j j' x y hx hy hne=>?_,fun r hr'=>h.tr r (hr r hr'),fun r hr' x hx=>h.ap r (hr r hr') x (mem hx),h.bel⟩
 obtain ⟨i,h1,h2⟩:=at' hx
 obtain ⟨i',h3,h4⟩:=at' hy
 refine h.ne i i' x y h2 h4 fun e=>hne ?_
 subst e
 obtain ⟨ha,hb⟩:=List.getElem?_eq_some_iff.1 h1
 obtain ⟨hc,hd⟩:=List.getElem?_eq_some_iff.1 h3
 exact (List.getElem_inj hn).1 (hb.trans hd.symm)
theorem wexi (_:Sb w l rs W):∃ V,V=W:=⟨_,rfl⟩
theorem Sb.rw (h:Sb w l rs W) {i n c V:Nat} {A:Option Addr} (hl:rs[i]?=some (A,n,c,V)):Tr W A n c V:=h.tr _ (List.mem_of_getElem? hl)
theorem Sb.at (h:Sb w l rs W) {i:Nat} (hl:l[i]?=some (g,cs,T)):W.heap[g]?=some (.cells cs T (0,0)):=h.k _ (List.mem_of_getElem? hl)
theorem Sb.c2 (h:Sb w l rs W) {i:Nat} {x0 x1:Value} (hl:l[i]?=some (g,#[x0,x1],T)):W.cell? ⟨g,0,none⟩=some x0∧W.cell? ⟨g,1,none⟩=some x1:=⟨(blk_cells (h.at hl)).1,(blk_cells (h.at hl)).2.1⟩
theorem Sb.f2 (h:Sb w l rs W) {i:Nat} {x0 x1:Value} (hl:l[i]?=some (g,#[x0,x1],T)):W.frozen? ⟨g,0,none⟩=false∧W.frozen? ⟨g,1,none⟩=false:=⟨(blk_cells (h.at hl)).2.2.1,(blk_cells (h.at hl)).2.2.2⟩
theorem Sb.c3 (h:Sb w l rs W) {i:Nat} {x0 x1 x2:Value} (hl:l[i]?=some (g,#[x0,x1,x2],T)):W.cell? ⟨g,0,none⟩=some x0∧W.cell? ⟨g,1,none⟩=some x1∧W.cell? ⟨g,2,none⟩=some x2:=⟨(blk3 (h.at hl)).1,(blk3 (h.at hl)).2.1,(blk3 (h.at hl)).2.2.1⟩
theorem Sb.f3 (h:Sb w l rs W) {i:Nat} {x0 x1 x2:Value} (hl:l[i]?=some (g,#[x0,x1,x2],T)):W.frozen? ⟨g,0,none⟩=false∧W.frozen? ⟨g,1,none⟩=false∧W.frozen? ⟨g,2,none⟩=false:=(blk3 (h.at hl)).2.2.2
theorem Sb.c4 (h:Sb w l rs W) {i:Nat} {x0 x1 x2 x3:Value} (hl:l[i]?=some (g,#[x0,x1,x2,x3],T)):W.cell? ⟨g,0,none⟩=some x0∧W.cell? ⟨g,1,none⟩=some x1∧W.cell? ⟨g,2,none⟩=some x2∧W.cell? ⟨g,3,none⟩=some x3:=blk4 (h.at hl)
theorem Sb.f4 (h:Sb w l rs W) {i:Nat} {x0 x1 x2 x3:Value} (hl:l[i]?=some (g,#[x0,x1,x2,x3],T)):W.frozen? ⟨g,0,none⟩=false∧W.frozen? ⟨g,1,none⟩=false∧W.frozen? ⟨g,2,none⟩=false∧W.frozen? ⟨g,3,none⟩=false:=fro4 (h.at hl)
end


def takeB (md:Region.Mode) (ops:Array Oper) (L:List Nat) (listed:Array Bool) (i:Nat):Bool :=
 Region.noSelect ops && Region.free md ops listed i && (Region.ready md ops listed).contains i && closedB md ops listed && L.all (fun j=>waits md ops i ops.size j)
theorem tk {P:Program} {ops:Array Oper} {Q:Exit→Act→World→Prop} {md:Region.Mode} {S:World→Prop} {L:List Nat} {i:Nat} {oi:Oper} {v:Value} {fuel:Nat} {listed:Array Bool} {a:Act} {w:World} (hi:ops[i]?=some oi) (hb:takeB md ops L listed i=true)
  (hQ:∀ c a w,Q (.panic c) (a.put oi.dst v) w→Q (.panic c) a w) (hS:S w) (hy:YieldsIf P ops S oi v a)
  (h:wpLate P md ops Q S L fuel (listed.setIfInBounds i true) (a.put oi.dst v) w):wpLate P md ops Q S L (fuel+1) listed a w:=by
 simp only [takeB,Bool.and_eq_true] at hb
 obtain ⟨⟨⟨⟨h1,h2⟩,h3⟩,h4⟩,h5⟩:=hb
 exact wpLate_take hi h1 h2 h3 h4 h5 hQ hy hS h
theorem seti {α:Type} (xs:List α) (i:Nat) (a:α):xs.toArray.setIfInBounds i a=(xs.set i a).toArray:=List.setIfInBounds_toArray ..
theorem set0 {α:Type} (x y:α) (xs:List α):(x :: xs).set 0 y=y :: xs:=rfl
theorem setS {α:Type} (x y:α) (xs:List α) (n:Nat):(x :: xs).set (n+1) y=x :: xs.set n y:=rfl
end Go.Proofs.YtpnokfgplnmjpaaGreatDoor


namespace Go.Proofs.YtpnokfgplnmjpaaGreatDoor
open Go.RowKit

inductive Eff
 | val (v:Value)
 | new (cs:Array Value) (T:TypeId)
 | rel (p:Value→World→Prop)

structure Rg (w0:World) (a0:Act) (ef:List Eff) (ds:List Nat) (listed:Array Bool) (a:Act) (w:World):Prop where
 bel:Below w0.heap.size w0 w
 sz:a.tmps.size=a0.tmps.size
 df:a.defers=a0.defers
 keep:∀ k,k∉ds→a.tmps.getD k undef=a0.tmps.getD k undef
 val:∀ i v,listed.getD i false=true→ef[i]?=some (.val v)→a.tmps.getD (ds.getD i 0) undef=v
 new:∀ i cs T,listed.getD i false=true→ef[i]?=some (.new cs T)→∃ g,a.tmps.getD (ds.getD i 0) undef=.pointer (some ⟨g,0,none⟩)∧w0.heap.size≤g∧w.heap[g]?=some (.cells cs T (0,0))
 rel:∀ i p,listed.getD i false=true→ef[i]?=some (.rel p)→p (a.tmps.getD (ds.getD i 0) undef) w
 ne:∀ i j cs T cs' T' g,i≠j→listed.getD i false=true→listed.getD j false=true→ef[i]?=some (.new cs T)→ef[j]?=some (.new cs' T')→a.tmps.getD (ds.getD i 0) undef=.pointer (some ⟨g,0,none⟩)→a.tmps.getD (ds.getD j 0) undef≠.pointer (some ⟨g,0,none⟩)

def Did (ef:List Eff) (i:Nat) (w:World) (v:Value) (w':World):Prop :=
 (ef[i]?=some (.val v)∧Below w.heap.size w w')∨(∃ cs T,ef[i]?=some (.new cs T)∧v=.pointer (some ⟨w.heap.size,0,none⟩)∧w'=w.alloc (.cells cs T))∨(∃ p,ef[i]?=some (.rel p)∧p v w'∧Below w.heap.size w w')

def Stays (ef:List Eff):Prop:=∀ (i:Nat) (p:Value→World→Prop),ef[i]?=some (.rel p)→∀ v w w',p v w→Below w.heap.size w w'→p v w'

theorem put_at (a:Act) (d:Nat) (v:Value) (h:d<a.tmps.size):(a.put (some d) v).tmps.getD d undef=v:=by
 simp [Act.put,Array.getD_eq_getD_getElem?,h]
theorem put_not (a:Act) {d k:Nat} (v:Value) (h:d≠k):(a.put (some d) v).tmps.getD k undef=a.tmps.getD k undef:=by
 simp [Act.put,Array.getD_eq_getD_getElem?,Array.getElem?_setIfInBounds_ne h]
theorem put_size (a:Act) (d:Nat) (v:Value):(a.put (some d) v).tmps.size=a.tmps.size:=by simp [Act.put]

section
variable {w0 w w':World} {a0 a:Act} {ef:List Eff} {ds:List Nat} {listed:Array Bool} {i d:Nat}
theorem nodup_ne (hnd:ds.Nodup) (hi:ds[i]?=some d) {j:Nat} (hj:j<ds.length) (hne:j≠i):ds.getD j 0≠d:=by
 intro e
 obtain ⟨h1,h2⟩:=List.getElem?_eq_some_iff.1 hi
 have h3:ds[j]=ds[i]:=by
  rw [h2,←e]
  simp [List.getD,hj]
 exact hne ((List.getElem_inj hnd).1 h3)

theorem Rg.step (h:Rg w0 a0 ef ds listed a w) (hst:Stays ef) (hnd:ds.Nodup) (hlen:ef.length=ds.length) (hi:ds[i]?=some d) (hd:d<a0.tmps.size) (hl:listed.getD i false=false) (hs:i<listed.size) {v:Value} (hdid:Did ef i w v w') :
  Rg w0 a0 ef ds (listed.setIfInBounds i true) (a.put (some d) v) w':=by
 have hdi:ds.getD i 0=d:=by simp [List.getD,hi]
 have hmem:d∈ds:=List.mem_of_getElem? hi
 have hda:d<a.tmps.size:=by rw [h.sz];exact hd
 have hb:Below w.heap.size w w':=by
  rcases hdid with ⟨_,hb⟩ | ⟨cs,T,_,_,rfl⟩ | ⟨p,_,_,hb⟩
  · exact hb
  · exact below_new _ _
  · exact hb
 have was:∀ {j:Nat},j≠i→(listed.setIfInBounds i true).getD j false=true→listed.getD j false=true:=fun hne hj=>by
  rw [getD_set_ne false (Ne.symm hne)] at hj
  exact hj
 have other:∀ {j:Nat} {x:Eff},j≠i→ef[j]?=some x→(a.put (some d) v).tmps.getD (ds.getD j 0) undef=a.tmps.getD (ds.getD j 0) undef:=fun hne hj=>by
  have hjl:=(List.getElem?_eq_some_iff.1 hj).1
  exact put_not a v (Ne.symm (nodup_ne hnd hi (by omega) hne))
 refine ⟨h.bel.trans (hb.mono h.bel.size),(put_size a d v).trans h.sz,h.df,fun k hk=>?_,fun j u hj he=>?_,fun j cs T hj he=>?_,fun j p hj he=>?_,fun j k cs T cs' T' g hne hj hk he hf hg=>?_⟩
 · rw [put_not a (k:=k) v (fun e:d=k=>hk (by rw [←e];exact hmem))]
   exact h.keep k hk
 · by_cases hji:j=i
   · subst hji
     rw [hdi,put_at a d v hda]
     rcases hdid with ⟨h1,_⟩ | ⟨cs,T,h1,_,_⟩ | ⟨p,h1,_,_⟩
     · rw [he] at h1;injection h1 with h1;injection h1 with h1;exact h1.symm
     · rw [he] at h1;injection h1 with h1;cases h1
     · rw [he] at h1;injection h1 with h1;cases h1
   · rw [other hji he]
     exact h.val j u (was hji hj) he
 · by_cases hji:j=i
   · subst hji
     rw [hdi,put_at a d v hda]
     rcases hdid with ⟨h1,_⟩ | ⟨cs',T',h1,hv,hw⟩ | ⟨p,h1,_,_⟩
     · rw [he] at h1;injection h1 with h1;cases h1
     rotate_left
     · rw [he] at h1;injection h1 with h1;cases h1
     · rw [he] at h1
       injection h1 with h1
       injection h1 with h1 h2
       subst h1
       subst h2
       subst hv
       subst hw
       exact ⟨_,rfl,h.bel.size,heap_one _ _⟩
   · rw [other hji he]
     obtain ⟨g,h1,h2,h3⟩:=h.new j cs T (was hji hj) he
     exact ⟨g,h1,h2,(hb.block _ (Array.getElem?_eq_some_iff.1 h3).1).trans h3⟩
 · by_cases hji:j=i
   · subst hji
     rw [hdi,put_at a d v hda]
     rcases hdid with ⟨h1,_⟩ | ⟨cs,T,h1,_,_⟩ | ⟨p',h1,hp,_⟩
     · rw [he] at h1;injection h1 with h1;cases h1
     · rw [he] at h1;injection h1 with h1;cases h1
     · rw [he] at h1
       injection h1 with h1
       injection h1 with h1
       subst h1
       exact hp
   · rw [other hji he]
     exact hst j p he _ _ _ (h.rel j p (was hji hj) he) hb
 · by_cases hji:j=i
   · subst hji
     have hki:k≠j:=Ne.symm hne
     rw [other hki hf]
     rw [hdi,put_at a d v hda] at hg
     rcases hdid with ⟨h1,_⟩ | ⟨cs2,T2,h1,hv,hw⟩ | ⟨p,h1,_,_⟩
     · rw [he] at h1;injection h1 with h1;cases h1
     rotate_left
     · rw [he] at h1;injection h1 with h1;cases h1
     · obtain ⟨g',h2,h3,h4⟩:=h.new k cs' T' (was hki hk) hf
       rw [h2]
       rw [hv] at hg
       intro e
       rw [←hg] at e
       injection e with e
       injection e with e
       injection e with e
       have:=(Array.getElem?_eq_some_iff.1 h4).1
       omega
   · by_cases hki:k=i
     · subst hki
       rw [other hji he] at hg
       rw [hdi,put_at a d v hda]
       rcases hdid with ⟨h1,_⟩ | ⟨cs2,T2,h1,hv,hw⟩ | ⟨p,h1,_,_⟩
       · rw [hf] at h1;injection h1 with h1;cases h1
       rotate_left
       · rw [hf] at h1;injection h1 with h1;cases h1
       · obtain ⟨g',h2,h3,h4⟩:=h.new j cs T (was hji hj) he
         rw [h2] at hg
         rw [hv]
         intro e
         rw [←hg] at e
         injection e with e
         injection e with e
         injection e with e
         have:=(Array.getElem?_eq_some_iff.1 h4).1
         omega
     · rw [other hji he] at hg
       rw [other hki hf]
       exact h.ne j k cs T cs' T' g hne (was hji hj) (was hki hk) he hf hg
end

def okOps (md:Region.Mode) (ops:Array Oper) (ds:List Nat):Bool :=
 (List.range ops.size).all (fun j=>match ops[j]? with
  | some o=>if j<ds.length then decide (o.dst=some (ds.getD j 0)) && o.guard.isNone && o.after.all (fun e=>!Region.binds md e || decide (e.on<j))
    else (List.range ds.length).all (fun i=>waits md ops i ops.size j)
  | none=>false) && decide (ds.length≤ops.size)

def deps (md:Region.Mode) (o:Oper):List Nat:=(o.after.toList.filter (Region.binds md)).map (·.on)

def mark (n m:Nat):Array Bool:=((List.range n).map (fun i=>decide (i<m))).toArray

theorem rg_run {P:Program} {md:Region.Mode} {ops:Array Oper} {Q:Exit→Act→World→Prop} {w0:World} {a0:Act} {ef:List Eff} {ds:List Nat} (hok:okOps md ops ds=true) (hst:Stays ef) (hnd:ds.Nodup) (hlen:ef.length=ds.length) (hsz:∀ d∈ds,d<a0.tmps.size)
  (hop:∀ i d o,ds[i]?=some d→ops[i]?=some o→∀ (listed:Array Bool) (a:Act) (w:World),Rg w0 a0 ef ds listed a w→(∀ j∈deps md o,listed.getD j false=true)→∀ K:Act→World→Prop,(∀ v w',Did ef i w v w'→K (a.put (some d) v) w')→Oper.wp P o a w K Q)
  (f:Nat) (hfin:∀ a w,Rg w0 a0 ef ds (mark ops.size ds.length) a w→wpAny P md ops Q f (mark ops.size ds.length) a w) :
  wpAny P md ops Q (ds.length+f) (Array.replicate ops.size false) a0 w0:=by
 simp only [okOps,Bool.and_eq_true,List.all_eq_true,List.mem_range,decide_eq_true_eq] at hok
 obtain ⟨hok,hle⟩:=hok
 have first:∀ {j o},ops[j]?=some o→j<ds.length→o.dst=some (ds.getD j 0)∧o.guard=none∧∀ e∈o.after,Region.binds md e=true→e.on<j:=by
  intro j o ho hj
  have h1:=hok j (Array.getElem?_eq_some_iff.1 ho).1
  rw [ho] at h1
  simp only [hj,if_true,Bool.and_eq_true,decide_eq_true_eq] at h1
  refine ⟨h1.1.1,by simpa using h1.1.2,fun e he hb=>?_⟩
  have h2:=Array.all_eq_true_iff_forall_mem.1 h1.2 e he
  simpa [hb] using h2
 have later:∀ {j o},ops[j]?=some o→ds.length≤j→∀ i,i<ds.length→waits md ops i ops.size j=true:=by
  intro j o ho hj i hi
  have h1:=hok j (Array.getElem?_eq_some_iff.1 ho).1
  rw [ho] at h1
  simp only [show ¬j<ds.length by omega,if_false,List.all_eq_true,List.mem_range] at h1
  exact h1 i hi
 have key:∀ (n:Nat) (L:List Nat) (listed:Array Bool) (a:Act) (w:World),L.length=n→L.Nodup→(∀ i,i∈L↔i<ds.length∧listed.getD i false=false)→listed.size=ops.size→(∀ j,ds.length≤j→listed.getD j false=false)→Closed md ops listed→Rg w0 a0 ef ds listed a w→wpAny P md ops Q (n+f) listed a w:=by
  intro n
  induction n with
  | zero =>
    intro L listed a w hL _ hmem hs hz hc hr
    have hnil:L=[]:=List.eq_nil_of_length_eq_zero hL
    have he:listed=mark ops.size ds.length:=by
     apply Array.ext
     · simp [mark,hs]
     · intro i h1 h2
       have h3:listed.getD i false=listed[i]:=by simp [Array.getD,h1]
       by_cases hi:i<ds.length
       · have h4 : listed.getD i false = true := by
          cases hg:listed.getD i false
          · have:=(hmem i).2 ⟨hi,hg⟩
            rw [hnil] at this
            simp at this
          · rfl
         rw [h3] at h4
         simp [mark,hi,h4]
       · have h4:=hz i (by omega)
         rw [h3] at h4
         simp [mark,hi,h4]
    subst he
    rw [Nat.zero_add]
    exact hfin a w hr
  | succ n ih =>
    intro L listed a w hL hndL hmem hs hz hc hr
    rw [show n+1+f=(n+f)+1 by omega]
    have one:∀ i,i<ds.length→listed.getD i false=false→∃ j,j∈Region.ready md ops listed:=by
     intro i
     induction i using Nat.strongRecOn with
     | ind i ihi =>
       intro hi hl
       have ho:∃ o,ops[i]?=some o:=⟨ops[i]'(by omega),Array.getElem?_eq_getElem _⟩
       obtain ⟨o,ho⟩:=ho
       by_cases hall:∀ e∈o.after,Region.binds md e=true→listed.getD e.on false=true
       · refine ⟨i,mem_ready.2 ⟨?_,o,ho,hall⟩⟩
         have h1:i<listed.size:=by omega
         simp [Array.getD,h1] at hl ⊢
         exact hl
       · have h1 : ∃ e, e ∈ o.after ∧ Region.binds md e = true ∧ listed.getD e.on false = false := by
          apply Classical.byContradiction
          intro hno
          apply hall
          intro e he hb
          cases hg:listed.getD e.on false
          · exact absurd ⟨e,he,hb,hg⟩ hno
          · rfl
         obtain ⟨e,he,hb,hg⟩:=h1
         have h2:=(first ho hi).2.2 e he hb
         exact ihi e.on h2 (by omega) hg
    have hne:∃ i,i∈L:=by
     cases L with
     | nil=>simp at hL
     | cons x t=>exact ⟨x,by simp⟩
    obtain ⟨i0,hi0⟩:=hne
    have hi0':=(hmem i0).1 hi0
    refine ⟨fun h0=>?_,fun j hj=>?_⟩
    · obtain ⟨j,hj⟩:=one i0 hi0'.1 hi0'.2
      rw [h0] at hj
      simp at hj
    · obtain ⟨hju,o,ho,hall⟩:=mem_ready.1 hj
      have hjs:j<listed.size:=by have:=(Array.getElem?_eq_some_iff.1 ho).1;omega
      have hjl:j<ds.length:=by
       rcases Nat.lt_or_ge j ds.length with h | h
       · exact h
       · exfalso
         have hw:=later ho h i0 hi0'.1
         -- what it waits for has come up
         have h1:listed.getD i0 false=true:=by
          cases hf:ops.size with
          | zero=>rw [hf] at hw;simp [waits] at hw
          | succ m =>
            rw [hf] at hw
            unfold waits at hw
            rw [ho] at hw
            obtain ⟨e,he,hb⟩:=Array.any_eq_true'.1 hw
            simp only [Bool.and_eq_true,Bool.or_eq_true,beq_iff_eq] at hb
            have h2:=hall e he hb.1
            rcases hb.2 with h3 | h3
            · rw [←h3];exact h2
            · exact waits_listed hc m e.on h3 h2
         rw [hi0'.2] at h1
         cases h1
      have hjf:listed.getD j false=false:=by
       simp [Array.getD,hjs] at hju ⊢
       exact hju
      have hdj:ds[j]?=some (ds.getD j 0):=by simp [List.getD,hjl]
      obtain ⟨f1,f2,_⟩:=first ho hjl
      refine wpOp_step ho (fun K' hK=>?_)
      rw [if_pos (by unfold Region.wanted;rw [f2])]
      refine hop j _ o hdj ho listed a w hr (fun k hk=>?_) K' (fun v w' hd=>?_)
      · obtain ⟨e,he,rfl⟩:=List.mem_map.1 hk
        rw [List.mem_filter] at he
        exact hall e (by simpa using he.1) he.2
      have hr2:=hr.step hst hnd hlen hdj (hsz _ (List.mem_of_getElem? hdj)) hjf hjs hd
      refine hK _ _ (ih (L.erase j) _ _ _ ?_ (hndL.erase j) (fun i=>?_) (by simp [hs]) (fun k hk=>?_) (closed_set hc hj) hr2)
      · rw [List.length_erase_of_mem ((hmem j).2 ⟨hjl,hjf⟩),hL];rfl
      · rw [hndL.mem_erase_iff,hmem i]
        constructor
        · rintro ⟨h1,h2,h3⟩
          exact ⟨h2,by rw [getD_set_ne false (Ne.symm h1)];exact h3⟩
        · rintro ⟨h2,h3⟩
          have h1:i≠j:=by
           rintro rfl
           simp [Array.getD,hjs] at h3
          rw [getD_set_ne false (Ne.symm h1)] at h3
          exact ⟨h1,h2,h3⟩
      · rw [getD_set_ne false (by omega)]
        exact hz k hk
 have hb0:∀ j,(Array.replicate ops.size false).getD j false=false:=fun j=>by
  by_cases h:j<ops.size<;>simp [Array.getD,h]
 refine key ds.length (List.range ds.length) _ a0 w0 (by simp) List.nodup_range (fun i=>?_) (by simp) (fun j _=>hb0 j) (fun j o _ hj=>?_) ⟨Below.refl _ _,rfl,rfl,fun _ _=>rfl,fun j v hj=>?_,fun j cs T hj=>?_,fun j p hj=>?_,fun j k cs T cs' T' g _ hj=>?_⟩
 · rw [List.mem_range,hb0]
   simp
 · rw [hb0] at hj;cases hj
 · rw [hb0] at hj;cases hj
 · rw [hb0] at hj;cases hj
 · rw [hb0] at hj;cases hj
 · rw [hb0] at hj;cases hj

theorem arr_fold {ds:List Nat}:∀ {t t0:Array Value},t.size=t0.size→(∀ k,k∉ds→t.getD k undef=t0.getD k undef)→t=ds.foldl (fun b d=>b.setIfInBounds d (t.getD d undef)) t0:=by
 induction ds with
 | nil =>
   intro t t0 hs hk
   apply Array.ext hs
   intro i h1 h2
   have h:=hk i (by simp)
   simpa [Array.getD,h1,h2] using h
 | cons d ds ih =>
   intro t t0 hs hk
   rw [List.foldl_cons]
   refine ih (by simpa using hs) fun k hkd=>?_
   by_cases h:k=d
   · subst h
     by_cases h1:k<t0.size
     · simp [Array.getD_eq_getD_getElem?,h1]
     · have h2:¬k<t.size:=by omega
       simp [Array.getD_eq_getD_getElem?,h1,h2]
   · rw [hk k (by simp [h,hkd])]
     simp [Array.getD_eq_getD_getElem?,Array.getElem?_setIfInBounds_ne (Ne.symm h)]

theorem Rg.act {w0 w:World} {a0 a:Act} {ef:List Eff} {ds:List Nat} {listed:Array Bool} (h:Rg w0 a0 ef ds listed a w):a=⟨ds.foldl (fun b d=>b.setIfInBounds d (a.tmps.getD d undef)) a0.tmps,a0.defers⟩:=by
 have h1:=arr_fold h.sz h.keep
 have h2:=h.df
 cases a
 simp only at h1 h2
 rw [h2]
 congr 1

theorem Sb.add {w W0 W:World} {l:List (Nat×Array Value×TypeId)} {rs:List (Option Addr×Nat×Nat×Nat)} {g:Nat} {cs:Array Value} {T:TypeId} (h:Sb w l rs W0) (hb:Below W0.heap.size W0 W) (hg:W0.heap.size≤g) (hk:W.heap[g]?=some (.cells cs T (0,0))):Sb w (l++[(g,cs,T)]) rs W:=by
 have hn:=h.next hb
 refine ⟨fun x hx=>?_,fun x hx=>?_,fun i j x y hi hj hij=>?_,hn.tr,fun r hr x hx h0 a ha=>?_,hn.bel⟩
 · rcases List.mem_append.1 hx with h1 | h1
   · exact hn.k x h1
   · obtain rfl:x=_:=by simpa using h1
     exact hk
 · rcases List.mem_append.1 hx with h1 | h1
   · exact h.lo x h1
   · obtain rfl:x=_:=by simpa using h1
     exact Nat.le_trans h.bel.size hg
 · have key : ∀ {i x}, (l ++ [(g, cs, T)])[i]? = some x → (i < l.length ∧ l[i]? = some x) ∨ (i = l.length ∧ x.1 = g) := by
    intro i x hi
    rcases Nat.lt_trichotomy i l.length with h1 | h1 | h1
    · rw [List.getElem?_append_left h1] at hi
      exact .inl ⟨h1,hi⟩
    · subst h1
      rw [List.getElem?_append_right (Nat.le_refl _)] at hi
      simp at hi
      exact .inr ⟨rfl,by rw [←hi]⟩
    · rw [List.getElem?_append_right (by omega)] at hi
      obtain ⟨m,hm⟩:∃ m,i-l.length=m+1:=⟨i-l.length-1,by omega⟩
      rw [hm] at hi
      simp at hi
   rcases key hi with ⟨h1,h2⟩ | ⟨h1,h2⟩<;>rcases key hj with ⟨h3,h4⟩ | ⟨h3,h4⟩
   · exact h.ne i j x y h2 h4 hij
   · have:=h.lt (List.mem_of_getElem? h2);omega
   · have:=h.lt (List.mem_of_getElem? h4);omega
   · omega
 · rcases List.mem_append.1 hx with h1 | h1
   · exact h.ap r hr x h1 h0 a ha
   · obtain rfl:x=_:=by simpa using h1
     have h2:=(h.tr r hr).block_lt h0 ha
     show a.block≠g
     omega
theorem Sb.add2 {w W0 W:World} {l:List (Nat×Array Value×TypeId)} {rs:List (Option Addr×Nat×Nat×Nat)} {g g':Nat} {cs cs':Array Value} {T T':TypeId} (h:Sb w l rs W0) (hb:Below W0.heap.size W0 W) (hg:W0.heap.size≤g) (hk:W.heap[g]?=some (.cells cs T (0,0))) (hg':W0.heap.size≤g') (hk':W.heap[g']?=some (.cells cs' T' (0,0))) (hne:g≠g'):Sb w (l++[(g,cs,T),(g',cs',T')]) rs W:=by
 have h1:=h.add hb hg hk
 have h2:=h.add hb hg' hk'
 refine ⟨fun x hx=>?_,fun x hx=>?_,fun i j x y hi hj hij=>?_,h1.tr,fun r hr x hx=>?_,h1.bel⟩
 · rcases List.mem_append.1 hx with h3 | h3
   · exact h1.k x (by simp [h3])
   · rcases (by simpa using h3:x=_∨x=_) with rfl | rfl
     · exact h1.k _ (by simp)
     · exact h2.k _ (by simp)
 · rcases List.mem_append.1 hx with h3 | h3
   · exact h1.lo x (by simp [h3])
   · rcases (by simpa using h3:x=_∨x=_) with rfl | rfl
     · exact h1.lo _ (by simp)
     · exact h2.lo _ (by simp)
 · have key : ∀ {i x}, (l ++ [(g, cs, T), (g', cs', T')])[i]? = some x → (i < l.length ∧ l[i]? = some x) ∨ (i = l.length ∧ x.1 = g) ∨ (i = l.length + 1 ∧ x.1 = g') := by
    intro i x hi
    rcases Nat.lt_or_ge i l.length with h3 | h3
    · rw [List.getElem?_append_left h3] at hi
      exact .inl ⟨h3,hi⟩
    · rw [List.getElem?_append_right h3] at hi
      rcases Nat.lt_trichotomy (i-l.length) 1 with h4 | h4 | h4
      · rw [show i-l.length=0 by omega] at hi
        simp at hi
        exact .inr (.inl ⟨by omega,by rw [←hi]⟩)
      · rw [h4] at hi
        simp at hi
        exact .inr (.inr ⟨by omega,by rw [←hi]⟩)
      · obtain ⟨m,hm⟩:∃ m,i-l.length=m+2:=⟨i-l.length-2,by omega⟩
        rw [hm] at hi
        simp at hi
   have lo:∀ {i:Nat} {x:Nat×Array Value×TypeId},l[i]?=some x→x.1<W0.heap.size:=fun hi=>h.lt (List.mem_of_getElem? hi)
   rcases key hi with ⟨h3,h4⟩ | ⟨h3,h4⟩ | ⟨h3,h4⟩<;>rcases key hj with ⟨h5,h6⟩ | ⟨h5,h6⟩ | ⟨h5,h6⟩
   · exact h.ne i j x y h4 h6 hij
   · have:=lo h4;omega
   · have:=lo h4;omega
   · have:=lo h6;omega
   · omega
   · omega
   · have:=lo h6;omega
   · omega
   · omega
 · rcases List.mem_append.1 hx with h3 | h3
   · exact h1.ap r hr x (by simp [h3])
   · rcases (by simpa using h3:x=_∨x=_) with rfl | rfl
     · exact h1.ap r hr _ (by simp)
     · exact h2.ap r hr _ (by simp)

theorem stays_none {ef:List Eff} (h:∀ e∈ef,∀ p,e≠.rel p):Stays ef:=fun _ p he=>absurd rfl (h _ (List.mem_of_getElem? he) p)

def Fine:Eff→Prop
 | .rel p=>∀ v w w',p v w→Below w.heap.size w w'→p v w'
 | _=>True
theorem stays_of {ef:List Eff} (h:∀ e∈ef,Fine e):Stays ef:=fun _ _ he=>h _ (List.mem_of_getElem? he)

def NoInt (cs:Array Value):Prop:=∀ (j:Nat) (k:IntKind) (n:Int),cs[j]?≠some (.int k n)
theorem row_apart {W:World} {A:Option Addr} {n c V g:Nat} {cs:Array Value} {T:TypeId} (ht:Tr W A n c V) (hk:W.heap[g]?=some (.cells cs T (0,0))) (hno:NoInt cs) (hn:0<n) (a:Addr) (ha:A=some a):a.block≠g:=by
 intro e
 obtain ⟨g',o,e',_,hc⟩:=ht.dg.rd hn
 rw [ha] at e'
 injection e' with e'
 subst e'
 have h1:=hc 0 hn
 have e2:g'=g:=e
 subst e2
 simp only [World.cell?,hk] at h1
 exact hno _ _ _ h1
theorem Sb.rows {w W:World} {l:List (Nat×Array Value×TypeId)} {rs:List (Option Addr×Nat×Nat×Nat)} (h:Sb w l rs W) (rs2:List (Option Addr×Nat×Nat×Nat)) (ht:∀ r∈rs2,Tr W r.1 r.2.1 r.2.2.1 r.2.2.2) (hno:∀ x∈l,NoInt x.2.1):Sb w l (rs++rs2) W :=
 ⟨h.k,h.lo,h.ne,fun r hr=>(List.mem_append.1 hr).elim (h.tr r) (ht r),fun r hr x hx h0 a ha=>(List.mem_append.1 hr).elim (fun h1=>h.ap r h1 x hx h0 a ha) (fun h1=>row_apart (ht r h1) (h.k x hx) (hno x hx) h0 a ha),h.bel⟩
end Go.Proofs.YtpnokfgplnmjpaaGreatDoor


namespace Go.Proofs.YtpnokfgplnmjpaaGreatDoor
open Go.RowKit
attribute [local go_sem ↓] Go.wp_at_zero Go.wp_at_succ

set_option maxHeartbeats 2000000 in
set_option maxRecDepth 100000 in
theorem rFromInt_f {x:Int} {b:Bool} {m:ByteArray} (hx:enc x=.agg #[.bool b,.string m]) (x1:-9223372036854775808≤x) (x2:x≤9223372036854775807) (w:World) :
  Calls Tryz.prog 73 #[.int .i64 x] w (RetB w (.agg #[.bool b,.string m,.bool false,.string ⟨#[]⟩])):=by
 have HX:=Lib.hid hx
 have KR:=Lib.hid (Bq.new w #[.bool false,.string ⟨#[]⟩,.bool false,.string ⟨#[]⟩] 25)
 have HB:=Lib.hid (below_new w (.cells #[.bool false,.string ⟨#[]⟩,.bool false,.string ⟨#[]⟩] 25))
 clear hx
 go_enter Tryz.func73,Tryz.ntmps73
 go_wp2_with fail
 refine (fromInt_any x x1 x2 _).mono ?_
 rintro e w1 ⟨rfl,hb1⟩
 rw [HX.out]
 have K3:=Lib.hid (KR.out.next hb1)
 have B3:=Lib.hid (below_step HB.out (Nat.le_refl _) hb1)
 obtain ⟨t0,t1,t2,t3⟩:=blk4 K3.out.k
 obtain ⟨f0,f1,f2,f3⟩:=fro4 K3.out.k
 clear hb1
 go_wp2
 exact bodyPost_ret (v:=.agg #[.bool b,.string m,.bool false,.string ⟨#[]⟩]) (by simp [results,Tryz.results73,go_sem,t0,t1,t2,t3]) rfl ⟨rfl,below_set4 B3.out (Nat.le_refl _) _ _ _ _⟩

theorem canon_yes {x:Int} {b:Bool} {m:ByteArray} (h:enc x=.agg #[.bool b,.string m]):canonB b m=true:=by
 have h1:=canon_enc h
 unfold checkV at h1
 cases hc:canonB b m
 · rw [hc] at h1;cases h1
 · rfl

set_option maxHeartbeats 1000000 in
set_option maxRecDepth 100000 in
theorem isInt_any (neg:Bool) (s:ByteArray) (w:World) :
  Calls Tryz.prog 110 #[.agg #[.bool neg,.string s]] w (RetB w (.bool (canonB neg s))):=by
 by_cases h:0<s.size
 · have hv:canonB neg s=((s[0]'h).toNat != 0):=by unfold canonB;rw [dif_pos h]
   have he:=empty_no h
   rw [hv]
   clear hv
   have HB:=Lib.hid (below_new w (.cells #[.bool neg,.string s] 23))
   go_enter Tryz.func110,Tryz.ntmps110
   go_wp2
   go_ret
   refine ⟨?_,HB.out⟩
   have hb:(((s[0]'h).toNat:Int) != 0)=((s[0]'h).toNat != 0):=by rw [Bool.eq_iff_iff];simp
   exact congrArg (fun b=>Ending.returned (.bool b)) hb
 · have hv:canonB neg s=!neg:=by unfold canonB;rw [dif_neg h]
   have he:=empty_yes h
   have h0:s.size=0:=by omega
   rw [hv]
   clear hv
   have HB:=Lib.hid (below_new w (.cells #[.bool neg,.string s] 23))
   go_enter Tryz.func110,Tryz.ntmps110
   go_wp2
   go_ret
   exact ⟨rfl,HB.out⟩

end Go.Proofs.YtpnokfgplnmjpaaGreatDoor


namespace Go.Proofs.YtpnokfgplnmjpaaGreatDoor
open Go.RowKit
attribute [local go_sem ↓] Go.wp_at_zero Go.wp_at_succ

end Go.Proofs.YtpnokfgplnmjpaaGreatDoor


namespace Go.Proofs.YtpnokfgplnmjpaaGreatDoor

def Sz (n:Nat) (q:Rat):Prop:=q.num.natAbs<256^n∧q.den<256^n

theorem mkRat_le (x:Int) {d:Nat} (hd:d≠0):(mkRat x d).num.natAbs≤x.natAbs∧(mkRat x d).den≤d:=by
 obtain ⟨h1,h2⟩:=mkRat_parts x hd
 rw [h1,h2]
 refine ⟨?_,Nat.div_le_self _ _⟩
 rw [Int.natAbs_ediv_of_dvd (int_gcd_dvd x d),Int.natAbs_natCast]
 exact Nat.div_le_self _ _
theorem Sz.mul {n m:Nat} {p q:Rat} (hp:Sz n p) (hq:Sz m q):Sz (n+m) (p*q):=by
 rw [Rat.mul_def']
 obtain ⟨h1,h2⟩:=mkRat_le (p.num*q.num) (d:=p.den*q.den) (Nat.mul_ne_zero p.den_nz q.den_nz)
 unfold Sz
 rw [Nat.pow_add]
 refine ⟨Nat.lt_of_le_of_lt h1 ?_,Nat.lt_of_le_of_lt h2 (Nat.mul_lt_mul'' hp.2 hq.2)⟩
 rw [Int.natAbs_mul]
 exact Nat.mul_lt_mul'' hp.1 hq.1
theorem Sz.add {n m:Nat} {p q:Rat} (hp:Sz n p) (hq:Sz m q):Sz (n+m+1) (p+q):=by
 rw [Rat.add_def']
 obtain ⟨h1,h2⟩:=mkRat_le (p.num*q.den+q.num*p.den) (d:=p.den*q.den) (Nat.mul_ne_zero p.den_nz q.den_nz)
 have h3:=Int.natAbs_add_le (p.num*(q.den:Int)) (q.num*(p.den:Int))
 rw [Int.natAbs_mul,Int.natAbs_mul,Int.natAbs_natCast,Int.natAbs_natCast] at h3
 have h4:p.num.natAbs*q.den<256^n*256^m:=Nat.mul_lt_mul'' hp.1 hq.2
 have h5:q.num.natAbs*p.den<256^m*256^n:=Nat.mul_lt_mul'' hq.1 hp.2
 have h6:p.den*q.den<256^n*256^m:=Nat.mul_lt_mul'' hp.2 hq.2
 rw [Nat.mul_comm (256^m)] at h5
 unfold Sz
 rw [Nat.pow_succ,Nat.pow_add]
 omega
theorem Sz.m {n:Nat} {q:Rat} (h:Sz n q) {b:Bool} {m k:ByteArray} (hq:Rq q b m k) (hn:n≤10000):m.size≤10000∧(mag q.den).size≤10000:=by
 refine ⟨?_,Nat.le_trans (mag_size_le h.2) hn⟩
 rw [hq.mag.2]
 exact Nat.le_trans (mag_size_le h.1) hn
theorem Sz.minus {n:Nat} {q:Rat} (h:Sz n q):Sz n (-q):=by
 unfold Sz
 rw [Rat.neg_num,Rat.neg_den,Int.natAbs_neg]
 exact h
end Go.Proofs.YtpnokfgplnmjpaaGreatDoor


namespace Go.Proofs.YtpnokfgplnmjpaaGreatDoor
open Go.RowKit
attribute [local go_sem ↓] Go.wp_at_zero Go.wp_at_succ
attribute [local go_sem] undef yielded

end Go.Proofs.YtpnokfgplnmjpaaGreatDoor
