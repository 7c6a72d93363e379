import Derived.Test.YtpnokfgplnmjpaaGreatDoorGStB
import Derived.Test.YtpnokfgplnmjpaaGreatDoorGStN
import Derived.Test.YtpnokfgplnmjpaaGreatDoorGDivH
import Derived.Test.YtpnokfgplnmjpaaGreatDoorGIntT
set_option linter.unusedSimpArgs false
set_option linter.unusedVariables false

namespace Go.Proofs.YtpnokfgplnmjpaaGreatDoor
open Go.RowKit Go.Lib

def printed (neg:Bool) (X:Nat):List UInt8:=if X=0 then [48] else (if neg then [45] else [])++decDigits X

theorem wordsInfo:(Tryz.prog.info? 124).map (fun i=>(i.zero,i.size,i.bytes))=some (some (.int .u64 0),1,8):=by kernel_rfl

theorem bval_b64 (s:ByteArray):bval s<B64^(s.size / 8+1):=by
 refine Nat.lt_of_lt_of_le (bval_lt s) ?_
 rw [show B64=256^8 by decide,←Nat.pow_mul]
 exact Nat.pow_le_pow_right (by decide) (by omega)

structure Pt (w0:World) (base N X R k:Nat) (gv:Value) (A:Option Addr) (n c:Nat) (wr:World):Prop where
 rest:Nm wr A n c R
 groups:Own wr base gv k (nums .u64 (fun j=>X / G19^j%G19) k)
 sep:0<n→∀ z,gv.ownBlock=some z→Value.ownBlock (.slice A n c)≠some z
 eq:R=X / G19^k
 pos:0<k→0<X / G19^(k-1)
 le:n≤N
 lx:X<B64^N
 bel:Below base w0 wr
 bs:base≤w0.heap.size

theorem Pt.count {w0:World} {base N X R k:Nat} {gv:Value} {A:Option Addr} {n c:Nat} {wr:World} (h:Pt w0 base N X R k gv A n c wr):k≤2*N+1:=groups_le h.lx h.pos

theorem Pt.next {w0:World} {base N X R k:Nat} {gv:Value} {A A':Option Addr} {n c n' c':Nat} {wr w1 w2:World} {v':Value} {t:TypeId} {u:Value} (h:Pt w0 base N X R k gv A n c wr) (hR:0<R)
  (hn:n'≤n) (hm:Nm w1 A' n' c' (R / G19)) (hb:Below wr.heap.size wr w1) (hf:∀ z,Value.ownBlock (.slice A' n' c')=some z→wr.heap.size≤z)
  (ho:Own w2 base v' (k+1) (nums .u64 (fun j=>X / G19^j%G19) k++[.int .u64 ((R%G19:Nat):Int)]))
  (hg:(w1.alloc (.cells #[u] t)).grownBy w2 gv.ownBlock) (hat:v'.ownBlock=gv.ownBlock∨v'.ownBlock=some (w1.heap.size+1)) :
  Pt w0 base N X (R / G19) (k+1) v' A' n' c' w2:=by
 have hlt:∀ z,gv.ownBlock=some z→base≤z∧z<wr.heap.size:=h.groups.lt
 have hrest:Nm (w1.alloc (.cells #[u] t)) A' n' c' (R / G19):=⟨hm.toNg.alloc _,hm.top⟩
 refine ⟨⟨⟨hrest.lt,hrest.cap,hrest.rd.grown hg (fun z hz a ha e=>?_)⟩,hrest.top⟩,?_,?_,?_,?_,Nat.le_trans hn h.le,h.lx,?_,h.bs⟩
 · subst ha
   have h1:=hlt z hz
   have h2:=hf a.block (by simp [Value.ownBlock])
   omega
 · refine own_next' ho ?_
   rw [h.eq]
 · intro h0 z hz e
   obtain ⟨g,o,e',hg',_⟩:=hm.rd h0
   subst e'
   have h1:=hf g (by simp [Value.ownBlock])
   simp [Value.ownBlock] at e
   rw [hz] at hat
   rcases hat with hat | hat
   · have:=hlt z hat.symm
     omega
   · injection hat with hat
     omega
 · rw [h.eq,Nat.pow_succ,←Nat.div_div_eq_div_mul]
 · intro _
   rw [Nat.add_sub_cancel,←h.eq]
   exact hR
 · have h0:=h.bel.size
   have h1:=hb.size
   have hbs:=h.bs
   refine (h.bel.trans (hb.mono (by omega))).trans ?_
   refine ((Below.refl base w1).alloc (by omega) _).trans ((Below.refl base _).grown hg (by simp;omega) (fun z hz=>(hlt z hz).1))

theorem gTen:Tryz.prog.globalNamed "internal/strconv.uint64pow10"=some 5:=by kernel_rfl

theorem Ten.below {w w':World} {B:Nat} (h:Ten w) (hb:Below B w w') (hB:w.heap.size≤B):Ten w':=by
 unfold Ten Lib.TabIs World.var? at *
 rw [gTen] at h ⊢
 simp only [Option.bind_some] at h ⊢
 have hlt:5<w.heap.size:=by
  rcases Nat.lt_or_ge 5 w.heap.size with h' | h'
  · exact h'
  · rw [Array.getElem?_eq_none h'] at h;simp at h
 rw [hb.block _ (by omega)]
 exact h

structure Tt (wl:World) (txt:List UInt8) (V:World):Prop where
 bel:Below wl.heap.size wl V
 bld:Lib.IsBuilder 188 5 wl.heap.size wl.heap.size (Lib.byteCells txt) V
 big:wl.heap.size<V.heap.size

theorem Tt.start (wl:World):Tt wl [] (wl.alloc (.cells #[.pointer none,.slice none 0 0] 188)) :=
 ⟨(Below.refl _ _).alloc (Nat.le_refl _) _,Lib.fresh_isBuilder _ _ _,by simp⟩

theorem Tt.write {wl V V':World} {txt:List UInt8} {l:List UInt8} (h:Tt wl txt V) (hb:Lib.BuilderAt 188 5 wl.heap.size wl.heap.size (.pointer (some ⟨wl.heap.size,0,none⟩)) (Lib.byteCells txt++Lib.byteCells l) V') (hbl:Below wl.heap.size V V'):Tt wl (txt++l) V':=by
 have hs:=hbl.size
 have hg:=h.big
 refine ⟨h.bel.trans hbl,Or.inr ?_,by omega⟩
 have e:Lib.byteCells (txt++l)=Lib.byteCells txt++Lib.byteCells l:=by simp [Lib.byteCells]
 rw [e]
 exact hb

theorem ownsRow_past {B:Nat} {e:TypeId} {k:Nat} {v:Value} {n:Nat} {xs:List Value} {w w':World} (h:w.ownsRow B e k v n xs) (hb:Below w.heap.size w w'):w'.ownsRow B e k v n xs:=by
 refine ⟨h.1,?_⟩
 rcases h.2 with hv | ⟨g,cap,cur,hv,hbg,hg,r⟩
 · exact .inl hv
 · exact .inr ⟨g,cap,cur,hv,hbg,(hb.block g (Array.getElem?_eq_some_iff.1 hg).1).trans hg,r⟩

theorem builder_past {B b:Nat} {p:Value} {bs:List Value} {V V':World} (h:Lib.BuilderAt 188 5 B b p bs V) (hb:Below V.heap.size V V'):Lib.BuilderAt 188 5 B b p bs V':=by
 have hlt:=h.lt
 obtain ⟨hB,v,hbk,hown,hne⟩:=h
 exact ⟨hB,v,(hb.block b hlt).trans hbk,ownsRow_past hown hb,hne⟩

theorem Tt.below {wl V V':World} {txt:List UInt8} (h:Tt wl txt V) (hb:Below V.heap.size V V'):Tt wl txt V':=by
 have hs:=hb.size
 have hg:=h.big
 exact ⟨h.bel.trans (hb.mono (by omega)),h.bld.imp (fun k=>builder_past k hb) (fun k=>builder_past k hb),by omega⟩

theorem Tt.len {wl V:World} {txt l:List UInt8} (_:Tt wl txt V) (h:txt.length+l.length≤140737488355328):(Lib.byteCells txt).length+(ByteArray.mk l.toArray).size≤140737488355328:=by
 simp only [Lib.byteCells_length]
 exact h

def signOf (neg:Bool):List UInt8:=if neg then [45] else []

theorem signOf_len (neg:Bool):(signOf neg).length≤1:=by cases neg<;>simp [signOf]

theorem printed_pos {neg:Bool} {X:Nat} (h:X≠0):printed neg X=signOf neg++decDigits X:=by simp [printed,h,signOf]

theorem zeros_rep (c:Nat):Lib.repeatL [48] c=List.replicate c 48:=by
 have h:=Lib.repeatL_replicate 48 1 c
 rw [Nat.mul_one] at h
 exact h

set_option maxHeartbeats 8000000 in
set_option maxRecDepth 100000 in
theorem print_any (neg:Bool) (s:ByteArray) (w:World) (hs:s.size≤1000000) (hT:Ten w) :
  Calls Tryz.prog 163 #[.agg #[.bool neg,.string s]] w (fun e w'=>e=.returned (.string ⟨(printed neg (bval s)).toArray⟩)∧Below w.heap.size w w'):=by
 obtain ⟨i0,hi,hz0,hz1,hz2⟩:=info_parts wordsInfo
 go_enter Tryz.func163,Tryz.ntmps163
 go_wp2_with fail
 refine (unpack_own (.slice none 0 0) s w.heap.size _ (by omega) (by simp) (Own.nil _ _)).mono ?_
 rintro e w1 ⟨A,n,c,hn,rfl,hm,hg,_,_⟩
 have hb1:=below_none (B:=w.heap.size+1) hg (by simp)
 go_wp2_with fail
 go_loopg [3,4] (bval s) (fun R gv rv wr=>∃ k A n c,rv=.slice A n c∧Pt (w.alloc (.cells #[.bool neg,.string s] 23)) (w.heap.size+1) (s.size / 8+1) (bval s) R k gv A n c wr)
 case atStart =>
  exact ⟨0,A,n,c,rfl,hm,Own.nil _ _,fun _ z hz=>by simp [Value.ownBlock] at hz,by simp,by omega,hn,bval_b64 s,hb1,by simp⟩
 case round =>
  obtain ⟨k,A,n,c,rfl,hpt⟩:=hrel
  have hcnt:=hpt.count
  have hws:=hpt.bel.size
  by_cases h0:0<n
  · have hR : 0 < gk := by
     have:=hpt.rest.top h0
     have:=Nat.pow_pos (n:=n-1) B64_pos
     omega
    have HDW:=Lib.hid (divideWord_any A n c gk 10000000000000000000 wr (by have:=hpt.le;omega) (by decide) (by decide) hpt.rest.toNg)
    have HPT:=Lib.hid hpt
    have h0d:decide ((0:Int)<(n:Int))=true:=by simp;omega
    clear hpt
    go_wp2_with fail
    refine HDW.out.mono ?_
    rintro e w2 ⟨A',n',c',hn',rfl,hm',hb',hf'⟩
    have hown:=HPT.out.groups.below hb' (fun z hz=>(HPT.out.groups.lt z hz).2)
    have hs2:=hb'.size
    have HMM:=Lib.hid hm'
    have HBB:=Lib.hid hb'
    clear hm' hb'
    go_wp2_with (at_builtin;refine wpList_append_Own _ rfl _ _ 130 rfl (w.heap.size+1) 124 i0 (.int .u64 0) 8 Tryz.underlying130 hi hz0 hz1 hz2 rfl _ _ _ rfl (hown.alloc _) ⟨w2.heap.size,0,none⟩ 1 1 [.int .u64 ((gk%G19:Nat):Int)] rfl rfl (by omega) ?_ ?_ ?_ ?_ ?_ ?_)
    · intro q u hq;exact one_cell' q u hq rfl
    · intro u hu;simp at hu;subst hu;rfl
    · unfold maxLen;omega
    · omega
    · simp at hws ⊢;omega
    intro v' w3 hown' hgrow hat
    have HNEW:=Lib.hid (HPT.out.next hR hn' HMM.out HBB.out hf' hown' hgrow hat)
    clear hown hown' hgrow hat
    go_wp2_with fail
    go_roundg (gk / G19)
    case measure=>exact Nat.div_lt_self hR (by decide)
    case rel=>exact ⟨_,_,_,_,rfl,HNEW.out⟩
  · obtain rfl:n=0:=by omega
    rename World=>wl
    have hR:gk=0:=hpt.rest.zero.1 rfl
    subst hR
    obtain ⟨gA,gc,rfl,hgc,hrd⟩:=hpt.groups.rd
    have HPT:=Lib.hid hpt
    have HRD:=Lib.hid hrd
    have hws':w.heap.size<wl.heap.size:=by simp at hws;omega
    have c0:(wl.alloc (.cells #[.pointer none,.slice none 0 0] 188)).cell? ⟨w.heap.size,0,none⟩=some (.bool neg):=by
     rw [(((Below.refl (w.heap.size+1) wl).alloc (by omega) (.cells #[.pointer none,.slice none 0 0] 188)).cell (p:=⟨w.heap.size,0,none⟩) (by simp)),hpt.bel.cell (p:=⟨w.heap.size,0,none⟩) (by simp)]
     simp
    clear hpt hrd
    by_cases hk:k=0
    · subst hk
      clear c0
      have hx0:bval s=0:=by have:=HPT.out.eq;simp at this;exact this.symm
      go_wp2
      go_ret
      refine ⟨by rw [hx0];rfl,?_⟩
      exact ((Below.refl w.heap.size w).alloc (Nat.le_refl _) _).trans (HPT.out.bel.mono (by omega))
    · obtain ⟨q,rfl⟩:∃ q,k=q+1:=⟨k-1,by omega⟩
      have hk0:(((q+1:Nat):Int)==0)=false:=by simp;omega
      have TT:=Lib.hid (Tt.start wl)
      obtain ⟨f,hf⟩:∃ f:Nat→Nat,(fun j=>bval s / G19^j%G19)=f:=⟨_,rfl⟩
      rw [hf] at HRD
      have hfl:∀ j,f j<18446744073709551616:=fun j=>by rw [←hf];exact Nat.lt_trans (Nat.mod_lt _ G19_pos) (by decide)
      have HF:=Lib.hid hf
      have HFL:=Lib.hid hfl
      have hT2:Ten wl:=Ten.below hT (HPT.out.bel.mono (by omega) |> fun h=>((Below.refl w.heap.size w).alloc (Nat.le_refl _) _).trans h) (Nat.le_refl _)
      have HTW:=Lib.hid (fun (V:World) (hV:Below wl.heap.size wl V)=>hT2.below hV (Nat.le_refl _))
      obtain ⟨gg,go,rfl,hgl,hcell⟩:=HRD.out (by omega)
      have HCELL:=Lib.hid hcell
      have HGL:=Lib.hid hgl
      have hce:(wl.alloc (.cells #[.pointer none,.slice none 0 0] 188)).cell? ⟨gg,go+q,none⟩=some (.int .u64 (f q:Int)):=(TT.out.bel.cell (p:=⟨gg,go+q,none⟩) hgl).trans (hcell q (by omega))
      clear hcell hT2 hf hfl hgl
      have hq0:0<bval s / G19^q:=HPT.out.pos (by omega)
      have hqz:bval s / G19^(q+1)=0:=HPT.out.eq.symm
      have hfq:decDigits (f q)=decDigits (bval s / G19^q):=by
       rw [←HF.out]
       show decDigits (bval s / G19^q%G19)=_
       rw [Nat.pow_succ,←Nat.div_div_eq_div_mul] at hqz
       rw [Nat.mod_eq_of_lt]
       rcases Nat.lt_or_ge (bval s / G19^q) G19 with h | h
       · exact h
       · have:=Nat.div_pos h G19_pos;omega
      have HFQ:=Lib.hid hfq
      have HX0:=Lib.hid (show bval s≠0 from fun h=>by rw [h] at hq0;simp at hq0)
      have HLEN:=Lib.hid (fun j=>show (decDigits (bval s / G19^j)).length≤19*(q+1) by
       rw [decDigits_length]
       exact Nat.le_trans (nDigits_div _ _) (nDigits_groups hqz (by omega)))
      have HQ0:=Lib.hid hq0
      have HPT:=Lib.hid HPT
      clear hfq hqz hq0
      have hq19:19*(q+1)≤1000000000:=by omega
      cases neg
      case' false =>
       have HSG:=Lib.hid (show ([]:List UInt8)=signOf false from rfl)
       obtain ⟨sg,hsg⟩:∃ sg,signOf false=sg:=⟨_,rfl⟩
       have HSL:sg.length≤1:=by rw [←hsg];exact signOf_len _
       rw [hsg] at HSG
       have HSS:=Lib.hid hsg
       clear hsg
       go_wp2_with fail
      case' true =>
       go_wp2_with fail
       refine (writeByte_any _ _ _ 45 _ TT.out.bld (by simp [Lib.byteCells]) (by simp)).mono ?_
       rintro e w2 ⟨rfl,hbd,hb2⟩
       have TT:=Lib.hid (TT.out.write (l:=[45]) hbd hb2)
       have HSG:=Lib.hid (show ([]++[45]:List UInt8)=signOf true from rfl)
       obtain ⟨sg,hsg⟩:∃ sg,signOf true=sg:=⟨_,rfl⟩
       have HSL:sg.length≤1:=by rw [←hsg];exact signOf_len _
       rw [hsg] at HSG
       have HSS:=Lib.hid hsg
       clear hsg
       clear hbd hb2 c0 hce
       have hce:w2.cell? ⟨gg,go+q,none⟩=some (.int .u64 (f q:Int)):=(TT.out.bel.cell (p:=⟨gg,go+q,none⟩) HGL.out).trans (HCELL.out q (by omega))
       go_wp2_with fail
      all_goals
       refine (formatUint_any (f q) (HFL.out q) _ (HTW.out _ TT.out.bel)).mono ?_
       rintro e w3 ⟨rfl,hb3⟩
       have TT:=Lib.hid (TT.out.below hb3)
       rw [HSG.out] at TT
       clear hb3 hce
       have hl0:=HLEN.out q
       rw [←HFQ.out] at hl0
       go_wp2_with fail
       refine (writeString_any _ _ _ ⟨(decDigits (f q)).toArray⟩ _ TT.out.bld (TT.out.len (by omega)) (Nat.le_of_lt TT.out.big)).mono ?_
       rintro e w4 ⟨rfl,hbd,hb4⟩
       have TT:=Lib.hid (TT.out.write (l:=decDigits (f q)) hbd hb4)
       rw [HFQ.out] at TT
       clear hbd hb4
       go_wp2_with fail
       go_loopw [7] (fun i wr=>∃ j:Nat,j≤q∧i=.int .i64 ((j:Int)-1)∧Hid (Tt wl (sg++decDigits (bval s / G19^j)) wr)) (fun i _=>(RowKit.intOf i+1).toNat)
       case atStart=>exact ⟨q,Nat.le_refl _,by congr 1;omega,TT⟩
       case round =>
        obtain ⟨j,hj,rfl,TT⟩:=hrel
        rcases j with _ | p
        · have e:(((0:Nat):Int)-1)=-1:=rfl
          rw [e]
          go_wp2_with fail
          refine (Tryz.Builder_String_any _ _ _ _ TT.out.bld (Nat.le_of_lt TT.out.big)).mono ?_
          rintro e w9 ⟨rfl,hb9⟩
          have hbl:=TT.out.bel.trans hb9
          go_wp2
          go_ret
          refine ⟨?_,?_⟩
          · rw [printed_pos HX0.out,HSS.out];rfl
          · exact ((Below.refl w.heap.size w).alloc (Nat.le_refl _) _).trans ((HPT.out.bel.mono (by omega)).trans (hbl.mono (by omega)))
        · have e:(((p+1:Nat):Int)-1)=(p:Int):=by omega
          rw [e]
          clear e
          have hce:wr.cell? ⟨gg,go+p,none⟩=some (.int .u64 (f p:Int)):=(TT.out.bel.cell (p:=⟨gg,go+p,none⟩) HGL.out).trans (HCELL.out p (by omega))
          have hp0:(0:Int)≤(p:Int):=by omega
          have hp1:(p:Int)<((q+1:Nat):Int):=by omega
          go_wp2_with fail
          refine (formatUint_any (f p) (HFL.out p) _ (HTW.out _ TT.out.bel)).mono ?_
          rintro e w5 ⟨rfl,hb5⟩
          have TT:=Lib.hid (TT.out.below hb5)
          clear hb5 hce
          have hl1:(decDigits (f p)).length≤19:=by rw [←HF.out];exact group_len _ _
          obtain ⟨L,hL⟩:∃ L,(decDigits (f p)).length=L:=⟨_,rfl⟩
          rw [hL] at hl1
          have hsub:(19:Int)-(L:Int)=((19-L:Nat):Int):=by omega
          go_wp2_with fail
          refine (Tryz.strings_Repeat ⟨#[48]⟩ (19-L) _ (by omega) (by simp [ByteArray.size];omega)).mono ?_
          rintro e w6 ⟨rfl,hb6⟩
          have TT:=Lib.hid (TT.out.below hb6)
          have hrep:Lib.repeatL (ByteArray.mk #[48]).data.toList (19-L)=List.replicate (19-L) 48:=zeros_rep _
          rw [hrep]
          have hl2:=HLEN.out (p+1)
          have hl3:(sg++decDigits (bval s / G19^(p+1))).length+(List.replicate (19-L) (48:UInt8)).length≤140737488355328:=by simp only [List.length_append,List.length_replicate];omega
          have hl4:(sg++decDigits (bval s / G19^(p+1))++List.replicate (19-L) (48:UInt8)).length+(decDigits (f p)).length≤140737488355328:=by simp only [List.length_append,List.length_replicate];omega
          clear hb6 hrep
          go_wp2_with fail
          refine (writeString_any _ _ _ ⟨(List.replicate (19-L) 48).toArray⟩ _ TT.out.bld (TT.out.len hl3) (Nat.le_of_lt TT.out.big)).mono ?_
          rintro e w7 ⟨rfl,hbd,hb7⟩
          have TT:=Lib.hid (TT.out.write (l:=List.replicate (19-L) 48) hbd hb7)
          clear hbd hb7
          go_wp2_with fail
          refine (writeString_any _ _ _ ⟨(decDigits (f p)).toArray⟩ _ TT.out.bld (TT.out.len hl4) (Nat.le_of_lt TT.out.big)).mono ?_
          rintro e w8 ⟨rfl,hbd,hb8⟩
          have TT:=Lib.hid (TT.out.write (l:=decDigits (f p)) hbd hb8)
          have hnext:sg++decDigits (bval s / G19^(p+1))++List.replicate (19-L) 48++decDigits (f p)=sg++decDigits (bval s / G19^p):=by
           have hgt:0<bval s / G19^(p+1):=by
            refine Nat.lt_of_lt_of_le HQ0.out (Nat.div_le_div_left (Nat.pow_le_pow_right G19_pos (by omega)) (Nat.pow_pos G19_pos))
           have h:=dec_group (bval s) p hgt
           have hfp:bval s / G19^p%G19=f p:=congrFun HF.out p
           rw [hfp,hL] at h
           rw [h]
           simp only [List.append_assoc]
          rw [hnext] at TT
          clear hbd hb8 hnext
          go_wp2_with fail
          go_roundw
          case rel=>exact ⟨p,by omega,rfl,TT⟩
          case measure=>simp [RowKit.intOf]

end Go.Proofs.YtpnokfgplnmjpaaGreatDoor
