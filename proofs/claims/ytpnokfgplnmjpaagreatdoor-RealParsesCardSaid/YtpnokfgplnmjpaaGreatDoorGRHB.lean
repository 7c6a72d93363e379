import Derived.Test.YtpnokfgplnmjpaaGreatDoorGQW
import Derived.Test.YtpnokfgplnmjpaaGreatDoorGRCA
import Derived.Test.YtpnokfgplnmjpaaGreatDoorGQT
import Derived.Test.YtpnokfgplnmjpaaGreatDoorGRCB
set_option linter.unusedSimpArgs false
set_option linter.unusedVariables false

namespace Go.Proofs.YtpnokfgplnmjpaaGreatDoor
open Go.RowKit
attribute [local go_sem ↓] Go.wp_at_zero Go.wp_at_succ

theorem wrap_dig:∀ d:Nat,d<10→IntKind.i64.wrap (IntKind.u8.wrap (48+(d:Int)-48))=(d:Int):=by decide
theorem dg_at {W:World} {g d:Nat} {T:TypeId} (h:W.heap[g]?=some (.cells #[.int .i64 (d:Int)] T (0,0))) (hd:d<256):Dg W .i64 256 (some ⟨g,0,none⟩) 1 d:=by
 refine ⟨by omega,fun _=>⟨g,0,rfl,(Array.getElem?_eq_some_iff.1 h).1,fun j hj=>?_⟩⟩
 obtain rfl:j=0:=by omega
 have h2:d%256=d:=Nat.mod_eq_of_lt hd
 simp [World.cell?,h,D,h2]
theorem tr_at {W:World} {g k:Nat} {T:TypeId} (h:W.heap[g]?=some (.cells #[.int .i64 (k:Int)] T (0,0))) (h0:0<k) (h1:k<256):Tr W (some ⟨g,0,none⟩) 1 1 k :=
 ⟨dg_at h h1,(nd_lit h0 h1).symm,Nat.le_refl _,fun h=>by cases h⟩
theorem dg_nd {W:World} {A:Option Addr} {n V:Nat} (h:Dg W .i64 256 A n V):Dg W .i64 256 A (nd V) V:=by
 have hle:=nd_le h.lt
 refine ⟨nd_lt V,fun h0=>?_⟩
 obtain ⟨g,o,e,hg,hc⟩:=h.rd (by omega)
 exact ⟨g,o,e,hg,fun i hi=>hc i (by omega)⟩
theorem trim_b (A:Option Addr) (n c V:Nat) (w:World) (hn:n≤1000000000) (hc:n≤c) (h:Dg w .i64 256 A n V) :
  Calls Tryz.prog 161 #[.slice A n c] w (RetB w (.slice A (nd V) c)):=by
 refine (rtrim_any A n c V w hn hc h).mono ?_
 rintro e w' ⟨rfl,rfl⟩
 exact ⟨rfl,Below.refl _ _⟩
theorem Sb.row0 {w:World} {A:Option Addr} {n c V:Nat} (h:Tr w A n c V):Sb w [] [(A,n,c,V)] w :=
 ⟨fun _ h => by simp at h, fun _ h => by simp at h, fun _ _ _ _ h => by simp at h, fun r hr => by obtain rfl : r = (A, n, c, V) := by simpa using hr
                                                                                                  exact h,fun _ _ _ h=>by simp at h,Below.refl _ _⟩
theorem nd_val10 {l:List UInt8} (h:∀ b∈l,digit10 b):nd (val10 l)≤l.length:=by
 unfold nd
 exact mag_size_le (Nat.lt_of_lt_of_le (val10_lt l h) (Nat.pow_le_pow_left (by decide) _))

def RetNu (w:World) (l:List UInt8) (e:Ending) (w':World):Prop :=
 ∃ A n c ok,e=.returned (.tuple #[.slice A n c,.bool ok])∧(ok=true↔Dgs l)∧(ok=true→Tr w' A n c (val10 l))∧Below w.heap.size w w'

set_option maxHeartbeats 8000000 in
set_option maxRecDepth 100000 in
theorem rnumber (s:ByteArray) (w:World) (hs:s.size≤5000) :
  Calls Tryz.prog 169 #[.string s] w (RetNu w s.data.toList):=by
 go_enter Tryz.func169,Tryz.ntmps169
 go_wp2
 go_loopg [4,5] s.size (fun k ov iv wr=>∃ (i v:Nat) (A':Option Addr) (n' c':Nat),ov=.slice A' n' c'∧iv=.int .i64 (i:Int)∧Hid (i≤s.size∧s.size≤i+k∧(∀ b∈s.data.toList.take i,digit10 b)∧v=val10 (s.data.toList.take i))∧Tr wr A' n' c' v∧Below w.heap.size w wr)
 case atStart=>exact ⟨0,0,none,0,0,rfl,rfl,⟨Nat.zero_le _,by omega,fun b hb=>by simp at hb,by simp [val10]⟩,tr_nil _,Below.refl _ _⟩
 case round =>
  obtain ⟨i,v,A',n',c',rfl,rfl,HC,hHH⟩:=hrel
  have HH:=Lib.hid hHH
  clear hHH
  by_cases hlt:i<s.size
  · have hkl:i<s.data.toList.length:=hlt
    have hget:∀ h,(s[i]'h).toNat=(s.data.toList[i]'hkl).toNat:=fun h=>rfl
    obtain ⟨b,hb⟩:∃ b,(s.data.toList[i]'hkl)=b:=⟨_,rfl⟩
    have hmem:b∈s.data.toList:=by rw [←hb];exact List.getElem_mem hkl
    rw [hb] at hget
    have HTK:=Lib.hid (List.take_succ_eq_append_getElem hkl)
    have HB:=Lib.hid hb
    have HMEM:=Lib.hid hmem
    obtain ⟨x,hx⟩:∃ x,b.toNat=x:=⟨_,rfl⟩
    rw [hx] at hget
    have HX:=Lib.hid hx
    clear hb hmem hx
    by_cases h1:x<48
    · have HN:=Lib.hid (show ¬Dgs s.data.toList from fun h=>by have:=(h.2 b HMEM.out).1;rw [HX.out] at this;omega)
      go_wp2
      exact bodyPost_ret (v:=.tuple #[.slice none 0 0,.bool false]) (by simp [results,Tryz.results169,go_sem]) rfl ⟨none,0,0,false,rfl,by simp [HN.out],(fun h=>by cases h),HH.out.2⟩
    · by_cases h2:57<x
      · have HN:=Lib.hid (show ¬Dgs s.data.toList from fun h=>by have:=(h.2 b HMEM.out).2;rw [HX.out] at this;omega)
        go_wp2
        exact bodyPost_ret (v:=.tuple #[.slice none 0 0,.bool false]) (by simp [results,Tryz.results169,go_sem]) rfl ⟨none,0,0,false,rfl,by simp [HN.out],(fun h=>by cases h),HH.out.2⟩
      · obtain ⟨d,rfl⟩:∃ d,x=48+d:=⟨x-48,by omega⟩
        have hd:d<10:=by omega
        have hwr:IntKind.i64.wrap (IntKind.u8.wrap (48+(d:Int)-48))=(d:Int):=wrap_dig d hd
        have HD10:=Lib.hid (show d<256 by omega)
        have hn1:nd v≤5000:=by
         have h3:=nd_val10 HC.out.2.2.1
         rw [←HC.out.2.2.2,List.length_take] at h3
         omega
        have HNB:=Lib.hid (show n'≤5000 by have:=HH.out.1.ln;omega)
        have HNT:=Lib.hid (show nd (v*10)≤6000 by have h3:=nd_mul v 10;have h4:=nd_lit (k:=10) (by omega) (by omega);omega)
        have HND:=Lib.hid (show nd d≤1 by unfold nd;exact mag_size_le (by omega))
        have hnx:i+1≤s.size∧s.size≤i+1+(s.size-(i+1))∧(∀ b∈s.data.toList.take (i+1),digit10 b)∧v*10+d=val10 (s.data.toList.take (i+1)):=by
         refine ⟨hlt,by omega,fun c hc=>?_,?_⟩
         · rw [HTK.out,HB.out,List.mem_append] at hc
           rcases hc with hc | hc
           · exact HC.out.2.2.1 c hc
           · obtain rfl:c=b:=by simpa using hc
             exact ⟨by rw [HX.out];omega,by rw [HX.out];omega⟩
         · rw [HTK.out,HB.out,val10_snoc,←HC.out.2.2.2,HX.out]
           omega
        have HNX:=Lib.hid hnx
        have X:=Lib.hid (Sb.row0 HH.out.1)
        clear hnx hn1 HX HTK HB HMEM
        go_upto_region 7 with fail
        refine wp_region_late (S:=fun _=>True) (L:=[]) (by kernel_rfl) ?_
        have X:=Lib.hid X.out.drew
        obtain ⟨V0,hV⟩:=wexi X.out
        rw [←hV] at X ⊢
        clear hV
        refine tk (i:=0) (oi:=⟨some 22,_,_,_,_,_⟩) (v:=_) rfl (by kernel_rfl) (fun _ _ _ h=>h) (trivial) (Or.inl ⟨by rfl,by intro w hSw;(try dsimp only at hSw);(first | (go_simp;done) | (go_simp;with_reducible rfl))⟩) ?_
        try simp only [Act.put,seti,set0,setS]
        refine tk (i:=3) (oi:=⟨some 25,_,_,_,_,_⟩) (v:=_) rfl (by kernel_rfl) (fun _ _ _ h=>h) (trivial) (Or.inl ⟨by rfl,by intro w hSw;(try dsimp only at hSw);(first | (go_simp;done) | (go_simp;with_reducible rfl))⟩) ?_
        try simp only [Act.put,seti,set0,setS]
        refine tk (i:=4) (oi:=⟨some 26,_,_,_,_,_⟩) (v:=_) rfl (by kernel_rfl) (fun _ _ _ h=>h) (trivial) (Or.inl ⟨by rfl,by intro w hSw;(try dsimp only at hSw);(first | (go_simp;done) | (go_simp;with_reducible rfl))⟩) ?_
        try simp only [Act.put,seti,set0,setS]
        refine tk (i:=5) (oi:=⟨some 27,_,_,_,_,_⟩) (v:=_) rfl (by kernel_rfl) (fun _ _ _ h=>h) (trivial) (Or.inl ⟨by rfl,by intro w hSw;(try dsimp only at hSw);(first | (go_simp;done) | (go_simp;with_reducible rfl))⟩) ?_
        try simp only [Act.put,seti,set0,setS]
        refine tk (i:=6) (oi:=⟨some 28,_,_,_,_,_⟩) (v:=_) rfl (by kernel_rfl) (fun _ _ _ h=>h) (trivial) (Or.inl ⟨by rfl,by intro w hSw;(try dsimp only at hSw);(first | (go_simp;done) | (go_simp;with_reducible rfl))⟩) ?_
        try simp only [Act.put,seti,set0,setS]
        refine tk (i:=7) (oi:=⟨some 29,_,_,_,_,_⟩) (v:=_) rfl (by kernel_rfl) (fun _ _ _ h=>h) (trivial) (Or.inl ⟨by rfl,by intro w hSw;(try dsimp only at hSw);(first | (go_simp;done) | (go_simp;with_reducible rfl))⟩) ?_
        try simp only [Act.put,seti,set0,setS]
        refine wpLate_two (i:=1) (j:=8) (o:=⟨some 23,_,_,_,_,_⟩) (o':=⟨some 30,_,_,_,_,_⟩) (by kernel_rfl) rfl rfl (fun K hK=>?_) (fun K hK=>?_)
        · as_aux_lemma =>
          go_simp
          have X:=Lib.hid (X.out.new #[.int .i64 10] 3)
          refine hK.out _ _ (Or.inr (fun _=>trivial)) ?_
          clear hK K
          try simp only [Act.put,seti,set0,setS]
          obtain ⟨V1,hV⟩:=wexi X.out
          rw [←hV] at X ⊢
          clear hV
          refine wpLate_two (i:=2) (j:=8) (o:=⟨some 24,_,_,_,_,_⟩) (o':=⟨some 30,_,_,_,_,_⟩) (by kernel_rfl) rfl rfl (fun K hK=>?_) (fun K hK=>?_)
          go_simp
          (go_at_call 122;refine (rtimes A' (some ⟨V0.heap.size,0,none⟩) n' 1 c' 1 v 10 _ (by have:=HNB.out;omega) (by omega) (X.out.rw (i:=0) rfl).dg (tr_at (k:=10) (X.out.at (i:=0) rfl) (by omega) (by omega)).dg).mono ?_;rintro e u2 ⟨A2,n2,c2,rfl,ht9,hb9,hf9⟩;have X:=Lib.hid (X.out.row hb9 ht9 hf9);clear hb9 ht9 hf9)
          try go_wp2_with fail
          refine hK.out _ _ (Or.inr (fun _=>trivial)) ?_
          clear hK K
          try simp only [Act.put,seti,set0,setS]
          refine wpLate_one (i:=8) (o:=⟨some 30,_,_,_,_,_⟩) (by kernel_rfl) rfl (fun K hK=>?_)
          go_simp
          have X:=Lib.hid (X.out.new #[.int .i64 (d:Int)] 3)
          refine hK.out _ _ (Or.inr (fun _=>trivial)) ?_
          clear hK K
          try simp only [Act.put,seti,set0,setS]
          obtain ⟨V3,hV⟩:=wexi X.out
          rw [←hV] at X ⊢
          clear hV
          refine wpLate_one (i:=9) (o:=⟨some 31,_,_,_,_,_⟩) (by kernel_rfl) rfl (fun K hK=>?_)
          go_simp
          (go_at_call 161;refine (trim_b (some ⟨u2.heap.size,0,none⟩) 1 1 d _ (by omega) (by omega) (dg_at (X.out.at (i:=1) rfl) HD10.out)).mono ?_;rintro e u4 ⟨rfl,hb9⟩;have X:=Lib.hid (X.out.next hb9);clear hb9)
          try go_wp2_with fail
          refine hK.out _ _ (Or.inr (fun _=>trivial)) ?_
          clear hK K
          try simp only [Act.put,seti,set0,setS]
          refine wpLate_one (i:=10) (o:=⟨some 32,_,_,_,_,_⟩) (by kernel_rfl) rfl (fun K hK=>?_)
          go_simp
          (go_at_call 134;refine (rplus _ (some ⟨u2.heap.size,0,none⟩) _ (nd d) _ 1 (v*10) d _ (by have h:=(X.out.rw (i:=1) rfl).ln;have:=HNT.out;omega) (by have:=HND.out;omega) (X.out.rw (i:=1) rfl).dg (dg_nd (dg_at (X.out.at (i:=1) rfl) HD10.out))).mono ?_;rintro e u5 ⟨A5,n5,c5,rfl,ht9,hb9,hf9⟩;have X:=Lib.hid (X.out.row hb9 ht9 hf9);clear hb9 ht9 hf9)
          try go_wp2_with fail
          refine hK.out _ _ (Or.inr (fun _=>trivial)) ?_
          clear hK K
          try simp only [Act.put,seti,set0,setS]
          refine tk (i:=11) (oi:=⟨some 4,_,_,_,_,_⟩) (v:=_) rfl (by kernel_rfl) (fun _ _ _ h=>h) (trivial) (Or.inl ⟨by rfl,by intro w hSw;(try dsimp only at hSw);(first | (go_simp;done) | (go_simp;with_reducible rfl))⟩) ?_
          try simp only [Act.put,seti,set0,setS]
          refine wpLate_done (by kernel_rfl) ?_ _
          go_wp2_with fail
          go_roundg (s.size-(i+1))
          case measure=>have:=HC.out.2.1;omega
          case rel=>exact ⟨i+1,_,_,_,_,rfl,rfl,HNX.out,(X.out.rw (i:=2) rfl),HH.out.2.trans (X.out.bel.mono HH.out.2.size)⟩
          go_simp
          have X:=Lib.hid (X.out.new #[.int .i64 (d:Int)] 3)
          refine hK.out _ _ (Or.inr (fun _=>trivial)) ?_
          clear hK K
          try simp only [Act.put,seti,set0,setS]
          obtain ⟨V6,hV⟩:=wexi X.out
          rw [←hV] at X ⊢
          clear hV
          refine wpLate_one (i:=2) (o:=⟨some 24,_,_,_,_,_⟩) (by kernel_rfl) rfl (fun K hK=>?_)
          go_simp
          (go_at_call 122;refine (rtimes A' (some ⟨V0.heap.size,0,none⟩) n' 1 c' 1 v 10 _ (by have:=HNB.out;omega) (by omega) (X.out.rw (i:=0) rfl).dg (tr_at (k:=10) (X.out.at (i:=0) rfl) (by omega) (by omega)).dg).mono ?_;rintro e u7 ⟨A7,n7,c7,rfl,ht9,hb9,hf9⟩;have X:=Lib.hid (X.out.row hb9 ht9 hf9);clear hb9 ht9 hf9)
          try go_wp2_with fail
          refine hK.out _ _ (Or.inr (fun _=>trivial)) ?_
          clear hK K
          try simp only [Act.put,seti,set0,setS]
          refine wpLate_one (i:=9) (o:=⟨some 31,_,_,_,_,_⟩) (by kernel_rfl) rfl (fun K hK=>?_)
          go_simp
          (go_at_call 161;refine (trim_b (some ⟨V1.heap.size,0,none⟩) 1 1 d _ (by omega) (by omega) (dg_at (X.out.at (i:=1) rfl) HD10.out)).mono ?_;rintro e u8 ⟨rfl,hb9⟩;have X:=Lib.hid (X.out.next hb9);clear hb9)
          try go_wp2_with fail
          refine hK.out _ _ (Or.inr (fun _=>trivial)) ?_
          clear hK K
          try simp only [Act.put,seti,set0,setS]
          refine wpLate_one (i:=10) (o:=⟨some 32,_,_,_,_,_⟩) (by kernel_rfl) rfl (fun K hK=>?_)
          go_simp
          (go_at_call 134;refine (rplus _ (some ⟨V1.heap.size,0,none⟩) _ (nd d) _ 1 (v*10) d _ (by have h:=(X.out.rw (i:=1) rfl).ln;have:=HNT.out;omega) (by have:=HND.out;omega) (X.out.rw (i:=1) rfl).dg (dg_nd (dg_at (X.out.at (i:=1) rfl) HD10.out))).mono ?_;rintro e u9 ⟨A9,n9,c9,rfl,ht9,hb9,hf9⟩;have X:=Lib.hid (X.out.row hb9 ht9 hf9);clear hb9 ht9 hf9)
          try go_wp2_with fail
          refine hK.out _ _ (Or.inr (fun _=>trivial)) ?_
          clear hK K
          try simp only [Act.put,seti,set0,setS]
          refine tk (i:=11) (oi:=⟨some 4,_,_,_,_,_⟩) (v:=_) rfl (by kernel_rfl) (fun _ _ _ h=>h) (trivial) (Or.inl ⟨by rfl,by intro w hSw;(try dsimp only at hSw);(first | (go_simp;done) | (go_simp;with_reducible rfl))⟩) ?_
          try simp only [Act.put,seti,set0,setS]
          refine wpLate_done (by kernel_rfl) ?_ _
          go_wp2_with fail
          go_roundg (s.size-(i+1))
          case measure=>have:=HC.out.2.1;omega
          case rel=>exact ⟨i+1,_,_,_,_,rfl,rfl,HNX.out,(X.out.rw (i:=2) rfl),HH.out.2.trans (X.out.bel.mono HH.out.2.size)⟩
        go_simp
        have X:=Lib.hid (X.out.new #[.int .i64 (d:Int)] 3)
        refine hK.out _ _ (Or.inr (fun _=>trivial)) ?_
        clear hK K
        try simp only [Act.put,seti,set0,setS]
        obtain ⟨V10,hV⟩:=wexi X.out
        rw [←hV] at X ⊢
        clear hV
        refine wpLate_one (i:=1) (o:=⟨some 23,_,_,_,_,_⟩) (by kernel_rfl) rfl (fun K hK=>?_)
        go_simp
        have X:=Lib.hid (X.out.new #[.int .i64 10] 3)
        refine hK.out _ _ (Or.inr (fun _=>trivial)) ?_
        clear hK K
        try simp only [Act.put,seti,set0,setS]
        obtain ⟨V11,hV⟩:=wexi X.out
        rw [←hV] at X ⊢
        clear hV
        refine wpLate_one (i:=2) (o:=⟨some 24,_,_,_,_,_⟩) (by kernel_rfl) rfl (fun K hK=>?_)
        go_simp
        (go_at_call 122;refine (rtimes A' (some ⟨V10.heap.size,0,none⟩) n' 1 c' 1 v 10 _ (by have:=HNB.out;omega) (by omega) (X.out.rw (i:=0) rfl).dg (tr_at (k:=10) (X.out.at (i:=1) rfl) (by omega) (by omega)).dg).mono ?_;rintro e u12 ⟨A12,n12,c12,rfl,ht9,hb9,hf9⟩;have X:=Lib.hid (X.out.row hb9 ht9 hf9);clear hb9 ht9 hf9)
        try go_wp2_with fail
        refine hK.out _ _ (Or.inr (fun _=>trivial)) ?_
        clear hK K
        try simp only [Act.put,seti,set0,setS]
        refine wpLate_one (i:=9) (o:=⟨some 31,_,_,_,_,_⟩) (by kernel_rfl) rfl (fun K hK=>?_)
        go_simp
        (go_at_call 161;refine (trim_b (some ⟨V0.heap.size,0,none⟩) 1 1 d _ (by omega) (by omega) (dg_at (X.out.at (i:=0) rfl) HD10.out)).mono ?_;rintro e u13 ⟨rfl,hb9⟩;have X:=Lib.hid (X.out.next hb9);clear hb9)
        try go_wp2_with fail
        refine hK.out _ _ (Or.inr (fun _=>trivial)) ?_
        clear hK K
        try simp only [Act.put,seti,set0,setS]
        refine wpLate_one (i:=10) (o:=⟨some 32,_,_,_,_,_⟩) (by kernel_rfl) rfl (fun K hK=>?_)
        go_simp
        (go_at_call 134;refine (rplus _ (some ⟨V0.heap.size,0,none⟩) _ (nd d) _ 1 (v*10) d _ (by have h:=(X.out.rw (i:=1) rfl).ln;have:=HNT.out;omega) (by have:=HND.out;omega) (X.out.rw (i:=1) rfl).dg (dg_nd (dg_at (X.out.at (i:=0) rfl) HD10.out))).mono ?_;rintro e u14 ⟨A14,n14,c14,rfl,ht9,hb9,hf9⟩;have X:=Lib.hid (X.out.row hb9 ht9 hf9);clear hb9 ht9 hf9)
        try go_wp2_with fail
        refine hK.out _ _ (Or.inr (fun _=>trivial)) ?_
        clear hK K
        try simp only [Act.put,seti,set0,setS]
        refine tk (i:=11) (oi:=⟨some 4,_,_,_,_,_⟩) (v:=_) rfl (by kernel_rfl) (fun _ _ _ h=>h) (trivial) (Or.inl ⟨by rfl,by intro w hSw;(try dsimp only at hSw);(first | (go_simp;done) | (go_simp;with_reducible rfl))⟩) ?_
        try simp only [Act.put,seti,set0,setS]
        refine wpLate_done (by kernel_rfl) ?_ _
        go_wp2_with fail
        go_roundg (s.size-(i+1))
        case measure=>have:=HC.out.2.1;omega
        case rel=>exact ⟨i+1,_,_,_,_,rfl,rfl,HNX.out,(X.out.rw (i:=2) rfl),HH.out.2.trans (X.out.bel.mono HH.out.2.size)⟩
  · obtain rfl:i=s.size:=by have:=HC.out.1;omega
    have htk:s.data.toList.take s.size=s.data.toList:=List.take_of_length_le (Nat.le_refl _)
    have hc:=HC.out.2.2
    rw [htk] at hc
    by_cases h0:0<s.size
    · have hne : s.data.toList ≠ [] := fun e => by
       have h3:s.data.toList.length=s.size:=rfl
       rw [e] at h3
       simp at h3
       omega
      have HDG:=Lib.hid (show Dgs s.data.toList from ⟨hne,hc.1⟩)
      have HV:=Lib.hid hc.2
      clear hc htk hne
      go_wp2
      exact bodyPost_ret (v:=.tuple #[.slice A' n' c',.bool true]) (by simp [results,Tryz.results169,go_sem]) rfl ⟨A',n',c',true,rfl,by simp [HDG.out],fun _=>by rw [←HV.out];exact HH.out.1,HH.out.2⟩
    · have hne:s.data.toList=[]:=List.length_eq_zero_iff.1 (show s.data.toList.length=0 from by have h3:s.data.toList.length=s.size:=rfl;omega)
      have HDG:=Lib.hid (show ¬Dgs s.data.toList from fun h=>h.1 hne)
      have h0':s.size=0:=by omega
      clear hc htk hne
      go_wp2
      exact bodyPost_ret (v:=.tuple #[.slice A' n' c',.bool false]) (by simp [results,Tryz.results169,go_sem]) rfl ⟨A',n',c',false,rfl,by simp [HDG.out],(fun h=>by cases h),HH.out.2⟩
end Go.Proofs.YtpnokfgplnmjpaaGreatDoor


namespace Go.Proofs.YtpnokfgplnmjpaaGreatDoor
open Go.RowKit
attribute [local go_sem ↓] Go.wp_at_zero Go.wp_at_succ

theorem tail_one (d:List UInt8):(⟨(45 :: d).toArray⟩:ByteArray).extract 1 (⟨(45 :: d).toArray⟩:ByteArray).size=⟨d.toArray⟩:=by
 apply ByteArray.ext
 simp [ByteArray.size]
theorem ext_take (t:ByteArray) (i:Nat):(t.extract 0 i).data.toList=t.data.toList.take i:=by simp
theorem ext_drop (t:ByteArray) (i:Nat):(t.extract i t.size).data.toList=t.data.toList.drop i:=by
 simp
 exact List.take_of_length_le (by rw [List.length_drop];exact Nat.le_refl _)
theorem ext_size (t:ByteArray) (i j:Nat):(t.extract i j).size=min j t.size-i:=by simp
theorem slash_first {p r p' r':List UInt8} (h:p++47 :: r=p'++47 :: r') (hp:∀ b∈p,b≠47) (hp':∀ b∈p',b≠47):p=p'∧r=r':=by
 induction p generalizing p' with
 | nil =>
   cases p' with
   | nil=>simpa using h
   | cons b t =>
     simp only [List.nil_append,List.cons_append,List.cons.injEq] at h
     exact absurd h.1.symm (hp' b (by simp))
 | cons a s ih =>
   cases p' with
   | nil =>
     simp only [List.nil_append,List.cons_append,List.cons.injEq] at h
     exact absurd h.1 (hp a (by simp))
   | cons b t =>
     simp only [List.cons_append,List.cons.injEq] at h
     obtain ⟨h1,h2⟩:=ih h.2 (fun x hx=>hp x (by simp [hx])) (fun x hx=>hp' x (by simp [hx]))
     exact ⟨by rw [h.1,h1],h2⟩
theorem size_list (s:ByteArray):s.data.toList.length=s.size:=rfl

set_option maxHeartbeats 8000000 in
set_option maxRecDepth 100000 in
theorem rParse_in (s:ByteArray) (neg:Bool) (d:List UInt8) (hsd:(neg=true∧s=⟨(45 :: d).toArray⟩)∨(neg=false∧s=⟨d.toArray⟩∧∀ r,d≠45 :: r)) (hs:s.size≤4096) (q:Rat) (e0:Int) (hq:Pq neg d q e0) (w:World) :
  Calls Tryz.prog 118 #[.string s] w (RetPq w q e0):=by
 have X:=Lib.hid ((Sb.start w).new #[.bool false,.string ⟨#[]⟩,.bool false,.string ⟨#[]⟩] 25)
 have X:=Lib.hid (X.out.pick [0] [(w.heap.size,#[.bool false,.string ⟨#[]⟩,.bool false,.string ⟨#[]⟩],25)] [] (by simp) (by decide) (by simp))
 obtain ⟨t,ht⟩:∃ t:ByteArray,⟨d.toArray⟩=t:=⟨_,rfl⟩
 have HSD:=Lib.hid hsd
 have HT:=Lib.hid ht
 have HQ:=Lib.hid hq
 have hns:¬4096<(s.size:Int):=by omega
 have HSZ:=Lib.hid hs
 clear hsd ht hq
 go_enter Tryz.func118,Tryz.ntmps118
 go_upto_region 3 with fail
 go_cut [4] (fun s4 wx=>s4=.bool neg∧Sb w [(w.heap.size,#[.bool false,.string ⟨#[]⟩,.bool false,.string ⟨#[]⟩],25)] [] wx)
 case first =>
  rcases HSD.out with ⟨rfl,rfl⟩ | ⟨rfl,rfl,hno⟩
  · have h0:(0:Int)<((⟨(45 :: d).toArray⟩:ByteArray).size:Int):=by simp [ByteArray.size]
    have h1:0<(⟨(45 :: d).toArray⟩:ByteArray).size:=by omega
    have hget:∀ h,((⟨(45 :: d).toArray⟩:ByteArray)[0]'h).toNat=45:=fun h=>rfl
    go_wp2_with fail
    go_meet
    exact ⟨rfl,X.out⟩
  · cases d with
    | nil =>
      go_wp2_with fail
      go_meet
      exact ⟨rfl,X.out⟩
    | cons b r =>
      have hb:¬b.toNat=45:=fun h=>hno r (by rw [show b=45 from UInt8.toNat_inj.1 h])
      have h0:(0:Int)<((⟨(b :: r).toArray⟩:ByteArray).size:Int):=by simp [ByteArray.size]
      have h1:0<(⟨(b :: r).toArray⟩:ByteArray).size:=by omega
      obtain ⟨x,hx⟩:∃ x,b.toNat=x:=⟨_,rfl⟩
      have hget:∀ h,((⟨(b :: r).toArray⟩:ByteArray)[0]'h).toNat=x:=fun h=>hx
      rw [hx] at hb
      go_wp2_with fail
      go_meet
      exact ⟨congrArg Value.bool (by have h2 : ¬ (x : Int) = 45 := by omega
                                     simpa using h2),X.out⟩
 obtain ⟨rfl,hX⟩:=hcut
 have X:=Lib.hid hX
 clear hX
 go_upto_if 21 with fail
 go_cut [0] (fun s0 wx=>s0=.string t∧Sb w [(w.heap.size,#[.bool false,.string ⟨#[]⟩,.bool false,.string ⟨#[]⟩],25)] [] wx)
 case first =>
  rcases HSD.out with ⟨rfl,rfl⟩ | ⟨rfl,rfl,hno⟩
  · have h1:1≤(⟨(45 :: d).toArray⟩:ByteArray).size:=by simp [ByteArray.size]
    have h0:(1:Int)≤((⟨(45 :: d).toArray⟩:ByteArray).size:Int):=by omega
    go_wp2_with fail
    go_meet
    exact ⟨by rw [←HT.out];exact congrArg Value.string (tail_one d),X.out⟩
  · go_wp2_with fail
    go_meet
    exact ⟨by rw [←HT.out],X.out⟩
 obtain ⟨rfl,hX⟩:=hcut
 have X:=Lib.hid hX
 clear hX
 have hdl:d.length=t.size:=by rw [←HT.out];rfl
 have htd:t.data.toList=d:=by rw [←HT.out]
 have hts:t.size≤4096:=by
  rcases HSD.out with ⟨_,h⟩ | ⟨_,h,_⟩
  · have h1:=HSZ.out
    rw [h] at h1
    simp [ByteArray.size] at h1
    omega
  · have h1:=HSZ.out
    rw [h] at h1
    simp [ByteArray.size] at h1
    omega
 have HTD:=Lib.hid htd
 have HTS:=Lib.hid hts
 clear hdl htd HSD hns HSZ hs
 apply_assumption
 go_wp2
 go_loopg [5] t.size (fun k iv wr=>∃ i:Nat,iv=.int .i64 (i:Int)∧Hid (i≤t.size∧t.size≤i+k∧(∀ b∈t.data.toList.take i,b≠47))∧Hid (Sb w [(w.heap.size,#[.bool false,.string ⟨#[]⟩,.bool false,.string ⟨#[]⟩],25)] [] wr))
 case atStart=>exact ⟨0,rfl,⟨Nat.zero_le _,by omega,fun b hb=>by simp at hb⟩,X.out⟩
 case round =>
  clear X
  obtain ⟨i,rfl,HC,X⟩:=hrel
  by_cases hlt:i<t.size
  · have hkl:i<t.data.toList.length:=hlt
    have hget:∀ h,(t[i]'h).toNat=(t.data.toList[i]'hkl).toNat:=fun h=>rfl
    obtain ⟨b,hb⟩:∃ b,(t.data.toList[i]'hkl)=b:=⟨_,rfl⟩
    rw [hb] at hget
    have HTK:=Lib.hid (List.take_succ_eq_append_getElem hkl)
    have HDR:=Lib.hid (List.drop_eq_getElem_cons hkl)
    have HB:=Lib.hid hb
    obtain ⟨x,hx⟩:∃ x,b.toNat=x:=⟨_,rfl⟩
    rw [hx] at hget
    have HX:=Lib.hid hx
    clear hb hx
    by_cases h47:x=47
    · subst h47
      have HL:=Lib.hid (show t.data.toList=t.data.toList.take i++47 :: t.data.toList.drop (i+1) from by
       have h1:=List.take_append_drop i t.data.toList
       rw [HDR.out,HB.out,show b=47 from UInt8.toNat_inj.1 HX.out] at h1
       exact h1.symm)
      clear HTK HDR HB HX
      go_wp2_with fail
      refine (rnumber (t.extract 0 i) wr (by rw [ext_size];have:=HTS.out;omega)).mono ?_
      rintro e u1 ⟨A1,n1,c1,ok1,rfl,hok1,htr1,hb9⟩
      have X:=Lib.hid (X.out.next hb9)
      have HOK1:=Lib.hid hok1
      have HTR1:=Lib.hid htr1
      clear hb9 hok1 htr1
      have X:=Lib.hid (X.out.next ((Below.refl _ _).alloc (Nat.le_refl _) (.cells #[.int .i64 1] 3)))
      obtain ⟨p,hp⟩:∃ p,t.data.toList.take i=p:=⟨_,rfl⟩
      obtain ⟨r,hr⟩:∃ r,t.data.toList.drop (i+1)=r:=⟨_,rfl⟩
      have HPL:=Lib.hid (show (t.extract 0 i).data.toList=p from by rw [ext_take,hp])
      have HRL:=Lib.hid (show (t.extract (i+1) t.size).data.toList=r from by rw [ext_drop,hr])
      have HDL:=Lib.hid (show d=p++47 :: r from by rw [←HTD.out,←hp,←hr];exact HL.out)
      have HNP:=Lib.hid (show ∀ b∈p,b≠47 from by rw [←hp];exact HC.out.2.2)
      clear hp hr
      rw [HPL.out] at HOK1 HTR1
      cases ok1
      case' false =>
       obtain ⟨x0,x1,x2,x3⟩:=X.out.c4 (i:=0) rfl
       obtain ⟨y0,y1,y2,y3⟩:=X.out.f4 (i:=0) rfl
       have HP:=Lib.hid (HQ.out.one (Pq.bad (fun h=>absurd (h.2 47 (by rw [HDL.out];simp)) (fun h=>absurd h.1 (by decide))) (fun p' r' e hp'=>absurd (HOK1.out.2 (by rw [(slash_first (HDL.out.symm.trans e) HNP.out (fun b hb=>digit_no_slash (hp'.2 b hb))).1];exact hp')) (by decide))))
       go_wp2
       have X:=Lib.hid (X.out.set4 (i:=0) rfl (.bool false) (.string ⟨#[]⟩) (.bool false) (.string ⟨#[]⟩))
       obtain ⟨p0,p1,p2,p3⟩:=X.out.c4 (i:=0) rfl
       exact bodyPost_ret (v:=.tuple #[.agg #[.bool false,.string ⟨#[]⟩,.bool false,.string ⟨#[]⟩],.int .i64 15]) (by simp [results,Tryz.results118,go_sem,p0,p1,p2,p3]) rfl ⟨false,⟨#[]⟩,⟨#[]⟩,by rw [HP.out.2],by rw [HP.out.1];exact rq_zero,X.out.bel⟩
      go_wp2_with fail
      refine (rnumber (t.extract (i+1) t.size) _ (by rw [ext_size];have:=HTS.out;omega)).mono ?_
      rintro e u2 ⟨A2,n2,c2,ok2,rfl,hok2,htr2,hb9⟩
      have X:=Lib.hid (X.out.next hb9)
      have HOK2:=Lib.hid hok2
      have HTR2:=Lib.hid htr2
      rw [HRL.out] at HOK2 HTR2
      have HT1:=Lib.hid (((HTR1.out (by first | rfl | trivial)).alloc (.cells #[.int .i64 1] 3)).below hb9)
      have hpb:n1≤5000:=by
       have h1:=(HTR1.out (by first | rfl | trivial)).ln
       have h2:=nd_val10 (HOK1.out.1 (by first | rfl | trivial)).2
       have h3:=congrArg List.length HPL.out
       rw [size_list,ext_size] at h3
       have:=HTS.out
       omega
      have HPB:=Lib.hid hpb
      clear hb9 hok2 htr2 hpb
      cases ok2
      case' false =>
       obtain ⟨x0,x1,x2,x3⟩:=X.out.c4 (i:=0) rfl
       obtain ⟨y0,y1,y2,y3⟩:=X.out.f4 (i:=0) rfl
       have HP:=Lib.hid (HQ.out.one (Pq.bad (fun h=>absurd (h.2 47 (by rw [HDL.out];simp)) (fun h=>absurd h.1 (by decide))) (fun p' r' e hp' hr'=>absurd (HOK2.out.2 (by rw [(slash_first (HDL.out.symm.trans e) HNP.out (fun b hb=>digit_no_slash (hp'.2 b hb))).2];exact hr')) (by decide))))
       go_wp2
       have X:=Lib.hid (X.out.set4 (i:=0) rfl (.bool false) (.string ⟨#[]⟩) (.bool false) (.string ⟨#[]⟩))
       obtain ⟨p0,p1,p2,p3⟩:=X.out.c4 (i:=0) rfl
       exact bodyPost_ret (v:=.tuple #[.agg #[.bool false,.string ⟨#[]⟩,.bool false,.string ⟨#[]⟩],.int .i64 15]) (by simp [results,Tryz.results118,go_sem,p0,p1,p2,p3]) rfl ⟨false,⟨#[]⟩,⟨#[]⟩,by rw [HP.out.2],by rw [HP.out.1];exact rq_zero,X.out.bel⟩
      have hrb:n2≤5000:=by
       have h1:=(HTR2.out (by first | rfl | trivial)).ln
       have h2:=nd_val10 (HOK2.out.1 (by first | rfl | trivial)).2
       have h3:=congrArg List.length HRL.out
       rw [size_list,ext_size] at h3
       have:=HTS.out
       omega
      have HRB:=Lib.hid hrb
      clear hrb
      by_cases hz:val10 r=0
      · have hn2:n2=0:=by rw [(HTR2.out (by first | rfl | trivial)).ln,hz,nd_zero]
        subst hn2
        obtain ⟨x0,x1,x2,x3⟩:=X.out.c4 (i:=0) rfl
        obtain ⟨y0,y1,y2,y3⟩:=X.out.f4 (i:=0) rfl
        have HP:=Lib.hid (HQ.out.one (Pq.zero p r HDL.out (HOK1.out.1 (by first | rfl | trivial)) (HOK2.out.1 (by first | rfl | trivial)) hz))
        go_wp2
        have X:=Lib.hid (X.out.set4 (i:=0) rfl (.bool false) (.string ⟨#[]⟩) (.bool false) (.string ⟨#[]⟩))
        obtain ⟨p0,p1,p2,p3⟩:=X.out.c4 (i:=0) rfl
        exact bodyPost_ret (v:=.tuple #[.agg #[.bool false,.string ⟨#[]⟩,.bool false,.string ⟨#[]⟩],.int .i64 6]) (by simp [results,Tryz.results118,go_sem,p0,p1,p2,p3]) rfl ⟨false,⟨#[]⟩,⟨#[]⟩,by rw [HP.out.2],by rw [HP.out.1];exact rq_zero,X.out.bel⟩
      · have hn2 : ¬ (n2 : Int) = 0 := by
         have h1:=(HTR2.out (by first | rfl | trivial)).ln
         have h2:=nd_pos (show 0<val10 r by omega)
         omega
        have hn3:((n2:Int)==0)=false:=by simpa using hn2
        go_wp2_with fail
        refine (rcanonical neg A1 A2 n1 n2 c1 c2 (val10 p) (val10 r) _ (by have:=HPB.out;omega) (by have:=HRB.out;omega) HT1.out (HTR2.out (by first | rfl | trivial)) (by omega)).mono ?_
        rintro e u9 ⟨b4,m4,k4,rfl,hq4,hb9⟩
        have X:=Lib.hid (X.out.next hb9)
        have HP:=Lib.hid (HQ.out.one (Pq.frac p r HDL.out (HOK1.out.1 (by first | rfl | trivial)) (HOK2.out.1 (by first | rfl | trivial)) hz))
        have HQ4:=Lib.hid hq4
        clear hb9 hq4
        obtain ⟨x0,x1,x2,x3⟩:=X.out.c4 (i:=0) rfl
        obtain ⟨y0,y1,y2,y3⟩:=X.out.f4 (i:=0) rfl
        go_wp2
        have X:=Lib.hid (X.out.set4 (i:=0) rfl (.bool b4) (.string m4) (.bool false) (.string k4))
        obtain ⟨p0,p1,p2,p3⟩:=X.out.c4 (i:=0) rfl
        exact bodyPost_ret (v:=.tuple #[.agg #[.bool b4,.string m4,.bool false,.string k4],.int .i64 0]) (by simp [results,Tryz.results118,go_sem,p0,p1,p2,p3]) rfl ⟨b4,m4,k4,by rw [HP.out.2],by rw [HP.out.1];rw [Rat.divInt_ofNat];exact HQ4.out,X.out.bel⟩
    · have hxb : ((x : Int) == 47) = false := by
       have h2:¬(x:Int)=47:=by omega
       simpa using h2
      have hx2:¬(x:Int)=47:=by omega
      go_wp2
      go_roundg (t.size-(i+1))
      case measure=>have:=HC.out.2.1;omega
      case rel =>
       refine ⟨i+1,rfl,⟨hlt,by omega,fun c hc=>?_⟩,X.out⟩
       rw [HTK.out,HB.out,List.mem_append] at hc
       rcases hc with hc | hc
       · exact HC.out.2.2 c hc
       · obtain rfl:c=b:=by simpa using hc
         intro e
         rw [e] at HX
         exact h47 HX.out.symm
  · obtain rfl:i=t.size:=by have:=HC.out.1;omega
    have HNS:=Lib.hid (show ∀ b∈d,b≠47 from by
     have h:=HC.out.2.2
     rw [show t.data.toList.take t.size=t.data.toList from List.take_of_length_le (Nat.le_refl _),HTD.out] at h
     exact h)
    go_wp2_with fail
    refine (rnumber t wr (by have:=HTS.out;omega)).mono ?_
    rintro e u1 ⟨A1,n1,c1,ok1,rfl,hok1,htr1,hb9⟩
    have X:=Lib.hid (X.out.next hb9)
    have HOK1:=Lib.hid hok1
    have HTR1:=Lib.hid htr1
    clear hb9 hok1 htr1
    have X:=Lib.hid (X.out.next ((Below.refl _ _).alloc (Nat.le_refl _) (.cells #[.int .i64 1] 3)))
    have HD1:=Lib.hid (show ok1=true↔Dgs d from by rw [←HTD.out];exact HOK1.out)
    cases ok1
    case' false =>
     obtain ⟨x0,x1,x2,x3⟩:=X.out.c4 (i:=0) rfl
     obtain ⟨y0,y1,y2,y3⟩:=X.out.f4 (i:=0) rfl
     have HP:=Lib.hid (HQ.out.one (Pq.bad (fun h=>by have:=HD1.out.2 h;cases this) (fun p r e hp=>absurd rfl (HNS.out 47 (by rw [e];simp)))))
     go_wp2
     have X:=Lib.hid (X.out.set4 (i:=0) rfl (.bool false) (.string ⟨#[]⟩) (.bool false) (.string ⟨#[]⟩))
     obtain ⟨p0,p1,p2,p3⟩:=X.out.c4 (i:=0) rfl
     exact bodyPost_ret (v:=.tuple #[.agg #[.bool false,.string ⟨#[]⟩,.bool false,.string ⟨#[]⟩],.int .i64 15]) (by simp [results,Tryz.results118,go_sem,p0,p1,p2,p3]) rfl ⟨false,⟨#[]⟩,⟨#[]⟩,by rw [HP.out.2],by rw [HP.out.1];exact rq_zero,X.out.bel⟩
    go_wp2_with fail
    refine (rcanonical neg A1 (some ⟨u1.heap.size,0,none⟩) n1 1 c1 1 (val10 t.data.toList) 1 _ (by have h1:=(HTR1.out (by first | rfl | trivial)).ln;have h2:=nd_val10 (HOK1.out.1 (by first | rfl | trivial)).2;have h3:=size_list t;have:=HTS.out;omega) (by omega) ((HTR1.out (by first | rfl | trivial)).alloc _) (tr_lit u1 1 (by omega) (by omega)) (by omega)).mono ?_
    rintro e u9 ⟨b4,m4,k4,rfl,hq4,hb9⟩
    have X:=Lib.hid (X.out.next hb9)
    have HP:=Lib.hid (HQ.out.one (Pq.int (HD1.out.1 (by first | rfl | trivial))))
    have HQ4:=Lib.hid hq4
    clear hb9 hq4
    obtain ⟨x0,x1,x2,x3⟩:=X.out.c4 (i:=0) rfl
    obtain ⟨y0,y1,y2,y3⟩:=X.out.f4 (i:=0) rfl
    go_wp2
    have X:=Lib.hid (X.out.set4 (i:=0) rfl (.bool b4) (.string m4) (.bool false) (.string k4))
    obtain ⟨p0,p1,p2,p3⟩:=X.out.c4 (i:=0) rfl
    exact bodyPost_ret (v:=.tuple #[.agg #[.bool b4,.string m4,.bool false,.string k4],.int .i64 0]) (by simp [results,Tryz.results118,go_sem,p0,p1,p2,p3]) rfl ⟨b4,m4,k4,by rw [HP.out.2],by rw [HP.out.1];have h:=HQ4.out;rw [Rat.mkRat_one,HTD.out] at h;exact h,X.out.bel⟩
end Go.Proofs.YtpnokfgplnmjpaaGreatDoor


namespace Go.Proofs.YtpnokfgplnmjpaaGreatDoor
open Go.RowKit
attribute [local go_sem ↓] Go.wp_at_zero Go.wp_at_succ

def RetF2 (w:World) (b:Bool) (N D:Nat) (e:Ending) (w':World):Prop :=
 ∃ A n c B m d,e=.returned (.agg #[.bool b,.slice A n c,.slice B m d])∧Tr w' A n c N∧Tr w' B m d D∧Below w.heap.size w w'∧(∀ a,A=some a→w.heap.size≤a.block)∧(∀ a,B=some a→w.heap.size≤a.block)

set_option maxHeartbeats 4000000 in
set_option maxRecDepth 100000 in
theorem rof2 {q:Rat} {b:Bool} {m k:ByteArray} (h:Rq q b m k) (hm:m.size≤1000000) (hk:k.size≤1000000) (w:World) :
  Calls Tryz.prog 119 #[.agg #[.bool b,.string m,.bool false,.string k]] w (RetF2 w b q.num.natAbs q.den):=by
 have HB:=Lib.hid h.bval
 have KK:=Lib.hid (Kb.start w #[.bool b,.string m,.bool false,.string k] #[.bool false,.slice none 0 0,.slice none 0 0] 25 110)
 have HD1:=Lib.hid (fun V=>rdigits b m V (by omega))
 have HD2:=Lib.hid (fun V=>rdigits false k V (by omega))
 by_cases hden:q.den=1
 · have hk1:=h.den1 hden
   have hb0:Go.Proofs.YtpnokfgplnmjpaaGreatDoor.bval k=0:=by rw [hk1];rfl
   have HB0:=Lib.hid hb0
   have HDEN:=Lib.hid hden
   clear h hden hk1 hb0
   go_enter Tryz.func119,Tryz.ntmps119
   go_wp2_with fail
   refine (HD2.out _).mono ?_
   rw [HB0.out]
   rintro e w1 ⟨A1,n1,c1,rfl,ht1,hb1,_⟩
   have hn1:n1=0:=by rw [ht1.ln,nd_zero]
   subst hn1
   have K1:=Lib.hid (KK.out.next hb1)
   have K2:=Lib.hid ((K1.out.next ((Below.refl _ _).alloc (Nat.le_refl _) (.cells #[.int .i64 1] 3))).drew)
   have T1:=Lib.hid (tr_one w1)
   clear ht1 hb1
   obtain ⟨p0,p1,p2,p3⟩:=blk4 K2.out.k1
   go_wp2_with fail
   go_region_held3 (fun w'=>w'.cell? ⟨w.heap.size,0,none⟩=some (.bool b)∧w'.cell? ⟨w.heap.size,1,none⟩=some (.string m))
    (first
     | exact ⟨q0,q1⟩
     | exact ⟨p0,p1⟩
     | go_keep)
    (first
     | (go_at_call 112;(with_reducible refine (HD1.out _).mono ?_);rw [HB.out];rintro e w3 ⟨A3,n3,c3,rfl,ht3,hb3,hf3⟩;have K3:=Lib.hid (K2.out.next hb3);have T3:=Lib.hid ht3;have T4:=Lib.hid (T1.out.drew.below hb3);obtain ⟨q0,q1,q2,q3⟩:=blk4 K3.out.k1;obtain ⟨s0,s1,s2,f0,f1,f2⟩:=blk3 K3.out.k2))
   have HF:=Lib.hid hf3
   have HS1:=Lib.hid K1.out.sz
   have HS2:=Lib.hid K2.out.sz
   clear ht3 hb3 hf3
   go_wp2
   refine bodyPost_ret (v:=.agg #[.bool b,.slice A3 n3 c3,.slice (some ⟨w1.heap.size,0,none⟩) 1 1]) (by simp [results,Tryz.results119,go_sem,s0,s1,s2]) rfl ⟨A3,n3,c3,_,1,1,rfl,T3.out.set3 (fun a ha=>?_) _ _ _,?_,below_set3 K3.out.bel (by omega) _ _ _,fun a ha=>by have h1:=HF.out a ha;have h2:=HS2.out;omega,fun a ha=>by injection ha with ha;subst ha;have h1:=HS1.out;show _≤w1.heap.size;omega⟩
   · have h1:=HF.out a ha
     have h2:=HS2.out
     omega
   · rw [HDEN.out]
     exact T4.out.set3 (fun a ha=>by injection ha with ha;subst ha;have:=HS1.out;show w1.heap.size≠_;omega) _ _ _
 · have hb0:Go.Proofs.YtpnokfgplnmjpaaGreatDoor.bval k=q.den:=by rw [h.den2 hden,bval_mag]
   have HB0:=Lib.hid hb0
   have HP:=Lib.hid q.den_pos
   clear h hden hb0
   go_enter Tryz.func119,Tryz.ntmps119
   go_wp2_with fail
   refine (HD2.out _).mono ?_
   rw [HB0.out]
   rintro e w1 ⟨A1,n1,c1,rfl,ht1,hb1,hf1⟩
   have hn1:0<n1:=by rw [ht1.ln];exact nd_pos HP.out
   have hne:((n1:Int)==0)=false:=by simp;omega
   have K1:=Lib.hid (KK.out.next hb1)
   have K2:=Lib.hid (K1.out.drew)
   have T1:=Lib.hid ht1
   have HF1:=Lib.hid hf1
   have HS0:=Lib.hid KK.out.sz
   clear ht1 hb1 hf1
   obtain ⟨p0,p1,p2,p3⟩:=blk4 K2.out.k1
   go_wp2_with fail
   clear hne
   go_region_held3 (fun w'=>w'.cell? ⟨w.heap.size,0,none⟩=some (.bool b)∧w'.cell? ⟨w.heap.size,1,none⟩=some (.string m))
    (first
     | exact ⟨q0,q1⟩
     | exact ⟨p0,p1⟩
     | go_keep)
    (first
     | (go_at_call 112;(with_reducible refine (HD1.out _).mono ?_);rw [HB.out];rintro e w3 ⟨A3,n3,c3,rfl,ht3,hb3,hf3⟩;have K3:=Lib.hid (K2.out.next hb3);have T3:=Lib.hid ht3;have T4:=Lib.hid (T1.out.drew.below hb3);obtain ⟨q0,q1,q2,q3⟩:=blk4 K3.out.k1;obtain ⟨s0,s1,s2,f0,f1,f2⟩:=blk3 K3.out.k2))
   have HF:=Lib.hid hf3
   have HS2:=Lib.hid K2.out.sz
   clear ht3 hb3 hf3
   go_wp2
   refine bodyPost_ret (v:=.agg #[.bool b,.slice A3 n3 c3,.slice A1 n1 c1]) (by simp [results,Tryz.results119,go_sem,s0,s1,s2]) rfl ⟨A3,n3,c3,A1,n1,c1,rfl,T3.out.set3 (fun a ha=>?_) _ _ _,T4.out.set3 (fun a ha=>?_) _ _ _,below_set3 K3.out.bel (by omega) _ _ _,fun a ha=>by have h1:=HF.out a ha;have h2:=HS2.out;omega,fun a ha=>by have h1:=HF1.out a ha;have h2:=HS0.out;omega⟩
   · have h1:=HF.out a ha
     have h2:=HS2.out
     omega
   · have h1:=HF1.out a ha
     have h2:=HS0.out
     omega

set_option maxHeartbeats 1000000 in
set_option maxRecDepth 100000 in
theorem rSign_f {q:Rat} {b:Bool} {m k:ByteArray} (h:Rq q b m k) (w:World):Calls Tryz.prog 28 #[.agg #[.bool b,.string m,.bool false,.string k]] w (RetB w (.int .i64 q.num.sign)):=by
 have HB:=Lib.hid (below_new w (.cells #[.bool b,.string m,.bool false,.string k] 25))
 obtain ⟨e1,e2⟩:=h.mag
 rcases Int.lt_trichotomy q.num 0 with h0 | h0 | h0
 · have hb:b=true:=by rw [e1];exact decide_eq_true h0
   have hne:=toList_ne (l:=[]) (show m≠⟨#[]⟩ from by rw [e2];exact mag_no_nil (by omega))
   have hem:m.toList.isEmpty=false:=by rw [List.isEmpty_eq_false_iff];exact hne
   rw [Int.sign_eq_neg_one_of_neg h0]
   subst hb
   clear h e1 e2 h0
   go_enter Tryz.func28,Tryz.ntmps28
   go_wp2
   go_ret
   exact ⟨rfl,HB.out⟩
 · have hm:m=⟨#[]⟩:=by rw [e2,h0];exact mag_nil
   have hl:m.toList=[]:=by rw [hm,ByteArray.toList_eq]
   have hem:m.toList.isEmpty=true:=by rw [hl];rfl
   rw [h0]
   clear h e1 e2 h0 hm
   go_enter Tryz.func28,Tryz.ntmps28
   go_wp2
   go_ret
   exact ⟨rfl,HB.out⟩
 · have hb:b=false:=by rw [e1];exact decide_eq_false (by omega)
   have hne:=toList_ne (l:=[]) (show m≠⟨#[]⟩ from by rw [e2];exact mag_no_nil (by omega))
   have hem:m.toList.isEmpty=false:=by rw [List.isEmpty_eq_false_iff];exact hne
   rw [Int.sign_eq_one_of_pos h0]
   subst hb
   clear h e1 e2 h0
   go_enter Tryz.func28,Tryz.ntmps28
   go_wp2
   go_ret
   exact ⟨rfl,HB.out⟩

def FracP (b:Bool) (N D:Nat) (v:Value) (w:World):Prop:=∃ A n c B m d,v=.agg #[.bool b,.slice A n c,.slice B m d]∧Tr w A n c N∧Tr w B m d D
theorem fine_frac (b:Bool) (N D:Nat):Fine (.rel (FracP b N D)):=fun _ _ _ ⟨A,n,c,B,m,d,h,ht,hu⟩ hb=>⟨A,n,c,B,m,d,h,ht.below hb,hu.below hb⟩
end Go.Proofs.YtpnokfgplnmjpaaGreatDoor


namespace Go.Proofs.YtpnokfgplnmjpaaGreatDoor
open Go.RowKit
attribute [local go_sem ↓] Go.wp_at_zero Go.wp_at_succ

theorem Rq.turned {q r:Rat} {b1 b2:Bool} {m1 m2 k1 k2:ByteArray} (h:Rq q b1 m1 k1) (g:Rq r b2 m2 k2) (e:r.num.natAbs=q.num.natAbs) (d:r.den=q.den):m2=m1∧k1=k2:=by
 refine ⟨by rw [g.mag.2,h.mag.2,e],?_⟩
 by_cases hd:q.den=1
 · rw [h.den1 hd,g.den1 (d ▸ hd)]
 · rw [h.den2 hd,g.den2 (d ▸ hd),d]

set_option maxHeartbeats 4000000 in
set_option maxRecDepth 100000 in
theorem ratNeg_f {q:Rat} {b b2:Bool} {m k m2 k2:ByteArray} (h:Rq q b m k) (g:Rq (-q) b2 m2 k2) (w:World):Calls Tryz.prog 80 #[.agg #[.bool b,.string m,.bool false,.string k]] w (RetB w (.agg #[.bool b2,.string m2,.bool false,.string k2])):=by
 obtain ⟨-,rfl⟩:=h.turned g (by rw [Rat.neg_num,Int.natAbs_neg]) (Rat.neg_den q)
 have hz:=g.num
 rw [Rat.neg_num] at hz
 have HS:=Lib.hid (fun V=>negate_f h.num hz V)
 have X:=Lib.hid (((Sb.start w).new #[.bool b,.string m,.bool false,.string k] 25).new #[.bool false,.string ⟨#[]⟩,.bool false,.string ⟨#[]⟩] 25)
 have X:=Lib.hid (X.out.pick [0,1] [(w.heap.size,#[.bool b,.string m,.bool false,.string k],25),(w.heap.size+1,#[.bool false,.string ⟨#[]⟩,.bool false,.string ⟨#[]⟩],25)] [] (by simp) (by decide) (by simp))
 clear h g hz
 go_enter Tryz.func80,Tryz.ntmps80
 go_upto_region 1 with fail
 refine wp_region_late (S:=fun w'=>(w'.cell? ⟨w.heap.size,0,none⟩=some (.bool b)∧w'.cell? ⟨w.heap.size,1,none⟩=some (.string m)∧w'.cell? ⟨w.heap.size,2,none⟩=some (.bool false)∧w'.cell? ⟨w.heap.size,3,none⟩=some (.string k))) (L:=[]) (by kernel_rfl) ?_
 have X:=Lib.hid X.out.drew
 obtain ⟨V0,hV⟩:=wexi X.out
 rw [←hV] at X ⊢
 clear hV
 refine tk (i:=0) (oi:=⟨some 3,_,_,_,_,_⟩) (v:=_) rfl (by kernel_rfl) (fun _ _ _ h=>h) (X.out.c4 (i:=0) rfl) (Or.inl ⟨by rfl,by intro w hSw;(try dsimp only at hSw);(first | (go_simp;done) | (go_simp;with_reducible rfl))⟩) ?_
 try simp only [Act.put,seti,set0,setS]
 refine tk (i:=1) (oi:=⟨some 4,_,_,_,_,_⟩) (v:=_) rfl (by kernel_rfl) (fun _ _ _ h=>h) (X.out.c4 (i:=0) rfl) (Or.inl ⟨by rfl,by intro w hSw;(try dsimp only at hSw);(first | (go_simp;done) | (go_simp;with_reducible rfl))⟩) ?_
 try simp only [Act.put,seti,set0,setS]
 refine tk (i:=3) (oi:=⟨some 6,_,_,_,_,_⟩) (v:=_) rfl (by kernel_rfl) (fun _ _ _ h=>h) (X.out.c4 (i:=0) rfl) (Or.inl ⟨by rfl,by intro w hSw;(try dsimp only at hSw);(first | (go_simp;done) | (go_simp;with_reducible rfl))⟩) ?_
 try simp only [Act.put,seti,set0,setS]
 refine tk (i:=4) (oi:=⟨some 7,_,_,_,_,_⟩) (v:=_) rfl (by kernel_rfl) (fun _ _ _ h=>h) (X.out.c4 (i:=0) rfl) (Or.inl ⟨by rfl,by intro w hSw;(try dsimp only at hSw);(first | (go_simp;done) | (go_simp;with_reducible rfl))⟩) ?_
 try simp only [Act.put,seti,set0,setS]
 refine wpLate_one (i:=2) (o:=⟨some 5,_,_,_,_,_⟩) (by kernel_rfl) rfl (fun K hK=>?_)
 go_simp
 (go_at_call 107;refine (HS.out _).mono ?_;rintro e u1 ⟨rfl,hb9⟩;have X:=Lib.hid (X.out.next hb9);clear hb9)
 try go_wp2_with fail
 refine hK.out _ _ (Or.inr (fun _=>X.out.c4 (i:=0) rfl)) ?_
 clear hK K
 try simp only [Act.put,seti,set0,setS]
 refine tk (i:=5) (oi:=⟨some 8,_,_,_,_,_⟩) (v:=_) rfl (by kernel_rfl) (fun _ _ _ h=>h) (X.out.c4 (i:=0) rfl) (Or.inl ⟨by rfl,by intro w hSw;(try dsimp only at hSw);(first | (go_simp;done) | (go_simp;with_reducible rfl))⟩) ?_
 try simp only [Act.put,seti,set0,setS]
 refine wpLate_one (i:=6) (o:=⟨none,_,_,_,_,_⟩) (by kernel_rfl) rfl (fun K hK=>?_)
 obtain ⟨x0,x1,x2,x3⟩:=X.out.c4 (i:=1) rfl
 obtain ⟨y0,y1,y2,y3⟩:=X.out.f4 (i:=1) rfl
 have X:=Lib.hid (X.out.set4 (i:=1) rfl (.bool b2) (.string m2) (.bool false) (.string k))
 go_simp
 refine hK.out _ _ (Or.inr (fun _=>X.out.c4 (i:=0) rfl)) ?_
 clear hK K x0 x1 x2 x3 y0 y1 y2 y3
 try simp only [Act.put,seti,set0,setS]
 obtain ⟨W2,hV⟩:=wexi X.out
 rw [←hV] at X ⊢
 clear hV
 refine wpLate_done (by kernel_rfl) ?_ _
 go_wp2
 obtain ⟨p0,p1,p2,p3⟩:=X.out.c4 (i:=1) rfl
 exact bodyPost_ret (v:=.agg #[.bool b2,.string m2,.bool false,.string k]) (by simp [results,Tryz.results80,go_sem,p0,p1,p2,p3]) rfl ⟨rfl,X.out.bel⟩

end Go.Proofs.YtpnokfgplnmjpaaGreatDoor


namespace Go.Proofs.YtpnokfgplnmjpaaGreatDoor
open Go.RowKit

def cellsAt (W:World) (g:Nat):Nat→List Value→Prop
 | _,[]=>True
 | k,v :: vs=>W.cell? ⟨g,k,none⟩=some v∧W.frozen? ⟨g,k,none⟩=false∧cellsAt W g (k+1) vs
def Facts (W:World):List (Nat×Array Value×TypeId)→Prop
 | []=>True
 | x :: l=>cellsAt W x.1 0 x.2.1.toList∧Facts W l
theorem cellsAt_of {W:World} {g:Nat} {cs:Array Value} {T:TypeId} (h:W.heap[g]?=some (.cells cs T (0,0))):∀ (l:List Value) (k:Nat),(∀ j,l[j]?=cs[k+j]?)→cellsAt W g k l
 | [],_,_=>trivial
 | v :: vs,k,e=>by
   have h0:=e 0
   simp at h0
   refine ⟨by simp [World.cell?,h,←h0],by simp [World.frozen?,h,←h0],cellsAt_of h vs (k+1) fun j=>?_⟩
   have h1:=e (j+1)
   simp at h1
   rw [h1]
   congr 1
   omega
theorem facts_of {W:World}:∀ {l:List (Nat×Array Value×TypeId)},(∀ x∈l,W.heap[x.1]?=some (.cells x.2.1 x.2.2 (0,0)))→Facts W l
 | [],_=>trivial
 | x :: l,h=>⟨cellsAt_of (h x (by simp)) _ 0 (fun j=>by simp),facts_of fun y hy=>h y (by simp [hy])⟩
section
variable {w W:World} {l:List (Nat×Array Value×TypeId)} {rs:List (Option Addr×Nat×Nat×Nat)} {g:Nat} {T:TypeId}
theorem Sb.facts (h:Sb w l rs W):Facts W l:=facts_of h.k
theorem Sb.take (h:Sb w l rs W) (n:Nat):Sb w (l.take n) [] W:=by
 refine ⟨fun x hx=>h.k x (List.mem_of_mem_take hx),fun x hx=>h.lo x (List.mem_of_mem_take hx),fun i j x y hi hj hij=>?_,fun _ h=>by simp at h,fun _ h=>by simp at h,h.bel⟩
 rw [List.getElem?_take] at hi hj
 split at hi
 · split at hj
   · exact h.ne i j x y hi hj hij
   · cases hj
 · cases hi
theorem lexi (_:Sb w l rs W):∃ L,L=l:=⟨_,rfl⟩
theorem Sb.bare (h:Sb w l rs W):Sb w l [] W:=by
 have h1:=h.take l.length
 rw [List.take_length] at h1
 exact h1
theorem Sb.init {l2:List (Nat×Array Value×TypeId)} (h:Sb w (l++l2) rs W):Sb w l [] W:=by
 have h1:=h.take l.length
 rw [List.take_left] at h1
 exact h1
theorem Sb.init2 {l2 l3:List (Nat×Array Value×TypeId)} (h:Sb w ((l++l2)++l3) rs W):Sb w l [] W:=h.init.init
theorem gn {M:World→Prop} (X:Sb w l rs W) (h:∀ V,Sb w l rs V→M V):M W:=h _ X
theorem Sb.plus (h:Sb w l rs W) (cs:Array Value) (T:TypeId):Sb w (l++[(W.heap.size,cs,T)]) rs (W.alloc (.cells cs T)):=h.new cs T
theorem an {M:World→Prop} (X:Sb w l rs W) {cs:Array Value} {T:TypeId} (h:∀ V,Sb w (l++[(W.heap.size,cs,T)]) rs V→M V):M (W.alloc (.cells cs T)):=h _ (X.new cs T)
theorem kx {a':Act} {K C:Act→World→Prop} {c:World→Prop} (hK:Shut (∀ a' w',c w'→C a' w'→K a' w')) (X:Sb w l rs W) (hc:∀ V,Sb w l rs V→c V) (h:∀ V,Sb w l rs V→C a' V):K a' W:=hK.out _ _ (hc _ X) (h _ X)
theorem ka {a':Act} {K C:Act→World→Prop} {c:World→Prop} (hK:Shut (∀ a' w',c w'→C a' w'→K a' w')) (X:Sb w l rs W) {cs:Array Value} {T:TypeId} (hc:∀ V,Sb w (l++[(W.heap.size,cs,T)]) rs V→c V) (h:∀ V,Sb w (l++[(W.heap.size,cs,T)]) rs V→C a' V):K a' (W.alloc (.cells cs T)):=hK.out _ _ (hc _ (X.new cs T)) (h _ (X.new cs T))
theorem new_st2 (X:Sb w l rs W) (i:Nat) {x0 x1:Value} (hl:l[i]?=some (g,#[x0,x1],T)) {y0 y1:Value}:Sb w (l.set i (g,#[y0,y1],T)) rs ((W.setCell ⟨g,0,none⟩ y0).setCell ⟨g,1,none⟩ y1):=X.set2 hl y0 y1
theorem st2 {M:World→Prop} (X:Sb w l rs W) (i:Nat) {x0 x1:Value} (hl:l[i]?=some (g,#[x0,x1],T)) {y0 y1:Value} (h:∀ V,Sb w (l.set i (g,#[y0,y1],T)) rs V→M V):M ((W.setCell ⟨g,0,none⟩ y0).setCell ⟨g,1,none⟩ y1):=h _ (new_st2 X i hl)
end

def pureB:Op→Bool
 | .call _=>false
 | .alloc _=>false
 | .box ..=>false
 | .buildSlice ..=>false
 | .store ..=>false
 | .load ..=>false
 | _=>true
def loadB:Op→Bool
 | .load ..=>true
 | _=>false
def ids:List Nat:=[0,1,2,3,4,5,6,7,8,9,10,11,12,13,14,15,16,17,18,19,20,21,22,23,24,25,26,27,28,29,30,31,32,33,34,35,36,37,38,39,40,41,42,43,44,45,46,47,48,49,50,51,52,53,54,55,56,57,58,59,60,61,62,63,64]
def atB:List Bool→Nat→Bool
 | [],_=>false
 | b :: _,0=>b
 | _ :: bs,n+1=>atB bs n
def backB (ls:List Bool):List Edge→Bool
 | []=>true
 | e :: es=>match Region.binds .any e with
   | false=>backB ls es
   | true=>match atB ls e.on with
     | true=>backB ls es
     | false=>false
def rdyL (ls:List Bool):List Oper→List Bool→List Nat→List Nat
 | o :: os,b :: bs,k :: ks=>match b with
   | true=>rdyL ls os bs ks
   | false=>match backB ls o.after.toList with
     | true=>k :: rdyL ls os bs ks
     | false=>rdyL ls os bs ks
 | _,_,_=>[]
def pkL (p:Oper→Bool) (ls:List Bool):List Oper→List Bool→List Nat→Option Nat
 | o :: os,b :: bs,k :: ks=>match b with
   | true=>pkL p ls os bs ks
   | false=>match p o with
     | false=>pkL p ls os bs ks
     | true=>match backB ls o.after.toList with
       | true=>some k
       | false=>pkL p ls os bs ks
 | _,_,_=>none
def rdy (ops:Array Oper) (listed:Array Bool):List Nat:=rdyL listed.toList ops.toList listed.toList ids
def pkP (ops:Array Oper) (listed:Array Bool):Option Nat:=pkL (fun o=>pureB o.op) listed.toList ops.toList listed.toList ids
def pkL' (ops:Array Oper) (listed:Array Bool):Option Nat:=pkL (fun o=>loadB o.op) listed.toList ops.toList listed.toList ids
def pkG (ops:Array Oper) (listed:Array Bool):Option Nat:=pkL (fun o=>o.guard.isSome) listed.toList ops.toList listed.toList ids
def takeF (md:Region.Mode) (ops:Array Oper) (listed:Array Bool) (i:Nat):Bool :=
 Region.noSelect ops && Region.free md ops listed i && (Region.ready md ops listed).contains i && closedB md ops listed
def stB:List Oper→List Nat→List Nat
 | o :: os,k :: ks=>match o.op with
   | .store ..=>k :: stB os ks
   | _=>stB os ks
 | _,_=>[]
section
variable {P:Program} {ops:Array Oper} {Q:Exit→Act→World→Prop} {md:Region.Mode} {S:World→Prop} {L:List Nat} {i j k:Nat} {oi o o' o'':Oper} {v:Value} {fuel:Nat} {listed:Array Bool} {a:Act} {w:World}
theorem tkN (_hf:pkL' ops listed=some i) (hi:ops[i]?=some oi) (hb:takeB md ops L listed i=true)
 (hQ:∀ c a w,Q (.panic c) (a.put oi.dst v) w→Q (.panic c) a w) (hS:S w) (hy:YieldsIf P ops S oi v a)
 (h:wpLate P md ops Q S L fuel (listed.setIfInBounds i true) (a.put oi.dst v) w):wpLate P md ops Q S L (fuel+1) listed a w:=tk hi hb hQ hS hy h
theorem fits {v:Value} (hb:takeF md ops listed i=true):Region.noSelect ops=true∧Region.free md ops listed i=true∧(Region.ready md ops listed).contains i=true∧closedB md ops listed=true:=by
 simp only [takeF,Bool.and_eq_true] at hb
 exact ⟨hb.1.1.1,hb.1.1.2,hb.1.2,hb.2⟩
theorem tkF (_hf:pkP ops listed=some i) (hi:ops[i]?=some oi) (hb:takeF md ops listed i=true)
  (hQ:∀ c a w,Q (.panic c) (a.put oi.dst v) w→Q (.panic c) a w) (hy:YieldsIf P ops (fun _=>True) oi v a)
  (h:wpLate P md ops Q S L fuel (listed.setIfInBounds i true) (a.put oi.dst v) w):wpLate P md ops Q S L (fuel+1) listed a w:=by
 obtain ⟨h1,h2,h3,h4⟩:=fits (v:=v) hb
 exact wpLate_free hi h1 h2 h3 h4 hQ hy h
theorem tkG (_hf:pkG ops listed=some i) (hi:ops[i]?=some oi) (hb:takeF md ops listed i=true)
  (hQ:∀ c a w,Q (.panic c) (a.put oi.dst undef) w→Q (.panic c) a w) (hy:Region.wanted oi (yielded ops a.tmps)=false)
  (h:wpLate P md ops Q S L fuel (listed.setIfInBounds i true) (a.put oi.dst undef) w):wpLate P md ops Q S L (fuel+1) listed a w:=by
 obtain ⟨h1,h2,h3,h4⟩:=fits (v:=undef) hb
 exact wpLate_free hi h1 h2 h3 h4 hQ (Or.inr ⟨hy,rfl⟩) h
theorem one (_hf:rdy ops listed=[i]) (ho:ops[i]?=some o) (hr:Region.ready md ops listed=[i])
 (h:∀ K':Act→World→Prop,Shut (∀ a' w',(L.contains i=true∨(S w→S w'))→wpLate P md ops Q S L fuel (listed.setIfInBounds i true) a' w'→K' a' w')→if Region.wanted o (yielded ops a.tmps)=true then Oper.wp P o a w K' Q else K' (a.put o.dst undef) w) :
 wpLate P md ops Q S L (fuel+1) listed a w:=wpLate_one hr ho h
theorem two (_hf:rdy ops listed=[i,j]) (ho:ops[i]?=some o) (ho':ops[j]?=some o') (hr:Region.ready md ops listed=[i,j])
 (h:∀ K':Act→World→Prop,Shut (∀ a' w',(L.contains i=true∨(S w→S w'))→wpLate P md ops Q S L fuel (listed.setIfInBounds i true) a' w'→K' a' w')→if Region.wanted o (yielded ops a.tmps)=true then Oper.wp P o a w K' Q else K' (a.put o.dst undef) w)
 (h':∀ K':Act→World→Prop,Shut (∀ a' w',(L.contains j=true∨(S w→S w'))→wpLate P md ops Q S L fuel (listed.setIfInBounds j true) a' w'→K' a' w')→if Region.wanted o' (yielded ops a.tmps)=true then Oper.wp P o' a w K' Q else K' (a.put o'.dst undef) w) :
 wpLate P md ops Q S L (fuel+1) listed a w:=wpLate_two hr ho ho' h h'
theorem three (_hf:rdy ops listed=[i,j,k]) (ho:ops[i]?=some o) (ho':ops[j]?=some o') (ho'':ops[k]?=some o'') (hr:Region.ready md ops listed=[i,j,k])
  (h:∀ K':Act→World→Prop,Shut (∀ a' w',(L.contains i=true∨(S w→S w'))→wpLate P md ops Q S L fuel (listed.setIfInBounds i true) a' w'→K' a' w')→if Region.wanted o (yielded ops a.tmps)=true then Oper.wp P o a w K' Q else K' (a.put o.dst undef) w)
  (h':∀ K':Act→World→Prop,Shut (∀ a' w',(L.contains j=true∨(S w→S w'))→wpLate P md ops Q S L fuel (listed.setIfInBounds j true) a' w'→K' a' w')→if Region.wanted o' (yielded ops a.tmps)=true then Oper.wp P o' a w K' Q else K' (a.put o'.dst undef) w)
  (h'':∀ K':Act→World→Prop,Shut (∀ a' w',(L.contains k=true∨(S w→S w'))→wpLate P md ops Q S L fuel (listed.setIfInBounds k true) a' w'→K' a' w')→if Region.wanted o'' (yielded ops a.tmps)=true then Oper.wp P o'' a w K' Q else K' (a.put o''.dst undef) w) :
  wpLate P md ops Q S L (fuel+1) listed a w:=by
 refine ⟨fun h0=>(by rw [h0] at hr;cases hr),fun m hm=>?_⟩
 rw [hr] at hm
 rcases (by simpa using hm:m=i∨m=j∨m=k) with rfl | rfl | rfl
 · exact wpOp_step ho (fun K' hK=>h K' (fun a w hS hW=>hK a w ⟨hS,hW⟩))
 · exact wpOp_step ho' (fun K' hK=>h' K' (fun a w hS hW=>hK a w ⟨hS,hW⟩))
 · exact wpOp_step ho'' (fun K' hK=>h'' K' (fun a w hS hW=>hK a w ⟨hS,hW⟩))
end
theorem done {P:Program} {ops:Array Oper} {Q:Exit→Act→World→Prop} {md:Region.Mode} {S:World→Prop} {L:List Nat} {listed:Array Bool} {a:Act} {w:World} (_hf:rdy ops listed=[]) (hr:Region.ready md ops listed=[]) (h:Q .normal a w) (n:Nat):wpLate P md ops Q S L n listed a w:=wpLate_done hr h n
end Go.Proofs.YtpnokfgplnmjpaaGreatDoor


namespace Go.Proofs.YtpnokfgplnmjpaaGreatDoor
open Go.RowKit
attribute [local go_sem ↓] Go.wp_at_zero Go.wp_at_succ

set_option maxHeartbeats 16000000 in
set_option maxRecDepth 100000 in
theorem ratDiv_pos {p q r:Rat} {b1 b3:Bool} {m1 m2 m3 k1 k2 k3 k4 mq:ByteArray} (hp:Rq p b1 m1 k1) (hq:Rq q false m2 k2) (hi:Rq r false mq k4) (hr:Rq (p*r) b3 m3 k3) (hmq:mq=mag q.den) (hnum:r.num=q.num.sign*(q.den:Int)) (hden:r.den=q.num.natAbs) (h0:q.num.sign≠0) (s1:m1.size≤10000) (s2:m2.size≤10000) (s3:(mag p.den).size≤10000) (s4:(mag q.den).size≤10000) (w:World) (hE:Env w) :
  Calls Tryz.prog 136 #[.agg #[.bool b1,.string m1,.bool false,.string k1],.agg #[.bool false,.string m2,.bool false,.string k2]] w (RetB w (.tuple #[.agg #[.bool b3,.string m3,.bool false,.string k3],.int .i64 0])):=by
 have HS:=Lib.hid (fun V=>ratSign_f hq V)
 have hD:=fun V (hV:Env V)=>den_f hq V hV
 rw [←hmq] at hD
 have HD:=Lib.hid hD
 have hab:=fun V=>abs_f hq.num (enc_mag q.num.natAbs) V
 have HAB:=Lib.hid hab
 have hcp:=fun V (hV:Env V)=>coprime_f false mq q.num.natAbs V hV
 rw [←hden,←hi.den] at hcp
 rw [hden,←hq.mag.2] at hcp
 have HCP:=Lib.hid hcp
 have HM:=Lib.hid (fun V (hV:Env V)=>ratMul_f hp hi hr s1 (by rw [hmq];exact s4) s3 (by rw [hden,←hq.mag.2];exact s2) V hV)
 have HE:=Lib.hid (fun V (h:Below w.heap.size w V)=>hE.next h)
 rw [←hq.mag.2] at HAB
 generalize q.num.sign=s at *
 generalize hd:r.den=rd at *
 clear hp hq hi hr hmq hnum hden hD hab hcp s1 s2 s3 s4 hE hd
 have X:=Lib.hid ((((Sb.start w).new #[.bool b1,.string m1,.bool false,.string k1] 25).new #[.bool false,.string m2,.bool false,.string k2] 25).new #[.bool false,.string ⟨#[]⟩,.bool false,.string ⟨#[]⟩] 25)
 have X:=Lib.hid (X.out.pick [0,1,2] [(w.heap.size,#[.bool b1,.string m1,.bool false,.string k1],25),(w.heap.size+1,#[.bool false,.string m2,.bool false,.string k2],25),(w.heap.size+1+1,#[.bool false,.string ⟨#[]⟩,.bool false,.string ⟨#[]⟩],25)] [] (by simp) (by decide) (by simp))
 go_enter Tryz.func136,Tryz.ntmps136
 go_upto_region 1 with fail
 obtain ⟨a0,a1,a2,a3⟩:=X.out.c4 (i:=1) rfl
 go_wp2_with fail
 refine (HS.out _).mono ?_
 rintro e u1 ⟨rfl,hb9⟩
 have X:=Lib.hid (X.out.next hb9)
 clear hb9 a0 a1 a2 a3
 go_upto_region 3 with fail
 go_cut [6] (fun s6 wx=>∃ g,s6=.pointer (some ⟨g,0,none⟩)∧Sb w [(w.heap.size,#[.bool b1,.string m1,.bool false,.string k1],25),(w.heap.size+1,#[.bool false,.string m2,.bool false,.string k2],25),(w.heap.size+1+1,#[.bool false,.string ⟨#[]⟩,.bool false,.string ⟨#[]⟩],25),(g,#[.bool false,.string mq],23)] [] wx)
 case first =>
  obtain ⟨a0,a1,a2,a3⟩:=X.out.c4 (i:=1) rfl
  go_wp2_with fail
  refine (HD.out _ (HE.out _ X.out.bel)).mono ?_
  rintro e u2 ⟨rfl,hb9⟩
  have X:=Lib.hid (X.out.next hb9)
  clear hb9 a0 a1 a2 a3
  have X:=Lib.hid (X.out.new #[.bool false,.string mq] 23)
  go_wp2_with fail
  go_meet
  exact ⟨_,rfl,X.out⟩
 obtain ⟨g,rfl,hX⟩:=hcut
 have X:=Lib.hid hX
 clear hX
 obtain ⟨a0,a1,a2,a3⟩:=X.out.c4 (i:=1) rfl
 obtain ⟨c0,c1⟩:=X.out.c2 (i:=3) rfl
 go_upto_region 6 with fail
 clear a0 a1 a2 a3 c0 c1
 refine wp_region_late (S:=fun w'=>(w'.cell? ⟨w.heap.size,0,none⟩=some (.bool b1)∧w'.cell? ⟨w.heap.size,1,none⟩=some (.string m1)∧w'.cell? ⟨w.heap.size,2,none⟩=some (.bool false)∧w'.cell? ⟨w.heap.size,3,none⟩=some (.string k1))∧(w'.cell? ⟨g,0,none⟩=some (.bool false)∧w'.cell? ⟨g,1,none⟩=some (.string mq))∧(w'.cell? ⟨w.heap.size+1,0,none⟩=some (.bool false)∧w'.cell? ⟨w.heap.size+1,1,none⟩=some (.string m2)∧w'.cell? ⟨w.heap.size+1,2,none⟩=some (.bool false)∧w'.cell? ⟨w.heap.size+1,3,none⟩=some (.string k2))) (L:=[]) (by kernel_rfl) ?_
 have X:=Lib.hid X.out.drew
 obtain ⟨V0,hV⟩:=wexi X.out
 rw [←hV] at X ⊢
 clear hV
 refine tk (i:=0) (oi:=⟨some 18,_,_,_,_,_⟩) (v:=_) rfl (by kernel_rfl) (fun _ _ _ h=>h) (⟨X.out.c4 (i:=0) rfl,X.out.c2 (i:=3) rfl,X.out.c4 (i:=1) rfl⟩) (Or.inl ⟨by rfl,by intro w hSw;(try dsimp only at hSw);(first | (go_simp;done) | (go_simp;with_reducible rfl))⟩) ?_
 try simp only [Act.put,seti,set0,setS]
 refine tk (i:=1) (oi:=⟨some 19,_,_,_,_,_⟩) (v:=_) rfl (by kernel_rfl) (fun _ _ _ h=>h) (⟨X.out.c4 (i:=0) rfl,X.out.c2 (i:=3) rfl,X.out.c4 (i:=1) rfl⟩) (Or.inl ⟨by rfl,by intro w hSw;(try dsimp only at hSw);(first | (go_simp;done) | (go_simp;with_reducible rfl))⟩) ?_
 try simp only [Act.put,seti,set0,setS]
 refine tk (i:=2) (oi:=⟨some 20,_,_,_,_,_⟩) (v:=_) rfl (by kernel_rfl) (fun _ _ _ h=>h) (⟨X.out.c4 (i:=0) rfl,X.out.c2 (i:=3) rfl,X.out.c4 (i:=1) rfl⟩) (Or.inl ⟨by rfl,by intro w hSw;(try dsimp only at hSw);(first | (go_simp;done) | (go_simp;with_reducible rfl))⟩) ?_
 try simp only [Act.put,seti,set0,setS]
 refine tk (i:=3) (oi:=⟨some 21,_,_,_,_,_⟩) (v:=_) rfl (by kernel_rfl) (fun _ _ _ h=>h) (⟨X.out.c4 (i:=0) rfl,X.out.c2 (i:=3) rfl,X.out.c4 (i:=1) rfl⟩) (Or.inl ⟨by rfl,by intro w hSw;(try dsimp only at hSw);(first | (go_simp;done) | (go_simp;with_reducible rfl))⟩) ?_
 try simp only [Act.put,seti,set0,setS]
 refine wpLate_one (i:=4) (o:=⟨some 22,_,_,_,_,_⟩) (by kernel_rfl) rfl (fun K hK=>?_)
 go_simp
 (go_at_call 173;refine (HAB.out _).mono ?_;rintro e u1 ⟨rfl,hb9⟩;have X:=Lib.hid (X.out.next hb9);clear hb9)
 try go_wp2_with fail
 refine hK.out _ _ (Or.inr (fun _=>⟨X.out.c4 (i:=0) rfl,X.out.c2 (i:=3) rfl,X.out.c4 (i:=1) rfl⟩)) ?_
 clear hK K
 try simp only [Act.put,seti,set0,setS]
 refine wpLate_one (i:=5) (o:=⟨some 23,_,_,_,_,_⟩) (by kernel_rfl) rfl (fun K hK=>?_)
 go_simp
 (go_at_call 129;refine (HCP.out _ (HE.out _ X.out.bel)).mono ?_;rintro e u2 ⟨rfl,hb9⟩;have X:=Lib.hid (X.out.next hb9);clear hb9)
 try go_wp2_with fail
 refine hK.out _ _ (Or.inr (fun _=>⟨X.out.c4 (i:=0) rfl,X.out.c2 (i:=3) rfl,X.out.c4 (i:=1) rfl⟩)) ?_
 clear hK K
 try simp only [Act.put,seti,set0,setS]
 refine wpLate_one (i:=6) (o:=⟨some 24,_,_,_,_,_⟩) (by kernel_rfl) rfl (fun K hK=>?_)
 go_simp
 (go_at_call 75;refine (HM.out _ (HE.out _ X.out.bel)).mono ?_;rintro e u3 ⟨rfl,hb9⟩;have X:=Lib.hid (X.out.next hb9);clear hb9)
 try go_wp2_with fail
 refine hK.out _ _ (Or.inr (fun _=>⟨X.out.c4 (i:=0) rfl,X.out.c2 (i:=3) rfl,X.out.c4 (i:=1) rfl⟩)) ?_
 clear hK K
 try simp only [Act.put,seti,set0,setS]
 refine wpLate_one (i:=7) (o:=⟨none,_,_,_,_,_⟩) (by kernel_rfl) rfl (fun K hK=>?_)
 obtain ⟨x0,x1,x2,x3⟩:=X.out.c4 (i:=2) rfl
 obtain ⟨y0,y1,y2,y3⟩:=X.out.f4 (i:=2) rfl
 have X:=Lib.hid (X.out.set4 (i:=2) rfl (.bool b3) (.string m3) (.bool false) (.string k3))
 go_simp
 refine hK.out _ _ (Or.inr (fun _=>⟨X.out.c4 (i:=0) rfl,X.out.c2 (i:=3) rfl,X.out.c4 (i:=1) rfl⟩)) ?_
 clear hK K x0 x1 x2 x3 y0 y1 y2 y3
 try simp only [Act.put,seti,set0,setS]
 obtain ⟨W4,hV⟩:=wexi X.out
 rw [←hV] at X ⊢
 clear hV
 refine tk (i:=8) (oi:=⟨some 5,_,_,_,_,_⟩) (v:=_) rfl (by kernel_rfl) (fun _ _ _ h=>h) (⟨X.out.c4 (i:=0) rfl,X.out.c2 (i:=3) rfl,X.out.c4 (i:=1) rfl⟩) (Or.inl ⟨by rfl,by intro w hSw;(try dsimp only at hSw);(first | (go_simp;done) | (go_simp;with_reducible rfl))⟩) ?_
 try simp only [Act.put,seti,set0,setS]
 refine wpLate_done (by kernel_rfl) ?_ _
 go_wp2
 obtain ⟨p0,p1,p2,p3⟩:=X.out.c4 (i:=2) rfl
 exact bodyPost_ret (v:=.tuple #[.agg #[.bool b3,.string m3,.bool false,.string k3],.int .i64 0]) (by simp [results,Tryz.results136,go_sem,p0,p1,p2,p3]) rfl ⟨rfl,X.out.bel⟩

set_option maxHeartbeats 16000000 in
set_option maxRecDepth 100000 in
theorem ratDiv_neg {p q r:Rat} {b1 b3:Bool} {m1 m2 m3 k1 k2 k3 k4 mq:ByteArray} (hp:Rq p b1 m1 k1) (hq:Rq q true m2 k2) (hi:Rq r true mq k4) (hr:Rq (p*r) b3 m3 k3) (hmq:mq=mag q.den) (hnum:r.num=q.num.sign*(q.den:Int)) (hden:r.den=q.num.natAbs) (h0:q.num.sign≠0) (s1:m1.size≤10000) (s2:m2.size≤10000) (s3:(mag p.den).size≤10000) (s4:(mag q.den).size≤10000) (w:World) (hE:Env w) :
  Calls Tryz.prog 136 #[.agg #[.bool b1,.string m1,.bool false,.string k1],.agg #[.bool true,.string m2,.bool false,.string k2]] w (RetB w (.tuple #[.agg #[.bool b3,.string m3,.bool false,.string k3],.int .i64 0])):=by
 have HS:=Lib.hid (fun V=>ratSign_f hq V)
 have hD:=fun V (hV:Env V)=>den_f hq V hV
 rw [←hmq] at hD
 have HD:=Lib.hid hD
 have hab:=fun V=>abs_f hq.num (enc_mag q.num.natAbs) V
 have HAB:=Lib.hid hab
 have hcp:=fun V (hV:Env V)=>coprime_f true mq q.num.natAbs V hV
 rw [←hden,←hi.den] at hcp
 rw [hden,←hq.mag.2] at hcp
 have HCP:=Lib.hid hcp
 have HM:=Lib.hid (fun V (hV:Env V)=>ratMul_f hp hi hr s1 (by rw [hmq];exact s4) s3 (by rw [hden,←hq.mag.2];exact s2) V hV)
 have HE:=Lib.hid (fun V (h:Below w.heap.size w V)=>hE.next h)
 have HN:=Lib.hid (fun V=>negate_f (enc_mag q.den) (show enc (-(q.den:Int))=.agg #[.bool true,.string mq] from by
  have h1:=hi.num
  rw [hnum] at h1
  have h2:q.num.sign=-1:=Int.sign_eq_neg_one_of_neg (of_decide_eq_true hq.mag.1.symm)
  rw [h2,Int.neg_one_mul] at h1
  exact h1) V)
 rw [←hmq] at HN
 rw [←hq.mag.2] at HAB
 generalize q.num.sign=s at *
 generalize hd:r.den=rd at *
 clear hp hq hi hr hmq hnum hden hD hab hcp s1 s2 s3 s4 hE hd
 have X:=Lib.hid ((((Sb.start w).new #[.bool b1,.string m1,.bool false,.string k1] 25).new #[.bool true,.string m2,.bool false,.string k2] 25).new #[.bool false,.string ⟨#[]⟩,.bool false,.string ⟨#[]⟩] 25)
 have X:=Lib.hid (X.out.pick [0,1,2] [(w.heap.size,#[.bool b1,.string m1,.bool false,.string k1],25),(w.heap.size+1,#[.bool true,.string m2,.bool false,.string k2],25),(w.heap.size+1+1,#[.bool false,.string ⟨#[]⟩,.bool false,.string ⟨#[]⟩],25)] [] (by simp) (by decide) (by simp))
 go_enter Tryz.func136,Tryz.ntmps136
 go_upto_region 1 with fail
 obtain ⟨a0,a1,a2,a3⟩:=X.out.c4 (i:=1) rfl
 go_wp2_with fail
 refine (HS.out _).mono ?_
 rintro e u1 ⟨rfl,hb9⟩
 have X:=Lib.hid (X.out.next hb9)
 clear hb9 a0 a1 a2 a3
 go_upto_region 3 with fail
 go_cut [6] (fun s6 wx=>∃ g,s6=.pointer (some ⟨g,0,none⟩)∧Sb w [(w.heap.size,#[.bool b1,.string m1,.bool false,.string k1],25),(w.heap.size+1,#[.bool true,.string m2,.bool false,.string k2],25),(w.heap.size+1+1,#[.bool false,.string ⟨#[]⟩,.bool false,.string ⟨#[]⟩],25),(g,#[.bool false,.string mq],23)] [] wx)
 case first =>
  obtain ⟨a0,a1,a2,a3⟩:=X.out.c4 (i:=1) rfl
  go_wp2_with fail
  refine (HD.out _ (HE.out _ X.out.bel)).mono ?_
  rintro e u2 ⟨rfl,hb9⟩
  have X:=Lib.hid (X.out.next hb9)
  clear hb9 a0 a1 a2 a3
  have X:=Lib.hid (X.out.new #[.bool false,.string mq] 23)
  go_wp2_with fail
  go_meet
  exact ⟨_,rfl,X.out⟩
 obtain ⟨g,rfl,hX⟩:=hcut
 have X:=Lib.hid hX
 clear hX
 obtain ⟨a0,a1,a2,a3⟩:=X.out.c4 (i:=1) rfl
 obtain ⟨c0,c1⟩:=X.out.c2 (i:=3) rfl
 obtain ⟨d0,d1⟩:=X.out.f2 (i:=3) rfl
 go_wp2_with fail
 refine (HN.out _).mono ?_
 rintro e u3 ⟨rfl,hb9⟩
 have X:=Lib.hid (X.out.next hb9)
 clear hb9 a0 a1 a2 a3 c0 c1 d0 d1
 obtain ⟨c0,c1⟩:=X.out.c2 (i:=3) rfl
 obtain ⟨d0,d1⟩:=X.out.f2 (i:=3) rfl
 go_upto_region 6 with fail
 have X:=Lib.hid (X.out.set2 (i:=3) rfl (.bool true) (.string mq))
 clear c0 c1 d0 d1
 refine wp_region_late (S:=fun w'=>(w'.cell? ⟨w.heap.size,0,none⟩=some (.bool b1)∧w'.cell? ⟨w.heap.size,1,none⟩=some (.string m1)∧w'.cell? ⟨w.heap.size,2,none⟩=some (.bool false)∧w'.cell? ⟨w.heap.size,3,none⟩=some (.string k1))∧(w'.cell? ⟨g,0,none⟩=some (.bool true)∧w'.cell? ⟨g,1,none⟩=some (.string mq))∧(w'.cell? ⟨w.heap.size+1,0,none⟩=some (.bool true)∧w'.cell? ⟨w.heap.size+1,1,none⟩=some (.string m2)∧w'.cell? ⟨w.heap.size+1,2,none⟩=some (.bool false)∧w'.cell? ⟨w.heap.size+1,3,none⟩=some (.string k2))) (L:=[]) (by kernel_rfl) ?_
 have X:=Lib.hid X.out.drew
 obtain ⟨V0,hV⟩:=wexi X.out
 rw [←hV] at X ⊢
 clear hV
 refine tk (i:=0) (oi:=⟨some 18,_,_,_,_,_⟩) (v:=_) rfl (by kernel_rfl) (fun _ _ _ h=>h) (⟨X.out.c4 (i:=0) rfl,X.out.c2 (i:=3) rfl,X.out.c4 (i:=1) rfl⟩) (Or.inl ⟨by rfl,by intro w hSw;(try dsimp only at hSw);(first | (go_simp;done) | (go_simp;with_reducible rfl))⟩) ?_
 try simp only [Act.put,seti,set0,setS]
 refine tk (i:=1) (oi:=⟨some 19,_,_,_,_,_⟩) (v:=_) rfl (by kernel_rfl) (fun _ _ _ h=>h) (⟨X.out.c4 (i:=0) rfl,X.out.c2 (i:=3) rfl,X.out.c4 (i:=1) rfl⟩) (Or.inl ⟨by rfl,by intro w hSw;(try dsimp only at hSw);(first | (go_simp;done) | (go_simp;with_reducible rfl))⟩) ?_
 try simp only [Act.put,seti,set0,setS]
 refine tk (i:=2) (oi:=⟨some 20,_,_,_,_,_⟩) (v:=_) rfl (by kernel_rfl) (fun _ _ _ h=>h) (⟨X.out.c4 (i:=0) rfl,X.out.c2 (i:=3) rfl,X.out.c4 (i:=1) rfl⟩) (Or.inl ⟨by rfl,by intro w hSw;(try dsimp only at hSw);(first | (go_simp;done) | (go_simp;with_reducible rfl))⟩) ?_
 try simp only [Act.put,seti,set0,setS]
 refine tk (i:=3) (oi:=⟨some 21,_,_,_,_,_⟩) (v:=_) rfl (by kernel_rfl) (fun _ _ _ h=>h) (⟨X.out.c4 (i:=0) rfl,X.out.c2 (i:=3) rfl,X.out.c4 (i:=1) rfl⟩) (Or.inl ⟨by rfl,by intro w hSw;(try dsimp only at hSw);(first | (go_simp;done) | (go_simp;with_reducible rfl))⟩) ?_
 try simp only [Act.put,seti,set0,setS]
 refine wpLate_one (i:=4) (o:=⟨some 22,_,_,_,_,_⟩) (by kernel_rfl) rfl (fun K hK=>?_)
 go_simp
 (go_at_call 173;refine (HAB.out _).mono ?_;rintro e u1 ⟨rfl,hb9⟩;have X:=Lib.hid (X.out.next hb9);clear hb9)
 try go_wp2_with fail
 refine hK.out _ _ (Or.inr (fun _=>⟨X.out.c4 (i:=0) rfl,X.out.c2 (i:=3) rfl,X.out.c4 (i:=1) rfl⟩)) ?_
 clear hK K
 try simp only [Act.put,seti,set0,setS]
 refine wpLate_one (i:=5) (o:=⟨some 23,_,_,_,_,_⟩) (by kernel_rfl) rfl (fun K hK=>?_)
 go_simp
 (go_at_call 129;refine (HCP.out _ (HE.out _ X.out.bel)).mono ?_;rintro e u2 ⟨rfl,hb9⟩;have X:=Lib.hid (X.out.next hb9);clear hb9)
 try go_wp2_with fail
 refine hK.out _ _ (Or.inr (fun _=>⟨X.out.c4 (i:=0) rfl,X.out.c2 (i:=3) rfl,X.out.c4 (i:=1) rfl⟩)) ?_
 clear hK K
 try simp only [Act.put,seti,set0,setS]
 refine wpLate_one (i:=6) (o:=⟨some 24,_,_,_,_,_⟩) (by kernel_rfl) rfl (fun K hK=>?_)
 go_simp
 (go_at_call 75;refine (HM.out _ (HE.out _ X.out.bel)).mono ?_;rintro e u3 ⟨rfl,hb9⟩;have X:=Lib.hid (X.out.next hb9);clear hb9)
 try go_wp2_with fail
 refine hK.out _ _ (Or.inr (fun _=>⟨X.out.c4 (i:=0) rfl,X.out.c2 (i:=3) rfl,X.out.c4 (i:=1) rfl⟩)) ?_
 clear hK K
 try simp only [Act.put,seti,set0,setS]
 refine wpLate_one (i:=7) (o:=⟨none,_,_,_,_,_⟩) (by kernel_rfl) rfl (fun K hK=>?_)
 obtain ⟨x0,x1,x2,x3⟩:=X.out.c4 (i:=2) rfl
 obtain ⟨y0,y1,y2,y3⟩:=X.out.f4 (i:=2) rfl
 have X:=Lib.hid (X.out.set4 (i:=2) rfl (.bool b3) (.string m3) (.bool false) (.string k3))
 go_simp
 refine hK.out _ _ (Or.inr (fun _=>⟨X.out.c4 (i:=0) rfl,X.out.c2 (i:=3) rfl,X.out.c4 (i:=1) rfl⟩)) ?_
 clear hK K x0 x1 x2 x3 y0 y1 y2 y3
 try simp only [Act.put,seti,set0,setS]
 obtain ⟨W4,hV⟩:=wexi X.out
 rw [←hV] at X ⊢
 clear hV
 refine tk (i:=8) (oi:=⟨some 5,_,_,_,_,_⟩) (v:=_) rfl (by kernel_rfl) (fun _ _ _ h=>h) (⟨X.out.c4 (i:=0) rfl,X.out.c2 (i:=3) rfl,X.out.c4 (i:=1) rfl⟩) (Or.inl ⟨by rfl,by intro w hSw;(try dsimp only at hSw);(first | (go_simp;done) | (go_simp;with_reducible rfl))⟩) ?_
 try simp only [Act.put,seti,set0,setS]
 refine wpLate_done (by kernel_rfl) ?_ _
 go_wp2
 obtain ⟨p0,p1,p2,p3⟩:=X.out.c4 (i:=2) rfl
 exact bodyPost_ret (v:=.tuple #[.agg #[.bool b3,.string m3,.bool false,.string k3],.int .i64 0]) (by simp [results,Tryz.results136,go_sem,p0,p1,p2,p3]) rfl ⟨rfl,X.out.bel⟩

theorem ratDiv_f {p q:Rat} {b1 b2 b3:Bool} {m1 m2 m3 k1 k2 k3:ByteArray} (hp:Rq p b1 m1 k1) (hq:Rq q b2 m2 k2) (hr:Rq (p / q) b3 m3 k3) (h0:q.num≠0) (s1:m1.size≤10000) (s2:m2.size≤10000) (s3:(mag p.den).size≤10000) (s4:(mag q.den).size≤10000) (w:World) (hE:Env w) :
  Calls Tryz.prog 136 #[.agg #[.bool b1,.string m1,.bool false,.string k1],.agg #[.bool b2,.string m2,.bool false,.string k2]] w (RetB w (.tuple #[.agg #[.bool b3,.string m3,.bool false,.string k3],.int .i64 0])):=by
 have hden:(q⁻¹).den=q.num.natAbs:=by rw [Rat.den_inv,if_neg h0]
 have hnum:=Rat.num_inv q
 have hs:q.num.sign≠0:=by rw [ne_eq,Int.sign_eq_zero_iff_zero];exact h0
 rw [Rat.div_def] at hr
 have hb:=hq.mag.1
 rcases Int.lt_or_lt_of_ne h0 with h | h
 · rw [decide_eq_true h] at hb
   subst hb
   have hi:Rq (q⁻¹) true (mag q.den) (dm (q⁻¹).den):=⟨by
    rw [hnum,Int.sign_eq_neg_one_of_neg h,Int.neg_one_mul]
    have:=q.den_pos
    unfold enc
    rw [decide_eq_true (show -(q.den:Int)<0 by omega),Int.natAbs_neg,Int.natAbs_natCast],rfl⟩
   exact ratDiv_neg hp hq hi hr rfl hnum hden hs s1 s2 s3 s4 w hE
 · rw [decide_eq_false (by omega)] at hb
   subst hb
   have hi:Rq (q⁻¹) false (mag q.den) (dm (q⁻¹).den):=⟨by rw [hnum,Int.sign_eq_one_of_pos h,Int.one_mul];exact enc_mag q.den,rfl⟩
   exact ratDiv_pos hp hq hi hr rfl hnum hden hs s1 s2 s3 s4 w hE

end Go.Proofs.YtpnokfgplnmjpaaGreatDoor


namespace Go.Proofs.YtpnokfgplnmjpaaGreatDoor
open Go.RowKit
attribute [local go_sem ↓] Go.wp_at_zero Go.wp_at_succ

set_option maxHeartbeats 16000000 in
set_option maxRecDepth 100000 in
theorem rMul_f {p q:Rat} {b1 b2 b3:Bool} {m1 m2 m3 k1 k2 k3:ByteArray} (hp:Rq p b1 m1 k1) (hq:Rq q b2 m2 k2) (hr:Rq (p*q) b3 m3 k3) (s1:m1.size≤10000) (s2:m2.size≤10000) (s3:(mag p.den).size≤10000) (s4:(mag q.den).size≤10000) (w:World) :
  Calls Tryz.prog 78 #[.agg #[.bool b1,.string m1,.bool false,.string k1],.agg #[.bool b2,.string m2,.bool false,.string k2]] w (RetB w (.agg #[.bool b3,.string m3,.bool false,.string k3])):=by
 have ks:∀ {x:Rat} {b:Bool} {m k:ByteArray},Rq x b m k→(mag x.den).size≤10000→k.size≤10000:=fun {x b m k} h hs=>by
  by_cases hd:x.den=1
  · rw [h.den1 hd];exact Nat.zero_le _
  · rw [h.den2 hd];exact hs
 have HF1:=Lib.hid (fun V=>rof2 hp (by omega) (by have:=ks hp s3;omega) V)
 have HF2:=Lib.hid (fun V=>rof2 hq (by omega) (by have:=ks hq s4;omega) V)
 have n0:nd p.num.natAbs≤10000:=by unfold nd;rw [←hp.mag.2];exact s1
 have n1:nd p.den≤10000:=s3
 have n2:nd q.num.natAbs≤10000:=by unfold nd;rw [←hq.mag.2];exact s2
 have n3:nd q.den≤10000:=s4
 have HN0:=Lib.hid n0
 have HN1:=Lib.hid n1
 have HN2:=Lib.hid n2
 have HN3:=Lib.hid n3
 have n4:=nd_mul p.num.natAbs q.num.natAbs
 have n5:=nd_mul p.den q.den
 have hr':Rq (mkRat (sgn (b1 != b2) (p.num.natAbs*q.num.natAbs)) (p.den*q.den)) b3 m3 k3:=by
  rw [hp.mag.1,hq.mag.1,sgn_mul,←Rat.mul_def']
  exact hr
 have hY:0<p.den*q.den:=Nat.mul_pos p.den_pos q.den_pos
 have hcn:∀ (A B:Option Addr) (n m c d:Nat) (V:World),Tr V A n c (p.num.natAbs*q.num.natAbs)→Tr V B m d (p.den*q.den)→Calls Tryz.prog 123 #[.agg #[.bool (b1 != b2),.slice A n c,.slice B m d]] V (RetB V (.agg #[.bool b3,.string m3,.bool false,.string k3])):=by
  intro A B n m c d V hA hB
  refine (rcanonical (b1 != b2) A B n m c d _ _ V (by have:=hA.ln;omega) (by have:=hB.ln;omega) hA hB hY).mono ?_
  rintro e w3 ⟨b4,m4,k4,rfl,hq4,hb3⟩
  obtain ⟨rfl,rfl,rfl⟩:=hr'.inj hq4
  exact ⟨rfl,hb3⟩
 have HCN:=Lib.hid hcn
 have X:=Lib.hid ((((Sb.start w).new #[.bool b1,.string m1,.bool false,.string k1] 25).new #[.bool b2,.string m2,.bool false,.string k2] 25).new #[.bool false,.string ⟨#[]⟩,.bool false,.string ⟨#[]⟩] 25)
 have X:=Lib.hid (X.out.pick [0,1,2] [(w.heap.size,#[.bool b1,.string m1,.bool false,.string k1],25),(w.heap.size+1,#[.bool b2,.string m2,.bool false,.string k2],25),(w.heap.size+1+1,#[.bool false,.string ⟨#[]⟩,.bool false,.string ⟨#[]⟩],25)] [] (by simp) (by decide) (by simp))
 clear hp hq hr hr' hcn hY n0 n1 n2 n3 n4 n5 s1 s2 s3 s4 ks
 go_enter Tryz.func78,Tryz.ntmps78
 go_upto_region 1 with fail
 go_cut [5,6] (fun s5 s6 wx=>∃ g5 g6 A1 n1 c1 B1 x1 d1 A3 n3 c3 B3 x3 d3,s5=.pointer (some ⟨g5,0,none⟩)∧s6=.pointer (some ⟨g6,0,none⟩)∧Sb w [(w.heap.size+1+1,#[.bool false,.string ⟨#[]⟩,.bool false,.string ⟨#[]⟩],25),(g5,#[.bool b1,.slice A1 n1 c1,.slice B1 x1 d1],110),(g6,#[.bool b2,.slice A3 n3 c3,.slice B3 x3 d3],110)] [(A1,n1,c1,p.num.natAbs),(B1,x1,d1,p.den),(A3,n3,c3,q.num.natAbs),(B3,x3,d3,q.den)] wx)
 case first =>
  refine wp_region_any (by kernel_rfl) ?_
  have X:=Lib.hid X.out.drew
  obtain ⟨W0,hV⟩:=wexi X.out
  rw [show ∀ v:World,{ v with drawn:=v.drawn+1 }=v.drew from fun _=>rfl,←hV]
  rw [←hV] at X
  clear hV
  refine rg_run (ef:=[.val (.agg #[.bool b1,.string m1,.bool false,.string k1]),.rel (FracP b1 p.num.natAbs p.den),.val (.agg #[.bool b2,.string m2,.bool false,.string k2]),.rel (FracP b2 q.num.natAbs q.den),.new #[.bool false,.slice none 0 0,.slice none 0 0] 110,.new #[.bool false,.slice none 0 0,.slice none 0 0] 110]) (ds:=[7,8,9,10,5,6]) (by kernel_rfl) (stays_of (List.forall_mem_cons.2 ⟨trivial,(List.forall_mem_cons.2 ⟨fine_frac _ _ _,(List.forall_mem_cons.2 ⟨trivial,(List.forall_mem_cons.2 ⟨fine_frac _ _ _,(List.forall_mem_cons.2 ⟨trivial,(List.forall_mem_cons.2 ⟨trivial,(fun _ h=>by simp at h)⟩)⟩)⟩)⟩)⟩)⟩)) (by decide) rfl (by intro d hd;simp at hd ⊢;omega) (fun i d o hd ho listed a w1 hR hdep K hK=>?_) 2 (fun a w1 hR=>?_)
  · have X:=Lib.hid (X.out.next hR.bel)
    have HKt:=Lib.hid hK
    have HDp:=Lib.hid hdep
    have sl2:a.tmps.getD 2 undef=.pointer (some ⟨w.heap.size,0,none⟩):=hR.keep 2 (by decide)
    have sl3:a.tmps.getD 3 undef=.pointer (some ⟨w.heap.size+1,0,none⟩):=hR.keep 3 (by decide)
    have HRg:=Lib.hid hR
    clear hK hdep hR
    rcases i with _ | _ | _ | _ | _ | _ | i
    · cases hd
      cases ho
      obtain ⟨x00,x01,x02,x03⟩:=X.out.c4 (i:=0) rfl
      obtain ⟨x10,x11,x12,x13⟩:=X.out.c4 (i:=1) rfl
      go_simp
      exact HKt.out _ _ (Or.inl ⟨rfl,Below.refl _ _⟩)
    · cases hd
      cases ho
      have dd0:a.tmps.getD 7 undef=.agg #[.bool b1,.string m1,.bool false,.string k1]:=HRg.out.val 0 _ (HDp.out 0 (by decide)) rfl
      go_simp
      (go_at_call 119;refine (HF1.out _).mono ?_;rintro e u ⟨A9,n9,c9,B9,m9,d9,rfl,hT9,hU9,hb9,_,_⟩)
      try go_wp2_with fail
      exact HKt.out _ _ (Or.inr (Or.inr ⟨_,rfl,⟨A9,n9,c9,B9,m9,d9,rfl,hT9,hU9⟩,hb9⟩))
    · cases hd
      cases ho
      obtain ⟨x00,x01,x02,x03⟩:=X.out.c4 (i:=0) rfl
      obtain ⟨x10,x11,x12,x13⟩:=X.out.c4 (i:=1) rfl
      go_simp
      exact HKt.out _ _ (Or.inl ⟨rfl,Below.refl _ _⟩)
    · cases hd
      cases ho
      have dd2:a.tmps.getD 9 undef=.agg #[.bool b2,.string m2,.bool false,.string k2]:=HRg.out.val 2 _ (HDp.out 2 (by decide)) rfl
      go_simp
      (go_at_call 119;refine (HF2.out _).mono ?_;rintro e u ⟨A9,n9,c9,B9,m9,d9,rfl,hT9,hU9,hb9,_,_⟩)
      try go_wp2_with fail
      exact HKt.out _ _ (Or.inr (Or.inr ⟨_,rfl,⟨A9,n9,c9,B9,m9,d9,rfl,hT9,hU9⟩,hb9⟩))
    · cases hd
      cases ho
      go_simp
      exact HKt.out _ _ (Or.inr (Or.inl ⟨_,_,rfl,rfl,rfl⟩))
    · cases hd
      cases ho
      go_simp
      exact HKt.out _ _ (Or.inr (Or.inl ⟨_,_,rfl,rfl,rfl⟩))
    · cases hd
  obtain ⟨g4,hg4,lg4,kg4⟩:=hR.new 4 _ _ (by rfl) rfl
  obtain ⟨g5,hg5,lg5,kg5⟩:=hR.new 5 _ _ (by rfl) rfl
  have vv0:a.tmps.getD 7 undef=.agg #[.bool b1,.string m1,.bool false,.string k1]:=hR.val 0 _ (by rfl) rfl
  obtain ⟨A1,n1,c1,B1,m1,d1,vv1,hT1,hU1⟩:=hR.rel 1 _ (by rfl) rfl
  replace vv1:a.tmps.getD 8 undef=.agg #[.bool b1,.slice A1 n1 c1,.slice B1 m1 d1]:=vv1
  have vv2:a.tmps.getD 9 undef=.agg #[.bool b2,.string m2,.bool false,.string k2]:=hR.val 2 _ (by rfl) rfl
  obtain ⟨A3,n3,c3,B3,m3,d3,vv3,hT3,hU3⟩:=hR.rel 3 _ (by rfl) rfl
  replace vv3:a.tmps.getD 10 undef=.agg #[.bool b2,.slice A3 n3 c3,.slice B3 m3 d3]:=vv3
  replace hg4:a.tmps.getD 5 undef=.pointer (some ⟨g4,0,none⟩):=hg4
  replace hg5:a.tmps.getD 6 undef=.pointer (some ⟨g5,0,none⟩):=hg5
  have hne:g4≠g5:=fun e=>hR.ne 4 5 _ _ _ _ g4 (by decide) (by rfl) (by rfl) rfl rfl hg4 (by rw [e];exact hg5)
  have X:=Lib.hid (X.out.add2 hR.bel lg4 kg4 lg5 kg5 hne)
  have X:=Lib.hid (X.out.rows [(A1,n1,c1,p.num.natAbs),(B1,m1,d1,p.den),(A3,n3,c3,q.num.natAbs),(B3,m3,d3,q.den)] (List.forall_mem_cons.2 ⟨hT1,List.forall_mem_cons.2 ⟨hU1,(List.forall_mem_cons.2 ⟨hT3,List.forall_mem_cons.2 ⟨hU3,(fun _ h=>by simp at h)⟩⟩)⟩⟩) (by intro x hx;simp at hx;rcases hx with rfl | rfl | rfl | rfl | rfl<;>(intro j k n;rcases j with _ | _ | _ | _ | _ | j<;>simp)))
  have ha:=hR.act
  simp only [List.foldl_cons,List.foldl_nil,seti,set0,setS,vv0,vv1,vv2,vv3,hg4,hg5] at ha
  subst ha
  clear hR vv0 vv1 vv2 vv3 hg4 lg4 kg4 hg5 lg5 kg5 hne
  refine wpAny_of_late (S:=fun _=>True) (L:=[]) _ _ _ _ ?_
  refine wpLate_one (i:=6) (o:=⟨none,_,_,_,_,_⟩) (by kernel_rfl) rfl (fun K hK=>?_)
  obtain ⟨x0,x1,x2⟩:=X.out.c3 (i:=3) rfl
  obtain ⟨y0,y1,y2⟩:=X.out.f3 (i:=3) rfl
  have X:=Lib.hid (X.out.set3 (i:=3) rfl (.bool b1) (.slice A1 n1 c1) (.slice B1 m1 d1))
  go_simp
  refine hK.out _ _ (Or.inr fun _=>trivial) ?_
  clear hK K x0 x1 x2 y0 y1 y2
  obtain ⟨W6,hV⟩:=wexi X.out
  rw [←hV] at X ⊢
  clear hV
  try simp only [Act.put]
  refine wpLate_one (i:=7) (o:=⟨none,_,_,_,_,_⟩) (by kernel_rfl) rfl (fun K hK=>?_)
  obtain ⟨x0,x1,x2⟩:=X.out.c3 (i:=4) rfl
  obtain ⟨y0,y1,y2⟩:=X.out.f3 (i:=4) rfl
  have X:=Lib.hid (X.out.set3 (i:=4) rfl (.bool b2) (.slice A3 n3 c3) (.slice B3 m3 d3))
  go_simp
  refine hK.out _ _ (Or.inr fun _=>trivial) ?_
  clear hK K x0 x1 x2 y0 y1 y2
  obtain ⟨W7,hV⟩:=wexi X.out
  rw [←hV] at X ⊢
  clear hV
  try simp only [Act.put]
  refine wpLate_done (by kernel_rfl) ?_ _
  go_wp2_with fail
  go_meet
  exact ⟨_,_,_,_,_,_,_,_,_,_,_,_,_,_,rfl,rfl,X.out.pick [2,3,4] _ _ rfl (by decide) (fun _ h=>h)⟩
 obtain ⟨g5,g6,A1,n1,c1,B1,x1,d1,A3,n3,c3,B3,x3,d3,rfl,rfl,hX⟩:=hcut
 have X:=Lib.hid hX
 clear hX
 go_upto_region 2 with fail
 refine wp_region_late (S:=fun w'=>(w'.cell? ⟨g5,0,none⟩=some (.bool b1)∧w'.cell? ⟨g5,1,none⟩=some (.slice A1 n1 c1)∧w'.cell? ⟨g5,2,none⟩=some (.slice B1 x1 d1))∧(w'.cell? ⟨g6,0,none⟩=some (.bool b2)∧w'.cell? ⟨g6,1,none⟩=some (.slice A3 n3 c3)∧w'.cell? ⟨g6,2,none⟩=some (.slice B3 x3 d3))) (L:=[]) (by kernel_rfl) ?_
 have X:=Lib.hid X.out.drew
 obtain ⟨V0,hV⟩:=wexi X.out
 rw [←hV] at X ⊢
 clear hV
 refine tk (i:=0) (oi:=⟨some 11,_,_,_,_,_⟩) (v:=_) rfl (by kernel_rfl) (fun _ _ _ h=>h) (⟨X.out.c3 (i:=1) rfl,X.out.c3 (i:=2) rfl⟩) (Or.inl ⟨by rfl,by intro w hSw;(try dsimp only at hSw);(first | (go_simp;done) | (go_simp;with_reducible rfl))⟩) ?_
 try simp only [Act.put,seti,set0,setS]
 refine tk (i:=1) (oi:=⟨some 12,_,_,_,_,_⟩) (v:=_) rfl (by kernel_rfl) (fun _ _ _ h=>h) (⟨X.out.c3 (i:=1) rfl,X.out.c3 (i:=2) rfl⟩) (Or.inl ⟨by rfl,by intro w hSw;(try dsimp only at hSw);(first | (go_simp;done) | (go_simp;with_reducible rfl))⟩) ?_
 try simp only [Act.put,seti,set0,setS]
 refine tk (i:=2) (oi:=⟨some 13,_,_,_,_,_⟩) (v:=_) rfl (by kernel_rfl) (fun _ _ _ h=>h) (⟨X.out.c3 (i:=1) rfl,X.out.c3 (i:=2) rfl⟩) (Or.inl ⟨by rfl,by intro w hSw;(try dsimp only at hSw);(first | (go_simp;done) | (go_simp;with_reducible rfl))⟩) ?_
 try simp only [Act.put,seti,set0,setS]
 refine tk (i:=3) (oi:=⟨some 14,_,_,_,_,_⟩) (v:=_) rfl (by kernel_rfl) (fun _ _ _ h=>h) (⟨X.out.c3 (i:=1) rfl,X.out.c3 (i:=2) rfl⟩) (Or.inl ⟨by rfl,by intro w hSw;(try dsimp only at hSw);(first | (go_simp;done) | (go_simp;with_reducible rfl))⟩) ?_
 try simp only [Act.put,seti,set0,setS]
 refine tk (i:=4) (oi:=⟨some 15,_,_,_,_,_⟩) (v:=_) rfl (by kernel_rfl) (fun _ _ _ h=>h) (⟨X.out.c3 (i:=1) rfl,X.out.c3 (i:=2) rfl⟩) (Or.inl ⟨by rfl,by intro w hSw;(try dsimp only at hSw);(first | (go_simp;done) | (go_simp;with_reducible rfl))⟩) ?_
 try simp only [Act.put,seti,set0,setS]
 refine tk (i:=5) (oi:=⟨some 16,_,_,_,_,_⟩) (v:=_) rfl (by kernel_rfl) (fun _ _ _ h=>h) (⟨X.out.c3 (i:=1) rfl,X.out.c3 (i:=2) rfl⟩) (Or.inl ⟨by rfl,by intro w hSw;(try dsimp only at hSw);(first | (go_simp;done) | (go_simp;with_reducible rfl))⟩) ?_
 try simp only [Act.put,seti,set0,setS]
 refine tk (i:=6) (oi:=⟨some 17,_,_,_,_,_⟩) (v:=_) rfl (by kernel_rfl) (fun _ _ _ h=>h) (⟨X.out.c3 (i:=1) rfl,X.out.c3 (i:=2) rfl⟩) (Or.inl ⟨by rfl,by intro w hSw;(try dsimp only at hSw);(first | (go_simp;done) | (go_simp;with_reducible rfl))⟩) ?_
 try simp only [Act.put,seti,set0,setS]
 refine tk (i:=7) (oi:=⟨some 18,_,_,_,_,_⟩) (v:=_) rfl (by kernel_rfl) (fun _ _ _ h=>h) (⟨X.out.c3 (i:=1) rfl,X.out.c3 (i:=2) rfl⟩) (Or.inl ⟨by rfl,by intro w hSw;(try dsimp only at hSw);(first | (go_simp;done) | (go_simp;with_reducible rfl))⟩) ?_
 try simp only [Act.put,seti,set0,setS]
 refine tk (i:=8) (oi:=⟨some 19,_,_,_,_,_⟩) (v:=_) rfl (by kernel_rfl) (fun _ _ _ h=>h) (⟨X.out.c3 (i:=1) rfl,X.out.c3 (i:=2) rfl⟩) (Or.inl ⟨by rfl,by intro w hSw;(try dsimp only at hSw);(first | (go_simp;done) | (go_simp;with_reducible rfl))⟩) ?_
 try simp only [Act.put,seti,set0,setS]
 refine tk (i:=10) (oi:=⟨some 21,_,_,_,_,_⟩) (v:=_) rfl (by kernel_rfl) (fun _ _ _ h=>h) (⟨X.out.c3 (i:=1) rfl,X.out.c3 (i:=2) rfl⟩) (Or.inl ⟨by rfl,by intro w hSw;(try dsimp only at hSw);(first | (go_simp;done) | (go_simp;with_reducible rfl))⟩) ?_
 try simp only [Act.put,seti,set0,setS]
 refine tk (i:=11) (oi:=⟨some 22,_,_,_,_,_⟩) (v:=_) rfl (by kernel_rfl) (fun _ _ _ h=>h) (⟨X.out.c3 (i:=1) rfl,X.out.c3 (i:=2) rfl⟩) (Or.inl ⟨by rfl,by intro w hSw;(try dsimp only at hSw);(first | (go_simp;done) | (go_simp;with_reducible rfl))⟩) ?_
 try simp only [Act.put,seti,set0,setS]
 refine tk (i:=12) (oi:=⟨some 23,_,_,_,_,_⟩) (v:=_) rfl (by kernel_rfl) (fun _ _ _ h=>h) (⟨X.out.c3 (i:=1) rfl,X.out.c3 (i:=2) rfl⟩) (Or.inl ⟨by rfl,by intro w hSw;(try dsimp only at hSw);(first | (go_simp;done) | (go_simp;with_reducible rfl))⟩) ?_
 try simp only [Act.put,seti,set0,setS]
 refine tk (i:=13) (oi:=⟨some 24,_,_,_,_,_⟩) (v:=_) rfl (by kernel_rfl) (fun _ _ _ h=>h) (⟨X.out.c3 (i:=1) rfl,X.out.c3 (i:=2) rfl⟩) (Or.inl ⟨by rfl,by intro w hSw;(try dsimp only at hSw);(first | (go_simp;done) | (go_simp;with_reducible rfl))⟩) ?_
 try simp only [Act.put,seti,set0,setS]
 refine wpLate_one (i:=9) (o:=⟨some 20,_,_,_,_,_⟩) (by kernel_rfl) rfl (fun K hK=>?_)
 go_simp
 (go_at_call 122;refine (rtimes _ _ _ _ _ _ _ _ _ (by have h:=(X.out.rw (i:=0) rfl).ln;have h2:=HN0.out;omega) (by have h:=(X.out.rw (i:=2) rfl).ln;have h2:=HN2.out;omega) (X.out.rw (i:=0) rfl).dg (X.out.rw (i:=2) rfl).dg).mono ?_;rintro e u1 ⟨A1,n1,c1,rfl,ht9,hb9,hf9⟩;have X:=Lib.hid (X.out.row hb9 ht9 hf9);clear hb9 ht9 hf9)
 try go_wp2_with fail
 refine hK.out _ _ (Or.inr (fun _=>⟨X.out.c3 (i:=1) rfl,X.out.c3 (i:=2) rfl⟩)) ?_
 clear hK K
 try simp only [Act.put,seti,set0,setS]
 refine wpLate_one (i:=14) (o:=⟨some 25,_,_,_,_,_⟩) (by kernel_rfl) rfl (fun K hK=>?_)
 go_simp
 (go_at_call 122;refine (rtimes _ _ _ _ _ _ _ _ _ (by have h:=(X.out.rw (i:=1) rfl).ln;have h2:=HN1.out;omega) (by have h:=(X.out.rw (i:=3) rfl).ln;have h2:=HN3.out;omega) (X.out.rw (i:=1) rfl).dg (X.out.rw (i:=3) rfl).dg).mono ?_;rintro e u2 ⟨A2,n2,c2,rfl,ht9,hb9,hf9⟩;have X:=Lib.hid (X.out.row hb9 ht9 hf9);clear hb9 ht9 hf9)
 try go_wp2_with fail
 refine hK.out _ _ (Or.inr (fun _=>⟨X.out.c3 (i:=1) rfl,X.out.c3 (i:=2) rfl⟩)) ?_
 clear hK K
 try simp only [Act.put,seti,set0,setS]
 refine tk (i:=15) (oi:=⟨some 26,_,_,_,_,_⟩) (v:=_) rfl (by kernel_rfl) (fun _ _ _ h=>h) (⟨X.out.c3 (i:=1) rfl,X.out.c3 (i:=2) rfl⟩) (Or.inl ⟨by rfl,by intro w hSw;(try dsimp only at hSw);(first | (go_simp;done) | (go_simp;with_reducible rfl))⟩) ?_
 try simp only [Act.put,seti,set0,setS]
 refine wpLate_one (i:=16) (o:=⟨some 27,_,_,_,_,_⟩) (by kernel_rfl) rfl (fun K hK=>?_)
 go_simp
 (go_at_call 123;refine (HCN.out _ _ _ _ _ _ _ (X.out.rw (i:=4) rfl) (X.out.rw (i:=5) rfl)).mono ?_;rintro e u3 ⟨rfl,hb9⟩;have X:=Lib.hid (X.out.next hb9);clear hb9)
 try go_wp2_with fail
 refine hK.out _ _ (Or.inr (fun _=>⟨X.out.c3 (i:=1) rfl,X.out.c3 (i:=2) rfl⟩)) ?_
 clear hK K
 try simp only [Act.put,seti,set0,setS]
 refine wpLate_one (i:=17) (o:=⟨none,_,_,_,_,_⟩) (by kernel_rfl) rfl (fun K hK=>?_)
 obtain ⟨x0,x1,x2,x3⟩:=X.out.c4 (i:=0) rfl
 obtain ⟨y0,y1,y2,y3⟩:=X.out.f4 (i:=0) rfl
 have X:=Lib.hid (X.out.set4 (i:=0) rfl (.bool b3) (.string m3) (.bool false) (.string k3))
 go_simp
 refine hK.out _ _ (Or.inr (fun _=>⟨X.out.c3 (i:=1) rfl,X.out.c3 (i:=2) rfl⟩)) ?_
 clear hK K x0 x1 x2 x3 y0 y1 y2 y3
 try simp only [Act.put,seti,set0,setS]
 obtain ⟨W4,hV⟩:=wexi X.out
 rw [←hV] at X ⊢
 clear hV
 refine wpLate_done (by kernel_rfl) ?_ _
 go_wp2
 obtain ⟨p0,p1,p2,p3⟩:=X.out.c4 (i:=0) rfl
 exact bodyPost_ret (v:=.agg #[.bool b3,.string m3,.bool false,.string k3]) (by simp [results,Tryz.results78,go_sem,p0,p1,p2,p3]) rfl ⟨rfl,X.out.bel⟩

end Go.Proofs.YtpnokfgplnmjpaaGreatDoor


namespace Go.Proofs.YtpnokfgplnmjpaaGreatDoor
open Go.RowKit
attribute [local go_sem ↓] Go.wp_at_zero Go.wp_at_succ
attribute [local go_sem] undef yielded

set_option maxHeartbeats 1000000 in
set_option maxRecDepth 100000 in
theorem num_any (b:Bool) (m:ByteArray) (c:Bool) (k:ByteArray) (w:World):Calls Tryz.prog 96 #[.agg #[.bool b,.string m,.bool c,.string k]] w (RetB w (.agg #[.bool b,.string m])):=by
 have KK:=Lib.hid (Kb.start w #[.bool b,.string m,.bool c,.string k] #[.bool false,.string ⟨#[]⟩] 25 23)
 obtain ⟨p0,p1,p2,p3⟩:=blk4 KK.out.k1
 obtain ⟨t0,t1,f0,f1⟩:=blk_cells KK.out.k2
 go_enter Tryz.func96,Tryz.ntmps96
 go_wp2
 exact bodyPost_ret (v:=.agg #[.bool b,.string m]) (by simp [results,Tryz.results96,go_sem,t0,t1]) rfl ⟨rfl,(Kb.start w _ _ _ _).bel⟩

end Go.Proofs.YtpnokfgplnmjpaaGreatDoor


namespace Go.Proofs.YtpnokfgplnmjpaaGreatDoor
open Go.RowKit
attribute [local go_sem ↓] Go.wp_at_zero Go.wp_at_succ

end Go.Proofs.YtpnokfgplnmjpaaGreatDoor


namespace Go.Proofs.YtpnokfgplnmjpaaGreatDoor
open Go.RowKit
attribute [local go_sem ↓] Go.wp_at_zero Go.wp_at_succ

theorem Sz.quo {n m:Nat} {p q:Rat} (hp:Sz n p) (hq:Sz m q) (h0:¬q.num=0):Sz (n+m) (p / q):=by
 rw [Rat.div_def]
 refine hp.mul ?_
 have h1:q⁻¹.den=q.num.natAbs:=by rw [Rat.den_inv,if_neg h0]
 have h2:=Rat.num_inv q
 unfold Sz
 rw [h1,h2,Int.natAbs_mul,Int.natAbs_natCast,Int.natAbs_sign_of_ne_zero h0,Nat.one_mul]
 exact ⟨hq.2,hq.1⟩
end Go.Proofs.YtpnokfgplnmjpaaGreatDoor
