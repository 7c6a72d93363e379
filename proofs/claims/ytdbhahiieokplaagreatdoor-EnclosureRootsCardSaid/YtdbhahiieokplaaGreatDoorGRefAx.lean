import Derived.Test.YtdbhahiieokplaaGreatDoorGSgQ
import Derived.Test.YtdbhahiieokplaaGreatDoorGSgH
import Derived.Test.YtdbhahiieokplaaGreatDoorChecked
import Derived.WalkKit
import Derived.WalkSpells
import Derived.WalkLawsBesides
import Derived.Lib.Hide
import Derived.Deep.QuietTactic
import Derived.Deep.OwnRows
set_option linter.unusedSimpArgs false
set_option linter.unusedVariables false

namespace Go.Proofs.YtdbhahiieokplaaGreatDoor
open Go.RowKit

section
variable {w w':World} {K:IntKind} {A:Option Addr} {n:Nat} {f g:Nat→Nat}

end

theorem Rd.of_own {w:World} {base:Nat} {E:TypeId} {K:IntKind} {v:Value} {n:Nat} {f:Nat→Nat} (h:w.ownsRow base E 1 v n (nums K f n)) :
  ∃ A c,v=.slice A n c∧Rd w K A n f:=by
 rcases h.2 with ⟨rfl,rfl⟩ | ⟨g,cap,cur,rfl,hb,hg,_,_,_,ht⟩
 · exact ⟨none,0,rfl,Rd.nil _ _ _ _⟩
 · refine ⟨_,cap,rfl,fun _=>⟨g,0,rfl,(Array.getElem?_eq_some_iff.1 hg).1,fun i hi=>?_⟩⟩
   rw [Nat.zero_add,cell_of_row w g i cur E (0,0) hg]
   have:=nums_get K f n i hi
   rw [←ht,List.getElem?_take] at this
   split at this
   · simpa using this
   · cases this

def RetG (w:World) (K:IntKind) (b V N:Nat) (e:Ending) (w':World):Prop:=∃ A n c,n≤N∧e=.returned (.slice A n c)∧Dg w' K b A n V∧Below w.heap.size w w'

end Go.Proofs.YtdbhahiieokplaaGreatDoor


namespace Go.Proofs.YtdbhahiieokplaaGreatDoor
open Go.RowKit

theorem own_mono {w:World} {base base':Nat} {e:TypeId} {size:Nat} {v:Value} {n:Nat} {xs:List Value} (h:w.ownsRow base e size v n xs) (hb:base'≤base):w.ownsRow base' e size v n xs:=by
 refine ⟨h.1,?_⟩
 rcases h.2 with h2 | ⟨g,cap,cur,hv,hg,r⟩
 · exact Or.inl h2
 · exact Or.inr ⟨g,cap,cur,hv,by omega,r⟩

set_option maxHeartbeats 400000 in
set_option maxRecDepth 100000 in
theorem digits_own (neg:Bool) (s:ByteArray) (w:World) (hs:s.size≤1099511627776) :
  Calls Tryz.prog 156 #[.agg #[.bool neg,.string s]] w fun e w'=>∃ v,e=.returned v∧w'.ownsRow w.heap.size 3 1 v s.size (nums .i64 (dig s) s.size)∧Below w.heap.size w w':=by
 obtain ⟨i0,hi,hz0,hz1,hz2⟩:=info_parts intTy_info
 go_enter Tryz.func156,Tryz.ntmps156
 go_wp2
 go_loopw [3,4] (fun v i wr=>∃ k:Nat,k≤s.size∧i=.int .i64 ((s.size:Int)-1-k)∧wr.ownsRow (w.heap.size+1) 3 1 v k (nums .i64 (dig s) k) ∧
   wr.cell? ⟨w.heap.size,1,none⟩=some (.string s)∧Below w.heap.size w wr∧w.heap.size+1≤wr.heap.size)
  (fun _ i _=>(intOf i+1).toNat)
 case atStart=>exact ⟨0,Nat.zero_le _,by simp,World.ownsRow_nil _ _ _ _,by simp,(Below.refl _ _).alloc (Nat.le_refl _) _,by simp⟩
 case round =>
  obtain ⟨k,hk,rfl,hown,hcell,hnx,hsz⟩:=hrel
  by_cases hlt:k<s.size
  · have hx:(s[s.size-1-k]'(by omega)).toNat=dig s k:=by unfold dig;rw [dif_pos hlt]
    have hd:=dig_lt s k
    go_wp2_with (at_builtin;refine wpList_append_own _ rfl _ _ 98 rfl (w.heap.size+1) 3 i0 (.int .i64 0) 1 8 Tryz.underlying98 hi hz0 hz1 hz2 rfl (by decide) _ _ _ rfl (hown.alloc _) ⟨wr.heap.size,0,none⟩ 1 1 [.int .i64 (dig s k:Int)] rfl rfl ?c1 ?c2 ?c3 ?c4 ?c5 ?_)
    case c1 =>
     intro j u hj
     match j,hj with
     | 0,hj=>simp at hj;subst hj;simp [Addr.add]
    case c2=>intro u hu;simp at hu;subst hu;rfl
    case c3=>unfold maxLen;omega
    case c4=>omega
    case c5=>simp;omega
    intro v' w1 hown' hgrow _
    have hown2:w1.ownsRow (w.heap.size+1) 3 1 v' (k+1) (nums .i64 (dig s) (k+1)):=by rw [nums_succ];exact hown'
    have hb1:Below (w.heap.size+1) wr w1:=((Below.refl _ _).alloc hsz _).grown hgrow (by simp;omega) (fun g hg=>((hown.lt) g hg).1)
    have hcell1:w1.cell? ⟨w.heap.size,1,none⟩=some (.string s):=(hb1.cell (p:=⟨w.heap.size,1,none⟩) (by simp)).trans hcell
    have hsz1:=hb1.size
    clear hgrow hown' hown hcell
    go_wp2
    go_roundw
    case rel=>exact ⟨k+1,by omega,by go_num,hown2,hcell1,hnx.trans (hb1.mono (by omega)),by omega⟩
    case measure=>simp [intOf];omega
  · obtain rfl:k=s.size:=by omega
    go_wp2
    go_ret
    exact ⟨_,rfl,own_mono hown (by omega),hnx⟩

theorem digits_any (neg:Bool) (s:ByteArray) (w:World) (hs:s.size≤1099511627776) :
  Calls Tryz.prog 156 #[.agg #[.bool neg,.string s]] w (RetG w .i64 256 (bval s) s.size) :=
 (digits_own neg s w hs).mono fun _ _ ⟨_,he,hown,hb⟩=>by
  obtain ⟨A,c,rfl,hr⟩:=Rd.of_own hown
  exact ⟨A,_,c,Nat.le_refl _,he,⟨bval_lt s,hr.congr fun i _=>dig_eq s i⟩,hb⟩

theorem top_of (f:Nat→Nat) (n:Nat):∃ k,k≤n∧(∀ i,k≤i→i<n→f i=0)∧(0<k→f (k-1)≠0):=by
 induction n with
 | zero=>exact ⟨0,Nat.le_refl _,fun i h1 h2=>by omega,fun h=>by omega⟩
 | succ n ih =>
   by_cases e:f n=0
   · obtain ⟨k,h1,h2,h3⟩:=ih
     refine ⟨k,by omega,fun i h4 h5=>?_,h3⟩
     by_cases ei:i=n
     · rw [ei,e]
     · exact h2 i h4 (by omega)
   · exact ⟨n+1,Nat.le_refl _,fun i h1 h2=>by omega,fun _=>e⟩

set_option maxHeartbeats 1000000 in
set_option maxRecDepth 100000 in
theorem number_own (neg:Bool) (A:Option Addr) (n c:Nat) (f:Nat→Nat) (w:World) (hn:n≤1099511627776) (hf:∀ i,i<n→f i<256) (hr:Rd w .i64 A n f) :
  Calls Tryz.prog 111 #[.bool neg,.slice A n c] w (RetZ w (sgn neg (val 256 f n))):=by
 obtain ⟨k0,hk0,hz,ht⟩:=top_of f n
 have HV:=Lib.hid (number_value (neg:=neg) hf hk0 hz ht)
 have HZ:=Lib.hid hz
 have HT:=Lib.hid ht
 have HF:=Lib.hid hf
 clear hz ht hf
 have HR:=Lib.hid hr
 clear hr
 go_enter Tryz.func111,Tryz.ntmps111
 go_wp2
 go_loop [5] (fun i=>∃ k:Nat,k≤n∧k0≤k∧i=.int .i64 k) (fun i=>(intOf i).toNat)
 case atStart=>exact ⟨n,Nat.le_refl _,hk0,rfl⟩
 case round =>
  obtain ⟨k,hk,hkk,rfl⟩:=hrel
  by_cases h0:k0<k
  · have hr:=HR.out
    obtain ⟨g,o,rfl,hg,hcell⟩:=hr (by omega)
    have hc1:w.cell? ⟨g,o+(k-1),none⟩=some (.int .i64 0):=by rw [hcell (k-1) (by omega),HZ.out (k-1) (by omega) (by omega)];rfl
    clear hcell hr
    go_wp2
    go_round
    case rel=>exact ⟨k-1,by omega,by omega,by go_num⟩
    case measure=>simp [intOf];omega
  · obtain rfl:k=k0:=by omega
    have hmk:=fun W=>run_make_row' (P:=Tryz.prog) 159 5 (.int .u8 0) 1 Tryz.underlying159 byteTy_info rfl .i64 .i64 k (by omega) (by omega) W
    by_cases h1:0<k
    · have hr:=HR.out
      obtain ⟨g,o,rfl,hg,hcell⟩:=hr (by omega)
      have hc1:w.cell? ⟨g,o+(k-1),none⟩=some (.int .i64 (f (k-1):Int)):=hcell (k-1) (by omega)
      have hne:((f (k-1):Int)==0)=false:=by have:=HT.out h1;simp;omega
      have HC:=Lib.hid hcell
      clear hcell hr
      go_wp2
      go_loopw [7] (fun i wr=>∃ j:Nat,j≤k∧i=.int .i64 j∧wr.rowIs (w.heap.size+1) 5 k (fun m=>.int .u8 ((if k-1-m<j then f (k-1-m) else 0:Nat):Int)) ∧
       Below (w.heap.size+1) (w.alloc (.cells #[.bool false,.string ⟨#[]⟩] 23)) wr) (fun i _=>k-(intOf i).toNat)
      case atStart=>exact ⟨0,Nat.zero_le _,rfl,by simpa using World.rowIs_made (w.alloc (.cells #[.bool false,.string ⟨#[]⟩] 23)) (.int .u8 0) k 5,(Below.refl _ _).alloc (by simp) _⟩
      case round =>
       obtain ⟨j,hj,rfl,hrow,hbl⟩:=hrel
       by_cases hjk:j<k
       · have hcj : wr.cell? ⟨g, o + j, none⟩ = some (.int .i64 (f j : Int)) := by
          rw [hbl.cell (p:=⟨g,o+j,none⟩) (by show g<_;omega),World.cell?_alloc_past _ _ _ hg];exact HC.out j (by omega)
         have hcs:=hrow.cell (i:=k-1-j) (by omega)
         have hfs:=hrow.frozen (k-1-j)
         have hfj:=HF.out j (by omega)
         go_wp2
         go_roundw
         case rel =>
          refine ⟨j+1,by omega,by go_num,(hrow.set (k-1-j) _).congr fun m hm=>?_,hbl.setCell (by simp) _⟩
          by_cases e:m=k-1-j
          · rw [if_pos e,if_pos (by omega),show k-1-m=j by omega]
          · rw [if_neg e]
            by_cases e2:k-1-m<j
            · rw [if_pos e2,if_pos (by omega)]
            · rw [if_neg e2,if_neg (by omega)]
         case measure=>simp [intOf];omega
       · obtain rfl:j=k:=by omega
         have hstr:=str_of_cells wr 159 9 5 Tryz.underlying159 Tryz.underlying5 Tryz.underlying9 (w.heap.size+1) 0 j j (fun i=>f (j-1-i)) (fun i hi=>HF.out _ (by omega)) (fun i hi=>by
          rw [Nat.zero_add,hrow.cell hi,if_pos (by omega)])
         have hc0:wr.cell? ⟨w.heap.size,0,none⟩=some (.bool false):=(hbl.cell (p:=⟨w.heap.size,0,none⟩) (by simp)).trans (by simp)
         have hc1:wr.cell? ⟨w.heap.size,1,none⟩=some (.string ⟨#[]⟩):=(hbl.cell (p:=⟨w.heap.size,1,none⟩) (by simp)).trans (by simp)
         have hf0:wr.frozen? ⟨w.heap.size,0,none⟩=false:=(hbl.frozen (p:=⟨w.heap.size,0,none⟩) (by simp)).trans (by simp)
         have hf1:wr.frozen? ⟨w.heap.size,1,none⟩=false:=(hbl.frozen (p:=⟨w.heap.size,1,none⟩) (by simp)).trans (by simp)
         have hbelow:Below w.heap.size w ((wr.setCell ⟨w.heap.size,0,none⟩ (.bool neg)).setCell ⟨w.heap.size,1,none⟩ (.string (bytesOf (fun i=>f (j-1-i)) j))):=((((Below.refl _ _).alloc (Nat.le_refl _) _).trans (hbl.mono (by omega))).setCell (by simp) _).setCell (by simp) _
         cases neg
         all_goals
          go_wp2
          refine bodyPost_ret (v:=.agg #[_,.string (bytesOf (fun i=>f (j-1-i)) j)]) (by simp [results,Tryz.results111,go_sem,hc0,hc1];rfl) rfl ⟨?_,hbelow⟩
          have hv:=HV.out
          simp [h1] at hv
          rw [hv]
    · go_wp2
      go_loopw [7] (fun i wr=>i=.int .i64 0∧wr=(w.alloc (.cells #[.bool false,.string ⟨#[]⟩] 23)).alloc (.cells (madeCells #[.int .u8 0] k) 5)) (fun _ _=>0)
      case atStart=>exact ⟨rfl,rfl⟩
      case round =>
       obtain ⟨rfl,rfl⟩:=hrel
       have hstr:=fun W=>str_of_cells W 159 9 5 Tryz.underlying159 Tryz.underlying5 Tryz.underlying9 (w.heap.size+1) 0 k k (fun i=>f (k-1-i)) (fun i hi=>by omega) (fun i hi=>by omega)
       cases neg
       all_goals
        go_wp2
        refine bodyPost_ret (v:=.agg #[_,.string (bytesOf (fun i=>f (k-1-i)) k)]) (by simp [results,Tryz.results111,go_sem];rfl) rfl ⟨?_,?_⟩
        · have hv:=HV.out
          simp [h1] at hv
          rw [hv]
        · exact ((Below.refl _ _).alloc (Nat.le_refl _) _).alloc (by simp) _

theorem number_any (neg:Bool) (A:Option Addr) (n c V:Nat) (w:World) (hn:n≤1099511627776) (hr:Dg w .i64 256 A n V) :
  Calls Tryz.prog 111 #[.bool neg,.slice A n c] w (RetZ w (sgn neg V)):=by
 have h:=number_own neg A n c (D 256 V) w hn (fun i _=>D_lt (by omega) V i) hr.rd
 rw [val_D,Nat.mod_eq_of_lt hr.lt] at h
 exact h

end Go.Proofs.YtdbhahiieokplaaGreatDoor
