import Derived.Test.YtpnokfgplnmjpaaGreatDoorGQT
import Derived.Test.YtpnokfgplnmjpaaGreatDoorGQW
import Derived.Lib.OthersKept
set_option linter.unusedSimpArgs false
set_option linter.unusedVariables false

namespace Go.Proofs.YtpnokfgplnmjpaaGreatDoor
open Go.RowKit
attribute [local go_sem ↓] Go.wp_at_zero Go.wp_at_succ

theorem mag_pow10 {v n:Nat} (h:v<10^n):(mag v).size≤n:=mag_size_le (Nat.lt_of_lt_of_le h (Nat.pow_le_pow_left (by omega) n))

def Pn (g n V:Nat) (w:World):Prop:=∃ v l s,Nu g v l s w∧Nq n V v l s
section
variable {g n V:Nat} {w1 w2:World}
theorem Pn.next (h:Pn g n V w1) (hb:Below w1.heap.size w1 w2):Pn g n V w2:=by
 obtain ⟨v,l,s,hu,hm⟩:=h
 exact ⟨v,l,s,hu.next hb,hm⟩
theorem Pn.keep (h:Pn g n V w1) (hk:w2.heap[g]?=w1.heap[g]?):Pn g n V w2:=by
 obtain ⟨v,l,s,hu,hm⟩:=h
 have h1:=hk.trans hu.k
 exact ⟨v,l,s,⟨h1,(Array.getElem?_eq_some_iff.1 h1).1⟩,hm⟩
theorem Pn.lt (h:Pn g n V w1):g<w1.heap.size:=by
 obtain ⟨v,l,s,hu,hm⟩:=h
 exact hu.lt
theorem Pn.start (w:World):Pn w.heap.size 0 0 (w.alloc (.cells #[.bool false,.string ⟨#[]⟩,.int .i64 0,.int .i64 0] 221)) :=
 ⟨0,0,0,⟨by rw [mag_nil];exact heap_one _ _,by simp⟩,.none⟩
end

def RetDgt (w:World) (g n V:Nat) (e:Ending) (w':World):Prop:=e=.returned (.tuple #[])∧Pn g n V w'∧(∀ k,k≠g→k<w.heap.size→w'.heap[k]?=w.heap[k]?)∧w.heap.size≤w'.heap.size∧Below g w w'

theorem add_nm {g n V d:Nat} (hd:d≤9) (hn:n≤10000) (w:World) (h:Pn g n V w) :
  Calls Tryz.prog 237 #[.pointer (some ⟨g,0,none⟩),.int .i64 (d:Int)] w (RetDgt w g (n+1) (V*10+d)):=by
 obtain ⟨v,l,s,hu,hm⟩:=h
 rcases hm.add hd with ⟨t,ht,hs,hl,hm'⟩ | ⟨rfl,hl,hm'⟩
 · exact (add_small g v l s d t hd ht hs hl w hu).mono fun e w' ⟨he,hu',ho⟩=>⟨he,⟨_,_,_,hu',hm'⟩,ho⟩
 · exact (add_big g v l d hd hl (Nat.le_trans (mag_pow10 hm.total.2.2.2) hn) w hu).mono fun e w' ⟨he,hu',ho⟩=>⟨he,⟨_,_,_,hu',hm'⟩,ho⟩

theorem empty_nm {g n V:Nat} (w:World) (h:Pn g n V w):Calls Tryz.prog 238 #[.pointer (some ⟨g,0,none⟩)] w (RetV w (.bool (decide (n=0)))):=by
 obtain ⟨v,l,s,hu,hm⟩:=h
 exact empty_all g v l s _ (decide_eq_decide.2 hm.empty.symm) w hu

theorem total_nm {g n V:Nat} (hn:n≤10000) (w:World) (h:Pn g n V w):Calls Tryz.prog 239 #[.pointer (some ⟨g,0,none⟩)] w (RetB w (.agg #[.bool false,.string (mag V)])):=by
 obtain ⟨v,l,s,hu,hm⟩:=h
 have ht:=hm.total
 have h1:=total_all g v l s ht.2.2.1 ht.2.1 (Nat.le_trans (mag_pow10 ht.2.2.2) hn) w hu
 rw [ht.1] at h1
 exact h1
end Go.Proofs.YtpnokfgplnmjpaaGreatDoor
