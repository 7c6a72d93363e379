import Derived.Test.YtpnokfgplnmjpaaGreatDoorGRefA
import Derived.Deep.QuietTactic
import Derived.BigQuiet
set_option linter.unusedSimpArgs false
set_option linter.unusedVariables false

namespace Go.Proofs.YtpnokfgplnmjpaaGreatDoor
open Go.RowKit

theorem car_pos_le {b n m X Y k:Nat} (hb:2≤b) (hX:X<b^n) (hY:Y<b^m) (h:0<car b X 1 Y k):k≤n∨k≤m:=by
 rcases Nat.lt_or_ge n k with h1 | h1
 · rcases Nat.lt_or_ge m k with h2 | h2
   · exfalso
     have p1:b^n≤b^(k-1):=Nat.pow_le_pow_right (by omega) (by omega)
     have p2:b^m≤b^(k-1):=Nat.pow_le_pow_right (by omega) (by omega)
     have p3:b^k=b^(k-1)*b:=by rw [←Nat.pow_succ];congr 1;omega
     have p4:b^(k-1)*2≤b^(k-1)*b:=Nat.mul_le_mul_left _ hb
     rw [car_end (by omega) (by omega),Nat.div_eq_of_lt (by omega)] at h
     omega
   · exact .inr h2
 · exact .inl h1

theorem own_next {w1:World} {base:Nat} {E:TypeId} {K:IntKind} {v:Value} {k:Nat} {f:Nat→Nat} {d:Nat} (h:w1.ownsRow base E 1 v (k+1) (nums K f k++[.int K (d:Int)])) (hd:d=f k):w1.ownsRow base E 1 v (k+1) (nums K f (k+1)):=by
 rw [nums_succ,←hd];exact h

theorem one_cell {w:World} {u v:Value} {t:TypeId}:∀ j x,[v][j]?=some x→u=v→(w.alloc (.cells #[u] t)).cell? ((⟨w.heap.size,0,none⟩:Addr).add j)=some x:=by
 intro j x hj he
 match j,hj with
 | 0,hj=>simp at hj;subst hj;subst he;simp [Addr.add]

end Go.Proofs.YtpnokfgplnmjpaaGreatDoor


namespace Go.Proofs.YtpnokfgplnmjpaaGreatDoor
open Go.RowKit

end Go.Proofs.YtpnokfgplnmjpaaGreatDoor
