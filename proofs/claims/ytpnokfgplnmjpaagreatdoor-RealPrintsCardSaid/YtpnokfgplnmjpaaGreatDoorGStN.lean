import Derived.Test.YtpnokfgplnmjpaaGreatDoorGLawA
import Derived.Lib.ItoaNum
set_option linter.unusedSimpArgs false
set_option linter.unusedVariables false

namespace Go.Proofs.YtpnokfgplnmjpaaGreatDoor
open Go.Lib

def pad:Nat→Nat→List UInt8
 | 0,_=>[]
 | k+1,r=>pad k (r / 10)++[UInt8.ofNat (48+r%10)]

theorem pad_zero (k:Nat):pad k 0=List.replicate k 48:=by
 induction k with
 | zero=>rfl
 | succ k ih=>rw [pad,Nat.zero_div,ih,List.replicate_succ'];rfl

theorem decDigits_pad (k:Nat):∀ (q r:Nat),0<q→r<10^k→decDigits (q*10^k+r)=decDigits q++pad k r:=by
 induction k with
 | zero =>
   intro q r _ hr
   obtain rfl:r=0:=by simpa using hr
   simp [pad]
 | succ k ih =>
   intro q r hq hr
   have e1:q*10^(k+1)+r=(q*10^k)*10+r:=by rw [Nat.pow_succ,Nat.mul_assoc]
   have hp:1≤q*10^k:=Nat.mul_pos hq (Nat.pow_pos (by decide))
   rw [Nat.pow_succ] at hr
   rw [e1]
   generalize hT:q*10^k=T at *
   rw [decDigits,dif_neg (by omega)]
   have e2:(T*10+r) / 10=T+r / 10:=by omega
   have e3:(T*10+r)%10=r%10:=by omega
   rw [e2,e3,←hT,ih q (r / 10) hq (by omega),pad,List.append_assoc]

theorem pad_eq (k:Nat):∀ r:Nat,r<10^(k+1)→pad (k+1) r=List.replicate (k+1-nDigits r) 48++decDigits r:=by
 induction k with
 | zero =>
   intro r hr
   have hr':r<10:=by simpa using hr
   rw [nDigits_small hr',decDigits,dif_pos hr']
   simp [pad,Nat.mod_eq_of_lt hr']
 | succ k ih =>
   intro r hr
   by_cases h:r<10
   · rw [nDigits_small h,decDigits,dif_pos h,pad,Nat.div_eq_of_lt h,pad_zero,Nat.mod_eq_of_lt h]
     rfl
   · rw [Nat.pow_succ] at hr
     have e:decDigits r=decDigits (r / 10)++[UInt8.ofNat (48+r%10)]:=by rw [decDigits,dif_neg h]
     rw [pad,ih (r / 10) (by omega),nDigits_big h,e,List.append_assoc]
     congr 2
     omega

theorem nDigits_le (k r:Nat) (h:r<10^(k+1)):nDigits r≤k+1:=by
 induction k generalizing r with
 | zero=>rw [nDigits_small (by simpa using h)];omega
 | succ k ih =>
   by_cases h1:r<10
   · rw [nDigits_small h1];omega
   · rw [Nat.pow_succ] at h
     rw [nDigits_big h1]
     have:=ih (r / 10) (by omega)
     omega

def G19:Nat:=10000000000000000000
theorem G19_eq:G19=10^19:=by decide
theorem G19_pos:0<G19:=by decide

theorem dec_group (X i:Nat) (hq:0<X / G19^(i+1)) :
  decDigits (X / G19^i)=decDigits (X / G19^(i+1))++(List.replicate (19-(decDigits (X / G19^i%G19)).length) 48++decDigits (X / G19^i%G19)):=by
 have hr:X / G19^i%G19<10^19:=by rw [←G19_eq];exact Nat.mod_lt _ G19_pos
 rw [Nat.pow_succ,←Nat.div_div_eq_div_mul] at hq ⊢
 generalize X / G19^i=Y at *
 rw [decDigits_length,←pad_eq 18 _ hr,←decDigits_pad 19 _ _ hq hr,←G19_eq,Nat.mul_comm,Nat.div_add_mod]

theorem group_len (X i:Nat):(decDigits (X / G19^i%G19)).length≤19:=by
 rw [decDigits_length]
 exact nDigits_le 18 _ (by rw [←G19_eq];exact Nat.mod_lt _ G19_pos)

theorem groups_le {X n k:Nat} (hX:X<B64^n) (h:0<k→0<X / G19^(k-1)):k≤2*n+1:=by
 rcases Nat.eq_zero_or_pos k with rfl | hk
 · omega
 · have h1:=h hk
   have hp:0<G19^(k-1):=Nat.pow_pos G19_pos
   have h2:G19^(k-1)≤X:=by
    rcases Nat.lt_or_ge X (G19^(k-1)) with h' | h'
    · rw [Nat.div_eq_of_lt h'] at h1;omega
    · exact h'
   have h3:(2^32)^(k-1)≤G19^(k-1):=Nat.pow_le_pow_left (by decide) _
   have h4:B64^n=(2^32)^(2*n):=by rw [Nat.pow_mul];rfl
   rw [h4] at hX
   have h5:(2^32)^(k-1)<(2^32)^(2*n):=by omega
   have:=(Nat.pow_lt_pow_iff_right (by decide)).1 h5
   omega

theorem nDigits_groups {X k:Nat} (h:X / G19^k=0) (hk:0<k):nDigits X≤19*k:=by
 have hlt:X<G19^k:=by
  rcases Nat.lt_or_ge X (G19^k) with h' | h'
  · exact h'
  · have:=Nat.div_pos h' (Nat.pow_pos G19_pos);omega
 rw [G19_eq,←Nat.pow_mul] at hlt
 obtain ⟨m,hm⟩:∃ m,19*k=m+1:=⟨19*k-1,by omega⟩
 rw [hm] at hlt ⊢
 exact nDigits_le m X hlt

theorem nDigits_div (X i:Nat):nDigits (X / G19^i)≤nDigits X:=by
 have key:∀ j Y,nDigits (Y / 10^j)≤nDigits Y:=by
  intro j
  induction j with
  | zero=>intro Y;simp
  | succ j ih =>
    intro Y
    rw [Nat.pow_succ,←Nat.div_div_eq_div_mul]
    refine Nat.le_trans ?_ (ih Y)
    by_cases h:Y / 10^j<10
    · rw [Nat.div_eq_of_lt h,nDigits_small (by omega:(0:Nat)<10)];exact nDigits_pos _
    · rw [nDigits_big h];omega
 rw [G19_eq,←Nat.pow_mul]
 exact key _ _

end Go.Proofs.YtpnokfgplnmjpaaGreatDoor
