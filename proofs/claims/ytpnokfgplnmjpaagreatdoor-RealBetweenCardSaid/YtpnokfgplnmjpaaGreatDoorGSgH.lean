import Derived.Test.YtpnokfgplnmjpaaGreatDoorGPk
set_option linter.unusedSimpArgs false
set_option linter.unusedVariables false
namespace Go.Proofs.YtpnokfgplnmjpaaGreatDoor
def val (b:Nat) (f:Nat→Nat):Nat→Nat
 | 0=>0
 | n+1=>val b f n+f n*b^n
theorem val_zero (b:Nat) (f:Nat→Nat):val b f 0=0:=rfl
theorem val_succ (b:Nat) (f:Nat→Nat) (n:Nat):val b f (n+1)=val b f n+f n*b^n:=rfl
theorem val_congr {b:Nat} {f g:Nat→Nat} {n:Nat} (h:∀ i,i<n→f i=g i):val b f n=val b g n:=by
 induction n with
 | zero=>rfl
 | succ n ih=>rw [val_succ,val_succ,ih (fun i hi=>h i om),h n om]
theorem val_lt {b:Nat} {f:Nat→Nat} {n:Nat} (h:∀ i,i<n→f i<b):val b f n<b^n:=by
 induction n with
 | zero=>simp [val_zero]
 | succ n ih =>
   have h1:=ih (fun i hi=>h i om);have h2:(f n+1)*b^n≤b*b^n:=Nat.mul_le_mul_right _ (h n om);rw [val_succ,Nat.pow_succ',];rw [Nat.add_mul] at h2;omega
theorem val_add (b:Nat) (f:Nat→Nat) (m n:Nat):val b f (m+n)=val b f m+b^m*val b (fun i=>f (m+i)) n:=by
 induction n with
 | zero=>simp [val_zero]
 | succ n ih =>
   rw [←Nat.add_assoc,val_succ,val_succ,ih,Nat.pow_add];grind
theorem val_head (b:Nat) (f:Nat→Nat) (n:Nat):val b f (n+1)=f 0+b*val b (fun i=>f (i+1)) n:=by
 have:=val_add b f 1 n;rw [Nat.add_comm 1 n] at this;rw [this];simp [val,Nat.add_comm]
theorem val_zeros {b:Nat} {f:Nat→Nat} {m n:Nat} (hmn:m≤n) (h:∀ i,m≤i→i<n→f i=0):val b f n=val b f m:=by
 induction n with
 | zero => have : m = 0 := by omega
           rw [this]
 | succ n ih =>
   by_cases e:m=n+1
   · rw [e]
   · rw [val_succ,h n om om,ih om (fun i hi hi'=>h i hi om)];simp
theorem val_pos {b:Nat} {f:Nat→Nat} {n:Nat} (hb:0<b) (hn:0<n) (h:f (n-1)≠0):b^(n-1)≤val b f n:=by
 obtain ⟨m,rfl⟩:∃ m,n=m+1:=⟨n-1,om⟩
 rw [val_succ,Nat.add_sub_cancel] at *;have:1*b^m≤f m*b^m:=Nat.mul_le_mul_right _ om;omega
theorem val_inj {b:Nat} {f g:Nat→Nat} {n:Nat} (hf:∀ i,i<n→f i<b) (hg:∀ i,i<n→g i<b) (h:val b f n=val b g n):∀ i,i<n→f i=g i:=by
 induction n with
 | zero=>intro i hi;omega
 | succ n ih =>
   rw [val_succ,val_succ] at h;have h1:=val_lt (b:=b) (f:=f) (n:=n) (fun i hi=>hf i om);have h2:=val_lt (b:=b) (f:=g) (n:=n) (fun i hi=>hg i om);have hp:0<b^n:=om
   have e1:f n=g n:=by
    have a1:(val b f n+f n*b^n) / b^n=f n:=by
     rw [Nat.add_mul_div_right _ _ hp,Nat.div_eq_of_lt h1];omega
    have a2:(val b g n+g n*b^n) / b^n=g n:=by
     rw [Nat.add_mul_div_right _ _ hp,Nat.div_eq_of_lt h2];omega
    rw [←a1,←a2,h]
   rw [e1] at h;intro i hi;by_cases e:i=n
   · rw [e,e1]
   · exact ih (fun i hi=>hf i om) (fun i hi=>hg i om) om i om
def carry (b:Nat) (f g:Nat→Nat):Nat→Nat
 | 0=>0
 | i+1=>(f i+g i+carry b f g i) / b
def D (b V i:Nat):Nat:=V / b^i%b
theorem D_lt {b:Nat} (hb:0<b) (V i:Nat):D b V i<b:=Nat.mod_lt _ hb
theorem D_zero_of {b V n i:Nat} (hb:0<b) (hV:V<b^n) (hi:n≤i):D b V i=0:=by
 unfold D;have:b^n≤b^i:=Nat.pow_le_pow_right hb hi;rw [Nat.div_eq_of_lt om];simp
theorem mod_succ (b V k:Nat):V%b^(k+1)=V%b^k+b^k*D b V k:=Nat.mod_pow_succ
theorem val_D (b V n:Nat):val b (D b V) n=V%b^n:=by
 induction n with
 | zero=>simp [val,Nat.mod_one]
 | succ n ih=>rw [val_succ,ih,mod_succ,Nat.mul_comm]
theorem D_of {b:Nat} {f:Nat→Nat} {n V:Nat} (hb:0<b) (hf:∀ i,i<n→f i<b) (h:val b f n=V):V<b^n∧∀ i,i<n→f i=D b V i:=by
 have h1:=val_lt hf;rw [h] at h1;refine ⟨h1,val_inj hf (fun i _=>D_lt hb V i) ?_⟩;rw [h,val_D,Nat.mod_eq_of_lt h1]
theorem div_D (b V k:Nat):V / b^k=b*(V / b^(k+1))+D b V k:=by
 unfold D;rw [Nat.pow_succ,←Nat.div_div_eq_div_mul];exact (Nat.div_add_mod _ _).symm
def car (b U x Y k:Nat):Nat:=(U%b^k+x*(Y%b^k)) / b^k
theorem car_zero (b U x Y:Nat):car b U x Y 0=0:=by simp [car,Nat.mod_one]
theorem car_step {b:Nat} (hb:0<b) (U x Y k:Nat):(D b U k+x*D b Y k+car b U x Y k) / b=car b U x Y (k+1)∧(D b U k+x*D b Y k+car b U x Y k)%b=D b (U+x*Y) k:=by
 have hp:0<b^k:=Nat.pow_pos hb;constructor
 · have e : U % b ^ (k + 1) + x * (Y % b ^ (k + 1)) = (U % b ^ k + x * (Y % b ^ k)) + b ^ k * (D b U k + x * D b Y k) := by
    rw [mod_succ,mod_succ];grind
   show _=(U%b^(k+1)+x*(Y%b^(k+1))) / b^(k+1);rw [e,Nat.pow_succ,←Nat.div_div_eq_div_mul,Nat.add_mul_div_left _ _ hp];unfold car
   congr 1
   omega
 · have e : U + x * Y = (U % b ^ k + x * (Y % b ^ k)) + b ^ k * (U / b ^ k + x * (Y / b ^ k)) := by
    have h1:=Nat.mod_add_div U (b^k);have h2:=Nat.mod_add_div Y (b^k);generalize U%b^k=a at *;generalize Y%b^k=d at *;generalize U / b^k=p at *;generalize Y / b^k=q at *;rw [←h1,←h2];grind
   have e2:(U+x*Y) / b^k=car b U x Y k+(U / b^k+x*(Y / b^k)):=by
    conv=>lhs;rw [e]
    rw [Nat.add_mul_div_left _ _ hp]
    rfl
   unfold D;rw [e2];simp only [Nat.add_mod,Nat.mul_mod,Nat.mod_mod]
   congr 1
   omega
theorem car_lt {b:Nat} (hb:0<b) {x:Nat} (hx:x<b) (U Y k:Nat):car b U x Y k≤x:=by
 have hp:0<b^k:=Nat.pow_pos hb;unfold car;have h1:=Nat.mod_lt U hp;have h2:=Nat.mod_lt Y hp;have h3:x*(Y%b^k)≤x*(b^k-1):=Nat.mul_le_mul_left _ om
 have h4:x*(b^k-1)+x=x*b^k:=by
  obtain ⟨m,hm⟩:∃ m,b^k=m+1:=⟨b^k-1,om⟩
  rw [hm,Nat.add_sub_cancel,Nat.mul_add,Nat.mul_one]
 have:(U%b^k+x*(Y%b^k)) / b^k<x+1:=by
  apply Nat.div_lt_of_lt_mul;rw [Nat.mul_add,Nat.mul_one,Nat.mul_comm (b^k) x];omega
 omega
theorem car_end {b U x Y k:Nat} (hU:U<b^k) (hY:Y<b^k):car b U x Y k=(U+x*Y) / b^k:=by
 unfold car;rw [Nat.mod_eq_of_lt hU,Nat.mod_eq_of_lt hY]
theorem lt_of_car {b U x Y k:Nat} (hb:0<b) (hU:U<b^k) (hY:Y<b^k) (h:car b U x Y k=0):U+x*Y<b^k:=by
 rw [car_end hU hY] at h;have hp:0<b^k:=Nat.pow_pos hb;rcases Nat.lt_or_ge (U+x*Y) (b^k) with h1 | h1
 · exact h1
 · have:=Nat.div_pos h1 hp;omega
def bor (b X Y k:Nat):Nat:=if X%b^k<Y%b^k then 1 else 0
theorem bor_zero (b X Y:Nat):bor b X Y 0=0:=by simp [bor,Nat.mod_one]
theorem bor_le (b X Y k:Nat):bor b X Y k≤1:=by unfold bor;split<;>omega
theorem bor_step {b:Nat} (hb:0<b) (X Y k:Nat):bor b X Y (k+1)=if D b X k<D b Y k+bor b X Y k then 1 else 0:=by
 have hp:0<b^k:=Nat.pow_pos hb;have h1:=Nat.mod_lt X hp;have h2:=Nat.mod_lt Y hp
 have key:X%b^(k+1)<Y%b^(k+1)↔D b X k<D b Y k+bor b X Y k:=by
  rw [mod_succ,mod_succ];generalize D b X k=x;generalize D b Y k=y;unfold bor;generalize X%b^k=xm at *;generalize Y%b^k=ym at *;generalize b^k=p at *;rcases Nat.lt_trichotomy x y with h | h | h
  · have:p*(x+1)≤p*y:=Nat.mul_le_mul_left _ h;rw [Nat.mul_add,Nat.mul_one] at this;constructor
    · intro _;split<;>omega
    · intro _;omega
  · subst h
    split<;>constructor<;>intro _<;>omega
  · have:p*(y+1)≤p*x:=Nat.mul_le_mul_left _ h;rw [Nat.mul_add,Nat.mul_one] at this;constructor
    · intro _;omega
    · intro _;split at*<;> omega
 rw [bor];by_cases h:X%b^(k+1)<Y%b^(k+1)
 · rw [if_pos h,if_pos (key.1 h)]
 · rw [if_neg h,if_neg (fun h'=>h (key.2 h'))]
theorem dif_digit {b:Nat} (hb:0<b) {X Y:Nat} (hXY:Y≤X) (k:Nat):D b (X-Y) k=if D b X k<D b Y k+bor b X Y k then D b X k+b-D b Y k-bor b X Y k else D b X k-D b Y k-bor b X Y k:=by
 -- X=(X-Y)+Y: the sum's digit and carry
 obtain ⟨Z,rfl⟩:∃ Z,X=Z+Y:=⟨X-Y,om⟩
 rw [Nat.add_sub_cancel];have hs:=(car_step hb Z 1 Y k).2;simp only [Nat.one_mul] at hs;have hc:=car_lt (b:=b) hb (x:=1)
 have hcar:car b Z 1 Y k=bor b (Z+Y) Y k:=by
  have hp:0<b^k:=Nat.pow_pos hb;unfold car bor;rw [Nat.one_mul];have h1:=Nat.mod_lt Z hp;have h2:=Nat.mod_lt Y hp;rw [Nat.add_mod];generalize Z%b^k=z at *;generalize Y%b^k=y at *;generalize b^k=p at *;rcases Nat.lt_or_ge (z+y) p with h | h
  · rw [Nat.mod_eq_of_lt h,Nat.div_eq_of_lt h,if_neg om]
  · have h3:(z+y)%p=z+y-p:=by rw [Nat.mod_eq_sub_mod h,Nat.mod_eq_of_lt om]
    have h4:(z+y) / p=1:=Nat.div_eq_of_lt_le om om;rw [h3,h4,if_pos om]
 rw [hcar] at hs;have l1:=D_lt hb Z k;have l2:=D_lt hb Y k;have l3:=bor_le b (Z+Y) Y k;generalize D b Z k=z at *;generalize D b Y k=y at *;generalize D b (Z+Y) k=x at *;generalize bor b (Z+Y) Y k=t at *;rcases Nat.lt_or_ge (z+y+t) b with h | h
 · rw [Nat.mod_eq_of_lt h] at hs;rw [if_neg om];omega
 · rw [Nat.mod_eq_sub_mod h,Nat.mod_eq_of_lt om] at hs;rw [if_pos om];omega
def ord (X Y:Nat):Int:=if X<Y then -1 else if Y<X then 1 else 0
theorem ord_lt {X Y:Nat} (h:X<Y):ord X Y=-1:=by simp [ord,h]
theorem ord_gt {X Y:Nat} (h:Y<X):ord X Y=1:=by simp [ord,h];omega
theorem ord_eq (X:Nat):ord X X=0:=by simp [ord]
theorem lt_of_digit {b X Y k:Nat} (he:X / b^(k+1)=Y / b^(k+1)) (h:D b X k<D b Y k):X<Y:=by
 have h1:=div_D b X k;have h2:=div_D b Y k;rw [he] at h1;have:X / b^k<Y / b^k:=om;rcases Nat.lt_or_ge X Y with h3 | h3
 · exact h3
 · have:=Nat.div_le_div_right (c:=b^k) h3;omega
def dig (s:ByteArray) (i:Nat):Nat:=if h:i<s.size then (s[s.size-1-i]'(by omega)).toNat else 0
def bval (s:ByteArray):Nat:=val 256 (dig s) s.size
def Lead (s:ByteArray):Prop:=∀ h:0<s.size,(s[0]'h).toNat≠0
theorem dig_lt (s:ByteArray) (i:Nat):dig s i<256:=by
 unfold dig
 split
 · exact UInt8.toNat_lt _
 · omega
theorem bval_lt (s:ByteArray):bval s<256^s.size:=val_lt fun i _=>dig_lt s i
def magL (n:Nat):List UInt8:=if h:n=0 then [] else magL (n / 256)++[UInt8.ofNat (n%256)]
termination_by n
decreasing_by omega
def mag (n:Nat):ByteArray:=⟨(magL n).toArray⟩
theorem magL_zero:magL 0=[]:=by rw [magL];simp
theorem magL_pos {n:Nat} (h:n≠0):magL n=magL (n / 256)++[UInt8.ofNat (n%256)]:=by rw [magL];simp [h]
theorem getElem_mag (n i:Nat) (h:i<(mag n).size):(mag n)[i]=(magL n)[i]'(by simpa [mag,ByteArray.size] using h):=by
 simp [mag,ByteArray.getElem_eq_getElem_data]
theorem size_mag (n:Nat):(mag n).size=(magL n).length:=by simp [mag,ByteArray.size]
theorem ext_bytes {s t:ByteArray} (hn:s.size=t.size) (h:∀ i (h1:i<s.size) (h2:i<t.size),s[i]=t[i]):s=t:=by
 apply ByteArray.ext;apply Array.ext
 · exact hn
 · intro i h1 h2;have:=h i h1 h2
   rwa [ByteArray.getElem_eq_getElem_data,ByteArray.getElem_eq_getElem_data] at this
theorem dig_top {s:ByteArray} (hs:Lead s) (h:0<s.size):dig s (s.size-1)≠0:=by
 unfold dig;rw [dif_pos om];have:=hs h;have e:s.size-1-(s.size-1)=0:=om;simpa [e] using this
theorem lead_size {s t:ByteArray} (hs:Lead s) (h:bval s=bval t):s.size≤t.size:=by
 by_cases hlt:t.size<s.size
 · have h0:=dig_top hs om;have h1:=val_pos (b:=256) (f:=dig s) (n:=s.size) om om h0;have h2:=bval_lt t;have h3:256^t.size≤256^(s.size-1):=Nat.pow_le_pow_right om om;have h4:bval s=val 256 (dig s) s.size:=rfl;omega
 · omega
theorem lead_inj {s t:ByteArray} (hs:Lead s) (ht:Lead t) (h:bval s=bval t):s=t:=by
 have hn:s.size=t.size:=Nat.le_antisymm (lead_size hs h) (lead_size ht h.symm);refine ext_bytes hn fun i h1 h2=>?_
 have hv:val 256 (dig s) s.size=val 256 (dig t) s.size:=by
  have h4:bval s=val 256 (dig s) s.size:=rfl;have h5:bval t=val 256 (dig t) t.size:=rfl;rw [←h4,h,h5,hn]
 have hd:=val_inj (fun i _=>dig_lt s i) (fun i _=>dig_lt t i) hv (s.size-1-i) om;unfold dig at hd;rw [dif_pos om,dif_pos om] at hd;have e1:s.size-1-(s.size-1-i)=i:=om;have e2:t.size-1-(s.size-1-i)=i:=om
 have hd':(s[i]).toNat=(t[i]).toNat:=by
  simpa [e1,e2] using hd
 exact UInt8.toNat_inj.1 hd'
theorem magL_head {n:Nat} (h:n≠0):∃ c l,magL n=c :: l∧c.toNat≠0:=by
 induction n using Nat.strongRecOn with
 | _ n ih =>
   rw [magL_pos h];by_cases e:n / 256=0
   · refine ⟨UInt8.ofNat (n%256),[],by rw [e,magL_zero];rfl,?_⟩;have:n%256=n:=Nat.mod_eq_of_lt om;rw [this];simp only [UInt8.toNat_ofNat'];omega
   · obtain ⟨c,l,h1,h2⟩:=ih (n / 256) om e;exact ⟨c,l++[UInt8.ofNat (n%256)],by rw [h1];rfl,h2⟩
theorem lead_mag (n:Nat):Lead (mag n):=by
 intro h;by_cases e:n=0
 · subst e;rw [size_mag,magL_zero] at h;simp at h
 · obtain ⟨c,l,h1,h2⟩:=magL_head e;rw [getElem_mag];simpa [h1] using h2
theorem bval_magL (n:Nat):∀ s:ByteArray,s.data.toList=magL n→bval s=n:=by
 induction n using Nat.strongRecOn with
 | _ n ih =>
   intro s hs;by_cases e:n=0
   · subst e;rw [magL_zero] at hs;have:s.size=0:=by simpa using congrArg List.length hs
     unfold bval;rw [this]
     rfl
   · rw [magL_pos e] at hs;have ih':=ih (n / 256) om ⟨(magL (n / 256)).toArray⟩ rfl;have hl:s.size=(magL (n / 256)).length+1:=by simpa using congrArg List.length hs
     have hg:∀ i (h:i<s.size),(s[i])=(magL (n / 256)++[UInt8.ofNat (n%256)])[i]'(by simp;omega):=by
      intro i h;rw [ByteArray.getElem_eq_getElem_data,←Array.getElem_toList];simp only [hs]
     unfold bval;rw [hl,val_head]
     have h0:dig s 0=n%256:=by
      unfold dig;rw [dif_pos om,hg];rw [List.getElem_append_right om];simp
     have h1:val 256 (fun i=>dig s (i+1)) (magL (n / 256)).length=bval ⟨(magL (n / 256)).toArray⟩:=by
      unfold bval;have e2:(ByteArray.mk (magL (n / 256)).toArray).size=(magL (n / 256)).length:=by simp [ByteArray.size]
      rw [e2];refine val_congr fun i hi=>?_
      unfold dig;rw [dif_pos om,dif_pos om,hg];rw [List.getElem_append_left om];rw [ByteArray.getElem_eq_getElem_data];simp only [e2,List.getElem_toArray]
      congr 2
      omega
     rw [h0,h1,ih'];omega
theorem dig_eq (s:ByteArray) (i:Nat):dig s i=D 256 (bval s) i:=by
 obtain ⟨h1,h2⟩:=D_of (b:=256) (f:=dig s) (n:=s.size) (V:=bval s) om (fun i _=>dig_lt s i) rfl;by_cases hi:i<s.size
 · exact h2 i hi
 · rw [D_zero_of om h1 om];unfold dig;rw [dif_neg hi]
theorem bval_mag (n:Nat):bval (mag n)=n:=bval_magL n _ rfl
theorem mag_of {s:ByteArray} (h:Lead s):s=mag (bval s):=lead_inj h (lead_mag _) (bval_mag _).symm
theorem mag_size_le {n k:Nat} (h:n<256^k):(mag n).size≤k:=by
 by_cases e:(mag n).size=0
 · omega
 · have h0:=dig_top (lead_mag n) om;have h1:=val_pos (b:=256) (f:=dig (mag n)) (n:=(mag n).size) om om h0;have h2:bval (mag n)=n:=bval_mag n;unfold bval at h2;by_cases hk:k≤(mag n).size-1
   · have:256^k≤256^((mag n).size-1):=Nat.pow_le_pow_right om hk;omega
   · omega
theorem lt_of_mag {n:Nat}:n<256^(mag n).size:=by
 have:=bval_lt (mag n)
 rwa [bval_mag] at this
theorem mag_zero_iff {n:Nat}:(mag n).size=0↔n=0:=by
 constructor
 · intro h;have:=lt_of_mag (n:=n);rw [h] at this;omega
 · rintro rfl;rw [size_mag,magL_zero];rfl
theorem mag_inj {m n:Nat} (h:mag m=mag n):m=n:=by rw [←bval_mag m,h,bval_mag]
def ival (neg:Bool) (s:ByteArray):Int:=if neg then -(bval s:Int) else bval s
def Canon (neg:Bool) (s:ByteArray):Prop:=Lead s∧(s.size=0→neg=false)
theorem canon_eq {neg:Bool} {s:ByteArray} (h:Canon neg s):neg=decide (ival neg s<0)∧s=mag (ival neg s).natAbs:=by
 have hs:=mag_of h.1;have hn:(ival neg s).natAbs=bval s:=by unfold ival;split<;>omega
 refine ⟨?_,by rw [hn];exact hs⟩;by_cases e:s.size=0
 · have hz:bval s=0:=by unfold bval;rw [e];rfl
   simp [h.2 e,ival]
 · have : bval s ≠ 0 := by
    intro h0;rw [h0] at hs;exact e (by rw [hs];exact mag_zero_iff.2 rfl)
   cases neg
   · simp [ival]
   · simp [ival];omega
def nd (V:Nat):Nat:=(mag V).size
theorem nd_lt (V:Nat):V<256^nd V:=lt_of_mag
theorem nd_zero:nd 0=0:=mag_zero_iff.2 rfl
theorem nd_zero_iff {V:Nat}:nd V=0↔V=0:=mag_zero_iff
theorem nd_le {V n:Nat} (h:V<256^n):nd V≤n:=mag_size_le h
theorem nd_top {V:Nat} (h:0<nd V):D 256 V (nd V-1)≠0:=by
 have h1:=dig_top (lead_mag V) h;rw [dig_eq,bval_mag] at h1;exact h1
theorem nd_of {V n:Nat} (h1:V<256^n) (h2:0<n→D 256 V (n-1)≠0):n=nd V:=by
 have h3:=nd_le h1;rcases Nat.lt_or_ge (nd V) n with h4 | h4
 · exact absurd (D_zero_of (b:=256) om (nd_lt V) (i:=n-1) om) (h2 om)
 · omega
theorem nd_low {V:Nat} (h:0<nd V):256^(nd V-1)≤V:=by
 rcases Nat.lt_or_ge V (256^(nd V-1)) with h1 | h1
 · exact absurd (D_zero_of (b:=256) om h1 (i:=nd V-1) (Nat.le_refl _)) (nd_top h)
 · exact h1
theorem nd_pos {V:Nat} (h:0<V):0<nd V:=by
 rcases Nat.eq_zero_or_pos (nd V) with h1 | h1
 · rw [nd_zero_iff] at h1;omega
 · exact h1
theorem lt_of_nd {X Y:Nat} (h:nd X<nd Y):X<Y:=by
 have h1:=nd_lt X;have h2:=nd_low (V:=Y) om;have h3:256^nd X≤256^(nd Y-1):=Nat.pow_le_pow_right om om;omega
theorem nd_mono {X Y:Nat} (h:X≤Y):nd X≤nd Y:=nd_le (Nat.lt_of_le_of_lt h (nd_lt Y))
theorem nd_one:nd 1=1:=by
 have h1:=nd_le (V:=1) (n:=1) om;have h2:=nd_pos (V:=1) om;omega
theorem nd_add (X Y:Nat):nd (X+Y)≤max (nd X) (nd Y)+1:=by
 apply nd_le;have h1:256^nd X≤256^max (nd X) (nd Y):=Nat.pow_le_pow_right om om;have h2:256^nd Y≤256^max (nd X) (nd Y):=Nat.pow_le_pow_right om om;have h3:=nd_lt X;have h4:=nd_lt Y;rw [Nat.pow_succ];omega
theorem nd_mul (X Y:Nat):nd (X*Y)≤nd X+nd Y:=by
 apply nd_le;rw [Nat.pow_add];exact Nat.mul_lt_mul'' (nd_lt X) (nd_lt Y)
theorem nd_div (X Y:Nat):nd (X / Y)≤nd X:=nd_mono (Nat.div_le_self _ _)
theorem mkRat_parts (n:Int) {d:Nat} (hd:d≠0):(mkRat n d).num=n / (Nat.gcd n.natAbs d:Nat)∧(mkRat n d).den=d / Nat.gcd n.natAbs d:=by
 rw [Rat.num_mkRat,Rat.den_mkRat,if_neg hd,if_neg hd,Nat.gcd_comm];exact ⟨rfl,rfl⟩
theorem rat_of_coprime {n:Int} {d:Nat} (hd:d≠0) (h:Nat.gcd n.natAbs d=1):(mkRat n d).num=n∧(mkRat n d).den=d:=by
 obtain ⟨h1,h2⟩:=mkRat_parts n hd;rw [h1,h2,h];simp
theorem int_gcd_dvd (n:Int) (d:Nat):((Nat.gcd n.natAbs d:Nat):Int) ∣ n:=Int.ofNat_dvd_left.2 (Nat.gcd_dvd_left _ _)
theorem add_parts (a b:Rat) {g q' s':Nat} {t:Int} (hg:g=Nat.gcd a.den b.den) (hq:q'=a.den / g) (hs:s'=b.den / g) (ht:t=a.num*s'+b.num*q') :
  (a+b).num=t / (Nat.gcd t.natAbs g:Nat)∧(a+b).den=q'*(b.den / Nat.gcd t.natAbs g):=by
 have haux:=Rat.add.aux a b hg hq hs;simp only [←ht] at haux;have hgpos:0<g:=hg ▸ Nat.gcd_pos_of_pos_left _ a.den_pos;have e1:q'*g=a.den:=by rw [hq,Nat.div_mul_cancel (hg ▸ Nat.gcd_dvd_left _ _)]
 have e2:s'*g=b.den:=by rw [hs,Nat.div_mul_cancel (hg ▸ Nat.gcd_dvd_right _ _)]
 have hn:a.num*(b.den:Int)+b.num*(a.den:Int)=t*(g:Int):=by
  rw [ht,←e1,←e2,Int.natCast_mul,Int.natCast_mul,Int.add_mul,←Int.mul_assoc,←Int.mul_assoc]
 have hd:a.den*b.den=q'*b.den*g:=by rw [←e1,Nat.mul_right_comm]
 have hq0:q'*b.den≠0:=by
  have h1:q'≠0:=fun h=>by rw [h,Nat.zero_mul] at e1;exact a.den_nz e1.symm
  exact Nat.mul_ne_zero h1 b.den_nz
 have hdv:Nat.gcd t.natAbs g ∣ b.den:=Nat.dvd_trans (Nat.gcd_dvd_right _ _) (hg ▸ Nat.gcd_dvd_right _ _);rw [Rat.add_def',hn,hd,Rat.mkRat_mul_right om];obtain ⟨h1,h2⟩:=mkRat_parts t hq0;rw [h1,h2,haux];refine ⟨rfl,?_⟩;rw [←haux,Nat.mul_div_assoc _ hdv]
theorem sub_parts (a b:Rat) {g q' s':Nat} {t:Int} (hg:g=Nat.gcd a.den b.den) (hq:q'=a.den / g) (hs:s'=b.den / g) (ht:t=a.num*s'-b.num*q') :
  (a-b).num=t / (Nat.gcd t.natAbs g:Nat)∧(a-b).den=q'*(b.den / Nat.gcd t.natAbs g):=by
 rw [Rat.sub_eq_add_neg];exact add_parts a (-b) hg hq hs (by rw [ht,Rat.neg_num,Int.neg_mul,Int.sub_eq_add_neg])
theorem mul_parts (a b:Rat) {g1 g2:Nat} (h1:g1=Nat.gcd a.num.natAbs b.den) (h2:g2=Nat.gcd b.num.natAbs a.den) :
  (a*b).num=a.num / (g1:Int)*(b.num / (g2:Int))∧(a*b).den=(a.den / g2)*(b.den / g1):=by
 have d1:(g1:Int) ∣ a.num:=h1 ▸ int_gcd_dvd _ _;have d2:(g2:Int) ∣ b.num:=h2 ▸ int_gcd_dvd _ _;have e:a*b=Rat.mul a b:=rfl;rw [e]
 delta Rat.mul
 dsimp only;simp only [Int.divExact_eq_tdiv,Nat.divExact_eq_div,←h1,←h2];rw [Int.tdiv_eq_ediv_of_dvd d1,Int.tdiv_eq_ediv_of_dvd d2];exact ⟨rfl,trivial⟩
theorem int_of_den {a:Rat} (h:a.den=1):a=(a.num:Rat):=Rat.ext rfl (by rw [h];rfl)
theorem half_start {b y1 y0 u d:Nat} (hb:2≤b) (h1:b≤2*y1) (h2:y1<b) (h0:y0<b) (hu:u<y1*b+y0) (hd:d<b) :
  (u*b+d) / (y1*b+y0)≤u / y1∧u / y1≤b+1∧(u*b+d) / (y1*b+y0)<b:=by
 have hp:0<y1:=om;have hy:0<y1*b+y0:=om;refine ⟨?_,?_,?_⟩
 · rw [Nat.le_div_iff_mul_le hp];have hq:=Nat.div_mul_le_self (u*b+d) (y1*b+y0);generalize (u*b+d) / (y1*b+y0)=q at *;have e:q*(y1*b+y0)=q*y1*b+q*y0:=by rw [Nat.mul_add,Nat.mul_assoc]
   rw [e] at hq;rcases Nat.lt_or_ge u (q*y1) with h | h
   · have:(u+1)*b≤q*y1*b:=Nat.mul_le_mul_right _ h;rw [Nat.add_mul] at this;omega
   · exact h
 · have : u / y1 < b + 2 := by
    rw [Nat.div_lt_iff_lt_mul hp,Nat.add_mul,Nat.mul_comm b y1];omega
   omega
 · rw [Nat.div_lt_iff_lt_mul hy];have:(u+1)*b≤(y1*b+y0)*b:=Nat.mul_le_mul_right _ hu;rw [Nat.add_mul] at this;have e:b*(y1*b+y0)=(y1*b+y0)*b:=Nat.mul_comm _ _;omega
theorem half_more {b y1 y0 u d Q R:Nat} (hb:2≤b) (h1:b≤2*y1) (h0:y0<b) (hu:u<y1*b+y0) (hd:d<b) (he:Q*y1+R=u) (ht:b≤Q∨b*R+d<Q*y0) :
  (u*b+d) / (y1*b+y0)<Q:=by
 have hy:0<y1*b+y0:=om;rw [Nat.div_lt_iff_lt_mul hy];rcases ht with ht | ht
 · have h3:b*(y1*b+y0)≤Q*(y1*b+y0):=Nat.mul_le_mul_right _ ht;have h4:(u+1)*b≤(y1*b+y0)*b:=Nat.mul_le_mul_right _ hu;rw [Nat.add_mul] at h4;rw [Nat.mul_comm (y1*b+y0) b] at h4;omega
 · exact k110
theorem half_done {b y1 y0 u d Q R:Nat} (hy:0<y1*b+y0) (he:Q*y1+R=u) (ht:Q*y0≤b*R+d) (hq:(u*b+d) / (y1*b+y0)≤Q) :
  Q=(u*b+d) / (y1*b+y0):=by
 refine Nat.le_antisymm ?_ hq;rw [Nat.le_div_iff_mul_le hy];exact k110
theorem half_break {b y0 d Q R:Nat} (h0:y0<b) (hQ:Q≤b) (hR:b≤R):Q*y0≤b*R+d:=by
 have h1:Q*y0≤b*y0:=Nat.mul_le_mul_right _ hQ;have h2:b*y0≤b*R:=Nat.mul_le_mul_left _ om;omega
theorem two_halves {b y u d1 d0 q1 r1 q0 r0:Nat} (e1:u*b+d1=q1*y+r1) (e0:r1*b+d0=q0*y+r0):u*(b*b)+(d1*b+d0)=(q1*b+q0)*y+r0:=by
 have h1:(u*b+d1)*b=(q1*y+r1)*b:=by rw [e1]
 rw [Nat.add_mul,Nat.add_mul,Nat.mul_assoc] at h1;have e:(q1*b+q0)*y=q1*y*b+q0*y:=by rw [Nat.add_mul,Nat.mul_right_comm]
 rw [e];omega
def sg (odd:Bool):Int:=if odd then 1 else -1
theorem sg_not (o:Bool):sg (!o)=- sg o:=by cases o<;>rfl
theorem sg_sq (o:Bool):sg o*sg o=1:=by cases o<;>rfl
structure Lm (X Y A L a b x0 x1 x2 y0 y1 y2:Nat) (odd:Bool):Prop where
 i1:y2*a+y1*b=A
 i2:x2*a+x1*b=L
 i3:(x1:Int)*y2-x2*y1=sg odd
 i4:x1+x2≤y1+y2
 i5:x2≤y2
 i6:1≤y2
 i7:b≤a
 i9:y1=0→x1=1∧x2=0∧y2=1∧odd=true∧y0=0
 i10:y1≠0→sg odd*((x1:Int)*X-y1*Y)≤Y
 i11:y0≠0→0≤sg odd*((x1:Int)*X-y1*Y)∧sg odd*((x1:Int)*X-y1*Y)<sg odd*((y0:Int)*Y-x0*X)∧sg odd*((y0:Int)*Y-x0*X)≤Y∧(x0:Int)*y1-x1*y0=- sg odd
theorem Lm.start (X Y A L:Nat) (h:L≤A):Lm X Y A L A L 0 1 0 0 0 1 true :=
 ⟨om,om,by decide,om,om,om,h,fun _=>⟨rfl,rfl,rfl,rfl,rfl⟩,fun h=>absurd rfl h,fun h=>absurd rfl h⟩
theorem lm_bounds {X Y A L a b x0 x1 x2 y0 y1 y2:Nat} {odd:Bool} (h:Lm X Y A L a b x0 x1 x2 y0 y1 y2 odd) (hb:y2≤b) :
  0<b∧a / b*x2≤L∧x1+a / b*x2≤L∧a / b*y2≤A∧y1+a / b*y2≤A∧a%b<b:=by
 have hb0:0<b:=by have:=h.i6;omega
 have hd:=Nat.div_add_mod a b;have h1:x2*(b*(a / b))≤x2*a:=Nat.mul_le_mul_left _ om;have h2:y2*(b*(a / b))≤y2*a:=Nat.mul_le_mul_left _ om;have e1:x2*(b*(a / b))=a / b*x2*b:=by grind
 have e2:y2*(b*(a / b))=a / b*y2*b:=by grind
 have i1:=h.i1;have i2:=h.i2;have l1:a / b*x2*1≤a / b*x2*b:=Nat.mul_le_mul_left _ hb0;have l2:a / b*y2*1≤a / b*y2*b:=Nat.mul_le_mul_left _ hb0;have l3:x1*1≤x1*b:=Nat.mul_le_mul_left _ hb0;have l4:y1*1≤y1*b:=Nat.mul_le_mul_left _ hb0;exact ⟨hb0,om,om,om,om,Nat.mod_lt _ hb0⟩
theorem lm_sure {X Y A L K a b x0 x1 x2 y0 y1 y2:Nat} {odd:Bool} (h:Lm X Y A L a b x0 x1 x2 y0 y1 y2 odd) (hX:A*K≤X∧X<A*K+K) (hY:L*K≤Y∧Y<L*K+K) (hb:y2≤b) (hab:y1+y2≤a-b) :
  0≤sg odd*((y2:Int)*Y-x2*X)∧sg odd*((y2:Int)*Y-x2*X)<sg odd*((x1:Int)*X-y1*Y):=by
 obtain ⟨al,rfl⟩:∃ al,X=A*K+al:=⟨X-A*K,om⟩
 obtain ⟨be,rfl⟩:∃ be,Y=L*K+be:=⟨Y-L*K,om⟩
 have hal:al<K:=om;have hbe:be<K:=om;obtain ⟨i1,i2,i3,i4,i5,i6,i7,-,-,-⟩:=h;have i1':(y2:Int)*a+y1*b=A:=by exact_mod_cast i1
 have i2':(x2:Int)*a+x1*b=L:=by exact_mod_cast i2
 have ss:=sg_sq odd
 have ea:sg odd*((x1:Int)*A-y1*L)=a:=by
  rw [←i1',←i2'];have:sg odd*((x1:Int)*(y2*a+y1*b)-y1*(x2*a+x1*b))=sg odd*((x1:Int)*y2-x2*y1)*a:=by grind
  rw [this,i3,ss];omega
 have eb:sg odd*((y2:Int)*L-x2*A)=b:=by
  rw [←i1',←i2'];have:sg odd*((y2:Int)*(x2*a+x1*b)-x2*(y2*a+y1*b))=sg odd*((x1:Int)*y2-x2*y1)*b:=by grind
  rw [this,i3,ss];omega
 push_cast
 have f1:sg odd*((y2:Int)*(L*K+be)-x2*(A*K+al))=b*K+sg odd*(y2*be-x2*al):=by rw [←eb];grind
 have f2:sg odd*((x1:Int)*(A*K+al)-y1*(L*K+be))=a*K+sg odd*(x1*al-y1*be):=by rw [←ea];grind
 rw [f1,f2]
 -- bounds of the products
 have p1:x2*al≤y2*al:=Nat.mul_le_mul_right _ i5;have p2:y2*al<y2*K:=Nat.mul_lt_mul_of_pos_left hal i6;have p3:y2*be<y2*K:=Nat.mul_lt_mul_of_pos_left hbe i6;have p4:y2*K≤b*K:=Nat.mul_le_mul_right _ hb;have p5:(x1+x2)*al≤(y1+y2)*al:=Nat.mul_le_mul_right _ i4;have p6:(y1+y2)*al<(y1+y2)*K:=Nat.mul_lt_mul_of_pos_left hal om;have p7:(y1+y2)*be<(y1+y2)*K:=Nat.mul_lt_mul_of_pos_left hbe om;have p8:(b+(y1+y2))*K≤a*K:=Nat.mul_le_mul_right _ om;rw [Nat.add_mul] at p5 p6 p7 p8;rw [Nat.add_mul] at p5 p6 p7 p8;have c1:(x2:Int)*al=((x2*al:Nat):Int):=by simp
 have c2:(y2:Int)*be=((y2*be:Nat):Int):=by simp
 have c3:(x1:Int)*al=((x1*al:Nat):Int):=by simp
 have c4:(y1:Int)*be=((y1*be:Nat):Int):=by simp
 have c5:(a:Int)*K=((a*K:Nat):Int):=by simp
 have c6:(b:Int)*K=((b*K:Nat):Int):=by simp
 rw [c1,c2,c3,c4,c5,c6];cases odd
 · simp only [sg,Bool.false_eq_true,if_false];omega
 · simp only [sg,if_true];omega
theorem Lm.step {X Y A L K a b x0 x1 x2 y0 y1 y2:Nat} {odd:Bool} (h:Lm X Y A L a b x0 x1 x2 y0 y1 y2 odd) (hX:A*K≤X∧X<A*K+K) (hY:L*K≤Y∧Y<L*K+K) (hb:y2≤b) (hab:y1+y2≤a-b) :
  Lm X Y A L b (a%b) x1 x2 (x1+a / b*x2) y1 y2 (y1+a / b*y2) (!odd):=by
 have hs:=lm_sure h hX hY hb hab;obtain ⟨i1,i2,i3,i4,i5,i6,i7,i9,i10,i11⟩:=h;have hb0:0<b:=om;have hd:=Nat.div_add_mod a b;have hm:=Nat.mod_lt a hb0;have hq:1≤a / b:=Nat.div_pos i7 hb0;obtain ⟨q,hq'⟩:∃ q,a / b=q+1:=⟨a / b-1,om⟩
 rw [hq'] at hd ⊢;generalize a%b=r at *;have e1:((y2:Int)*Y-x2*X)=- ((x2:Int)*X-y2*Y):=om;have i5q:q*x2≤q*y2:=Nat.mul_le_mul_left _ i5;have i6q:1≤y1+(q+1)*y2:=by rw [Nat.add_mul];omega
 refine ⟨?_,?_,?_,?_,?_,i6q,om,fun h=>om,fun _=>?_,fun h0=>?_⟩
 · rw [←i1,←hd];grind
 · rw [←i2,←hd];grind
 · rw [sg_not,←i3];push_cast;grind
 · rw [Nat.add_mul,Nat.add_mul];omega
 · rw [Nat.add_mul,Nat.add_mul];omega
 · rw [sg_not];have e2:- sg odd*((x2:Int)*X-y2*Y)=sg odd*((y2:Int)*Y-x2*X):=by grind
   rw [e2];by_cases h1:y1=0
   · obtain ⟨-,rfl,rfl,rfl,-⟩:=i9 h1;simp [sg]
   · have:=i10 h1;omega
 · rw [sg_not];have e2:- sg odd*((x2:Int)*X-y2*Y)=sg odd*((y2:Int)*Y-x2*X):=by grind
   have e3:- sg odd*((y1:Int)*Y-x1*X)=sg odd*((x1:Int)*X-y1*Y):=by grind
   rw [e2,e3];exact ⟨hs.1,hs.2,i10 h0,by rw [i3];omega⟩
theorem lehmer_gcd {X Y x0 y0 x1 y1 R0 R1:Nat} {s:Int} (hs:s*s=1) (h0:(R0:Int)=s*((y0:Int)*Y-x0*X)) (h1:(R1:Int)=s*((x1:Int)*X-y1*Y)) (hd:(x0:Int)*y1-x1*y0=- s):Nat.gcd R0 R1=Nat.gcd X Y:=by
 have eX:(X:Int)=y1*R0+y0*R1:=by
  rw [h0,h1];have:(y1:Int)*(s*((y0:Int)*Y-x0*X))+y0*(s*((x1:Int)*X-y1*Y))=- (s*((x0:Int)*y1-x1*y0))*X:=by grind
  rw [this,hd];have:-(s*-s)=s*s:=by grind
  rw [this,hs];omega
 have eY:(Y:Int)=x1*R0+x0*R1:=by
  rw [h0,h1];have:(x1:Int)*(s*((y0:Int)*Y-x0*X))+x0*(s*((x1:Int)*X-y1*Y))=- (s*((x0:Int)*y1-x1*y0))*Y:=by grind
  rw [this,hd];have:-(s*-s)=s*s:=by grind
  rw [this,hs];omega
 have nX:X=y1*R0+y0*R1:=by exact_mod_cast eX
 have nY:Y=x1*R0+x0*R1:=by exact_mod_cast eY
 apply Nat.dvd_antisymm
 · apply Nat.dvd_gcd
   · conv=>rhs;rw [nX]
     exact k96
   · conv=>rhs;rw [nY]
     exact k96
 · have dX:((Nat.gcd X Y:Nat):Int) ∣ (X:Int):=by exact_mod_cast Nat.gcd_dvd_left X Y
   have dY:((Nat.gcd X Y:Nat):Int) ∣ (Y:Int):=by exact_mod_cast Nat.gcd_dvd_right X Y
   apply Nat.dvd_gcd
   · have : ((Nat.gcd X Y : Nat) : Int) ∣ (R0 : Int) := by
      rw [h0];exact Int.dvd_trans (Int.dvd_sub (Int.dvd_trans dY (Int.dvd_mul_left _ _)) (Int.dvd_trans dX (Int.dvd_mul_left _ _))) (Int.dvd_mul_left _ _)
     exact_mod_cast this
   · have : ((Nat.gcd X Y : Nat) : Int) ∣ (R1 : Int) := by
      rw [h1];exact Int.dvd_trans (Int.dvd_sub (Int.dvd_trans dX (Int.dvd_mul_left _ _)) (Int.dvd_trans dY (Int.dvd_mul_left _ _))) (Int.dvd_mul_left _ _)
     exact_mod_cast this
theorem gcd_odd_two {a:Nat} (ha:a%2=1) (b k:Nat):Nat.gcd a (b*2^k)=Nat.gcd a b:=by
 have h2:Nat.Coprime a (2^k):=by
  apply Nat.Coprime.pow_right;rw [Nat.Coprime,Nat.gcd_comm,Nat.gcd_rec,ha]
  rfl
 rw [Nat.mul_comm];exact Nat.Coprime.gcd_mul_left_cancel_right b h2.symm
theorem gcd_twos {A B a b j k:Nat} (hA:A=a*2^j) (hB:B=b*2^k) (ha:a%2=1) (hb:b%2=1):Nat.gcd A B=Nat.gcd a b*2^min j k:=by
 subst hA hB;rcases Nat.le_total j k with h | h
 · rw [Nat.min_eq_left h];obtain ⟨m,rfl⟩:∃ m,k=j+m:=⟨k-j,om⟩
   rw [Nat.pow_add,Nat.mul_comm (2^j),←Nat.mul_assoc,Nat.gcd_mul_right,gcd_odd_two ha]
 · rw [Nat.min_eq_right h];obtain ⟨m,rfl⟩:∃ m,j=k+m:=⟨j-k,om⟩
   rw [Nat.pow_add,Nat.mul_comm (2^k),←Nat.mul_assoc,Nat.gcd_mul_right,Nat.gcd_comm,gcd_odd_two hb,Nat.gcd_comm]
theorem gcd_sub_odd {a b:Nat} (h:a≤b):Nat.gcd a (b-a)=Nat.gcd a b:=by
 rw [Nat.gcd_sub_self_right h]
def Abv (a b:Nat) (o:Bool) (p q:Nat):Prop:=a*q<p*b∨(a*q=p*b∧o=false)
def Blw (c d:Nat) (o:Bool) (p q:Nat):Prop:=p*d<c*q∨(p*d=c*q∧o=false)
def Inn (a b:Nat) (oa:Bool) (c d:Nat) (oc:Bool) (p q:Nat):Prop:=0<q∧Abv a b oa p q∧Blw c d oc p q
def leastOf (a b:Nat) (o:Bool):Nat:=if o=true∨0<a%b then a / b+1 else a / b
theorem least_above {a b:Nat} (hb:0<b) (o:Bool):Abv a b o (leastOf a b o) 1:=by
 unfold Abv leastOf;have h:=Nat.div_add_mod a b;have h2:=Nat.mod_lt a hb
 split
 · left
   rw [Nat.add_mul,Nat.mul_comm (a / b) b];omega
 · rename_i hn
   have h3:a%b=0:=om;have h4:o=false:=by cases o<;>simp_all
   right
   rw [Nat.mul_comm (a / b) b];exact ⟨om,h4⟩
theorem least_num {a b:Nat} (hb:0<b) {o:Bool} {p q:Nat} (hq:0<q) (h:Abv a b o p q):leastOf a b o≤p:=by
 unfold leastOf;have e:=Nat.div_add_mod a b;have h2:=Nat.mod_lt a hb
 have hge:a / b*q≤p:=by
  have h3:a*q≤p*b:=by rcases h with h | h<;>omega
  have h4:b*(a / b)*q≤p*b:=Nat.le_trans (Nat.mul_le_mul_right q om) h3;have h5:a / b*q*b≤p*b:=by rw [Nat.mul_right_comm,Nat.mul_comm (a / b) b];exact h4
  exact Nat.le_of_mul_le_mul_right h5 hb
 have hq2:a / b≤a / b*q:=Nat.le_mul_of_pos_right _ hq
 split
 · rename_i hc
   rcases Nat.lt_or_ge (a / b) p with h6 | h6
   · omega
   · exfalso;have h7:p=a / b*q:=om;have h8:p*b=b*(a / b)*q:=by rw [h7,Nat.mul_right_comm,Nat.mul_comm (a / b) b]
     have h9:a*q=b*(a / b)*q+a%b*q:=by rw [←Nat.add_mul,e]
     rcases h with h | ⟨h,ho⟩
     · omega
     · have h10:a%b*q=0:=om;rcases hc with hc | hc
       · rw [hc] at ho;cases ho
       · have:=Nat.mul_pos hc hq;omega
 · omega
theorem inn_turn {a b:Nat} (hb:0<b) {oa:Bool} {c d:Nat} {oc:Bool} {p q:Nat} (h:Inn a b oa c d oc p q) (hn:¬Blw c d oc (leastOf a b oa) 1) :
  a / b*q<p∧a / b*d<c∧Inn d (c-a / b*d) oc b (a%b) oa q (p-a / b*q)∧p<(a / b+1)*q:=by
 obtain ⟨hq,hA,hB⟩:=h;have e:=Nat.div_add_mod a b;have h2:=Nat.mod_lt a hb;have hfl:b*(a / b)*q=a / b*q*b:=by rw [Nat.mul_right_comm (a / b) q b,Nat.mul_comm (a / b) b]
 have haq:a*q=a / b*q*b+a%b*q:=by rw [←hfl,←Nat.add_mul,e]
 have hn1:c≤leastOf a b oa*d:=by
  unfold Blw at hn;rcases Nat.lt_or_ge (leastOf a b oa*d) c with h3 | h3
  · exact absurd (.inl om) hn
  · exact h3
 -- the fraction lies strictly above the whole part
 have hlow:a / b*q<p:=by
  have hge:a / b*q≤p:=by
   have h3:a*q≤p*b:=by rcases hA with h | h<;>omega
   exact Nat.le_of_mul_le_mul_right (show a / b*q*b≤p*b by omega) hb
  rcases Nat.lt_or_ge (a / b*q) p with h3 | h3
  · exact h3
  · exfalso;have h4:p=a / b*q:=om
    have h5:a%b*q=0∧oa=false:=by
     rcases hA with h | ⟨h,ho⟩
     · rw [h4] at h;omega
     · rw [h4] at h;exact ⟨om,ho⟩
    have h6:a%b=0:=by
     rcases Nat.eq_zero_or_pos (a%b) with h | h
     · exact h
     · have:=Nat.mul_pos h hq;omega
    have h7:leastOf a b oa=a / b:=by unfold leastOf;rw [if_neg (by simp [h5.2,h6])]
    rw [h7] at hn hn1;apply hn;unfold Blw;have h8:a / b*q*d≤c*q:=by rw [h4] at hB;rcases hB with h | h<;>omega
    have h9:a / b*d≤c:=by
     apply Nat.le_of_mul_le_mul_right _ hq;rw [Nat.mul_right_comm];exact h8
    have h10:a / b*d=c:=om;rcases hB with h | ⟨h,ho⟩
    · rw [h4,Nat.mul_right_comm,h10] at h;omega
    · exact .inr ⟨om,ho⟩
 have hleast:leastOf a b oa≤a / b+1:=by unfold leastOf;split<;>omega
 have hcd:a / b*d<c:=by
  have h3:p*d≤c*q:=by rcases hB with h | h<;>omega
  have h4:a / b*q*d≤p*d:=Nat.mul_le_mul_right d om;rcases Nat.eq_zero_or_pos d with hd | hd
  · subst hd;rcases Nat.eq_zero_or_pos c with hc | hc
    · subst hc;exfalso;apply hn;rcases hB with h | ⟨_,ho⟩
      · omega
      · exact .inr ⟨om,ho⟩
    · omega
  · have h5:a / b*q*d<p*d:=(Nat.mul_lt_mul_right hd).2 hlow;apply Nat.lt_of_mul_lt_mul_right (a:=q);rw [Nat.mul_right_comm];omega
 have hhi:p<(a / b+1)*q:=by
  rcases Nat.lt_or_ge p ((a / b+1)*q) with h3 | h3
  · exact h3
  · exfalso;apply hn;have h4:leastOf a b oa*q≤p:=Nat.le_trans (Nat.mul_le_mul_right q hleast) h3;have h5:leastOf a b oa*d*q≤p*d:=by rw [Nat.mul_right_comm];exact Nat.mul_le_mul_right d h4
    unfold Blw;rcases Nat.lt_or_ge (leastOf a b oa*d) (c*1) with h6 | h6
    · exact .inl h6
    · have h7:c*q≤leastOf a b oa*d*q:=Nat.mul_le_mul_right q om;rcases hB with h | ⟨h,ho⟩
      · omega
      · refine .inr ⟨?_,ho⟩;have h8:leastOf a b oa*d*q=c*q:=om;have h9:=Nat.eq_of_mul_eq_mul_right hq h8;omega
 refine ⟨hlow,hcd,⟨om,?_,?_⟩,hhi⟩
 · unfold Abv;have h3:q*(c-a / b*d)=c*q-a / b*d*q:=by rw [Nat.mul_sub,Nat.mul_comm q c,Nat.mul_comm q (a / b*d)]
   have h4:d*(p-a / b*q)=p*d-a / b*d*q:=by rw [Nat.mul_sub,Nat.mul_comm d p,Nat.mul_left_comm,←Nat.mul_assoc,Nat.mul_right_comm]
   have h5:a / b*d*q≤p*d:=by rw [Nat.mul_right_comm];exact Nat.mul_le_mul_right d om
   have h6:a / b*d*q≤c*q:=Nat.mul_le_mul_right q om;rw [h3,h4];rcases hB with h | ⟨h,ho⟩
   · left;omega
   · right;exact ⟨om,ho⟩
 · unfold Blw;have h3:b*(p-a / b*q)=p*b-a / b*q*b:=by rw [Nat.mul_sub,Nat.mul_comm b p,Nat.mul_comm b]
   have h4:a / b*q*b≤p*b:=Nat.mul_le_mul_right b om;rw [h3,Nat.mul_comm q (a%b)];rcases hA with h | ⟨h,ho⟩
   · left;omega
   · right;exact ⟨om,ho⟩
structure Simp (a b:Nat) (oa:Bool) (c d:Nat) (oc:Bool) (n m:Nat):Prop where
 inn:Inn a b oa c d oc n m
 cop:Nat.gcd n m=1
 min:∀ p q,Inn a b oa c d oc p q→n≤p∧m≤q
theorem simp_int {a b:Nat} (hb:0<b) {oa:Bool} {c d:Nat} {oc:Bool} (h:Blw c d oc (leastOf a b oa) 1):Simp a b oa c d oc (leastOf a b oa) 1 :=
 ⟨⟨om,least_above hb oa,h⟩,Nat.gcd_one_right _,fun _ _ hp=>⟨least_num hb hp.1 hp.2.1,hp.1⟩⟩
theorem simp_turn {a b:Nat} (hb:0<b) {oa:Bool} {c d:Nat} {oc:Bool} {p q n m:Nat} (hi:Inn a b oa c d oc p q) (hn:¬Blw c d oc (leastOf a b oa) 1) (h:Simp d (c-a / b*d) oc b (a%b) oa n m):Simp a b oa c d oc (a / b*n+m) n:=by
 obtain ⟨_,hcd,_,_⟩:=inn_turn hb hi hn;obtain ⟨⟨hm,hA,hB⟩,hg,hmin⟩:=h;have e:=Nat.div_add_mod a b
 have hn0:0<n:=by
  rcases Nat.eq_zero_or_pos n with h0 | h0
  · subst h0;exfalso;unfold Abv at hA;have hd:d*m=0:=by rcases hA with h | h<;>omega
    have hd0:d=0:=by
     rcases Nat.eq_zero_or_pos d with h | h
     · exact h
     · have:=Nat.mul_pos h hm;omega
    subst hd0;apply hn;unfold Blw
    left
    omega
  · exact h0
 have h1:d*m=m*d:=Nat.mul_comm _ _;have h2:n*(c-a / b*d)=c*n-a / b*n*d:=by rw [Nat.mul_sub,Nat.mul_comm n c,Nat.mul_comm n,Nat.mul_right_comm]
 have h3:a / b*n*d≤c*n:=by rw [Nat.mul_right_comm];exact Nat.mul_le_mul_right n om
 refine ⟨⟨hn0,?_,?_⟩,?_,fun p q hp=>?_⟩
 · unfold Abv;unfold Blw at hB
   have h4:a*n=a / b*n*b+n*(a%b):=by
    rw [Nat.mul_right_comm (a / b) n b,Nat.mul_comm (a / b) b,Nat.mul_comm n (a%b),←Nat.add_mul,e]
   rw [h4,Nat.add_mul,Nat.mul_comm m b];rcases hB with h | ⟨h,ho⟩
   · left;omega
   · right;exact ⟨om,ho⟩
 · unfold Blw;unfold Abv at hA;rw [Nat.add_mul];rcases hA with h | ⟨h,ho⟩
   · left;omega
   · right;exact ⟨om,ho⟩
 · rw [Nat.gcd_comm,Nat.gcd_mul_right_add_right];exact hg
 · obtain ⟨hl,_,hi2,_⟩:=inn_turn hb hp hn;obtain ⟨k1,k2⟩:=hmin _ _ hi2;refine ⟨?_,k1⟩;have:=Nat.mul_le_mul_left (a / b) k1;omega
def simpFuel (a b c d:Nat):Nat:=2*(a+b+c+d)+(if a<b then 1 else 0)
theorem simp_less {a b:Nat} (hb:0<b) {oa:Bool} {c d:Nat} {oc:Bool} {p q:Nat} (hi:Inn a b oa c d oc p q) (hn:¬Blw c d oc (leastOf a b oa) 1):simpFuel d (c-a / b*d) b (a%b)<simpFuel a b c d:=by
 obtain ⟨_,hcd,_,_⟩:=inn_turn hb hi hn;have e:=Nat.div_add_mod a b;unfold simpFuel;by_cases hab:a<b
 · rw [if_pos hab,Nat.div_eq_of_lt hab,Nat.mod_eq_of_lt hab,Nat.zero_mul]
   have h1:c≤d:=by
    have h2:leastOf a b oa≤1:=by unfold leastOf;rw [Nat.div_eq_of_lt hab];split<;>omega
    rcases Nat.lt_or_ge d c with h3 | h3
    · exfalso;apply hn
      left
      have:=Nat.mul_le_mul_right d h2;omega
    · exact h3
   rw [if_neg om];omega
 · rw [if_neg hab];have h1:0<a / b:=Nat.div_pos om hb;have h2:b≤b*(a / b):=Nat.le_mul_of_pos_right _ h1
   split<;>omega
end Go.Proofs.YtpnokfgplnmjpaaGreatDoor
namespace Go.Proofs.YtpnokfgplnmjpaaGreatDoor.Sg
def sgq (x:Rat):Int:=if x<0 then -1 else if x=0 then 0 else 1
theorem sgq_neg {x:Rat} (h:x<0):sgq x=-1:=by unfold sgq;rw [if_pos h]
theorem sgq_zero {x:Rat} (h:x=0):sgq x=0:=by unfold sgq;rw [if_neg (by grind),if_pos h]
theorem sgq_pos {x:Rat} (h:0<x):sgq x=1:=by unfold sgq;rw [if_neg (by grind),if_neg (by grind)]
theorem sgq_three (x:Rat):(x<0∧sgq x=-1)∨(x=0∧sgq x=0)∨(0<x∧sgq x=1):=by
 by_cases h:x<0
 · exact .inl ⟨h,sgq_neg h⟩
 · by_cases h0:x=0
   · exact .inr (.inl ⟨h0,sgq_zero h0⟩)
   · exact .inr (.inr ⟨by grind,sgq_pos (by grind)⟩)
theorem sgq_minus (x:Rat):sgq (-x)=- sgq x:=by
 rcases sgq_three x with ⟨h,e⟩ | ⟨h,e⟩ | ⟨h,e⟩
 · rw [e,sgq_pos (by grind)];rfl
 · rw [e,sgq_zero (by grind)];rfl
 · rw [e,sgq_neg (by grind)]
def sg2 (a b r:Rat):Int :=
 if sgq a=sgq b*sgq r∨sgq b*sgq r=0 then sgq a else if sgq a=0 then sgq b*sgq r else
  if 0<sgq (a*a-b*b*r) then sgq a else if sgq (a*a-b*b*r)<0 then sgq b*sgq r else 0
def sos (p:Rat) (s:Int) (r:Rat):Int:=if sgq p≠-s then s else s*sgq (r-p*p)
def rts (s:Int) (a:Rat) (t:Int) (b:Rat):Int:=if s*sgq a≠t*sgq b then (if s*sgq a>t*sgq b then 1 else -1) else s*sgq a*sgq (a-b)
def cmpP (d:Rat) (s:Int) (a:Rat) (t:Int) (b:Rat):Int :=
 if sos d s a≠t then sos d s a else if sgq (2*d)=0 then t*sgq (d*d+a-b) else t*sos (d*d+a-b) (sgq (2*d)*s) (2*d*(2*d)*a)
def cmpF (d:Rat) (s:Int) (a:Rat) (t:Int) (b:Rat) (e:Rat):Int :=
 if sgq d=rts s a t b∨rts s a t b=0 then sgq d else if sgq d=0 then rts s a t b else
  if 0<sg2 (d*d-(a+b)) e (a*b) then sgq d else if sg2 (d*d-(a+b)) e (a*b)<0 then rts s a t b else 0
section
variable {d a b:Rat}
theorem sq_pos' (h:d≠0):0<d*d:=by
 by_cases h1:0<d
 · exact Rat.mul_pos h1 h1
 · have:=Rat.mul_pos (show 0 < -d by grind) (show 0 < -d by grind);grind
theorem ident (d a b:Rat):4*(a*b)-(d*d-(a+b))*(d*d-(a+b))=2*d*(2*d)*a-(d*d+a-b)*(d*d+a-b):=by grind
theorem sg2_two {R:Rat} (hR:0<R) (g:Rat):sg2 g 2 R=if g<0 then (if 0<g*g-4*R then -1 else if g*g-4*R=0 then 0 else 1) else 1:=by
 unfold sg2;rw [sgq_pos hR,show sgq (2:Rat)=1 from by decide,show (2:Rat)*2*R=4*R from by grind];exact k95
theorem sg2_mtwo {R:Rat} (hR:0<R) (g:Rat):sg2 g (-2) R=if 0<g then (if 0<g*g-4*R then 1 else if g*g-4*R=0 then 0 else -1) else -1:=by
 unfold sg2;rw [sgq_pos hR,show sgq (-2:Rat)=-1 from by decide,show (-2:Rat)*-2*R=4*R from by grind];exact k95
theorem mul_lt {x y z:Rat} (h:x<y) (hz:0<z):x*z<y*z:=by
 have:=Rat.mul_pos (show 0<y-x by grind) hz;grind
theorem sq_lt {x y:Rat} (h1:-y<x) (h2:x<y):x*x<y*y:=by
 have:=Rat.mul_pos (show 0<y-x by grind) (show 0<y+x by grind);grind
theorem sq_le {x y:Rat} (h1:-y≤x) (h2:x≤y):x*x≤y*y:=by
 by_cases h3:x=y
 · rw [h3];exact Rat.le_refl
 · by_cases h4:x=-y
   · rw [h4];grind
   · exact Rat.le_of_lt (sq_lt (by grind) (by grind))
theorem cmp_pp (ha:0<a) (hb:0<b) (hn:d*d≠a):cmpP d 1 a 1 b=cmpF d 1 a 1 b 2:=by
 have hab:0<a*b:=Rat.mul_pos ha hb;have I:=ident d a b;have hr:rts 1 a 1 b=sgq (a-b):=by unfold rts;rw [sgq_pos ha,sgq_pos hb];simp
 unfold cmpP cmpF;rw [hr,sg2_two hab];clear hr;generalize hg:d*d-(a+b)=g at *;generalize hf:d*d+a-b=f at *;have hgf:g=f-2*a:=by grind
 have hR:2*d*(2*d)*a=4*(a*b)-g*g+f*f:=by grind
 have hR2:2*d*(2*d)*a-f*f=4*(a*b)-g*g:=by grind
 unfold sos;rw [hR2];rcases sgq_three d with ⟨h,e⟩ | ⟨h,e⟩ | ⟨h,e⟩
 · have e2:=sgq_neg (show 2*d<0 by grind);rw [e,e2];have hdd:=sq_pos' (show d≠0 by grind);rcases sgq_three (a-d*d) with ⟨k,ek⟩ | ⟨k,ek⟩ | ⟨k,ek⟩
   · rw [ek];rcases sgq_three (a-b) with ⟨l,el⟩ | ⟨l,el⟩ | ⟨l,el⟩<;>rw [el]
     · grind
     · grind
     · by_cases hg0:g<0
       · have h1:=sq_lt (x:=g) (y:=b) (by grind) (by grind);have h2:=mul_lt (show b<a by grind) hb;grind
       · grind
   · exact absurd (show d*d=a by grind) hn
   · rw [ek]
     have hfq:b≥a→0<f→0<4*(a*b)-g*g:=fun h1 h2=>by
      have h3:=sq_le (x:=f) (y:=d*d) (by grind) (by grind);have h4:=mul_lt (show d*d<a by grind) hdd;have h5:=Rat.mul_pos ha hdd;grind
     exact k67
 · have e2:=sgq_zero (show 2*d=0 by grind);rw [e,e2];have hfa:f=a-b:=by grind
   rw [hfa];rcases sgq_three (a-b) with ⟨l,el⟩ | ⟨l,el⟩ | ⟨l,el⟩<;>rw [el]<;>grind
 · have e2:=sgq_pos (show 0<2*d by grind);rw [e,e2];have hdd:=sq_pos' (show d≠0 by grind)
   have hfg:a<b→0≤f→g<0→0<4*(a*b)-g*g:=fun h1 h2 h3=>by
    have h4:=sq_le (x:=g) (y:=2*a) (by grind) (by grind);have h5:=mul_lt h1 ha;grind
   exact k67
theorem cmp_pm (ha:0<a) (hb:0<b) (hn:d*d≠a):cmpP d 1 a (-1) b=cmpF d 1 a (-1) b (-2):=by
 have hab:0<a*b:=Rat.mul_pos ha hb;have I:=ident d a b;have hr:rts 1 a (-1) b=1:=by unfold rts;rw [sgq_pos ha,sgq_pos hb];simp
 unfold cmpP cmpF;rw [hr,sg2_mtwo hab];clear hr;generalize hg:d*d-(a+b)=g at *;generalize hf:d*d+a-b=f at *;have hgf:g=f-2*a:=by grind
 have hR2:2*d*(2*d)*a-f*f=4*(a*b)-g*g:=by grind
 unfold sos;rw [hR2];rcases sgq_three d with ⟨h,e⟩ | ⟨h,e⟩ | ⟨h,e⟩
 · have e2:=sgq_neg (show 2*d<0 by grind);rw [e,e2];have hdd:=sq_pos' (show d≠0 by grind);rcases sgq_three (a-d*d) with ⟨k,ek⟩ | ⟨k,ek⟩ | ⟨k,ek⟩
   · rw [ek]
     have hfg:0<f→g≤0→0<4*(a*b)-g*g:=fun h1 h2=>by
      have h3:=sq_le (x:=f) (y:=2*a) (by grind) (by grind);have h4:=mul_lt (show a<d*d by grind) ha;grind
     rcases sgq_three f with ⟨m,em⟩ | ⟨m,em⟩ | ⟨m,em⟩<;>rw [em]<;>rcases sgq_three (4*(a*b)-g*g) with ⟨n,en⟩ | ⟨n,en⟩ | ⟨n,en⟩<;>rw [en]<;>grind
   · exact absurd (show d*d=a by grind) hn
   · rw [ek];grind
 · have e2:=sgq_zero (show 2*d=0 by grind);rw [e,e2];grind
 · have e2:=sgq_pos (show 0<2*d by grind);rw [e,e2];grind
theorem sos_neg (d:Rat) (s:Int) (a:Rat):sos (-d) (-s) a=- sos d s a:=by
 unfold sos;rw [sgq_minus,show -d*-d=d*d from by grind];by_cases h:sgq d=-s
 · rw [if_neg om,if_neg om,Int.neg_mul]
 · rw [if_pos om,if_pos h]
theorem cmpP_neg (d:Rat) (s:Int) (a:Rat) (t:Int) (b:Rat):cmpP (-d) (-s) a (-t) b=- cmpP d s a t b:=by
 unfold cmpP;rw [sos_neg,show 2*-d=-(2*d) from by grind,sgq_minus,show -d*-d=d*d from by grind,show -(2*d)*-(2*d)=2*d*(2*d) from by grind,Int.neg_mul_neg];by_cases h:sos d s a=t
 · rw [if_neg (show ¬(-sos d s a≠-t) by omega),if_neg (show ¬(sos d s a≠t) by omega)];by_cases h2:sgq (2*d)=0
   · rw [if_pos (show -sgq (2*d)=0 by omega),if_pos h2,Int.neg_mul]
   · rw [if_neg (show ¬-sgq (2*d)=0 by omega),if_neg h2,Int.neg_mul]
 · rw [if_pos (show -sos d s a≠-t by omega),if_pos h]
theorem rts_neg (s:Int) (a:Rat) (t:Int) (b:Rat):rts (-s) a (-t) b=- rts s a t b:=by
 unfold rts;rw [Int.neg_mul,Int.neg_mul];generalize s*sgq a=x;generalize t*sgq b=y;by_cases h:x=y
 · rw [if_neg om,if_neg om,Int.neg_mul]
 · rw [if_pos om,if_pos h];by_cases h2:x>y
   · rw [if_neg om,if_pos h2]
   · rw [if_pos om,if_neg h2]
     rfl
theorem cmpF_neg (d:Rat) (s:Int) (a:Rat) (t:Int) (b e:Rat):cmpF (-d) (-s) a (-t) b e=- cmpF d s a t b e:=by
 unfold cmpF;rw [rts_neg,sgq_minus,show -d*-d=d*d from by grind];generalize rts s a t b=B;generalize sgq d=A;generalize sg2 (d*d-(a+b)) e (a*b)=C;by_cases h1:A=B∨B=0
 · rw [if_pos om,if_pos h1]
 · rw [if_neg om,if_neg h1];by_cases h2:A=0
   · rw [if_pos om,if_pos h2]
   · rw [if_neg om,if_neg h2];by_cases h3:0<C
     · rw [if_pos h3,if_pos h3]
     · rw [if_neg h3,if_neg h3];by_cases h4:C<0
       · rw [if_pos h4,if_pos h4]
       · rw [if_neg h4,if_neg h4]
         rfl
theorem cmp_all (ha:0<a) (hb:0<b) (hn:d*d≠a) {s t:Int} (hs:s=1∨s=-1) (ht:t=1∨t=-1):cmpP d s a t b=cmpF d s a t b (if s=t then 2 else -2):=by
 have hn2:-d*-d≠a:=by rw [show -d*-d=d*d from by grind];exact hn
 have hp:=cmp_pp (d:=-d) ha hb hn2;have hm:=cmp_pm (d:=-d) ha hb hn2;rcases hs with rfl | rfl<;>rcases ht with rfl | rfl
 · exact cmp_pp ha hb hn
 · exact cmp_pm ha hb hn
 · have h1:=cmpP_neg d (-1) a 1 b;have h2:=cmpF_neg d (-1) a 1 b (-2);rw [show (-(-1:Int))=1 from rfl] at h1 h2;rw [if_neg dc];omega
 · have h1:=cmpP_neg d (-1) a (-1) b;have h2:=cmpF_neg d (-1) a (-1) b 2;rw [show (-(-1:Int))=1 from rfl] at h1 h2;rw [if_pos rfl];omega
theorem sos_sg2 {p r:Rat} (hr:0<r):sos p 1 r=sg2 p 1 r∧sos p (-1) r=sg2 p (-1) r:=by
 unfold sos sg2;rw [sgq_pos hr,show sgq (1:Rat)=1 from by decide,show sgq (-1:Rat)=-1 from by decide,show (1:Rat)*1*r=r from by grind,show (-1:Rat)*-1*r=r from by grind];have h:=sgq_minus (r-p*p);rw [show -(r-p*p)=p*p-r from by grind] at h;rw [h];rcases sgq_three p with ⟨k,e⟩ | ⟨k,e⟩ | ⟨k,e⟩<;>rcases sgq_three (r-p*p) with ⟨l,f⟩ | ⟨l,f⟩ | ⟨l,f⟩<;>rw [e,f]<;>grind
end
theorem rat_arch (x:Rat):∃ n:Nat,x<(n:Rat):=by
 refine ⟨x.num.natAbs+1,?_⟩;rw [Rat.lt_iff];show x.num*((((x.num.natAbs+1:Nat):Rat)).den:Int)<(((x.num.natAbs+1:Nat):Rat)).num*(x.den:Int);rw [Rat.den_natCast,Rat.num_natCast];have h:=x.den_pos;have h1:(1:Int)≤(x.den:Int):=om;have h2:=Int.mul_le_mul_of_nonneg_left h1 (show (0:Int)≤((x.num.natAbs+1:Nat):Int) by omega);omega
theorem half_step {a u:Rat} (ha:0<a) (hu:0<u) (h:a<u*u):∃ v:Rat,0<v∧a<v*v∧2*(v*v-a)≤u*u-a:=by
 have hne:(2*u:Rat)≠0:=by grind
 obtain ⟨w,hw⟩:∃ w:Rat,2*u*w=1:=⟨(2*u)⁻¹,Rat.mul_inv_cancel _ hne⟩
 have hw0:0<w:=by
  by_cases h1:0<w
  · exact h1
  · have h2:=Rat.mul_nonneg (show 0≤2*u by grind) (show 0≤-w by grind);grind
 have hE:0<(u*u-a)*w:=Rat.mul_pos (by grind) hw0;have e:(u*u+a)*w*((u*u+a)*w)-a=(u*u-a)*w*((u*u-a)*w):=by grind
 have hEE:=Rat.mul_pos hE hE;refine ⟨(u*u+a)*w,Rat.mul_pos (by grind) hw0,by grind,?_⟩;rw [e]
 have h3:(u*u-a)*w≤u*u*w:=by
  have:=Rat.mul_pos ha hw0;grind
 have h4:=Rat.mul_le_mul_of_nonneg_left h3 (Rat.le_of_lt hE);have h5:(u*u-a)*w*(u*u*w)*4=u*u-a:=by grind
 grind
theorem approx {a:Rat} (ha:0<a) {ε:Rat} (hε:0<ε):∃ u:Rat,0<u∧a<u*u∧u*u<a+ε:=by
 have hall:∀ n:Nat,∃ u:Rat,0<u∧a<u*u∧((2^n:Nat):Rat)*(u*u-a)≤(a+1)*(a+1)-a:=fun n=>by
  induction n with
  | zero=>exact ⟨a+1,by grind,by have:=Rat.mul_pos ha ha;grind,by rw [Nat.pow_zero];show (1:Rat)*_≤_;grind⟩
  | succ n ih =>
    obtain ⟨u,h1,h2,h3⟩:=ih;obtain ⟨v,k1,k2,k3⟩:=half_step ha h1 h2;refine ⟨v,k1,k2,?_⟩;have hp:(0:Rat)≤((2^n:Nat):Rat):=Rat.natCast_nonneg;have h4:=Rat.mul_le_mul_of_nonneg_left k3 hp;rw [Nat.pow_succ,Rat.natCast_mul];show ((2^n:Nat):Rat)*(2:Rat)*_≤_;grind
 obtain ⟨w,hw⟩:∃ w:Rat,ε*w=1:=⟨ε⁻¹,Rat.mul_inv_cancel _ (by grind)⟩
 have hw0:0<w:=by
  by_cases h1:0<w
  · exact h1
  · have h2:=Rat.mul_nonneg (Rat.le_of_lt hε) (show 0≤-w by grind);grind
 obtain ⟨n,hn⟩:=rat_arch (((a+1)*(a+1)-a)*w);obtain ⟨u,h1,h2,h3⟩:=hall n;refine ⟨u,h1,h2,?_⟩;have h4:(n:Rat)≤((2^n:Nat):Rat):=Rat.natCast_le_natCast.2 (Nat.le_of_lt Nat.lt_two_pow_self);have h5:=mul_lt hn hε;have h6:=Rat.mul_le_mul_of_nonneg_right h4 (Rat.le_of_lt hε)
 have hp:(0:Rat)<((2^n:Nat):Rat):=by
  have:(0:Rat)<(1:Rat):=by decide
  have h7:((1:Nat):Rat)≤((2^n:Nat):Rat):=Rat.natCast_le_natCast.2 Nat.one_le_two_pow;grind
 by_cases h8:u*u<a+ε
 · exact h8
 · have h9:=Rat.mul_le_mul_of_nonneg_left (show ε≤u*u-a by grind) (Rat.le_of_lt hp);have h10:((a+1)*(a+1)-a)*w*ε=(a+1)*(a+1)-a:=by grind
   rw [h10] at h5;exact absurd (Rat.le_trans h6 (Rat.le_trans h9 h3)) (Rat.not_le.2 h5)
structure SimpP (I:Nat→Nat→Prop) (n m:Nat):Prop where
 inn:I n m
 cop:Nat.gcd n m=1
 min:∀ p q,I p q→n≤p∧m≤q
theorem SimpP.congr {I J:Nat→Nat→Prop} {n m:Nat} (h:SimpP I n m) (e:∀ p q,I p q↔J p q):SimpP J n m :=
 ⟨(e _ _).1 h.inn,h.cop,fun p q hq=>h.min p q ((e _ _).2 hq)⟩
theorem SimpP.one {I:Nat→Nat→Prop} {n m n' m':Nat} (h:SimpP I n m) (h':SimpP I n' m'):n=n'∧m=m':=by
 have h1:=h.min _ _ h'.inn;have h2:=h'.min _ _ h.inn;omega
theorem simpP_int {I:Nat→Nat→Prop} {f:Nat} (hin:I (f+1) 1) (hlow:∀ p q,I p q→0<q∧f*q<p):SimpP I (f+1) 1:=by
 refine ⟨hin,Nat.gcd_one_right _,fun p q h=>?_⟩;obtain ⟨h1,h2⟩:=hlow p q h;have h3:f*1≤f*q:=Nat.mul_le_mul_left f h1;omega
theorem simpP_turn {I:Nat→Nat→Prop} {f n m:Nat} (hlow:∀ p q,I p q→f*q<p) (h:SimpP (fun a b=>I (f*a+b) a) n m):SimpP I (f*n+m) n:=by
 refine ⟨h.inn,?_,fun p q hq=>?_⟩
 · rw [Nat.gcd_comm,Nat.add_comm,Nat.mul_comm,Nat.gcd_add_mul_left_right,Nat.gcd_comm];rw [Nat.gcd_comm];exact h.cop
 · have h1:=hlow p q hq;have h2:=h.min q (p-f*q) (by show I (f*q+(p-f*q)) q;rw [show f*q+(p-f*q)=p by omega];exact hq);have h3:f*n≤f*q:=Nat.mul_le_mul_left f h2.1;omega
end Go.Proofs.YtpnokfgplnmjpaaGreatDoor.Sg
