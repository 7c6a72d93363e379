set_option linter.unusedSimpArgs false
set_option linter.unusedVariables false

namespace Go.Proofs.YtdbhahiieokplaaGreatDoor

def val (b:Nat) (f:Nat→Nat):Nat→Nat
 | 0=>0
 | n+1=>val b f n+f n*b^n

theorem val_zero (b:Nat) (f:Nat→Nat):val b f 0=0:=rfl
theorem val_succ (b:Nat) (f:Nat→Nat) (n:Nat):val b f (n+1)=val b f n+f n*b^n:=rfl

theorem val_congr {b:Nat} {f g:Nat→Nat} {n:Nat} (h:∀ i,i<n→f i=g i):val b f n=val b g n:=by
 induction n with
 | zero=>rfl
 | succ n ih=>rw [val_succ,val_succ,ih (fun i hi=>h i (by omega)),h n (by omega)]

theorem val_lt {b:Nat} {f:Nat→Nat} {n:Nat} (h:∀ i,i<n→f i<b):val b f n<b^n:=by
 induction n with
 | zero=>simp [val_zero]
 | succ n ih =>
   have h1:=ih (fun i hi=>h i (by omega))
   have h2:(f n+1)*b^n≤b*b^n:=Nat.mul_le_mul_right _ (h n (by omega))
   rw [val_succ,Nat.pow_succ',]
   rw [Nat.add_mul] at h2
   omega

theorem val_add (b:Nat) (f:Nat→Nat) (m n:Nat):val b f (m+n)=val b f m+b^m*val b (fun i=>f (m+i)) n:=by
 induction n with
 | zero=>simp [val_zero]
 | succ n ih =>
   rw [←Nat.add_assoc,val_succ,val_succ,ih,Nat.pow_add]
   grind

theorem val_head (b:Nat) (f:Nat→Nat) (n:Nat):val b f (n+1)=f 0+b*val b (fun i=>f (i+1)) n:=by
 have:=val_add b f 1 n
 rw [Nat.add_comm 1 n] at this
 rw [this]
 simp [val,Nat.add_comm]

theorem val_zeros {b:Nat} {f:Nat→Nat} {m n:Nat} (hmn:m≤n) (h:∀ i,m≤i→i<n→f i=0):val b f n=val b f m:=by
 induction n with
 | zero => have : m = 0 := by omega
           rw [this]
 | succ n ih =>
   by_cases e:m=n+1
   · rw [e]
   · rw [val_succ,h n (by omega) (by omega),ih (by omega) (fun i hi hi'=>h i hi (by omega))]
     simp

theorem val_pos {b:Nat} {f:Nat→Nat} {n:Nat} (hb:0<b) (hn:0<n) (h:f (n-1)≠0):b^(n-1)≤val b f n:=by
 obtain ⟨m,rfl⟩:∃ m,n=m+1:=⟨n-1,by omega⟩
 rw [val_succ,Nat.add_sub_cancel] at *
 have:1*b^m≤f m*b^m:=Nat.mul_le_mul_right _ (by omega)
 omega

theorem val_inj {b:Nat} {f g:Nat→Nat} {n:Nat} (hf:∀ i,i<n→f i<b) (hg:∀ i,i<n→g i<b) (h:val b f n=val b g n):∀ i,i<n→f i=g i:=by
 induction n with
 | zero=>intro i hi;omega
 | succ n ih =>
   rw [val_succ,val_succ] at h
   have h1:=val_lt (b:=b) (f:=f) (n:=n) (fun i hi=>hf i (by omega))
   have h2:=val_lt (b:=b) (f:=g) (n:=n) (fun i hi=>hg i (by omega))
   have hp:0<b^n:=by omega
   have e1:f n=g n:=by
    have a1:(val b f n+f n*b^n) / b^n=f n:=by
     rw [Nat.add_mul_div_right _ _ hp,Nat.div_eq_of_lt h1];omega
    have a2:(val b g n+g n*b^n) / b^n=g n:=by
     rw [Nat.add_mul_div_right _ _ hp,Nat.div_eq_of_lt h2];omega
    rw [←a1,←a2,h]
   rw [e1] at h
   intro i hi
   by_cases e:i=n
   · rw [e,e1]
   · exact ih (fun i hi=>hf i (by omega)) (fun i hi=>hg i (by omega)) (by omega) i (by omega)


def carry (b:Nat) (f g:Nat→Nat):Nat→Nat
 | 0=>0
 | i+1=>(f i+g i+carry b f g i) / b


def D (b V i:Nat):Nat:=V / b^i%b

theorem D_lt {b:Nat} (hb:0<b) (V i:Nat):D b V i<b:=Nat.mod_lt _ hb

theorem D_zero_of {b V n i:Nat} (hb:0<b) (hV:V<b^n) (hi:n≤i):D b V i=0:=by
 unfold D
 have:b^n≤b^i:=Nat.pow_le_pow_right hb hi
 rw [Nat.div_eq_of_lt (by omega)]
 simp

theorem mod_succ (b V k:Nat):V%b^(k+1)=V%b^k+b^k*D b V k:=Nat.mod_pow_succ

theorem val_D (b V n:Nat):val b (D b V) n=V%b^n:=by
 induction n with
 | zero=>simp [val,Nat.mod_one]
 | succ n ih=>rw [val_succ,ih,mod_succ,Nat.mul_comm]

theorem D_of {b:Nat} {f:Nat→Nat} {n V:Nat} (hb:0<b) (hf:∀ i,i<n→f i<b) (h:val b f n=V):V<b^n∧∀ i,i<n→f i=D b V i:=by
 have h1:=val_lt hf
 rw [h] at h1
 refine ⟨h1,val_inj hf (fun i _=>D_lt hb V i) ?_⟩
 rw [h,val_D,Nat.mod_eq_of_lt h1]

theorem div_D (b V k:Nat):V / b^k=b*(V / b^(k+1))+D b V k:=by
 unfold D
 rw [Nat.pow_succ,←Nat.div_div_eq_div_mul]
 exact (Nat.div_add_mod _ _).symm

def car (b U x Y k:Nat):Nat:=(U%b^k+x*(Y%b^k)) / b^k

theorem car_zero (b U x Y:Nat):car b U x Y 0=0:=by simp [car,Nat.mod_one]

theorem car_step {b:Nat} (hb:0<b) (U x Y k:Nat):(D b U k+x*D b Y k+car b U x Y k) / b=car b U x Y (k+1)∧(D b U k+x*D b Y k+car b U x Y k)%b=D b (U+x*Y) k:=by
 have hp:0<b^k:=Nat.pow_pos hb
 constructor
 · have e : U % b ^ (k + 1) + x * (Y % b ^ (k + 1)) = (U % b ^ k + x * (Y % b ^ k)) + b ^ k * (D b U k + x * D b Y k) := by
    rw [mod_succ,mod_succ];grind
   show _=(U%b^(k+1)+x*(Y%b^(k+1))) / b^(k+1)
   rw [e,Nat.pow_succ,←Nat.div_div_eq_div_mul,Nat.add_mul_div_left _ _ hp]
   unfold car
   congr 1
   omega
 · have e : U + x * Y = (U % b ^ k + x * (Y % b ^ k)) + b ^ k * (U / b ^ k + x * (Y / b ^ k)) := by
    have h1:=Nat.mod_add_div U (b^k)
    have h2:=Nat.mod_add_div Y (b^k)
    generalize U%b^k=a at *
    generalize Y%b^k=d at *
    generalize U / b^k=p at *
    generalize Y / b^k=q at *
    rw [←h1,←h2]
    grind
   have e2:(U+x*Y) / b^k=car b U x Y k+(U / b^k+x*(Y / b^k)):=by
    conv=>lhs;rw [e]
    rw [Nat.add_mul_div_left _ _ hp]
    rfl
   unfold D
   rw [e2]
   simp only [Nat.add_mod,Nat.mul_mod,Nat.mod_mod]
   congr 1
   omega

theorem car_lt {b:Nat} (hb:0<b) {x:Nat} (hx:x<b) (U Y k:Nat):car b U x Y k≤x:=by
 have hp:0<b^k:=Nat.pow_pos hb
 unfold car
 have h1:=Nat.mod_lt U hp
 have h2:=Nat.mod_lt Y hp
 have h3:x*(Y%b^k)≤x*(b^k-1):=Nat.mul_le_mul_left _ (by omega)
 have h4:x*(b^k-1)+x=x*b^k:=by
  obtain ⟨m,hm⟩:∃ m,b^k=m+1:=⟨b^k-1,by omega⟩
  rw [hm,Nat.add_sub_cancel,Nat.mul_add,Nat.mul_one]
 have:(U%b^k+x*(Y%b^k)) / b^k<x+1:=by
  apply Nat.div_lt_of_lt_mul
  rw [Nat.mul_add,Nat.mul_one,Nat.mul_comm (b^k) x]
  omega
 omega

theorem car_end {b U x Y k:Nat} (hU:U<b^k) (hY:Y<b^k):car b U x Y k=(U+x*Y) / b^k:=by
 unfold car
 rw [Nat.mod_eq_of_lt hU,Nat.mod_eq_of_lt hY]

theorem lt_of_car {b U x Y k:Nat} (hb:0<b) (hU:U<b^k) (hY:Y<b^k) (h:car b U x Y k=0):U+x*Y<b^k:=by
 rw [car_end hU hY] at h
 have hp:0<b^k:=Nat.pow_pos hb
 rcases Nat.lt_or_ge (U+x*Y) (b^k) with h1 | h1
 · exact h1
 · have:=Nat.div_pos h1 hp
   omega

def bor (b X Y k:Nat):Nat:=if X%b^k<Y%b^k then 1 else 0

theorem bor_zero (b X Y:Nat):bor b X Y 0=0:=by simp [bor,Nat.mod_one]
theorem bor_le (b X Y k:Nat):bor b X Y k≤1:=by unfold bor;split<;>omega

theorem bor_step {b:Nat} (hb:0<b) (X Y k:Nat):bor b X Y (k+1)=if D b X k<D b Y k+bor b X Y k then 1 else 0:=by
 have hp:0<b^k:=Nat.pow_pos hb
 have h1:=Nat.mod_lt X hp
 have h2:=Nat.mod_lt Y hp
 have key:X%b^(k+1)<Y%b^(k+1)↔D b X k<D b Y k+bor b X Y k:=by
  rw [mod_succ,mod_succ]
  generalize D b X k=x
  generalize D b Y k=y
  unfold bor
  generalize X%b^k=xm at *
  generalize Y%b^k=ym at *
  generalize b^k=p at *
  rcases Nat.lt_trichotomy x y with h | h | h
  · have:p*(x+1)≤p*y:=Nat.mul_le_mul_left _ h
    rw [Nat.mul_add,Nat.mul_one] at this
    constructor
    · intro _;split<;>omega
    · intro _;omega
  · subst h
    split<;>constructor<;>intro _<;>omega
  · have:p*(y+1)≤p*x:=Nat.mul_le_mul_left _ h
    rw [Nat.mul_add,Nat.mul_one] at this
    constructor
    · intro _;omega
    · intro _;split at*<;> omega
 rw [bor]
 by_cases h:X%b^(k+1)<Y%b^(k+1)
 · rw [if_pos h,if_pos (key.1 h)]
 · rw [if_neg h,if_neg (fun h'=>h (key.2 h'))]

theorem dif_digit {b:Nat} (hb:0<b) {X Y:Nat} (hXY:Y≤X) (k:Nat):D b (X-Y) k=if D b X k<D b Y k+bor b X Y k then D b X k+b-D b Y k-bor b X Y k else D b X k-D b Y k-bor b X Y k:=by
 -- X=(X-Y)+Y: the sum's digit and carry
 obtain ⟨Z,rfl⟩:∃ Z,X=Z+Y:=⟨X-Y,by omega⟩
 rw [Nat.add_sub_cancel]
 have hs:=(car_step hb Z 1 Y k).2
 simp only [Nat.one_mul] at hs
 have hc:=car_lt (b:=b) hb (x:=1)
 have hcar:car b Z 1 Y k=bor b (Z+Y) Y k:=by
  have hp:0<b^k:=Nat.pow_pos hb
  unfold car bor
  rw [Nat.one_mul]
  have h1:=Nat.mod_lt Z hp
  have h2:=Nat.mod_lt Y hp
  rw [Nat.add_mod]
  generalize Z%b^k=z at *
  generalize Y%b^k=y at *
  generalize b^k=p at *
  rcases Nat.lt_or_ge (z+y) p with h | h
  · rw [Nat.mod_eq_of_lt h,Nat.div_eq_of_lt h,if_neg (by omega)]
  · have h3:(z+y)%p=z+y-p:=by rw [Nat.mod_eq_sub_mod h,Nat.mod_eq_of_lt (by omega)]
    have h4:(z+y) / p=1:=Nat.div_eq_of_lt_le (by omega) (by omega)
    rw [h3,h4,if_pos (by omega)]
 rw [hcar] at hs
 have l1:=D_lt hb Z k
 have l2:=D_lt hb Y k
 have l3:=bor_le b (Z+Y) Y k
 generalize D b Z k=z at *
 generalize D b Y k=y at *
 generalize D b (Z+Y) k=x at *
 generalize bor b (Z+Y) Y k=t at *
 rcases Nat.lt_or_ge (z+y+t) b with h | h
 · rw [Nat.mod_eq_of_lt h] at hs
   rw [if_neg (by omega)];omega
 · rw [Nat.mod_eq_sub_mod h,Nat.mod_eq_of_lt (by omega)] at hs
   rw [if_pos (by omega)];omega

def ord (X Y:Nat):Int:=if X<Y then -1 else if Y<X then 1 else 0

theorem ord_lt {X Y:Nat} (h:X<Y):ord X Y=-1:=by simp [ord,h]
theorem ord_gt {X Y:Nat} (h:Y<X):ord X Y=1:=by simp [ord,h];omega
theorem ord_eq (X:Nat):ord X X=0:=by simp [ord]

theorem lt_of_digit {b X Y k:Nat} (he:X / b^(k+1)=Y / b^(k+1)) (h:D b X k<D b Y k):X<Y:=by
 have h1:=div_D b X k
 have h2:=div_D b Y k
 rw [he] at h1
 have:X / b^k<Y / b^k:=by omega
 rcases Nat.lt_or_ge X Y with h3 | h3
 · exact h3
 · have:=Nat.div_le_div_right (c:=b^k) h3
   omega


def dig (s:ByteArray) (i:Nat):Nat:=if h:i<s.size then (s[s.size-1-i]'(by omega)).toNat else 0
def bval (s:ByteArray):Nat:=val 256 (dig s) s.size
def Lead (s:ByteArray):Prop:=∀ h:0<s.size,(s[0]'h).toNat≠0

theorem dig_lt (s:ByteArray) (i:Nat):dig s i<256:=by
 unfold dig
 split
 · exact UInt8.toNat_lt _
 · omega

theorem bval_lt (s:ByteArray):bval s<256^s.size:=val_lt fun i _=>dig_lt s i

def magL (n:Nat):List UInt8:=if h:n=0 then [] else magL (n / 256)++[UInt8.ofNat (n%256)]
termination_by n
decreasing_by omega
def mag (n:Nat):ByteArray:=⟨(magL n).toArray⟩

theorem magL_zero:magL 0=[]:=by rw [magL];simp
theorem magL_pos {n:Nat} (h:n≠0):magL n=magL (n / 256)++[UInt8.ofNat (n%256)]:=by rw [magL];simp [h]

theorem getElem_mag (n i:Nat) (h:i<(mag n).size):(mag n)[i]=(magL n)[i]'(by simpa [mag,ByteArray.size] using h):=by
 simp [mag,ByteArray.getElem_eq_getElem_data]

theorem size_mag (n:Nat):(mag n).size=(magL n).length:=by simp [mag,ByteArray.size]

theorem ext_bytes {s t:ByteArray} (hn:s.size=t.size) (h:∀ i (h1:i<s.size) (h2:i<t.size),s[i]=t[i]):s=t:=by
 apply ByteArray.ext
 apply Array.ext
 · exact hn
 · intro i h1 h2
   have:=h i h1 h2
   rwa [ByteArray.getElem_eq_getElem_data,ByteArray.getElem_eq_getElem_data] at this

theorem dig_top {s:ByteArray} (hs:Lead s) (h:0<s.size):dig s (s.size-1)≠0:=by
 unfold dig
 rw [dif_pos (by omega)]
 have:=hs h
 have e:s.size-1-(s.size-1)=0:=by omega
 simpa [e] using this

theorem lead_size {s t:ByteArray} (hs:Lead s) (h:bval s=bval t):s.size≤t.size:=by
 by_cases hlt:t.size<s.size
 · have h0:=dig_top hs (by omega)
   have h1:=val_pos (b:=256) (f:=dig s) (n:=s.size) (by omega) (by omega) h0
   have h2:=bval_lt t
   have h3:256^t.size≤256^(s.size-1):=Nat.pow_le_pow_right (by omega) (by omega)
   have h4:bval s=val 256 (dig s) s.size:=rfl
   omega
 · omega

theorem lead_inj {s t:ByteArray} (hs:Lead s) (ht:Lead t) (h:bval s=bval t):s=t:=by
 have hn:s.size=t.size:=Nat.le_antisymm (lead_size hs h) (lead_size ht h.symm)
 refine ext_bytes hn fun i h1 h2=>?_
 have hv:val 256 (dig s) s.size=val 256 (dig t) s.size:=by
  have h4:bval s=val 256 (dig s) s.size:=rfl
  have h5:bval t=val 256 (dig t) t.size:=rfl
  rw [←h4,h,h5,hn]
 have hd:=val_inj (fun i _=>dig_lt s i) (fun i _=>dig_lt t i) hv (s.size-1-i) (by omega)
 unfold dig at hd
 rw [dif_pos (by omega),dif_pos (by omega)] at hd
 have e1:s.size-1-(s.size-1-i)=i:=by omega
 have e2:t.size-1-(s.size-1-i)=i:=by omega
 have hd':(s[i]).toNat=(t[i]).toNat:=by
  simpa [e1,e2] using hd
 exact UInt8.toNat_inj.1 hd'

theorem magL_head {n:Nat} (h:n≠0):∃ c l,magL n=c :: l∧c.toNat≠0:=by
 induction n using Nat.strongRecOn with
 | _ n ih =>
   rw [magL_pos h]
   by_cases e:n / 256=0
   · refine ⟨UInt8.ofNat (n%256),[],by rw [e,magL_zero];rfl,?_⟩
     have:n%256=n:=Nat.mod_eq_of_lt (by omega)
     rw [this]
     simp only [UInt8.toNat_ofNat']
     omega
   · obtain ⟨c,l,h1,h2⟩:=ih (n / 256) (by omega) e
     exact ⟨c,l++[UInt8.ofNat (n%256)],by rw [h1];rfl,h2⟩

theorem lead_mag (n:Nat):Lead (mag n):=by
 intro h
 by_cases e:n=0
 · subst e;rw [size_mag,magL_zero] at h;simp at h
 · obtain ⟨c,l,h1,h2⟩:=magL_head e
   rw [getElem_mag]
   simpa [h1] using h2

theorem bval_magL (n:Nat):∀ s:ByteArray,s.data.toList=magL n→bval s=n:=by
 induction n using Nat.strongRecOn with
 | _ n ih =>
   intro s hs
   by_cases e:n=0
   · subst e
     rw [magL_zero] at hs
     have:s.size=0:=by simpa using congrArg List.length hs
     unfold bval
     rw [this]
     rfl
   · rw [magL_pos e] at hs
     have ih':=ih (n / 256) (by omega) ⟨(magL (n / 256)).toArray⟩ rfl
     have hl:s.size=(magL (n / 256)).length+1:=by simpa using congrArg List.length hs
     have hg:∀ i (h:i<s.size),(s[i])=(magL (n / 256)++[UInt8.ofNat (n%256)])[i]'(by simp;omega):=by
      intro i h
      rw [ByteArray.getElem_eq_getElem_data,←Array.getElem_toList]
      simp only [hs]
     unfold bval
     rw [hl,val_head]
     have h0:dig s 0=n%256:=by
      unfold dig
      rw [dif_pos (by omega),hg]
      rw [List.getElem_append_right (by omega)]
      simp
     have h1:val 256 (fun i=>dig s (i+1)) (magL (n / 256)).length=bval ⟨(magL (n / 256)).toArray⟩:=by
      unfold bval
      have e2:(ByteArray.mk (magL (n / 256)).toArray).size=(magL (n / 256)).length:=by simp [ByteArray.size]
      rw [e2]
      refine val_congr fun i hi=>?_
      unfold dig
      rw [dif_pos (by omega),dif_pos (by omega),hg]
      rw [List.getElem_append_left (by omega)]
      rw [ByteArray.getElem_eq_getElem_data]
      simp only [e2,List.getElem_toArray]
      congr 2
      omega
     rw [h0,h1,ih']
     omega

theorem dig_eq (s:ByteArray) (i:Nat):dig s i=D 256 (bval s) i:=by
 obtain ⟨h1,h2⟩:=D_of (b:=256) (f:=dig s) (n:=s.size) (V:=bval s) (by omega) (fun i _=>dig_lt s i) rfl
 by_cases hi:i<s.size
 · exact h2 i hi
 · rw [D_zero_of (by omega) h1 (by omega)]
   unfold dig
   rw [dif_neg hi]

theorem bval_mag (n:Nat):bval (mag n)=n:=bval_magL n _ rfl

theorem mag_of {s:ByteArray} (h:Lead s):s=mag (bval s):=lead_inj h (lead_mag _) (bval_mag _).symm

theorem mag_size_le {n k:Nat} (h:n<256^k):(mag n).size≤k:=by
 by_cases e:(mag n).size=0
 · omega
 · have h0:=dig_top (lead_mag n) (by omega)
   have h1:=val_pos (b:=256) (f:=dig (mag n)) (n:=(mag n).size) (by omega) (by omega) h0
   have h2:bval (mag n)=n:=bval_mag n
   unfold bval at h2
   by_cases hk:k≤(mag n).size-1
   · have:256^k≤256^((mag n).size-1):=Nat.pow_le_pow_right (by omega) hk
     omega
   · omega

theorem lt_of_mag {n:Nat}:n<256^(mag n).size:=by
 have:=bval_lt (mag n)
 rwa [bval_mag] at this

theorem mag_zero_iff {n:Nat}:(mag n).size=0↔n=0:=by
 constructor
 · intro h
   have:=lt_of_mag (n:=n)
   rw [h] at this
   omega
 · rintro rfl
   rw [size_mag,magL_zero];rfl

theorem mag_inj {m n:Nat} (h:mag m=mag n):m=n:=by rw [←bval_mag m,h,bval_mag]

def ival (neg:Bool) (s:ByteArray):Int:=if neg then -(bval s:Int) else bval s
def Canon (neg:Bool) (s:ByteArray):Prop:=Lead s∧(s.size=0→neg=false)

theorem canon_eq {neg:Bool} {s:ByteArray} (h:Canon neg s):neg=decide (ival neg s<0)∧s=mag (ival neg s).natAbs:=by
 have hs:=mag_of h.1
 have hn:(ival neg s).natAbs=bval s:=by unfold ival;split<;>omega
 refine ⟨?_,by rw [hn];exact hs⟩
 by_cases e:s.size=0
 · have hz:bval s=0:=by unfold bval;rw [e];rfl
   simp [h.2 e,ival]
 · have : bval s ≠ 0 := by
    intro h0
    rw [h0] at hs
    exact e (by rw [hs];exact mag_zero_iff.2 rfl)
   cases neg
   · simp [ival]
   · simp [ival];omega

end Go.Proofs.YtdbhahiieokplaaGreatDoor


namespace Go.Proofs.YtdbhahiieokplaaGreatDoor

def nd (V:Nat):Nat:=(mag V).size

theorem nd_lt (V:Nat):V<256^nd V:=lt_of_mag
theorem nd_zero:nd 0=0:=mag_zero_iff.2 rfl
theorem nd_zero_iff {V:Nat}:nd V=0↔V=0:=mag_zero_iff
theorem nd_le {V n:Nat} (h:V<256^n):nd V≤n:=mag_size_le h
theorem nd_top {V:Nat} (h:0<nd V):D 256 V (nd V-1)≠0:=by
 have h1:=dig_top (lead_mag V) h
 rw [dig_eq,bval_mag] at h1
 exact h1
theorem nd_of {V n:Nat} (h1:V<256^n) (h2:0<n→D 256 V (n-1)≠0):n=nd V:=by
 have h3:=nd_le h1
 rcases Nat.lt_or_ge (nd V) n with h4 | h4
 · exact absurd (D_zero_of (b:=256) (by omega) (nd_lt V) (i:=n-1) (by omega)) (h2 (by omega))
 · omega
theorem nd_low {V:Nat} (h:0<nd V):256^(nd V-1)≤V:=by
 rcases Nat.lt_or_ge V (256^(nd V-1)) with h1 | h1
 · exact absurd (D_zero_of (b:=256) (by omega) h1 (i:=nd V-1) (Nat.le_refl _)) (nd_top h)
 · exact h1
theorem nd_pos {V:Nat} (h:0<V):0<nd V:=by
 rcases Nat.eq_zero_or_pos (nd V) with h1 | h1
 · rw [nd_zero_iff] at h1;omega
 · exact h1
theorem lt_of_nd {X Y:Nat} (h:nd X<nd Y):X<Y:=by
 have h1:=nd_lt X
 have h2:=nd_low (V:=Y) (by omega)
 have h3:256^nd X≤256^(nd Y-1):=Nat.pow_le_pow_right (by omega) (by omega)
 omega
theorem nd_mono {X Y:Nat} (h:X≤Y):nd X≤nd Y:=nd_le (Nat.lt_of_le_of_lt h (nd_lt Y))
theorem nd_one:nd 1=1:=by
 have h1:=nd_le (V:=1) (n:=1) (by omega)
 have h2:=nd_pos (V:=1) (by omega)
 omega
theorem nd_add (X Y:Nat):nd (X+Y)≤max (nd X) (nd Y)+1:=by
 apply nd_le
 have h1:256^nd X≤256^max (nd X) (nd Y):=Nat.pow_le_pow_right (by omega) (by omega)
 have h2:256^nd Y≤256^max (nd X) (nd Y):=Nat.pow_le_pow_right (by omega) (by omega)
 have h3:=nd_lt X
 have h4:=nd_lt Y
 rw [Nat.pow_succ]
 omega
theorem nd_mul (X Y:Nat):nd (X*Y)≤nd X+nd Y:=by
 apply nd_le
 rw [Nat.pow_add]
 exact Nat.mul_lt_mul'' (nd_lt X) (nd_lt Y)
theorem nd_div (X Y:Nat):nd (X / Y)≤nd X:=nd_mono (Nat.div_le_self _ _)


theorem mkRat_parts (n:Int) {d:Nat} (hd:d≠0):(mkRat n d).num=n / (Nat.gcd n.natAbs d:Nat)∧(mkRat n d).den=d / Nat.gcd n.natAbs d:=by
 rw [Rat.num_mkRat,Rat.den_mkRat,if_neg hd,if_neg hd,Nat.gcd_comm]
 exact ⟨rfl,rfl⟩

theorem rat_of_coprime {n:Int} {d:Nat} (hd:d≠0) (h:Nat.gcd n.natAbs d=1):(mkRat n d).num=n∧(mkRat n d).den=d:=by
 obtain ⟨h1,h2⟩:=mkRat_parts n hd
 rw [h1,h2,h]
 simp

theorem int_gcd_dvd (n:Int) (d:Nat):((Nat.gcd n.natAbs d:Nat):Int) ∣ n:=Int.ofNat_dvd_left.2 (Nat.gcd_dvd_left _ _)

theorem add_parts (a b:Rat) {g q' s':Nat} {t:Int} (hg:g=Nat.gcd a.den b.den) (hq:q'=a.den / g) (hs:s'=b.den / g) (ht:t=a.num*s'+b.num*q') :
  (a+b).num=t / (Nat.gcd t.natAbs g:Nat)∧(a+b).den=q'*(b.den / Nat.gcd t.natAbs g):=by
 have haux:=Rat.add.aux a b hg hq hs
 simp only [←ht] at haux
 have hgpos:0<g:=hg ▸ Nat.gcd_pos_of_pos_left _ a.den_pos
 have e1:q'*g=a.den:=by rw [hq,Nat.div_mul_cancel (hg ▸ Nat.gcd_dvd_left _ _)]
 have e2:s'*g=b.den:=by rw [hs,Nat.div_mul_cancel (hg ▸ Nat.gcd_dvd_right _ _)]
 have hn:a.num*(b.den:Int)+b.num*(a.den:Int)=t*(g:Int):=by
  rw [ht,←e1,←e2,Int.natCast_mul,Int.natCast_mul,Int.add_mul,←Int.mul_assoc,←Int.mul_assoc]
 have hd:a.den*b.den=q'*b.den*g:=by rw [←e1,Nat.mul_right_comm]
 have hq0:q'*b.den≠0:=by
  have h1:q'≠0:=fun h=>by rw [h,Nat.zero_mul] at e1;exact a.den_nz e1.symm
  exact Nat.mul_ne_zero h1 b.den_nz
 have hdv:Nat.gcd t.natAbs g ∣ b.den:=Nat.dvd_trans (Nat.gcd_dvd_right _ _) (hg ▸ Nat.gcd_dvd_right _ _)
 rw [Rat.add_def',hn,hd,Rat.mkRat_mul_right (by omega)]
 obtain ⟨h1,h2⟩:=mkRat_parts t hq0
 rw [h1,h2,haux]
 refine ⟨rfl,?_⟩
 rw [←haux,Nat.mul_div_assoc _ hdv]

theorem sub_parts (a b:Rat) {g q' s':Nat} {t:Int} (hg:g=Nat.gcd a.den b.den) (hq:q'=a.den / g) (hs:s'=b.den / g) (ht:t=a.num*s'-b.num*q') :
  (a-b).num=t / (Nat.gcd t.natAbs g:Nat)∧(a-b).den=q'*(b.den / Nat.gcd t.natAbs g):=by
 rw [Rat.sub_eq_add_neg]
 exact add_parts a (-b) hg hq hs (by rw [ht,Rat.neg_num,Int.neg_mul,Int.sub_eq_add_neg])

theorem mul_parts (a b:Rat) {g1 g2:Nat} (h1:g1=Nat.gcd a.num.natAbs b.den) (h2:g2=Nat.gcd b.num.natAbs a.den) :
  (a*b).num=a.num / (g1:Int)*(b.num / (g2:Int))∧(a*b).den=(a.den / g2)*(b.den / g1):=by
 have d1:(g1:Int) ∣ a.num:=h1 ▸ int_gcd_dvd _ _
 have d2:(g2:Int) ∣ b.num:=h2 ▸ int_gcd_dvd _ _
 have e:a*b=Rat.mul a b:=rfl
 rw [e]
 delta Rat.mul
 dsimp only
 simp only [Int.divExact_eq_tdiv,Nat.divExact_eq_div,←h1,←h2]
 rw [Int.tdiv_eq_ediv_of_dvd d1,Int.tdiv_eq_ediv_of_dvd d2]
 exact ⟨rfl,trivial⟩

theorem int_of_den {a:Rat} (h:a.den=1):a=(a.num:Rat):=Rat.ext rfl (by rw [h];rfl)

theorem divInt_parts (n d:Int) (hd:d≠0):(Rat.divInt n d).num=d.sign*n / (Nat.gcd n.natAbs d.natAbs:Nat)∧(Rat.divInt n d).den=d.natAbs / Nat.gcd n.natAbs d.natAbs:=by
 rw [Rat.num_divInt,Rat.den_divInt,if_neg hd]
 have e:Int.gcd d n=Nat.gcd n.natAbs d.natAbs:=by rw [Int.gcd_comm];rfl
 rw [e]
 exact ⟨rfl,rfl⟩
end Go.Proofs.YtdbhahiieokplaaGreatDoor


namespace Go.Proofs.YtdbhahiieokplaaGreatDoor

theorem half_start {b y1 y0 u d:Nat} (hb:2≤b) (h1:b≤2*y1) (h2:y1<b) (h0:y0<b) (hu:u<y1*b+y0) (hd:d<b) :
  (u*b+d) / (y1*b+y0)≤u / y1∧u / y1≤b+1∧(u*b+d) / (y1*b+y0)<b:=by
 have hp:0<y1:=by omega
 have hy:0<y1*b+y0:=by omega
 refine ⟨?_,?_,?_⟩
 · rw [Nat.le_div_iff_mul_le hp]
   have hq:=Nat.div_mul_le_self (u*b+d) (y1*b+y0)
   generalize (u*b+d) / (y1*b+y0)=q at *
   have e:q*(y1*b+y0)=q*y1*b+q*y0:=by rw [Nat.mul_add,Nat.mul_assoc]
   rw [e] at hq
   rcases Nat.lt_or_ge u (q*y1) with h | h
   · have:(u+1)*b≤q*y1*b:=Nat.mul_le_mul_right _ h
     rw [Nat.add_mul] at this
     omega
   · exact h
 · have : u / y1 < b + 2 := by
    rw [Nat.div_lt_iff_lt_mul hp,Nat.add_mul,Nat.mul_comm b y1]
    omega
   omega
 · rw [Nat.div_lt_iff_lt_mul hy]
   have:(u+1)*b≤(y1*b+y0)*b:=Nat.mul_le_mul_right _ hu
   rw [Nat.add_mul] at this
   have e:b*(y1*b+y0)=(y1*b+y0)*b:=Nat.mul_comm _ _
   omega

theorem half_more {b y1 y0 u d Q R:Nat} (hb:2≤b) (h1:b≤2*y1) (h0:y0<b) (hu:u<y1*b+y0) (hd:d<b) (he:Q*y1+R=u) (ht:b≤Q∨b*R+d<Q*y0) :
  (u*b+d) / (y1*b+y0)<Q:=by
 have hy:0<y1*b+y0:=by omega
 rw [Nat.div_lt_iff_lt_mul hy]
 rcases ht with ht | ht
 · have h3:b*(y1*b+y0)≤Q*(y1*b+y0):=Nat.mul_le_mul_right _ ht
   have h4:(u+1)*b≤(y1*b+y0)*b:=Nat.mul_le_mul_right _ hu
   rw [Nat.add_mul] at h4
   rw [Nat.mul_comm (y1*b+y0) b] at h4
   omega
 · have e:Q*(y1*b+y0)=Q*y1*b+Q*y0:=by rw [Nat.mul_add,Nat.mul_assoc]
   rw [e,←he,Nat.add_mul,Nat.mul_comm R b]
   omega

theorem half_done {b y1 y0 u d Q R:Nat} (hy:0<y1*b+y0) (he:Q*y1+R=u) (ht:Q*y0≤b*R+d) (hq:(u*b+d) / (y1*b+y0)≤Q) :
  Q=(u*b+d) / (y1*b+y0):=by
 refine Nat.le_antisymm ?_ hq
 rw [Nat.le_div_iff_mul_le hy]
 have e:Q*(y1*b+y0)=Q*y1*b+Q*y0:=by rw [Nat.mul_add,Nat.mul_assoc]
 rw [e,←he,Nat.add_mul,Nat.mul_comm R b]
 omega

theorem half_break {b y0 d Q R:Nat} (h0:y0<b) (hQ:Q≤b) (hR:b≤R):Q*y0≤b*R+d:=by
 have h1:Q*y0≤b*y0:=Nat.mul_le_mul_right _ hQ
 have h2:b*y0≤b*R:=Nat.mul_le_mul_left _ (by omega)
 omega

theorem two_halves {b y u d1 d0 q1 r1 q0 r0:Nat} (e1:u*b+d1=q1*y+r1) (e0:r1*b+d0=q0*y+r0):u*(b*b)+(d1*b+d0)=(q1*b+q0)*y+r0:=by
 have h1:(u*b+d1)*b=(q1*y+r1)*b:=by rw [e1]
 rw [Nat.add_mul,Nat.add_mul,Nat.mul_assoc] at h1
 have e:(q1*b+q0)*y=q1*y*b+q0*y:=by rw [Nat.add_mul,Nat.mul_right_comm]
 rw [e]
 omega
end Go.Proofs.YtdbhahiieokplaaGreatDoor


namespace Go.Proofs.YtdbhahiieokplaaGreatDoor

def Abv (a b:Nat) (o:Bool) (p q:Nat):Prop:=a*q<p*b∨(a*q=p*b∧o=false)
def Blw (c d:Nat) (o:Bool) (p q:Nat):Prop:=p*d<c*q∨(p*d=c*q∧o=false)
def Inn (a b:Nat) (oa:Bool) (c d:Nat) (oc:Bool) (p q:Nat):Prop:=0<q∧Abv a b oa p q∧Blw c d oc p q

structure Simp (a b:Nat) (oa:Bool) (c d:Nat) (oc:Bool) (n m:Nat):Prop where
 inn:Inn a b oa c d oc n m
 cop:Nat.gcd n m=1
 min:∀ p q,Inn a b oa c d oc p q→n≤p∧m≤q

end Go.Proofs.YtdbhahiieokplaaGreatDoor


namespace Go.Proofs.YtdbhahiieokplaaGreatDoor.Sg

def sgq (x:Rat):Int:=if x<0 then -1 else if x=0 then 0 else 1
theorem sgq_neg {x:Rat} (h:x<0):sgq x=-1:=by unfold sgq;rw [if_pos h]
theorem sgq_zero {x:Rat} (h:x=0):sgq x=0:=by unfold sgq;rw [if_neg (by grind),if_pos h]
theorem sgq_pos {x:Rat} (h:0<x):sgq x=1:=by unfold sgq;rw [if_neg (by grind),if_neg (by grind)]
theorem sgq_three (x:Rat):(x<0∧sgq x=-1)∨(x=0∧sgq x=0)∨(0<x∧sgq x=1):=by
 by_cases h:x<0
 · exact .inl ⟨h,sgq_neg h⟩
 · by_cases h0:x=0
   · exact .inr (.inl ⟨h0,sgq_zero h0⟩)
   · exact .inr (.inr ⟨by grind,sgq_pos (by grind)⟩)
section
variable {d a b:Rat}
theorem sq_pos' (h:d≠0):0<d*d:=by
 by_cases h1:0<d
 · exact Rat.mul_pos h1 h1
 · have:=Rat.mul_pos (show 0 < -d by grind) (show 0 < -d by grind)
   grind
theorem mul_lt {x y z:Rat} (h:x<y) (hz:0<z):x*z<y*z:=by
 have:=Rat.mul_pos (show 0<y-x by grind) hz
 grind
theorem sq_lt {x y:Rat} (h1:-y<x) (h2:x<y):x*x<y*y:=by
 have:=Rat.mul_pos (show 0<y-x by grind) (show 0<y+x by grind)
 grind
end
end Go.Proofs.YtdbhahiieokplaaGreatDoor.Sg


namespace Go.Proofs.YtdbhahiieokplaaGreatDoor.Sg
end Go.Proofs.YtdbhahiieokplaaGreatDoor.Sg
