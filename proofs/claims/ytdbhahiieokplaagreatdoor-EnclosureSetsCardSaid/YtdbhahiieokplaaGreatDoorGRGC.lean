import Derived.Test.YtdbhahiieokplaaGreatDoorGKtD
set_option linter.unusedSimpArgs false
set_option linter.unusedVariables false

namespace Go.Proofs.YtdbhahiieokplaaGreatDoor
open Go.RowKit

inductive Eff
 | val (v:Value)
 | new (cs:Array Value) (T:TypeId)
 | rel (p:Value→World→Prop)

structure Rg (w0:World) (a0:Act) (ef:List Eff) (ds:List Nat) (listed:Array Bool) (a:Act) (w:World):Prop where
 bel:Below w0.heap.size w0 w
 sz:a.tmps.size=a0.tmps.size
 df:a.defers=a0.defers
 keep:∀ k,k∉ds→a.tmps.getD k undef=a0.tmps.getD k undef
 val:∀ i v,listed.getD i false=true→ef[i]?=some (.val v)→a.tmps.getD (ds.getD i 0) undef=v
 new:∀ i cs T,listed.getD i false=true→ef[i]?=some (.new cs T)→∃ g,a.tmps.getD (ds.getD i 0) undef=.pointer (some ⟨g,0,none⟩)∧w0.heap.size≤g∧w.heap[g]?=some (.cells cs T (0,0))
 rel:∀ i p,listed.getD i false=true→ef[i]?=some (.rel p)→p (a.tmps.getD (ds.getD i 0) undef) w
 ne:∀ i j cs T cs' T' g,i≠j→listed.getD i false=true→listed.getD j false=true→ef[i]?=some (.new cs T)→ef[j]?=some (.new cs' T')→a.tmps.getD (ds.getD i 0) undef=.pointer (some ⟨g,0,none⟩)→a.tmps.getD (ds.getD j 0) undef≠.pointer (some ⟨g,0,none⟩)

def Did (ef:List Eff) (i:Nat) (w:World) (v:Value) (w':World):Prop :=
 (ef[i]?=some (.val v)∧Below w.heap.size w w')∨(∃ cs T,ef[i]?=some (.new cs T)∧v=.pointer (some ⟨w.heap.size,0,none⟩)∧w'=w.alloc (.cells cs T))∨(∃ p,ef[i]?=some (.rel p)∧p v w'∧Below w.heap.size w w')

def Stays (ef:List Eff):Prop:=∀ (i:Nat) (p:Value→World→Prop),ef[i]?=some (.rel p)→∀ v w w',p v w→Below w.heap.size w w'→p v w'

theorem put_at (a:Act) (d:Nat) (v:Value) (h:d<a.tmps.size):(a.put (some d) v).tmps.getD d undef=v:=by
 simp [Act.put,Array.getD_eq_getD_getElem?,h]
theorem put_not (a:Act) {d k:Nat} (v:Value) (h:d≠k):(a.put (some d) v).tmps.getD k undef=a.tmps.getD k undef:=by
 simp [Act.put,Array.getD_eq_getD_getElem?,Array.getElem?_setIfInBounds_ne h]
theorem put_size (a:Act) (d:Nat) (v:Value):(a.put (some d) v).tmps.size=a.tmps.size:=by simp [Act.put]

section
variable {w0 w w':World} {a0 a:Act} {ef:List Eff} {ds:List Nat} {listed:Array Bool} {i d:Nat}
theorem nodup_ne (hnd:ds.Nodup) (hi:ds[i]?=some d) {j:Nat} (hj:j<ds.length) (hne:j≠i):ds.getD j 0≠d:=by
 intro e
 obtain ⟨h1,h2⟩:=List.getElem?_eq_some_iff.1 hi
 have h3:ds[j]=ds[i]:=by
  rw [h2,←e]
  simp [List.getD,hj]
 exact hne ((List.getElem_inj hnd).1 h3)

theorem Rg.step (h:Rg w0 a0 ef ds listed a w) (hst:Stays ef) (hnd:ds.Nodup) (hlen:ef.length=ds.length) (hi:ds[i]?=some d) (hd:d<a0.tmps.size) (hl:listed.getD i false=false) (hs:i<listed.size) {v:Value} (hdid:Did ef i w v w') :
  Rg w0 a0 ef ds (listed.setIfInBounds i true) (a.put (some d) v) w':=by
 have hdi:ds.getD i 0=d:=by simp [List.getD,hi]
 have hmem:d∈ds:=List.mem_of_getElem? hi
 have hda:d<a.tmps.size:=by rw [h.sz];exact hd
 have hb:Below w.heap.size w w':=by
  rcases hdid with ⟨_,hb⟩ | ⟨cs,T,_,_,rfl⟩ | ⟨p,_,_,hb⟩
  · exact hb
  · exact below_new _ _
  · exact hb
 have was:∀ {j:Nat},j≠i→(listed.setIfInBounds i true).getD j false=true→listed.getD j false=true:=fun hne hj=>by
  rw [getD_set_ne false (Ne.symm hne)] at hj
  exact hj
 have other:∀ {j:Nat} {x:Eff},j≠i→ef[j]?=some x→(a.put (some d) v).tmps.getD (ds.getD j 0) undef=a.tmps.getD (ds.getD j 0) undef:=fun hne hj=>by
  have hjl:=(List.getElem?_eq_some_iff.1 hj).1
  exact put_not a v (Ne.symm (nodup_ne hnd hi (by omega) hne))
 refine ⟨h.bel.trans (hb.mono h.bel.size),(put_size a d v).trans h.sz,h.df,fun k hk=>?_,fun j u hj he=>?_,fun j cs T hj he=>?_,fun j p hj he=>?_,fun j k cs T cs' T' g hne hj hk he hf hg=>?_⟩
 · rw [put_not a (k:=k) v (fun e:d=k=>hk (by rw [←e];exact hmem))]
   exact h.keep k hk
 · by_cases hji:j=i
   · subst hji
     rw [hdi,put_at a d v hda]
     rcases hdid with ⟨h1,_⟩ | ⟨cs,T,h1,_,_⟩ | ⟨p,h1,_,_⟩
     · rw [he] at h1;injection h1 with h1;injection h1 with h1;exact h1.symm
     · rw [he] at h1;injection h1 with h1;cases h1
     · rw [he] at h1;injection h1 with h1;cases h1
   · rw [other hji he]
     exact h.val j u (was hji hj) he
 · by_cases hji:j=i
   · subst hji
     rw [hdi,put_at a d v hda]
     rcases hdid with ⟨h1,_⟩ | ⟨cs',T',h1,hv,hw⟩ | ⟨p,h1,_,_⟩
     · rw [he] at h1;injection h1 with h1;cases h1
     rotate_left
     · rw [he] at h1;injection h1 with h1;cases h1
     · rw [he] at h1
       injection h1 with h1
       injection h1 with h1 h2
       subst h1
       subst h2
       subst hv
       subst hw
       exact ⟨_,rfl,h.bel.size,heap_one _ _⟩
   · rw [other hji he]
     obtain ⟨g,h1,h2,h3⟩:=h.new j cs T (was hji hj) he
     exact ⟨g,h1,h2,(hb.block _ (Array.getElem?_eq_some_iff.1 h3).1).trans h3⟩
 · by_cases hji:j=i
   · subst hji
     rw [hdi,put_at a d v hda]
     rcases hdid with ⟨h1,_⟩ | ⟨cs,T,h1,_,_⟩ | ⟨p',h1,hp,_⟩
     · rw [he] at h1;injection h1 with h1;cases h1
     · rw [he] at h1;injection h1 with h1;cases h1
     · rw [he] at h1
       injection h1 with h1
       injection h1 with h1
       subst h1
       exact hp
   · rw [other hji he]
     exact hst j p he _ _ _ (h.rel j p (was hji hj) he) hb
 · by_cases hji:j=i
   · subst hji
     have hki:k≠j:=Ne.symm hne
     rw [other hki hf]
     rw [hdi,put_at a d v hda] at hg
     rcases hdid with ⟨h1,_⟩ | ⟨cs2,T2,h1,hv,hw⟩ | ⟨p,h1,_,_⟩
     · rw [he] at h1;injection h1 with h1;cases h1
     rotate_left
     · rw [he] at h1;injection h1 with h1;cases h1
     · obtain ⟨g',h2,h3,h4⟩:=h.new k cs' T' (was hki hk) hf
       rw [h2]
       rw [hv] at hg
       intro e
       rw [←hg] at e
       injection e with e
       injection e with e
       injection e with e
       have:=(Array.getElem?_eq_some_iff.1 h4).1
       omega
   · by_cases hki:k=i
     · subst hki
       rw [other hji he] at hg
       rw [hdi,put_at a d v hda]
       rcases hdid with ⟨h1,_⟩ | ⟨cs2,T2,h1,hv,hw⟩ | ⟨p,h1,_,_⟩
       · rw [hf] at h1;injection h1 with h1;cases h1
       rotate_left
       · rw [hf] at h1;injection h1 with h1;cases h1
       · obtain ⟨g',h2,h3,h4⟩:=h.new j cs T (was hji hj) he
         rw [h2] at hg
         rw [hv]
         intro e
         rw [←hg] at e
         injection e with e
         injection e with e
         injection e with e
         have:=(Array.getElem?_eq_some_iff.1 h4).1
         omega
     · rw [other hji he] at hg
       rw [other hki hf]
       exact h.ne j k cs T cs' T' g hne (was hji hj) (was hki hk) he hf hg
end

def okOps (md:Region.Mode) (ops:Array Oper) (ds:List Nat):Bool :=
 (List.range ops.size).all (fun j=>match ops[j]? with
  | some o=>if j<ds.length then decide (o.dst=some (ds.getD j 0)) && o.guard.isNone && o.after.all (fun e=>!Region.binds md e || decide (e.on<j))
    else (List.range ds.length).all (fun i=>waits md ops i ops.size j)
  | none=>false) && decide (ds.length≤ops.size)

def deps (md:Region.Mode) (o:Oper):List Nat:=(o.after.toList.filter (Region.binds md)).map (·.on)

def mark (n m:Nat):Array Bool:=((List.range n).map (fun i=>decide (i<m))).toArray

theorem rg_run {P:Program} {md:Region.Mode} {ops:Array Oper} {Q:Exit→Act→World→Prop} {w0:World} {a0:Act} {ef:List Eff} {ds:List Nat} (hok:okOps md ops ds=true) (hst:Stays ef) (hnd:ds.Nodup) (hlen:ef.length=ds.length) (hsz:∀ d∈ds,d<a0.tmps.size)
  (hop:∀ i d o,ds[i]?=some d→ops[i]?=some o→∀ (listed:Array Bool) (a:Act) (w:World),Rg w0 a0 ef ds listed a w→(∀ j∈deps md o,listed.getD j false=true)→∀ K:Act→World→Prop,(∀ v w',Did ef i w v w'→K (a.put (some d) v) w')→Oper.wp P o a w K Q)
  (f:Nat) (hfin:∀ a w,Rg w0 a0 ef ds (mark ops.size ds.length) a w→wpAny P md ops Q f (mark ops.size ds.length) a w) :
  wpAny P md ops Q (ds.length+f) (Array.replicate ops.size false) a0 w0:=by
 simp only [okOps,Bool.and_eq_true,List.all_eq_true,List.mem_range,decide_eq_true_eq] at hok
 obtain ⟨hok,hle⟩:=hok
 have first:∀ {j o},ops[j]?=some o→j<ds.length→o.dst=some (ds.getD j 0)∧o.guard=none∧∀ e∈o.after,Region.binds md e=true→e.on<j:=by
  intro j o ho hj
  have h1:=hok j (Array.getElem?_eq_some_iff.1 ho).1
  rw [ho] at h1
  simp only [hj,if_true,Bool.and_eq_true,decide_eq_true_eq] at h1
  refine ⟨h1.1.1,by simpa using h1.1.2,fun e he hb=>?_⟩
  have h2:=Array.all_eq_true_iff_forall_mem.1 h1.2 e he
  simpa [hb] using h2
 have later:∀ {j o},ops[j]?=some o→ds.length≤j→∀ i,i<ds.length→waits md ops i ops.size j=true:=by
  intro j o ho hj i hi
  have h1:=hok j (Array.getElem?_eq_some_iff.1 ho).1
  rw [ho] at h1
  simp only [show ¬j<ds.length by omega,if_false,List.all_eq_true,List.mem_range] at h1
  exact h1 i hi
 have key:∀ (n:Nat) (L:List Nat) (listed:Array Bool) (a:Act) (w:World),L.length=n→L.Nodup→(∀ i,i∈L↔i<ds.length∧listed.getD i false=false)→listed.size=ops.size→(∀ j,ds.length≤j→listed.getD j false=false)→Closed md ops listed→Rg w0 a0 ef ds listed a w→wpAny P md ops Q (n+f) listed a w:=by
  intro n
  induction n with
  | zero =>
    intro L listed a w hL _ hmem hs hz hc hr
    have hnil:L=[]:=List.eq_nil_of_length_eq_zero hL
    have he:listed=mark ops.size ds.length:=by
     apply Array.ext
     · simp [mark,hs]
     · intro i h1 h2
       have h3:listed.getD i false=listed[i]:=by simp [Array.getD,h1]
       by_cases hi:i<ds.length
       · have h4 : listed.getD i false = true := by
          cases hg:listed.getD i false
          · have:=(hmem i).2 ⟨hi,hg⟩
            rw [hnil] at this
            simp at this
          · rfl
         rw [h3] at h4
         simp [mark,hi,h4]
       · have h4:=hz i (by omega)
         rw [h3] at h4
         simp [mark,hi,h4]
    subst he
    rw [Nat.zero_add]
    exact hfin a w hr
  | succ n ih =>
    intro L listed a w hL hndL hmem hs hz hc hr
    rw [show n+1+f=(n+f)+1 by omega]
    have one:∀ i,i<ds.length→listed.getD i false=false→∃ j,j∈Region.ready md ops listed:=by
     intro i
     induction i using Nat.strongRecOn with
     | ind i ihi =>
       intro hi hl
       have ho:∃ o,ops[i]?=some o:=⟨ops[i]'(by omega),Array.getElem?_eq_getElem _⟩
       obtain ⟨o,ho⟩:=ho
       by_cases hall:∀ e∈o.after,Region.binds md e=true→listed.getD e.on false=true
       · refine ⟨i,mem_ready.2 ⟨?_,o,ho,hall⟩⟩
         have h1:i<listed.size:=by omega
         simp [Array.getD,h1] at hl ⊢
         exact hl
       · have h1 : ∃ e, e ∈ o.after ∧ Region.binds md e = true ∧ listed.getD e.on false = false := by
          apply Classical.byContradiction
          intro hno
          apply hall
          intro e he hb
          cases hg:listed.getD e.on false
          · exact absurd ⟨e,he,hb,hg⟩ hno
          · rfl
         obtain ⟨e,he,hb,hg⟩:=h1
         have h2:=(first ho hi).2.2 e he hb
         exact ihi e.on h2 (by omega) hg
    have hne:∃ i,i∈L:=by
     cases L with
     | nil=>simp at hL
     | cons x t=>exact ⟨x,by simp⟩
    obtain ⟨i0,hi0⟩:=hne
    have hi0':=(hmem i0).1 hi0
    refine ⟨fun h0=>?_,fun j hj=>?_⟩
    · obtain ⟨j,hj⟩:=one i0 hi0'.1 hi0'.2
      rw [h0] at hj
      simp at hj
    · obtain ⟨hju,o,ho,hall⟩:=mem_ready.1 hj
      have hjs:j<listed.size:=by have:=(Array.getElem?_eq_some_iff.1 ho).1;omega
      have hjl:j<ds.length:=by
       rcases Nat.lt_or_ge j ds.length with h | h
       · exact h
       · exfalso
         have hw:=later ho h i0 hi0'.1
         -- what it waits for has come up
         have h1:listed.getD i0 false=true:=by
          cases hf:ops.size with
          | zero=>rw [hf] at hw;simp [waits] at hw
          | succ m =>
            rw [hf] at hw
            unfold waits at hw
            rw [ho] at hw
            obtain ⟨e,he,hb⟩:=Array.any_eq_true'.1 hw
            simp only [Bool.and_eq_true,Bool.or_eq_true,beq_iff_eq] at hb
            have h2:=hall e he hb.1
            rcases hb.2 with h3 | h3
            · rw [←h3];exact h2
            · exact waits_listed hc m e.on h3 h2
         rw [hi0'.2] at h1
         cases h1
      have hjf:listed.getD j false=false:=by
       simp [Array.getD,hjs] at hju ⊢
       exact hju
      have hdj:ds[j]?=some (ds.getD j 0):=by simp [List.getD,hjl]
      obtain ⟨f1,f2,_⟩:=first ho hjl
      refine wpOp_step ho (fun K' hK=>?_)
      rw [if_pos (by unfold Region.wanted;rw [f2])]
      refine hop j _ o hdj ho listed a w hr (fun k hk=>?_) K' (fun v w' hd=>?_)
      · obtain ⟨e,he,rfl⟩:=List.mem_map.1 hk
        rw [List.mem_filter] at he
        exact hall e (by simpa using he.1) he.2
      have hr2:=hr.step hst hnd hlen hdj (hsz _ (List.mem_of_getElem? hdj)) hjf hjs hd
      refine hK _ _ (ih (L.erase j) _ _ _ ?_ (hndL.erase j) (fun i=>?_) (by simp [hs]) (fun k hk=>?_) (closed_set hc hj) hr2)
      · rw [List.length_erase_of_mem ((hmem j).2 ⟨hjl,hjf⟩),hL];rfl
      · rw [hndL.mem_erase_iff,hmem i]
        constructor
        · rintro ⟨h1,h2,h3⟩
          exact ⟨h2,by rw [getD_set_ne false (Ne.symm h1)];exact h3⟩
        · rintro ⟨h2,h3⟩
          have h1:i≠j:=by
           rintro rfl
           simp [Array.getD,hjs] at h3
          rw [getD_set_ne false (Ne.symm h1)] at h3
          exact ⟨h1,h2,h3⟩
      · rw [getD_set_ne false (by omega)]
        exact hz k hk
 have hb0:∀ j,(Array.replicate ops.size false).getD j false=false:=fun j=>by
  by_cases h:j<ops.size<;>simp [Array.getD,h]
 refine key ds.length (List.range ds.length) _ a0 w0 (by simp) List.nodup_range (fun i=>?_) (by simp) (fun j _=>hb0 j) (fun j o _ hj=>?_) ⟨Below.refl _ _,rfl,rfl,fun _ _=>rfl,fun j v hj=>?_,fun j cs T hj=>?_,fun j p hj=>?_,fun j k cs T cs' T' g _ hj=>?_⟩
 · rw [List.mem_range,hb0]
   simp
 · rw [hb0] at hj;cases hj
 · rw [hb0] at hj;cases hj
 · rw [hb0] at hj;cases hj
 · rw [hb0] at hj;cases hj
 · rw [hb0] at hj;cases hj

theorem arr_fold {ds:List Nat}:∀ {t t0:Array Value},t.size=t0.size→(∀ k,k∉ds→t.getD k undef=t0.getD k undef)→t=ds.foldl (fun b d=>b.setIfInBounds d (t.getD d undef)) t0:=by
 induction ds with
 | nil =>
   intro t t0 hs hk
   apply Array.ext hs
   intro i h1 h2
   have h:=hk i (by simp)
   simpa [Array.getD,h1,h2] using h
 | cons d ds ih =>
   intro t t0 hs hk
   rw [List.foldl_cons]
   refine ih (by simpa using hs) fun k hkd=>?_
   by_cases h:k=d
   · subst h
     by_cases h1:k<t0.size
     · simp [Array.getD_eq_getD_getElem?,h1]
     · have h2:¬k<t.size:=by omega
       simp [Array.getD_eq_getD_getElem?,h1,h2]
   · rw [hk k (by simp [h,hkd])]
     simp [Array.getD_eq_getD_getElem?,Array.getElem?_setIfInBounds_ne (Ne.symm h)]

theorem Rg.act {w0 w:World} {a0 a:Act} {ef:List Eff} {ds:List Nat} {listed:Array Bool} (h:Rg w0 a0 ef ds listed a w):a=⟨ds.foldl (fun b d=>b.setIfInBounds d (a.tmps.getD d undef)) a0.tmps,a0.defers⟩:=by
 have h1:=arr_fold h.sz h.keep
 have h2:=h.df
 cases a
 simp only at h1 h2
 rw [h2]
 congr 1

theorem Sb.add {w W0 W:World} {l:List (Nat×Array Value×TypeId)} {rs:List (Option Addr×Nat×Nat×Nat)} {g:Nat} {cs:Array Value} {T:TypeId} (h:Sb w l rs W0) (hb:Below W0.heap.size W0 W) (hg:W0.heap.size≤g) (hk:W.heap[g]?=some (.cells cs T (0,0))):Sb w (l++[(g,cs,T)]) rs W:=by
 have hn:=h.next hb
 refine ⟨fun x hx=>?_,fun x hx=>?_,fun i j x y hi hj hij=>?_,hn.tr,fun r hr x hx h0 a ha=>?_,hn.bel⟩
 · rcases List.mem_append.1 hx with h1 | h1
   · exact hn.k x h1
   · obtain rfl:x=_:=by simpa using h1
     exact hk
 · rcases List.mem_append.1 hx with h1 | h1
   · exact h.lo x h1
   · obtain rfl:x=_:=by simpa using h1
     exact Nat.le_trans h.bel.size hg
 · have key : ∀ {i x}, (l ++ [(g, cs, T)])[i]? = some x → (i < l.length ∧ l[i]? = some x) ∨ (i = l.length ∧ x.1 = g) := by
    intro i x hi
    rcases Nat.lt_trichotomy i l.length with h1 | h1 | h1
    · rw [List.getElem?_append_left h1] at hi
      exact .inl ⟨h1,hi⟩
    · subst h1
      rw [List.getElem?_append_right (Nat.le_refl _)] at hi
      simp at hi
      exact .inr ⟨rfl,by rw [←hi]⟩
    · rw [List.getElem?_append_right (by omega)] at hi
      obtain ⟨m,hm⟩:∃ m,i-l.length=m+1:=⟨i-l.length-1,by omega⟩
      rw [hm] at hi
      simp at hi
   rcases key hi with ⟨h1,h2⟩ | ⟨h1,h2⟩<;>rcases key hj with ⟨h3,h4⟩ | ⟨h3,h4⟩
   · exact h.ne i j x y h2 h4 hij
   · have:=h.lt (List.mem_of_getElem? h2);omega
   · have:=h.lt (List.mem_of_getElem? h4);omega
   · omega
 · rcases List.mem_append.1 hx with h1 | h1
   · exact h.ap r hr x h1 h0 a ha
   · obtain rfl:x=_:=by simpa using h1
     have h2:=(h.tr r hr).block_lt h0 ha
     show a.block≠g
     omega
theorem Sb.add2 {w W0 W:World} {l:List (Nat×Array Value×TypeId)} {rs:List (Option Addr×Nat×Nat×Nat)} {g g':Nat} {cs cs':Array Value} {T T':TypeId} (h:Sb w l rs W0) (hb:Below W0.heap.size W0 W) (hg:W0.heap.size≤g) (hk:W.heap[g]?=some (.cells cs T (0,0))) (hg':W0.heap.size≤g') (hk':W.heap[g']?=some (.cells cs' T' (0,0))) (hne:g≠g'):Sb w (l++[(g,cs,T),(g',cs',T')]) rs W:=by
 have h1:=h.add hb hg hk
 have h2:=h.add hb hg' hk'
 refine ⟨fun x hx=>?_,fun x hx=>?_,fun i j x y hi hj hij=>?_,h1.tr,fun r hr x hx=>?_,h1.bel⟩
 · rcases List.mem_append.1 hx with h3 | h3
   · exact h1.k x (by simp [h3])
   · rcases (by simpa using h3:x=_∨x=_) with rfl | rfl
     · exact h1.k _ (by simp)
     · exact h2.k _ (by simp)
 · rcases List.mem_append.1 hx with h3 | h3
   · exact h1.lo x (by simp [h3])
   · rcases (by simpa using h3:x=_∨x=_) with rfl | rfl
     · exact h1.lo _ (by simp)
     · exact h2.lo _ (by simp)
 · have key : ∀ {i x}, (l ++ [(g, cs, T), (g', cs', T')])[i]? = some x → (i < l.length ∧ l[i]? = some x) ∨ (i = l.length ∧ x.1 = g) ∨ (i = l.length + 1 ∧ x.1 = g') := by
    intro i x hi
    rcases Nat.lt_or_ge i l.length with h3 | h3
    · rw [List.getElem?_append_left h3] at hi
      exact .inl ⟨h3,hi⟩
    · rw [List.getElem?_append_right h3] at hi
      rcases Nat.lt_trichotomy (i-l.length) 1 with h4 | h4 | h4
      · rw [show i-l.length=0 by omega] at hi
        simp at hi
        exact .inr (.inl ⟨by omega,by rw [←hi]⟩)
      · rw [h4] at hi
        simp at hi
        exact .inr (.inr ⟨by omega,by rw [←hi]⟩)
      · obtain ⟨m,hm⟩:∃ m,i-l.length=m+2:=⟨i-l.length-2,by omega⟩
        rw [hm] at hi
        simp at hi
   have lo:∀ {i:Nat} {x:Nat×Array Value×TypeId},l[i]?=some x→x.1<W0.heap.size:=fun hi=>h.lt (List.mem_of_getElem? hi)
   rcases key hi with ⟨h3,h4⟩ | ⟨h3,h4⟩ | ⟨h3,h4⟩<;>rcases key hj with ⟨h5,h6⟩ | ⟨h5,h6⟩ | ⟨h5,h6⟩
   · exact h.ne i j x y h4 h6 hij
   · have:=lo h4;omega
   · have:=lo h4;omega
   · have:=lo h6;omega
   · omega
   · omega
   · have:=lo h6;omega
   · omega
   · omega
 · rcases List.mem_append.1 hx with h3 | h3
   · exact h1.ap r hr x (by simp [h3])
   · rcases (by simpa using h3:x=_∨x=_) with rfl | rfl
     · exact h1.ap r hr _ (by simp)
     · exact h2.ap r hr _ (by simp)

theorem Sb.adds {w W0 W:World} {l:List (Nat×Array Value×TypeId)} {rs:List (Option Addr×Nat×Nat×Nat)} (h:Sb w l rs W0) (hb:Below W0.heap.size W0 W) (l2:List (Nat×Array Value×TypeId)) (hk:∀ x∈l2,W.heap[x.1]?=some (.cells x.2.1 x.2.2 (0,0))) (hg:∀ x∈l2,W0.heap.size≤x.1)
  (hne:∀ (i j:Nat) (x y:Nat×Array Value×TypeId),l2[i]?=some x→l2[j]?=some y→i≠j→x.1≠y.1):Sb w (l++l2) rs W:=by
 have hn:=h.next hb
 refine ⟨fun x hx=>?_,fun x hx=>?_,fun i j x y hi hj hij=>?_,hn.tr,fun r hr x hx h0 a ha=>?_,hn.bel⟩
 · rcases List.mem_append.1 hx with h1 | h1
   · exact hn.k x h1
   · exact hk x h1
 · rcases List.mem_append.1 hx with h1 | h1
   · exact h.lo x h1
   · exact Nat.le_trans h.bel.size (hg x h1)
 · have key : ∀ {i : Nat} {x : Nat × Array Value × TypeId}, (l ++ l2)[i]? = some x → (i < l.length ∧ l[i]? = some x) ∨ (l.length ≤ i ∧ l2[i - l.length]? = some x) := by
    intro i x hi
    rcases Nat.lt_or_ge i l.length with h3 | h3
    · rw [List.getElem?_append_left h3] at hi
      exact .inl ⟨h3,hi⟩
    · rw [List.getElem?_append_right h3] at hi
      exact .inr ⟨h3,hi⟩
   rcases key hi with ⟨h1,h2⟩ | ⟨h1,h2⟩<;>rcases key hj with ⟨h3,h4⟩ | ⟨h3,h4⟩
   · exact h.ne i j x y h2 h4 hij
   · have:=h.lt (List.mem_of_getElem? h2);have:=hg _ (List.mem_of_getElem? h4);omega
   · have:=h.lt (List.mem_of_getElem? h4);have:=hg _ (List.mem_of_getElem? h2);omega
   · exact hne _ _ x y h2 h4 (by omega)
 · rcases List.mem_append.1 hx with h1 | h1
   · exact h.ap r hr x h1 h0 a ha
   · have h2:=(h.tr r hr).block_lt h0 ha
     have h3:=hg x h1
     omega
theorem Sb.add3 {w W0 W:World} {l:List (Nat×Array Value×TypeId)} {rs:List (Option Addr×Nat×Nat×Nat)} {g1 g2 g3:Nat} {c1 c2 c3:Array Value} {T1 T2 T3:TypeId} (h:Sb w l rs W0) (hb:Below W0.heap.size W0 W) (l1:W0.heap.size≤g1) (k1:W.heap[g1]?=some (.cells c1 T1 (0,0))) (l2:W0.heap.size≤g2) (k2:W.heap[g2]?=some (.cells c2 T2 (0,0))) (l3:W0.heap.size≤g3) (k3:W.heap[g3]?=some (.cells c3 T3 (0,0))) (n12:g1≠g2) (n13:g1≠g3) (n23:g2≠g3):Sb w (l++[(g1,c1,T1),(g2,c2,T2),(g3,c3,T3)]) rs W:=by
 refine h.adds hb _ (fun x hx=>?_) (fun x hx=>?_) (fun i j x y hi hj hij=>?_)
 · rcases (by simpa using hx:x=_∨x=_∨x=_) with rfl | rfl | rfl
   · exact k1
   · exact k2
   · exact k3
 · rcases (by simpa using hx:x=_∨x=_∨x=_) with rfl | rfl | rfl
   · exact l1
   · exact l2
   · exact l3
 · rcases i with _ | _ | _ | i<;>rcases j with _ | _ | _ | j<;>simp at hi hj hij<;>(subst hi;subst hj;simp only [ne_eq];omega)

theorem stays_none {ef:List Eff} (h:∀ e∈ef,∀ p,e≠.rel p):Stays ef:=fun _ p he=>absurd rfl (h _ (List.mem_of_getElem? he) p)

def Fine:Eff→Prop
 | .rel p=>∀ v w w',p v w→Below w.heap.size w w'→p v w'
 | _=>True
theorem stays_of {ef:List Eff} (h:∀ e∈ef,Fine e):Stays ef:=fun _ _ he=>h _ (List.mem_of_getElem? he)

def NoInt (cs:Array Value):Prop:=∀ (j:Nat) (k:IntKind) (n:Int),cs[j]?≠some (.int k n)
theorem row_apart {W:World} {A:Option Addr} {n c V g:Nat} {cs:Array Value} {T:TypeId} (ht:Tr W A n c V) (hk:W.heap[g]?=some (.cells cs T (0,0))) (hno:NoInt cs) (hn:0<n) (a:Addr) (ha:A=some a):a.block≠g:=by
 intro e
 obtain ⟨g',o,e',_,hc⟩:=ht.dg.rd hn
 rw [ha] at e'
 injection e' with e'
 subst e'
 have h1:=hc 0 hn
 have e2:g'=g:=e
 subst e2
 simp only [World.cell?,hk] at h1
 exact hno _ _ _ h1
theorem Sb.rows {w W:World} {l:List (Nat×Array Value×TypeId)} {rs:List (Option Addr×Nat×Nat×Nat)} (h:Sb w l rs W) (rs2:List (Option Addr×Nat×Nat×Nat)) (ht:∀ r∈rs2,Tr W r.1 r.2.1 r.2.2.1 r.2.2.2) (hno:∀ x∈l,NoInt x.2.1):Sb w l (rs++rs2) W :=
 ⟨h.k,h.lo,h.ne,fun r hr=>(List.mem_append.1 hr).elim (h.tr r) (ht r),fun r hr x hx h0 a ha=>(List.mem_append.1 hr).elim (fun h1=>h.ap r h1 x hx h0 a ha) (fun h1=>row_apart (ht r h1) (h.k x hx) (hno x hx) h0 a ha),h.bel⟩
end Go.Proofs.YtdbhahiieokplaaGreatDoor


namespace Go.Proofs.YtdbhahiieokplaaGreatDoor
open Go.RowKit
attribute [local go_sem ↓] Go.wp_at_zero Go.wp_at_succ

def RetF2 (w:World) (b:Bool) (N D:Nat) (e:Ending) (w':World):Prop :=
 ∃ A n c B m d,e=.returned (.agg #[.bool b,.slice A n c,.slice B m d])∧Tr w' A n c N∧Tr w' B m d D∧Below w.heap.size w w'∧(∀ a,A=some a→w.heap.size≤a.block)∧(∀ a,B=some a→w.heap.size≤a.block)

set_option maxHeartbeats 4000000 in
set_option maxRecDepth 100000 in
theorem rof2 {q:Rat} {b:Bool} {m k:ByteArray} (h:Rq q b m k) (hm:m.size≤1000000) (hk:k.size≤1000000) (w:World) :
  Calls Tryz.prog 89 #[.agg #[.bool b,.string m,.bool false,.string k]] w (RetF2 w b q.num.natAbs q.den):=by
 have HB:=Lib.hid h.bval
 have KK:=Lib.hid (Kb.start w #[.bool b,.string m,.bool false,.string k] #[.bool false,.slice none 0 0,.slice none 0 0] 25 121)
 have HD1:=Lib.hid (fun V=>rdigits b m V (by omega))
 have HD2:=Lib.hid (fun V=>rdigits false k V (by omega))
 by_cases hden:q.den=1
 · have hk1:=h.den1 hden
   have hb0:Go.Proofs.YtdbhahiieokplaaGreatDoor.bval k=0:=by rw [hk1];rfl
   have HB0:=Lib.hid hb0
   have HDEN:=Lib.hid hden
   clear h hden hk1 hb0
   go_enter Tryz.func89,Tryz.ntmps89
   go_wp2_with fail
   refine (HD2.out _).mono ?_
   rw [HB0.out]
   rintro e w1 ⟨A1,n1,c1,rfl,ht1,hb1,_⟩
   have hn1:n1=0:=by rw [ht1.ln,nd_zero]
   subst hn1
   have K1:=Lib.hid (KK.out.next hb1)
   have K2:=Lib.hid ((K1.out.next ((Below.refl _ _).alloc (Nat.le_refl _) (.cells #[.int .i64 1] 3))).drew)
   have T1:=Lib.hid (tr_one w1)
   clear ht1 hb1
   obtain ⟨p0,p1,p2,p3⟩:=blk4 K2.out.k1
   go_wp2_with fail
   go_region_held3 (fun w'=>w'.cell? ⟨w.heap.size,0,none⟩=some (.bool b)∧w'.cell? ⟨w.heap.size,1,none⟩=some (.string m))
    (first
     | exact ⟨q0,q1⟩
     | exact ⟨p0,p1⟩
     | go_keep)
    (first
     | (go_at_call 68;(with_reducible refine (HD1.out _).mono ?_);rw [HB.out];rintro e w3 ⟨A3,n3,c3,rfl,ht3,hb3,hf3⟩;have K3:=Lib.hid (K2.out.next hb3);have T3:=Lib.hid ht3;have T4:=Lib.hid (T1.out.drew.below hb3);obtain ⟨q0,q1,q2,q3⟩:=blk4 K3.out.k1;obtain ⟨s0,s1,s2,f0,f1,f2⟩:=blk3 K3.out.k2))
   have HF:=Lib.hid hf3
   have HS1:=Lib.hid K1.out.sz
   have HS2:=Lib.hid K2.out.sz
   clear ht3 hb3 hf3
   go_wp2
   refine bodyPost_ret (v:=.agg #[.bool b,.slice A3 n3 c3,.slice (some ⟨w1.heap.size,0,none⟩) 1 1]) (by simp [results,Tryz.results89,go_sem,s0,s1,s2]) rfl ⟨A3,n3,c3,_,1,1,rfl,T3.out.set3 (fun a ha=>?_) _ _ _,?_,below_set3 K3.out.bel (by omega) _ _ _,fun a ha=>by have h1:=HF.out a ha;have h2:=HS2.out;omega,fun a ha=>by injection ha with ha;subst ha;have h1:=HS1.out;show _≤w1.heap.size;omega⟩
   · have h1:=HF.out a ha
     have h2:=HS2.out
     omega
   · rw [HDEN.out]
     exact T4.out.set3 (fun a ha=>by injection ha with ha;subst ha;have:=HS1.out;show w1.heap.size≠_;omega) _ _ _
 · have hb0:Go.Proofs.YtdbhahiieokplaaGreatDoor.bval k=q.den:=by rw [h.den2 hden,bval_mag]
   have HB0:=Lib.hid hb0
   have HP:=Lib.hid q.den_pos
   clear h hden hb0
   go_enter Tryz.func89,Tryz.ntmps89
   go_wp2_with fail
   refine (HD2.out _).mono ?_
   rw [HB0.out]
   rintro e w1 ⟨A1,n1,c1,rfl,ht1,hb1,hf1⟩
   have hn1:0<n1:=by rw [ht1.ln];exact nd_pos HP.out
   have hne:((n1:Int)==0)=false:=by simp;omega
   have K1:=Lib.hid (KK.out.next hb1)
   have K2:=Lib.hid (K1.out.drew)
   have T1:=Lib.hid ht1
   have HF1:=Lib.hid hf1
   have HS0:=Lib.hid KK.out.sz
   clear ht1 hb1 hf1
   obtain ⟨p0,p1,p2,p3⟩:=blk4 K2.out.k1
   go_wp2_with fail
   clear hne
   go_region_held3 (fun w'=>w'.cell? ⟨w.heap.size,0,none⟩=some (.bool b)∧w'.cell? ⟨w.heap.size,1,none⟩=some (.string m))
    (first
     | exact ⟨q0,q1⟩
     | exact ⟨p0,p1⟩
     | go_keep)
    (first
     | (go_at_call 68;(with_reducible refine (HD1.out _).mono ?_);rw [HB.out];rintro e w3 ⟨A3,n3,c3,rfl,ht3,hb3,hf3⟩;have K3:=Lib.hid (K2.out.next hb3);have T3:=Lib.hid ht3;have T4:=Lib.hid (T1.out.drew.below hb3);obtain ⟨q0,q1,q2,q3⟩:=blk4 K3.out.k1;obtain ⟨s0,s1,s2,f0,f1,f2⟩:=blk3 K3.out.k2))
   have HF:=Lib.hid hf3
   have HS2:=Lib.hid K2.out.sz
   clear ht3 hb3 hf3
   go_wp2
   refine bodyPost_ret (v:=.agg #[.bool b,.slice A3 n3 c3,.slice A1 n1 c1]) (by simp [results,Tryz.results89,go_sem,s0,s1,s2]) rfl ⟨A3,n3,c3,A1,n1,c1,rfl,T3.out.set3 (fun a ha=>?_) _ _ _,T4.out.set3 (fun a ha=>?_) _ _ _,below_set3 K3.out.bel (by omega) _ _ _,fun a ha=>by have h1:=HF.out a ha;have h2:=HS2.out;omega,fun a ha=>by have h1:=HF1.out a ha;have h2:=HS0.out;omega⟩
   · have h1:=HF.out a ha
     have h2:=HS2.out
     omega
   · have h1:=HF1.out a ha
     have h2:=HS0.out
     omega

set_option maxHeartbeats 1000000 in
set_option maxRecDepth 100000 in
theorem rSign_f {q:Rat} {b:Bool} {m k:ByteArray} (h:Rq q b m k) (w:World):Calls Tryz.prog 49 #[.agg #[.bool b,.string m,.bool false,.string k]] w (RetB w (.int .i64 q.num.sign)):=by
 have HB:=Lib.hid (below_new w (.cells #[.bool b,.string m,.bool false,.string k] 25))
 obtain ⟨e1,e2⟩:=h.mag
 rcases Int.lt_trichotomy q.num 0 with h0 | h0 | h0
 · have hb:b=true:=by rw [e1];exact decide_eq_true h0
   have hne:=toList_ne (l:=[]) (show m≠⟨#[]⟩ from by rw [e2];exact mag_no_nil (by omega))
   have hem:m.toList.isEmpty=false:=by rw [List.isEmpty_eq_false_iff];exact hne
   rw [Int.sign_eq_neg_one_of_neg h0]
   subst hb
   clear h e1 e2 h0
   go_enter Tryz.func49,Tryz.ntmps49
   go_wp2
   go_ret
   exact ⟨rfl,HB.out⟩
 · have hm:m=⟨#[]⟩:=by rw [e2,h0];exact mag_nil
   have hl:m.toList=[]:=by rw [hm,ByteArray.toList_eq]
   have hem:m.toList.isEmpty=true:=by rw [hl];rfl
   rw [h0]
   clear h e1 e2 h0 hm
   go_enter Tryz.func49,Tryz.ntmps49
   go_wp2
   go_ret
   exact ⟨rfl,HB.out⟩
 · have hb:b=false:=by rw [e1];exact decide_eq_false (by omega)
   have hne:=toList_ne (l:=[]) (show m≠⟨#[]⟩ from by rw [e2];exact mag_no_nil (by omega))
   have hem:m.toList.isEmpty=false:=by rw [List.isEmpty_eq_false_iff];exact hne
   rw [Int.sign_eq_one_of_pos h0]
   subst hb
   clear h e1 e2 h0
   go_enter Tryz.func49,Tryz.ntmps49
   go_wp2
   go_ret
   exact ⟨rfl,HB.out⟩

def FracP (b:Bool) (N D:Nat) (v:Value) (w:World):Prop:=∃ A n c B m d,v=.agg #[.bool b,.slice A n c,.slice B m d]∧Tr w A n c N∧Tr w B m d D
theorem fine_frac (b:Bool) (N D:Nat):Fine (.rel (FracP b N D)):=fun _ _ _ ⟨A,n,c,B,m,d,h,ht,hu⟩ hb=>⟨A,n,c,B,m,d,h,ht.below hb,hu.below hb⟩
end Go.Proofs.YtdbhahiieokplaaGreatDoor


namespace Go.Proofs.YtdbhahiieokplaaGreatDoor
open Go.RowKit
attribute [local go_sem ↓] Go.wp_at_zero Go.wp_at_succ

theorem Rq.turned {q r:Rat} {b1 b2:Bool} {m1 m2 k1 k2:ByteArray} (h:Rq q b1 m1 k1) (g:Rq r b2 m2 k2) (e:r.num.natAbs=q.num.natAbs) (d:r.den=q.den):m2=m1∧k1=k2:=by
 refine ⟨by rw [g.mag.2,h.mag.2,e],?_⟩
 by_cases hd:q.den=1
 · rw [h.den1 hd,g.den1 (d ▸ hd)]
 · rw [h.den2 hd,g.den2 (d ▸ hd),d]

set_option maxHeartbeats 1000000 in
set_option maxRecDepth 100000 in
theorem rNeg_f {q:Rat} {b b2:Bool} {m k m2 k2:ByteArray} (h:Rq q b m k) (g:Rq (-q) b2 m2 k2) (w:World):Calls Tryz.prog 46 #[.agg #[.bool b,.string m,.bool false,.string k]] w (RetB w (.agg #[.bool b2,.string m2,.bool false,.string k2])):=by
 obtain ⟨rfl,rfl⟩:=h.turned g (by rw [Rat.neg_num,Int.natAbs_neg]) (Rat.neg_den q)
 obtain ⟨e1,e2⟩:=h.mag
 obtain ⟨f1,-⟩:=g.mag
 rw [Rat.neg_num] at f1
 rcases Int.lt_trichotomy q.num 0 with h0 | h0 | h0
 · have hb:b=true:=by rw [e1];exact decide_eq_true h0
   have hc:b2=false:=by rw [f1];exact decide_eq_false (by omega)
   subst hb hc
   clear h g e1 e2 f1 h0
   go_enter Tryz.func46,Tryz.ntmps46
   go_wp2
   exact bodyPost_ret (v:=.agg #[.bool false,.string m2,.bool false,.string k]) (by simp [results,Tryz.results46,go_sem]) rfl ⟨rfl,(((Sb.start w).new _ _).new _ _).bel⟩
 · have hb:b=false:=by rw [e1,h0];rfl
   have hc:b2=false:=by rw [f1,h0];rfl
   have hm:m2=⟨#[]⟩:=by rw [e2,h0];exact mag_nil
   have hl:m2.toList=[]:=by rw [hm,ByteArray.toList_eq]
   have hem:m2.toList.isEmpty=true:=by rw [hl];rfl
   subst hb hc
   clear h g e1 e2 f1 h0 hm
   go_enter Tryz.func46,Tryz.ntmps46
   go_wp2
   exact bodyPost_ret (v:=.agg #[.bool false,.string m2,.bool false,.string k]) (by simp [results,Tryz.results46,go_sem]) rfl ⟨rfl,(((Sb.start w).new _ _).new _ _).bel⟩
 · have hb:b=false:=by rw [e1];exact decide_eq_false (by omega)
   have hc:b2=true:=by rw [f1];exact decide_eq_true (by omega)
   have hne:=toList_ne (l:=[]) (show m2≠⟨#[]⟩ from by rw [e2];exact mag_no_nil (by omega))
   have hem:m2.toList.isEmpty=false:=by rw [List.isEmpty_eq_false_iff];exact hne
   subst hb hc
   clear h g e1 e2 f1 h0
   go_enter Tryz.func46,Tryz.ntmps46
   go_wp2
   exact bodyPost_ret (v:=.agg #[.bool true,.string m2,.bool false,.string k]) (by simp [results,Tryz.results46,go_sem]) rfl ⟨rfl,(((Sb.start w).new _ _).new _ _).bel⟩

set_option maxHeartbeats 4000000 in
set_option maxRecDepth 100000 in
theorem ratNeg_f {q:Rat} {b b2:Bool} {m k m2 k2:ByteArray} (h:Rq q b m k) (g:Rq (-q) b2 m2 k2) (w:World):Calls Tryz.prog 86 #[.agg #[.bool b,.string m,.bool false,.string k]] w (RetB w (.agg #[.bool b2,.string m2,.bool false,.string k2])):=by
 obtain ⟨-,rfl⟩:=h.turned g (by rw [Rat.neg_num,Int.natAbs_neg]) (Rat.neg_den q)
 have hz:=g.num
 rw [Rat.neg_num] at hz
 have HS:=Lib.hid (fun V=>negate_f h.num hz V)
 have X:=Lib.hid (((Sb.start w).new #[.bool b,.string m,.bool false,.string k] 25).new #[.bool false,.string ⟨#[]⟩,.bool false,.string ⟨#[]⟩] 25)
 have X:=Lib.hid (X.out.pick [0,1] [(w.heap.size,#[.bool b,.string m,.bool false,.string k],25),(w.heap.size+1,#[.bool false,.string ⟨#[]⟩,.bool false,.string ⟨#[]⟩],25)] [] (by simp) (by decide) (by simp))
 clear h g hz
 go_enter Tryz.func86,Tryz.ntmps86
 go_upto_region 1 with fail
 refine wp_region_late (S:=fun w'=>(w'.cell? ⟨w.heap.size,0,none⟩=some (.bool b)∧w'.cell? ⟨w.heap.size,1,none⟩=some (.string m)∧w'.cell? ⟨w.heap.size,2,none⟩=some (.bool false)∧w'.cell? ⟨w.heap.size,3,none⟩=some (.string k))) (L:=[]) (by kernel_rfl) ?_
 have X:=Lib.hid X.out.drew
 obtain ⟨V0,hV⟩:=wexi X.out
 rw [←hV] at X ⊢
 clear hV
 refine tk (i:=0) (oi:=⟨some 3,_,_,_,_,_⟩) (v:=_) rfl (by kernel_rfl) (fun _ _ _ h=>h) (X.out.c4 (i:=0) rfl) (Or.inl ⟨by rfl,by intro w hSw;(try dsimp only at hSw);(first | (go_simp;done) | (go_simp;with_reducible rfl))⟩) ?_
 try simp only [Act.put,seti,set0,setS]
 refine tk (i:=1) (oi:=⟨some 4,_,_,_,_,_⟩) (v:=_) rfl (by kernel_rfl) (fun _ _ _ h=>h) (X.out.c4 (i:=0) rfl) (Or.inl ⟨by rfl,by intro w hSw;(try dsimp only at hSw);(first | (go_simp;done) | (go_simp;with_reducible rfl))⟩) ?_
 try simp only [Act.put,seti,set0,setS]
 refine tk (i:=3) (oi:=⟨some 6,_,_,_,_,_⟩) (v:=_) rfl (by kernel_rfl) (fun _ _ _ h=>h) (X.out.c4 (i:=0) rfl) (Or.inl ⟨by rfl,by intro w hSw;(try dsimp only at hSw);(first | (go_simp;done) | (go_simp;with_reducible rfl))⟩) ?_
 try simp only [Act.put,seti,set0,setS]
 refine tk (i:=4) (oi:=⟨some 7,_,_,_,_,_⟩) (v:=_) rfl (by kernel_rfl) (fun _ _ _ h=>h) (X.out.c4 (i:=0) rfl) (Or.inl ⟨by rfl,by intro w hSw;(try dsimp only at hSw);(first | (go_simp;done) | (go_simp;with_reducible rfl))⟩) ?_
 try simp only [Act.put,seti,set0,setS]
 refine wpLate_one (i:=2) (o:=⟨some 5,_,_,_,_,_⟩) (by kernel_rfl) rfl (fun K hK=>?_)
 go_simp
 (go_at_call 131;refine (HS.out _).mono ?_;rintro e u1 ⟨rfl,hb9⟩;have X:=Lib.hid (X.out.next hb9);clear hb9)
 try go_wp2_with fail
 refine hK.out _ _ (Or.inr (fun _=>X.out.c4 (i:=0) rfl)) ?_
 clear hK K
 try simp only [Act.put,seti,set0,setS]
 refine tk (i:=5) (oi:=⟨some 8,_,_,_,_,_⟩) (v:=_) rfl (by kernel_rfl) (fun _ _ _ h=>h) (X.out.c4 (i:=0) rfl) (Or.inl ⟨by rfl,by intro w hSw;(try dsimp only at hSw);(first | (go_simp;done) | (go_simp;with_reducible rfl))⟩) ?_
 try simp only [Act.put,seti,set0,setS]
 refine wpLate_one (i:=6) (o:=⟨none,_,_,_,_,_⟩) (by kernel_rfl) rfl (fun K hK=>?_)
 obtain ⟨x0,x1,x2,x3⟩:=X.out.c4 (i:=1) rfl
 obtain ⟨y0,y1,y2,y3⟩:=X.out.f4 (i:=1) rfl
 have X:=Lib.hid (X.out.set4 (i:=1) rfl (.bool b2) (.string m2) (.bool false) (.string k))
 go_simp
 refine hK.out _ _ (Or.inr (fun _=>X.out.c4 (i:=0) rfl)) ?_
 clear hK K x0 x1 x2 x3 y0 y1 y2 y3
 try simp only [Act.put,seti,set0,setS]
 obtain ⟨W2,hV⟩:=wexi X.out
 rw [←hV] at X ⊢
 clear hV
 refine wpLate_done (by kernel_rfl) ?_ _
 go_wp2
 obtain ⟨p0,p1,p2,p3⟩:=X.out.c4 (i:=1) rfl
 exact bodyPost_ret (v:=.agg #[.bool b2,.string m2,.bool false,.string k]) (by simp [results,Tryz.results86,go_sem,p0,p1,p2,p3]) rfl ⟨rfl,X.out.bel⟩

end Go.Proofs.YtdbhahiieokplaaGreatDoor
