/- Several texts in one. -/
import Derived.Test.YtbbkihekjdffpaaGreatDoorJdN
import Derived.Test.YtbbkihekjdffpaaGreatDoorSrchRX
namespace Go.Proofs.YtbbkihekjdffpaaGreatDoor.jd
open Go.RowKit Go.Shelf
open Go.Sort (swp size_swp insInner insOuter)
open srch (half upTo downTo zzQ symM zSe zHU z8r z2U zjN hapsOf hapF mgO mgC mergeP allH Hap)
section
variable {α:Type} [Inhabited α] (lt:α→α→Bool)
variable {lt} {d:Array α}
end
theorem zxJ (l:List OpV):((hapsOf l).2.map (·.2)=l)∧(∀h∈(hapsOf l).2,h.1≤(hapsOf l).1)∧(hapsOf l).2.Pairwise (fun a b=>a.1≤b.1):=by
 have key:∀(l:List OpV) (s:Int×List Hap),(∀h∈s.2,h.1≤s.1)→s.2.Pairwise (fun a b=>a.1≤b.1)→
  ((l.foldl hapF s).2.map (·.2)=s.2.map (·.2)++l)∧(∀h∈(l.foldl hapF s).2,h.1≤(l.foldl hapF s).1)∧(l.foldl hapF s).2.Pairwise (fun a b=>a.1≤b.1):=by
  intro l
  induction l with
  |nil=>intro s h1 h2;exact⟨by simp,h1,h2⟩
  |cons o r ih=>
    intro s h1 h2;obtain⟨a,b,c⟩:=ih (hapF s o) (fun h hh=>by
     unfold hapF at hh⊢;dsimp only at hh⊢;rcases List.mem_append.1 hh with hh|hh
     ·have:=h1 h hh;omega
     ·rw[List.mem_singleton]at hh;subst hh;exact Int.le_refl _) (by
     unfold hapF;dsimp only;refine List.pairwise_append.2 ⟨h2,List.pairwise_singleton _ _,fun x hx y hy=>?_⟩;rw[List.mem_singleton]at hy;subst hy;have:=h1 x hx;dsimp only;omega)
    refine⟨?_,b,c⟩;rw[List.foldl_cons,a];unfold hapF;simp
 have:=key l (0,[]) (by simp) List.Pairwise.nil;simpa [hapsOf]using this
open Go.RowKit
open srch (Legal LinP zqq z6N endS zLZ ahB)
instance decOpV:DecidableEq OpV:=fun a b=>
 if h:a.id=b.id∧a.cl=b.cl∧a.name=b.name∧a.key=b.key∧a.arg=b.arg∧a.exp=b.exp∧a.call=b.call∧a.ret=b.ret∧a.vk=b.vk∧a.vn=b.vn then .isTrue (by cases a;cases b;simp_all)else .isFalse (fun e=>h (by subst e;simp))
section
variable {σ:Type} (doit:σ→OpV→σ×Int×Int) (s0:σ)
structure Sim (txt:σ→List UInt8)(good:σ→Prop)(m:List UInt8)(ops:List OpV):Prop where
 good0:good s0
 first:txt s0=zKM m
 step:∀s o,good s→o∈ops→good (doit s o).1∧ztI (txt s) o=(txt (doit s o).1,(doit s o).2)
 inj:∀s s',good s→good s'→txt s=txt s'→s=s'
variable {doit s0} {txt:σ→List UInt8} {good:σ→Prop} {m:List UInt8} {ops:List OpV}
def zQ0 (ops ord:List OpV):List UInt8:=ops.map (fun o=>if o∈ord then 49 else 48)
def zSj (doit:σ→OpV→σ×Int×Int)(s0:σ)(txt:σ→List UInt8)(ops ord:List OpV):Cf:=(zQ0 ops ord,txt (endS doit s0 ord))
theorem Sim.ends (h:Sim doit s0 txt good m ops)(n:Nat):∀ord:List OpV,ord.length=n→(∀o∈ord,o∈ops)→good (endS doit s0 ord):=by
 induction n with
 |zero=>intro ord hn _;rw[List.length_eq_zero_iff.1 hn];exact h.good0
 |succ n ih=>
   intro ord hn hs;rcases List.eq_nil_or_concat ord with rfl|⟨r,x,rfl⟩
   ·simp at hn
   rw[List.concat_eq_append]at hn hs⊢;rw[zLZ];exact(h.step _ x (ih r (by simpa using hn) (fun o ho=>hs o (by simp[ho]))) (hs x (by simp))).1
theorem zUg (ops ord:List OpV)(i:Nat)(o:OpV)(h:ops[i]?=some o):(zQ0 ops ord)[i]?.getD 0=if o∈ord then 49 else 48:=by
 unfold zQ0;rw[List.getElem?_map,h];rfl
theorem zx8 (h:Sim doit s0 txt good m ops):zSj doit s0 txt ops []=cf0 m ops:=by
 unfold zSj cf0 zQ0 zYN;refine Prod.ext ?_ h.first;show List.map (fun o=>if o∈([]:List OpV)then 49 else 48) ops=List.replicate ops.length 48;rw[List.eq_replicate_iff];simp
theorem zuT (hd:ops.Nodup)(ord:List OpV)(k:Nat)(o:OpV)(hk:ops[k]?=some o):(zQ0 ops ord).take k++[49]++(zQ0 ops ord).drop (k+1)=zQ0 ops (ord++[o]):=by
 obtain⟨hkl,hke⟩:=zB hk;apply List.ext_getElem?;intro i;have hl:(zQ0 ops ord).length=ops.length:=by simp[zQ0]
 have hR:(zQ0 ops (ord++[o]))[i]?=(ops[i]?).map (fun x=>if x∈ord++[o]then 49 else 48):=by simp[zQ0]
 have hL:∀j:Nat,(zQ0 ops ord)[j]?=(ops[j]?).map (fun x=>if x∈ord then 49 else 48):=fun j=>by simp[zQ0]
 rw[hR];have hne:∀j x,ops[j]?=some x→j≠k→x≠o:=fun j x hx hj e=>by
  subst e;exact hj (srch.nodup_at hd hx hk)
 rcases Nat.lt_trichotomy i k with h|h|h
 ·rw[List.append_assoc,List.getElem?_append_left (by rw[List.length_take];omega),List.getElem?_take,if_pos h,hL];cases e:ops[i]? with
  |none=>rfl
  |some x=>simp[hne i x e (by omega)]
 ·subst h;rw[List.append_assoc,List.getElem?_append_right (by rw[List.length_take];omega),List.length_take,show i-min i (zQ0 ops ord).length=0 by omega,hk];simp
 ·rw[List.getElem?_append_right (by simp;omega),zI,List.length_take,List.length_singleton,List.getElem?_drop,hL,show k+1+(i-(min k (zQ0 ops ord).length+1))=i by omega];cases e:ops[i]? with
  |none=>rfl
  |some x=>simp[hne i x e (by omega)]
theorem znc (h:Sim doit s0 txt good m ops)(hd:ops.Nodup){ord:List OpV}{o:OpV}(hL:Legal doit s0 ops (ord++[o])){k:Nat}(hk:ops[k]?=some o):zsj ops (zSj doit s0 txt ops ord) k=some (zSj doit s0 txt ops (ord++[o])):=by
 have hkl:=(zB hk).1;have hno:o∉ord:=fun hm=>by
  have:=(List.nodup_append.1 hL.nd).2.2 o hm o (by simp);exact this rfl
 have hgood:=h.ends _ ord rfl (fun x hx=>hL.sub x (by simp[hx]));obtain⟨_,hst⟩:=h.step _ o hgood (hL.sub o (by simp));have hrun:=((z6N doit ord s0 o).1 hL.run).2;have hmay:mayP ops (zSj doit s0 txt ops ord).1 k=true:=by
  unfold mayP;show(!((zQ0 ops ord)[k]?.getD 0==49)&&!(List.range ops.length).any (z5E (zQ0 ops ord) ops k))=true;rw[zUg ops ord k o hk,if_neg hno,Bool.and_eq_true];refine⟨by decide,?_⟩;rw[Bool.not_eq_true',List.any_eq_false];intro i hi;obtain⟨y,hy⟩:∃y,ops[i]?=some y:=⟨_,zC (by simpa using hi)⟩;unfold z5E;rw[zUg ops ord i y hy,hy,hk];intro hb;simp only [Option.getD_some,Bool.and_eq_true,decide_eq_true_eq,beq_iff_eq]at hb;obtain⟨⟨h1,h2⟩,h3⟩:=hb;have hin:=hL.ahead ord o [] rfl y (List.mem_of_getElem? hy) (by unfold ahB;simp;omega);rw[if_pos hin]at h1;exact absurd h1 (by decide)
 unfold zsj;rw[if_pos hmay,hk];show(if 0<o.ret∧(ztI (txt (endS doit s0 ord)) o).2≠(o.vk,o.vn)then none else some ((zQ0 ops ord).take k++[49]++(zQ0 ops ord).drop (k+1),(ztI (txt (endS doit s0 ord)) o).1))=_;rw[hst,zuT hd ord k o hk,if_neg]
 ·unfold zSj;rw[zLZ]
 ·rintro⟨h1,h2⟩;exact h2 (hrun (by omega))
theorem zuE (h:Sim doit s0 txt good m ops)(hd:ops.Nodup)(hret:∀o∈ops,0≤o.ret){ord:List OpV}(hL:Legal doit s0 ops ord){k:Nat}(hk:k<ops.length){c':Cf}(hb:zsj ops (zSj doit s0 txt ops ord) k=some c'):∃o,Legal doit s0 ops (ord++[o])∧c'=zSj doit s0 txt ops (ord++[o]):=by
 obtain⟨o,ho⟩:∃o,ops[k]?=some o:=⟨_,zC hk⟩;have hgood:=h.ends _ ord rfl (fun x hx=>hL.sub x hx);obtain⟨_,hst⟩:=h.step _ o hgood (List.mem_of_getElem? ho);unfold zsj at hb;rw[ho]at hb;split at hb
 ·rename_i hm;have hmay:(!((zQ0 ops ord)[k]?.getD 0==49)&&!(List.range ops.length).any (z5E (zQ0 ops ord) ops k))=true:=hm;rw[Bool.and_eq_true,zUg ops ord k o ho]at hmay;have hno:o∉ord:=fun hmm=>by rw[if_pos hmm]at hmay;simp at hmay
  have hlate:∀y∈ops,ahB y o.call=true→y∈ord:=by
   intro y hy ha;apply Decidable.byContradiction;intro hn;obtain⟨i,hi⟩:=List.mem_iff_getElem?.1 hy;have h2:=hmay.2;rw[Bool.not_eq_true',List.any_eq_false]at h2;apply h2 i (by simpa using (zB hi).1);unfold z5E;rw[zUg ops ord i y hi,hi,ho,if_neg hn];unfold ahB at ha;simp at ha;have:=hret y hy;simp;omega
  have hval:o.ret≠0→((doit (endS doit s0 ord) o).2.1,(doit (endS doit s0 ord) o).2.2)=(o.vk,o.vn):=by
   intro hr;apply Decidable.byContradiction;intro hn;have hcond:0<((some o:Option OpV).getD z1u).ret∧(ztI (zSj doit s0 txt ops ord).2 ((some o:Option OpV).getD z1u)).2≠(((some o:Option OpV).getD z1u).vk,((some o:Option OpV).getD z1u).vn):=by
    refine⟨?_,?_⟩
    ·have:=hret o (List.mem_of_getElem? ho);show 0<o.ret;omega
    ·show(ztI (txt (endS doit s0 ord)) o).2≠(o.vk,o.vn);rw[hst];exact hn
   rw[if_pos hcond]at hb;cases hb
  have hL2:Legal doit s0 ops (ord++[o]):=by
   refine⟨List.nodup_append.2 ⟨hL.nd,by simp,fun a ha b hb2 e=>by rw[List.mem_singleton]at hb2;subst hb2;subst e;exact hno ha⟩,fun x hx=>?_,fun l1 x l2 e y hy ha=>?_,(z6N doit ord s0 o).2 ⟨hL.run,hval⟩⟩
   ·rcases List.mem_append.1 hx with hx|hx
    ·exact hL.sub x hx
    ·rw[List.mem_singleton]at hx;subst hx;exact List.mem_of_getElem? ho
   ·rcases List.eq_nil_or_concat l2 with rfl|⟨r,z,rfl⟩
    ·have e2:ord=l1∧o=x:=by
      have:=List.append_inj' e rfl;exact⟨this.1,by simpa using this.2⟩
     obtain⟨rfl,rfl⟩:=e2;exact hlate y hy ha
    ·have e2:ord=l1++x::r:=by
      rw[List.concat_eq_append,←List.cons_append,←List.append_assoc]at e;exact(List.append_inj' e rfl).1
     exact hL.ahead l1 x r e2 y hy ha
  refine⟨o,hL2,?_⟩;have hs:=znc h hd hL2 ho;have hb2:zsj ops (zSj doit s0 txt ops ord) k=some c':=by
   unfold zsj;rw[ho,if_pos hm];exact hb
  rw[hs]at hb2;injection hb2 with hb2;exact hb2.symm
 ·cases hb
theorem zXu (h:Sim doit s0 txt good m ops)(hd:ops.Nodup)(hret:∀o∈ops,0≤o.ret){c:Cf}(hr:RR ops (cf0 m ops) c):∃ord,Legal doit s0 ops ord∧c=zSj doit s0 txt ops ord:=by
 induction hr with
 |start=>exact⟨[],⟨List.nodup_nil,by simp,by simp,trivial⟩,(zx8 h).symm⟩
 |step _ k hk hb ih=>
   obtain⟨ord,hL,rfl⟩:=ih;obtain⟨o,h1,h2⟩:=zuE h hd hret hL hk hb;exact⟨ord++[o],h1,h2⟩
def zBw (ops ord:List OpV):List Nat:=ord.map (fun o=>ops.idxOf o)
theorem zsl {ops:List OpV}{o:OpV}(h:o∈ops):ops[ops.idxOf o]?=some o:=by
 have hl:=List.idxOf_lt_length_iff.2 h;rw[zC hl,List.getElem_idxOf]
theorem z7o {ord:List OpV}(hs:∀o∈ord,o∈ops):zrE ops (zBw ops ord) ord:=by
 refine⟨by simp[zBw],fun i o h=>⟨ops.idxOf o,by simp[zBw,h],zsl (hs o (List.mem_of_getElem? h))⟩⟩
theorem zcP {ord:List OpV}(hs:∀o∈ord,o∈ops)(hn:ord.Nodup):(zBw ops ord).Nodup:=by
 unfold zBw;rw[List.Nodup,List.pairwise_map];refine List.Pairwise.imp_of_mem (fun {a b} ha hb hne e=>hne ?_) hn;have h1:=zsl (hs a ha);have h2:=zsl (hs b hb);rw[e,h2]at h1;injection h1 with h1;exact h1.symm
theorem z82 {n k:Nat}(h:k<n):(List.range n).idxOf? k=some k:=
 ze4 (by rw[List.getElem?_range h]) (fun q hq=>by rw[List.getElem?_range (by omega)];intro e;injection e with e;omega)
theorem z32 (h:Sim doit s0 txt good m ops)(hd:ops.Nodup)(n:Nat):∀ord:List OpV,ord.length=n→Legal doit s0 ops ord→zdl (List.range ops.length) ops (cf0 m ops) (zBw ops ord)=some (zSj doit s0 txt ops ord):=by
 induction n with
 |zero=>intro ord hn _;rw[List.length_eq_zero_iff.1 hn,zx8 h];rfl
 |succ n ih=>
   intro ord hn hL;rcases List.eq_nil_or_concat ord with rfl|⟨r,x,rfl⟩
   ·simp at hn
   rw[List.concat_eq_append]at hn hL⊢;have e:zBw ops (r++[x])=zBw ops r++[ops.idxOf x]:=(by simp[zBw]);have hx:=hL.sub x (by simp);rw[e,zDH,ih r (by simpa using hn) hL.init];show zbm (List.range ops.length) ops (ops.idxOf x) (zSj doit s0 txt ops r)=_;unfold zbm;rw[z82 (List.idxOf_lt_length_iff.2 hx)];exact znc h hd hL (zsl hx)
end
open Go.Sort (swp size_swp swp_other swp_left swp_right insInner insOuter)
open srch (symM zJ2 zSe zHU z8r z2U zjN zFW zpf)
section
variable {α:Type} [Inhabited α] {lt:α→α→Bool} {R:α→α→Prop}
theorem zwb (H:OrdR lt R)(a i:Nat):∀(j:Nat) (d:Array α),a≤j→j≤i→i<d.size→(∀k l,a≤k→k<l→l≤i→k≠j→l≠j→R d[k]! d[l]!)→(∀l,j<l→l≤i→R d[j]! d[l]!)→(∀k,a≤k→k<j→Cr lt R d[k]! d[j]!)→
 SrtR R (insInner lt a j d) a (i+1)∧Moved d (insInner lt a j d) a (i+1):=by
 intro j
 induction j with
 |zero=>
   intro d h1 h2 h3 hO hU hL;refine⟨fun k l h4 h5 h6=>?_,Moved.refl _ _ _⟩;show R d[k]! d[l]!;by_cases c:k=0
   ·subst c;exact hU l h5 (by omega)
   ·exact hO k l h4 h5 (by omega) c (by omega)
 |succ j ih=>
   intro d h1 h2 h3 hO hU hL;unfold insInner;split
   ·rename_i c;rw[Bool.and_eq_true,decide_eq_true_eq]at c;have e1:(swp d (j+1) j)[j]! =d[j+1]!:=swp_right _ _ _ (by omega);have e2:(swp d (j+1) j)[j+1]! =d[j]!:=swp_left _ _ _ (by omega) (by omega);have e3:∀k,k≠j→k≠j+1→(swp d (j+1) j)[k]! =d[k]!:=fun k h4 h5=>swp_other _ _ _ _ h5 h4;obtain⟨r1,r2⟩:=ih (swp d (j+1) j) (by omega) (by omega) (by rw[size_swp];exact h3) (fun k l h4 h5 h6 h7 h8=>by
     by_cases c1:k=j+1
     ·subst c1;rw[e2,e3 l (by omega) (by omega)];exact hO j l (by omega) (by omega) h6 (by omega) (by omega)
     ·rw[e3 k h7 c1];by_cases c2:l=j+1
      ·subst c2;rw[e2];exact hO k j h4 (by omega) (by omega) c1 (by omega)
      ·rw[e3 l h8 c2];exact hO k l h4 h5 h6 c1 c2) (fun l h4 h5=>by
     rw[e1];by_cases c2:l=j+1
     ·subst c2;rw[e2];exact(hL j (by omega) (by omega)).2 c.2
     ·rw[e3 l (by omega) c2];exact hU l (by omega) h5) (fun k h4 h5=>by
     rw[e1,e3 k (by omega) (by omega)];exact hL k h4 (by omega))
    refine⟨r1,Moved.trans ⟨size_swp _ _ _,fun k hk=>e3 k (by omega) (by omega),fun k h4 h5=>?_⟩ r2⟩;by_cases c1:k=j
    ·subst c1;exact⟨k+1,by omega,by omega,e1⟩
    ·by_cases c2:k=j+1
     ·subst c2;exact⟨j,by omega,by omega,e2⟩
     ·exact⟨k,h4,h5,e3 k c1 c2⟩
   ·rename_i c;refine⟨fun k l h4 h5 h6=>?_,Moved.refl _ _ _⟩;by_cases c1:k=j+1
    ·subst c1;exact hU l h5 (by omega)
    ·by_cases c2:l=j+1
     ·subst c2;have hx:lt d[j+1]! d[j]! =false:=by
       cases hh:lt d[j+1]! d[j]! with
       |false=>rfl
       |true=>exact absurd (by rw[hh,decide_eq_true (by omega)];rfl) c
      have hj:=(hL j (by omega) (by omega)).1 hx;by_cases c3:k=j
      ·subst c3;exact hj
      ·exact H.tr _ _ _ (hO k j h4 (by omega) (by omega) c1 (by omega)) hj
     ·exact hO k l h4 h5 (by omega) c1 c2
theorem zip (H:OrdR lt R)(a b:Nat)(d0:Array α)(hb:b≤d0.size)(hC:∀i j,a≤i→i<j→j<b→Cr lt R d0[i]! d0[j]!)(f:Nat):∀(i:Nat) (d:Array α),b-i≤f→a<i→i≤b→SrtR R d a i→Moved d0 d a i→
 SrtR R (insOuter lt a b i d) a b∧Moved d0 (insOuter lt a b i d) a b:=by
 induction f with
 |zero=>
   intro i d h1 h2 h3 hS hM;unfold insOuter;obtain rfl:i=b:=(by omega);rw[if_neg (by omega)];exact⟨hS,hM⟩
 |succ f ih=>
   intro i d h1 h2 h3 hS hM;unfold insOuter;split
   ·rename_i c;obtain⟨r1,r2⟩:=zwb H a i i d (by omega) zG (by rw[hM.1];omega) (fun k l h4 h5 h6 h7 h8=>hS k l h4 h5 (by omega)) (fun l h4 h5=>by omega) (fun k h4 h5=>by
     obtain⟨k',h6,h7,h8⟩:=hM.2.2 k h4 h5;rw[h8,hM.2.1 i (by omega)];exact hC k' i h6 h7 c)
    exact ih (i+1) _ (by omega) (by omega) (by omega) r1 ((hM.wide zG (by omega)).trans r2)
   ·obtain rfl:i=b:=(by omega);exact⟨hS,hM⟩
theorem zIB (H:OrdR lt R)(a b:Nat)(d:Array α)(hab:a≤b)(hb:b≤d.size)(hC:∀i j,a≤i→i<j→j<b→Cr lt R d[i]! d[j]!):SrtR R (Sort.insertionSort lt d a b) a b∧Moved d (Sort.insertionSort lt d a b) a b:=by
 unfold Sort.insertionSort;rcases Nat.lt_or_ge a b with h|h
 ·exact zip H a b d hb hC _ (a+1) d zG (by omega) (by omega) (fun i j _ _ _=>by omega) (Moved.refl _ _ _)
 ·unfold insOuter;rw[if_neg (by omega)];exact⟨fun i j _ _ _=>by omega,Moved.refl _ _ _⟩
def From (d0 d:Array α)(a b:Nat):Prop:=∀k,a≤k→k<b→∃k',a≤k'∧k'<b∧d[k]! =d0[k']!
def Blk (R:α→α→Prop)(d0 d:Array α)(a b:Nat):Prop:=SrtR R d a b∧From d0 d a b
theorem Blk.same {d0 d d':Array α}{a b:Nat}(h:Blk R d0 d a b)(e:∀k,a≤k→k<b→d'[k]! =d[k]!):Blk R d0 d' a b:=by
 refine⟨fun i j h1 h2 h3=>by rw[e i h1 (by omega),e j (by omega) h3];exact h.1 i j h1 h2 h3,fun k h1 h2=>?_⟩;rw[e k h1 h2];exact h.2 k h1 h2
theorem zUK {B c a:Nat}(h1:B ∣ c)(h2:B ∣ a)(h:c<a):c+B≤a:=by
 have:=Nat.le_of_dvd (by omega) (Nat.dvd_sub h2 h1);omega
theorem zpR (H:OrdR lt R)(d0:Array α)(hC:∀i j,i<j→j<d0.size→Cr lt R d0[i]! d0[j]!)(f:Nat):∀(a:Nat) (d:Array α),20 ∣ a→a≤d0.size→d0.size-a<20*f→d.size=d0.size→(∀c,20 ∣ c→c<a→Blk R d0 d c (c+20))→(∀k,a≤k→d[k]! =d0[k]!)→
 20 ∣ (zSe lt f a d0.size d).1∧(zSe lt f a d0.size d).1≤d0.size∧d0.size<(zSe lt f a d0.size d).1+20∧(zSe lt f a d0.size d).2.size=d0.size∧(∀c,20 ∣ c→c<(zSe lt f a d0.size d).1→Blk R d0 (zSe lt f a d0.size d).2 c (c+20))∧(∀k,(zSe lt f a d0.size d).1≤k→(zSe lt f a d0.size d).2[k]! =d0[k]!):=by
 induction f with
 |zero=>intro a d _ _ h;omega
 |succ f ih=>
   intro a d h1 h2 h3 h4 h5 h6;unfold zSe;split
   ·rename_i c;obtain⟨r1,r2⟩:=zIB H a (a+20) d (by omega) (by omega) (fun i j h7 h8 h9=>by rw[h6 i h7,h6 j (by omega)];exact hC i j h8 (by omega));refine ih (a+20) _ (Nat.dvd_add h1 (Nat.dvd_refl _)) c (by omega) (by rw[r2.1];exact h4) (fun c' h7 h8=>?_) (fun k hk=>by rw[r2.2.1 k (by omega)];exact h6 k (by omega));rcases Nat.lt_or_ge c' a with h9|h9
    ·have:=zUK h7 h1 h9;exact(h5 c' h7 h9).same (fun k h10 h11=>r2.2.1 k (by omega))
    ·have hc:c'=a:=by
      rcases Nat.lt_or_ge a c' with h10|h10
      ·have:=zUK h1 h7 h10;omega
      ·omega
     subst hc;refine⟨r1,fun k h10 h11=>?_⟩;obtain⟨k',h12,h13,h14⟩:=r2.2.2 k h10 h11;exact⟨k',h12,h13,by rw[h14,h6 k' h12]⟩
   ·exact⟨h1,h2,by omega,h4,h5,h6⟩
theorem z0v (H:OrdR lt R)(irr:∀x,lt x x=false)(d0:Array α)(hC:∀i j,i<j→j<d0.size→Cr lt R d0[i]! d0[j]!)(f a m b:Nat)(d:Array α)(h1:a<m)(h2:m<b)(h3:b≤d0.size)(hz:d.size=d0.size)(hf:b-a≤f)(hA:Blk R d0 d a m)(hB:Blk R d0 d m b):
 Blk R d0 (symM lt f a m b d) a b∧(symM lt f a m b d).size=d0.size∧∀k,¬(a≤k∧k<b)→(symM lt f a m b d)[k]! =d[k]!:=by
 obtain⟨r1,r2⟩:=zD0 H irr f a m b d h1 h2 (by omega) hf hA.1 hB.1 (fun i j h4 h5 h6 h7=>by
  obtain⟨i',h8,h9,h10⟩:=hA.2 i h4 h5;obtain⟨j',h11,h12,h13⟩:=hB.2 j h6 h7;rw[h10,h13];exact hC i' j' (by omega) (by omega))
 refine⟨⟨r1,fun k h4 h5=>?_⟩,by rw[r2.1,hz],r2.2.1⟩;obtain⟨k',h6,h7,h8⟩:=r2.2.2 k h4 h5;rw[h8];rcases Nat.lt_or_ge k' m with c|c
 ·obtain⟨q,h9,h10,h11⟩:=hA.2 k' h6 c;exact⟨q,h9,by omega,h11⟩
 ·obtain⟨q,h9,h10,h11⟩:=hB.2 k' c h7;exact⟨q,by omega,h10,h11⟩
theorem zjn (H:OrdR lt R)(irr:∀x,lt x x=false)(d0:Array α)(hC:∀i j,i<j→j<d0.size→Cr lt R d0[i]! d0[j]!)(bs:Nat)(hbs:0<bs)(f:Nat):∀(a:Nat) (d:Array α),2*bs ∣ a→a≤d0.size→d0.size-a<f→d.size=d0.size→
 (∀c,2*bs ∣ c→c<a→Blk R d0 d c (c+2*bs))→(∀c,bs ∣ c→a≤c→c<d0.size→Blk R d0 d c (min (c+bs) d0.size))→
 ∃a' d',zHU lt bs f a d0.size d=(a',d')∧2*bs ∣ a'∧a'≤d0.size∧d0.size<a'+2*bs∧d'.size=d0.size∧(∀c,2*bs ∣ c→c<a'→Blk R d0 d' c (c+2*bs))∧(∀c,bs ∣ c→a'≤c→c<d0.size→Blk R d0 d' c (min (c+bs) d0.size)):=by
 induction f with
 |zero=>intro a d _ _ h;omega
 |succ f ih=>
   intro a d h1 h2 h3 h4 h5 h6;have h1':bs ∣ a:=Nat.dvd_trans ⟨2,by omega⟩ h1;unfold zHU;split
   ·rename_i c;have hA:=h6 a h1' zG (by omega);have hB:=h6 (a+bs) (Nat.dvd_add h1' (Nat.dvd_refl _)) (by omega) (by omega);rw[show min (a+bs) d0.size=a+bs by omega]at hA;rw[show min (a+bs+bs) d0.size=a+2*bs by omega]at hB;obtain⟨r1,r2,r3⟩:=z0v H irr d0 hC (2*bs+1) a (a+bs) (a+2*bs) d (by omega) (by omega) c h4 (by omega) hA hB;refine ih (a+2*bs) _ (Nat.dvd_add h1 (Nat.dvd_refl _)) c (by omega) r2 (fun c' h7 h8=>?_) (fun c' h7 h8 h9=>(h6 c' h7 (by omega) h9).same (fun k h10 h11=>r3 k (by omega)));rcases Nat.lt_or_ge c' a with h9|h9
    ·have:=zUK h7 h1 h9;exact(h5 c' h7 h9).same (fun k h10 h11=>r3 k (by omega))
    ·have hc:c'=a:=by
      rcases Nat.lt_or_ge a c' with h10|h10
      ·have:=zUK h1 h7 h10;omega
      ·omega
     subst hc;exact r1
   ·exact⟨a,d,rfl,h1,h2,by omega,h4,h5,h6⟩
theorem z6O (H:OrdR lt R)(irr:∀x,lt x x=false)(d0:Array α)(hC:∀i j,i<j→j<d0.size→Cr lt R d0[i]! d0[j]!)(bs:Nat)(hbs:0<bs)(d:Array α)(h4:d.size=d0.size)(h6:∀c,bs ∣ c→c<d0.size→Blk R d0 d c (min (c+bs) d0.size)):
 (z8r lt bs d0.size d).size=d0.size∧∀c,bs*2 ∣ c→c<d0.size→Blk R d0 (z8r lt bs d0.size d) c (min (c+bs*2) d0.size):=by
 obtain⟨a,d1,he,g1,g2,g3,g4,g5,g6⟩:=zjn H irr d0 hC bs hbs (d0.size+1) 0 d (Nat.dvd_zero _) (by omega) (by omega) h4 (fun c _ h=>by omega) (fun c h7 _ h8=>h6 c h7 h8);have g1':bs ∣ a:=Nat.dvd_trans ⟨2,by omega⟩ g1;unfold z8r;rw[he];dsimp only;rw[Nat.mul_comm bs 2]
 -- a block at c, behind the last merge or not
 have last:∀c,2*bs ∣ c→a≤c→c<d0.size→c=a:=fun c h7 h8 h9=>by
  rcases Nat.lt_or_ge a c with h10|h10
  ·have:=zUK g1 h7 h10;omega
  ·omega
 split
 ·rename_i c1;have hA:=g6 a g1' zG (by omega);have hB:=g6 (a+bs) (Nat.dvd_add g1' (Nat.dvd_refl _)) (by omega) c1;rw[show min (a+bs) d0.size=a+bs by omega]at hA;rw[show min (a+bs+bs) d0.size=d0.size by omega]at hB;obtain⟨r1,r2,r3⟩:=z0v H irr d0 hC (2*bs+1) a (a+bs) d0.size d1 (by omega) c1 zG g4 (by omega) hA hB;refine⟨r2,fun c h7 h8=>?_⟩;rcases Nat.lt_or_ge c a with h9|h9
  ·have:=zUK h7 g1 h9;rw[show min (c+2*bs) d0.size=c+2*bs by omega];exact(g5 c h7 h9).same (fun k h10 h11=>r3 k (by omega))
  ·rw[last c h7 h9 h8,show min (a+2*bs) d0.size=d0.size by omega];exact r1
 ·refine⟨g4,fun c h7 h8=>?_⟩;rcases Nat.lt_or_ge c a with h9|h9
  ·have:=zUK h7 g1 h9;rw[show min (c+2*bs) d0.size=c+2*bs by omega];exact g5 c h7 h9
  ·have hc:=last c h7 h9 h8;subst hc;have:=g6 c g1' zG h8;rw[show min (c+bs) d0.size=d0.size by omega]at this;rw[show min (c+2*bs) d0.size=d0.size by omega];exact this
theorem zOt (H:OrdR lt R)(irr:∀x,lt x x=false)(d0:Array α)(hC:∀i j,i<j→j<d0.size→Cr lt R d0[i]! d0[j]!)(f:Nat):∀(bs:Nat) (d:Array α),0<bs→d0.size<bs+f→d.size=d0.size→(∀c,bs ∣ c→c<d0.size→Blk R d0 d c (min (c+bs) d0.size))→
 SrtR R (z2U lt f bs d0.size d) 0 d0.size:=by
 induction f with
 |zero=>
   intro bs d h1 h2 h3 h4;show SrtR R d 0 d0.size;intro i j h5 h6 h7;have:=(h4 0 (Nat.dvd_zero _) (by omega)).1;rw[show min (0+bs) d0.size=d0.size by omega]at this;exact this i j h5 h6 h7
 |succ f ih=>
   intro bs d h1 h2 h3 h4;unfold z2U;split
   ·obtain⟨r1,r2⟩:=z6O H irr d0 hC bs h1 d h3 h4;exact ih (bs*2) _ (by omega) (by omega) r1 r2
   ·intro i j h5 h6 h7;have:=(h4 0 (Nat.dvd_zero _) (by omega)).1;rw[show min (0+bs) d0.size=d0.size by omega]at this;exact this i j h5 h6 h7
theorem zwH (H:OrdR lt R)(irr:∀x,lt x x=false)(d0:Array α)(hC:∀i j,i<j→j<d0.size→Cr lt R d0[i]! d0[j]!):SrtR R (zjN lt d0) 0 d0.size:=by
 unfold zjN;dsimp only;obtain⟨g1,g2,g3,g4,g5,g6⟩:=zpR H d0 hC (d0.size+1) 0 d0 (Nat.dvd_zero _) (by omega) (by omega) rfl (fun c _ h=>by omega) (fun _ _=>rfl);generalize zSe lt (d0.size+1) 0 d0.size d0=r at*;obtain⟨a,d⟩:=r;dsimp only at*;obtain⟨r1,r2⟩:=zIB H a d0.size d g2 (by omega) (fun i j h7 h8 h9=>by rw[g6 i h7,g6 j (by omega)];exact hC i j h8 h9);refine zOt H irr d0 hC (d0.size+1) 20 _ (by omega) (by omega) (by rw[r2.1];exact g4) (fun c h7 h8=>?_);rcases Nat.lt_or_ge c a with h9|h9
 ·have:=zUK h7 g1 h9;rw[show min (c+20) d0.size=c+20 by omega];exact(g5 c h7 h9).same (fun k h10 h11=>r2.2.1 k (by omega))
 ·have hc:c=a:=by
   rcases Nat.lt_or_ge a c with h10|h10
   ·have:=zUK g1 h7 h10;omega
   ·omega
  subst hc;rw[show min (c+20) d0.size=d0.size by omega];refine⟨r1,fun k h10 h11=>?_⟩;obtain⟨k',h12,h13,h14⟩:=r2.2.2 k h10 h11;exact⟨k',h12,h13,by rw[h14,g6 k' h12]⟩
end
open srch (zjN z0F zUI hapsOf hapF mgO mgC mergeP allH Hap)
instance decHap:DecidableEq Hap:=inferInstanceAs (DecidableEq (Int×OpV))
def mgR (H:List Hap)(x y:Hap):Prop:=x.1<y.1∨(x.1=y.1∧H.idxOf x<H.idxOf y)
theorem zOK (x y:Hap):ltOf mgC x y=decide (x.1<y.1):=by
 unfold ltOf mgC srch.cmpI;by_cases h1:x.1<y.1
 ·rw[if_pos h1];simp[h1]
 ·rw[if_neg h1];by_cases h2:x.1 > y.1
  ·rw[if_pos h2];simp;omega
  ·rw[if_neg h2];simp;omega
theorem zAg (H:List Hap):OrdR (ltOf mgC) (mgR H) where
 tr:=fun x y z h1 h2=>by
  unfold mgR at*;rcases h1 with h1|h1<;>rcases h2 with h2|h2
  ·left;omega
  ·left;omega
  ·left;omega
  ·right;omega
 no:=fun x y h=>by rw[zOK];unfold mgR at h;simp;omega
 nt:=fun x y z h1 h2=>by rw[zOK]at *;simp at *;omega
theorem zkJ {H:List Hap}(hn:H.Nodup){i:Nat}(hi:i<H.length):H.idxOf H[i]=i:=List.Nodup.idxOf_getElem hn i hi
theorem zjD (H:List Hap)(hn:H.Nodup):(mgO H).Pairwise (mgR H)∧(mgO H).Perm H:=by
 have hS:=zwH (zAg H) (fun x=>by rw[zOK];simp) H.toArray (fun i j hij hj=>by
  have hj':j<H.length:=by simpa using hj
  rw[getElem!_pos _ j hj,getElem!_pos _ i (by omega)];have e1:H.idxOf H[i]=i:=zkJ hn (by omega);have e2:H.idxOf H[j]=j:=zkJ hn hj';unfold Cr;rw[zOK];simp only [List.getElem_toArray];constructor
  ·intro h;simp at h;unfold mgR;rw[e1,e2];omega
  ·intro h;simp at h;exact .inl h)
 obtain⟨h1,_,h3⟩:=z0F (ltOf mgC) H.toArray;have hp:(mgO H).Perm H:=by
  unfold mgO;have e1:(zjN (ltOf mgC) H.toArray).extract 0 H.toArray.size=zjN (ltOf mgC) H.toArray:=by rw[←h1];simp
  have e2:H.toArray.extract 0 H.toArray.size=H.toArray:=by simp
  rw[e1,e2]at h3;exact h3
 refine⟨?_,hp⟩;rw[List.pairwise_iff_getElem];intro i j hi hj hij;have hl:(mgO H).length=H.toArray.size:=by rw[hp.length_eq];simp
 have:=hS i j (Nat.zero_le _) hij (by omega);have hi':i<(zjN (ltOf mgC) H.toArray).size:=by rw[h1];omega
 have hj':j<(zjN (ltOf mgC) H.toArray).size:=by rw[h1];omega
 rw[getElem!_pos _ i hi',getElem!_pos _ j hj']at this;have e:∀(k:Nat) (hk:k<(mgO H).length) (hk':k<(zjN (ltOf mgC) H.toArray).size),(mgO H)[k]'hk=(zjN (ltOf mgC) H.toArray)[k]'hk':=fun k hk hk'=>rfl;rw[e i hi hi',e j hj hj'];exact this
theorem zaW (l:List OpV):(hapsOf l).2.map (·.2)=l:=(zxJ l).1
theorem haps_mem {l:List OpV}{h:Hap}(hh:h∈(hapsOf l).2):h.2∈l:=by rw[←zaW l];exact List.mem_map_of_mem hh
theorem zsh (ls:List (List OpV)):(allH ls).map (·.2)=ls.flatten:=by
 unfold allH
 induction ls with
 |nil=>rfl
 |cons l r ih=>rw[List.flatMap_cons,List.map_append,zaW,ih];rfl
theorem zsVH {β γ:Type}(f:β→γ){l:List β}(h:(l.map f).Nodup):l.Nodup:=by
 induction l with
 |nil=>exact List.nodup_nil
 |cons a r ih=>
   rw[List.map_cons,List.nodup_cons]at h;exact List.nodup_cons.2 ⟨fun hm=>h.1 (List.mem_map_of_mem hm),ih h.2⟩
theorem zNq {ls:List (List OpV)}(hn:ls.flatten.Nodup){l:List OpV}(hl:l∈ls):(allH ls).filter (fun h=>decide (h.2∈l))=(hapsOf l).2:=by
 have out:∀(l':List OpV),(∀o∈l',o∉l)→(hapsOf l').2.filter (fun h=>decide (h.2∈l))=[]:=fun l' hd=>by
  rw[List.filter_eq_nil_iff];intro h hh;simpa using hd h.2 (haps_mem hh)
 have own:(hapsOf l).2.filter (fun h=>decide (h.2∈l))=(hapsOf l).2:=by
  rw[List.filter_eq_self];intro h hh;simpa using haps_mem hh
 have none_:∀rs:List (List OpV),(∀l'∈rs,∀o∈l',o∉l)→(allH rs).filter (fun h=>decide (h.2∈l))=[]:=by
  intro rs;unfold allH
  induction rs with
  |nil=>intro _;rfl
  |cons a r ih=>
    intro h;rw[List.flatMap_cons,List.filter_append,out a (h a (by simp)),ih (fun l' hl'=>h l' (by simp[hl']))];rfl
 induction ls with
 |nil=>cases hl
 |cons a r ih=>
   rw[List.flatten_cons,List.nodup_append]at hn;rw[show allH (a::r)=(hapsOf a).2++allH r from rfl,List.filter_append];by_cases c:l=a
   ·subst c;rw[own,none_ r (fun l' hl' o ho hm=>hn.2.2 o hm o (List.mem_flatten.2 ⟨l',hl',ho⟩) rfl),List.append_nil]
   ·have hr:l∈r:=by
     rcases List.mem_cons.1 hl with h|h
     ·exact absurd h c
     ·exact h
    rw[out a (fun o ho hm=>hn.2.2 o ho o (List.mem_flatten.2 ⟨l,hr,hm⟩) rfl),ih hn.2.1 hr,List.nil_append]
theorem zep {ls:List (List OpV)}(hn:ls.flatten.Nodup):(mergeP ls).Perm ls.flatten:=by
 have hH:(allH ls).Nodup:=zsVH (·.2) (by rw[zsh];exact hn);unfold mergeP;rw[←zsh ls];exact(zjD _ hH).2.map _
theorem zCR {ls:List (List OpV)}(hn:ls.flatten.Nodup){l:List OpV}(hl:l∈ls):(mergeP ls).filter (fun o=>decide (o∈l))=l:=by
 have hH:(allH ls).Nodup:=zsVH (·.2) (by rw[zsh];exact hn);obtain⟨h1,h2⟩:=zjD _ hH;have key:(mgO (allH ls)).filter (fun h=>decide (h.2∈l))=(hapsOf l).2:=by
  have hp:=h2.filter (fun h=>decide (h.2∈l));rw[zNq hn hl]at hp;refine List.Perm.eq_of_pairwise (le:=mgR (allH ls)) (fun a b _ _ h3 h4=>?_) (h1.filter _) ?_ hp
  ·unfold mgR at h3 h4;omega
  ·have r1:=(zxJ l).2.2;have r2:(allH ls).Pairwise (fun x y=>(allH ls).idxOf x<(allH ls).idxOf y):=by
    rw[List.pairwise_iff_getElem];intro i j hi hj hij;rw[zkJ hH hi,zkJ hH hj];exact hij
   have r3:=r2.filter (fun h=>decide (h.2∈l));rw[zNq hn hl]at r3;refine(r1.and r3).imp ?_;rintro a b ⟨h5,h6⟩;unfold mgR;omega
 unfold mergeP;rw[List.filter_map];show((mgO (allH ls)).filter (fun h=>decide (h.2∈l))).map (·.2)=l;rw[key,zaW]
theorem z02 (l:List OpV)(o:OpV):hapsOf (l++[o])=hapF (hapsOf l) o:=by
 unfold hapsOf;rw[List.foldl_append];rfl
theorem zFr (n:Nat):∀l:List OpV,l.length=n→z8Z l→(∀o∈l,0<o.ret→o.call≤o.ret)→
 (∀h∈(hapsOf l).2,h.2.call≤h.1∧(0<h.2.ret→h.1≤h.2.ret))∧∀M:Int,0≤M→(∀o∈l,o.call≤M)→(hapsOf l).1≤M:=by
 induction n with
 |zero=>
   intro l hl _ _;rw[List.length_eq_zero_iff.1 hl];exact⟨fun h hh=>by simp[hapsOf]at hh,fun M hM _=>by simpa [hapsOf]using hM⟩
 |succ n ih=>
   intro l hl hO hc;rcases List.eq_nil_or_concat l with rfl|⟨r,o,rfl⟩
   ·simp at hl
   rw[List.concat_eq_append]at*;obtain⟨i1,i2⟩:=ih r (by simpa using hl) (fun i k a b h1 h2 h3=>hO i k a b h1 (by rw[List.getElem?_append_left (zB h2).1];exact h2) (by rw[List.getElem?_append_left (zB h3).1];exact h3)) (fun x hx=>hc x (by simp[hx]));rw[z02];unfold hapF;dsimp only;refine⟨fun h hh=>?_,fun M hM hcM=>?_⟩
   ·rcases List.mem_append.1 hh with hh|hh
    ·exact i1 h hh
    ·rw[List.mem_singleton]at hh;subst hh;dsimp only;refine⟨by omega,fun hr=>?_⟩;have h1:=hc o (by simp) hr;have h2:=i2 o.ret (by omega) (fun x hx=>by
      obtain⟨k,hk⟩:=List.mem_iff_getElem?.1 hx;have hkl:=(zB hk).1;have:=hO r.length k o x hkl (by simp) (by rw[List.getElem?_append_left hkl];exact hk);omega)
     omega
   ·have h1:=hcM o (by simp);have h2:=i2 M hM (fun x hx=>hcM x (by simp[hx]));omega
theorem zrX {ls:List (List OpV)}(hn:ls.flatten.Nodup)(hO:∀l∈ls,z8Z l)(hc:∀l∈ls,∀o∈l,0<o.ret→o.call≤o.ret):z8Z (mergeP ls):=by
 have hH:(allH ls).Nodup:=zsVH (·.2) (by rw[zsh];exact hn);obtain⟨h1,h2⟩:=zjD _ hH;have ht:∀h∈mgO (allH ls),h.2.call≤h.1∧(0<h.2.ret→h.1≤h.2.ret):=fun h hh=>by
  have hm:=h2.mem_iff.1 hh;unfold allH at hm;obtain⟨l,hl,hm⟩:=List.mem_flatMap.1 hm;exact(zFr _ l rfl (hO l hl) (hc l hl)).1 h hm
 intro i k a b hki ha hb;unfold mergeP at ha hb;rw[List.getElem?_map]at ha hb;obtain⟨x,hx,rfl⟩:=Option.map_eq_some_iff.1 ha;obtain⟨y,hy,rfl⟩:=Option.map_eq_some_iff.1 hb;obtain⟨hi',hx'⟩:=zB hx;obtain⟨hk',hy'⟩:=zB hy;have hR:=List.pairwise_iff_getElem.1 h1 k i hk' hi' hki;rw[hx',hy']at hR;have t1:=ht x (List.mem_of_getElem? hx);have t2:=ht y (List.mem_of_getElem? hy);unfold mgR at hR;rintro⟨h3,h4⟩;have:=t1.2 h3;omega
end Go.Proofs.YtbbkihekjdffpaaGreatDoor.jd
