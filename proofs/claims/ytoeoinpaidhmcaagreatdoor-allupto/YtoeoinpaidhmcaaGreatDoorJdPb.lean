/- Several texts in one. -/
import Derived.Test.YtoeoinpaidhmcaaGreatDoorJdN
import Derived.Test.YtoeoinpaidhmcaaGreatDoorSrchRX
namespace Go.Proofs.YtoeoinpaidhmcaaGreatDoor.jd
open Go.RowKit Go.Shelf
open Go.Sort (swp size_swp insInner insOuter)
open srch (half upTo downTo zzQ symM zSe zHU z8r z2U zjN hapsOf hapF mgO mgC mergeP allH Hap)
section
variable {α:Type} [Inhabited α] (lt:α→α→Bool)
variable {lt} {d:Array α}
end
theorem zxJ (l:List OpV):((hapsOf l).2.map (·.2)=l)∧(∀h∈(hapsOf l).2,h.1≤(hapsOf l).1)∧(hapsOf l).2.Pairwise (fun a b=>a.1≤b.1):=by
 have key:∀(l:List OpV) (s:Int×List Hap),(∀h∈s.2,h.1≤s.1)→s.2.Pairwise (fun a b=>a.1≤b.1)→
  ((l.foldl hapF s).2.map (·.2)=s.2.map (·.2)++l)∧(∀h∈(l.foldl hapF s).2,h.1≤(l.foldl hapF s).1)∧(l.foldl hapF s).2.Pairwise (fun a b=>a.1≤b.1):=by
  intro l
  induction l with
  |nil=>intro s d e;exact⟨by simp,d,e⟩
  |cons o r ih=>
    intro s d e;obtain⟨a,b,c⟩:=ih (hapF s o) (fun h hh=>by
     unfold hapF at hh⊢;dsimp only at hh⊢;rcases List.mem_append.1 hh with hh|hh
     ·have:=d h hh;omega
     ·rw[List.mem_singleton]at hh;subst hh;exact Int.le_refl _) (by
     unfold hapF;dsimp only;refine List.pairwise_append.2 ⟨e,List.pairwise_singleton _ _,fun x hx y hy=>?_⟩;rw[List.mem_singleton]at hy;subst hy;have:=d x hx;dsimp only;omega)
    refine⟨?_,b,c⟩;rw[List.foldl_cons,a];unfold hapF;simp
 have:=key l (0,[]) (by simp) List.Pairwise.nil;simpa [hapsOf]using this
open Go.RowKit
open srch (Legal LinP zqq z6N endS zLZ ahB)
instance decOpV:DecidableEq OpV:=fun a b=>
 if h:a.id=b.id∧a.cl=b.cl∧a.name=b.name∧a.key=b.key∧a.arg=b.arg∧a.exp=b.exp∧a.call=b.call∧a.ret=b.ret∧a.vk=b.vk∧a.vn=b.vn then .isTrue (by cases a;cases b;simp_all)else .isFalse (fun e=>h (by subst e;simp))
section
variable {σ:Type} (doit:σ→OpV→σ×Int×Int) (s0:σ)
structure Sim (txt:σ→List UInt8)(good:σ→Prop)(m:List UInt8)(ops:List OpV):Prop where
 good0:good s0
 first:txt s0=zKM m
 step:∀s o,good s→o∈ops→good (doit s o).1∧ztI (txt s) o=(txt (doit s o).1,(doit s o).2)
 inj:∀s s',good s→good s'→txt s=txt s'→s=s'
variable {doit s0} {txt:σ→List UInt8} {good:σ→Prop} {m:List UInt8} {ops:List OpV}
def zQ0 (ops ord:List OpV):List UInt8:=ops.map (fun o=>if o∈ord then 49 else 48)
def zSj (doit:σ→OpV→σ×Int×Int)(s0:σ)(txt:σ→List UInt8)(ops ord:List OpV):Cf:=(zQ0 ops ord,txt (endS doit s0 ord))
theorem Sim.ends (h:Sim doit s0 txt good m ops)(n:Nat):∀a:List OpV,a.length=n→(∀o∈a,o∈ops)→good (endS doit s0 a):=by
 induction n with
 |zero=>intro a b _;rw[List.length_eq_zero_iff.1 b];exact h.good0
 |succ n ih=>
   intro a b d;rcases List.eq_nil_or_concat a with rfl|⟨r,x,rfl⟩
   ·simp at b
   rw[List.concat_eq_append]at b d⊢;rw[zLZ];exact(h.step _ x (ih r (by simpa using b) (fun o ho=>d o (by simp[ho]))) (d x (by simp))).1
theorem zUg (a b:List OpV)(i:Nat)(o:OpV)(h:a[i]?=some o):(zQ0 a b)[i]?.getD 0=if o∈b then 49 else 48:=by
 unfold zQ0;rw[List.getElem?_map,h];rfl
theorem zx8 (h:Sim doit s0 txt good m ops):zSj doit s0 txt ops []=cf0 m ops:=by
 unfold zSj cf0 zQ0 zYN;refine Prod.ext ?_ h.first;show List.map (fun o=>if o∈([]:List OpV)then 49 else 48) ops=List.replicate ops.length 48;rw[List.eq_replicate_iff];simp
theorem zuT (l:ops.Nodup)(a:List OpV)(k:Nat)(o:OpV)(d:ops[k]?=some o):(zQ0 ops a).take k++[49]++(zQ0 ops a).drop (k+1)=zQ0 ops (a++[o]):=by
 obtain⟨n,m⟩:=zB d;apply List.ext_getElem?;intro i;have p:(zQ0 ops a).length=ops.length:=by simp[zQ0]
 have hR:(zQ0 ops (a++[o]))[i]?=(ops[i]?).map (fun x=>if x∈a++[o]then 49 else 48):=by simp[zQ0]
 have g:∀j:Nat,(zQ0 ops a)[j]?=(ops[j]?).map (fun x=>if x∈a then 49 else 48):=fun j=>by simp[zQ0]
 rw[hR];have b:∀j x,ops[j]?=some x→j≠k→x≠o:=fun j x hx hj e=>by
  subst e;exact hj (srch.nodup_at l hx d)
 rcases Nat.lt_trichotomy i k with h|h|h
 ·rw[List.append_assoc,List.getElem?_append_left (by rw[List.length_take];omega),List.getElem?_take,if_pos h,g];cases e:ops[i]? with
  |none=>rfl
  |some x=>simp[b i x e (by omega)]
 ·subst h;rw[List.append_assoc,List.getElem?_append_right (by rw[List.length_take];omega),List.length_take,show i-min i (zQ0 ops a).length=0 by omega,d];simp
 ·rw[List.getElem?_append_right (by simp;omega),zJ,List.length_take,List.length_singleton,List.getElem?_drop,g,show k+1+(i-(min k (zQ0 ops a).length+1))=i by omega];cases e:ops[i]? with
  |none=>rfl
  |some x=>simp[b i x e (by omega)]
theorem znc (h:Sim doit s0 txt good m ops)(v:ops.Nodup){a:List OpV}{o:OpV}(b:Legal doit s0 ops (a++[o])){k:Nat}(d:ops[k]?=some o):zsj ops (zSj doit s0 txt ops a) k=some (zSj doit s0 txt ops (a++[o])):=by
 have w:=(zB d).1;have t:o∉a:=fun hm=>by
  have:=(List.nodup_append.1 b.nd).2.2 o hm o (by simp);exact this rfl
 have e:=h.ends _ a rfl (fun x hx=>b.sub x (by simp[hx]));obtain⟨_,r⟩:=h.step _ o e (b.sub o (by simp));have n:=((z6N doit a s0 o).1 b.run).2;have j:mayP ops (zSj doit s0 txt ops a).1 k=true:=by
  unfold mayP;show(!((zQ0 ops a)[k]?.getD 0==49)&&!(List.range ops.length).any (z5E (zQ0 ops a) ops k))=true;rw[zUg ops a k o d,if_neg t,Bool.and_eq_true];refine⟨by decide,?_⟩;rw[Bool.not_eq_true',List.any_eq_false];intro i u;obtain⟨y,l⟩:∃y,ops[i]?=some y:=⟨_,zC (by simpa using u)⟩;unfold z5E;rw[zUg ops a i y l,l,d];intro s;simp only [Option.getD_some,Bool.and_eq_true,decide_eq_true_eq,beq_iff_eq]at s;obtain⟨⟨g,p⟩,z⟩:=s;have q:=b.ahead a o [] rfl y (List.mem_of_getElem? l) (by unfold ahB;simp;omega);rw[if_pos q]at g;exact absurd g (by decide)
 unfold zsj;rw[if_pos j,d];show(if 0<o.ret∧(ztI (txt (endS doit s0 a)) o).2≠(o.vk,o.vn)then none else some ((zQ0 ops a).take k++[49]++(zQ0 ops a).drop (k+1),(ztI (txt (endS doit s0 a)) o).1))=_;rw[r,zuT v a k o d,if_neg]
 ·unfold zSj;rw[zLZ]
 ·rintro⟨g,p⟩;exact p (n (by omega))
theorem zuE (h:Sim doit s0 txt good m ops)(J:ops.Nodup)(t:∀o∈ops,0≤o.ret){d:List OpV}(q:Legal doit s0 ops d){k:Nat}(K:k<ops.length){c':Cf}(p:zsj ops (zSj doit s0 txt ops d) k=some c'):∃o,Legal doit s0 ops (d++[o])∧c'=zSj doit s0 txt ops (d++[o]):=by
 obtain⟨o,l⟩:∃o,ops[k]?=some o:=⟨_,zC K⟩;have u:=h.ends _ d rfl (fun x hx=>q.sub x hx);obtain⟨_,G⟩:=h.step _ o u (List.mem_of_getElem? l);unfold zsj at p;rw[l]at p;split at p
 ·rename_i hm;have j:(!((zQ0 ops d)[k]?.getD 0==49)&&!(List.range ops.length).any (z5E (zQ0 ops d) ops k))=true:=hm;rw[Bool.and_eq_true,zUg ops d k o l]at j;have H:o∉d:=fun hmm=>by rw[if_pos hmm]at j;simp at j
  have v:∀y∈ops,ahB y o.call=true→y∈d:=by
   intro y s n;apply Decidable.byContradiction;intro C;obtain⟨i,B⟩:=List.mem_iff_getElem?.1 s;have F:=j.2;rw[Bool.not_eq_true',List.any_eq_false]at F;apply F i (by simpa using (zB B).1);unfold z5E;rw[zUg ops d i y B,B,l,if_neg C];unfold ahB at n;simp at n;have:=t y s;simp;omega
  have E:o.ret≠0→((doit (endS doit s0 d) o).2.1,(doit (endS doit s0 d) o).2.2)=(o.vk,o.vn):=by
   intro L;apply Decidable.byContradiction;intro C;have w:0<((some o:Option OpV).getD z1u).ret∧(ztI (zSj doit s0 txt ops d).2 ((some o:Option OpV).getD z1u)).2≠(((some o:Option OpV).getD z1u).vk,((some o:Option OpV).getD z1u).vn):=by
    refine⟨?_,?_⟩
    ·have:=t o (List.mem_of_getElem? l);show 0<o.ret;omega
    ·show(ztI (txt (endS doit s0 d)) o).2≠(o.vk,o.vn);rw[G];exact C
   rw[if_pos w]at p;cases p
  have A:Legal doit s0 ops (d++[o]):=by
   refine⟨List.nodup_append.2 ⟨q.nd,by simp,fun a n b g e=>by rw[List.mem_singleton]at g;subst g;subst e;exact H n⟩,fun x hx=>?_,fun l1 x l2 e y s n=>?_,(z6N doit d s0 o).2 ⟨q.run,E⟩⟩
   ·rcases List.mem_append.1 hx with hx|hx
    ·exact q.sub x hx
    ·rw[List.mem_singleton]at hx;subst hx;exact List.mem_of_getElem? l
   ·rcases List.eq_nil_or_concat l2 with rfl|⟨r,z,rfl⟩
    ·have D:d=l1∧o=x:=by
      have:=List.append_inj' e rfl;exact⟨this.1,by simpa using this.2⟩
     obtain⟨rfl,rfl⟩:=D;exact v y s n
    ·have D:d=l1++x::r:=by
      rw[List.concat_eq_append,←List.cons_append,←List.append_assoc]at e;exact(List.append_inj' e rfl).1
     exact q.ahead l1 x r D y s n
  refine⟨o,A,?_⟩;have I:=znc h J A l;have g:zsj ops (zSj doit s0 txt ops d) k=some c':=by
   unfold zsj;rw[l,if_pos hm];exact p
  rw[I]at g;injection g with g;exact g.symm
 ·cases p
theorem zXu (h:Sim doit s0 txt good m ops)(i:ops.Nodup)(b:∀o∈ops,0≤o.ret){c:Cf}(j:RR ops (cf0 m ops) c):∃a,Legal doit s0 ops a∧c=zSj doit s0 txt ops a:=by
 induction j with
 |start=>exact⟨[],⟨List.nodup_nil,by simp,by simp,trivial⟩,(zx8 h).symm⟩
 |step _ k hk hb ih=>
   obtain⟨a,e,rfl⟩:=ih;obtain⟨o,d,g⟩:=zuE h i b e hk hb;exact⟨a++[o],d,g⟩
def zBw (ops ord:List OpV):List Nat:=ord.map (fun o=>ops.idxOf o)
theorem zsl {a:List OpV}{o:OpV}(h:o∈a):a[a.idxOf o]?=some o:=by
 have b:=List.idxOf_lt_length_iff.2 h;rw[zC b,List.getElem_idxOf]
theorem z7o {a:List OpV}(b:∀o∈a,o∈ops):zrE ops (zBw ops a) a:=by
 refine⟨by simp[zBw],fun i o h=>⟨ops.idxOf o,by simp[zBw,h],zsl (b o (List.mem_of_getElem? h))⟩⟩
theorem zbP {d:List OpV}(h:∀o∈d,o∈ops)(j:d.Nodup):(zBw ops d).Nodup:=by
 unfold zBw;rw[List.Nodup,List.pairwise_map];refine List.Pairwise.imp_of_mem (fun {a b} ha hb hne e=>hne ?_) j;have g:=zsl (h a ha);have i:=zsl (h b hb);rw[e,i]at g;injection g with g;exact g.symm
theorem z82 {n k:Nat}(h:k<n):(List.range n).idxOf? k=some k:=
 ze4 (by rw[List.getElem?_range h]) (fun q hq=>by rw[List.getElem?_range (by omega)];intro e;injection e with e;omega)
theorem z32 (h:Sim doit s0 txt good m ops)(i:ops.Nodup)(n:Nat):∀a:List OpV,a.length=n→Legal doit s0 ops a→zdl (List.range ops.length) ops (cf0 m ops) (zBw ops a)=some (zSj doit s0 txt ops a):=by
 induction n with
 |zero=>intro a b _;rw[List.length_eq_zero_iff.1 b,zx8 h];rfl
 |succ n ih=>
   intro a b d;rcases List.eq_nil_or_concat a with rfl|⟨r,x,rfl⟩
   ·simp at b
   rw[List.concat_eq_append]at b d⊢;have e:zBw ops (r++[x])=zBw ops r++[ops.idxOf x]:=(by simp[zBw]);have g:=d.sub x (by simp);rw[e,zDH,ih r (by simpa using b) d.init];show zbm (List.range ops.length) ops (ops.idxOf x) (zSj doit s0 txt ops r)=_;unfold zbm;rw[z82 (List.idxOf_lt_length_iff.2 g)];exact znc h i d (zsl g)
end
open Go.Sort (swp size_swp swp_other swp_left swp_right insInner insOuter)
open srch (symM zJ2 zSe zHU z8r z2U zjN zFW zpf)
section
variable {α:Type} [Inhabited α] {lt:α→α→Bool} {R:α→α→Prop}
theorem zwb (H:OrdR lt R)(a i:Nat):∀(j:Nat) (d:Array α),a≤j→j≤i→i<d.size→(∀k l,a≤k→k<l→l≤i→k≠j→l≠j→R d[k]! d[l]!)→(∀l,j<l→l≤i→R d[j]! d[l]!)→(∀k,a≤k→k<j→Cr lt R d[k]! d[j]!)→
 SrtR R (insInner lt a j d) a (i+1)∧Moved d (insInner lt a j d) a (i+1):=by
 intro j
 induction j with
 |zero=>
   intro d q s p e m g;refine⟨fun k l h4 h5 h6=>?_,Moved.refl _ _ _⟩;show R d[k]! d[l]!;by_cases c:k=0
   ·subst c;exact m l h5 (by omega)
   ·exact e k l h4 h5 (by omega) c (by omega)
 |succ j ih=>
   intro d q s p e m g;unfold insInner;split
   ·rename_i c;rw[Bool.and_eq_true,decide_eq_true_eq]at c;have n:(swp d (j+1) j)[j]! =d[j+1]!:=swp_right _ _ _ (by omega);have h:(swp d (j+1) j)[j+1]! =d[j]!:=swp_left _ _ _ (by omega) (by omega);have b:∀k,k≠j→k≠j+1→(swp d (j+1) j)[k]! =d[k]!:=fun k h4 h5=>swp_other _ _ _ _ h5 h4;obtain⟨u,r⟩:=ih (swp d (j+1) j) (by omega) (by omega) (by rw[size_swp];exact p) (fun k l h4 h5 h6 h7 h8=>by
     by_cases c1:k=j+1
     ·subst c1;rw[h,b l (by omega) (by omega)];exact e j l (by omega) (by omega) h6 (by omega) (by omega)
     ·rw[b k h7 c1];by_cases c2:l=j+1
      ·subst c2;rw[h];exact e k j h4 (by omega) (by omega) c1 (by omega)
      ·rw[b l h8 c2];exact e k l h4 h5 h6 c1 c2) (fun l h4 h5=>by
     rw[n];by_cases c2:l=j+1
     ·subst c2;rw[h];exact(g j (by omega) (by omega)).2 c.2
     ·rw[b l (by omega) c2];exact m l (by omega) h5) (fun k h4 h5=>by
     rw[n,b k (by omega) (by omega)];exact g k h4 (by omega))
    refine⟨u,Moved.trans ⟨size_swp _ _ _,fun k hk=>b k (by omega) (by omega),fun k h4 h5=>?_⟩ r⟩;by_cases c1:k=j
    ·subst c1;exact⟨k+1,by omega,by omega,n⟩
    ·by_cases c2:k=j+1
     ·subst c2;exact⟨j,by omega,by omega,h⟩
     ·exact⟨k,h4,h5,b k c1 c2⟩
   ·rename_i c;refine⟨fun k l h4 h5 h6=>?_,Moved.refl _ _ _⟩;by_cases c1:k=j+1
    ·subst c1;exact m l h5 (by omega)
    ·by_cases c2:l=j+1
     ·subst c2;have t:lt d[j+1]! d[j]! =false:=by
       cases hh:lt d[j+1]! d[j]! with
       |false=>rfl
       |true=>exact absurd (by rw[hh,decide_eq_true (by omega)];rfl) c
      have o:=(g j (by omega) (by omega)).1 t;by_cases c3:k=j
      ·subst c3;exact o
      ·exact H.tr _ _ _ (e k j h4 (by omega) (by omega) c1 (by omega)) o
     ·exact e k l h4 h5 (by omega) c1 c2
theorem zjp (H:OrdR lt R)(a b:Nat)(g:Array α)(v:b≤g.size)(p:∀i j,a≤i→i<j→j<b→Cr lt R g[i]! g[j]!)(f:Nat):∀(i:Nat) (d:Array α),b-i≤f→a<i→i≤b→SrtR R d a i→Moved g d a i→
 SrtR R (insOuter lt a b i d) a b∧Moved g (insOuter lt a b i d) a b:=by
 induction f with
 |zero=>
   intro i d r q s h e;unfold insOuter;obtain rfl:i=b:=(by omega);rw[if_neg (by omega)];exact⟨h,e⟩
 |succ f ih=>
   intro i d r q s h e;unfold insOuter;split
   ·rename_i c;obtain⟨u,t⟩:=zwb H a i i d (by omega) zH (by rw[e.1];omega) (fun k l h4 h5 o m n=>h k l h4 h5 (by omega)) (fun l h4 h5=>by omega) (fun k h4 h5=>by
     obtain⟨k',o,m,n⟩:=e.2.2 k h4 h5;rw[n,e.2.1 i (by omega)];exact p k' i o m c)
    exact ih (i+1) _ (by omega) (by omega) (by omega) u ((e.wide zH (by omega)).trans t)
   ·obtain rfl:i=b:=(by omega);exact⟨h,e⟩
theorem zIB (H:OrdR lt R)(a b:Nat)(d:Array α)(k:a≤b)(e:b≤d.size)(g:∀i j,a≤i→i<j→j<b→Cr lt R d[i]! d[j]!):SrtR R (Sort.insertionSort lt d a b) a b∧Moved d (Sort.insertionSort lt d a b) a b:=by
 unfold Sort.insertionSort;rcases Nat.lt_or_ge a b with h|h
 ·exact zjp H a b d e g _ (a+1) d zH (by omega) (by omega) (fun i j _ _ _=>by omega) (Moved.refl _ _ _)
 ·unfold insOuter;rw[if_neg (by omega)];exact⟨fun i j _ _ _=>by omega,Moved.refl _ _ _⟩
def From (d0 d:Array α)(a b:Nat):Prop:=∀k,a≤k→k<b→∃k',a≤k'∧k'<b∧d[k]! =d0[k']!
def Blk (R:α→α→Prop)(d0 d:Array α)(a b:Nat):Prop:=SrtR R d a b∧From d0 d a b
theorem Blk.same {l d g:Array α}{a b:Nat}(h:Blk R l d a b)(e:∀k,a≤k→k<b→g[k]! =d[k]!):Blk R l g a b:=by
 refine⟨fun i j h1 h2 h3=>by rw[e i h1 (by omega),e j (by omega) h3];exact h.1 i j h1 h2 h3,fun k h1 h2=>?_⟩;rw[e k h1 h2];exact h.2 k h1 h2
theorem zUK {B c a:Nat}(b:B ∣ c)(d:B ∣ a)(h:c<a):c+B≤a:=by
 have:=Nat.le_of_dvd (by omega) (Nat.dvd_sub d b);omega
theorem zpR (H:OrdR lt R)(b:Array α)(r:∀i j,i<j→j<b.size→Cr lt R b[i]! b[j]!)(f:Nat):∀(a:Nat) (d:Array α),20 ∣ a→a≤b.size→b.size-a<20*f→d.size=b.size→(∀c,20 ∣ c→c<a→Blk R b d c (c+20))→(∀k,a≤k→d[k]! =b[k]!)→
 20 ∣ (zSe lt f a b.size d).1∧(zSe lt f a b.size d).1≤b.size∧b.size<(zSe lt f a b.size d).1+20∧(zSe lt f a b.size d).2.size=b.size∧(∀c,20 ∣ c→c<(zSe lt f a b.size d).1→Blk R b (zSe lt f a b.size d).2 c (c+20))∧(∀k,(zSe lt f a b.size d).1≤k→(zSe lt f a b.size d).2[k]! =b[k]!):=by
 induction f with
 |zero=>intro a d _ _ h;omega
 |succ f ih=>
   intro a d g s v p n e;unfold zSe;split
   ·rename_i c;obtain⟨u,l⟩:=zIB H a (a+20) d (by omega) (by omega) (fun i j h7 h8 h9=>by rw[e i h7,e j (by omega)];exact r i j h8 (by omega));refine ih (a+20) _ (Nat.dvd_add g (Nat.dvd_refl _)) c (by omega) (by rw[l.1];exact p) (fun c' h7 h8=>?_) (fun k hk=>by rw[l.2.1 k (by omega)];exact e k (by omega));rcases Nat.lt_or_ge c' a with h9|h9
    ·have:=zUK h7 g h9;exact(n c' h7 h9).same (fun k h10 h11=>l.2.1 k (by omega))
    ·have t:c'=a:=by
      rcases Nat.lt_or_ge a c' with h10|h10
      ·have:=zUK g h7 h10;omega
      ·omega
     subst t;refine⟨u,fun k h10 h11=>?_⟩;obtain⟨k',m,o,q⟩:=l.2.2 k h10 h11;exact⟨k',m,o,by rw[q,e k' m]⟩
   ·exact⟨g,s,by omega,p,n,e⟩
theorem z0v (H:OrdR lt R)(t:∀x,lt x x=false)(e:Array α)(v:∀i j,i<j→j<e.size→Cr lt R e[i]! e[j]!)(f a m b:Nat)(d:Array α)(y:a<m)(w:m<b)(F:b≤e.size)(A:d.size=e.size)(D:b-a≤f)(n:Blk R e d a m)(hB:Blk R e d m b):
 Blk R e (symM lt f a m b d) a b∧(symM lt f a m b d).size=e.size∧∀k,¬(a≤k∧k<b)→(symM lt f a m b d)[k]! =d[k]!:=by
 obtain⟨C,p⟩:=zD0 H t f a m b d y w (by omega) D n.1 hB.1 (fun i j h4 h5 r o=>by
  obtain⟨B,u,l,g⟩:=n.2 i h4 h5;obtain⟨z,h,E,s⟩:=hB.2 j r o;rw[g,s];exact v B z (by omega) (by omega))
 refine⟨⟨C,fun k h4 h5=>?_⟩,by rw[p.1,A],p.2.1⟩;obtain⟨k',r,o,u⟩:=p.2.2 k h4 h5;rw[u];rcases Nat.lt_or_ge k' m with c|c
 ·obtain⟨q,l,g,h⟩:=n.2 k' r c;exact⟨q,l,by omega,h⟩
 ·obtain⟨q,l,g,h⟩:=hB.2 k' c o;exact⟨q,by omega,g,h⟩
theorem zjn (H:OrdR lt R)(q:∀x,lt x x=false)(e:Array α)(s:∀i j,i<j→j<e.size→Cr lt R e[i]! e[j]!)(b:Nat)(y:0<b)(f:Nat):∀(a:Nat) (d:Array α),2*b ∣ a→a≤e.size→e.size-a<f→d.size=e.size→
 (∀c,2*b ∣ c→c<a→Blk R e d c (c+2*b))→(∀c,b ∣ c→a≤c→c<e.size→Blk R e d c (min (c+b) e.size))→
 ∃a' d',zHU lt b f a e.size d=(a',d')∧2*b ∣ a'∧a'≤e.size∧e.size<a'+2*b∧d'.size=e.size∧(∀c,2*b ∣ c→c<a'→Blk R e d' c (c+2*b))∧(∀c,b ∣ c→a'≤c→c<e.size→Blk R e d' c (min (c+b) e.size)):=by
 induction f with
 |zero=>intro a d _ _ h;omega
 |succ f ih=>
   intro a d g t z p n l;have m:b ∣ a:=Nat.dvd_trans ⟨2,by omega⟩ g;unfold zHU;split
   ·rename_i c;have r:=l a m zH (by omega);have hB:=l (a+b) (Nat.dvd_add m (Nat.dvd_refl _)) (by omega) (by omega);rw[show min (a+b) e.size=a+b by omega]at r;rw[show min (a+b+b) e.size=a+2*b by omega]at hB;obtain⟨w,u,o⟩:=z0v H q e s (2*b+1) a (a+b) (a+2*b) d (by omega) (by omega) c p (by omega) r hB;refine ih (a+2*b) _ (Nat.dvd_add g (Nat.dvd_refl _)) c (by omega) u (fun c' h7 h8=>?_) (fun c' h7 h8 h9=>(l c' h7 (by omega) h9).same (fun k h10 h11=>o k (by omega)));rcases Nat.lt_or_ge c' a with h9|h9
    ·have:=zUK h7 g h9;exact(n c' h7 h9).same (fun k h10 h11=>o k (by omega))
    ·have v:c'=a:=by
      rcases Nat.lt_or_ge a c' with h10|h10
      ·have:=zUK g h7 h10;omega
      ·omega
     subst v;exact w
   ·exact⟨a,d,rfl,g,t,by omega,p,n,l⟩
theorem z6O (H:OrdR lt R)(n:∀x,lt x x=false)(b:Array α)(p:∀i j,i<j→j<b.size→Cr lt R b[i]! b[j]!)(e:Nat)(t:0<e)(d:Array α)(v:d.size=b.size)(z:∀c,e ∣ c→c<b.size→Blk R b d c (min (c+e) b.size)):
 (z8r lt e b.size d).size=b.size∧∀c,e*2 ∣ c→c<b.size→Blk R b (z8r lt e b.size d) c (min (c+e*2) b.size):=by
 obtain⟨a,y,B,m,D,E,r,q,o⟩:=zjn H n b p e t (b.size+1) 0 d (Nat.dvd_zero _) (by omega) (by omega) v (fun c _ h=>by omega) (fun c h7 _ h8=>z c h7 h8);have l:e ∣ a:=Nat.dvd_trans ⟨2,by omega⟩ m;unfold z8r;rw[B];dsimp only;rw[Nat.mul_comm e 2]
 -- a block at c, behind the g merge or not
 have g:∀c,2*e ∣ c→a≤c→c<b.size→c=a:=fun c h7 h8 h9=>by
  rcases Nat.lt_or_ge a c with h10|h10
  ·have:=zUK m h7 h10;omega
  ·omega
 split
 ·rename_i c1;have s:=o a l zH (by omega);have hB:=o (a+e) (Nat.dvd_add l (Nat.dvd_refl _)) (by omega) c1;rw[show min (a+e) b.size=a+e by omega]at s;rw[show min (a+e+e) b.size=b.size by omega]at hB;obtain⟨C,w,u⟩:=z0v H n b p (2*e+1) a (a+e) b.size y (by omega) c1 zH r (by omega) s hB;refine⟨w,fun c h7 h8=>?_⟩;rcases Nat.lt_or_ge c a with h9|h9
  ·have:=zUK h7 m h9;rw[show min (c+2*e) b.size=c+2*e by omega];exact(q c h7 h9).same (fun k h10 h11=>u k (by omega))
  ·rw[g c h7 h9 h8,show min (a+2*e) b.size=b.size by omega];exact C
 ·refine⟨r,fun c h7 h8=>?_⟩;rcases Nat.lt_or_ge c a with h9|h9
  ·have:=zUK h7 m h9;rw[show min (c+2*e) b.size=c+2*e by omega];exact q c h7 h9
  ·have A:=g c h7 h9 h8;subst A;have:=o c l zH h8;rw[show min (c+e) b.size=b.size by omega]at this;rw[show min (c+2*e) b.size=b.size by omega];exact this
theorem zOt (H:OrdR lt R)(m:∀x,lt x x=false)(a:Array α)(o:∀i j,i<j→j<a.size→Cr lt R a[i]! a[j]!)(f:Nat):∀(b:Nat) (d:Array α),0<b→a.size<b+f→d.size=a.size→(∀c,b ∣ c→c<a.size→Blk R a d c (min (c+b) a.size))→
 SrtR R (z2U lt f b a.size d) 0 a.size:=by
 induction f with
 |zero=>
   intro b d l q n e;show SrtR R d 0 a.size;intro i j g h k;have:=(e 0 (Nat.dvd_zero _) (by omega)).1;rw[show min (0+b) a.size=a.size by omega]at this;exact this i j g h k
 |succ f ih=>
   intro b d l q n e;unfold z2U;split
   ·obtain⟨r,p⟩:=z6O H m a o b l d n e;exact ih (b*2) _ (by omega) (by omega) r p
   ·intro i j g h k;have:=(e 0 (Nat.dvd_zero _) (by omega)).1;rw[show min (0+b) a.size=a.size by omega]at this;exact this i j g h k
theorem zwH (H:OrdR lt R)(p:∀x,lt x x=false)(b:Array α)(g:∀i j,i<j→j<b.size→Cr lt R b[i]! b[j]!):SrtR R (zjN lt b) 0 b.size:=by
 unfold zjN;dsimp only;obtain⟨q,t,y,u,s,l⟩:=zpR H b g (b.size+1) 0 b (Nat.dvd_zero _) (by omega) (by omega) rfl (fun c _ h=>by omega) (fun _ _=>rfl);generalize zSe lt (b.size+1) 0 b.size b=r at*;obtain⟨a,d⟩:=r;dsimp only at*;obtain⟨w,m⟩:=zIB H a b.size d t (by omega) (fun i j h7 h8 h9=>by rw[l i h7,l j (by omega)];exact g i j h8 h9);refine zOt H p b g (b.size+1) 20 _ (by omega) (by omega) (by rw[m.1];exact u) (fun c h7 h8=>?_);rcases Nat.lt_or_ge c a with h9|h9
 ·have:=zUK h7 q h9;rw[show min (c+20) b.size=c+20 by omega];exact(s c h7 h9).same (fun k h10 h11=>m.2.1 k (by omega))
 ·have v:c=a:=by
   rcases Nat.lt_or_ge a c with h10|h10
   ·have:=zUK q h7 h10;omega
   ·omega
  subst v;rw[show min (c+20) b.size=b.size by omega];refine⟨w,fun k h10 h11=>?_⟩;obtain⟨k',e,n,o⟩:=m.2.2 k h10 h11;exact⟨k',e,n,by rw[o,l k' e]⟩
end
open srch (zjN z0F zUI hapsOf hapF mgO mgC mergeP allH Hap)
instance decHap:DecidableEq Hap:=inferInstanceAs (DecidableEq (Int×OpV))
def mgR (H:List Hap)(x y:Hap):Prop:=x.1<y.1∨(x.1=y.1∧H.idxOf x<H.idxOf y)
theorem zOK (x y:Hap):ltOf mgC x y=decide (x.1<y.1):=by
 unfold ltOf mgC srch.cmpI;by_cases h1:x.1<y.1
 ·rw[if_pos h1];simp[h1]
 ·rw[if_neg h1];by_cases h2:x.1 > y.1
  ·rw[if_pos h2];simp;omega
  ·rw[if_neg h2];simp;omega
theorem zAg (H:List Hap):OrdR (ltOf mgC) (mgR H) where
 tr:=fun x y z h1 h2=>by
  unfold mgR at*;rcases h1 with h1|h1<;>rcases h2 with h2|h2
  ·left;omega
  ·left;omega
  ·left;omega
  ·right;omega
 no:=fun x y h=>by rw[zOK];unfold mgR at h;simp;omega
 nt:=fun x y z h1 h2=>by rw[zOK]at *;simp at *;omega
theorem zkJ {H:List Hap}(b:H.Nodup){i:Nat}(a:i<H.length):H.idxOf H[i]=i:=List.Nodup.idxOf_getElem b i a
theorem zjD (H:List Hap)(q:H.Nodup):(mgO H).Pairwise (mgR H)∧(mgO H).Perm H:=by
 have s:=zwH (zAg H) (fun x=>by rw[zOK];simp) H.toArray (fun i j d b=>by
  have a:j<H.length:=by simpa using b
  rw[getElem!_pos _ j b,getElem!_pos _ i (by omega)];have n:H.idxOf H[i]=i:=zkJ q (by omega);have m:H.idxOf H[j]=j:=zkJ q a;unfold Cr;rw[zOK];simp only [List.getElem_toArray];constructor
  ·intro h;simp at h;unfold mgR;rw[n,m];omega
  ·intro h;simp at h;exact .inl h)
 obtain⟨l,_,p⟩:=z0F (ltOf mgC) H.toArray;have o:(mgO H).Perm H:=by
  unfold mgO;have n:(zjN (ltOf mgC) H.toArray).extract 0 H.toArray.size=zjN (ltOf mgC) H.toArray:=by rw[←l];simp
  have m:H.toArray.extract 0 H.toArray.size=H.toArray:=by simp
  rw[n,m]at p;exact p
 refine⟨?_,o⟩;rw[List.pairwise_iff_getElem];intro i j r b d;have t:(mgO H).length=H.toArray.size:=by rw[o.length_eq];simp
 have:=s i j (Nat.zero_le _) d (by omega);have g:i<(zjN (ltOf mgC) H.toArray).size:=by rw[l];omega
 have a:j<(zjN (ltOf mgC) H.toArray).size:=by rw[l];omega
 rw[getElem!_pos _ i g,getElem!_pos _ j a]at this;have e:∀(k:Nat) (hk:k<(mgO H).length) (hk':k<(zjN (ltOf mgC) H.toArray).size),(mgO H)[k]'hk=(zjN (ltOf mgC) H.toArray)[k]'hk':=fun k hk hk'=>rfl;rw[e i r g,e j b a];exact this
theorem zaW (l:List OpV):(hapsOf l).2.map (·.2)=l:=(zxJ l).1
theorem haps_mem {l:List OpV}{h:Hap}(a:h∈(hapsOf l).2):h.2∈l:=by rw[←zaW l];exact List.mem_map_of_mem a
theorem zsh (a:List (List OpV)):(allH a).map (·.2)=a.flatten:=by
 unfold allH
 induction a with
 |nil=>rfl
 |cons l r ih=>rw[List.flatMap_cons,List.map_append,zaW,ih];rfl
theorem zsVH {β γ:Type}(f:β→γ){l:List β}(h:(l.map f).Nodup):l.Nodup:=by
 induction l with
 |nil=>exact List.nodup_nil
 |cons a r ih=>
   rw[List.map_cons,List.nodup_cons]at h;exact List.nodup_cons.2 ⟨fun hm=>h.1 (List.mem_map_of_mem hm),ih h.2⟩
theorem zNq {b:List (List OpV)}(g:b.flatten.Nodup){l:List OpV}(k:l∈b):(allH b).filter (fun h=>decide (h.2∈l))=(hapsOf l).2:=by
 have i:∀(l':List OpV),(∀o∈l',o∉l)→(hapsOf l').2.filter (fun h=>decide (h.2∈l))=[]:=fun l' hd=>by
  rw[List.filter_eq_nil_iff];intro h j;simpa using hd h.2 (haps_mem j)
 have own:(hapsOf l).2.filter (fun h=>decide (h.2∈l))=(hapsOf l).2:=by
  rw[List.filter_eq_self];intro h j;simpa using haps_mem j
 have d:∀e:List (List OpV),(∀l'∈e,∀o∈l',o∉l)→(allH e).filter (fun h=>decide (h.2∈l))=[]:=by
  intro e;unfold allH
  induction e with
  |nil=>intro _;rfl
  |cons a r ih=>
    intro h;rw[List.flatMap_cons,List.filter_append,i a (h a (by simp)),ih (fun l' hl'=>h l' (by simp[hl']))];rfl
 induction b with
 |nil=>cases k
 |cons a r ih=>
   rw[List.flatten_cons,List.nodup_append]at g;rw[show allH (a::r)=(hapsOf a).2++allH r from rfl,List.filter_append];by_cases c:l=a
   ·subst c;rw[own,d r (fun l' hl' o ho hm=>g.2.2 o hm o (List.mem_flatten.2 ⟨l',hl',ho⟩) rfl),List.append_nil]
   ·have m:l∈r:=by
     rcases List.mem_cons.1 k with h|h
     ·exact absurd h c
     ·exact h
    rw[i a (fun o ho hm=>g.2.2 o ho o (List.mem_flatten.2 ⟨l,m,hm⟩) rfl),ih g.2.1 m,List.nil_append]
theorem zep {a:List (List OpV)}(d:a.flatten.Nodup):(mergeP a).Perm a.flatten:=by
 have b:(allH a).Nodup:=zsVH (·.2) (by rw[zsh];exact d);unfold mergeP;rw[←zsh a];exact(zjD _ b).2.map _
theorem zCR {d:List (List OpV)}(e:d.flatten.Nodup){l:List OpV}(n:l∈d):(mergeP d).filter (fun o=>decide (o∈l))=l:=by
 have g:(allH d).Nodup:=zsVH (·.2) (by rw[zsh];exact e);obtain⟨s,r⟩:=zjD _ g;have key:(mgO (allH d)).filter (fun h=>decide (h.2∈l))=(hapsOf l).2:=by
  have p:=r.filter (fun h=>decide (h.2∈l));rw[zNq e n]at p;refine List.Perm.eq_of_pairwise (le:=mgR (allH d)) (fun a b _ _ h3 h4=>?_) (s.filter _) ?_ p
  ·unfold mgR at h3 h4;omega
  ·have v:=(zxJ l).2.2;have t:(allH d).Pairwise (fun x y=>(allH d).idxOf x<(allH d).idxOf y):=by
    rw[List.pairwise_iff_getElem];intro i j q u k;rw[zkJ g q,zkJ g u];exact k
   have m:=t.filter (fun h=>decide (h.2∈l));rw[zNq e n]at m;refine(v.and m).imp ?_;rintro a b ⟨w,z⟩;unfold mgR;omega
 unfold mergeP;rw[List.filter_map];show((mgO (allH d)).filter (fun h=>decide (h.2∈l))).map (·.2)=l;rw[key,zaW]
theorem z02 (l:List OpV)(o:OpV):hapsOf (l++[o])=hapF (hapsOf l) o:=by
 unfold hapsOf;rw[List.foldl_append];rfl
theorem zFr (n:Nat):∀l:List OpV,l.length=n→z8Z l→(∀o∈l,0<o.ret→o.call≤o.ret)→
 (∀h∈(hapsOf l).2,h.2.call≤h.1∧(0<h.2.ret→h.1≤h.2.ret))∧∀M:Int,0≤M→(∀o∈l,o.call≤M)→(hapsOf l).1≤M:=by
 induction n with
 |zero=>
   intro l d _ _;rw[List.length_eq_zero_iff.1 d];exact⟨fun h hh=>by simp[hapsOf]at hh,fun M hM _=>by simpa [hapsOf]using hM⟩
 |succ n ih=>
   intro l d s q;rcases List.eq_nil_or_concat l with rfl|⟨r,o,rfl⟩
   ·simp at d
   rw[List.concat_eq_append]at*;obtain⟨t,p⟩:=ih r (by simpa using d) (fun i k a b j e h3=>s i k a b j (by rw[List.getElem?_append_left (zB e).1];exact e) (by rw[List.getElem?_append_left (zB h3).1];exact h3)) (fun x hx=>q x (by simp[hx]));rw[z02];unfold hapF;dsimp only;refine⟨fun h hh=>?_,fun M hM hcM=>?_⟩
   ·rcases List.mem_append.1 hh with hh|hh
    ·exact t h hh
    ·rw[List.mem_singleton]at hh;subst hh;dsimp only;refine⟨by omega,fun hr=>?_⟩;have j:=q o (by simp) hr;have e:=p o.ret (by omega) (fun x hx=>by
      obtain⟨k,m⟩:=List.mem_iff_getElem?.1 hx;have g:=(zB m).1;have:=s r.length k o x g (by simp) (by rw[List.getElem?_append_left g];exact m);omega)
     omega
   ·have j:=hcM o (by simp);have e:=p M hM (fun x hx=>hcM x (by simp[hx]));omega
theorem zrX {d:List (List OpV)}(C:d.flatten.Nodup)(z:∀l∈d,z8Z l)(F:∀l∈d,∀o∈l,0<o.ret→o.call≤o.ret):z8Z (mergeP d):=by
 have E:(allH d).Nodup:=zsVH (·.2) (by rw[zsh];exact C);obtain⟨A,w⟩:=zjD _ E;have q:∀h∈mgO (allH d),h.2.call≤h.1∧(0<h.2.ret→h.1≤h.2.ret):=fun h hh=>by
  have e:=w.mem_iff.1 hh;unfold allH at e;obtain⟨l,p,e⟩:=List.mem_flatMap.1 e;exact(zFr _ l rfl (z l p) (F l p)).1 h e
 intro i k a b v g j;unfold mergeP at g j;rw[List.getElem?_map]at g j;obtain⟨x,u,rfl⟩:=Option.map_eq_some_iff.1 g;obtain⟨y,r,rfl⟩:=Option.map_eq_some_iff.1 j;obtain⟨m,s⟩:=zB u;obtain⟨t,n⟩:=zB r;have hR:=List.pairwise_iff_getElem.1 A k i t m v;rw[s,n]at hR;have D:=q x (List.mem_of_getElem? u);have H:=q y (List.mem_of_getElem? r);unfold mgR at hR;rintro⟨B,G⟩;have:=D.2 B;omega
end Go.Proofs.YtoeoinpaidhmcaaGreatDoor.jd
