/- Several texts in one. -/
import Derived.Test.YtbbkihekjdffpaaGreatDoorJdN
import Derived.Test.YtbbkihekjdffpaaGreatDoorSrchRX
import Derived.Test.YtbbkihekjdffpaaGreatDoorSrchTX
namespace Go.Proofs.YtbbkihekjdffpaaGreatDoor.srch
open Go.RowKit
section
variable {σ:Type} (doit:σ→OpV→σ×Int×Int)
def zqq:σ→List OpV→Prop
 | _,[]=>True
 | s,o::r=>(o.ret≠0→((doit s o).2.1,(doit s o).2.2)=(o.vk,o.vn))∧zqq (doit s o).1 r
def endS (s:σ) (l:List OpV):σ:=l.foldl (fun s o=>(doit s o).1) s
theorem zLZ (s:σ) (l:List OpV) (o:OpV):endS doit s (l++[o])=(doit (endS doit s l) o).1:=by
 unfold endS
 rw [List.foldl_append]
 rfl
theorem z6N (l:List OpV):∀ (s:σ) (o:OpV),zqq doit s (l++[o])↔zqq doit s l∧(o.ret≠0→((doit (endS doit s l) o).2.1,(doit (endS doit s l) o).2.2)=(o.vk,o.vn)):=by
 induction l with
 | nil=>intro s o;simp [zqq,endS]
 | cons a t ih=>
   intro s o
   have e:endS doit s (a::t)=endS doit (doit s a).1 t:=rfl
   rw [List.cons_append,e]
   unfold zqq
   rw [ih,and_assoc]
structure Legal (s0:σ) (part ord:List OpV):Prop where
 nd:ord.Nodup
 sub:∀ o∈ord,o∈part
 ahead:∀ l1 o l2,ord=l1++o::l2→∀ o'∈part,ahB o' o.call=true→o'∈l1
 run:zqq doit s0 ord
def LinP (s0:σ) (part:List OpV):Prop:=∃ ord,Legal doit s0 part ord∧∀ o∈part,o.ret≠0→o∈ord
theorem Legal.init {s0:σ} {part ord:List OpV} {o:OpV} (h:Legal doit s0 part (ord++[o])):Legal doit s0 part ord:=by
 refine ⟨(List.nodup_append.1 h.nd).1,fun x hx=>h.sub x (by simp [hx]),fun l1 x l2 e o' ho' ha=>h.ahead l1 x (l2++[o]) (by rw [e];simp) o' ho' ha,((z6N doit ord s0 o).1 h.run).1⟩
theorem zcF (ops:List OpV) (l:List (Stp σ)) (s:Stp σ) {o:OpV} (h:ops[s.pl]?=some o):takenL ops (l++[s])=takenL ops l++[o]:=by
 unfold takenL
 rw [List.filterMap_append]
 simp [h]
theorem mem_takenL {ops:List OpV} {l:List (Stp σ)} {o:OpV}:o∈takenL ops l↔∃ q∈l.map (·.pl),ops[q]?=some o:=by
 unfold takenL
 rw [List.mem_filterMap]
 constructor
 · rintro ⟨s,hs,h⟩
   exact ⟨s.pl,List.mem_map_of_mem hs,h⟩
 · rintro ⟨q,hq,h⟩
   obtain ⟨s,hs,rfl⟩:=List.mem_map.1 hq
   exact ⟨s,hs,h⟩
theorem nodup_at {ops:List OpV} (hd:ops.Nodup) {p q:Nat} {o:OpV} (hp:ops[p]?=some o) (hq:ops[q]?=some o):p=q:=by
 obtain ⟨h1,e1⟩:=List.getElem?_eq_some_iff.1 hp
 obtain ⟨h2,e2⟩:=List.getElem?_eq_some_iff.1 hq
 exact (List.getElem_inj hd).1 (e1.trans e2.symm)
theorem zCN {ops:List OpV} (hn:ops.length≤128) (hd:ops.Nodup) {s0:σ} {l:List (Stp σ)} {c:Gr×σ} (h:PathW doit ops ((0,0),s0) l c):Legal doit s0 ops (takenL ops l)∧c.2=endS doit s0 (takenL ops l):=by
 induction h with
 | nil=>exact ⟨⟨by simp [takenL],fun o ho=>by simp [takenL] at ho,fun l1 o l2 e=>by simp [takenL] at e,trivial⟩,rfl⟩
 | snoc l s c h hs ih=>
   have hw:=(zIM doit ops hn h).1
   obtain ⟨o,ho,h1,h2,h3,rfl⟩:=(zZu doit ops hn hw).1 hs
   have hh:=(zxD doit ops hn h).2
   have hlt:=(List.getElem?_eq_some_iff.1 ho).1
   rw [zcF ops l s ho]
   have hst:s.st=endS doit s0 (takenL ops l):=ih.2
   refine ⟨⟨?_,?_,?_,?_⟩,?_⟩
   · rw [List.nodup_append]
     refine ⟨ih.1.nd,by simp,fun a ha b hb=>?_⟩
     rw [List.mem_singleton] at hb
     subst hb
     intro e
     subst e
     obtain ⟨q,hq,hq2⟩:=mem_takenL.1 ha
     have:=nodup_at hd hq2 ho
     subst this
     have:=(hh _ (by omega)).2 hq
     rw [h1] at this;cases this
   · intro x hx
     rcases List.mem_append.1 hx with hx | hx
     · exact ih.1.sub x hx
     · rw [List.mem_singleton] at hx;subst hx;exact List.mem_of_getElem? ho
   · intro l1 x l2 e o' ho' ha
     rcases List.eq_nil_or_concat l2 with rfl | ⟨l3,y,rfl⟩
     · obtain ⟨e1,e2⟩:=List.append_inj' e rfl
       injection e2 with e2
       subst e2
       rw [←e1]
       obtain ⟨q,hq⟩:=List.mem_iff_getElem?.1 ho'
       have hql:=(List.getElem?_eq_some_iff.1 hq).1
       exact mem_takenL.2 ⟨q,(hh q (by omega)).1 (h2 q o' hq ha),hq⟩
     · rw [List.concat_eq_append,←List.cons_append,←List.append_assoc] at e
       obtain ⟨e1,_⟩:=List.append_inj' e rfl
       exact ih.1.ahead l1 x l3 e1 o' ho' ha
   · rw [z6N]
     refine ⟨ih.1.run,fun hr=>?_⟩
     rw [←hst]
     exact h3 hr
   · rw [zLZ,←hst]
theorem zyg {ops:List OpV} (hn:ops.length≤128) (hd:ops.Nodup) {s0:σ} (n:Nat):∀ ord:List OpV,ord.length=n→Legal doit s0 ops ord→∃ l c,PathW doit ops ((0,0),s0) l c∧takenL ops l=ord:=by
 induction n with
 | zero=>
   intro ord h _
   have:=List.eq_nil_of_length_eq_zero h
   subst this
   exact ⟨[],_,.nil,rfl⟩
 | succ n ih=>
   intro ord hlen h
   rcases List.eq_nil_or_concat ord with rfl | ⟨l1,o,rfl⟩
   · simp at hlen
   · rw [List.concat_eq_append] at h hlen ⊢
     obtain ⟨l,c,hp,ht⟩:=ih l1 (by simpa using hlen) h.init
     have hpl:=zCN doit hn hd hp
     have hw:=(zIM doit ops hn hp).1
     have hh:=(zxD doit ops hn hp).2
     obtain ⟨p,hpo⟩:=List.mem_iff_getElem?.1 (h.sub o (by simp))
     have hlt:=(List.getElem?_eq_some_iff.1 hpo).1
     have hno:o∉l1:=fun hm=>by
      have:=(List.nodup_append.1 h.nd).2.2 o hm o (by simp)
      exact this rfl
     have hs:zYl doit ops c p=some (zdS c.1 p,(doit c.2 o).1):=by
      refine (zZu doit ops hn hw).2 ⟨o,hpo,?_,?_,?_,rfl⟩
      · cases e:gHas c.1 p with
        | false=>rfl
        | true=>
          exfalso
          apply hno
          rw [←ht]
          exact mem_takenL.2 ⟨p,(hh p (by omega)).1 e,hpo⟩
      · intro q o' hq ha
        have h1:=h.ahead l1 o [] rfl o' (List.mem_of_getElem? hq) ha
        rw [←ht] at h1
        obtain ⟨q',hq',hq2⟩:=mem_takenL.1 h1
        have:=nodup_at hd hq2 hq
        subst this
        have hql:=(List.getElem?_eq_some_iff.1 hq).1
        exact (hh _ (by omega)).2 hq'
      · intro hr
        have:=((z6N doit l1 s0 o).1 h.run).2 hr
        rw [hpl.2,ht]
        exact this
     refine ⟨l++[⟨c.1,c.2,p⟩],_,.snoc _ _ _ hp hs,?_⟩
     rw [zcF ops l _ hpo,ht]
theorem zXJ {ops:List OpV} (hn:ops.length≤128) (hd:ops.Nodup) {s0:σ}:LinP doit s0 ops↔∃ c,Reach doit ops ((0,0),s0) c∧zJn (retG ops 0 (0,0)) c.1=true:=by
 constructor
 · rintro ⟨ord,h,hw⟩
   obtain ⟨l,c,hp,ht⟩:=zyg doit hn hd _ ord rfl h
   refine ⟨c,⟨l,hp⟩,(z6g hn (zIM doit ops hn hp).1).2 (fun q o hq hr=>?_)⟩
   have h1:=hw o (List.mem_of_getElem? hq) hr
   rw [←ht] at h1
   obtain ⟨q',hq',hq2⟩:=mem_takenL.1 h1
   have:=nodup_at hd hq2 hq
   subst this
   have hql:=(List.getElem?_eq_some_iff.1 hq).1
   exact ((zxD doit ops hn hp).2 _ (by omega)).2 hq'
 · rintro ⟨c,⟨l,hp⟩,hw⟩
   refine ⟨takenL ops l,(zCN doit hn hd hp).1,fun o ho hr=>?_⟩
   obtain ⟨q,hq⟩:=List.mem_iff_getElem?.1 ho
   have hql:=(List.getElem?_eq_some_iff.1 hq).1
   exact mem_takenL.2 ⟨q,((zxD doit ops hn hp).2 q (by omega)).1 ((z6g hn (zIM doit ops hn hp).1).1 hw q o hq hr),hq⟩
theorem Legal.perm {s0:σ} {p q ord:List OpV} (h:Legal doit s0 p ord) (hm:∀ o,o∈p↔o∈q):Legal doit s0 q ord:=
 ⟨h.nd,fun o ho=>(hm o).1 (h.sub o ho),fun l1 o l2 e o' ho' ha=>h.ahead l1 o l2 e o' ((hm o').2 ho') ha,h.run⟩
theorem LinP.perm {s0:σ} {p q:List OpV} (h:LinP doit s0 p) (hm:∀ o,o∈p↔o∈q):LinP doit s0 q:=by
 obtain ⟨ord,h1,h2⟩:=h
 exact ⟨ord,h1.perm doit hm,fun o ho hr=>h2 o ((hm o).2 ho) hr⟩
theorem zoi [DecidableEq σ] {part:List OpV} (hn:part.length≤128) (hd:part.Nodup) {s0:σ} {b:Int} {r:Out} (h:Found doit (ordO part) s0 b r) (hv:r.verdict≠0):(r.verdict=1↔LinP doit s0 part)∧(r.verdict=2↔¬ LinP doit s0 part)∧Legal doit s0 part r.order∧(r.verdict=1→∀ o∈part,o.ret≠0→o∈r.order)∧(r.verdict=2→∀ ord,Legal doit s0 part ord→ord.length≤r.order.length):=by
 have hp:=zBL part
 have hm:∀ o,o∈ordO part↔o∈part:=fun o=>hp.mem_iff
 have hn':(ordO part).length≤128:=by rw [hp.length_eq];exact hn
 have hd':(ordO part).Nodup:=hp.nodup_iff.2 hd
 have hl:=zXJ doit hn' hd' (s0:=s0)
 have hl':LinP doit s0 part↔LinP doit s0 (ordO part):=⟨fun x=>x.perm doit (fun o=>(hm o).symm),fun x=>x.perm doit hm⟩
 obtain ⟨vis,_,_,h1⟩:=Found.told doit _ hn' h
 rcases h1 with ⟨h1,_⟩ | ⟨h1,_,l,c,hpath,hw,ho⟩ | ⟨h1,_,⟨l,c,hpath,ho⟩,hno⟩
 · exact absurd h1 hv
 · have hyes:LinP doit s0 part:=hl'.2 (hl.2 ⟨c,⟨l,hpath⟩,hw⟩)
   refine ⟨⟨fun _=>hyes,fun _=>h1⟩,⟨fun h=>by omega,fun h=>absurd hyes h⟩,?_,?_,fun h=>by omega⟩
   · rw [ho];exact (zCN doit hn' hd' hpath).1.perm doit hm
   · intro _ o hoo hr
     rw [ho]
     obtain ⟨q,hq⟩:=List.mem_iff_getElem?.1 ((hm o).2 hoo)
     have hql:=(List.getElem?_eq_some_iff.1 hq).1
     exact mem_takenL.2 ⟨q,((zxD doit _ hn' hpath).2 q (by omega)).1 ((z6g hn' (zIM doit _ hn' hpath).1).1 hw q o hq hr),hq⟩
 · have hnot:¬ LinP doit s0 part:=fun x=>by
    obtain ⟨c',hc',hw'⟩:=hl.1 (hl'.1 x)
    have:=(hno c' hc').1
    rw [hw'] at this;cases this
   refine ⟨⟨fun h=>by omega,fun h=>absurd h hnot⟩,⟨fun _=>hnot,fun _=>h1⟩,?_,fun h=>by omega,?_⟩
   · rw [ho];exact (zCN doit hn' hd' hpath).1.perm doit hm
   · intro _ ord hord
     obtain ⟨l2,c2,hp2,ht2⟩:=zyg doit hn' hd' _ ord rfl (hord.perm doit (fun o=>(hm o).symm))
     have:=(hno c2 ⟨l2,hp2⟩).2
     rw [(zIM doit _ hn' hp2).2] at this
     rw [←ht2,zUxG _ _ (path_lt doit _ hp2)]
     exact this
end
end Go.Proofs.YtbbkihekjdffpaaGreatDoor.srch
namespace Go.Proofs.YtbbkihekjdffpaaGreatDoor.jd
open Go.RowKit
open srch (Legal LinP zqq z6N endS zLZ ahB)
instance decOpV:DecidableEq OpV:=fun a b=>
 if h:a.id=b.id∧a.cl=b.cl∧a.name=b.name∧a.key=b.key∧a.arg=b.arg∧a.exp=b.exp∧a.call=b.call∧a.ret=b.ret∧a.vk=b.vk∧a.vn=b.vn then .isTrue (by cases a;cases b;simp_all) else .isFalse (fun e=>h (by subst e;simp))
section
variable {σ:Type} (doit:σ→OpV→σ×Int×Int) (s0:σ)
structure Sim (txt:σ→List UInt8) (good:σ→Prop) (m:List UInt8) (ops:List OpV):Prop where
 good0:good s0
 first:txt s0=zKM m
 step:∀ s o,good s→o∈ops→good (doit s o).1∧ztI (txt s) o=(txt (doit s o).1,(doit s o).2)
 inj:∀ s s',good s→good s'→txt s=txt s'→s=s'
variable {doit s0} {txt:σ→List UInt8} {good:σ→Prop} {m:List UInt8} {ops:List OpV}
def zQ0 (ops ord:List OpV):List UInt8:=ops.map (fun o=>if o∈ord then 49 else 48)
def zSj (doit:σ→OpV→σ×Int×Int) (s0:σ) (txt:σ→List UInt8) (ops ord:List OpV):Cf:=(zQ0 ops ord,txt (endS doit s0 ord))
theorem Sim.ends (h:Sim doit s0 txt good m ops) (n:Nat):∀ ord:List OpV,ord.length=n→(∀ o∈ord,o∈ops)→good (endS doit s0 ord):=by
 induction n with
 | zero=>intro ord hn _;rw [List.length_eq_zero_iff.1 hn];exact h.good0
 | succ n ih=>
   intro ord hn hs
   rcases List.eq_nil_or_concat ord with rfl | ⟨r,x,rfl⟩
   · simp at hn
   rw [List.concat_eq_append] at hn hs ⊢
   rw [zLZ]
   exact (h.step _ x (ih r (by simpa using hn) (fun o ho=>hs o (by simp [ho]))) (hs x (by simp))).1
theorem zUg (ops ord:List OpV) (i:Nat) (o:OpV) (h:ops[i]?=some o):(zQ0 ops ord)[i]?.getD 0=if o∈ord then 49 else 48:=by
 unfold zQ0
 rw [List.getElem?_map,h];rfl
theorem zx8 (h:Sim doit s0 txt good m ops):zSj doit s0 txt ops []=cf0 m ops:=by
 unfold zSj cf0 zQ0 zYN
 refine Prod.ext ?_ h.first
 show List.map (fun o=>if o∈([]:List OpV) then 49 else 48) ops=List.replicate ops.length 48
 rw [List.eq_replicate_iff]
 simp
theorem zuT (hd:ops.Nodup) (ord:List OpV) (k:Nat) (o:OpV) (hk:ops[k]?=some o):(zQ0 ops ord).take k++[49]++(zQ0 ops ord).drop (k+1)=zQ0 ops (ord++[o]):=by
 obtain ⟨hkl,hke⟩:=List.getElem?_eq_some_iff.1 hk
 apply List.ext_getElem?
 intro i
 have hl:(zQ0 ops ord).length=ops.length:=by simp [zQ0]
 have hR:(zQ0 ops (ord++[o]))[i]?=(ops[i]?).map (fun x=>if x∈ord++[o] then 49 else 48):=by simp [zQ0]
 have hL:∀ j:Nat,(zQ0 ops ord)[j]?=(ops[j]?).map (fun x=>if x∈ord then 49 else 48):=fun j=>by simp [zQ0]
 rw [hR]
 have hne:∀ j x,ops[j]?=some x→j≠k→x≠o:=fun j x hx hj e=>by
  subst e
  exact hj (srch.nodup_at hd hx hk)
 rcases Nat.lt_trichotomy i k with h | h | h
 · rw [List.append_assoc,List.getElem?_append_left (by rw [List.length_take];omega),List.getElem?_take,if_pos h,hL]
   cases e:ops[i]? with
   | none=>rfl
   | some x=>simp [hne i x e (by omega)]
 · subst h
   rw [List.append_assoc,List.getElem?_append_right (by rw [List.length_take];omega),List.length_take,show i - min i (zQ0 ops ord).length=0 by omega,hk]
   simp
 · rw [List.getElem?_append_right (by simp;omega),List.length_append,List.length_take,List.length_singleton,List.getElem?_drop,hL,show k+1+(i - (min k (zQ0 ops ord).length+1))=i by omega]
   cases e:ops[i]? with
   | none=>rfl
   | some x=>simp [hne i x e (by omega)]
theorem znc (h:Sim doit s0 txt good m ops) (hd:ops.Nodup) {ord:List OpV} {o:OpV} (hL:Legal doit s0 ops (ord++[o])) {k:Nat} (hk:ops[k]?=some o):zsj ops (zSj doit s0 txt ops ord) k=some (zSj doit s0 txt ops (ord++[o])):=by
 have hkl:=(List.getElem?_eq_some_iff.1 hk).1
 have hno:o∉ord:=fun hm=>by
  have:=(List.nodup_append.1 hL.nd).2.2 o hm o (by simp)
  exact this rfl
 have hgood:=h.ends _ ord rfl (fun x hx=>hL.sub x (by simp [hx]))
 obtain ⟨_,hst⟩:=h.step _ o hgood (hL.sub o (by simp))
 have hrun:=((z6N doit ord s0 o).1 hL.run).2
 have hmay:mayP ops (zSj doit s0 txt ops ord).1 k=true:=by
  unfold mayP
  show (!((zQ0 ops ord)[k]?.getD 0 == 49)&&!(List.range ops.length).any (z5E (zQ0 ops ord) ops k))=true
  rw [zUg ops ord k o hk,if_neg hno,Bool.and_eq_true]
  refine ⟨by decide,?_⟩
  rw [Bool.not_eq_true',List.any_eq_false]
  intro i hi
  obtain ⟨y,hy⟩:∃ y,ops[i]?=some y:=⟨_,List.getElem?_eq_getElem (by simpa using hi)⟩
  unfold z5E
  rw [zUg ops ord i y hy,hy,hk]
  intro hb
  simp only [Option.getD_some,Bool.and_eq_true,decide_eq_true_eq,beq_iff_eq] at hb
  obtain ⟨⟨h1,h2⟩,h3⟩:=hb
  have hin:=hL.ahead ord o [] rfl y (List.mem_of_getElem? hy) (by unfold ahB;simp;omega)
  rw [if_pos hin] at h1
  exact absurd h1 (by decide)
 unfold zsj
 rw [if_pos hmay,hk]
 show (if 0 < o.ret∧(ztI (txt (endS doit s0 ord)) o).2≠(o.vk,o.vn) then none else some ((zQ0 ops ord).take k++[49]++(zQ0 ops ord).drop (k+1),(ztI (txt (endS doit s0 ord)) o).1))=_
 rw [hst,zuT hd ord k o hk,if_neg]
 · unfold zSj;rw [zLZ]
 · rintro ⟨h1,h2⟩
   exact h2 (hrun (by omega))
theorem zuE (h:Sim doit s0 txt good m ops) (hd:ops.Nodup) (hret:∀ o∈ops,0≤o.ret) {ord:List OpV} (hL:Legal doit s0 ops ord) {k:Nat} (hk:k < ops.length) {c':Cf} (hb:zsj ops (zSj doit s0 txt ops ord) k=some c'):∃ o,Legal doit s0 ops (ord++[o])∧c'=zSj doit s0 txt ops (ord++[o]):=by
 obtain ⟨o,ho⟩:∃ o,ops[k]?=some o:=⟨_,List.getElem?_eq_getElem hk⟩
 have hgood:=h.ends _ ord rfl (fun x hx=>hL.sub x hx)
 obtain ⟨_,hst⟩:=h.step _ o hgood (List.mem_of_getElem? ho)
 unfold zsj at hb
 rw [ho] at hb
 split at hb
 · rename_i hm
   have hmay:(!((zQ0 ops ord)[k]?.getD 0 == 49)&&!(List.range ops.length).any (z5E (zQ0 ops ord) ops k))=true:=hm
   rw [Bool.and_eq_true,zUg ops ord k o ho] at hmay
   have hno:o∉ord:=fun hmm=>by rw [if_pos hmm] at hmay;simp at hmay
   have hlate:∀ y∈ops,ahB y o.call=true→y∈ord:=by
    intro y hy ha
    apply Decidable.byContradiction
    intro hn
    obtain ⟨i,hi⟩:=List.mem_iff_getElem?.1 hy
    have h2:=hmay.2
    rw [Bool.not_eq_true',List.any_eq_false] at h2
    apply h2 i (by simpa using (List.getElem?_eq_some_iff.1 hi).1)
    unfold z5E
    rw [zUg ops ord i y hi,hi,ho,if_neg hn]
    unfold ahB at ha
    simp at ha
    have:=hret y hy
    simp
    omega
   have hval:o.ret≠0→((doit (endS doit s0 ord) o).2.1,(doit (endS doit s0 ord) o).2.2)=(o.vk,o.vn):=by
    intro hr
    apply Decidable.byContradiction
    intro hn
    have hcond:0 < ((some o:Option OpV).getD z1u).ret∧(ztI (zSj doit s0 txt ops ord).2 ((some o:Option OpV).getD z1u)).2≠(((some o:Option OpV).getD z1u).vk,((some o:Option OpV).getD z1u).vn):=by
     refine ⟨?_,?_⟩
     · have:=hret o (List.mem_of_getElem? ho);show 0 < o.ret;omega
     · show (ztI (txt (endS doit s0 ord)) o).2≠(o.vk,o.vn)
       rw [hst];exact hn
    rw [if_pos hcond] at hb
    cases hb
   have hL2:Legal doit s0 ops (ord++[o]):=by
    refine ⟨List.nodup_append.2 ⟨hL.nd,by simp,fun a ha b hb2 e=>by rw [List.mem_singleton] at hb2;subst hb2;subst e;exact hno ha⟩,fun x hx=>?_,fun l1 x l2 e y hy ha=>?_,(z6N doit ord s0 o).2 ⟨hL.run,hval⟩⟩
    · rcases List.mem_append.1 hx with hx | hx
      · exact hL.sub x hx
      · rw [List.mem_singleton] at hx;subst hx;exact List.mem_of_getElem? ho
    · rcases List.eq_nil_or_concat l2 with rfl | ⟨r,z,rfl⟩
      · have e2:ord=l1∧o=x:=by
         have:=List.append_inj' e rfl
         exact ⟨this.1,by simpa using this.2⟩
        obtain ⟨rfl,rfl⟩:=e2
        exact hlate y hy ha
      · have e2:ord=l1++x::r:=by
         rw [List.concat_eq_append,←List.cons_append,←List.append_assoc] at e
         exact (List.append_inj' e rfl).1
        exact hL.ahead l1 x r e2 y hy ha
   refine ⟨o,hL2,?_⟩
   have hs:=znc h hd hL2 ho
   have hb2:zsj ops (zSj doit s0 txt ops ord) k=some c':=by
    unfold zsj;rw [ho,if_pos hm];exact hb
   rw [hs] at hb2
   injection hb2 with hb2
   exact hb2.symm
 · cases hb
theorem zXu (h:Sim doit s0 txt good m ops) (hd:ops.Nodup) (hret:∀ o∈ops,0≤o.ret) {c:Cf} (hr:RR ops (cf0 m ops) c):∃ ord,Legal doit s0 ops ord∧c=zSj doit s0 txt ops ord:=by
 induction hr with
 | start=>exact ⟨[],⟨List.nodup_nil,by simp,by simp,trivial⟩,(zx8 h).symm⟩
 | step _ k hk hb ih=>
   obtain ⟨ord,hL,rfl⟩:=ih
   obtain ⟨o,h1,h2⟩:=zuE h hd hret hL hk hb
   exact ⟨ord++[o],h1,h2⟩
def zBw (ops ord:List OpV):List Nat:=ord.map (fun o=>ops.idxOf o)
theorem zsl {ops:List OpV} {o:OpV} (h:o∈ops):ops[ops.idxOf o]?=some o:=by
 have hl:=List.idxOf_lt_length_iff.2 h
 rw [List.getElem?_eq_getElem hl,List.getElem_idxOf]
theorem z7o {ord:List OpV} (hs:∀ o∈ord,o∈ops):zrE ops (zBw ops ord) ord:=by
 refine ⟨by simp [zBw],fun i o h=>⟨ops.idxOf o,by simp [zBw,h],zsl (hs o (List.mem_of_getElem? h))⟩⟩
theorem zcP {ord:List OpV} (hs:∀ o∈ord,o∈ops) (hn:ord.Nodup):(zBw ops ord).Nodup:=by
 unfold zBw
 rw [List.Nodup,List.pairwise_map]
 refine List.Pairwise.imp_of_mem (fun {a b} ha hb hne e=>hne ?_) hn
 have h1:=zsl (hs a ha)
 have h2:=zsl (hs b hb)
 rw [e,h2] at h1
 injection h1 with h1
 exact h1.symm
theorem z82 {n k:Nat} (h:k < n):(List.range n).idxOf? k=some k:=
 ze4 (by rw [List.getElem?_range h]) (fun q hq=>by rw [List.getElem?_range (by omega)];intro e;injection e with e;omega)
theorem z32 (h:Sim doit s0 txt good m ops) (hd:ops.Nodup) (n:Nat):∀ ord:List OpV,ord.length=n→Legal doit s0 ops ord→zdl (List.range ops.length) ops (cf0 m ops) (zBw ops ord)=some (zSj doit s0 txt ops ord):=by
 induction n with
 | zero=>intro ord hn _;rw [List.length_eq_zero_iff.1 hn,zx8 h];rfl
 | succ n ih=>
   intro ord hn hL
   rcases List.eq_nil_or_concat ord with rfl | ⟨r,x,rfl⟩
   · simp at hn
   rw [List.concat_eq_append] at hn hL ⊢
   have e:zBw ops (r++[x])=zBw ops r++[ops.idxOf x]:=by simp [zBw]
   have hx:=hL.sub x (by simp)
   rw [e,zDH,ih r (by simpa using hn) hL.init]
   show zam (List.range ops.length) ops (ops.idxOf x) (zSj doit s0 txt ops r)=_
   unfold zam
   rw [z82 (List.idxOf_lt_length_iff.2 hx)]
   exact znc h hd hL (zsl hx)
end
end Go.Proofs.YtbbkihekjdffpaaGreatDoor.jd
namespace Go.Proofs.YtbbkihekjdffpaaGreatDoor.srch
open Go.RowKit
section
variable {σ:Type} [DecidableEq σ] (doit:σ→OpV→σ×Int×Int) (s0:σ)
end
def LinedM (ops:List OpV):Prop:=∀ o∈ops,∀ o'∈ops,o≠o'→o.cl=o'.cl→ahB o o'.call=true∨ahB o' o.call=true
theorem LinedM.at {ops:List OpV} (h:LinedM ops) (hd:ops.Nodup):zNA ops:=fun p q o o' hp hq hne hcl=>h o (List.mem_of_getElem? hp) o' (List.mem_of_getElem? hq) (fun e=>hne (by subst e;exact nodup_at hd hp hq)) hcl
theorem LinedM.sub {ops l:List OpV} (h:LinedM ops) (hs:∀ o∈l,o∈ops):LinedM l:=fun o ho o' ho'=>h o (hs o ho) o' (hs o' ho')
structure Rd (ops:List OpV) (k:Int):Prop where
 ids:∀ (i j:Nat) (o o':OpV),ops[i]?=some o→ops[j]?=some o'→o.id=o'.id→i=j
 call:∀ o∈ops,1≤o.call∧o.call≤k
 ret:∀ o∈ops,o.ret≠0→o.call < o.ret∧o.ret≤k
 wait:∀ (i j:Nat) (o o':OpV),ops[i]?=some o→ops[j]?=some o'→i < j→o.cl=o'.cl→o.ret≠0∧o.ret < o'.call
theorem Rd.call_op {ops:List OpV} {k:Int} (h:Rd ops k) (hk:0≤k) (o:OpV) (hi:z09 ops o.id=none) (hc:openOf ops o.cl=0) (ho:o.call=k+1) (hr:o.ret=0):Rd (ops++[o]) (k+1):=by
 have hget:∀ (i:Nat) (x:OpV),(ops++[o])[i]?=some x→(i < ops.length∧ops[i]?=some x)∨(i=ops.length∧x=o):=by
  intro i x hx
  by_cases hl:i < ops.length
  · rw [List.getElem?_append_left hl] at hx;exact .inl ⟨hl,hx⟩
  · rw [List.getElem?_append_right (by omega)] at hx
    have h0:i - ops.length=0:=by have:=(List.getElem?_eq_some_iff.1 hx).1;simp at this;omega
    rw [h0] at hx
    simp at hx
    exact .inr ⟨by omega,hx.symm⟩
 have hnew:∀ x∈ops,x.id≠o.id:=by
  intro x hx e
  unfold z09 at hi
  rw [List.findIdx?_eq_none_iff] at hi
  have:=hi x hx
  simp [e] at this
 have hopen:∀ x∈ops,x.cl=o.cl→x.ret≠0:=by
  intro x hx e hz
  unfold openOf at hc
  have h0:=List.eq_nil_of_length_eq_zero hc
  have:x∈ops.filter (fun y=>y.cl == o.cl&&y.ret == 0):=List.mem_filter.2 ⟨hx,by simp [e,hz]⟩
  rw [h0] at this;cases this
 refine ⟨?_,?_,?_,?_⟩
 · intro i j x y hx hy e
   rcases hget i x hx with ⟨hi1,hx1⟩ | ⟨hi1,rfl⟩ <;> rcases hget j y hy with ⟨hj1,hy1⟩ | ⟨hj1,rfl⟩
   · exact h.ids i j x y hx1 hy1 e
   · exact absurd e (hnew x (List.mem_of_getElem? hx1))
   · exact absurd e.symm (hnew y (List.mem_of_getElem? hy1))
   · omega
 · intro x hx
   rcases List.mem_append.1 hx with hx | hx
   · have:=h.call x hx;omega
   · rw [List.mem_singleton] at hx;subst hx;omega
 · intro x hx hz
   rcases List.mem_append.1 hx with hx | hx
   · have:=h.ret x hx hz;omega
   · rw [List.mem_singleton] at hx;subst hx;exact absurd hr hz
 · intro i j x y hx hy hij e
   rcases hget i x hx with ⟨hi1,hx1⟩ | ⟨hi1,rfl⟩ <;> rcases hget j y hy with ⟨hj1,hy1⟩ | ⟨hj1,rfl⟩
   · exact h.wait i j x y hx1 hy1 hij e
   · have h1:=hopen x (List.mem_of_getElem? hx1) e
     have h2:=h.ret x (List.mem_of_getElem? hx1) h1
     exact ⟨h1,by omega⟩
   · omega
   · omega
theorem Rd.ret_op {ops:List OpV} {k:Int} (h:Rd ops k) (i:Nat) (o:OpV) (hi:ops[i]?=some o) (hr:o.ret=0) (vk vn:Int):Rd (ops.set i (setRet o (k+1) vk vn)) (k+1):=by
 have hil:=(List.getElem?_eq_some_iff.1 hi).1
 have hget:∀ (j:Nat) (x:OpV),(ops.set i (setRet o (k+1) vk vn))[j]?=some x→(j≠i∧ops[j]?=some x)∨(j=i∧x=setRet o (k+1) vk vn):=by
  intro j x hx
  by_cases e:i=j
  · subst e
    rw [List.getElem?_set_self hil] at hx
    injection hx with hx
    exact .inr ⟨rfl,hx.symm⟩
  · rw [List.getElem?_set_ne e] at hx
    exact .inl ⟨fun e'=>e e'.symm,hx⟩
 refine ⟨?_,?_,?_,?_⟩
 · intro a b x y hx hy e
   rcases hget a x hx with ⟨ha1,hx1⟩ | ⟨ha1,rfl⟩ <;> rcases hget b y hy with ⟨hb1,hy1⟩ | ⟨hb1,rfl⟩
   · exact h.ids a b x y hx1 hy1 e
   · subst hb1;exact h.ids a _ x o hx1 hi e
   · subst ha1;exact h.ids _ b o y hi hy1 e
   · omega
 · intro x hx
   rcases List.mem_or_eq_of_mem_set hx with hx | rfl
   · have:=h.call x hx;omega
   · have:=h.call o (List.mem_of_getElem? hi);show 1≤o.call∧o.call≤k+1;omega
 · intro x hx hz
   rcases List.mem_or_eq_of_mem_set hx with hx | rfl
   · have:=h.ret x hx hz;omega
   · have:=h.call o (List.mem_of_getElem? hi);show o.call < k+1∧k+1≤k+1;omega
 · intro a b x y hx hy hab e
   rcases hget a x hx with ⟨ha1,hx1⟩ | ⟨ha1,rfl⟩ <;> rcases hget b y hy with ⟨hb1,hy1⟩ | ⟨hb1,rfl⟩
   · exact h.wait a b x y hx1 hy1 hab e
   · subst hb1
     exact h.wait a _ x o hx1 hi hab e
   · subst ha1
     exact absurd hr (h.wait _ b o y hi hy1 hab e).1
   · omega
theorem zDQ {model:List UInt8} {ops ops':List OpV} {s:ByteArray} {r:Int} {k:Int} (hk:0≤k) (hd:Rd ops k) (h:addP model ops s (k+1)=(r,some ops')):Rd ops' (k+1):=by
 unfold addP at h
 split at h
 · injection h with _ h;cases h
 · rename_i ms hm
   split at h
   · split at h
     · injection h with _ h
       unfold zRl at h
       dsimp only at h
       split at h
       · cases h
       · split at h
         · split at h
           · cases h
           · rename_i hid
             split at h
             · cases h
             · rename_i hop
               simp at h
               subst h
               exact hd.call_op hk _ (by simpa using hid) (by simpa using hop) rfl rfl
         · cases h
     · split at h
       · unfold retP at h
         split at h
         · injection h with _ h;cases h
         · split at h
           · injection h with _ h;cases h
           · rename_i i _ _ o he
             split at h
             · injection h with _ h;cases h
             · rename_i hz
               split at h
               · injection h with _ h
                 injection h with h
                 subst h
                 exact hd.ret_op i o he (by simpa using hz) _ _
               · injection h with _ h;cases h
       · injection h with _ h;cases h
   · injection h with _ h;cases h
theorem zbd (model:List UInt8):∀ (f:Nat) (ops:List OpV) (t:List UInt8) (k:Nat) (res:List OpV),Rd ops (k:Int)→zIn model f ops t k=.inl res→∃ n:Int,Rd res n:=by
 intro f
 induction f with
 | zero=>intro ops t k res _ h;simp [zIn] at h
 | succ f ih=>
   intro ops t k res hd h
   unfold zIn at h
   split at h
   · injection h with h;subst h;exact ⟨_,hd⟩
   · split at h
     · cases h
     · split at h
       · cases h
       · rename_i r ops' he
         exact ih ops' _ (k+1) res (by have:=zDQ (by omega) hd he;exact_mod_cast this) h
theorem zAl {model t:List UInt8} {ops:List OpV} (h:z9w model t=.inl ops):∃ n,Rd ops n:=zbd model 129 [] t 0 ops ⟨fun i j o o' h=>by simp at h,fun o h=>by simp at h,fun o h=>by simp at h,fun i j o o' h=>by simp at h⟩ h
theorem Rd.nodup {ops:List OpV} {k:Int} (h:Rd ops k):ops.Nodup:=by
 rw [List.Nodup,List.pairwise_iff_getElem]
 intro i j hi hj hij e
 have:=h.ids i j _ _ (List.getElem?_eq_getElem hi) (List.getElem?_eq_getElem hj) (by rw [e])
 omega
theorem Rd.lined {ops:List OpV} {k:Int} (h:Rd ops k):LinedM ops:=by
 intro o ho o' ho' hne hcl
 obtain ⟨i,hi⟩:=List.mem_iff_getElem?.1 ho
 obtain ⟨j,hj⟩:=List.mem_iff_getElem?.1 ho'
 have hij:i≠j:=fun e=>by subst e;rw [hi] at hj;injection hj with hj;exact hne hj
 rcases Nat.lt_or_gt_of_ne hij with h1 | h1
 · have:=h.wait i j o o' hi hj h1 hcl
   left
   unfold ahB
   simp [this.1,this.2]
 · have:=h.wait j i o' o hj hi h1 hcl.symm
   right
   unfold ahB
   simp [this.1,this.2]
end Go.Proofs.YtbbkihekjdffpaaGreatDoor.srch
