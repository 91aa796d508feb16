/- Several texts in one. -/
import Derived.Test.YtlkidmafomjhgaaGreatDoorSrchRX
import Derived.Test.YtlkidmafomjhgaaGreatDoorSrchTX
namespace Go.Proofs.YtlkidmafomjhgaaGreatDoor.srch
open Go.RowKit
section
variable {σ:Type} (doit:σ→OpV→σ×Int×Int)
def zpq:σ→List OpV→Prop
 | _,[]=>True
 | s,o::r=>(o.ret≠0→((doit s o).2.1,(doit s o).2.2)=(o.vk,o.vn))∧zpq (doit s o).1 r
def endS (s:σ) (l:List OpV):σ:=l.foldl (fun s o=>(doit s o).1) s
theorem zLZ (s:σ) (l:List OpV) (o:OpV):endS doit s (l++[o])=(doit (endS doit s l) o).1:=by
 unfold endS
 rw [List.foldl_append]
 rfl
theorem z6N (l:List OpV):∀ (s:σ) (o:OpV),zpq doit s (l++[o])↔zpq doit s l∧(o.ret≠0→((doit (endS doit s l) o).2.1,(doit (endS doit s l) o).2.2)=(o.vk,o.vn)):=by
 induction l with
 | nil=>intro s o;simp [zpq,endS]
 | cons a t ih=>
   intro s o
   have e:endS doit s (a::t)=endS doit (doit s a).1 t:=rfl
   rw [List.cons_append,e]
   unfold zpq
   rw [ih,and_assoc]
structure Legal (s0:σ) (part ord:List OpV):Prop where
 nd:ord.Nodup
 sub:∀ o∈ord,o∈part
 ahead:∀ l1 o l2,ord=l1++o::l2→∀ o'∈part,ahB o' o.call=true→o'∈l1
 run:zpq doit s0 ord
def LinP (s0:σ) (part:List OpV):Prop:=∃ ord,Legal doit s0 part ord∧∀ o∈part,o.ret≠0→o∈ord
theorem Legal.init {s0:σ} {part ord:List OpV} {o:OpV} (h:Legal doit s0 part (ord++[o])):Legal doit s0 part ord:=by
 refine ⟨(List.nodup_append.1 h.nd).1,fun x hx=>h.sub x (by simp [hx]),fun l1 x l2 e o' ho' ha=>h.ahead l1 x (l2++[o]) (by rw [e];simp) o' ho' ha,((z6N doit ord s0 o).1 h.run).1⟩
theorem zcF (ops:List OpV) (l:List (Stp σ)) (s:Stp σ) {o:OpV} (h:ops[s.pl]?=some o):takenL ops (l++[s])=takenL ops l++[o]:=by
 unfold takenL
 rw [List.filterMap_append]
 simp [h]
theorem mem_takenL {ops:List OpV} {l:List (Stp σ)} {o:OpV}:o∈takenL ops l↔∃ q∈l.map (·.pl),ops[q]?=some o:=by
 unfold takenL
 rw [List.mem_filterMap]
 constructor
 · rintro ⟨s,hs,h⟩
   exact ⟨s.pl,List.mem_map_of_mem hs,h⟩
 · rintro ⟨q,hq,h⟩
   obtain ⟨s,hs,rfl⟩:=List.mem_map.1 hq
   exact ⟨s,hs,h⟩
theorem zYV {ops:List OpV} (hd:ops.Nodup) {p q:Nat} {o:OpV} (hp:ops[p]?=some o) (hq:ops[q]?=some o):p=q:=by
 obtain ⟨h1,e1⟩:=List.getElem?_eq_some_iff.1 hp
 obtain ⟨h2,e2⟩:=List.getElem?_eq_some_iff.1 hq
 exact (List.getElem_inj hd).1 (e1.trans e2.symm)
theorem zCN {ops:List OpV} (hn:ops.length≤128) (hd:ops.Nodup) {s0:σ} {l:List (Stp σ)} {c:Gr×σ} (h:PathW doit ops ((0,0),s0) l c):Legal doit s0 ops (takenL ops l)∧c.2=endS doit s0 (takenL ops l):=by
 induction h with
 | nil=>exact ⟨⟨by simp [takenL],fun o ho=>by simp [takenL] at ho,fun l1 o l2 e=>by simp [takenL] at e,trivial⟩,rfl⟩
 | snoc l s c h hs ih=>
   have hw:=(zIM doit ops hn h).1
   obtain ⟨o,ho,h1,h2,h3,rfl⟩:=(zZu doit ops hn hw).1 hs
   have hh:=(zxD doit ops hn h).2
   have hlt:=(List.getElem?_eq_some_iff.1 ho).1
   rw [zcF ops l s ho]
   have hst:s.st=endS doit s0 (takenL ops l):=ih.2
   refine ⟨⟨?_,?_,?_,?_⟩,?_⟩
   · rw [List.nodup_append]
     refine ⟨ih.1.nd,by simp,fun a ha b hb=>?_⟩
     rw [List.mem_singleton] at hb
     subst hb
     intro e
     subst e
     obtain ⟨q,hq,hq2⟩:=mem_takenL.1 ha
     have:=zYV hd hq2 ho
     subst this
     have:=(hh _ (by omega)).2 hq
     rw [h1] at this;cases this
   · intro x hx
     rcases List.mem_append.1 hx with hx | hx
     · exact ih.1.sub x hx
     · rw [List.mem_singleton] at hx;subst hx;exact List.mem_of_getElem? ho
   · intro l1 x l2 e o' ho' ha
     rcases List.eq_nil_or_concat l2 with rfl | ⟨l3,y,rfl⟩
     · obtain ⟨e1,e2⟩:=List.append_inj' e rfl
       injection e2 with e2
       subst e2
       rw [←e1]
       obtain ⟨q,hq⟩:=List.mem_iff_getElem?.1 ho'
       have hql:=(List.getElem?_eq_some_iff.1 hq).1
       exact mem_takenL.2 ⟨q,(hh q (by omega)).1 (h2 q o' hq ha),hq⟩
     · rw [List.concat_eq_append,←List.cons_append,←List.append_assoc] at e
       obtain ⟨e1,_⟩:=List.append_inj' e rfl
       exact ih.1.ahead l1 x l3 e1 o' ho' ha
   · rw [z6N]
     refine ⟨ih.1.run,fun hr=>?_⟩
     rw [←hst]
     exact h3 hr
   · rw [zLZ,←hst]
theorem zyg {ops:List OpV} (hn:ops.length≤128) (hd:ops.Nodup) {s0:σ} (n:Nat):∀ ord:List OpV,ord.length=n→Legal doit s0 ops ord→∃ l c,PathW doit ops ((0,0),s0) l c∧takenL ops l=ord:=by
 induction n with
 | zero=>
   intro ord h _
   have:=List.eq_nil_of_length_eq_zero h
   subst this
   exact ⟨[],_,.nil,rfl⟩
 | succ n ih=>
   intro ord hlen h
   rcases List.eq_nil_or_concat ord with rfl | ⟨l1,o,rfl⟩
   · simp at hlen
   · rw [List.concat_eq_append] at h hlen ⊢
     obtain ⟨l,c,hp,ht⟩:=ih l1 (by simpa using hlen) h.init
     have hpl:=zCN doit hn hd hp
     have hw:=(zIM doit ops hn hp).1
     have hh:=(zxD doit ops hn hp).2
     obtain ⟨p,hpo⟩:=List.mem_iff_getElem?.1 (h.sub o (by simp))
     have hlt:=(List.getElem?_eq_some_iff.1 hpo).1
     have hno:o∉l1:=fun hm=>by
      have:=(List.nodup_append.1 h.nd).2.2 o hm o (by simp)
      exact this rfl
     have hs:zYl doit ops c p=some (zdS c.1 p,(doit c.2 o).1):=by
      refine (zZu doit ops hn hw).2 ⟨o,hpo,?_,?_,?_,rfl⟩
      · cases e:gHas c.1 p with
        | false=>rfl
        | true=>
          exfalso
          apply hno
          rw [←ht]
          exact mem_takenL.2 ⟨p,(hh p (by omega)).1 e,hpo⟩
      · intro q o' hq ha
        have h1:=h.ahead l1 o [] rfl o' (List.mem_of_getElem? hq) ha
        rw [←ht] at h1
        obtain ⟨q',hq',hq2⟩:=mem_takenL.1 h1
        have:=zYV hd hq2 hq
        subst this
        have hql:=(List.getElem?_eq_some_iff.1 hq).1
        exact (hh _ (by omega)).2 hq'
      · intro hr
        have:=((z6N doit l1 s0 o).1 h.run).2 hr
        rw [hpl.2,ht]
        exact this
     refine ⟨l++[⟨c.1,c.2,p⟩],_,.snoc _ _ _ hp hs,?_⟩
     rw [zcF ops l _ hpo,ht]
theorem zXJ {ops:List OpV} (hn:ops.length≤128) (hd:ops.Nodup) {s0:σ}:LinP doit s0 ops↔∃ c,zP0 doit ops ((0,0),s0) c∧zJn (retG ops 0 (0,0)) c.1=true:=by
 constructor
 · rintro ⟨ord,h,hw⟩
   obtain ⟨l,c,hp,ht⟩:=zyg doit hn hd _ ord rfl h
   refine ⟨c,⟨l,hp⟩,(z6g hn (zIM doit ops hn hp).1).2 (fun q o hq hr=>?_)⟩
   have h1:=hw o (List.mem_of_getElem? hq) hr
   rw [←ht] at h1
   obtain ⟨q',hq',hq2⟩:=mem_takenL.1 h1
   have:=zYV hd hq2 hq
   subst this
   have hql:=(List.getElem?_eq_some_iff.1 hq).1
   exact ((zxD doit ops hn hp).2 _ (by omega)).2 hq'
 · rintro ⟨c,⟨l,hp⟩,hw⟩
   refine ⟨takenL ops l,(zCN doit hn hd hp).1,fun o ho hr=>?_⟩
   obtain ⟨q,hq⟩:=List.mem_iff_getElem?.1 ho
   have hql:=(List.getElem?_eq_some_iff.1 hq).1
   exact mem_takenL.2 ⟨q,((zxD doit ops hn hp).2 q (by omega)).1 ((z6g hn (zIM doit ops hn hp).1).1 hw q o hq hr),hq⟩
theorem Legal.perm {s0:σ} {p q ord:List OpV} (h:Legal doit s0 p ord) (hm:∀ o,o∈p↔o∈q):Legal doit s0 q ord:=
 ⟨h.nd,fun o ho=>(hm o).1 (h.sub o ho),fun l1 o l2 e o' ho' ha=>h.ahead l1 o l2 e o' ((hm o').2 ho') ha,h.run⟩
theorem LinP.perm {s0:σ} {p q:List OpV} (h:LinP doit s0 p) (hm:∀ o,o∈p↔o∈q):LinP doit s0 q:=by
 obtain ⟨ord,h1,h2⟩:=h
 exact ⟨ord,h1.perm doit hm,fun o ho hr=>h2 o ((hm o).2 ho) hr⟩
theorem zoi [DecidableEq σ] {part:List OpV} (hn:part.length≤128) (hd:part.Nodup) {s0:σ} {b:Int} {r:Out} (h:Found doit (ordO part) s0 b r) (hv:r.verdict≠0):(r.verdict=1↔LinP doit s0 part)∧(r.verdict=2↔¬ LinP doit s0 part)∧Legal doit s0 part r.order∧(r.verdict=1→∀ o∈part,o.ret≠0→o∈r.order)∧(r.verdict=2→∀ ord,Legal doit s0 part ord→ord.length≤r.order.length):=by
 have hp:=zBL part
 have hm:∀ o,o∈ordO part↔o∈part:=fun o=>hp.mem_iff
 have hn':(ordO part).length≤128:=by rw [hp.length_eq];exact hn
 have hd':(ordO part).Nodup:=hp.nodup_iff.2 hd
 have hl:=zXJ doit hn' hd' (s0:=s0)
 have hl':LinP doit s0 part↔LinP doit s0 (ordO part):=⟨fun x=>x.perm doit (fun o=>(hm o).symm),fun x=>x.perm doit hm⟩
 obtain ⟨vis,_,_,h1⟩:=Found.told doit _ hn' h
 rcases h1 with ⟨h1,_⟩ | ⟨h1,_,l,c,hpath,hw,ho⟩ | ⟨h1,_,⟨l,c,hpath,ho⟩,hno⟩
 · exact absurd h1 hv
 · have hyes:LinP doit s0 part:=hl'.2 (hl.2 ⟨c,⟨l,hpath⟩,hw⟩)
   refine ⟨⟨fun _=>hyes,fun _=>h1⟩,⟨fun h=>by omega,fun h=>absurd hyes h⟩,?_,?_,fun h=>by omega⟩
   · rw [ho];exact (zCN doit hn' hd' hpath).1.perm doit hm
   · intro _ o hoo hr
     rw [ho]
     obtain ⟨q,hq⟩:=List.mem_iff_getElem?.1 ((hm o).2 hoo)
     have hql:=(List.getElem?_eq_some_iff.1 hq).1
     exact mem_takenL.2 ⟨q,((zxD doit _ hn' hpath).2 q (by omega)).1 ((z6g hn' (zIM doit _ hn' hpath).1).1 hw q o hq hr),hq⟩
 · have hnot:¬ LinP doit s0 part:=fun x=>by
    obtain ⟨c',hc',hw'⟩:=hl.1 (hl'.1 x)
    have:=(hno c' hc').1
    rw [hw'] at this;cases this
   refine ⟨⟨fun h=>by omega,fun h=>absurd h hnot⟩,⟨fun _=>hnot,fun _=>h1⟩,?_,fun h=>by omega,?_⟩
   · rw [ho];exact (zCN doit hn' hd' hpath).1.perm doit hm
   · intro _ ord hord
     obtain ⟨l2,c2,hp2,ht2⟩:=zyg doit hn' hd' _ ord rfl (hord.perm doit (fun o=>(hm o).symm))
     have:=(hno c2 ⟨l2,hp2⟩).2
     rw [(zIM doit _ hn' hp2).2] at this
     rw [←ht2,zTx _ _ (z41 doit _ hp2)]
     exact this
end
section
variable {σ:Type} [DecidableEq σ] (doit:σ→OpV→σ×Int×Int) (s0:σ)
theorem zl7 {ps:List (List UInt8×List OpV)} {b:Int} {acc:List (List OpV)} {v:Nat×List UInt8×List (List OpV)} (h:Judged (fun p b r=>Found doit (ordO p) s0 b r) ps b acc v) (hok:∀ q∈ps,q.2.length≤128∧q.2.Nodup) (hv:v.1≠0):
 (v.1=1∧(∀ q∈ps,LinP doit s0 q.2)∧∃ os:List (List OpV),v.2.2=acc++os∧os.length=ps.length∧∀ (i:Nat) (q:List UInt8×List OpV) (o:List OpV),ps[i]?=some q→os[i]?=some o→Legal doit s0 q.2 o∧∀ x∈q.2,x.ret≠0→x∈o)∨
 (v.1=2∧∃ l1 nm p l2 o,ps=l1++(nm,p)::l2∧(∀ q∈l1,LinP doit s0 q.2)∧¬ LinP doit s0 p∧v.2.1=nm∧v.2.2=[o]∧Legal doit s0 p o∧∀ ord,Legal doit s0 p ord→ord.length≤o.length):=by
 induction h with
 | ok b acc=>exact .inl ⟨rfl,by simp,[],by simp,rfl,fun i q o h=>by simp at h⟩
 | unknown nm p rest b acc r h hr=>exact absurd rfl hv
 | illegal nm p rest b acc r h hr=>
   obtain ⟨h1,h2⟩:=hok (nm,p) (by simp)
   have hf:=zoi doit h1 h2 h (by omega)
   exact .inr ⟨rfl,[],nm,p,rest,r.order,rfl,by simp,hf.2.1.1 hr,rfl,rfl,hf.2.2.1,hf.2.2.2.2 hr⟩
 | next nm p rest b acc r v h hr hj ih=>
   obtain ⟨h1,h2⟩:=hok (nm,p) (by simp)
   have hf:=zoi doit h1 h2 h (by omega)
   have hl:=hf.1.1 hr
   rcases ih (fun q hq=>hok q (by simp [hq])) hv with ⟨e,ha,os,e2,hlen,hos⟩ | ⟨e,l1,nm',p',l2,o,e1,ha,hn,e2,e3,hL,hM⟩
   · refine .inl ⟨e,?_,r.order::os,by rw [e2];simp,by simp [hlen],?_⟩
     · intro q hq
       rcases List.mem_cons.1 hq with rfl | hq
       · exact hl
       · exact ha q hq
     · intro i q o hi ho
       cases i with
       | zero=>
         simp at hi ho
         subst hi ho
         exact ⟨hf.2.2.1,hf.2.2.2.1 hr⟩
       | succ i=>exact hos i q o (by simpa using hi) (by simpa using ho)
   · refine .inr ⟨e,(nm,p)::l1,nm',p',l2,o,by rw [e1];rfl,?_,hn,e2,e3,hL,hM⟩
     intro q hq
     rcases List.mem_cons.1 hq with rfl | hq
     · exact hl
     · exact ha q hq
theorem zUH (K:List Int) {ps:List (List UInt8×List OpV)} {b:Int} {acc:List (List OpV)} {v:Nat×List UInt8×List (List OpV)} (h:Judged (fun p b r=>Found doit (ordO p) s0 b r) ps b acc v) (hok:∀ q∈ps,q.2.length≤128∧zNA (ordO q.2)∧∀ o∈q.2,o.cl∈K) (hb:((ps.map (fun q=>costP K.length q.2.length)).sum:Int) < b):v.1≠0:=by
 induction h with
 | ok b acc=>exact Nat.one_ne_zero
 | unknown nm p rest b acc r h hr=>
   obtain ⟨h1,h2,h3⟩:=hok (nm,p) (by simp)
   have hp:=zBL p
   simp only [List.map_cons,List.sum_cons] at hb
   have:=(z05 doit (ordO p) (by rw [hp.length_eq];exact h1) h2 K (fun o ho=>h3 o (hp.mem_iff.1 ho)) h (by rw [hp.length_eq];omega) (by omega)).1
   exact absurd hr this
 | illegal nm p rest b acc r h hr=>exact (by decide:(2:Nat)≠0)
 | next nm p rest b acc r v h hr hj ih=>
   obtain ⟨h1,h2,h3⟩:=hok (nm,p) (by simp)
   have hp:=zBL p
   simp only [List.map_cons,List.sum_cons] at hb
   have:=(z05 doit (ordO p) (by rw [hp.length_eq];exact h1) h2 K (fun o ho=>h3 o (hp.mem_iff.1 ho)) h (by rw [hp.length_eq];omega) (by omega)).2
   rw [hp.length_eq] at this
   exact ih (fun q hq=>hok q (by simp [hq])) (by omega)
end
def LinedM (ops:List OpV):Prop:=∀ o∈ops,∀ o'∈ops,o≠o'→o.cl=o'.cl→ahB o o'.call=true∨ahB o' o.call=true
theorem LinedM.at {ops:List OpV} (h:LinedM ops) (hd:ops.Nodup):zNA ops:=fun p q o o' hp hq hne hcl=>h o (List.mem_of_getElem? hp) o' (List.mem_of_getElem? hq) (fun e=>hne (by subst e;exact zYV hd hp hq)) hcl
theorem LinedM.sub {ops l:List OpV} (h:LinedM ops) (hs:∀ o∈l,o∈ops):LinedM l:=fun o ho o' ho'=>h o (hs o ho) o' (hs o' ho')
structure Rd (ops:List OpV) (k:Int):Prop where
 ids:∀ (i j:Nat) (o o':OpV),ops[i]?=some o→ops[j]?=some o'→o.id=o'.id→i=j
 call:∀ o∈ops,1≤o.call∧o.call≤k
 ret:∀ o∈ops,o.ret≠0→o.call < o.ret∧o.ret≤k
 wait:∀ (i j:Nat) (o o':OpV),ops[i]?=some o→ops[j]?=some o'→i < j→o.cl=o'.cl→o.ret≠0∧o.ret < o'.call
theorem Rd.call_op {ops:List OpV} {k:Int} (h:Rd ops k) (hk:0≤k) (o:OpV) (hi:z09 ops o.id=none) (hc:openOf ops o.cl=0) (ho:o.call=k+1) (hr:o.ret=0):Rd (ops++[o]) (k+1):=by
 have hget:∀ (i:Nat) (x:OpV),(ops++[o])[i]?=some x→(i < ops.length∧ops[i]?=some x)∨(i=ops.length∧x=o):=by
  intro i x hx
  by_cases hl:i < ops.length
  · rw [List.getElem?_append_left hl] at hx;exact .inl ⟨hl,hx⟩
  · rw [List.getElem?_append_right (by omega)] at hx
    have h0:i - ops.length=0:=by have:=(List.getElem?_eq_some_iff.1 hx).1;simp at this;omega
    rw [h0] at hx
    simp at hx
    exact .inr ⟨by omega,hx.symm⟩
 have hnew:∀ x∈ops,x.id≠o.id:=by
  intro x hx e
  unfold z09 at hi
  rw [List.findIdx?_eq_none_iff] at hi
  have:=hi x hx
  simp [e] at this
 have hopen:∀ x∈ops,x.cl=o.cl→x.ret≠0:=by
  intro x hx e hz
  unfold openOf at hc
  have h0:=List.eq_nil_of_length_eq_zero hc
  have:x∈ops.filter (fun y=>y.cl == o.cl&&y.ret == 0):=List.mem_filter.2 ⟨hx,by simp [e,hz]⟩
  rw [h0] at this;cases this
 refine ⟨?_,?_,?_,?_⟩
 · intro i j x y hx hy e
   rcases hget i x hx with ⟨hi1,hx1⟩ | ⟨hi1,rfl⟩ <;> rcases hget j y hy with ⟨hj1,hy1⟩ | ⟨hj1,rfl⟩
   · exact h.ids i j x y hx1 hy1 e
   · exact absurd e (hnew x (List.mem_of_getElem? hx1))
   · exact absurd e.symm (hnew y (List.mem_of_getElem? hy1))
   · omega
 · intro x hx
   rcases List.mem_append.1 hx with hx | hx
   · have:=h.call x hx;omega
   · rw [List.mem_singleton] at hx;subst hx;omega
 · intro x hx hz
   rcases List.mem_append.1 hx with hx | hx
   · have:=h.ret x hx hz;omega
   · rw [List.mem_singleton] at hx;subst hx;exact absurd hr hz
 · intro i j x y hx hy hij e
   rcases hget i x hx with ⟨hi1,hx1⟩ | ⟨hi1,rfl⟩ <;> rcases hget j y hy with ⟨hj1,hy1⟩ | ⟨hj1,rfl⟩
   · exact h.wait i j x y hx1 hy1 hij e
   · have h1:=hopen x (List.mem_of_getElem? hx1) e
     have h2:=h.ret x (List.mem_of_getElem? hx1) h1
     exact ⟨h1,by omega⟩
   · omega
   · omega
theorem Rd.ret_op {ops:List OpV} {k:Int} (h:Rd ops k) (i:Nat) (o:OpV) (hi:ops[i]?=some o) (hr:o.ret=0) (vk vn:Int):Rd (ops.set i (zSi o (k+1) vk vn)) (k+1):=by
 have hil:=(List.getElem?_eq_some_iff.1 hi).1
 have hget:∀ (j:Nat) (x:OpV),(ops.set i (zSi o (k+1) vk vn))[j]?=some x→(j≠i∧ops[j]?=some x)∨(j=i∧x=zSi o (k+1) vk vn):=by
  intro j x hx
  by_cases e:i=j
  · subst e
    rw [List.getElem?_set_self hil] at hx
    injection hx with hx
    exact .inr ⟨rfl,hx.symm⟩
  · rw [List.getElem?_set_ne e] at hx
    exact .inl ⟨fun e'=>e e'.symm,hx⟩
 refine ⟨?_,?_,?_,?_⟩
 · intro a b x y hx hy e
   rcases hget a x hx with ⟨ha1,hx1⟩ | ⟨ha1,rfl⟩ <;> rcases hget b y hy with ⟨hb1,hy1⟩ | ⟨hb1,rfl⟩
   · exact h.ids a b x y hx1 hy1 e
   · subst hb1;exact h.ids a _ x o hx1 hi e
   · subst ha1;exact h.ids _ b o y hi hy1 e
   · omega
 · intro x hx
   rcases List.mem_or_eq_of_mem_set hx with hx | rfl
   · have:=h.call x hx;omega
   · have:=h.call o (List.mem_of_getElem? hi);show 1≤o.call∧o.call≤k+1;omega
 · intro x hx hz
   rcases List.mem_or_eq_of_mem_set hx with hx | rfl
   · have:=h.ret x hx hz;omega
   · have:=h.call o (List.mem_of_getElem? hi);show o.call < k+1∧k+1≤k+1;omega
 · intro a b x y hx hy hab e
   rcases hget a x hx with ⟨ha1,hx1⟩ | ⟨ha1,rfl⟩ <;> rcases hget b y hy with ⟨hb1,hy1⟩ | ⟨hb1,rfl⟩
   · exact h.wait a b x y hx1 hy1 hab e
   · subst hb1
     exact h.wait a _ x o hx1 hi hab e
   · subst ha1
     exact absurd hr (h.wait _ b o y hi hy1 hab e).1
   · omega
theorem zDQ {model:List UInt8} {ops ops':List OpV} {s:ByteArray} {r:Int} {k:Int} (hk:0≤k) (hd:Rd ops k) (h:addP model ops s (k+1)=(r,some ops')):Rd ops' (k+1):=by
 unfold addP at h
 split at h
 · injection h with _ h;cases h
 · rename_i ms hm
   split at h
   · split at h
     · injection h with _ h
       unfold zRl at h
       dsimp only at h
       split at h
       · cases h
       · split at h
         · split at h
           · cases h
           · rename_i hid
             split at h
             · cases h
             · rename_i hop
               simp at h
               subst h
               exact hd.call_op hk _ (by simpa using hid) (by simpa using hop) rfl rfl
         · cases h
     · split at h
       · unfold retP at h
         split at h
         · injection h with _ h;cases h
         · split at h
           · injection h with _ h;cases h
           · rename_i i _ _ o he
             split at h
             · injection h with _ h;cases h
             · rename_i hz
               split at h
               · injection h with _ h
                 injection h with h
                 subst h
                 exact hd.ret_op i o he (by simpa using hz) _ _
               · injection h with _ h;cases h
       · injection h with _ h;cases h
   · injection h with _ h;cases h
theorem zbd (model:List UInt8):∀ (f:Nat) (ops:List OpV) (t:List UInt8) (k:Nat) (res:List OpV),Rd ops (k:Int)→zIn model f ops t k=.inl res→∃ n:Int,Rd res n:=by
 intro f
 induction f with
 | zero=>intro ops t k res _ h;simp [zIn] at h
 | succ f ih=>
   intro ops t k res hd h
   unfold zIn at h
   split at h
   · injection h with h;subst h;exact ⟨_,hd⟩
   · split at h
     · cases h
     · split at h
       · cases h
       · rename_i r ops' he
         exact ih ops' _ (k+1) res (by have:=zDQ (by omega) hd he;exact_mod_cast this) h
theorem zAl {model t:List UInt8} {ops:List OpV} (h:z8w model t=.inl ops):∃ n,Rd ops n:=zbd model 129 [] t 0 ops ⟨fun i j o o' h=>by simp at h,fun o h=>by simp at h,fun o h=>by simp at h,fun i j o o' h=>by simp at h⟩ h
theorem Rd.nodup {ops:List OpV} {k:Int} (h:Rd ops k):ops.Nodup:=by
 rw [List.Nodup,List.pairwise_iff_getElem]
 intro i j hi hj hij e
 have:=h.ids i j _ _ (List.getElem?_eq_getElem hi) (List.getElem?_eq_getElem hj) (by rw [e])
 omega
theorem Rd.lined {ops:List OpV} {k:Int} (h:Rd ops k):LinedM ops:=by
 intro o ho o' ho' hne hcl
 obtain ⟨i,hi⟩:=List.mem_iff_getElem?.1 ho
 obtain ⟨j,hj⟩:=List.mem_iff_getElem?.1 ho'
 have hij:i≠j:=fun e=>by subst e;rw [hi] at hj;injection hj with hj;exact hne hj
 rcases Nat.lt_or_gt_of_ne hij with h1 | h1
 · have:=h.wait i j o o' hi hj h1 hcl
   left
   unfold ahB
   simp [this.1,this.2]
 · have:=h.wait j i o' o hj hi h1 hcl.symm
   right
   unfold ahB
   simp [this.1,this.2]
section
variable {σ:Type} (doit:σ→OpV→σ×Int×Int) (f:OpV→OpV) (φ:σ→σ) (part:List OpV)
end
def zsN (model:List UInt8) (ops:List OpV):Prop:=
 (model=sReg∧LinP zCI 0 ops)∨(model=sKv∧∀ k∈sortedU ops,LinP stDo (false,0) (flt k ops))∨(model=zsK∧LinP quDo [] ops)∨(model=sSet∧∀ k∈sortedU ops,LinP zqY false (flt k ops))∨(model=zyy∧LinP lkDo (false,0) ops)
theorem z4A {ops:List OpV} (K:List Int) (hK:∀ o∈ops,o.cl∈K) (hn:ops.length≤128) (hd:ops.Nodup) (hl:LinedM ops):∀ q∈byKeyP ops,q.2.length≤128∧q.2.Nodup∧zNA (ordO q.2)∧∀ o∈q.2,o.cl∈K:=by
 intro q hq
 obtain ⟨k,_,rfl⟩:=List.mem_map.1 hq
 have hsub:∀ o∈flt k ops,o∈ops:=fun o ho=>(List.mem_filter.1 ho).1
 have hdd:(flt k ops).Nodup:=hd.filter _
 have hp:=zBL (flt k ops)
 exact ⟨Nat.le_trans (zdB k ops) hn,hdd,(hl.sub (fun o ho=>hsub o (hp.mem_iff.1 ho))).at (hp.nodup_iff.2 hdd),fun o ho=>hK o (hsub o ho)⟩
theorem zsJ {ops:List OpV} (K:List Int) (hK:∀ o∈ops,o.cl∈K) (hn:ops.length≤128) (hd:ops.Nodup) (hl:LinedM ops):∀ q∈[(([45]:List UInt8),ops)],q.2.length≤128∧q.2.Nodup∧zNA (ordO q.2)∧∀ o∈q.2,o.cl∈K:=by
 intro q hq
 rw [List.mem_singleton] at hq
 subst hq
 have hp:=zBL ops
 exact ⟨hn,hd,(hl.sub (fun o ho=>hp.mem_iff.1 ho)).at (hp.nodup_iff.2 hd),hK⟩
theorem zro (k:Nat) (ls:List Nat):(ls.map (costP k)).sum≤costP k ls.sum:=by
 induction ls with
 | nil=>exact Nat.zero_le _
 | cons a t ih=>
   rw [List.map_cons,List.sum_cons,List.sum_cons]
   exact Nat.le_trans (Nat.add_le_add_left ih _) (zE0 k a t.sum)
theorem zqr (k:Nat) (ps:List (List UInt8×List OpV)):(ps.map (fun q=>costP k q.2.length)).sum≤costP k (sumL (ps.map (·.2))):=by
 have:=zro k (ps.map (fun q=>q.2.length))
 unfold sumL
 rw [List.map_map] at this ⊢
 exact this
section
variable {σ:Type} [DecidableEq σ] (doit:σ→OpV→σ×Int×Int) (s0:σ)
theorem zEu (K:List Int) (hk:K.length=3) {ps:List (List UInt8×List OpV)} {v:Nat×List UInt8×List (List OpV)} (h:Judged (fun p b r=>Found doit (ordO p) s0 b r) ps 1000000 [] v) (hok:∀ q∈ps,q.2.length≤128∧q.2.Nodup∧zNA (ordO q.2)∧∀ o∈q.2,o.cl∈K) (hs:sumL (ps.map (·.2))≤10):
 (v.1=1∧∀ q∈ps,LinP doit s0 q.2)∨(v.1=2∧¬ ∀ q∈ps,LinP doit s0 q.2):=by
 have h1:=zqr 3 ps
 have h2:=zYh 3 hs
 rw [zmY] at h2
 have hv:=zUH doit s0 K h (fun q hq=>⟨(hok q hq).1,(hok q hq).2.2.1,(hok q hq).2.2.2⟩) (by rw [hk];omega)
 rcases zl7 doit s0 h (fun q hq=>⟨(hok q hq).1,(hok q hq).2.1⟩) hv with ⟨e,ha,_⟩ | ⟨e,l1,nm,p,l2,o,e1,_,hn,_⟩
 · exact .inl ⟨e,ha⟩
 · exact .inr ⟨e,fun hall=>hn (hall (nm,p) (by rw [e1];simp))⟩
end
theorem zSm (K:List Int) (hk:K.length=3) {model:List UInt8} {ops:List OpV} {v:Nat×List UInt8×List (List OpV)} (h:JudgedOf model ops 1000000 v) (hK:∀ o∈ops,o.cl∈K) (hn:ops.length≤10) (hd:ops.Nodup) (hl:LinedM ops):(v.1=1∧zsN model ops)∨(v.1=2∧¬ zsN model ops):=by
 have hw:=zsJ K hK (by omega) hd hl
 have hf:=z4A K hK (by omega) hd hl
 have hsw:sumL ([(([45]:List UInt8),ops)].map (·.2))≤10:=by simpa [sumL] using hn
 have hsf:sumL ((byKeyP ops).map (·.2))≤10:=Nat.le_trans (z9L ops) hn
 have ne:sReg≠sKv∧sReg≠zsK∧sReg≠sSet∧sReg≠zyy∧sKv≠zsK∧sKv≠sSet∧sKv≠zyy∧zsK≠sSet∧zsK≠zyy∧sSet≠zyy:=by decide
 have hone:∀ P:List OpV→Prop,(∀ q∈[(([45]:List UInt8),ops)],P q.2)↔P ops:=fun P=>by simp
 have hmany:∀ P:List OpV→Prop,(∀ q∈byKeyP ops,P q.2)↔∀ k∈sortedU ops,P (flt k ops):=fun P=>by unfold byKeyP;simp
 obtain ⟨n1,n2,n3,n4,n5,n6,n7,n8,n9,n10⟩:=ne
 unfold zsN
 rcases h with ⟨rfl,h⟩ | ⟨rfl,h⟩ | ⟨rfl,h⟩ | ⟨rfl,h⟩ | ⟨rfl,h⟩
 · have:=zEu zCI 0 K hk h hw hsw
   rw [hone (fun p=>LinP zCI 0 p)] at this
   simp only [true_and,n1,n2,n3,n4,false_and,or_false]
   exact this
 · have:=zEu stDo (false,0) K hk h hf hsf
   rw [hmany (fun p=>LinP stDo (false,0) p)] at this
   simp only [true_and,n1.symm,n5,n6,n7,false_and,or_false,false_or]
   exact this
 · have:=zEu quDo [] K hk h hw hsw
   rw [hone (fun p=>LinP quDo [] p)] at this
   simp only [true_and,n2.symm,n5.symm,n8,n9,false_and,or_false,false_or]
   exact this
 · have:=zEu zqY false K hk h hf hsf
   rw [hmany (fun p=>LinP zqY false p)] at this
   simp only [true_and,n3.symm,n6.symm,n8.symm,n10,false_and,or_false,false_or]
   exact this
 · have:=zEu lkDo (false,0) K hk h hw hsw
   rw [hone (fun p=>LinP lkDo (false,0) p)] at this
   simp only [true_and,n4.symm,n7.symm,n9.symm,n10.symm,false_and,false_or]
   exact this
def renO (F C:Int→Int) (o:OpV):OpV:={ o with id:=F o.id,cl:=C o.cl }
end Go.Proofs.YtlkidmafomjhgaaGreatDoor.srch
