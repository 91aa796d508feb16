/- Several texts in one. -/
import Derived.Test.YtlkidmafomjhgaaGreatDoorKeepS1
namespace Go.Proofs.YtlkidmafomjhgaaGreatDoor.keep
open Go.RowKit
open srch (flt LinP ahB zpq endS Legal)
theorem Tells.arg2 {i:Nat} {ops:List OpV} {lines:List (List UInt8)} (h:Tells i ops lines):∀ o∈ops,-1≤o.arg∧o.arg≤2:=by
 induction h with
 | nil=>simp
 | call h cl d hc hf ih=>
   intro o ho
   rcases List.mem_append.1 ho with ho | ho
   · exact ih o ho
   · simp at ho;subst ho;exact zvm _ _
 | ret h j k o vk vn d hj hr hk hn hv ih=>
   intro p hp
   rcases List.mem_or_eq_of_mem_set hp with hp | hp
   · exact ih p hp
   · subst hp;exact ih o (List.mem_of_getElem? hj)
section
variable {σ:Type} (doit:σ→OpV→σ×Int×Int)
structure Sim (i:Nat) (s0:σ) (R:List Int→σ→Prop):Prop where
 init:R (zbw i) s0
 step:∀ l s o k,k < opN i→o.name=opS i k→ -1≤o.arg∧o.arg≤2→R l s→R (effP i k o.cl o.arg o.exp l).1 (doit s o).1∧(doit s o).2=(effP i k o.cl o.arg o.exp l).2
 same:∀ s o (vk vn ret:Int),doit s { o with vk:=vk,vn:=vn,ret:=ret }=doit s o
def zXM (ops:List OpV) (s:σ) (p:Nat×Int×Int):σ:=match ops[p.1]? with | some o=>(doit s o).1 | none=>s
def endD (ops:List OpV) (s:σ) (l:List (Nat×Int×Int)):σ:=l.foldl (zXM doit ops) s
def okD (ops:List OpV):σ→List (Nat×Int×Int)→Prop
 | _,[]=>True
 | s,p::r=>(∀ o,ops[p.1]?=some o→(doit s o).2=p.2)∧okD ops (zXM doit ops s p) r
theorem zil (ops:List OpV) (l:List (Nat×Int×Int)) (p:Nat×Int×Int):∀ s,okD doit ops s (l++[p])↔okD doit ops s l∧∀ o,ops[p.1]?=some o→(doit (endD doit ops s l) o).2=p.2:=by
 induction l with
 | nil=>intro s;simp [okD,endD]
 | cons a t ih=>
   intro s
   have e:endD doit ops s (a::t)=endD doit ops (zXM doit ops s a) t:=rfl
   rw [List.cons_append,e]
   unfold okD
   rw [ih,and_assoc]
theorem zAA (ops:List OpV) (l:List (Nat×Int×Int)) (p:Nat×Int×Int) (s:σ):endD doit ops s (l++[p])=zXM doit ops (endD doit ops s l) p:=by
 unfold endD;rw [List.foldl_append];rfl
theorem zhf {ops ops':List OpV} (l:List (Nat×Int×Int)) (h:∀ p∈l,∃ o o',ops[p.1]?=some o∧ops'[p.1]?=some o'∧∀ s,doit s o'=doit s o):∀ s,(okD doit ops' s l↔okD doit ops s l)∧endD doit ops' s l=endD doit ops s l:=by
 induction l with
 | nil=>intro s;exact ⟨Iff.rfl,rfl⟩
 | cons a t ih=>
   intro s
   obtain ⟨o,o',h1,h2,h3⟩:=h a (by simp)
   have e:zXM doit ops' s a=zXM doit ops s a:=by unfold zXM;rw [h1,h2];simp [h3]
   have ht:=ih (fun p hp=>h p (by simp [hp])) (zXM doit ops s a)
   have e1:endD doit ops' s (a::t)=endD doit ops' (zXM doit ops' s a) t:=rfl
   have e2:endD doit ops s (a::t)=endD doit ops (zXM doit ops s a) t:=rfl
   refine ⟨?_,by rw [e1,e2,e];exact ht.2⟩
   unfold okD
   rw [e,ht.1,h1,h2]
   simp [h3]
def DK (keys:List Nat) (dn:List (Nat×Int×Int)) (kk:Nat):List (Nat×Int×Int):=dn.filter (fun p=>decide (keys[p.1]?=some kk))
structure LInv (i:Nat) (s0:σ) (R:List Int→σ→Prop) (ops:List OpV) (keys:List Nat) (ls:Nat→List Int) (dn:List (Nat×Int×Int)):Prop where
 kl:keys.length=ops.length
 nd:(dn.map (·.1)).Nodup
 back:∀ j o,ops[j]?=some o→o.ret≠0→(j,o.vk,o.vn)∈dn
 ah:∀ m1 p m2,dn=m1++p::m2→∀ o,ops[p.1]?=some o→∀ j' o',ops[j']?=some o'→ahB o' o.call=true→j'∈m1.map (·.1)
 run:∀ kk,(kk=0∨zbw i=[])→okD doit ops s0 (DK keys dn kk)∧R (ls kk) (endD doit ops s0 (DK keys dn kk))
theorem Lives.inv {i:Nat} {s0:σ} {R:List Int→σ→Prop} (S:Sim doit i s0 R) {al:Bool} {ops:List OpV} {lines:List (List UInt8)} {keys:List Nat} {ls:Nat→List Int} {dn:List (Nat×Int×Int)} (h:Lives al i ops lines keys ls dn):LInv doit i s0 R ops keys ls dn:=by
 induction h with
 | nil=>
   refine ⟨rfl,List.nodup_nil,by simp,by simp,fun kk hk=>⟨trivial,?_⟩⟩
   show R (if kk=0 then zbw i else []) s0
   by_cases e:kk=0
   · rw [if_pos e];exact S.init
   · rw [if_neg e,←hk.resolve_left e];exact S.init
 | @call ops lines keys ls dn h cl d hc hf hal ih=>
   have hlt:=h.dn_lt
   have hgo:∀ (j:Nat),j < ops.length→(ops++[(zqT i cl ops.length lines.length d).1])[j]?=ops[j]?:=fun j hj=>List.getElem?_append_left hj
   have hnew:∀ (j:Nat) (o:OpV),(ops++[(zqT i cl ops.length lines.length d).1])[j]?=some o→o.ret≠0→ops[j]?=some o:=by
    intro j o hj hr
    by_cases hl:j < ops.length
    · rw [hgo j hl] at hj;exact hj
    · rw [List.getElem?_append_right (by omega)] at hj
      have h0:j - ops.length=0:=by have:=(List.getElem?_eq_some_iff.1 hj).1;simp at this;omega
      rw [h0] at hj
      simp at hj
      rw [←hj] at hr
      exact absurd rfl hr
   refine ⟨by simp [ih.kl],ih.nd,fun j o hj hr=>ih.back j o (hnew j o hj hr) hr,fun m1 p m2 e o ho j' o' ho' ha=>?_,fun kk hk=>?_⟩
   · rw [hgo p.1 (hlt p (by rw [e];simp))] at ho
     have hr:o'.ret≠0:=by
      intro h0
      simp [ahB,h0] at ha
     exact ih.ah m1 p m2 e o ho j' o' (hnew j' o' ho' hr) ha
   · have e:DK (keys++[(zqT i cl ops.length lines.length d).2.2.1]) dn kk=DK keys dn kk:=by
      unfold DK
      apply List.filter_congr
      intro p hp
      rw [List.getElem?_append_left (by rw [ih.kl];exact hlt p hp)]
     have hx:=zhf doit (ops:=ops) (ops':=ops++[(zqT i cl ops.length lines.length d).1]) (DK keys dn kk) (fun p hp=>by
      have hl:=hlt p (List.mem_filter.1 hp).1
      exact ⟨ops[p.1],ops[p.1],List.getElem?_eq_getElem hl,by rw [hgo p.1 hl];exact List.getElem?_eq_getElem hl,fun _=>rfl⟩) s0
     obtain ⟨h1,h2⟩:=ih.run kk hk
     rw [e]
     exact ⟨hx.1.2 h1,by rw [hx.2];exact h2⟩
 | @did ops lines keys ls dn h j k kk o hj hr hk hn hkk hd ih=>
   refine ⟨ih.kl,?_,fun a p hp hpr=>List.mem_append_left _ (ih.back a p hp hpr),fun m1 p m2 e x hx j' o' ho' ha=>?_,fun q hq=>?_⟩
   · rw [List.map_append,List.nodup_append]
     refine ⟨ih.nd,by simp,fun a ha b hb=>?_⟩
     simp at hb
     subst hb
     obtain ⟨p,hp,rfl⟩:=List.mem_map.1 ha
     exact hd p hp
   · have hr':o'.ret≠0:=by
      intro h0
      simp [ahB,h0] at ha
     rcases List.eq_nil_or_concat m2 with rfl | ⟨m3,z,rfl⟩
     · have:=List.append_inj_left' e (by simp)
       rw [←this]
       exact List.mem_map.2 ⟨_,ih.back j' o' ho' hr',rfl⟩
     · have e':dn++[(j,(effP i k o.cl o.arg o.exp (ls kk)).2)]=(m1++p::m3)++[z]:=by rw [e];simp
       exact ih.ah m1 p m3 (List.append_inj_left' e' rfl) x hx j' o' ho' ha
   · obtain ⟨h1,h2⟩:=ih.run q hq
     by_cases e:q=kk
     · subst e
       have eD:DK keys (dn++[(j,(effP i k o.cl o.arg o.exp (ls q)).2)]) q=DK keys dn q++[(j,(effP i k o.cl o.arg o.exp (ls q)).2)]:=by
        unfold DK;rw [List.filter_append];simp [hkk]
       obtain ⟨s1,s2⟩:=S.step _ _ o k hk hn (h.tells.arg2 o (List.mem_of_getElem? hj)) h2
       rw [eD,zil,zAA,z5w]
       refine ⟨⟨h1,fun o1 ho1=>?_⟩,?_⟩
       · dsimp only at ho1
         rw [hj] at ho1
         injection ho1 with ho1
         rw [←ho1];exact s2
       · unfold zXM
         dsimp only
         rw [hj]
         exact s1
     · have eD:DK keys (dn++[(j,(effP i k o.cl o.arg o.exp (ls kk)).2)]) q=DK keys dn q:=by
        unfold DK;rw [List.filter_append];simp [hkk];exact fun h=>e h.symm
       rw [eD,zkf _ _ e]
       exact ⟨h1,h2⟩
 | @ret ops lines keys ls dn h j k o vk vn d hj hr hk hn hv hd ih=>
   have hlt:=h.dn_lt
   have hjl:=(List.getElem?_eq_some_iff.1 hj).1
   have hcl:∀ x∈ops,x.call≤(lines.length:Int):=fun x hx=>(h.tells.lines_in x hx).2.1
   refine ⟨by simp [ih.kl],ih.nd,fun a p hp hpr=>?_,fun m1 p m2 e x hx j' o' ho' ha=>?_,fun q hq=>?_⟩
   · by_cases e:j=a
     · subst e
       rw [List.getElem?_set_self hjl] at hp
       injection hp with hp
       subst hp
       exact hd
     · rw [List.getElem?_set_ne e] at hp;exact ih.back a p hp hpr
   · obtain ⟨y,hy,hyc⟩:∃ y,ops[p.1]?=some y∧y.call=x.call:=by
      by_cases e:j=p.1
      · rw [←e,List.getElem?_set_self hjl] at hx
        injection hx with hx
        subst hx
        exact ⟨o,by rw [←e];exact hj,rfl⟩
      · rw [List.getElem?_set_ne e] at hx;exact ⟨x,hx,rfl⟩
     rw [←hyc] at ha
     by_cases e2:j=j'
     · subst e2
       rw [List.getElem?_set_self hjl] at ho'
       injection ho' with ho'
       subst ho'
       have:=hcl y (List.mem_of_getElem? hy)
       simp [ahB] at ha
       omega
     · rw [List.getElem?_set_ne e2] at ho'
       exact ih.ah m1 p m2 e y hy j' o' ho' ha
   · have hx:=zhf doit (ops:=ops) (ops':=ops.set j { o with vk:=vk,vn:=vn,ret:=(lines.length:Int)+1 }) (DK keys dn q) (fun p hp=>by
      have hl:=hlt p (List.mem_filter.1 hp).1
      by_cases e:j=p.1
      · refine ⟨o,_,by rw [←e];exact hj,by rw [←e];exact List.getElem?_set_self hjl,fun s=>S.same s o _ _ _⟩
      · exact ⟨ops[p.1],ops[p.1],List.getElem?_eq_getElem hl,by rw [List.getElem?_set_ne e];exact List.getElem?_eq_getElem hl,fun _=>rfl⟩) s0
     obtain ⟨h1,h2⟩:=ih.run q hq
     exact ⟨hx.1.2 h1,by rw [hx.2];exact h2⟩
end
end Go.Proofs.YtlkidmafomjhgaaGreatDoor.keep
namespace Go.Proofs.YtlkidmafomjhgaaGreatDoor.keep
open Go.RowKit
open srch (flt LinP ahB zpq endS Legal zCI stDo zqY lkDo quDo zsN sortedU zMI tI)
section
variable {σ:Type} (doit:σ→OpV→σ×Int×Int)
theorem zmh {ops:List OpV} {dn:List (Nat×Int×Int)} (hnd:(dn.map (·.1)).Nodup) (hb:∀ (j:Nat) (o:OpV),ops[j]?=some o→o.ret≠0→(j,o.vk,o.vn)∈dn) (l:List (Nat×Int×Int)):∀ s,(∀ p∈l,p∈dn)→okD doit ops s l→zpq doit s (l.filterMap (fun p=>ops[p.1]?)):=by
 induction l with
 | nil=>intro s _ _;exact trivial
 | cons p r ih=>
   intro s hl ho
   unfold okD at ho
   have hr:=ih _ (fun q hq=>hl q (by simp [hq])) ho.2
   cases e:ops[p.1]? with
   | none=>
     rw [List.filterMap_cons_none (f:=fun p:Nat×Int×Int=>ops[p.1]?) e]
     unfold zXM at hr
     rw [e] at hr
     exact hr
   | some o=>
     rw [List.filterMap_cons_some (f:=fun p:Nat×Int×Int=>ops[p.1]?) e]
     unfold zXM at hr
     rw [e] at hr
     refine ⟨fun hret=>?_,hr⟩
     have h1:=hb p.1 o e hret
     have h2:=hl p (by simp)
     have h3:p=(p.1,o.vk,o.vn):=by
      rw [List.Nodup,List.pairwise_map] at hnd
      exact Classical.byContradiction fun hne=>by
       rcases List.mem_iff_getElem.1 h1 with ⟨a,ha,ea⟩
       rcases List.mem_iff_getElem.1 h2 with ⟨b,hb',eb⟩
       have hab:a≠b:=by intro h;subst h;rw [ea] at eb;exact hne eb.symm
       rcases Nat.lt_or_gt_of_ne hab with hlt | hlt
       · have:=List.pairwise_iff_getElem.1 hnd a b ha hb' hlt
         rw [ea,eb] at this
         exact this rfl
       · have:=List.pairwise_iff_getElem.1 hnd b a hb' ha hlt
         rw [ea,eb] at this
         exact this rfl
     have h4:=ho.1 o e
     rw [h3] at h4
     exact h4
theorem LInv.lin {i:Nat} {s0:σ} {R:List Int→σ→Prop} {ops:List OpV} {keys:List Nat} {ls:Nat→List Int} {dn:List (Nat×Int×Int)} (D:LInv doit i s0 R ops keys ls dn) (hid:∀ (j:Nat) (o:OpV),ops[j]?=some o→o.id=7*(j:Int) - 20) (kk:Nat) (hk:kk=0∨zbw i=[]) (P:OpV→Bool) (hP:∀ (j:Nat) (o:OpV),ops[j]?=some o→(P o=true↔keys[j]?=some kk)):LinP doit s0 (ops.filter P):=by
 have hj:∀ (a b:Nat) (o:OpV),ops[a]?=some o→ops[b]?=some o→a=b:=fun a b o ha hb=>by
  have h1:=hid a o ha
  have h2:=hid b o hb
  omega
 refine ⟨(DK keys dn kk).filterMap (fun p=>ops[p.1]?),⟨?_,?_,?_,zmh doit D.nd D.back _ _ (fun p hp=>(List.mem_filter.1 hp).1) (D.run kk hk).1⟩,?_⟩
 · have h:=D.nd
   rw [List.Nodup,List.pairwise_map] at h
   rw [List.Nodup,List.pairwise_filterMap]
   refine List.Pairwise.imp ?_ (h.filter _)
   intro a b hab x hx y hy e
   subst e
   exact hab (hj _ _ _ hx hy)
 · intro o ho
   obtain ⟨p,hp,hpo⟩:=List.mem_filterMap.1 ho
   have h2:=(List.mem_filter.1 hp).2
   exact List.mem_filter.2 ⟨List.mem_of_getElem? hpo,(hP _ _ hpo).2 (by simpa using h2)⟩
 · intro l1 o l2 e o' ho' ha
   obtain ⟨m1,m2,e1,e2,e3⟩:=List.filterMap_eq_append_iff.1 e
   obtain ⟨n1,p,n2,e4,e5,e6,e7⟩:=List.filterMap_eq_cons_iff.1 e3
   subst e4
   have e8:DK keys dn kk=(m1++n1)++p::n2:=by rw [e1,List.append_assoc]
   unfold DK at e8
   obtain ⟨d1,d2,f1,f2,f3⟩:=List.filter_eq_append_iff.1 e8
   obtain ⟨g1,g2,f4,f5,f6,f7⟩:=List.filter_eq_cons_iff.1 f3
   subst f4
   have hin:=D.ah (d1++g1) p g2 (by rw [f1];simp) o e6
   obtain ⟨j',hj'⟩:=List.mem_iff_getElem?.1 (List.mem_filter.1 ho').1
   have hkey:=(hP j' o' hj').1 (List.mem_filter.1 ho').2
   obtain ⟨p',hp',rfl⟩:=List.mem_map.1 (hin j' o' hj' ha)
   have hp1:p'∈d1:=by
    rcases List.mem_append.1 hp' with h | h
    · exact h
    · exact absurd (by simpa using hkey) (f5 p' h)
   have hp2:p'∈m1++n1:=by rw [←f2];exact List.mem_filter.2 ⟨hp1,by simpa using hkey⟩
   rcases List.mem_append.1 hp2 with h | h
   · rw [←e2];exact List.mem_filterMap.2 ⟨p',h,hj'⟩
   · rw [e5 p' h] at hj';cases hj'
 · intro o ho hr
   obtain ⟨j,hj'⟩:=List.mem_iff_getElem?.1 (List.mem_filter.1 ho).1
   exact List.mem_filterMap.2 ⟨(j,o.vk,o.vn),List.mem_filter.2 ⟨D.back j o hj' hr,by simpa using (hP j o hj').1 (List.mem_filter.1 ho).2⟩,hj'⟩
end
end Go.Proofs.YtlkidmafomjhgaaGreatDoor.keep
