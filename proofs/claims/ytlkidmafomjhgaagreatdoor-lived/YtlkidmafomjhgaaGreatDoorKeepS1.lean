/- Several texts in one. -/
import Derived.Test.YtlkidmafomjhgaaGreatDoorKeepY
import Derived.Test.YtlkidmafomjhgaaGreatDoorSrchTY
namespace Go.Proofs.YtlkidmafomjhgaaGreatDoor.keep
open Go.RowKit
inductive TellsG (i:Nat):List OpV→List (List UInt8)→Prop
 | nil:TellsG i [] []
 | call {ops:List OpV} {lines:List (List UInt8)} (h:TellsG i ops lines) (k kk:Nat) (id cl:Int) (arg exp:Int) (d:List Int) (hk:k < opN i) (hkk:kk < 3) (h0: -1000000 < id∧id < 1000000) (hc:small cl) (ha:small arg) (he:small exp) (harg:zuE (opS i k)=false→arg=0) (hexp:opS i k≠[99,97,115]→exp=0) (hid:∀ o∈ops,o.id≠id) (hf:∀ o∈ops,o.cl=cl→o.ret≠0):
  TellsG i (ops++[⟨id,cl,opS i k,if zSt i=true then keyS kk else [],arg,exp,(lines.length:Int)+1,0,0,0⟩]) (lines++[(zdF (zSt i) id cl (opS i k) arg exp kk d).1])
 | ret {ops:List OpV} {lines:List (List UInt8)} (h:TellsG i ops lines) (j k:Nat) (o:OpV) (vk vn:Int) (d:List Int) (hj:ops[j]?=some o) (hr:o.ret=0) (hk:k < opN i) (hn:o.name=opS i k) (hv:zXm i k vk vn):TellsG i (ops.set j { o with vk:=vk,vn:=vn,ret:=(lines.length:Int)+1 }) (lines++[(zZ7 o.id vk vn d).1])
theorem TellsG.base {i:Nat} {ops:List OpV} {lines:List (List UInt8)} (h:TellsG i ops lines):uniq ops∧(∀ o∈ops,-1000000 < o.id∧o.id < 1000000)∧ops.length≤lines.length:=by
 induction h with
 | nil=>exact ⟨by unfold uniq;simp,by simp,Nat.le_refl _⟩
 | @call ops lines h k kk id cl arg exp d hk hkk h0 hc ha he harg hexp hid hf ih=>
   refine ⟨?_,?_,by simp;omega⟩
   · unfold uniq at ih ⊢
     rw [List.map_append,List.nodup_append]
     refine ⟨ih.1,by simp,fun a ha' b hb=>?_⟩
     simp at hb
     subst hb
     obtain ⟨o,ho,rfl⟩:=List.mem_map.1 ha'
     exact hid o ho
   · intro o ho
     rcases List.mem_append.1 ho with ho | ho
     · exact ih.2.1 o ho
     · rw [List.mem_singleton] at ho;subst ho;exact h0
 | @ret ops lines h j k o vk vn d hj hr hk hn hv ih=>
   have hjl:=(List.getElem?_eq_some_iff.1 hj).1
   refine ⟨?_,?_,by simp;omega⟩
   · unfold uniq at ih ⊢
     rw [List.map_set]
     have e:(ops.map (·.id)).set j o.id=ops.map (·.id):=by
      apply List.ext_getElem?
      intro a
      by_cases ea:j=a
      · subst ea
        rw [List.getElem?_set_self (by simpa using hjl),List.getElem?_map,hj];rfl
      · rw [List.getElem?_set_ne ea]
     rw [e];exact ih.1
   · intro x hx
     rcases List.mem_or_eq_of_mem_set hx with hx | rfl
     · exact ih.2.1 x hx
     · exact ih.2.1 o (List.mem_of_getElem? hj)
theorem z58 (i:Nat) (hi:i < 5) {ops:List OpV} {lines:List (List UInt8)} (h:TellsG i ops lines) (hl:lines.length≤128):
 (∀ l∈lines,nn l∧l≠[])∧rd (modS i) lines 0 []=some ops:=by
 induction h with
 | nil=>exact ⟨by simp,rfl⟩
 | @call ops lines h k kk id cl arg exp d hk hkk h0 hc ha he harg hexp hid hf ih=>
   have hl':lines.length+1≤128:=by simpa using hl
   obtain ⟨h1,h4⟩:=ih (by omega)
   obtain ⟨e1,e2,e3⟩:=zJ0 i k hi hk id cl kk hkk _ arg exp d h0.1 h0.2 hc ha he rfl harg hexp ops hid hf ((lines.length:Int)+1)
   refine ⟨?_,?_⟩
   · intro l hl
     rcases List.mem_append.1 hl with hl | hl
     · exact h1 l hl
     · simp at hl;subst hl;exact ⟨e2,e3⟩
   · rw [zlq,h4]
     show rd (modS i) [_] (0+lines.length) ops=_
     rw [rd,Nat.zero_add,e1]
     rfl
 | @ret ops lines h j k o vk vn d hj hr hk hn hv ih=>
   have hl':lines.length+1≤128:=by simpa using hl
   obtain ⟨h1,h4⟩:=ih (by omega)
   obtain ⟨hu,hb,_⟩:=h.base
   have hoid:=hb o (List.mem_of_getElem? hj)
   obtain ⟨e1,e2,e3⟩:=z3n i k hi hk vk vn hv d ops hu j o hj hr hn hoid.1 hoid.2 ((lines.length:Int)+1)
   refine ⟨?_,?_⟩
   · intro l hl
     rcases List.mem_append.1 hl with hl | hl
     · exact h1 l hl
     · simp at hl;subst hl;exact ⟨e2,e3⟩
   · rw [zlq,h4]
     show rd (modS i) [_] (0+lines.length) ops=_
     rw [rd,Nat.zero_add,e1]
     rfl
theorem Tells.lines_in {i:Nat} {ops:List OpV} {lines:List (List UInt8)} (h:Tells i ops lines):∀ o∈ops,1≤o.call∧o.call≤(lines.length:Int)∧(o.ret≠0→1≤o.ret∧o.ret≤(lines.length:Int))∧ -1≤o.cl∧o.cl≤1:=by
 induction h with
 | nil=>simp
 | @call ops lines h cl d hc hf ih=>
   obtain ⟨k,kk,arg,exp,d',q1,q2,q3,q4,q5,q6,q7,q8,q9,_⟩:=zTV i cl ops.length lines.length d
   intro o ho
   rw [List.length_append,List.length_singleton]
   rcases List.mem_append.1 ho with ho | ho
   · have:=ih o ho
     refine ⟨this.1,by omega,fun hz=>?_,this.2.2.2⟩
     have:=this.2.2.1 hz
     omega
   · rw [List.mem_singleton,q7] at ho
     subst ho
     refine ⟨by show 1≤(lines.length:Int)+1;omega,by show (lines.length:Int)+1≤_;omega,fun hz=>absurd rfl hz,hc⟩
 | @ret ops lines h j k o vk vn d hj hr hk hn hv ih=>
   intro x hx
   rw [List.length_append,List.length_singleton]
   rcases List.mem_or_eq_of_mem_set hx with hx | rfl
   · have:=ih x hx
     refine ⟨this.1,by omega,fun hz=>?_,this.2.2.2⟩
     have:=this.2.2.1 hz
     omega
   · have:=ih o (List.mem_of_getElem? hj)
     refine ⟨this.1,by show o.call≤_;omega,fun _=>⟨by show 1≤(lines.length:Int)+1;omega,by show (lines.length:Int)+1≤_;omega⟩,this.2.2.2⟩
theorem zkM (i:Nat) {ops:List OpV} {lines:List (List UInt8)} (h:TellsG i ops lines):∀ l∈lines,l.length≤1000:=by
 induction h with
 | nil=>simp
 | @call ops lines h k kk id cl arg exp d hk hkk h0 hc ha he harg hexp hid hf ih=>
   intro l hl
   rcases List.mem_append.1 hl with hl | hl
   · exact ih l hl
   · rw [List.mem_singleton] at hl;subst hl;exact zxL _ id cl i k arg exp kk d h0.1 h0.2 hc ha he
 | @ret ops lines h j k o vk vn d hj hr hk hn hv ih=>
   intro l hl
   rcases List.mem_append.1 hl with hl | hl
   · exact ih l hl
   · rw [List.mem_singleton] at hl;subst hl
     have:=(h.base).2.1 o (List.mem_of_getElem? hj)
     exact zZa o.id vk vn d this.1 this.2 (z3e hv)
theorem zGe (i:Nat) (hi:i < 5) {ops:List OpV} {lines:List (List UInt8)} (h:TellsG i ops lines) (hl:lines.length≤128):z8w (modS i) (zhe lines)=.inl ops∧(zhe lines).length≤1001*lines.length:=by
 obtain ⟨h1,h2⟩:=z58 i hi h hl
 exact ⟨zHY _ lines 129 0 [] ops h1 (by omega) h2,zvL lines (zkM i h)⟩
theorem Tells.open_few {i:Nat} {ops:List OpV} {lines:List (List UInt8)} (h:Tells i ops lines):lines.length+(ops.filter (fun o=>o.ret == 0)).length=2*ops.length∧((ops.filter (fun o=>o.ret == 0)).map (·.cl)).Nodup:=by
 induction h with
 | nil=>exact ⟨rfl,by simp⟩
 | @call ops lines h cl d hc hf ih=>
   obtain ⟨k,kk,arg,exp,d',q1,q2,q3,q4,q5,q6,q7,q8,q9,_⟩:=zTV i cl ops.length lines.length d
   rw [q7,List.filter_append]
   have e:([(⟨7*(ops.length:Int) - 20,cl,opS i k,if zSt i=true then keyS kk else [],arg,exp,(lines.length:Int)+1,0,0,0⟩:OpV)].filter (fun o=>o.ret == 0))=[⟨7*(ops.length:Int) - 20,cl,opS i k,if zSt i=true then keyS kk else [],arg,exp,(lines.length:Int)+1,0,0,0⟩]:=by simp
   rw [e]
   refine ⟨by simp;omega,?_⟩
   rw [List.map_append,List.nodup_append]
   refine ⟨ih.2,by simp,fun a ha b hb=>?_⟩
   simp at hb
   subst hb
   obtain ⟨o,ho,rfl⟩:=List.mem_map.1 ha
   obtain ⟨ho1,ho2⟩:=List.mem_filter.1 ho
   intro e2
   exact hf o ho1 e2 (by simpa using ho2)
 | @ret ops lines h j k o vk vn d hj hr hk hn hv ih=>
   have hjl:=(List.getElem?_eq_some_iff.1 hj).1
   have e1:ops=ops.take j++o::ops.drop (j+1):=by
    have:ops[j]=o:=(List.getElem?_eq_some_iff.1 hj).2
    rw [←this,List.getElem_cons_drop,List.take_append_drop]
   have e2:ops.set j { o with vk:=vk,vn:=vn,ret:=(lines.length:Int)+1 }=ops.take j++{ o with vk:=vk,vn:=vn,ret:=(lines.length:Int)+1 }::ops.drop (j+1):=List.set_eq_take_append_cons_drop.trans (by rw [if_pos hjl])
   have hz:(((lines.length:Int)+1 == 0))=false:=by simp;omega
   have f1:ops.filter (fun o=>o.ret == 0)=(ops.take j).filter (fun o=>o.ret == 0)++o::(ops.drop (j+1)).filter (fun o=>o.ret == 0):=by
    conv=>lhs;rw [e1]
    rw [List.filter_append,List.filter_cons]
    simp [hr]
   have f2:(ops.set j { o with vk:=vk,vn:=vn,ret:=(lines.length:Int)+1 }).filter (fun o=>o.ret == 0)=(ops.take j).filter (fun o=>o.ret == 0)++(ops.drop (j+1)).filter (fun o=>o.ret == 0):=by
    rw [e2,List.filter_append,List.filter_cons]
    simp [hz]
   rw [f2]
   obtain ⟨h1,h2⟩:=ih
   rw [f1] at h1 h2
   simp only [List.length_append,List.length_cons,List.length_set,List.length_nil] at h1 ⊢
   refine ⟨by omega,?_⟩
   rw [List.map_append,List.map_cons] at h2
   rw [List.map_append]
   exact h2.sublist (List.Sublist.append (List.Sublist.refl _) (List.sublist_cons_self _ _))
theorem Tells.few {i:Nat} {ops:List OpV} {lines:List (List UInt8)} (h:Tells i ops lines) (hl:lines.length≤18):ops.length≤10:=by
 obtain ⟨h1,h2⟩:=h.open_few
 have h3:=srch.nodup_sub _ [-1,0,1] h2 (fun x hx=>by
  obtain ⟨o,ho,rfl⟩:=List.mem_map.1 hx
  have:=(h.lines_in o (List.mem_filter.1 ho).1).2.2.2
  have h4:o.cl= -1∨o.cl=0∨o.cl=1:=by omega
  rcases h4 with e | e | e <;> simp [e])
 rw [List.length_map] at h3
 simp only [List.length_cons,List.length_nil] at h3
 omega
end Go.Proofs.YtlkidmafomjhgaaGreatDoor.keep
namespace Go.Proofs.YtlkidmafomjhgaaGreatDoor.keep
open Go.RowKit
open srch (zsN zkp)
theorem z7v {α:Type} {l:List α} {v x:α} {a:Nat} (h:(l++[v])[a]?=some x):l[a]?=some x∨(a=l.length∧x=v):=by
 by_cases hl:a < l.length
 · rw [List.getElem?_append_left hl] at h;exact .inl h
 · rw [List.getElem?_append_right (by omega)] at h
   have h0:a - l.length=0:=by have:=(List.getElem?_eq_some_iff.1 h).1;simp at this;omega
   rw [h0] at h;simp at h
   exact .inr ⟨by omega,h.symm⟩
theorem z9P {α:Type} {l:List α} {v x:α} {a j:Nat} (h:(l.set j v)[a]?=some x):(a=j∧x=v)∨(a≠j∧l[a]?=some x):=by
 by_cases e:j=a
 · subst e
   have hl:j < l.length:=by have:=(List.getElem?_eq_some_iff.1 h).1;simpa using this
   rw [List.getElem?_set_self hl] at h
   injection h with h
   exact .inl ⟨rfl,h.symm⟩
 · rw [List.getElem?_set_ne e] at h;exact .inr ⟨fun h=>e h.symm,h⟩
theorem zis {i k k':Nat} (hi:i < 5) (h:k < opN i) (h':k' < opN i) (e:opS i k=opS i k'):k=k':=by
 have hN:opN i≤3:=by unfold opN;split <;> omega
 obtain rfl | rfl | rfl | rfl | rfl:i=0∨i=1∨i=2∨i=3∨i=4:=by omega
 all_goals
  obtain rfl | rfl | rfl:k=0∨k=1∨k=2:=by omega
  all_goals
   obtain rfl | rfl | rfl:k'=0∨k'=1∨k'=2:=by omega
   all_goals first | rfl | (revert e;decide) | (revert h;decide) | (revert h';decide)
theorem zpF {k k':Nat} (h:k < 3) (h':k' < 3) (e:keyS k=keyS k'):k=k':=by
 obtain rfl | rfl | rfl:k=0∨k=1∨k=2:=by omega
 all_goals
  obtain rfl | rfl | rfl:k'=0∨k'=1∨k'=2:=by omega
  all_goals first | rfl | (revert e;decide)
theorem Tells.apart {i:Nat} {ops:List OpV} {lines:List (List UInt8)} (h:Tells i ops lines):∀ (a b:Nat) (x y:OpV),ops[a]?=some x→ops[b]?=some y→(x.call=y.call→a=b)∧(x.ret≠0→x.ret≠y.call∧(x.ret=y.ret→a=b)):=by
 induction h with
 | nil=>intro a b x y hx;simp at hx
 | @call ops lines h cl d hc hf ih=>
   have hin:=h.lines_in
   obtain ⟨k,kk,arg,exp,d',q1,q2,q3,q4,q5,q6,q7,q8,q9,_⟩:=zTV i cl ops.length lines.length d
   rw [q7]
   intro a b x y hx hy
   rcases z7v hx with hx | ⟨ea,rfl⟩
   · have i1:=hin x (List.mem_of_getElem? hx)
     rcases z7v hy with hy | ⟨eb,rfl⟩
     · exact ih a b x y hx hy
     · refine ⟨fun e=>?_,fun hz=>⟨fun e=>?_,fun e=>?_⟩⟩
       · have:x.call=(lines.length:Int)+1:=e;omega
       · have:x.ret=(lines.length:Int)+1:=e;have:=i1.2.2.1 hz;omega
       · have:x.ret=0:=e;omega
   · rcases z7v hy with hy | ⟨eb,rfl⟩
     · have i2:=hin y (List.mem_of_getElem? hy)
       refine ⟨fun e=>?_,fun hz=>absurd rfl hz⟩
       have:(lines.length:Int)+1=y.call:=e;omega
     · exact ⟨fun _=>by omega,fun hz=>absurd rfl hz⟩
 | @ret ops lines h j k o vk vn d hj hr hk hn hv ih=>
   have hin:=h.lines_in
   have io:=hin o (List.mem_of_getElem? hj)
   intro a b x y hx hy
   rcases z9P hx with ⟨ea,rfl⟩ | ⟨ea,hx⟩
   · rcases z9P hy with ⟨eb,rfl⟩ | ⟨eb,hy⟩
     · refine ⟨fun _=>by omega,fun _=>⟨fun e=>?_,fun _=>by omega⟩⟩
       have:(lines.length:Int)+1=o.call:=e;omega
     · have i2:=hin y (List.mem_of_getElem? hy)
       refine ⟨fun e=>?_,fun _=>⟨fun e=>?_,fun e=>?_⟩⟩
       · have:=(ih j b o y hj hy).1 e;omega
       · have:(lines.length:Int)+1=y.call:=e;omega
       · have e':(lines.length:Int)+1=y.ret:=e
         have:=i2.2.2.1 (by omega);omega
   · have i1:=hin x (List.mem_of_getElem? hx)
     rcases z9P hy with ⟨eb,rfl⟩ | ⟨eb,hy⟩
     · refine ⟨fun e=>?_,fun hz=>⟨fun e=>?_,fun e=>?_⟩⟩
       · have:=(ih a j x o hx hj).1 e;omega
       · exact ((ih a j x o hx hj).2 hz).1 e
       · have e':x.ret=(lines.length:Int)+1:=e
         have:=i1.2.2.1 hz;omega
     · exact ih a b x y hx hy
theorem Tells.gives {i:Nat} (hi:i < 5) {ops:List OpV} {lines:List (List UInt8)} (h:Tells i ops lines):∀ o∈ops,(∃ k,k < opN i∧o.name=opS i k)∧small o.arg∧small o.exp∧(o.ret=0→o.vk=0∧o.vn=0)∧(o.ret≠0→∀ k,k < opN i→o.name=opS i k→zxk i k o.vk o.vn):=by
 induction h with
 | nil=>simp
 | @call ops lines h cl d hc hf ih=>
   obtain ⟨k,kk,arg,exp,d',q1,q2,q3,q4,q5,q6,q7,q8,q9,_⟩:=zTV i cl ops.length lines.length d
   rw [q7]
   intro o ho
   rcases List.mem_append.1 ho with ho | ho
   · exact ih o ho
   · rw [List.mem_singleton] at ho;subst ho
     exact ⟨⟨k,q1,rfl⟩,q3,q4,fun _=>⟨rfl,rfl⟩,fun hz=>absurd rfl hz⟩
 | @ret ops lines h j k o vk vn d hj hr hk hn hv ih=>
   intro x hx
   rcases List.mem_or_eq_of_mem_set hx with hx | rfl
   · exact ih x hx
   · obtain ⟨h1,h2,h3,_,_⟩:=ih o (List.mem_of_getElem? hj)
     refine ⟨h1,h2,h3,fun hz=>?_,fun _ k' hk' e=>?_⟩
     · have:(lines.length:Int)+1=0:=hz;omega
     · have:=zis hi hk hk' (hn.symm.trans e)
       subst this;exact hv
end Go.Proofs.YtlkidmafomjhgaaGreatDoor.keep
