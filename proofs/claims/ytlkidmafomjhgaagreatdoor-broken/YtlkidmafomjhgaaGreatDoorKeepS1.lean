/- Several texts in one. -/
import Derived.Test.YtlkidmafomjhgaaGreatDoorKeepY
import Derived.Test.YtlkidmafomjhgaaGreatDoorSrchTY
namespace Go.Proofs.YtlkidmafomjhgaaGreatDoor.keep
open Go.RowKit
inductive TellsG (i:Nat):List OpV→List (List UInt8)→Prop
 | nil:TellsG i [] []
 | call {ops:List OpV} {lines:List (List UInt8)} (h:TellsG i ops lines) (k kk:Nat) (id cl:Int) (arg exp:Int) (d:List Int) (hk:k < opN i) (hkk:kk < 3) (h0: -1000000 < id∧id < 1000000) (hc:small cl) (ha:small arg) (he:small exp) (harg:zuE (opS i k)=false→arg=0) (hexp:opS i k≠[99,97,115]→exp=0) (hid:∀ o∈ops,o.id≠id) (hf:∀ o∈ops,o.cl=cl→o.ret≠0):
  TellsG i (ops++[⟨id,cl,opS i k,if zSt i=true then keyS kk else [],arg,exp,(lines.length:Int)+1,0,0,0⟩]) (lines++[(zdF (zSt i) id cl (opS i k) arg exp kk d).1])
 | ret {ops:List OpV} {lines:List (List UInt8)} (h:TellsG i ops lines) (j k:Nat) (o:OpV) (vk vn:Int) (d:List Int) (hj:ops[j]?=some o) (hr:o.ret=0) (hk:k < opN i) (hn:o.name=opS i k) (hv:zXm i k vk vn):TellsG i (ops.set j { o with vk:=vk,vn:=vn,ret:=(lines.length:Int)+1 }) (lines++[(zZ7 o.id vk vn d).1])
theorem TellsG.base {i:Nat} {ops:List OpV} {lines:List (List UInt8)} (h:TellsG i ops lines):uniq ops∧(∀ o∈ops,-1000000 < o.id∧o.id < 1000000)∧ops.length≤lines.length:=by
 induction h with
 | nil=>exact ⟨by unfold uniq;simp,by simp,Nat.le_refl _⟩
 | @call ops lines h k kk id cl arg exp d hk hkk h0 hc ha he harg hexp hid hf ih=>
   refine ⟨?_,?_,by simp;omega⟩
   · unfold uniq at ih ⊢
     rw [List.map_append,List.nodup_append]
     refine ⟨ih.1,by simp,fun a ha' b hb=>?_⟩
     simp at hb
     subst hb
     obtain ⟨o,ho,rfl⟩:=List.mem_map.1 ha'
     exact hid o ho
   · intro o ho
     rcases List.mem_append.1 ho with ho | ho
     · exact ih.2.1 o ho
     · rw [List.mem_singleton] at ho;subst ho;exact h0
 | @ret ops lines h j k o vk vn d hj hr hk hn hv ih=>
   have hjl:=(List.getElem?_eq_some_iff.1 hj).1
   refine ⟨?_,?_,by simp;omega⟩
   · unfold uniq at ih ⊢
     rw [List.map_set]
     have e:(ops.map (·.id)).set j o.id=ops.map (·.id):=by
      apply List.ext_getElem?
      intro a
      by_cases ea:j=a
      · subst ea
        rw [List.getElem?_set_self (by simpa using hjl),List.getElem?_map,hj];rfl
      · rw [List.getElem?_set_ne ea]
     rw [e];exact ih.1
   · intro x hx
     rcases List.mem_or_eq_of_mem_set hx with hx | rfl
     · exact ih.2.1 x hx
     · exact ih.2.1 o (List.mem_of_getElem? hj)
theorem z58 (i:Nat) (hi:i < 5) {ops:List OpV} {lines:List (List UInt8)} (h:TellsG i ops lines) (hl:lines.length≤128):
 (∀ l∈lines,nn l∧l≠[])∧rd (modS i) lines 0 []=some ops:=by
 induction h with
 | nil=>exact ⟨by simp,rfl⟩
 | @call ops lines h k kk id cl arg exp d hk hkk h0 hc ha he harg hexp hid hf ih=>
   have hl':lines.length+1≤128:=by simpa using hl
   obtain ⟨h1,h4⟩:=ih (by omega)
   obtain ⟨e1,e2,e3⟩:=zJ0 i k hi hk id cl kk hkk _ arg exp d h0.1 h0.2 hc ha he rfl harg hexp ops hid hf ((lines.length:Int)+1)
   refine ⟨?_,?_⟩
   · intro l hl
     rcases List.mem_append.1 hl with hl | hl
     · exact h1 l hl
     · simp at hl;subst hl;exact ⟨e2,e3⟩
   · rw [zlq,h4]
     show rd (modS i) [_] (0+lines.length) ops=_
     rw [rd,Nat.zero_add,e1]
     rfl
 | @ret ops lines h j k o vk vn d hj hr hk hn hv ih=>
   have hl':lines.length+1≤128:=by simpa using hl
   obtain ⟨h1,h4⟩:=ih (by omega)
   obtain ⟨hu,hb,_⟩:=h.base
   have hoid:=hb o (List.mem_of_getElem? hj)
   obtain ⟨e1,e2,e3⟩:=z3n i k hi hk vk vn hv d ops hu j o hj hr hn hoid.1 hoid.2 ((lines.length:Int)+1)
   refine ⟨?_,?_⟩
   · intro l hl
     rcases List.mem_append.1 hl with hl | hl
     · exact h1 l hl
     · simp at hl;subst hl;exact ⟨e2,e3⟩
   · rw [zlq,h4]
     show rd (modS i) [_] (0+lines.length) ops=_
     rw [rd,Nat.zero_add,e1]
     rfl
def againO (F C:Int→Int) (V:Int→Int×Int) (o:OpV):OpV:={ o with id:=F o.id,cl:=C o.cl,vk:=if o.ret=0 then o.vk else (V o.id).1,vn:=if o.ret=0 then o.vn else (V o.id).2 }
theorem Tells.lines_in {i:Nat} {ops:List OpV} {lines:List (List UInt8)} (h:Tells i ops lines):∀ o∈ops,1≤o.call∧o.call≤(lines.length:Int)∧(o.ret≠0→1≤o.ret∧o.ret≤(lines.length:Int))∧ -1≤o.cl∧o.cl≤1:=by
 induction h with
 | nil=>simp
 | @call ops lines h cl d hc hf ih=>
   obtain ⟨k,kk,arg,exp,d',q1,q2,q3,q4,q5,q6,q7,q8,q9,_⟩:=zTV i cl ops.length lines.length d
   intro o ho
   rw [List.length_append,List.length_singleton]
   rcases List.mem_append.1 ho with ho | ho
   · have:=ih o ho
     refine ⟨this.1,by omega,fun hz=>?_,this.2.2.2⟩
     have:=this.2.2.1 hz
     omega
   · rw [List.mem_singleton,q7] at ho
     subst ho
     refine ⟨by show 1≤(lines.length:Int)+1;omega,by show (lines.length:Int)+1≤_;omega,fun hz=>absurd rfl hz,hc⟩
 | @ret ops lines h j k o vk vn d hj hr hk hn hv ih=>
   intro x hx
   rw [List.length_append,List.length_singleton]
   rcases List.mem_or_eq_of_mem_set hx with hx | rfl
   · have:=ih x hx
     refine ⟨this.1,by omega,fun hz=>?_,this.2.2.2⟩
     have:=this.2.2.1 hz
     omega
   · have:=ih o (List.mem_of_getElem? hj)
     refine ⟨this.1,by show o.call≤_;omega,fun _=>⟨by show 1≤(lines.length:Int)+1;omega,by show (lines.length:Int)+1≤_;omega⟩,this.2.2.2⟩
theorem zoh (i:Nat) (F C:Int→Int) (V:Int→Int×Int) (hF:∀ a b,F a=F b→a=b) (hFs:∀ n:Int,-20≤n∧n≤1000→ -1000000 < F n∧F n < 1000000) (hC:∀ a b,C a=C b→a=b) (hCs:∀ c,-1≤c∧c≤1→small (C c))
 {ops:List OpV} {lines:List (List UInt8)} (h:Tells i ops lines):∀ (lines2:List (List UInt8)),lines.length≤128→lines2.length=lines.length→
 (∀ (j:Nat) (o:OpV),ops[j]?=some o→∀ kk,kk < 3→(o.key=if zSt i=true then keyS kk else [])→(zSt i=false→kk=0)→∃ d,lines2[(o.call - 1).toNat]?=some (zdF (zSt i) (F o.id) (C o.cl) o.name o.arg o.exp kk d).1)→
 (∀ (j:Nat) (o:OpV),ops[j]?=some o→o.ret≠0→∃ d,lines2[(o.ret - 1).toNat]?=some (zZ7 (F o.id) (V o.id).1 (V o.id).2 d).1)→
 (∀ (j:Nat) (o:OpV),ops[j]?=some o→o.ret≠0→∀ k,k < opN i→o.name=opS i k→zXm i k (V o.id).1 (V o.id).2)→
 TellsG i (ops.map (againO F C V)) lines2:=by
 induction h with
 | nil=>
   intro lines2 _ hl _ _ _
   have:=List.eq_nil_of_length_eq_zero hl
   subst this
   exact .nil
 | @call ops lines h cl d hc hf ih=>
   intro lines2 h128 hl hcall hret hgive
   have hids:=h.ids
   have hin:=h.lines_in
   have hlen:=h.len
   obtain ⟨k,kk,arg,exp,d',q1,q2,q3,q4,q5,q6,q7,q8,q9,q10⟩:=zTV i cl ops.length lines.length d
   rw [q7] at hcall hret hgive ⊢
   simp only [List.length_append,List.length_singleton] at hl h128
   rcases List.eq_nil_or_concat lines2 with rfl | ⟨l2,last,rfl⟩
   · simp at hl
   · rw [List.concat_eq_append] at hl hcall hret ⊢
     have hl2:l2.length=lines.length:=by simpa using hl
     have hold:∀ (j:Nat) (o:OpV),ops[j]?=some o→(ops++[(⟨7*(ops.length:Int) - 20,cl,opS i k,if zSt i=true then keyS kk else [],arg,exp,(lines.length:Int)+1,0,0,0⟩:OpV)])[j]?=some o:=fun j o hj=>by rw [List.getElem?_append_left (List.getElem?_eq_some_iff.1 hj).1];exact hj
     have ih':=ih l2 (by omega) hl2
      (fun j o hj kq hkq e1 e2=>by
       obtain ⟨dd,hdd⟩:=hcall j o (hold j o hj) kq hkq e1 e2
       have:=hin o (List.mem_of_getElem? hj)
       rw [List.getElem?_append_left (by omega)] at hdd
       exact ⟨dd,hdd⟩)
      (fun j o hj hz=>by
       obtain ⟨dd,hdd⟩:=hret j o (hold j o hj) hz
       have:=(hin o (List.mem_of_getElem? hj)).2.2.1 hz
       rw [List.getElem?_append_left (by omega)] at hdd
       exact ⟨dd,hdd⟩)
      (fun j o hj=>hgive j o (hold j o hj))
     obtain ⟨dd,hdd⟩:=hcall ops.length _ (by rw [List.getElem?_append_right (Nat.le_refl _),Nat.sub_self];rfl) kk q2 rfl q10
     dsimp only at hdd
     rw [show ((lines.length:Int)+1 - 1).toNat=l2.length by omega,List.getElem?_append_right (Nat.le_refl _),Nat.sub_self] at hdd
     simp at hdd
     subst hdd
     rw [List.map_append]
     have hnew:=TellsG.call ih' k kk (F (7*(ops.length:Int) - 20)) (C cl) arg exp dd q1 q2 (hFs _ ⟨by omega,by omega⟩) (hCs cl hc) q3 q4 q5 q6
      (fun o ho e=>by
       obtain ⟨x,hx,rfl⟩:=List.mem_map.1 ho
       obtain ⟨j,hj⟩:=List.mem_iff_getElem?.1 hx
       have h1:=hF _ _ (show F x.id=F (7*(ops.length:Int) - 20) from e)
       have h2:=hids j x hj
       have h3:=(List.getElem?_eq_some_iff.1 hj).1
       omega)
      (fun o ho e=>by
       obtain ⟨x,hx,rfl⟩:=List.mem_map.1 ho
       exact hf x hx (hC _ _ (show C x.cl=C cl from e)))
     rw [hl2] at hnew
     exact hnew
 | @ret ops lines h j k o vk vn d hj hr hk hn hv ih=>
   intro lines2 h128 hl hcall hret hgive
   have hids:=h.ids
   have hin:=h.lines_in
   have hjl:=(List.getElem?_eq_some_iff.1 hj).1
   simp only [List.length_append,List.length_singleton] at hl h128
   rcases List.eq_nil_or_concat lines2 with rfl | ⟨l2,last,rfl⟩
   · simp at hl
   · rw [List.concat_eq_append] at hl hcall hret ⊢
     have hl2:l2.length=lines.length:=by simpa using hl
     have hset:∀ (a:Nat) (x:OpV),ops[a]?=some x→a≠j→(ops.set j { o with vk:=vk,vn:=vn,ret:=(lines.length:Int)+1 })[a]?=some x:=fun a x ha hne=>by rw [List.getElem?_set_ne (fun e=>hne e.symm)];exact ha
     have hself:(ops.set j { o with vk:=vk,vn:=vn,ret:=(lines.length:Int)+1 })[j]?=some { o with vk:=vk,vn:=vn,ret:=(lines.length:Int)+1 }:=by rw [List.getElem?_set_self hjl]
     have ih':=ih l2 (by omega) hl2
      (fun a x ha kq hkq e1 e2=>by
       have hx:=hin x (List.mem_of_getElem? ha)
       by_cases e:a=j
       · subst e
         rw [hj] at ha
         injection ha with ha
         subst ha
         obtain ⟨dd,hdd⟩:=hcall a _ hself kq hkq e1 e2
         dsimp only at hdd
         rw [List.getElem?_append_left (by omega)] at hdd
         exact ⟨dd,hdd⟩
       · obtain ⟨dd,hdd⟩:=hcall a x (hset a x ha e) kq hkq e1 e2
         rw [List.getElem?_append_left (by omega)] at hdd
         exact ⟨dd,hdd⟩)
      (fun a x ha hz=>by
       by_cases e:a=j
       · subst e;rw [hj] at ha;injection ha with ha;subst ha;exact absurd hr hz
       · obtain ⟨dd,hdd⟩:=hret a x (hset a x ha e) hz
         have:=(hin x (List.mem_of_getElem? ha)).2.2.1 hz
         rw [List.getElem?_append_left (by omega)] at hdd
         exact ⟨dd,hdd⟩)
      (fun a x ha hz=>by
       by_cases e:a=j
       · subst e;rw [hj] at ha;injection ha with ha;subst ha;exact absurd hr hz
       · exact hgive a x (hset a x ha e) hz)
     have hz:((lines.length:Int)+1)≠0:=by omega
     obtain ⟨dd,hdd⟩:=hret j _ hself hz
     dsimp only at hdd
     rw [show ((lines.length:Int)+1 - 1).toNat=l2.length by omega,List.getElem?_append_right (Nat.le_refl _),Nat.sub_self] at hdd
     simp at hdd
     subst hdd
     have hg:=hgive j _ hself hz k hk hn
     dsimp only at hg
     have hnew:=TellsG.ret ih' j k (againO F C V o) (V o.id).1 (V o.id).2 dd (by rw [List.getElem?_map,hj];rfl) (by show o.ret=0;exact hr) hk hn hg
     rw [hl2] at hnew
     rw [List.map_set]
     have e:againO F C V { o with vk:=vk,vn:=vn,ret:=(lines.length:Int)+1 }={ againO F C V o with vk:=(V o.id).1,vn:=(V o.id).2,ret:=(lines.length:Int)+1 }:=by
      unfold againO
      simp only [if_neg hz]
     rw [e]
     exact hnew
theorem zkM (i:Nat) {ops:List OpV} {lines:List (List UInt8)} (h:TellsG i ops lines):∀ l∈lines,l.length≤1000:=by
 induction h with
 | nil=>simp
 | @call ops lines h k kk id cl arg exp d hk hkk h0 hc ha he harg hexp hid hf ih=>
   intro l hl
   rcases List.mem_append.1 hl with hl | hl
   · exact ih l hl
   · rw [List.mem_singleton] at hl;subst hl;exact zxL _ id cl i k arg exp kk d h0.1 h0.2 hc ha he
 | @ret ops lines h j k o vk vn d hj hr hk hn hv ih=>
   intro l hl
   rcases List.mem_append.1 hl with hl | hl
   · exact ih l hl
   · rw [List.mem_singleton] at hl;subst hl
     have:=(h.base).2.1 o (List.mem_of_getElem? hj)
     exact zZa o.id vk vn d this.1 this.2 (z3e hv)
theorem zGe (i:Nat) (hi:i < 5) {ops:List OpV} {lines:List (List UInt8)} (h:TellsG i ops lines) (hl:lines.length≤128):z8w (modS i) (zhe lines)=.inl ops∧(zhe lines).length≤1001*lines.length:=by
 obtain ⟨h1,h2⟩:=z58 i hi h hl
 exact ⟨zHY _ lines 129 0 [] ops h1 (by omega) h2,zvL lines (zkM i h)⟩
theorem Tells.open_few {i:Nat} {ops:List OpV} {lines:List (List UInt8)} (h:Tells i ops lines):lines.length+(ops.filter (fun o=>o.ret == 0)).length=2*ops.length∧((ops.filter (fun o=>o.ret == 0)).map (·.cl)).Nodup:=by
 induction h with
 | nil=>exact ⟨rfl,by simp⟩
 | @call ops lines h cl d hc hf ih=>
   obtain ⟨k,kk,arg,exp,d',q1,q2,q3,q4,q5,q6,q7,q8,q9,_⟩:=zTV i cl ops.length lines.length d
   rw [q7,List.filter_append]
   have e:([(⟨7*(ops.length:Int) - 20,cl,opS i k,if zSt i=true then keyS kk else [],arg,exp,(lines.length:Int)+1,0,0,0⟩:OpV)].filter (fun o=>o.ret == 0))=[⟨7*(ops.length:Int) - 20,cl,opS i k,if zSt i=true then keyS kk else [],arg,exp,(lines.length:Int)+1,0,0,0⟩]:=by simp
   rw [e]
   refine ⟨by simp;omega,?_⟩
   rw [List.map_append,List.nodup_append]
   refine ⟨ih.2,by simp,fun a ha b hb=>?_⟩
   simp at hb
   subst hb
   obtain ⟨o,ho,rfl⟩:=List.mem_map.1 ha
   obtain ⟨ho1,ho2⟩:=List.mem_filter.1 ho
   intro e2
   exact hf o ho1 e2 (by simpa using ho2)
 | @ret ops lines h j k o vk vn d hj hr hk hn hv ih=>
   have hjl:=(List.getElem?_eq_some_iff.1 hj).1
   have e1:ops=ops.take j++o::ops.drop (j+1):=by
    have:ops[j]=o:=(List.getElem?_eq_some_iff.1 hj).2
    rw [←this,List.getElem_cons_drop,List.take_append_drop]
   have e2:ops.set j { o with vk:=vk,vn:=vn,ret:=(lines.length:Int)+1 }=ops.take j++{ o with vk:=vk,vn:=vn,ret:=(lines.length:Int)+1 }::ops.drop (j+1):=List.set_eq_take_append_cons_drop.trans (by rw [if_pos hjl])
   have hz:(((lines.length:Int)+1 == 0))=false:=by simp;omega
   have f1:ops.filter (fun o=>o.ret == 0)=(ops.take j).filter (fun o=>o.ret == 0)++o::(ops.drop (j+1)).filter (fun o=>o.ret == 0):=by
    conv=>lhs;rw [e1]
    rw [List.filter_append,List.filter_cons]
    simp [hr]
   have f2:(ops.set j { o with vk:=vk,vn:=vn,ret:=(lines.length:Int)+1 }).filter (fun o=>o.ret == 0)=(ops.take j).filter (fun o=>o.ret == 0)++(ops.drop (j+1)).filter (fun o=>o.ret == 0):=by
    rw [e2,List.filter_append,List.filter_cons]
    simp [hz]
   rw [f2]
   obtain ⟨h1,h2⟩:=ih
   rw [f1] at h1 h2
   simp only [List.length_append,List.length_cons,List.length_set,List.length_nil] at h1 ⊢
   refine ⟨by omega,?_⟩
   rw [List.map_append,List.map_cons] at h2
   rw [List.map_append]
   exact h2.sublist (List.Sublist.append (List.Sublist.refl _) (List.sublist_cons_self _ _))
theorem Tells.few {i:Nat} {ops:List OpV} {lines:List (List UInt8)} (h:Tells i ops lines) (hl:lines.length≤18):ops.length≤10:=by
 obtain ⟨h1,h2⟩:=h.open_few
 have h3:=srch.nodup_sub _ [-1,0,1] h2 (fun x hx=>by
  obtain ⟨o,ho,rfl⟩:=List.mem_map.1 hx
  have:=(h.lines_in o (List.mem_filter.1 ho).1).2.2.2
  have h4:o.cl= -1∨o.cl=0∨o.cl=1:=by omega
  rcases h4 with e | e | e <;> simp [e])
 rw [List.length_map] at h3
 simp only [List.length_cons,List.length_nil] at h3
 omega
end Go.Proofs.YtlkidmafomjhgaaGreatDoor.keep
namespace Go.Proofs.YtlkidmafomjhgaaGreatDoor.keep
open Go.RowKit
open srch (zsN renO zkp)
theorem z7v {α:Type} {l:List α} {v x:α} {a:Nat} (h:(l++[v])[a]?=some x):l[a]?=some x∨(a=l.length∧x=v):=by
 by_cases hl:a < l.length
 · rw [List.getElem?_append_left hl] at h;exact .inl h
 · rw [List.getElem?_append_right (by omega)] at h
   have h0:a - l.length=0:=by have:=(List.getElem?_eq_some_iff.1 h).1;simp at this;omega
   rw [h0] at h;simp at h
   exact .inr ⟨by omega,h.symm⟩
theorem z9P {α:Type} {l:List α} {v x:α} {a j:Nat} (h:(l.set j v)[a]?=some x):(a=j∧x=v)∨(a≠j∧l[a]?=some x):=by
 by_cases e:j=a
 · subst e
   have hl:j < l.length:=by have:=(List.getElem?_eq_some_iff.1 h).1;simpa using this
   rw [List.getElem?_set_self hl] at h
   injection h with h
   exact .inl ⟨rfl,h.symm⟩
 · rw [List.getElem?_set_ne e] at h;exact .inr ⟨fun h=>e h.symm,h⟩
theorem zis {i k k':Nat} (hi:i < 5) (h:k < opN i) (h':k' < opN i) (e:opS i k=opS i k'):k=k':=by
 have hN:opN i≤3:=by unfold opN;split <;> omega
 obtain rfl | rfl | rfl | rfl | rfl:i=0∨i=1∨i=2∨i=3∨i=4:=by omega
 all_goals
  obtain rfl | rfl | rfl:k=0∨k=1∨k=2:=by omega
  all_goals
   obtain rfl | rfl | rfl:k'=0∨k'=1∨k'=2:=by omega
   all_goals first | rfl | (revert e;decide) | (revert h;decide) | (revert h';decide)
theorem zpF {k k':Nat} (h:k < 3) (h':k' < 3) (e:keyS k=keyS k'):k=k':=by
 obtain rfl | rfl | rfl:k=0∨k=1∨k=2:=by omega
 all_goals
  obtain rfl | rfl | rfl:k'=0∨k'=1∨k'=2:=by omega
  all_goals first | rfl | (revert e;decide)
theorem Tells.apart {i:Nat} {ops:List OpV} {lines:List (List UInt8)} (h:Tells i ops lines):∀ (a b:Nat) (x y:OpV),ops[a]?=some x→ops[b]?=some y→(x.call=y.call→a=b)∧(x.ret≠0→x.ret≠y.call∧(x.ret=y.ret→a=b)):=by
 induction h with
 | nil=>intro a b x y hx;simp at hx
 | @call ops lines h cl d hc hf ih=>
   have hin:=h.lines_in
   obtain ⟨k,kk,arg,exp,d',q1,q2,q3,q4,q5,q6,q7,q8,q9,_⟩:=zTV i cl ops.length lines.length d
   rw [q7]
   intro a b x y hx hy
   rcases z7v hx with hx | ⟨ea,rfl⟩
   · have i1:=hin x (List.mem_of_getElem? hx)
     rcases z7v hy with hy | ⟨eb,rfl⟩
     · exact ih a b x y hx hy
     · refine ⟨fun e=>?_,fun hz=>⟨fun e=>?_,fun e=>?_⟩⟩
       · have:x.call=(lines.length:Int)+1:=e;omega
       · have:x.ret=(lines.length:Int)+1:=e;have:=i1.2.2.1 hz;omega
       · have:x.ret=0:=e;omega
   · rcases z7v hy with hy | ⟨eb,rfl⟩
     · have i2:=hin y (List.mem_of_getElem? hy)
       refine ⟨fun e=>?_,fun hz=>absurd rfl hz⟩
       have:(lines.length:Int)+1=y.call:=e;omega
     · exact ⟨fun _=>by omega,fun hz=>absurd rfl hz⟩
 | @ret ops lines h j k o vk vn d hj hr hk hn hv ih=>
   have hin:=h.lines_in
   have io:=hin o (List.mem_of_getElem? hj)
   intro a b x y hx hy
   rcases z9P hx with ⟨ea,rfl⟩ | ⟨ea,hx⟩
   · rcases z9P hy with ⟨eb,rfl⟩ | ⟨eb,hy⟩
     · refine ⟨fun _=>by omega,fun _=>⟨fun e=>?_,fun _=>by omega⟩⟩
       have:(lines.length:Int)+1=o.call:=e;omega
     · have i2:=hin y (List.mem_of_getElem? hy)
       refine ⟨fun e=>?_,fun _=>⟨fun e=>?_,fun e=>?_⟩⟩
       · have:=(ih j b o y hj hy).1 e;omega
       · have:(lines.length:Int)+1=y.call:=e;omega
       · have e':(lines.length:Int)+1=y.ret:=e
         have:=i2.2.2.1 (by omega);omega
   · have i1:=hin x (List.mem_of_getElem? hx)
     rcases z9P hy with ⟨eb,rfl⟩ | ⟨eb,hy⟩
     · refine ⟨fun e=>?_,fun hz=>⟨fun e=>?_,fun e=>?_⟩⟩
       · have:=(ih a j x o hx hj).1 e;omega
       · exact ((ih a j x o hx hj).2 hz).1 e
       · have e':x.ret=(lines.length:Int)+1:=e
         have:=i1.2.2.1 hz;omega
     · exact ih a b x y hx hy
theorem Tells.gives {i:Nat} (hi:i < 5) {ops:List OpV} {lines:List (List UInt8)} (h:Tells i ops lines):∀ o∈ops,(∃ k,k < opN i∧o.name=opS i k)∧small o.arg∧small o.exp∧(o.ret=0→o.vk=0∧o.vn=0)∧(o.ret≠0→∀ k,k < opN i→o.name=opS i k→zxk i k o.vk o.vn):=by
 induction h with
 | nil=>simp
 | @call ops lines h cl d hc hf ih=>
   obtain ⟨k,kk,arg,exp,d',q1,q2,q3,q4,q5,q6,q7,q8,q9,_⟩:=zTV i cl ops.length lines.length d
   rw [q7]
   intro o ho
   rcases List.mem_append.1 ho with ho | ho
   · exact ih o ho
   · rw [List.mem_singleton] at ho;subst ho
     exact ⟨⟨k,q1,rfl⟩,q3,q4,fun _=>⟨rfl,rfl⟩,fun hz=>absurd rfl hz⟩
 | @ret ops lines h j k o vk vn d hj hr hk hn hv ih=>
   intro x hx
   rcases List.mem_or_eq_of_mem_set hx with hx | rfl
   · exact ih x hx
   · obtain ⟨h1,h2,h3,_,_⟩:=ih o (List.mem_of_getElem? hj)
     refine ⟨h1,h2,h3,fun hz=>?_,fun _ k' hk' e=>?_⟩
     · have:(lines.length:Int)+1=0:=hz;omega
     · have:=zis hi hk hk' (hn.symm.trans e)
       subst this;exact hv
theorem Tells.lines_are {i:Nat} {ops:List OpV} {lines:List (List UInt8)} (h:Tells i ops lines):∀ (j:Nat) (o:OpV),ops[j]?=some o→
 (∀ kk,kk < 3→(o.key=if zSt i=true then keyS kk else [])→(zSt i=false→kk=0)→∃ d,lines[(o.call - 1).toNat]?=some (zdF (zSt i) o.id o.cl o.name o.arg o.exp kk d).1)∧
 (o.ret≠0→∃ d,lines[(o.ret - 1).toNat]?=some (zZ7 o.id o.vk o.vn d).1):=by
 induction h with
 | nil=>intro j o hj;simp at hj
 | @call ops lines h cl d hc hf ih=>
   have hin:=h.lines_in
   obtain ⟨k,kk,arg,exp,d',q1,q2,q3,q4,q5,q6,q7,q8,q9,q10⟩:=zTV i cl ops.length lines.length d
   rw [q7,q8]
   intro j o hj
   rcases z7v hj with hj | ⟨ej,rfl⟩
   · have i1:=hin o (List.mem_of_getElem? hj)
     obtain ⟨p1,p2⟩:=ih j o hj
     refine ⟨fun kq h1 h2 h3=>?_,fun hz=>?_⟩
     · obtain ⟨dd,e⟩:=p1 kq h1 h2 h3
       exact ⟨dd,by rw [List.getElem?_append_left (by omega)];exact e⟩
     · obtain ⟨dd,e⟩:=p2 hz
       have:=i1.2.2.1 hz
       exact ⟨dd,by rw [List.getElem?_append_left (by omega)];exact e⟩
   · refine ⟨fun kq h1 h2 h3=>⟨d',?_⟩,fun hz=>absurd rfl hz⟩
     have ek:kq=kk:=by
      cases hkd:zSt i with
      | false=>rw [h3 hkd,q10 hkd]
      | true=>
        have h2':(if zSt i=true then keyS kk else [])=if zSt i=true then keyS kq else []:=h2
        rw [if_pos hkd,if_pos hkd] at h2'
        exact zpF h1 q2 h2'.symm
     subst ek
     show (lines++[_])[((lines.length:Int)+1 - 1).toNat]?=_
     rw [show ((lines.length:Int)+1 - 1).toNat=lines.length by omega,List.getElem?_append_right (Nat.le_refl _),Nat.sub_self]
     rfl
 | @ret ops lines h j k o vk vn d hj hr hk hn hv ih=>
   have hin:=h.lines_in
   intro a x hx
   rcases z9P hx with ⟨ea,rfl⟩ | ⟨ea,hx⟩
   · have io:=hin o (List.mem_of_getElem? hj)
     obtain ⟨p1,_⟩:=ih j o hj
     refine ⟨fun kq h1 h2 h3=>?_,fun hz=>⟨d,?_⟩⟩
     · obtain ⟨dd,e⟩:=p1 kq h1 h2 h3
       exact ⟨dd,by show (lines++[_])[(o.call - 1).toNat]?=_;rw [List.getElem?_append_left (by omega)];exact e⟩
     · show (lines++[_])[((lines.length:Int)+1 - 1).toNat]?=_
       rw [show ((lines.length:Int)+1 - 1).toNat=lines.length by omega,List.getElem?_append_right (Nat.le_refl _),Nat.sub_self]
       rfl
   · have i1:=hin x (List.mem_of_getElem? hx)
     obtain ⟨p1,p2⟩:=ih a x hx
     refine ⟨fun kq h1 h2 h3=>?_,fun hz=>?_⟩
     · obtain ⟨dd,e⟩:=p1 kq h1 h2 h3
       exact ⟨dd,by rw [List.getElem?_append_left (by omega)];exact e⟩
     · obtain ⟨dd,e⟩:=p2 hz
       have:=i1.2.2.1 hz
       exact ⟨dd,by rw [List.getElem?_append_left (by omega)];exact e⟩
def z2F (name:List UInt8) (vk vn:Int):Int×Int:=if vk=2 then (2,1 - vn) else if vk=1 then (1,vn+1) else if name=[103,101,116]∨name=[100,101,113] then (1,5) else (vk,vn)
theorem zY5 {i k:Nat} (hk:k < opN i) {vk vn:Int} (h:zxk i k vk vn):zXm i k (z2F (opS i k) vk vn).1 (z2F (opS i k) vk vn).2:=by
 have hI:zio vk vn→intW (z2F (opS i k) vk vn).1 (z2F (opS i k) vk vn).2:=by
  rintro ⟨rfl,s1,s2⟩
  have e:z2F (opS i k) 1 vn=(1,vn+1):=rfl
  rw [e];exact ⟨rfl,by show -1000000 < vn+1;omega,by show vn+1 < 1000000;omega⟩
 have hB:zKe vk vn→zKe (z2F (opS i k) vk vn).1 (z2F (opS i k) vk vn).2:=by
  rintro ⟨rfl,rfl | rfl⟩
  · exact ⟨rfl,.inr rfl⟩
  · exact ⟨rfl,.inl rfl⟩
 have hG:opS i k=[103,101,116]∨opS i k=[100,101,113]→zf6 vk vn→intW (z2F (opS i k) vk vn).1 (z2F (opS i k) vk vn).2:=by
  intro hn
  rintro ⟨rfl,rfl⟩
  have e:z2F (opS i k) 0 0=(1,5):=by unfold z2F;rw [if_neg (by decide),if_neg (by decide),if_pos hn]
  rw [e];exact ⟨rfl,by decide,by decide⟩
 have hN:¬ (opS i k=[103,101,116]∨opS i k=[100,101,113])→zf6 vk vn→zf6 (z2F (opS i k) vk vn).1 (z2F (opS i k) vk vn).2:=by
  intro hn
  rintro ⟨rfl,rfl⟩
  have e:z2F (opS i k) 0 0=(0,0):=by unfold z2F;rw [if_neg (by decide),if_neg (by decide),if_neg hn]
  rw [e];exact ⟨rfl,rfl⟩
 match i,k,h with
 | 0,0,h=>exact hI h
 | 0,1,h=>exact hN (by decide) h
 | 0,(_+2),h=>exact hB h
 | 1,0,h=>exact .inl (h.elim hI (hG (by decide)))
 | 1,1,h=>exact hN (by decide) h
 | 1,(_+2),h=>exact hB h
 | 2,0,h=>exact hN (by decide) h
 | 2,(n+1),h=>exact .inl (h.elim hI (hG (.inr rfl)))
 | (_+3),_,h=>exact hB h
def twO (ops:List OpV) (k:Nat) (o:OpV):List OpV:=ops.set k { o with vk:=(z2F o.name o.vk o.vn).1,vn:=(z2F o.name o.vk o.vn).2 }
def twL (lines:List (List UInt8)) (o:OpV):List (List UInt8):=lines.set (o.ret - 1).toNat (zZ7 o.id (z2F o.name o.vk o.vn).1 (z2F o.name o.vk o.vn).2 []).1
def Turned (ops0 ops:List OpV) (lines0 lines:List (List UInt8)):Prop:=(ops=ops0∧lines=lines0)∨∃ k o,ops0[k]?=some o∧o.ret≠0∧ops=twO ops0 k o∧lines=twL lines0 o
def zup (ops:List OpV) (n:Int):Int×Int:=match ops[((n+20) / 7).toNat]? with | some o=>(o.vk,o.vn) | none=>(0,0)
theorem Turned.form {i:Nat} (hi:i < 5) {ops0 ops:List OpV} {lines0 lines:List (List UInt8)} (h:Tells i ops0 lines0) (t:Turned ops0 ops lines0 lines):
 lines.length=lines0.length∧ops.length=ops0.length∧(∀ (j:Nat) (o:OpV),ops0[j]?=some o→∃ vk vn,ops[j]?=some { o with vk:=vk,vn:=vn }∧(o.ret=0→vk=o.vk∧vn=o.vn)∧(o.ret≠0→(∀ k,k < opN i→o.name=opS i k→zXm i k vk vn)∧∃ d,lines[(o.ret - 1).toNat]?=some (zZ7 o.id vk vn d).1)∧
  (∀ kk,kk < 3→(o.key=if zSt i=true then keyS kk else [])→(zSt i=false→kk=0)→∃ d,lines[(o.call - 1).toNat]?=some (zdF (zSt i) o.id o.cl o.name o.arg o.exp kk d).1)):=by
 have hla:=h.lines_are
 have hgi:=h.gives hi
 rcases t with ⟨rfl,rfl⟩ | ⟨k,o1,hk,hz,rfl,rfl⟩
 · refine ⟨rfl,rfl,fun j o hj=>⟨o.vk,o.vn,hj,fun _=>⟨rfl,rfl⟩,fun hz=>⟨fun k hk hn=>z9q ((hgi o (List.mem_of_getElem? hj)).2.2.2.2 hz k hk hn),(hla j o hj).2 hz⟩,(hla j o hj).1⟩⟩
 · have hkl:=(List.getElem?_eq_some_iff.1 hk).1
   have hin:=h.lines_in
   have i1:=hin o1 (List.mem_of_getElem? hk)
   have i1r:=i1.2.2.1 hz
   refine ⟨by unfold twL;simp,by unfold twO;simp,fun j o hj=>?_⟩
   have hap:=h.apart j k o o1 hj hk
   have hap':=h.apart k j o1 o hk hj
   have i2:=hin o (List.mem_of_getElem? hj)
   have hcall:∀ kk,kk < 3→(o.key=if zSt i=true then keyS kk else [])→(zSt i=false→kk=0)→∃ d,(twL lines0 o1)[(o.call - 1).toNat]?=some (zdF (zSt i) o.id o.cl o.name o.arg o.exp kk d).1:=by
    intro kk h1 h2 h3
    obtain ⟨d,e⟩:=(hla j o hj).1 kk h1 h2 h3
    refine ⟨d,?_⟩
    unfold twL
    rw [List.getElem?_set_ne (by have:=(hap'.2 hz).1;omega)]
    exact e
   by_cases e:j=k
   · subst e
     rw [hk] at hj
     injection hj with hj
     subst hj
     refine ⟨(z2F o1.name o1.vk o1.vn).1,(z2F o1.name o1.vk o1.vn).2,by unfold twO;rw [List.getElem?_set_self hkl],fun h0=>absurd h0 hz,fun _=>⟨fun k hk' hn=>?_,[],?_⟩,hcall⟩
     · have:=zY5 hk' ((hgi o1 (List.mem_of_getElem? hk)).2.2.2.2 hz k hk' hn)
       rw [hn];exact this
     · unfold twL
       rw [List.getElem?_set_self (by omega)]
   · refine ⟨o.vk,o.vn,by unfold twO;rw [List.getElem?_set_ne (fun h=>e h.symm)];exact hj,fun _=>⟨rfl,rfl⟩,fun hz'=>⟨fun k hk hn=>z9q ((hgi o (List.mem_of_getElem? hj)).2.2.2.2 hz' k hk hn),?_⟩,hcall⟩
     obtain ⟨d,e'⟩:=(hla j o hj).2 hz'
     refine ⟨d,?_⟩
     unfold twL
     rw [List.getElem?_set_ne (by have:=(i2.2.2.1 hz').1;have:=fun h=>e ((hap.2 hz').2 h);omega)]
     exact e'
theorem Turned.again {i:Nat} (hi:i < 5) {ops0 ops:List OpV} {lines0 lines:List (List UInt8)} (h:Tells i ops0 lines0) (t:Turned ops0 ops lines0 lines) (F C:Int→Int) (hF:∀ a b,F a=F b→a=b) (hFs:∀ n:Int,-20≤n∧n≤1000→ -1000000 < F n∧F n < 1000000) (hC:∀ a b,C a=C b→a=b) (hCs:∀ c,-1≤c∧c≤1→small (C c))
 (lines2:List (List UInt8)) (h128:lines0.length≤128) (hl:lines2.length=lines0.length)
 (hcall:∀ (j:Nat) (o:OpV),ops[j]?=some o→∀ kk,kk < 3→(o.key=if zSt i=true then keyS kk else [])→(zSt i=false→kk=0)→∃ d,lines2[(o.call - 1).toNat]?=some (zdF (zSt i) (F o.id) (C o.cl) o.name o.arg o.exp kk d).1)
 (hret:∀ (j:Nat) (o:OpV),ops[j]?=some o→o.ret≠0→∃ d,lines2[(o.ret - 1).toNat]?=some (zZ7 (F o.id) o.vk o.vn d).1):TellsG i (ops.map (renO F C)) lines2:=by
 obtain ⟨f1,f2,f3⟩:=t.form hi h
 have hids:=h.ids
 have hV:∀ (j:Nat) (o:OpV),ops0[j]?=some o→∀ vk vn,ops[j]?=some { o with vk:=vk,vn:=vn }→zup ops o.id=(vk,vn):=by
  intro j o hj vk vn e
  unfold zup
  rw [hids j o hj,show ((7*(j:Int) - 20+20) / 7).toNat=j by omega,e]
 have hr:=zoh i F C (zup ops) hF hFs hC hCs h lines2 h128 hl
  (fun j o hj kk h1 h2 h3=>by
   obtain ⟨vk,vn,e,_⟩:=f3 j o hj
   exact hcall j _ e kk h1 h2 h3)
  (fun j o hj hz=>by
   obtain ⟨vk,vn,e,_⟩:=f3 j o hj
   obtain ⟨d,hd⟩:=hret j _ e hz
   rw [hV j o hj vk vn e]
   exact ⟨d,hd⟩)
  (fun j o hj hz k hk hn=>by
   obtain ⟨vk,vn,e,_,g,_⟩:=f3 j o hj
   rw [hV j o hj vk vn e]
   exact (g hz).1 k hk hn)
 have e:ops0.map (againO F C (zup ops))=ops.map (renO F C):=by
  apply List.ext_getElem?
  intro j
  rw [List.getElem?_map,List.getElem?_map]
  cases hj:ops0[j]? with
  | none=>rw [List.getElem?_eq_none (by rw [f2];exact List.getElem?_eq_none_iff.1 hj)];rfl
  | some o=>
    obtain ⟨vk,vn,e,g0,_⟩:=f3 j o hj
    rw [e]
    simp only [Option.map_some]
    unfold againO renO
    rw [hV j o hj vk vn e]
    by_cases hz:o.ret=0
    · obtain ⟨rfl,rfl⟩:=g0 hz
      simp [hz]
    · simp [hz]
 rw [e] at hr
 exact hr
end Go.Proofs.YtlkidmafomjhgaaGreatDoor.keep
