/- Several texts in one. -/
import Derived.Test.YtlkidmafomjhgaaGreatDoorKeepXa
namespace Go.Proofs.YtlkidmafomjhgaaGreatDoor.keep
open Go.RowKit
open srch (flt LinP ahB zCI stDo zqY lkDo quDo zsN sortedU zMI tI decP)
theorem znt:Sim zCI 0 0 (fun l s=>l=[s]):=by
 refine ⟨rfl,fun l s o k hk hn ha hR=>?_,fun _ _ _ _ _=>rfl⟩
 subst hR
 match k,hk with
 | 0,_=>have hn':o.name=[114,101,97,100]:=hn;simp [zCI,hn',effP]
 | 1,_=>have hn':o.name=[119,114,105,116,101]:=hn;simp [zCI,hn',effP]
 | 2,_=>
   have hn':o.name=[99,97,115]:=hn
   by_cases e:s=o.exp
   · simp [zCI,hn',effP,xCas,e]
   · have e':(s == o.exp)=false:=by simp [e]
     simp [zCI,hn',effP,xCas,e,e']
def RPh (l:List Int) (s:Bool×Int):Prop:=(l=[]∧s=(false,0))∨∃ x,l=[x]∧s=(true,x)
theorem zmr:Sim stDo 1 (false,0) RPh:=by
 refine ⟨Or.inl ⟨rfl,rfl⟩,fun l s o k hk hn ha hR=>?_,fun _ _ _ _ _=>rfl⟩
 match k,hk with
 | 0,_=>
   have hn':o.name=[103,101,116]:=hn
   rcases hR with ⟨rfl,rfl⟩ | ⟨x,rfl,rfl⟩ <;> simp [stDo,hn',effP,xGet,RPh]
 | 1,_=>
   have hn':o.name=[112,117,116]:=hn
   simp [stDo,hn',effP,RPh]
 | 2,_=>
   have hn':o.name=[100,101,108]:=hn
   rcases hR with ⟨rfl,rfl⟩ | ⟨x,rfl,rfl⟩ <;> simp [stDo,hn',effP,xHas,RPh,tI]
theorem z8G:Sim zqY 3 false (fun l s=>s=!l.isEmpty):=by
 refine ⟨rfl,fun l s o k hk hn ha hR=>?_,fun _ _ _ _ _=>rfl⟩
 subst hR
 match k,hk with
 | 0,_=>have hn':o.name=[97,100,100]:=hn;cases l <;> simp [zqY,hn',effP,xNot,tI]
 | 1,_=>have hn':o.name=[114,101,109]:=hn;cases l <;> simp [zqY,hn',effP,xHas,tI]
 | 2,_=>have hn':o.name=[104,97,115]:=hn;cases l <;> simp [zqY,hn',effP,xHas,tI]
theorem zSs:Sim lkDo 4 (false,0) RPh:=by
 refine ⟨Or.inl ⟨rfl,rfl⟩,fun l s o k hk hn ha hR=>?_,fun _ _ _ _ _=>rfl⟩
 match k,hk with
 | 0,_=>
   have hn':o.name=[97,99,113]:=hn
   rcases hR with ⟨rfl,rfl⟩ | ⟨x,rfl,rfl⟩ <;> simp [lkDo,hn',effP,xAcq,RPh]
 | 1,_=>
   have hn':o.name=[114,101,108]:=hn
   rcases hR with ⟨rfl,rfl⟩ | ⟨x,rfl,rfl⟩
   · simp [lkDo,hn',effP,xRel,RPh]
   · by_cases e:x=o.cl
     · simp [lkDo,hn',effP,xRel,RPh,e]
     · have e':(x == o.cl)=false:=by simp [e]
       simp [lkDo,hn',effP,xRel,RPh,e,e']
def jn:List Int→List UInt8
 | []=>[]
 | x::r=>Lib.itoa x++r.flatMap (fun y=>44::Lib.itoa y)
theorem zPA (l:List Int) (a:Int):jn (l++[a])=if l=[] then Lib.itoa a else jn l++[44]++Lib.itoa a:=by
 cases l with
 | nil=>simp [jn]
 | cons x r=>simp [jn,List.flatMap_append]
theorem zit (x:Int) (h: -1≤x∧x≤2) (t:List UInt8):decP (Lib.itoa x)=some x∧Lib.itoa x≠[]∧Lib.cut (Lib.itoa x) [44]=(Lib.itoa x,[],false)∧Lib.cut (Lib.itoa x++44::t) [44]=(Lib.itoa x,t,true):=by
 obtain rfl | rfl | rfl | rfl:x= -1∨x=0∨x=1∨x=2:=by omega
 · rw [show Lib.itoa (-1)=[45,49] by decide +kernel]
   exact ⟨by decide +kernel,by simp,by decide,by simp [Lib.cut,Lib.index]⟩
 · rw [show Lib.itoa 0=[48] by decide +kernel]
   exact ⟨by decide +kernel,by simp,by decide,by simp [Lib.cut,Lib.index]⟩
 · rw [show Lib.itoa 1=[49] by decide +kernel]
   exact ⟨by decide +kernel,by simp,by decide,by simp [Lib.cut,Lib.index]⟩
 · rw [show Lib.itoa 2=[50] by decide +kernel]
   exact ⟨by decide +kernel,by simp,by decide,by simp [Lib.cut,Lib.index]⟩
theorem zYm:Sim quDo 2 [] (fun l s=>s=jn l∧∀ x∈l,-1≤x∧x≤2):=by
 refine ⟨⟨rfl,by simp [zbw]⟩,fun l s o k hk hn ha hR=>?_,fun _ _ _ _ _=>rfl⟩
 obtain ⟨rfl,hl⟩:=hR
 match k,hk with
 | 0,_=>
   have hn':o.name=[101,110,113]:=hn
   have h1:quDo (jn l) o=(jn (l++[o.arg]),0,0):=by
    rw [zPA]
    unfold quDo
    rw [if_pos hn']
    rcases l with _ | ⟨x,r⟩
    · simp [jn]
    · rw [if_neg (by have:=(zit x (hl x (by simp)) []).2.1;simp [jn,this]),if_neg (by simp)]
   rw [h1]
   refine ⟨⟨rfl,fun x hx=>?_⟩,rfl⟩
   rcases List.mem_append.1 (show x∈l++[o.arg] from hx) with hx | hx
   · exact hl x hx
   · simp at hx;subst hx;exact ha
 | 1,_=>
   have hn':o.name=[100,101,113]:=hn
   have h1:quDo (jn l) o=(jn (xDeq l).1,(xDeq l).2):=by
    unfold quDo
    rw [if_neg (by rw [hn'];decide),if_pos hn']
    rcases l with _ | ⟨x,r⟩
    · rw [if_neg (by decide +kernel)];rfl
    · have hc:Lib.cut (jn (x::r)) [44]=(Lib.itoa x,jn r,!r.isEmpty):=by
       rcases r with _ | ⟨y,q⟩
       · simpa [jn] using (zit x (hl x (by simp)) []).2.2.1
       · simpa [jn] using (zit x (hl x (by simp)) (Lib.itoa y++q.flatMap (fun y=>44::Lib.itoa y))).2.2.2
      rw [hc,(zit x (hl x (by simp)) []).1]
      rfl
   rw [h1]
   refine ⟨⟨rfl,fun x hx=>?_⟩,rfl⟩
   have hx':x∈(xDeq l).1:=hx
   rcases l with _ | ⟨y,r⟩
   · simp [xDeq] at hx'
   · exact hl x (by simp [xDeq] at hx';simp [hx'])
theorem Lives.lin {i:Nat} (hi:i < 5) {al:Bool} {ops:List OpV} {lines:List (List UInt8)} {keys:List Nat} {ls:Nat→List Int} {dn:List (Nat×Int×Int)} (h:Lives al i ops lines keys ls dn) (hk:KL i keys ops):zsN (modS i) ops:=by
 have hid:=h.tells.ids
 have hwh:zSt i=false→∀ (j:Nat) (o:OpV),ops[j]?=some o→((fun _=>true) o=true↔keys[j]?=some 0):=fun hf j o hj=>by
  obtain ⟨kk,a,b,c,d⟩:=hk.2 j o hj
  rw [a,c hf];simp
 have hft:ops.filter (fun _=>true)=ops:=List.filter_eq_self.2 (fun _ _=>rfl)
 have hky:zSt i=true→∀ k∈sortedU ops,∃ kk,k=keyS kk∧∀ (j:Nat) (o:OpV),ops[j]?=some o→(decide (o.key=k)=true↔keys[j]?=some kk):=by
  intro hkd k hkm
  obtain ⟨o,ho⟩:=List.exists_mem_of_ne_nil _ (zMI hkm)
  obtain ⟨ho1,ho2⟩:=List.mem_filter.1 ho
  obtain ⟨j,hj⟩:=List.mem_iff_getElem?.1 ho1
  obtain ⟨kk,a,b,c,d⟩:=hk.2 j o hj
  rw [if_pos hkd] at d
  refine ⟨kk,by rw [←d];exact (by simpa using ho2:o.key=k).symm,fun j' o' hj'=>?_⟩
  obtain ⟨k2,a2,b2,c2,d2⟩:=hk.2 j' o' hj'
  rw [if_pos hkd] at d2
  have e:k=keyS kk:=by rw [←d];exact (by simpa using ho2:o.key=k).symm
  rw [a2,d2,e]
  constructor
  · intro h;have:=zpF b2 b (by simpa using h);rw [this]
  · intro h;injection h with h;rw [h];simp
 match i,hi with
 | 0,_=>have:=(h.inv zCI znt).lin zCI hid 0 (Or.inl rfl) _ (hwh rfl);rw [hft] at this;exact Or.inl ⟨rfl,this⟩
 | 1,_=>exact Or.inr (Or.inl ⟨rfl,fun k hkm=>by obtain ⟨kk,_,h2⟩:=hky rfl k hkm;exact (h.inv stDo zmr).lin stDo hid kk (Or.inr rfl) _ h2⟩)
 | 2,_=>have:=(h.inv quDo zYm).lin quDo hid 0 (Or.inl rfl) _ (hwh rfl);rw [hft] at this;exact Or.inr (Or.inr (Or.inl ⟨rfl,this⟩))
 | 3,_=>exact Or.inr (Or.inr (Or.inr (Or.inl ⟨rfl,fun k hkm=>by obtain ⟨kk,_,h2⟩:=hky rfl k hkm;exact (h.inv zqY z8G).lin zqY hid kk (Or.inr rfl) _ h2⟩)))
 | 4,_=>have:=(h.inv lkDo zSs).lin lkDo hid 0 (Or.inl rfl) _ (hwh rfl);rw [hft] at this;exact Or.inr (Or.inr (Or.inr (Or.inr ⟨rfl,this⟩)))
end Go.Proofs.YtlkidmafomjhgaaGreatDoor.keep
namespace Go.Proofs.YtlkidmafomjhgaaGreatDoor.keep
open Go.RowKit
open srch (LinP zsN Legal zpq zCI zkp say JudgedOf zl7 zSm zAl Judged ordO ahB)
theorem Lives.kl {al:Bool} {i:Nat} {ops:List OpV} {lines:List (List UInt8)} {keys:List Nat} {ls:Nat→List Int} {dn:List (Nat×Int×Int)} (h:Lives al i ops lines keys ls dn):KL i keys ops:=by
 induction h with
 | nil=>exact ⟨rfl,by simp⟩
 | @call ops lines keys ls dn h cl d hc hf hal ih=>
   obtain ⟨k,kk,arg,exp,d',q1,q2,q3,q4,q5,q6,q7,q8,q9,q10⟩:=zTV i cl ops.length lines.length d
   rw [q9]
   exact ih.snoc _ kk q2 q10 (by rw [q7])
 | did h j k kk o hj hr hk hn hkk hd ih=>exact ih
 | ret h j k o vk vn d hj hr hk hn hv hd ih=>exact ih.set hj rfl
theorem Lives.cut {al:Bool} {i:Nat} {ops:List OpV} {lines:List (List UInt8)} {keys:List Nat} {ls:Nat→List Int} {dn:List (Nat×Int×Int)} (h:Lives al i ops lines keys ls dn):∀ c,c≤lines.length→∃ ops' keys' ls' dn',Lives al i ops' (lines.take c) keys' ls' dn':=by
 have hsn:∀ (lines:List (List UInt8)) (x:List UInt8) (c:Nat),c≤lines.length→(lines++[x]).take c=lines.take c:=fun lines x c hc=>List.take_append_of_le_length hc
 have hall:∀ (lines:List (List UInt8)) (x:List UInt8),(lines++[x]).take (lines.length+1)=lines++[x]:=fun lines x=>List.take_of_length_le (by simp)
 induction h with
 | nil=>intro c hc;exact ⟨_,_,_,_,by simpa using Lives.nil⟩
 | @call ops lines keys ls dn h cl d hc hf hal ih=>
   intro c hcl
   by_cases e:c≤lines.length
   · rw [hsn _ _ _ e];exact ih c e
   · obtain rfl:c=lines.length+1:=by simp at hcl;omega
     rw [hall];exact ⟨_,_,_,_,.call h cl d hc hf hal⟩
 | did h j k kk o hj hr hk hn hkk hd ih=>exact ih
 | @ret ops lines keys ls dn h j k o vk vn d hj hr hk hn hv hd ih=>
   intro c hcl
   by_cases e:c≤lines.length
   · rw [hsn _ _ _ e];exact ih c e
   · obtain rfl:c=lines.length+1:=by simp at hcl;omega
     rw [hall];exact ⟨_,_,_,_,.ret h j k o vk vn d hj hr hk hn hv hd⟩
theorem Tells.g {i:Nat} {ops:List OpV} {lines:List (List UInt8)} (h:Tells i ops lines) (hl:lines.length≤128):TellsG i ops lines:=by
 induction h with
 | nil=>exact .nil
 | @call ops lines h cl d hc hf ih=>
   have hl':lines.length+1≤128:=by simpa using hl
   obtain ⟨k,kk,arg,exp,d',q1,q2,q3,q4,q5,q6,q7,q8,q9,q10⟩:=zTV i cl ops.length lines.length d
   rw [q7,q8]
   have:=h.len
   refine .call (ih (by omega)) k kk _ cl arg exp d' q1 q2 ⟨by omega,by omega⟩ ⟨by omega,by omega⟩ q3 q4 q5 q6 (fun o ho=>?_) hf
   obtain ⟨j,hj⟩:=List.mem_iff_getElem?.1 ho
   have h1:=h.ids j o hj
   have h2:=(List.getElem?_eq_some_iff.1 hj).1
   omega
 | @ret ops lines h j k o vk vn d hj hr hk hn hv ih=>
   have hl':lines.length+1≤128:=by simpa using hl
   exact .ret (ih (by omega)) j k o vk vn d hj hr hk hn (z9q hv)
def sOrd:List UInt8:=[79,75,32,111,114,100,101,114,61]
theorem zlM {v:Nat×List UInt8×List (List OpV)} (h:v.1=1):∃ r,say v=sOrd++r:=by
 unfold say
 rw [if_neg (by omega),if_neg (by omega)]
 exact ⟨_,List.append_assoc _ _ _⟩
theorem zcl {al:Bool} {i:Nat} (hi:i < 5) {ops:List OpV} {lines:List (List UInt8)} {keys:List Nat} {ls:Nat→List Int} {dn:List (Nat×Int×Int)} (h:Lives al i ops lines keys ls dn) (hl:lines.length≤18) {b:Int} (hb:1000000≤b) {x:List UInt8} (hr:zkp (modS i) (zhe lines) b x):∃ r,x=sOrd++r:=by
 have ht:=h.tells
 have hg:=ht.g (by omega)
 have hrd:=(zGe i hi hg (by omega)).1
 have hn:=ht.few hl
 have hcl:∀ o∈ops,o.cl∈[(-1:Int),0,1]:=fun o ho=>by have:=ht.cls o ho;simp;omega
 obtain ⟨m,hd⟩:=zAl hrd
 have hm:zNI (modS i) opTab=true:=by
  obtain rfl | rfl | rfl | rfl | rfl:i=0∨i=1∨i=2∨i=3∨i=4:=by omega
  all_goals decide
 rcases hr with ⟨k',_⟩ | ⟨_,⟨l,r,e,_⟩ | ⟨ops',v,e,j,rfl⟩⟩
 · rw [hm] at k';cases k'
 · rw [hrd] at e;cases e
 · rw [hrd] at e
   injection e with e
   subst e
   rw [show min b 1000000=1000000 by omega] at j
   rcases zSm [-1,0,1] rfl j hcl hn hd.nodup hd.lined with ⟨h1,_⟩ | ⟨_,h2⟩
   · exact zlM h1
   · exact absurd (h.lin hi h.kl) h2
end Go.Proofs.YtlkidmafomjhgaaGreatDoor.keep
namespace Go.Proofs.YtlkidmafomjhgaaGreatDoor.keep
open Go.RowKit
open srch (LinP zsN Legal zpq z6N endS ahB)
theorem zol {α:Type} {l:List α} (h:l.Nodup) {a b:Nat} {x:α} (ha:l[a]?=some x) (hb:l[b]?=some x):a=b:=by
 obtain ⟨ha1,ha2⟩:=List.getElem?_eq_some_iff.1 ha
 obtain ⟨hb1,hb2⟩:=List.getElem?_eq_some_iff.1 hb
 rcases Nat.lt_trichotomy a b with hlt | he | hlt
 · exact absurd (ha2.trans hb2.symm) (List.pairwise_iff_getElem.1 h a b ha1 hb1 hlt)
 · exact he
 · exact absurd (hb2.trans ha2.symm) (List.pairwise_iff_getElem.1 h b a hb1 ha1 hlt)
def SeqR (x y:OpV):Prop:=x.ret≠0∧x.ret < y.call
theorem Lives.seq {i:Nat} {al:Bool} (hal:al=true) {ops:List OpV} {lines:List (List UInt8)} {keys:List Nat} {ls:Nat→List Int} {dn:List (Nat×Int×Int)} (h:Lives al i ops lines keys ls dn):ops.Pairwise SeqR∧∀ o∈ops,o.ret≠0→o.call < o.ret:=by
 induction h with
 | nil=>exact ⟨List.Pairwise.nil,by simp⟩
 | @call ops lines keys ls dn h cl d hc hf ha ih=>
   refine ⟨List.pairwise_append.2 ⟨ih.1,List.pairwise_singleton _ _,fun x hx y hy=>?_⟩,fun o ho hr=>?_⟩
   · rw [List.mem_singleton] at hy
     subst hy
     have hr:=ha hal x hx
     have:=((h.tells.lines_in x hx).2.2.1 hr).2
     exact ⟨hr,by show x.ret < (lines.length:Int)+1;omega⟩
   · rcases List.mem_append.1 ho with ho | ho
     · exact ih.2 o ho hr
     · rw [List.mem_singleton] at ho;subst ho;exact absurd rfl hr
 | did h j k kk o hj hr hk hn hkk hd ih=>exact ih
 | @ret ops lines keys ls dn h j k o vk vn d hj hr hk hn hv hd ih=>
   obtain ⟨hjl,hje⟩:=List.getElem?_eq_some_iff.1 hj
   have hp:=List.pairwise_iff_getElem.1 ih.1
   refine ⟨List.pairwise_iff_getElem.2 fun a b ha hb hab=>?_,fun x hx hxr=>?_⟩
   · simp only [List.length_set] at ha hb
     have h0:=hp a b ha hb hab
     by_cases ea:j=a
     · subst ea;rw [hje] at h0;exact absurd hr h0.1
     · by_cases eb:j=b
       · subst eb
         rw [List.getElem_set_ne ea,List.getElem_set_self]
         rw [hje] at h0
         exact h0
       · rw [List.getElem_set_ne ea,List.getElem_set_ne eb];exact h0
   · rcases List.mem_or_eq_of_mem_set hx with hx | rfl
     · exact ih.2 x hx hxr
     · have:=(h.tells.lines_in o (List.mem_of_getElem? hj)).2.1
       show o.call < (lines.length:Int)+1
       omega
section
variable {σ:Type} (doit:σ→OpV→σ×Int×Int)
theorem z5Z {x y:OpV} (h:SeqR x y):ahB x y.call=true:=by unfold ahB;simp [h.1,h.2]
theorem zVP {s0:σ} {P ord:List OpV} (hP:P.Nodup) (hs:P.Pairwise SeqR) (h:Legal doit s0 P ord):ord=P.take ord.length:=by
 have key:∀ m,m≤ord.length→ord.take m=P.take m:=by
  intro m
  induction m with
  | zero=>intro _;simp
  | succ m ih=>
    intro hm
    have e:=ih (by omega)
    have hml:m < ord.length:=by omega
    obtain ⟨q,hq⟩:=List.mem_iff_getElem?.1 (h.sub ord[m] (List.getElem_mem hml))
    have hql:=(List.getElem?_eq_some_iff.1 hq).1
    have hqe:=(List.getElem?_eq_some_iff.1 hq).2
    have hspl:ord=ord.take m++ord[m]::ord.drop (m+1):=by rw [←List.drop_eq_getElem_cons hml,List.take_append_drop]
    have hle:q≤m:=by
     apply Decidable.byContradiction
     intro hn
     have hmP:m < P.length:=by omega
     have h1:=List.pairwise_iff_getElem.1 hs m q hmP hql (by omega)
     rw [hqe] at h1
     have h2:=h.ahead _ _ _ hspl P[m] (List.getElem_mem hmP) (z5Z h1)
     rw [e] at h2
     obtain ⟨a,ha⟩:=List.mem_iff_getElem?.1 h2
     rw [List.getElem?_take] at ha
     split at ha
     · have:=zol hP ha (List.getElem?_eq_getElem hmP);omega
     · cases ha
    have hge:m≤q:=by
     apply Decidable.byContradiction
     intro hn
     have h1:ord[m]∈P.take m:=List.mem_iff_getElem?.2 ⟨q,by rw [List.getElem?_take,if_pos (by omega)];exact hq⟩
     rw [←e] at h1
     obtain ⟨a,ha⟩:=List.mem_iff_getElem?.1 h1
     rw [List.getElem?_take] at ha
     split at ha
     · have:=zol h.nd ha (List.getElem?_eq_getElem hml);omega
     · cases ha
    obtain rfl:q=m:=by omega
    rw [List.take_succ_eq_append_getElem hml,List.take_succ_eq_append_getElem hql,e,hqe]
 have:=key ord.length (Nat.le_refl _)
 rw [List.take_length] at this
 exact this
theorem zOt {s0:σ} {a b:List OpV} (h:zpq doit s0 (a++b)):zpq doit s0 a:=by
 induction a generalizing s0 with
 | nil=>exact trivial
 | cons x r ih=>exact ⟨h.1,ih h.2⟩
theorem zjd {s0:σ} {A B:List OpV} {o o':OpV} (hnd:(A++o::B).Nodup) (hnd':(A++o'::B).Nodup) (hs:(A++o::B).Pairwise SeqR) (hs':(A++o'::B).Pairwise SeqR) (hcr:∀ x∈A++o'::B,x.ret≠0→x.call < x.ret) (hr:o.ret≠0) (hr':o'.ret≠0) (hdo:∀ s,doit s o'=doit s o) (hne:(o'.vk,o'.vn)≠(o.vk,o.vn)) (hl:LinP doit s0 (A++o::B)):
 ¬ LinP doit s0 (A++o'::B)∧∀ r,Legal doit s0 (A++o'::B) r→(∀ ord,Legal doit s0 (A++o'::B) ord→ord.length≤r.length)→r=A:=by
 have hpre:∀ (x:OpV) (ord:List OpV),(A++x::B).Nodup→ord=(A++x::B).take ord.length→A.length < ord.length→∃ t,ord=(A++[x])++t:=by
  intro x ord _ e hlt
  refine ⟨ord.drop (A.length+1),?_⟩
  have e2:ord.take (A.length+1)=A++[x]:=by
   rw [e,List.take_take,show min (A.length+1) ord.length=A.length+1 by omega]
   rw [show A++x::B=(A++[x])++B by simp]
   exact List.take_left' (by simp)
  rw [←e2,List.take_append_drop]
 have hmem:∀ (x:OpV) (ord:List OpV),(A++x::B).Nodup→ord=(A++x::B).take ord.length→x∈ord→A.length < ord.length:=by
  intro x ord hn e hx
  apply Decidable.byContradiction
  intro hlt
  rw [e] at hx
  obtain ⟨a,ha⟩:=List.mem_iff_getElem?.1 hx
  rw [List.getElem?_take] at ha
  split at ha
  · have:=zol hn ha (b:=A.length) (by rw [List.getElem?_append_right (Nat.le_refl _),Nat.sub_self];rfl)
    omega
  · cases ha
 obtain ⟨ord,hL,hin⟩:=hl
 have e0:=zVP doit hnd hs hL
 obtain ⟨t,ht⟩:=hpre o ord hnd e0 (hmem o ord hnd e0 (hin o (by simp) hr))
 have hok:=zOt doit (by rw [←ht];exact hL.run)
 rw [z6N] at hok
 have hbad:∀ r,Legal doit s0 (A++o'::B) r→¬ A.length < r.length:=by
  intro r hLr hlt
  obtain ⟨t,ht⟩:=hpre o' r hnd' (zVP doit hnd' hs' hLr) hlt
  have h2:=zOt doit (by rw [←ht];exact hLr.run)
  rw [z6N] at h2
  have h3:=h2.2 hr'
  rw [hdo,hok.2 hr] at h3
  exact hne h3.symm
 refine ⟨fun ⟨r,hLr,hinr⟩=>hbad r hLr (hmem o' r hnd' (zVP doit hnd' hs' hLr) (hinr o' (by simp) hr')),fun r hLr hmax=>?_⟩
 have hA:Legal doit s0 (A++o'::B) A:=by
  refine ⟨(List.nodup_append.1 hnd').1,fun x hx=>by simp [hx],fun l1 x l2 e y hy ha=>?_,hok.1⟩
  have hP:A++o'::B=l1++x::(l2++o'::B):=by rw [e];simp
  rw [hP] at hy hs' hcr
  have hrx:y.ret≠0∧y.ret < x.call:=by
   unfold ahB at ha
   simpa using ha
  rcases List.mem_append.1 hy with hy | hy
  · exact hy
  · exfalso
    have hx0:=hcr x (by simp)
    rcases List.mem_cons.1 hy with rfl | hy
    · have:=hx0 hrx.1;omega
    · have h4:=List.rel_of_pairwise_cons (List.pairwise_append.1 hs').2.1 hy
      have h5:=hcr y (by simp only [List.mem_append,List.mem_cons] at hy ⊢;exact Or.inr (Or.inr hy)) hrx.1
      have h6:=hx0 h4.1
      have h7:=h4.2
      omega
 have e1:=zVP doit hnd' hs' hLr
 have h1:=hmax A hA
 have h2:=hbad r hLr
 have h3:r.length=A.length:=by omega
 rw [e1,h3]
 exact List.take_left' rfl
end
end Go.Proofs.YtlkidmafomjhgaaGreatDoor.keep
