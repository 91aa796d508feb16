/- Several texts in one. -/
import Derived.Test.YtbbkihekjdffpaaGreatDoorSrchYI
import Derived.Laws.BitsAllLaws
import Derived.Sort.LotA
namespace Go.Proofs.YtbbkihekjdffpaaGreatDoor.srch
open Go.RowKit
section
variable {σ:Type} (doit:σ→OpV→σ×Int×Int) (ops:List OpV)
def zYl (c:Gr×σ) (p:Nat):Option (Gr×σ):=
 match ops[p]? with
 | none=>none
 | some o=>if gHas c.1 p||!zJn (ahG o.call ops 0 (0,0)) c.1 then none else if o.ret≠0∧((doit c.2 o).2.1,(doit c.2 o).2.2)≠(o.vk,o.vn) then none else some (zdS c.1 p,(doit c.2 o).1)
inductive PathW (c0:Gr×σ):List (Stp σ)→Gr×σ→Prop
 | nil:PathW c0 [] c0
 | snoc (l:List (Stp σ)) (s:Stp σ) (c:Gr×σ) (h:PathW c0 l (s.g,s.st)) (hs:zYl doit ops (s.g,s.st) s.pl=some c):PathW c0 (l++[s]) c
def Reach (c0 c:Gr×σ):Prop:=∃ l,PathW doit ops c0 l c
theorem zyo [DecidableEq σ] {o:OpV} {m:Mch σ} (ho:ops[m.place]?=some o):
 (look doit ops o m=(false,{ m with place:=m.place+1 })∧∀ t,zYl doit ops m.here m.place=some t→t∈m.seen)∨
 (∃ t,zYl doit ops m.here m.place=some t∧t∉m.seen∧look doit ops o m=(true,{ m with way:=m.way++[⟨m.here.1,m.here.2,m.place⟩],here:=t,seen:=t::m.seen })):=by
 unfold look zYl
 rw [ho]
 dsimp only
 split
 · exact .inl ⟨rfl,fun t h=>by cases h⟩
 · split
   · exact .inl ⟨rfl,fun t h=>by cases h⟩
   · split
     · rename_i h
       exact .inl ⟨rfl,fun t ht=>by injection ht with ht;rw [←ht];exact h⟩
     · rename_i h
       exact .inr ⟨_,rfl,h,rfl⟩
theorem zDJ {c t:Gr×σ} {p:Nat} (h:zYl doit ops c p=some t):p < ops.length:=by
 unfold zYl at h
 split at h
 · cases h
 · rename_i o ho
   exact (List.getElem?_eq_some_iff.1 ho).1
theorem zJ6 {c t:Gr×σ} {p:Nat} (h:zYl doit ops c p=some t):gHas c.1 p=false∧t.1=zdS c.1 p:=by
 unfold zYl at h
 split at h
 · cases h
 · split at h
   · cases h
   · rename_i hc
     split at h
     · cases h
     · injection h with h
       rw [←h]
       refine ⟨?_,rfl⟩
       cases e:gHas c.1 p with
       | false=>rfl
       | true=>rw [e] at hc;simp at hc
def cntG (g:Gr):Nat:=((List.range 128).filter (fun q=>gHas g q)).length
theorem zBv {g:Gr} (hg:wfG g) {p:Nat} (hp:p < 128) (h:gHas g p=false):cntG (zdS g p)=cntG g+1:=by
 unfold cntG
 have e:(List.range 128).filter (fun q=>gHas (zdS g p) q)=(List.range 128).filter (fun q=>decide (p=q)||gHas g q):=by
  refine List.filter_congr (fun q hq=>?_)
  exact zx7 hg p q hp (by simpa using hq)
 rw [e]
 have key:∀ l:List Nat,l.Nodup→(l.filter (fun q=>decide (p=q)||gHas g q)).length=(l.filter (fun q=>gHas g q)).length+(if p∈l then 1 else 0):=by
  intro l
  induction l with
  | nil=>intro _;simp
  | cons a t ih=>
    intro hd
    obtain ⟨h1,h2⟩:=List.nodup_cons.1 hd
    rw [List.filter_cons,List.filter_cons]
    by_cases hpa:p=a
    · subst hpa
      have:=ih h2
      rw [if_neg h1] at this
      simp [h,this]
    · have:=ih h2
      have hm:(p∈a::t)↔(p∈t):=by simp [hpa]
      simp only [hpa,decide_false,Bool.false_or,hm]
      split
      · simp only [List.length_cons];omega
      · exact this
 rw [key _ List.nodup_range,if_pos (by simpa using hp)]
theorem zXL:cntG (0,0)=0:=by
 unfold cntG
 rw [List.filter_eq_nil_iff.2 (fun q _=>by rw [z4a];simp)]
 rfl
theorem zIM (hn:ops.length≤128) {s0:σ} {l:List (Stp σ)} {c:Gr×σ} (h:PathW doit ops ((0,0),s0) l c):wfG c.1∧cntG c.1=l.length:=by
 induction h with
 | nil=>exact ⟨wf_zero,zXL⟩
 | snoc l s c h hs ih=>
   obtain ⟨h1,h2⟩:=zJ6 doit ops hs
   have h3:=zDJ doit ops hs
   rw [h2]
   refine ⟨zgs ih.1 _,?_⟩
   rw [zBv ih.1 (by omega) h1,ih.2,List.length_append]
   rfl
theorem path_lt {c0:Gr×σ} {l:List (Stp σ)} {c:Gr×σ} (h:PathW doit ops c0 l c):∀ s∈l,s.pl < ops.length:=by
 induction h with
 | nil=>intro s hs;cases hs
 | snoc l s c h hs ih=>
   intro x hx
   rcases List.mem_append.1 hx with hx | hx
   · exact ih x hx
   · rw [List.mem_singleton] at hx;subst hx;exact zDJ doit ops hs
theorem zpd {c0:Gr×σ} {l:List (Stp σ)} {s:Stp σ} {c:Gr×σ} (h:PathW doit ops c0 (l++[s]) c):PathW doit ops c0 l (s.g,s.st)∧zYl doit ops (s.g,s.st) s.pl=some c:=by
 generalize hq:l++[s]=q at h
 cases h with
 | nil=>simp at hq
 | snoc l2 s2 c2 h2 hs2=>
   obtain ⟨e1,e2⟩:=List.append_inj' hq rfl
   injection e2 with e2
   subst e1 e2
   exact ⟨h2,hs2⟩
def restW (n:Nat) (l:List (Stp σ)):Nat:=(l.map (fun s=>n - (s.pl+1))).sum
theorem zE5 (n:Nat) (l:List (Stp σ)) (s:Stp σ):restW n (l++[s])=restW n l+(n - (s.pl+1)):=by
 unfold restW
 rw [List.map_append,List.sum_append]
 simp
structure DI (s0:σ) (b0 b:Int) (fo:Bool) (m:Mch σ):Prop where
 path:PathW doit ops ((0,0),s0) m.way m.here
 nd:(((0,0),s0)::m.seen).Nodup
 reach:∀ c∈m.seen,Reach doit ops ((0,0),s0) c
 mem:m.here∈((0,0),s0)::m.seen
 frm:∀ s∈m.way,((s.g,s.st):Gr×σ)∈((0,0),s0)::m.seen
 not:∀ c∈((0,0),s0)::m.seen,(c=m.here∧fo=true)∨(zJn (retG ops 0 (0,0)) c.1=false∧cntG c.1≤m.longest.length)
 close:∀ c∈((0,0),s0)::m.seen,∀ p t,zYl doit ops c p=some t→t∈m.seen∨(c=m.here∧(fo=true∨m.place≤p))∨∃ s∈m.way,c=(s.g,s.st)∧s.pl < p
 lng:∃ l c,PathW doit ops ((0,0),s0) l c∧m.longest=takenL ops l
 pl:m.place≤ops.length
 cost:b0 - b+(ops.length - (if fo then 0 else m.place):Nat)+(restW ops.length m.way:Nat)≤(ops.length*(m.seen.length+1):Nat)
def Told (s0:σ) (b0:Int) (r:Out):Prop:=
 ∃ vis:List (Gr×σ),vis.Nodup∧(∀ c∈vis,Reach doit ops ((0,0),s0) c)∧
  ((r.verdict=0∧(b0≤0∨b0 < (ops.length*vis.length:Nat)))∨
   (r.verdict=1∧b0 - r.left≤(ops.length*vis.length:Nat)∧∃ l c,PathW doit ops ((0,0),s0) l c∧zJn (retG ops 0 (0,0)) c.1=true∧r.order=takenL ops l)∨
   (r.verdict=2∧b0 - r.left≤(ops.length*vis.length:Nat)∧(∃ l c,PathW doit ops ((0,0),s0) l c∧r.order=takenL ops l)∧∀ c,Reach doit ops ((0,0),s0) c→zJn (retG ops 0 (0,0)) c.1=false∧cntG c.1≤r.order.length))
theorem zBJ [DecidableEq σ] (hn:ops.length≤128) (s0:σ) (b0:Int) (f:Nat):∀ (b:Int) (fo:Bool) (m:Mch σ) (r:Out),DI doit ops s0 b0 b fo m→(0≤b∨b=b0)→srun doit ops f b fo m=some r→Told doit ops s0 b0 r:=by
 induction f with
 | zero=>intro b fo m r _ _ h;simp [srun] at h
 | succ f ih=>
   intro b fo m r hd hb h
   have hvr:∀ c∈((0,0),s0)::m.seen,Reach doit ops ((0,0),s0) c:=by
    intro c hc
    rcases List.mem_cons.1 hc with rfl | hc
    · exact ⟨[],.nil⟩
    · exact hd.reach c hc
   cases fo with
   | true=>
     unfold srun at h
     split at h
     · rename_i hw
       injection h with h
       subst h
       refine ⟨_,hd.nd,hvr,.inr (.inl ⟨rfl,?_,_,_,hd.path,hw,rfl⟩)⟩
       have:=hd.cost
       simp only [List.length_cons]
       show b0 - b≤_
       omega
     · rename_i hw
       refine ih _ _ _ _ ?_ hb h
       have hw':zJn (retG ops 0 (0,0)) m.here.1=false:=by simpa using hw
       have hlen:(if m.longest.length < m.way.length then takenL ops m.way else m.longest).length=max m.longest.length m.way.length:=by
        split
        · rw [zUxG ops m.way (path_lt doit ops hd.path)];omega
        · omega
       refine ⟨hd.path,hd.nd,hd.reach,hd.mem,hd.frm,?_,?_,?_,Nat.zero_le _,?_⟩
       · intro c hc
         right
         dsimp only
         rw [hlen]
         rcases hd.not c hc with ⟨rfl,_⟩ | ⟨h1,h2⟩
         · exact ⟨hw',by rw [(zIM doit ops hn hd.path).2];omega⟩
         · exact ⟨h1,by omega⟩
       · intro c hc p t ht
         rcases hd.close c hc p t ht with h1 | ⟨h1,_⟩ | h1
         · exact .inl h1
         · exact .inr (.inl ⟨h1,.inr (Nat.zero_le _)⟩)
         · exact .inr (.inr h1)
       · dsimp only
         split
         · exact ⟨_,_,hd.path,rfl⟩
         · exact hd.lng
       · have:=hd.cost
         dsimp only
         simpa using this
   | false=>
     unfold srun at h
     cases ho:ops[m.place]? with
     | some o=>
       have hpl:m.place < ops.length:=(List.getElem?_eq_some_iff.1 ho).1
       have hco:=hd.cost
       simp only [Bool.false_eq_true,if_false] at hco
       rw [ho] at h
       dsimp only at h
       split at h
       · injection h with h
         subst h
         refine ⟨_,hd.nd,hvr,.inl ⟨rfl,?_⟩⟩
         simp only [List.length_cons]
         omega
       · rename_i hb0
         rcases zyo doit ops ho with ⟨e,hno⟩ | ⟨t,hst,hnew,e⟩
         · rw [e] at h
           refine ih _ _ _ _ ?_ (.inl (by omega)) h
           refine ⟨hd.path,hd.nd,hd.reach,hd.mem,hd.frm,?_,?_,hd.lng,hpl,?_⟩
           · intro c hc
             rcases hd.not c hc with ⟨_,h2⟩ | h1
             · cases h2
             · exact .inr h1
           · intro c hc p t' ht
             rcases hd.close c hc p t' ht with h1 | ⟨h1,h2⟩ | h1
             · exact .inl h1
             · rcases h2 with h2 | h2
               · cases h2
               · by_cases hp:p=m.place
                 · subst hp;subst h1;exact .inl (hno t' ht)
                 · exact .inr (.inl ⟨h1,.inr (by show m.place+1≤p;omega)⟩)
             · exact .inr (.inr h1)
           · dsimp only
             simp only [Bool.false_eq_true,if_false]
             omega
         · rw [e] at h
           have hp2:PathW doit ops ((0,0),s0) (m.way++[⟨m.here.1,m.here.2,m.place⟩]) t:=.snoc _ _ _ hd.path hst
           refine ih _ _ _ _ ?_ (.inl (by omega)) h
           have ht0:t≠((0,0),s0):=by
            intro e0
            have h1:=(zIM doit ops hn hp2).2
            rw [e0,zXL,List.length_append] at h1
            simp at h1
           refine ⟨hp2,?_,?_,?_,?_,?_,?_,hd.lng,hd.pl,?_⟩
           · dsimp only
             have h0:=hd.nd
             rw [List.nodup_cons] at h0 ⊢
             rw [List.nodup_cons]
             exact ⟨by simp only [List.mem_cons,not_or];exact ⟨fun x=>ht0 x.symm,h0.1⟩,hnew,h0.2⟩
           · intro c hc
             rcases List.mem_cons.1 hc with rfl | hc
             · exact ⟨_,hp2⟩
             · exact hd.reach c hc
           · simp
           · intro x hx
             dsimp only at hx ⊢
             rcases List.mem_append.1 hx with hx | hx
             · have:=hd.frm x hx
               simp only [List.mem_cons] at this ⊢
               rcases this with h1 | h1
               · exact .inl h1
               · exact .inr (.inr h1)
             · rw [List.mem_singleton] at hx
               subst hx
               have:=hd.mem
               simp only [List.mem_cons] at this ⊢
               rcases this with h1 | h1
               · exact .inl h1
               · exact .inr (.inr h1)
           · intro c hc
             dsimp only at hc ⊢
             by_cases hct:c=t
             · exact .inl ⟨hct,rfl⟩
             · have hc':c∈((0,0),s0)::m.seen:=by
                simp only [List.mem_cons] at hc ⊢
                rcases hc with h1 | h1 | h1
                · exact .inl h1
                · exact absurd h1 hct
                · exact .inr h1
               rcases hd.not c hc' with ⟨_,h2⟩ | h1
               · cases h2
               · exact .inr h1
           · intro c hc p t' ht
             dsimp only at hc ⊢
             by_cases hct:c=t
             · exact .inr (.inl ⟨hct,.inl rfl⟩)
             · have hc':c∈((0,0),s0)::m.seen:=by
                simp only [List.mem_cons] at hc ⊢
                rcases hc with h1 | h1 | h1
                · exact .inl h1
                · exact absurd h1 hct
                · exact .inr h1
               rcases hd.close c hc' p t' ht with h1 | ⟨h1,h2⟩ | ⟨s,hs,h1,h2⟩
               · exact .inl (List.mem_cons_of_mem _ h1)
               · rcases h2 with h2 | h2
                 · cases h2
                 · by_cases hp:p=m.place
                   · subst hp;subst h1
                     rw [hst] at ht
                     injection ht with ht
                     exact .inl (by rw [←ht];simp)
                   · exact .inr (.inr ⟨⟨m.here.1,m.here.2,m.place⟩,by simp,h1,by show m.place < p;omega⟩)
               · exact .inr (.inr ⟨s,by simp [hs],h1,h2⟩)
           · dsimp only
             rw [zE5]
             simp only [if_true,List.length_cons,Nat.sub_zero]
             have:ops.length*(m.seen.length+1+1)=ops.length*(m.seen.length+1)+ops.length:=Nat.mul_succ _ _
             rw [this]
             omega
     | none=>
       have hpl:ops.length≤m.place:=by
        rcases Nat.lt_or_ge m.place ops.length with h1 | h1
        · rw [List.getElem?_eq_getElem h1] at ho;cases ho
        · exact h1
       have hco:=hd.cost
       simp only [Bool.false_eq_true,if_false] at hco
       rw [ho] at h
       dsimp only at h
       cases hl:m.way.getLast? with
       | none=>
         rw [hl] at h
         injection h with h
         subst h
         have hw:m.way=[]:=List.getLast?_eq_none_iff.1 hl
         have hclosed:∀ c∈((0,0),s0)::m.seen,∀ p t,zYl doit ops c p=some t→t∈m.seen:=by
          intro c hc p t ht
          rcases hd.close c hc p t ht with h1 | ⟨_,h2⟩ | ⟨s,hs,_⟩
          · exact h1
          · rcases h2 with h2 | h2
            · cases h2
            · have:=zDJ doit ops ht;omega
          · rw [hw] at hs;cases hs
         have hall:∀ l c,PathW doit ops ((0,0),s0) l c→c∈((0,0),s0)::m.seen:=by
          intro l c hp
          induction hp with
          | nil=>simp
          | snoc l s c h hs ih2=>exact List.mem_cons_of_mem _ (hclosed _ ih2 _ _ hs)
         refine ⟨_,hd.nd,hvr,.inr (.inr ⟨rfl,?_,hd.lng,?_⟩)⟩
         · simp only [List.length_cons]
           show b0 - b≤_
           omega
         · intro c ⟨l,hp⟩
           rcases hd.not c (hall l c hp) with ⟨_,h2⟩ | h1
           · cases h2
           · exact h1
       | some s=>
         rw [hl] at h
         dsimp only at h
         obtain ⟨l,hls⟩:∃ l,m.way=l++[s]:=List.getLast?_eq_some_iff.1 hl
         have hpath:=hd.path
         rw [hls] at hpath
         have hp2:=zpd doit ops hpath
         have hdl:m.way.dropLast=l:=by rw [hls,List.dropLast_concat]
         refine ih _ _ _ _ ?_ hb h
         have hmem:((s.g,s.st):Gr×σ)∈((0,0),s0)::m.seen:=hd.frm s (by rw [hls];simp)
         refine ⟨by dsimp only;rw [hdl];exact hp2.1,hd.nd,hd.reach,hmem,fun x hx=>by dsimp only at hx;rw [hdl] at hx;exact hd.frm x (by rw [hls];simp [hx]),?_,?_,hd.lng,zDJ doit ops hp2.2,?_⟩
         · intro c hc
           rcases hd.not c hc with ⟨_,h2⟩ | h1
           · cases h2
           · exact .inr h1
         · intro c hc p t ht
           dsimp only
           rw [hdl]
           rcases hd.close c hc p t ht with h1 | ⟨_,h2⟩ | ⟨s2,hs2,h1,h2⟩
           · exact .inl h1
           · rcases h2 with h2 | h2
             · cases h2
             · have:=zDJ doit ops ht;omega
           · rw [hls] at hs2
             rcases List.mem_append.1 hs2 with hs2 | hs2
             · exact .inr (.inr ⟨s2,hs2,h1,h2⟩)
             · rw [List.mem_singleton] at hs2
               subst hs2
               exact .inr (.inl ⟨h1,.inr h2⟩)
         · dsimp only
           rw [hdl]
           rw [hls,zE5] at hco
           simp only [Bool.false_eq_true,if_false]
           omega
theorem Found.told [DecidableEq σ] (hn:ops.length≤128) {s0:σ} {b:Int} {r:Out} (h:Found doit ops s0 b r):Told doit ops s0 b r:=by
 obtain ⟨f,h⟩:=h
 refine zBJ doit ops hn s0 b f b true _ r ⟨.nil,by simp,fun c hc=>by simp at hc,by simp,fun s hs=>by simp at hs,fun c hc=>.inl ⟨by simpa using hc,rfl⟩,fun c hc p t ht=>.inr (.inl ⟨by simpa using hc,.inl rfl⟩),⟨[],_,.nil,rfl⟩,Nat.zero_le _,?_⟩ (.inr rfl) h
 simp [restW]
end
theorem z5a (a b:Nat) (ha:a < 18446744073709551616) (hb:b < 18446744073709551616):(bits .andNot .u64 (a:Int) (b:Int) != 0)=false↔∀ i,i < 64→a.testBit i=true→b.testBit i=true:=by
 rw [u64_andNot_nat a b ha hb]
 have key:∀ i,(a &&& (18446744073709551615 - b)).testBit i=(a.testBit i&&(decide (i < 64)&&!b.testBit i)):=by
  intro i
  rw [Nat.testBit_and]
  congr 1
  have:=Nat.testBit_two_pow_sub_succ (x:=b) (n:=64) (by simpa using hb) i
  rw [←this]
  congr 1
  omega
 constructor
 · intro h i hi hai
   have h0:a &&& (18446744073709551615 - b)=0:=by
    have:(((a &&& (18446744073709551615 - b):Nat):Int) == 0)=true:=by simpa using h
    exact_mod_cast (beq_iff_eq.1 this)
   have:=key i
   rw [h0,Nat.zero_testBit,hai] at this
   cases hb':b.testBit i with
   | true=>rfl
   | false=>rw [hb'] at this;simp [hi] at this
 · intro h
   have h0:a &&& (18446744073709551615 - b)=0:=by
    apply Nat.eq_of_testBit_eq
    intro i
    rw [key,Nat.zero_testBit]
    by_cases hi:i < 64
    · cases hai:a.testBit i with
      | false=>rfl
      | true=>rw [h i hi hai];simp
    · simp [hi]
   rw [h0]
   rfl
theorem zcR {g h:Gr} (hg:wfG g) (hh:wfG h):zJn g h=true↔∀ q,q < 128→gHas g q=true→gHas h q=true:=by
 obtain ⟨x,y⟩:=g
 obtain ⟨x',y'⟩:=h
 obtain ⟨⟨a1,a2⟩,b1,b2⟩:=hg
 obtain ⟨⟨c1,c2⟩,d1,d2⟩:=hh
 dsimp only at a1 a2 b1 b2 c1 c2 d1 d2
 obtain ⟨x,rfl⟩:=Int.eq_ofNat_of_zero_le a1
 obtain ⟨y,rfl⟩:=Int.eq_ofNat_of_zero_le b1
 obtain ⟨x',rfl⟩:=Int.eq_ofNat_of_zero_le c1
 obtain ⟨y',rfl⟩:=Int.eq_ofNat_of_zero_le d1
 have hx:x < 18446744073709551616:=by omega
 have hy:y < 18446744073709551616:=by omega
 have hx':x' < 18446744073709551616:=by omega
 have hy':y' < 18446744073709551616:=by omega
 have e1:=z5a x x' hx hx'
 have e2:=z5a y y' hy hy'
 unfold zJn gHas
 dsimp only
 rw [Bool.and_eq_true,Bool.not_eq_true',Bool.not_eq_true',e1,e2]
 constructor
 · intro ⟨h1,h2⟩ q hq
   have hm:q % 64 < 64:=Nat.mod_lt _ (by omega)
   by_cases h64:q < 64
   · rw [if_pos h64,if_pos h64,bit_of x hx,bit_of x' hx']
     exact h1 _ hm
   · rw [if_neg h64,if_neg h64,bit_of y hy,bit_of y' hy']
     exact h2 _ hm
 · intro h
   refine ⟨fun i hi=>?_,fun i hi=>?_⟩
   · have:=h i (by omega)
     rw [if_pos hi,if_pos hi,Nat.mod_eq_of_lt hi,bit_of x hx,bit_of x' hx'] at this
     exact this
   · have:=h (64+i) (by omega)
     rw [if_neg (by omega),if_neg (by omega),show (64+i) % 64=i by omega,bit_of y hy,bit_of y' hy'] at this
     exact this
theorem zee (call:Int) (l:List OpV):∀ (p:Nat) (g:Gr),wfG g→wfG (ahG call l p g):=by
 induction l with
 | nil=>intro p g h;exact h
 | cons o r ih=>
   intro p g h
   unfold ahG
   apply ih
   split
   · exact zgs h p
   · exact h
theorem z0k (l:List OpV):∀ (p:Nat) (g:Gr),wfG g→wfG (retG l p g):=by
 induction l with
 | nil=>intro p g h;exact h
 | cons o r ih=>
   intro p g h
   unfold retG
   apply ih
   split
   · exact h
   · exact zgs h p
theorem zlF (call:Int) (l:List OpV):∀ (p:Nat) (g:Gr),wfG g→p+l.length≤128→∀ q,q < 128→(gHas (ahG call l p g) q=true↔gHas g q=true∨∃ i o,q=p+i∧l[i]?=some o∧ahB o call=true):=by
 induction l with
 | nil=>intro p g _ _ q _;simp [ahG]
 | cons o r ih=>
   intro p g h hp q hq
   simp only [List.length_cons] at hp
   unfold ahG
   have hw:wfG (if ahB o call then zdS g p else g):=by
    split
    · exact zgs h p
    · exact h
   rw [ih (p+1) _ hw (by omega) q hq]
   have hx:(gHas (if ahB o call then zdS g p else g) q=true)↔(gHas g q=true∨(q=p∧ahB o call=true)):=by
    split
    · rename_i ha
      rw [zx7 h p q (by omega) hq,Bool.or_eq_true,decide_eq_true_eq]
      constructor
      · rintro (rfl | h1)
        · exact .inr ⟨rfl,ha⟩
        · exact .inl h1
      · rintro (h1 | ⟨rfl,_⟩)
        · exact .inr h1
        · exact .inl rfl
    · rename_i ha
      simp [ha]
   rw [hx]
   constructor
   · rintro ((h1 | ⟨rfl,h2⟩) | ⟨i,o',h1,h2,h3⟩)
     · exact .inl h1
     · exact .inr ⟨0,o,by omega,by simp,h2⟩
     · exact .inr ⟨i+1,o',by omega,by simpa using h2,h3⟩
   · rintro (h1 | ⟨i,o',h1,h2,h3⟩)
     · exact .inl (.inl h1)
     · cases i with
       | zero=>simp at h2;subst h2;exact .inl (.inr ⟨by omega,h3⟩)
       | succ i=>exact .inr ⟨i,o',by omega,by simpa using h2,h3⟩
theorem zPV (l:List OpV):∀ (p:Nat) (g:Gr),wfG g→p+l.length≤128→∀ q,q < 128→(gHas (retG l p g) q=true↔gHas g q=true∨∃ i o,q=p+i∧l[i]?=some o∧o.ret≠0):=by
 induction l with
 | nil=>intro p g _ _ q _;simp [retG]
 | cons o r ih=>
   intro p g h hp q hq
   simp only [List.length_cons] at hp
   unfold retG
   have hw:wfG (if o.ret=0 then g else zdS g p):=by
    split
    · exact h
    · exact zgs h p
   rw [ih (p+1) _ hw (by omega) q hq]
   have hx:(gHas (if o.ret=0 then g else zdS g p) q=true)↔(gHas g q=true∨(q=p∧o.ret≠0)):=by
    split
    · rename_i ha
      simp [ha]
    · rename_i ha
      rw [zx7 h p q (by omega) hq,Bool.or_eq_true,decide_eq_true_eq]
      constructor
      · rintro (rfl | h1)
        · exact .inr ⟨rfl,ha⟩
        · exact .inl h1
      · rintro (h1 | ⟨rfl,_⟩)
        · exact .inr h1
        · exact .inl rfl
   rw [hx]
   constructor
   · rintro ((h1 | ⟨rfl,h2⟩) | ⟨i,o',h1,h2,h3⟩)
     · exact .inl h1
     · exact .inr ⟨0,o,by omega,by simp,h2⟩
     · exact .inr ⟨i+1,o',by omega,by simpa using h2,h3⟩
   · rintro (h1 | ⟨i,o',h1,h2,h3⟩)
     · exact .inl (.inl h1)
     · cases i with
       | zero=>simp at h2;subst h2;exact .inl (.inr ⟨by omega,h3⟩)
       | succ i=>exact .inr ⟨i,o',by omega,by simpa using h2,h3⟩
theorem zcZ {ops:List OpV} (hn:ops.length≤128) {g:Gr} (hg:wfG g) (call:Int):zJn (ahG call ops 0 (0,0)) g=true↔∀ q o,ops[q]?=some o→ahB o call=true→gHas g q=true:=by
 rw [zcR (zee _ _ _ _ wf_zero) hg]
 constructor
 · intro h q o hq ha
   have hlt:=(List.getElem?_eq_some_iff.1 hq).1
   exact h q (by omega) ((zlF call ops 0 (0,0) wf_zero (by omega) q (by omega)).2 (.inr ⟨q,o,by omega,hq,ha⟩))
 · intro h q hq hh
   rcases (zlF call ops 0 (0,0) wf_zero (by omega) q hq).1 hh with h1 | ⟨i,o,rfl,h2,h3⟩
   · rw [z4a] at h1;cases h1
   · rw [Nat.zero_add];exact h i o h2 h3
theorem z6g {ops:List OpV} (hn:ops.length≤128) {g:Gr} (hg:wfG g):zJn (retG ops 0 (0,0)) g=true↔∀ q o,ops[q]?=some o→o.ret≠0→gHas g q=true:=by
 rw [zcR (z0k _ _ _ wf_zero) hg]
 constructor
 · intro h q o hq ha
   have hlt:=(List.getElem?_eq_some_iff.1 hq).1
   exact h q (by omega) ((zPV ops 0 (0,0) wf_zero (by omega) q (by omega)).2 (.inr ⟨q,o,by omega,hq,ha⟩))
 · intro h q hq hh
   rcases (zPV ops 0 (0,0) wf_zero (by omega) q hq).1 hh with h1 | ⟨i,o,rfl,h2,h3⟩
   · rw [z4a] at h1;cases h1
   · rw [Nat.zero_add];exact h i o h2 h3
section
variable {σ:Type} (doit:σ→OpV→σ×Int×Int) (ops:List OpV)
theorem zZu (hn:ops.length≤128) {c:Gr×σ} (hc:wfG c.1) {p:Nat} {t:Gr×σ}:zYl doit ops c p=some t↔∃ o,ops[p]?=some o∧gHas c.1 p=false∧(∀ q o',ops[q]?=some o'→ahB o' o.call=true→gHas c.1 q=true)∧(o.ret≠0→((doit c.2 o).2.1,(doit c.2 o).2.2)=(o.vk,o.vn))∧t=(zdS c.1 p,(doit c.2 o).1):=by
 unfold zYl
 cases ho:ops[p]? with
 | none=>simp
 | some o=>
   dsimp only
   have ha:=zcZ hn hc o.call
   constructor
   · intro h
     split at h
     · cases h
     · rename_i h1
       split at h
       · cases h
       · rename_i h2
         injection h with h
         simp only [Bool.or_eq_true,Bool.not_eq_true',not_or,Bool.not_eq_true,Bool.not_eq_false] at h1
         refine ⟨o,rfl,h1.1,ha.1 h1.2,fun hr=>?_,h.symm⟩
         exact Decidable.byContradiction fun hh=>h2 ⟨hr,hh⟩
   · rintro ⟨o',e,h1,h2,h3,rfl⟩
     injection e with e
     subst e
     rw [if_neg (by simp [h1,ha.2 h2]),if_neg (fun hh=>hh.2 (h3 hh.1))]
end
theorem ziO {α:Type} [DecidableEq α] (l:List α):∀ m:List α,l.Nodup→(∀ x∈l,x∈m)→l.length≤m.length:=by
 induction l with
 | nil=>intro m _ _;exact Nat.zero_le _
 | cons a t ih=>
   intro m hd hs
   obtain ⟨h1,h2⟩:=List.nodup_cons.1 hd
   have ha:=hs a (by simp)
   have:=ih (m.erase a) h2 (fun x hx=>(List.mem_erase_of_ne (fun (e:x=a)=>h1 (by rw [←e];exact hx))).2 (hs x (by simp [hx])))
   rw [List.length_erase_of_mem ha] at this
   have hp:0 < m.length:=List.length_pos_of_mem ha
   simp only [List.length_cons]
   omega
section
variable {σ:Type} (doit:σ→OpV→σ×Int×Int) (ops:List OpV)
theorem zxD (hn:ops.length≤128) {s0:σ} {l:List (Stp σ)} {c:Gr×σ} (h:PathW doit ops ((0,0),s0) l c):(l.map (·.pl)).Nodup∧∀ q,q < 128→(gHas c.1 q=true↔q∈l.map (·.pl)):=by
 induction h with
 | nil=>exact ⟨by simp,fun q _=>by rw [z4a];simp⟩
 | snoc l s c h hs ih=>
   obtain ⟨h1,h2⟩:=zJ6 doit ops hs
   have h3:=zDJ doit ops hs
   have hw:=(zIM doit ops hn h).1
   refine ⟨?_,fun q hq=>?_⟩
   · rw [List.map_append,List.nodup_append]
     refine ⟨ih.1,by simp,fun a ha b hb=>?_⟩
     simp at hb
     subst hb
     intro e
     subst e
     have:=(ih.2 _ (by omega)).2 ha
     rw [h1] at this
     cases this
   · rw [h2,zx7 hw _ _ (by omega) hq,Bool.or_eq_true,decide_eq_true_eq,ih.2 q hq,List.map_append,List.mem_append]
     simp only [List.map_cons,List.map_nil,List.mem_singleton]
     constructor
     · rintro (h | h)
       · exact .inr h.symm
       · exact .inl h
     · rintro (h | h)
       · exact .inr h
       · exact .inl h.symm
def zNA (ops:List OpV):Prop:=∀ (p q:Nat) (o o':OpV),ops[p]?=some o→ops[q]?=some o'→p≠q→o.cl=o'.cl→ahB o o'.call=true∨ahB o' o.call=true
end
end Go.Proofs.YtbbkihekjdffpaaGreatDoor.srch
namespace Go.Proofs.YtbbkihekjdffpaaGreatDoor.srch
open Go.RowKit
open Go.Sort (swp size_swp insInner insOuter PermIn swp_permIn permIn_refl permIn_trans permIn_mono)
section
variable {α:Type} [Inhabited α] (lt:α→α→Bool)
theorem zW4 (N a b:Nat) (n:Nat):∀ (i:Nat) (d:Array α),N≤d.size→a+i+n≤N→b+i+n≤N→PermIn 0 N d (swLoop a b n i d):=by
 induction n with
 | zero=>intro i d _ _ _;exact permIn_refl _ _ _
 | succ n ih=>
   intro i d hd h1 h2
   have p1:=swp_permIn d 0 N (a+i) (b+i) (by omega) (by omega) (by omega) (by omega) hd
   exact permIn_trans _ _ _ _ _ p1 (ih (i+1) _ (by rw [size_swp];exact hd) (by omega) (by omega))
theorem zMw (N m:Nat) (f:Nat):∀ (i j:Nat) (d:Array α),N≤d.size→i≤m→m+j≤N→PermIn 0 N d (rotLoop m f i j d):=by
 induction f with
 | zero=>intro i j d _ _ _;exact permIn_refl _ _ _
 | succ f ih=>
   intro i j d hd h1 h2
   unfold rotLoop
   split
   · exact zW4 N _ _ _ 0 d hd (by omega) (by omega)
   · split
     · exact permIn_trans _ _ _ _ _ (zW4 N (m - i) m j 0 d hd (by omega) (by omega)) (ih _ _ _ (by rw [zWt];exact hd) (by omega) h2)
     · exact permIn_trans _ _ _ _ _ (zW4 N (m - i) (m+j - i) i 0 d hd (by omega) (by omega)) (ih _ _ _ (by rw [zWt];exact hd) h1 (by omega))
theorem zpS (N:Nat) (d:Array α) (a m b:Nat) (hd:N≤d.size) (h1:m≤b) (h2:b≤N):PermIn 0 N d (rot d a m b):=zMw N m _ _ _ d hd (by omega) (by omega)
theorem zUo (N e f:Nat) (he:e < N):∀ (k:Nat) (d:Array α),N≤d.size→PermIn 0 N d (upTo e f k d):=by
 induction f with
 | zero=>intro k d _;exact permIn_refl _ _ _
 | succ f ih=>
   intro k d hd
   unfold upTo
   split
   · exact permIn_trans _ _ _ _ _ (swp_permIn d 0 N k (k+1) (by omega) (by omega) (by omega) (by omega) hd) (ih _ _ (by rw [size_swp];exact hd))
   · exact permIn_refl _ _ _
theorem zxe (N e f:Nat):∀ (k:Nat) (d:Array α),N≤d.size→k < N→PermIn 0 N d (downTo e f k d):=by
 induction f with
 | zero=>intro k d _ _;exact permIn_refl _ _ _
 | succ f ih=>
   intro k d hd hk
   unfold downTo
   split
   · exact permIn_trans _ _ _ _ _ (swp_permIn d 0 N k (k - 1) (by omega) (by omega) (by omega) (by omega) hd) (ih _ _ (by rw [size_swp];exact hd) (by omega))
   · exact permIn_refl _ _ _
theorem zCv (d:Array α) (a m b:Nat) (h1:a≤m) (h2:m≤b):(if (a+b) / 2 < m then (a+b) / 2+m - b else a)≤zzQ lt d a m b∧zzQ lt d a m b≤(if (a+b) / 2 < m then (a+b) / 2 else m):=by
 unfold zzQ
 dsimp only
 exact zw6 _ _ _ _ (by split <;> omega)
theorem zCy (N:Nat) (f:Nat):∀ (a m b:Nat) (d:Array α),N≤d.size→a < m→m < b→b≤N→PermIn 0 N d (symM lt f a m b d):=by
 induction f with
 | zero=>intro a m b d _ _ _ _;exact permIn_refl _ _ _
 | succ f ih=>
   intro a m b d hd h1 h2 h3
   unfold symM
   dsimp only
   split
   · have:=zw6 (fun h=>lt d[h]! d[a]!) (b - m+1) m b (by omega)
     exact zUo N _ _ (by omega) _ d hd
   · split
     · exact zxe N _ _ _ d hd (by omega)
     · have hs:=zCv lt d a m b (by omega) (by omega)
       generalize zzQ lt d a m b=st at hs ⊢
       have hs1:(a+b) / 2+m - st≤b:=by split at hs <;> omega
       have p1:PermIn 0 N d (if st < m∧m < (a+b) / 2+m - st then rot d st m ((a+b) / 2+m - st) else d):=by
        split
        · exact zpS N d st m _ hd (by omega) (by omega)
        · exact permIn_refl _ _ _
       have z1:N≤(if st < m∧m < (a+b) / 2+m - st then rot d st m ((a+b) / 2+m - st) else d).size:=by
        split
        · rw [zdT];exact hd
        · exact hd
       generalize (if st < m∧m < (a+b) / 2+m - st then rot d st m ((a+b) / 2+m - st) else d)=d1 at p1 z1 ⊢
       have p2:PermIn 0 N d1 (if a < st∧st < (a+b) / 2 then symM lt f a st ((a+b) / 2) d1 else d1):=by
        split
        · exact ih _ _ _ _ z1 (by omega) (by omega) (by omega)
        · exact permIn_refl _ _ _
       have z2:N≤(if a < st∧st < (a+b) / 2 then symM lt f a st ((a+b) / 2) d1 else d1).size:=by
        split
        · rw [zJ2];exact z1
        · exact z1
       generalize (if a < st∧st < (a+b) / 2 then symM lt f a st ((a+b) / 2) d1 else d1)=d2 at p2 z2 ⊢
       refine permIn_trans _ _ _ _ _ (permIn_trans _ _ _ _ _ p1 p2) ?_
       split
       · exact ih _ _ _ _ z2 (by omega) (by omega) h3
       · exact permIn_refl _ _ _
theorem zZH (N a:Nat) (j:Nat):∀ d:Array α,N≤d.size→j < N→PermIn 0 N d (insInner lt a j d):=by
 induction j with
 | zero=>intro d _ _;exact permIn_refl _ _ _
 | succ j ih=>
   intro d hd hj
   unfold insInner
   split
   · exact permIn_trans _ _ _ _ _ (swp_permIn d 0 N _ _ (by omega) (by omega) (by omega) (by omega) hd) (ih _ (by rw [size_swp];exact hd) (by omega))
   · exact permIn_refl _ _ _
theorem zRR (N a b:Nat) (hb:b≤N) (f:Nat):∀ (i:Nat) (d:Array α),b - i≤f→N≤d.size→PermIn 0 N d (insOuter lt a b i d):=by
 induction f with
 | zero=>
   intro i d h _
   unfold insOuter
   rw [if_neg (by omega)]
   exact permIn_refl _ _ _
 | succ f ih=>
   intro i d h hd
   unfold insOuter
   split
   · exact permIn_trans _ _ _ _ _ (zZH lt N a i d hd (by omega)) (ih _ _ (by omega) (by rw [zFW];exact hd))
   · exact permIn_refl _ _ _
theorem z8m (N:Nat) (d:Array α) (a b:Nat) (hb:b≤N) (hd:N≤d.size):PermIn 0 N d (Sort.insertionSort lt d a b):=zRR lt N a b hb _ _ d (Nat.le_refl _) hd
theorem z7e (N:Nat) (f:Nat):∀ (a:Nat) (d:Array α),N≤d.size→PermIn 0 N d (zSe lt f a N d).2∧(zSe lt f a N d).2.size=d.size:=by
 induction f with
 | zero=>intro a d _;exact ⟨permIn_refl _ _ _,rfl⟩
 | succ f ih=>
   intro a d hd
   unfold zSe
   split
   · have h:=ih (a+20) (Sort.insertionSort lt d a (a+20)) (by rw [zpf];exact hd)
     exact ⟨permIn_trans _ _ _ _ _ (z8m lt N d a (a+20) (by omega) hd) h.1,by rw [h.2,zpf]⟩
   · exact ⟨permIn_refl _ _ _,rfl⟩
theorem zIz (N bs:Nat) (hb:0 < bs) (f:Nat):∀ (a:Nat) (d:Array α),N≤d.size→PermIn 0 N d (zGU lt bs f a N d).2∧(zGU lt bs f a N d).2.size=d.size:=by
 induction f with
 | zero=>intro a d _;exact ⟨permIn_refl _ _ _,rfl⟩
 | succ f ih=>
   intro a d hd
   unfold zGU
   split
   · have h:=ih (a+2*bs) (symM lt (2*bs+1) a (a+bs) (a+2*bs) d) (by rw [zJ2];exact hd)
     exact ⟨permIn_trans _ _ _ _ _ (zCy lt N _ _ _ _ d hd (by omega) (by omega) (by omega)) h.1,by rw [h.2,zJ2]⟩
   · exact ⟨permIn_refl _ _ _,rfl⟩
theorem ztD (N bs:Nat) (hb:0 < bs) (d:Array α) (hd:N≤d.size):PermIn 0 N d (z8r lt bs N d)∧(z8r lt bs N d).size=d.size:=by
 unfold z8r
 dsimp only
 have h:=zIz lt N bs hb (N+1) 0 d hd
 split
 · exact ⟨permIn_trans _ _ _ _ _ h.1 (zCy lt N _ _ _ _ _ (by rw [h.2];exact hd) (by omega) (by omega) (Nat.le_refl _)),by rw [zJ2,h.2]⟩
 · exact h
theorem zX9 (N:Nat) (f:Nat):∀ (bs:Nat) (d:Array α),0 < bs→N≤d.size→PermIn 0 N d (z2U lt f bs N d):=by
 induction f with
 | zero=>intro bs d _ _;exact permIn_refl _ _ _
 | succ f ih=>
   intro bs d hb hd
   unfold z2U
   split
   · have h:=ztD lt N bs hb d hd
     exact permIn_trans _ _ _ _ _ h.1 (ih _ _ (by omega) (by rw [h.2];exact hd))
   · exact permIn_refl _ _ _
theorem z0F (d:Array α):PermIn 0 d.size d (zjN lt d):=by
 unfold zjN
 dsimp only
 have h:=z7e lt d.size (d.size+1) 0 d (Nat.le_refl _)
 have h2:=z8m lt d.size (zSe lt (d.size+1) 0 d.size d).2 (zSe lt (d.size+1) 0 d.size d).1 d.size (Nat.le_refl _) (by rw [h.2];exact Nat.le_refl _)
 exact permIn_trans _ _ _ _ _ (permIn_trans _ _ _ _ _ h.1 h2) (zX9 lt d.size _ 20 _ (by omega) (by rw [zpf,h.2];exact Nat.le_refl _))
end
theorem zBL (l:List OpV):(ordO l).Perm l:=by
 obtain ⟨h1,_,h3⟩:=z0F (ltOf ordC) l.toArray
 unfold ordO
 have e1:(zjN (ltOf ordC) l.toArray).extract 0 l.toArray.size=zjN (ltOf ordC) l.toArray:=by
  rw [←h1];simp
 have e2:l.toArray.extract 0 l.toArray.size=l.toArray:=by simp
 rw [e1,e2] at h3
 exact h3
end Go.Proofs.YtbbkihekjdffpaaGreatDoor.srch
