/- Several texts in one. -/
import Derived.Test.YtbbkihekjdffpaaGreatDoorSrchBX
import Derived.Laws.BitsAllLaws
import Derived.Sort.LotA
set_option maxHeartbeats 2000000
set_option maxRecDepth 100000
namespace Go.Proofs.YtbbkihekjdffpaaGreatDoor.srch
open Go.RowKit
section
variable {σ:Type} (doit:σ→OpV→σ×Int×Int) (ops:List OpV)
def zYl (c:Gr×σ)(p:Nat):Option (Gr×σ):=
 match ops[p]? with
 |none=>none
 |some o=>if gHas c.1 p||!zJn (ahG o.call ops 0 (0,0)) c.1 then none else if o.ret≠0∧((doit c.2 o).2.1,(doit c.2 o).2.2)≠(o.vk,o.vn)then none else some (zdS c.1 p,(doit c.2 o).1)
inductive PathW (c0:Gr×σ):List (Stp σ)→Gr×σ→Prop
 | nil:PathW c0 [] c0
 | snoc (l:List (Stp σ)) (s:Stp σ) (c:Gr×σ) (h:PathW c0 l (s.g,s.st)) (hs:zYl doit ops (s.g,s.st) s.pl=some c):PathW c0 (l++[s]) c
def Reach (c0 c:Gr×σ):Prop:=∃l,PathW doit ops c0 l c
theorem zyo [DecidableEq σ]{o:OpV}{m:Mch σ}(ho:ops[m.place]?=some o):
 (look doit ops o m=(false,{ m with place:=m.place+1 })∧∀t,zYl doit ops m.here m.place=some t→t∈m.seen)∨
 (∃t,zYl doit ops m.here m.place=some t∧t∉m.seen∧look doit ops o m=(true,{ m with way:=m.way++[⟨m.here.1,m.here.2,m.place⟩],here:=t,seen:=t::m.seen })):=by
 unfold look zYl;rw[ho];dsimp only;split
 ·exact .inl ⟨rfl,fun t h=>by cases h⟩
 ·split
  ·exact .inl ⟨rfl,fun t h=>by cases h⟩
  ·split
   ·rename_i h;exact .inl ⟨rfl,fun t ht=>by injection ht with ht;rw[←ht];exact h⟩
   ·rename_i h;exact .inr ⟨_,rfl,h,rfl⟩
theorem zDJ {c t:Gr×σ}{p:Nat}(h:zYl doit ops c p=some t):p<ops.length:=by
 unfold zYl at h;split at h
 ·cases h
 ·rename_i o ho;exact(zB ho).1
theorem zJ6 {c t:Gr×σ}{p:Nat}(h:zYl doit ops c p=some t):gHas c.1 p=false∧t.1=zdS c.1 p:=by
 unfold zYl at h;split at h
 ·cases h
 ·split at h
  ·cases h
  ·rename_i hc;split at h
   ·cases h
   ·injection h with h;rw[←h];refine⟨?_,rfl⟩;cases e:gHas c.1 p with
    |false=>rfl
    |true=>rw[e]at hc;simp at hc
def cntG (g:Gr):Nat:=((List.range 128).filter (fun q=>gHas g q)).length
theorem zBv {g:Gr}(hg:wfG g){p:Nat}(hp:p<128)(h:gHas g p=false):cntG (zdS g p)=cntG g+1:=by
 unfold cntG;have e:(List.range 128).filter (fun q=>gHas (zdS g p) q)=(List.range 128).filter (fun q=>decide (p=q)||gHas g q):=by
  refine List.filter_congr (fun q hq=>?_);exact zx7 hg p q hp (by simpa using hq)
 rw[e];have key:∀l:List Nat,l.Nodup→(l.filter (fun q=>decide (p=q)||gHas g q)).length=(l.filter (fun q=>gHas g q)).length+(if p∈l then 1 else 0):=by
  intro l
  induction l with
  |nil=>intro _;simp
  |cons a t ih=>
    intro hd;obtain⟨h1,h2⟩:=List.nodup_cons.1 hd;rw[List.filter_cons,List.filter_cons];by_cases hpa:p=a
    ·subst hpa;have:=ih h2;rw[if_neg h1]at this;simp[h,this]
    ·have:=ih h2;have hm:(p∈a::t)↔(p∈t):=(by simp[hpa]);simp only [hpa,decide_false,Bool.false_or,hm];split
     ·simp only [List.length_cons];omega
     ·exact this
 rw[key _ List.nodup_range,if_pos (by simpa using hp)]
theorem zXL:cntG (0,0)=0:=by
 unfold cntG;rw[List.filter_eq_nil_iff.2 (fun q _=>by rw[z4a];simp)];rfl
theorem zIM (hn:ops.length≤128){s0:σ}{l:List (Stp σ)}{c:Gr×σ}(h:PathW doit ops ((0,0),s0) l c):wfG c.1∧cntG c.1=l.length:=by
 induction h with
 |nil=>exact⟨wf_zero,zXL⟩
 |snoc l s c h hs ih=>
   obtain⟨h1,h2⟩:=zJ6 doit ops hs;have h3:=zDJ doit ops hs;rw[h2];refine⟨zgs ih.1 _,?_⟩;rw[zBv ih.1 (by omega) h1,ih.2,zI];rfl
theorem path_lt {c0:Gr×σ}{l:List (Stp σ)}{c:Gr×σ}(h:PathW doit ops c0 l c):∀s∈l,s.pl<ops.length:=by
 induction h with
 |nil=>intro s hs;cases hs
 |snoc l s c h hs ih=>
   intro x hx;rcases List.mem_append.1 hx with hx|hx
   ·exact ih x hx
   ·rw[List.mem_singleton]at hx;subst hx;exact zDJ doit ops hs
theorem zpd {c0:Gr×σ}{l:List (Stp σ)}{s:Stp σ}{c:Gr×σ}(h:PathW doit ops c0 (l++[s]) c):PathW doit ops c0 l (s.g,s.st)∧zYl doit ops (s.g,s.st) s.pl=some c:=by
 generalize hq:l++[s]=q at h;cases h with
 |nil=>simp at hq
 |snoc l2 s2 c2 h2 hs2=>
   obtain⟨e1,e2⟩:=List.append_inj' hq rfl;injection e2 with e2;subst e1 e2;exact⟨h2,hs2⟩
def restW (n:Nat)(l:List (Stp σ)):Nat:=(l.map (fun s=>n-(s.pl+1))).sum
theorem zE5 (n:Nat)(l:List (Stp σ))(s:Stp σ):restW n (l++[s])=restW n l+(n-(s.pl+1)):=by
 unfold restW;rw[List.map_append,List.sum_append];simp
structure DI (s0:σ)(b0 b:Int)(fo:Bool)(m:Mch σ):Prop where
 path:PathW doit ops ((0,0),s0) m.way m.here
 nd:(((0,0),s0)::m.seen).Nodup
 reach:∀c∈m.seen,Reach doit ops ((0,0),s0) c
 mem:m.here∈((0,0),s0)::m.seen
 frm:∀s∈m.way,((s.g,s.st):Gr×σ)∈((0,0),s0)::m.seen
 not:∀c∈((0,0),s0)::m.seen,(c=m.here∧fo=true)∨(zJn (retG ops 0 (0,0)) c.1=false∧cntG c.1≤m.longest.length)
 close:∀c∈((0,0),s0)::m.seen,∀p t,zYl doit ops c p=some t→t∈m.seen∨(c=m.here∧(fo=true∨m.place≤p))∨∃s∈m.way,c=(s.g,s.st)∧s.pl<p
 lng:∃l c,PathW doit ops ((0,0),s0) l c∧m.longest=takenL ops l
 pl:m.place≤ops.length
 cost:b0-b+(ops.length-(if fo then 0 else m.place):Nat)+(restW ops.length m.way:Nat)≤(ops.length*(m.seen.length+1):Nat)
def Told (s0:σ)(b0:Int)(r:Out):Prop:=
 ∃vis:List (Gr×σ),vis.Nodup∧(∀c∈vis,Reach doit ops ((0,0),s0) c)∧
  ((r.verdict=0∧(b0≤0∨b0<(ops.length*vis.length:Nat)))∨
   (r.verdict=1∧b0-r.left≤(ops.length*vis.length:Nat)∧∃l c,PathW doit ops ((0,0),s0) l c∧zJn (retG ops 0 (0,0)) c.1=true∧r.order=takenL ops l)∨
   (r.verdict=2∧b0-r.left≤(ops.length*vis.length:Nat)∧(∃l c,PathW doit ops ((0,0),s0) l c∧r.order=takenL ops l)∧∀c,Reach doit ops ((0,0),s0) c→zJn (retG ops 0 (0,0)) c.1=false∧cntG c.1≤r.order.length))
theorem zBJ [DecidableEq σ](hn:ops.length≤128)(s0:σ)(b0:Int)(f:Nat):∀(b:Int) (fo:Bool) (m:Mch σ) (r:Out),DI doit ops s0 b0 b fo m→(0≤b∨b=b0)→srun doit ops f b fo m=some r→Told doit ops s0 b0 r:=by
 induction f with
 |zero=>intro b fo m r _ _ h;simp[srun]at h
 |succ f ih=>
   intro b fo m r hd hb h;have hvr:∀c∈((0,0),s0)::m.seen,Reach doit ops ((0,0),s0) c:=by
    intro c hc;rcases List.mem_cons.1 hc with rfl|hc
    ·exact⟨[],.nil⟩
    ·exact hd.reach c hc
   cases fo with
   |true=>
     unfold srun at h;split at h
     ·rename_i hw;injection h with h;subst h;refine⟨_,hd.nd,hvr,.inr (.inl ⟨rfl,?_,_,_,hd.path,hw,rfl⟩)⟩;have:=hd.cost;simp only [List.length_cons];show b0-b≤_;omega
     ·rename_i hw;refine ih _ _ _ _ ?_ hb h;have hw':zJn (retG ops 0 (0,0)) m.here.1=false:=(by simpa using hw);have hlen:(if m.longest.length<m.way.length then takenL ops m.way else m.longest).length=max m.longest.length m.way.length:=by
       split
       ·rw[zUxG ops m.way (path_lt doit ops hd.path)];omega
       ·omega
      refine⟨hd.path,hd.nd,hd.reach,hd.mem,hd.frm,?_,?_,?_,Nat.zero_le _,?_⟩
      ·intro c hc;right;dsimp only;rw[hlen];rcases hd.not c hc with ⟨rfl,_⟩|⟨h1,h2⟩
       ·exact⟨hw',by rw[(zIM doit ops hn hd.path).2];omega⟩
       ·exact⟨h1,by omega⟩
      ·intro c hc p t ht;rcases hd.close c hc p t ht with h1|⟨h1,_⟩|h1
       ·exact .inl h1
       ·exact .inr (.inl ⟨h1,.inr (Nat.zero_le _)⟩)
       ·exact .inr (.inr h1)
      ·dsimp only;split
       ·exact⟨_,_,hd.path,rfl⟩
       ·exact hd.lng
      ·have:=hd.cost;dsimp only;simpa using this
   |false=>
     unfold srun at h;cases ho:ops[m.place]? with
     |some o=>
       have hpl:m.place<ops.length:=(zB ho).1;have hco:=hd.cost;simp only [Bool.false_eq_true,if_false]at hco;rw[ho]at h;dsimp only at h;split at h
       ·injection h with h;subst h;refine⟨_,hd.nd,hvr,.inl ⟨rfl,?_⟩⟩;simp only [List.length_cons];omega
       ·rename_i hb0;rcases zyo doit ops ho with ⟨e,hno⟩|⟨t,hst,hnew,e⟩
        ·rw[e]at h;refine ih _ _ _ _ ?_ (.inl (by omega)) h;refine⟨hd.path,hd.nd,hd.reach,hd.mem,hd.frm,?_,?_,hd.lng,hpl,?_⟩
         ·intro c hc;rcases hd.not c hc with ⟨_,h2⟩|h1
          ·cases h2
          ·exact .inr h1
         ·intro c hc p t' ht;rcases hd.close c hc p t' ht with h1|⟨h1,h2⟩|h1
          ·exact .inl h1
          ·rcases h2 with h2|h2
           ·cases h2
           ·by_cases hp:p=m.place
            ·subst hp;subst h1;exact .inl (hno t' ht)
            ·exact .inr (.inl ⟨h1,.inr (by show m.place+1≤p;omega)⟩)
          ·exact .inr (.inr h1)
         ·dsimp only;simp only [Bool.false_eq_true,if_false];omega
        ·rw[e]at h;have hp2:PathW doit ops ((0,0),s0) (m.way++[⟨m.here.1,m.here.2,m.place⟩]) t:=.snoc _ _ _ hd.path hst;refine ih _ _ _ _ ?_ (.inl (by omega)) h;have ht0:t≠((0,0),s0):=by
          intro e0;have h1:=(zIM doit ops hn hp2).2;rw[e0,zXL,zI]at h1;simp at h1
         refine⟨hp2,?_,?_,?_,?_,?_,?_,hd.lng,hd.pl,?_⟩
         ·dsimp only;have h0:=hd.nd;rw[List.nodup_cons]at h0⊢;rw[List.nodup_cons];exact⟨by simp only [List.mem_cons,not_or];exact⟨fun x=>ht0 x.symm,h0.1⟩,hnew,h0.2⟩
         ·intro c hc;rcases List.mem_cons.1 hc with rfl|hc
          ·exact⟨_,hp2⟩
          ·exact hd.reach c hc
         ·simp
         ·intro x hx;dsimp only at hx⊢;rcases List.mem_append.1 hx with hx|hx
          ·have:=hd.frm x hx;simp only [List.mem_cons]at this⊢;rcases this with h1|h1
           ·exact .inl h1
           ·exact .inr (.inr h1)
          ·rw[List.mem_singleton]at hx;subst hx;have:=hd.mem;simp only [List.mem_cons]at this⊢;rcases this with h1|h1
           ·exact .inl h1
           ·exact .inr (.inr h1)
         ·intro c hc;dsimp only at hc⊢;by_cases hct:c=t
          ·exact .inl ⟨hct,rfl⟩
          ·have hc':c∈((0,0),s0)::m.seen:=by
            simp only [List.mem_cons]at hc⊢;rcases hc with h1|h1|h1
            ·exact .inl h1
            ·exact absurd h1 hct
            ·exact .inr h1
           rcases hd.not c hc' with ⟨_,h2⟩|h1
           ·cases h2
           ·exact .inr h1
         ·intro c hc p t' ht;dsimp only at hc⊢;by_cases hct:c=t
          ·exact .inr (.inl ⟨hct,.inl rfl⟩)
          ·have hc':c∈((0,0),s0)::m.seen:=by
            simp only [List.mem_cons]at hc⊢;rcases hc with h1|h1|h1
            ·exact .inl h1
            ·exact absurd h1 hct
            ·exact .inr h1
           rcases hd.close c hc' p t' ht with h1|⟨h1,h2⟩|⟨s,hs,h1,h2⟩
           ·exact .inl (List.mem_cons_of_mem _ h1)
           ·rcases h2 with h2|h2
            ·cases h2
            ·by_cases hp:p=m.place
             ·subst hp;subst h1;rw[hst]at ht;injection ht with ht;exact .inl (by rw[←ht];simp)
             ·exact .inr (.inr ⟨⟨m.here.1,m.here.2,m.place⟩,by simp,h1,by show m.place<p;omega⟩)
           ·exact .inr (.inr ⟨s,by simp[hs],h1,h2⟩)
         ·dsimp only;rw[zE5];simp only [if_true,List.length_cons,Nat.sub_zero];have:ops.length*(m.seen.length+1+1)=ops.length*(m.seen.length+1)+ops.length:=Nat.mul_succ _ _;rw[this];omega
     |none=>
       have hpl:ops.length≤m.place:=by
        rcases Nat.lt_or_ge m.place ops.length with h1|h1
        ·rw[zC h1]at ho;cases ho
        ·exact h1
       have hco:=hd.cost;simp only [Bool.false_eq_true,if_false]at hco;rw[ho]at h;dsimp only at h;cases hl:m.way.getLast? with
       |none=>
         rw[hl]at h;injection h with h;subst h;have hw:m.way=[]:=List.getLast?_eq_none_iff.1 hl;have hclosed:∀c∈((0,0),s0)::m.seen,∀p t,zYl doit ops c p=some t→t∈m.seen:=by
          intro c hc p t ht;rcases hd.close c hc p t ht with h1|⟨_,h2⟩|⟨s,hs,_⟩
          ·exact h1
          ·rcases h2 with h2|h2
           ·cases h2
           ·have:=zDJ doit ops ht;omega
          ·rw[hw]at hs;cases hs
         have hall:∀l c,PathW doit ops ((0,0),s0) l c→c∈((0,0),s0)::m.seen:=by
          intro l c hp
          induction hp with
          |nil=>simp
          |snoc l s c h hs ih2=>exact List.mem_cons_of_mem _ (hclosed _ ih2 _ _ hs)
         refine⟨_,hd.nd,hvr,.inr (.inr ⟨rfl,?_,hd.lng,?_⟩)⟩
         ·simp only [List.length_cons];show b0-b≤_;omega
         ·intro c ⟨l,hp⟩;rcases hd.not c (hall l c hp)with ⟨_,h2⟩|h1
          ·cases h2
          ·exact h1
       |some s=>
         rw[hl]at h;dsimp only at h;obtain⟨l,hls⟩:∃l,m.way=l++[s]:=List.getLast?_eq_some_iff.1 hl;have hpath:=hd.path;rw[hls]at hpath;have hp2:=zpd doit ops hpath;have hdl:m.way.dropLast=l:=(by rw[hls,List.dropLast_concat]);refine ih _ _ _ _ ?_ hb h;have hmem:((s.g,s.st):Gr×σ)∈((0,0),s0)::m.seen:=hd.frm s (by rw[hls];simp);refine⟨by dsimp only;rw[hdl];exact hp2.1,hd.nd,hd.reach,hmem,fun x hx=>by dsimp only at hx;rw[hdl]at hx;exact hd.frm x (by rw[hls];simp[hx]),?_,?_,hd.lng,zDJ doit ops hp2.2,?_⟩
         ·intro c hc;rcases hd.not c hc with ⟨_,h2⟩|h1
          ·cases h2
          ·exact .inr h1
         ·intro c hc p t ht;dsimp only;rw[hdl];rcases hd.close c hc p t ht with h1|⟨_,h2⟩|⟨s2,hs2,h1,h2⟩
          ·exact .inl h1
          ·rcases h2 with h2|h2
           ·cases h2
           ·have:=zDJ doit ops ht;omega
          ·rw[hls]at hs2;rcases List.mem_append.1 hs2 with hs2|hs2
           ·exact .inr (.inr ⟨s2,hs2,h1,h2⟩)
           ·rw[List.mem_singleton]at hs2;subst hs2;exact .inr (.inl ⟨h1,.inr h2⟩)
         ·dsimp only;rw[hdl];rw[hls,zE5]at hco;simp only [Bool.false_eq_true,if_false];omega
theorem Found.told [DecidableEq σ](hn:ops.length≤128){s0:σ}{b:Int}{r:Out}(h:Found doit ops s0 b r):Told doit ops s0 b r:=by
 obtain⟨f,h⟩:=h;refine zBJ doit ops hn s0 b f b true _ r ⟨.nil,by simp,fun c hc=>by simp at hc,by simp,fun s hs=>by simp at hs,fun c hc=>.inl ⟨by simpa using hc,rfl⟩,fun c hc p t ht=>.inr (.inl ⟨by simpa using hc,.inl rfl⟩),⟨[],_,.nil,rfl⟩,Nat.zero_le _,?_⟩ (.inr rfl) h;simp[restW]
end
theorem z5a (a b:Nat)(ha:a<18446744073709551616)(hb:b<18446744073709551616):(bits .andNot .u64 (a:Int) (b:Int) != 0)=false↔∀i,i<64→a.testBit i=true→b.testBit i=true:=by
 rw[u64_andNot_nat a b ha hb];have key:∀i,(a &&& (18446744073709551615-b)).testBit i=(a.testBit i&&(decide (i<64)&&!b.testBit i)):=by
  intro i;rw[Nat.testBit_and];congr 1;have:=Nat.testBit_two_pow_sub_succ (x:=b) (n:=64) (by simpa using hb) i;rw[←this];congr 1;omega
 constructor
 ·intro h i hi hai;have h0:a &&& (18446744073709551615-b)=0:=by
   have:(((a &&& (18446744073709551615-b):Nat):Int)==0)=true:=by simpa using h
   exact_mod_cast (beq_iff_eq.1 this)
  have:=key i;rw[h0,Nat.zero_testBit,hai]at this;cases hb':b.testBit i with
  |true=>rfl
  |false=>rw[hb']at this;simp[hi]at this
 ·intro h;have h0:a &&& (18446744073709551615-b)=0:=by
   apply Nat.eq_of_testBit_eq;intro i;rw[key,Nat.zero_testBit];by_cases hi:i<64
   ·cases hai:a.testBit i with
    |false=>rfl
    |true=>rw[h i hi hai];simp
   ·simp[hi]
  rw[h0];rfl
theorem zcR {g h:Gr}(hg:wfG g)(hh:wfG h):zJn g h=true↔∀q,q<128→gHas g q=true→gHas h q=true:=by
 obtain⟨x,y⟩:=g;obtain⟨x',y'⟩:=h;obtain⟨⟨a1,a2⟩,b1,b2⟩:=hg;obtain⟨⟨c1,c2⟩,d1,d2⟩:=hh;dsimp only at a1 a2 b1 b2 c1 c2 d1 d2;obtain⟨x,rfl⟩:=Int.eq_ofNat_of_zero_le a1;obtain⟨y,rfl⟩:=Int.eq_ofNat_of_zero_le b1;obtain⟨x',rfl⟩:=Int.eq_ofNat_of_zero_le c1;obtain⟨y',rfl⟩:=Int.eq_ofNat_of_zero_le d1;have hx:x<18446744073709551616:=by omega
 have hy:y<18446744073709551616:=by omega
 have hx':x'<18446744073709551616:=by omega
 have hy':y'<18446744073709551616:=by omega
 have e1:=z5a x x' hx hx';have e2:=z5a y y' hy hy';unfold zJn gHas;dsimp only;rw[Bool.and_eq_true,Bool.not_eq_true',Bool.not_eq_true',e1,e2];constructor
 ·intro ⟨h1,h2⟩ q hq;have hm:q%64<64:=Nat.mod_lt _ (by omega);by_cases h64:q<64
  ·rw[if_pos h64,if_pos h64,bit_of x hx,bit_of x' hx'];exact h1 _ hm
  ·rw[if_neg h64,if_neg h64,bit_of y hy,bit_of y' hy'];exact h2 _ hm
 ·intro h;refine⟨fun i hi=>?_,fun i hi=>?_⟩
  ·have:=h i (by omega);rw[if_pos hi,if_pos hi,Nat.mod_eq_of_lt hi,bit_of x hx,bit_of x' hx']at this;exact this
  ·have:=h (64+i) (by omega);rw[if_neg (by omega),if_neg (by omega),show(64+i)%64=i by omega,bit_of y hy,bit_of y' hy']at this;exact this
theorem zee (call:Int)(l:List OpV):∀(p:Nat) (g:Gr),wfG g→wfG (ahG call l p g):=by
 induction l with
 |nil=>intro p g h;exact h
 |cons o r ih=>
   intro p g h;unfold ahG;apply ih;split
   ·exact zgs h p
   ·exact h
theorem z0k (l:List OpV):∀(p:Nat) (g:Gr),wfG g→wfG (retG l p g):=by
 induction l with
 |nil=>intro p g h;exact h
 |cons o r ih=>
   intro p g h;unfold retG;apply ih;split
   ·exact h
   ·exact zgs h p
theorem zlF (call:Int)(l:List OpV):∀(p:Nat) (g:Gr),wfG g→p+l.length≤128→∀q,q<128→(gHas (ahG call l p g) q=true↔gHas g q=true∨∃i o,q=p+i∧l[i]?=some o∧ahB o call=true):=by
 induction l with
 |nil=>intro p g _ _ q _;simp[ahG]
 |cons o r ih=>
   intro p g h hp q hq;simp only [List.length_cons]at hp;unfold ahG;have hw:wfG (if ahB o call then zdS g p else g):=by
    split
    ·exact zgs h p
    ·exact h
   rw[ih (p+1) _ hw (by omega) q hq];have hx:(gHas (if ahB o call then zdS g p else g) q=true)↔(gHas g q=true∨(q=p∧ahB o call=true)):=by
    split
    ·rename_i ha;rw[zx7 h p q (by omega) hq,Bool.or_eq_true,decide_eq_true_eq];constructor
     ·rintro(rfl|h1)
      ·exact .inr ⟨rfl,ha⟩
      ·exact .inl h1
     ·rintro(h1|⟨rfl,_⟩)
      ·exact .inr h1
      ·exact .inl rfl
    ·rename_i ha;simp[ha]
   rw[hx];constructor
   ·rintro((h1|⟨rfl,h2⟩)|⟨i,o',h1,h2,h3⟩)
    ·exact .inl h1
    ·exact .inr ⟨0,o,by omega,by simp,h2⟩
    ·exact .inr ⟨i+1,o',by omega,by simpa using h2,h3⟩
   ·rintro(h1|⟨i,o',h1,h2,h3⟩)
    ·exact .inl (.inl h1)
    ·cases i with
     |zero=>simp at h2;subst h2;exact .inl (.inr ⟨by omega,h3⟩)
     |succ i=>exact .inr ⟨i,o',by omega,by simpa using h2,h3⟩
theorem zPV (l:List OpV):∀(p:Nat) (g:Gr),wfG g→p+l.length≤128→∀q,q<128→(gHas (retG l p g) q=true↔gHas g q=true∨∃i o,q=p+i∧l[i]?=some o∧o.ret≠0):=by
 induction l with
 |nil=>intro p g _ _ q _;simp[retG]
 |cons o r ih=>
   intro p g h hp q hq;simp only [List.length_cons]at hp;unfold retG;have hw:wfG (if o.ret=0 then g else zdS g p):=by
    split
    ·exact h
    ·exact zgs h p
   rw[ih (p+1) _ hw (by omega) q hq];have hx:(gHas (if o.ret=0 then g else zdS g p) q=true)↔(gHas g q=true∨(q=p∧o.ret≠0)):=by
    split
    ·rename_i ha;simp[ha]
    ·rename_i ha;rw[zx7 h p q (by omega) hq,Bool.or_eq_true,decide_eq_true_eq];constructor
     ·rintro(rfl|h1)
      ·exact .inr ⟨rfl,ha⟩
      ·exact .inl h1
     ·rintro(h1|⟨rfl,_⟩)
      ·exact .inr h1
      ·exact .inl rfl
   rw[hx];constructor
   ·rintro((h1|⟨rfl,h2⟩)|⟨i,o',h1,h2,h3⟩)
    ·exact .inl h1
    ·exact .inr ⟨0,o,by omega,by simp,h2⟩
    ·exact .inr ⟨i+1,o',by omega,by simpa using h2,h3⟩
   ·rintro(h1|⟨i,o',h1,h2,h3⟩)
    ·exact .inl (.inl h1)
    ·cases i with
     |zero=>simp at h2;subst h2;exact .inl (.inr ⟨by omega,h3⟩)
     |succ i=>exact .inr ⟨i,o',by omega,by simpa using h2,h3⟩
theorem zcZ {ops:List OpV}(hn:ops.length≤128){g:Gr}(hg:wfG g)(call:Int):zJn (ahG call ops 0 (0,0)) g=true↔∀q o,ops[q]?=some o→ahB o call=true→gHas g q=true:=by
 rw[zcR (zee _ _ _ _ wf_zero) hg];constructor
 ·intro h q o hq ha;have hlt:=(zB hq).1;exact h q (by omega) ((zlF call ops 0 (0,0) wf_zero (by omega) q (by omega)).2 (.inr ⟨q,o,by omega,hq,ha⟩))
 ·intro h q hq hh;rcases(zlF call ops 0 (0,0) wf_zero (by omega) q hq).1 hh with h1|⟨i,o,rfl,h2,h3⟩
  ·rw[z4a]at h1;cases h1
  ·rw[Nat.zero_add];exact h i o h2 h3
theorem z6g {ops:List OpV}(hn:ops.length≤128){g:Gr}(hg:wfG g):zJn (retG ops 0 (0,0)) g=true↔∀q o,ops[q]?=some o→o.ret≠0→gHas g q=true:=by
 rw[zcR (z0k _ _ _ wf_zero) hg];constructor
 ·intro h q o hq ha;have hlt:=(zB hq).1;exact h q (by omega) ((zPV ops 0 (0,0) wf_zero (by omega) q (by omega)).2 (.inr ⟨q,o,by omega,hq,ha⟩))
 ·intro h q hq hh;rcases(zPV ops 0 (0,0) wf_zero (by omega) q hq).1 hh with h1|⟨i,o,rfl,h2,h3⟩
  ·rw[z4a]at h1;cases h1
  ·rw[Nat.zero_add];exact h i o h2 h3
section
variable {σ:Type} (doit:σ→OpV→σ×Int×Int) (ops:List OpV)
theorem zZu (hn:ops.length≤128){c:Gr×σ}(hc:wfG c.1){p:Nat}{t:Gr×σ}:zYl doit ops c p=some t↔∃o,ops[p]?=some o∧gHas c.1 p=false∧(∀q o',ops[q]?=some o'→ahB o' o.call=true→gHas c.1 q=true)∧(o.ret≠0→((doit c.2 o).2.1,(doit c.2 o).2.2)=(o.vk,o.vn))∧t=(zdS c.1 p,(doit c.2 o).1):=by
 unfold zYl;cases ho:ops[p]? with
 |none=>simp
 |some o=>
   dsimp only;have ha:=zcZ hn hc o.call;constructor
   ·intro h;split at h
    ·cases h
    ·rename_i h1;split at h
     ·cases h
     ·rename_i h2;injection h with h;simp only [Bool.or_eq_true,Bool.not_eq_true',not_or,Bool.not_eq_true,Bool.not_eq_false]at h1;refine⟨o,rfl,h1.1,ha.1 h1.2,fun hr=>?_,h.symm⟩;exact Decidable.byContradiction fun hh=>h2 ⟨hr,hh⟩
   ·rintro⟨o',e,h1,h2,h3,rfl⟩;injection e with e;subst e;rw[if_neg (by simp[h1,ha.2 h2]),if_neg (fun hh=>hh.2 (h3 hh.1))]
end
theorem ziO {α:Type} [DecidableEq α](l:List α):∀m:List α,l.Nodup→(∀x∈l,x∈m)→l.length≤m.length:=by
 induction l with
 |nil=>intro m _ _;exact Nat.zero_le _
 |cons a t ih=>
   intro m hd hs;obtain⟨h1,h2⟩:=List.nodup_cons.1 hd;have ha:=hs a (by simp);have:=ih (m.erase a) h2 (fun x hx=>(List.mem_erase_of_ne (fun(e:x=a)=>h1 (by rw[←e];exact hx))).2 (hs x (by simp[hx])));rw[List.length_erase_of_mem ha]at this;have hp:0<m.length:=List.length_pos_of_mem ha;simp only [List.length_cons];omega
section
variable {σ:Type} (doit:σ→OpV→σ×Int×Int) (ops:List OpV)
theorem zxD (hn:ops.length≤128){s0:σ}{l:List (Stp σ)}{c:Gr×σ}(h:PathW doit ops ((0,0),s0) l c):(l.map (·.pl)).Nodup∧∀q,q<128→(gHas c.1 q=true↔q∈l.map (·.pl)):=by
 induction h with
 |nil=>exact⟨by simp,fun q _=>by rw[z4a];simp⟩
 |snoc l s c h hs ih=>
   obtain⟨h1,h2⟩:=zJ6 doit ops hs;have h3:=zDJ doit ops hs;have hw:=(zIM doit ops hn h).1;refine⟨?_,fun q hq=>?_⟩
   ·rw[List.map_append,List.nodup_append];refine⟨ih.1,by simp,fun a ha b hb=>?_⟩;simp at hb;subst hb;intro e;subst e;have:=(ih.2 _ (by omega)).2 ha;rw[h1]at this;cases this
   ·rw[h2,zx7 hw _ _ (by omega) hq,Bool.or_eq_true,decide_eq_true_eq,ih.2 q hq,List.map_append,List.mem_append];simp only [List.map_cons,List.map_nil,List.mem_singleton];constructor
    ·rintro(h|h)
     ·exact .inr h.symm
     ·exact .inl h
    ·rintro(h|h)
     ·exact .inr h
     ·exact .inl h.symm
def zNA (ops:List OpV):Prop:=∀(p q:Nat) (o o':OpV),ops[p]?=some o→ops[q]?=some o'→p≠q→o.cl=o'.cl→ahB o o'.call=true∨ahB o' o.call=true
end
open Go.Sort (swp size_swp insInner insOuter PermIn swp_permIn permIn_refl permIn_trans permIn_mono)
section
variable {α:Type} [Inhabited α] (lt:α→α→Bool)
theorem zW4 (N a b:Nat)(n:Nat):∀(i:Nat) (d:Array α),N≤d.size→a+i+n≤N→b+i+n≤N→PermIn 0 N d (swLoop a b n i d):=by
 induction n with
 |zero=>intro i d _ _ _;exact permIn_refl _ _ _
 |succ n ih=>
   intro i d hd h1 h2;have p1:=swp_permIn d 0 N (a+i) (b+i) (by omega) (by omega) (by omega) (by omega) hd;exact permIn_trans _ _ _ _ _ p1 (ih (i+1) _ (by rw[size_swp];exact hd) (by omega) (by omega))
theorem zMw (N m:Nat)(f:Nat):∀(i j:Nat) (d:Array α),N≤d.size→i≤m→m+j≤N→PermIn 0 N d (rotLoop m f i j d):=by
 induction f with
 |zero=>intro i j d _ _ _;exact permIn_refl _ _ _
 |succ f ih=>
   intro i j d hd h1 h2;unfold rotLoop;split
   ·exact zW4 N _ _ _ 0 d hd (by omega) (by omega)
   ·split
    ·exact permIn_trans _ _ _ _ _ (zW4 N (m-i) m j 0 d hd (by omega) (by omega)) (ih _ _ _ (by rw[zWt];exact hd) (by omega) h2)
    ·exact permIn_trans _ _ _ _ _ (zW4 N (m-i) (m+j-i) i 0 d hd (by omega) (by omega)) (ih _ _ _ (by rw[zWt];exact hd) h1 (by omega))
theorem zpS (N:Nat)(d:Array α)(a m b:Nat)(hd:N≤d.size)(h1:m≤b)(h2:b≤N):PermIn 0 N d (rot d a m b):=zMw N m _ _ _ d hd (by omega) (by omega)
theorem zUo (N e f:Nat)(he:e<N):∀(k:Nat) (d:Array α),N≤d.size→PermIn 0 N d (upTo e f k d):=by
 induction f with
 |zero=>intro k d _;exact permIn_refl _ _ _
 |succ f ih=>
   intro k d hd;unfold upTo;split
   ·exact permIn_trans _ _ _ _ _ (swp_permIn d 0 N k (k+1) (by omega) (by omega) (by omega) (by omega) hd) (ih _ _ (by rw[size_swp];exact hd))
   ·exact permIn_refl _ _ _
theorem zxe (N e f:Nat):∀(k:Nat) (d:Array α),N≤d.size→k<N→PermIn 0 N d (downTo e f k d):=by
 induction f with
 |zero=>intro k d _ _;exact permIn_refl _ _ _
 |succ f ih=>
   intro k d hd hk;unfold downTo;split
   ·exact permIn_trans _ _ _ _ _ (swp_permIn d 0 N k (k-1) (by omega) (by omega) (by omega) (by omega) hd) (ih _ _ (by rw[size_swp];exact hd) (by omega))
   ·exact permIn_refl _ _ _
theorem zCv (d:Array α)(a m b:Nat)(h1:a≤m)(h2:m≤b):(if(a+b)/2<m then(a+b)/2+m-b else a)≤zzQ lt d a m b∧zzQ lt d a m b≤(if(a+b)/2<m then(a+b)/2 else m):=by
 unfold zzQ;dsimp only;exact zw6 _ _ _ _ (by split<;>omega)
theorem zCy (N:Nat)(f:Nat):∀(a m b:Nat) (d:Array α),N≤d.size→a<m→m<b→b≤N→PermIn 0 N d (symM lt f a m b d):=by
 induction f with
 |zero=>intro a m b d _ _ _ _;exact permIn_refl _ _ _
 |succ f ih=>
   intro a m b d hd h1 h2 h3;unfold symM;dsimp only;split
   ·have:=zw6 (fun h=>lt d[h]! d[a]!) (b-m+1) m b (by omega);exact zUo N _ _ (by omega) _ d hd
   ·split
    ·exact zxe N _ _ _ d hd (by omega)
    ·have hs:=zCv lt d a m b (by omega) (by omega);generalize zzQ lt d a m b=st at hs⊢;have hs1:(a+b)/2+m-st≤b:=(by split at hs<;>omega);have p1:PermIn 0 N d (if st<m∧m<(a+b)/2+m-st then rot d st m ((a+b)/2+m-st)else d):=by
      split
      ·exact zpS N d st m _ hd (by omega) (by omega)
      ·exact permIn_refl _ _ _
     have z1:N≤(if st<m∧m<(a+b)/2+m-st then rot d st m ((a+b)/2+m-st)else d).size:=by
      split
      ·rw[zdT];exact hd
      ·exact hd
     generalize (if st<m∧m<(a+b)/2+m-st then rot d st m ((a+b)/2+m-st)else d)=d1 at p1 z1⊢;have p2:PermIn 0 N d1 (if a<st∧st<(a+b)/2 then symM lt f a st ((a+b)/2) d1 else d1):=by
      split
      ·exact ih _ _ _ _ z1 (by omega) (by omega) (by omega)
      ·exact permIn_refl _ _ _
     have z2:N≤(if a<st∧st<(a+b)/2 then symM lt f a st ((a+b)/2) d1 else d1).size:=by
      split
      ·rw[zJ2];exact z1
      ·exact z1
     generalize (if a<st∧st<(a+b)/2 then symM lt f a st ((a+b)/2) d1 else d1)=d2 at p2 z2⊢;refine permIn_trans _ _ _ _ _ (permIn_trans _ _ _ _ _ p1 p2) ?_;split
     ·exact ih _ _ _ _ z2 (by omega) (by omega) h3
     ·exact permIn_refl _ _ _
theorem zZH (N a:Nat)(j:Nat):∀d:Array α,N≤d.size→j<N→PermIn 0 N d (insInner lt a j d):=by
 induction j with
 |zero=>intro d _ _;exact permIn_refl _ _ _
 |succ j ih=>
   intro d hd hj;unfold insInner;split
   ·exact permIn_trans _ _ _ _ _ (swp_permIn d 0 N _ _ (by omega) (by omega) (by omega) (by omega) hd) (ih _ (by rw[size_swp];exact hd) (by omega))
   ·exact permIn_refl _ _ _
theorem zRR (N a b:Nat)(hb:b≤N)(f:Nat):∀(i:Nat) (d:Array α),b-i≤f→N≤d.size→PermIn 0 N d (insOuter lt a b i d):=by
 induction f with
 |zero=>
   intro i d h _;unfold insOuter;rw[if_neg (by omega)];exact permIn_refl _ _ _
 |succ f ih=>
   intro i d h hd;unfold insOuter;split
   ·exact permIn_trans _ _ _ _ _ (zZH lt N a i d hd (by omega)) (ih _ _ (by omega) (by rw[zFW];exact hd))
   ·exact permIn_refl _ _ _
theorem z8m (N:Nat)(d:Array α)(a b:Nat)(hb:b≤N)(hd:N≤d.size):PermIn 0 N d (Sort.insertionSort lt d a b):=zRR lt N a b hb _ _ d zG hd
theorem z7e (N:Nat)(f:Nat):∀(a:Nat) (d:Array α),N≤d.size→PermIn 0 N d (zSe lt f a N d).2∧(zSe lt f a N d).2.size=d.size:=by
 induction f with
 |zero=>intro a d _;exact⟨permIn_refl _ _ _,rfl⟩
 |succ f ih=>
   intro a d hd;unfold zSe;split
   ·have h:=ih (a+20) (Sort.insertionSort lt d a (a+20)) (by rw[zpf];exact hd);exact⟨permIn_trans _ _ _ _ _ (z8m lt N d a (a+20) (by omega) hd) h.1,by rw[h.2,zpf]⟩
   ·exact⟨permIn_refl _ _ _,rfl⟩
theorem zIz (N bs:Nat)(hb:0<bs)(f:Nat):∀(a:Nat) (d:Array α),N≤d.size→PermIn 0 N d (zHU lt bs f a N d).2∧(zHU lt bs f a N d).2.size=d.size:=by
 induction f with
 |zero=>intro a d _;exact⟨permIn_refl _ _ _,rfl⟩
 |succ f ih=>
   intro a d hd;unfold zHU;split
   ·have h:=ih (a+2*bs) (symM lt (2*bs+1) a (a+bs) (a+2*bs) d) (by rw[zJ2];exact hd);exact⟨permIn_trans _ _ _ _ _ (zCy lt N _ _ _ _ d hd (by omega) (by omega) (by omega)) h.1,by rw[h.2,zJ2]⟩
   ·exact⟨permIn_refl _ _ _,rfl⟩
theorem ztD (N bs:Nat)(hb:0<bs)(d:Array α)(hd:N≤d.size):PermIn 0 N d (z8r lt bs N d)∧(z8r lt bs N d).size=d.size:=by
 unfold z8r;dsimp only;have h:=zIz lt N bs hb (N+1) 0 d hd;split
 ·exact⟨permIn_trans _ _ _ _ _ h.1 (zCy lt N _ _ _ _ _ (by rw[h.2];exact hd) (by omega) (by omega) zG),by rw[zJ2,h.2]⟩
 ·exact h
theorem zX9 (N:Nat)(f:Nat):∀(bs:Nat) (d:Array α),0<bs→N≤d.size→PermIn 0 N d (z2U lt f bs N d):=by
 induction f with
 |zero=>intro bs d _ _;exact permIn_refl _ _ _
 |succ f ih=>
   intro bs d hb hd;unfold z2U;split
   ·have h:=ztD lt N bs hb d hd;exact permIn_trans _ _ _ _ _ h.1 (ih _ _ (by omega) (by rw[h.2];exact hd))
   ·exact permIn_refl _ _ _
theorem z0F (d:Array α):PermIn 0 d.size d (zjN lt d):=by
 unfold zjN;dsimp only;have h:=z7e lt d.size (d.size+1) 0 d zG;have h2:=z8m lt d.size (zSe lt (d.size+1) 0 d.size d).2 (zSe lt (d.size+1) 0 d.size d).1 d.size zG (by rw[h.2];exact Nat.le_refl _);exact permIn_trans _ _ _ _ _ (permIn_trans _ _ _ _ _ h.1 h2) (zX9 lt d.size _ 20 _ (by omega) (by rw[zpf,h.2];exact Nat.le_refl _))
end
theorem zBL (l:List OpV):(ordO l).Perm l:=by
 obtain⟨h1,_,h3⟩:=z0F (ltOf ordC) l.toArray;unfold ordO;have e1:(zjN (ltOf ordC) l.toArray).extract 0 l.toArray.size=zjN (ltOf ordC) l.toArray:=by
  rw[←h1];simp
 have e2:l.toArray.extract 0 l.toArray.size=l.toArray:=by simp
 rw[e1,e2]at h3;exact h3
section
variable {σ:Type} (doit:σ→OpV→σ×Int×Int)
def zqq:σ→List OpV→Prop
 |_,[]=>True
 |s,o::r=>(o.ret≠0→((doit s o).2.1,(doit s o).2.2)=(o.vk,o.vn))∧zqq (doit s o).1 r
def endS (s:σ)(l:List OpV):σ:=l.foldl (fun s o=>(doit s o).1) s
theorem zLZ (s:σ)(l:List OpV)(o:OpV):endS doit s (l++[o])=(doit (endS doit s l) o).1:=by
 unfold endS;rw[List.foldl_append];rfl
theorem z6N (l:List OpV):∀(s:σ) (o:OpV),zqq doit s (l++[o])↔zqq doit s l∧(o.ret≠0→((doit (endS doit s l) o).2.1,(doit (endS doit s l) o).2.2)=(o.vk,o.vn)):=by
 induction l with
 |nil=>intro s o;simp[zqq,endS]
 |cons a t ih=>
   intro s o;have e:endS doit s (a::t)=endS doit (doit s a).1 t:=rfl;rw[List.cons_append,e];unfold zqq;rw[ih,and_assoc]
structure Legal (s0:σ)(part ord:List OpV):Prop where
 nd:ord.Nodup
 sub:∀o∈ord,o∈part
 ahead:∀l1 o l2,ord=l1++o::l2→∀o'∈part,ahB o' o.call=true→o'∈l1
 run:zqq doit s0 ord
def LinP (s0:σ)(part:List OpV):Prop:=∃ord,Legal doit s0 part ord∧∀o∈part,o.ret≠0→o∈ord
theorem Legal.init {s0:σ}{part ord:List OpV}{o:OpV}(h:Legal doit s0 part (ord++[o])):Legal doit s0 part ord:=by
 refine⟨(List.nodup_append.1 h.nd).1,fun x hx=>h.sub x (by simp[hx]),fun l1 x l2 e o' ho' ha=>h.ahead l1 x (l2++[o]) (by rw[e];simp) o' ho' ha,((z6N doit ord s0 o).1 h.run).1⟩
theorem zcF (ops:List OpV)(l:List (Stp σ))(s:Stp σ){o:OpV}(h:ops[s.pl]?=some o):takenL ops (l++[s])=takenL ops l++[o]:=by
 unfold takenL;rw[List.filterMap_append];simp[h]
theorem mem_takenL {ops:List OpV}{l:List (Stp σ)}{o:OpV}:o∈takenL ops l↔∃q∈l.map (·.pl),ops[q]?=some o:=by
 unfold takenL;rw[List.mem_filterMap];constructor
 ·rintro⟨s,hs,h⟩;exact⟨s.pl,List.mem_map_of_mem hs,h⟩
 ·rintro⟨q,hq,h⟩;obtain⟨s,hs,rfl⟩:=List.mem_map.1 hq;exact⟨s,hs,h⟩
theorem nodup_at {ops:List OpV}(hd:ops.Nodup){p q:Nat}{o:OpV}(hp:ops[p]?=some o)(hq:ops[q]?=some o):p=q:=by
 obtain⟨h1,e1⟩:=zB hp;obtain⟨h2,e2⟩:=zB hq;exact(List.getElem_inj hd).1 (e1.trans e2.symm)
theorem zCN {ops:List OpV}(hn:ops.length≤128)(hd:ops.Nodup){s0:σ}{l:List (Stp σ)}{c:Gr×σ}(h:PathW doit ops ((0,0),s0) l c):Legal doit s0 ops (takenL ops l)∧c.2=endS doit s0 (takenL ops l):=by
 induction h with
 |nil=>exact⟨⟨by simp[takenL],fun o ho=>by simp[takenL]at ho,fun l1 o l2 e=>by simp[takenL]at e,trivial⟩,rfl⟩
 |snoc l s c h hs ih=>
   have hw:=(zIM doit ops hn h).1;obtain⟨o,ho,h1,h2,h3,rfl⟩:=(zZu doit ops hn hw).1 hs;have hh:=(zxD doit ops hn h).2;have hlt:=(zB ho).1;rw[zcF ops l s ho];have hst:s.st=endS doit s0 (takenL ops l):=ih.2;refine⟨⟨?_,?_,?_,?_⟩,?_⟩
   ·rw[List.nodup_append];refine⟨ih.1.nd,by simp,fun a ha b hb=>?_⟩;rw[List.mem_singleton]at hb;subst hb;intro e;subst e;obtain⟨q,hq,hq2⟩:=mem_takenL.1 ha;have:=nodup_at hd hq2 ho;subst this;have:=(hh _ (by omega)).2 hq;rw[h1]at this;cases this
   ·intro x hx;rcases List.mem_append.1 hx with hx|hx
    ·exact ih.1.sub x hx
    ·rw[List.mem_singleton]at hx;subst hx;exact List.mem_of_getElem? ho
   ·intro l1 x l2 e o' ho' ha;rcases List.eq_nil_or_concat l2 with rfl|⟨l3,y,rfl⟩
    ·obtain⟨e1,e2⟩:=List.append_inj' e rfl;injection e2 with e2;subst e2;rw[←e1];obtain⟨q,hq⟩:=List.mem_iff_getElem?.1 ho';have hql:=(zB hq).1;exact mem_takenL.2 ⟨q,(hh q (by omega)).1 (h2 q o' hq ha),hq⟩
    ·rw[List.concat_eq_append,←List.cons_append,←List.append_assoc]at e;obtain⟨e1,_⟩:=List.append_inj' e rfl;exact ih.1.ahead l1 x l3 e1 o' ho' ha
   ·rw[z6N];refine⟨ih.1.run,fun hr=>?_⟩;rw[←hst];exact h3 hr
   ·rw[zLZ,←hst]
theorem zyg {ops:List OpV}(hn:ops.length≤128)(hd:ops.Nodup){s0:σ}(n:Nat):∀ord:List OpV,ord.length=n→Legal doit s0 ops ord→∃l c,PathW doit ops ((0,0),s0) l c∧takenL ops l=ord:=by
 induction n with
 |zero=>
   intro ord h _;have:=List.eq_nil_of_length_eq_zero h;subst this;exact⟨[],_,.nil,rfl⟩
 |succ n ih=>
   intro ord hlen h;rcases List.eq_nil_or_concat ord with rfl|⟨l1,o,rfl⟩
   ·simp at hlen
   ·rw[List.concat_eq_append]at h hlen⊢;obtain⟨l,c,hp,ht⟩:=ih l1 (by simpa using hlen) h.init;have hpl:=zCN doit hn hd hp;have hw:=(zIM doit ops hn hp).1;have hh:=(zxD doit ops hn hp).2;obtain⟨p,hpo⟩:=List.mem_iff_getElem?.1 (h.sub o (by simp));have hlt:=(zB hpo).1;have hno:o∉l1:=fun hm=>by
     have:=(List.nodup_append.1 h.nd).2.2 o hm o (by simp);exact this rfl
    have hs:zYl doit ops c p=some (zdS c.1 p,(doit c.2 o).1):=by
     refine(zZu doit ops hn hw).2 ⟨o,hpo,?_,?_,?_,rfl⟩
     ·cases e:gHas c.1 p with
      |false=>rfl
      |true=>
        exfalso;apply hno;rw[←ht];exact mem_takenL.2 ⟨p,(hh p (by omega)).1 e,hpo⟩
     ·intro q o' hq ha;have h1:=h.ahead l1 o [] rfl o' (List.mem_of_getElem? hq) ha;rw[←ht]at h1;obtain⟨q',hq',hq2⟩:=mem_takenL.1 h1;have:=nodup_at hd hq2 hq;subst this;have hql:=(zB hq).1;exact(hh _ (by omega)).2 hq'
     ·intro hr;have:=((z6N doit l1 s0 o).1 h.run).2 hr;rw[hpl.2,ht];exact this
    refine⟨l++[⟨c.1,c.2,p⟩],_,.snoc _ _ _ hp hs,?_⟩;rw[zcF ops l _ hpo,ht]
theorem zXJ {ops:List OpV}(hn:ops.length≤128)(hd:ops.Nodup){s0:σ}:LinP doit s0 ops↔∃c,Reach doit ops ((0,0),s0) c∧zJn (retG ops 0 (0,0)) c.1=true:=by
 constructor
 ·rintro⟨ord,h,hw⟩;obtain⟨l,c,hp,ht⟩:=zyg doit hn hd _ ord rfl h;refine⟨c,⟨l,hp⟩,(z6g hn (zIM doit ops hn hp).1).2 (fun q o hq hr=>?_)⟩;have h1:=hw o (List.mem_of_getElem? hq) hr;rw[←ht]at h1;obtain⟨q',hq',hq2⟩:=mem_takenL.1 h1;have:=nodup_at hd hq2 hq;subst this;have hql:=(zB hq).1;exact((zxD doit ops hn hp).2 _ (by omega)).2 hq'
 ·rintro⟨c,⟨l,hp⟩,hw⟩;refine⟨takenL ops l,(zCN doit hn hd hp).1,fun o ho hr=>?_⟩;obtain⟨q,hq⟩:=List.mem_iff_getElem?.1 ho;have hql:=(zB hq).1;exact mem_takenL.2 ⟨q,((zxD doit ops hn hp).2 q (by omega)).1 ((z6g hn (zIM doit ops hn hp).1).1 hw q o hq hr),hq⟩
theorem Legal.perm {s0:σ}{p q ord:List OpV}(h:Legal doit s0 p ord)(hm:∀o,o∈p↔o∈q):Legal doit s0 q ord:=
 ⟨h.nd,fun o ho=>(hm o).1 (h.sub o ho),fun l1 o l2 e o' ho' ha=>h.ahead l1 o l2 e o' ((hm o').2 ho') ha,h.run⟩
theorem LinP.perm {s0:σ}{p q:List OpV}(h:LinP doit s0 p)(hm:∀o,o∈p↔o∈q):LinP doit s0 q:=by
 obtain⟨ord,h1,h2⟩:=h;exact⟨ord,h1.perm doit hm,fun o ho hr=>h2 o ((hm o).2 ho) hr⟩
theorem zoi [DecidableEq σ]{part:List OpV}(hn:part.length≤128)(hd:part.Nodup){s0:σ}{b:Int}{r:Out}(h:Found doit (ordO part) s0 b r)(hv:r.verdict≠0):(r.verdict=1↔LinP doit s0 part)∧(r.verdict=2↔¬LinP doit s0 part)∧Legal doit s0 part r.order∧(r.verdict=1→∀o∈part,o.ret≠0→o∈r.order)∧(r.verdict=2→∀ord,Legal doit s0 part ord→ord.length≤r.order.length):=by
 have hp:=zBL part;have hm:∀o,o∈ordO part↔o∈part:=fun o=>hp.mem_iff;have hn':(ordO part).length≤128:=by rw[hp.length_eq];exact hn
 have hd':(ordO part).Nodup:=hp.nodup_iff.2 hd;have hl:=zXJ doit hn' hd' (s0:=s0);have hl':LinP doit s0 part↔LinP doit s0 (ordO part):=⟨fun x=>x.perm doit (fun o=>(hm o).symm),fun x=>x.perm doit hm⟩;obtain⟨vis,_,_,h1⟩:=Found.told doit _ hn' h;rcases h1 with ⟨h1,_⟩|⟨h1,_,l,c,hpath,hw,ho⟩|⟨h1,_,⟨l,c,hpath,ho⟩,hno⟩
 ·exact absurd h1 hv
 ·have hyes:LinP doit s0 part:=hl'.2 (hl.2 ⟨c,⟨l,hpath⟩,hw⟩);refine⟨⟨fun _=>hyes,fun _=>h1⟩,⟨fun h=>by omega,fun h=>absurd hyes h⟩,?_,?_,fun h=>by omega⟩
  ·rw[ho];exact(zCN doit hn' hd' hpath).1.perm doit hm
  ·intro _ o hoo hr;rw[ho];obtain⟨q,hq⟩:=List.mem_iff_getElem?.1 ((hm o).2 hoo);have hql:=(zB hq).1;exact mem_takenL.2 ⟨q,((zxD doit _ hn' hpath).2 q (by omega)).1 ((z6g hn' (zIM doit _ hn' hpath).1).1 hw q o hq hr),hq⟩
 ·have hnot:¬LinP doit s0 part:=fun x=>by
   obtain⟨c',hc',hw'⟩:=hl.1 (hl'.1 x);have:=(hno c' hc').1;rw[hw']at this;cases this
  refine⟨⟨fun h=>by omega,fun h=>absurd h hnot⟩,⟨fun _=>hnot,fun _=>h1⟩,?_,fun h=>by omega,?_⟩
  ·rw[ho];exact(zCN doit hn' hd' hpath).1.perm doit hm
  ·intro _ ord hord;obtain⟨l2,c2,hp2,ht2⟩:=zyg doit hn' hd' _ ord rfl (hord.perm doit (fun o=>(hm o).symm));have:=(hno c2 ⟨l2,hp2⟩).2;rw[(zIM doit _ hn' hp2).2]at this;rw[←ht2,zUxG _ _ (path_lt doit _ hp2)];exact this
end
theorem zMZ {l:List Nat}{v:Int×Int×List UInt8}{r:List Nat}(h:zFD l=some (v,r)):v.2.2.length≤4*l.length:=by
 unfold zFD at h;split at h
 ·split at h
  ·rename_i t r' ht;simp at h;rw[←h.1];exact zer ht
  ·cases h
 ·split at h
  ·split at h
   ·simp at h;rw[←h.1];exact Nat.zero_le _
   ·cases h
  ·split at h
   ·split at h
    ·simp at h;rw[←h.1];exact Nat.zero_le _
    ·cases h
   ·split at h
    ·split at h
     ·simp at h;rw[←h.1];exact Nat.zero_le _
     ·cases h
    ·split at h
     ·simp at h;rw[←h.1];exact Nat.zero_le _
     ·cases h
theorem zcV {l:List Nat}{m:Mem}{r:List Nat}{N:Nat}(hl:l.length≤N)(h:zcL l=some (m,r)):m.2.2.2.length≤4*N:=by
 unfold zcL at h;split at h
 ·cases h
 ·rename_i nm r1 ht;split at h
  ·split at h
   ·cases h
   ·rename_i v r4 hv;simp at h;have h1:=zf7 ht;have h2:=zMZ hv;have h3:=zH7 r1;have h4:=zH7 (zek r1).tail;rw[List.length_tail]at h4;rw[←h.1];show v.2.2.length≤4*N;omega
  ·cases h
theorem zmO (N f:Nat):∀(acc:List Mem) (l:List Nat) (ms:List Mem) (r:List Nat),l.length≤N→(∀m∈acc,m.2.2.2.length≤4*N)→zRf f acc l=some (ms,r)→∀m∈ms,m.2.2.2.length≤4*N:=by
 induction f with
 |zero=>intro acc l ms r _ _ h;simp[zRf]at h
 |succ f ih=>
   intro acc l ms r hl ha h;rw[zRf]at h;split at h
   ·cases h
   ·rename_i m r1 hm;have hg:=zcV hl hm;have hr1:=zVf hm;have ha':∀x∈acc++[m],x.2.2.2.length≤4*N:=by
     intro x hx;rcases List.mem_append.1 hx with h'|h'
     ·exact ha x h'
     ·simp at h';rw[h'];exact hg
    split at h
    ·simp at h;rw[←h.1];exact ha'
    ·split at h
     ·refine ih _ _ _ _ ?_ ha' h;have:=zH7 r1.tail;simp at this;omega
     ·cases h
theorem znL {s:ByteArray}{ms:List Mem}(h:zIo s=some ms):∀m∈ms,m.2.2.2.length≤4*s.size:=by
 unfold zIo at h;split at h
 ·split at h
  ·cases h
  ·rename_i ms' r ho;split at h
   ·simp at h;subst h;unfold zfb at ho;have hr:=z75 s;have h1:=zH7 (runesOf s);split at ho
    ·split at ho
     ·simp at ho;rw[ho.1];intro m hm;cases hm
     ·refine zmO s.size _ [] _ _ _ ?_ (by simp) ho;have:=zH7 (zek (runesOf s)).tail;simp at this;omega
    ·cases ho
   ·cases h
 ·cases h
def okOp (N:Nat)(o:OpV):Prop:=okId o∧wfI o.cl∧wfI o.arg∧o.key.length≤4*N
theorem zFH {ms:List Mem}{N:Nat}(h:∀m∈ms,zhZ N m)(nm:List UInt8): -9223372036854775808≤zqd ms nm∧zqd ms nm≤9223372036854775807:=by
 unfold zqd;cases hf:z8R ms nm with
 |none=>exact⟨by decide,by decide⟩
 |some m=>exact(h m (z1e4 hf)).2
theorem zqRD {ms:List Mem}{N:Nat}(h:∀m∈ms,m.2.2.2.length≤4*N)(nm:List UInt8):(zbh ms nm).length≤4*N:=by
 unfold zbh;cases hf:z8R ms nm with
 |none=>exact Nat.zero_le _
 |some m=>exact h m (z1e4 hf)
theorem zKi {model:List UInt8}{ops ops':List OpV}{s:ByteArray}{line r:Int}{N:Nat}(hs:s.size≤N)(ho:∀o∈ops,okOp N o)(h:addP model ops s line=(r,some ops')):∀o∈ops',okOp N o:=by
 unfold addP at h;split at h
 ·injection h with _ h;cases h
 ·rename_i ms hm;have hg:=zau hm;have ht:∀m∈ms,m.2.2.2.length≤4*N:=fun m hm'=>Nat.le_trans (znL hm m hm') (by omega);split at h
  ·split at h
   ·injection h with _ h;unfold zRl at h;dsimp only at h;split at h
    ·cases h
    ·split at h
     ·split at h
      ·cases h
      ·split at h
       ·cases h
       ·simp at h;subst h;intro o hx;rcases List.mem_append.1 hx with hx|hx
        ·exact ho o hx
        ·rw[List.mem_singleton]at hx;subst hx;exact⟨zFH hg _,zFH hg _,zFH hg _,zqRD ht _⟩
     ·cases h
   ·split at h
    ·unfold retP at h;split at h
     ·injection h with _ h;cases h
     ·split at h
      ·injection h with _ h;cases h
      ·rename_i i _ o he;split at h
       ·injection h with _ h;cases h
       ·split at h
        ·injection h with _ h;injection h with h;subst h;intro x hx;rcases List.mem_or_eq_of_mem_set hx with hx|hx
         ·exact ho x hx
         ·subst hx;exact ho o (List.mem_of_getElem? he)
        ·injection h with _ h;cases h
    ·injection h with _ h;cases h
  ·injection h with _ h;cases h
theorem zDd (t s:List UInt8):(Lib.cut t s).1.length≤t.length:=by
 unfold Lib.cut;split<;>simp<;>omega
theorem zo5 (t s:List UInt8):(Lib.cut t s).2.1.length≤t.length:=by
 unfold Lib.cut;split<;>simp<;>omega
theorem zUe (model:List UInt8)(N:Nat):∀(f:Nat) (ops:List OpV) (t:List UInt8) (k:Nat) (res:List OpV),t.length≤N→(∀o∈ops,okOp N o)→zIn model f ops t k=.inl res→∀o∈res,okOp N o:=by
 intro f
 induction f with
 |zero=>intro ops t k res _ _ h;simp[zIn]at h
 |succ f ih=>
   intro ops t k res ht ho h;unfold zIn at h;split at h
   ·injection h with h;subst h;exact ho
   ·split at h
    ·cases h
    ·split at h
     ·cases h
     ·rename_i r ops' he;refine ih ops' _ _ res (Nat.le_trans (zo5 _ _) ht) (zKi ?_ ho he) h;show(Lib.cut t [10]).1.toArray.size≤N;rw[List.size_toArray];exact Nat.le_trans (zDd _ _) ht
theorem z7a {model t:List UInt8}{ops:List OpV}(h:z9w model t=.inl ops):∀o∈ops,okOp t.length o:=zUe model t.length 129 [] t 0 ops zG (by simp) h
open Tryz
theorem zmh (l:List Nat)(h:∀x∈l,x=0):l.sum=0:=by
 induction l with
 |nil=>rfl
 |cons x t ih=>rw[List.sum_cons,h x (by simp),ih (fun y hy=>h y (by simp[hy]))]
theorem zzy (ks:List (List UInt8))(k0:List UInt8)(h:ks.Nodup):(ks.map (fun k=>if k0=k then 1 else 0)).sum≤1:=by
 induction ks with
 |nil=>simp
 |cons k t ih=>
   obtain⟨h1,h2⟩:=List.nodup_cons.1 h;rw[List.map_cons,List.sum_cons];by_cases e:k0=k
   ·subst e;have:(t.map (fun k=>if k0=k then 1 else 0)).sum=0:=by
     refine zmh _ ?_;intro x hx;obtain⟨y,hy,rfl⟩:=List.mem_map.1 hx;rw[if_neg (fun e=>h1 (by rw[e];exact hy))]
    rw[this,if_pos rfl];exact Nat.le_refl _
   ·rw[if_neg e];have:=ih h2;omega
theorem z70 (ks:List (List UInt8))(f g:List UInt8→Nat):(ks.map (fun k=>f k+g k)).sum=(ks.map f).sum+(ks.map g).sum:=by
 induction ks with
 |nil=>rfl
 |cons k t ih=>simp only [List.map_cons,List.sum_cons,ih];omega
theorem zV4 (ks:List (List UInt8))(h:ks.Nodup)(l:List OpV):(ks.map (fun k=>(flt k l).length)).sum≤l.length:=by
 induction l with
 |nil=>
   have:(ks.map (fun k=>(flt k []).length)).sum=0:=by
    refine zmh _ ?_;intro x hx;obtain⟨y,_,rfl⟩:=List.mem_map.1 hx;rfl
   rw[this];exact Nat.zero_le _
 |cons o t ih=>
   have e:(fun k=>(flt k (o::t)).length)=(fun k=>(if o.key=k then 1 else 0)+(flt k t).length):=by
    funext k;unfold flt;rw[List.filter_cons];by_cases h:o.key=k
    ·simp[h];omega
    ·simp[h]
   rw[e,z70,List.length_cons];have:=zzy ks o.key h;omega
theorem z9L (l:List OpV):sumL ((zWP l).map (·.2))≤l.length:=by
 unfold sumL zWP;rw[List.map_map,List.map_map];refine zV4 (zD5 l) ?_ l;unfold zD5;exact(List.mergeSort_perm _ _).nodup_iff.2 (z1b l)
theorem qKey_len (k:List UInt8):(qKey k).length≤6*k.length+2:=by
 unfold qKey;have:=zGl k;simp only [List.cons_append,List.length_cons,zI,List.length_nil];omega
theorem z1p {l:List OpV}{q:List UInt8×List OpV}(h:q∈zWP l)(hk:∀o∈l,o.key.length≤10000000):q.2.length≤l.length∧q.1.length≤100000000∧∀o∈q.2,o∈l:=by
 obtain⟨k,hk1,rfl⟩:=List.mem_map.1 h;refine⟨zdB k l,?_,fun o ho=>(List.mem_filter.1 ho).1⟩;obtain⟨o,ho⟩:=List.exists_mem_of_ne_nil _ (zMI hk1);have h2:=(List.mem_filter.1 ho);have h3:=hk o h2.1;rw[of_decide_eq_true h2.2]at h3;have:=qKey_len k;show(qKey k).length≤_;omega
theorem zAq (a:Option Addr)(c:Nat)(ops:List OpV)(b:Int)(w:World)(hr:OAt w a ops)(hb: -9223372036854775808≤b∧b≤1000000)(hl:ops.length≤128)(ho:∀o∈ops,wfI o.arg∧okId o)(hp:Pow w)(hkey:∀o∈ops,o.key.length≤10000000):
 Calls prog 9 #[.string ⟨#[107,118]⟩,.slice a ops.length c,.int .i64 b] w fun e w'=>∃v,Judged (fun p b r=>Found stDo (ordO p) (false,0) b r) (zWP ops) b [] v∧e=.returned (.string ⟨(say v).toArray⟩)∧Below w.heap.size w w':=by
 have hw:=zpj a c ops w hr hl hkey;have hln:(zWP ops).length≤1000:=by unfold zWP;rw[List.length_map];have:=sortedU_len ops;omega
 have hsm:=z9L ops;have HJ:=Hid.mk' (fun a1 c1 w' (h1:PAt w' a1 (zWP ops)) (h2:Pow w')=>z0f a1 c1 (zWP ops) b w' h1 hb (fun q hq=>by have h:=z1p hq hkey;exact⟨by omega,h.2.1,fun o hoq=>ho o (h.2.2 o hoq)⟩) (by omega) hln h2);have HP:=Hid.mk' hp;clear hr ho hp hkey hln hsm;generalize zWP ops=ps at*;go_enter func9,ntmps9;go_wp2_with (go_at_call 24;refine hw.mono ?_;rintro e w2 ⟨a1,c1,rfl,h1,h2⟩;have h3:=HJ.out a1 c1 w2 h1 (HP.out.stays h2);have HB:=Hid.mk' h2;clear h1 h2);refine h3.mono ?_;rintro e w3 ⟨v,hv,rfl,hb3⟩;have HV:=Hid.mk' (And.intro hv hb3);clear hv hb3 h3;go_wp2;go_ret;exact⟨v,HV.out.1,rfl,HB.out.trans (HV.out.2.mono HB.out.size)⟩
theorem zvg (a:Option Addr)(c:Nat)(ops:List OpV)(b:Int)(w:World)(hr:OAt w a ops)(hb: -9223372036854775808≤b∧b≤1000000)(hl:ops.length≤128)(ho:∀o∈ops,wfI o.arg∧okId o)(hp:Pow w)(hkey:∀o∈ops,o.key.length≤10000000):
 Calls prog 9 #[.string ⟨#[115,101,116]⟩,.slice a ops.length c,.int .i64 b] w fun e w'=>∃v,Judged (fun p b r=>Found zqY (ordO p) false b r) (zWP ops) b [] v∧e=.returned (.string ⟨(say v).toArray⟩)∧Below w.heap.size w w':=by
 have hw:=zpj a c ops w hr hl hkey;have hln:(zWP ops).length≤1000:=by unfold zWP;rw[List.length_map];have:=sortedU_len ops;omega
 have hsm:=z9L ops;have HJ:=Hid.mk' (fun a1 c1 w' (h1:PAt w' a1 (zWP ops)) (h2:Pow w')=>zCt a1 c1 (zWP ops) b w' h1 hb (fun q hq=>by have h:=z1p hq hkey;exact⟨by omega,h.2.1,fun o hoq=>ho o (h.2.2 o hoq)⟩) (by omega) hln h2);have HP:=Hid.mk' hp;clear hr ho hp hkey hln hsm;generalize zWP ops=ps at*;go_enter func9,ntmps9;go_wp2_with (go_at_call 24;refine hw.mono ?_;rintro e w2 ⟨a1,c1,rfl,h1,h2⟩;have h3:=HJ.out a1 c1 w2 h1 (HP.out.stays h2);have HB:=Hid.mk' h2;clear h1 h2);refine h3.mono ?_;rintro e w3 ⟨v,hv,rfl,hb3⟩;have HV:=Hid.mk' (And.intro hv hb3);clear hv hb3 h3;go_wp2;go_ret;exact⟨v,HV.out.1,rfl,HB.out.trans (HV.out.2.mono HB.out.size)⟩
theorem zRC (a:Option Addr)(c:Nat)(ops:List OpV)(b:Int)(w:World)(hr:OAt w a ops)(hb: -9223372036854775808≤b∧b≤1000000)(hl:ops.length≤128)(ho:∀o∈ops,wfI o.arg∧okId o)(hp:Pow w)(hG:Glob w):
 Calls prog 9 #[.string ⟨#[113,117,101,117,101]⟩,.slice a ops.length c,.int .i64 b] w fun e w'=>∃v,Judged (fun p b r=>Found quDo (ordO p) [] b r) ([([45],ops)]) b [] v∧e=.returned (.string ⟨(say v).toArray⟩)∧Below w.heap.size w w':=by
 have hw:=zjc a c ops w hr;have HJ:=Hid.mk' (fun w' (h1:PAt w' (some ⟨w.heap.size,0,none⟩) [([45],ops)]) (h2:Pow w') (h3:Glob w')=>zQY (some ⟨w.heap.size,0,none⟩) 1 [([45],ops)] b w' h1 hb (by intro q hq;rw[List.mem_singleton]at hq;subst hq;exact⟨hl,by simp,ho⟩) (by simpa [sumL]using hl) (by simp) h2 h3);have HP:=Hid.mk' hp;have HG:=Hid.mk' hG;clear hr ho hp hG;go_enter func9,ntmps9;go_wp2_with (go_at_call 22;refine hw.mono ?_;rintro e w2 ⟨rfl,h1,h2⟩;have h3:=HJ.out w2 h1 (HP.out.stays h2) (HG.out.below (h2.mono HG.out.errs.lt));have HB:=Hid.mk' h2;clear h1 h2);refine h3.mono ?_;rintro e w3 ⟨v,hv,rfl,hb3⟩;have HV:=Hid.mk' (And.intro hv hb3);clear hv hb3 h3;go_wp2;go_ret;exact⟨v,HV.out.1,rfl,HB.out.trans (HV.out.2.mono HB.out.size)⟩
theorem zbZp (a:Option Addr)(c:Nat)(ops:List OpV)(b:Int)(w:World)(hr:OAt w a ops)(hb: -9223372036854775808≤b∧b≤1000000)(hl:ops.length≤128)(ho:∀o∈ops,wfI o.cl∧okId o)(hp:Pow w):
 Calls prog 9 #[.string ⟨#[108,111,99,107]⟩,.slice a ops.length c,.int .i64 b] w fun e w'=>∃v,Judged (fun p b r=>Found lkDo (ordO p) (false,0) b r) ([([45],ops)]) b [] v∧e=.returned (.string ⟨(say v).toArray⟩)∧Below w.heap.size w w':=by
 have hw:=zjc a c ops w hr;have HJ:=Hid.mk' (fun w' (h1:PAt w' (some ⟨w.heap.size,0,none⟩) [([45],ops)]) (h2:Pow w')=>zvN (some ⟨w.heap.size,0,none⟩) 1 [([45],ops)] b w' h1 hb (by intro q hq;rw[List.mem_singleton]at hq;subst hq;exact⟨hl,by simp,ho⟩) (by simpa [sumL]using hl) (by simp) h2);have HP:=Hid.mk' hp;clear hr ho hp;go_enter func9,ntmps9;go_wp2_with (go_at_call 22;refine hw.mono ?_;rintro e w2 ⟨rfl,h1,h2⟩;have h3:=HJ.out w2 h1 (HP.out.stays h2);have HB:=Hid.mk' h2;clear h1 h2);refine h3.mono ?_;rintro e w3 ⟨v,hv,rfl,hb3⟩;have HV:=Hid.mk' (And.intro hv hb3);clear hv hb3 h3;go_wp2;go_ret;exact⟨v,HV.out.1,rfl,HB.out.trans (HV.out.2.mono HB.out.size)⟩
def zNr (model:List UInt8)(ops:List OpV)(b:Int)(v:Nat×List UInt8×List (List OpV)):Prop:=
 (model=sReg∧Judged (fun p b r=>Found zCI (ordO p) 0 b r) [([45],ops)] b [] v)∨(model=sKv∧Judged (fun p b r=>Found stDo (ordO p) (false,0) b r) (zWP ops) b [] v)∨
 (model=zsK∧Judged (fun p b r=>Found quDo (ordO p) [] b r) [([45],ops)] b [] v)∨(model=sSet∧Judged (fun p b r=>Found zqY (ordO p) false b r) (zWP ops) b [] v)∨
 (model=zyy∧Judged (fun p b r=>Found lkDo (ordO p) (false,0) b r) [([45],ops)] b [] v)
theorem zVe {m:List UInt8}(h:zOI m opTab=true):m=sReg∨m=sKv∨m=zsK∨m=sSet∨m=zyy:=by
 unfold zOI at h;rw[List.any_eq_true]at h;obtain⟨r,hr,he⟩:=h;rw[beq_iff_eq]at he;subst he;simp only [opTab,List.mem_cons,List.not_mem_nil,or_false]at hr;rcases hr with rfl|rfl|rfl|rfl|rfl|rfl|rfl|rfl|rfl|rfl|rfl|rfl|rfl
 all_goals simp
theorem z0e (model:List UInt8)(a:Option Addr)(c:Nat)(ops:List OpV)(b:Int)(w:World)(hm:zOI model opTab=true)(hr:OAt w a ops)(hb: -9223372036854775808≤b∧b≤1000000)(hl:ops.length≤128)(ho:∀o∈ops,okOp 2000000 o)(hp:Pow w)(hG:Glob w):
 Calls prog 9 #[.string ⟨model.toArray⟩,.slice a ops.length c,.int .i64 b] w fun e w'=>∃v,zNr model ops b v∧e=.returned (.string ⟨(say v).toArray⟩)∧Below w.heap.size w w':=by
 have hk:∀o∈ops,o.key.length≤10000000:=fun o h=>by have:=(ho o h).2.2.2;omega
 rcases zVe hm with rfl|rfl|rfl|rfl|rfl
 ·refine(zOm a c ops b w hr hb hl (fun o h=>⟨(ho o h).2.2.1,(ho o h).1⟩) hp).mono ?_;rintro e w' ⟨v,h1,h2⟩;exact⟨v,.inl ⟨rfl,h1⟩,h2⟩
 ·refine(zAq a c ops b w hr hb hl (fun o h=>⟨(ho o h).2.2.1,(ho o h).1⟩) hp hk).mono ?_;rintro e w' ⟨v,h1,h2⟩;exact⟨v,.inr (.inl ⟨rfl,h1⟩),h2⟩
 ·refine(zRC a c ops b w hr hb hl (fun o h=>⟨(ho o h).2.2.1,(ho o h).1⟩) hp hG).mono ?_;rintro e w' ⟨v,h1,h2⟩;exact⟨v,.inr (.inr (.inl ⟨rfl,h1⟩)),h2⟩
 ·refine(zvg a c ops b w hr hb hl (fun o h=>⟨(ho o h).2.2.1,(ho o h).1⟩) hp hk).mono ?_;rintro e w' ⟨v,h1,h2⟩;exact⟨v,.inr (.inr (.inr (.inl ⟨rfl,h1⟩))),h2⟩
 ·refine(zbZp a c ops b w hr hb hl (fun o h=>⟨(ho o h).2.1,(ho o h).1⟩) hp).mono ?_;rintro e w' ⟨v,h1,h2⟩;exact⟨v,.inr (.inr (.inr (.inr ⟨rfl,h1⟩))),h2⟩
theorem z4j (model:List UInt8)(ops:List OpV)(s:ByteArray)(line:Int):0≤(addP model ops s line).1∧(addP model ops s line).1≤8:=by
 unfold addP;split
 ·decide
 ·split
  ·split
   ·dsimp only;unfold zRl;dsimp only;split
    ·decide
    ·split
     ·split
      ·decide
      ·split
       ·decide
       ·dsimp only;decide
     ·decide
   ·split
    ·unfold retP;split
     ·decide
     ·split
      ·decide
      ·split
       ·decide
       ·split
        ·dsimp only;decide
        ·decide
    ·decide
  ·decide
theorem zib (model:List UInt8):∀(f:Nat) (ops:List OpV) (t:List UInt8) (k:Nat) (l r:Int),zIn model f ops t k=.inr (l,r)→0≤l∧l≤(k:Int)+f∧1≤r∧r≤8:=by
 intro f
 induction f with
 |zero=>
   intro ops t k l r h;simp[zIn]at h;omega
 |succ f ih=>
   intro ops t k l r h;unfold zIn at h;split at h
   ·cases h
   ·split at h
    ·injection h with h;injection h with h1 h2;omega
    ·have ha:=z4j model ops ⟨(Lib.cut t [10]).1.toArray⟩ ((k:Int)+1);split at h
     ·rename_i r' he;have hk:=zIME model ops ⟨(Lib.cut t [10]).1.toArray⟩ ((k:Int)+1);rw[he]at ha hk;injection h with h;injection h with h1 h2;dsimp only at ha hk;rcases hk with ⟨_,h3⟩|⟨h3,_⟩
      ·cases h3
      ·omega
     ·have:=ih _ _ _ _ _ h;omega
theorem zAR {model t:List UInt8}{l r:Int}(h:z9w model t=.inr (l,r)):0≤l∧l≤129∧1≤r∧r≤8:=by
 have:=zib model 129 [] t 0 l r h;omega
def zM3 (model:List UInt8):Prop:=∀(a:Option Addr) (c:Nat) (ops:List OpV) (b:Int) (w:World),zOI model opTab=true→OAt w a ops→ -9223372036854775808≤b∧b≤1000000→ops.length≤128→(∀o∈ops,okOp 2000000 o)→Pow w→Glob w→
    Calls prog 9 #[.string ⟨model.toArray⟩,.slice a ops.length c,.int .i64 b] w fun e w'=>∃v,zNr model ops b v∧e=.returned (.string ⟨(say v).toArray⟩)∧Below w.heap.size w w'
def sNoModel:List UInt8:=[78,79,45,77,79,68,69,76,10]
def sRej (l r:Int):List UInt8:=[82,69,74,69,67,84,69,68,45,73,78,80,85,84,32,108,105,110,101,61]++Lib.itoa l++[32,114,101,97,115,111,110,61]++Lib.itoa r++[10]
def zkp (model t:List UInt8)(b:Int)(out:List UInt8):Prop:=
 (zOI model opTab=false∧out=sNoModel)∨(zOI model opTab=true∧((∃l r,z9w model t=.inr (l,r)∧r≠0∧out=sRej l r)∨∃ops v,z9w model t=.inl ops∧zNr model ops (min b 1000000) v∧out=say v))
theorem z5C (n:Int)(h0: -9223372036854775808≤n)(h1:n≤9223372036854775807)(w:World)(hp:Pow w):
 Calls prog 8 #[.int .i64 n] w fun e w'=>e=.returned (.string ⟨(Lib.itoa n).toArray⟩)∧Below w.heap.size w w':=by
 refine(Tryz.strconv_Itoa n h0 h1 w hp).mono ?_;rintro e w' ⟨rfl,k,os,rfl⟩;exact⟨rfl,Lib.below_grow _ _ zG _ _⟩
theorem rej_ba (l r:Int):(⟨#[82,69,74,69,67,84,69,68,45,73,78,80,85,84,32,108,105,110,101,61]⟩:ByteArray)++⟨(Lib.itoa l).toArray⟩++⟨#[32,114,101,97,115,111,110,61]⟩++⟨(Lib.itoa r).toArray⟩++⟨#[10]⟩=⟨(sRej l r).toArray⟩:=by
 apply ByteArray.ext;simp[sRej]
theorem zm7 (t model:List UInt8)(b:Int)(w:World)(hg:Glob w)(hp:Pow w)(ht:t.length≤2000000)(hb: -9223372036854775808≤b∧b≤9223372036854775807)(hJ:zM3 model):
 Calls prog 5 #[.string ⟨t.toArray⟩,.string ⟨model.toArray⟩,.int .i64 b] w fun e w'=>∃out,zkp model t b out∧e=.returned (.string ⟨out.toArray⟩)∧Below w.heap.size w w':=by
 have hrd:=zjT ⟨t.toArray⟩ ⟨model.toArray⟩ w hg (by show t.toArray.size≤_;rw[List.size_toArray];exact ht);have HG:=Hid.mk' (And.intro hg hp);clear hg hp;go_enter func5,ntmps5;go_wp2_with fail;refine hrd.mono ?_;rintro e w1 ⟨hb1,⟨hkn,rfl⟩|⟨hkn,⟨ops,v,hrp,hlo,hown,rfl⟩|⟨l,r,hrp,rfl⟩⟩⟩
 ·go_wp2;go_ret;exact⟨sNoModel,.inl ⟨hkn,rfl⟩,rfl,hb1⟩
 ·obtain⟨va,vc,rfl⟩:=zIW hown;have hok:=z7a hrp;have hj:=hJ va vc ops (min b 1000000) w1 hkn (z6a hown) ⟨by omega,by omega⟩ hlo (fun o ho=>by have h:=hok o ho;exact⟨h.1,h.2.1,h.2.2.1,by have:=h.2.2.2;omega⟩) (HG.out.2.stays hb1) (HG.out.1.below (hb1.mono HG.out.1.errs.lt));have HX:=Hid.mk' (And.intro hrp (And.intro hkn hb1));clear hrp hkn hb1 hok hown;generalize hmb:min b 1000000=mb at hj;have HMB:=Hid.mk' hmb;go_wp2_with fail;refine hj.mono ?_;rintro e w2 ⟨v,hv,rfl,hb2⟩;have HV:=Hid.mk' (And.intro hv hb2);clear hv hb2;go_wp2;go_ret;refine⟨say v,.inr ⟨HX.out.2.1,.inr ⟨ops,v,HX.out.1,by rw[HMB.out];exact HV.out.1,rfl⟩⟩,rfl,HX.out.2.2.trans (HV.out.2.mono HX.out.2.2.size)⟩
 ·have hlr:=zAR hrp;have hr0:(r != 0)=true:=by rw[bne_iff_ne];omega
  have hrn:r≠0:=by omega
  have h1:=z5C l (by omega) (by omega) w1 (HG.out.2.stays hb1);have HX:=Hid.mk' (And.intro hrp (And.intro hkn (And.intro hb1 hrn)));have hll:=Lib.itoa_length_le l (by omega) (by omega);have hrl:=Lib.itoa_length_le r (by omega) (by omega);clear hrp hkn hrn;go_wp2_with (first
   | (go_at_call 8;refine h1.mono ?_;rintro e w2 ⟨rfl,hb2⟩;have h2:=z5C r (by omega) (by omega) w2 (HG.out.2.stays (hb1.trans (hb2.mono hb1.size)));have HB2:=Hid.mk' (hb1.trans (hb2.mono hb1.size));clear h1 hb2)
   | (go_at_call 8;refine h2.mono ?_;rintro e w3 ⟨rfl,hb3⟩;have HB3:=Hid.mk' (HB2.out.trans (hb3.mono HB2.out.size));clear h2 hb3))
  go_ret;exact⟨sRej l r,.inr ⟨HX.out.2.1,.inl ⟨l,r,HX.out.1,HX.out.2.2.2,rfl⟩⟩,congrArg (fun x=>Ending.returned (Value.string x)) (rej_ba l r),HB3.out⟩
theorem zVT (t model:List UInt8)(b:Int)(w:World)(hg:Glob w)(hp:Pow w)(ht:t.length≤2000000)(hb: -9223372036854775808≤b∧b≤9223372036854775807):
 Calls prog 5 #[.string ⟨t.toArray⟩,.string ⟨model.toArray⟩,.int .i64 b] w fun e w'=>∃out,zkp model t b out∧e=.returned (.string ⟨out.toArray⟩)∧Below w.heap.size w w':=
 zm7 t model b w hg hp ht hb (fun a c ops b w hm=>z0e model a c ops b w hm)
section
variable {σ:Type} [DecidableEq σ] (doit:σ→OpV→σ×Int×Int) (s0:σ)
end
def LinedM (ops:List OpV):Prop:=∀o∈ops,∀o'∈ops,o≠o'→o.cl=o'.cl→ahB o o'.call=true∨ahB o' o.call=true
theorem LinedM.at {ops:List OpV}(h:LinedM ops)(hd:ops.Nodup):zNA ops:=fun p q o o' hp hq hne hcl=>h o (List.mem_of_getElem? hp) o' (List.mem_of_getElem? hq) (fun e=>hne (by subst e;exact nodup_at hd hp hq)) hcl
theorem LinedM.sub {ops l:List OpV}(h:LinedM ops)(hs:∀o∈l,o∈ops):LinedM l:=fun o ho o' ho'=>h o (hs o ho) o' (hs o' ho')
structure Rd (ops:List OpV)(k:Int):Prop where
 ids:∀(i j:Nat) (o o':OpV),ops[i]?=some o→ops[j]?=some o'→o.id=o'.id→i=j
 call:∀o∈ops,1≤o.call∧o.call≤k
 ret:∀o∈ops,o.ret≠0→o.call<o.ret∧o.ret≤k
 wait:∀(i j:Nat) (o o':OpV),ops[i]?=some o→ops[j]?=some o'→i<j→o.cl=o'.cl→o.ret≠0∧o.ret<o'.call
theorem Rd.call_op {ops:List OpV}{k:Int}(h:Rd ops k)(hk:0≤k)(o:OpV)(hi:z09 ops o.id=none)(hc:openOf ops o.cl=0)(ho:o.call=k+1)(hr:o.ret=0):Rd (ops++[o]) (k+1):=by
 have hget:∀(i:Nat) (x:OpV),(ops++[o])[i]?=some x→(i<ops.length∧ops[i]?=some x)∨(i=ops.length∧x=o):=by
  intro i x hx;by_cases hl:i<ops.length
  ·rw[List.getElem?_append_left hl]at hx;exact .inl ⟨hl,hx⟩
  ·rw[List.getElem?_append_right (by omega)]at hx;have h0:i-ops.length=0:=(by have:=(zB hx).1;simp at this;omega);rw[h0]at hx;simp at hx;exact .inr ⟨by omega,hx.symm⟩
 have hnew:∀x∈ops,x.id≠o.id:=by
  intro x hx e;unfold z09 at hi;rw[List.findIdx?_eq_none_iff]at hi;have:=hi x hx;simp[e]at this
 have hopen:∀x∈ops,x.cl=o.cl→x.ret≠0:=by
  intro x hx e hz;unfold openOf at hc;have h0:=List.eq_nil_of_length_eq_zero hc;have:x∈ops.filter (fun y=>y.cl==o.cl&&y.ret==0):=List.mem_filter.2 ⟨hx,by simp[e,hz]⟩;rw[h0]at this;cases this
 refine⟨?_,?_,?_,?_⟩
 ·intro i j x y hx hy e;rcases hget i x hx with ⟨hi1,hx1⟩|⟨hi1,rfl⟩<;>rcases hget j y hy with ⟨hj1,hy1⟩|⟨hj1,rfl⟩
  ·exact h.ids i j x y hx1 hy1 e
  ·exact absurd e (hnew x (List.mem_of_getElem? hx1))
  ·exact absurd e.symm (hnew y (List.mem_of_getElem? hy1))
  ·omega
 ·intro x hx;rcases List.mem_append.1 hx with hx|hx
  ·have:=h.call x hx;omega
  ·rw[List.mem_singleton]at hx;subst hx;omega
 ·intro x hx hz;rcases List.mem_append.1 hx with hx|hx
  ·have:=h.ret x hx hz;omega
  ·rw[List.mem_singleton]at hx;subst hx;exact absurd hr hz
 ·intro i j x y hx hy hij e;rcases hget i x hx with ⟨hi1,hx1⟩|⟨hi1,rfl⟩<;>rcases hget j y hy with ⟨hj1,hy1⟩|⟨hj1,rfl⟩
  ·exact h.wait i j x y hx1 hy1 hij e
  ·have h1:=hopen x (List.mem_of_getElem? hx1) e;have h2:=h.ret x (List.mem_of_getElem? hx1) h1;exact⟨h1,by omega⟩
  ·omega
  ·omega
theorem Rd.ret_op {ops:List OpV}{k:Int}(h:Rd ops k)(i:Nat)(o:OpV)(hi:ops[i]?=some o)(hr:o.ret=0)(vk vn:Int):Rd (ops.set i (setRet o (k+1) vk vn)) (k+1):=by
 have hil:=(zB hi).1;have hget:∀(j:Nat) (x:OpV),(ops.set i (setRet o (k+1) vk vn))[j]?=some x→(j≠i∧ops[j]?=some x)∨(j=i∧x=setRet o (k+1) vk vn):=by
  intro j x hx;by_cases e:i=j
  ·subst e;rw[List.getElem?_set_self hil]at hx;injection hx with hx;exact .inr ⟨rfl,hx.symm⟩
  ·rw[List.getElem?_set_ne e]at hx;exact .inl ⟨fun e'=>e e'.symm,hx⟩
 refine⟨?_,?_,?_,?_⟩
 ·intro a b x y hx hy e;rcases hget a x hx with ⟨ha1,hx1⟩|⟨ha1,rfl⟩<;>rcases hget b y hy with ⟨hb1,hy1⟩|⟨hb1,rfl⟩
  ·exact h.ids a b x y hx1 hy1 e
  ·subst hb1;exact h.ids a _ x o hx1 hi e
  ·subst ha1;exact h.ids _ b o y hi hy1 e
  ·omega
 ·intro x hx;rcases List.mem_or_eq_of_mem_set hx with hx|rfl
  ·have:=h.call x hx;omega
  ·have:=h.call o (List.mem_of_getElem? hi);show 1≤o.call∧o.call≤k+1;omega
 ·intro x hx hz;rcases List.mem_or_eq_of_mem_set hx with hx|rfl
  ·have:=h.ret x hx hz;omega
  ·have:=h.call o (List.mem_of_getElem? hi);show o.call<k+1∧k+1≤k+1;omega
 ·intro a b x y hx hy hab e;rcases hget a x hx with ⟨ha1,hx1⟩|⟨ha1,rfl⟩<;>rcases hget b y hy with ⟨hb1,hy1⟩|⟨hb1,rfl⟩
  ·exact h.wait a b x y hx1 hy1 hab e
  ·subst hb1;exact h.wait a _ x o hx1 hi hab e
  ·subst ha1;exact absurd hr (h.wait _ b o y hi hy1 hab e).1
  ·omega
theorem zDQ {model:List UInt8}{ops ops':List OpV}{s:ByteArray}{r:Int}{k:Int}(hk:0≤k)(hd:Rd ops k)(h:addP model ops s (k+1)=(r,some ops')):Rd ops' (k+1):=by
 unfold addP at h;split at h
 ·injection h with _ h;cases h
 ·rename_i ms hm;split at h
  ·split at h
   ·injection h with _ h;unfold zRl at h;dsimp only at h;split at h
    ·cases h
    ·split at h
     ·split at h
      ·cases h
      ·rename_i hid;split at h
       ·cases h
       ·rename_i hop;simp at h;subst h;exact hd.call_op hk _ (by simpa using hid) (by simpa using hop) rfl rfl
     ·cases h
   ·split at h
    ·unfold retP at h;split at h
     ·injection h with _ h;cases h
     ·split at h
      ·injection h with _ h;cases h
      ·rename_i i _ _ o he;split at h
       ·injection h with _ h;cases h
       ·rename_i hz;split at h
        ·injection h with _ h;injection h with h;subst h;exact hd.ret_op i o he (by simpa using hz) _ _
        ·injection h with _ h;cases h
    ·injection h with _ h;cases h
  ·injection h with _ h;cases h
theorem zbd (model:List UInt8):∀(f:Nat) (ops:List OpV) (t:List UInt8) (k:Nat) (res:List OpV),Rd ops (k:Int)→zIn model f ops t k=.inl res→∃n:Int,Rd res n:=by
 intro f
 induction f with
 |zero=>intro ops t k res _ h;simp[zIn]at h
 |succ f ih=>
   intro ops t k res hd h;unfold zIn at h;split at h
   ·injection h with h;subst h;exact⟨_,hd⟩
   ·split at h
    ·cases h
    ·split at h
     ·cases h
     ·rename_i r ops' he;exact ih ops' _ (k+1) res (by have:=zDQ (by omega) hd he;exact_mod_cast this) h
theorem zAl {model t:List UInt8}{ops:List OpV}(h:z9w model t=.inl ops):∃n,Rd ops n:=zbd model 129 [] t 0 ops ⟨fun i j o o' h=>by simp at h,fun o h=>by simp at h,fun o h=>by simp at h,fun i j o o' h=>by simp at h⟩ h
theorem Rd.nodup {ops:List OpV}{k:Int}(h:Rd ops k):ops.Nodup:=by
 rw[List.Nodup,List.pairwise_iff_getElem];intro i j hi hj hij e;have:=h.ids i j _ _ (zC hi) (zC hj) (by rw[e]);omega
theorem Rd.lined {ops:List OpV}{k:Int}(h:Rd ops k):LinedM ops:=by
 intro o ho o' ho' hne hcl;obtain⟨i,hi⟩:=List.mem_iff_getElem?.1 ho;obtain⟨j,hj⟩:=List.mem_iff_getElem?.1 ho';have hij:i≠j:=fun e=>by subst e;rw[hi]at hj;injection hj with hj;exact hne hj
 rcases Nat.lt_or_gt_of_ne hij with h1|h1
 ·have:=h.wait i j o o' hi hj h1 hcl;left;unfold ahB;simp[this.1,this.2]
 ·have:=h.wait j i o' o hj hi h1 hcl.symm;right;unfold ahB;simp[this.1,this.2]
end Go.Proofs.YtbbkihekjdffpaaGreatDoor.srch
