/- Several texts in one. -/
import Derived.Test.YtoeoinpaidhmcaaGreatDoorSrchBX
import Derived.Laws.BitsAllLaws
import Derived.Sort.LotA
set_option maxHeartbeats 2000000
set_option maxRecDepth 100000
namespace Go.Proofs.YtoeoinpaidhmcaaGreatDoor.srch
open Go.RowKit
section
variable {σ:Type} (doit:σ→OpV→σ×Int×Int) (ops:List OpV)
def zYl (c:Gr×σ)(p:Nat):Option (Gr×σ):=
 match ops[p]? with
 |none=>none
 |some o=>if gHas c.1 p||!zJn (ahG o.call ops 0 (0,0)) c.1 then none else if o.ret≠0∧((doit c.2 o).2.1,(doit c.2 o).2.2)≠(o.vk,o.vn)then none else some (zdS c.1 p,(doit c.2 o).1)
inductive PathW (c0:Gr×σ):List (Stp σ)→Gr×σ→Prop
 | nil:PathW c0 [] c0
 | snoc (l:List (Stp σ)) (s:Stp σ) (c:Gr×σ) (h:PathW c0 l (s.g,s.st)) (hs:zYl doit ops (s.g,s.st) s.pl=some c):PathW c0 (l++[s]) c
def Reach (c0 c:Gr×σ):Prop:=∃l,PathW doit ops c0 l c
theorem zyo [DecidableEq σ]{o:OpV}{m:Mch σ}(a:ops[m.place]?=some o):
 (look doit ops o m=(false,{ m with place:=m.place+1 })∧∀t,zYl doit ops m.here m.place=some t→t∈m.seen)∨
 (∃t,zYl doit ops m.here m.place=some t∧t∉m.seen∧look doit ops o m=(true,{ m with way:=m.way++[⟨m.here.1,m.here.2,m.place⟩],here:=t,seen:=t::m.seen })):=by
 unfold look zYl;rw[a];dsimp only;split
 ·exact .inl ⟨rfl,fun t h=>by cases h⟩
 ·split
  ·exact .inl ⟨rfl,fun t h=>by cases h⟩
  ·split
   ·rename_i h;exact .inl ⟨rfl,fun t ht=>by injection ht with ht;rw[←ht];exact h⟩
   ·rename_i h;exact .inr ⟨_,rfl,h,rfl⟩
theorem zDJ {c t:Gr×σ}{p:Nat}(h:zYl doit ops c p=some t):p<ops.length:=by
 unfold zYl at h;split at h
 ·cases h
 ·rename_i o ho;exact(zB ho).1
theorem zJ6 {c t:Gr×σ}{p:Nat}(h:zYl doit ops c p=some t):gHas c.1 p=false∧t.1=zdS c.1 p:=by
 unfold zYl at h;split at h
 ·cases h
 ·split at h
  ·cases h
  ·rename_i hc;split at h
   ·cases h
   ·injection h with h;rw[←h];refine⟨?_,rfl⟩;cases e:gHas c.1 p with
    |false=>rfl
    |true=>rw[e]at hc;simp at hc
def cntG (g:Gr):Nat:=((List.range 128).filter (fun q=>gHas g q)).length
theorem zBv {g:Gr}(j:wfG g){p:Nat}(d:p<128)(h:gHas g p=false):cntG (zdS g p)=cntG g+1:=by
 unfold cntG;have e:(List.range 128).filter (fun q=>gHas (zdS g p) q)=(List.range 128).filter (fun q=>decide (p=q)||gHas g q):=by
  refine List.filter_congr (fun q hq=>?_);exact zx7 j p q d (by simpa using hq)
 rw[e];have key:∀l:List Nat,l.Nodup→(l.filter (fun q=>decide (p=q)||gHas g q)).length=(l.filter (fun q=>gHas g q)).length+(if p∈l then 1 else 0):=by
  intro l
  induction l with
  |nil=>intro _;simp
  |cons a t ih=>
    intro m;obtain⟨i,b⟩:=List.nodup_cons.1 m;rw[List.filter_cons,List.filter_cons];by_cases hpa:p=a
    ·subst hpa;have:=ih b;rw[if_neg i]at this;simp[h,this]
    ·have:=ih b;have k:(p∈a::t)↔(p∈t):=(by simp[hpa]);simp only [hpa,decide_false,Bool.false_or,k];split
     ·simp only [List.length_cons];omega
     ·exact this
 rw[key _ List.nodup_range,if_pos (by simpa using d)]
theorem zXL:cntG (0,0)=0:=by
 unfold cntG;rw[List.filter_eq_nil_iff.2 (fun q _=>by rw[z4a];simp)];rfl
theorem zIM (e:ops.length≤128){s0:σ}{l:List (Stp σ)}{c:Gr×σ}(h:PathW doit ops ((0,0),s0) l c):wfG c.1∧cntG c.1=l.length:=by
 induction h with
 |nil=>exact⟨wf_zero,zXL⟩
 |snoc l s c h hs ih=>
   obtain⟨a,b⟩:=zJ6 doit ops hs;have d:=zDJ doit ops hs;rw[b];refine⟨zgs ih.1 _,?_⟩;rw[zBv ih.1 (by omega) a,ih.2,zJ];rfl
theorem path_lt {c0:Gr×σ}{l:List (Stp σ)}{c:Gr×σ}(h:PathW doit ops c0 l c):∀s∈l,s.pl<ops.length:=by
 induction h with
 |nil=>intro s b;cases b
 |snoc l s c h b ih=>
   intro x a;rcases List.mem_append.1 a with a|a
   ·exact ih x a
   ·rw[List.mem_singleton]at a;subst a;exact zDJ doit ops b
theorem zpd {c0:Gr×σ}{l:List (Stp σ)}{s:Stp σ}{c:Gr×σ}(h:PathW doit ops c0 (l++[s]) c):PathW doit ops c0 l (s.g,s.st)∧zYl doit ops (s.g,s.st) s.pl=some c:=by
 generalize hq:l++[s]=q at h;cases h with
 |nil=>simp at hq
 |snoc l2 s2 c2 h2 hs2=>
   obtain⟨b,a⟩:=List.append_inj' hq rfl;injection a with a;subst b a;exact⟨h2,hs2⟩
def restW (n:Nat)(l:List (Stp σ)):Nat:=(l.map (fun s=>n-(s.pl+1))).sum
theorem zE5 (n:Nat)(l:List (Stp σ))(s:Stp σ):restW n (l++[s])=restW n l+(n-(s.pl+1)):=by
 unfold restW;rw[List.map_append,List.sum_append];simp
structure DI (s0:σ)(b0 b:Int)(fo:Bool)(m:Mch σ):Prop where
 path:PathW doit ops ((0,0),s0) m.way m.here
 nd:(((0,0),s0)::m.seen).Nodup
 reach:∀c∈m.seen,Reach doit ops ((0,0),s0) c
 mem:m.here∈((0,0),s0)::m.seen
 frm:∀s∈m.way,((s.g,s.st):Gr×σ)∈((0,0),s0)::m.seen
 not:∀c∈((0,0),s0)::m.seen,(c=m.here∧fo=true)∨(zJn (retG ops 0 (0,0)) c.1=false∧cntG c.1≤m.longest.length)
 close:∀c∈((0,0),s0)::m.seen,∀p t,zYl doit ops c p=some t→t∈m.seen∨(c=m.here∧(fo=true∨m.place≤p))∨∃s∈m.way,c=(s.g,s.st)∧s.pl<p
 lng:∃l c,PathW doit ops ((0,0),s0) l c∧m.longest=takenL ops l
 pl:m.place≤ops.length
 cost:b0-b+(ops.length-(if fo then 0 else m.place):Nat)+(restW ops.length m.way:Nat)≤(ops.length*(m.seen.length+1):Nat)
def Told (s0:σ)(b0:Int)(r:Out):Prop:=
 ∃vis:List (Gr×σ),vis.Nodup∧(∀c∈vis,Reach doit ops ((0,0),s0) c)∧
  ((r.verdict=0∧(b0≤0∨b0<(ops.length*vis.length:Nat)))∨
   (r.verdict=1∧b0-r.left≤(ops.length*vis.length:Nat)∧∃l c,PathW doit ops ((0,0),s0) l c∧zJn (retG ops 0 (0,0)) c.1=true∧r.order=takenL ops l)∨
   (r.verdict=2∧b0-r.left≤(ops.length*vis.length:Nat)∧(∃l c,PathW doit ops ((0,0),s0) l c∧r.order=takenL ops l)∧∀c,Reach doit ops ((0,0),s0) c→zJn (retG ops 0 (0,0)) c.1=false∧cntG c.1≤r.order.length))
theorem zBJ [DecidableEq σ](P:ops.length≤128)(s0:σ)(C:Int)(f:Nat):∀(b:Int) (E:Bool) (m:Mch σ) (r:Out),DI doit ops s0 C b E m→(0≤b∨b=C)→srun doit ops f b E m=some r→Told doit ops s0 C r:=by
 induction f with
 |zero=>intro b E m r _ _ h;simp[srun]at h
 |succ f ih=>
   intro b E m r d Q h;have D:∀c∈((0,0),s0)::m.seen,Reach doit ops ((0,0),s0) c:=by
    intro c j;rcases List.mem_cons.1 j with rfl|j
    ·exact⟨[],.nil⟩
    ·exact d.reach c j
   cases E with
   |true=>
     unfold srun at h;split at h
     ·rename_i F;injection h with h;subst h;refine⟨_,d.nd,D,.inr (.inl ⟨rfl,?_,_,_,d.path,F,rfl⟩)⟩;have:=d.cost;simp only [List.length_cons];show C-b≤_;omega
     ·rename_i F;refine ih _ _ _ _ ?_ Q h;have O:zJn (retG ops 0 (0,0)) m.here.1=false:=(by simpa using F);have N:(if m.longest.length<m.way.length then takenL ops m.way else m.longest).length=max m.longest.length m.way.length:=by
       split
       ·rw[zUxG ops m.way (path_lt doit ops d.path)];omega
       ·omega
      refine⟨d.path,d.nd,d.reach,d.mem,d.frm,?_,?_,?_,Nat.zero_le _,?_⟩
      ·intro c j;right;dsimp only;rw[N];rcases d.not c j with ⟨rfl,_⟩|⟨a,i⟩
       ·exact⟨O,by rw[(zIM doit ops P d.path).2];omega⟩
       ·exact⟨a,by omega⟩
      ·intro c j p t k;rcases d.close c j p t k with a|⟨a,_⟩|a
       ·exact .inl a
       ·exact .inr (.inl ⟨a,.inr (Nat.zero_le _)⟩)
       ·exact .inr (.inr a)
      ·dsimp only;split
       ·exact⟨_,_,d.path,rfl⟩
       ·exact d.lng
      ·have:=d.cost;dsimp only;simpa using this
   |false=>
     unfold srun at h;cases ho:ops[m.place]? with
     |some o=>
       have I:m.place<ops.length:=(zB ho).1;have w:=d.cost;simp only [Bool.false_eq_true,if_false]at w;rw[ho]at h;dsimp only at h;split at h
       ·injection h with h;subst h;refine⟨_,d.nd,D,.inl ⟨rfl,?_⟩⟩;simp only [List.length_cons];omega
       ·rename_i hb0;rcases zyo doit ops ho with ⟨e,S⟩|⟨t,H,M,e⟩
        ·rw[e]at h;refine ih _ _ _ _ ?_ (.inl (by omega)) h;refine⟨d.path,d.nd,d.reach,d.mem,d.frm,?_,?_,d.lng,I,?_⟩
         ·intro c j;rcases d.not c j with ⟨_,i⟩|a
          ·cases i
          ·exact .inr a
         ·intro c j p G k;rcases d.close c j p G k with a|⟨a,i⟩|a
          ·exact .inl a
          ·rcases i with i|i
           ·cases i
           ·by_cases v:p=m.place
            ·subst v;subst a;exact .inl (S G k)
            ·exact .inr (.inl ⟨a,.inr (by show m.place+1≤p;omega)⟩)
          ·exact .inr (.inr a)
         ·dsimp only;simp only [Bool.false_eq_true,if_false];omega
        ·rw[e]at h;have u:PathW doit ops ((0,0),s0) (m.way++[⟨m.here.1,m.here.2,m.place⟩]) t:=.snoc _ _ _ d.path H;refine ih _ _ _ _ ?_ (.inl (by omega)) h;have R:t≠((0,0),s0):=by
          intro U;have a:=(zIM doit ops P u).2;rw[U,zXL,zJ]at a;simp at a
         refine⟨u,?_,?_,?_,?_,?_,?_,d.lng,d.pl,?_⟩
         ·dsimp only;have L:=d.nd;rw[List.nodup_cons]at L⊢;rw[List.nodup_cons];exact⟨by simp only [List.mem_cons,not_or];exact⟨fun x=>R x.symm,L.1⟩,M,L.2⟩
         ·intro c j;rcases List.mem_cons.1 j with rfl|j
          ·exact⟨_,u⟩
          ·exact d.reach c j
         ·simp
         ·intro x n;dsimp only at n⊢;rcases List.mem_append.1 n with n|n
          ·have:=d.frm x n;simp only [List.mem_cons]at this⊢;rcases this with a|a
           ·exact .inl a
           ·exact .inr (.inr a)
          ·rw[List.mem_singleton]at n;subst n;have:=d.mem;simp only [List.mem_cons]at this⊢;rcases this with a|a
           ·exact .inl a
           ·exact .inr (.inr a)
         ·intro c j;dsimp only at j⊢;by_cases hct:c=t
          ·exact .inl ⟨hct,rfl⟩
          ·have B:c∈((0,0),s0)::m.seen:=by
            simp only [List.mem_cons]at j⊢;rcases j with a|a|a
            ·exact .inl a
            ·exact absurd a hct
            ·exact .inr a
           rcases d.not c B with ⟨_,i⟩|a
           ·cases i
           ·exact .inr a
         ·intro c j p G k;dsimp only at j⊢;by_cases hct:c=t
          ·exact .inr (.inl ⟨hct,.inl rfl⟩)
          ·have B:c∈((0,0),s0)::m.seen:=by
            simp only [List.mem_cons]at j⊢;rcases j with a|a|a
            ·exact .inl a
            ·exact absurd a hct
            ·exact .inr a
           rcases d.close c B p G k with a|⟨a,i⟩|⟨s,hs,a,i⟩
           ·exact .inl (List.mem_cons_of_mem _ a)
           ·rcases i with i|i
            ·cases i
            ·by_cases v:p=m.place
             ·subst v;subst a;rw[H]at k;injection k with k;exact .inl (by rw[←k];simp)
             ·exact .inr (.inr ⟨⟨m.here.1,m.here.2,m.place⟩,by simp,a,by show m.place<p;omega⟩)
           ·exact .inr (.inr ⟨s,by simp[hs],a,i⟩)
         ·dsimp only;rw[zE5];simp only [if_true,List.length_cons,Nat.sub_zero];have:ops.length*(m.seen.length+1+1)=ops.length*(m.seen.length+1)+ops.length:=Nat.mul_succ _ _;rw[this];omega
     |none=>
       have I:ops.length≤m.place:=by
        rcases Nat.lt_or_ge m.place ops.length with a|a
        ·rw[zC a]at ho;cases ho
        ·exact a
       have w:=d.cost;simp only [Bool.false_eq_true,if_false]at w;rw[ho]at h;dsimp only at h;cases hl:m.way.getLast? with
       |none=>
         rw[hl]at h;injection h with h;subst h;have F:m.way=[]:=List.getLast?_eq_none_iff.1 hl;have A:∀c∈((0,0),s0)::m.seen,∀p t,zYl doit ops c p=some t→t∈m.seen:=by
          intro c j p t k;rcases d.close c j p t k with a|⟨_,i⟩|⟨s,hs,_⟩
          ·exact a
          ·rcases i with i|i
           ·cases i
           ·have:=zDJ doit ops k;omega
          ·rw[F]at hs;cases hs
         have K:∀l c,PathW doit ops ((0,0),s0) l c→c∈((0,0),s0)::m.seen:=by
          intro l c v
          induction v with
          |nil=>simp
          |snoc l s c h hs ih2=>exact List.mem_cons_of_mem _ (A _ ih2 _ _ hs)
         refine⟨_,d.nd,D,.inr (.inr ⟨rfl,?_,d.lng,?_⟩)⟩
         ·simp only [List.length_cons];show C-b≤_;omega
         ·intro c ⟨l,v⟩;rcases d.not c (K l c v)with ⟨_,i⟩|a
          ·cases i
          ·exact a
       |some s=>
         rw[hl]at h;dsimp only at h;obtain⟨l,q⟩:∃l,m.way=l++[s]:=List.getLast?_eq_some_iff.1 hl;have y:=d.path;rw[q]at y;have u:=zpd doit ops y;have z:m.way.dropLast=l:=(by rw[q,List.dropLast_concat]);refine ih _ _ _ _ ?_ Q h;have J:((s.g,s.st):Gr×σ)∈((0,0),s0)::m.seen:=d.frm s (by rw[q];simp);refine⟨by dsimp only;rw[z];exact u.1,d.nd,d.reach,J,fun x n=>by dsimp only at n;rw[z]at n;exact d.frm x (by rw[q];simp[n]),?_,?_,d.lng,zDJ doit ops u.2,?_⟩
         ·intro c j;rcases d.not c j with ⟨_,i⟩|a
          ·cases i
          ·exact .inr a
         ·intro c j p t k;dsimp only;rw[z];rcases d.close c j p t k with a|⟨_,i⟩|⟨s2,hs2,a,i⟩
          ·exact .inl a
          ·rcases i with i|i
           ·cases i
           ·have:=zDJ doit ops k;omega
          ·rw[q]at hs2;rcases List.mem_append.1 hs2 with hs2|hs2
           ·exact .inr (.inr ⟨s2,hs2,a,i⟩)
           ·rw[List.mem_singleton]at hs2;subst hs2;exact .inr (.inl ⟨a,.inr i⟩)
         ·dsimp only;rw[z];rw[q,zE5]at w;simp only [Bool.false_eq_true,if_false];omega
theorem Found.told [DecidableEq σ](a:ops.length≤128){s0:σ}{b:Int}{r:Out}(h:Found doit ops s0 b r):Told doit ops s0 b r:=by
 obtain⟨f,h⟩:=h;refine zBJ doit ops a s0 b f b true _ r ⟨.nil,by simp,fun c hc=>by simp at hc,by simp,fun s hs=>by simp at hs,fun c hc=>.inl ⟨by simpa using hc,rfl⟩,fun c hc p t ht=>.inr (.inl ⟨by simpa using hc,.inl rfl⟩),⟨[],_,.nil,rfl⟩,Nat.zero_le _,?_⟩ (.inr rfl) h;simp[restW]
end
theorem z5a (a b:Nat)(k:a<18446744073709551616)(j:b<18446744073709551616):(bits .andNot .u64 (a:Int) (b:Int) != 0)=false↔∀i,i<64→a.testBit i=true→b.testBit i=true:=by
 rw[u64_andNot_nat a b k j];have key:∀i,(a &&& (18446744073709551615-b)).testBit i=(a.testBit i&&(decide (i<64)&&!b.testBit i)):=by
  intro i;rw[Nat.testBit_and];congr 1;have:=Nat.testBit_two_pow_sub_succ (x:=b) (n:=64) (by simpa using j) i;rw[←this];congr 1;omega
 constructor
 ·intro h i e d;have g:a &&& (18446744073709551615-b)=0:=by
   have:(((a &&& (18446744073709551615-b):Nat):Int)==0)=true:=by simpa using h
   exact_mod_cast (beq_iff_eq.1 this)
  have:=key i;rw[g,Nat.zero_testBit,d]at this;cases hb':b.testBit i with
  |true=>rfl
  |false=>rw[hb']at this;simp[e]at this
 ·intro h;have g:a &&& (18446744073709551615-b)=0:=by
   apply Nat.eq_of_testBit_eq;intro i;rw[key,Nat.zero_testBit];by_cases e:i<64
   ·cases d:a.testBit i with
    |false=>rfl
    |true=>rw[h i e d];simp
   ·simp[e]
  rw[g];rfl
theorem zcR {g h:Gr}(p:wfG g)(w:wfG h):zJn g h=true↔∀q,q<128→gHas g q=true→gHas h q=true:=by
 obtain⟨x,y⟩:=g;obtain⟨b,e⟩:=h;obtain⟨⟨l,r⟩,o,u⟩:=p;obtain⟨⟨c1,t⟩,n,s⟩:=w;dsimp only at l r o u c1 t n s;obtain⟨x,rfl⟩:=Int.eq_ofNat_of_zero_le l;obtain⟨y,rfl⟩:=Int.eq_ofNat_of_zero_le o;obtain⟨b,rfl⟩:=Int.eq_ofNat_of_zero_le c1;obtain⟨e,rfl⟩:=Int.eq_ofNat_of_zero_le n;have k:x<18446744073709551616:=by omega
 have j:y<18446744073709551616:=by omega
 have d:b<18446744073709551616:=by omega
 have a:e<18446744073709551616:=by omega
 have z:=z5a x b k d;have v:=z5a y e j a;unfold zJn gHas;dsimp only;rw[Bool.and_eq_true,Bool.not_eq_true',Bool.not_eq_true',z,v];constructor
 ·intro ⟨h1,h2⟩ q hq;have m:q%64<64:=Nat.mod_lt _ (by omega);by_cases h64:q<64
  ·rw[if_pos h64,if_pos h64,bit_of x k,bit_of b d];exact h1 _ m
  ·rw[if_neg h64,if_neg h64,bit_of y j,bit_of e a];exact h2 _ m
 ·intro h;refine⟨fun i hi=>?_,fun i hi=>?_⟩
  ·have:=h i (by omega);rw[if_pos hi,if_pos hi,Nat.mod_eq_of_lt hi,bit_of x k,bit_of b d]at this;exact this
  ·have:=h (64+i) (by omega);rw[if_neg (by omega),if_neg (by omega),show(64+i)%64=i by omega,bit_of y j,bit_of e a]at this;exact this
theorem zee (call:Int)(l:List OpV):∀(p:Nat) (g:Gr),wfG g→wfG (ahG call l p g):=by
 induction l with
 |nil=>intro p g h;exact h
 |cons o r ih=>
   intro p g h;unfold ahG;apply ih;split
   ·exact zgs h p
   ·exact h
theorem z0k (l:List OpV):∀(p:Nat) (g:Gr),wfG g→wfG (retG l p g):=by
 induction l with
 |nil=>intro p g h;exact h
 |cons o r ih=>
   intro p g h;unfold retG;apply ih;split
   ·exact h
   ·exact zgs h p
theorem zlF (call:Int)(l:List OpV):∀(p:Nat) (g:Gr),wfG g→p+l.length≤128→∀q,q<128→(gHas (ahG call l p g) q=true↔gHas g q=true∨∃i o,q=p+i∧l[i]?=some o∧ahB o call=true):=by
 induction l with
 |nil=>intro p g _ _ q _;simp[ahG]
 |cons o r ih=>
   intro p g h m q j;simp only [List.length_cons]at m;unfold ahG;have k:wfG (if ahB o call then zdS g p else g):=by
    split
    ·exact zgs h p
    ·exact h
   rw[ih (p+1) _ k (by omega) q j];have n:(gHas (if ahB o call then zdS g p else g) q=true)↔(gHas g q=true∨(q=p∧ahB o call=true)):=by
    split
    ·rename_i ha;rw[zx7 h p q (by omega) j,Bool.or_eq_true,decide_eq_true_eq];constructor
     ·rintro(rfl|a)
      ·exact .inr ⟨rfl,ha⟩
      ·exact .inl a
     ·rintro(a|⟨rfl,_⟩)
      ·exact .inr a
      ·exact .inl rfl
    ·rename_i ha;simp[ha]
   rw[n];constructor
   ·rintro((a|⟨rfl,b⟩)|⟨i,e,a,b,d⟩)
    ·exact .inl a
    ·exact .inr ⟨0,o,by omega,by simp,b⟩
    ·exact .inr ⟨i+1,e,by omega,by simpa using b,d⟩
   ·rintro(a|⟨i,e,a,b,d⟩)
    ·exact .inl (.inl a)
    ·cases i with
     |zero=>simp at b;subst b;exact .inl (.inr ⟨by omega,d⟩)
     |succ i=>exact .inr ⟨i,e,by omega,by simpa using b,d⟩
theorem zPV (l:List OpV):∀(p:Nat) (g:Gr),wfG g→p+l.length≤128→∀q,q<128→(gHas (retG l p g) q=true↔gHas g q=true∨∃i o,q=p+i∧l[i]?=some o∧o.ret≠0):=by
 induction l with
 |nil=>intro p g _ _ q _;simp[retG]
 |cons o r ih=>
   intro p g h m q j;simp only [List.length_cons]at m;unfold retG;have k:wfG (if o.ret=0 then g else zdS g p):=by
    split
    ·exact h
    ·exact zgs h p
   rw[ih (p+1) _ k (by omega) q j];have n:(gHas (if o.ret=0 then g else zdS g p) q=true)↔(gHas g q=true∨(q=p∧o.ret≠0)):=by
    split
    ·rename_i ha;simp[ha]
    ·rename_i ha;rw[zx7 h p q (by omega) j,Bool.or_eq_true,decide_eq_true_eq];constructor
     ·rintro(rfl|a)
      ·exact .inr ⟨rfl,ha⟩
      ·exact .inl a
     ·rintro(a|⟨rfl,_⟩)
      ·exact .inr a
      ·exact .inl rfl
   rw[n];constructor
   ·rintro((a|⟨rfl,b⟩)|⟨i,e,a,b,d⟩)
    ·exact .inl a
    ·exact .inr ⟨0,o,by omega,by simp,b⟩
    ·exact .inr ⟨i+1,e,by omega,by simpa using b,d⟩
   ·rintro(a|⟨i,e,a,b,d⟩)
    ·exact .inl (.inl a)
    ·cases i with
     |zero=>simp at b;subst b;exact .inl (.inr ⟨by omega,d⟩)
     |succ i=>exact .inr ⟨i,e,by omega,by simpa using b,d⟩
theorem zcZ {a:List OpV}(l:a.length≤128){g:Gr}(d:wfG g)(call:Int):zJn (ahG call a 0 (0,0)) g=true↔∀q o,a[q]?=some o→ahB o call=true→gHas g q=true:=by
 rw[zcR (zee _ _ _ _ wf_zero) d];constructor
 ·intro h q o b j;have k:=(zB b).1;exact h q (by omega) ((zlF call a 0 (0,0) wf_zero (by omega) q (by omega)).2 (.inr ⟨q,o,by omega,b,j⟩))
 ·intro h q b e;rcases(zlF call a 0 (0,0) wf_zero (by omega) q b).1 e with h1|⟨i,o,rfl,h2,h3⟩
  ·rw[z4a]at h1;cases h1
  ·rw[Nat.zero_add];exact h i o h2 h3
theorem z6g {a:List OpV}(l:a.length≤128){g:Gr}(d:wfG g):zJn (retG a 0 (0,0)) g=true↔∀q o,a[q]?=some o→o.ret≠0→gHas g q=true:=by
 rw[zcR (z0k _ _ _ wf_zero) d];constructor
 ·intro h q o b j;have k:=(zB b).1;exact h q (by omega) ((zPV a 0 (0,0) wf_zero (by omega) q (by omega)).2 (.inr ⟨q,o,by omega,b,j⟩))
 ·intro h q b e;rcases(zPV a 0 (0,0) wf_zero (by omega) q b).1 e with h1|⟨i,o,rfl,h2,h3⟩
  ·rw[z4a]at h1;cases h1
  ·rw[Nat.zero_add];exact h i o h2 h3
section
variable {σ:Type} (doit:σ→OpV→σ×Int×Int) (ops:List OpV)
theorem zZu (k:ops.length≤128){c:Gr×σ}(j:wfG c.1){p:Nat}{t:Gr×σ}:zYl doit ops c p=some t↔∃o,ops[p]?=some o∧gHas c.1 p=false∧(∀q b,ops[q]?=some b→ahB b o.call=true→gHas c.1 q=true)∧(o.ret≠0→((doit c.2 o).2.1,(doit c.2 o).2.2)=(o.vk,o.vn))∧t=(zdS c.1 p,(doit c.2 o).1):=by
 unfold zYl;cases ho:ops[p]? with
 |none=>simp
 |some o=>
   dsimp only;have g:=zcZ k j o.call;constructor
   ·intro h;split at h
    ·cases h
    ·rename_i a;split at h
     ·cases h
     ·rename_i d;injection h with h;simp only [Bool.or_eq_true,Bool.not_eq_true',not_or,Bool.not_eq_true,Bool.not_eq_false]at a;refine⟨o,rfl,a.1,g.1 a.2,fun hr=>?_,h.symm⟩;exact Decidable.byContradiction fun hh=>d ⟨hr,hh⟩
   ·rintro⟨b,e,a,d,i,rfl⟩;injection e with e;subst e;rw[if_neg (by simp[a,g.2 d]),if_neg (fun hh=>hh.2 (i hh.1))]
end
theorem ziO {α:Type} [DecidableEq α](l:List α):∀m:List α,l.Nodup→(∀x∈l,x∈m)→l.length≤m.length:=by
 induction l with
 |nil=>intro m _ _;exact Nat.zero_le _
 |cons a t ih=>
   intro m i d;obtain⟨g,h⟩:=List.nodup_cons.1 i;have b:=d a (by simp);have:=ih (m.erase a) h (fun x hx=>(List.mem_erase_of_ne (fun(e:x=a)=>g (by rw[←e];exact hx))).2 (d x (by simp[hx])));rw[List.length_erase_of_mem b]at this;have j:0<m.length:=List.length_pos_of_mem b;simp only [List.length_cons];omega
section
variable {σ:Type} (doit:σ→OpV→σ×Int×Int) (ops:List OpV)
theorem zxD (j:ops.length≤128){s0:σ}{l:List (Stp σ)}{c:Gr×σ}(h:PathW doit ops ((0,0),s0) l c):(l.map (·.pl)).Nodup∧∀q,q<128→(gHas c.1 q=true↔q∈l.map (·.pl)):=by
 induction h with
 |nil=>exact⟨by simp,fun q _=>by rw[z4a];simp⟩
 |snoc l s c h hs ih=>
   obtain⟨d,i⟩:=zJ6 doit ops hs;have k:=zDJ doit ops hs;have g:=(zIM doit ops j h).1;refine⟨?_,fun q hq=>?_⟩
   ·rw[List.map_append,List.nodup_append];refine⟨ih.1,by simp,fun a ha b hb=>?_⟩;simp at hb;subst hb;intro e;subst e;have:=(ih.2 _ (by omega)).2 ha;rw[d]at this;cases this
   ·rw[i,zx7 g _ _ (by omega) hq,Bool.or_eq_true,decide_eq_true_eq,ih.2 q hq,List.map_append,List.mem_append];simp only [List.map_cons,List.map_nil,List.mem_singleton];constructor
    ·rintro(h|h)
     ·exact .inr h.symm
     ·exact .inl h
    ·rintro(h|h)
     ·exact .inr h
     ·exact .inl h.symm
def zNA (ops:List OpV):Prop:=∀(p q:Nat) (o o':OpV),ops[p]?=some o→ops[q]?=some o'→p≠q→o.cl=o'.cl→ahB o o'.call=true∨ahB o' o.call=true
end
open Go.Sort (swp size_swp insInner insOuter PermIn swp_permIn permIn_refl permIn_trans permIn_mono)
section
variable {α:Type} [Inhabited α] (lt:α→α→Bool)
theorem zW4 (N a b:Nat)(n:Nat):∀(i:Nat) (d:Array α),N≤d.size→a+i+n≤N→b+i+n≤N→PermIn 0 N d (swLoop a b n i d):=by
 induction n with
 |zero=>intro i d _ _ _;exact permIn_refl _ _ _
 |succ n ih=>
   intro i d e h j;have g:=swp_permIn d 0 N (a+i) (b+i) (by omega) (by omega) (by omega) (by omega) e;exact permIn_trans _ _ _ _ _ g (ih (i+1) _ (by rw[size_swp];exact e) (by omega) (by omega))
theorem zMw (N m:Nat)(f:Nat):∀(i j:Nat) (d:Array α),N≤d.size→i≤m→m+j≤N→PermIn 0 N d (rotLoop m f i j d):=by
 induction f with
 |zero=>intro i j d _ _ _;exact permIn_refl _ _ _
 |succ f ih=>
   intro i j d a b e;unfold rotLoop;split
   ·exact zW4 N _ _ _ 0 d a (by omega) (by omega)
   ·split
    ·exact permIn_trans _ _ _ _ _ (zW4 N (m-i) m j 0 d a (by omega) (by omega)) (ih _ _ _ (by rw[zWt];exact a) (by omega) e)
    ·exact permIn_trans _ _ _ _ _ (zW4 N (m-i) (m+j-i) i 0 d a (by omega) (by omega)) (ih _ _ _ (by rw[zWt];exact a) b (by omega))
theorem zpS (N:Nat)(d:Array α)(a m b:Nat)(e:N≤d.size)(g:m≤b)(h:b≤N):PermIn 0 N d (rot d a m b):=zMw N m _ _ _ d e (by omega) (by omega)
theorem zUo (N e f:Nat)(b:e<N):∀(k:Nat) (d:Array α),N≤d.size→PermIn 0 N d (upTo e f k d):=by
 induction f with
 |zero=>intro k d _;exact permIn_refl _ _ _
 |succ f ih=>
   intro k d a;unfold upTo;split
   ·exact permIn_trans _ _ _ _ _ (swp_permIn d 0 N k (k+1) (by omega) (by omega) (by omega) (by omega) a) (ih _ _ (by rw[size_swp];exact a))
   ·exact permIn_refl _ _ _
theorem zxe (N e f:Nat):∀(k:Nat) (d:Array α),N≤d.size→k<N→PermIn 0 N d (downTo e f k d):=by
 induction f with
 |zero=>intro k d _ _;exact permIn_refl _ _ _
 |succ f ih=>
   intro k d a b;unfold downTo;split
   ·exact permIn_trans _ _ _ _ _ (swp_permIn d 0 N k (k-1) (by omega) (by omega) (by omega) (by omega) a) (ih _ _ (by rw[size_swp];exact a) (by omega))
   ·exact permIn_refl _ _ _
theorem zCv (d:Array α)(a m b:Nat)(e:a≤m)(g:m≤b):(if(a+b)/2<m then(a+b)/2+m-b else a)≤zzQ lt d a m b∧zzQ lt d a m b≤(if(a+b)/2<m then(a+b)/2 else m):=by
 unfold zzQ;dsimp only;exact zw6 _ _ _ _ (by split<;>omega)
theorem zCy (N:Nat)(f:Nat):∀(a m b:Nat) (d:Array α),N≤d.size→a<m→m<b→b≤N→PermIn 0 N d (symM lt f a m b d):=by
 induction f with
 |zero=>intro a m b d _ _ _ _;exact permIn_refl _ _ _
 |succ f ih=>
   intro a m b d e p q n;unfold symM;dsimp only;split
   ·have:=zw6 (fun h=>lt d[h]! d[a]!) (b-m+1) m b (by omega);exact zUo N _ _ (by omega) _ d e
   ·split
    ·exact zxe N _ _ _ d e (by omega)
    ·have k:=zCv lt d a m b (by omega) (by omega);generalize zzQ lt d a m b=st at k⊢;have o:(a+b)/2+m-st≤b:=(by split at k<;>omega);have l:PermIn 0 N d (if st<m∧m<(a+b)/2+m-st then rot d st m ((a+b)/2+m-st)else d):=by
      split
      ·exact zpS N d st m _ e (by omega) (by omega)
      ·exact permIn_refl _ _ _
     have g:N≤(if st<m∧m<(a+b)/2+m-st then rot d st m ((a+b)/2+m-st)else d).size:=by
      split
      ·rw[zdT];exact e
      ·exact e
     generalize (if st<m∧m<(a+b)/2+m-st then rot d st m ((a+b)/2+m-st)else d)=d1 at l g⊢;have i:PermIn 0 N d1 (if a<st∧st<(a+b)/2 then symM lt f a st ((a+b)/2) d1 else d1):=by
      split
      ·exact ih _ _ _ _ g (by omega) (by omega) (by omega)
      ·exact permIn_refl _ _ _
     have j:N≤(if a<st∧st<(a+b)/2 then symM lt f a st ((a+b)/2) d1 else d1).size:=by
      split
      ·rw[zJ2];exact g
      ·exact g
     generalize (if a<st∧st<(a+b)/2 then symM lt f a st ((a+b)/2) d1 else d1)=d2 at i j⊢;refine permIn_trans _ _ _ _ _ (permIn_trans _ _ _ _ _ l i) ?_;split
     ·exact ih _ _ _ _ j (by omega) (by omega) n
     ·exact permIn_refl _ _ _
theorem zZH (N a:Nat)(j:Nat):∀d:Array α,N≤d.size→j<N→PermIn 0 N d (insInner lt a j d):=by
 induction j with
 |zero=>intro d _ _;exact permIn_refl _ _ _
 |succ j ih=>
   intro d b e;unfold insInner;split
   ·exact permIn_trans _ _ _ _ _ (swp_permIn d 0 N _ _ (by omega) (by omega) (by omega) (by omega) b) (ih _ (by rw[size_swp];exact b) (by omega))
   ·exact permIn_refl _ _ _
theorem zRR (N a b:Nat)(g:b≤N)(f:Nat):∀(i:Nat) (d:Array α),b-i≤f→N≤d.size→PermIn 0 N d (insOuter lt a b i d):=by
 induction f with
 |zero=>
   intro i d h _;unfold insOuter;rw[if_neg (by omega)];exact permIn_refl _ _ _
 |succ f ih=>
   intro i d h e;unfold insOuter;split
   ·exact permIn_trans _ _ _ _ _ (zZH lt N a i d e (by omega)) (ih _ _ (by omega) (by rw[zFW];exact e))
   ·exact permIn_refl _ _ _
theorem z8m (N:Nat)(d:Array α)(a b:Nat)(e:b≤N)(g:N≤d.size):PermIn 0 N d (Sort.insertionSort lt d a b):=zRR lt N a b e _ _ d zH g
theorem z7e (N:Nat)(f:Nat):∀(a:Nat) (d:Array α),N≤d.size→PermIn 0 N d (zSe lt f a N d).2∧(zSe lt f a N d).2.size=d.size:=by
 induction f with
 |zero=>intro a d _;exact⟨permIn_refl _ _ _,rfl⟩
 |succ f ih=>
   intro a d b;unfold zSe;split
   ·have h:=ih (a+20) (Sort.insertionSort lt d a (a+20)) (by rw[zpf];exact b);exact⟨permIn_trans _ _ _ _ _ (z8m lt N d a (a+20) (by omega) b) h.1,by rw[h.2,zpf]⟩
   ·exact⟨permIn_refl _ _ _,rfl⟩
theorem zIz (N b:Nat)(g:0<b)(f:Nat):∀(a:Nat) (d:Array α),N≤d.size→PermIn 0 N d (zHU lt b f a N d).2∧(zHU lt b f a N d).2.size=d.size:=by
 induction f with
 |zero=>intro a d _;exact⟨permIn_refl _ _ _,rfl⟩
 |succ f ih=>
   intro a d e;unfold zHU;split
   ·have h:=ih (a+2*b) (symM lt (2*b+1) a (a+b) (a+2*b) d) (by rw[zJ2];exact e);exact⟨permIn_trans _ _ _ _ _ (zCy lt N _ _ _ _ d e (by omega) (by omega) (by omega)) h.1,by rw[h.2,zJ2]⟩
   ·exact⟨permIn_refl _ _ _,rfl⟩
theorem ztD (N a:Nat)(e:0<a)(d:Array α)(b:N≤d.size):PermIn 0 N d (z8r lt a N d)∧(z8r lt a N d).size=d.size:=by
 unfold z8r;dsimp only;have h:=zIz lt N a e (N+1) 0 d b;split
 ·exact⟨permIn_trans _ _ _ _ _ h.1 (zCy lt N _ _ _ _ _ (by rw[h.2];exact b) (by omega) (by omega) zH),by rw[zJ2,h.2]⟩
 ·exact h
theorem zX9 (N:Nat)(f:Nat):∀(a:Nat) (d:Array α),0<a→N≤d.size→PermIn 0 N d (z2U lt f a N d):=by
 induction f with
 |zero=>intro a d _ _;exact permIn_refl _ _ _
 |succ f ih=>
   intro a d e b;unfold z2U;split
   ·have h:=ztD lt N a e d b;exact permIn_trans _ _ _ _ _ h.1 (ih _ _ (by omega) (by rw[h.2];exact b))
   ·exact permIn_refl _ _ _
theorem z0F (d:Array α):PermIn 0 d.size d (zjN lt d):=by
 unfold zjN;dsimp only;have h:=z7e lt d.size (d.size+1) 0 d zH;have a:=z8m lt d.size (zSe lt (d.size+1) 0 d.size d).2 (zSe lt (d.size+1) 0 d.size d).1 d.size zH (by rw[h.2];exact Nat.le_refl _);exact permIn_trans _ _ _ _ _ (permIn_trans _ _ _ _ _ h.1 a) (zX9 lt d.size _ 20 _ (by omega) (by rw[zpf,h.2];exact Nat.le_refl _))
end
theorem zBL (l:List OpV):(ordO l).Perm l:=by
 obtain⟨b,_,a⟩:=z0F (ltOf ordC) l.toArray;unfold ordO;have d:(zjN (ltOf ordC) l.toArray).extract 0 l.toArray.size=zjN (ltOf ordC) l.toArray:=by
  rw[←b];simp
 have e:l.toArray.extract 0 l.toArray.size=l.toArray:=by simp
 rw[d,e]at a;exact a
section
variable {σ:Type} (doit:σ→OpV→σ×Int×Int)
def zqq:σ→List OpV→Prop
 |_,[]=>True
 |s,o::r=>(o.ret≠0→((doit s o).2.1,(doit s o).2.2)=(o.vk,o.vn))∧zqq (doit s o).1 r
def endS (s:σ)(l:List OpV):σ:=l.foldl (fun s o=>(doit s o).1) s
theorem zLZ (s:σ)(l:List OpV)(o:OpV):endS doit s (l++[o])=(doit (endS doit s l) o).1:=by
 unfold endS;rw[List.foldl_append];rfl
theorem z6N (l:List OpV):∀(s:σ) (o:OpV),zqq doit s (l++[o])↔zqq doit s l∧(o.ret≠0→((doit (endS doit s l) o).2.1,(doit (endS doit s l) o).2.2)=(o.vk,o.vn)):=by
 induction l with
 |nil=>intro s o;simp[zqq,endS]
 |cons a t ih=>
   intro s o;have e:endS doit s (a::t)=endS doit (doit s a).1 t:=rfl;rw[List.cons_append,e];unfold zqq;rw[ih,and_assoc]
structure Legal (s0:σ)(part ord:List OpV):Prop where
 nd:ord.Nodup
 sub:∀o∈ord,o∈part
 ahead:∀l1 o l2,ord=l1++o::l2→∀o'∈part,ahB o' o.call=true→o'∈l1
 run:zqq doit s0 ord
def LinP (s0:σ)(part:List OpV):Prop:=∃ord,Legal doit s0 part ord∧∀o∈part,o.ret≠0→o∈ord
theorem Legal.init {s0:σ}{part a:List OpV}{o:OpV}(h:Legal doit s0 part (a++[o])):Legal doit s0 part a:=by
 refine⟨(List.nodup_append.1 h.nd).1,fun x hx=>h.sub x (by simp[hx]),fun l1 x l2 e o' ho' ha=>h.ahead l1 x (l2++[o]) (by rw[e];simp) o' ho' ha,((z6N doit a s0 o).1 h.run).1⟩
theorem zcF (a:List OpV)(l:List (Stp σ))(s:Stp σ){o:OpV}(h:a[s.pl]?=some o):takenL a (l++[s])=takenL a l++[o]:=by
 unfold takenL;rw[List.filterMap_append];simp[h]
theorem mem_takenL {a:List OpV}{l:List (Stp σ)}{o:OpV}:o∈takenL a l↔∃q∈l.map (·.pl),a[q]?=some o:=by
 unfold takenL;rw[List.mem_filterMap];constructor
 ·rintro⟨s,b,h⟩;exact⟨s.pl,List.mem_map_of_mem b,h⟩
 ·rintro⟨q,d,h⟩;obtain⟨s,b,rfl⟩:=List.mem_map.1 d;exact⟨s,b,h⟩
theorem nodup_at {a:List OpV}(g:a.Nodup){p q:Nat}{o:OpV}(b:a[p]?=some o)(d:a[q]?=some o):p=q:=by
 obtain⟨i,e⟩:=zB b;obtain⟨j,h⟩:=zB d;exact(List.getElem_inj g).1 (e.trans h.symm)
theorem zCN {d:List OpV}(p:d.length≤128)(E:d.Nodup){s0:σ}{l:List (Stp σ)}{c:Gr×σ}(h:PathW doit d ((0,0),s0) l c):Legal doit s0 d (takenL d l)∧c.2=endS doit s0 (takenL d l):=by
 induction h with
 |nil=>exact⟨⟨by simp[takenL],fun o i=>by simp[takenL]at i,fun u o w e=>by simp[takenL]at e,trivial⟩,rfl⟩
 |snoc l s c h hs ih=>
   have F:=(zIM doit d p h).1;obtain⟨o,i,C,B,D,rfl⟩:=(zZu doit d p F).1 hs;have z:=(zxD doit d p h).2;have H:=(zB i).1;rw[zcF d l s i];have m:s.st=endS doit s0 (takenL d l):=ih.2;refine⟨⟨?_,?_,?_,?_⟩,?_⟩
   ·rw[List.nodup_append];refine⟨ih.1.nd,by simp,fun a k b hb=>?_⟩;rw[List.mem_singleton]at hb;subst hb;intro e;subst e;obtain⟨q,j,A⟩:=mem_takenL.1 k;have:=nodup_at E A i;subst this;have:=(z _ (by omega)).2 j;rw[C]at this;cases this
   ·intro x g;rcases List.mem_append.1 g with g|g
    ·exact ih.1.sub x g
    ·rw[List.mem_singleton]at g;subst g;exact List.mem_of_getElem? i
   ·intro u x w e v n k;rcases List.eq_nil_or_concat w with rfl|⟨l3,y,rfl⟩
    ·obtain⟨t,r⟩:=List.append_inj' e rfl;injection r with r;subst r;rw[←t];obtain⟨q,j⟩:=List.mem_iff_getElem?.1 n;have G:=(zB j).1;exact mem_takenL.2 ⟨q,(z q (by omega)).1 (B q v j k),j⟩
    ·rw[List.concat_eq_append,←List.cons_append,←List.append_assoc]at e;obtain⟨t,_⟩:=List.append_inj' e rfl;exact ih.1.ahead u x l3 t v n k
   ·rw[z6N];refine⟨ih.1.run,fun hr=>?_⟩;rw[←m];exact D hr
   ·rw[zLZ,←m]
theorem zyg {a:List OpV}(k:a.length≤128)(t:a.Nodup){s0:σ}(n:Nat):∀b:List OpV,b.length=n→Legal doit s0 a b→∃l c,PathW doit a ((0,0),s0) l c∧takenL a l=b:=by
 induction n with
 |zero=>
   intro b h _;have:=List.eq_nil_of_length_eq_zero h;subst this;exact⟨[],_,.nil,rfl⟩
 |succ n ih=>
   intro b d h;rcases List.eq_nil_or_concat b with rfl|⟨l1,o,rfl⟩
   ·simp at d
   ·rw[List.concat_eq_append]at h d⊢;obtain⟨l,c,i,j⟩:=ih l1 (by simpa using d) h.init;have v:=zCN doit k t i;have C:=(zIM doit a k i).1;have u:=(zxD doit a k i).2;obtain⟨p,g⟩:=List.mem_iff_getElem?.1 (h.sub o (by simp));have E:=(zB g).1;have w:o∉l1:=fun hm=>by
     have:=(List.nodup_append.1 h.nd).2.2 o hm o (by simp);exact this rfl
    have B:zYl doit a c p=some (zdS c.1 p,(doit c.2 o).1):=by
     refine(zZu doit a k C).2 ⟨o,g,?_,?_,?_,rfl⟩
     ·cases e:gHas c.1 p with
      |false=>rfl
      |true=>
        exfalso;apply w;rw[←j];exact mem_takenL.2 ⟨p,(u p (by omega)).1 e,g⟩
     ·intro q A m y;have s:=h.ahead l1 o [] rfl A (List.mem_of_getElem? m) y;rw[←j]at s;obtain⟨F,r,x⟩:=mem_takenL.1 s;have:=nodup_at t x m;subst this;have D:=(zB m).1;exact(u _ (by omega)).2 r
     ·intro z;have:=((z6N doit l1 s0 o).1 h.run).2 z;rw[v.2,j];exact this
    refine⟨l++[⟨c.1,c.2,p⟩],_,.snoc _ _ _ i B,?_⟩;rw[zcF a l _ g,j]
theorem zXJ {a:List OpV}(b:a.length≤128)(i:a.Nodup){s0:σ}:LinP doit s0 a↔∃c,Reach doit a ((0,0),s0) c∧zJn (retG a 0 (0,0)) c.1=true:=by
 constructor
 ·rintro⟨m,h,g⟩;obtain⟨l,c,d,r⟩:=zyg doit b i _ m rfl h;refine⟨c,⟨l,d⟩,(z6g b (zIM doit a b d).1).2 (fun q o e hr=>?_)⟩;have j:=g o (List.mem_of_getElem? e) hr;rw[←r]at j;obtain⟨s,k,p⟩:=mem_takenL.1 j;have:=nodup_at i p e;subst this;have n:=(zB e).1;exact((zxD doit a b d).2 _ (by omega)).2 k
 ·rintro⟨c,⟨l,d⟩,g⟩;refine⟨takenL a l,(zCN doit b i d).1,fun o ho hr=>?_⟩;obtain⟨q,e⟩:=List.mem_iff_getElem?.1 ho;have n:=(zB e).1;exact mem_takenL.2 ⟨q,((zxD doit a b d).2 q (by omega)).1 ((z6g b (zIM doit a b d).1).1 g q o e hr),e⟩
theorem Legal.perm {s0:σ}{p q a:List OpV}(h:Legal doit s0 p a)(b:∀o,o∈p↔o∈q):Legal doit s0 q a:=
 ⟨h.nd,fun o ho=>(b o).1 (h.sub o ho),fun l1 o l2 e o' ho' ha=>h.ahead l1 o l2 e o' ((b o').2 ho') ha,h.run⟩
theorem LinP.perm {s0:σ}{p q:List OpV}(h:LinP doit s0 p)(b:∀o,o∈p↔o∈q):LinP doit s0 q:=by
 obtain⟨a,d,e⟩:=h;exact⟨a,d.perm doit b,fun o ho hr=>e o ((b o).2 ho) hr⟩
theorem zni [DecidableEq σ]{part:List OpV}(G:part.length≤128)(J:part.Nodup){s0:σ}{b:Int}{r:Out}(h:Found doit (ordO part) s0 b r)(E:r.verdict≠0):(r.verdict=1↔LinP doit s0 part)∧(r.verdict=2↔¬LinP doit s0 part)∧Legal doit s0 part r.order∧(r.verdict=1→∀o∈part,o.ret≠0→o∈r.order)∧(r.verdict=2→∀g,Legal doit s0 part g→g.length≤r.order.length):=by
 have v:=zBL part;have j:∀o,o∈ordO part↔o∈part:=fun o=>v.mem_iff;have d:(ordO part).length≤128:=by rw[v.length_eq];exact G
 have i:(ordO part).Nodup:=v.nodup_iff.2 J;have z:=zXJ doit d i (s0:=s0);have s:LinP doit s0 part↔LinP doit s0 (ordO part):=⟨fun x=>x.perm doit (fun o=>(j o).symm),fun x=>x.perm doit j⟩;obtain⟨K,_,_,e⟩:=Found.told doit _ d h;rcases e with ⟨e,_⟩|⟨e,_,l,c,a,D,p⟩|⟨e,_,⟨l,c,a,p⟩,t⟩
 ·exact absurd e E
 ·have k:LinP doit s0 part:=s.2 (z.2 ⟨c,⟨l,a⟩,D⟩);refine⟨⟨fun _=>k,fun _=>e⟩,⟨fun h=>by omega,fun h=>absurd k h⟩,?_,?_,fun h=>by omega⟩
  ·rw[p];exact(zCN doit d i a).1.perm doit j
  ·intro _ o C F;rw[p];obtain⟨q,u⟩:=List.mem_iff_getElem?.1 ((j o).2 C);have L:=(zB u).1;exact mem_takenL.2 ⟨q,((zxD doit _ d a).2 q (by omega)).1 ((z6g d (zIM doit _ d a).1).1 D q o u F),u⟩
 ·have n:¬LinP doit s0 part:=fun x=>by
   obtain⟨c',y,A⟩:=z.1 (s.1 x);have:=(t c' y).1;rw[A]at this;cases this
  refine⟨⟨fun h=>by omega,fun h=>absurd h n⟩,⟨fun _=>n,fun _=>e⟩,?_,fun h=>by omega,?_⟩
  ·rw[p];exact(zCN doit d i a).1.perm doit j
  ·intro _ g w;obtain⟨I,H,m,B⟩:=zyg doit d i _ g rfl (w.perm doit (fun o=>(j o).symm));have:=(t H ⟨I,m⟩).2;rw[(zIM doit _ d m).2]at this;rw[←B,zUxG _ _ (path_lt doit _ m)];exact this
end
theorem zNZ {l:List Nat}{v:Int×Int×List UInt8}{r:List Nat}(h:zFD l=some (v,r)):v.2.2.length≤4*l.length:=by
 unfold zFD at h;split at h
 ·split at h
  ·rename_i t r' ht;simp at h;rw[←h.1];exact zer ht
  ·cases h
 ·split at h
  ·split at h
   ·simp at h;rw[←h.1];exact Nat.zero_le _
   ·cases h
  ·split at h
   ·split at h
    ·simp at h;rw[←h.1];exact Nat.zero_le _
    ·cases h
   ·split at h
    ·split at h
     ·simp at h;rw[←h.1];exact Nat.zero_le _
     ·cases h
    ·split at h
     ·simp at h;rw[←h.1];exact Nat.zero_le _
     ·cases h
theorem zcV {l:List Nat}{m:Mem}{r:List Nat}{N:Nat}(d:l.length≤N)(h:zcL l=some (m,r)):m.2.2.2.length≤4*N:=by
 unfold zcL at h;split at h
 ·cases h
 ·rename_i nm r1 ht;split at h
  ·split at h
   ·cases h
   ·rename_i v r4 hv;simp at h;have b:=zf7 ht;have g:=zNZ hv;have e:=zH7 r1;have a:=zH7 (zek r1).tail;rw[List.length_tail]at a;rw[←h.1];show v.2.2.length≤4*N;omega
  ·cases h
theorem zmO (N f:Nat):∀(a:List Mem) (l:List Nat) (b:List Mem) (r:List Nat),l.length≤N→(∀m∈a,m.2.2.2.length≤4*N)→zRf f a l=some (b,r)→∀m∈b,m.2.2.2.length≤4*N:=by
 induction f with
 |zero=>intro a l b r _ _ h;simp[zRf]at h
 |succ f ih=>
   intro a l b r g i h;rw[zRf]at h;split at h
   ·cases h
   ·rename_i m r1 hm;have e:=zcV g hm;have k:=zVf hm;have d:∀x∈a++[m],x.2.2.2.length≤4*N:=by
     intro x j;rcases List.mem_append.1 j with h'|h'
     ·exact i x h'
     ·simp at h';rw[h'];exact e
    split at h
    ·simp at h;rw[←h.1];exact d
    ·split at h
     ·refine ih _ _ _ _ ?_ d h;have:=zH7 r1.tail;simp at this;omega
     ·cases h
theorem znL {s:ByteArray}{a:List Mem}(h:zIo s=some a):∀m∈a,m.2.2.2.length≤4*s.size:=by
 unfold zIo at h;split at h
 ·split at h
  ·cases h
  ·rename_i ms' r ho;split at h
   ·simp at h;subst h;unfold zfb at ho;have e:=z75 s;have d:=zH7 (runesOf s);split at ho
    ·split at ho
     ·simp at ho;rw[ho.1];intro m b;cases b
     ·refine zmO s.size _ [] _ _ _ ?_ (by simp) ho;have:=zH7 (zek (runesOf s)).tail;simp at this;omega
    ·cases ho
   ·cases h
 ·cases h
def okOp (N:Nat)(o:OpV):Prop:=okId o∧wfI o.cl∧wfI o.arg∧o.key.length≤4*N
theorem zFH {a:List Mem}{N:Nat}(h:∀m∈a,zhZ N m)(b:List UInt8): -9223372036854775808≤zqd a b∧zqd a b≤9223372036854775807:=by
 unfold zqd;cases hf:z8R a b with
 |none=>exact⟨by decide,by decide⟩
 |some m=>exact(h m (z1e4 hf)).2
theorem zqRD {a:List Mem}{N:Nat}(h:∀m∈a,m.2.2.2.length≤4*N)(b:List UInt8):(zch a b).length≤4*N:=by
 unfold zch;cases hf:z8R a b with
 |none=>exact Nat.zero_le _
 |some m=>exact h m (z1e4 hf)
theorem zKi {d:List UInt8}{e b:List OpV}{s:ByteArray}{k r:Int}{N:Nat}(n:s.size≤N)(j:∀o∈e,okOp N o)(h:addP d e s k=(r,some b)):∀o∈b,okOp N o:=by
 unfold addP at h;split at h
 ·injection h with _ h;cases h
 ·rename_i ms hm;have g:=zau hm;have l:∀m∈ms,m.2.2.2.length≤4*N:=fun m hm'=>Nat.le_trans (znL hm m hm') (by omega);split at h
  ·split at h
   ·injection h with _ h;unfold zRl at h;dsimp only at h;split at h
    ·cases h
    ·split at h
     ·split at h
      ·cases h
      ·split at h
       ·cases h
       ·simp at h;subst h;intro o a;rcases List.mem_append.1 a with a|a
        ·exact j o a
        ·rw[List.mem_singleton]at a;subst a;exact⟨zFH g _,zFH g _,zFH g _,zqRD l _⟩
     ·cases h
   ·split at h
    ·unfold retP at h;split at h
     ·injection h with _ h;cases h
     ·split at h
      ·injection h with _ h;cases h
      ·rename_i i _ o he;split at h
       ·injection h with _ h;cases h
       ·split at h
        ·injection h with _ h;injection h with h;subst h;intro x a;rcases List.mem_or_eq_of_mem_set a with a|a
         ·exact j x a
         ·subst a;exact j o (List.mem_of_getElem? he)
        ·injection h with _ h;cases h
    ·injection h with _ h;cases h
  ·injection h with _ h;cases h
theorem zDd (t s:List UInt8):(Lib.cut t s).1.length≤t.length:=by
 unfold Lib.cut;split<;>simp<;>omega
theorem zo5 (t s:List UInt8):(Lib.cut t s).2.1.length≤t.length:=by
 unfold Lib.cut;split<;>simp<;>omega
theorem zUe (d:List UInt8)(N:Nat):∀(f:Nat) (b:List OpV) (t:List UInt8) (k:Nat) (a:List OpV),t.length≤N→(∀o∈b,okOp N o)→zIn d f b t k=.inl a→∀o∈a,okOp N o:=by
 intro f
 induction f with
 |zero=>intro b t k a _ _ h;simp[zIn]at h
 |succ f ih=>
   intro b t k a g e h;unfold zIn at h;split at h
   ·injection h with h;subst h;exact e
   ·split at h
    ·cases h
    ·split at h
     ·cases h
     ·rename_i r ops' he;refine ih ops' _ _ a (Nat.le_trans (zo5 _ _) g) (zKi ?_ e he) h;show(Lib.cut t [10]).1.toArray.size≤N;rw[List.size_toArray];exact Nat.le_trans (zDd _ _) g
theorem z7a {a t:List UInt8}{b:List OpV}(h:z9w a t=.inl b):∀o∈b,okOp t.length o:=zUe a t.length 129 [] t 0 b zH (by simp) h
open Tryz
theorem zmh (l:List Nat)(h:∀x∈l,x=0):l.sum=0:=by
 induction l with
 |nil=>rfl
 |cons x t ih=>rw[List.sum_cons,h x (by simp),ih (fun y hy=>h y (by simp[hy]))]
theorem zzy (a:List (List UInt8))(b:List UInt8)(h:a.Nodup):(a.map (fun k=>if b=k then 1 else 0)).sum≤1:=by
 induction a with
 |nil=>simp
 |cons k t ih=>
   obtain⟨d,i⟩:=List.nodup_cons.1 h;rw[List.map_cons,List.sum_cons];by_cases e:b=k
   ·subst e;have:(t.map (fun k=>if b=k then 1 else 0)).sum=0:=by
     refine zmh _ ?_;intro x j;obtain⟨y,g,rfl⟩:=List.mem_map.1 j;rw[if_neg (fun e=>d (by rw[e];exact g))]
    rw[this,if_pos rfl];exact Nat.le_refl _
   ·rw[if_neg e];have:=ih i;omega
theorem z70 (a:List (List UInt8))(f g:List UInt8→Nat):(a.map (fun k=>f k+g k)).sum=(a.map f).sum+(a.map g).sum:=by
 induction a with
 |nil=>rfl
 |cons k t ih=>simp only [List.map_cons,List.sum_cons,ih];omega
theorem zV4 (a:List (List UInt8))(h:a.Nodup)(l:List OpV):(a.map (fun k=>(flt k l).length)).sum≤l.length:=by
 induction l with
 |nil=>
   have:(a.map (fun k=>(flt k []).length)).sum=0:=by
    refine zmh _ ?_;intro x b;obtain⟨y,_,rfl⟩:=List.mem_map.1 b;rfl
   rw[this];exact Nat.zero_le _
 |cons o t ih=>
   have e:(fun k=>(flt k (o::t)).length)=(fun k=>(if o.key=k then 1 else 0)+(flt k t).length):=by
    funext k;unfold flt;rw[List.filter_cons];by_cases h:o.key=k
    ·simp[h];omega
    ·simp[h]
   rw[e,z70,List.length_cons];have:=zzy a o.key h;omega
theorem z9L (l:List OpV):sumL ((zWP l).map (·.2))≤l.length:=by
 unfold sumL zWP;rw[List.map_map,List.map_map];refine zV4 (zD5 l) ?_ l;unfold zD5;exact(List.mergeSort_perm _ _).nodup_iff.2 (z1b l)
theorem qKey_len (k:List UInt8):(qKey k).length≤6*k.length+2:=by
 unfold qKey;have:=zGl k;simp only [List.cons_append,List.length_cons,zJ,List.length_nil];omega
theorem z1p {l:List OpV}{q:List UInt8×List OpV}(h:q∈zWP l)(e:∀o∈l,o.key.length≤10000000):q.2.length≤l.length∧q.1.length≤100000000∧∀o∈q.2,o∈l:=by
 obtain⟨k,b,rfl⟩:=List.mem_map.1 h;refine⟨zdB k l,?_,fun o a=>(List.mem_filter.1 a).1⟩;obtain⟨o,a⟩:=List.exists_mem_of_ne_nil _ (zMI b);have d:=(List.mem_filter.1 a);have g:=e o d.1;rw[of_decide_eq_true d.2]at g;have:=qKey_len k;show(qKey k).length≤_;omega
theorem zAq (a:Option Addr)(c:Nat)(d:List OpV)(b:Int)(w:World)(s:OAt w a d)(F: -9223372036854775808≤b∧b≤1000000)(C:d.length≤128)(z:∀o∈d,wfI o.arg∧okId o)(x:Pow w)(g:∀o∈d,o.key.length≤10000000):
 Calls prog 35 #[.string ⟨#[107,118]⟩,.slice a d.length c,.int .i64 b] w fun e w'=>∃v,Judged (fun p b r=>Found stDo (ordO p) (false,0) b r) (zWP d) b [] v∧e=.returned (.string ⟨(say v).toArray⟩)∧Below w.heap.size w w':=by
 have G:=zpj a c d w s C g;have m:(zWP d).length≤1000:=by unfold zWP;rw[List.length_map];have:=sortedU_len d;omega
 have y:=z9L d;have E:=Hid.mk' (fun k c1 w' (j:PAt w' k (zWP d)) (i:Pow w')=>z0f k c1 (zWP d) b w' j F (fun q hq=>by have h:=z1p hq g;exact⟨by omega,h.2.1,fun o hoq=>z o (h.2.2 o hoq)⟩) (by omega) m i);have D:=Hid.mk' x;clear s z x g m y;generalize zWP d=ps at*;go_enter func35,ntmps35;go_wp2_with (go_at_call 68;refine G.mono ?_;rintro e B ⟨k,c1,rfl,j,i⟩;have u:=E.out k c1 B j (D.out.stays i);have t:=Hid.mk' i;clear j i);refine u.mono ?_;rintro e H ⟨v,n,rfl,l⟩;have A:=Hid.mk' (And.intro n l);clear n l u;go_wp2;go_ret;exact⟨v,A.out.1,rfl,t.out.trans (A.out.2.mono t.out.size)⟩
theorem zvg (a:Option Addr)(c:Nat)(d:List OpV)(b:Int)(w:World)(s:OAt w a d)(F: -9223372036854775808≤b∧b≤1000000)(C:d.length≤128)(z:∀o∈d,wfI o.arg∧okId o)(x:Pow w)(g:∀o∈d,o.key.length≤10000000):
 Calls prog 35 #[.string ⟨#[115,101,116]⟩,.slice a d.length c,.int .i64 b] w fun e w'=>∃v,Judged (fun p b r=>Found zqY (ordO p) false b r) (zWP d) b [] v∧e=.returned (.string ⟨(say v).toArray⟩)∧Below w.heap.size w w':=by
 have G:=zpj a c d w s C g;have m:(zWP d).length≤1000:=by unfold zWP;rw[List.length_map];have:=sortedU_len d;omega
 have y:=z9L d;have E:=Hid.mk' (fun k c1 w' (j:PAt w' k (zWP d)) (i:Pow w')=>zCt k c1 (zWP d) b w' j F (fun q hq=>by have h:=z1p hq g;exact⟨by omega,h.2.1,fun o hoq=>z o (h.2.2 o hoq)⟩) (by omega) m i);have D:=Hid.mk' x;clear s z x g m y;generalize zWP d=ps at*;go_enter func35,ntmps35;go_wp2_with (go_at_call 68;refine G.mono ?_;rintro e B ⟨k,c1,rfl,j,i⟩;have u:=E.out k c1 B j (D.out.stays i);have t:=Hid.mk' i;clear j i);refine u.mono ?_;rintro e H ⟨v,n,rfl,l⟩;have A:=Hid.mk' (And.intro n l);clear n l u;go_wp2;go_ret;exact⟨v,A.out.1,rfl,t.out.trans (A.out.2.mono t.out.size)⟩
theorem zRC (a:Option Addr)(c:Nat)(d:List OpV)(b:Int)(w:World)(m:OAt w a d)(C: -9223372036854775808≤b∧b≤1000000)(t:d.length≤128)(x:∀o∈d,wfI o.arg∧okId o)(u:Pow w)(hG:Glob w):
 Calls prog 35 #[.string ⟨#[113,117,101,117,101]⟩,.slice a d.length c,.int .i64 b] w fun e w'=>∃v,Judged (fun p b r=>Found quDo (ordO p) [] b r) ([([45],d)]) b [] v∧e=.returned (.string ⟨(say v).toArray⟩)∧Below w.heap.size w w':=by
 have D:=zjc a c d w m;have B:=Hid.mk' (fun w' (h:PAt w' (some ⟨w.heap.size,0,none⟩) [([45],d)]) (g:Pow w') (i:Glob w')=>zQY (some ⟨w.heap.size,0,none⟩) 1 [([45],d)] b w' h C (by intro q n;rw[List.mem_singleton]at n;subst n;exact⟨t,by simp,x⟩) (by simpa [sumL]using t) (by simp) g i);have A:=Hid.mk' u;have l:=Hid.mk' hG;clear m x u hG;go_enter func35,ntmps35;go_wp2_with (go_at_call 66;refine D.mono ?_;rintro e z ⟨rfl,h,g⟩;have i:=B.out z h (A.out.stays g) (l.out.below (g.mono l.out.errs.lt));have s:=Hid.mk' g;clear h g);refine i.mono ?_;rintro e E ⟨v,k,rfl,j⟩;have y:=Hid.mk' (And.intro k j);clear k j i;go_wp2;go_ret;exact⟨v,y.out.1,rfl,s.out.trans (y.out.2.mono s.out.size)⟩
theorem zbZp (a:Option Addr)(c:Nat)(d:List OpV)(b:Int)(w:World)(k:OAt w a d)(B: -9223372036854775808≤b∧b≤1000000)(n:d.length≤128)(u:∀o∈d,wfI o.cl∧okId o)(t:Pow w):
 Calls prog 35 #[.string ⟨#[108,111,99,107]⟩,.slice a d.length c,.int .i64 b] w fun e w'=>∃v,Judged (fun p b r=>Found lkDo (ordO p) (false,0) b r) ([([45],d)]) b [] v∧e=.returned (.string ⟨(say v).toArray⟩)∧Below w.heap.size w w':=by
 have C:=zjc a c d w k;have A:=Hid.mk' (fun w' (h:PAt w' (some ⟨w.heap.size,0,none⟩) [([45],d)]) (g:Pow w')=>zvN (some ⟨w.heap.size,0,none⟩) 1 [([45],d)] b w' h B (by intro q l;rw[List.mem_singleton]at l;subst l;exact⟨n,by simp,u⟩) (by simpa [sumL]using n) (by simp) g);have z:=Hid.mk' t;clear k u t;go_enter func35,ntmps35;go_wp2_with (go_at_call 66;refine C.mono ?_;rintro e y ⟨rfl,h,g⟩;have s:=A.out y h (z.out.stays g);have m:=Hid.mk' g;clear h g);refine s.mono ?_;rintro e D ⟨v,j,rfl,i⟩;have x:=Hid.mk' (And.intro j i);clear j i s;go_wp2;go_ret;exact⟨v,x.out.1,rfl,m.out.trans (x.out.2.mono m.out.size)⟩
def zNr (model:List UInt8)(ops:List OpV)(b:Int)(v:Nat×List UInt8×List (List OpV)):Prop:=
 (model=sReg∧Judged (fun p b r=>Found zCI (ordO p) 0 b r) [([45],ops)] b [] v)∨(model=sKv∧Judged (fun p b r=>Found stDo (ordO p) (false,0) b r) (zWP ops) b [] v)∨
 (model=zsK∧Judged (fun p b r=>Found quDo (ordO p) [] b r) [([45],ops)] b [] v)∨(model=sSet∧Judged (fun p b r=>Found zqY (ordO p) false b r) (zWP ops) b [] v)∨
 (model=zyy∧Judged (fun p b r=>Found lkDo (ordO p) (false,0) b r) [([45],ops)] b [] v)
theorem zVe {m:List UInt8}(h:zOI m opTab=true):m=sReg∨m=sKv∨m=zsK∨m=sSet∨m=zyy:=by
 unfold zOI at h;rw[List.any_eq_true]at h;obtain⟨r,b,a⟩:=h;rw[beq_iff_eq]at a;subst a;simp only [opTab,List.mem_cons,List.not_mem_nil,or_false]at b;rcases b with rfl|rfl|rfl|rfl|rfl|rfl|rfl|rfl|rfl|rfl|rfl|rfl|rfl
 all_goals simp
theorem z0e (k:List UInt8)(a:Option Addr)(c:Nat)(d:List OpV)(b:Int)(w:World)(r:zOI k opTab=true)(l:OAt w a d)(p: -9223372036854775808≤b∧b≤1000000)(m:d.length≤128)(g:∀o∈d,okOp 2000000 o)(n:Pow w)(hG:Glob w):
 Calls prog 35 #[.string ⟨k.toArray⟩,.slice a d.length c,.int .i64 b] w fun e w'=>∃v,zNr k d b v∧e=.returned (.string ⟨(say v).toArray⟩)∧Below w.heap.size w w':=by
 have q:∀o∈d,o.key.length≤10000000:=fun o h=>by have:=(g o h).2.2.2;omega
 rcases zVe r with rfl|rfl|rfl|rfl|rfl
 ·refine(zOm a c d b w l p m (fun o h=>⟨(g o h).2.2.1,(g o h).1⟩) n).mono ?_;rintro e w' ⟨v,j,i⟩;exact⟨v,.inl ⟨rfl,j⟩,i⟩
 ·refine(zAq a c d b w l p m (fun o h=>⟨(g o h).2.2.1,(g o h).1⟩) n q).mono ?_;rintro e w' ⟨v,j,i⟩;exact⟨v,.inr (.inl ⟨rfl,j⟩),i⟩
 ·refine(zRC a c d b w l p m (fun o h=>⟨(g o h).2.2.1,(g o h).1⟩) n hG).mono ?_;rintro e w' ⟨v,j,i⟩;exact⟨v,.inr (.inr (.inl ⟨rfl,j⟩)),i⟩
 ·refine(zvg a c d b w l p m (fun o h=>⟨(g o h).2.2.1,(g o h).1⟩) n q).mono ?_;rintro e w' ⟨v,j,i⟩;exact⟨v,.inr (.inr (.inr (.inl ⟨rfl,j⟩))),i⟩
 ·refine(zbZp a c d b w l p m (fun o h=>⟨(g o h).2.1,(g o h).1⟩) n).mono ?_;rintro e w' ⟨v,j,i⟩;exact⟨v,.inr (.inr (.inr (.inr ⟨rfl,j⟩))),i⟩
theorem z4j (a:List UInt8)(d:List OpV)(s:ByteArray)(b:Int):0≤(addP a d s b).1∧(addP a d s b).1≤8:=by
 unfold addP;split
 ·decide
 ·split
  ·split
   ·dsimp only;unfold zRl;dsimp only;split
    ·decide
    ·split
     ·split
      ·decide
      ·split
       ·decide
       ·dsimp only;decide
     ·decide
   ·split
    ·unfold retP;split
     ·decide
     ·split
      ·decide
      ·split
       ·decide
       ·split
        ·dsimp only;decide
        ·decide
    ·decide
  ·decide
theorem zib (a:List UInt8):∀(f:Nat) (b:List OpV) (t:List UInt8) (k:Nat) (l r:Int),zIn a f b t k=.inr (l,r)→0≤l∧l≤(k:Int)+f∧1≤r∧r≤8:=by
 intro f
 induction f with
 |zero=>
   intro b t k l r h;simp[zIn]at h;omega
 |succ f ih=>
   intro b t k l r h;unfold zIn at h;split at h
   ·cases h
   ·split at h
    ·injection h with h;injection h with h1 h2;omega
    ·have g:=z4j a b ⟨(Lib.cut t [10]).1.toArray⟩ ((k:Int)+1);split at h
     ·rename_i r' he;have d:=zIME a b ⟨(Lib.cut t [10]).1.toArray⟩ ((k:Int)+1);rw[he]at g d;injection h with h;injection h with h1 h2;dsimp only at g d;rcases d with ⟨_,e⟩|⟨e,_⟩
      ·cases e
      ·omega
     ·have:=ih _ _ _ _ _ h;omega
theorem zAR {a t:List UInt8}{l r:Int}(h:z9w a t=.inr (l,r)):0≤l∧l≤129∧1≤r∧r≤8:=by
 have:=zib a 129 [] t 0 l r h;omega
def zM3 (model:List UInt8):Prop:=∀(a:Option Addr) (c:Nat) (ops:List OpV) (b:Int) (w:World),zOI model opTab=true→OAt w a ops→ -9223372036854775808≤b∧b≤1000000→ops.length≤128→(∀o∈ops,okOp 2000000 o)→Pow w→Glob w→
    Calls prog 35 #[.string ⟨model.toArray⟩,.slice a ops.length c,.int .i64 b] w fun e w'=>∃v,zNr model ops b v∧e=.returned (.string ⟨(say v).toArray⟩)∧Below w.heap.size w w'
def sNoModel:List UInt8:=[78,79,45,77,79,68,69,76,10]
def sRej (l r:Int):List UInt8:=[82,69,74,69,67,84,69,68,45,73,78,80,85,84,32,108,105,110,101,61]++Lib.itoa l++[32,114,101,97,115,111,110,61]++Lib.itoa r++[10]
def zkp (model t:List UInt8)(b:Int)(out:List UInt8):Prop:=
 (zOI model opTab=false∧out=sNoModel)∨(zOI model opTab=true∧((∃l r,z9w model t=.inr (l,r)∧r≠0∧out=sRej l r)∨∃ops v,z9w model t=.inl ops∧zNr model ops (min b 1000000) v∧out=say v))
theorem z5C (n:Int)(b: -9223372036854775808≤n)(a:n≤9223372036854775807)(w:World)(d:Pow w):
 Calls prog 34 #[.int .i64 n] w fun e w'=>e=.returned (.string ⟨(Lib.itoa n).toArray⟩)∧Below w.heap.size w w':=by
 refine(Tryz.strconv_Itoa n b a w d).mono ?_;rintro e w' ⟨rfl,k,g,rfl⟩;exact⟨rfl,Lib.below_grow _ _ zH _ _⟩
theorem rej_ba (l r:Int):(⟨#[82,69,74,69,67,84,69,68,45,73,78,80,85,84,32,108,105,110,101,61]⟩:ByteArray)++⟨(Lib.itoa l).toArray⟩++⟨#[32,114,101,97,115,111,110,61]⟩++⟨(Lib.itoa r).toArray⟩++⟨#[10]⟩=⟨(sRej l r).toArray⟩:=by
 apply ByteArray.ext;simp[sRej]
theorem zm7 (t d:List UInt8)(b:Int)(w:World)(z:Glob w)(E:Pow w)(P:t.length≤2000000)(W: -9223372036854775808≤b∧b≤9223372036854775807)(M:zM3 d):
 Calls prog 18 #[.string ⟨t.toArray⟩,.string ⟨d.toArray⟩,.int .i64 b] w fun e w'=>∃out,zkp d t b out∧e=.returned (.string ⟨out.toArray⟩)∧Below w.heap.size w w':=by
 have I:=zjT ⟨t.toArray⟩ ⟨d.toArray⟩ w z (by show t.toArray.size≤_;rw[List.size_toArray];exact P);have n:=Hid.mk' (And.intro z E);clear z E;go_enter func18,ntmps18;go_wp2_with fail;refine I.mono ?_;rintro e H ⟨a,⟨g,rfl⟩|⟨g,⟨q,v,i,G,m,rfl⟩|⟨l,r,i,rfl⟩⟩⟩
 ·go_wp2;go_ret;exact⟨sNoModel,.inl ⟨g,rfl⟩,rfl,a⟩
 ·obtain⟨O,N,rfl⟩:=zIW m;have p:=z7a i;have F:=M O N q (min b 1000000) H g (z6a m) ⟨by omega,by omega⟩ G (fun o ho=>by have h:=p o ho;exact⟨h.1,h.2.1,h.2.2.1,by have:=h.2.2.2;omega⟩) (n.out.2.stays a) (n.out.1.below (a.mono n.out.1.errs.lt));have k:=Hid.mk' (And.intro i (And.intro g a));clear i g a p m;generalize hmb:min b 1000000=mb at F;have K:=Hid.mk' hmb;go_wp2_with fail;refine F.mono ?_;rintro e A ⟨v,C,rfl,j⟩;have L:=Hid.mk' (And.intro C j);clear C j;go_wp2;go_ret;refine⟨say v,.inr ⟨k.out.2.1,.inr ⟨q,v,k.out.1,by rw[K.out];exact L.out.1,rfl⟩⟩,rfl,k.out.2.2.trans (L.out.2.mono k.out.2.2.size)⟩
 ·have U:=zAR i;have Q:(r != 0)=true:=by rw[bne_iff_ne];omega
  have u:r≠0:=by omega
  have D:=z5C l (by omega) (by omega) H (n.out.2.stays a);have k:=Hid.mk' (And.intro i (And.intro g (And.intro a u)));have S:=Lib.itoa_length_le l (by omega) (by omega);have R:=Lib.itoa_length_le r (by omega) (by omega);clear i g u;go_wp2_with (first
   | (go_at_call 34;refine D.mono ?_;rintro e A ⟨rfl,j⟩;have B:=z5C r (by omega) (by omega) A (n.out.2.stays (a.trans (j.mono a.size)));have y:=Hid.mk' (a.trans (j.mono a.size));clear D j)
   | (go_at_call 34;refine B.mono ?_;rintro e V ⟨rfl,s⟩;have J:=Hid.mk' (y.out.trans (s.mono y.out.size));clear B s))
  go_ret;exact⟨sRej l r,.inr ⟨k.out.2.1,.inl ⟨l,r,k.out.1,k.out.2.2.2,rfl⟩⟩,congrArg (fun x=>Ending.returned (Value.string x)) (rej_ba l r),J.out⟩
theorem zVT (t d:List UInt8)(b:Int)(w:World)(h:Glob w)(i:Pow w)(j:t.length≤2000000)(g: -9223372036854775808≤b∧b≤9223372036854775807):
 Calls prog 18 #[.string ⟨t.toArray⟩,.string ⟨d.toArray⟩,.int .i64 b] w fun e w'=>∃out,zkp d t b out∧e=.returned (.string ⟨out.toArray⟩)∧Below w.heap.size w w':=
 zm7 t d b w h i j g (fun a c ops b w hm=>z0e d a c ops b w hm)
section
variable {σ:Type} [DecidableEq σ] (doit:σ→OpV→σ×Int×Int) (s0:σ)
end
def LinedM (ops:List OpV):Prop:=∀o∈ops,∀o'∈ops,o≠o'→o.cl=o'.cl→ahB o o'.call=true∨ahB o' o.call=true
theorem LinedM.at {a:List OpV}(h:LinedM a)(b:a.Nodup):zNA a:=fun p q o o' hp hq hne hcl=>h o (List.mem_of_getElem? hp) o' (List.mem_of_getElem? hq) (fun e=>hne (by subst e;exact nodup_at b hp hq)) hcl
theorem LinedM.sub {a l:List OpV}(h:LinedM a)(b:∀o∈l,o∈a):LinedM l:=fun o ho o' ho'=>h o (b o ho) o' (b o' ho')
structure Rd (ops:List OpV)(k:Int):Prop where
 ids:∀(i j:Nat) (o o':OpV),ops[i]?=some o→ops[j]?=some o'→o.id=o'.id→i=j
 call:∀o∈ops,1≤o.call∧o.call≤k
 ret:∀o∈ops,o.ret≠0→o.call<o.ret∧o.ret≤k
 wait:∀(i j:Nat) (o o':OpV),ops[i]?=some o→ops[j]?=some o'→i<j→o.cl=o'.cl→o.ret≠0∧o.ret<o'.call
theorem Rd.call_op {b:List OpV}{k:Int}(h:Rd b k)(C:0≤k)(o:OpV)(s:z09 b o.id=none)(z:openOf b o.cl=0)(D:o.call=k+1)(A:o.ret=0):Rd (b++[o]) (k+1):=by
 have g:∀(i:Nat) (x:OpV),(b++[o])[i]?=some x→(i<b.length∧b[i]?=some x)∨(i=b.length∧x=o):=by
  intro i x a;by_cases hl:i<b.length
  ·rw[List.getElem?_append_left hl]at a;exact .inl ⟨hl,a⟩
  ·rw[List.getElem?_append_right (by omega)]at a;have u:i-b.length=0:=(by have:=(zB a).1;simp at this;omega);rw[u]at a;simp at a;exact .inr ⟨by omega,a.symm⟩
 have p:∀x∈b,x.id≠o.id:=by
  intro x a e;unfold z09 at s;rw[List.findIdx?_eq_none_iff]at s;have:=s x a;simp[e]at this
 have q:∀x∈b,x.cl=o.cl→x.ret≠0:=by
  intro x a e r;unfold openOf at z;have u:=List.eq_nil_of_length_eq_zero z;have:x∈b.filter (fun y=>y.cl==o.cl&&y.ret==0):=List.mem_filter.2 ⟨a,by simp[e,r]⟩;rw[u]at this;cases this
 refine⟨?_,?_,?_,?_⟩
 ·intro i j x y a t e;rcases g i x a with ⟨n,d⟩|⟨n,rfl⟩<;>rcases g j y t with ⟨m,l⟩|⟨m,rfl⟩
  ·exact h.ids i j x y d l e
  ·exact absurd e (p x (List.mem_of_getElem? d))
  ·exact absurd e.symm (p y (List.mem_of_getElem? l))
  ·omega
 ·intro x a;rcases List.mem_append.1 a with a|a
  ·have:=h.call x a;omega
  ·rw[List.mem_singleton]at a;subst a;omega
 ·intro x a r;rcases List.mem_append.1 a with a|a
  ·have:=h.ret x a r;omega
  ·rw[List.mem_singleton]at a;subst a;exact absurd A r
 ·intro i j x y a t v e;rcases g i x a with ⟨n,d⟩|⟨n,rfl⟩<;>rcases g j y t with ⟨m,l⟩|⟨m,rfl⟩
  ·exact h.wait i j x y d l v e
  ·have w:=q x (List.mem_of_getElem? d) e;have B:=h.ret x (List.mem_of_getElem? d) w;exact⟨w,by omega⟩
  ·omega
  ·omega
theorem Rd.ret_op {m:List OpV}{k:Int}(h:Rd m k)(i:Nat)(o:OpV)(r:m[i]?=some o)(z:o.ret=0)(t v:Int):Rd (m.set i (setRet o (k+1) t v)) (k+1):=by
 have w:=(zB r).1;have g:∀(j:Nat) (x:OpV),(m.set i (setRet o (k+1) t v))[j]?=some x→(j≠i∧m[j]?=some x)∨(j=i∧x=setRet o (k+1) t v):=by
  intro j x d;by_cases e:i=j
  ·subst e;rw[List.getElem?_set_self w]at d;injection d with d;exact .inr ⟨rfl,d.symm⟩
  ·rw[List.getElem?_set_ne e]at d;exact .inl ⟨fun e'=>e e'.symm,d⟩
 refine⟨?_,?_,?_,?_⟩
 ·intro a b x y d u e;rcases g a x d with ⟨p,l⟩|⟨p,rfl⟩<;>rcases g b y u with ⟨q,n⟩|⟨q,rfl⟩
  ·exact h.ids a b x y l n e
  ·subst q;exact h.ids a _ x o l r e
  ·subst p;exact h.ids _ b o y r n e
  ·omega
 ·intro x d;rcases List.mem_or_eq_of_mem_set d with d|rfl
  ·have:=h.call x d;omega
  ·have:=h.call o (List.mem_of_getElem? r);show 1≤o.call∧o.call≤k+1;omega
 ·intro x d A;rcases List.mem_or_eq_of_mem_set d with d|rfl
  ·have:=h.ret x d A;omega
  ·have:=h.call o (List.mem_of_getElem? r);show o.call<k+1∧k+1≤k+1;omega
 ·intro a b x y d u s e;rcases g a x d with ⟨p,l⟩|⟨p,rfl⟩<;>rcases g b y u with ⟨q,n⟩|⟨q,rfl⟩
  ·exact h.wait a b x y l n s e
  ·subst q;exact h.wait a _ x o l r s e
  ·subst p;exact absurd z (h.wait _ b o y r n s e).1
  ·omega
theorem zDQ {b:List UInt8}{d a:List OpV}{s:ByteArray}{r:Int}{k:Int}(g:0≤k)(e:Rd d k)(h:addP b d s (k+1)=(r,some a)):Rd a (k+1):=by
 unfold addP at h;split at h
 ·injection h with _ h;cases h
 ·rename_i ms hm;split at h
  ·split at h
   ·injection h with _ h;unfold zRl at h;dsimp only at h;split at h
    ·cases h
    ·split at h
     ·split at h
      ·cases h
      ·rename_i hid;split at h
       ·cases h
       ·rename_i hop;simp at h;subst h;exact e.call_op g _ (by simpa using hid) (by simpa using hop) rfl rfl
     ·cases h
   ·split at h
    ·unfold retP at h;split at h
     ·injection h with _ h;cases h
     ·split at h
      ·injection h with _ h;cases h
      ·rename_i i _ _ o he;split at h
       ·injection h with _ h;cases h
       ·rename_i hz;split at h
        ·injection h with _ h;injection h with h;subst h;exact e.ret_op i o he (by simpa using hz) _ _
        ·injection h with _ h;cases h
    ·injection h with _ h;cases h
  ·injection h with _ h;cases h
theorem zbd (d:List UInt8):∀(f:Nat) (b:List OpV) (t:List UInt8) (k:Nat) (a:List OpV),Rd b (k:Int)→zIn d f b t k=.inl a→∃n:Int,Rd a n:=by
 intro f
 induction f with
 |zero=>intro b t k a _ h;simp[zIn]at h
 |succ f ih=>
   intro b t k a e h;unfold zIn at h;split at h
   ·injection h with h;subst h;exact⟨_,e⟩
   ·split at h
    ·cases h
    ·split at h
     ·cases h
     ·rename_i r ops' he;exact ih ops' _ (k+1) a (by have:=zDQ (by omega) e he;exact_mod_cast this) h
theorem zAl {a t:List UInt8}{b:List OpV}(h:z9w a t=.inl b):∃n,Rd b n:=zbd a 129 [] t 0 b ⟨fun i j o o' h=>by simp at h,fun o h=>by simp at h,fun o h=>by simp at h,fun i j o o' h=>by simp at h⟩ h
theorem Rd.nodup {a:List OpV}{k:Int}(h:Rd a k):a.Nodup:=by
 rw[List.Nodup,List.pairwise_iff_getElem];intro i j d b g e;have:=h.ids i j _ _ (zC d) (zC b) (by rw[e]);omega
theorem Rd.lined {b:List OpV}{k:Int}(h:Rd b k):LinedM b:=by
 intro o q m p n d;obtain⟨i,g⟩:=List.mem_iff_getElem?.1 q;obtain⟨j,a⟩:=List.mem_iff_getElem?.1 p;have l:i≠j:=fun e=>by subst e;rw[g]at a;injection a with a;exact n a
 rcases Nat.lt_or_gt_of_ne l with h1|h1
 ·have:=h.wait i j o m g a h1 d;left;unfold ahB;simp[this.1,this.2]
 ·have:=h.wait j i m o a g h1 d.symm;right;unfold ahB;simp[this.1,this.2]
end Go.Proofs.YtoeoinpaidhmcaaGreatDoor.srch
