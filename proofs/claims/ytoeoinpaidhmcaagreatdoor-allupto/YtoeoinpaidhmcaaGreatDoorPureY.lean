/- Several texts in one. -/
import Derived.Test.YtoeoinpaidhmcaaGreatDoorHistX
import Derived.Test.YtoeoinpaidhmcaaGreatDoorRefP
namespace Go.Proofs.YtoeoinpaidhmcaaGreatDoor
open Go.RowKit
theorem zgj (n:Nat):∀(e:List Pc) (g:List RM),e.length≤n→zfp g e=(zfp [] e).map (g++·):=by
 induction n with
 |zero=>intro e g h;have:e=[]:=List.length_eq_zero_iff.1 (by omega);subst this;simp[zfp]
 |succ n ih=>
   intro e g h
   match e with
   | []=>simp[zfp]
   | [a]=>simp[zfp]
   | [a,b]=>simp[zfp]
   | [a,b,c]=>rw[zfp,zfp];split<;>simp
   |a::b::c::d::rest=>
     rw[zfp,zfp];split
     ·simp only [List.length_cons]at h;rw[ih rest (g++[mkRM a c]) (by omega),ih rest ([]++[mkRM a c]) (by omega)];cases zfp [] rest<;>simp
     ·rfl
theorem z6Q (n:Nat):∀(g:List Pc) (e:Pc),g.length≤n→T (g++[e])=if e.1=125∧g.length%4=3 then zfp [] g else none:=by
 induction n with
 |zero=>intro g e h;have:g=[]:=List.length_eq_zero_iff.1 (by omega);subst this;rw[if_neg (by simp)];rfl
 |succ n ih=>
   intro g e h
   match g with
   | []=>rw[if_neg (by simp)];rfl
   | [a]=>rw[if_neg (by simp)];rfl
   | [a,b]=>rw[if_neg (by simp)];rfl
   | [a,b,c]=>
     have i:T [a,b,c,e]=if(valP c).2.2.2=true∧a.1=34∧b.1=58 then(if e.1=125∧([]:List Pc)=[]then some [mkRM a c]else if e.1=44 then(T []).map (mkRM a c::·)else none)else none:=by rw[T]
     have j:zfp [] [a,b,c]=if(valP c).2.2.2=true∧a.1=34∧b.1=58 then some [mkRM a c]else none:=by rw[zfp];rfl
     show T [a,b,c,e]=_;rw[i,j];have l:[a,b,c].length%4=3:=rfl;by_cases hok:(valP c).2.2.2=true∧a.1=34∧b.1=58
     ·simp only [if_pos hok];by_cases he:e.1=125
      ·simp only [he,l,and_self,if_true]
      ·rw[if_neg (fun h=>he h.1)];rw[if_neg (show ¬(e.1=125∧[a,b,c].length%4=3)from fun h=>he h.1)];by_cases h44:e.1=44
       ·rw[if_pos h44];rfl
       ·rw[if_neg h44]
     ·simp only [if_neg hok];by_cases hq:e.1=125∧[a,b,c].length%4=3
      ·rw[if_pos hq]
      ·rw[if_neg hq]
   |a::b::c::d::rest=>
     simp only [List.length_cons]at h;have i:T (a::b::c::d::(rest++[e]))=if(valP c).2.2.2=true∧a.1=34∧b.1=58 then(if d.1=125∧rest++[e]=[]then some [mkRM a c]else if d.1=44 then(T (rest++[e])).map (mkRM a c::·)else none)else none:=by rw[T]
     have j:zfp [] (a::b::c::d::rest)=if(valP c).2.2.2=true∧a.1=34∧b.1=58∧d.1=44 then(zfp [] rest).map ([mkRM a c]++·)else none:=by
      rw[zfp,zgj _ rest ([]++[mkRM a c]) zH];rfl
     have k:(a::b::c::d::rest).length%4=rest.length%4:=(by simp only [List.length_cons];omega);show T (a::b::c::d::(rest++[e]))=_;rw[i,j,k,ih rest e (by omega)];by_cases hok:(valP c).2.2.2=true∧a.1=34∧b.1=58
     ·simp only [if_pos hok];rw[if_neg (show ¬(d.1=125∧rest++[e]=[]) by simp)];by_cases hd:d.1=44
      ·simp only [if_pos hd,if_pos (show(valP c).2.2.2=true∧a.1=34∧b.1=58∧d.1=44 from⟨hok.1,hok.2.1,hok.2.2,hd⟩)];by_cases hq:e.1=125∧rest.length%4=3
       ·simp only [if_pos hq];rfl
       ·simp only [if_neg hq];rfl
      ·simp only [if_neg hd,if_neg (show ¬((valP c).2.2.2=true∧a.1=34∧b.1=58∧d.1=44)from fun h=>hd h.2.2.2)];by_cases hq:e.1=125∧rest.length%4=3
       ·rw[if_pos hq]
       ·rw[if_neg hq]
     ·simp only [if_neg hok,if_neg (show ¬((valP c).2.2.2=true∧a.1=34∧b.1=58∧d.1=44)from fun h=>hok ⟨h.1,h.2.1,h.2.2.1⟩)];by_cases hq:e.1=125∧rest.length%4=3
      ·rw[if_pos hq]
      ·rw[if_neg hq]
theorem zeZ (ps:List Pc):objI ps=objT ps:=by
 cases ps with
 |nil=>rfl
 |cons p r=>
   by_cases hr:r=[]
   ·subst hr;have l:objI [p]=none:=(by unfold objI;rw[if_pos (by simp)]);have n:objT [p]=none:=by
     show(if p.1=123 then(if([]:List Pc).map (·.1)=[125]then some []else T [])else none)=none;rw[if_neg (show ¬(([]:List Pc).map (·.1)=[125]) by simp)];split<;>rfl
    rw[l,n]
   ·obtain⟨a,e,rfl⟩:∃a e,r=a++[e]:=⟨r.dropLast,r.getLast hr,(List.dropLast_concat_getLast hr).symm⟩;have b:(p::(a++[e])).length=a.length+2:=(by simp);have g:zTi (p::(a++[e]))=a:=(by unfold zTi;rw[b];simp);have d:(((p::(a++[e])).drop ((p::(a++[e])).length-1)).headD (0,[]))=e:=(by rw[b];simp);have m:objT (p::(a++[e]))=if p.1=123 then(if(a++[e]).map (·.1)=[125]then some []else T (a++[e]))else none:=rfl
    rw[m];unfold objI;rw[g,d,b,if_neg (by omega),z6Q _ a e zH];simp only [List.headD_cons,Nat.add_sub_cancel];by_cases hp:p.1=123
    ·rw[if_neg (fun h=>h hp),if_pos hp];by_cases he:e.1=125
     ·rw[if_neg (fun h=>h he)];by_cases hm:a=[]
      ·subst hm;rw[if_pos (by simp),if_pos (by simp[he])]
      ·have o:0<a.length:=List.length_pos_iff.2 hm;have j:¬((a++[e]).map (·.1)=[125]):=(by intro h;have:=congrArg List.length h;rw[List.length_map,zJ]at this;simp only [List.length_cons,List.length_nil]at this;omega);rw[if_neg (show ¬(a.length+2=2) by omega)];rw[if_neg j];by_cases h3:a.length%4=3
       ·rw[if_neg (show ¬(a.length%4≠3)from fun h=>h h3),if_pos ⟨he,h3⟩]
       ·rw[if_pos (show a.length%4≠3 from h3),if_neg (fun h=>h3 h.2)]
     ·rw[if_pos he,if_neg (by
       intro h;have i:(a++[e]).map (·.1)=[125]:=h;rw[List.map_append]at i;have k:=congrArg List.getLast? i;simp at k;exact he k),if_neg (fun h=>he h.1)]
    ·rw[if_pos hp,if_neg hp]
theorem zaJ (s:ByteArray):zIo s=((zvF (lets s)).bind objI).map (List.map znV):=by
 rw[zVI,show objI=objT from funext zeZ]
def cnt (nm:List UInt8)(ms:List RM):Nat:=(ms.filter (fun m=>m.1==nm)).length
theorem zFN (b:List UInt8)(a:List RM):∀(m:RM) (n:Nat),(memR b m n a).2=n+cnt b a:=by
 induction a with
 |nil=>intro m n;simp[memR,cnt]
 |cons x r ih=>
   intro m n;unfold memR cnt;by_cases h:x.1=b
   ·rw[if_pos h,ih,List.filter_cons_of_pos (by simp[h])];simp[cnt];omega
   ·rw[if_neg h,ih,List.filter_cons_of_neg (by simp[h])];rfl
theorem zeh (b:List UInt8)(a:List RM):z8R (a.map znV) b=(a.find? (fun m=>m.1==b)).map znV:=by
 unfold z8R;rw[List.find?_map];rfl
theorem cnt_zero {b:List UInt8}{a:List RM}:cnt b a=0↔a.find? (fun m=>m.1==b)=none:=by
 unfold cnt;rw[List.length_eq_zero_iff,List.filter_eq_nil_iff,List.find?_eq_none]
theorem zPc {b:List UInt8}{a:List RM}(h:cnt b a=0)(m:RM)(n:Nat):memR b m n a=(m,n):=by
 induction a generalizing m n with
 |nil=>rfl
 |cons x r ih=>
   have d:¬x.1=b:=by
    intro e;unfold cnt at h;rw[List.filter_cons_of_pos (by simp[e])]at h;simp at h
   unfold memR;rw[if_neg d];exact ih (by unfold cnt at h⊢;rw[List.filter_cons_of_neg (by simp[d])]at h;exact h) m n
theorem zit {d:List UInt8}{b:List RM}(h:cnt d b≤1){x:RM}(a:b.find? (fun m=>m.1==d)=some x)(m:RM)(n:Nat):memR d m n b=(x,n+1):=by
 induction b generalizing m n with
 |nil=>cases a
 |cons y r ih=>
   by_cases hy:y.1=d
   ·rw[List.find?_cons_of_pos (by simp[hy])]at a;injection a with a;subst a;unfold memR;rw[if_pos hy];apply zPc;unfold cnt at h⊢;rw[List.filter_cons_of_pos (by simp[hy])]at h;simp at h;simpa using h
   ·rw[List.find?_cons_of_neg (by simp[hy])]at a;unfold memR;rw[if_neg hy];exact ih (by unfold cnt at h⊢;rw[List.filter_cons_of_neg (by simp[hy])]at h;exact h) a m n
def nodup (ms:List RM):Prop:=∀nm,cnt nm ms≤1
theorem zZq (d:List RM):za6 (d.map znV)=true↔nodup d:=by
 induction d with
 |nil=>simp[za6,nodup,cnt]
 |cons x r ih=>
   rw[List.map_cons,za6,Bool.and_eq_true,ih];have e:(znV x).1=x.1:=rfl;rw[e,zeh];constructor
   ·rintro⟨g,i⟩ b;have a:cnt x.1 r=0:=by
     rw[cnt_zero];cases hf:r.find? (fun m=>m.1==x.1)with
     |none=>rfl
     |some y=>rw[hf]at g;simp at g
    by_cases hx:x.1=b
    ·unfold cnt;rw[List.filter_cons_of_pos (by simp[hx])];subst hx;unfold cnt at a;simp[a]
    ·have:=i b;unfold cnt at this⊢;rw[List.filter_cons_of_neg (by simp[hx])];exact this
   ·intro h;constructor
    ·have:=h x.1;have a:cnt x.1 r=0:=by
      unfold cnt at this⊢;rw[List.filter_cons_of_pos (by simp)]at this;simp at this⊢;exact this
     rw[cnt_zero]at a;rw[a];rfl
    ·intro b;have:=h b;unfold cnt at this⊢;by_cases hx:x.1=b
     ·rw[List.filter_cons_of_pos (by simp[hx]),List.length_cons]at this;omega
     ·rw[List.filter_cons_of_neg (by simp[hx])]at this;exact this
theorem zzB (d:List RM):∀l:List RM,repR d l=false↔∀x∈l,cnt x.1 d≤1:=by
 intro l
 induction l with
 |nil=>simp[repR]
 |cons x r ih=>
   unfold repR;rw[zFN];by_cases h:1<0+cnt x.1 d
   ·rw[if_pos h];constructor
    ·intro a;cases a
    ·intro a;have:=a x (by simp);omega
   ·rw[if_neg h,ih];constructor
    ·intro a y b;rcases List.mem_cons.1 b with rfl|b
     ·omega
     ·exact a y b
    ·intro a y b;exact a y (by simp[b])
theorem zCu (a:List RM):repR a a=!za6 (a.map znV):=by
 have e:=zzB a a;have i:=zZq a;have g:(∀x∈a,cnt x.1 a≤1)↔nodup a:=by
  constructor
  ·intro h d;by_cases hz:cnt d a=0
   ·omega
   ·have:∃x,a.find? (fun m=>m.1==d)=some x:=by
     cases hf:a.find? (fun m=>m.1==d)with
     |none=>exact absurd (cnt_zero.2 hf) hz
     |some x=>exact⟨x,rfl⟩
    obtain⟨x,j⟩:=this;have k:=List.mem_of_find?_eq_some j;have b:=List.find?_some j;simp at b;rw[←b];exact h x k
  ·intro h x _;exact h x.1
 cases hr:repR a a with
 |false=>rw[i.2 (g.1 (e.1 hr))];rfl
 |true=>
   cases b:za6 (a.map znV)with
   |false=>rfl
   |true=>have:=e.2 (g.2 (i.1 b));rw[hr]at this;cases this
theorem zJz (c:Bool)(a:List RM):∀n,fitsR c n a≤n+a.length∧(fitsR c n a=n+a.length↔∀m∈a,fitP m.1 m.2.1 c=true):=by
 induction a with
 |nil=>intro n;simp[fitsR]
 |cons x r ih=>
   intro n;unfold fitsR;by_cases h:fitP x.1 x.2.1 c=true
   ·rw[if_pos h];have:=ih (n+1);simp only [List.length_cons];refine⟨by omega,?_⟩;rw[show n+(r.length+1)=n+1+r.length by omega,this.2];constructor
    ·intro b m d;rcases List.mem_cons.1 d with rfl|d
     ·exact h
     ·exact b m d
    ·intro b m d;exact b m (by simp[d])
   ·rw[if_neg h];have:=ih n;simp only [List.length_cons];refine⟨by omega,?_⟩;constructor
    ·intro b;omega
    ·intro b;exact absurd (b x (by simp)) h
theorem ztJ (c:Bool)(a:List RM):¬(fitsR c 0 a<a.length)↔∀m∈a,fitP m.1 m.2.1 c=true:=by
 have:=zJz c a 0;rw[←this.2];omega
def zwM (ms:List Mem)(s:Slot):Prop:=match z8R ms s.1 with
 |none=>s.2.1=false
 |some m=>s.2.2.contains m.2.1=true
def zIc (ms:List Mem):List Slot→Nat
 | []=>0
 |s::r=>(if(z8R ms s.1).isSome then 1 else 0)+zIc ms r
theorem zA5 (d:List Mem):∀(e:List Slot) (k n:Nat),zmy d e k=some n↔(∀s∈e,zwM d s)∧n=k+zIc d e:=by
 intro e
 induction e with
 |nil=>intro k n;simp[zmy,zIc,eq_comm]
 |cons s r ih=>
   intro k n;unfold zmy zIc;have i:(∀x∈s::r,zwM d x)↔zwM d s∧∀x∈r,zwM d x:=(by simp);rw[i];cases hf:z8R d s.1 with
   |none=>
     have g:zwM d s↔s.2.1=false:=(by unfold zwM;rw[hf]);dsimp only;rw[g];by_cases hq:s.2.1=true
     ·rw[if_pos hq];constructor
      ·intro h;cases h
      ·intro h;rw[hq]at h;cases h.1.1
     ·rw[if_neg hq,ih];have j:s.2.1=false:=(by simpa using hq);simp[j]
   |some m=>
     have g:zwM d s↔s.2.2.contains m.2.1=true:=(by unfold zwM;rw[hf]);dsimp only;rw[g];by_cases hq:s.2.2.contains m.2.1=true
     ·rw[if_pos hq,ih];simp only [hq,true_and,Option.isSome_some,if_true];constructor
      ·rintro⟨a,b⟩;exact⟨a,by omega⟩
      ·rintro⟨a,b⟩;exact⟨a,by omega⟩
     ·rw[if_neg hq];constructor
      ·intro h;cases h
      ·intro h;exact absurd h.1.1 hq
theorem zoh (d:List Mem)(e:List Slot):z5q d e=true↔(∀s∈e,zwM d s)∧zIc d e=d.length:=by
 unfold z5q;cases hf:zmy d e 0 with
 |none=>
   constructor
   ·intro h;cases h
   ·rintro⟨a,b⟩;have:=(zA5 d e 0 (0+zIc d e)).2 ⟨a,rfl⟩;rw[hf]at this;cases this
 |some n=>
   have:=(zA5 d e 0 n).1 hf;dsimp only;rw[beq_iff_eq];constructor
   ·intro h;exact⟨this.1,by omega⟩
   ·rintro⟨a,b⟩;omega
theorem ztO {b:List UInt8}{a:List RM}(h:nodup a):(if(z8R (a.map znV) b).isSome then 1 else 0)=cnt b a:=by
 rw[zeh];cases hf:a.find? (fun m=>m.1==b)with
 |none=>simp[cnt_zero.2 hf]
 |some x=>
   have d:=h b;have g:cnt b a≠0:=fun e=>(by rw[cnt_zero.1 e]at hf;cases hf);simp;omega
theorem zBa (a:List UInt8)(x:RM)(r:List RM):cnt a (x::r)=(if x.1=a then 1 else 0)+cnt a r:=by
 unfold cnt;by_cases h:x.1=a
 ·rw[List.filter_cons_of_pos (by simp[h]),if_pos h];simp;omega
 ·rw[List.filter_cons_of_neg (by simp[h]),if_neg h];simp
theorem zlX {b:List RM}(h:nodup b){m:RM}(a:m∈b):b.find? (fun x=>x.1==m.1)=some m:=by
 induction b with
 |nil=>cases a
 |cons x r ih=>
   have g:nodup r:=fun nm=>(by have:=h nm;rw[zBa]at this;omega);rcases List.mem_cons.1 a with rfl|a
   ·rw[List.find?_cons_of_pos (by simp)]
   ·by_cases hx:x.1=m.1
    ·have e:=h m.1;rw[zBa,if_pos hx]at e;have d:cnt m.1 r=0:=(by omega);rw[cnt_zero,List.find?_eq_none]at d;exact absurd (by simp) (d m a)
    ·rw[List.find?_cons_of_neg (by simp[hx])];exact ih g a
theorem z5Q {b:List RM}(h:nodup b):∀a:List Slot,zIc (b.map znV) a=(a.map (fun s=>cnt s.1 b)).sum:=by
 intro a
 induction a with
 |nil=>rfl
 |cons s r ih=>unfold zIc;rw[ih,ztO h];simp
theorem z3U (a:List Slot)(i:(a.map (·.1)).Nodup)(h:List RM):(a.map (fun s=>cnt s.1 h)).sum≤h.length∧((a.map (fun s=>cnt s.1 h)).sum=h.length↔∀m∈h,m.1∈a.map (·.1)):=by
 have one:∀(a:List Slot) (x:RM),(a.map (·.1)).Nodup→(a.map (fun s=>if x.1=s.1 then 1 else 0)).sum=if x.1∈a.map (·.1)then 1 else 0:=by
  intro a x
  induction a with
  |nil=>simp
  |cons s r ih=>
    intro i;simp only [List.map_cons,List.nodup_cons]at i;simp only [List.map_cons,List.sum_cons,List.mem_cons];rw[ih i.2];by_cases hx:x.1=s.1
    ·rw[if_pos hx,if_neg (by rw[hx];exact i.1),if_pos (Or.inl hx)]
    ·rw[if_neg hx,Nat.zero_add];by_cases b:x.1∈r.map (·.1)
     ·rw[if_pos b,if_pos (Or.inr b)]
     ·rw[if_neg b,if_neg (fun d=>d.elim hx b)]
 have add:∀(a:List Slot) (f g:Slot→Nat),(a.map (fun s=>f s+g s)).sum=(a.map f).sum+(a.map g).sum:=by
  intro a f g
  induction a with
  |nil=>rfl
  |cons s r ih=>simp only [List.map_cons,List.sum_cons,ih];omega
 induction h with
 |nil=>
   have:(a.map (fun s=>cnt s.1 [])).sum=0:=by
    clear i
    induction a with
    |nil=>rfl
    |cons s r ih=>simp only [List.map_cons,List.sum_cons,ih];rfl
   simp[this]
 |cons x r ih=>
   have e:(a.map (fun s=>cnt s.1 (x::r))).sum=(if x.1∈a.map (·.1)then 1 else 0)+(a.map (fun s=>cnt s.1 r)).sum:=by
    rw[←one a x i,←add];congr 1;apply List.map_congr_left;intro s _;exact zBa _ _ _
   rw[e];by_cases hx:x.1∈a.map (·.1)
   ·rw[if_pos hx];refine⟨by simp only [List.length_cons];omega,?_⟩;rw[show(1+(a.map (fun s=>cnt s.1 r)).sum=(x::r).length)↔((a.map (fun s=>cnt s.1 r)).sum=r.length) by simp only [List.length_cons];omega,ih.2];constructor
    ·intro d m b;rcases List.mem_cons.1 b with rfl|b
     ·exact hx
     ·exact d m b
    ·intro d m b;exact d m (by simp[b])
   ·rw[if_neg hx];refine⟨by simp only [List.length_cons];omega,?_⟩;constructor
    ·intro d;simp only [List.length_cons]at d;omega
    ·intro d;exact absurd (d x (by simp)) hx
theorem z2e {e:List Slot}(b:(e.map (·.1)).Nodup){s d:Slot}(i:s∈e)(g:d∈e)(h:d.1=s.1):d=s:=by
 induction e with
 |nil=>cases i
 |cons a r ih=>
   simp only [List.map_cons,List.nodup_cons]at b;rcases List.mem_cons.1 i with h1|h1
   ·rcases List.mem_cons.1 g with h2|h2
    ·rw[h1,h2]
    ·exact absurd (List.mem_map.2 ⟨d,h2,by rw[h,h1]⟩) b.1
   ·rcases List.mem_cons.1 g with h2|h2
    ·exact absurd (List.mem_map.2 ⟨s,h1,by rw[←h,h2]⟩) b.1
    ·exact ih b.2 h1 h2
theorem zDa {d:List RM} (h:nodup d) (g:List Slot) (t:(g.map (·.1)).Nodup) (c:Bool)
 (b:∀(nm:List UInt8) (k:Nat),fitP nm k c=true↔∃s∈g,s.1=nm∧s.2.2.contains (zWC k)=true):
 z5q (d.map znV) g=true↔(∀m∈d,fitP m.1 m.2.1 c=true)∧∀s∈g,s.2.1=true→cnt s.1 d≠0:=by
 rw[zoh,z5Q h,List.length_map,(z3U g t d).2];constructor
 ·rintro⟨e,n⟩;constructor
  ·intro m j;rw[b];obtain⟨s,a,l⟩:=List.mem_map.1 (n m j);refine⟨s,a,l,?_⟩;have:=e s a;unfold zwM at this;rw[zeh,l,zlX h j]at this;exact this
  ·intro s a o v;have:=e s a;unfold zwM at this;rw[zeh,cnt_zero.1 v]at this;rw[o]at this;cases this
 ·rintro⟨e,n⟩;constructor
  ·intro s a;unfold zwM;rw[zeh];cases hf:d.find? (fun m=>m.1==s.1)with
   |none=>
     show s.2.1=false;cases hq:s.2.1 with
     |false=>rfl
     |true=>exact absurd (cnt_zero.2 hf) (n s a hq)
   |some x=>
     show s.2.2.contains (znV x).2.1=true;have w:=e x (List.mem_of_find?_eq_some hf);have i:=List.find?_some hf;simp at i;obtain⟨u,r,q,p⟩:=(b _ _).1 w;have:u=s:=z2e t a r (by rw[q,i]);rw[←this];exact p
  ·intro m j;obtain⟨s,a,i,_⟩:=(b _ _).1 (e m j);exact List.mem_map.2 ⟨s,a,i⟩
theorem kp1 (k:Nat):([1]:List Int).contains (zWC k)=true↔k=105:=by
 unfold zWC;(repeat' split)<;>simp<;>omega
theorem kp3 (k:Nat):([3]:List Int).contains (zWC k)=true↔k=115:=by
 unfold zWC;(repeat' split)<;>simp<;>omega
theorem zaz (k:Nat):([0,1,2]:List Int).contains (zWC k)=true↔k≠115:=by
 unfold zWC;(repeat' split)<;>simp<;>omega
theorem zvh (a:List UInt8)(k:Nat):fitP a k true=true↔∃s∈callSlots,s.1=a∧s.2.2.contains (zWC k)=true:=by
 unfold callSlots;simp only [List.mem_cons,List.not_mem_nil,or_false,exists_eq_or_imp,exists_eq_left,kp1,kp3];unfold fitP;by_cases h1:a=[99,97,108,108]
 ·subst h1;simp;omega
 ·by_cases h2:a=[98,121]
  ·subst h2;simp;omega
  ·by_cases h3:a=[97,114,103]
   ·subst h3;simp;omega
   ·by_cases h4:a=[101,120,112]
    ·subst h4;simp;omega
    ·by_cases h5:a=[111,112]
     ·subst h5;simp;omega
     ·by_cases h6:a=[107,101,121]
      ·subst h6;simp;omega
      ·simp only [beq_iff_eq,h1,h2,h3,h4,h5,h6,if_false,Bool.not_true,Bool.false_and];have e:∀(x:List UInt8),(x=a)=(a=x):=fun x=>propext eq_comm;simp[e,h1,h2,h3,h4,h5,h6]
theorem zPj (a:List UInt8)(k:Nat):fitP a k false=true↔∃s∈retSlots,s.1=a∧s.2.2.contains (zWC k)=true:=by
 unfold retSlots;simp only [List.mem_cons,List.not_mem_nil,or_false,exists_eq_or_imp,exists_eq_left,kp1,zaz];unfold fitP;by_cases h1:a=[114,101,116]
 ·subst h1;simp;omega
 ·by_cases h2:a=[118,97,108]
  ·subst h2;simp;omega
  ·have e:∀(x:List UInt8),(x=a)=(a=x):=fun x=>propext eq_comm;simp[e,h1,h2]
theorem zNl {a:List RM}(h:nodup a):z5q (a.map znV) callSlots=true↔(∀m∈a,fitP m.1 m.2.1 true=true)∧cnt z3k a≠0∧cnt sBy a≠0∧cnt sOp a≠0:=by
 rw[zDa h callSlots (by decide) true zvh];simp[callSlots,z3k,sBy,sOp]
theorem zMF {a:List RM}(h:nodup a):z5q (a.map znV) retSlots=true↔(∀m∈a,fitP m.1 m.2.1 false=true)∧cnt sRet a≠0∧cnt sVal a≠0:=by
 rw[zDa h retSlots (by decide) false zPj];simp[retSlots,sRet,sVal]
def ndS (n:Int):List UInt8:=if n=0 then []else if n=2 then [97]else if n=6 then [97,101]else if n=1 then [107]else [107,97]
def gvS (n:Int):List UInt8:=if n=2 then [105]else if n=1 then [110]else if n=4 then [98]else [105,110]
theorem zvT {m:List UInt8}(h:zOI m opTab=true):m=sReg∨m=sKv∨m=zsK∨m=sSet∨m=zyy:=by
 unfold zOI at h;rw[List.any_eq_true]at h;obtain⟨o,a,b⟩:=h;rw[beq_iff_eq]at b;unfold opTab at a;simp only [List.mem_cons,List.not_mem_nil,or_false]at a;rcases a with h|h|h|h|h|h|h|h|h|h|h|h|h<;>subst h<;>subst b<;>simp
theorem zrg (m:List UInt8):z3t m modTab=zOI m opTab:=by
 rw[Bool.eq_iff_iff];constructor
 ·intro h;simp[z3t,modTab]at h;rcases h with h|h|h|h|h<;>subst h<;>decide
 ·intro h;rcases zvT h with rfl|rfl|rfl|rfl|rfl<;>decide
theorem zww {m:List UInt8}(h:zOI m opTab=true)(n:List UInt8):
 zyw (m++[32]++n)=match zco m n opTab with|none=>([],[],false)|some r=>(ndS r.2.2.1,gvS r.2.2.2,true):=by
 rcases zvT h with rfl|rfl|rfl|rfl|rfl
 ·by_cases h1:n=[114,101,97,100]
  ·subst h1;rfl
  ·by_cases h2:n=[119,114,105,116,101]
   ·subst h2;rfl
   ·by_cases h3:n=[99,97,115]
    ·subst h3;rfl
    ·have e:∀(x:List UInt8),(x=n)=(n=x):=fun x=>propext eq_comm;simp[zyw,zco,opTab,sReg,sKv,zsK,sSet,zyy,h1,h2,h3,e]
 ·by_cases h1:n=[103,101,116]
  ·subst h1;rfl
  ·by_cases h2:n=[112,117,116]
   ·subst h2;rfl
   ·by_cases h3:n=[100,101,108]
    ·subst h3;rfl
    ·have e:∀(x:List UInt8),(x=n)=(n=x):=fun x=>propext eq_comm;simp[zyw,zco,opTab,sReg,sKv,zsK,sSet,zyy,h1,h2,h3,e]
 ·by_cases h1:n=[101,110,113]
  ·subst h1;rfl
  ·by_cases h2:n=[100,101,113]
   ·subst h2;rfl
   ·have e:∀(x:List UInt8),(x=n)=(n=x):=fun x=>propext eq_comm;simp[zyw,zco,opTab,sReg,sKv,zsK,sSet,zyy,h1,h2,e]
 ·by_cases h1:n=[97,100,100]
  ·subst h1;rfl
  ·by_cases h2:n=[114,101,109]
   ·subst h2;rfl
   ·by_cases h3:n=[104,97,115]
    ·subst h3;rfl
    ·have e:∀(x:List UInt8),(x=n)=(n=x):=fun x=>propext eq_comm;simp[zyw,zco,opTab,sReg,sKv,zsK,sSet,zyy,h1,h2,h3,e]
 ·by_cases h1:n=[97,99,113]
  ·subst h1;rfl
  ·by_cases h2:n=[114,101,108]
   ·subst h2;rfl
   ·have e:∀(x:List UInt8),(x=n)=(n=x):=fun x=>propext eq_comm;simp[zyw,zco,opTab,sReg,sKv,zsK,sSet,zyy,h1,h2,e]
theorem zoo {m n:List UInt8}{r:zqk}(h:zco m n opTab=some r):(r.2.2.1=0∨r.2.2.1=1∨r.2.2.1=2∨r.2.2.1=3∨r.2.2.1=6)∧(r.2.2.2=1∨r.2.2.2=2∨r.2.2.2=3∨r.2.2.2=4):=by
 have a:=List.mem_of_find?_eq_some h;unfold opTab at a;simp at a;rcases a with h|h|h|h|h|h|h|h|h|h|h|h|h<;>subst h<;>decide
def cR (nm:List UInt8)(ms:List RM):RM×Nat:=memR nm zB6 0 ms
theorem zra (b:List UInt8)(a:List RM):(cR b a).2=cnt b a:=by unfold cR;rw[zFN];omega
theorem zJD {a:List RM}(h:nodup a)(b:List UInt8):(cR b a).1=(a.find? (fun m=>m.1==b)).getD zB6:=by
 unfold cR;cases hf:a.find? (fun m=>m.1==b)with
 |none=>rw[zPc (cnt_zero.2 hf)];rfl
 |some x=>rw[zit (h b) hf];rfl
theorem z2i {a:List RM}(h:nodup a)(b:List UInt8):zch (a.map znV) b=(cR b a).1.2.2.1:=by
 unfold zch;rw[zeh,zJD h];cases a.find? (fun m=>m.1==b)<;>rfl
theorem z9e {a:List RM}(h:nodup a)(b:List UInt8)(g:∀m∈a,m.1=b→m.2.1≠116):zqd (a.map znV) b=(cR b a).1.2.2.2:=by
 unfold zqd;rw[zeh,zJD h];cases hf:a.find? (fun m=>m.1==b)with
 |none=>rfl
 |some x=>
   have e:=List.mem_of_find?_eq_some hf;have d:=List.find?_some hf;simp at d;show(if x.2.1=116 then 1 else x.2.2.2)=x.2.2.2;rw[if_neg (g x e d)]
theorem zRq {b:List RM}(a:List UInt8):(z8R (b.map znV) a).isSome=decide (0<cnt a b):=by
 rw[zeh];cases hf:b.find? (fun m=>m.1==a)with
 |none=>simp[cnt_zero.2 hf]
 |some x=>
   have d:cnt a b≠0:=fun e=>(by rw[cnt_zero.1 e]at hf;cases hf);simp;omega
theorem zMW {a:List UInt8}{k:Nat}(g:a=z3k∨a=sBy∨a=sArg∨a=sExp)(h:fitP a k true=true):k=105:=by
 rw[zvh]at h;obtain⟨s,d,e,b⟩:=h;unfold callSlots at d;simp only [List.mem_cons,List.not_mem_nil,or_false]at d;rcases d with rfl|rfl|rfl|rfl|rfl|rfl
 ·exact(kp1 k).1 b
 ·exact(kp1 k).1 b
 ·exfalso;rcases g with rfl|rfl|rfl|rfl<;>revert e<;>decide
 ·exfalso;rcases g with rfl|rfl|rfl|rfl<;>revert e<;>decide
 ·exact(kp1 k).1 b
 ·exact(kp1 k).1 b
def zPn (model:List UInt8)(ms:List RM):Bool:=
 (zyw (model++[32]++(cR sOp ms).1.2.2.1)).2.2&&
 (hasP 107 (nats (zyw (model++[32]++(cR sOp ms).1.2.2.1)).1)==decide (0<(cR sKey ms).2))&&
 (hasP 97 (nats (zyw (model++[32]++(cR sOp ms).1.2.2.1)).1)==decide (0<(cR sArg ms).2))&&
 (hasP 101 (nats (zyw (model++[32]++(cR sOp ms).1.2.2.1)).1)==decide (0<(cR sExp ms).2))
def zjv (model:List UInt8)(ms:List RM)(ahead:List OpV):Int×Option OpV:=
 if fitsR true 0 ms<ms.length∨(cR sBy ms).2=0∨(cR sOp ms).2=0 then(3,none)
 else if zPn model ms=false then(4,none)
 else if ahead.any (fun o=>o.id==(cR z3k ms).1.2.2.2)=true then(5,none)
 else if ahead.any (fun o=>o.cl==(cR sBy ms).1.2.2.2&&o.ret==0)=true then(6,none)
 else(0,some ⟨(cR z3k ms).1.2.2.2,(cR sBy ms).1.2.2.2,(cR sOp ms).1.2.2.1,(cR sKey ms).1.2.2.1,(cR sArg ms).1.2.2.2,(cR sExp ms).1.2.2.2,0,0,0,0⟩)
theorem zfZ (a:List OpV)(x:Int):(z09 a x).isSome=a.any (fun o=>o.id==x):=by
 unfold z09;rw[List.findIdx?_isSome]
theorem zlI (a:List OpV)(c:Int):(openOf a c > 0)↔a.any (fun o=>o.cl==c&&o.ret==0)=true:=by
 unfold openOf;rw[List.any_eq_true];constructor
 ·intro h;obtain⟨o,b⟩:=List.exists_mem_of_length_pos h;rw[List.mem_filter]at b;exact⟨o,b.1,b.2⟩
 ·rintro⟨o,d,e⟩;exact List.length_pos_of_mem (List.mem_filter.2 ⟨d,e⟩)
theorem zqT {n:Int}(d:n=0∨n=1∨n=2∨n=3∨n=6)(a b c:Bool):
 ((hasP 107 (nats (ndS n))==a)&&(hasP 97 (nats (ndS n))==b)&&(hasP 101 (nats (ndS n))==c))=decide (n=(if a then 1 else 0)+(if b then 2 else 0)+(if c then 4 else 0)):=by
 rcases d with rfl|rfl|rfl|rfl|rfl<;>cases a<;>cases b<;>cases c<;>decide
theorem zfl {a:List UInt8}(e:zOI a opTab=true){b:List RM}(h:nodup b):
 zPn a b=match zco a (zch (b.map znV) sOp) opTab with|none=>false|some r=>decide (r.2.2.1=z8C (b.map znV)):=by
 unfold zPn;rw[zww e,z2i h];cases hf:zco a (cR sOp b).1.2.2.1 opTab with
 |none=>rfl
 |some r=>
   dsimp only;have d:=(zoo hf).1;rw[Bool.true_and,zra,zra,zra,zqT d];unfold z8C;rw[zRq,zRq,zRq]
theorem zGT {b:List UInt8}(n:zOI b opTab=true){a:List RM}(h:nodup a)(s:z5q (a.map znV) callSlots=true)(d:List OpV)(j:Int):
 zRl b d (a.map znV) j=((zjv b a d).1,(zjv b a d).2.map (fun o=>{ o with call:=j })):=by
 have l:=(zNl h).1 s;have k:∀g,(g=z3k∨g=sBy∨g=sArg∨g=sExp)→zqd (a.map znV) g=(cR g a).1.2.2.2:=by
  intro g i;apply z9e h;intro m n p;have:=l.1 m n;rw[p]at this;have:=zMW i this;omega
 have q:¬(fitsR true 0 a<a.length∨(cR sBy a).2=0∨(cR sOp a).2=0):=by
  rintro(e|e|e)
  ·exact(ztJ true a).2 l.1 e
  ·rw[zra]at e;exact l.2.2.1 e
  ·rw[zra]at e;exact l.2.2.2 e
 unfold zjv;rw[if_neg q,zfl n h];unfold zRl;dsimp only;rw[k z3k (by simp),k sBy (by simp),k sArg (by simp),k sExp (by simp)];cases hfr:zco b (zch (a.map znV) sOp) opTab with
 |none=>rfl
 |some r=>
   dsimp only;by_cases i:r.2.2.1=z8C (a.map znV)
   ·rw[if_pos i,if_neg (show ¬(decide (r.2.2.1=z8C (a.map znV))=false) by simp[i]),zfZ];by_cases h5:d.any (fun o=>o.id==(cR z3k a).1.2.2.2)=true
    ·rw[if_pos h5,if_pos h5];rfl
    ·rw[if_neg h5,if_neg h5];by_cases h6:d.any (fun o=>o.cl==(cR sBy a).1.2.2.2&&o.ret==0)=true
     ·rw[if_pos ((zlI _ _).2 h6),if_pos h6];rfl
     ·rw[if_neg (fun hh=>h6 ((zlI _ _).1 hh)),if_neg h6,z2i h,z2i h];rfl
   ·rw[if_neg i,if_pos (show decide (r.2.2.1=z8C (a.map znV))=false by simp[i])];rfl
def zrZ (x:Int):List OpV→Nat→Option Nat→Option Nat
 | [],_,r=>r
 |o::t,i,r=>zrZ x t (i+1) (if o.id=x∧o.ret=0 then some i else r)
def zxo (k:Nat):Nat:=if k=116∨k=102 then 98 else k
def valR (m:RM):Int×Int:=if m.2.1=105 then(1,m.2.2.2)else if m.2.1=116 then(2,1)else if m.2.1=102 then(2,0)else(0,0)
def zty (model:List UInt8)(ms:List RM)(ahead:List OpV):Int×Option (Nat×Int×Int):=
 if fitsR false 0 ms<ms.length∨(cR sRet ms).2=0∨(cR sVal ms).2=0 then(3,none)
 else match zrZ (cR sRet ms).1.2.2.2 ahead 0 none with
  |none=>(7,none)
  |some i=>match ahead[i]? with
    |none=>(7,none)
    |some o=>if hasP (zxo (cR sVal ms).1.2.1) (nats (zyw (model++[32]++o.name)).2.1)=false then(8,none)else(0,some (i,valR (cR sVal ms).1))
def uniq (ops:List OpV):Prop:=(ops.map (·.id)).Nodup
theorem zq4 {x:Int}{a:List OpV}(h:∀o∈a,o.id≠x)(k:Nat)(r:Option Nat):zrZ x a k r=r:=by
 induction a generalizing k r with
 |nil=>rfl
 |cons o t ih=>
   unfold zrZ;rw[if_neg (fun hh=>h o (by simp) hh.1)];exact ih (fun o ho=>h o (by simp[ho])) _ _
theorem z93 {x:Int}{a:List OpV}(h:uniq a):∀(k:Nat) (r:Option Nat),
 zrZ x a k r=match z09 a x with|none=>r|some i=>match a[i]? with|none=>r|some o=>if o.ret=0 then some (k+i)else r:=by
 induction a with
 |nil=>intro k r;rfl
 |cons o t ih=>
   intro k r;unfold uniq at h;simp only [List.map_cons,List.nodup_cons]at h;unfold zrZ;have b:z09 (o::t) x=if o.id=x then some 0 else(z09 t x).map (·+1):=by
    unfold z09;rw[List.findIdx?_cons];by_cases hx:o.id=x
    ·simp[hx]
    ·simp[hx]
   rw[b];by_cases hx:o.id=x
   ·rw[if_pos hx,zq4 (fun p hp e=>h.1 (List.mem_map.2 ⟨p,hp,by rw[e,hx]⟩))];simp[hx]
   ·rw[if_neg hx,if_neg (fun hh=>hx hh.1),ih h.2];cases hi:z09 t x with
    |none=>rfl
    |some i=>
      simp only [Option.map_some,List.getElem?_cons_succ];cases t[i]? with
      |none=>rfl
      |some p=>
        dsimp only;split
        ·congr 1;omega
        ·rfl
def ztN (m:RM):Prop:=(m.2.1=115∨m.2.1=105∨m.2.1=116∨m.2.1=102∨m.2.1=110)∧(m.2.1≠105→m.2.2.2=0)
theorem zJN {g:Int}(b:g=1∨g=2∨g=3∨g=4){k:Nat}(a:k=105∨k=116∨k=102∨k=110):zIyy g (zWC k)=hasP (zxo k) (nats (gvS g)):=by
 rcases b with rfl|rfl|rfl|rfl<;>rcases a with rfl|rfl|rfl|rfl<;>decide
theorem zvm {k:Nat}:zIyy 0 (zWC k)=false:=by
 unfold zWC zIyy;(repeat' split)<;>decide
theorem z7u {k:Nat}(h:fitP sRet k false=true):k=105:=by
 rw[zPj]at h;obtain⟨s,a,b,d⟩:=h;unfold retSlots at a;simp only [List.mem_cons,List.not_mem_nil,or_false]at a;rcases a with rfl|rfl
 ·exact(kp1 k).1 d
 ·exfalso;revert b;decide
theorem zia {k:Nat}(h:fitP sVal k false=true):k≠115:=by
 rw[zPj]at h;obtain⟨s,a,b,d⟩:=h;unfold retSlots at a;simp only [List.mem_cons,List.not_mem_nil,or_false]at a;rcases a with rfl|rfl
 ·exfalso;revert b;decide
 ·exact(zaz k).1 d
def zQy (ops:List OpV)(line:Int)(q:Nat×Int×Int):List OpV:=match ops[q.1]? with
 |none=>ops
 |some o=>ops.set q.1 (setRet o line q.2.1 q.2.2)
theorem zxh {a:List UInt8}(u:zOI a opTab=true){b:List RM}(h:nodup b)(z:∀m∈b,ztN m)(J:z5q (b.map znV) retSlots=true){d:List OpV}(G:uniq d)(g:Int):
 retP a d (b.map znV) g=((zty a b d).1,(zty a b d).2.map (zQy d g)):=by
 have k:=(zMF h).1 J;have w:zqd (b.map znV) sRet=(cR sRet b).1.2.2.2:=by
  apply z9e h;intro m u C;have:=k.1 m u;rw[C]at this;have:=z7u this;omega
 have H:¬(fitsR false 0 b<b.length∨(cR sRet b).2=0∨(cR sVal b).2=0):=by
  rintro(j|j|j)
  ·exact(ztJ false b).2 k.1 j
  ·rw[zra]at j;exact k.2.1 j
  ·rw[zra]at j;exact k.2.2 j
 obtain⟨v,l⟩:∃v,b.find? (fun m=>m.1==sVal)=some v:=by
  cases hq:b.find? (fun m=>m.1==sVal)with
  |none=>exact absurd (cnt_zero.2 hq) k.2.2
  |some v=>exact⟨v,rfl⟩
 have p:=List.mem_of_find?_eq_some l;have A:v.1=sVal:=by have:=List.find?_some l;simpa using this
 have x:(cR sVal b).1=v:=by rw[zJD h,l];rfl
 have F:zoz (b.map znV) sVal=zWC v.2.1:=by unfold zoz;rw[zeh,l];rfl
 have D:zqd (b.map znV) sVal=if v.2.1=116 then 1 else v.2.2.2:=by unfold zqd;rw[zeh,l];rfl
 have s:=z v p;have I:v.2.1≠115:=zia (by have:=k.1 v p;rw[A]at this;exact this);have q:v.2.1=105∨v.2.1=116∨v.2.1=102∨v.2.1=110:=by rcases s.1 with e|e|e|e|e<;>omega
 have n:(zWC v.2.1,(if v.2.1=116 then(1:Int)else v.2.2.2))=valR v:=by
  unfold valR;rcases q with e|e|e|e
  ·simp[e,zWC]
  ·simp[e,zWC]
  ·have t:=s.2 (by omega);simp[e,zWC,t]
  ·have t:=s.2 (by omega);simp[e,zWC,t]
 have y:zWC v.2.1=(valR v).1:=by rw[←n]
 have E:(if v.2.1=116 then(1:Int)else v.2.2.2)=(valR v).2:=by rw[←n]
 unfold zty;rw[if_neg H,z93 G,x];unfold retP;rw[w];cases hi:z09 d (cR sRet b).1.2.2.2 with
 |none=>rfl
 |some i=>
   dsimp only;cases ho:d[i]? with
   |none=>rfl
   |some o=>
     dsimp only;by_cases hr:o.ret=0
     ·rw[if_neg (fun hh=>hh hr),if_pos hr];simp only [Nat.zero_add,ho];rw[F,D];have B:zIyy (((zco a o.name opTab).map (fun r=>r.2.2.2)).getD 0) (zWC v.2.1)=hasP (zxo v.2.1) (nats (zyw (a++[32]++o.name)).2.1):=by
       rw[zww u];cases hfr:zco a o.name opTab with
       |none=>rw[Option.map_none,Option.getD_none,zvm];rfl
       |some r=>exact zJN (zoo hfr).2 q
      rw[B];cases hh:hasP (zxo v.2.1) (nats (zyw (a++[32]++o.name)).2.1)with
      |true=>
        rw[if_pos (show true=true from rfl),if_neg (show ¬(true=false) by simp)];show((0:Int),some (d.set i (setRet o g (zWC v.2.1) (if v.2.1=116 then 1 else v.2.2.2))))=((0:Int),some (zQy d g (i,valR v)));unfold zQy;rw[ho,y,E]
      |false=>rw[if_neg (show ¬(false=true) by simp),if_pos (show false=false from rfl)];rfl
     ·rw[if_pos hr,if_neg hr];rfl
theorem zha {k p:Pc}(h:(valP p).2.2.2=true):ztN (mkRM k p):=by
 unfold ztN mkRM;unfold valP at h⊢;dsimp only at h⊢;unfold zMi at h⊢;by_cases h1:p.1=34
 ·rw[if_pos h1];simp
 ·rw[if_neg h1]at h⊢;by_cases h2:p.1≠119
  ·rw[if_pos h2]at h;cases h
  ·rw[if_neg h2]at h⊢;split
   ·simp
   ·split
    ·simp
    ·split
     ·simp
     ·simp
theorem zVm (n:Nat):∀(i:List Pc) (j k:List RM),i.length≤n→(∀m∈j,ztN m)→zfp j i=some k→∀m∈k,ztN m:=by
 induction n with
 |zero=>
   intro i j k h l e;have:i=[]:=List.length_eq_zero_iff.1 (by omega);subst this;rw[zfp]at e;injection e with e;subst e;exact l
 |succ n ih=>
   intro i j k h l e
   match i,h,e with
   | [],_,e=>rw[zfp]at e;injection e with e;subst e;exact l
   | [a],_,e=>simp[zfp]at e
   | [a,b],_,e=>simp[zfp]at e
   | [a,b,c],_,e=>
     rw[zfp]at e;split at e
     ·rename_i hok;injection e with e;subst e;intro m g;rcases List.mem_append.1 g with g|g
      ·exact l m g
      ·simp at g;subst g;exact zha hok.1
     ·cases e
   |a::b::c::d::rest,h,e=>
     rw[zfp]at e;split at e
     ·rename_i hok;simp only [List.length_cons]at h;refine ih rest _ k (by omega) ?_ e;intro m g;rcases List.mem_append.1 g with g|g
      ·exact l m g
      ·simp at g;subst g;exact zha hok.1
     ·cases e
theorem zbL {ps:List Pc}{b:List RM}(h:objI ps=some b):∀m∈b,ztN m:=by
 unfold objI at h;split at h
 ·cases h
 ·split at h
  ·cases h
  ·split at h
   ·cases h
   ·split at h
    ·injection h with h;subst h;intro m a;cases a
    ·split at h
     ·cases h
     ·exact zVm _ _ _ _ zH (fun m a=>by cases a) h
def z9q (model:List UInt8)(ops:List OpV)(s:ByteArray)(line:Int):Int×Option (List OpV):=
 match (zvF (lets s)).bind objI with
 |none=>(2,none)
 |some ms=>if repR ms ms=true∨(cR z3k ms).2+(cR sRet ms).2≠1 then(3,none)
   else if(cR z3k ms).2=1 then((zjv model ms ops).1,(zjv model ms ops).2.map (fun o=>ops++[{ o with call:=line }]))
   else((zty model ms ops).1,(zty model ms ops).2.map (zQy ops line))
theorem zlg (k:Nat):fitP sRet k true=false:=by
 cases h:fitP sRet k true with
 |false=>rfl
 |true=>
   rw[zvh]at h;obtain⟨s,a,b,d⟩:=h;unfold callSlots at a;simp only [List.mem_cons,List.not_mem_nil,or_false]at a;rcases a with rfl|rfl|rfl|rfl|rfl|rfl<;>(exfalso;revert b;decide)
theorem zHi {b:List UInt8}{a:List RM}(h:cnt b a≠0):∃m∈a,m.1=b:=by
 cases hf:a.find? (fun m=>m.1==b)with
 |none=>exact absurd (cnt_zero.2 hf) h
 |some x=>exact⟨x,List.mem_of_find?_eq_some hf,by have:=List.find?_some hf;simpa using this⟩
theorem zjb {d:List UInt8}(q:zOI d opTab=true){g:List OpV}(r:uniq g)(s:ByteArray)(k:Int):
 addP d g s k=z9q d g s k:=by
 unfold addP z9q;rw[zaJ];cases hq:(zvF (lets s)).bind objI with
 |none=>rfl
 |some ms=>
   have p:∀m∈ms,ztN m:=by
    cases hp:zvF (lets s)with
    |none=>rw[hp]at hq;cases hq
    |some ps=>rw[hp]at hq;exact zbL hq
   dsimp only [Option.map_some];rw[zCu];cases hn:za6 (ms.map znV)with
   |false=>rw[if_neg (show ¬(false=true) by simp),if_pos (Or.inl (show(!false)=true from rfl))]
   |true=>
     have e:=(zZq ms).1 hn;have v:=e z3k;have w:=e sRet;rw[if_pos rfl,zra,zra];by_cases hcall:cnt z3k ms=0
     ·have b:¬(z5q (ms.map znV) callSlots=true):=fun h=>((zNl e).1 h).2.1 hcall;rw[if_neg b];by_cases hret:cnt sRet ms=0
      ·have a:¬(z5q (ms.map znV) retSlots=true):=fun h=>((zMF e).1 h).2.1 hret;rw[if_neg a,if_pos (Or.inr (by omega))]
      ·rw[if_neg (show ¬((!true)=true∨cnt z3k ms+cnt sRet ms≠1) by simp;omega),if_neg (show ¬(cnt z3k ms=1) by omega)];by_cases a:z5q (ms.map znV) retSlots=true
       ·rw[if_pos a,zxh q e p a r]
       ·rw[if_neg a];have n:fitsR false 0 ms<ms.length∨(cR sRet ms).2=0∨(cR sVal ms).2=0:=by
         apply Decidable.byContradiction;intro i;apply a;rw[zMF e];refine⟨(ztJ false ms).1 (fun h=>i (Or.inl h)),hret,fun h=>i (Or.inr (Or.inr (by rw[zra];exact h)))⟩
        unfold zty;rw[if_pos n];rfl
     ·have u:cnt z3k ms=1:=(by omega);have a:¬(z5q (ms.map znV) retSlots=true):=by
       intro h;obtain⟨m,j,l⟩:=zHi hcall;have:=((zMF e).1 h).1 m j;rw[l,zPj]at this;obtain⟨s,o,t,x⟩:=this;unfold retSlots at o;simp only [List.mem_cons,List.not_mem_nil,or_false]at o;rcases o with rfl|rfl<;>(revert t;decide)
      by_cases hret:cnt sRet ms=0
      ·rw[if_neg (show ¬((!true)=true∨cnt z3k ms+cnt sRet ms≠1) by simp;omega),if_pos u];by_cases b:z5q (ms.map znV) callSlots=true
       ·rw[if_pos b,zGT q e b];cases (zjv d ms g).2<;>rfl
       ·rw[if_neg b,if_neg a];have n:fitsR true 0 ms<ms.length∨(cR sBy ms).2=0∨(cR sOp ms).2=0:=by
         apply Decidable.byContradiction;intro i;apply b;rw[zNl e];refine⟨(ztJ true ms).1 (fun h=>i (Or.inl h)),hcall,fun h=>i (Or.inr (Or.inl (by rw[zra];exact h))),fun h=>i (Or.inr (Or.inr (by rw[zra];exact h)))⟩
        unfold zjv;rw[if_pos n];rfl
      ·have b:¬(z5q (ms.map znV) callSlots=true):=by
        intro h;obtain⟨m,j,l⟩:=zHi hret;have:=((zNl e).1 h).1 m j;rw[l,zlg]at this;cases this
       rw[if_neg b,if_neg a,if_pos (Or.inr (by omega))]
theorem zJC {g:List UInt8}{d k:List OpV}(l:uniq d){s:ByteArray}{j:Int}{r:Int}(h:z9q g d s j=(r,some k)):uniq k:=by
 unfold z9q at h;split at h
 ·cases h
 ·rename_i ms _;split at h
  ·cases h
  ·split at h
   ·cases hc:zjv g ms d with
    |mk x y=>
      rw[hc]at h;cases y with
      |none=>cases h
      |some o=>
        simp at h;rw[←h.2];unfold uniq;rw[List.map_append,List.nodup_append];refine⟨l,by simp,?_⟩;intro a v b n m;simp at n;unfold zjv at hc;split at hc
        ·cases hc
        ·split at hc
         ·cases hc
         ·split at hc
          ·cases hc
          ·rename_i h5;split at hc
           ·cases hc
           ·simp at hc;apply h5;rw[List.any_eq_true];obtain⟨p,u,t⟩:=List.mem_map.1 v;refine⟨p,u,?_⟩;rw[beq_iff_eq,t,m,n,←hc.2]
   ·cases hc:zty g ms d with
    |mk x y=>
      rw[hc]at h;cases y with
      |none=>cases h
      |some q=>
        simp at h;rw[←h.2];unfold zQy;cases ho:d[q.1]? with
        |none=>exact l
        |some o=>
          unfold uniq;dsimp only;rw[List.map_set];have:(setRet o j q.2.1 q.2.2).id=o.id:=rfl;rw[this];have e:(d.map (·.id)).set q.1 o.id=d.map (·.id):=by
           apply List.ext_getElem?;intro i;rw[List.getElem?_set];split
           ·rename_i hi;subst hi;rw[List.getElem?_map,ho];simp;have:=(zB ho).1;omega
           ·rfl
          rw[e];exact l
theorem z6A:Lib.cut [] [10]=([],[],false):=by decide
theorem zJm (b:UInt8)(l:List UInt8):Lib.index (b::l) [10]=if b=10 then 0 else if Lib.index l [10]= -1 then -1 else Lib.index l [10]+1:=by
 rw[Lib.index];by_cases hb:b=10
 ·subst hb;simp[List.isPrefixOf]
 ·have:([10]:List UInt8).isPrefixOf (b::l)=false:=by
   simp only [List.isPrefixOf,Bool.and_true];rw[beq_eq_false_iff_ne];exact fun e=>hb e.symm
  rw[this,if_neg hb];simp only [Bool.false_eq_true,if_false,beq_iff_eq]
theorem z2n (b:UInt8)(l:List UInt8):Lib.cut (b::l) [10]=if b=10 then([],l,true)else(b::(Lib.cut l [10]).1,(Lib.cut l [10]).2.1,(Lib.cut l [10]).2.2):=by
 unfold Lib.cut;rw[zJm];by_cases hb:b=10
 ·rw[if_pos hb,if_pos hb];simp
 ·rw[if_neg hb,if_neg hb];have a:=Lib.index_ge l [10];by_cases hi:Lib.index l [10]= -1
  ·rw[if_pos hi,hi];simp
  ·rw[if_neg hi,if_pos (by omega),if_pos (by omega)];have e:(Lib.index l [10]+1).toNat=(Lib.index l [10]).toNat+1:=(by omega);rw[e];simp
theorem zat (t:List UInt8):∀(d:List (List UInt8)) (a:List UInt8),z40 d a (nats t)=d++z40 [] a (nats t):=by
 induction t with
 |nil=>intro d a;simp only [nats,List.map_nil,z40];split<;>simp
 |cons b t ih=>
   intro d a;rw[zUH,z40,z40];split
   ·rw[ih (d++[a]),ih ([]++[a])];simp
   ·exact ih d _
theorem zhT (t:List UInt8):∀(a:List UInt8),z40 [] a (nats t)=if(Lib.cut t [10]).2.2=true then(a++(Lib.cut t [10]).1)::z40 [] [] (nats (Lib.cut t [10]).2.1)else(if a++t=[]then []else [a++t]):=by
 induction t with
 |nil=>
   intro a;rw[z6A];simp only [nats,List.map_nil,z40,List.append_nil,Bool.false_eq_true,if_false,List.nil_append]
 |cons b t ih=>
   intro a;rw[zUH,z40,z2n];by_cases hb:b=10
   ·subst hb;rw[if_pos (by rfl),zat];simp
   ·have d:b.toNat≠10:=(by intro e;apply hb;exact UInt8.toNat_inj.1 e);rw[if_neg d,if_neg hb,ih,UInt8.ofNat_toNat];simp
theorem z4n {t:List UInt8}(h:t≠[]):linesP (nats t)=(Lib.cut t [10]).1::linesP (nats (Lib.cut t [10]).2.1):=by
 unfold linesP;rw[zhT t []];by_cases hc:(Lib.cut t [10]).2.2=true
 ·rw[if_pos hc];rfl
 ·rw[if_neg hc,List.nil_append,if_neg h];have:Lib.cut t [10]=(t,[],false):=by
   unfold Lib.cut at hc⊢;by_cases hi:0≤Lib.index t [10]
   ·rw[if_pos hi]at hc;exact absurd rfl hc
   ·rw[if_neg hi]
  rw[this];rfl
def zvj (model:List UInt8):List (List UInt8)→Nat→List OpV→List OpV ⊕ (Int×Int)
 | [],_,ops=>.inl ops
 |l::r,k,ops=>if 128<k+1 then .inr ((k:Int)+1,1)else match z9q model ops ⟨l.toArray⟩ ((k:Int)+1)with
   |(e,none)=>.inr ((k:Int)+1,e)
   |(_,some ops')=>zvj model r (k+1) ops'
theorem zZt {a:List UInt8}(g:zOI a opTab=true):∀(f k:Nat) (b:List OpV) (t:List UInt8),k+f=129→1≤f→uniq b→
 zIn a f b t k=zvj a (linesP (nats t)) k b:=by
 intro f
 induction f with
 |zero=>intro k b t _ h;omega
 |succ f ih=>
   intro k b t i _ d;unfold zIn;by_cases ht:t=[]
   ·rw[if_pos ht,ht];rfl
   ·rw[if_neg ht,z4n ht,zvj];by_cases hf:f=0
    ·rw[if_pos hf,if_pos (by omega)]
    ·rw[if_neg hf,if_neg (by omega),zjb g d];cases he:z9q a b ⟨(Lib.cut t [10]).1.toArray⟩ ((k:Int)+1)with
     |mk e o=>
       cases o with
       |none=>rfl
       |some ops'=>exact ih (k+1) ops' _ (by omega) (by omega) (zJC d he)
theorem zyfu {a:List UInt8}(b:zOI a opTab=true)(t:List UInt8):z9w a t=zvj a (linesP (nats t)) 0 []:=
 zZt b 129 0 [] t rfl (by omega) (by simp[uniq])
def ORow (w:World)(o:Option Addr)(ops:List OpV):Prop:=
 ops≠[]→∃g,o=some ⟨g,0,none⟩∧g<w.heap.size∧∀j u,(opsRow ops)[j]?=some u→w.cell? ⟨g,j,none⟩=some u
theorem ORow.below {w w':World}{o:Option Addr}{a:List OpV}(h:ORow w o a)(k:Below w.heap.size w w'):ORow w' o a:=by
 intro d;obtain⟨g,e,b,i⟩:=h d;exact⟨g,e,zI b k.size,fun j u hj=>(k.cell (p:=⟨g,j,none⟩) b).trans (i j u hj)⟩
theorem rmBlk.below {w w':World}{b:Nat}{m:RM}(h:rmBlk w b m)(k:Below w.heap.size w w'):rmBlk w' b m:=(k.block b (zBq h)).trans h
theorem rmBlk.alloc {w:World}{b:Nat}{m:RM}(h:rmBlk w b m)(o:Obj):rmBlk (w.alloc o) b m:=(zD1 _ _ _ (zBq h)).trans h
theorem rmBlk.new (w:World)(m:RM):rmBlk (w.alloc (.cells #[.string ⟨m.1.toArray⟩,.int .u8 (m.2.1:Int),.string ⟨m.2.2.1.toArray⟩,.int .i64 m.2.2.2] 74)) w.heap.size m:=ziF _ _ _ rfl
def zBlk (w:World)(b:Nat):Prop:=w.heap[b]?=some (.cells #[.int .i64 0,.int .i64 0,.string ⟨#[]⟩,.string ⟨#[]⟩,.int .i64 0,.int .i64 0,.int .i64 0,.int .i64 0,.int .i64 0,.int .i64 0] 27 (0,0))
theorem zBlk.below {w w':World}{b:Nat}(h:zBlk w b)(k:Below w.heap.size w w'):zBlk w' b:=(k.block b (zBq h)).trans h
structure zCells (w:World)(b:Nat):Prop where
 c0:w.cell? ⟨b,0,none⟩=some (.int .i64 0)
 c1:w.cell? ⟨b,1,none⟩=some (.int .i64 0)
 c2:w.cell? ⟨b,2,none⟩=some (.string ⟨#[]⟩)
 c3:w.cell? ⟨b,3,none⟩=some (.string ⟨#[]⟩)
 c4:w.cell? ⟨b,4,none⟩=some (.int .i64 0)
 c5:w.cell? ⟨b,5,none⟩=some (.int .i64 0)
 c6:w.cell? ⟨b,6,none⟩=some (.int .i64 0)
 c7:w.cell? ⟨b,7,none⟩=some (.int .i64 0)
 c8:w.cell? ⟨b,8,none⟩=some (.int .i64 0)
 c9:w.cell? ⟨b,9,none⟩=some (.int .i64 0)
theorem zBlk.cells {w:World}{b:Nat}(h:zBlk w b):zCells w b:=
 ⟨by rw[zBk h];rfl,by rw[zBk h];rfl,by rw[zBk h];rfl,by rw[zBk h];rfl,by rw[zBk h];rfl,by rw[zBk h];rfl,by rw[zBk h];rfl,by rw[zBk h];rfl,by rw[zBk h];rfl,by rw[zBk h];rfl⟩
def z1u:OpV:=⟨0,0,[],[],0,0,0,0,0,0⟩
def zWb (o:OpV):Value:=.agg #[.int .i64 o.id,.int .i64 o.cl,.string ⟨o.name.toArray⟩,.string ⟨o.key.toArray⟩,.int .i64 o.arg,.int .i64 o.exp,.int .i64 o.call,.int .i64 o.ret,.int .i64 o.vk,.int .i64 o.vn]
theorem z8w {d:List UInt8}{a:List RM}(h:∀m∈a,rmOk m):∀(m:RM) (n:Nat),rmOk m→rmOk (memR d m n a).1:=by
 induction a with
 |nil=>intro m n b;exact b
 |cons x r ih=>
   intro m n b;unfold memR;split
   ·exact ih (fun y hy=>h y (by simp[hy])) x _ (h x (by simp))
   ·exact ih (fun y hy=>h y (by simp[hy])) m _ b
theorem zLS {a:List RM}(h:∀m∈a,rmOk m)(b:List UInt8):rmOk (cR b a).1:=z8w h _ _ ⟨by simp[zB6],by simp[zB6],by simp[zB6]⟩
def fewP (q:List UInt8×List UInt8×Bool):Prop:=q.1.length≤2∧q.2.1.length≤2
theorem zBU {c:Prop} [Decidable c]{a b:List UInt8×List UInt8×Bool}(e:fewP a)(d:fewP b):fewP (if c then a else b):=by
 split
 ·exact e
 ·exact d
theorem zjM (l:List UInt8):(zyw l).1.length≤2∧(zyw l).2.1.length≤2:=by
 show fewP (zyw l);unfold zyw
 repeat (refine zBU ⟨by decide,by decide⟩ ?_)
 exact⟨by decide,by decide⟩
def opBlk (w:World)(b:Nat)(o:OpV):Prop:=w.heap[b]?=some (.cells #[.int .i64 o.id,.int .i64 o.cl,.string ⟨o.name.toArray⟩,.string ⟨o.key.toArray⟩,.int .i64 o.arg,.int .i64 o.exp,.int .i64 o.call,.int .i64 o.ret,.int .i64 o.vk,.int .i64 o.vn] 27 (0,0))
theorem opBlk.set {w:World}{b:Nat}{o:OpV}(h:opBlk w b o)(p:OpV):opBlk ((((((((((w.setCell ⟨b,0,none⟩ (.int .i64 p.id)).setCell ⟨b,1,none⟩ (.int .i64 p.cl)).setCell ⟨b,2,none⟩ (.string ⟨p.name.toArray⟩)).setCell ⟨b,3,none⟩ (.string ⟨p.key.toArray⟩)).setCell ⟨b,4,none⟩ (.int .i64 p.arg)).setCell ⟨b,5,none⟩ (.int .i64 p.exp)).setCell ⟨b,6,none⟩ (.int .i64 p.call)).setCell ⟨b,7,none⟩ (.int .i64 p.ret)).setCell ⟨b,8,none⟩ (.int .i64 p.vk)).setCell ⟨b,9,none⟩ (.int .i64 p.vn)) b p:=by
 unfold opBlk at*;rw[zFg (zFg (zFg (zFg (zFg (zFg (zFg (zFg (zFg (zFg h 0 _) 1 _) 2 _) 3 _) 4 _) 5 _) 6 _) 7 _) 8 _) 9 _];simp
theorem zset {w:World}{b:Nat}(h:zBlk w b):opBlk ((((((((((w.setCell ⟨b,0,none⟩ (.int .i64 0)).setCell ⟨b,1,none⟩ (.int .i64 0)).setCell ⟨b,2,none⟩ (.string ⟨#[]⟩)).setCell ⟨b,3,none⟩ (.string ⟨#[]⟩)).setCell ⟨b,4,none⟩ (.int .i64 0)).setCell ⟨b,5,none⟩ (.int .i64 0)).setCell ⟨b,6,none⟩ (.int .i64 0)).setCell ⟨b,7,none⟩ (.int .i64 0)).setCell ⟨b,8,none⟩ (.int .i64 0)).setCell ⟨b,9,none⟩ (.int .i64 0)) b z1u:=
 opBlk.set (o:=z1u) h z1u
set_option maxHeartbeats 1000000 in
theorem zC5 (d:Array Value)(W:World)(b:Nat)(o:OpV)(r:Int)(j:d[6]?.getD undef=.pointer (some ⟨b,0,none⟩))(m:d[7]?.getD undef=.int .i64 r)(a:opBlk W b o):
 (results Tryz.f26 d).run Tryz.prog W=.ok (.tuple #[zWb o,.int .i64 r]) W:=by
 have c0:W.cell? ⟨b,0,none⟩=some (.int .i64 o.id):=by rw[zBk a];rfl
 have c1:W.cell? ⟨b,1,none⟩=some (.int .i64 o.cl):=by rw[zBk a];rfl
 have h:W.cell? ⟨b,2,none⟩=some (.string ⟨o.name.toArray⟩):=by rw[zBk a];rfl
 have i:W.cell? ⟨b,3,none⟩=some (.string ⟨o.key.toArray⟩):=by rw[zBk a];rfl
 have e:W.cell? ⟨b,4,none⟩=some (.int .i64 o.arg):=by rw[zBk a];rfl
 have k:W.cell? ⟨b,5,none⟩=some (.int .i64 o.exp):=by rw[zBk a];rfl
 have l:W.cell? ⟨b,6,none⟩=some (.int .i64 o.call):=by rw[zBk a];rfl
 have n:W.cell? ⟨b,7,none⟩=some (.int .i64 o.ret):=by rw[zBk a];rfl
 have p:W.cell? ⟨b,8,none⟩=some (.int .i64 o.vk):=by rw[zBk a];rfl
 have g:W.cell? ⟨b,9,none⟩=some (.int .i64 o.vn):=by rw[zBk a];rfl
 simp[results,Tryz.results26,go_sem,zWb,j,m,c0,c1,h,i,e,k,l,n,p,g]
theorem zRw {B b:Nat}{w W:World}(h:Below B w W)(a:B≤b)(k m e i n j o d l g:Value):Below B w ((((((((((W.setCell ⟨b,0,none⟩ k).setCell ⟨b,1,none⟩ m).setCell ⟨b,2,none⟩ e).setCell ⟨b,3,none⟩ i).setCell ⟨b,4,none⟩ n).setCell ⟨b,5,none⟩ j).setCell ⟨b,6,none⟩ o).setCell ⟨b,7,none⟩ d).setCell ⟨b,8,none⟩ l).setCell ⟨b,9,none⟩ g):=((((((((((h.setCell (p:=⟨b,0,none⟩) a k).setCell (p:=⟨b,1,none⟩) a m).setCell (p:=⟨b,2,none⟩) a e).setCell (p:=⟨b,3,none⟩) a i).setCell (p:=⟨b,4,none⟩) a n).setCell (p:=⟨b,5,none⟩) a j).setCell (p:=⟨b,6,none⟩) a o).setCell (p:=⟨b,7,none⟩) a d).setCell (p:=⟨b,8,none⟩) a l).setCell (p:=⟨b,9,none⟩) a g)
end Go.Proofs.YtoeoinpaidhmcaaGreatDoor
