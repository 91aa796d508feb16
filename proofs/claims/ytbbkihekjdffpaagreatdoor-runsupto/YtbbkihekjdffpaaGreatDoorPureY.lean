/- Several texts in one. -/
import Derived.Test.YtbbkihekjdffpaaGreatDoorRefP
namespace Go.Proofs.YtbbkihekjdffpaaGreatDoor
open Go.RowKit
theorem zgj (n:Nat):∀(mid:List Pc) (acc:List RM),mid.length≤n→zfp acc mid=(zfp [] mid).map (acc++·):=by
 induction n with
 |zero=>intro mid acc h;have:mid=[]:=List.length_eq_zero_iff.1 (by omega);subst this;simp[zfp]
 |succ n ih=>
   intro mid acc h
   match mid with
   | []=>simp[zfp]
   | [a]=>simp[zfp]
   | [a,b]=>simp[zfp]
   | [a,b,c]=>rw[zfp,zfp];split<;>simp
   |a::b::c::d::rest=>
     rw[zfp,zfp];split
     ·simp only [List.length_cons]at h;rw[ih rest (acc++[mkRM a c]) (by omega),ih rest ([]++[mkRM a c]) (by omega)];cases zfp [] rest<;>simp
     ·rfl
theorem z6Q (n:Nat):∀(mid:List Pc) (e:Pc),mid.length≤n→T (mid++[e])=if e.1=125∧mid.length%4=3 then zfp [] mid else none:=by
 induction n with
 |zero=>intro mid e h;have:mid=[]:=List.length_eq_zero_iff.1 (by omega);subst this;rw[if_neg (by simp)];rfl
 |succ n ih=>
   intro mid e h
   match mid with
   | []=>rw[if_neg (by simp)];rfl
   | [a]=>rw[if_neg (by simp)];rfl
   | [a,b]=>rw[if_neg (by simp)];rfl
   | [a,b,c]=>
     have e1:T [a,b,c,e]=if(valP c).2.2.2=true∧a.1=34∧b.1=58 then(if e.1=125∧([]:List Pc)=[]then some [mkRM a c]else if e.1=44 then(T []).map (mkRM a c::·)else none)else none:=by rw[T]
     have e2:zfp [] [a,b,c]=if(valP c).2.2.2=true∧a.1=34∧b.1=58 then some [mkRM a c]else none:=by rw[zfp];rfl
     show T [a,b,c,e]=_;rw[e1,e2];have h3:[a,b,c].length%4=3:=rfl;by_cases hok:(valP c).2.2.2=true∧a.1=34∧b.1=58
     ·simp only [if_pos hok];by_cases he:e.1=125
      ·simp only [he,h3,and_self,if_true]
      ·rw[if_neg (fun h=>he h.1)];rw[if_neg (show ¬(e.1=125∧[a,b,c].length%4=3)from fun h=>he h.1)];by_cases h44:e.1=44
       ·rw[if_pos h44];rfl
       ·rw[if_neg h44]
     ·simp only [if_neg hok];by_cases hq:e.1=125∧[a,b,c].length%4=3
      ·rw[if_pos hq]
      ·rw[if_neg hq]
   |a::b::c::d::rest=>
     simp only [List.length_cons]at h;have e1:T (a::b::c::d::(rest++[e]))=if(valP c).2.2.2=true∧a.1=34∧b.1=58 then(if d.1=125∧rest++[e]=[]then some [mkRM a c]else if d.1=44 then(T (rest++[e])).map (mkRM a c::·)else none)else none:=by rw[T]
     have e2:zfp [] (a::b::c::d::rest)=if(valP c).2.2.2=true∧a.1=34∧b.1=58∧d.1=44 then(zfp [] rest).map ([mkRM a c]++·)else none:=by
      rw[zfp,zgj _ rest ([]++[mkRM a c]) zG];rfl
     have hl:(a::b::c::d::rest).length%4=rest.length%4:=(by simp only [List.length_cons];omega);show T (a::b::c::d::(rest++[e]))=_;rw[e1,e2,hl,ih rest e (by omega)];by_cases hok:(valP c).2.2.2=true∧a.1=34∧b.1=58
     ·simp only [if_pos hok];rw[if_neg (show ¬(d.1=125∧rest++[e]=[]) by simp)];by_cases hd:d.1=44
      ·simp only [if_pos hd,if_pos (show(valP c).2.2.2=true∧a.1=34∧b.1=58∧d.1=44 from⟨hok.1,hok.2.1,hok.2.2,hd⟩)];by_cases hq:e.1=125∧rest.length%4=3
       ·simp only [if_pos hq];rfl
       ·simp only [if_neg hq];rfl
      ·simp only [if_neg hd,if_neg (show ¬((valP c).2.2.2=true∧a.1=34∧b.1=58∧d.1=44)from fun h=>hd h.2.2.2)];by_cases hq:e.1=125∧rest.length%4=3
       ·rw[if_pos hq]
       ·rw[if_neg hq]
     ·simp only [if_neg hok,if_neg (show ¬((valP c).2.2.2=true∧a.1=34∧b.1=58∧d.1=44)from fun h=>hok ⟨h.1,h.2.1,h.2.2.1⟩)];by_cases hq:e.1=125∧rest.length%4=3
      ·rw[if_pos hq]
      ·rw[if_neg hq]
theorem zeZ (ps:List Pc):objI ps=objT ps:=by
 cases ps with
 |nil=>rfl
 |cons p r=>
   by_cases hr:r=[]
   ·subst hr;have e1:objI [p]=none:=(by unfold objI;rw[if_pos (by simp)]);have e2:objT [p]=none:=by
     show(if p.1=123 then(if([]:List Pc).map (·.1)=[125]then some []else T [])else none)=none;rw[if_neg (show ¬(([]:List Pc).map (·.1)=[125]) by simp)];split<;>rfl
    rw[e1,e2]
   ·obtain⟨mid,e,rfl⟩:∃mid e,r=mid++[e]:=⟨r.dropLast,r.getLast hr,(List.dropLast_concat_getLast hr).symm⟩;have hlen:(p::(mid++[e])).length=mid.length+2:=(by simp);have hmid:zTi (p::(mid++[e]))=mid:=(by unfold zTi;rw[hlen];simp);have hlast:(((p::(mid++[e])).drop ((p::(mid++[e])).length-1)).headD (0,[]))=e:=(by rw[hlen];simp);have eT:objT (p::(mid++[e]))=if p.1=123 then(if(mid++[e]).map (·.1)=[125]then some []else T (mid++[e]))else none:=rfl
    rw[eT];unfold objI;rw[hmid,hlast,hlen,if_neg (by omega),z6Q _ mid e zG];simp only [List.headD_cons,Nat.add_sub_cancel];by_cases hp:p.1=123
    ·rw[if_neg (fun h=>h hp),if_pos hp];by_cases he:e.1=125
     ·rw[if_neg (fun h=>h he)];by_cases hm:mid=[]
      ·subst hm;rw[if_pos (by simp),if_pos (by simp[he])]
      ·have hml:0<mid.length:=List.length_pos_iff.2 hm;have hnm:¬((mid++[e]).map (·.1)=[125]):=(by intro h;have:=congrArg List.length h;rw[List.length_map,zI]at this;simp only [List.length_cons,List.length_nil]at this;omega);rw[if_neg (show ¬(mid.length+2=2) by omega)];rw[if_neg hnm];by_cases h3:mid.length%4=3
       ·rw[if_neg (show ¬(mid.length%4≠3)from fun h=>h h3),if_pos ⟨he,h3⟩]
       ·rw[if_pos (show mid.length%4≠3 from h3),if_neg (fun h=>h3 h.2)]
     ·rw[if_pos he,if_neg (by
       intro h;have h1:(mid++[e]).map (·.1)=[125]:=h;rw[List.map_append]at h1;have h2:=congrArg List.getLast? h1;simp at h2;exact he h2),if_neg (fun h=>he h.1)]
    ·rw[if_pos hp,if_neg hp]
theorem zaJ (s:ByteArray):zIo s=((zvF (lets s)).bind objI).map (List.map znV):=by
 rw[zVI,show objI=objT from funext zeZ]
def cnt (nm:List UInt8)(ms:List RM):Nat:=(ms.filter (fun m=>m.1==nm)).length
theorem zFN (nm:List UInt8)(ms:List RM):∀(m:RM) (n:Nat),(memR nm m n ms).2=n+cnt nm ms:=by
 induction ms with
 |nil=>intro m n;simp[memR,cnt]
 |cons x r ih=>
   intro m n;unfold memR cnt;by_cases h:x.1=nm
   ·rw[if_pos h,ih,List.filter_cons_of_pos (by simp[h])];simp[cnt];omega
   ·rw[if_neg h,ih,List.filter_cons_of_neg (by simp[h])];rfl
theorem zeh (nm:List UInt8)(ms:List RM):z8R (ms.map znV) nm=(ms.find? (fun m=>m.1==nm)).map znV:=by
 unfold z8R;rw[List.find?_map];rfl
theorem cnt_zero {nm:List UInt8}{ms:List RM}:cnt nm ms=0↔ms.find? (fun m=>m.1==nm)=none:=by
 unfold cnt;rw[List.length_eq_zero_iff,List.filter_eq_nil_iff,List.find?_eq_none]
theorem zPc {nm:List UInt8}{ms:List RM}(h:cnt nm ms=0)(m:RM)(n:Nat):memR nm m n ms=(m,n):=by
 induction ms generalizing m n with
 |nil=>rfl
 |cons x r ih=>
   have hx:¬x.1=nm:=by
    intro e;unfold cnt at h;rw[List.filter_cons_of_pos (by simp[e])]at h;simp at h
   unfold memR;rw[if_neg hx];exact ih (by unfold cnt at h⊢;rw[List.filter_cons_of_neg (by simp[hx])]at h;exact h) m n
theorem zit {nm:List UInt8}{ms:List RM}(h:cnt nm ms≤1){x:RM}(hx:ms.find? (fun m=>m.1==nm)=some x)(m:RM)(n:Nat):memR nm m n ms=(x,n+1):=by
 induction ms generalizing m n with
 |nil=>cases hx
 |cons y r ih=>
   by_cases hy:y.1=nm
   ·rw[List.find?_cons_of_pos (by simp[hy])]at hx;injection hx with hx;subst hx;unfold memR;rw[if_pos hy];apply zPc;unfold cnt at h⊢;rw[List.filter_cons_of_pos (by simp[hy])]at h;simp at h;simpa using h
   ·rw[List.find?_cons_of_neg (by simp[hy])]at hx;unfold memR;rw[if_neg hy];exact ih (by unfold cnt at h⊢;rw[List.filter_cons_of_neg (by simp[hy])]at h;exact h) hx m n
def nodup (ms:List RM):Prop:=∀nm,cnt nm ms≤1
theorem zZq (ms:List RM):za6 (ms.map znV)=true↔nodup ms:=by
 induction ms with
 |nil=>simp[za6,nodup,cnt]
 |cons x r ih=>
   rw[List.map_cons,za6,Bool.and_eq_true,ih];have e:(znV x).1=x.1:=rfl;rw[e,zeh];constructor
   ·rintro⟨h1,h2⟩ nm;have h1':cnt x.1 r=0:=by
     rw[cnt_zero];cases hf:r.find? (fun m=>m.1==x.1)with
     |none=>rfl
     |some y=>rw[hf]at h1;simp at h1
    by_cases hx:x.1=nm
    ·unfold cnt;rw[List.filter_cons_of_pos (by simp[hx])];subst hx;unfold cnt at h1';simp[h1']
    ·have:=h2 nm;unfold cnt at this⊢;rw[List.filter_cons_of_neg (by simp[hx])];exact this
   ·intro h;constructor
    ·have:=h x.1;have h1':cnt x.1 r=0:=by
      unfold cnt at this⊢;rw[List.filter_cons_of_pos (by simp)]at this;simp at this⊢;exact this
     rw[cnt_zero]at h1';rw[h1'];rfl
    ·intro nm;have:=h nm;unfold cnt at this⊢;by_cases hx:x.1=nm
     ·rw[List.filter_cons_of_pos (by simp[hx]),List.length_cons]at this;omega
     ·rw[List.filter_cons_of_neg (by simp[hx])]at this;exact this
theorem zzB (ms:List RM):∀l:List RM,repR ms l=false↔∀x∈l,cnt x.1 ms≤1:=by
 intro l
 induction l with
 |nil=>simp[repR]
 |cons x r ih=>
   unfold repR;rw[zFN];by_cases h:1<0+cnt x.1 ms
   ·rw[if_pos h];constructor
    ·intro hh;cases hh
    ·intro hh;have:=hh x (by simp);omega
   ·rw[if_neg h,ih];constructor
    ·intro hh y hy;rcases List.mem_cons.1 hy with rfl|hy
     ·omega
     ·exact hh y hy
    ·intro hh y hy;exact hh y (by simp[hy])
theorem zCu (ms:List RM):repR ms ms=!za6 (ms.map znV):=by
 have h1:=zzB ms ms;have h2:=zZq ms;have h3:(∀x∈ms,cnt x.1 ms≤1)↔nodup ms:=by
  constructor
  ·intro h nm;by_cases hz:cnt nm ms=0
   ·omega
   ·have:∃x,ms.find? (fun m=>m.1==nm)=some x:=by
     cases hf:ms.find? (fun m=>m.1==nm)with
     |none=>exact absurd (cnt_zero.2 hf) hz
     |some x=>exact⟨x,rfl⟩
    obtain⟨x,hx⟩:=this;have hm:=List.mem_of_find?_eq_some hx;have hn:=List.find?_some hx;simp at hn;rw[←hn];exact h x hm
  ·intro h x _;exact h x.1
 cases hr:repR ms ms with
 |false=>rw[h2.2 (h3.1 (h1.1 hr))];rfl
 |true=>
   cases hn:za6 (ms.map znV)with
   |false=>rfl
   |true=>have:=h1.2 (h3.2 (h2.1 hn));rw[hr]at this;cases this
theorem zJz (c:Bool)(ms:List RM):∀n,fitsR c n ms≤n+ms.length∧(fitsR c n ms=n+ms.length↔∀m∈ms,fitP m.1 m.2.1 c=true):=by
 induction ms with
 |nil=>intro n;simp[fitsR]
 |cons x r ih=>
   intro n;unfold fitsR;by_cases h:fitP x.1 x.2.1 c=true
   ·rw[if_pos h];have:=ih (n+1);simp only [List.length_cons];refine⟨by omega,?_⟩;rw[show n+(r.length+1)=n+1+r.length by omega,this.2];constructor
    ·intro hh m hm;rcases List.mem_cons.1 hm with rfl|hm
     ·exact h
     ·exact hh m hm
    ·intro hh m hm;exact hh m (by simp[hm])
   ·rw[if_neg h];have:=ih n;simp only [List.length_cons];refine⟨by omega,?_⟩;constructor
    ·intro hh;omega
    ·intro hh;exact absurd (hh x (by simp)) h
theorem ztJ (c:Bool)(ms:List RM):¬(fitsR c 0 ms<ms.length)↔∀m∈ms,fitP m.1 m.2.1 c=true:=by
 have:=zJz c ms 0;rw[←this.2];omega
def zwM (ms:List Mem)(s:Slot):Prop:=match z8R ms s.1 with
 |none=>s.2.1=false
 |some m=>s.2.2.contains m.2.1=true
def zIc (ms:List Mem):List Slot→Nat
 | []=>0
 |s::r=>(if(z8R ms s.1).isSome then 1 else 0)+zIc ms r
theorem zA5 (ms:List Mem):∀(sl:List Slot) (k n:Nat),zmy ms sl k=some n↔(∀s∈sl,zwM ms s)∧n=k+zIc ms sl:=by
 intro sl
 induction sl with
 |nil=>intro k n;simp[zmy,zIc,eq_comm]
 |cons s r ih=>
   intro k n;unfold zmy zIc;have hall:(∀x∈s::r,zwM ms x)↔zwM ms s∧∀x∈r,zwM ms x:=(by simp);rw[hall];cases hf:z8R ms s.1 with
   |none=>
     have hs:zwM ms s↔s.2.1=false:=(by unfold zwM;rw[hf]);dsimp only;rw[hs];by_cases hq:s.2.1=true
     ·rw[if_pos hq];constructor
      ·intro h;cases h
      ·intro h;rw[hq]at h;cases h.1.1
     ·rw[if_neg hq,ih];have hq':s.2.1=false:=(by simpa using hq);simp[hq']
   |some m=>
     have hs:zwM ms s↔s.2.2.contains m.2.1=true:=(by unfold zwM;rw[hf]);dsimp only;rw[hs];by_cases hq:s.2.2.contains m.2.1=true
     ·rw[if_pos hq,ih];simp only [hq,true_and,Option.isSome_some,if_true];constructor
      ·rintro⟨a,b⟩;exact⟨a,by omega⟩
      ·rintro⟨a,b⟩;exact⟨a,by omega⟩
     ·rw[if_neg hq];constructor
      ·intro h;cases h
      ·intro h;exact absurd h.1.1 hq
theorem zoh (ms:List Mem)(sl:List Slot):z5q ms sl=true↔(∀s∈sl,zwM ms s)∧zIc ms sl=ms.length:=by
 unfold z5q;cases hf:zmy ms sl 0 with
 |none=>
   constructor
   ·intro h;cases h
   ·rintro⟨a,b⟩;have:=(zA5 ms sl 0 (0+zIc ms sl)).2 ⟨a,rfl⟩;rw[hf]at this;cases this
 |some n=>
   have:=(zA5 ms sl 0 n).1 hf;dsimp only;rw[beq_iff_eq];constructor
   ·intro h;exact⟨this.1,by omega⟩
   ·rintro⟨a,b⟩;omega
theorem ztO {nm:List UInt8}{ms:List RM}(h:nodup ms):(if(z8R (ms.map znV) nm).isSome then 1 else 0)=cnt nm ms:=by
 rw[zeh];cases hf:ms.find? (fun m=>m.1==nm)with
 |none=>simp[cnt_zero.2 hf]
 |some x=>
   have h1:=h nm;have h2:cnt nm ms≠0:=fun e=>(by rw[cnt_zero.1 e]at hf;cases hf);simp;omega
theorem zBa (nm:List UInt8)(x:RM)(r:List RM):cnt nm (x::r)=(if x.1=nm then 1 else 0)+cnt nm r:=by
 unfold cnt;by_cases h:x.1=nm
 ·rw[List.filter_cons_of_pos (by simp[h]),if_pos h];simp;omega
 ·rw[List.filter_cons_of_neg (by simp[h]),if_neg h];simp
theorem zlX {ms:List RM}(h:nodup ms){m:RM}(hm:m∈ms):ms.find? (fun x=>x.1==m.1)=some m:=by
 induction ms with
 |nil=>cases hm
 |cons x r ih=>
   have hr:nodup r:=fun nm=>(by have:=h nm;rw[zBa]at this;omega);rcases List.mem_cons.1 hm with rfl|hm
   ·rw[List.find?_cons_of_pos (by simp)]
   ·by_cases hx:x.1=m.1
    ·have h1:=h m.1;rw[zBa,if_pos hx]at h1;have h2:cnt m.1 r=0:=(by omega);rw[cnt_zero,List.find?_eq_none]at h2;exact absurd (by simp) (h2 m hm)
    ·rw[List.find?_cons_of_neg (by simp[hx])];exact ih hr hm
theorem z5Q {ms:List RM}(h:nodup ms):∀sl:List Slot,zIc (ms.map znV) sl=(sl.map (fun s=>cnt s.1 ms)).sum:=by
 intro sl
 induction sl with
 |nil=>rfl
 |cons s r ih=>unfold zIc;rw[ih,ztO h];simp
theorem z3U (sl:List Slot)(hd:(sl.map (·.1)).Nodup)(ms:List RM):(sl.map (fun s=>cnt s.1 ms)).sum≤ms.length∧((sl.map (fun s=>cnt s.1 ms)).sum=ms.length↔∀m∈ms,m.1∈sl.map (·.1)):=by
 have one:∀(sl:List Slot) (x:RM),(sl.map (·.1)).Nodup→(sl.map (fun s=>if x.1=s.1 then 1 else 0)).sum=if x.1∈sl.map (·.1)then 1 else 0:=by
  intro sl x
  induction sl with
  |nil=>simp
  |cons s r ih=>
    intro hd;simp only [List.map_cons,List.nodup_cons]at hd;simp only [List.map_cons,List.sum_cons,List.mem_cons];rw[ih hd.2];by_cases hx:x.1=s.1
    ·rw[if_pos hx,if_neg (by rw[hx];exact hd.1),if_pos (Or.inl hx)]
    ·rw[if_neg hx,Nat.zero_add];by_cases hm:x.1∈r.map (·.1)
     ·rw[if_pos hm,if_pos (Or.inr hm)]
     ·rw[if_neg hm,if_neg (fun hh=>hh.elim hx hm)]
 have add:∀(sl:List Slot) (f g:Slot→Nat),(sl.map (fun s=>f s+g s)).sum=(sl.map f).sum+(sl.map g).sum:=by
  intro sl f g
  induction sl with
  |nil=>rfl
  |cons s r ih=>simp only [List.map_cons,List.sum_cons,ih];omega
 induction ms with
 |nil=>
   have:(sl.map (fun s=>cnt s.1 [])).sum=0:=by
    clear hd
    induction sl with
    |nil=>rfl
    |cons s r ih=>simp only [List.map_cons,List.sum_cons,ih];rfl
   simp[this]
 |cons x r ih=>
   have e:(sl.map (fun s=>cnt s.1 (x::r))).sum=(if x.1∈sl.map (·.1)then 1 else 0)+(sl.map (fun s=>cnt s.1 r)).sum:=by
    rw[←one sl x hd,←add];congr 1;apply List.map_congr_left;intro s _;exact zBa _ _ _
   rw[e];by_cases hx:x.1∈sl.map (·.1)
   ·rw[if_pos hx];refine⟨by simp only [List.length_cons];omega,?_⟩;rw[show(1+(sl.map (fun s=>cnt s.1 r)).sum=(x::r).length)↔((sl.map (fun s=>cnt s.1 r)).sum=r.length) by simp only [List.length_cons];omega,ih.2];constructor
    ·intro hh m hm;rcases List.mem_cons.1 hm with rfl|hm
     ·exact hx
     ·exact hh m hm
    ·intro hh m hm;exact hh m (by simp[hm])
   ·rw[if_neg hx];refine⟨by simp only [List.length_cons];omega,?_⟩;constructor
    ·intro hh;simp only [List.length_cons]at hh;omega
    ·intro hh;exact absurd (hh x (by simp)) hx
theorem z2e {sl:List Slot}(hnd:(sl.map (·.1)).Nodup){s s':Slot}(hs:s∈sl)(hs':s'∈sl)(e1:s'.1=s.1):s'=s:=by
 induction sl with
 |nil=>cases hs
 |cons a r ih=>
   simp only [List.map_cons,List.nodup_cons]at hnd;rcases List.mem_cons.1 hs with h1|h1
   ·rcases List.mem_cons.1 hs' with h2|h2
    ·rw[h1,h2]
    ·exact absurd (List.mem_map.2 ⟨s',h2,by rw[e1,h1]⟩) hnd.1
   ·rcases List.mem_cons.1 hs' with h2|h2
    ·exact absurd (List.mem_map.2 ⟨s,h1,by rw[←e1,h2]⟩) hnd.1
    ·exact ih hnd.2 h1 h2
theorem zDa {ms:List RM} (h:nodup ms) (sl:List Slot) (hd:(sl.map (·.1)).Nodup) (c:Bool)
 (hfit:∀(nm:List UInt8) (k:Nat),fitP nm k c=true↔∃s∈sl,s.1=nm∧s.2.2.contains (zWC k)=true):
 z5q (ms.map znV) sl=true↔(∀m∈ms,fitP m.1 m.2.1 c=true)∧∀s∈sl,s.2.1=true→cnt s.1 ms≠0:=by
 rw[zoh,z5Q h,List.length_map,(z3U sl hd ms).2];constructor
 ·rintro⟨h1,h2⟩;constructor
  ·intro m hm;rw[hfit];obtain⟨s,hs,hsn⟩:=List.mem_map.1 (h2 m hm);refine⟨s,hs,hsn,?_⟩;have:=h1 s hs;unfold zwM at this;rw[zeh,hsn,zlX h hm]at this;exact this
  ·intro s hs hreq hz;have:=h1 s hs;unfold zwM at this;rw[zeh,cnt_zero.1 hz]at this;rw[hreq]at this;cases this
 ·rintro⟨h1,h2⟩;constructor
  ·intro s hs;unfold zwM;rw[zeh];cases hf:ms.find? (fun m=>m.1==s.1)with
   |none=>
     show s.2.1=false;cases hq:s.2.1 with
     |false=>rfl
     |true=>exact absurd (cnt_zero.2 hf) (h2 s hs hq)
   |some x=>
     show s.2.2.contains (znV x).2.1=true;have hx:=h1 x (List.mem_of_find?_eq_some hf);have hn:=List.find?_some hf;simp at hn;obtain⟨s',hs',hn',hc'⟩:=(hfit _ _).1 hx;have:s'=s:=z2e hd hs hs' (by rw[hn',hn]);rw[←this];exact hc'
  ·intro m hm;obtain⟨s,hs,hn,_⟩:=(hfit _ _).1 (h1 m hm);exact List.mem_map.2 ⟨s,hs,hn⟩
theorem kp1 (k:Nat):([1]:List Int).contains (zWC k)=true↔k=105:=by
 unfold zWC;(repeat' split)<;>simp<;>omega
theorem kp3 (k:Nat):([3]:List Int).contains (zWC k)=true↔k=115:=by
 unfold zWC;(repeat' split)<;>simp<;>omega
theorem zaz (k:Nat):([0,1,2]:List Int).contains (zWC k)=true↔k≠115:=by
 unfold zWC;(repeat' split)<;>simp<;>omega
theorem zvh (nm:List UInt8)(k:Nat):fitP nm k true=true↔∃s∈callSlots,s.1=nm∧s.2.2.contains (zWC k)=true:=by
 unfold callSlots;simp only [List.mem_cons,List.not_mem_nil,or_false,exists_eq_or_imp,exists_eq_left,kp1,kp3];unfold fitP;by_cases h1:nm=[99,97,108,108]
 ·subst h1;simp;omega
 ·by_cases h2:nm=[98,121]
  ·subst h2;simp;omega
  ·by_cases h3:nm=[97,114,103]
   ·subst h3;simp;omega
   ·by_cases h4:nm=[101,120,112]
    ·subst h4;simp;omega
    ·by_cases h5:nm=[111,112]
     ·subst h5;simp;omega
     ·by_cases h6:nm=[107,101,121]
      ·subst h6;simp;omega
      ·simp only [beq_iff_eq,h1,h2,h3,h4,h5,h6,if_false,Bool.not_true,Bool.false_and];have e:∀(x:List UInt8),(x=nm)=(nm=x):=fun x=>propext eq_comm;simp[e,h1,h2,h3,h4,h5,h6]
theorem zPj (nm:List UInt8)(k:Nat):fitP nm k false=true↔∃s∈retSlots,s.1=nm∧s.2.2.contains (zWC k)=true:=by
 unfold retSlots;simp only [List.mem_cons,List.not_mem_nil,or_false,exists_eq_or_imp,exists_eq_left,kp1,zaz];unfold fitP;by_cases h1:nm=[114,101,116]
 ·subst h1;simp;omega
 ·by_cases h2:nm=[118,97,108]
  ·subst h2;simp;omega
  ·have e:∀(x:List UInt8),(x=nm)=(nm=x):=fun x=>propext eq_comm;simp[e,h1,h2]
theorem zNl {ms:List RM}(h:nodup ms):z5q (ms.map znV) callSlots=true↔(∀m∈ms,fitP m.1 m.2.1 true=true)∧cnt z3k ms≠0∧cnt sBy ms≠0∧cnt sOp ms≠0:=by
 rw[zDa h callSlots (by decide) true zvh];simp[callSlots,z3k,sBy,sOp]
theorem zMF {ms:List RM}(h:nodup ms):z5q (ms.map znV) retSlots=true↔(∀m∈ms,fitP m.1 m.2.1 false=true)∧cnt sRet ms≠0∧cnt sVal ms≠0:=by
 rw[zDa h retSlots (by decide) false zPj];simp[retSlots,sRet,sVal]
def ndS (n:Int):List UInt8:=if n=0 then []else if n=2 then [97]else if n=6 then [97,101]else if n=1 then [107]else [107,97]
def gvS (n:Int):List UInt8:=if n=2 then [105]else if n=1 then [110]else if n=4 then [98]else [105,110]
theorem zvT {m:List UInt8}(h:zOI m opTab=true):m=sReg∨m=sKv∨m=zsK∨m=sSet∨m=zyy:=by
 unfold zOI at h;rw[List.any_eq_true]at h;obtain⟨o,ho,he⟩:=h;rw[beq_iff_eq]at he;unfold opTab at ho;simp only [List.mem_cons,List.not_mem_nil,or_false]at ho;rcases ho with h|h|h|h|h|h|h|h|h|h|h|h|h<;>subst h<;>subst he<;>simp
theorem zrg (m:List UInt8):z3t m modTab=zOI m opTab:=by
 rw[Bool.eq_iff_iff];constructor
 ·intro h;simp[z3t,modTab]at h;rcases h with h|h|h|h|h<;>subst h<;>decide
 ·intro h;rcases zvT h with rfl|rfl|rfl|rfl|rfl<;>decide
theorem zww {m:List UInt8}(h:zOI m opTab=true)(n:List UInt8):
 zyw (m++[32]++n)=match zco m n opTab with|none=>([],[],false)|some r=>(ndS r.2.2.1,gvS r.2.2.2,true):=by
 rcases zvT h with rfl|rfl|rfl|rfl|rfl
 ·by_cases h1:n=[114,101,97,100]
  ·subst h1;rfl
  ·by_cases h2:n=[119,114,105,116,101]
   ·subst h2;rfl
   ·by_cases h3:n=[99,97,115]
    ·subst h3;rfl
    ·have e:∀(x:List UInt8),(x=n)=(n=x):=fun x=>propext eq_comm;simp[zyw,zco,opTab,sReg,sKv,zsK,sSet,zyy,h1,h2,h3,e]
 ·by_cases h1:n=[103,101,116]
  ·subst h1;rfl
  ·by_cases h2:n=[112,117,116]
   ·subst h2;rfl
   ·by_cases h3:n=[100,101,108]
    ·subst h3;rfl
    ·have e:∀(x:List UInt8),(x=n)=(n=x):=fun x=>propext eq_comm;simp[zyw,zco,opTab,sReg,sKv,zsK,sSet,zyy,h1,h2,h3,e]
 ·by_cases h1:n=[101,110,113]
  ·subst h1;rfl
  ·by_cases h2:n=[100,101,113]
   ·subst h2;rfl
   ·have e:∀(x:List UInt8),(x=n)=(n=x):=fun x=>propext eq_comm;simp[zyw,zco,opTab,sReg,sKv,zsK,sSet,zyy,h1,h2,e]
 ·by_cases h1:n=[97,100,100]
  ·subst h1;rfl
  ·by_cases h2:n=[114,101,109]
   ·subst h2;rfl
   ·by_cases h3:n=[104,97,115]
    ·subst h3;rfl
    ·have e:∀(x:List UInt8),(x=n)=(n=x):=fun x=>propext eq_comm;simp[zyw,zco,opTab,sReg,sKv,zsK,sSet,zyy,h1,h2,h3,e]
 ·by_cases h1:n=[97,99,113]
  ·subst h1;rfl
  ·by_cases h2:n=[114,101,108]
   ·subst h2;rfl
   ·have e:∀(x:List UInt8),(x=n)=(n=x):=fun x=>propext eq_comm;simp[zyw,zco,opTab,sReg,sKv,zsK,sSet,zyy,h1,h2,e]
theorem zoo {m n:List UInt8}{r:zqk}(h:zco m n opTab=some r):(r.2.2.1=0∨r.2.2.1=1∨r.2.2.1=2∨r.2.2.1=3∨r.2.2.1=6)∧(r.2.2.2=1∨r.2.2.2=2∨r.2.2.2=3∨r.2.2.2=4):=by
 have hm:=List.mem_of_find?_eq_some h;unfold opTab at hm;simp at hm;rcases hm with h|h|h|h|h|h|h|h|h|h|h|h|h<;>subst h<;>decide
def cR (nm:List UInt8)(ms:List RM):RM×Nat:=memR nm zB6 0 ms
theorem zra (nm:List UInt8)(ms:List RM):(cR nm ms).2=cnt nm ms:=by unfold cR;rw[zFN];omega
theorem zJD {ms:List RM}(h:nodup ms)(nm:List UInt8):(cR nm ms).1=(ms.find? (fun m=>m.1==nm)).getD zB6:=by
 unfold cR;cases hf:ms.find? (fun m=>m.1==nm)with
 |none=>rw[zPc (cnt_zero.2 hf)];rfl
 |some x=>rw[zit (h nm) hf];rfl
theorem z2i {ms:List RM}(h:nodup ms)(nm:List UInt8):zbh (ms.map znV) nm=(cR nm ms).1.2.2.1:=by
 unfold zbh;rw[zeh,zJD h];cases ms.find? (fun m=>m.1==nm)<;>rfl
theorem z9e {ms:List RM}(h:nodup ms)(nm:List UInt8)(hk:∀m∈ms,m.1=nm→m.2.1≠116):zqd (ms.map znV) nm=(cR nm ms).1.2.2.2:=by
 unfold zqd;rw[zeh,zJD h];cases hf:ms.find? (fun m=>m.1==nm)with
 |none=>rfl
 |some x=>
   have h1:=List.mem_of_find?_eq_some hf;have h2:=List.find?_some hf;simp at h2;show(if x.2.1=116 then 1 else x.2.2.2)=x.2.2.2;rw[if_neg (hk x h1 h2)]
theorem zRq {ms:List RM}(nm:List UInt8):(z8R (ms.map znV) nm).isSome=decide (0<cnt nm ms):=by
 rw[zeh];cases hf:ms.find? (fun m=>m.1==nm)with
 |none=>simp[cnt_zero.2 hf]
 |some x=>
   have h2:cnt nm ms≠0:=fun e=>(by rw[cnt_zero.1 e]at hf;cases hf);simp;omega
theorem zMW {nm:List UInt8}{k:Nat}(hn:nm=z3k∨nm=sBy∨nm=sArg∨nm=sExp)(h:fitP nm k true=true):k=105:=by
 rw[zvh]at h;obtain⟨s,hs,h1,h2⟩:=h;unfold callSlots at hs;simp only [List.mem_cons,List.not_mem_nil,or_false]at hs;rcases hs with rfl|rfl|rfl|rfl|rfl|rfl
 ·exact(kp1 k).1 h2
 ·exact(kp1 k).1 h2
 ·exfalso;rcases hn with rfl|rfl|rfl|rfl<;>revert h1<;>decide
 ·exfalso;rcases hn with rfl|rfl|rfl|rfl<;>revert h1<;>decide
 ·exact(kp1 k).1 h2
 ·exact(kp1 k).1 h2
def zPn (model:List UInt8)(ms:List RM):Bool:=
 (zyw (model++[32]++(cR sOp ms).1.2.2.1)).2.2&&
 (hasP 107 (nats (zyw (model++[32]++(cR sOp ms).1.2.2.1)).1)==decide (0<(cR sKey ms).2))&&
 (hasP 97 (nats (zyw (model++[32]++(cR sOp ms).1.2.2.1)).1)==decide (0<(cR sArg ms).2))&&
 (hasP 101 (nats (zyw (model++[32]++(cR sOp ms).1.2.2.1)).1)==decide (0<(cR sExp ms).2))
def zjv (model:List UInt8)(ms:List RM)(ahead:List OpV):Int×Option OpV:=
 if fitsR true 0 ms<ms.length∨(cR sBy ms).2=0∨(cR sOp ms).2=0 then(3,none)
 else if zPn model ms=false then(4,none)
 else if ahead.any (fun o=>o.id==(cR z3k ms).1.2.2.2)=true then(5,none)
 else if ahead.any (fun o=>o.cl==(cR sBy ms).1.2.2.2&&o.ret==0)=true then(6,none)
 else(0,some ⟨(cR z3k ms).1.2.2.2,(cR sBy ms).1.2.2.2,(cR sOp ms).1.2.2.1,(cR sKey ms).1.2.2.1,(cR sArg ms).1.2.2.2,(cR sExp ms).1.2.2.2,0,0,0,0⟩)
theorem zfZ (ops:List OpV)(x:Int):(z09 ops x).isSome=ops.any (fun o=>o.id==x):=by
 unfold z09;rw[List.findIdx?_isSome]
theorem zlI (ops:List OpV)(c:Int):(openOf ops c > 0)↔ops.any (fun o=>o.cl==c&&o.ret==0)=true:=by
 unfold openOf;rw[List.any_eq_true];constructor
 ·intro h;obtain⟨o,ho⟩:=List.exists_mem_of_length_pos h;rw[List.mem_filter]at ho;exact⟨o,ho.1,ho.2⟩
 ·rintro⟨o,h1,h2⟩;exact List.length_pos_of_mem (List.mem_filter.2 ⟨h1,h2⟩)
theorem zqT {n:Int}(hn:n=0∨n=1∨n=2∨n=3∨n=6)(a b c:Bool):
 ((hasP 107 (nats (ndS n))==a)&&(hasP 97 (nats (ndS n))==b)&&(hasP 101 (nats (ndS n))==c))=decide (n=(if a then 1 else 0)+(if b then 2 else 0)+(if c then 4 else 0)):=by
 rcases hn with rfl|rfl|rfl|rfl|rfl<;>cases a<;>cases b<;>cases c<;>decide
theorem zfl {model:List UInt8}(hm:zOI model opTab=true){ms:List RM}(h:nodup ms):
 zPn model ms=match zco model (zbh (ms.map znV) sOp) opTab with|none=>false|some r=>decide (r.2.2.1=z8C (ms.map znV)):=by
 unfold zPn;rw[zww hm,z2i h];cases hf:zco model (cR sOp ms).1.2.2.1 opTab with
 |none=>rfl
 |some r=>
   dsimp only;have hb:=(zoo hf).1;rw[Bool.true_and,zra,zra,zra,zqT hb];unfold z8C;rw[zRq,zRq,zRq]
theorem zGT {model:List UInt8}(hm:zOI model opTab=true){ms:List RM}(h:nodup ms)(hf:z5q (ms.map znV) callSlots=true)(ops:List OpV)(line:Int):
 zRl model ops (ms.map znV) line=((zjv model ms ops).1,(zjv model ms ops).2.map (fun o=>{ o with call:=line })):=by
 have hs:=(zNl h).1 hf;have hk:∀nm,(nm=z3k∨nm=sBy∨nm=sArg∨nm=sExp)→zqd (ms.map znV) nm=(cR nm ms).1.2.2.2:=by
  intro nm hn;apply z9e h;intro m hm hmn;have:=hs.1 m hm;rw[hmn]at this;have:=zMW hn this;omega
 have h3:¬(fitsR true 0 ms<ms.length∨(cR sBy ms).2=0∨(cR sOp ms).2=0):=by
  rintro(h1|h1|h1)
  ·exact(ztJ true ms).2 hs.1 h1
  ·rw[zra]at h1;exact hs.2.2.1 h1
  ·rw[zra]at h1;exact hs.2.2.2 h1
 unfold zjv;rw[if_neg h3,zfl hm h];unfold zRl;dsimp only;rw[hk z3k (by simp),hk sBy (by simp),hk sArg (by simp),hk sExp (by simp)];cases hfr:zco model (zbh (ms.map znV) sOp) opTab with
 |none=>rfl
 |some r=>
   dsimp only;by_cases hn:r.2.2.1=z8C (ms.map znV)
   ·rw[if_pos hn,if_neg (show ¬(decide (r.2.2.1=z8C (ms.map znV))=false) by simp[hn]),zfZ];by_cases h5:ops.any (fun o=>o.id==(cR z3k ms).1.2.2.2)=true
    ·rw[if_pos h5,if_pos h5];rfl
    ·rw[if_neg h5,if_neg h5];by_cases h6:ops.any (fun o=>o.cl==(cR sBy ms).1.2.2.2&&o.ret==0)=true
     ·rw[if_pos ((zlI _ _).2 h6),if_pos h6];rfl
     ·rw[if_neg (fun hh=>h6 ((zlI _ _).1 hh)),if_neg h6,z2i h,z2i h];rfl
   ·rw[if_neg hn,if_pos (show decide (r.2.2.1=z8C (ms.map znV))=false by simp[hn])];rfl
def zrZ (x:Int):List OpV→Nat→Option Nat→Option Nat
 | [],_,r=>r
 |o::t,i,r=>zrZ x t (i+1) (if o.id=x∧o.ret=0 then some i else r)
def zxo (k:Nat):Nat:=if k=116∨k=102 then 98 else k
def valR (m:RM):Int×Int:=if m.2.1=105 then(1,m.2.2.2)else if m.2.1=116 then(2,1)else if m.2.1=102 then(2,0)else(0,0)
def zty (model:List UInt8)(ms:List RM)(ahead:List OpV):Int×Option (Nat×Int×Int):=
 if fitsR false 0 ms<ms.length∨(cR sRet ms).2=0∨(cR sVal ms).2=0 then(3,none)
 else match zrZ (cR sRet ms).1.2.2.2 ahead 0 none with
  |none=>(7,none)
  |some i=>match ahead[i]? with
    |none=>(7,none)
    |some o=>if hasP (zxo (cR sVal ms).1.2.1) (nats (zyw (model++[32]++o.name)).2.1)=false then(8,none)else(0,some (i,valR (cR sVal ms).1))
def uniq (ops:List OpV):Prop:=(ops.map (·.id)).Nodup
theorem zq4 {x:Int}{ops:List OpV}(h:∀o∈ops,o.id≠x)(k:Nat)(r:Option Nat):zrZ x ops k r=r:=by
 induction ops generalizing k r with
 |nil=>rfl
 |cons o t ih=>
   unfold zrZ;rw[if_neg (fun hh=>h o (by simp) hh.1)];exact ih (fun o ho=>h o (by simp[ho])) _ _
theorem z93 {x:Int}{ops:List OpV}(h:uniq ops):∀(k:Nat) (r:Option Nat),
 zrZ x ops k r=match z09 ops x with|none=>r|some i=>match ops[i]? with|none=>r|some o=>if o.ret=0 then some (k+i)else r:=by
 induction ops with
 |nil=>intro k r;rfl
 |cons o t ih=>
   intro k r;unfold uniq at h;simp only [List.map_cons,List.nodup_cons]at h;unfold zrZ;have hf:z09 (o::t) x=if o.id=x then some 0 else(z09 t x).map (·+1):=by
    unfold z09;rw[List.findIdx?_cons];by_cases hx:o.id=x
    ·simp[hx]
    ·simp[hx]
   rw[hf];by_cases hx:o.id=x
   ·rw[if_pos hx,zq4 (fun p hp e=>h.1 (List.mem_map.2 ⟨p,hp,by rw[e,hx]⟩))];simp[hx]
   ·rw[if_neg hx,if_neg (fun hh=>hx hh.1),ih h.2];cases hi:z09 t x with
    |none=>rfl
    |some i=>
      simp only [Option.map_some,List.getElem?_cons_succ];cases t[i]? with
      |none=>rfl
      |some p=>
        dsimp only;split
        ·congr 1;omega
        ·rfl
def ztN (m:RM):Prop:=(m.2.1=115∨m.2.1=105∨m.2.1=116∨m.2.1=102∨m.2.1=110)∧(m.2.1≠105→m.2.2.2=0)
theorem zJN {g:Int}(hg:g=1∨g=2∨g=3∨g=4){k:Nat}(hk:k=105∨k=116∨k=102∨k=110):zIyy g (zWC k)=hasP (zxo k) (nats (gvS g)):=by
 rcases hg with rfl|rfl|rfl|rfl<;>rcases hk with rfl|rfl|rfl|rfl<;>decide
theorem zvm {k:Nat}:zIyy 0 (zWC k)=false:=by
 unfold zWC zIyy;(repeat' split)<;>decide
theorem z7u {k:Nat}(h:fitP sRet k false=true):k=105:=by
 rw[zPj]at h;obtain⟨s,hs,h1,h2⟩:=h;unfold retSlots at hs;simp only [List.mem_cons,List.not_mem_nil,or_false]at hs;rcases hs with rfl|rfl
 ·exact(kp1 k).1 h2
 ·exfalso;revert h1;decide
theorem zia {k:Nat}(h:fitP sVal k false=true):k≠115:=by
 rw[zPj]at h;obtain⟨s,hs,h1,h2⟩:=h;unfold retSlots at hs;simp only [List.mem_cons,List.not_mem_nil,or_false]at hs;rcases hs with rfl|rfl
 ·exfalso;revert h1;decide
 ·exact(zaz k).1 h2
def zQy (ops:List OpV)(line:Int)(q:Nat×Int×Int):List OpV:=match ops[q.1]? with
 |none=>ops
 |some o=>ops.set q.1 (setRet o line q.2.1 q.2.2)
theorem zxh {model:List UInt8}(hm:zOI model opTab=true){ms:List RM}(h:nodup ms)(hgd:∀m∈ms,ztN m)(hf:z5q (ms.map znV) retSlots=true){ops:List OpV}(hu:uniq ops)(line:Int):
 retP model ops (ms.map znV) line=((zty model ms ops).1,(zty model ms ops).2.map (zQy ops line)):=by
 have hs:=(zMF h).1 hf;have hnum:zqd (ms.map znV) sRet=(cR sRet ms).1.2.2.2:=by
  apply z9e h;intro m hm hmn;have:=hs.1 m hm;rw[hmn]at this;have:=z7u this;omega
 have h3:¬(fitsR false 0 ms<ms.length∨(cR sRet ms).2=0∨(cR sVal ms).2=0):=by
  rintro(h1|h1|h1)
  ·exact(ztJ false ms).2 hs.1 h1
  ·rw[zra]at h1;exact hs.2.1 h1
  ·rw[zra]at h1;exact hs.2.2 h1
 obtain⟨v,hv⟩:∃v,ms.find? (fun m=>m.1==sVal)=some v:=by
  cases hq:ms.find? (fun m=>m.1==sVal)with
  |none=>exact absurd (cnt_zero.2 hq) hs.2.2
  |some v=>exact⟨v,rfl⟩
 have hvm:=List.mem_of_find?_eq_some hv;have hvn:v.1=sVal:=by have:=List.find?_some hv;simpa using this
 have hcv:(cR sVal ms).1=v:=by rw[zJD h,hv];rfl
 have hkv:zoz (ms.map znV) sVal=zWC v.2.1:=by unfold zoz;rw[zeh,hv];rfl
 have hnv:zqd (ms.map znV) sVal=if v.2.1=116 then 1 else v.2.2.2:=by unfold zqd;rw[zeh,hv];rfl
 have hg:=hgd v hvm;have h115:v.2.1≠115:=zia (by have:=hs.1 v hvm;rw[hvn]at this;exact this);have hkk:v.2.1=105∨v.2.1=116∨v.2.1=102∨v.2.1=110:=by rcases hg.1 with e|e|e|e|e<;>omega
 have hval:(zWC v.2.1,(if v.2.1=116 then(1:Int)else v.2.2.2))=valR v:=by
  unfold valR;rcases hkk with e|e|e|e
  ·simp[e,zWC]
  ·simp[e,zWC]
  ·have h0:=hg.2 (by omega);simp[e,zWC,h0]
  ·have h0:=hg.2 (by omega);simp[e,zWC,h0]
 have hv1:zWC v.2.1=(valR v).1:=by rw[←hval]
 have hv2:(if v.2.1=116 then(1:Int)else v.2.2.2)=(valR v).2:=by rw[←hval]
 unfold zty;rw[if_neg h3,z93 hu,hcv];unfold retP;rw[hnum];cases hi:z09 ops (cR sRet ms).1.2.2.2 with
 |none=>rfl
 |some i=>
   dsimp only;cases ho:ops[i]? with
   |none=>rfl
   |some o=>
     dsimp only;by_cases hr:o.ret=0
     ·rw[if_neg (fun hh=>hh hr),if_pos hr];simp only [Nat.zero_add,ho];rw[hkv,hnv];have hgv:zIyy (((zco model o.name opTab).map (fun r=>r.2.2.2)).getD 0) (zWC v.2.1)=hasP (zxo v.2.1) (nats (zyw (model++[32]++o.name)).2.1):=by
       rw[zww hm];cases hfr:zco model o.name opTab with
       |none=>rw[Option.map_none,Option.getD_none,zvm];rfl
       |some r=>exact zJN (zoo hfr).2 hkk
      rw[hgv];cases hh:hasP (zxo v.2.1) (nats (zyw (model++[32]++o.name)).2.1)with
      |true=>
        rw[if_pos (show true=true from rfl),if_neg (show ¬(true=false) by simp)];show((0:Int),some (ops.set i (setRet o line (zWC v.2.1) (if v.2.1=116 then 1 else v.2.2.2))))=((0:Int),some (zQy ops line (i,valR v)));unfold zQy;rw[ho,hv1,hv2]
      |false=>rw[if_neg (show ¬(false=true) by simp),if_pos (show false=false from rfl)];rfl
     ·rw[if_pos hr,if_neg hr];rfl
theorem zha {k p:Pc}(h:(valP p).2.2.2=true):ztN (mkRM k p):=by
 unfold ztN mkRM;unfold valP at h⊢;dsimp only at h⊢;unfold zLi at h⊢;by_cases h1:p.1=34
 ·rw[if_pos h1];simp
 ·rw[if_neg h1]at h⊢;by_cases h2:p.1≠119
  ·rw[if_pos h2]at h;cases h
  ·rw[if_neg h2]at h⊢;split
   ·simp
   ·split
    ·simp
    ·split
     ·simp
     ·simp
theorem zVm (n:Nat):∀(mid:List Pc) (acc ms:List RM),mid.length≤n→(∀m∈acc,ztN m)→zfp acc mid=some ms→∀m∈ms,ztN m:=by
 induction n with
 |zero=>
   intro mid acc ms h ha hr;have:mid=[]:=List.length_eq_zero_iff.1 (by omega);subst this;rw[zfp]at hr;injection hr with hr;subst hr;exact ha
 |succ n ih=>
   intro mid acc ms h ha hr
   match mid,h,hr with
   | [],_,hr=>rw[zfp]at hr;injection hr with hr;subst hr;exact ha
   | [a],_,hr=>simp[zfp]at hr
   | [a,b],_,hr=>simp[zfp]at hr
   | [a,b,c],_,hr=>
     rw[zfp]at hr;split at hr
     ·rename_i hok;injection hr with hr;subst hr;intro m hm;rcases List.mem_append.1 hm with hm|hm
      ·exact ha m hm
      ·simp at hm;subst hm;exact zha hok.1
     ·cases hr
   |a::b::c::d::rest,h,hr=>
     rw[zfp]at hr;split at hr
     ·rename_i hok;simp only [List.length_cons]at h;refine ih rest _ ms (by omega) ?_ hr;intro m hm;rcases List.mem_append.1 hm with hm|hm
      ·exact ha m hm
      ·simp at hm;subst hm;exact zha hok.1
     ·cases hr
theorem zbL {ps:List Pc}{ms:List RM}(h:objI ps=some ms):∀m∈ms,ztN m:=by
 unfold objI at h;split at h
 ·cases h
 ·split at h
  ·cases h
  ·split at h
   ·cases h
   ·split at h
    ·injection h with h;subst h;intro m hm;cases hm
    ·split at h
     ·cases h
     ·exact zVm _ _ _ _ zG (fun m hm=>by cases hm) h
def z9q (model:List UInt8)(ops:List OpV)(s:ByteArray)(line:Int):Int×Option (List OpV):=
 match (zvF (lets s)).bind objI with
 |none=>(2,none)
 |some ms=>if repR ms ms=true∨(cR z3k ms).2+(cR sRet ms).2≠1 then(3,none)
   else if(cR z3k ms).2=1 then((zjv model ms ops).1,(zjv model ms ops).2.map (fun o=>ops++[{ o with call:=line }]))
   else((zty model ms ops).1,(zty model ms ops).2.map (zQy ops line))
theorem zlg (k:Nat):fitP sRet k true=false:=by
 cases h:fitP sRet k true with
 |false=>rfl
 |true=>
   rw[zvh]at h;obtain⟨s,hs,h1,h2⟩:=h;unfold callSlots at hs;simp only [List.mem_cons,List.not_mem_nil,or_false]at hs;rcases hs with rfl|rfl|rfl|rfl|rfl|rfl<;>(exfalso;revert h1;decide)
theorem zHi {nm:List UInt8}{ms:List RM}(h:cnt nm ms≠0):∃m∈ms,m.1=nm:=by
 cases hf:ms.find? (fun m=>m.1==nm)with
 |none=>exact absurd (cnt_zero.2 hf) h
 |some x=>exact⟨x,List.mem_of_find?_eq_some hf,by have:=List.find?_some hf;simpa using this⟩
theorem zjb {model:List UInt8}(hm:zOI model opTab=true){ops:List OpV}(hu:uniq ops)(s:ByteArray)(line:Int):
 addP model ops s line=z9q model ops s line:=by
 unfold addP z9q;rw[zaJ];cases hq:(zvF (lets s)).bind objI with
 |none=>rfl
 |some ms=>
   have hgd:∀m∈ms,ztN m:=by
    cases hp:zvF (lets s)with
    |none=>rw[hp]at hq;cases hq
    |some ps=>rw[hp]at hq;exact zbL hq
   dsimp only [Option.map_some];rw[zCu];cases hn:za6 (ms.map znV)with
   |false=>rw[if_neg (show ¬(false=true) by simp),if_pos (Or.inl (show(!false)=true from rfl))]
   |true=>
     have hd:=(zZq ms).1 hn;have hc1:=hd z3k;have hr1:=hd sRet;rw[if_pos rfl,zra,zra];by_cases hcall:cnt z3k ms=0
     ·have hcf:¬(z5q (ms.map znV) callSlots=true):=fun h=>((zNl hd).1 h).2.1 hcall;rw[if_neg hcf];by_cases hret:cnt sRet ms=0
      ·have hrf:¬(z5q (ms.map znV) retSlots=true):=fun h=>((zMF hd).1 h).2.1 hret;rw[if_neg hrf,if_pos (Or.inr (by omega))]
      ·rw[if_neg (show ¬((!true)=true∨cnt z3k ms+cnt sRet ms≠1) by simp;omega),if_neg (show ¬(cnt z3k ms=1) by omega)];by_cases hrf:z5q (ms.map znV) retSlots=true
       ·rw[if_pos hrf,zxh hm hd hgd hrf hu]
       ·rw[if_neg hrf];have h3:fitsR false 0 ms<ms.length∨(cR sRet ms).2=0∨(cR sVal ms).2=0:=by
         apply Decidable.byContradiction;intro hh;apply hrf;rw[zMF hd];refine⟨(ztJ false ms).1 (fun h=>hh (Or.inl h)),hret,fun h=>hh (Or.inr (Or.inr (by rw[zra];exact h)))⟩
        unfold zty;rw[if_pos h3];rfl
     ·have hc:cnt z3k ms=1:=(by omega);have hrf:¬(z5q (ms.map znV) retSlots=true):=by
       intro h;obtain⟨m,hm1,hm2⟩:=zHi hcall;have:=((zMF hd).1 h).1 m hm1;rw[hm2,zPj]at this;obtain⟨s,hs,h1,h2⟩:=this;unfold retSlots at hs;simp only [List.mem_cons,List.not_mem_nil,or_false]at hs;rcases hs with rfl|rfl<;>(revert h1;decide)
      by_cases hret:cnt sRet ms=0
      ·rw[if_neg (show ¬((!true)=true∨cnt z3k ms+cnt sRet ms≠1) by simp;omega),if_pos hc];by_cases hcf:z5q (ms.map znV) callSlots=true
       ·rw[if_pos hcf,zGT hm hd hcf];cases (zjv model ms ops).2<;>rfl
       ·rw[if_neg hcf,if_neg hrf];have h3:fitsR true 0 ms<ms.length∨(cR sBy ms).2=0∨(cR sOp ms).2=0:=by
         apply Decidable.byContradiction;intro hh;apply hcf;rw[zNl hd];refine⟨(ztJ true ms).1 (fun h=>hh (Or.inl h)),hcall,fun h=>hh (Or.inr (Or.inl (by rw[zra];exact h))),fun h=>hh (Or.inr (Or.inr (by rw[zra];exact h)))⟩
        unfold zjv;rw[if_pos h3];rfl
      ·have hcf:¬(z5q (ms.map znV) callSlots=true):=by
        intro h;obtain⟨m,hm1,hm2⟩:=zHi hret;have:=((zNl hd).1 h).1 m hm1;rw[hm2,zlg]at this;cases this
       rw[if_neg hcf,if_neg hrf,if_pos (Or.inr (by omega))]
theorem zJC {model:List UInt8}{ops ops':List OpV}(hu:uniq ops){s:ByteArray}{line:Int}{r:Int}(h:z9q model ops s line=(r,some ops')):uniq ops':=by
 unfold z9q at h;split at h
 ·cases h
 ·rename_i ms _;split at h
  ·cases h
  ·split at h
   ·cases hc:zjv model ms ops with
    |mk x y=>
      rw[hc]at h;cases y with
      |none=>cases h
      |some o=>
        simp at h;rw[←h.2];unfold uniq;rw[List.map_append,List.nodup_append];refine⟨hu,by simp,?_⟩;intro a ha b hb hab;simp at hb;unfold zjv at hc;split at hc
        ·cases hc
        ·split at hc
         ·cases hc
         ·split at hc
          ·cases hc
          ·rename_i h5;split at hc
           ·cases hc
           ·simp at hc;apply h5;rw[List.any_eq_true];obtain⟨p,hp,hpe⟩:=List.mem_map.1 ha;refine⟨p,hp,?_⟩;rw[beq_iff_eq,hpe,hab,hb,←hc.2]
   ·cases hc:zty model ms ops with
    |mk x y=>
      rw[hc]at h;cases y with
      |none=>cases h
      |some q=>
        simp at h;rw[←h.2];unfold zQy;cases ho:ops[q.1]? with
        |none=>exact hu
        |some o=>
          unfold uniq;dsimp only;rw[List.map_set];have:(setRet o line q.2.1 q.2.2).id=o.id:=rfl;rw[this];have e:(ops.map (·.id)).set q.1 o.id=ops.map (·.id):=by
           apply List.ext_getElem?;intro i;rw[List.getElem?_set];split
           ·rename_i hi;subst hi;rw[List.getElem?_map,ho];simp;have:=(zB ho).1;omega
           ·rfl
          rw[e];exact hu
theorem z6A:Lib.cut [] [10]=([],[],false):=by decide
theorem zJm (b:UInt8)(l:List UInt8):Lib.index (b::l) [10]=if b=10 then 0 else if Lib.index l [10]= -1 then -1 else Lib.index l [10]+1:=by
 rw[Lib.index];by_cases hb:b=10
 ·subst hb;simp[List.isPrefixOf]
 ·have:([10]:List UInt8).isPrefixOf (b::l)=false:=by
   simp only [List.isPrefixOf,Bool.and_true];rw[beq_eq_false_iff_ne];exact fun e=>hb e.symm
  rw[this,if_neg hb];simp only [Bool.false_eq_true,if_false,beq_iff_eq]
theorem z2n (b:UInt8)(l:List UInt8):Lib.cut (b::l) [10]=if b=10 then([],l,true)else(b::(Lib.cut l [10]).1,(Lib.cut l [10]).2.1,(Lib.cut l [10]).2.2):=by
 unfold Lib.cut;rw[zJm];by_cases hb:b=10
 ·rw[if_pos hb,if_pos hb];simp
 ·rw[if_neg hb,if_neg hb];have hge:=Lib.index_ge l [10];by_cases hi:Lib.index l [10]= -1
  ·rw[if_pos hi,hi];simp
  ·rw[if_neg hi,if_pos (by omega),if_pos (by omega)];have e:(Lib.index l [10]+1).toNat=(Lib.index l [10]).toNat+1:=(by omega);rw[e];simp
theorem zat (t:List UInt8):∀(acc:List (List UInt8)) (cur:List UInt8),z40 acc cur (nats t)=acc++z40 [] cur (nats t):=by
 induction t with
 |nil=>intro acc cur;simp only [nats,List.map_nil,z40];split<;>simp
 |cons b t ih=>
   intro acc cur;rw[zUH,z40,z40];split
   ·rw[ih (acc++[cur]),ih ([]++[cur])];simp
   ·exact ih acc _
theorem zhT (t:List UInt8):∀(cur:List UInt8),z40 [] cur (nats t)=if(Lib.cut t [10]).2.2=true then(cur++(Lib.cut t [10]).1)::z40 [] [] (nats (Lib.cut t [10]).2.1)else(if cur++t=[]then []else [cur++t]):=by
 induction t with
 |nil=>
   intro cur;rw[z6A];simp only [nats,List.map_nil,z40,List.append_nil,Bool.false_eq_true,if_false,List.nil_append]
 |cons b t ih=>
   intro cur;rw[zUH,z40,z2n];by_cases hb:b=10
   ·subst hb;rw[if_pos (by rfl),zat];simp
   ·have hn:b.toNat≠10:=(by intro e;apply hb;exact UInt8.toNat_inj.1 e);rw[if_neg hn,if_neg hb,ih,UInt8.ofNat_toNat];simp
theorem z4n {t:List UInt8}(h:t≠[]):linesP (nats t)=(Lib.cut t [10]).1::linesP (nats (Lib.cut t [10]).2.1):=by
 unfold linesP;rw[zhT t []];by_cases hc:(Lib.cut t [10]).2.2=true
 ·rw[if_pos hc];rfl
 ·rw[if_neg hc,List.nil_append,if_neg h];have:Lib.cut t [10]=(t,[],false):=by
   unfold Lib.cut at hc⊢;by_cases hi:0≤Lib.index t [10]
   ·rw[if_pos hi]at hc;exact absurd rfl hc
   ·rw[if_neg hi]
  rw[this];rfl
def zvj (model:List UInt8):List (List UInt8)→Nat→List OpV→List OpV ⊕ (Int×Int)
 | [],_,ops=>.inl ops
 |l::r,k,ops=>if 128<k+1 then .inr ((k:Int)+1,1)else match z9q model ops ⟨l.toArray⟩ ((k:Int)+1)with
   |(e,none)=>.inr ((k:Int)+1,e)
   |(_,some ops')=>zvj model r (k+1) ops'
theorem zZt {model:List UInt8}(hm:zOI model opTab=true):∀(f k:Nat) (ops:List OpV) (t:List UInt8),k+f=129→1≤f→uniq ops→
 zIn model f ops t k=zvj model (linesP (nats t)) k ops:=by
 intro f
 induction f with
 |zero=>intro k ops t _ h;omega
 |succ f ih=>
   intro k ops t hkf _ hu;unfold zIn;by_cases ht:t=[]
   ·rw[if_pos ht,ht];rfl
   ·rw[if_neg ht,z4n ht,zvj];by_cases hf:f=0
    ·rw[if_pos hf,if_pos (by omega)]
    ·rw[if_neg hf,if_neg (by omega),zjb hm hu];cases he:z9q model ops ⟨(Lib.cut t [10]).1.toArray⟩ ((k:Int)+1)with
     |mk e o=>
       cases o with
       |none=>rfl
       |some ops'=>exact ih (k+1) ops' _ (by omega) (by omega) (zJC hu he)
theorem zxf {model:List UInt8}(hm:zOI model opTab=true)(t:List UInt8):z9w model t=zvj model (linesP (nats t)) 0 []:=
 zZt hm 129 0 [] t rfl (by omega) (by simp[uniq])
def ORow (w:World)(o:Option Addr)(ops:List OpV):Prop:=
 ops≠[]→∃g,o=some ⟨g,0,none⟩∧g<w.heap.size∧∀j u,(opsRow ops)[j]?=some u→w.cell? ⟨g,j,none⟩=some u
theorem ORow.below {w w':World}{o:Option Addr}{ops:List OpV}(h:ORow w o ops)(k:Below w.heap.size w w'):ORow w' o ops:=by
 intro hne;obtain⟨g,h1,h2,h3⟩:=h hne;exact⟨g,h1,zH h2 k.size,fun j u hj=>(k.cell (p:=⟨g,j,none⟩) h2).trans (h3 j u hj)⟩
theorem rmBlk.below {w w':World}{b:Nat}{m:RM}(h:rmBlk w b m)(k:Below w.heap.size w w'):rmBlk w' b m:=(k.block b (zBq h)).trans h
theorem rmBlk.alloc {w:World}{b:Nat}{m:RM}(h:rmBlk w b m)(o:Obj):rmBlk (w.alloc o) b m:=(zD1 _ _ _ (zBq h)).trans h
theorem rmBlk.new (w:World)(m:RM):rmBlk (w.alloc (.cells #[.string ⟨m.1.toArray⟩,.int .u8 (m.2.1:Int),.string ⟨m.2.2.1.toArray⟩,.int .i64 m.2.2.2] 123)) w.heap.size m:=ziF _ _ _ rfl
def zBlk (w:World)(b:Nat):Prop:=w.heap[b]?=some (.cells #[.int .i64 0,.int .i64 0,.string ⟨#[]⟩,.string ⟨#[]⟩,.int .i64 0,.int .i64 0,.int .i64 0,.int .i64 0,.int .i64 0,.int .i64 0] 74 (0,0))
theorem zBlk.below {w w':World}{b:Nat}(h:zBlk w b)(k:Below w.heap.size w w'):zBlk w' b:=(k.block b (zBq h)).trans h
structure zCells (w:World)(b:Nat):Prop where
 c0:w.cell? ⟨b,0,none⟩=some (.int .i64 0)
 c1:w.cell? ⟨b,1,none⟩=some (.int .i64 0)
 c2:w.cell? ⟨b,2,none⟩=some (.string ⟨#[]⟩)
 c3:w.cell? ⟨b,3,none⟩=some (.string ⟨#[]⟩)
 c4:w.cell? ⟨b,4,none⟩=some (.int .i64 0)
 c5:w.cell? ⟨b,5,none⟩=some (.int .i64 0)
 c6:w.cell? ⟨b,6,none⟩=some (.int .i64 0)
 c7:w.cell? ⟨b,7,none⟩=some (.int .i64 0)
 c8:w.cell? ⟨b,8,none⟩=some (.int .i64 0)
 c9:w.cell? ⟨b,9,none⟩=some (.int .i64 0)
theorem zBlk.cells {w:World}{b:Nat}(h:zBlk w b):zCells w b:=
 ⟨by rw[zBk h];rfl,by rw[zBk h];rfl,by rw[zBk h];rfl,by rw[zBk h];rfl,by rw[zBk h];rfl,by rw[zBk h];rfl,by rw[zBk h];rfl,by rw[zBk h];rfl,by rw[zBk h];rfl,by rw[zBk h];rfl⟩
def z1u:OpV:=⟨0,0,[],[],0,0,0,0,0,0⟩
def zWb (o:OpV):Value:=.agg #[.int .i64 o.id,.int .i64 o.cl,.string ⟨o.name.toArray⟩,.string ⟨o.key.toArray⟩,.int .i64 o.arg,.int .i64 o.exp,.int .i64 o.call,.int .i64 o.ret,.int .i64 o.vk,.int .i64 o.vn]
theorem z8w {nm:List UInt8}{ms:List RM}(h:∀m∈ms,rmOk m):∀(m:RM) (n:Nat),rmOk m→rmOk (memR nm m n ms).1:=by
 induction ms with
 |nil=>intro m n hm;exact hm
 |cons x r ih=>
   intro m n hm;unfold memR;split
   ·exact ih (fun y hy=>h y (by simp[hy])) x _ (h x (by simp))
   ·exact ih (fun y hy=>h y (by simp[hy])) m _ hm
theorem zLS {ms:List RM}(h:∀m∈ms,rmOk m)(nm:List UInt8):rmOk (cR nm ms).1:=z8w h _ _ ⟨by simp[zB6],by simp[zB6],by simp[zB6]⟩
def fewP (q:List UInt8×List UInt8×Bool):Prop:=q.1.length≤2∧q.2.1.length≤2
theorem zBU {c:Prop} [Decidable c]{a b:List UInt8×List UInt8×Bool}(ha:fewP a)(hb:fewP b):fewP (if c then a else b):=by
 split
 ·exact ha
 ·exact hb
theorem zjM (l:List UInt8):(zyw l).1.length≤2∧(zyw l).2.1.length≤2:=by
 show fewP (zyw l);unfold zyw
 repeat (refine zBU ⟨by decide,by decide⟩ ?_)
 exact⟨by decide,by decide⟩
def opBlk (w:World)(b:Nat)(o:OpV):Prop:=w.heap[b]?=some (.cells #[.int .i64 o.id,.int .i64 o.cl,.string ⟨o.name.toArray⟩,.string ⟨o.key.toArray⟩,.int .i64 o.arg,.int .i64 o.exp,.int .i64 o.call,.int .i64 o.ret,.int .i64 o.vk,.int .i64 o.vn] 74 (0,0))
theorem opBlk.set {w:World}{b:Nat}{o:OpV}(h:opBlk w b o)(p:OpV):opBlk ((((((((((w.setCell ⟨b,0,none⟩ (.int .i64 p.id)).setCell ⟨b,1,none⟩ (.int .i64 p.cl)).setCell ⟨b,2,none⟩ (.string ⟨p.name.toArray⟩)).setCell ⟨b,3,none⟩ (.string ⟨p.key.toArray⟩)).setCell ⟨b,4,none⟩ (.int .i64 p.arg)).setCell ⟨b,5,none⟩ (.int .i64 p.exp)).setCell ⟨b,6,none⟩ (.int .i64 p.call)).setCell ⟨b,7,none⟩ (.int .i64 p.ret)).setCell ⟨b,8,none⟩ (.int .i64 p.vk)).setCell ⟨b,9,none⟩ (.int .i64 p.vn)) b p:=by
 unfold opBlk at*;rw[zFg (zFg (zFg (zFg (zFg (zFg (zFg (zFg (zFg (zFg h 0 _) 1 _) 2 _) 3 _) 4 _) 5 _) 6 _) 7 _) 8 _) 9 _];simp
theorem zset {w:World}{b:Nat}(h:zBlk w b):opBlk ((((((((((w.setCell ⟨b,0,none⟩ (.int .i64 0)).setCell ⟨b,1,none⟩ (.int .i64 0)).setCell ⟨b,2,none⟩ (.string ⟨#[]⟩)).setCell ⟨b,3,none⟩ (.string ⟨#[]⟩)).setCell ⟨b,4,none⟩ (.int .i64 0)).setCell ⟨b,5,none⟩ (.int .i64 0)).setCell ⟨b,6,none⟩ (.int .i64 0)).setCell ⟨b,7,none⟩ (.int .i64 0)).setCell ⟨b,8,none⟩ (.int .i64 0)).setCell ⟨b,9,none⟩ (.int .i64 0)) b z1u:=
 opBlk.set (o:=z1u) h z1u
set_option maxHeartbeats 1000000 in
theorem zC5 (tm:Array Value)(W:World)(b:Nat)(o:OpV)(r:Int)(h6:tm[6]?.getD undef=.pointer (some ⟨b,0,none⟩))(h7:tm[7]?.getD undef=.int .i64 r)(hb:opBlk W b o):
 (results Tryz.f57 tm).run Tryz.prog W=.ok (.tuple #[zWb o,.int .i64 r]) W:=by
 have c0:W.cell? ⟨b,0,none⟩=some (.int .i64 o.id):=by rw[zBk hb];rfl
 have c1:W.cell? ⟨b,1,none⟩=some (.int .i64 o.cl):=by rw[zBk hb];rfl
 have c2:W.cell? ⟨b,2,none⟩=some (.string ⟨o.name.toArray⟩):=by rw[zBk hb];rfl
 have c3:W.cell? ⟨b,3,none⟩=some (.string ⟨o.key.toArray⟩):=by rw[zBk hb];rfl
 have c4:W.cell? ⟨b,4,none⟩=some (.int .i64 o.arg):=by rw[zBk hb];rfl
 have c5:W.cell? ⟨b,5,none⟩=some (.int .i64 o.exp):=by rw[zBk hb];rfl
 have c6:W.cell? ⟨b,6,none⟩=some (.int .i64 o.call):=by rw[zBk hb];rfl
 have c7:W.cell? ⟨b,7,none⟩=some (.int .i64 o.ret):=by rw[zBk hb];rfl
 have c8:W.cell? ⟨b,8,none⟩=some (.int .i64 o.vk):=by rw[zBk hb];rfl
 have c9:W.cell? ⟨b,9,none⟩=some (.int .i64 o.vn):=by rw[zBk hb];rfl
 simp[results,Tryz.results57,go_sem,zWb,h6,h7,c0,c1,c2,c3,c4,c5,c6,c7,c8,c9]
theorem zRw {B b:Nat}{w W:World}(h:Below B w W)(hb:B≤b)(v0 v1 v2 v3 v4 v5 v6 v7 v8 v9:Value):Below B w ((((((((((W.setCell ⟨b,0,none⟩ v0).setCell ⟨b,1,none⟩ v1).setCell ⟨b,2,none⟩ v2).setCell ⟨b,3,none⟩ v3).setCell ⟨b,4,none⟩ v4).setCell ⟨b,5,none⟩ v5).setCell ⟨b,6,none⟩ v6).setCell ⟨b,7,none⟩ v7).setCell ⟨b,8,none⟩ v8).setCell ⟨b,9,none⟩ v9):=((((((((((h.setCell (p:=⟨b,0,none⟩) hb v0).setCell (p:=⟨b,1,none⟩) hb v1).setCell (p:=⟨b,2,none⟩) hb v2).setCell (p:=⟨b,3,none⟩) hb v3).setCell (p:=⟨b,4,none⟩) hb v4).setCell (p:=⟨b,5,none⟩) hb v5).setCell (p:=⟨b,6,none⟩) hb v6).setCell (p:=⟨b,7,none⟩) hb v7).setCell (p:=⟨b,8,none⟩) hb v8).setCell (p:=⟨b,9,none⟩) hb v9)
end Go.Proofs.YtbbkihekjdffpaaGreatDoor
