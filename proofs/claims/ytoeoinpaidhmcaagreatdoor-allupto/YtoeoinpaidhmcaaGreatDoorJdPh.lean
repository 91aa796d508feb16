/- Several texts in one. -/
import Derived.Test.YtoeoinpaidhmcaaGreatDoorJdPb
import Derived.Test.YtoeoinpaidhmcaaGreatDoorRefS
namespace Go.Proofs.YtoeoinpaidhmcaaGreatDoor.jd
open Go.RowKit
open srch (Legal LinP zqq z6N endS zLZ ahB Judged say ordO zBL Told PathW zCN zxD zIM zni takenL mem_takenL gHas wfG Gr idsT ziO Rd)
theorem zRW {g h:Gr}(l:wfG g)(m:wfG h)(e:∀q,q<128→gHas g q=gHas h q):g=h:=by
 have key:∀x y:Int,(0≤x∧x≤18446744073709551615)→(0≤y∧y≤18446744073709551615)→(∀k,k<64→(bits .and .u64 (x/2 ^ k) 1 != 0)=(bits .and .u64 (y/2 ^ k) 1 != 0))→x=y:=by
  intro x y o n a;obtain⟨x,rfl⟩:=Int.eq_ofNat_of_zero_le o.1;obtain⟨y,rfl⟩:=Int.eq_ofNat_of_zero_le n.1;have b:x<18446744073709551616:=by omega
  have d:y<18446744073709551616:=by omega
  congr 1;apply Nat.eq_of_testBit_eq;intro i;by_cases hi:i<64
  ·have:=a i hi;rw[srch.bit_of x b,srch.bit_of y d]at this;exact this
  ·have j:∀z:Nat,z<18446744073709551616→z.testBit i=false:=fun z hz=>Nat.testBit_lt_two_pow (zI hz (by
    have:(2:Nat) ^ 64≤2 ^ i:=Nat.pow_le_pow_right (by omega) (by omega);have e:(2:Nat) ^ 64=18446744073709551616:=(by decide);omega))
   rw[j x b,j y d]
 refine Prod.ext ?_ ?_
 ·refine key _ _ l.1 m.1 (fun k a=>?_);have:=e k (by omega);unfold gHas at this;rw[if_pos a,if_pos a,Nat.mod_eq_of_lt a]at this;exact this
 ·refine key _ _ l.2 m.2 (fun k a=>?_);have:=e (k+64) (by omega);unfold gHas at this;rw[if_neg (by omega),if_neg (by omega),show(k+64)%64=k by omega]at this;exact this
theorem z3f (L:List Cf):∀n:Nat,(∀c∈L,c.1.count 49≤L.foldl (fun n c=>max n (c.1.count 49)) n)∧n≤L.foldl (fun n c=>max n (c.1.count 49)) n:=by
 induction L with
 |nil=>intro n;exact⟨by simp,Nat.le_refl _⟩
 |cons c r ih=>
   intro n;obtain⟨a,b⟩:=ih (max n (c.1.count 49));refine⟨fun x hx=>?_,?_⟩
   ·rw[List.foldl_cons];rcases List.mem_cons.1 hx with rfl|hx
    ·omega
    ·exact a x hx
   ·rw[List.foldl_cons];omega
theorem zkI (L:List Cf)(b:Nat)(h:∀c∈L,c.1.count 49≤b):∀n,n≤b→L.foldl (fun n c=>max n (c.1.count 49)) n≤b:=by
 induction L with
 |nil=>intro n a;exact a
 |cons c r ih=>
   intro n a;rw[List.foldl_cons];exact ih (fun x hx=>h x (by simp[hx])) _ (by have:=h c (by simp);omega)
theorem z3r {b a:List OpV}(g:b.Nodup)(i:a.Nodup)(d:∀o∈a,o∈b):(zQ0 b a).count 49=a.length:=by
 have e:(zQ0 b a).count 49=(b.filter (fun o=>decide (o∈a))).length:=by
  unfold zQ0;clear g d
  induction b with
  |nil=>rfl
  |cons o r ih=>
    rw[List.map_cons];by_cases h:o∈a
    ·rw[if_pos h,List.count_cons_self,ih,List.filter_cons_of_pos (by simpa using h)];rfl
    ·rw[if_neg h,List.count_cons_of_ne (by decide),ih,List.filter_cons_of_neg (by simpa using h)]
 rw[e];apply Nat.le_antisymm
 ·exact ziO _ _ (g.filter _) (fun x hx=>by simpa using (List.mem_filter.1 hx).2)
 ·exact ziO _ _ i (fun x hx=>List.mem_filter.2 ⟨d x hx,by simpa using hx⟩)
theorem zS7 {a b:List OpV}(j:∀o∈a,0≤o.ret):z0d a (zQ0 a b)=true↔∀o∈a,o.ret≠0→o∈b:=by
 unfold z0d;rw[Bool.not_eq_true',List.any_eq_false];constructor
 ·intro h o d l;apply Decidable.byContradiction;intro k;obtain⟨i,g⟩:=List.mem_iff_getElem?.1 d;apply h i (by simpa using (zB g).1);unfold zy1;rw[zUg a b i o g,g,if_neg k];have:=j o d;simp;omega
 ·intro h i g e;obtain⟨o,d⟩:∃o,a[i]?=some o:=⟨_,zC (by simpa using g)⟩;unfold zy1 at e;rw[zUg a b i o d,d]at e;simp only [Option.getD_some,Bool.and_eq_true,decide_eq_true_eq,beq_iff_eq]at e;rw[if_pos (h o (List.mem_of_getElem? d) (by omega))]at e;exact absurd e.1 (by decide)
section
variable {σ:Type} {doit:σ→OpV→σ×Int×Int} {s0:σ} {txt:σ→List UInt8} {good:σ→Prop} {m:List UInt8} {ops:List OpV}
theorem zmq (h:Sim doit s0 txt good m ops)(j:ops.Nodup){e:Nat}{L:List Cf}(g:Cfs m ops e L true)(n:Nat):∀a:List OpV,a.length=n→Legal doit s0 ops a→zSj doit s0 txt ops a∈L:=by
 induction n with
 |zero=>intro a b _;rw[List.length_eq_zero_iff.1 b,zx8 h];exact g.has
 |succ n ih=>
   intro a b d;rcases List.eq_nil_or_concat a with rfl|⟨r,x,rfl⟩
   ·simp at b
   rw[List.concat_eq_append]at b d⊢;have i:=zsl (d.sub x (by simp));exact g.shut rfl _ (ih r (by simpa using b) d.init) _ (zB i).1 _ (znc h j d i)
theorem zfe (h:Sim doit s0 txt good m ops)(n:ops.Nodup)(a:∀o∈ops,0≤o.ret){d:Nat}{L:List Cf}{k:Bool}(g:Cfs m ops d L k)(b:isP ops L=true):LinP doit s0 ops:=by
 unfold isP at b;rw[List.any_eq_true]at b;obtain⟨c,l,j⟩:=b;obtain⟨e,i,rfl⟩:=zXu h n a (g.all c l);exact⟨e,i,(zS7 a).1 j⟩
theorem zPY (h:Sim doit s0 txt good m ops)(N:ops.Nodup)(V:ops.length≤128){C:Nat}{L:List Cf}(P:Cfs m ops C L true)(d:List (Gr×σ))(K:d.Nodup)(H:∀c∈d,srch.Reach doit (ordO ops) ((0,0),s0) c):d.length≤L.length:=by
 have u:=zBL ops;have n:(ordO ops).length≤128:=by rw[u.length_eq];exact V
 have v:(ordO ops).Nodup:=u.nodup_iff.2 N;have key:∀c∈d,∃g,Legal doit s0 ops g∧c.2=endS doit s0 g∧wfG c.1∧∀q o,(ordO ops)[q]?=some o→(gHas c.1 q=true↔o∈g):=by
  intro c k;obtain⟨l,p⟩:=H c k;obtain⟨Q,he⟩:=zCN doit n v p;refine⟨takenL (ordO ops) l,Q.perm doit (fun o=>u.mem_iff),he,(zIM doit _ n p).1,fun q o j=>?_⟩;have B:q<128:=by have:=(zB j).1;omega
  rw[(zxD doit _ n p).2 q B,mem_takenL];constructor
  ·intro D;exact⟨q,D,j⟩
  ·rintro⟨q',D,O⟩;rw[srch.nodup_at v j O];exact D
 have I:∃f:Gr×σ→List OpV,∀c∈d,Legal doit s0 ops (f c)∧c.2=endS doit s0 (f c)∧wfG c.1∧(∀q o,(ordO ops)[q]?=some o→(gHas c.1 q=true↔o∈f c)):=by
  have t:∀c:Gr×σ,∃g,c∈d→Legal doit s0 ops g∧c.2=endS doit s0 g∧wfG c.1∧∀q o,(ordO ops)[q]?=some o→(gHas c.1 q=true↔o∈g):=fun c=>by
   by_cases k:c∈d
   ·obtain⟨g,j⟩:=key c k;exact⟨g,fun _=>j⟩
   ·exact⟨[],fun x=>absurd x k⟩
  exact⟨fun c=>Classical.choose (t c),fun c k=>Classical.choose_spec (t c) k⟩
 obtain⟨f,E⟩:=I;have J:(d.map (fun c=>zSj doit s0 txt ops (f c))).Nodup:=by
  rw[List.Nodup,List.pairwise_map];refine List.Pairwise.imp_of_mem (fun {a b} ha hb hne e=>hne ?_) K;obtain⟨S,F,W,X⟩:=E a ha;obtain⟨Z,M,Y,R⟩:=E b hb;unfold zSj at e;injection e with e1 e2;have A:∀o∈ops,(o∈f a↔o∈f b):=by
   intro o j;obtain⟨i,G⟩:=List.mem_iff_getElem?.1 j;have r:=zUg ops (f a) i o G;rw[e1,zUg ops (f b) i o G]at r;by_cases x:o∈f a
   ·by_cases y:o∈f b
    ·exact⟨fun _=>y,fun _=>x⟩
    ·rw[if_neg y,if_pos x]at r;exact absurd r (by decide)
   ·by_cases y:o∈f b
    ·rw[if_pos y,if_neg x]at r;exact absurd r (by decide)
    ·exact⟨fun z=>absurd z x,fun z=>absurd z y⟩
  refine Prod.ext (zRW W Y (fun q B=>?_)) ?_
  ·by_cases hql:q<(ordO ops).length
   ·have j:=zC hql;rw[Bool.eq_iff_iff,X q _ j,R q _ j];exact A _ (u.mem_iff.1 (List.getElem_mem hql))
   ·have w:∀c∈d,gHas c.1 q=false:=by
     intro c k;obtain⟨l,p⟩:=H c k;rw[Bool.eq_false_iff];intro hh;have:=((zxD doit _ n p).2 q B).1 hh;obtain⟨s,U,rfl⟩:=List.mem_map.1 this;exact hql (srch.path_lt doit _ p s U)
    rw[w a ha,w b hb]
  ·exact h.inj _ _ (by rw[F];exact h.ends _ _ rfl S.sub) (by rw[M];exact h.ends _ _ rfl Z.sub) (by rw[F,M];exact e2)
 have:=ziO _ L J (fun x hx=>by
  obtain⟨c,k,rfl⟩:=List.mem_map.1 hx;exact zmq h N P _ _ rfl (E c k).1)
 simpa using this
theorem zHo {d:List OpV}(g:Legal doit s0 ops d):z8Z d:=by
 intro i k a b p l o;rintro⟨r,s⟩;obtain⟨m,n⟩:=zB o;have h:d=d.take k++b::d.drop (k+1):=by rw[←n,←List.drop_eq_getElem_cons m,List.take_append_drop]
 have j:=g.ahead _ _ _ h a (g.sub a (List.mem_of_getElem? l)) (by unfold ahB;simp;omega);obtain⟨q,e⟩:=List.mem_iff_getElem?.1 j;rw[List.getElem?_take]at e;split at e
 ·have:=srch.nodup_at g.nd e l;omega
 ·cases e
theorem zOc (n L:Nat)(h:roomP n<L):1000000<2*(n+1)*L:=by
 unfold roomP at h;exact(Nat.div_lt_iff_lt_mul (by omega)).1 h |> fun x=>by rw[Nat.mul_comm]at x;exact x
end
open srch (Legal LinP ordO Judged say idsT Rd zAl zAR zNr okOp z7a zFH zCI lkDo quDo decP wfI)
def okN (m:List UInt8)(o:OpV):Prop:=(∃r∈opTab,r.1=m∧r.2.1=o.name)∧wf64 o.exp∧(lone3 m→o.key=[])
theorem zrh {m n:List UInt8}{b:List Mem}{r:zqk}(d:zco m n opTab=some r)(a:r.2.2.1=z8C b)(h:lone3 m):zch b sKey=[]:=by
 unfold zco at d;have e:=List.mem_of_find?_eq_some d;have g:=List.find?_some d;simp only [Bool.and_eq_true,beq_iff_eq]at g;have j:r.2.2.1=0∨r.2.2.1=2∨r.2.2.1=6:=by
  have i:=g.1;simp only [opTab,List.mem_cons,List.not_mem_nil,or_false]at e;rcases h with rfl|rfl|rfl<;>rcases e with rfl|rfl|rfl|rfl|rfl|rfl|rfl|rfl|rfl|rfl|rfl|rfl|rfl<;>first|(exact absurd i (by decide))|simp
 unfold zch;cases hk:z8R b sKey with
 |none=>rfl
 |some x=>
   unfold z8C at a;rw[hk]at a;simp only [Option.isSome_some,if_true]at a;split at a<;>split at a<;>omega
theorem zfE {a:List UInt8}{d b:List OpV}{s:ByteArray}{g r:Int}(e:∀o∈d,okN a o)(h:addP a d s g=(r,some b)):(∀o∈b,okN a o)∧b.length≤d.length+1:=by
 unfold addP at h;split at h
 ·injection h with _ h;cases h
 ·rename_i ms hm;have j:=zau hm;split at h
  ·split at h
   ·injection h with _ h;unfold zRl at h;dsimp only at h;split at h
    ·cases h
    ·rename_i row hrow;split at h
     ·rename_i hhav;split at h
      ·cases h
      ·split at h
       ·cases h
       ·simp at h;subst h;refine⟨fun o hx=>?_,by simp⟩;rcases List.mem_append.1 hx with hx|hx
        ·exact e o hx
        ·rw[List.mem_singleton]at hx;subst hx;refine⟨⟨row,List.mem_of_find?_eq_some hrow,?_⟩,zFH j _,zrh hrow hhav⟩;have:=List.find?_some hrow;simpa using this
     ·cases h
   ·split at h
    ·unfold retP at h;split at h
     ·injection h with _ h;cases h
     ·split at h
      ·injection h with _ h;cases h
      ·rename_i i _ o he;split at h
       ·injection h with _ h;cases h
       ·split at h
        ·injection h with _ h;injection h with h;subst h;refine⟨fun x hx=>?_,by simp⟩;rcases List.mem_or_eq_of_mem_set hx with hx|hx
         ·exact e x hx
         ·subst hx;exact e o (List.mem_of_getElem? he)
        ·injection h with _ h;cases h
    ·injection h with _ h;cases h
  ·injection h with _ h;cases h
theorem zIY (b:List UInt8):∀(f:Nat) (d:List OpV) (t:List UInt8) (k:Nat) (a:List OpV),(∀o∈d,okN b o)→d.length+f≤129→zIn b f d t k=.inl a→(∀o∈a,okN b o)∧a.length≤128:=by
 intro f
 induction f with
 |zero=>intro d t k a _ _ h;simp[zIn]at h
 |succ f ih=>
   intro d t k a e i h;unfold zIn at h;split at h
   ·injection h with h;subst h;exact⟨e,by omega⟩
   ·split at h
    ·cases h
    ·split at h
     ·cases h
     ·rename_i r ops' he;obtain⟨g,j⟩:=zfE e he;exact ih ops' _ _ a g (by omega) h
theorem zpY {a t:List UInt8}{b:List OpV}(h:z9w a t=.inl b):(∀o∈b,okN a o)∧b.length≤128:=zIY a 129 [] t 0 b (by simp) (by simp) h
theorem okN.names {m:List UInt8}{o:OpV}(h:okN m o):names o.name:=by
 obtain⟨⟨r,a,_,b⟩,_⟩:=h;rw[←b];unfold jd.names;simp only [opTab,List.mem_cons,List.not_mem_nil,or_false]at a;rcases a with rfl|rfl|rfl|rfl|rfl|rfl|rfl|rfl|rfl|rfl|rfl|rfl|rfl<;>simp[zxX,zus,nCas,nGet,nPut,nDel,nEnq,nDeq,nAdd,nRem,nHas,nAcq,nRel]
theorem zH8 {a b:Int}(g:wf64 a)(e:wf64 b)(h:Lib.itoa a=Lib.itoa b):a=b:=by
 have d:=zmn a g.1 g.2;rw[h,zmn b e.1 e.2]at d;injection d with d;exact d.symm
theorem zGn {a:Int}(d:wf64 a):Lib.itoa a≠[45]:=fun h=>by
 have b:=zmn a d.1 d.2;rw[h]at b;have e:(z7y [45]).2=true:=by rw[b]
 exact absurd e (by decide)
theorem z2w {a:Int}(d:wf64 a):Lib.itoa a≠[]:=fun h=>by
 have b:=zmn a d.1 d.2;rw[h]at b;have e:(z7y []).2=true:=by rw[b]
 exact absurd e (by decide)
theorem zm2 {a:Int}(b:wf64 a):numV (Lib.itoa a)=(1,a):=by
 unfold numV;rw[zmn a b.1 b.2];rfl
theorem zMA:Lib.itoa 0=[48]:=by
 unfold Lib.itoa;rw[if_neg (by omega),zDc];rfl
theorem wf_zero:wf64 0:=⟨by decide,by decide⟩
theorem zpg (m:Nat):allD (nats (Lib.decDigits m)):=by
 induction m using Nat.strongRecOn with
 |ind m ih=>
   rw[zDc];by_cases h:m<10
   ·rw[if_pos h,zNL m h];intro c a;simp at a;omega
   ·rw[if_neg h,zeI,zNL _ (Nat.mod_lt _ (by omega))];intro c a;rcases List.mem_append.1 a with a|a
    ·exact ih (m/10) (by omega) c a
    ·simp at a;omega
theorem z1U (m:Nat):zqj (nats (Lib.decDigits m)):=by
 refine⟨zpg m,fun h=>(zot m).2.1 (fun e=>?_)⟩;subst e;rw[zDc,if_pos (by omega)]at h;simp[nats]at h
theorem z15 {a:Int}(h:wf64 a):decP (Lib.itoa a)=some a:=by
 have i:=zmn a h.1 h.2;unfold z7y at i;injection i with h1 h2;rw[Bool.and_eq_true]at h2;have g:zyu (nats (Lib.itoa a))=(a,true):=Prod.ext h1 h2.1;have d:nats (Lib.itoa a)=sgnd (decide (a<0)) (nats (Lib.decDigits a.natAbs)):=by
  unfold Lib.itoa sgnd;by_cases hn:a<0
  ·rw[if_pos hn,decide_eq_true hn,if_pos rfl];rfl
  ·rw[if_neg hn,decide_eq_false hn,if_neg (by simp),show a.toNat=a.natAbs by omega]
 have j:Lib.parseIntB 64 (Lib.itoa a)=.ok a:=by
  rcases z8f (decide (a<0)) (z1U a.natAbs)with ⟨v,b,e⟩|⟨_,b⟩
  ·rw[←d,zWB]at b;rw[←d,g]at e;injection e with e;rw[b,e]
  ·rw[←d,g]at b;cases b
 rw[srch.decP_ok j,if_pos rfl]
open srch (Legal LinP ordO Judged say idsT Rd zAl zNr okOp z7a zCI lkDo quDo decP wfI)
theorem zWu {m:List UInt8}{o:OpV}(h:okN m o):(m=sReg→o.name=zxX∨o.name=zus∨o.name=nCas)∧(m=zsK→o.name=nEnq∨o.name=nDeq)∧(m=zyy→o.name=nAcq∨o.name=nRel):=by
 obtain⟨⟨r,a,b,d⟩,_⟩:=h;rw[←d];simp only [opTab,List.mem_cons,List.not_mem_nil,or_false]at a;refine⟨fun e=>?_,fun e=>?_,fun e=>?_⟩
 all_goals
  subst e;rcases a with rfl|rfl|rfl|rfl|rfl|rfl|rfl|rfl|rfl|rfl|rfl|rfl|rfl<;>first|(exact absurd b (by decide))|simp[zxX,zus,nCas,nEnq,nDeq,nAcq,nRel]
structure OkM (m:List UInt8)(o:OpV):Prop where
 nm:okN m o
 arg:wf64 o.arg
 cl:wf64 o.cl
theorem z28 (b:List OpV)(h:∀o∈b,OkM sReg o):Sim zCI 0 Lib.itoa wf64 sReg b where
 good0:=wf_zero
 first:=by rw[zMA];decide
 inj:=fun s s' h1 h2 e=>zH8 h1 h2 e
 step:=by
  intro s o a i;obtain⟨g,d,_⟩:=h o i;have k:=g.2.1;rcases(zWu g).1 rfl with e|e|e
  ·simp[zCI,ztI,e,zxX,zm2 a,a]
  ·simp[zCI,ztI,e,zxX,nGet,zus,d]
  ·have j:(Lib.itoa s=Lib.itoa o.exp)↔s=o.exp:=⟨zH8 a k,fun e=>by rw[e]⟩;by_cases c:s=o.exp
   ·simp[zCI,ztI,e,zxX,nGet,zus,nPut,nCas,c,d]
   ·simp[zCI,ztI,e,zxX,nGet,zus,nPut,nCas,c,j,a]
def lkT (s:Bool×Int):List UInt8:=if s.1=true then Lib.itoa s.2 else [45]
def lkG (s:Bool×Int):Prop:=wf64 s.2∧(s.1=false→s.2=0)
theorem zFR (g:List OpV)(h:∀o∈g,OkM zyy o):Sim lkDo (false,0) lkT lkG zyy g where
 good0:=⟨wf_zero,fun _=>rfl⟩
 first:=by decide
 inj:=by
  rintro⟨b,x⟩ ⟨n,y⟩ ⟨k,i⟩ ⟨j,d⟩ e;unfold lkT at e;cases b<;>cases n<;>simp at e k j i d⊢
  ·rw[i,d]
  ·exact absurd e.symm (zGn j)
  ·exact absurd e (zGn k)
  ·exact zH8 k j e
 step:=by
  rintro⟨b,x⟩ o ⟨a,l⟩ s;obtain⟨q,_,m⟩:=h o s;simp only at a l;rcases(zWu q).2.2 rfl with e|e
  ·cases b
   ·have:=l rfl;simp[lkDo,ztI,e,zxX,nGet,zus,nPut,nCas,nDel,nEnq,nDeq,nAdd,nRem,nHas,nAcq,lkT,lkG,m]
   ·simp[lkDo,ztI,e,zxX,nGet,zus,nPut,nCas,nDel,nEnq,nDeq,nAdd,nRem,nHas,nAcq,lkT,lkG,a,zGn a]
  ·cases b
   ·have r:([45]:List UInt8)≠Lib.itoa o.cl:=fun e=>zGn m e.symm;have:=l rfl;simp[lkDo,ztI,e,zxX,nGet,zus,nPut,nCas,nDel,nEnq,nDeq,nAdd,nRem,nHas,nAcq,nRel,lkT,lkG,this,wf_zero];simpa using r
   ·have p:(Lib.itoa x=Lib.itoa o.cl)↔x=o.cl:=⟨zH8 a m,fun e=>by rw[e]⟩;by_cases c:x=o.cl
    ·simp[lkDo,ztI,e,zxX,nGet,zus,nPut,nCas,nDel,nEnq,nDeq,nAdd,nRem,nHas,nAcq,nRel,lkT,lkG,c,wf_zero]
    ·simp[lkDo,ztI,e,zxX,nGet,zus,nPut,nCas,nDel,nEnq,nDeq,nAdd,nRem,nHas,nAcq,nRel,lkT,lkG,c,p,a]
theorem zWw (b:UInt8)(l:List UInt8):Lib.index (b::l) [44]=if b=44 then 0 else if Lib.index l [44]= -1 then -1 else Lib.index l [44]+1:=by
 rw[Lib.index];by_cases hb:b=44
 ·subst hb;simp[List.isPrefixOf]
 ·have:([44]:List UInt8).isPrefixOf (b::l)=false:=by
   simp only [List.isPrefixOf,Bool.and_true];rw[beq_eq_false_iff_ne];exact fun e=>hb e.symm
  rw[this,if_neg hb];simp only [Bool.false_eq_true,if_false,beq_iff_eq]
theorem z4M (s:List UInt8):(Lib.cut s [44]).1=(headR s).1∧(Lib.cut s [44]).2.1=(headR s).2:=by
 induction s with
 |nil=>exact⟨by decide,by decide⟩
 |cons b l ih=>
   unfold Lib.cut at ih⊢;rw[zWw,headR];by_cases hb:b=44
   ·rw[if_pos hb,if_pos hb];simp
   ·rw[if_neg hb,if_neg hb];have a:=Lib.index_ge l [44];by_cases hi:Lib.index l [44]= -1
    ·rw[hi]at ih;rw[if_pos hi];simp at ih⊢;exact⟨ih.1,ih.2⟩
    ·rw[if_pos (show 0≤Lib.index l [44] by omega)]at ih;rw[if_neg hi,if_pos (by omega)];have e:(Lib.index l [44]+1).toNat=(Lib.index l [44]).toNat+1:=(by omega);rw[e];simp at ih⊢;exact ih
def quT:List Int→List UInt8
 | []=>[]
 | [x]=>Lib.itoa x
 |x::y::r=>Lib.itoa x++[44]++quT (y::r)
def quG (s:List UInt8):Prop:=∃xs:List Int,(∀x∈xs,wf64 x)∧s=quT xs
theorem zOC (x:Int)(r:List Int)(h:r≠[]):quT (x::r)=Lib.itoa x++[44]++quT r:=by
 cases r with
 |nil=>exact absurd rfl h
 |cons y r=>rfl
theorem zlj {x:Int}(a:wf64 x)(r:List Int):quT (x::r)≠[]:=by
 cases r with
 |nil=>exact z2w a
 |cons y r=>simp[quT]
theorem zTj (b:List Int)(h:∀x∈b,wf64 x)(a:Int):quT (b++[a])=if quT b=[]then Lib.itoa a else quT b++[44]++Lib.itoa a:=by
 induction b with
 |nil=>simp[quT]
 |cons x r ih=>
   rw[if_neg (zlj (h x (by simp)) r),List.cons_append,zOC x _ (by simp),ih (fun y hy=>h y (by simp[hy]))];cases r with
   |nil=>simp[quT]
   |cons y r=>
     rw[if_neg (zlj (h y (by simp)) r),zOC x (y::r) (by simp)];simp
theorem zoP {a:Int}:∀c∈Lib.itoa a,c≠44:=by
 intro c b;unfold Lib.itoa at b;split at b
 ·rcases List.mem_cons.1 b with rfl|b
  ·decide
  ·exact(zot _).2.2.2 c b
 ·exact(zot _).2.2.2 c b
theorem z89 (a b:List UInt8)(h:∀c∈a,c≠44):headR (a++44::b)=(a,b):=by
 induction a with
 |nil=>simp[headR]
 |cons c t ih=>
   rw[List.cons_append,headR,if_neg (h c (by simp)),ih (fun x hx=>h x (by simp[hx]))]
theorem zn4 (x:Int)(r:List Int):headR (quT (x::r))=(Lib.itoa x,quT r):=by
 cases r with
 |nil=>exact zPM _ zoP
 |cons y r=>
   rw[zOC x _ (by simp),List.append_assoc];exact z89 _ _ zoP
theorem zSZ (i:List OpV)(h:∀o∈i,OkM zsK o):Sim quDo [] id quG zsK i where
 good0:=⟨[],by simp,rfl⟩
 first:=by decide
 inj:=fun s s' _ _ e=>e
 step:=by
  rintro s o ⟨b,d,rfl⟩ p;obtain⟨m,k,_⟩:=h o p;rcases(zWu m).2.1 rfl with e|e
  ·have g:quG (if quT b=[]then Lib.itoa o.arg else quT b++[44]++Lib.itoa o.arg):=⟨b++[o.arg],fun x a=>by
    rcases List.mem_append.1 a with a|a
    ·exact d x a
    ·rw[List.mem_singleton]at a;rw[a];exact k,(zTj b d o.arg).symm⟩
   by_cases c:quT b=[]
   ·rw[if_pos c]at g;simp[quDo,ztI,e,zxX,nGet,zus,nPut,nCas,nDel,nEnq,c,g]
   ·rw[if_neg c,List.append_assoc]at g;simp[quDo,ztI,e,zxX,nGet,zus,nPut,nCas,nDel,nEnq,c];simpa using g
  ·obtain⟨c1,j⟩:=z4M (quT b);cases b with
   |nil=>
     have l:(decP (headR (quT [])).1).isSome=false:=(by decide);have n:numV (headR (quT [])).1=(0,0):=(by decide);have hG:quG (quT []):=⟨[],by simp,rfl⟩;have hR:(headR (quT [])).2=quT []:=(by decide);simp only [quDo,ztI,e,zxX,nGet,zus,nPut,nCas,nDel,nEnq,nDeq,c1,l,n,hR,id];simp[hG]
   |cons x r=>
     rw[zn4]at c1 j;have hG:quG (quT r):=⟨r,fun y hy=>d y (by simp[hy]),rfl⟩;have a:=d x (by simp);simp[quDo,ztI,e,zxX,nGet,zus,nPut,nCas,nDel,nEnq,nDeq,c1,j,z15 a,zm2 a,zn4,hG]
open srch (stDo zqY tI)
theorem zk9 {m:List UInt8}{o:OpV}(h:okN m o):(m=sKv→o.name=nGet∨o.name=nPut∨o.name=nDel)∧(m=sSet→o.name=nAdd∨o.name=nRem∨o.name=nHas):=by
 obtain⟨⟨r,a,b,d⟩,_⟩:=h;rw[←d];simp only [opTab,List.mem_cons,List.not_mem_nil,or_false]at a;refine⟨fun e=>?_,fun e=>?_⟩
 all_goals
  subst e;rcases a with rfl|rfl|rfl|rfl|rfl|rfl|rfl|rfl|rfl|rfl|rfl|rfl|rfl<;>first|(exact absurd b (by decide))|simp[nGet,nPut,nDel,nAdd,nRem,nHas]
theorem zcf:numV [45]=(0,0):=by decide
theorem zpM (d:List OpV)(h:∀o∈d,OkM sKv o):Sim stDo (false,0) lkT lkG sKv d where
 good0:=⟨wf_zero,fun _=>rfl⟩
 first:=by decide
 inj:=by
  rintro⟨b,x⟩ ⟨m,y⟩ ⟨j,g⟩ ⟨k,i⟩ e;unfold lkT at e;cases b<;>cases m<;>simp at e j k g i⊢
  ·rw[g,i]
  ·exact absurd e.symm (zGn k)
  ·exact absurd e (zGn j)
  ·exact zH8 j k e
 step:=by
  rintro⟨b,x⟩ o ⟨a,l⟩ n;obtain⟨q,p,_⟩:=h o n;simp only at a l;rcases(zk9 q).1 rfl with e|e|e
  ·cases b
   ·have:=l rfl;simp[stDo,ztI,e,zxX,nGet,lkT,lkG,zcf,this,wf_zero]
   ·simp[stDo,ztI,e,zxX,nGet,lkT,lkG,a,zm2 a]
  ·simp[stDo,ztI,e,zxX,nGet,zus,nPut,lkT,lkG,p]
  ·cases b
   ·simp[stDo,ztI,e,zxX,nGet,zus,nPut,nCas,nDel,lkT,lkG,wf_zero,tI]
   ·simp[stDo,ztI,e,zxX,nGet,zus,nPut,nCas,nDel,lkT,lkG,wf_zero,tI,zGn a]
def setT (s:Bool):List UInt8:=if s=true then [49]else [48]
theorem zuQ (a:List OpV)(h:∀o∈a,OkM sSet o):Sim zqY false setT (fun _=>True) sSet a where
 good0:=trivial
 first:=by decide
 inj:=by
  rintro s d _ _ e;cases s<;>cases d<;>simp[setT]at e⊢
 step:=by
  rintro s o _ b;obtain⟨g,_,_⟩:=h o b;rcases(zk9 g).2 rfl with e|e|e
  all_goals cases s<;>simp[zqY,ztI,e,zxX,nGet,zus,nPut,nCas,nDel,nEnq,nDeq,nAdd,nRem,nHas,setT,tI]
open srch (Legal LinP Judged say ordO zBL zni idsT ziO flt qKey zD5 z4U z1b zMI mergeP)
def plK (ops:List OpV)(k:List UInt8):List Nat:=(List.range ops.length).filter (fun i=>decide ((ops[i]?.map (·.key))=some k))
theorem zdI (a:List OpV)(k:List UInt8):(plK a k).Nodup:=List.nodup_range.filter _
theorem za4 (a:List OpV)(k:List UInt8):(plK a k).map (fun i=>a[i]?)=(flt k a).map some:=by
 have key:∀n,n≤a.length→((List.range n).filter (fun i=>decide ((a[i]?.map (·.key))=some k))).map (fun i=>a[i]?)=(flt k (a.take n)).map some:=by
  intro n
  induction n with
  |zero=>intro _;simp[flt]
  |succ n ih=>
    intro d;have b:n<a.length:=(by omega);rw[List.range_succ,List.filter_append,List.map_append,ih (by omega),List.take_succ_eq_append_getElem b,srch.flt_snoc];by_cases h:a[n].key=k
    ·rw[if_pos h,List.filter_cons_of_pos (by simp[zC b,h])];simp[zC b]
    ·rw[if_neg h,List.filter_cons_of_neg (by simp[zC b,h])];simp
 have:=key a.length zH;rw[List.take_length]at this;exact this
theorem zqz (a:List OpV)(k:List UInt8):zrE a (plK a k) (flt k a):=by
 have e:=za4 a k;refine⟨by have:=congrArg List.length e;simpa using this,fun i o h=>?_⟩;have b:=congrArg (fun l=>l[i]?) e;simp only [List.getElem?_map,h,Option.map_some]at b;cases hp:(plK a k)[i]? with
 |none=>rw[hp]at b;simp at b
 |some p=>rw[hp]at b;exact⟨p,rfl,by simpa using b⟩
theorem zg1 {a:List OpV}{k:List UInt8}{i:Nat}{o:OpV}(h:a[i]?=some o):i∈plK a k↔o.key=k:=by
 unfold plK;rw[List.mem_filter];obtain⟨b,d⟩:=zB h;simp[b,d]
theorem zay {a:List OpV}(h:a.Nodup){k:List UInt8}{b:List OpV}(g:∀o∈b,o∈flt k a):zBw a b=(zBw (flt k a) b).map (fun i=>(plK a k)[i]?.getD 0):=by
 unfold zBw;rw[List.map_map];refine List.map_congr_left (fun o ho=>?_);show a.idxOf o=(plK a k)[(flt k a).idxOf o]?.getD 0;obtain⟨p,e,d⟩:=(zqz a k).2 _ _ (zsl (g o ho));rw[e];exact srch.nodup_at h (zsl (List.mem_of_getElem? d)) d
inductive FitK (m:List UInt8)(ops:List OpV)(K:List (List UInt8))(nm:List UInt8→List UInt8)(b:Int)(ans:List UInt8):Prop
 |unk (e:ans=sUnk) (h:∀f:List UInt8→List Cf×Bool,(∀k∈K,Cfs m (flt k ops) (roomP ops.length) (f k).1 (f k).2)→min b 1000000<((2*(ops.length+1)*((K).map (fun k=>(f k).1.length)).sum:Nat):Int))
 |ok (Q:List OpV) (pl:List Nat) (e:ans=sOrdJ++idsT Q++[10]) (hQ:zrE ops pl Q) (hn:pl.Nodup) (hl:Q.length≤1000) (ho:z8Z Q) (ha:∀k∈K,∃cE,zdl (plK ops k) (flt k ops) (cf0 m (flt k ops)) (pl.filter (fun i=>decide (i∈plK ops k)))=some cE∧z0d (flt k ops) cE.1=true)
 | ill (K1 K2:List (List UInt8)) (k:List UInt8) (Q:List OpV) (pl:List Nat) (cE:Cf) (hK:K=K1++k::K2) (e:ans=zRS++nm k++z5z++idsT Q++[10]) (hQ:zrE ops pl Q) (hn:pl.Nodup) (hl:Q.length≤1000) (ha:zdl (plK ops k) (flt k ops) (cf0 m (flt k ops)) pl=some cE)
   (hk:∀L kn,Cfs m (flt k ops) (roomP ops.length) L kn→kn=true→isP (flt k ops) L=false∧pl.length=mostP L) (hp:∀k'∈K1,∀L kn,Cfs m (flt k' ops) (roomP ops.length) L kn→kn=true→isP (flt k' ops) L=true)
theorem zH0 (l:List OpV):(zD5 l).Nodup:=by
 unfold zD5;exact(List.mergeSort_perm _ _).nodup_iff.2 (z1b l)
section
variable {σ:Type} [DecidableEq σ] {doit:σ→OpV→σ×Int×Int} {s0:σ} {txt:σ→List UInt8} {good:σ→Prop} {m:List UInt8} {ops:List OpV}
theorem zxU (k:List UInt8)(l:List OpV):∀o∈flt k l,o∈l∧o.key=k:=fun o h=>by
 unfold flt at h;simpa using h
theorem z9n {P:List OpV}(h:Sim doit s0 txt good m P)(u:P.Nodup){N:Nat}(x:N≤128)(t:P.length≤N){b:Int}{r:srch.Out}(v:srch.Found doit (ordO P) s0 b r){L:List Cf}{k:Bool}(g:Cfs m P (roomP N) L k):
 0<L.length∧(k=false→1000000<2*(N+1)*L.length)∧(k=true→(r.verdict=0→b≤0∨b<(N*L.length:Nat))∧(r.verdict≠0→b-r.left≤(N*L.length:Nat))):=by
 have j:0<L.length:=List.length_pos_iff.2 (fun e=>by have:=g.has;rw[e]at this;cases this);refine⟨j,fun hk=>?_,fun hk=>?_⟩
 ·subst hk;have w:¬L.length≤roomP N:=by have:=g.room;simpa using this
  exact zOc N L.length (by omega)
 ·subst hk;have l:=zBL P;have n:(ordO P).length≤128:=by rw[l.length_eq];omega
  obtain⟨d,s,q,a⟩:=srch.Found.told doit _ n v;have o:=zPY h u (by omega) g d s q;have p:P.length*d.length≤N*L.length:=Nat.mul_le_mul t o;rw[l.length_eq]at a;rcases a with ⟨i,a⟩|⟨i,a,_⟩|⟨i,a,_⟩
  ·refine⟨fun _=>?_,fun hh=>absurd i hh⟩;rcases a with a|a
   ·exact .inl a
   ·right;omega
  ·exact⟨fun hh=>by omega,fun _=>by omega⟩
  ·exact⟨fun hh=>by omega,fun _=>by omega⟩
omit [DecidableEq σ] in
theorem zSa {P:List OpV}(h:Sim doit s0 txt good m P)(k:P.Nodup)(b:∀o∈P,0≤o.ret){a:Nat}{L:List Cf}(e:Cfs m P a L true)(j:LinP doit s0 P):isP P L=true:=by
 obtain⟨d,i,g⟩:=j;unfold isP;rw[List.any_eq_true];exact⟨_,zmq h k e _ d rfl i,(zS7 b).2 g⟩
omit [DecidableEq σ] in
theorem zGU {P:List OpV}(h:Sim doit s0 txt good m P)(d:P.Nodup)(e:∀o∈P,0≤o.ret){k:Nat}{L:List Cf}(g:Cfs m P k L true){a:List OpV}(i:Legal doit s0 P a)(l:¬LinP doit s0 P)(j:∀o,Legal doit s0 P o→o.length≤a.length):isP P L=false∧a.length=mostP L:=by
 refine⟨?_,?_⟩
 ·rw[Bool.eq_false_iff];intro n;exact l (zfe h d e g n)
 ·unfold mostP;apply Nat.le_antisymm
  ·have:=(z3f L 0).1 _ (zmq h d g _ _ rfl i);rw[show(zSj doit s0 txt P a).1=zQ0 P a from rfl,z3r d i.nd i.sub]at this;exact this
  ·refine zkI L _ (fun c hc=>?_) 0 (Nat.zero_le _);obtain⟨o,b,rfl⟩:=zXu h d e (g.all c hc);rw[show(zSj doit s0 txt P o).1=zQ0 P o from rfl,z3r d b.nd b.sub];exact j o b
theorem zoI (f:List UInt8→Nat){l:List (List UInt8)}{k:List UInt8}(h:k∈l):f k≤(l.map f).sum:=by
 induction l with
 |nil=>cases h
 |cons a r ih=>
   rw[List.map_cons,List.sum_cons];rcases List.mem_cons.1 h with rfl|h
   ·omega
   ·have:=ih h;omega
theorem zSi (K:List (List UInt8))(g:List UInt8→List OpV)(hK:K.Nodup)(j:∀k∈K,(g k).Nodup)(i:∀k∈K,∀o∈g k,o.key=k):(K.map g).flatten.Nodup:=by
 induction K with
 |nil=>exact List.nodup_nil
 |cons k r ih=>
   rw[List.nodup_cons]at hK;rw[List.map_cons,List.flatten_cons,List.nodup_append];refine⟨j k (by simp),ih hK.2 (fun x d=>j x (by simp[d])) (fun x d=>i x (by simp[d])),fun a ha b h e=>?_⟩;subst e;obtain⟨l,m,h⟩:=List.mem_flatten.1 h;obtain⟨x,d,rfl⟩:=List.mem_map.1 m;have n:=i k (by simp) a ha;have p:=i x (by simp[d]) a h;exact hK.1 (by rw[←n,p];exact d)
structure DoneK (doit:σ→OpV→σ×Int×Int)(s0:σ)(m:List UInt8)(ops:List OpV)(B b:Int)(K1:List (List UInt8))(g:List UInt8→List OpV):Prop where
 leg:∀k∈K1,Legal doit s0 (flt k ops) (g k)∧(∀o∈flt k ops,o.ret≠0→o∈g k)∧LinP doit s0 (flt k ops)
 cost:∀f:List UInt8→List Cf×Bool,(∀k∈K1,Cfs m (flt k ops) (roomP ops.length) (f k).1 (f k).2)→(∀k∈K1,(f k).2=true)→B-b≤((ops.length*(K1.map (fun k=>(f k).1.length)).sum:Nat):Int)
theorem z1V {K:List (List UInt8)}{Z:List UInt8→List UInt8}(A:K.Nodup)(D:∀k,Sim doit s0 txt good m (flt k ops))(U:ops.Nodup)(hn:ops.length≤128)(V:∀o∈ops,0≤o.ret)(Y:∀o∈ops,0<o.ret→o.call≤o.ret){b0:Int}(y:List (List UInt8)):
 ∀(d:List (List UInt8)) (b:Int) (g:List UInt8→List OpV) (v:Nat×List UInt8×List (List OpV)),K=d++y→DoneK doit s0 m ops (min b0 1000000) b d g→
  Judged (fun p b r=>srch.Found doit (ordO p) s0 b r) (y.map (fun k=>(Z k,flt k ops))) b (d.map g) v→FitK m ops K Z b0 (say v):=by
 have u:∀k,(flt k ops).Nodup:=fun k=>U.filter _;have B:∀k,(flt k ops).length≤ops.length:=fun k=>List.length_filter_le _ _;have F:∀k,∀o∈flt k ops,0≤o.ret:=fun k o j=>V o (zxU k ops o j).1
 induction y with
 |nil=>
   intro d b g v hK w R;rw[List.append_nil]at hK;cases R;have s:∀k∈d,∀o∈g k,o∈ops∧o.key=k:=fun k n o j=>zxU k ops o ((w.leg k n).1.sub o j);have A:d.Nodup:=(by rw[←hK];exact A);have z:(d.map g).flatten.Nodup:=zSi d g A (fun k n=>(w.leg k n).1.nd) (fun k n o j=>(s k n o j).2);have C:=zep z;have J:∀o∈mergeP (d.map g),∃k∈d,o∈g k:=fun o j=>by
    obtain⟨l,G,j⟩:=List.mem_flatten.1 (C.mem_iff.1 j);obtain⟨k,n,rfl⟩:=List.mem_map.1 G;exact⟨k,n,j⟩
   have q:∀o∈mergeP (d.map g),o∈ops:=fun o j=>by
    obtain⟨k,n,j⟩:=J o j;exact(s k n o j).1
   have I:(mergeP (d.map g)).Nodup:=C.nodup_iff.2 z;refine .ok (mergeP (d.map g)) (zBw ops (mergeP (d.map g))) ?_ (z7o q) (zbP q I) (by have:=ziO _ ops I q;omega) (zrX z (fun l G=>?_) (fun l G o j=>?_)) (fun k n=>?_)
   ·unfold say;rw[if_neg (show ¬(1:Nat)=0 by decide),if_neg (show ¬(1:Nat)=2 by decide)];rfl
   ·obtain⟨k,n,rfl⟩:=List.mem_map.1 G;exact zHo (w.leg k n).1
   ·obtain⟨k,n,rfl⟩:=List.mem_map.1 G;exact Y o (s k n o j).1
   ·rw[hK]at n;obtain⟨t,hw,_⟩:=w.leg k n;have S:(zBw ops (mergeP (d.map g))).filter (fun i=>decide (i∈plK ops k))=zBw ops (g k):=by
     have hq:(mergeP (d.map g)).filter (fun o=>decide (ops.idxOf o∈plK ops k))=g k:=by
      refine Eq.trans (List.filter_congr (fun o j=>?_)) (zCR z (List.mem_map_of_mem n));have P:=zg1 (k:=k) (zsl (q o j));show decide (ops.idxOf o∈plK ops k)=decide (o∈g k);rw[decide_eq_decide,P];constructor
      ·intro e;obtain⟨k',a,O⟩:=J o j;have:=(s k' a o O).2;rw[e]at this;rw[this];exact O
      ·intro h;exact(s k n o h).2
     unfold zBw;rw[List.filter_map];exact congrArg (List.map (fun o=>ops.idxOf o)) hq
    refine⟨zSj doit s0 txt (flt k ops) (g k),?_,(zS7 (F k)).2 hw⟩;rw[S,zay U t.sub,z0W (zdI ops k) (zqz ops k).1 _ _ (fun i hi=>?_)]
    ·exact z32 (D k) (u k) _ _ rfl t
    ·unfold zBw at hi;obtain⟨o,j,rfl⟩:=List.mem_map.1 hi;exact List.idxOf_lt_length_iff.2 (t.sub o j)
 |cons k y ih=>
   intro d b g v hK w R;cases R with
   |unknown _ _ _ _ _ r hr hv=>
     refine .unk (by unfold say;rfl) (fun f hf=>?_);have M:k∈K:=(by rw[hK];simp);obtain⟨p1,p2,p3⟩:=z9n (D k) (u k) hn (B k) hr (hf k M);have W:((K).map (fun k=>(f k).1.length)).sum=(d.map (fun k=>(f k).1.length)).sum+((f k).1.length+(y.map (fun k=>(f k).1.length)).sum):=(by rw[hK];simp);by_cases hall:∀k∈K,(f k).2=true
     ·have hc:=w.cost f (fun k' a=>hf k' (by rw[hK];simp[a])) (fun k' a=>hall k' (by rw[hK];simp[a]));have h0:=(p3 (hall k M)).1 hv;rw[W];generalize (d.map (fun k=>(f k).1.length)).sum=s1 at*;generalize (y.map (fun k=>(f k).1.length)).sum=s2 at*;generalize (f k).1.length=x at*;generalize ops.length=N at*;have e1:2*(N+1)*(s1+(x+s2))=N*s1+N*x+(N*s1+N*x+2*(N*s2)+2*(s1+(x+s2))):=by
       simp only [Nat.mul_add,Nat.add_mul,Nat.mul_assoc];omega
      rw[e1];generalize N*s1=y1 at*;generalize N*x=y2 at*;generalize N*s2=y3 at*;omega
     ·obtain⟨k',a,ab⟩:∃k'∈K,(f k').2=false:=by
       apply Decidable.byContradiction;intro ad;apply hall;intro k' a;cases e:(f k').2 with
       |true=>rfl
       |false=>exact absurd ⟨k',a,e⟩ ad
      have E:=hf k' a;have H:¬(f k').1.length≤roomP ops.length:=(by have:=E.room;rw[ab]at this;simpa using this);have af:=zOc ops.length (f k').1.length (by omega);have ae:=zoI (fun k=>(f k).1.length) a;have:=Nat.mul_le_mul_left (2*(ops.length+1)) ae;omega
   |illegal _ _ _ _ _ r hr hv=>
     obtain⟨_,h2,t,_,h5⟩:=zni doit (by have:=B k;omega) (u k) hr (by omega);have q:∀o∈r.order,o∈ops:=fun o j=>(zxU k ops o (t.sub o j)).1;refine .ill d y k r.order (zBw ops r.order) (zSj doit s0 txt (flt k ops) r.order) hK (by unfold say;rfl) (z7o q) (zbP q t.nd) (by have:=ziO _ ops t.nd q;omega) ?_ (fun L kn E n=>?_) (fun k' a L kn E n=>?_)
     ·rw[zay U t.sub,z0W (zdI ops k) (zqz ops k).1 _ _ (fun i hi=>?_)]
      ·exact z32 (D k) (u k) _ _ rfl t
      ·unfold zBw at hi;obtain⟨o,j,rfl⟩:=List.mem_map.1 hi;exact List.idxOf_lt_length_iff.2 (t.sub o j)
     ·subst n;rw[show(zBw ops r.order).length=r.order.length by simp[zBw]];exact zGU (D k) (u k) (F k) E t (h2.1 hv) (h5 hv)
     ·subst n;exact zSa (D k') (u k') (F k') E (w.leg k' a).2.2
   |next _ _ _ _ _ r v hr hv H=>
     obtain⟨h1,_,t,h4,_⟩:=zni doit (by have:=B k;omega) (u k) hr (by omega);have aa:k∉d:=fun hm=>by
      have:=A;rw[hK,List.nodup_append]at this;exact this.2.2 k hm k (by simp) rfl
     have X:∀k'∈d,(if k'=k then r.order else g k')=g k':=fun k' a=>if_neg (fun e=>aa (by rw[←e];exact a));have Q:d.map g++[r.order]=(d++[k]).map (fun k'=>if k'=k then r.order else g k'):=by
      rw[List.map_append,List.map_singleton,if_pos rfl];congr 1;exact List.map_congr_left (fun k' a=>(X k' a).symm)
     rw[Q]at H;refine ih (d++[k]) r.left (fun k'=>if k'=k then r.order else g k') v (by rw[hK];simp) ⟨fun k' a=>?_,fun f hf hkn'=>?_⟩ H
     ·rcases List.mem_append.1 a with a|a
      ·rw[X k' a];exact w.leg k' a
      ·rw[List.mem_singleton]at a;subst a;rw[if_pos rfl];exact⟨t,h4 hv,h1.1 hv⟩
     ·have hc:=w.cost f (fun k' a=>hf k' (by simp[a])) (fun k' a=>hkn' k' (by simp[a]));have hp:=((z9n (D k) (u k) hn (B k) hr (hf k (by simp))).2.2 (hkn' k (by simp))).2 (by omega);rw[List.map_append,List.sum_append,List.map_singleton,List.sum_singleton,Nat.mul_add];omega
end
end Go.Proofs.YtoeoinpaidhmcaaGreatDoor.jd
